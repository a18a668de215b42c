import PyProof.Rows.All
import Wide.All
import OpenK.AllK
import Wide.FinOn
import PyProof.Rows.SortShellAny
import HandS.ForMost
import HandS.Set
import HandS.SetFor
import HandS.More
import HandS.Strs
import HandS.IsInst
import HandS.Wide
import PySem.Challenge.RW_surepieces_k02_windows_of_texts_and_ring
set_option Elab.async false
set_option linter.all false
set_option maxRecDepth 100000
set_option maxHeartbeats 4000000
/-! Texts: sorted of a list, a dict, a set of texts, any number of them; set of a list of texts -/
namespace Tx
open PySem PySem.Spec PyProof.Rows L2

section
variable {X : Cx} {pins : List (Addr × Obj)} {σ : L2.St} {H : Hp}
/-- the end of sorted: what was collected is laid as a new list, and that is sorted -/
theorem sortTail {s : Shared} {A : Around} {E : Value → Shared → Prop} {vs : List Value} {ks : List Str} {Q : VK}
    (I : Inv X pins σ H s) (hS : StrsAre vs ks) (hz : vs.length ≤ sizeLine)
    (q : ∀ ys p, ys.Perm ks → sortedS ys = true → H p = none → Q (.ref p) (upd H p (.lst (ys.map V.str)))) :
    wpAny (model X.prog X.w) A (newList vs >>= fun l => holding [l] (call (.builtin "list.sort") [l] []) >>= fun _ => ret l)
      (fun fin s' => ∃ v, fin = .done (.ret v) ∧ EP X pins σ Q v s') E s := by
  have at0 : (s.heap.push (seqObj "list" vs.toArray 0)).get? s.heap.objs.size = some (seqObj "list" vs.toArray 0) := Heap.get?_push_size _ rfl
  refine wpAny_bind (wpAny_newList ?_ hz)
  refine wpAny_bind (wpAny_holding (wpAny_call_entry slot_list_sort ⟨_, at0, rfl⟩ entry_list_sort (list_sort_treeKAny strKind_oneLt (s := { s with heap := s.heap.push (seqObj "list" vs.toArray 0) }) at0 hS.keysOf
    (fun _ _ _ e => keyKind_strs (by rw [← e]; exact hS)) hz fun st' hp hs => ⟨_, rfl, ?_⟩) (args_list_sort _)))
  obtain ⟨ys, g1, g2, g3⟩ := sorted_out_str hS hp hs
  obtain ⟨ep, ha⟩ := sortedHeap_at (vs := vs) (out := (arrOf st').map (·.2)) at0
  have hl : (ys.map V.str).length ≤ sizeLine := by
    rw [List.length_map, g2.length_eq, ← StrsAre.length hS]; exact hz
  refine wpAny_pure ⟨_, rfl, .ref s.heap.objs.size, upd H s.heap.objs.size (.lst (ys.map V.str)), ?_, rfl, q ys _ g2 g3 (I.hok.fresh (Nat.le_refl _))⟩
  refine I.laid (t' := s.toks) (fun b u e => ?_) (Nat.le_refl _) (show ObjOk X.prog X.w _ _ _ (.lst (ys.map V.str)) from ⟨hl, ((arrOf st').map (·.2)).toList, ep, vals_of_strs g1, by rw [Array.toArray_toList]; exact ha⟩)
  have lt := Heap.lt_size e
  rw [sortedHeap_old (Nat.ne_of_lt lt) (by rw [size_push']; exact Nat.lt_succ_of_lt lt)]
  exact Heap.get?_push_of_some _ e

/-- sorted(xs), a list of texts -/
def rSortL (K : PySem.W.Frag) : List V → Hp → VK → Prop := fun vs H Q => ∃ (a : Addr) (zs : List Str), vs = [V.ref a] ∧ SqL K H a (zs.map V.str) ∧
  ∀ ys p, ys.Perm zs → sortedS ys = true → H p = none → Q (.ref p) (upd H p (.lst (ys.map V.str)))
theorem cr_sortL : CallR X (.builtin "sorted") (rSortL X.K) := by
  intro pins s σ H vs us Q I r h
  obtain ⟨a, zs, rfl, hs, q⟩ := h
  obtain ⟨its, rv, hl, hz⟩ := I.list hs
  rw [Vals.ref1 r]
  have e0 := rv.length
  rw [List.length_map] at e0 hz
  refine sorted_strsAny hl.isList rv.strs (by rw [← e0]; exact hz) fun out ys h1 h2 h3 => ?_
  obtain ⟨ep, he⟩ := sortedAll_at s.heap its out
  have hn : (ys.map V.str).length ≤ sizeLine := by rw [List.length_map, h2.length_eq]; exact hz
  exact ⟨.ref _, upd H (s.heap.objs.size + 1) (.lst (ys.map V.str)), I.laid (t' := s.toks) (fun _ _ => sortedAll_old) (Nat.le_succ _) ⟨hn, out.toList, ep, vals_of_strs h1, he⟩, rfl, q ys _ h2 h3 (I.hok.fresh (Nat.le_succ _))⟩

/-- sorted(d), a dict with text keys -/
def rSortD : List V → Hp → VK → Prop := fun vs H Q => ∃ (a : Addr) (kvs : List (Key × V)) (ks : List Str), vs = [V.ref a] ∧ Rd H a (.dK kvs) ∧ kvs.map (·.1) = ks.map Sum.inr ∧
  ∀ ys p, ys.Perm ks → sortedS ys = true → H p = none → Q (.ref p) (upd H p (.lst (ys.map V.str)))
theorem cr_sortD (hc : X.calm = true) : CallR X (.builtin "sorted") rSortD := by
  intro pins s σ H vs us Q I r h
  obtain ⟨a, kvs, ks, rfl, hd, hks, q⟩ := h
  rw [Vals.ref1 r]
  obtain ⟨z, lo, ws, rel, dd⟩ := dk_rd I.hok hd
  obtain ⟨ep, hat⟩ := dd.dictAt
  have hw : ws.map (·.1) = ks.map Sum.inr := rel.keys.symm.trans hks
  have hl : ws.length = ks.length := by
    have e := congrArg List.length hw
    rwa [List.length_map, List.length_map] at e
  have h16 : ws.length ≤ sizeLine := by rw [← rel.length]; exact z
  refine Calls.call_function_entry kind_sorted plain_sorted entry_sorted (args_sorted1 _) ?_
  unfold Builtin.«sorted»
  refine wpAny_bind (m := checkCount "sorted" 1 1 _) (wpAny_pure ?_)
  refine wpAny_bind (PySem.W.kdu_collect (A := X.A.in1) (PySem.W.kdl_dict (knd := mixKind X.prog X.w) (kvs := ws) (ep := ep) lo) (I.ok.hd hc) hat h16 fun h' tk acc hk hacc => ?_)
  have hal : acc.toList.length = ks.length := by rw [Array.length_toList, hacc.1, hl]
  have hS : StrsAre acc.toList ks := L2.strs_at hal fun j v e => by
    obtain ⟨k, x, e1, e2⟩ := hacc.2 j v (by rwa [← Array.getElem?_toList])
    have e3 : (ks.map Sum.inr)[j]? = some k := by rw [← hw, List.getElem?_map, e1] <;> rfl
    rw [List.getElem?_map] at e3
    cases e4 : ks[j]? with
    | none => rw [e4] at e3; cases e3
    | some y =>
      rw [e4] at e3
      cases (Option.some.inj e3 : Sum.inr y = k)
      obtain ⟨t, ev⟩ := Value.isStrOf_shape (x := y) (v := v) e2
      exact ⟨y, t, rfl, ev⟩
  exact sortTail (s := { s with heap := h', toks := tk }) (I.kept hk) hS (by rw [hal, ← hl]; exact h16) q
end

/-! ### a set of texts -/
/-- the texts ks stand in the set at a, each once; it can be walked -/
def SetS (w : World) (h : Heap) (a : Addr) (ks : List Str) : Prop :=
  ∃ o es ep t, h.get? a = some o ∧ o.ExactSet ∧ o.data = .set es ep t ∧ (∀ e ∈ es.toList, ∃ x tk, e = (hashStr w x, Value.str x tk)) ∧
    (es.toList.map fun e => strOf e.2).Perm ks ∧ ks.Nodup ∧ es.size < scanBound ∧ t.fits es.size = true ∧ Ris t.place.toList ∧ (w.params.followText "set-order" = true ∨ t.led = true)
section
variable {P : Program} {w : World} {h h' : Heap} {a : Addr} {ks : List Str}
theorem SetS.keep (R : SetS w h a ks) (k : ∀ o, h.get? a = some o → h'.get? a = some o) : SetS w h' a ks := by
  obtain ⟨o, es, ep, t, ho, r⟩ := R
  exact ⟨o, es, ep, t, k o ho, r⟩
theorem elems_of {l : List (Int × Value)} (g : ∀ e ∈ l, ∃ x tk, e = (hashStr w x, Value.str x tk)) : ElemsOf (PySem.strKind P w) l := fun e he => by
  obtain ⟨x, tk, rfl⟩ := g e he
  exact ⟨⟨x, strKind_is P w x tk, rfl⟩, rfl⟩
theorem key_there {l : List (Int × Value)} (g : ∀ e ∈ l, ∃ x tk, e = (hashStr w x, Value.str x tk)) (x : Str) : (∃ e ∈ l, (PySem.strKind P w).is x e.2 = true) ↔ x ∈ l.map fun e => strOf e.2 := by
  rw [List.mem_map]
  refine ⟨fun ⟨e, he, q⟩ => ⟨e, he, ?_⟩, fun ⟨e, he, q⟩ => ⟨e, he, ?_⟩⟩ <;> obtain ⟨y, tk, rfl⟩ := g e he
  · exact (of_decide_eq_true (p := y = x) (by simpa [PySem.strKind, Value.isStrOf] using q))
  · have q' : y = x := q
    subst q'
    exact strKind_is P w y tk

/-- what is stored behind an adding, at one go or with the table laid anew -/
theorem setS_store {P : Program} {A : Around} {E : Value → Shared → Prop} {s : Shared} {o : Obj} {es es1 : Array (Int × Value)} {ep : Nat} {t t2 : SetTable} {dm : Bool} {R : Option Bool → Shared → Prop} {g : Bool → Sem Unit}
    (hg : ∀ (b : Bool) (s1 : Shared) (Q' : Unit → Shared → Prop), Q' () s1 → wpAny (model P w) A (g b) Q' E s1)
    (ho : s.heap.get? a = some o) (hex : o.ExactSet) (hd : o.data = .set es ep t) (g1 : ∀ e ∈ es1.toList, ∃ x tk, e = (hashStr w x, Value.str x tk)) (pk : (es1.toList.map fun e => strOf e.2).Perm ks) (nd : ks.Nodup)
    (hb : es1.size < scanBound) (hf : t2.fits es1.size = true) (hr : Ris t2.place.toList) (hl : w.params.followText "set-order" = true ∨ t2.led = true)
    (fin : ∀ h', Heap.SameBut a s.heap h' → SetS w h' a ks → R (some true) { s with heap := h' }) :
    wpAny (model P w) A (do
        storeSet a es1 t2
        if (!dm && t2.tooFull) = true then do
          let z := relayAll t2 es1 (SetTable.grown es1.size)
          g z.2.2; storeSet a z.1 z.2.1; pure (some true)
        else pure (some true)) R E s := by
  have o1 := store_at (es' := es1) (t' := t2) ho hd
  have k1 := Heap.SameBut.update s.heap a (Obj.putSet es1 t2)
  refine wpAny_bind (wpAny_storeSet_of ho hd ?_ (fits_of_scanBound hb))
  by_cases c : (!dm && t2.tooFull) = true
  · rw [if_pos c]
    have e1 := relayAll_perm t2 es1 (SetTable.grown es1.size)
    have e2 := relayAll_fits t2 es1 (SetTable.grown es1.size)
    have e3 := relayAll_ris t2 es1 (SetTable.grown es1.size)
    have e4 := relayAll_led t2 es1 (SetTable.grown es1.size)
    generalize relayAll t2 es1 (SetTable.grown es1.size) = Z at e1 e2 e3 e4 ⊢
    have e5 : Z.1.size = es1.size := by rw [← Array.length_toList, e1.length_eq, Array.length_toList]
    have b2 : Z.1.size < scanBound := by rw [e5]; exact hb
    refine wpAny_bind (hg _ _ _ (wpAny_bind (wpAny_storeSet_of o1 rfl (wpAny_pure (fin _ (k1.trans (Heap.SameBut.update _ a _)) ?_)) (fits_of_scanBound b2))))
    exact ⟨_, Z.1, _, Z.2.1, store_at (es' := Z.1) (t' := Z.2.1) o1 rfl, hex, rfl, fun e he => g1 e (e1.mem_iff.mp he), (e1.map _).trans pk, nd, b2, e2, e3, hl.imp id (by rw [e4]; exact id)⟩
  · rw [if_neg c]
    exact wpAny_pure (fin _ k1 ⟨_, es1, _, t2, o1, hex, rfl, g1, pk, nd, hb, hf, hr, hl⟩)

theorem setS_add {P : Program} {A : Around} {E : Value → Shared → Prop} {s : Shared} {x : Str} {tk : Tok} {Q : Bool → Shared → Prop} (R : SetS w s.heap a ks) (room : ks.length + 1 < scanBound)
    (hQ : ∀ h' b, Heap.SameBut a s.heap h' → SetS w h' a (if x ∈ ks then ks else x :: ks) → Q b { s with heap := h' }) :
    wpAny (model P w) A (setAddHashed a (.str x tk) ((PySem.strKind P w).hash x)) Q E s := by
  obtain ⟨o, es, ep, t, ho, hex, hd, g, pk, nd, hb, hf, hr, hl⟩ := R
  have hkey : (PySem.strKind P w).is x (.str x tk) = true := strKind_is P w x tk
  have hsc : (Value.str x tk).scannable = true := rfl
  have hel : ElemsOf (PySem.strKind P w) es.toList := elems_of g
  have hn : es.size = ks.length := by
    have e := pk.length_eq
    rwa [List.length_map, Array.length_toList] at e
  unfold setAddHashed setAddHashedIn
  refine wpAny_holding (wpAny_bind (wpAny_setState_of ho hd hf ?_))
  dsimp only
  rw [byScan_of hsc hb hel, if_pos rfl]
  unfold setAddByScan
  refine wpAny_bind (wpAny_bind (wpAny_rule (wpAny_bind (wpAny_setScan_of hkey ho hd hf hel ?_))))
  cases hfi : List.findIdx? (fun e => (PySem.strKind P w).is x e.2) es.toList with
  | some j =>
    dsimp only
    obtain ⟨hj, pj, _⟩ := List.findIdx?_eq_some_iff_getElem.mp hfi
    have hx : x ∈ ks := pk.mem_iff.mp ((key_there (P := P) g x).mp ⟨_, List.getElem_mem hj, pj⟩)
    refine wpAny_pure (wpAny_pure (hQ s.heap false (Heap.SameBut.refl a s.heap) ?_))
    rw [if_pos hx]
    exact ⟨o, es, ep, t, ho, hex, hd, g, pk, nd, hb, hf, hr, hl⟩
  | none =>
    dsimp only
    have hx : x ∉ ks := fun z => by
      obtain ⟨e, he, q⟩ := (key_there (P := P) g x).mpr (pk.mem_iff.mpr z)
      have c := List.findIdx?_eq_none_iff.mp hfi e he
      rw [q] at c
      cases c
    have quiet : ∀ (b : Bool) {s1 : Shared} {Q' : Unit → Shared → Prop}, Q' () s1 → wpAny (model P w) A (match b with | true => rule "set.scan.the-table-gave-way" | false => pure ()) Q' E s1 := by
      intro b s1 Q' q
      cases b
      · exact wpAny_pure q
      · exact wpAny_rule q
    have p1 := layNew_perm t es ((PySem.strKind P w).hash x) (.str x tk)
    have f1 := layNew_fits t es ((PySem.strKind P w).hash x) (.str x tk)
    have r1 := layNew_ris t es ((PySem.strKind P w).hash x) (.str x tk) hr
    have l1 := layNew_led t es ((PySem.strKind P w).hash x) (.str x tk)
    generalize layNew t es ((PySem.strKind P w).hash x) (.str x tk) = Z at p1 f1 r1 l1 ⊢
    obtain ⟨es1, t1, dm, gave⟩ := Z
    dsimp only at p1 f1 r1 l1 ⊢
    rw [Array.toList_push] at p1
    have p2 : es1.toList.Perm ((hashStr w x, Value.str x tk) :: es.toList) := p1.trans (List.perm_append_singleton _ _)
    have p3 : (es1.toList.map fun e => strOf e.2).Perm (x :: ks) := by
      have e := p2.map fun e : Int × Value => strOf e.2
      exact e.trans (pk.cons x)
    have g1 : ∀ e ∈ es1.toList, ∃ x tk, e = (hashStr w x, Value.str x tk) := fun e he =>
      (List.mem_cons.mp (p2.mem_iff.mp he)).elim (fun z => ⟨x, tk, z⟩) (g e)
    have z1 : es1.size = ks.length + 1 := by rw [← Array.length_toList, p2.length_eq, List.length_cons, Array.length_toList, hn]
    have led : w.params.followText "set-order" = true ∨ t1.led = true := hl.imp id (by rw [l1]; exact id)
    have fin : ∀ h', Heap.SameBut a s.heap h' → SetS w h' a (x :: ks) → Q true { s with heap := h' } := fun h' sb r => hQ h' true sb (by rw [if_neg hx]; exact r)
    have nd1 : (x :: ks).Nodup := List.nodup_cons.mpr ⟨hx, nd⟩
    refine wpAny_bind (quiet _ ?_)
    have hs1 : es1.size < scanBound := by rw [z1]; exact room
    split
    · refine wpAny_bind ?_
      rw [hashByValue_scannable 8 hsc]
      refine wpAny_pure (setS_store (g := fun b => match b with | true => rule "set.scan.the-table-gave-way" | false => pure ()) (fun b s1 Q' q => quiet b q) ho hex hd g1 p3 nd1 hs1 ?_ ?_ ?_ fun h' sb r => wpAny_pure (fin h' sb r))
      all_goals (first | (split <;> first | exact f1 | exact SetTable.fits_plain_off f1 | exact r1 | exact led) | exact f1 | exact r1 | exact led)
    · refine wpAny_bind (wpAny_pure ?_)
      exact setS_store (g := fun b => match b with | true => rule "set.scan.the-table-gave-way" | false => pure ()) (fun b s1 Q' q => quiet b q) ho hex hd g1 p3 nd1 hs1 f1 r1 led fun h' sb r => wpAny_pure (fin h' sb r)
end
end Tx

set_option Elab.async false
set_option linter.all false
set_option maxRecDepth 100000
set_option maxHeartbeats 4000000
namespace Tx
open PySem PySem.Spec PyProof.Rows L2

/-- ks are the texts of the first i items, each once -/
def FirstOf (xs : List Str) (i : Nat) (ks : List Str) : Prop := ks.length ≤ i ∧ ks.Nodup ∧ ∀ x, x ∈ ks ↔ x ∈ xs.take i
theorem FirstOf.next {xs ks : List Str} {i : Nat} {x : Str} (f : FirstOf xs i ks) (h : xs[i]? = some x) : FirstOf xs (i + 1) (if x ∈ ks then ks else x :: ks) := by
  obtain ⟨f1, f2, f3⟩ := f
  have e : xs.take (i + 1) = xs.take i ++ [x] := by rw [List.take_add_one, h] <;> rfl
  by_cases c : x ∈ ks
  · rw [if_pos c]
    refine ⟨by omega, f2, fun y => ?_⟩
    rw [e, List.mem_append, ← f3 y, List.mem_singleton]
    exact ⟨.inl, fun z => z.elim id fun z => z ▸ c⟩
  · rw [if_neg c]
    refine ⟨by rw [List.length_cons]; omega, List.nodup_cons.mpr ⟨c, f2⟩, fun y => ?_⟩
    rw [e, List.mem_append, ← f3 y, List.mem_singleton, List.mem_cons]
    exact Or.comm

section
variable {P : Program} {w : World} {A : Around} {E : Value → Shared → Prop}
theorem setS_update {I S : Addr} {fp wr : List Addr} {G : Array GenState → Array GenState → Prop} {n : Nat} {Pv : Nat → Value → Prop} {St : Nat → Shared → Prop} {R : Result → Shared → Prop} {xs : List Str}
    (W : WalksS P w A.in1 I fp wr G n Pv St) (hS : S ∉ fp) (hn : n = xs.length) (hb : n + 1 < scanBound) (hv : ∀ i v, Pv i v → ∃ x t, xs[i]? = some x ∧ v = .str x t) :
    ∀ (m i : Nat) (s : Shared) (ks : List Str), n - i = m → i ≤ n → St i s → FirstOf xs i ks → SetS w s.heap S ks →
      (∀ s' ks', Moved (S :: wr) G s s' → FirstOf xs n ks' → SetS w s'.heap S ks' → R (.ok (.ret .none)) s') →
      codeAny (model P w) A (.builtin "set.update.loop" ⟨[.ref S, .ref I], []⟩) R s := by
  have hw : S ∉ wr := fun z => hS (W.sub _ z)
  have up : ∀ b ∈ wr, b ∈ S :: wr := fun b z => List.mem_cons_of_mem _ z
  intro m
  induction m with
  | zero =>
    intro i s ks e1 e2 st f hk q
    obtain rfl : i = n := by omega
    refine codeAny_builtin F.entry_set_update_loop ?_
    rw [Around.under_plainId F.plain_set_update_loop _]
    refine wpAny_bind (m := pyNext (.ref I)) (W.done s _ _ st fun s' mv => ?_)
    exact wpAny_pure (q s' ks (mv.mono up) f (hk.keep fun o z => mv.heap S o hw z))
  | succ m ih =>
    intro i s ks e1 e2 st f hk q
    have lt : i < n := by omega
    refine codeAny_builtin F.entry_set_update_loop ?_
    rw [Around.under_plainId F.plain_set_update_loop _]
    refine wpAny_bind (m := pyNext (.ref I)) (W.item i s _ _ lt st fun v s' pv st' mv => ?_)
    obtain ⟨x, t, hx, rfl⟩ := hv i v pv
    have hk' : SetS w s'.heap S ks := hk.keep fun o z => mv.heap S o hw z
    refine wpAny_bind (m := holding [Value.str x t] (setAdd S (.str x t))) (wpAny_holding ?_)
    unfold setAdd
    refine wpAny_holding (wpAny_bind ((PySem.strKind P w).pyHash (k := x) (strKind_is _ _ _ _) ?_))
    refine setS_add (s := { s' with toks := s'.toks + 1 }) hk' (by have := f.1; omega) fun h' b sb hk2 => ?_
    refine wpAny_pure ⟨plainId_quiet F.plain_set_update_loop _, ih (i + 1) _ _ (by omega) lt (W.frame _ s' _ _ st' (Nat.le_succ _) fun c hc o z => ?_) (f.next hx) hk2 fun s2 ks2 mv2 f2 hk3 => ?_⟩
    · rw [sb.2 c fun z' : c = S => hS (z' ▸ hc)]; exact z
    · refine q s2 ks2 (Moved.trans W.gtrans ((mv.mono up).then_heap (Nat.le_succ _) fun c o hc z => ?_) mv2) f2 hk3
      rw [sb.2 c fun z' : c = S => hc (by rw [z']; exact List.mem_cons_self)]; exact z

def freshSet (w : World) : Obj := { cls := .type "set", dict := none, data := .set #[] 0 (.fresh 0 0 (!w.params.followText "set-order")) }
theorem fresh_ok {h : Heap} {a : Addr} (e : h.get? a = some (freshSet w)) : SetS w h a [] :=
  ⟨_, #[], 0, _, e, ⟨rfl, rfl, rfl⟩, rfl, fun e z => by simp at z, List.Perm.refl _, List.nodup_nil, by decide, rfl, List.Pairwise.nil, by
    show _ ∨ (!w.params.followText "set-order") = true
    cases w.params.followText "set-order"
    · exact .inr rfl
    · exact .inl rfl⟩

set_option maxHeartbeats 6400000 in
theorem call_setS {s : Shared} {l : Addr} {items : Array Value} {xs : List Str} {Q : Value → Shared → Prop} (hh : A.handled = none) (hl : s.heap.IsList l items) (hi : StrsAre items.toList xs) (hb : xs.length + 1 < scanBound)
    (h : ∀ h' tk ks, FirstOf xs xs.length ks → SetS w h' s.heap.objs.size ks → (∀ b o, s.heap.get? b = some o → h'.get? b = some o) → Q (.ref s.heap.objs.size) { s with heap := h', toks := tk }) :
    wpAny (model P w) A (call (.type "set") [.ref l]) Q E s := by
  have hsz : xs.length = items.size := by rw [← StrsAre.len_eq hi, Array.length_toList]
  obtain ⟨c, tl, hmro⟩ := F.called_set.mro
  have hmade := F.called_set.made
  have hsub := F.called_set.sub
  refine wpAny_call (codeAny_of_tree (show wpAny _ _ (callAny (.type "set") _) _ _ _ from ?_))
  refine wpAny_pure ⟨Code.quiet_builtin _ (by decide +kernel), codeAny_builtin F.entry_type_call ?_⟩
  rw [Around.under_plain (weight_type_call_type "set" [.ref l] []) rfl]
  have h1 := F.called_set.notType
  have h2 := F.called_set.canCreate
  have hct := F.typeCall_set_1 (.ref l)
  repeat (any_goals (first | assumption | wp_step))
  refine codeAny_mono (code_set_led1 (.ref l) (E := E) (Q₁ := fun obj s1 => obj = .ref s.heap.objs.size ∧ s1 = { s with heap := s.heap.push (freshSet w) }) ⟨rfl, rfl⟩) fun r s1 hr => ?_
  rcases r with e | fl
  · exact hr
  · rcases fl with obj | _ | _ | _
    all_goals first | exact hr.elim | skip
    obtain ⟨rfl, rfl⟩ := hr
    have at0 : (s.heap.push (freshSet w)).get? s.heap.objs.size = some (freshSet w) := Heap.get?_push_size _ rfl
    have hT : Shared.TypeIs { s with heap := s.heap.push (freshSet w) } (.ref s.heap.objs.size) "set" := ⟨_, at0, rfl⟩
    have hli := F.called_set.init.lookup
    have hbi := F.called_set.init.bind (.ref s.heap.objs.size)
    repeat (any_goals (first | assumption | wp_step))
    refine codeAny_mono (codeAny_call_builtin (R := wants (fun r s2 => r = .none ∧ ∃ h' tk ks, s2 = { s with heap := h', toks := tk } ∧ FirstOf xs xs.length ks ∧ SetS w h' s.heap.objs.size ks ∧
      ∀ b o, s.heap.get? b = some o → h'.get? b = some o) E) F.called_set.init.plain F.entry_set_init (check_set_init_1 hT ?_)) fun r2 s2 hr2 => ?_
    · obtain ⟨⟨oc, od, oa, os⟩, hol, hcl, nl, hdl⟩ := hl
      simp only at hcl hdl
      subst hcl; subst hdl
      have lt := Heap.lt_size hol
      have hol' : (s.heap.push (freshSet w)).get? l = some { cls := .type "list", dict := od, data := .seq items nl, slots := os } := Heap.get?_push_of_some _ hol
      have hl1 : (s.heap.push (freshSet w)).IsList l items := ⟨_, hol', rfl, nl, rfl⟩
      have f1 := F.sub_list_set
      have f2 := F.sub_list_frozenset
      have f3 : (Value.type "list" == Value.type "dict") = false := by decide
      unfold Builtin.«set.__init__» noKeywords Builtin.Frozenset.updateFrom
      generalize hPI : pyIter = PI
      wp_walk
      subst hPI
      refine wpAny_pyIter_list hl1 (wpAny_bind (wpAny_runValue ?_))
      have hh3 : A.in1.in1.in1.handled = none := by simp [hh]
      have sz : (s.heap.push (freshSet w)).objs.size = s.heap.objs.size + 1 := Heap.size_push ..
      have neI : l ≠ (s.heap.push (freshSet w)).objs.size := by rw [sz]; exact Nat.ne_of_lt (Nat.lt_succ_of_lt lt)
      have nS : s.heap.objs.size ∉ [(s.heap.push (freshSet w)).objs.size, l] := by
        rw [sz]
        simp only [List.mem_cons, List.mem_singleton, List.not_mem_nil, or_false, not_or]
        exact ⟨Nat.ne_of_lt (Nat.lt_succ_self _), Nat.ne_of_gt lt⟩
      have hv : ∀ (i : Nat) (v : Value), items[i]? = some v → ∃ x t, xs[i]? = some x ∧ v = .str x t := fun i v z => by
        have lti : i < xs.length := by rw [hsz]; exact (Array.getElem?_eq_some_iff.mp z).1
        obtain ⟨t, e⟩ := SS.strs_at hi i v (by rw [Array.getElem?_toList]; exact z)
        refine ⟨xs[i], t, List.getElem?_eq_getElem lti, ?_⟩
        rw [e, List.getD_eq_getElem?_getD, List.getElem?_eq_getElem lti] <;> rfl
      refine setS_update ((Walks.list hh3 _ l neI items).toS) nS hsz.symm (by rw [← hsz]; exact hb) hv items.size 0 _ [] (Nat.sub_zero _) (Nat.zero_le _)
        ⟨⟨_, Heap.get?_push_size _ rfl, rfl, rfl⟩, hl1.push _⟩ ⟨Nat.le_refl _, List.nodup_nil, fun x => by rw [List.take_zero]⟩ (fresh_ok (Heap.get?_push_of_some _ at0)) fun s3 ks mv fo hk => ?_
      obtain ⟨h3, g3, d3, t3, o3⟩ := s3
      obtain rfl : g3 = s.gens := mv.gens
      obtain rfl : d3 = s.drawn := mv.drawn
      obtain rfl : o3 = s.os := mv.os
      rw [← hsz] at fo
      refine wpAny_pure (wpAny_pure (a := Fin.done (.ret Value.none)) ⟨rfl, h3, t3, ks, rfl, fo, hk, fun b o e => ?_⟩)
      have lb := Heap.lt_size e
      refine mv.heap b o ?_ (Heap.get?_push_of_some _ (Heap.get?_push_of_some _ e))
      rw [sz]
      simp only [List.mem_cons, List.mem_singleton, List.not_mem_nil, or_false, not_or]
      exact ⟨Nat.ne_of_lt lb, Nat.ne_of_lt (Nat.lt_succ_of_lt lb)⟩
    · rcases r2 with e | fl
      · exact hr2
      · rcases fl with r | _ | _ | _
        all_goals first | exact hr2.elim | skip
        obtain ⟨rfl, h', tk, ks, rfl, fo, hk, kp⟩ := hr2
        repeat (any_goals (first | assumption | wp_step))
        exact h _ _ _ fo hk kp
end
end Tx

set_option Elab.async false
set_option linter.all false
set_option maxRecDepth 100000
set_option maxHeartbeats 4000000
namespace Tx
open PySem PySem.Spec PyProof.Rows L2
/-- the set of the texts ks at a -/
def SetSO (w : World) (a : Addr) (ks : List Str) : HO := .ext fun h => SetS w h a ks
section
variable {X : Cx} {pins : List (Addr × Obj)} {σ : L2.St} {H : Hp}
theorem setSO_new {w : World} {P : Program} {h : Heap} {a : Addr} {ks : List Str} (R : SetS w h a ks) : ObjOk P w H h a (SetSO w a ks) := by
  have ⟨o, _, _, _, e, _⟩ := R
  exact ⟨R, ⟨o, e⟩, fun _ _ r k => r.keep k⟩
theorem setSO_get {s : Shared} {a : Addr} {ks : List Str} (I : Inv X pins σ H s) (e : H a = some (SetSO X.w a ks)) : SetS X.w s.heap a ks := (I.hok a _ e).1
/-- set(xs), a list of texts -/
def rSetS (K : PySem.W.Frag) (w : World) : List V → Hp → VK → Prop := fun vs H Q => ∃ (l : Addr) (xs : List Str), vs = [V.ref l] ∧ SqL K H l (xs.map V.str) ∧ xs.length < 4000 ∧
  ∀ p ks, FirstOf xs xs.length ks → H p = none → Q (.ref p) (upd H p (SetSO w p ks))
theorem cr_setS (hc : X.calm = true) : CallR X (.type "set") (rSetS X.K X.w) := by
  intro pins s σ H vs us Q I r h
  obtain ⟨l, xs, rfl, hs, hb, q⟩ := h
  rw [Vals.ref1 r]
  obtain ⟨its, rv, pl, hz⟩ := I.list hs
  refine call_setS (I.ok.hd hc) pl.isList (by simpa using rv.strs) (by unfold scanBound; omega) fun h' tk ks fo hk kp => ?_
  exact ⟨.ref s.heap.objs.size, upd H s.heap.objs.size (SetSO X.w s.heap.objs.size ks), I.laid (t' := tk) kp (Nat.le_refl _) (setSO_new hk), rfl, q _ ks fo (I.hok.fresh (Nat.le_refl _))⟩
/-- sorted(found), a set of texts -/
def rSortSet (w : World) : List V → Hp → VK → Prop := fun vs H Q => ∃ (a : Addr) (ks : List Str), vs = [V.ref a] ∧ H a = some (SetSO w a ks) ∧
  ∀ ys p, ys.Perm ks → sortedS ys = true → H p = none → Q (.ref p) (upd H p (.lst (ys.map V.str)))
theorem cr_sortSet (hc : X.calm = true) : CallR X (.builtin "sorted") (rSortSet X.w) := by
  intro pins s σ H vs us Q I r h
  obtain ⟨a, ks, rfl, ha, q⟩ := h
  rw [Vals.ref1 r]
  obtain ⟨o, es, ep, t, ho, hex, hd, g, pk, nd, hb, hf, hr, hl⟩ := setSO_get I ha
  refine Calls.call_function_entry kind_sorted plain_sorted entry_sorted (args_sorted1 _) ?_
  unfold Builtin.«sorted»
  refine wpAny_bind (m := checkCount "sorted" 1 1 _) (wpAny_pure ?_)
  refine wpAny_bind (collect_set (A := X.A.in1) (I.ok.hd hc) ⟨o, ho, hex.1, hd⟩ hf hb hr hl fun s' out kp hz hg hos pm => ?_)
  have hS : StrsAre out (out.map strOf) := strsAre_map out fun v hv => by
    obtain ⟨e, he, rfl⟩ := List.mem_map.mp (pm.mem_iff.mp hv)
    obtain ⟨x, tk, rfl⟩ := g e he
    exact ⟨x, tk, rfl⟩
  have p2 : (out.map strOf).Perm ks := by
    have e := pm.map strOf
    rw [List.map_map] at e
    exact e.trans pk
  have J : Inv X pins σ H { s with heap := s'.heap, gens := s'.gens, drawn := s'.drawn, toks := s'.toks } :=
    I.call (ch := []) (Un.kept kp) (I.hok.kept kp) (by rw [hg]; exact I.bare) (fun _ z => nomatch z)
  have e : s' = { s with heap := s'.heap, gens := s'.gens, drawn := s'.drawn, toks := s'.toks } := by
    obtain ⟨⟩ := s'
    obtain ⟨⟩ := s
    cases hos
    rfl
  rw [e]
  refine sortTail J hS ?_ fun ys p y1 y2 y3 => q ys p (y1.trans p2) y2 y3
  rw [pm.length_eq, List.length_map, Array.length_toList]
  exact fits_of_scanBound hb
end
end Tx

set_option Elab.async false
set_option linter.all false
set_option maxRecDepth 100000
namespace Tx
open PySem PySem.Spec PyProof.Rows L2
/-- the def st stands at the module's name x -/
def Top (K : PySem.W.Frag) (mg : Str → Option Value) (x : Str) (st : Stmt) : Prop := ∃ f fd, mg x = some (.ref f) ∧ Fun K x x st f fd
theorem top_mk {K : PySem.W.Frag} {h : Heap} {mg : Str → Option Value} {x : Str} {st : Stmt} {f : Addr} {oc kV doc pm cdv ct : Value} {od an : Option Addr} {osl : Array (Option Value)} (X : K.In h) (G : h.Ns mainGlobals mg)
    (a : PySem.W.nsIn K mainGlobals x = some (some (.ref f))) (l : K.lookup f = some ⟨oc, od, .func (PySem.W.fnOf x x (defArgs st) (defBody st) (defScope st) .none kV doc pm an cdv ct), osl⟩)
    (c : PySem.W.codeIn K cdv x = true) (k : PySem.W.keepIn K (.ref f) = true) : Top K mg x st := ⟨f, _, PySem.W.mg_of X G a, fun_mk l c k⟩
/-- and keeps its promise -/
structure Dn (P : Program) (w : World) (K : PySem.W.Frag) (mg : Str → Option Value) (base : Heap) (k : Nat) (x : Str) (st : Stmt) (ps : List Str) (sp : Sp) : Prop where
  ex : ∃ f fd, mg x = some (.ref f) ∧ Fun K x x st f fd ∧ FnOk P w K mg base CX0 k f fd ps sp
  plain : ∀ (kV doc pm : Value) (an : Option Addr) (cdv ct : Value) (us : List Value), us.length = ps.length → bindArgs (PySem.W.fnOf x x (defArgs st) (defBody st) (defScope st) .none kV doc pm an cdv ct) ⟨us, []⟩ = pure (ps.zip us)
section
variable {X : Cx} {k : Nat} {x : Str} {st : Stmt} {ps : List Str} {sp : Sp} {p pos : Pos} {e : Expr} {es : List Expr} {t : TA}
theorem pe_fn (D : Dn X.prog X.w X.K X.mg X.base k x st ps sp) (hr : Room k X.A) (hg : Gl X x) (ha : PA X (e :: es) t) (hdb : (x == ("__debug__" : Str)) = false := by decide)
    (he : starEach (e :: es) X.env = (false, eval e X.env) :: starEach es X.env := by rfl) (hpl : (backTo pos (starEach es X.env)).any (·.1) = false := by rfl) : PE X (.Call (.Name x p) (e :: es) [] pos) (tCall sp [] E0 t) := by
  obtain ⟨f, fd, hm, F, G⟩ := D.ex
  exact pe_call G hr hg hm F.kp (F.binds D.plain) .nil pass0 ha hdb he hpl
variable {kws : List Keyword} {ks : List Str} {g : List Value → List Value → List Value} {gV : List V → List V → List V} {tk : TA}
/-- f(k = v, ..), keywords alone -/
theorem pe_fnK (D : Dn X.prog X.w X.K X.mg X.base k x st ps sp) (hr : Room k X.A) (hg : Gl X x) (hkw : PK X kws tk)
    (hb : ∀ fd, (∃ kV doc pm an cdv ct, fd = PySem.W.fnOf x x (defArgs st) (defBody st) (defScope st) .none kV doc pm an cdv ct) → KBinds X.K fd ps ks g gV)
    (hall : (backToKw pos (keywordEach kws X.env)).all (·.1.isSome) = true := by rfl) (hks : (backToKw pos (keywordEach kws X.env)).filterMap (·.1) = ks := by rfl) (hdb : (x == ("__debug__" : Str)) = false := by decide)
    (hpl : ((backTo pos (starEach [] X.env)).any (·.1) || (backToKw pos (keywordEach kws X.env)).any (·.1.isNone)) = false := by rfl) :
    PE X (.Call (.Name x p) [] kws pos) (tCallK sp gV E0 tNil tk) := by
  obtain ⟨f, fd, hm, F, G⟩ := D.ex
  obtain ⟨oc, od, kV, doc, pm, an, cdv, ct, osl, rfl, lk, hcd⟩ := id F.ex
  refine ⟨fun pins s σ H Q I h => wpAny_Call_Name_kw (ld_glob I hg hm ?_ hdb)⟩
  refine PySem.W.callWith_KW0 (h₀ := X.base) I.ok.mod.kin F.kp hall (thn (hkw.run pos pins s σ H _ I h) fun ws s2 ⟨zs, H2, I2, rz, q2⟩ => ⟨I2.kIn, ?_⟩) hpl
  rw [hks]
  exact run_fnk (us := []) (vs := []) G hr (hb _ ⟨kV, doc, pm, an, cdv, ct, rfl⟩) pass0 I2 .nil rz q2
end
theorem fold_rep (x : Array Nat) : ∀ (n : Nat) (acc : Array Nat), ((List.replicate n x).foldl (· ++ ·) acc).toList = acc.toList ++ (List.replicate n x.toList).flatten
  | 0, acc => by simp
  | n + 1, acc => by
    rw [List.replicate_succ, List.foldl_cons, fold_rep x n, List.replicate_succ, List.flatten_cons, Array.toList_append, List.append_assoc]
theorem mul_tl (z : Str) (n : Int) (h : 1 ≤ n) : Txt.mul z n = ⟨((List.replicate n.toNat z.cps.toList).flatten).toArray⟩ := by
  refine Str.ext' (Array.toList_inj.mp ?_)
  unfold Txt.mul
  rw [if_neg (by omega)]
  by_cases c : (n == 1 || z.length == 0) = true
  · rw [if_pos c]
    rcases Bool.or_eq_true_iff.mp c with e | e
    · have e : n = 1 := by simpa using e
      subst e
      simp
    · have e : z.cps.toList = [] := by
        have e : z.cps.size = 0 := by simpa [Str.length] using e
        simpa using e
      show z.cps.toList = _
      rw [e]
      simp
  · rw [if_neg c]
    show ((List.replicate n.toNat z.cps).foldl (· ++ ·) #[]).toList = _
    rw [fold_rep]
    simp
/-- text * number -/
theorem op_mulS {X : Cx} : OpR X (binaryOp .Mult) (fun x y H Q => ∃ z n, x = .str z ∧ y = .int n ∧ 1 ≤ n ∧ n ≤ 1000000 ∧ z.length * n.toNat ≤ 16000000 ∧ Q (.str ⟨((List.replicate n.toNat z.cps.toList).flatten).toArray⟩) H) := by
  intro pins s σ H x y u v Q I rx ry h
  obtain ⟨z, n, rfl, rfl, h1, h2, h3, q⟩ := h
  obtain ⟨t, rfl⟩ := rx
  obtain ⟨t', rfl⟩ := ry
  rw [← mul_tl z n h1] at q
  have b : z.length ≤ 16000000 := by
    have e : 1 ≤ n.toNat := by omega
    have := Nat.mul_le_mul_left z.length e
    omega
  refine SB.mul ⟨by simp; omega, fun _ _ hc => ?_, fun _ _ => ?_⟩ fun t' k => ⟨V.str (Txt.mul z n), H, I.tok _, ⟨_, rfl⟩, q⟩
  · have e : (16000000 : Int) ≤ (2 ^ 63 - 1) / n := by
      refine (Int.le_ediv_iff_mul_le (by omega)).mpr ?_
      omega
    omega
  · unfold Builtin.Str.tooLong
    refine decide_eq_false ?_
    have : sizeLine = 16777216 := sizeLine_eq
    omega
end Tx

set_option Elab.async false
set_option linter.all false
set_option maxRecDepth 100000
set_option maxHeartbeats 1000000
namespace Tx
open PySem PySem.Spec PyProof.Rows L2 TL
/-- how a def of plain parameters takes its arguments -/
abbrev PlainB (x : Str) (st : Stmt) (ps : List Str) : Prop := ∀ (kV doc pm : Value) (an : Option Addr) (cdv ct : Value) (us : List Value), us.length = ps.length → bindArgs (PySem.W.fnOf x x (defArgs st) (defBody st) (defScope st) .none kV doc pm an cdv ct) ⟨us, []⟩ = pure (ps.zip us)
section
variable {P : Program} {w : World} {K : PySem.W.Frag} {mg : Str → Option Value} {base : Heap}
/-- a def keeps its promise, by its body -/
theorem dn_of {x : Str} {st : Stmt} {N ps : List Str} {k : Nat} {sp : Sp} (T : Top K mg x st) (S : FnScope N ps (defScope st)) (pl : PlainB x st ps) (len : ∀ vs H Q E, sp vs H Q E → vs.length = ps.length)
    (body : ∀ (f : Addr) (cdv : Value) (A : Around) (outer : List Env) (s : Shared) (H : Hp) (vs : List V) (Q : VK) (E : XK), Room k (A.deeper (envOfC x (defScope st) s.heap.objs.size f cdv)) → sp vs H Q E →
      ∃ t, PSs (cxOf CX0 P w K mg base N x (defScope st) f cdv A outer s H E).nox (defBody st) t ∧ t { nx := fun _ H' => Q .non H', rt := Q } (start N vs) H) : Dn P w K mg base (k + 1) x st ps sp := by
  obtain ⟨f, fd, hm, F⟩ := T
  exact ⟨⟨f, fd, hm, F, F.ok S len fun cdv A outer s H vs Q E hr h => body f cdv A outer s H vs Q E hr h⟩, pl⟩
end
/-- the built-in names that the module's top leaves as they are -/
structure Bt (mg : Str → Option Value) : Prop where
  len : mg "len" = none
  isi : mg "isinstance" = none
  int : mg "int" = none
  str : mg "str" = none
  bool : mg "bool" = none
  list : mg "list" = none
  tuple : mg "tuple" = none
  set : mg "set" = none
  range : mg "range" = none
  sorted : mg "sorted" = none
  min : mg "min" = none
  max : mg "max" = none
  abs : mg "abs" = none
  all : mg "all" = none
theorem same_upd {H : Hp} {p : Addr} {o : HO} (h : H p = none) : Same H (upd H p o) := fun b x e => by
  rw [upd_ne (ne_of_none e h)]; exact e
/-- what is new stays apart: a write to it keeps what was -/
theorem wr {H H' : Hp} {p : Addr} {o : HO} (s : Same H H') (h : H p = none) : Same H (upd H' p o) := fun b x e => by
  rw [upd_ne (ne_of_none e h)]; exact s b x e

theorem grown {A : Type} (f : Nat → A) (i : Nat) : (List.range i).map f ++ [f i] = (List.range (i + 1)).map f := by
  rw [List.range_succ, List.map_append]; rfl
theorem grown_len {A : Type} (f : Nat → A) {i n : Nat} (h : i < n) (hn : n ≤ 1000000) : ((List.range i).map f).length < sizeLine := by
  rw [List.length_map, List.length_range]
  exact Nat.lt_of_lt_of_le (Nat.lt_of_lt_of_le h hn) (by decide)
/-- a comprehension without a test -/
theorem lc_yes {te : TE} {σ : L2.St} {H : Hp} {Nx : VK} {B : Hp → Prop} (h : te σ H Nx) : tYes σ H (fun b H3 => if b = true then te σ H3 Nx else B H3) := by
  show (if true = true then te σ H Nx else B H)
  rw [if_pos rfl]
  exact h
/-- a comprehension over a text -/
theorem lc_text {z : Str} {g : TG} {tt : TT} {te : TE} {vs : List Nat} {σ : L2.St} {H1 : Hp} {D : Addr} {Qd : Hp → Prop} (Pv : Nat → Hp → Prop) (h0 : Pv 0 (upd H1 D (.lst [])))
    (hs : ∀ i c H, z.cps.toList[i]? = some c → Pv i H → g (.str ⟨#[c]⟩) (wipe σ vs) H fun σ2 H2 => wipe σ2 vs = wipe σ vs ∧ tt σ2 H2 fun b H3 =>
      if b = true then te σ2 H3 fun y H4 => ∃ acc, H4 D = some (.lst acc) ∧ acc.length < sizeLine ∧ Pv (i + 1) (upd H4 D (.lst (acc ++ [y]))) else Pv (i + 1) H3)
    (hd : ∀ H, Pv z.cps.size H → Qd H) :
    ∃ W : Nat → Nat → Hp → Prop, (∃ m, W 0 m (upd H1 D (.lst []))) ∧ ∀ i m H, W i m H →
      ((Its z).stop i H ∧ Qd H) ∨ ((Its z).go i H ∧ ∃ Nx : Hp → Prop, (∀ H', Nx H' → ∃ m', m' < m ∧ W (i + 1) m' H') ∧ ∀ x H', (Its z).yld i H x H' → g x (wipe σ vs) H' fun σ2 H2 => wipe σ2 vs = wipe σ vs ∧ tt σ2 H2 fun b H3 =>
        if b = true then te σ2 H3 fun y H4 => ∃ acc, H4 D = some (.lst acc) ∧ acc.length < sizeLine ∧ Nx (upd H4 D (.lst (acc ++ [y]))) else Nx H3) := by
  refine ⟨fun i m H => m + i = z.cps.size ∧ Pv i H, ⟨z.cps.size, rfl, h0⟩, fun i m H ⟨e, p⟩ => ?_⟩
  by_cases lt : i < z.cps.size
  · refine .inr ⟨lt, Pv (i + 1), fun H' p' => ⟨m - 1, by omega, by omega, p'⟩, fun x H' y => ?_⟩
    obtain ⟨rfl, c, hc, rfl⟩ := y
    exact hs i c _ (by rw [Array.getElem?_toList]; exact hc) p
  · obtain rfl : i = z.cps.size := by omega
    exact .inl ⟨Nat.le_refl _, hd H p⟩
/-- a text of small letters -/
def Low (z : Str) : Prop := ∀ c ∈ tl z, 97 ≤ c ∧ c ≤ 122
theorem tl_one (c : Nat) : tl ⟨#[c]⟩ = [c] := rfl
theorem le_one {c d : Nat} : (!decide (tl ⟨#[d]⟩ < tl ⟨#[c]⟩)) = decide (c ≤ d) := by
  rw [tl_one, tl_one]
  by_cases h : c ≤ d
  · rw [decide_eq_true h]
    simp [List.cons_lt_cons_iff]
    omega
  · rw [decide_eq_false h]
    simp [List.cons_lt_cons_iff]
    omega
theorem str_a : Str.ofString "a" = ⟨#[97]⟩ := by decide +kernel
theorem str_z : Str.ofString "z" = ⟨#[122]⟩ := by decide +kernel
theorem low_a {c : Nat} (h : 97 ≤ c) : (!decide ((⟨#[c]⟩ : Str).cps.toList < (Str.ofString "a").cps.toList)) = true := by
  rw [str_a]; exact le_one.trans (decide_eq_true h)
theorem low_z {c : Nat} (h : c ≤ 122) : (!decide ((Str.ofString "z").cps.toList < (⟨#[c]⟩ : Str).cps.toList)) = true := by
  rw [str_z]; exact le_one.trans (decide_eq_true h)
theorem trues (n : Nat) : (List.range n).map (fun _ => V.bl true) = (List.replicate n true).map V.bl := by
  induction n with
  | zero => rfl
  | succ n ih => rw [List.range_succ, List.map_append, ih, List.replicate_succ', List.map_append]; rfl
theorem all_trues (n : Nat) : (List.replicate n true).all id = true := by
  induction n with
  | zero => rfl
  | succ n ih => rw [List.replicate_succ, List.all_cons, ih]; rfl

/-! ### texts as lists of signs -/
def mkS (l : List Nat) : Str := ⟨l.toArray⟩
theorem tl_mkS (l : List Nat) : tl (mkS l) = l := rfl
theorem len_mkS (l : List Nat) : (mkS l).length = l.length := by rw [len_tl, tl_mkS]
theorem mkS_tl (z : Str) : mkS (tl z) = z := ext_tl rfl
def cut (l : List Nat) (i n : Nat) : List Nat := (l.drop i).take n
theorem cutS_mid (z : Str) (i n : Nat) (h : i + n ≤ z.length) : cutS z (some (i : Int)) (some ((i : Int) + (n : Int))) = mkS (cut (tl z) i n) := by
  refine ext_tl ?_
  have e : ((i : Int) + (n : Int)) = ((i + n : Nat) : Int) := by omega
  rw [e]
  unfold cutS
  rw [HT.sIx_nat, HT.sIx_nat, Nat.min_eq_left (show i ≤ z.length by omega), Nat.min_eq_left h, show i + n - i = n by omega]
  rfl
theorem cutS_to (z : Str) (n : Nat) (h : n ≤ z.length) : cutS z none (some (n : Int)) = mkS ((tl z).take n) := by
  refine ext_tl ?_
  unfold cutS
  rw [HT.sIx_nat, HT.sIx_none, Nat.min_eq_left h]
  rfl
/-- all texts of n letters that stand in a text, from the left -/
def steps (n : Nat) (l : List Nat) : List Str := (List.range (l.length + 1 - n)).map fun i => mkS (cut l i n)
/-- a ring text read once round and on -/
def unroll (l : List Nat) (m : Nat) : List Nat := ((List.replicate (m / l.length + 2) l).flatten).take (l.length + m)
/-- its windows, letter by letter -/
def turns (n : Nat) (l : List Nat) : List Str := (List.range l.length).map fun a => mkS ((List.range n).map fun k => l.getD ((a + k) % l.length) 0)
theorem rep_get (l : List Nat) (hl : 0 < l.length) : ∀ (n i : Nat), i < n * l.length → ((List.replicate n l).flatten)[i]? = l[i % l.length]?
  | 0, i, h => by omega
  | n + 1, i, h => by
    rw [List.replicate_succ, List.flatten_cons]
    by_cases lt : i < l.length
    · rw [List.getElem?_append_left lt, Nat.mod_eq_of_lt lt]
    · have e : (n + 1) * l.length = n * l.length + l.length := Nat.succ_mul n l.length
      rw [List.getElem?_append_right (by omega), rep_get l hl n (i - l.length) (by omega), ← Nat.mod_eq_sub_mod (by omega)]
theorem unroll_get (l : List Nat) (hl : 0 < l.length) (m i : Nat) (h : i < l.length + m) : (unroll l m)[i]? = l[i % l.length]? := by
  unfold unroll
  rw [List.getElem?_take_of_lt h]
  refine rep_get l hl _ i ?_
  have h1 := Nat.div_add_mod m l.length
  have h2 := Nat.mod_lt m hl
  have h3 : (m / l.length + 2) * l.length = l.length * (m / l.length) + 2 * l.length := by
    rw [Nat.add_mul, Nat.mul_comm]
  omega
theorem unroll_len (l : List Nat) (hl : 0 < l.length) (m : Nat) : (unroll l m).length = l.length + m := by
  unfold unroll
  rw [List.length_take, List.length_flatten, List.map_replicate, List.sum_replicate_nat]
  have h1 := Nat.div_add_mod m l.length
  have h2 := Nat.mod_lt m hl
  have h3 : (m / l.length + 2) * l.length = l.length * (m / l.length) + 2 * l.length := by
    rw [Nat.add_mul, Nat.mul_comm]
  omega
/-- what is read on the unrolled text is what is read round -/
theorem steps_unroll (l : List Nat) (hl : 0 < l.length) (n : Nat) (hn : 1 ≤ n) : steps n (unroll l (n - 1)) = turns n l := by
  unfold steps turns
  rw [unroll_len l hl, show l.length + (n - 1) + 1 - n = l.length by omega]
  refine List.map_congr_left fun i hi => ?_
  have hi := List.mem_range.mp hi
  refine congrArg mkS ?_
  refine List.ext_getElem? fun j => ?_
  unfold cut
  rw [List.getElem?_take, List.getElem?_drop, List.getElem?_map]
  by_cases lt : j < n
  · rw [if_pos lt, unroll_get l hl _ _ (by omega), List.getElem?_range lt]
    have h2 := Nat.mod_lt (i + j) hl
    simp [List.getD_eq_getElem?_getD, List.getElem?_eq_getElem h2]
  · rw [if_neg lt, List.getElem?_eq_none (by rw [List.length_range]; omega)]
    rfl
/-! ### ascending lists of texts, each once -/
def Up (ys xs : List Str) : Prop := sortedS ys = true ∧ ys.Nodup ∧ (∀ x, x ∈ ys ↔ x ∈ xs) ∧ ys.length ≤ xs.length
theorem rising_le : ∀ (l : List Str) (p : Str), risingS p l = true → (p :: l).Pairwise fun a b => tl a ≤ tl b
  | [], p, _ => List.pairwise_singleton _ _
  | x :: r, p, h => by
    have h : (!ltCps (tl x) (tl p) && risingS x r) = true := h
    rw [Bool.and_eq_true, ltCps_eq, Bool.not_eq_true', decide_eq_false_iff_not] at h
    have px : tl p ≤ tl x := List.not_lt.mp h.1
    have ih := rising_le r x h.2
    refine List.pairwise_cons.mpr ⟨fun y hy => ?_, ih⟩
    rcases List.mem_cons.mp hy with rfl | hy
    · exact px
    · exact List.le_trans px ((List.pairwise_cons.mp ih).1 y hy)
theorem sorted_le {l : List Str} (h : sortedS l = true) : l.Pairwise fun a b => tl a ≤ tl b := by
  cases l with
  | nil => exact List.Pairwise.nil
  | cons p l => exact rising_le l p h
theorem Up.one {ys zs xs xs' : List Str} (h : Up ys xs) (k : Up zs xs') (e : ∀ x, x ∈ xs ↔ x ∈ xs') : ys = zs := by
  refine List.Perm.eq_of_pairwise (fun a b _ _ h1 h2 => ext_tl (List.le_antisymm h1 h2)) (sorted_le h.1) (sorted_le k.1) ((List.perm_ext_iff_of_nodup h.2.1 k.2.1).mpr fun x => ?_)
  rw [h.2.2.1 x, e x, k.2.2.1 x]
theorem Up.of {ys ks xs : List Str} (p : ys.Perm ks) (s : sortedS ys = true) (f : FirstOf xs xs.length ks) : Up ys xs := by
  refine ⟨s, p.nodup_iff.mpr f.2.1, fun x => ?_, by rw [p.length_eq]; exact f.1⟩
  rw [p.mem_iff, f.2.2 x, List.take_length]
end Tx

set_option Elab.async false
set_option linter.all false
set_option maxRecDepth 100000
set_option maxHeartbeats 1000000
namespace Tx
open PySem PySem.Spec PyProof.Rows L2 TL
/-! the rules that look into the written part, with that part named: for blocks within a def -/
section
variable {X : Cx} (K : PySem.W.Frag)
def rLenL (K : PySem.W.Frag) : List V → Hp → VK → Prop := fun xs H Q => ∃ p ys, xs = [.ref p] ∧ (SqL K H p ys ∨ SqT K H p ys) ∧ Q (.int ys.length) H
theorem lenK (h : X.K = K) : CallR X (.builtin "len") (rLenL K) := by subst h; exact call_len_seq
theorem isiK (h : X.K = K) : CallR X (.builtin "isinstance") (rIsi K) := by subst h; exact call_isi
theorem ixK (h : X.K = K) : IxR X (rIxL K) := by subst h; exact ix_list
theorem ixTK (h : X.K = K) : IxR X (rIxT K) := by subst h; exact ix_tup
theorem slK (h : X.K = K) : SlR X (rSlL K) := by subst h; exact sl_list
theorem allK (h : X.K = K) (hc : X.calm = true) : CallR X (.builtin "all") (rAll K) := by subst h; exact cr_all hc
theorem anyK (h : X.K = K) (hc : X.calm = true) : CallR X (.builtin "any") (rAny K) := by subst h; exact cr_any hc
theorem sortLK (h : X.K = K) : CallR X (.builtin "sorted") (rSortL K) := by subst h; exact cr_sortL
theorem inK (h : X.K = K) : OpR X (compareOp .In) (rIn K false) := by subst h; exact op_in_seq
theorem notInK (h : X.K = K) : OpR X (compareOp .NotIn) (rIn K true) := by subst h; exact op_notIn_seq
theorem eqDK (h : X.K = K) (hu : X.A.units + 64 < cLine) : OpR X (compareOp .Eq) (rEqD K) := by subst h; exact op_eqD hu
theorem neDK (h : X.K = K) (hu : X.A.units + 64 < cLine) : OpR X (compareOp .NotEq) (rNeD K) := by subst h; exact op_neD hu
def rJoin (K : PySem.W.Frag) : V → List V → Hp → VK → Prop := fun x xs H Q => ∃ a p, ∃ ys : List Str, x = .str a ∧ xs = [.ref p] ∧ (SqL K H p (ys.map V.str) ∨ SqT K H p (ys.map V.str)) ∧ (ys.map (·.length)).sum + ys.length * a.length ≤ 16777216 ∧ Q (.str (Txt.join a ys)) H
theorem joinK {o e : Expr} {to te : TE} {apos pos : Pos} (h : X.K = K) (ho : PE X o to) (he : PE X e te) (hs : starEach [e] X.env = [(false, eval e X.env)] := by rfl) (hb : attributeBase o "join" X.env (eval o X.env) = eval o X.env := by rfl)
    (hl : (apos.endLine == pos.line) = true := by rfl) : PE X (.Call (.Attribute o "join" apos) [e] [] pos) (tM1 (rJoin K) to te) := by subst h; exact pe_join ho he hs hb hl
def rListOf (K : PySem.W.Frag) : List V → Hp → VK → Prop := fun xs H Q => ∃ p ys, xs = [.ref p] ∧ (SqL K H p ys ∨ SqT K H p ys) ∧ ∀ l, H l = none → Q (.ref l) (upd H l (.lst ys))
theorem listK (h : X.K = K) : CallR X (.type "list") (rListOf K) := by subst h; exact call_list_of
def rTupOf (K : PySem.W.Frag) : List V → Hp → VK → Prop := fun xs H Q => ∃ p ys, xs = [.ref p] ∧ ((SqL K H p ys ∧ ∀ l, H l = none → Q (.ref l) (upd H l (.tup ys))) ∨ (SqT K H p ys ∧ Q (.ref p) H))
theorem tupK (h : X.K = K) : CallR X (.type "tuple") (rTupOf K) := by subst h; exact call_tuple_of
variable (w : World)
theorem setK (h : X.K = K) (hw : X.w = w) (hc : X.calm = true) : CallR X (.type "set") (rSetS K w) := by subst h hw; exact cr_setS hc
theorem sortSetK (hw : X.w = w) (hc : X.calm = true) : CallR X (.builtin "sorted") (rSortSet w) := by subst hw; exact cr_sortSet hc
end
end Tx

set_option Elab.async false
set_option linter.all false
set_option maxRecDepth 100000
set_option maxHeartbeats 1000000
namespace Tx
open PySem PySem.Spec PyProof.Rows L2 TL
def topS (i : Nat) : Stmt := PySem.Challenge.pw_surepieces_k02_windows_of_texts_and_ring.main.body.getD i (.Pass ⟨0, 0, 0, 0⟩)
section
variable {P : Program} {w : World} {K : PySem.W.Frag} {mg : Str → Option Value} {base : Heap}
abbrev st_is_whole : Stmt := topS 2
theorem sc_is_whole : FnScope ["value"] ["value"] (defScope st_is_whole) := ⟨rfl, rfl, rfl, by decide +kernel, rfl, by decide +kernel, by decide +kernel⟩
theorem pl_is_whole : PlainB "is_whole" st_is_whole ["value"] := fun _ _ _ _ _ _ us hl => match us, hl with | [_], _ => rfl
/-- of an int: True -/
def spWhole : Sp := fun vs H Q _ => ∃ i, vs = [.int i] ∧ Q (.bl true) H
theorem ok_is_whole (T : Top K mg "is_whole" st_is_whole) (B : Bt mg) : Dn P w K mg base 1 "is_whole" st_is_whole ["value"] spWhole := by
  refine dn_of T sc_is_whole pl_is_whole (fun vs H Q E h => ?_) fun f cdv A outer s H vs Q E hr h => ?_
  · obtain ⟨i, rfl, _⟩ := h; rfl
  · obtain ⟨i, rfl, q⟩ := h
    refine ⟨_, (pss_one (ps_ret (pe_and (pe_callB (isiK K rfl) (by rfl) B.isi (by decide +kernel) (pa_cons (pv 0) (pa_cons (pe_bltn (v := .ty "int") (by rfl) B.int (by decide +kernel) rfl) pa_nil))) (pe_one (pe_not (pe_callB (isiK K rfl) (by rfl) B.isi (by decide +kernel) (pa_cons (pv 0) (pa_cons (pe_bltn (v := .ty "bool") (by rfl) B.bool (by decide +kernel) rfl) pa_nil)))))))), ?_⟩
    refine ⟨_, rfl, .int i, .ty "int", _, _, true, rfl, .ty _, .base (.int i), kit_ty (by decide +kernel), true, rfl, iteT ?_⟩
    exact ⟨_, rfl, .int i, .ty "bool", _, _, false, rfl, .ty _, .base (.int i), kit_ty (by decide +kernel), false, rfl, q⟩
abbrev st_is_letters : Stmt := topS 3
theorem sc_is_letters : FnScope ["value", "letter"] ["value"] (defScope st_is_letters) := ⟨rfl, rfl, rfl, by decide +kernel, rfl, by decide +kernel, by decide +kernel⟩
theorem pl_is_letters : PlainB "is_letters" st_is_letters ["value"] := fun _ _ _ _ _ _ us hl => match us, hl with | [_], _ => rfl
/-- of a text of small letters: True -/
def spLow : Sp := fun vs H Q _ => ∃ z, vs = [.str z] ∧ Low z ∧ z.length ≤ 100000 ∧ ∀ H', Same H H' → Q (.bl true) H'
theorem ok_is_letters (T : Top K mg "is_letters" st_is_letters) (B : Bt mg) : Dn P w K mg base 1 "is_letters" st_is_letters ["value"] spLow := by
  refine dn_of T sc_is_letters pl_is_letters (fun vs H Q E h => ?_) fun f cdv A outer s H vs Q E hr h => ?_
  · obtain ⟨z, rfl, _⟩ := h; rfl
  · obtain ⟨z, rfl, lo, hz, q⟩ := h
    refine ⟨_, (pss_one (ps_ret (pe_and (pe_callB (isiK K rfl) (by rfl) B.isi (by decide +kernel) (pa_cons (pv 0) (pa_cons (pe_bltn (v := .ty "str") (by rfl) B.str (by decide +kernel) rfl) pa_nil))) (pe_one (pe_callB (allK K rfl rfl) (by rfl) B.all (by decide +kernel) (pa_cons (pe_lc (own := [("letter", 1)]) (g := gName 1) rfl sc_is_letters.nd (pi_str (pv 0)) (blkOk_by (N := ["value", "letter"]) (sc := defScope st_is_letters) (by decide +kernel)) (fun _ _ _ _ _ => pg_name (i := 1) sc_is_letters.nd rfl (.inl rfl)) (fun _ _ _ _ _ => pts_nil) (fun _ _ _ _ _ => (pe_chain op_le_str op_le_str pe_str (pv 1) pe_str))) pa_nil)))))), ?_⟩
    refine ⟨_, rfl, .str z, .ty "str", _, _, true, rfl, .ty _, .base (.str z), kit_ty (by decide +kernel), true, rfl, iteT ?_⟩
    refine ⟨_, rfl, z, rfl, fun D hD => lc_text (fun i H' => Same H H' ∧ H' D = some (.lst ((List.range i).map fun _ => V.bl true))) ⟨same_upd hD, upd_same⟩ (fun i c H' hc ⟨sm, e⟩ => ?_) fun H' ⟨sm, e⟩ => ?_⟩
    · have hl := lo c (List.mem_of_getElem? hc)
      have lt := (List.getElem?_eq_some_iff.mp hc).1
      rw [← len_tl] at lt
      refine ⟨rfl, lc_yes ?_⟩
      refine ⟨_, rfl, _, _, rfl, rfl, _, rfl, ?_⟩
      rw [low_a hl.1]
      refine iteT ?_
      refine ⟨_, _, rfl, rfl, _, e, grown_len _ lt (by omega), wr sm hD, ?_⟩
      rw [upd_same, low_z hl.2, grown (fun _ => V.bl true)]
    · refine ⟨D, List.replicate z.cps.size true, rfl, .inl (.inl ?_), ?_⟩
      · rw [e, trues]
      · rw [all_trues]
        exact q _ sm
abbrev st_steps_of : Stmt := topS 4
theorem sc_steps_of : FnScope ["size", "text", "at"] ["size", "text"] (defScope st_steps_of) := ⟨rfl, rfl, rfl, by decide +kernel, rfl, by decide +kernel, by decide +kernel⟩
theorem pl_steps_of : PlainB "steps_of" st_steps_of ["size", "text"] := fun _ _ _ _ _ _ us hl => match us, hl with | [_, _], _ => rfl
/-- the texts of n letters that stand in a text -/
def spSteps : Sp := fun vs H Q _ => ∃ (n : Nat) (z : Str), vs = [.int n, .str z] ∧ 1 ≤ n ∧ n ≤ 100000 ∧ z.length ≤ 100000 ∧ ∀ p H', H p = none → Same H H' → H' p = some (.lst ((steps n (tl z)).map V.str)) → Q (.ref p) H'
theorem ok_steps_of (T : Top K mg "steps_of" st_steps_of) (B : Bt mg) : Dn P w K mg base 1 "steps_of" st_steps_of ["size", "text"] spSteps := by
  refine dn_of T sc_steps_of pl_steps_of (fun vs H Q E h => ?_) fun f cdv A outer s H vs Q E hr h => ?_
  · obtain ⟨n, z, rfl, _⟩ := h; rfl
  · obtain ⟨n, z, rfl, n1, hn, hz, q⟩ := h
    have sl : z.length ≤ sizeLine := Nat.le_trans hz (by decide)
    refine ⟨_, (pss_one (ps_ret (pe_lc (own := [("at", 2)]) (g := gName 2) rfl sc_steps_of.nd (pi_range1 (by rfl) B.range (pa_cons (pe_op op_add (pe_op op_sub (pe_callB call_len_str (by rfl) B.len (by decide +kernel) (pa_cons (pv 1) pa_nil)) (pv 0)) pe_int) pa_nil)) (blkOk_by (N := ["size", "text", "at"]) (sc := defScope st_steps_of) (by decide +kernel)) (fun _ _ _ _ _ => pg_name (i := 2) sc_steps_of.nd rfl (.inl rfl)) (fun _ _ _ _ _ => pts_nil) (fun _ _ _ _ _ => (pe_slice sl_str (pv 1) (po_some (pv 2)) (po_some (pe_op op_add (pv 2) (pv 0)))))))), ?_⟩
    refine ⟨_, rfl, _, rfl, sl, _, rfl, _, _, rfl, rfl, _, _, rfl, rfl, _, rfl, by omega, by omega, fun D hD => ?_⟩
    rw [show ((z.length : Int) - (n : Int) + 1).toNat = z.length + 1 - n by omega]
    refine lc_range (fun i H' => Same H H' ∧ H' D = some (.lst ((List.range i).map fun j => V.str (mkS (cut (tl z) j n))))) ⟨same_upd hD, upd_same⟩ (fun i H' hi ⟨sm, e⟩ => ?_) fun H' ⟨sm, e⟩ => ?_
    · refine ⟨rfl, lc_yes ?_⟩
      refine ⟨_, rfl, _, rfl, _, rfl, _, rfl, _, rfl, _, _, rfl, rfl, _, rfl, z, rfl, sl, _, e, grown_len _ hi (by omega), wr sm hD, ?_⟩
      rw [upd_same, show ((0 : Int) + (i : Int)) = (i : Int) by omega, cutS_mid z i n (by omega), grown fun j => V.str (mkS (cut (tl z) j n))]
    · refine q D H' hD sm ?_
      rw [e]
      unfold steps
      rw [← len_tl, List.map_map]
      rfl
abbrev st_unrolled : Stmt := topS 5
theorem sc_unrolled : FnScope ["ring", "more", "times"] ["ring", "more"] (defScope st_unrolled) := ⟨rfl, rfl, rfl, by decide +kernel, rfl, by decide +kernel, by decide +kernel⟩
theorem pl_unrolled : PlainB "unrolled" st_unrolled ["ring", "more"] := fun _ _ _ _ _ _ us hl => match us, hl with | [_, _], _ => rfl
def spUnroll : Sp := fun vs H Q _ => ∃ (z : Str) (m : Nat), vs = [.str z, .int m] ∧ 1 ≤ z.length ∧ z.length ≤ 10000 ∧ m ≤ 10000 ∧ Q (.str (mkS (unroll (tl z) m))) H
theorem ok_unrolled (T : Top K mg "unrolled" st_unrolled) (B : Bt mg) : Dn P w K mg base 1 "unrolled" st_unrolled ["ring", "more"] spUnroll := by
  refine dn_of T sc_unrolled pl_unrolled (fun vs H Q E h => ?_) fun f cdv A outer s H vs Q E hr h => ?_
  · obtain ⟨n, z, rfl, _⟩ := h; rfl
  · obtain ⟨z, m, rfl, h1, hz, hm, q⟩ := h
    have sl : z.length ≤ sizeLine := Nat.le_trans hz (by decide)
    have ez : (z.length : Int) ≠ 0 := by omega
    refine ⟨_, (pss_cons (ps_set (i := 2) sc_unrolled.nd rfl (.inl rfl) (pe_op op_add (pe_op op_fdivN (pv 1) (pe_callB call_len_str (by rfl) B.len (by decide +kernel) (pa_cons (pv 0) pa_nil))) pe_int))
      (pss_one (ps_ret (pe_slice sl_str (pe_op op_mulS (pv 0) (pv 2)) po_none (po_some (pe_op op_add (pe_callB call_len_str (by rfl) B.len (by decide +kernel) (pa_cons (pv 0) pa_nil)) (pv 1))))))), ?_⟩
    obtain ⟨d, hd⟩ : ∃ d, d = m / z.length := ⟨_, rfl⟩
    have e1 : (m : Int).fdiv (z.length : Int) = (d : Int) := by
      rw [Int.fdiv_eq_ediv_of_nonneg _ (by omega), hd]; rfl
    have e3 : z.length * d ≤ m := by rw [hd]; exact Nat.mul_div_le m z.length
    have e4 : d ≤ m := by rw [hd]; exact Nat.div_le_self _ _
    have e7 := Nat.div_add_mod m z.length
    have e8 := Nat.mod_lt m (show 0 < z.length by omega)
    rw [← hd] at e7
    have e2 : ((d : Int) + 2).toNat = d + 2 := by omega
    have e5 : z.length * (d + 2) = z.length * d + z.length * 2 := Nat.mul_add _ _ _
    have e6 : (mkS ((List.replicate (d + 2) (tl z)).flatten)).length = z.length * d + z.length * 2 := by
      rw [len_mkS, List.length_flatten, List.map_replicate, List.sum_replicate_nat, ← len_tl, Nat.mul_comm, e5]
    refine ⟨_, rfl, _, rfl, _, rfl, sl, _, _, rfl, rfl, ⟨ez, by show (z.length : Int).natAbs < _; omega⟩, _, _, rfl, rfl, ?_⟩
    rw [e1]
    refine ⟨_, rfl, _, rfl, _, _, rfl, rfl, by omega, by omega, by rw [e2, e5]; omega, ?_⟩
    rw [e2]
    refine ⟨_, rfl, _, rfl, sl, _, rfl, _, _, rfl, rfl, _, rfl, _, rfl, ?_, ?_⟩
    · exact Nat.le_trans (Nat.le_of_eq e6) (Nat.le_trans (show _ ≤ 30000 by omega) (by decide))
    · rw [show ((z.length : Int) + (m : Int)) = ((z.length + m : Nat) : Int) by omega]
      have e9 := cutS_to (mkS ((List.replicate (d + 2) (tl z)).flatten)) (z.length + m) (by rw [e6]; omega)
      refine (congrArg (fun y => Q (.str y) H) (e9.trans ?_)).mpr q
      rw [tl_mkS, hd, len_tl]
      rfl
abbrev st_is_size : Stmt := topS 11
theorem sc_is_size : FnScope ["value"] ["value"] (defScope st_is_size) := ⟨rfl, rfl, rfl, by decide +kernel, rfl, by decide +kernel, by decide +kernel⟩
theorem pl_is_size : PlainB "is_size" st_is_size ["value"] := fun _ _ _ _ _ _ us hl => match us, hl with | [_], _ => rfl
def spSize : Sp := fun vs H Q _ => ∃ n : Nat, vs = [.int n] ∧ 2 ≤ n ∧ n ≤ 6 ∧ Q (.bl true) H
theorem ok_is_size (T : Top K mg "is_size" st_is_size) (D_is_whole : Dn P w K mg base 1 "is_whole" st_is_whole ["value"] spWhole) : Dn P w K mg base 2 "is_size" st_is_size ["value"] spSize := by
  refine dn_of T sc_is_size pl_is_size (fun vs H Q E h => ?_) fun f cdv A outer s H vs Q E hr h => ?_
  · obtain ⟨n, rfl, _⟩ := h; rfl
  · obtain ⟨n, rfl, h2, h6, q⟩ := h
    refine ⟨_, (pss_one (ps_ret (pe_and (pe_fn D_is_whole (hr.mono (by decide)) (by rfl) (pa_cons (pv 0) pa_nil)) (pe_one (pe_chain op_le op_le pe_int (pv 0) pe_int))))), ?_⟩
    refine ⟨_, rfl, _, rfl, _, rfl, ?_⟩
    refine iteT ?_
    refine ⟨_, rfl, _, _, rfl, rfl, _, rfl, ?_⟩
    rw [decide_eq_true (show (2 : Int) ≤ (n : Int) by omega)]
    refine iteT ?_
    refine ⟨_, _, rfl, rfl, ?_⟩
    show Q (.bl (decide ((n : Int) ≤ 6))) H
    rw [decide_eq_true (show (n : Int) ≤ 6 by omega)]
    exact q
end
end Tx

set_option Elab.async false
set_option linter.all false
set_option maxRecDepth 100000
set_option maxHeartbeats 1000000
namespace Tx
open PySem PySem.Spec PyProof.Rows L2 TL
section
variable {P : Program} {w : World} {K : PySem.W.Frag} {mg : Str → Option Value} {base : Heap}
abbrev Wf (P : Program) (w : World) (K : PySem.W.Frag) (mg : Str → Option Value) (base : Heap) := True
abbrev st_is_ring : Stmt := topS 12
theorem sc_is_ring : FnScope ["value"] ["value"] (defScope st_is_ring) := ⟨rfl, rfl, rfl, by decide +kernel, rfl, by decide +kernel, by decide +kernel⟩
theorem pl_is_ring : PlainB "is_ring" st_is_ring ["value"] := fun _ _ _ _ _ _ us hl => match us, hl with | [_], _ => rfl
def spRing : Sp := fun vs H Q _ => ∃ z, vs = [.str z] ∧ Low z ∧ 1 ≤ z.length ∧ z.length ≤ 100000 ∧ ∀ H', Same H H' → Q (.bl true) H'
theorem ok_is_ring (T : Top K mg "is_ring" st_is_ring) (D_is_letters : Dn P w K mg base 1 "is_letters" st_is_letters ["value"] spLow) : Dn P w K mg base 2 "is_ring" st_is_ring ["value"] spRing := by
  refine dn_of T sc_is_ring pl_is_ring (fun vs H Q E h => ?_) fun f cdv A outer s H vs Q E hr h => ?_
  · obtain ⟨n, rfl, _⟩ := h; rfl
  · obtain ⟨z, rfl, lo, h1, hz, q⟩ := h
    refine ⟨_, (pss_one (ps_ret (pe_and (pe_fn D_is_letters (hr.mono (by decide)) (by rfl) (pa_cons (pv 0) pa_nil)) (pe_one (pe_cmpR op_ne (pv 0) pe_str (nomark _)))))), ?_⟩
    refine ⟨_, rfl, z, rfl, lo, hz, fun H' sm => ⟨_, rfl, ?_⟩⟩
    refine iteT ?_
    refine ⟨_, rfl, rfl, ?_⟩
    show Q (.bl (!decide (V.str z = V.str (Str.ofString "")))) H'
    rw [decide_eq_false fun e => ?_]
    · exact q _ sm
    · rw [V.str.inj e] at h1; exact absurd h1 (by decide)
abbrev st_check_ring : Stmt := topS 13
theorem sc_check_ring : FnScope ["ring"] ["ring"] (defScope st_check_ring) := ⟨rfl, rfl, rfl, by decide +kernel, rfl, by decide +kernel, by decide +kernel⟩
theorem pl_check_ring : PlainB "check_ring" st_check_ring ["ring"] := fun _ _ _ _ _ _ us hl => match us, hl with | [_], _ => rfl
def spCkRing : Sp := fun vs H Q _ => ∃ z, vs = [.str z] ∧ Low z ∧ 1 ≤ z.length ∧ z.length ≤ 100000 ∧ ∀ H', Same H H' → Q .non H'
theorem ok_check_ring (T : Top K mg "check_ring" st_check_ring) (D_is_ring : Dn P w K mg base 2 "is_ring" st_is_ring ["value"] spRing) : Dn P w K mg base 3 "check_ring" st_check_ring ["ring"] spCkRing := by
  refine dn_of T sc_check_ring pl_check_ring (fun vs H Q E h => ?_) fun f cdv A outer s H vs Q E hr h => ?_
  · obtain ⟨n, rfl, _⟩ := h; rfl
  · obtain ⟨z, rfl, lo, h1, hz, q⟩ := h
    refine ⟨_, (pss_one (ps_if (pt_not (pt_val (pe_fn D_is_ring (hr.mono (by decide)) (by rfl) (pa_cons (pv 0) pa_nil)))) (pss_one ps_never) pss_nil)), ?_⟩
    refine ⟨_, rfl, z, rfl, lo, h1, hz, fun H' sm => ⟨_, rfl, ?_⟩⟩
    refine iteF ?_
    exact q _ sm
abbrev st_check_size : Stmt := topS 14
theorem sc_check_size : FnScope ["size"] ["size"] (defScope st_check_size) := ⟨rfl, rfl, rfl, by decide +kernel, rfl, by decide +kernel, by decide +kernel⟩
theorem pl_check_size : PlainB "check_size" st_check_size ["size"] := fun _ _ _ _ _ _ us hl => match us, hl with | [_], _ => rfl
def spCkSize : Sp := fun vs H Q _ => ∃ n : Nat, vs = [.int n] ∧ 2 ≤ n ∧ n ≤ 6 ∧ Q .non H
theorem ok_check_size (T : Top K mg "check_size" st_check_size) (D_is_size : Dn P w K mg base 2 "is_size" st_is_size ["value"] spSize) : Dn P w K mg base 3 "check_size" st_check_size ["size"] spCkSize := by
  refine dn_of T sc_check_size pl_check_size (fun vs H Q E h => ?_) fun f cdv A outer s H vs Q E hr h => ?_
  · obtain ⟨n, rfl, _⟩ := h; rfl
  · obtain ⟨n, rfl, h2, h6, q⟩ := h
    refine ⟨_, (pss_one (ps_if (pt_not (pt_val (pe_fn D_is_size (hr.mono (by decide)) (by rfl) (pa_cons (pv 0) pa_nil)))) (pss_one ps_never) pss_nil)), ?_⟩
    refine ⟨_, rfl, n, rfl, h2, h6, _, rfl, ?_⟩
    refine iteF ?_
    exact q
abbrev st_windows_of : Stmt := topS 15
theorem sc_windows_of : FnScope ["size", "text"] ["size", "text"] (defScope st_windows_of) := ⟨rfl, rfl, rfl, by decide +kernel, rfl, by decide +kernel, by decide +kernel⟩
theorem pl_windows_of : PlainB "windows_of" st_windows_of ["size", "text"] := fun _ _ _ _ _ _ us hl => match us, hl with | [_, _], _ => rfl
def g_kb_windows_of_text_size {A : Type} : List A → List A → List A | [], [v0, v1] => [v1, v0] | _, _ => []
theorem kb_windows_of_text_size {K : PySem.W.Frag} : ∀ fd, (∃ kV doc pm an cdv ct, fd = PySem.W.fnOf "windows_of" "windows_of" (defArgs st_windows_of) (defBody st_windows_of) (defScope st_windows_of) .none kV doc pm an cdv ct) → KBinds K fd ["size", "text"] ["text", "size"] g_kb_windows_of_text_size g_kb_windows_of_text_size := by
  rintro fd ⟨kV, doc, pm, an, cdv, ct, rfl⟩
  refine ⟨fun s us ws _ hl => ?_, fun r q => ?_⟩
  · match us, ws, hl with
    | [], [_, _], _ => exact .of_eq rfl
  · match r, q with
    | .nil, (.cons a0 (.cons a1 .nil)) => exact (.cons a1 (.cons a0 .nil))
    | .nil, .nil => exact .nil
    | .nil, (.cons _ .nil) => exact .nil
    | .nil, (.cons _ (.cons _ (.cons _ _))) => exact .nil
    | .cons _ _, _ => exact .nil
/-- the texts of n letters that stand in a text, ascending, each once -/
def spWin : Sp := fun vs H Q _ => ∃ (n : Nat) (z : Str), vs = [.int n, .str z] ∧ 2 ≤ n ∧ n ≤ 6 ∧ Low z ∧ z.length ≤ 3900 ∧ ∀ p H' ys, H p = none → Same H H' → Up ys (steps n (tl z)) → H' p = some (.lst (ys.map V.str)) → Q (.ref p) H'
theorem steps_len (n : Nat) (l : List Nat) : (steps n l).length = l.length + 1 - n := by
  unfold steps; rw [List.length_map, List.length_range]
theorem ok_windows_of (T : Top K mg "windows_of" st_windows_of) (B : Bt mg) (D_check_size : Dn P w K mg base 3 "check_size" st_check_size ["size"] spCkSize)
    (D_is_letters : Dn P w K mg base 1 "is_letters" st_is_letters ["value"] spLow) (D_steps_of : Dn P w K mg base 1 "steps_of" st_steps_of ["size", "text"] spSteps) : Dn P w K mg base 4 "windows_of" st_windows_of ["size", "text"] spWin := by
  refine dn_of T sc_windows_of pl_windows_of (fun vs H Q E h => ?_) fun f cdv A outer s H vs Q E hr h => ?_
  · obtain ⟨n, z, rfl, _⟩ := h; rfl
  · obtain ⟨n, z, rfl, h2, h6, lo, hz, q⟩ := h
    refine ⟨_, (pss_cons (ps_expr (pe_fn D_check_size (hr.mono (by decide)) (by rfl) (pa_cons (pv 0) pa_nil)))
      (pss_cons (ps_if (pt_not (pt_val (pe_fn D_is_letters (hr.mono (by decide)) (by rfl) (pa_cons (pv 1) pa_nil)))) (pss_one ps_never) pss_nil)
      (pss_one (ps_ret (pe_callB (sortSetK w rfl rfl) (by rfl) B.sorted (by decide +kernel) (pa_cons (pe_callTy (setK K w rfl rfl rfl) (by rfl) B.set (by decide +kernel) (pa_cons (pe_fn D_steps_of (hr.mono (by decide)) (by rfl) (pa_cons (pv 0) (pa_cons (pv 1) pa_nil))) pa_nil)) pa_nil)))))), ?_⟩
    refine ⟨_, rfl, n, rfl, h2, h6, _, rfl, z, rfl, lo, by omega, fun H1 s1 => ⟨_, rfl, ?_⟩⟩
    refine iteF ?_
    refine ⟨_, rfl, _, rfl, n, z, rfl, by omega, by omega, by omega, fun a H2 na s2 ea => ?_⟩
    refine ⟨a, steps n (tl z), rfl, .inl (.inl ea), ?_, fun b ks fo nb => ⟨b, ks, rfl, upd_same, fun ys p py so np => ?_⟩⟩
    · rw [steps_len, ← len_tl]; omega
    · refine q p _ ys ?_ ?_ (.of py so fo) upd_same
      · exact (s1.trans s2).free ((same_upd nb).free np)
      · exact ((s1.trans s2).trans (same_upd nb)).trans (same_upd np)
abbrev st_ring_windows : Stmt := topS 16
theorem sc_ring_windows : FnScope ["size", "ring"] ["size", "ring"] (defScope st_ring_windows) := ⟨rfl, rfl, rfl, by decide +kernel, rfl, by decide +kernel, by decide +kernel⟩
theorem pl_ring_windows : PlainB "ring_windows" st_ring_windows ["size", "ring"] := fun _ _ _ _ _ _ us hl => match us, hl with | [_, _], _ => rfl
def g_kb_ring_windows_ring_size {A : Type} : List A → List A → List A | [], [v0, v1] => [v1, v0] | _, _ => []
theorem kb_ring_windows_ring_size {K : PySem.W.Frag} : ∀ fd, (∃ kV doc pm an cdv ct, fd = PySem.W.fnOf "ring_windows" "ring_windows" (defArgs st_ring_windows) (defBody st_ring_windows) (defScope st_ring_windows) .none kV doc pm an cdv ct) → KBinds K fd ["size", "ring"] ["ring", "size"] g_kb_ring_windows_ring_size g_kb_ring_windows_ring_size := by
  rintro fd ⟨kV, doc, pm, an, cdv, ct, rfl⟩
  refine ⟨fun s us ws _ hl => ?_, fun r q => ?_⟩
  · match us, ws, hl with
    | [], [_, _], _ => exact .of_eq rfl
  · match r, q with
    | .nil, (.cons a0 (.cons a1 .nil)) => exact (.cons a1 (.cons a0 .nil))
    | .nil, .nil => exact .nil
    | .nil, (.cons _ .nil) => exact .nil
    | .nil, (.cons _ (.cons _ (.cons _ _))) => exact .nil
    | .cons _ _, _ => exact .nil
/-- the texts of n letters that are read round, ascending, each once -/
def spRWin : Sp := fun vs H Q _ => ∃ (n : Nat) (z : Str), vs = [.int n, .str z] ∧ 2 ≤ n ∧ n ≤ 6 ∧ Low z ∧ 1 ≤ z.length ∧ z.length ≤ 3000 ∧ ∀ p H' ys, H p = none → Same H H' → Up ys (turns n (tl z)) → H' p = some (.lst (ys.map V.str)) → Q (.ref p) H'
theorem low_unroll {z : Str} (lo : Low z) (h : 1 ≤ z.length) (m : Nat) : Low (mkS (unroll (tl z) m)) := by
  intro c hc
  rw [tl_mkS] at hc
  obtain ⟨i, hi⟩ := List.getElem?_of_mem hc
  have hl : 0 < (tl z).length := by rw [← len_tl]; omega
  have lt : i < (tl z).length + m := by
    have := (List.getElem?_eq_some_iff.mp hi).1
    rwa [unroll_len _ hl] at this
  rw [unroll_get _ hl _ _ lt] at hi
  exact lo c (List.mem_of_getElem? hi)
theorem ok_ring_windows (T : Top K mg "ring_windows" st_ring_windows) (D_check_size : Dn P w K mg base 3 "check_size" st_check_size ["size"] spCkSize) (D_check_ring : Dn P w K mg base 3 "check_ring" st_check_ring ["ring"] spCkRing)
    (D_windows_of : Dn P w K mg base 4 "windows_of" st_windows_of ["size", "text"] spWin) (D_unrolled : Dn P w K mg base 1 "unrolled" st_unrolled ["ring", "more"] spUnroll) : Dn P w K mg base 5 "ring_windows" st_ring_windows ["size", "ring"] spRWin := by
  refine dn_of T sc_ring_windows pl_ring_windows (fun vs H Q E h => ?_) fun f cdv A outer s H vs Q E hr h => ?_
  · obtain ⟨n, z, rfl, _⟩ := h; rfl
  · obtain ⟨n, z, rfl, h2, h6, lo, h1, hz, q⟩ := h
    refine ⟨_, (pss_cons (ps_expr (pe_fn D_check_size (hr.mono (by decide)) (by rfl) (pa_cons (pv 0) pa_nil)))
      (pss_cons (ps_expr (pe_fn D_check_ring (hr.mono (by decide)) (by rfl) (pa_cons (pv 1) pa_nil)))
      (pss_one (ps_ret (pe_fn D_windows_of (hr.mono (by decide)) (by rfl) (pa_cons (pv 0) (pa_cons (pe_fn D_unrolled (hr.mono (by decide)) (by rfl) (pa_cons (pv 1) (pa_cons (pe_op op_sub (pv 0) pe_int) pa_nil))) pa_nil))))))), ?_⟩
    refine ⟨_, rfl, n, rfl, h2, h6, _, rfl, z, rfl, lo, h1, by omega, fun H1 s1 => ?_⟩
    have hl : 0 < (tl z).length := by rw [← len_tl]; omega
    refine ⟨_, rfl, _, rfl, _, rfl, _, _, rfl, rfl, z, n - 1, ?_, h1, by omega, by omega, ?_⟩
    · show [V.str z, V.int ((n : Int) - 1)] = [V.str z, V.int ((n - 1 : Nat) : Int)]
      rw [show ((n : Int) - 1) = ((n - 1 : Nat) : Int) by omega]
    · refine ⟨n, _, rfl, h2, h6, low_unroll lo h1 _, ?_, fun p H' ys np s2 up e => ?_⟩
      · rw [len_mkS, unroll_len _ hl, ← len_tl]; omega
      · rw [tl_mkS, steps_unroll _ hl n (by omega)] at up
        exact q p H' ys (s1.free np) (s1.trans s2) up e
end
end Tx

set_option Elab.async false
set_option linter.all false
set_option maxRecDepth 100000
set_option maxHeartbeats 1000000
namespace Tx
open PySem PySem.Spec PyProof.Rows L2 TL
/-- the draws' list at p, at most n draws from it so far -/
def Src (H : Hp) (p : Addr) (n : Nat) : Prop := ∃ a b c : Int, H p = some (.lst [.int a, .int b, .int c]) ∧ 0 ≤ b ∧ b < 10 ^ 30 ∧ 0 ≤ c ∧ c ≤ n
/-- all but p is as it was -/
def But (p : Addr) (H H' : Hp) : Prop := ∀ b o, H b = some o → b ≠ p → H' b = some o
theorem But.refl {p : Addr} {H : Hp} : But p H H := fun _ _ e _ => e
theorem But.trans {p : Addr} {H H1 H2 : Hp} (a : But p H H1) (b : But p H1 H2) : But p H H2 := fun c o e n => b c o (a c o e n) n
theorem But.same {p : Addr} {H H1 H2 : Hp} (a : But p H H1) (b : Same H1 H2) : But p H H2 := fun c o e n => b c o (a c o e n)
theorem Same.but {p : Addr} {H H1 : Hp} (a : Same H H1) : But p H H1 := fun c o e _ => a c o e
theorem But.upd {p : Addr} {H : Hp} {o : HO} : But p H (upd H p o) := fun c u e n => by rw [upd_ne n]; exact e
theorem Src.same {H H' : Hp} {p : Addr} {n : Nat} (s : Src H p n) (k : Same H H') : Src H' p n := let ⟨a, b, c, e, r⟩ := s; ⟨a, b, c, k _ _ e, r⟩
theorem Src.mono {H : Hp} {p : Addr} {n m : Nat} (s : Src H p n) (h : n ≤ m) : Src H p m := let ⟨a, b, c, e, h1, h2, h3, h4⟩ := s; ⟨a, b, c, e, h1, h2, h3, by omega⟩
theorem Src.at {H : Hp} {p : Addr} {n : Nat} (s : Src H p n) : ∃ o, H p = some o := let ⟨_, _, _, e, _⟩ := s; ⟨_, e⟩
/-- a new object is none of what was -/
theorem But.free {p q : Addr} {H H' : Hp} (k : But p H H') (hp : ∃ o, H' p = some o) (h : H' q = none) : H q = none := by
  cases e : H q with
  | none => rfl
  | some o =>
    by_cases c : q = p
    · subst c; obtain ⟨u, hu⟩ := hp; rw [hu] at h; cases h
    · rw [k q o e c] at h; cases h
theorem Src.new {H : Hp} {p q : Addr} {n : Nat} {o : HO} (s : Src H p n) (h : H q = none) : Src (upd H q o) p n := s.same (same_upd h)
section
variable {P : Program} {w : World} {K : PySem.W.Frag} {mg : Str → Option Value} {base : Heap}
theorem fmod_bd {i j : Int} (h : 0 < j) : 0 ≤ i.fmod j ∧ i.fmod j < j := ⟨Int.fmod_nonneg_of_pos _ h, Int.fmod_lt_of_pos _ h⟩
theorem nat_lt {i : Int} {k : Nat} (h0 : 0 ≤ i) (h : i < 2 ^ k) : i.natAbs < 2 ^ k := by
  have e : (i.natAbs : Int) = i := Int.natAbs_of_nonneg h0
  have e2 : ((2 ^ k : Nat) : Int) = (2 : Int) ^ k := by rw [Int.natCast_pow]; rfl
  omega
theorem at0 {x y z : V} : atI [x, y, z] 0 = some x := rfl
theorem at1 {x y z : V} : atI [x, y, z] 1 = some y := rfl
theorem at2 {x y z : V} : atI [x, y, z] 2 = some z := rfl
abbrev st_law_pick : Stmt := topS 19
theorem sc_law_pick : FnScope ["source", "top", "found", "mixed"] ["source", "top"] (defScope st_law_pick) := ⟨rfl, rfl, rfl, by decide +kernel, rfl, by decide +kernel, by decide +kernel⟩
theorem pl_law_pick : PlainB "_law_pick" st_law_pick ["source", "top"] := fun _ _ _ _ _ _ us hl => match us, hl with | [_, _], _ => rfl
/-- a number below top -/
def spPick : Sp := fun vs H Q _ => ∃ (p : Addr) (top : Int) (n : Nat), vs = [.ref p, .int top] ∧ Src H p n ∧ n ≤ 1000000000 ∧ 1 ≤ top ∧ top ≤ 1000000000 ∧ ∀ r H', 0 ≤ r → r < top → Src H' p (n + 1) → But p H H' → Q (.int r) H'
theorem ok_law_pick (T : Top K mg "_law_pick" st_law_pick) (B : Bt mg) : Dn P w K mg base 1 "_law_pick" st_law_pick ["source", "top"] spPick := by
  refine dn_of T sc_law_pick pl_law_pick (fun vs H Q E h => ?_) fun f cdv A outer s H vs Q E hr h => ?_
  · obtain ⟨n, z, _, rfl, _⟩ := h; rfl
  · obtain ⟨p, top, n, rfl, ⟨a, b, c, e, b0, b1, c0, c1⟩, hn, t1, t2, q⟩ := h
    have sq : SqL K H p [.int a, .int b, .int c] := .inl (.inl e)
    refine ⟨_, (pss_cons (ps_if (pt_cmpR op_gt (pe_ix (ixK K rfl) (pv 0) pe_int (fun _ _ => rfl)) pe_int (nomark _)) (pss_cons (ps_set (i := 2) sc_law_pick.nd rfl (.inl rfl) (pe_op op_modN (pe_callTy call_int1 (by rfl) B.int (by decide +kernel) (pa_cons (pe_ix (ixK K rfl) (pv 0) pe_int (fun _ _ => rfl)) pa_nil)) (pv 1)))
      (pss_cons (ps_asg (pe_op op_fdivN (pe_ix (ixK K rfl) (pv 0) pe_int (fun _ _ => rfl)) (pv 1)) (pg_sub (pv 0) pe_int set_list))
      (pss_one (ps_ret (pv 2))))) pss_nil)
      (pss_cons (ps_asg (pe_op op_add (pe_ix (ixK K rfl) (pv 0) pe_int (fun _ _ => rfl)) pe_int) (pg_sub (pv 0) pe_int set_list))
      (pss_cons (ps_set (i := 3) sc_law_pick.nd rfl (.inl rfl) (pe_op op_modN (pe_callTy call_int1 (by rfl) B.int (by decide +kernel) (pa_cons (pe_op op_add (pe_op op_add (pe_ix (ixK K rfl) (pv 0) pe_int (fun _ _ => rfl)) (pe_op op_mulW (pe_op op_mulW pe_int (pe_ix (ixK K rfl) (pv 0) pe_int (fun _ _ => rfl))) (pe_ix (ixK K rfl) (pv 0) pe_int (fun _ _ => rfl)))) (pe_op op_mulW pe_int (pe_ix (ixK K rfl) (pv 0) pe_int (fun _ _ => rfl)))) pa_nil)) (pe_op op_add (pe_op op_pow pe_int pe_int) pe_int)))
      (pss_cons (ps_set (i := 3) sc_law_pick.nd rfl (.inl rfl) (pe_op op_modN (pe_callTy call_int1 (by rfl) B.int (by decide +kernel) (pa_cons (pe_op op_add (pe_op op_mulW (pe_op op_mulW (pv 3) (pv 3)) (pv 3)) (pe_ix (ixK K rfl) (pv 0) pe_int (fun _ _ => rfl))) pa_nil)) (pe_op op_add (pe_op op_pow pe_int pe_int) pe_int)))
      (pss_one (ps_ret (pe_op op_modN (pe_op op_fdivN (pe_op op_modN (pe_callTy call_int1 (by rfl) B.int (by decide +kernel) (pa_cons (pe_op op_mulW (pv 3) (pe_op op_add (pv 3) pe_int)) pa_nil)) (pe_op op_add (pe_op op_pow pe_int pe_int) pe_int)) pe_int) (pv 1)))))))), ?_⟩
    refine ⟨_, rfl, p, _, _, _, rfl, rfl, sq, at0, _, _, rfl, rfl, _, rfl, ?_⟩
    refine ite2 (fun ha => ?_) fun ha => ?_
    · refine ⟨_, rfl, p, _, _, _, rfl, rfl, sq, at0, .inl ⟨_, rfl, _, rfl, _, _, rfl, rfl, by omega, ?_⟩⟩
      refine ⟨_, rfl, p, _, _, _, rfl, rfl, sq, at0, _, rfl, _, _, rfl, rfl, ⟨by omega, by omega⟩, _, rfl, p, _, _, 0, rfl, rfl, e, rfl, _, rfl, ?_⟩
      have m := fmod_bd (i := a) (j := top) (by omega)
      exact q _ _ m.1 m.2 ⟨_, b, c, upd_same, b0, b1, c0, by omega⟩ But.upd
    · refine ⟨_, rfl, p, _, _, _, rfl, rfl, sq, at2, _, _, rfl, rfl, _, rfl, p, _, _, 2, rfl, rfl, e, rfl, ?_⟩
      have e1 : (upd H p (.lst ([V.int a, .int b, .int c].set 2 (.int (c + 1))))) p = some (.lst [V.int a, .int b, .int (c + 1)]) := upd_same
      have sq1 : SqL K (upd H p (.lst ([V.int a, .int b, .int c].set 2 (.int (c + 1))))) p [V.int a, .int b, .int (c + 1)] := .inl (.inl e1)
      have lc : (c + 1).natAbs < 2 ^ 31 := nat_lt (by omega) (by omega)
      refine ⟨_, rfl, p, _, _, _, rfl, rfl, sq1, at1, _, rfl, p, _, _, _, rfl, rfl, sq1, at2, _, _, rfl, rfl, ?w1, _, rfl, p, _, _, _, rfl, rfl, sq1, at2, _, _, rfl, rfl, ?w2, _, _, rfl, rfl,
        _, rfl, p, _, _, _, rfl, rfl, sq1, at2, _, _, rfl, rfl, ?w3, _, _, rfl, rfl, .inl ⟨_, rfl, _, _, rfl, rfl, ⟨by decide, by decide, by decide⟩, _, _, rfl, rfl, _, _, rfl, rfl, show (10 : Int) ^ Int.toNat 29 + 319 ≠ 0 by decide, ?_⟩⟩
      case w1 => exact wide_mul (a := 40) (by decide) lc (by decide) (by decide) (by decide)
      case w2 => exact wide_mul (a := 71) (wide_lt (a := 40) (by decide) lc) lc (by decide) (by decide) (by decide)
      case w3 => exact wide_mul (a := 40) (by decide) lc (by decide) (by decide) (by decide)
      dsimp only
      generalize hx : Int.fmod _ ((10 : Int) ^ Int.toNat 29 + 319) = x
      have bx : 0 ≤ x ∧ x < 10 ^ 29 + 319 := by rw [← hx]; exact fmod_bd (by decide)
      have lx : x.natAbs < 2 ^ 100 := nat_lt bx.1 (Int.lt_trans bx.2 (by decide))
      refine ⟨_, rfl, _, rfl, _, _, rfl, rfl, wide_mul (a := 100) (b := 100) lx lx (by decide) (by decide) (by decide), _, rfl, _, _, rfl, rfl, wide_mul (a := 200) (b := 100) (wide_lt (a := 100) (b := 100) lx lx) lx (by decide) (by decide) (by decide),
        _, rfl, p, _, _, _, rfl, rfl, sq1, at2, _, _, rfl, rfl, .inl ⟨_, rfl, _, _, rfl, rfl, ⟨by decide, by decide, by decide⟩, _, _, rfl, rfl, _, _, rfl, rfl, show (10 : Int) ^ Int.toNat 31 + 33 ≠ 0 by decide, ?_⟩⟩
      dsimp only
      generalize hy : Int.fmod _ ((10 : Int) ^ Int.toNat 31 + 33) = y
      have byy : 0 ≤ y ∧ y < 10 ^ 31 + 33 := by rw [← hy]; exact fmod_bd (by decide)
      have ly : y.natAbs < 2 ^ 110 := nat_lt byy.1 (Int.lt_trans byy.2 (by decide))
      have ly2 : (y + 104717).natAbs < 2 ^ 110 := nat_lt (by omega) (Int.lt_trans (show y + 104717 < 10 ^ 31 + 33 + 104717 by omega) (by decide))
      refine ⟨_, rfl, _, rfl, _, _, rfl, rfl, _, _, rfl, rfl, wide_mul (a := 110) (b := 110) ly ly2 (by decide) (by decide) (by decide), .inl ⟨_, rfl, _, _, rfl, rfl, ⟨by decide, by decide, by decide⟩, _, _, rfl, rfl, _, _, rfl, rfl, show (10 : Int) ^ Int.toNat 32 + 49 ≠ 0 by decide,
        _, _, rfl, rfl, ⟨by decide, by decide⟩, _, rfl, _, _, rfl, rfl, by omega, ?_⟩⟩
      dsimp only
      generalize Int.fdiv _ 7907 = r
      have m := fmod_bd (i := r) (j := top) (by omega)
      exact q _ _ m.1 m.2 ⟨a, b, c + 1, upd_same, b0, b1, by omega, by omega⟩ But.upd
end
end Tx

set_option Elab.async false
set_option linter.all false
set_option maxRecDepth 100000
set_option maxHeartbeats 1000000
namespace Tx
open PySem PySem.Spec PyProof.Rows L2 TL
/-- a conditional value: whatever it is -/
theorem if_any {P : V → Prop} {t : TT} {ta tb : TE} {σ : L2.St} {H : Hp} {Q : VK} (b : Bool) (ht : ∀ R : Bool → Hp → Prop, R b H → t σ H R) (ha : b = true → ∀ Q : VK, (∀ v, P v → Q v H) → ta σ H Q)
    (hb : b = false → ∀ Q : VK, (∀ v, P v → Q v H) → tb σ H Q) (q : ∀ v, P v → Q v H) : tIf t ta tb σ H Q := by
  refine ht _ ?_
  cases b with
  | true => exact iteT (ha rfl Q q)
  | false => exact iteF (hb rfl Q q)
theorem ints_flat (ns : List Int) {i : Nat} {x : V} (h : (ns.map V.int)[i]? = some x) : ∃ z, x = V.int z := by
  rw [List.getElem?_map] at h
  cases e : ns[i]? with
  | none => rw [e] at h; cases h
  | some z => rw [e] at h; exact ⟨z, (Option.some.inj h).symm⟩
theorem str_e : Str.ofString "" = ⟨#[]⟩ := by decide +kernel
theorem joinL_nil : ∀ ps : List (List Nat), TL.joinL [] ps = ps.flatten
  | [] => rfl
  | [p] => by show p = _; simp
  | p :: q :: r => by
    show p ++ ([] ++ TL.joinL [] (q :: r)) = _
    rw [joinL_nil (q :: r), List.nil_append]
    simp
theorem join_e (ys : List Str) : Txt.join (Str.ofString "") ys = mkS (ys.map tl).flatten := by
  refine ext_tl ?_
  rw [TL.join_eq, TL.tl_join, str_e]
  exact joinL_nil _
theorem sum_one (l : List Nat) : ((l.map fun c => (⟨#[c]⟩ : Str)).map (·.length)).sum = l.length := by
  induction l with
  | nil => rfl
  | cons c l ih => rw [List.map_cons, List.map_cons, List.sum_cons, ih, List.length_cons]; show 1 + _ = _; omega
theorem flat_one (l : List Nat) : ((l.map fun c => (⟨#[c]⟩ : Str)).map tl).flatten = l := by
  induction l with
  | nil => rfl
  | cons c l ih => rw [List.map_cons, List.map_cons, List.flatten_cons, ih]; rfl
theorem atI_pos {A : Type} {xs : List A} {i : Int} {x : A} (h0 : 0 ≤ i) (h : xs[i.toNat]? = some x) : atI xs i = some x := by
  have lt := (List.getElem?_eq_some_iff.mp h).1
  unfold atI ixN
  rw [if_pos h0, if_pos (by omega)]
  exact h
/-- what a text of draws is made of -/
def Lets (L : Str) : Prop := Low L ∧ 1 ≤ L.length ∧ L.length ≤ 26
section
variable {P : Program} {w : World} {K : PySem.W.Frag} {mg : Str → Option Value} {base : Heap}
abbrev st_law_source : Stmt := topS 18
theorem sc_law_source : FnScope ["script", "k", "cell", "total", "other"] ["script", "k"] (defScope st_law_source) := ⟨rfl, rfl, rfl, by decide +kernel, rfl, by decide +kernel, by decide +kernel⟩
theorem pl_law_source : PlainB "_law_source" st_law_source ["script", "k"] := fun _ _ _ _ _ _ us hl => match us, hl with | [_, _], _ => rfl
def spSource (K : PySem.W.Frag) : Sp := fun vs H Q _ => ∃ (a : Addr) (ns : List Int) (k : Nat), vs = [.ref a, .int k] ∧ SqL K H a (ns.map V.int) ∧ ns.length ≤ 63 ∧ k ≤ 100 ∧ ∀ p H', H p = none → Same H H' → Src H' p 0 → Q (.ref p) H'
theorem ok_law_source (T : Top K mg "_law_source" st_law_source) (B : Bt mg) : Dn P w K mg base 1 "_law_source" st_law_source ["script", "k"] (spSource K) := by
  refine dn_of T sc_law_source pl_law_source (fun vs H Q E h => ?_) fun f cdv A outer s H vs Q E hr h => ?_
  · obtain ⟨a, ns, k, rfl, _⟩ := h; rfl
  · obtain ⟨a, ns, k, rfl, sq, hn, hk, q⟩ := h
    refine ⟨_, (pss_cons (ps_set (i := 2) sc_law_source.nd rfl (.inl rfl) (pe_ifExp (pt_cmpR op_lt (pv 1) (pe_callB (lenK K rfl) (by rfl) B.len (by decide +kernel) (pa_cons (pv 0) pa_nil)) (nomark _)) (pe_ix (ixK K rfl) (pv 0) (pv 1) (fun _ _ => rfl)) (pe_op op_add (pe_op op_mul pe_int (pv 1)) pe_int)))
      (pss_cons (ps_set (i := 3) sc_law_source.nd rfl (.inl rfl) (pe_callB (lenK K rfl) (by rfl) B.len (by decide +kernel) (pa_cons (pv 0) pa_nil)))
      (pss_cons (ps_for PassesOwn.never rfl (pi_list (pv 0)) (pg_name (i := 4) sc_law_source.nd rfl (.inl rfl)) (pss_one (ps_set (i := 3) sc_law_source.nd rfl (.inl rfl) (pe_op op_modN (pe_callTy call_int1 (by rfl) B.int (by decide +kernel) (pa_cons (pe_op op_add (pe_op op_mul (pv 3) pe_int) (pe_op op_modN (pe_callTy call_int1 (by rfl) B.int (by decide +kernel) (pa_cons (pv 4) pa_nil)) (pe_op op_add (pe_op op_pow pe_int pe_int) pe_int))) pa_nil)) (pe_op op_add (pe_op op_pow pe_int pe_int) pe_int)))))
      (pss_one (ps_ret (pe_lst (pa_cons (pe_callB (call_max2 rfl) (by rfl) B.max (by decide +kernel) (pa_cons pe_int (pa_cons (pe_op op_sub (pv 2) (pe_op op_pow pe_int pe_int)) pa_nil))) (pa_cons (pe_op op_modN (pe_callTy call_int1 (by rfl) B.int (by decide +kernel) (pa_cons (pe_op op_add (pe_op op_add (pe_op op_add (pe_op op_mul (pe_callB call_abs (by rfl) B.abs (by decide +kernel) (pa_cons (pv 2) pa_nil)) pe_int) (pe_op op_mul pe_int (pv 3))) (pe_callTy call_int1 (by rfl) B.int (by decide +kernel) (pa_cons (pe_cmpR op_lt (pv 2) pe_int (nomark _)) pa_nil))) (pe_op op_mul pe_int (pv 1))) pa_nil)) (pe_op op_add (pe_op op_pow pe_int pe_int) pe_int)) (pa_cons pe_int pa_nil))))))))), ?_⟩
    refine if_any (P := fun v => ∃ x, v = V.int x) (decide ((k : Int) < ((ns.map V.int).length : Int))) (fun R r => ⟨_, rfl, _, rfl, a, _, rfl, .inl sq, _, _, rfl, rfl, _, rfl, r⟩) (fun lt Q' q' => ?_) (fun _ Q' q' => ⟨_, rfl, _, _, rfl, rfl, .inl ⟨by decide, by decide⟩, _, _, rfl, rfl, q' _ ⟨_, rfl⟩⟩) fun v ⟨x, ex⟩ => ?_
    · have lt := of_decide_eq_true lt
      rw [List.length_map] at lt
      have e : (ns.map V.int)[k]? = some (V.int (ns[k]'(by omega))) := by rw [List.getElem?_map, List.getElem?_eq_getElem (by omega)] <;> rfl
      exact ⟨_, rfl, _, rfl, a, _, _, _, rfl, rfl, sq, atI_pos (by omega) e, q' _ ⟨_, rfl⟩⟩
    · subst ex
      refine ⟨_, rfl, a, _, rfl, .inl sq, ?_⟩
      refine ⟨_, rfl, a, rfl, ⟨_, sq⟩, for_list (K := K) (a := a) (xs := ns.map V.int) (fun i σ H' => H' = H ∧ ∃ t o, σ = [some (.ref a), some (.int k), some (.int x), some (.int t), o]) ⟨rfl, _, none, rfl⟩ (fun _ _ _ _ h => by rw [h.1]; exact sq) (fun i y σ H' hi ⟨eH, t, o, eσ⟩ => ?_) fun σ H' ⟨eH, t, o, eσ⟩ => ?_⟩
      · subst eH eσ
        obtain ⟨z, rfl⟩ := ints_flat ns hi
        refine ⟨_, rfl, _, _, rfl, rfl, .inr ⟨by decide, by decide⟩, _, rfl, .inl ⟨_, rfl, _, _, rfl, rfl, ⟨by decide, by decide, by decide⟩, _, _, rfl, rfl, _, _, rfl, rfl, show (10 : Int) ^ Int.toNat 20 + 39 ≠ 0 by decide,
          _, _, rfl, rfl, .inl ⟨_, rfl, _, _, rfl, rfl, ⟨by decide, by decide, by decide⟩, _, _, rfl, rfl, _, _, rfl, rfl, show (10 : Int) ^ Int.toNat 26 + 67 ≠ 0 by decide, ?_⟩⟩⟩
        exact ⟨rfl, _, _, rfl⟩
      · subst eH eσ
        refine ⟨_, rfl, _, _, rfl, rfl, ⟨by decide, by decide, by decide⟩, _, _, rfl, rfl, _, _, rfl, ?_⟩
        refine ⟨_, rfl, _, rfl, _, _, rfl, rfl, .inr ⟨by decide, by decide⟩, _, rfl, _, _, rfl, rfl, .inl ⟨by decide, by decide⟩, _, _, rfl, rfl, _, rfl, _, _, rfl, rfl, .inr ⟨_, rfl, _, _, rfl, rfl,
          _, rfl, _, _, rfl, rfl, .inl ⟨by decide, by decide⟩, _, _, rfl, rfl, .inl ⟨_, rfl, _, _, rfl, rfl, ⟨by decide, by decide, by decide⟩, _, _, rfl, rfl, _, _, rfl, rfl, show (10 : Int) ^ Int.toNat 29 + 319 ≠ 0 by decide, ?_⟩⟩⟩
        refine ⟨by show 3 ≤ sizeLine; decide, fun p np => q p _ np (same_upd np) ⟨_, _, 0, upd_same, ?_, ?_, by decide, by decide⟩⟩
        · exact (fmod_bd (by decide)).1
        · exact Int.lt_trans (fmod_bd (by decide)).2 (by decide)
abbrev st_law_letters : Stmt := topS 20
theorem sc_law_letters : FnScope ["source", "menu"] ["source"] (defScope st_law_letters) := ⟨rfl, rfl, rfl, by decide +kernel, rfl, by decide +kernel, by decide +kernel⟩
theorem pl_law_letters : PlainB "_law_letters" st_law_letters ["source"] := fun _ _ _ _ _ _ us hl => match us, hl with | [_], _ => rfl
def spLetters : Sp := fun vs H Q _ => ∃ (p : Addr) (n : Nat), vs = [.ref p] ∧ Src H p n ∧ n ≤ 100000000 ∧ ∀ L H', Lets L → Src H' p (n + 1) → But p H H' → Q (.str L) H'
def menu : List Str := ["ab", "abc", "acgt", "zyxa", "abcdef", "abcdefghijklmnopqrstuvwxyz", "ab", "abcd", "acgt", "bz", "cab", "a"]
def letsB (L : Str) : Bool := ((tl L).all fun c => decide (97 ≤ c ∧ c ≤ 122)) && decide (1 ≤ L.length ∧ L.length ≤ 26)
theorem lets_of {L : Str} (h : letsB L = true) : Lets L := by
  unfold letsB at h
  rw [Bool.and_eq_true, List.all_eq_true] at h
  have h2 := of_decide_eq_true h.2
  exact ⟨fun c hc => of_decide_eq_true (h.1 c hc), h2⟩
theorem menu_ok : menu.all letsB = true := by decide +kernel
theorem ok_law_letters (T : Top K mg "_law_letters" st_law_letters) (D_law_pick : Dn P w K mg base 1 "_law_pick" st_law_pick ["source", "top"] spPick) : Dn P w K mg base 2 "_law_letters" st_law_letters ["source"] spLetters := by
  refine dn_of T sc_law_letters pl_law_letters (fun vs H Q E h => ?_) fun f cdv A outer s H vs Q E hr h => ?_
  · obtain ⟨a, ns, rfl, _⟩ := h; rfl
  · obtain ⟨p, n, rfl, sr, hn, q⟩ := h
    refine ⟨_, (pss_cons (ps_set (i := 1) sc_law_letters.nd rfl (.inl rfl) (pe_lst (pa_cons pe_str (pa_cons pe_str (pa_cons pe_str (pa_cons pe_str (pa_cons pe_str (pa_cons pe_str (pa_cons pe_str (pa_cons pe_str (pa_cons pe_str (pa_cons pe_str (pa_cons pe_str (pa_cons pe_str pa_nil))))))))))))))
      (pss_one (ps_ret (pe_ix (ixK K rfl) (pv 1) (pe_fn D_law_pick (hr.mono (by decide)) (by rfl) (pa_cons (pv 0) (pa_cons pe_int pa_nil))) (fun _ _ => rfl))))), ?_⟩
    refine ⟨by show 12 ≤ sizeLine; decide, fun m nm => ?_⟩
    refine ⟨_, rfl, _, rfl, p, 12, n, rfl, sr.new nm, by omega, by decide, by decide, fun r H' r0 r1 sr' bt => ?_⟩
    obtain ⟨o, eo⟩ := sr.at
    have em : H' m = some (.lst (menu.map V.str)) := bt m _ upd_same (ne_of_none eo nm).symm
    obtain ⟨L, eL⟩ : ∃ L, menu[r.toNat]? = some L := ⟨_, List.getElem?_eq_getElem (show r.toNat < menu.length by show _ < 12; omega)⟩
    refine ⟨m, menu.map V.str, r, V.str L, rfl, rfl, .inl (.inl em), atI_pos r0 ?_, ?_⟩
    · rw [List.getElem?_map, eL]; rfl
    · exact q L H' (lets_of (List.all_eq_true.mp menu_ok L (List.mem_of_getElem? eL))) sr' (But.trans (Same.but (same_upd nm)) bt)
abbrev st_law_word : Stmt := topS 21
theorem sc_law_word : FnScope ["source", "letters", "size", "at"] ["source", "letters", "size"] (defScope st_law_word) := ⟨rfl, rfl, rfl, by decide +kernel, rfl, by decide +kernel, by decide +kernel⟩
theorem pl_law_word : PlainB "_law_word" st_law_word ["source", "letters", "size"] := fun _ _ _ _ _ _ us hl => match us, hl with | [_, _, _], _ => rfl
def spWord : Sp := fun vs H Q _ => ∃ (p : Addr) (L : Str) (k n : Nat), vs = [.ref p, .str L, .int k] ∧ Src H p n ∧ Lets L ∧ k ≤ 100000 ∧ n ≤ 100000000 ∧ ∀ z H', z.length = k → Low z → Src H' p (n + k) → But p H H' → Q (.str z) H'
theorem But.mk {p D : Addr} {H H1 : Hp} {o : HO} (a : But p H H1) (h : H D = none) : But p H (L2.upd H1 D o) := fun b u e n => by
  rw [upd_ne (ne_of_none e h)]; exact a b u e n
theorem ok_law_word (T : Top K mg "_law_word" st_law_word) (B : Bt mg) (D_law_pick : Dn P w K mg base 1 "_law_pick" st_law_pick ["source", "top"] spPick) : Dn P w K mg base 2 "_law_word" st_law_word ["source", "letters", "size"] spWord := by
  refine dn_of T sc_law_word pl_law_word (fun vs H Q E h => ?_) fun f cdv A outer s H vs Q E hr h => ?_
  · obtain ⟨a, ns, _, _, rfl, _⟩ := h; rfl
  · obtain ⟨p, L, k, n, rfl, sr, ⟨lo, l1, l2⟩, hk, hn, q⟩ := h
    refine ⟨_, (pss_one (ps_ret (joinK K rfl pe_str (pe_lc (own := [("at", 3)]) (g := gName 3) rfl sc_law_word.nd (pi_range1 (by rfl) B.range (pa_cons (pv 2) pa_nil)) (blkOk_by (N := ["source", "letters", "size", "at"]) (sc := defScope st_law_word) (by decide +kernel)) (fun _ _ _ _ _ => pg_name (i := 3) sc_law_word.nd rfl (.inl rfl)) (fun _ _ _ _ _ => pts_nil) (fun _ _ _ _ _ => (pe_ix ix_str (pv 1) (pe_fn D_law_pick (hr.mono (by decide)) (by rfl) (pa_cons (pv 0) (pa_cons (pe_callB call_len_str (by rfl) B.len (by decide +kernel) (pa_cons (pv 1) pa_nil)) pa_nil))) (fun _ _ => rfl))))))), ?_⟩
    refine ⟨⟨_, rfl⟩, _, rfl, _, rfl, by omega, by omega, fun D hD => ?_⟩
    obtain ⟨o, eo⟩ := sr.at
    have ne : D ≠ p := (ne_of_none eo hD).symm
    rw [Int.toNat_natCast]
    refine lc_range (fun i H' => Src H' p (n + i) ∧ But p H H' ∧ ∃ l : List Nat, l.length = i ∧ (∀ c ∈ l, 97 ≤ c ∧ c ≤ 122) ∧ H' D = some (.lst ((l.map fun c => (⟨#[c]⟩ : Str)).map V.str))) ?_ (fun i H' hi ⟨sr', bt, l, el, hl, eD⟩ => ?_) fun H' ⟨sr', bt, l, el, hl, eD⟩ => ?_
    · exact ⟨sr.new hD, But.refl.mk hD, [], rfl, (fun c z => by cases z), upd_same⟩
    · refine ⟨rfl, lc_yes ?_⟩
      refine ⟨_, rfl, _, rfl, _, rfl, _, rfl, Nat.le_trans l2 (by decide), p, L.length, n + i, rfl, sr', by omega, by omega, by omega, fun r H2 r0 r1 sr2 bt2 => ?_⟩
      have lt : r.toNat < (tl L).length := by rw [← len_tl]; omega
      refine ⟨L, r, (tl L)[r.toNat], rfl, rfl, Nat.le_trans l2 (by decide), atI_pos r0 (List.getElem?_eq_getElem lt), _, bt2 _ _ eD ne, ?_, ?_⟩
      · rw [List.length_map, List.length_map, el]; exact Nat.lt_of_lt_of_le (show i < 100000 by omega) (by decide)
      · refine ⟨?_, (bt.trans bt2).mk hD, l ++ [(tl L)[r.toNat]], by rw [List.length_append, el]; rfl, fun c hc => ?_, ?_⟩
        · obtain ⟨a, b, c, e, rest⟩ := sr2
          exact ⟨a, b, c, by rw [upd_ne ne.symm]; exact e, rest⟩
        · rcases List.mem_append.mp hc with hc | hc
          · exact hl c hc
          · rw [List.mem_singleton.mp hc]; exact lo _ (List.getElem_mem lt)
        · rw [upd_same, List.map_append, List.map_append]; rfl
    · refine ⟨Str.ofString "", D, l.map fun c => (⟨#[c]⟩ : Str), rfl, rfl, .inl (.inl (.inl eD)), ?_, ?_⟩
      · rw [sum_one, el, str_e]; show k + _ * 0 ≤ _; omega
      · rw [join_e, flat_one]
        exact q (mkS l) H' (by rw [len_mkS, el]) hl sr' bt
abbrev st_law_round : Stmt := topS 22
theorem sc_law_round : FnScope ["size", "ring", "beads", "at", "more"] ["size", "ring"] (defScope st_law_round) := ⟨rfl, rfl, rfl, by decide +kernel, rfl, by decide +kernel, by decide +kernel⟩
theorem pl_law_round : PlainB "_law_round" st_law_round ["size", "ring"] := fun _ _ _ _ _ _ us hl => match us, hl with | [_, _], _ => rfl
def spRound : Sp := fun vs H Q _ => ∃ (n : Nat) (z : Str), vs = [.int n, .str z] ∧ n ≤ 1000 ∧ z.length ≤ 100000 ∧ ∀ p H', H p = none → Same H H' → H' p = some (.lst ((turns n (tl z)).map V.str)) → Q (.ref p) H'
theorem ok_law_round (T : Top K mg "_law_round" st_law_round) (B : Bt mg) : Dn P w K mg base 1 "_law_round" st_law_round ["size", "ring"] spRound := by
  refine dn_of T sc_law_round pl_law_round (fun vs H Q E h => ?_) fun f cdv A outer s H vs Q E hr h => ?_
  · obtain ⟨a, ns, rfl, _⟩ := h; rfl
  · obtain ⟨n, z, rfl, hn, hz, q⟩ := h
    have sl : z.length ≤ sizeLine := Nat.le_trans hz (by decide)
    refine ⟨_, (pss_cons (ps_set (i := 2) sc_law_round.nd rfl (.inr rfl) (pe_callB call_len_str (by rfl) B.len (by decide +kernel) (pa_cons (pv 1) pa_nil)))
      (pss_one (ps_ret (pe_lc (own := [("at", 3)]) (g := gName 3) rfl sc_law_round.nd (pi_range1 (by rfl) B.range (pa_cons (pv 2) pa_nil)) (blkOk_by (N := ["size", "ring", "beads", "at", "more"]) (sc := defScope st_law_round) (by decide +kernel)) (fun _ _ _ _ _ => pg_name (i := 3) sc_law_round.nd rfl (.inr rfl)) (fun _ _ _ _ _ => pts_nil) (fun _ _ _ _ _ => (joinK K rfl pe_str (pe_lc (own := [("more", 4)]) (g := gName 4) rfl sc_law_round.nd (pi_range1 (by rfl) B.range (pa_cons (pv 0) pa_nil)) (blkOk_by (N := ["size", "ring", "beads", "at", "more"]) (sc := { kind := .function, names := [(".0", .local), ("at", .cell), ("range", .globalImplicit), ("beads", .cell), ("ring", .cell), ("size", .cell)], isGenerator := false, isCoroutine := false }) (by decide +kernel)) (fun _ _ _ _ _ => pg_name (i := 4) sc_law_round.nd rfl (.inl rfl)) (fun _ _ _ _ _ => pts_nil) (fun _ _ _ _ _ => (pe_ix ix_str (pv 1) (pe_op op_modN (pe_callTy call_int1 (by rfl) B.int (by decide +kernel) (pa_cons (pe_op op_add (pv 3) (pv 4)) pa_nil)) (pv 2)) (fun _ _ => rfl)))))))))), ?_⟩
    refine ⟨_, rfl, _, rfl, sl, _, rfl, _, rfl, by omega, by omega, fun D hD => ?_⟩
    rw [Int.toNat_natCast]
    let g : Nat → Nat → Nat := fun a k => (tl z).getD ((a + k) % (tl z).length) 0
    refine lc_range (fun i H' => Same H H' ∧ H' D = some (.lst ((List.range i).map fun a => V.str (mkS ((List.range n).map (g a)))))) ⟨same_upd hD, upd_same⟩ (fun i H' hi ⟨sm, e⟩ => ?_) fun H' ⟨sm, e⟩ => ?_
    · refine ⟨rfl, lc_yes ?_⟩
      refine ⟨⟨_, rfl⟩, _, rfl, _, rfl, by omega, by omega, fun D2 hD2 => ?_⟩
      rw [Int.toNat_natCast]
      have hl : 0 < (tl z).length := by rw [← len_tl]; omega
      refine lc_range (fun j H2 => Same H' H2 ∧ H2 D2 = some (.lst ((List.range j).map fun k => V.str ⟨#[g i k]⟩))) ⟨same_upd hD2, upd_same⟩ (fun j H2 hj ⟨sm2, e2⟩ => ?_) fun H2 ⟨sm2, e2⟩ => ?_
      · refine ⟨rfl, lc_yes ?_⟩
        have lt := Nat.mod_lt (i + j) hl
        have em : (((0 : Int) + (i : Int)) + ((0 : Int) + (j : Int))).fmod (z.length : Int) = (((i + j) % (tl z).length : Nat) : Int) := by
          rw [Int.fmod_eq_emod_of_nonneg _ (by omega), len_tl, show ((0 : Int) + (i : Int)) + ((0 : Int) + (j : Int)) = ((i + j : Nat) : Int) by omega]; rfl
        refine ⟨_, rfl, _, rfl, _, rfl, _, _, rfl, rfl, .inl ⟨_, rfl, _, rfl, _, _, rfl, rfl, by omega, z, _, g i j, rfl, rfl, sl, ?_, _, e2, grown_len _ hj (by omega), wr sm2 hD2, ?_⟩⟩
        · rw [em]
          refine atI_pos (by omega) ?_
          rw [Int.toNat_natCast]
          show _ = some ((tl z).getD ((i + j) % (tl z).length) 0)
          rw [List.getD_eq_getElem?_getD, List.getElem?_eq_getElem lt]; rfl
        · rw [upd_same, grown fun k => V.str ⟨#[g i k]⟩]
      · refine ⟨Str.ofString "", D2, ((List.range n).map (g i)).map fun c => (⟨#[c]⟩ : Str), rfl, rfl, .inl (.inl (.inl ?_)), ?_, ?_⟩
        · rw [e2, List.map_map, List.map_map]; rfl
        · rw [sum_one, List.length_map, List.length_range, str_e]; show n + _ * 0 ≤ _; omega
        · rw [join_e, flat_one]
          refine ⟨_, sm2 _ _ e, grown_len _ hi (by omega), wr (sm.trans sm2) hD, ?_⟩
          rw [upd_same, grown fun a => V.str (mkS ((List.range n).map (g a)))]
    · refine q D H' hD sm ?_
      rw [e, len_tl]
      unfold turns
      rw [List.map_map]
      rfl
end
end Tx

set_option Elab.async false
set_option linter.all false
set_option maxRecDepth 100000
set_option maxHeartbeats 1000000
namespace Tx
open PySem PySem.Spec PyProof.Rows L2 TL
theorem cutS_ij (z : Str) (i j : Nat) (h : i ≤ j) (hj : j ≤ z.length) : cutS z (some (i : Int)) (some (j : Int)) = mkS (cut (tl z) i (j - i)) := by
  have e := cutS_mid z i (j - i) (by omega)
  rw [show ((i : Int) + ((j - i : Nat) : Int)) = (j : Int) by omega] at e
  exact e
theorem low_app {x y : Str} (hx : Low x) (hy : Low y) : Low (x ++ y) := fun c hc => by
  rw [tl_append] at hc
  exact (List.mem_append.mp hc).elim (hx c) (hy c)
theorem len_app (x y : Str) : (x ++ y).length = x.length + y.length := by rw [len_tl, tl_append, List.length_append, ← len_tl, ← len_tl]
theorem low_mk {l : List Nat} {z : Str} (h : Low z) (k : ∀ c ∈ l, c ∈ tl z) : Low (mkS l) := fun c hc => h c (k c hc)
theorem low_take {z : Str} (h : Low z) (n : Nat) : Low (mkS ((tl z).take n)) := low_mk h fun _ hc => List.mem_of_mem_take hc
theorem low_cut {z : Str} (h : Low z) (i n : Nat) : Low (mkS (cut (tl z) i n)) := low_mk h fun _ hc => List.mem_of_mem_drop (List.mem_of_mem_take hc)
theorem len_take {z : Str} {n : Nat} (h : n ≤ z.length) : (mkS ((tl z).take n)).length = n := by rw [len_mkS, List.length_take, ← len_tl]; omega
theorem len_cut {z : Str} {i n : Nat} (h : i + n ≤ z.length) : (mkS (cut (tl z) i n)).length = n := by
  unfold cut
  rw [len_mkS, List.length_take, List.length_drop, ← len_tl]; omega
theorem low_one {L : Str} (h : Low L) {c : Nat} (hc : c ∈ tl L) : Low ⟨#[c]⟩ := fun d hd => by
  have e : d = c := List.mem_singleton.mp hd
  subst e; exact h d hc
theorem But.kept {p b : Addr} {o : HO} {H H' : Hp} (k : But p H H') (e : H b = some o) (n : b ≠ p) : H' b = some o := k b o e n
section
variable {P : Program} {w : World} {K : PySem.W.Frag} {mg : Str → Option Value} {base : Heap}
abbrev st_law_ring : Stmt := topS 23
theorem sc_law_ring : FnScope ["source", "letters", "most", "size", "kind", "words", "found", "at", "turn"] ["source", "letters", "most"] (defScope st_law_ring) := ⟨rfl, rfl, rfl, by decide +kernel, rfl, by decide +kernel, by decide +kernel⟩
theorem pl_law_ring : PlainB "_law_ring" st_law_ring ["source", "letters", "most"] := fun _ _ _ _ _ _ us hl => match us, hl with | [_, _, _], _ => rfl
/-- a ring text of draws -/
def spLRing : Sp := fun vs H Q _ => ∃ (p : Addr) (L : Str) (most n : Nat), vs = [.ref p, .str L, .int most] ∧ Src H p n ∧ Lets L ∧ 1 ≤ most ∧ most ≤ 2001 ∧ n ≤ 10000000 ∧
  ∀ z H', Low z → 1 ≤ z.length → z.length ≤ most → Src H' p (n + 10000) → But p H H' → Q (.str z) H'
theorem ok_law_ring (T : Top K mg "_law_ring" st_law_ring) (B : Bt mg) (D_law_pick : Dn P w K mg base 1 "_law_pick" st_law_pick ["source", "top"] spPick)
    (D_law_word : Dn P w K mg base 2 "_law_word" st_law_word ["source", "letters", "size"] spWord) : Dn P w K mg base 3 "_law_ring" st_law_ring ["source", "letters", "most"] spLRing := by
  refine dn_of T sc_law_ring pl_law_ring (fun vs H Q E h => ?_) fun f cdv A outer s H vs Q E hr h => ?_
  · obtain ⟨a, ns, _, _, rfl, _⟩ := h; rfl
  · obtain ⟨p, L, most, n, rfl, sr, LL, m1, m2, hn, q⟩ := h
    obtain ⟨lo, l1, l2⟩ := id LL
    have sL : L.length ≤ sizeLine := Nat.le_trans l2 (by decide)
    refine ⟨_, (pss_cons (ps_par (i := 3) (j := 4) (by rfl) sc_law_ring.nd rfl rfl (by decide) rfl rfl (pa_cons (pe_op op_add pe_int (pe_fn D_law_pick (hr.mono (by decide)) (by rfl) (pa_cons (pv 0) (pa_cons (pv 2) pa_nil)))) (pa_cons (pe_fn D_law_pick (hr.mono (by decide)) (by rfl) (pa_cons (pv 0) (pa_cons pe_int pa_nil))) pa_nil)) (by rfl))
      (pss_cons (ps_if (pt_cmpR op_lt (pv 4) pe_int (nomark _)) (pss_one (ps_ret (pe_fn D_law_word (hr.mono (by decide)) (by rfl) (pa_cons (pv 0) (pa_cons (pv 1) (pa_cons (pv 3) pa_nil)))))) pss_nil)
      (pss_cons (ps_setLc (i := 5) (own := [("turn", 8)]) (g := gName 8) rfl sc_law_ring.nd rfl rfl (sw_true rfl rfl rfl (by decide +kernel)) (pi_range1 (by rfl) B.range (pa_cons (pe_op op_add pe_int (pe_fn D_law_pick (hr.mono (by decide)) (by rfl) (pa_cons (pv 0) (pa_cons pe_int pa_nil)))) pa_nil)) (blkOk_by (N := ["source", "letters", "most", "size", "kind", "words", "found", "at", "turn"]) (sc := defScope st_law_ring) (by decide +kernel)) (fun _ _ _ _ _ => pg_name (i := 8) sc_law_ring.nd rfl (.inl rfl)) (fun _ _ _ _ _ => pts_nil) (fun _ _ _ _ _ => (pe_fn D_law_word (hr.mono (by decide)) (by rfl) (pa_cons (pv 0) (pa_cons (pv 1) (pa_cons (pe_op op_add pe_int (pe_fn D_law_pick (hr.mono (by decide)) (by rfl) (pa_cons (pv 0) (pa_cons pe_int pa_nil)))) pa_nil))))))
      (pss_cons (ps_set (i := 6) sc_law_ring.nd rfl (.inl rfl) pe_str)
      (pss_cons (ps_while PassesOwn.never (pt_cmpR op_lt (pe_callB call_len_str (by rfl) B.len (by decide +kernel) (pa_cons (pv 6) pa_nil)) (pv 3) (nomark _)) (pss_one (ps_set (i := 6) sc_law_ring.nd rfl (.inl rfl) (pe_op op_add_str (pv 6) (pe_ix (ixK K rfl) (pv 5) (pe_fn D_law_pick (hr.mono (by decide)) (by rfl) (pa_cons (pv 0) (pa_cons (pe_callB (lenK K rfl) (by rfl) B.len (by decide +kernel) (pa_cons (pv 5) pa_nil)) pa_nil))) (fun _ _ => rfl))))))
      (pss_cons (ps_set (i := 7) sc_law_ring.nd rfl (.inl rfl) (pe_fn D_law_pick (hr.mono (by decide)) (by rfl) (pa_cons (pv 0) (pa_cons (pv 3) pa_nil))))
      (pss_one (ps_ret (pe_ifExp (pt_cmpR op_eq (pv 4) pe_int (nomark _)) (pe_op op_add_str (pe_op op_add_str (pe_slice sl_str (pv 6) po_none (po_some (pv 7))) (pe_ix ix_str (pv 1) (pe_fn D_law_pick (hr.mono (by decide)) (by rfl) (pa_cons (pv 0) (pa_cons (pe_callB call_len_str (by rfl) B.len (by decide +kernel) (pa_cons (pv 1) pa_nil)) pa_nil))) (fun _ _ => rfl))) (pe_slice sl_str (pv 6) (po_some (pe_op op_add (pv 7) pe_int)) (po_some (pv 3)))) (pe_slice sl_str (pv 6) po_none (po_some (pv 3)))))))))))), ?_⟩
    refine ⟨_, rfl, _, rfl, p, most, n, rfl, sr, by omega, by omega, by omega, fun r1 H1 a0 a1 sr1 bt1 => ?_⟩
    refine ⟨_, _, rfl, rfl, _, rfl, p, 4, n + 1, rfl, sr1, by omega, by decide, by decide, fun kind H2 b0 b1 sr2 bt2 => ?_⟩
    refine ⟨_, _, rfl, ?_⟩
    obtain ⟨size, es⟩ : ∃ k : Nat, 1 + r1 = (k : Int) := ⟨(1 + r1).toNat, by omega⟩
    have z1 : 1 ≤ size := by omega
    have z2 : size ≤ most := by omega
    dsimp only
    rw [es]
    refine ⟨_, rfl, _, _, rfl, rfl, _, rfl, ?_⟩
    refine ite2 (fun _ => ?_) fun _ => ?_
    · refine ⟨_, rfl, _, rfl, _, rfl, p, L, size, n + 1 + 1, rfl, sr2, LL, by omega, by omega, fun z H3 e3 lz sr3 bt3 => ?_⟩
      exact q z H3 lz (by omega) (by omega) (sr3.mono (by omega)) ((bt1.trans bt2).trans bt3)
    · refine ⟨_, rfl, p, 3, n + 1 + 1, rfl, sr2, by omega, by decide, by decide, fun r3 H3 c0 c1 sr3 bt3 => ?_⟩
      obtain ⟨o, eo⟩ := sr3.at
      refine ⟨_, _, rfl, rfl, _, rfl, by omega, by omega, fun D hD => ?_⟩
      have ne : D ≠ p := (ne_of_none eo hD).symm
      refine lc_range (fun i H' => Src H' p (n + 3 + 6 * i) ∧ But p H3 H' ∧ ∃ ws : List Str, ws.length = i ∧ (∀ z ∈ ws, Low z ∧ 1 ≤ z.length ∧ z.length ≤ 5) ∧ H' D = some (.lst (ws.map V.str))) ?_ (fun i H' hi ⟨sr', bt', ws, ew, hw, eD⟩ => ?_) fun H4 ⟨sr4, bt4, ws, ew, hw, eD⟩ => ?_
      · exact ⟨sr3.new hD, But.refl.mk hD, [], rfl, (fun c z => by cases z), upd_same⟩
      · refine ⟨rfl, lc_yes ?_⟩
        refine ⟨_, rfl, _, rfl, _, rfl, p, 5, n + 3 + 6 * i, rfl, sr', by omega, by decide, by decide, fun r4 H5 d0 d1 sr5 bt5 => ?_⟩
        obtain ⟨k, ek⟩ : ∃ k : Nat, 1 + r4 = (k : Int) := ⟨(1 + r4).toNat, by omega⟩
        refine ⟨_, _, rfl, rfl, p, L, k, n + 3 + 6 * i + 1, by show [V.ref p, V.str L, V.int (1 + r4)] = _; rw [ek], sr5, LL, by omega, by omega, fun z H6 ez lz sr6 bt6 => ?_⟩
        refine ⟨_, bt6.kept (bt5.kept eD ne) ne, ?_, ?_, ((bt'.trans bt5).trans bt6).mk hD, ws ++ [z], by rw [List.length_append, ew]; rfl, fun y hy => ?_, ?_⟩
        · rw [List.length_map, ew]; exact Nat.lt_of_lt_of_le (show i < 100 by omega) (by decide)
        · obtain ⟨a, b, c, e, rest⟩ := sr6.mono (m := n + 3 + 6 * (i + 1)) (by omega)
          exact ⟨a, b, c, by rw [upd_ne ne.symm]; exact e, rest⟩
        · rcases List.mem_append.mp hy with hy | hy
          · exact hw y hy
          · rw [List.mem_singleton.mp hy]; exact ⟨lz, by omega, by omega⟩
        · rw [upd_same, List.map_append]; rfl
      · have hw1 : 1 ≤ ws.length := by omega
        have hw2 : ws.length ≤ 3 := by omega
        refine ⟨fun m σ H' => ∃ (z : Str) (y7 y8 : Option V), σ = [some (.ref p), some (.str L), some (.int most), some (.int size), some (.int kind), some (.ref D), some (.str z), y7, y8] ∧ Low z ∧ m = size - z.length ∧ z.length ≤ size + 5 ∧ Src H' p (n + 30 + z.length) ∧ But p H4 H' ∧ H' D = some (.lst (ws.map V.str)),
          ⟨size, Str.ofString "", none, none, rfl, ?_, ?_, ?_, ?_, But.refl, eD⟩, fun m σ H' ⟨z, y7, y8, eσ, lz, em, hz, srw, btw, eDw⟩ => ?_⟩
        · rw [str_e]; intro c hc; cases hc
        · rw [str_e]; show size = size - 0; omega
        · rw [str_e]; show 0 ≤ _; omega
        · rw [str_e]; exact sr4.mono (show _ ≤ n + 30 + 0 by omega)
        · subst eσ
          have sz : z.length ≤ sizeLine := Nat.le_trans hz (Nat.le_trans (show size + 5 ≤ 3000 by omega) (by decide))
          refine ⟨_, rfl, z, rfl, sz, _, rfl, _, _, rfl, rfl, _, rfl, ?_⟩
          refine ite2 (fun lt => ?_) fun ge => ?_
          · have lt := of_decide_eq_true lt
            refine ⟨_, fun _ _ h => h, ?_⟩
            refine ⟨_, rfl, _, rfl, _, rfl, _, rfl, D, _, rfl, .inl (.inl (.inl eDw)), p, (ws.map V.str).length, n + 30 + z.length, rfl, srw, by omega, by rw [List.length_map]; omega, by rw [List.length_map]; omega, fun r H5 d0 d1 sr5 bt5 => ?_⟩
            rw [List.length_map] at d1
            have ltr : r.toNat < ws.length := by omega
            have hy := hw _ (List.getElem_mem ltr)
            refine ⟨D, ws.map V.str, r, V.str ws[r.toNat], rfl, rfl, .inl (.inl (bt5.kept eDw ne)), atI_pos d0 (by rw [List.getElem?_map, List.getElem?_eq_getElem ltr] <;> rfl), _, _, rfl, rfl, Nat.le_trans (show _ ≤ 3000 by omega) (by decide), ?_⟩
            refine ⟨size - (z ++ ws[r.toNat]).length, by rw [len_app]; omega, z ++ ws[r.toNat], y7, y8, rfl, low_app lz hy.1, rfl, by rw [len_app]; omega, sr5.mono (by rw [len_app]; omega), btw.trans bt5, bt5.kept eDw ne⟩
          · have ge : size ≤ z.length := by
              have := of_decide_eq_false (Bool.eq_false_iff.mpr ge)
              omega
            refine ⟨_, rfl, _, rfl, p, size, n + 30 + z.length, rfl, srw, by omega, by omega, by omega, fun at' H5 d0 d1 sr5 bt5 => ?_⟩
            obtain ⟨a, ea⟩ : ∃ a : Nat, at' = (a : Int) := ⟨at'.toNat, by omega⟩
            subst ea
            have bt := (((bt1.trans bt2).trans bt3).trans bt4).trans (btw.trans bt5)
            refine ⟨_, rfl, rfl, _, rfl, ?_⟩
            refine ite2 (fun _ => ?_) fun _ => ?_
            · refine ⟨_, rfl, _, rfl, _, rfl, z, rfl, sz, _, rfl, _, rfl, _, rfl, L, rfl, sL, p, L.length, n + 30 + z.length + 1, rfl, sr5, by omega, by omega, by omega, fun r H6 f0 f1 sr6 bt6 => ?_⟩
              have lt : r.toNat < (tl L).length := by rw [← len_tl]; omega
              rw [cutS_to z a (by omega)]
              refine ⟨L, r, (tl L)[r.toNat], rfl, rfl, sL, atI_pos f0 (List.getElem?_eq_getElem lt), _, _, rfl, rfl, ?_, _, rfl, _, rfl, _, _, rfl, rfl, _, rfl, _, rfl, _, rfl, z, rfl, sz, ?_⟩
              · rw [len_take (by omega)]; exact Nat.le_trans (show a + 1 ≤ 3000 by omega) (by decide)
              rw [show ((a : Int) + 1) = ((a + 1 : Nat) : Int) by omega, cutS_ij z (a + 1) size (by omega) ge]
              have e1 : (mkS ((tl z).take a) ++ (⟨#[(tl L)[r.toNat]]⟩ : Str)).length = a + 1 := by rw [len_app, len_take (by omega)]; rfl
              have e2 : (mkS (cut (tl z) (a + 1) (size - (a + 1)))).length = size - (a + 1) := len_cut (by omega)
              refine ⟨_, _, rfl, rfl, by rw [e1, e2]; exact Nat.le_trans (show _ ≤ 3000 by omega) (by decide), ?_⟩
              exact q _ H6 (low_app (low_app (low_take lz a) (low_one lo (List.getElem_mem lt))) (low_cut lz _ _)) (by rw [len_app, e1, e2]; omega) (by rw [len_app, e1, e2]; omega) (sr6.mono (by omega)) (bt.trans bt6)
            · refine ⟨_, rfl, _, rfl, _, rfl, z, rfl, sz, ?_⟩
              rw [cutS_to z size ge]
              exact q _ H5 (low_take lz _) (by rw [len_take ge]; omega) (by rw [len_take ge]; omega) (sr5.mono (by omega)) bt
end
end Tx

set_option Elab.async false
set_option linter.all false
set_option maxRecDepth 100000
set_option maxHeartbeats 1000000
namespace Tx
open PySem PySem.Spec PyProof.Rows L2 TL
section
variable {P : Program} {w : World} {K : PySem.W.Frag} {mg : Str → Option Value} {base : Heap}
abbrev st_law_same : Stmt := topS 24
theorem sc_law_same : FnScope ["found", "due", "at"] ["found", "due"] (defScope st_law_same) := ⟨rfl, rfl, rfl, by decide +kernel, rfl, by decide +kernel, by decide +kernel⟩
theorem pl_law_same : PlainB "_law_same" st_law_same ["found", "due"] := fun _ _ _ _ _ _ us hl => match us, hl with | [_, _], _ => rfl
/-- of two equal texts: True -/
def spSame0 : Sp := fun vs H Q _ => ∃ z : Str, vs = [.str z, .str z] ∧ Q (.bl true) H
/-- of two lists of the same texts: True -/
def spSame1 : Sp := fun vs H Q _ => ∃ (p q : Addr) (xs : List Str), vs = [.ref p, .ref q] ∧ H p = some (.lst (xs.map V.str)) ∧ H q = some (.lst (xs.map V.str)) ∧ xs.length ≤ 100000 ∧ ∀ H', Same H H' → Q (.bl true) H'
/-- a call that is never made -/
theorem dn_void {x : Str} {st : Stmt} {ps : List Str} (T : Top K mg x st) (pl : PlainB x st ps) : Dn P w K mg base 1 x st ps fun _ _ _ _ => False := by
  obtain ⟨f, fd, hm, F⟩ := T
  exact ⟨⟨f, fd, hm, F, fun _ _ _ _ h => h.elim, fun _ _ _ _ _ _ _ _ _ _ _ _ _ h => h.elim⟩, pl⟩
theorem ok_same0 (T : Top K mg "_law_same" st_law_same) (B : Bt mg) : Dn P w K mg base 2 "_law_same" st_law_same ["found", "due"] spSame0 := by
  refine dn_of T sc_law_same pl_law_same (fun vs H Q E h => ?_) fun f cdv A outer s H vs Q E hr h => ?_
  · obtain ⟨a, rfl, _⟩ := h; rfl
  · obtain ⟨z, rfl, q⟩ := h
    have D_law_same : Dn P w K mg base 1 "_law_same" st_law_same ["found", "due"] fun _ _ _ _ => False := dn_void T pl_law_same
    refine ⟨_, (pss_cons (ps_if (PW.pt (pw_or (pt_val (pe_callB (isiK K rfl) (by rfl) B.isi (by decide +kernel) (pa_cons (pv 1) (pa_cons (pe_bltn (v := .ty "list") (by rfl) B.list (by decide +kernel) rfl) pa_nil)))) (pw_or1 (pt_val (pe_callB (isiK K rfl) (by rfl) B.isi (by decide +kernel) (pa_cons (pv 1) (pa_cons (pe_bltn (v := .ty "tuple") (by rfl) B.tuple (by decide +kernel) rfl) pa_nil))))))) (pss_cons (ps_if (PW.pt (pw_or (pt_cmpR op_ne (pe_callB (isiK K rfl) (by rfl) B.isi (by decide +kernel) (pa_cons (pv 0) (pa_cons (pe_bltn (v := .ty "list") (by rfl) B.list (by decide +kernel) rfl) pa_nil))) (pe_callB (isiK K rfl) (by rfl) B.isi (by decide +kernel) (pa_cons (pv 1) (pa_cons (pe_bltn (v := .ty "list") (by rfl) B.list (by decide +kernel) rfl) pa_nil))) (nomark _)) (pw_or1 (pt_cmpR op_ne (pe_callB (isiK K rfl) (by rfl) B.isi (by decide +kernel) (pa_cons (pv 0) (pa_cons (pe_bltn (v := .ty "tuple") (by rfl) B.tuple (by decide +kernel) rfl) pa_nil))) (pe_callB (isiK K rfl) (by rfl) B.isi (by decide +kernel) (pa_cons (pv 1) (pa_cons (pe_bltn (v := .ty "tuple") (by rfl) B.tuple (by decide +kernel) rfl) pa_nil))) (nomark _))))) (pss_one (ps_ret pe_bl)) pss_nil)
      (pss_one (ps_ret (pe_and (pe_cmpR op_eq (pe_callB (lenK K rfl) (by rfl) B.len (by decide +kernel) (pa_cons (pv 0) pa_nil)) (pe_callB (lenK K rfl) (by rfl) B.len (by decide +kernel) (pa_cons (pv 1) pa_nil)) (nomark _)) (pe_one (pe_callB (allK K rfl rfl) (by rfl) B.all (by decide +kernel) (pa_cons (pe_lc (own := [("at", 2)]) (g := gName 2) rfl sc_law_same.nd (pi_range1 (by rfl) B.range (pa_cons (pe_callB (lenK K rfl) (by rfl) B.len (by decide +kernel) (pa_cons (pv 1) pa_nil)) pa_nil)) (blkOk_by (N := ["found", "due", "at"]) (sc := defScope st_law_same) (by decide +kernel)) (fun _ _ _ _ _ => pg_name (i := 2) sc_law_same.nd rfl (.inl rfl)) (fun _ _ _ _ _ => pts_nil) (fun _ _ _ _ _ => (pe_fn D_law_same (hr.mono (by decide)) (by rfl) (pa_cons (pe_ix (ixK K rfl) (pv 0) (pv 2) (fun _ _ => rfl)) (pa_cons (pe_ix (ixK K rfl) (pv 1) (pv 2) (fun _ _ => rfl)) pa_nil))))) pa_nil))))))) pss_nil)
      (pss_cons (ps_if (pt_val (pe_callB (isiK K rfl) (by rfl) B.isi (by decide +kernel) (pa_cons (pv 1) (pa_cons (pe_bltn (v := .ty "bool") (by rfl) B.bool (by decide +kernel) rfl) pa_nil)))) (pss_one (ps_ret (pe_and (pe_callB (isiK K rfl) (by rfl) B.isi (by decide +kernel) (pa_cons (pv 0) (pa_cons (pe_bltn (v := .ty "bool") (by rfl) B.bool (by decide +kernel) rfl) pa_nil))) (pe_one (pe_cmpR op_eq (pv 0) (pv 1) (nomark _)))))) pss_nil)
      (pss_cons (ps_if (pt_val (pe_callB (isiK K rfl) (by rfl) B.isi (by decide +kernel) (pa_cons (pv 1) (pa_cons (pe_bltn (v := .ty "str") (by rfl) B.str (by decide +kernel) rfl) pa_nil)))) (pss_one (ps_ret (pe_and (pe_callB (isiK K rfl) (by rfl) B.isi (by decide +kernel) (pa_cons (pv 0) (pa_cons (pe_bltn (v := .ty "str") (by rfl) B.str (by decide +kernel) rfl) pa_nil))) (pe_one (pe_cmpR op_eq (pv 0) (pv 1) (nomark _)))))) pss_nil)
      (pss_one (ps_ret (pe_cmpR op_isN (pv 0) pe_non (nomark _))))))), ?_⟩
    refine ⟨_, rfl, .str z, .ty "list", _, _, false, rfl, .ty _, .base (.str z), kit_ty (by decide +kernel), false, rfl, ?_⟩
    refine iteF ?_
    refine ⟨_, rfl, .str z, .ty "tuple", _, _, false, rfl, .ty _, .base (.str z), kit_ty (by decide +kernel), false, rfl, ?_⟩
    refine iteF ?_
    refine ⟨_, rfl, .str z, .ty "bool", _, _, false, rfl, .ty _, .base (.str z), kit_ty (by decide +kernel), false, rfl, ?_⟩
    refine iteF ?_
    refine ⟨_, rfl, .str z, .ty "str", _, _, true, rfl, .ty _, .base (.str z), kit_ty (by decide +kernel), true, rfl, ?_⟩
    refine iteT ?_
    refine ⟨_, rfl, .str z, .ty "str", _, _, true, rfl, .ty _, .base (.str z), kit_ty (by decide +kernel), true, rfl, ?_⟩
    refine iteT ?_
    refine ⟨_, rfl, _, rfl, rfl, ?_⟩
    show Q (.bl (decide (V.str z = V.str z))) H
    rw [decide_eq_true rfl]
    exact q
theorem ok_same1 (T : Top K mg "_law_same" st_law_same) (B : Bt mg) (D_law_same : Dn P w K mg base 2 "_law_same" st_law_same ["found", "due"] spSame0) : Dn P w K mg base 3 "_law_same" st_law_same ["found", "due"] spSame1 := by
  refine dn_of T sc_law_same pl_law_same (fun vs H Q E h => ?_) fun f cdv A outer s H vs Q E hr h => ?_
  · obtain ⟨a, b, c, rfl, _⟩ := h; rfl
  · obtain ⟨p, p', xs, rfl, e1, e2, hx, q⟩ := h
    refine ⟨_, (pss_cons (ps_if (PW.pt (pw_or (pt_val (pe_callB (isiK K rfl) (by rfl) B.isi (by decide +kernel) (pa_cons (pv 1) (pa_cons (pe_bltn (v := .ty "list") (by rfl) B.list (by decide +kernel) rfl) pa_nil)))) (pw_or1 (pt_val (pe_callB (isiK K rfl) (by rfl) B.isi (by decide +kernel) (pa_cons (pv 1) (pa_cons (pe_bltn (v := .ty "tuple") (by rfl) B.tuple (by decide +kernel) rfl) pa_nil))))))) (pss_cons (ps_if (PW.pt (pw_or (pt_cmpR op_ne (pe_callB (isiK K rfl) (by rfl) B.isi (by decide +kernel) (pa_cons (pv 0) (pa_cons (pe_bltn (v := .ty "list") (by rfl) B.list (by decide +kernel) rfl) pa_nil))) (pe_callB (isiK K rfl) (by rfl) B.isi (by decide +kernel) (pa_cons (pv 1) (pa_cons (pe_bltn (v := .ty "list") (by rfl) B.list (by decide +kernel) rfl) pa_nil))) (nomark _)) (pw_or1 (pt_cmpR op_ne (pe_callB (isiK K rfl) (by rfl) B.isi (by decide +kernel) (pa_cons (pv 0) (pa_cons (pe_bltn (v := .ty "tuple") (by rfl) B.tuple (by decide +kernel) rfl) pa_nil))) (pe_callB (isiK K rfl) (by rfl) B.isi (by decide +kernel) (pa_cons (pv 1) (pa_cons (pe_bltn (v := .ty "tuple") (by rfl) B.tuple (by decide +kernel) rfl) pa_nil))) (nomark _))))) (pss_one (ps_ret pe_bl)) pss_nil)
      (pss_one (ps_ret (pe_and (pe_cmpR op_eq (pe_callB (lenK K rfl) (by rfl) B.len (by decide +kernel) (pa_cons (pv 0) pa_nil)) (pe_callB (lenK K rfl) (by rfl) B.len (by decide +kernel) (pa_cons (pv 1) pa_nil)) (nomark _)) (pe_one (pe_callB (allK K rfl rfl) (by rfl) B.all (by decide +kernel) (pa_cons (pe_lc (own := [("at", 2)]) (g := gName 2) rfl sc_law_same.nd (pi_range1 (by rfl) B.range (pa_cons (pe_callB (lenK K rfl) (by rfl) B.len (by decide +kernel) (pa_cons (pv 1) pa_nil)) pa_nil)) (blkOk_by (N := ["found", "due", "at"]) (sc := defScope st_law_same) (by decide +kernel)) (fun _ _ _ _ _ => pg_name (i := 2) sc_law_same.nd rfl (.inl rfl)) (fun _ _ _ _ _ => pts_nil) (fun _ _ _ _ _ => (pe_fn D_law_same (hr.mono (by decide)) (by rfl) (pa_cons (pe_ix (ixK K rfl) (pv 0) (pv 2) (fun _ _ => rfl)) (pa_cons (pe_ix (ixK K rfl) (pv 1) (pv 2) (fun _ _ => rfl)) pa_nil))))) pa_nil))))))) pss_nil)
      (pss_cons (ps_if (pt_val (pe_callB (isiK K rfl) (by rfl) B.isi (by decide +kernel) (pa_cons (pv 1) (pa_cons (pe_bltn (v := .ty "bool") (by rfl) B.bool (by decide +kernel) rfl) pa_nil)))) (pss_one (ps_ret (pe_and (pe_callB (isiK K rfl) (by rfl) B.isi (by decide +kernel) (pa_cons (pv 0) (pa_cons (pe_bltn (v := .ty "bool") (by rfl) B.bool (by decide +kernel) rfl) pa_nil))) (pe_one (pe_cmpR op_eq (pv 0) (pv 1) (nomark _)))))) pss_nil)
      (pss_cons (ps_if (pt_val (pe_callB (isiK K rfl) (by rfl) B.isi (by decide +kernel) (pa_cons (pv 1) (pa_cons (pe_bltn (v := .ty "str") (by rfl) B.str (by decide +kernel) rfl) pa_nil)))) (pss_one (ps_ret (pe_and (pe_callB (isiK K rfl) (by rfl) B.isi (by decide +kernel) (pa_cons (pv 0) (pa_cons (pe_bltn (v := .ty "str") (by rfl) B.str (by decide +kernel) rfl) pa_nil))) (pe_one (pe_cmpR op_eq (pv 0) (pv 1) (nomark _)))))) pss_nil)
      (pss_one (ps_ret (pe_cmpR op_isN (pv 0) pe_non (nomark _))))))), ?_⟩
    refine ⟨_, rfl, .ref p', .ty "list", _, _, true, rfl, .ty _, .base (.lst e2), kit_ty (by decide +kernel), true, rfl, ?_⟩
    refine iteT ?_
    refine ⟨_, rfl, .ref p, .ty "list", _, _, true, rfl, .ty _, .base (.lst e1), kit_ty (by decide +kernel), _, rfl, .ref p', .ty "list", _, _, true, rfl, .ty _, .base (.lst e2), kit_ty (by decide +kernel), rfl, _, rfl, ?_⟩
    refine iteNS rfl ?_
    refine ⟨_, rfl, .ref p, .ty "tuple", _, _, false, rfl, .ty _, .base (.lst e1), kit_ty (by decide +kernel), _, rfl, .ref p', .ty "tuple", _, _, false, rfl, .ty _, .base (.lst e2), kit_ty (by decide +kernel), rfl, _, rfl, ?_⟩
    refine iteNS rfl ?_
    refine ⟨_, rfl, p, _, rfl, .inl (.inl (.inl e1)), _, rfl, p', _, rfl, .inl (.inl (.inl e2)), rfl, _, rfl, ?_⟩
    rw [decide_eq_true rfl]
    refine iteT ?_
    refine ⟨_, rfl, p', _, rfl, .inl (.inl (.inl e2)), _, rfl, by rw [List.length_map]; omega, by rw [List.length_map]; omega, fun D hD => ?_⟩
    rw [List.length_map, Int.toNat_natCast]
    refine lc_range (fun i H' => Same H H' ∧ H' D = some (.lst ((List.range i).map fun _ => V.bl true))) ⟨same_upd hD, upd_same⟩ (fun i H' hi ⟨sm, e⟩ => ?_) fun H' ⟨sm, e⟩ => ?_
    · refine ⟨rfl, lc_yes ?_⟩
      have g : (xs.map V.str)[(i : Int).toNat]? = some (V.str xs[i]) := by rw [Int.toNat_natCast, List.getElem?_map, List.getElem?_eq_getElem hi] <;> rfl
      have g2 : atI (xs.map V.str) ((0 : Int) + (i : Int)) = some (V.str xs[i]) := by
        rw [show ((0 : Int) + (i : Int)) = (i : Int) by omega]; exact atI_pos (by omega) g
      refine ⟨_, rfl, _, rfl, p, _, _, _, rfl, rfl, .inl (.inl (sm _ _ e1)), g2, _, rfl, _, rfl, p', _, _, _, rfl, rfl, .inl (.inl (sm _ _ e2)), g2, xs[i], rfl, _, e, grown_len _ hi (by omega), wr sm hD, ?_⟩
      rw [upd_same, grown fun _ => V.bl true]
    · refine ⟨D, List.replicate xs.length true, rfl, .inl (.inl ?_), ?_⟩
      · rw [e, trues]
      · rw [all_trues]; exact q _ sm
abbrev st_law_linear : Stmt := topS 26
theorem sc_law_linear : FnScope ["size", "text", "found", "at"] ["size", "text"] (defScope st_law_linear) := ⟨rfl, rfl, rfl, by decide +kernel, rfl, by decide +kernel, by decide +kernel⟩
theorem pl_law_linear : PlainB "_law_linear" st_law_linear ["size", "text"] := fun _ _ _ _ _ _ us hl => match us, hl with | [_, _], _ => rfl
theorem any_keys {kvs : List (Key × V)} {ks : List Str} (e : kvs.map (·.1) = ks.map Sum.inr) (x : Str) : (kvs.any fun kv => decide (kv.1 = Sum.inr x)) = decide (x ∈ ks) := by
  have e1 : (kvs.any fun kv => decide (kv.1 = Sum.inr x)) = (kvs.map (·.1)).any fun k => decide (k = Sum.inr x) := by rw [List.any_map]; rfl
  rw [e1, e, List.any_map]
  by_cases c : x ∈ ks
  · rw [decide_eq_true c, List.any_eq_true]
    exact ⟨x, c, decide_eq_true rfl⟩
  · rw [decide_eq_false c, List.any_eq_false]
    intro y hy h
    have h : (Sum.inr y : Key) = Sum.inr x := of_decide_eq_true h
    exact c (Sum.inr.inj h ▸ hy)
theorem keys_put {kvs : List (Key × V)} {ks : List Str} (e : kvs.map (·.1) = ks.map Sum.inr) (x : Str) (v : V) : (putK kvs (Sum.inr x : Key) v).map (·.1) = (if x ∈ ks then ks else ks ++ [x]).map Sum.inr := by
  unfold putK
  rw [any_keys e]
  by_cases c : x ∈ ks
  · rw [if_pos c, if_pos (decide_eq_true c), List.map_map, ← e]
    refine List.map_congr_left fun kv _ => ?_
    show (if kv.1 = Sum.inr x then ((kv.1, v) : Key × V) else kv).1 = kv.1
    split <;> rfl
  · rw [if_neg c, if_neg (by rw [decide_eq_false c]; exact Bool.false_ne_true), List.map_append, List.map_append, e]; rfl
/-- the texts of n letters that stand in a text, by a dict -/
def spLinear : Sp := fun vs H Q _ => ∃ (n : Nat) (z : Str), vs = [.int n, .str z] ∧ 1 ≤ n ∧ n ≤ 1000 ∧ z.length ≤ 10000 ∧ ∀ p H' ys, H p = none → Same H H' → Up ys (steps n (tl z)) → H' p = some (.lst (ys.map V.str)) → Q (.ref p) H'
theorem ok_law_linear (T : Top K mg "_law_linear" st_law_linear) (B : Bt mg) : Dn P w K mg base 1 "_law_linear" st_law_linear ["size", "text"] spLinear := by
  refine dn_of T sc_law_linear pl_law_linear (fun vs H Q E h => ?_) fun f cdv A outer s H vs Q E hr h => ?_
  · obtain ⟨a, b, rfl, _⟩ := h; rfl
  · obtain ⟨n, z, rfl, h1, hn, hz, q⟩ := h
    have sl : z.length ≤ sizeLine := Nat.le_trans hz (by decide)
    refine ⟨_, (pss_cons (ps_set (i := 2) sc_law_linear.nd rfl (.inl rfl) pe_dnewK)
      (pss_cons (ps_for PassesOwn.never rfl (pi_range1 (by rfl) B.range (pa_cons (pe_op op_add (pe_op op_sub (pe_callB call_len_str (by rfl) B.len (by decide +kernel) (pa_cons (pv 1) pa_nil)) (pv 0)) pe_int) pa_nil)) (pg_name (i := 3) sc_law_linear.nd rfl (.inl rfl)) (pss_one (ps_dput (hu_of hr) (pv 2) (pe_slice sl_str (pv 1) (po_some (pv 3)) (po_some (pe_op op_add (pv 3) (pv 0)))) pe_bl rfl)))
      (pss_one (ps_ret (pe_callB (cr_sortD rfl) (by rfl) B.sorted (by decide +kernel) (pa_cons (pv 2) pa_nil)))))), ?_⟩
    intro d hd
    refine ⟨_, rfl, z, rfl, sl, _, rfl, _, _, rfl, rfl, _, _, rfl, rfl, _, rfl, by omega, by omega, ?_⟩
    rw [show ((z.length : Int) - (n : Int) + 1).toNat = z.length + 1 - n by omega]
    refine for_range (fun i σ H' => ∃ (ks : List Str) (kvs : List (Key × V)) (o : Option V), σ = [some (.int n), some (.str z), some (.ref d), o] ∧ Same H H' ∧ H' d = some (.dK kvs) ∧ kvs.map (·.1) = ks.map Sum.inr ∧ ks.Nodup ∧ (∀ x, x ∈ ks ↔ x ∈ (steps n (tl z)).take i) ∧ ks.length ≤ i) ⟨[], [], none, rfl, same_upd hd, upd_same, rfl, List.nodup_nil, fun x => by rw [List.take_zero], Nat.le_refl _⟩
      (fun i σ H' hi ⟨ks, kvs, o, eσ, sm, e, ek, nd, mem, len⟩ => ?_) fun σ H' ⟨ks, kvs, o, eσ, sm, e, ek, nd, mem, len⟩ => ?_
    · subst eσ
      have lt : i + n ≤ z.length := by omega
      have hs : (steps n (tl z))[i]? = some (mkS (cut (tl z) i n)) := by
        unfold steps
        rw [List.getElem?_map, List.getElem?_range (by rw [← len_tl]; exact hi)] <;> rfl
      have hk : kvs.length ≤ i := by
        have := congrArg List.length ek
        rw [List.length_map, List.length_map] at this
        omega
      refine ⟨_, rfl, _, rfl, _, rfl, _, rfl, _, rfl, _, rfl, _, _, rfl, rfl, _, rfl, z, rfl, sl, ?_⟩
      rw [show ((0 : Int) + (i : Int)) = (i : Int) by omega, cutS_mid z i n lt]
      refine ⟨d, _, rfl, DPut.k (k := Sum.inr (mkS (cut (tl z) i n))) e (Nat.lt_of_le_of_lt hk (Nat.lt_of_lt_of_le (show i < 100000 by omega) (by decide))), ?_⟩
      refine ⟨_, _, _, rfl, wr sm hd, upd_same, keys_put ek _ _, ?_, fun x => ?_, ?_⟩
      · by_cases c : mkS (cut (tl z) i n) ∈ ks
        · rw [if_pos c]; exact nd
        · rw [if_neg c]; exact List.nodup_append.mpr ⟨nd, List.nodup_cons.mpr ⟨by simp, List.nodup_nil⟩, fun a ha b hb => by rw [List.mem_singleton.mp hb]; exact fun z' => c (z' ▸ ha)⟩
      · have et : (steps n (tl z)).take (i + 1) = (steps n (tl z)).take i ++ [mkS (cut (tl z) i n)] := by rw [List.take_add_one, hs] <;> rfl
        rw [et, List.mem_append, ← mem x, List.mem_singleton]
        by_cases c : mkS (cut (tl z) i n) ∈ ks
        · rw [if_pos c]
          exact ⟨.inl, fun h => h.elim id fun h => h ▸ c⟩
        · rw [if_neg c, List.mem_append, List.mem_singleton]
      · split
        · omega
        · rw [List.length_append, List.length_singleton]; omega
    · subst eσ
      refine ⟨_, rfl, d, kvs, ks, rfl, .inl e, ek, fun ys p py so np => ?_⟩
      refine q p _ ys ?_ (sm.trans (same_upd np)) ⟨so, py.nodup_iff.mpr nd, fun x => ?_, by rw [py.length_eq, steps_len, ← len_tl]; exact len⟩ upd_same
      · exact sm.free np
      · rw [py.mem_iff, mem x, List.take_of_length_le]
        rw [steps_len, ← len_tl]; exact Nat.le_refl _
end
end Tx

set_option Elab.async false
set_option linter.all false
set_option maxRecDepth 100000
set_option maxHeartbeats 1000000
namespace Tx
open PySem PySem.Spec PyProof.Rows L2 TL
theorem if_anyH {P : V → Hp → Prop} {t : TT} {ta tb : TE} {σ : L2.St} {H : Hp} {Q : VK} (b : Bool) (ht : ∀ R : Bool → Hp → Prop, R b H → t σ H R) (ha : b = true → ∀ Q : VK, (∀ v H', P v H' → Q v H') → ta σ H Q)
    (hb : b = false → ∀ Q : VK, (∀ v H', P v H' → Q v H') → tb σ H Q) (q : ∀ v H', P v H' → Q v H') : tIf t ta tb σ H Q := by
  refine ht _ ?_
  cases b with
  | true => exact iteT (ha rfl Q q)
  | false => exact iteF (hb rfl Q q)
theorem len_e {z : Str} (h : z ≠ Str.ofString "") : 1 ≤ z.length := by
  rcases Nat.eq_zero_or_pos z.length with e | e
  · refine absurd (ext_tl ?_) h
    rw [str_e]
    rw [len_tl] at e
    exact List.eq_nil_of_length_eq_zero e
  · exact e
theorem lt_line {n : Nat} (h : n ≤ 100000) : n < sizeLine := Nat.lt_of_le_of_lt h (by decide)
/-- a write beside: what stands elsewhere stays -/
theorem keep_ne {H : Hp} {a b : Addr} {o u : HO} (e : H a = some o) (n : a ≠ b) : (upd H b u) a = some o := by rw [upd_ne n]; exact e
section
variable {P : Program} {w : World} {K : PySem.W.Frag} {mg : Str → Option Value} {base : Heap}
abbrev st_law_text : Stmt := topS 25
theorem sc_law_text : FnScope ["source", "size"] ["source"] (defScope st_law_text) := ⟨rfl, rfl, rfl, by decide +kernel, rfl, by decide +kernel, by decide +kernel⟩
theorem pl_law_text : PlainB "_law_text" st_law_text ["source"] := fun _ _ _ _ _ _ us hl => match us, hl with | [_], _ => rfl
def spText : Sp := fun vs H Q _ => ∃ (p : Addr) (n : Nat), vs = [.ref p] ∧ Src H p n ∧ n ≤ 1000000 ∧ ∀ z H', Low z → z.length ≤ 2000 → Src H' p (n + 20000) → But p H H' → Q (.str z) H'
theorem ok_law_text (T : Top K mg "_law_text" st_law_text) (D_law_pick : Dn P w K mg base 1 "_law_pick" st_law_pick ["source", "top"] spPick)
    (D_law_ring : Dn P w K mg base 3 "_law_ring" st_law_ring ["source", "letters", "most"] spLRing) (D_law_letters : Dn P w K mg base 2 "_law_letters" st_law_letters ["source"] spLetters) :
    Dn P w K mg base 4 "_law_text" st_law_text ["source"] spText := by
  refine dn_of T sc_law_text pl_law_text (fun vs H Q E h => ?_) fun f cdv A outer s H vs Q E hr h => ?_
  · obtain ⟨a, b, rfl, _⟩ := h; rfl
  · obtain ⟨p, n, rfl, sr, hn, q⟩ := h
    refine ⟨_, (pss_cons (ps_set (i := 1) sc_law_text.nd rfl (.inl rfl) (pe_ix (ixK K rfl) (pe_lst (pa_cons pe_int (pa_cons (pe_op op_add pe_int (pe_fn D_law_pick (hr.mono (by decide)) (by rfl) (pa_cons (pv 0) (pa_cons pe_int pa_nil)))) (pa_cons (pe_op op_add pe_int (pe_fn D_law_pick (hr.mono (by decide)) (by rfl) (pa_cons (pv 0) (pa_cons pe_int pa_nil)))) (pa_cons (pe_op op_add pe_int (pe_fn D_law_pick (hr.mono (by decide)) (by rfl) (pa_cons (pv 0) (pa_cons pe_int pa_nil)))) pa_nil))))) (pe_fn D_law_pick (hr.mono (by decide)) (by rfl) (pa_cons (pv 0) (pa_cons pe_int pa_nil))) (fun _ _ => rfl)))
      (pss_one (ps_ret (pe_ifExp (pt_cmpR op_eq (pv 1) pe_int (nomark _)) pe_str (pe_fn D_law_ring (hr.mono (by decide)) (by rfl) (pa_cons (pv 0) (pa_cons (pe_fn D_law_letters (hr.mono (by decide)) (by rfl) (pa_cons (pv 0) pa_nil)) (pa_cons (pv 1) pa_nil)))))))), ?_⟩
    refine ⟨_, rfl, p, 7, n, rfl, sr, by omega, by decide, by decide, fun r1 H1 a0 a1 sr1 bt1 => ⟨_, _, rfl, rfl, _, rfl, p, 40, n + 1, rfl, sr1, by omega, by decide, by decide, fun r2 H2 b0 b1 sr2 bt2 =>
      ⟨_, _, rfl, rfl, _, rfl, p, 2000, n + 1 + 1, rfl, sr2, by omega, by decide, by decide, fun r3 H3 c0 c1 sr3 bt3 => ⟨_, _, rfl, rfl, by show 4 ≤ sizeLine; decide, fun l nl => ?_⟩⟩⟩⟩
    refine ⟨_, rfl, p, 4, n + 1 + 1 + 1, rfl, sr3.new nl, by omega, by decide, by decide, fun r4 H4 d0 d1 sr4 bt4 => ?_⟩
    obtain ⟨o, eo⟩ := sr3.at
    have ne : l ≠ p := (ne_of_none eo nl).symm
    have el : H4 l = some (.lst [.int 0, .int (1 + r1), .int (1 + r2), .int (1 + r3)]) := bt4 l _ upd_same ne
    obtain ⟨k, ek, hk⟩ : ∃ k : Nat, [V.int 0, .int (1 + r1), .int (1 + r2), .int (1 + r3)][r4.toNat]? = some (.int (k : Int)) ∧ k ≤ 2000 := by
      rcases (show r4 = 0 ∨ r4 = 1 ∨ r4 = 2 ∨ r4 = 3 by omega) with rfl | rfl | rfl | rfl
      · exact ⟨0, rfl, by omega⟩
      · exact ⟨(1 + r1).toNat, by show some (V.int (1 + r1)) = _; rw [Int.toNat_of_nonneg (by omega)], by omega⟩
      · exact ⟨(1 + r2).toNat, by show some (V.int (1 + r2)) = _; rw [Int.toNat_of_nonneg (by omega)], by omega⟩
      · exact ⟨(1 + r3).toNat, by show some (V.int (1 + r3)) = _; rw [Int.toNat_of_nonneg (by omega)], by omega⟩
    have bt : But p H H4 := ((bt1.trans bt2).trans bt3).trans ((Same.but (same_upd nl)).trans bt4)
    refine ⟨l, _, r4, _, rfl, rfl, .inl (.inl el), atI_pos d0 ek, ?_⟩
    refine ⟨_, rfl, rfl, _, rfl, ?_⟩
    refine ite2 (fun _ => ?_) fun ge => ?_
    · exact q _ H4 (by rw [str_e]; intro c hc; cases hc) (by rw [str_e]; decide) (sr4.mono (by omega)) bt
    · have k1 : 1 ≤ k := by
        rcases Nat.eq_zero_or_pos k with e | e
        · subst e; exact absurd (decide_eq_true rfl) ge
        · exact e
      refine ⟨_, rfl, _, rfl, p, n + 1 + 1 + 1 + 1, rfl, sr4, by omega, fun L H5 LL sr5 bt5 => ?_⟩
      refine ⟨_, rfl, p, L, k, n + 1 + 1 + 1 + 1 + 1, rfl, sr5, LL, k1, by omega, by omega, fun z H6 lz z1 z2 sr6 bt6 => ?_⟩
      exact q z H6 lz (by omega) (sr6.mono (by omega)) ((bt.trans bt5).trans bt6)
abbrev st_law_text_right : Stmt := topS 27
theorem sc_law_text_right : FnScope ["size", "text", "due", "first"] ["size", "text"] (defScope st_law_text_right) := ⟨rfl, rfl, rfl, by decide +kernel, rfl, by decide +kernel, by decide +kernel⟩
theorem pl_law_text_right : PlainB "_law_text_right" st_law_text_right ["size", "text"] := fun _ _ _ _ _ _ us hl => match us, hl with | [_, _], _ => rfl
def spTR : Sp := fun vs H Q _ => ∃ (n : Nat) (z : Str), vs = [.int n, .str z] ∧ 2 ≤ n ∧ n ≤ 6 ∧ Low z ∧ z.length ≤ 2001 ∧ ∀ H', Same H H' → Q (.bl true) H'
theorem ok_law_text_right (T : Top K mg "_law_text_right" st_law_text_right) (D_law_linear : Dn P w K mg base 1 "_law_linear" st_law_linear ["size", "text"] spLinear) (D_windows_of : Dn P w K mg base 4 "windows_of" st_windows_of ["size", "text"] spWin)
    (D_law_same : Dn P w K mg base 3 "_law_same" st_law_same ["found", "due"] spSame1) : Dn P w K mg base 5 "_law_text_right" st_law_text_right ["size", "text"] spTR := by
  refine dn_of T sc_law_text_right pl_law_text_right (fun vs H Q E h => ?_) fun f cdv A outer s H vs Q E hr h => ?_
  · obtain ⟨a, b, rfl, _⟩ := h; rfl
  · obtain ⟨n, z, rfl, h2, h6, lz, hz, q⟩ := h
    refine ⟨_, (pss_cons (ps_set (i := 2) sc_law_text_right.nd rfl (.inl rfl) (pe_fn D_law_linear (hr.mono (by decide)) (by rfl) (pa_cons (pv 0) (pa_cons (pv 1) pa_nil))))
      (pss_cons (ps_set (i := 3) sc_law_text_right.nd rfl (.inl rfl) (pe_fn D_windows_of (hr.mono (by decide)) (by rfl) (pa_cons (pv 0) (pa_cons (pv 1) pa_nil))))
      (pss_cons (ps_if (pt_not (pt_val (pe_fn D_law_same (hr.mono (by decide)) (by rfl) (pa_cons (pv 3) (pa_cons (pv 2) pa_nil))))) (pss_one (ps_ret pe_bl)) pss_nil)
      (pss_cons (ps_expr (pe_bm PySem.F.plainAttrs_list PySem.F.slot_list_append PySem.F.type_list_append mt_append (pv 3) (pa_cons pe_str pa_nil)))
      (pss_cons (ps_expr (pe_bm0 PySem.F.plainAttrs_list PySem.F.slot_list_reverse PySem.F.type_list_reverse mt_reverse (pv 3)))
      (pss_one (ps_ret (pe_fn D_law_same (hr.mono (by decide)) (by rfl) (pa_cons (pe_fnK D_windows_of (hr.mono (by decide)) (by rfl) (pk_cons (pv 1) (pk_cons (pv 0) pk_nil)) kb_windows_of_text_size) (pa_cons (pv 2) pa_nil)))))))))), ?_⟩
    refine ⟨_, rfl, _, rfl, n, z, rfl, by omega, by omega, by omega, fun a H1 ys na s1 up ea => ?_⟩
    refine ⟨_, rfl, _, rfl, n, z, rfl, h2, h6, lz, by omega, fun b H2 zs nb s2 up2 eb => ?_⟩
    obtain rfl : zs = ys := up2.one up fun _ => Iff.rfl
    have hl : zs.length ≤ 3000 := by
      have e := up.2.2.2
      rw [steps_len, ← len_tl] at e
      omega
    have ne : a ≠ b := ne_of_none ea nb
    refine ⟨_, rfl, _, rfl, b, a, zs, rfl, eb, s2 _ _ ea, by omega, fun H3 s3 => ⟨_, rfl, ?_⟩⟩
    refine iteF ?_
    have e3 := s3 _ _ eb
    refine ⟨_, rfl, .inl ⟨rfl, _, .inl (.inl e3)⟩, b, _, _, rfl, rfl, e3, by rw [List.length_map]; exact lt_line (by omega), ?_⟩
    refine ⟨_, rfl, .inl ⟨rfl, _, .inl (.inl upd_same)⟩, b, _, rfl, rfl, upd_same, ?_⟩
    refine ⟨_, rfl, _, rfl, n, z, rfl, h2, h6, lz, by omega, fun c H4 xs nc s4 up3 ec => ?_⟩
    obtain rfl : xs = zs := up3.one up fun _ => Iff.rfl
    refine ⟨_, rfl, c, a, xs, rfl, ec, s4 _ _ (keep_ne (keep_ne (s3 _ _ (s2 _ _ ea)) ne) ne), by omega, fun H5 s5 => ?_⟩
    refine q H5 fun d o e => s5 _ _ (s4 _ _ (keep_ne (keep_ne (s3 _ _ (s2 _ _ (s1 _ _ e))) ?_) ?_))
    all_goals exact ne_of_none (s1 _ _ e) nb
abbrev st_law_ring_right : Stmt := topS 28
theorem sc_law_ring_right : FnScope ["size", "ring", "due", "first"] ["size", "ring"] (defScope st_law_ring_right) := ⟨rfl, rfl, rfl, by decide +kernel, rfl, by decide +kernel, by decide +kernel⟩
theorem pl_law_ring_right : PlainB "_law_ring_right" st_law_ring_right ["size", "ring"] := fun _ _ _ _ _ _ us hl => match us, hl with | [_, _], _ => rfl
def spRR : Sp := fun vs H Q _ => ∃ (n : Nat) (z : Str), vs = [.int n, .str z] ∧ 2 ≤ n ∧ n ≤ 6 ∧ Low z ∧ 1 ≤ z.length ∧ z.length ≤ 2001 ∧ ∀ H', Same H H' → Q (.bl true) H'
theorem turns_len (n : Nat) (l : List Nat) : (turns n l).length = l.length := by unfold turns; rw [List.length_map, List.length_range]
theorem ok_law_ring_right (T : Top K mg "_law_ring_right" st_law_ring_right) (B : Bt mg) (D_law_round : Dn P w K mg base 1 "_law_round" st_law_round ["size", "ring"] spRound) (D_ring_windows : Dn P w K mg base 5 "ring_windows" st_ring_windows ["size", "ring"] spRWin)
    (D_law_same : Dn P w K mg base 3 "_law_same" st_law_same ["found", "due"] spSame1) : Dn P w K mg base 6 "_law_ring_right" st_law_ring_right ["size", "ring"] spRR := by
  refine dn_of T sc_law_ring_right pl_law_ring_right (fun vs H Q E h => ?_) fun f cdv A outer s H vs Q E hr h => ?_
  · obtain ⟨a, b, rfl, _⟩ := h; rfl
  · obtain ⟨n, z, rfl, h2, h6, lz, z1, hz, q⟩ := h
    refine ⟨_, (pss_cons (ps_set (i := 2) sc_law_ring_right.nd rfl (.inl rfl) (pe_callB (sortSetK w rfl rfl) (by rfl) B.sorted (by decide +kernel) (pa_cons (pe_callTy (setK K w rfl rfl rfl) (by rfl) B.set (by decide +kernel) (pa_cons (pe_fn D_law_round (hr.mono (by decide)) (by rfl) (pa_cons (pv 0) (pa_cons (pv 1) pa_nil))) pa_nil)) pa_nil)))
      (pss_cons (ps_set (i := 3) sc_law_ring_right.nd rfl (.inl rfl) (pe_fn D_ring_windows (hr.mono (by decide)) (by rfl) (pa_cons (pv 0) (pa_cons (pv 1) pa_nil))))
      (pss_cons (ps_if (pt_not (pt_val (pe_fn D_law_same (hr.mono (by decide)) (by rfl) (pa_cons (pv 3) (pa_cons (pv 2) pa_nil))))) (pss_one (ps_ret pe_bl)) pss_nil)
      (pss_cons (ps_expr (pe_bm PySem.F.plainAttrs_list PySem.F.slot_list_append PySem.F.type_list_append mt_append (pv 3) (pa_cons pe_str pa_nil)))
      (pss_cons (ps_asg pe_str (pg_sub (pv 3) pe_int set_list))
      (pss_one (ps_ret (pe_fn D_law_same (hr.mono (by decide)) (by rfl) (pa_cons (pe_fnK D_ring_windows (hr.mono (by decide)) (by rfl) (pk_cons (pv 1) (pk_cons (pv 0) pk_nil)) kb_ring_windows_ring_size) (pa_cons (pv 2) pa_nil)))))))))), ?_⟩
    refine ⟨_, rfl, _, rfl, n, z, rfl, by omega, by omega, fun r H1 nr s1 er => ?_⟩
    refine ⟨r, _, rfl, .inl (.inl er), by rw [turns_len, ← len_tl]; omega, fun t ks fo nt => ⟨t, ks, rfl, upd_same, fun ys a py so na => ?_⟩⟩
    have up : Up ys (turns n (tl z)) := .of py so fo
    have ea : (upd (upd H1 t (SetSO w t ks)) a (.lst (ys.map V.str))) a = some (.lst (ys.map V.str)) := upd_same
    have s1' : Same H (upd (upd H1 t (SetSO w t ks)) a (.lst (ys.map V.str))) := (s1.trans (same_upd nt)).trans (same_upd na)
    refine ⟨_, rfl, _, rfl, n, z, rfl, h2, h6, lz, z1, by omega, fun b H2 zs nb s2 up2 eb => ?_⟩
    obtain rfl : zs = ys := up2.one up fun _ => Iff.rfl
    have hl : zs.length ≤ 3000 := by
      have e := up.2.2.2
      rw [turns_len, ← len_tl] at e
      omega
    have ne : a ≠ b := ne_of_none ea nb
    refine ⟨_, rfl, _, rfl, b, a, zs, rfl, eb, s2 _ _ ea, by omega, fun H3 s3 => ⟨_, rfl, ?_⟩⟩
    refine iteF ?_
    have e3 := s3 _ _ eb
    refine ⟨_, rfl, .inl ⟨rfl, _, .inl (.inl e3)⟩, b, _, _, rfl, rfl, e3, by rw [List.length_map]; exact lt_line (by omega), ?_⟩
    refine ⟨_, rfl, b, _, _, 0, rfl, rfl, upd_same, ?_, ?_⟩
    · unfold ixN
      rw [if_pos (by decide), if_pos (by rw [List.length_append, List.length_singleton]; omega)]; rfl
    refine ⟨_, rfl, _, rfl, n, z, rfl, h2, h6, lz, z1, by omega, fun c H4 xs nc s4 up3 ec => ?_⟩
    obtain rfl : xs = zs := up3.one up fun _ => Iff.rfl
    refine ⟨_, rfl, c, a, xs, rfl, ec, s4 _ _ (keep_ne (keep_ne (s3 _ _ (s2 _ _ ea)) ne) ne), by omega, fun H5 s5 => ?_⟩
    refine q H5 fun d o e => s5 _ _ (s4 _ _ (keep_ne (keep_ne (s3 _ _ (s2 _ _ (s1' _ _ e))) ?_) ?_))
    all_goals exact ne_of_none (s1' _ _ e) nb
end
end Tx

set_option Elab.async false
set_option linter.all false
set_option maxRecDepth 100000
set_option maxHeartbeats 1000000
namespace Tx
open PySem PySem.Spec PyProof.Rows L2 TL
theorem for_start {K : PySem.W.Frag} {te : TE} {g : TG} {tb : TS} {D : Ends} {σ : L2.St} {H : Hp} (h : te σ H fun x H1 => ∃ a, x = .ref a ∧ (∃ xs, SqL K H1 a xs) ∧ ∃ W : Nat → Nat → L2.St → Hp → Prop, (∃ m, W 0 m σ H1) ∧ ∀ i m σ H, W i m σ H →
    ((Itl K a).stop i H ∧ D.nx σ H) ∨ ((Itl K a).go i H ∧ ∃ N : L2.St → Hp → Prop, (∀ σ' H', N σ' H' → ∃ m', m' < m ∧ W (i + 1) m' σ' H') ∧ ∀ x H', (Itl K a).yld i H x H' → g x σ H' fun σ2 H2 => tb { D with nx := N, ct := N, bk := D.nx } σ2 H2)) :
    tFor (iList K te) g tb D σ H := h
section
variable {P : Program} {w : World} {K : PySem.W.Frag} {mg : Str → Option Value} {base : Heap}
abbrev st_law_right : Stmt := topS 29
theorem sc_law_right : FnScope ["source", "text", "size", "letters", "turn", "ring"] ["source"] (defScope st_law_right) := ⟨rfl, rfl, rfl, by decide +kernel, rfl, by decide +kernel, by decide +kernel⟩
theorem pl_law_right : PlainB "_law_right" st_law_right ["source"] := fun _ _ _ _ _ _ us hl => match us, hl with | [_], _ => rfl
def spRight : Sp := fun vs H Q _ => ∃ p : Addr, vs = [.ref p] ∧ Src H p 0 ∧ ∀ H', But p H H' → Q (.bl true) H'
theorem ok_law_right (T : Top K mg "_law_right" st_law_right) (B : Bt mg) (D_law_pick : Dn P w K mg base 1 "_law_pick" st_law_pick ["source", "top"] spPick)
    (D_law_text : Dn P w K mg base 4 "_law_text" st_law_text ["source"] spText) (D_law_letters : Dn P w K mg base 2 "_law_letters" st_law_letters ["source"] spLetters)
    (D_law_ring : Dn P w K mg base 3 "_law_ring" st_law_ring ["source", "letters", "most"] spLRing) (D_law_text_right : Dn P w K mg base 5 "_law_text_right" st_law_text_right ["size", "text"] spTR)
    (D_law_ring_right : Dn P w K mg base 6 "_law_ring_right" st_law_ring_right ["size", "ring"] spRR) : Dn P w K mg base 7 "_law_right" st_law_right ["source"] spRight := by
  refine dn_of T sc_law_right pl_law_right (fun vs H Q E h => ?_) fun f cdv A outer s H vs Q E hr h => ?_
  · obtain ⟨a, rfl, _⟩ := h; rfl
  · obtain ⟨p, rfl, sr, q⟩ := h
    refine ⟨_, (pss_cons (ps_set (i := 1) sc_law_right.nd rfl (.inl rfl) (pe_fn D_law_text (hr.mono (by decide)) (by rfl) (pa_cons (pv 0) pa_nil)))
      (pss_cons (ps_for PassesOwn.never rfl (pi_list (pe_ifExp (pt_cmpR op_gt (pe_callB call_len_str (by rfl) B.len (by decide +kernel) (pa_cons (pv 1) pa_nil)) pe_int (nomark _)) (pe_lst (pa_cons (pe_op op_add pe_int (pe_fn D_law_pick (hr.mono (by decide)) (by rfl) (pa_cons (pv 0) (pa_cons pe_int pa_nil)))) pa_nil)) (pe_lst (pa_cons pe_int (pa_cons pe_int (pa_cons pe_int (pa_cons pe_int (pa_cons pe_int pa_nil)))))))) (pg_name (i := 2) sc_law_right.nd rfl (.inl rfl)) (pss_cons (ps_if (pt_not (pt_val (pe_fn D_law_text_right (hr.mono (by decide)) (by rfl) (pa_cons (pv 2) (pa_cons (pv 1) pa_nil))))) (pss_one (ps_ret pe_bl)) pss_nil)
      (pss_one (ps_if (PW.pt (pw_and (pt_cmpR op_ne (pv 1) pe_str (nomark _)) (pw_and1 (pt_not (pt_val (pe_fn D_law_ring_right (hr.mono (by decide)) (by rfl) (pa_cons (pv 2) (pa_cons (pv 1) pa_nil)))))))) (pss_one (ps_ret pe_bl)) pss_nil))))
      (pss_cons (ps_set (i := 3) sc_law_right.nd rfl (.inl rfl) (pe_fn D_law_letters (hr.mono (by decide)) (by rfl) (pa_cons (pv 0) pa_nil)))
      (pss_cons (ps_for PassesOwn.never rfl (pi_range1 (by rfl) B.range (pa_cons pe_int pa_nil)) (pg_name (i := 4) sc_law_right.nd rfl (.inl rfl)) (pss_cons (ps_set (i := 5) sc_law_right.nd rfl (.inl rfl) (pe_fn D_law_ring (hr.mono (by decide)) (by rfl) (pa_cons (pv 0) (pa_cons (pv 3) (pa_cons pe_int pa_nil)))))
      (pss_cons (ps_set (i := 2) sc_law_right.nd rfl (.inl rfl) (pe_op op_add pe_int (pe_fn D_law_pick (hr.mono (by decide)) (by rfl) (pa_cons (pv 0) (pa_cons pe_int pa_nil)))))
      (pss_one (ps_if (PW.pt (pw_or (pt_not (pt_val (pe_fn D_law_ring_right (hr.mono (by decide)) (by rfl) (pa_cons (pv 2) (pa_cons (pv 5) pa_nil))))) (pw_or1 (pt_not (pt_val (pe_fn D_law_text_right (hr.mono (by decide)) (by rfl) (pa_cons (pv 2) (pa_cons (pv 5) pa_nil)))))))) (pss_one (ps_ret pe_bl)) pss_nil)))))
      (pss_one (ps_ret pe_bl)))))), ?_⟩
    refine ⟨_, rfl, p, 0, rfl, sr, by decide, fun z H1 lz hz sr1 bt1 => ?_⟩
    have sz : z.length ≤ sizeLine := Nat.le_trans hz (by decide)
    dsimp only [gName, tSeq]
    refine for_start ?_
    refine if_anyH (P := fun v H' => ∃ (l : Addr) (ns : List Nat), v = .ref l ∧ H' l = some (.lst (ns.map fun k : Nat => V.int (k : Int))) ∧ (∀ k ∈ ns, 2 ≤ k ∧ k ≤ 6) ∧ Src H' p 20001 ∧ But p H1 H') (decide ((300 : Int) < (z.length : Int)))
      (fun R r => ⟨_, rfl, z, rfl, sz, _, _, rfl, rfl, _, rfl, r⟩) (fun _ Q' q' => ?_) (fun _ Q' q' => ?_) fun v H2 ⟨l, ns, ev, el, hns, sr2, bt2⟩ => ?_
    · refine ⟨_, rfl, p, 5, _, rfl, sr1, by decide, by decide, by decide, fun r H' r0 r1 sr' bt' => ⟨_, _, rfl, rfl, by show 1 ≤ sizeLine; decide, fun l nl => q' _ _ ⟨l, [(2 + r).toNat], rfl, ?_, fun k hk => ?_, sr'.new nl, bt'.trans (Same.but (same_upd nl))⟩⟩⟩
      · rw [upd_same]; show some (HO.lst [V.int (2 + r)]) = some (HO.lst [V.int (((2 + r).toNat : Nat) : Int)]); rw [Int.toNat_of_nonneg (by omega)]
      · rw [List.mem_singleton.mp hk]; omega
    · refine ⟨by show 5 ≤ sizeLine; decide, fun l nl => q' _ _ ⟨l, [2, 3, 4, 5, 6], rfl, by rw [upd_same]; rfl, by decide, (sr1.new nl).mono (by decide), Same.but (same_upd nl)⟩⟩
    · subst ev
      refine ⟨l, rfl, ⟨_, .inl (.inl el)⟩, for_list (K := K) (a := l) (xs := ns.map fun k : Nat => V.int (k : Int)) (fun i σ H' => Same H2 H' ∧ ∃ o, σ = [some (.ref p), some (.str z), o, none, none, none]) ⟨Same.refl _, none, rfl⟩ (fun _ _ _ _ h => .inl (.inl (h.1 _ _ el))) (fun i y σ H' hi ⟨sm, o, eσ⟩ => ?_) fun σ H' ⟨sm, o, eσ⟩ => ?_⟩
      · subst eσ
        obtain ⟨k, hk, rfl⟩ : ∃ k ∈ ns, y = V.int (k : Int) := by
          obtain ⟨k, h1, h2⟩ := List.mem_map.mp (List.mem_of_getElem? hi)
          exact ⟨k, h1, h2.symm⟩
        obtain ⟨k2, k6⟩ := hns k hk
        refine ⟨_, rfl, _, rfl, k, z, rfl, k2, k6, lz, by omega, fun H3 s3 => ⟨_, rfl, ?_⟩⟩
        refine iteF ?_
        refine ⟨_, rfl, rfl, _, rfl, ?_⟩
        refine ite2 (fun ne => ?_) fun _ => ?_
        · have z1 := len_e (z := z) fun e => by
            rw [e, decide_eq_true rfl] at ne
            cases ne
          refine ⟨_, rfl, _, rfl, k, z, rfl, k2, k6, lz, z1, by omega, fun H4 s4 => ⟨_, rfl, ?_⟩⟩
          refine iteF ?_
          exact ⟨(sm.trans s3).trans s4, _, rfl⟩
        · refine iteF ?_
          exact ⟨sm.trans s3, _, rfl⟩
      · subst eσ
        have bt3 : But p H H' := (bt1.trans bt2).same sm
        refine ⟨_, rfl, p, 20001, rfl, sr2.same sm, by decide, fun L H3 LL sr3 bt4 => ?_⟩
        refine ⟨3, rfl, by decide, by decide, for_range (fun i σ H' => ∃ o2 o4 o5, σ = [some (.ref p), some (.str z), o2, some (.str L), o4, o5] ∧ Src H' p (20002 + 10001 * i) ∧ But p H3 H') ⟨_, none, none, rfl, sr3, But.refl⟩ (fun i σ H' hi ⟨o2, o4, o5, eσ, sr', bt'⟩ => ?_) fun σ H' ⟨o2, o4, o5, eσ, sr', bt'⟩ => ?_⟩
        · subst eσ
          have hi : i < 3 := hi
          refine ⟨_, rfl, _, rfl, p, L, 6, _, rfl, sr', LL, by decide, by decide, by omega, fun y H4 ly y1 y6 sr4 bt5 => ?_⟩
          refine ⟨_, rfl, p, 5, _, rfl, sr4, by omega, by decide, by decide, fun r H5 r0 r1 sr5 bt6 => ⟨_, _, rfl, rfl, ?_⟩⟩
          obtain ⟨k, ek⟩ : ∃ k : Nat, 2 + r = (k : Int) := ⟨(2 + r).toNat, by omega⟩
          dsimp only
          rw [ek]
          refine ⟨_, rfl, _, rfl, k, y, rfl, by omega, by omega, ly, y1, by omega, fun H6 s6 => ⟨_, rfl, ?_⟩⟩
          refine iteF ?_
          refine ⟨_, rfl, _, rfl, k, y, rfl, by omega, by omega, ly, by omega, fun H7 s7 => ⟨_, rfl, ?_⟩⟩
          refine iteF ?_
          exact ⟨_, _, _, rfl, (sr5.same (s6.trans s7)).mono (by omega), ((bt'.trans bt5).trans bt6).same (s6.trans s7)⟩
        · exact q H' ((bt3.trans bt4).trans bt')
abbrev st_law : Stmt := topS 30
theorem sc_law : FnScope ["script", "k"] ["script"] (defScope st_law) := ⟨rfl, rfl, rfl, by decide +kernel, rfl, by decide +kernel, by decide +kernel⟩
theorem pl_law : PlainB "law" st_law ["script"] := fun _ _ _ _ _ _ us hl => match us, hl with | [_], _ => rfl
def spLaw (K : PySem.W.Frag) : Sp := fun vs H Q _ => ∃ (a : Addr) (ns : List Int), vs = [.ref a] ∧ SqL K H a (ns.map V.int) ∧ ns.length ≤ 63 ∧ ∀ H', Q (.bl true) H'
theorem ok_law (T : Top K mg "law" st_law) (B : Bt mg) (D_law_right : Dn P w K mg base 7 "_law_right" st_law_right ["source"] spRight) (D_law_source : Dn P w K mg base 1 "_law_source" st_law_source ["script", "k"] (spSource K)) :
    Dn P w K mg base 8 "law" st_law ["script"] (spLaw K) := by
  refine dn_of T sc_law pl_law (fun vs H Q E h => ?_) fun f cdv A outer s H vs Q E hr h => ?_
  · obtain ⟨a, _, rfl, _⟩ := h; rfl
  · obtain ⟨a, ns, rfl, sq, hn, q⟩ := h
    refine ⟨_, (pss_cons (ps_for PassesOwn.never rfl (pi_range1 (by rfl) B.range (pa_cons (pe_callB (call_max2 rfl) (by rfl) B.max (by decide +kernel) (pa_cons pe_int (pa_cons (pe_callB (call_min2 rfl) (by rfl) B.min (by decide +kernel) (pa_cons pe_int (pa_cons (pe_callB (lenK K rfl) (by rfl) B.len (by decide +kernel) (pa_cons (pv 0) pa_nil)) pa_nil))) pa_nil))) pa_nil)) (pg_name (i := 1) sc_law.nd rfl (.inl rfl)) (pss_one (ps_if (pt_not (pt_val (pe_fn D_law_right (hr.mono (by decide)) (by rfl) (pa_cons (pe_fn D_law_source (hr.mono (by decide)) (by rfl) (pa_cons (pv 0) (pa_cons (pv 1) pa_nil))) pa_nil)))) (pss_one (ps_ret pe_bl)) pss_nil)))
      (pss_one (ps_ret pe_bl))), ?_⟩
    refine ⟨_, rfl, a, _, rfl, .inl sq, _, _, rfl, _, _, rfl, ?_⟩
    obtain ⟨n, en, hn3⟩ : ∃ n : Nat, (if (if ((ns.map V.int).length : Int) < 3 then ((ns.map V.int).length : Int) else 3) > 1 then (if ((ns.map V.int).length : Int) < 3 then ((ns.map V.int).length : Int) else 3) else 1) = (n : Int) ∧ n ≤ 3 := by
      rw [List.length_map]
      refine ⟨(if (if (ns.length : Int) < 3 then (ns.length : Int) else 3) > 1 then (if (ns.length : Int) < 3 then (ns.length : Int) else 3) else 1).toNat, ?_, ?_⟩ <;> split <;> split <;> omega
    refine ⟨(n : Int), congrArg (fun x => [V.int x]) en, by omega, by omega, ?_⟩
    rw [Int.toNat_natCast]
    refine for_range (fun i σ H' => Same H H' ∧ ∃ o, σ = [some (.ref a), o]) ⟨Same.refl _, none, rfl⟩ (fun i σ H' hi ⟨sm, o, eσ⟩ => ?_) fun σ H' ⟨sm, o, eσ⟩ => ?_
    · subst eσ
      refine ⟨_, rfl, _, rfl, a, ns, i, ?_, sm.seq sq, hn, by omega, fun p H1 np s1 sr => ?_⟩
      · show [V.ref a, V.int (0 + (i : Int))] = [V.ref a, V.int (i : Int)]
        rw [show ((0 : Int) + (i : Int)) = (i : Int) by omega]
      · refine ⟨p, rfl, sr, fun H2 bt => ⟨_, rfl, ?_⟩⟩
        refine iteF ?_
        exact ⟨fun b o e => bt b o (s1 _ _ (sm _ _ e)) (ne_of_none (sm _ _ e) np), _, rfl⟩
    · exact q H'
end
end Tx

set_option Elab.async false
set_option linter.all false
set_option maxRecDepth 100000
namespace Tx
open PySem PySem.Spec PyProof.Rows L2 TL
theorem fun_one {K : PySem.W.Frag} {x q : Str} {st : Stmt} {f : Addr} {fd fd' : FuncData} (F : Fun K x q st f fd) (F' : Fun K x q st f fd') : fd = fd' := by
  obtain ⟨_, _, _, _, _, _, _, _, _, _, l, _⟩ := F.ex
  obtain ⟨_, _, _, _, _, _, _, _, _, _, l', _⟩ := F'.ex
  rw [l] at l'
  injection l' with e
  injection e with e1 e2 e3 e4
  injection e3
theorem all_ok {l : PySem.W.OpenLaw} {w : World} {K : PySem.W.Frag} {h : Heap} {mg : Str → Option Value} {fa : Addr} (X : K.In h) (G : h.Ns mainGlobals mg) (hfa : mg "law" = some (.ref fa)) (B : Bt mg)
    (T_is_whole : Top K mg "is_whole" st_is_whole) (T_is_letters : Top K mg "is_letters" st_is_letters) (T_steps_of : Top K mg "steps_of" st_steps_of) (T_unrolled : Top K mg "unrolled" st_unrolled) (T_is_size : Top K mg "is_size" st_is_size) (T_is_ring : Top K mg "is_ring" st_is_ring) (T_check_ring : Top K mg "check_ring" st_check_ring) (T_check_size : Top K mg "check_size" st_check_size) (T_windows_of : Top K mg "windows_of" st_windows_of) (T_ring_windows : Top K mg "ring_windows" st_ring_windows) (T_law_pick : Top K mg "_law_pick" st_law_pick) (T_law_source : Top K mg "_law_source" st_law_source) (T_law_letters : Top K mg "_law_letters" st_law_letters) (T_law_word : Top K mg "_law_word" st_law_word) (T_law_round : Top K mg "_law_round" st_law_round) (T_law_ring : Top K mg "_law_ring" st_law_ring) (T_law_same : Top K mg "_law_same" st_law_same) (T_law_linear : Top K mg "_law_linear" st_law_linear) (T_law_text : Top K mg "_law_text" st_law_text) (T_law_text_right : Top K mg "_law_text_right" st_law_text_right) (T_law_ring_right : Top K mg "_law_ring_right" st_law_ring_right) (T_law_right : Top K mg "_law_right" st_law_right) (T_law : Top K mg "law" st_law) :
    ∃ fd : FuncData, (∀ (s : Shared) (v : Value), BindsTo s fd ⟨[v], []⟩ [("script", v)]) ∧ ∀ base : Heap, K.In base → base.Ns mainGlobals mg → FnOk l.prog w K mg base CX0 8 fa fd ["script"] (spLaw K) := by
  obtain ⟨f, fd, hm, F⟩ := id T_law
  rw [hfa] at hm
  cases hm
  refine ⟨fd, fun s v => ?_, fun base _ _ => ?_⟩
  · obtain ⟨oc, od, kV, doc, pm, an, cdv, ct, osl, rfl, lk, hcd⟩ := F.ex
    exact .of_eq (pl_law kV doc pm an cdv ct [v] rfl)
  · skip
    have d_is_whole := ok_is_whole (P := l.prog) (w := w) (base := base) T_is_whole B
    have d_is_letters := ok_is_letters (P := l.prog) (w := w) (base := base) T_is_letters B
    have d_steps_of := ok_steps_of (P := l.prog) (w := w) (base := base) T_steps_of B
    have d_unrolled := ok_unrolled (P := l.prog) (w := w) (base := base) T_unrolled B
    have d_is_size := ok_is_size (P := l.prog) (w := w) (base := base) T_is_size d_is_whole
    have d_is_ring := ok_is_ring (P := l.prog) (w := w) (base := base) T_is_ring d_is_letters
    have d_check_ring := ok_check_ring (P := l.prog) (w := w) (base := base) T_check_ring d_is_ring
    have d_check_size := ok_check_size (P := l.prog) (w := w) (base := base) T_check_size d_is_size
    have d_windows_of := ok_windows_of (P := l.prog) (w := w) (base := base) T_windows_of B d_check_size d_is_letters d_steps_of
    have d_ring_windows := ok_ring_windows (P := l.prog) (w := w) (base := base) T_ring_windows d_check_size d_check_ring d_windows_of d_unrolled
    have d_law_pick := ok_law_pick (P := l.prog) (w := w) (base := base) T_law_pick B
    have d_law_source := ok_law_source (P := l.prog) (w := w) (base := base) T_law_source B
    have d_law_letters := ok_law_letters (P := l.prog) (w := w) (base := base) T_law_letters d_law_pick
    have d_law_word := ok_law_word (P := l.prog) (w := w) (base := base) T_law_word B d_law_pick
    have d_law_round := ok_law_round (P := l.prog) (w := w) (base := base) T_law_round B
    have d_law_ring := ok_law_ring (P := l.prog) (w := w) (base := base) T_law_ring B d_law_pick d_law_word
    have d_same0 := ok_same0 (P := l.prog) (w := w) (base := base) T_law_same B
    have d_same1 := ok_same1 (P := l.prog) (w := w) (base := base) T_law_same B d_same0
    have d_law_linear := ok_law_linear (P := l.prog) (w := w) (base := base) T_law_linear B
    have d_law_text := ok_law_text (P := l.prog) (w := w) (base := base) T_law_text d_law_pick d_law_ring d_law_letters
    have d_law_text_right := ok_law_text_right (P := l.prog) (w := w) (base := base) T_law_text_right d_law_linear d_windows_of d_same1
    have d_law_ring_right := ok_law_ring_right (P := l.prog) (w := w) (base := base) T_law_ring_right B d_law_round d_ring_windows d_same1
    have d_law_right := ok_law_right (P := l.prog) (w := w) (base := base) T_law_right B d_law_pick d_law_text d_law_letters d_law_ring d_law_text_right d_law_ring_right
    have d_law := ok_law (P := l.prog) (w := w) (base := base) T_law B d_law_right d_law_source
    obtain ⟨f', fd', hm', F', G'⟩ := d_law.ex
    rw [hfa] at hm'
    cases hm'
    cases fun_one F F'
    exact G'
end Tx
open PySem PySem.W PyProof.Rows
set_option maxRecDepth 100000 in
set_option maxHeartbeats 0 in
theorem PySem.Challenge.cw_surepieces_k02_windows_of_texts_and_ring_holds : PySem.Challenge.rw_surepieces_k02_windows_of_texts_and_ring.Holds := by
  w_on; o_law; k_head; (case hw => w_witness2)
  k_fill
  refine L2.walk_of (l := PySem.Challenge.rw_surepieces_k02_windows_of_texts_and_ring) (n := 63) (k := 8) (x := "script") (CX := fun _ => L2.CX0) (sp := fun w => Tx.spLaw _) rfl (by decide) rfl ⟨rfl, by decide, by decide⟩ (fun w h Y => PySem.W.kIn_of Y) ?F (fun _ _ a ns hl _ hS => ⟨a, ns, rfl, hS, hl, fun _ => rfl⟩) (fun _ _ _ _ _ h => h)
  case F =>
    intro w mg fa h KX G hmg
    refine' Tx.all_ok KX G hmg ⟨PySem.W.mg_none_of KX G ?b0, PySem.W.mg_none_of KX G ?b1, PySem.W.mg_none_of KX G ?b2, PySem.W.mg_none_of KX G ?b3, PySem.W.mg_none_of KX G ?b4, PySem.W.mg_none_of KX G ?b5, PySem.W.mg_none_of KX G ?b6, PySem.W.mg_none_of KX G ?b7, PySem.W.mg_none_of KX G ?b8, PySem.W.mg_none_of KX G ?b9, PySem.W.mg_none_of KX G ?b10, PySem.W.mg_none_of KX G ?b11, PySem.W.mg_none_of KX G ?b12, PySem.W.mg_none_of KX G ?b13⟩ ?t0 ?t1 ?t2 ?t3 ?t4 ?t5 ?t6 ?t7 ?t8 ?t9 ?t10 ?t11 ?t12 ?t13 ?t14 ?t15 ?t16 ?t17 ?t18 ?t19 ?t20 ?t21 ?t22
    (case b0 => k_is)
    (case b1 => k_is)
    (case b2 => k_is)
    (case b3 => k_is)
    (case b4 => k_is)
    (case b5 => k_is)
    (case b6 => k_is)
    (case b7 => k_is)
    (case b8 => k_is)
    (case b9 => k_is)
    (case b10 => k_is)
    (case b11 => k_is)
    (case b12 => k_is)
    (case b13 => k_is)
    (case t0 => refine' Tx.top_mk KX G ?a ?l ?c ?k; (case a => k_is); (case l => k_is); (case c => k_is); (case k => k_is))
    (case t1 => refine' Tx.top_mk KX G ?a ?l ?c ?k; (case a => k_is); (case l => k_is); (case c => k_is); (case k => k_is))
    (case t2 => refine' Tx.top_mk KX G ?a ?l ?c ?k; (case a => k_is); (case l => k_is); (case c => k_is); (case k => k_is))
    (case t3 => refine' Tx.top_mk KX G ?a ?l ?c ?k; (case a => k_is); (case l => k_is); (case c => k_is); (case k => k_is))
    (case t4 => refine' Tx.top_mk KX G ?a ?l ?c ?k; (case a => k_is); (case l => k_is); (case c => k_is); (case k => k_is))
    (case t5 => refine' Tx.top_mk KX G ?a ?l ?c ?k; (case a => k_is); (case l => k_is); (case c => k_is); (case k => k_is))
    (case t6 => refine' Tx.top_mk KX G ?a ?l ?c ?k; (case a => k_is); (case l => k_is); (case c => k_is); (case k => k_is))
    (case t7 => refine' Tx.top_mk KX G ?a ?l ?c ?k; (case a => k_is); (case l => k_is); (case c => k_is); (case k => k_is))
    (case t8 => refine' Tx.top_mk KX G ?a ?l ?c ?k; (case a => k_is); (case l => k_is); (case c => k_is); (case k => k_is))
    (case t9 => refine' Tx.top_mk KX G ?a ?l ?c ?k; (case a => k_is); (case l => k_is); (case c => k_is); (case k => k_is))
    (case t10 => refine' Tx.top_mk KX G ?a ?l ?c ?k; (case a => k_is); (case l => k_is); (case c => k_is); (case k => k_is))
    (case t11 => refine' Tx.top_mk KX G ?a ?l ?c ?k; (case a => k_is); (case l => k_is); (case c => k_is); (case k => k_is))
    (case t12 => refine' Tx.top_mk KX G ?a ?l ?c ?k; (case a => k_is); (case l => k_is); (case c => k_is); (case k => k_is))
    (case t13 => refine' Tx.top_mk KX G ?a ?l ?c ?k; (case a => k_is); (case l => k_is); (case c => k_is); (case k => k_is))
    (case t14 => refine' Tx.top_mk KX G ?a ?l ?c ?k; (case a => k_is); (case l => k_is); (case c => k_is); (case k => k_is))
    (case t15 => refine' Tx.top_mk KX G ?a ?l ?c ?k; (case a => k_is); (case l => k_is); (case c => k_is); (case k => k_is))
    (case t16 => refine' Tx.top_mk KX G ?a ?l ?c ?k; (case a => k_is); (case l => k_is); (case c => k_is); (case k => k_is))
    (case t17 => refine' Tx.top_mk KX G ?a ?l ?c ?k; (case a => k_is); (case l => k_is); (case c => k_is); (case k => k_is))
    (case t18 => refine' Tx.top_mk KX G ?a ?l ?c ?k; (case a => k_is); (case l => k_is); (case c => k_is); (case k => k_is))
    (case t19 => refine' Tx.top_mk KX G ?a ?l ?c ?k; (case a => k_is); (case l => k_is); (case c => k_is); (case k => k_is))
    (case t20 => refine' Tx.top_mk KX G ?a ?l ?c ?k; (case a => k_is); (case l => k_is); (case c => k_is); (case k => k_is))
    (case t21 => refine' Tx.top_mk KX G ?a ?l ?c ?k; (case a => k_is); (case l => k_is); (case c => k_is); (case k => k_is))
    (case t22 => refine' Tx.top_mk KX G ?a ?l ?c ?k; (case a => k_is); (case l => k_is); (case c => k_is); (case k => k_is))
