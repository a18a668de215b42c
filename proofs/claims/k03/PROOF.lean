import PyProof.Rows.All
import Wide.All
import OpenK.AllK
import Wide.FinOn
import PyProof.Rows.SortShellAny
import HandS.ForMost
import HandS.Set
import HandS.SetFor
import HandS.More
import HandS.Strs
import HandS.IsInst
import HandS.Zip
import HandS.Conv
import PyProof.Rows.StrRev
import PyProof.Rows.StrStep
import HandS.Style
import PyProof.MinMaxWalk
import PyProof.StrLawsIn
import HandS.DictComp
import HandS.Wide
import PySem.Challenge.RW_surepieces_k03_what_fits_and_stands
set_option Elab.async false
set_option linter.all false
set_option maxRecDepth 100000
set_option maxHeartbeats 4000000
/-! Texts: sorted of a list, a dict, a set of texts, any number of them; set of a list of texts -/
namespace Tx
open PySem PySem.Spec PyProof.Rows L2

section
variable {X : Cx} {pins : List (Addr × Obj)} {σ : L2.St} {H : Hp}
/-- the end of sorted: what was collected is laid as a new list, and that is sorted -/
theorem sortTail {s : Shared} {A : Around} {E : Value → Shared → Prop} {vs : List Value} {ks : List Str} {Q : VK}
    (I : Inv X pins σ H s) (hS : StrsAre vs ks) (hz : vs.length ≤ sizeLine)
    (q : ∀ ys p, ys.Perm ks → sortedS ys = true → H p = none → Q (.ref p) (upd H p (.lst (ys.map V.str)))) :
    wpAny (model X.prog X.w) A (newList vs >>= fun l => holding [l] (call (.builtin "list.sort") [l] []) >>= fun _ => ret l)
      (fun fin s' => ∃ v, fin = .done (.ret v) ∧ EP X pins σ Q v s') E s := by
  have at0 : (s.heap.push (seqObj "list" vs.toArray 0)).get? s.heap.objs.size = some (seqObj "list" vs.toArray 0) := Heap.get?_push_size _ rfl
  refine wpAny_bind (wpAny_newList ?_ hz)
  refine wpAny_bind (wpAny_holding (wpAny_call_entry slot_list_sort ⟨_, at0, rfl⟩ entry_list_sort (list_sort_treeKAny strKind_oneLt (s := { s with heap := s.heap.push (seqObj "list" vs.toArray 0) }) at0 hS.keysOf
    (fun _ _ _ e => keyKind_strs (by rw [← e]; exact hS)) hz fun st' hp hs => ⟨_, rfl, ?_⟩) (args_list_sort _)))
  obtain ⟨ys, g1, g2, g3⟩ := sorted_out_str hS hp hs
  obtain ⟨ep, ha⟩ := sortedHeap_at (vs := vs) (out := (arrOf st').map (·.2)) at0
  have hl : (ys.map V.str).length ≤ sizeLine := by
    rw [List.length_map, g2.length_eq, ← StrsAre.length hS]; exact hz
  refine wpAny_pure ⟨_, rfl, .ref s.heap.objs.size, upd H s.heap.objs.size (.lst (ys.map V.str)), ?_, rfl, q ys _ g2 g3 (I.hok.fresh (Nat.le_refl _))⟩
  refine I.laid (t' := s.toks) (fun b u e => ?_) (Nat.le_refl _) (show ObjOk X.prog X.w _ _ _ (.lst (ys.map V.str)) from ⟨hl, ((arrOf st').map (·.2)).toList, ep, vals_of_strs g1, by rw [Array.toArray_toList]; exact ha⟩)
  have lt := Heap.lt_size e
  rw [sortedHeap_old (Nat.ne_of_lt lt) (by rw [size_push']; exact Nat.lt_succ_of_lt lt)]
  exact Heap.get?_push_of_some _ e

/-- sorted(xs), a list of texts -/
def rSortL (K : PySem.W.Frag) : List V → Hp → VK → Prop := fun vs H Q => ∃ (a : Addr) (zs : List Str), vs = [V.ref a] ∧ SqL K H a (zs.map V.str) ∧
  ∀ ys p, ys.Perm zs → sortedS ys = true → H p = none → Q (.ref p) (upd H p (.lst (ys.map V.str)))
theorem cr_sortL : CallR X (.builtin "sorted") (rSortL X.K) := by
  intro pins s σ H vs us Q I r h
  obtain ⟨a, zs, rfl, hs, q⟩ := h
  obtain ⟨its, rv, hl, hz⟩ := I.list hs
  rw [Vals.ref1 r]
  have e0 := rv.length
  rw [List.length_map] at e0 hz
  refine sorted_strsAny hl.isList rv.strs (by rw [← e0]; exact hz) fun out ys h1 h2 h3 => ?_
  obtain ⟨ep, he⟩ := sortedAll_at s.heap its out
  have hn : (ys.map V.str).length ≤ sizeLine := by rw [List.length_map, h2.length_eq]; exact hz
  exact ⟨.ref _, upd H (s.heap.objs.size + 1) (.lst (ys.map V.str)), I.laid (t' := s.toks) (fun _ _ => sortedAll_old) (Nat.le_succ _) ⟨hn, out.toList, ep, vals_of_strs h1, he⟩, rfl, q ys _ h2 h3 (I.hok.fresh (Nat.le_succ _))⟩

/-- sorted(d), a dict with text keys -/
def rSortD : List V → Hp → VK → Prop := fun vs H Q => ∃ (a : Addr) (kvs : List (Key × V)) (ks : List Str), vs = [V.ref a] ∧ Rd H a (.dK kvs) ∧ kvs.map (·.1) = ks.map Sum.inr ∧
  ∀ ys p, ys.Perm ks → sortedS ys = true → H p = none → Q (.ref p) (upd H p (.lst (ys.map V.str)))
theorem cr_sortD (hc : X.calm = true) : CallR X (.builtin "sorted") rSortD := by
  intro pins s σ H vs us Q I r h
  obtain ⟨a, kvs, ks, rfl, hd, hks, q⟩ := h
  rw [Vals.ref1 r]
  obtain ⟨z, lo, ws, rel, dd⟩ := dk_rd I.hok hd
  obtain ⟨ep, hat⟩ := dd.dictAt
  have hw : ws.map (·.1) = ks.map Sum.inr := rel.keys.symm.trans hks
  have hl : ws.length = ks.length := by
    have e := congrArg List.length hw
    rwa [List.length_map, List.length_map] at e
  have h16 : ws.length ≤ sizeLine := by rw [← rel.length]; exact z
  refine Calls.call_function_entry kind_sorted plain_sorted entry_sorted (args_sorted1 _) ?_
  unfold Builtin.«sorted»
  refine wpAny_bind (m := checkCount "sorted" 1 1 _) (wpAny_pure ?_)
  refine wpAny_bind (PySem.W.kdu_collect (A := X.A.in1) (PySem.W.kdl_dict (knd := mixKind X.prog X.w) (kvs := ws) (ep := ep) lo) (I.ok.hd hc) hat h16 fun h' tk acc hk hacc => ?_)
  have hal : acc.toList.length = ks.length := by rw [Array.length_toList, hacc.1, hl]
  have hS : StrsAre acc.toList ks := L2.strs_at hal fun j v e => by
    obtain ⟨k, x, e1, e2⟩ := hacc.2 j v (by rwa [← Array.getElem?_toList])
    have e3 : (ks.map Sum.inr)[j]? = some k := by rw [← hw, List.getElem?_map, e1] <;> rfl
    rw [List.getElem?_map] at e3
    cases e4 : ks[j]? with
    | none => rw [e4] at e3; cases e3
    | some y =>
      rw [e4] at e3
      cases (Option.some.inj e3 : Sum.inr y = k)
      obtain ⟨t, ev⟩ := Value.isStrOf_shape (x := y) (v := v) e2
      exact ⟨y, t, rfl, ev⟩
  exact sortTail (s := { s with heap := h', toks := tk }) (I.kept hk) hS (by rw [hal, ← hl]; exact h16) q
end

/-! ### a set of texts -/
/-- the texts ks stand in the set at a, each once; it can be walked -/
def SetS (w : World) (h : Heap) (a : Addr) (ks : List Str) : Prop :=
  ∃ o es ep t, h.get? a = some o ∧ o.ExactSet ∧ o.data = .set es ep t ∧ (∀ e ∈ es.toList, ∃ x tk, e = (hashStr w x, Value.str x tk)) ∧
    (es.toList.map fun e => strOf e.2).Perm ks ∧ ks.Nodup ∧ es.size < scanBound ∧ t.fits es.size = true ∧ Ris t.place.toList ∧ (w.params.followText "set-order" = true ∨ t.led = true)
section
variable {P : Program} {w : World} {h h' : Heap} {a : Addr} {ks : List Str}
theorem SetS.keep (R : SetS w h a ks) (k : ∀ o, h.get? a = some o → h'.get? a = some o) : SetS w h' a ks := by
  obtain ⟨o, es, ep, t, ho, r⟩ := R
  exact ⟨o, es, ep, t, k o ho, r⟩
theorem elems_of {l : List (Int × Value)} (g : ∀ e ∈ l, ∃ x tk, e = (hashStr w x, Value.str x tk)) : ElemsOf (PySem.strKind P w) l := fun e he => by
  obtain ⟨x, tk, rfl⟩ := g e he
  exact ⟨⟨x, strKind_is P w x tk, rfl⟩, rfl⟩
theorem key_there {l : List (Int × Value)} (g : ∀ e ∈ l, ∃ x tk, e = (hashStr w x, Value.str x tk)) (x : Str) : (∃ e ∈ l, (PySem.strKind P w).is x e.2 = true) ↔ x ∈ l.map fun e => strOf e.2 := by
  rw [List.mem_map]
  refine ⟨fun ⟨e, he, q⟩ => ⟨e, he, ?_⟩, fun ⟨e, he, q⟩ => ⟨e, he, ?_⟩⟩ <;> obtain ⟨y, tk, rfl⟩ := g e he
  · exact (of_decide_eq_true (p := y = x) (by simpa [PySem.strKind, Value.isStrOf] using q))
  · have q' : y = x := q
    subst q'
    exact strKind_is P w y tk

/-- what is stored behind an adding, at one go or with the table laid anew -/
theorem setS_store {P : Program} {A : Around} {E : Value → Shared → Prop} {s : Shared} {o : Obj} {es es1 : Array (Int × Value)} {ep : Nat} {t t2 : SetTable} {dm : Bool} {R : Option Bool → Shared → Prop} {g : Bool → Sem Unit}
    (hg : ∀ (b : Bool) (s1 : Shared) (Q' : Unit → Shared → Prop), Q' () s1 → wpAny (model P w) A (g b) Q' E s1)
    (ho : s.heap.get? a = some o) (hex : o.ExactSet) (hd : o.data = .set es ep t) (g1 : ∀ e ∈ es1.toList, ∃ x tk, e = (hashStr w x, Value.str x tk)) (pk : (es1.toList.map fun e => strOf e.2).Perm ks) (nd : ks.Nodup)
    (hb : es1.size < scanBound) (hf : t2.fits es1.size = true) (hr : Ris t2.place.toList) (hl : w.params.followText "set-order" = true ∨ t2.led = true)
    (fin : ∀ h', Heap.SameBut a s.heap h' → SetS w h' a ks → R (some true) { s with heap := h' }) :
    wpAny (model P w) A (do
        storeSet a es1 t2
        if (!dm && t2.tooFull) = true then do
          let z := relayAll t2 es1 (SetTable.grown es1.size)
          g z.2.2; storeSet a z.1 z.2.1; pure (some true)
        else pure (some true)) R E s := by
  have o1 := store_at (es' := es1) (t' := t2) ho hd
  have k1 := Heap.SameBut.update s.heap a (Obj.putSet es1 t2)
  refine wpAny_bind (wpAny_storeSet_of ho hd ?_ (fits_of_scanBound hb))
  by_cases c : (!dm && t2.tooFull) = true
  · rw [if_pos c]
    have e1 := relayAll_perm t2 es1 (SetTable.grown es1.size)
    have e2 := relayAll_fits t2 es1 (SetTable.grown es1.size)
    have e3 := relayAll_ris t2 es1 (SetTable.grown es1.size)
    have e4 := relayAll_led t2 es1 (SetTable.grown es1.size)
    generalize relayAll t2 es1 (SetTable.grown es1.size) = Z at e1 e2 e3 e4 ⊢
    have e5 : Z.1.size = es1.size := by rw [← Array.length_toList, e1.length_eq, Array.length_toList]
    have b2 : Z.1.size < scanBound := by rw [e5]; exact hb
    refine wpAny_bind (hg _ _ _ (wpAny_bind (wpAny_storeSet_of o1 rfl (wpAny_pure (fin _ (k1.trans (Heap.SameBut.update _ a _)) ?_)) (fits_of_scanBound b2))))
    exact ⟨_, Z.1, _, Z.2.1, store_at (es' := Z.1) (t' := Z.2.1) o1 rfl, hex, rfl, fun e he => g1 e (e1.mem_iff.mp he), (e1.map _).trans pk, nd, b2, e2, e3, hl.imp id (by rw [e4]; exact id)⟩
  · rw [if_neg c]
    exact wpAny_pure (fin _ k1 ⟨_, es1, _, t2, o1, hex, rfl, g1, pk, nd, hb, hf, hr, hl⟩)

theorem setS_add {P : Program} {A : Around} {E : Value → Shared → Prop} {s : Shared} {x : Str} {tk : Tok} {Q : Bool → Shared → Prop} (R : SetS w s.heap a ks) (room : ks.length + 1 < scanBound)
    (hQ : ∀ h' b, Heap.SameBut a s.heap h' → SetS w h' a (if x ∈ ks then ks else x :: ks) → Q b { s with heap := h' }) :
    wpAny (model P w) A (setAddHashed a (.str x tk) ((PySem.strKind P w).hash x)) Q E s := by
  obtain ⟨o, es, ep, t, ho, hex, hd, g, pk, nd, hb, hf, hr, hl⟩ := R
  have hkey : (PySem.strKind P w).is x (.str x tk) = true := strKind_is P w x tk
  have hsc : (Value.str x tk).scannable = true := rfl
  have hel : ElemsOf (PySem.strKind P w) es.toList := elems_of g
  have hn : es.size = ks.length := by
    have e := pk.length_eq
    rwa [List.length_map, Array.length_toList] at e
  unfold setAddHashed setAddHashedIn
  refine wpAny_holding (wpAny_bind (wpAny_setState_of ho hd hf ?_))
  dsimp only
  rw [byScan_of hsc hb hel, if_pos rfl]
  unfold setAddByScan
  refine wpAny_bind (wpAny_bind (wpAny_rule (wpAny_bind (wpAny_setScan_of hkey ho hd hf hel ?_))))
  cases hfi : List.findIdx? (fun e => (PySem.strKind P w).is x e.2) es.toList with
  | some j =>
    dsimp only
    obtain ⟨hj, pj, _⟩ := List.findIdx?_eq_some_iff_getElem.mp hfi
    have hx : x ∈ ks := pk.mem_iff.mp ((key_there (P := P) g x).mp ⟨_, List.getElem_mem hj, pj⟩)
    refine wpAny_pure (wpAny_pure (hQ s.heap false (Heap.SameBut.refl a s.heap) ?_))
    rw [if_pos hx]
    exact ⟨o, es, ep, t, ho, hex, hd, g, pk, nd, hb, hf, hr, hl⟩
  | none =>
    dsimp only
    have hx : x ∉ ks := fun z => by
      obtain ⟨e, he, q⟩ := (key_there (P := P) g x).mpr (pk.mem_iff.mpr z)
      have c := List.findIdx?_eq_none_iff.mp hfi e he
      rw [q] at c
      cases c
    have quiet : ∀ (b : Bool) {s1 : Shared} {Q' : Unit → Shared → Prop}, Q' () s1 → wpAny (model P w) A (match b with | true => rule "set.scan.the-table-gave-way" | false => pure ()) Q' E s1 := by
      intro b s1 Q' q
      cases b
      · exact wpAny_pure q
      · exact wpAny_rule q
    have p1 := layNew_perm t es ((PySem.strKind P w).hash x) (.str x tk)
    have f1 := layNew_fits t es ((PySem.strKind P w).hash x) (.str x tk)
    have r1 := layNew_ris t es ((PySem.strKind P w).hash x) (.str x tk) hr
    have l1 := layNew_led t es ((PySem.strKind P w).hash x) (.str x tk)
    generalize layNew t es ((PySem.strKind P w).hash x) (.str x tk) = Z at p1 f1 r1 l1 ⊢
    obtain ⟨es1, t1, dm, gave⟩ := Z
    dsimp only at p1 f1 r1 l1 ⊢
    rw [Array.toList_push] at p1
    have p2 : es1.toList.Perm ((hashStr w x, Value.str x tk) :: es.toList) := p1.trans (List.perm_append_singleton _ _)
    have p3 : (es1.toList.map fun e => strOf e.2).Perm (x :: ks) := by
      have e := p2.map fun e : Int × Value => strOf e.2
      exact e.trans (pk.cons x)
    have g1 : ∀ e ∈ es1.toList, ∃ x tk, e = (hashStr w x, Value.str x tk) := fun e he =>
      (List.mem_cons.mp (p2.mem_iff.mp he)).elim (fun z => ⟨x, tk, z⟩) (g e)
    have z1 : es1.size = ks.length + 1 := by rw [← Array.length_toList, p2.length_eq, List.length_cons, Array.length_toList, hn]
    have led : w.params.followText "set-order" = true ∨ t1.led = true := hl.imp id (by rw [l1]; exact id)
    have fin : ∀ h', Heap.SameBut a s.heap h' → SetS w h' a (x :: ks) → Q true { s with heap := h' } := fun h' sb r => hQ h' true sb (by rw [if_neg hx]; exact r)
    have nd1 : (x :: ks).Nodup := List.nodup_cons.mpr ⟨hx, nd⟩
    refine wpAny_bind (quiet _ ?_)
    have hs1 : es1.size < scanBound := by rw [z1]; exact room
    split
    · refine wpAny_bind ?_
      rw [hashByValue_scannable 8 hsc]
      refine wpAny_pure (setS_store (g := fun b => match b with | true => rule "set.scan.the-table-gave-way" | false => pure ()) (fun b s1 Q' q => quiet b q) ho hex hd g1 p3 nd1 hs1 ?_ ?_ ?_ fun h' sb r => wpAny_pure (fin h' sb r))
      all_goals (first | (split <;> first | exact f1 | exact SetTable.fits_plain_off f1 | exact r1 | exact led) | exact f1 | exact r1 | exact led)
    · refine wpAny_bind (wpAny_pure ?_)
      exact setS_store (g := fun b => match b with | true => rule "set.scan.the-table-gave-way" | false => pure ()) (fun b s1 Q' q => quiet b q) ho hex hd g1 p3 nd1 hs1 f1 r1 led fun h' sb r => wpAny_pure (fin h' sb r)
end
end Tx

set_option Elab.async false
set_option linter.all false
set_option maxRecDepth 100000
set_option maxHeartbeats 4000000
namespace Tx
open PySem PySem.Spec PyProof.Rows L2

/-- ks are the texts of the first i items, each once -/
def FirstOf (xs : List Str) (i : Nat) (ks : List Str) : Prop := ks.length ≤ i ∧ ks.Nodup ∧ ∀ x, x ∈ ks ↔ x ∈ xs.take i
theorem FirstOf.next {xs ks : List Str} {i : Nat} {x : Str} (f : FirstOf xs i ks) (h : xs[i]? = some x) : FirstOf xs (i + 1) (if x ∈ ks then ks else x :: ks) := by
  obtain ⟨f1, f2, f3⟩ := f
  have e : xs.take (i + 1) = xs.take i ++ [x] := by rw [List.take_add_one, h] <;> rfl
  by_cases c : x ∈ ks
  · rw [if_pos c]
    refine ⟨by omega, f2, fun y => ?_⟩
    rw [e, List.mem_append, ← f3 y, List.mem_singleton]
    exact ⟨.inl, fun z => z.elim id fun z => z ▸ c⟩
  · rw [if_neg c]
    refine ⟨by rw [List.length_cons]; omega, List.nodup_cons.mpr ⟨c, f2⟩, fun y => ?_⟩
    rw [e, List.mem_append, ← f3 y, List.mem_singleton, List.mem_cons]
    exact Or.comm

section
variable {P : Program} {w : World} {A : Around} {E : Value → Shared → Prop}
theorem setS_update {I S : Addr} {fp wr : List Addr} {G : Array GenState → Array GenState → Prop} {n : Nat} {Pv : Nat → Value → Prop} {St : Nat → Shared → Prop} {R : Result → Shared → Prop} {xs : List Str}
    (W : WalksS P w A.in1 I fp wr G n Pv St) (hS : S ∉ fp) (hn : n = xs.length) (hb : n + 1 < scanBound) (hv : ∀ i v, Pv i v → ∃ x t, xs[i]? = some x ∧ v = .str x t) :
    ∀ (m i : Nat) (s : Shared) (ks : List Str), n - i = m → i ≤ n → St i s → FirstOf xs i ks → SetS w s.heap S ks →
      (∀ s' ks', Moved (S :: wr) G s s' → FirstOf xs n ks' → SetS w s'.heap S ks' → R (.ok (.ret .none)) s') →
      codeAny (model P w) A (.builtin "set.update.loop" ⟨[.ref S, .ref I], []⟩) R s := by
  have hw : S ∉ wr := fun z => hS (W.sub _ z)
  have up : ∀ b ∈ wr, b ∈ S :: wr := fun b z => List.mem_cons_of_mem _ z
  intro m
  induction m with
  | zero =>
    intro i s ks e1 e2 st f hk q
    obtain rfl : i = n := by omega
    refine codeAny_builtin F.entry_set_update_loop ?_
    rw [Around.under_plainId F.plain_set_update_loop _]
    refine wpAny_bind (m := pyNext (.ref I)) (W.done s _ _ st fun s' mv => ?_)
    exact wpAny_pure (q s' ks (mv.mono up) f (hk.keep fun o z => mv.heap S o hw z))
  | succ m ih =>
    intro i s ks e1 e2 st f hk q
    have lt : i < n := by omega
    refine codeAny_builtin F.entry_set_update_loop ?_
    rw [Around.under_plainId F.plain_set_update_loop _]
    refine wpAny_bind (m := pyNext (.ref I)) (W.item i s _ _ lt st fun v s' pv st' mv => ?_)
    obtain ⟨x, t, hx, rfl⟩ := hv i v pv
    have hk' : SetS w s'.heap S ks := hk.keep fun o z => mv.heap S o hw z
    refine wpAny_bind (m := holding [Value.str x t] (setAdd S (.str x t))) (wpAny_holding ?_)
    unfold setAdd
    refine wpAny_holding (wpAny_bind ((PySem.strKind P w).pyHash (k := x) (strKind_is _ _ _ _) ?_))
    refine setS_add (s := { s' with toks := s'.toks + 1 }) hk' (by have := f.1; omega) fun h' b sb hk2 => ?_
    refine wpAny_pure ⟨plainId_quiet F.plain_set_update_loop _, ih (i + 1) _ _ (by omega) lt (W.frame _ s' _ _ st' (Nat.le_succ _) fun c hc o z => ?_) (f.next hx) hk2 fun s2 ks2 mv2 f2 hk3 => ?_⟩
    · rw [sb.2 c fun z' : c = S => hS (z' ▸ hc)]; exact z
    · refine q s2 ks2 (Moved.trans W.gtrans ((mv.mono up).then_heap (Nat.le_succ _) fun c o hc z => ?_) mv2) f2 hk3
      rw [sb.2 c fun z' : c = S => hc (by rw [z']; exact List.mem_cons_self)]; exact z

def freshSet (w : World) : Obj := { cls := .type "set", dict := none, data := .set #[] 0 (.fresh 0 0 (!w.params.followText "set-order")) }
theorem fresh_ok {h : Heap} {a : Addr} (e : h.get? a = some (freshSet w)) : SetS w h a [] :=
  ⟨_, #[], 0, _, e, ⟨rfl, rfl, rfl⟩, rfl, fun e z => by simp at z, List.Perm.refl _, List.nodup_nil, by decide, rfl, List.Pairwise.nil, by
    show _ ∨ (!w.params.followText "set-order") = true
    cases w.params.followText "set-order"
    · exact .inr rfl
    · exact .inl rfl⟩

set_option maxHeartbeats 6400000 in
theorem call_setS {s : Shared} {l : Addr} {items : Array Value} {xs : List Str} {Q : Value → Shared → Prop} (hh : A.handled = none) (hl : s.heap.IsList l items) (hi : StrsAre items.toList xs) (hb : xs.length + 1 < scanBound)
    (h : ∀ h' tk ks, FirstOf xs xs.length ks → SetS w h' s.heap.objs.size ks → (∀ b o, s.heap.get? b = some o → h'.get? b = some o) → Q (.ref s.heap.objs.size) { s with heap := h', toks := tk }) :
    wpAny (model P w) A (call (.type "set") [.ref l]) Q E s := by
  have hsz : xs.length = items.size := by rw [← StrsAre.len_eq hi, Array.length_toList]
  obtain ⟨c, tl, hmro⟩ := F.called_set.mro
  have hmade := F.called_set.made
  have hsub := F.called_set.sub
  refine wpAny_call (codeAny_of_tree (show wpAny _ _ (callAny (.type "set") _) _ _ _ from ?_))
  refine wpAny_pure ⟨Code.quiet_builtin _ (by decide +kernel), codeAny_builtin F.entry_type_call ?_⟩
  rw [Around.under_plain (weight_type_call_type "set" [.ref l] []) rfl]
  have h1 := F.called_set.notType
  have h2 := F.called_set.canCreate
  have hct := F.typeCall_set_1 (.ref l)
  repeat (any_goals (first | assumption | wp_step))
  refine codeAny_mono (code_set_led1 (.ref l) (E := E) (Q₁ := fun obj s1 => obj = .ref s.heap.objs.size ∧ s1 = { s with heap := s.heap.push (freshSet w) }) ⟨rfl, rfl⟩) fun r s1 hr => ?_
  rcases r with e | fl
  · exact hr
  · rcases fl with obj | _ | _ | _
    all_goals first | exact hr.elim | skip
    obtain ⟨rfl, rfl⟩ := hr
    have at0 : (s.heap.push (freshSet w)).get? s.heap.objs.size = some (freshSet w) := Heap.get?_push_size _ rfl
    have hT : Shared.TypeIs { s with heap := s.heap.push (freshSet w) } (.ref s.heap.objs.size) "set" := ⟨_, at0, rfl⟩
    have hli := F.called_set.init.lookup
    have hbi := F.called_set.init.bind (.ref s.heap.objs.size)
    repeat (any_goals (first | assumption | wp_step))
    refine codeAny_mono (codeAny_call_builtin (R := wants (fun r s2 => r = .none ∧ ∃ h' tk ks, s2 = { s with heap := h', toks := tk } ∧ FirstOf xs xs.length ks ∧ SetS w h' s.heap.objs.size ks ∧
      ∀ b o, s.heap.get? b = some o → h'.get? b = some o) E) F.called_set.init.plain F.entry_set_init (check_set_init_1 hT ?_)) fun r2 s2 hr2 => ?_
    · obtain ⟨⟨oc, od, oa, os⟩, hol, hcl, nl, hdl⟩ := hl
      simp only at hcl hdl
      subst hcl; subst hdl
      have lt := Heap.lt_size hol
      have hol' : (s.heap.push (freshSet w)).get? l = some { cls := .type "list", dict := od, data := .seq items nl, slots := os } := Heap.get?_push_of_some _ hol
      have hl1 : (s.heap.push (freshSet w)).IsList l items := ⟨_, hol', rfl, nl, rfl⟩
      have f1 := F.sub_list_set
      have f2 := F.sub_list_frozenset
      have f3 : (Value.type "list" == Value.type "dict") = false := by decide
      unfold Builtin.«set.__init__» noKeywords Builtin.Frozenset.updateFrom
      generalize hPI : pyIter = PI
      wp_walk
      subst hPI
      refine wpAny_pyIter_list hl1 (wpAny_bind (wpAny_runValue ?_))
      have hh3 : A.in1.in1.in1.handled = none := by simp [hh]
      have sz : (s.heap.push (freshSet w)).objs.size = s.heap.objs.size + 1 := Heap.size_push ..
      have neI : l ≠ (s.heap.push (freshSet w)).objs.size := by rw [sz]; exact Nat.ne_of_lt (Nat.lt_succ_of_lt lt)
      have nS : s.heap.objs.size ∉ [(s.heap.push (freshSet w)).objs.size, l] := by
        rw [sz]
        simp only [List.mem_cons, List.mem_singleton, List.not_mem_nil, or_false, not_or]
        exact ⟨Nat.ne_of_lt (Nat.lt_succ_self _), Nat.ne_of_gt lt⟩
      have hv : ∀ (i : Nat) (v : Value), items[i]? = some v → ∃ x t, xs[i]? = some x ∧ v = .str x t := fun i v z => by
        have lti : i < xs.length := by rw [hsz]; exact (Array.getElem?_eq_some_iff.mp z).1
        obtain ⟨t, e⟩ := SS.strs_at hi i v (by rw [Array.getElem?_toList]; exact z)
        refine ⟨xs[i], t, List.getElem?_eq_getElem lti, ?_⟩
        rw [e, List.getD_eq_getElem?_getD, List.getElem?_eq_getElem lti] <;> rfl
      refine setS_update ((Walks.list hh3 _ l neI items).toS) nS hsz.symm (by rw [← hsz]; exact hb) hv items.size 0 _ [] (Nat.sub_zero _) (Nat.zero_le _)
        ⟨⟨_, Heap.get?_push_size _ rfl, rfl, rfl⟩, hl1.push _⟩ ⟨Nat.le_refl _, List.nodup_nil, fun x => by rw [List.take_zero]⟩ (fresh_ok (Heap.get?_push_of_some _ at0)) fun s3 ks mv fo hk => ?_
      obtain ⟨h3, g3, d3, t3, o3⟩ := s3
      obtain rfl : g3 = s.gens := mv.gens
      obtain rfl : d3 = s.drawn := mv.drawn
      obtain rfl : o3 = s.os := mv.os
      rw [← hsz] at fo
      refine wpAny_pure (wpAny_pure (a := Fin.done (.ret Value.none)) ⟨rfl, h3, t3, ks, rfl, fo, hk, fun b o e => ?_⟩)
      have lb := Heap.lt_size e
      refine mv.heap b o ?_ (Heap.get?_push_of_some _ (Heap.get?_push_of_some _ e))
      rw [sz]
      simp only [List.mem_cons, List.mem_singleton, List.not_mem_nil, or_false, not_or]
      exact ⟨Nat.ne_of_lt lb, Nat.ne_of_lt (Nat.lt_succ_of_lt lb)⟩
    · rcases r2 with e | fl
      · exact hr2
      · rcases fl with r | _ | _ | _
        all_goals first | exact hr2.elim | skip
        obtain ⟨rfl, h', tk, ks, rfl, fo, hk, kp⟩ := hr2
        repeat (any_goals (first | assumption | wp_step))
        exact h _ _ _ fo hk kp
end
end Tx

set_option Elab.async false
set_option linter.all false
set_option maxRecDepth 100000
set_option maxHeartbeats 4000000
namespace Tx
open PySem PySem.Spec PyProof.Rows L2
/-- the set of the texts ks at a -/
def SetSO (w : World) (a : Addr) (ks : List Str) : HO := .ext fun h => SetS w h a ks
section
variable {X : Cx} {pins : List (Addr × Obj)} {σ : L2.St} {H : Hp}
theorem setSO_new {w : World} {P : Program} {h : Heap} {a : Addr} {ks : List Str} (R : SetS w h a ks) : ObjOk P w H h a (SetSO w a ks) := by
  have ⟨o, _, _, _, e, _⟩ := R
  exact ⟨R, ⟨o, e⟩, fun _ _ r k => r.keep k⟩
theorem setSO_get {s : Shared} {a : Addr} {ks : List Str} (I : Inv X pins σ H s) (e : H a = some (SetSO X.w a ks)) : SetS X.w s.heap a ks := (I.hok a _ e).1
/-- set(xs), a list of texts -/
def rSetS (K : PySem.W.Frag) (w : World) : List V → Hp → VK → Prop := fun vs H Q => ∃ (l : Addr) (xs : List Str), vs = [V.ref l] ∧ SqL K H l (xs.map V.str) ∧ xs.length < 4000 ∧
  ∀ p ks, FirstOf xs xs.length ks → H p = none → Q (.ref p) (upd H p (SetSO w p ks))
theorem cr_setS (hc : X.calm = true) : CallR X (.type "set") (rSetS X.K X.w) := by
  intro pins s σ H vs us Q I r h
  obtain ⟨l, xs, rfl, hs, hb, q⟩ := h
  rw [Vals.ref1 r]
  obtain ⟨its, rv, pl, hz⟩ := I.list hs
  refine call_setS (I.ok.hd hc) pl.isList (by simpa using rv.strs) (by unfold scanBound; omega) fun h' tk ks fo hk kp => ?_
  exact ⟨.ref s.heap.objs.size, upd H s.heap.objs.size (SetSO X.w s.heap.objs.size ks), I.laid (t' := tk) kp (Nat.le_refl _) (setSO_new hk), rfl, q _ ks fo (I.hok.fresh (Nat.le_refl _))⟩
/-- sorted(found), a set of texts -/
def rSortSet (w : World) : List V → Hp → VK → Prop := fun vs H Q => ∃ (a : Addr) (ks : List Str), vs = [V.ref a] ∧ H a = some (SetSO w a ks) ∧
  ∀ ys p, ys.Perm ks → sortedS ys = true → H p = none → Q (.ref p) (upd H p (.lst (ys.map V.str)))
theorem cr_sortSet (hc : X.calm = true) : CallR X (.builtin "sorted") (rSortSet X.w) := by
  intro pins s σ H vs us Q I r h
  obtain ⟨a, ks, rfl, ha, q⟩ := h
  rw [Vals.ref1 r]
  obtain ⟨o, es, ep, t, ho, hex, hd, g, pk, nd, hb, hf, hr, hl⟩ := setSO_get I ha
  refine Calls.call_function_entry kind_sorted plain_sorted entry_sorted (args_sorted1 _) ?_
  unfold Builtin.«sorted»
  refine wpAny_bind (m := checkCount "sorted" 1 1 _) (wpAny_pure ?_)
  refine wpAny_bind (collect_set (A := X.A.in1) (I.ok.hd hc) ⟨o, ho, hex.1, hd⟩ hf hb hr hl fun s' out kp hz hg hos pm => ?_)
  have hS : StrsAre out (out.map strOf) := strsAre_map out fun v hv => by
    obtain ⟨e, he, rfl⟩ := List.mem_map.mp (pm.mem_iff.mp hv)
    obtain ⟨x, tk, rfl⟩ := g e he
    exact ⟨x, tk, rfl⟩
  have p2 : (out.map strOf).Perm ks := by
    have e := pm.map strOf
    rw [List.map_map] at e
    exact e.trans pk
  have J : Inv X pins σ H { s with heap := s'.heap, gens := s'.gens, drawn := s'.drawn, toks := s'.toks } :=
    I.call (ch := []) (Un.kept kp) (I.hok.kept kp) (by rw [hg]; exact I.bare) (fun _ z => nomatch z)
  have e : s' = { s with heap := s'.heap, gens := s'.gens, drawn := s'.drawn, toks := s'.toks } := by
    obtain ⟨⟩ := s'
    obtain ⟨⟩ := s
    cases hos
    rfl
  rw [e]
  refine sortTail J hS ?_ fun ys p y1 y2 y3 => q ys p (y1.trans p2) y2 y3
  rw [pm.length_eq, List.length_map, Array.length_toList]
  exact fits_of_scanBound hb
end
end Tx

set_option Elab.async false
set_option linter.all false
set_option maxRecDepth 100000
namespace Tx
open PySem PySem.Spec PyProof.Rows L2
/-- the def st stands at the module's name x -/
def Top (K : PySem.W.Frag) (mg : Str → Option Value) (x : Str) (st : Stmt) : Prop := ∃ f fd, mg x = some (.ref f) ∧ Fun K x x st f fd
theorem top_mk {K : PySem.W.Frag} {h : Heap} {mg : Str → Option Value} {x : Str} {st : Stmt} {f : Addr} {oc kV doc pm cdv ct : Value} {od an : Option Addr} {osl : Array (Option Value)} (X : K.In h) (G : h.Ns mainGlobals mg)
    (a : PySem.W.nsIn K mainGlobals x = some (some (.ref f))) (l : K.lookup f = some ⟨oc, od, .func (PySem.W.fnOf x x (defArgs st) (defBody st) (defScope st) .none kV doc pm an cdv ct), osl⟩)
    (c : PySem.W.codeIn K cdv x = true) (k : PySem.W.keepIn K (.ref f) = true) : Top K mg x st := ⟨f, _, PySem.W.mg_of X G a, fun_mk l c k⟩
/-- and keeps its promise -/
structure Dn (P : Program) (w : World) (K : PySem.W.Frag) (mg : Str → Option Value) (base : Heap) (k : Nat) (x : Str) (st : Stmt) (ps : List Str) (sp : Sp) : Prop where
  ex : ∃ f fd, mg x = some (.ref f) ∧ Fun K x x st f fd ∧ FnOk P w K mg base CX0 k f fd ps sp
  plain : ∀ (kV doc pm : Value) (an : Option Addr) (cdv ct : Value) (us : List Value), us.length = ps.length → bindArgs (PySem.W.fnOf x x (defArgs st) (defBody st) (defScope st) .none kV doc pm an cdv ct) ⟨us, []⟩ = pure (ps.zip us)
section
variable {X : Cx} {k : Nat} {x : Str} {st : Stmt} {ps : List Str} {sp : Sp} {p pos : Pos} {e : Expr} {es : List Expr} {t : TA}
theorem pe_fn (D : Dn X.prog X.w X.K X.mg X.base k x st ps sp) (hr : Room k X.A) (hg : Gl X x) (ha : PA X (e :: es) t) (hdb : (x == ("__debug__" : Str)) = false := by decide)
    (he : starEach (e :: es) X.env = (false, eval e X.env) :: starEach es X.env := by rfl) (hpl : (backTo pos (starEach es X.env)).any (·.1) = false := by rfl) : PE X (.Call (.Name x p) (e :: es) [] pos) (tCall sp [] E0 t) := by
  obtain ⟨f, fd, hm, F, G⟩ := D.ex
  exact pe_call G hr hg hm F.kp (F.binds D.plain) .nil pass0 ha hdb he hpl
variable {kws : List Keyword} {ks : List Str} {g : List Value → List Value → List Value} {gV : List V → List V → List V} {tk : TA}
/-- f(k = v, ..), keywords alone -/
theorem pe_fnK (D : Dn X.prog X.w X.K X.mg X.base k x st ps sp) (hr : Room k X.A) (hg : Gl X x) (hkw : PK X kws tk)
    (hb : ∀ fd, (∃ kV doc pm an cdv ct, fd = PySem.W.fnOf x x (defArgs st) (defBody st) (defScope st) .none kV doc pm an cdv ct) → KBinds X.K fd ps ks g gV)
    (hall : (backToKw pos (keywordEach kws X.env)).all (·.1.isSome) = true := by rfl) (hks : (backToKw pos (keywordEach kws X.env)).filterMap (·.1) = ks := by rfl) (hdb : (x == ("__debug__" : Str)) = false := by decide)
    (hpl : ((backTo pos (starEach [] X.env)).any (·.1) || (backToKw pos (keywordEach kws X.env)).any (·.1.isNone)) = false := by rfl) :
    PE X (.Call (.Name x p) [] kws pos) (tCallK sp gV E0 tNil tk) := by
  obtain ⟨f, fd, hm, F, G⟩ := D.ex
  obtain ⟨oc, od, kV, doc, pm, an, cdv, ct, osl, rfl, lk, hcd⟩ := id F.ex
  refine ⟨fun pins s σ H Q I h => wpAny_Call_Name_kw (ld_glob I hg hm ?_ hdb)⟩
  refine PySem.W.callWith_KW0 (h₀ := X.base) I.ok.mod.kin F.kp hall (thn (hkw.run pos pins s σ H _ I h) fun ws s2 ⟨zs, H2, I2, rz, q2⟩ => ⟨I2.kIn, ?_⟩) hpl
  rw [hks]
  exact run_fnk (us := []) (vs := []) G hr (hb _ ⟨kV, doc, pm, an, cdv, ct, rfl⟩) pass0 I2 .nil rz q2
end
theorem fold_rep (x : Array Nat) : ∀ (n : Nat) (acc : Array Nat), ((List.replicate n x).foldl (· ++ ·) acc).toList = acc.toList ++ (List.replicate n x.toList).flatten
  | 0, acc => by simp
  | n + 1, acc => by
    rw [List.replicate_succ, List.foldl_cons, fold_rep x n, List.replicate_succ, List.flatten_cons, Array.toList_append, List.append_assoc]
theorem mul_tl (z : Str) (n : Int) (h : 1 ≤ n) : Txt.mul z n = ⟨((List.replicate n.toNat z.cps.toList).flatten).toArray⟩ := by
  refine Str.ext' (Array.toList_inj.mp ?_)
  unfold Txt.mul
  rw [if_neg (by omega)]
  by_cases c : (n == 1 || z.length == 0) = true
  · rw [if_pos c]
    rcases Bool.or_eq_true_iff.mp c with e | e
    · have e : n = 1 := by simpa using e
      subst e
      simp
    · have e : z.cps.toList = [] := by
        have e : z.cps.size = 0 := by simpa [Str.length] using e
        simpa using e
      show z.cps.toList = _
      rw [e]
      simp
  · rw [if_neg c]
    show ((List.replicate n.toNat z.cps).foldl (· ++ ·) #[]).toList = _
    rw [fold_rep]
    simp
/-- text * number -/
theorem op_mulS {X : Cx} : OpR X (binaryOp .Mult) (fun x y H Q => ∃ z n, x = .str z ∧ y = .int n ∧ 1 ≤ n ∧ n ≤ 1000000 ∧ z.length * n.toNat ≤ 16000000 ∧ Q (.str ⟨((List.replicate n.toNat z.cps.toList).flatten).toArray⟩) H) := by
  intro pins s σ H x y u v Q I rx ry h
  obtain ⟨z, n, rfl, rfl, h1, h2, h3, q⟩ := h
  obtain ⟨t, rfl⟩ := rx
  obtain ⟨t', rfl⟩ := ry
  rw [← mul_tl z n h1] at q
  have b : z.length ≤ 16000000 := by
    have e : 1 ≤ n.toNat := by omega
    have := Nat.mul_le_mul_left z.length e
    omega
  refine SB.mul ⟨by simp; omega, fun _ _ hc => ?_, fun _ _ => ?_⟩ fun t' k => ⟨V.str (Txt.mul z n), H, I.tok _, ⟨_, rfl⟩, q⟩
  · have e : (16000000 : Int) ≤ (2 ^ 63 - 1) / n := by
      refine (Int.le_ediv_iff_mul_le (by omega)).mpr ?_
      omega
    omega
  · unfold Builtin.Str.tooLong
    refine decide_eq_false ?_
    have : sizeLine = 16777216 := sizeLine_eq
    omega
end Tx

set_option Elab.async false
set_option linter.all false
set_option maxRecDepth 100000
set_option maxHeartbeats 1000000
namespace Tx
open PySem PySem.Spec PyProof.Rows L2 TL
/-- how a def of plain parameters takes its arguments -/
abbrev PlainB (x : Str) (st : Stmt) (ps : List Str) : Prop := ∀ (kV doc pm : Value) (an : Option Addr) (cdv ct : Value) (us : List Value), us.length = ps.length → bindArgs (PySem.W.fnOf x x (defArgs st) (defBody st) (defScope st) .none kV doc pm an cdv ct) ⟨us, []⟩ = pure (ps.zip us)
section
variable {P : Program} {w : World} {K : PySem.W.Frag} {mg : Str → Option Value} {base : Heap}
/-- a def keeps its promise, by its body -/
theorem dn_of {x : Str} {st : Stmt} {N ps : List Str} {k : Nat} {sp : Sp} (T : Top K mg x st) (S : FnScope N ps (defScope st)) (pl : PlainB x st ps) (len : ∀ vs H Q E, sp vs H Q E → vs.length = ps.length)
    (body : ∀ (f : Addr) (cdv : Value) (A : Around) (outer : List Env) (s : Shared) (H : Hp) (vs : List V) (Q : VK) (E : XK), Room k (A.deeper (envOfC x (defScope st) s.heap.objs.size f cdv)) → sp vs H Q E →
      ∃ t, PSs (cxOf CX0 P w K mg base N x (defScope st) f cdv A outer s H E).nox (defBody st) t ∧ t { nx := fun _ H' => Q .non H', rt := Q } (start N vs) H) : Dn P w K mg base (k + 1) x st ps sp := by
  obtain ⟨f, fd, hm, F⟩ := T
  exact ⟨⟨f, fd, hm, F, F.ok S len fun cdv A outer s H vs Q E hr h => body f cdv A outer s H vs Q E hr h⟩, pl⟩
end
/-- the built-in names that the module's top leaves as they are -/
structure Bt (mg : Str → Option Value) : Prop where
  len : mg "len" = none
  isi : mg "isinstance" = none
  int : mg "int" = none
  str : mg "str" = none
  bool : mg "bool" = none
  list : mg "list" = none
  tuple : mg "tuple" = none
  set : mg "set" = none
  range : mg "range" = none
  sorted : mg "sorted" = none
  min : mg "min" = none
  max : mg "max" = none
  abs : mg "abs" = none
  all : mg "all" = none
  zip : mg "zip" = none
theorem same_upd {H : Hp} {p : Addr} {o : HO} (h : H p = none) : Same H (upd H p o) := fun b x e => by
  rw [upd_ne (ne_of_none e h)]; exact e
/-- what is new stays apart: a write to it keeps what was -/
theorem wr {H H' : Hp} {p : Addr} {o : HO} (s : Same H H') (h : H p = none) : Same H (upd H' p o) := fun b x e => by
  rw [upd_ne (ne_of_none e h)]; exact s b x e

theorem grown {A : Type} (f : Nat → A) (i : Nat) : (List.range i).map f ++ [f i] = (List.range (i + 1)).map f := by
  rw [List.range_succ, List.map_append]; rfl
theorem grown_len {A : Type} (f : Nat → A) {i n : Nat} (h : i < n) (hn : n ≤ 1000000) : ((List.range i).map f).length < sizeLine := by
  rw [List.length_map, List.length_range]
  exact Nat.lt_of_lt_of_le (Nat.lt_of_lt_of_le h hn) (by decide)
/-- a comprehension without a test -/
theorem lc_yes {te : TE} {σ : L2.St} {H : Hp} {Nx : VK} {B : Hp → Prop} (h : te σ H Nx) : tYes σ H (fun b H3 => if b = true then te σ H3 Nx else B H3) := by
  show (if true = true then te σ H Nx else B H)
  rw [if_pos rfl]
  exact h
/-- a comprehension over a text -/
theorem lc_text {z : Str} {g : TG} {tt : TT} {te : TE} {vs : List Nat} {σ : L2.St} {H1 : Hp} {D : Addr} {Qd : Hp → Prop} (Pv : Nat → Hp → Prop) (h0 : Pv 0 (upd H1 D (.lst [])))
    (hs : ∀ i c H, z.cps.toList[i]? = some c → Pv i H → g (.str ⟨#[c]⟩) (wipe σ vs) H fun σ2 H2 => wipe σ2 vs = wipe σ vs ∧ tt σ2 H2 fun b H3 =>
      if b = true then te σ2 H3 fun y H4 => ∃ acc, H4 D = some (.lst acc) ∧ acc.length < sizeLine ∧ Pv (i + 1) (upd H4 D (.lst (acc ++ [y]))) else Pv (i + 1) H3)
    (hd : ∀ H, Pv z.cps.size H → Qd H) :
    ∃ W : Nat → Nat → Hp → Prop, (∃ m, W 0 m (upd H1 D (.lst []))) ∧ ∀ i m H, W i m H →
      ((Its z).stop i H ∧ Qd H) ∨ ((Its z).go i H ∧ ∃ Nx : Hp → Prop, (∀ H', Nx H' → ∃ m', m' < m ∧ W (i + 1) m' H') ∧ ∀ x H', (Its z).yld i H x H' → g x (wipe σ vs) H' fun σ2 H2 => wipe σ2 vs = wipe σ vs ∧ tt σ2 H2 fun b H3 =>
        if b = true then te σ2 H3 fun y H4 => ∃ acc, H4 D = some (.lst acc) ∧ acc.length < sizeLine ∧ Nx (upd H4 D (.lst (acc ++ [y]))) else Nx H3) := by
  refine ⟨fun i m H => m + i = z.cps.size ∧ Pv i H, ⟨z.cps.size, rfl, h0⟩, fun i m H ⟨e, p⟩ => ?_⟩
  by_cases lt : i < z.cps.size
  · refine .inr ⟨lt, Pv (i + 1), fun H' p' => ⟨m - 1, by omega, by omega, p'⟩, fun x H' y => ?_⟩
    obtain ⟨rfl, c, hc, rfl⟩ := y
    exact hs i c _ (by rw [Array.getElem?_toList]; exact hc) p
  · obtain rfl : i = z.cps.size := by omega
    exact .inl ⟨Nat.le_refl _, hd H p⟩
/-- a text of small letters -/
def Low (z : Str) : Prop := ∀ c ∈ tl z, 97 ≤ c ∧ c ≤ 122
theorem tl_one (c : Nat) : tl ⟨#[c]⟩ = [c] := rfl
theorem le_one {c d : Nat} : (!decide (tl ⟨#[d]⟩ < tl ⟨#[c]⟩)) = decide (c ≤ d) := by
  rw [tl_one, tl_one]
  by_cases h : c ≤ d
  · rw [decide_eq_true h]
    simp [List.cons_lt_cons_iff]
    omega
  · rw [decide_eq_false h]
    simp [List.cons_lt_cons_iff]
    omega
theorem str_a : Str.ofString "a" = ⟨#[97]⟩ := by decide +kernel
theorem str_z : Str.ofString "z" = ⟨#[122]⟩ := by decide +kernel
theorem low_a {c : Nat} (h : 97 ≤ c) : (!decide ((⟨#[c]⟩ : Str).cps.toList < (Str.ofString "a").cps.toList)) = true := by
  rw [str_a]; exact le_one.trans (decide_eq_true h)
theorem low_z {c : Nat} (h : c ≤ 122) : (!decide ((Str.ofString "z").cps.toList < (⟨#[c]⟩ : Str).cps.toList)) = true := by
  rw [str_z]; exact le_one.trans (decide_eq_true h)
theorem trues (n : Nat) : (List.range n).map (fun _ => V.bl true) = (List.replicate n true).map V.bl := by
  induction n with
  | zero => rfl
  | succ n ih => rw [List.range_succ, List.map_append, ih, List.replicate_succ', List.map_append]; rfl
theorem all_trues (n : Nat) : (List.replicate n true).all id = true := by
  induction n with
  | zero => rfl
  | succ n ih => rw [List.replicate_succ, List.all_cons, ih]; rfl

/-! ### texts as lists of signs -/
def mkS (l : List Nat) : Str := ⟨l.toArray⟩
theorem tl_mkS (l : List Nat) : tl (mkS l) = l := rfl
theorem len_mkS (l : List Nat) : (mkS l).length = l.length := by rw [len_tl, tl_mkS]
theorem mkS_tl (z : Str) : mkS (tl z) = z := ext_tl rfl
def cut (l : List Nat) (i n : Nat) : List Nat := (l.drop i).take n
theorem cutS_mid (z : Str) (i n : Nat) (h : i + n ≤ z.length) : cutS z (some (i : Int)) (some ((i : Int) + (n : Int))) = mkS (cut (tl z) i n) := by
  refine ext_tl ?_
  have e : ((i : Int) + (n : Int)) = ((i + n : Nat) : Int) := by omega
  rw [e]
  unfold cutS
  rw [HT.sIx_nat, HT.sIx_nat, Nat.min_eq_left (show i ≤ z.length by omega), Nat.min_eq_left h, show i + n - i = n by omega]
  rfl
theorem cutS_to (z : Str) (n : Nat) (h : n ≤ z.length) : cutS z none (some (n : Int)) = mkS ((tl z).take n) := by
  refine ext_tl ?_
  unfold cutS
  rw [HT.sIx_nat, HT.sIx_none, Nat.min_eq_left h]
  rfl
/-- all texts of n letters that stand in a text, from the left -/
def steps (n : Nat) (l : List Nat) : List Str := (List.range (l.length + 1 - n)).map fun i => mkS (cut l i n)
/-- a ring text read once round and on -/
def unroll (l : List Nat) (m : Nat) : List Nat := ((List.replicate (m / l.length + 2) l).flatten).take (l.length + m)
/-- its windows, letter by letter -/
def turns (n : Nat) (l : List Nat) : List Str := (List.range l.length).map fun a => mkS ((List.range n).map fun k => l.getD ((a + k) % l.length) 0)
theorem rep_get (l : List Nat) (hl : 0 < l.length) : ∀ (n i : Nat), i < n * l.length → ((List.replicate n l).flatten)[i]? = l[i % l.length]?
  | 0, i, h => by omega
  | n + 1, i, h => by
    rw [List.replicate_succ, List.flatten_cons]
    by_cases lt : i < l.length
    · rw [List.getElem?_append_left lt, Nat.mod_eq_of_lt lt]
    · have e : (n + 1) * l.length = n * l.length + l.length := Nat.succ_mul n l.length
      rw [List.getElem?_append_right (by omega), rep_get l hl n (i - l.length) (by omega), ← Nat.mod_eq_sub_mod (by omega)]
theorem unroll_get (l : List Nat) (hl : 0 < l.length) (m i : Nat) (h : i < l.length + m) : (unroll l m)[i]? = l[i % l.length]? := by
  unfold unroll
  rw [List.getElem?_take_of_lt h]
  refine rep_get l hl _ i ?_
  have h1 := Nat.div_add_mod m l.length
  have h2 := Nat.mod_lt m hl
  have h3 : (m / l.length + 2) * l.length = l.length * (m / l.length) + 2 * l.length := by
    rw [Nat.add_mul, Nat.mul_comm]
  omega
theorem unroll_len (l : List Nat) (hl : 0 < l.length) (m : Nat) : (unroll l m).length = l.length + m := by
  unfold unroll
  rw [List.length_take, List.length_flatten, List.map_replicate, List.sum_replicate_nat]
  have h1 := Nat.div_add_mod m l.length
  have h2 := Nat.mod_lt m hl
  have h3 : (m / l.length + 2) * l.length = l.length * (m / l.length) + 2 * l.length := by
    rw [Nat.add_mul, Nat.mul_comm]
  omega
/-- what is read on the unrolled text is what is read round -/
theorem steps_unroll (l : List Nat) (hl : 0 < l.length) (n : Nat) (hn : 1 ≤ n) : steps n (unroll l (n - 1)) = turns n l := by
  unfold steps turns
  rw [unroll_len l hl, show l.length + (n - 1) + 1 - n = l.length by omega]
  refine List.map_congr_left fun i hi => ?_
  have hi := List.mem_range.mp hi
  refine congrArg mkS ?_
  refine List.ext_getElem? fun j => ?_
  unfold cut
  rw [List.getElem?_take, List.getElem?_drop, List.getElem?_map]
  by_cases lt : j < n
  · rw [if_pos lt, unroll_get l hl _ _ (by omega), List.getElem?_range lt]
    have h2 := Nat.mod_lt (i + j) hl
    simp [List.getD_eq_getElem?_getD, List.getElem?_eq_getElem h2]
  · rw [if_neg lt, List.getElem?_eq_none (by rw [List.length_range]; omega)]
    rfl
/-! ### ascending lists of texts, each once -/
def Up (ys xs : List Str) : Prop := sortedS ys = true ∧ ys.Nodup ∧ (∀ x, x ∈ ys ↔ x ∈ xs) ∧ ys.length ≤ xs.length
theorem rising_le : ∀ (l : List Str) (p : Str), risingS p l = true → (p :: l).Pairwise fun a b => tl a ≤ tl b
  | [], p, _ => List.pairwise_singleton _ _
  | x :: r, p, h => by
    have h : (!ltCps (tl x) (tl p) && risingS x r) = true := h
    rw [Bool.and_eq_true, ltCps_eq, Bool.not_eq_true', decide_eq_false_iff_not] at h
    have px : tl p ≤ tl x := List.not_lt.mp h.1
    have ih := rising_le r x h.2
    refine List.pairwise_cons.mpr ⟨fun y hy => ?_, ih⟩
    rcases List.mem_cons.mp hy with rfl | hy
    · exact px
    · exact List.le_trans px ((List.pairwise_cons.mp ih).1 y hy)
theorem sorted_le {l : List Str} (h : sortedS l = true) : l.Pairwise fun a b => tl a ≤ tl b := by
  cases l with
  | nil => exact List.Pairwise.nil
  | cons p l => exact rising_le l p h
theorem Up.one {ys zs xs xs' : List Str} (h : Up ys xs) (k : Up zs xs') (e : ∀ x, x ∈ xs ↔ x ∈ xs') : ys = zs := by
  refine List.Perm.eq_of_pairwise (fun a b _ _ h1 h2 => ext_tl (List.le_antisymm h1 h2)) (sorted_le h.1) (sorted_le k.1) ((List.perm_ext_iff_of_nodup h.2.1 k.2.1).mpr fun x => ?_)
  rw [h.2.2.1 x, e x, k.2.2.1 x]
theorem Up.of {ys ks xs : List Str} (p : ys.Perm ks) (s : sortedS ys = true) (f : FirstOf xs xs.length ks) : Up ys xs := by
  refine ⟨s, p.nodup_iff.mpr f.2.1, fun x => ?_, by rw [p.length_eq]; exact f.1⟩
  rw [p.mem_iff, f.2.2 x, List.take_length]
end Tx

set_option Elab.async false
set_option linter.all false
set_option maxRecDepth 100000
set_option maxHeartbeats 1000000
namespace Tx
open PySem PySem.Spec PyProof.Rows L2 TL RZ
/-! the rules that look into the written part, with that part named: for blocks within a def -/
section
variable {X : Cx} (K : PySem.W.Frag)
def rLenL (K : PySem.W.Frag) : List V → Hp → VK → Prop := fun xs H Q => ∃ p ys, xs = [.ref p] ∧ (SqL K H p ys ∨ SqT K H p ys) ∧ Q (.int ys.length) H
theorem lenK (h : X.K = K) : CallR X (.builtin "len") (rLenL K) := by subst h; exact call_len_seq
theorem isiK (h : X.K = K) : CallR X (.builtin "isinstance") (rIsi K) := by subst h; exact call_isi
theorem ixK (h : X.K = K) : IxR X (rIxL K) := by subst h; exact ix_list
theorem ixTK (h : X.K = K) : IxR X (rIxT K) := by subst h; exact ix_tup
theorem slK (h : X.K = K) : SlR X (rSlL K) := by subst h; exact sl_list
theorem allK (h : X.K = K) (hc : X.calm = true) : CallR X (.builtin "all") (rAll K) := by subst h; exact cr_all hc
theorem anyK (h : X.K = K) (hc : X.calm = true) : CallR X (.builtin "any") (rAny K) := by subst h; exact cr_any hc
theorem sortLK (h : X.K = K) : CallR X (.builtin "sorted") (rSortL K) := by subst h; exact cr_sortL
theorem inK (h : X.K = K) : OpR X (compareOp .In) (rIn K false) := by subst h; exact op_in_seq
theorem notInK (h : X.K = K) : OpR X (compareOp .NotIn) (rIn K true) := by subst h; exact op_notIn_seq
theorem eqDK (h : X.K = K) (hu : X.A.units + 64 < cLine) : OpR X (compareOp .Eq) (rEqD K) := by subst h; exact op_eqD hu
theorem neDK (h : X.K = K) (hu : X.A.units + 64 < cLine) : OpR X (compareOp .NotEq) (rNeD K) := by subst h; exact op_neD hu
def rJoin (K : PySem.W.Frag) : V → List V → Hp → VK → Prop := fun x xs H Q => ∃ a p, ∃ ys : List Str, x = .str a ∧ xs = [.ref p] ∧ (SqL K H p (ys.map V.str) ∨ SqT K H p (ys.map V.str)) ∧ (ys.map (·.length)).sum + ys.length * a.length ≤ 16777216 ∧ Q (.str (Txt.join a ys)) H
theorem joinK {o e : Expr} {to te : TE} {apos pos : Pos} (h : X.K = K) (ho : PE X o to) (he : PE X e te) (hs : starEach [e] X.env = [(false, eval e X.env)] := by rfl) (hb : attributeBase o "join" X.env (eval o X.env) = eval o X.env := by rfl)
    (hl : (apos.endLine == pos.line) = true := by rfl) : PE X (.Call (.Attribute o "join" apos) [e] [] pos) (tM1 (rJoin K) to te) := by subst h; exact pe_join ho he hs hb hl
def rListOf (K : PySem.W.Frag) : List V → Hp → VK → Prop := fun xs H Q => ∃ p ys, xs = [.ref p] ∧ (SqL K H p ys ∨ SqT K H p ys) ∧ ∀ l, H l = none → Q (.ref l) (upd H l (.lst ys))
theorem listK (h : X.K = K) : CallR X (.type "list") (rListOf K) := by subst h; exact call_list_of
def rTupOf (K : PySem.W.Frag) : List V → Hp → VK → Prop := fun xs H Q => ∃ p ys, xs = [.ref p] ∧ ((SqL K H p ys ∧ ∀ l, H l = none → Q (.ref l) (upd H l (.tup ys))) ∨ (SqT K H p ys ∧ Q (.ref p) H))
theorem tupK (h : X.K = K) : CallR X (.type "tuple") (rTupOf K) := by subst h; exact call_tuple_of
theorem pg_tupK {es : List Expr} {k : Nat} {t : TGs} {n : Nat} {pos : Pos} (h : X.K = K) (hc : X.calm = true) (hg : PGs X es t) (hn : (assignEach es X.env).length = n := by rfl) (hst : (assignEach es X.env).findIdx? (·.1) = none := by rfl) : PG X (.Tuple es k pos) (gTup K n t) := by subst h; exact pg_tup hc hg hn hst
variable (w : World)
theorem setK (h : X.K = K) (hw : X.w = w) (hc : X.calm = true) : CallR X (.type "set") (rSetS K w) := by subst h hw; exact cr_setS hc
theorem sortSetK (hw : X.w = w) (hc : X.calm = true) : CallR X (.builtin "sorted") (rSortSet w) := by subst hw; exact cr_sortSet hc
end
/-- a comprehension over zip of two tuples, the second one shorter -/
theorem lc_zipT {K : PySem.W.Frag} {a b : Addr} {xs ys : List V} {g : TG} {tt : TT} {te : TE} {vs : List Nat} {σ : L2.St} {H1 : Hp} {D : Addr} {Qd : Hp → Prop} (hl : ys.length ≤ xs.length) (Pv : Nat → Hp → Prop) (h0 : Pv 0 (upd H1 D (.lst []))) (hq : ∀ i H, Pv i H → SqT K H a xs ∧ SqT K H b ys)
    (hs : ∀ i x y T H, xs[i]? = some x → ys[i]? = some y → Pv i H → H T = none → g (.ref T) (wipe σ vs) (upd H T (.tup [x, y])) fun σ2 H2 => wipe σ2 vs = wipe σ vs ∧ tt σ2 H2 fun b H3 =>
      if b = true then te σ2 H3 fun y H4 => ∃ acc, H4 D = some (.lst acc) ∧ acc.length < sizeLine ∧ Pv (i + 1) (upd H4 D (.lst (acc ++ [y]))) else Pv (i + 1) H3)
    (hd : ∀ H, Pv ys.length H → Qd H) :
    ∃ W : Nat → Nat → Hp → Prop, (∃ m, W 0 m (upd H1 D (.lst []))) ∧ ∀ i m H, W i m H →
      ((ItzT K a b).stop i H ∧ Qd H) ∨ ((ItzT K a b).go i H ∧ ∃ Nx : Hp → Prop, (∀ H', Nx H' → ∃ m', m' < m ∧ W (i + 1) m' H') ∧ ∀ x H', (ItzT K a b).yld i H x H' → g x (wipe σ vs) H' fun σ2 H2 => wipe σ2 vs = wipe σ vs ∧ tt σ2 H2 fun b H3 =>
        if b = true then te σ2 H3 fun y H4 => ∃ acc, H4 D = some (.lst acc) ∧ acc.length < sizeLine ∧ Nx (upd H4 D (.lst (acc ++ [y]))) else Nx H3) := by
  refine ⟨fun i m H => m + i = ys.length ∧ Pv i H, ⟨ys.length, rfl, h0⟩, fun i m H ⟨e, p⟩ => ?_⟩
  obtain ⟨qx, qy⟩ := hq i H p
  by_cases lt : i < ys.length
  · have gx : xs[i]? = some xs[i] := List.getElem?_eq_getElem (by omega)
    have gy : ys[i]? = some ys[i] := List.getElem?_eq_getElem lt
    refine .inr ⟨⟨xs, ys, _, _, qx, qy, gx, gy⟩, Pv (i + 1), fun H' p' => ⟨m - 1, by omega, by omega, p'⟩, fun v H' y => ?_⟩
    obtain ⟨T, x', y', rfl, hT, rfl, f1, f2⟩ := y
    exact hs i x' y' T H (f1 xs qx) (f2 ys qy) p hT
  · obtain rfl : i = ys.length := by omega
    exact .inl ⟨⟨xs, ys, qx, qy, .inr (Nat.le_refl _)⟩, hd H p⟩
end Tx

set_option Elab.async false
set_option linter.all false
set_option maxRecDepth 100000
set_option maxHeartbeats 2000000
namespace Tx
open PySem PySem.Spec PyProof.Rows L2 TL
/-! ### min of a list of texts -/
theorem best_at {xs : List Str} : ∀ k, k < xs.length → argBest (fun i j => decide (tl (xs.getD i Str.empty) < tl (xs.getD j Str.empty))) k ≤ k ∧ ∀ j, j ≤ k → tl (xs.getD (argBest (fun i j => decide (tl (xs.getD i Str.empty) < tl (xs.getD j Str.empty))) k) Str.empty) ≤ tl (xs.getD j Str.empty)
  | 0, _ => ⟨Nat.le_refl _, fun j hj => by
      have e : j = 0 := by omega
      subst e
      exact List.le_refl _⟩
  | k + 1, h => by
    obtain ⟨h1, h2⟩ := best_at (xs := xs) k (by omega)
    simp only [argBest]
    by_cases c : tl (xs.getD (k + 1) Str.empty) < tl (xs.getD (argBest (fun i j => decide (tl (xs.getD i Str.empty) < tl (xs.getD j Str.empty))) k) Str.empty)
    · rw [if_pos (decide_eq_true c)]
      refine ⟨Nat.le_refl _, fun j hj => ?_⟩
      rcases Nat.lt_or_ge j (k + 1) with lt | ge
      · exact List.le_trans (List.le_of_lt c) (h2 j (by omega))
      · obtain rfl : j = k + 1 := by omega
        exact List.le_refl _
    · rw [if_neg (by rw [decide_eq_false c]; exact Bool.false_ne_true)]
      refine ⟨by omega, fun j hj => ?_⟩
      rcases Nat.lt_or_ge j (k + 1) with lt | ge
      · exact h2 j (by omega)
      · obtain rfl : j = k + 1 := by omega
        exact List.not_lt.mp c
def rMinS (K : PySem.W.Frag) : List V → Hp → VK → Prop := fun vs H Q => ∃ (a : Addr) (zs : List Str), vs = [V.ref a] ∧ SqL K H a (zs.map V.str) ∧ 0 < zs.length ∧ ∀ m, m ∈ zs → (∀ y ∈ zs, tl m ≤ tl y) → Q (.str m) H
section
variable {X : Cx} {pins : List (Addr × Obj)} {σ : L2.St} {H : Hp}
theorem cr_minS (hc : X.calm = true) : CallR X (.builtin "min") (rMinS X.K) := by
  intro pins s σ H vs us Q I r h
  obtain ⟨a, zs, rfl, hs, hne, q⟩ := h
  rw [Vals.ref1 r]
  obtain ⟨its, rv, hl, hz⟩ := I.list hs
  have hS := rv.strs
  have e0 := rv.length
  rw [List.length_map] at e0
  have lt := Heap.lt_size hl.isList.choose_spec.1
  have hval : ∀ (i : Nat) (v : Value), its.toArray[i]? = some v → ∃ t, v = .str (zs.getD i Str.empty) t := fun i v e => SS.strs_at hS i v (by simpa using e)
  refine call_min_walk (wpAny_pyIter_list hl.isList ?_)
  refine ⟨_, _, _, _, _, _, _, rfl, Walks.list (A := X.A.in1) (I.ok.hd hc) s.heap.objs.size a (Nat.ne_of_lt lt) its.toArray, ⟨⟨_, Heap.get?_push_size _ rfl, rfl, rfl⟩, hl.isList.push _⟩, fun b hb => ?_, by rw [List.size_toArray]; omega, (fun i j vi vj s' Q' E' hi hj hq => ?_ : CmpOf X.prog X.w X.A.in1 .Lt _ fun i j => decide (tl (zs.getD i Str.empty) < tl (zs.getD j Str.empty))), fun v h' tk hP hk => ?_⟩
  · show b < (s.heap.push _).objs.size
    rw [Heap.size_push]
    rcases List.mem_cons.mp hb with e | hb
    · rw [e]; exact Nat.lt_succ_self _
    · rw [List.mem_singleton.mp hb]; exact Nat.lt_succ_of_lt lt
  · obtain ⟨t, rfl⟩ := hval i vi hi
    obtain ⟨u, rfl⟩ := hval j vj hj
    exact P.lt_str hq
  · obtain ⟨t, rfl⟩ := hval _ v hP
    rw [List.size_toArray, ← e0] at hP ⊢
    obtain ⟨b1, b2⟩ := best_at (xs := zs) (zs.length - 1) (by omega)
    refine ⟨.str _, H, I.kept (t' := tk) fun b u e => hk b u (fun hm => ?_) (Heap.get?_push_of_some _ e), ⟨t, rfl⟩, q _ ?_ fun y hy => ?_⟩
    · have e2 := Heap.lt_size e
      rw [List.mem_singleton.mp hm] at e2
      exact absurd e2 (Nat.lt_irrefl _)
    · rw [List.getD_eq_getElem?_getD, List.getElem?_eq_getElem (by omega)]
      exact List.getElem_mem _
    · obtain ⟨i, hi, e⟩ := List.mem_iff_getElem.mp hy
      have e2 : zs.getD i Str.empty = y := by rw [List.getD_eq_getElem?_getD, List.getElem?_eq_getElem hi, ← e] <;> rfl
      rw [← e2]
      exact b2 i (by omega)
theorem minSK (K : PySem.W.Frag) (h : X.K = K) (hc : X.calm = true) : CallR X (.builtin "min") (rMinS K) := by subst h; exact cr_minS hc
/-! ### z[::-1] -/
def tRevS (te : TE) : TE := fun σ H Q => te σ H fun x H1 => ∃ z, x = .str z ∧ z.length ≤ 100000 ∧ Q (.str (mkS (tl z).reverse)) H1
theorem rev_by (z : Str) (u : Tok) : Txt.sliceBy z none none (-1, u) = mkS (tl z).reverse := by
  refine ext_tl ?_
  show (Txt.sliceBy z none none (-1, u)).cps.toList = _
  rw [step_rev_list, tl_mkS]
  refine List.ext_getElem? fun i => ?_
  rw [List.getElem?_map]
  by_cases c : i < z.length
  · rw [List.getElem?_range c, List.getElem?_reverse (by rw [← len_tl]; exact c), ← len_tl]
    have lt : z.length - 1 - i < z.cps.size := by show _ < z.length; omega
    rw [show (tl z)[z.length - 1 - i]? = z.cps[z.length - 1 - i]? from Array.getElem?_toList .., Array.getElem?_eq_getElem lt]
    show some (z.cps.getD _ 0) = _
    rw [Array.getD_eq_getD_getElem?, Array.getElem?_eq_getElem lt]; rfl
  · rw [List.getElem?_eq_none (by rw [List.length_range]; omega), List.getElem?_eq_none (by rw [List.length_reverse, ← len_tl]; omega)]; rfl
theorem pe_revS {e : Expr} {te : TE} {k : Nat} {p1 p2 p3 pos : Pos} (he : PE X e te) : PE X (.Subscript e (.Slice none none (some (.UnaryOp .USub (.Constant (.int 1) k p1) p2)) p3) pos) (tRevS te) := by
  refine ⟨fun pins s σ H Q I h => Subscript_ (thn (he.run pins s σ H _ I h) fun v s1 ⟨x, H1, I1, r1, z, ex, hz, q⟩ => ?_)⟩
  subst ex
  obtain ⟨t, rfl⟩ := r1
  have hst : PO X (some (.UnaryOp .USub (.Constant (.int 1) k p1) p2)) (tPart (tUn (rU fun i => .int (-i)) (tC (.int 1)))) := po_some (pe_un un_neg pe_int)
  refine wpAny_Slice (thn (po_none.run pins s1 σ H1 (fun o H2 => o = none ∧ H2 = H1) I1 ⟨rfl, rfl⟩) fun vl s2 ⟨l, H2, I2, pl, el, e2⟩ => ?_)
  subst el e2
  refine thn (po_none.run pins s2 σ H2 (fun o H3 => o = none ∧ H3 = H2) I2 ⟨rfl, rfl⟩) fun vu s3 ⟨u, H3, I3, pu, eu, e3⟩ => ?_
  subst eu e3
  refine thn (hst.run pins s3 σ H3 (fun o H4 => o = some (-1) ∧ H4 = H3) I3 ⟨1, rfl, -1, rfl, rfl, rfl⟩) fun vs s4 ⟨o, H4, I4, ps, eo, e4⟩ => ?_
  subst eo e4
  obtain ⟨l, rfl, e1⟩ := IsPart.raw pl
  obtain ⟨u, rfl, e2⟩ := IsPart.raw pu
  obtain ⟨st, rfl, e3⟩ := IsPart.raw ps
  cases l with
  | some l => cases e1
  | none =>
    cases u with
    | some u => cases e2
    | none =>
      cases st with
      | none => cases e3
      | some st =>
        obtain ⟨k1, uk⟩ := st
        obtain rfl : k1 = -1 := Option.some.inj e3
        refine tail_any (ops := [.ref s4.heap.objs.size, .str z t]) (typeIs_str _ z t) F.slot_str_getitem.lookup (wpAny_getItem_str_slice (l := none) (u := none) (st := some (-1, uk)) ⟨_, Heap.get?_push_size _ rfl, rfl, rfl⟩ rfl
          (post_val_or_str ⟨Nat.le_trans (Txt.sliceBy_le z none none (-1, uk) (show (-1 : Int) ≠ 0 by decide)) (Nat.le_trans hz (by decide)), fun t' c => ?_⟩)) (by with_unfolding_all rfl)
        rw [← rev_by z uk] at q
        exact ⟨V.str _, H4, I4.kept (t' := c) fun b ob e => Heap.get?_push_of_some _ e, ⟨t', rfl⟩, q⟩
end
end Tx

set_option Elab.async false
set_option linter.all false
set_option maxRecDepth 100000
set_option maxHeartbeats 1000000
namespace Tx
open PySem PySem.Spec PyProof.Rows L2 TL
/-! ### a ring text as what is read on and on -/
def pr (l : List Nat) (i : Nat) : Nat := l.getD (i % l.length) 0
theorem pr_mod (l : List Nat) (i : Nat) : pr l (i % l.length) = pr l i := by unfold pr; rw [Nat.mod_mod]
theorem pr_add (l : List Nat) (i m : Nat) : pr l (i + m * l.length) = pr l i := by unfold pr; rw [Nat.add_mul_mod_self_right]
theorem pr_cong (l : List Nat) {i j : Nat} (h : i % l.length = j % l.length) : pr l i = pr l j := by unfold pr; rw [h]
theorem pr_get {l : List Nat} {i : Nat} (h : i < l.length) : l[i]? = some (pr l i) := by
  unfold pr
  rw [Nat.mod_eq_of_lt h, List.getD_eq_getElem?_getD, List.getElem?_eq_getElem h]; rfl
/-- the n letters from the a-th on -/
def seg (l : List Nat) (a n : Nat) : List Nat := (List.range n).map fun k => pr l (a + k)
theorem seg_len (l : List Nat) (a n : Nat) : (seg l a n).length = n := by unfold seg; rw [List.length_map, List.length_range]
theorem seg_get (l : List Nat) (a n k : Nat) : (seg l a n)[k]? = if k < n then some (pr l (a + k)) else none := by
  unfold seg
  rw [List.getElem?_map]
  by_cases h : k < n
  · rw [if_pos h, List.getElem?_range h]; rfl
  · rw [if_neg h, List.getElem?_eq_none (by rw [List.length_range]; omega)]; rfl
theorem seg_ext {l l' : List Nat} {a b n : Nat} (h : ∀ k, k < n → pr l (a + k) = pr l' (b + k)) : seg l a n = seg l' b n := by
  refine List.map_congr_left fun k hk => h k (List.mem_range.mp hk)
theorem seg_inj {l l' : List Nat} {a b n : Nat} (h : seg l a n = seg l' b n) : ∀ k, k < n → pr l (a + k) = pr l' (b + k) := fun k hk => by
  have e := congrArg (fun x => x[k]?) h
  simp only [seg_get, if_pos hk] at e
  exact Option.some.inj e
theorem seg_mod (l : List Nat) (a n : Nat) : seg l (a % l.length) n = seg l a n := seg_ext fun k _ => pr_cong l (by rw [Nat.mod_add_mod])
theorem list_seg {l : List Nat} : l = seg l 0 l.length := by
  refine List.ext_getElem? fun k => ?_
  rw [seg_get]
  by_cases h : k < l.length
  · rw [if_pos h, Nat.zero_add, pr_get h]
  · rw [if_neg h, List.getElem?_eq_none (by omega)]
theorem seg_lt {l l' : List Nat} {a b n : Nat} : seg l a n < seg l' b n ↔ ∃ i, i < n ∧ (∀ j, j < i → pr l (a + j) = pr l' (b + j)) ∧ pr l (a + i) < pr l' (b + i) := by
  rw [List.lt_iff_exists]
  have g1 : ∀ i (h : i < (seg l a n).length), (seg l a n)[i] = pr l (a + i) := fun i h => by
    have e := seg_get l a n i
    rw [List.getElem?_eq_getElem h, if_pos (by rwa [seg_len] at h)] at e
    exact Option.some.inj e
  have g2 : ∀ i (h : i < (seg l' b n).length), (seg l' b n)[i] = pr l' (b + i) := fun i h => by
    have e := seg_get l' b n i
    rw [List.getElem?_eq_getElem h, if_pos (by rwa [seg_len] at h)] at e
    exact Option.some.inj e
  constructor
  · rintro (⟨_, h⟩ | ⟨i, h1, h2, h3, h4⟩)
    · rw [seg_len, seg_len] at h; omega
    · refine ⟨i, by rwa [seg_len] at h1, fun j hj => ?_, by rwa [g1, g2] at h4⟩
      have e := h3 j hj
      rwa [g1, g2] at e
  · rintro ⟨i, hi, h3, h4⟩
    refine .inr ⟨i, by rwa [seg_len], by rwa [seg_len], fun j hj => ?_, by rwa [g1, g2]⟩
    rw [g1, g2]; exact h3 j hj
/-- turned by p -/
def rot (l : List Nat) (p : Nat) : List Nat := l.drop p ++ l.take p
theorem rot_len (l : List Nat) (p : Nat) : (rot l p).length = l.length := by unfold rot; rw [List.length_append, List.length_drop, List.length_take]; omega
theorem rot_seg {l : List Nat} {p : Nat} (h : p ≤ l.length) : rot l p = seg l p l.length := by
  refine List.ext_getElem? fun k => ?_
  rw [seg_get]
  unfold rot
  by_cases c : k < l.length
  · rw [if_pos c]
    by_cases d : k < l.length - p
    · rw [List.getElem?_append_left (by rw [List.length_drop]; exact d), List.getElem?_drop, pr_get (by omega)]
    · rw [List.getElem?_append_right (by rw [List.length_drop]; omega), List.length_drop, List.getElem?_take_of_lt (by omega), pr_get (by omega)]
      refine congrArg some (pr_cong l ?_)
      rw [show p + k = (k - (l.length - p)) + l.length by omega, Nat.add_mod_right]
  · rw [if_neg c, List.getElem?_eq_none]
    rw [List.length_append, List.length_drop, List.length_take]; omega
theorem rot_pr {l : List Nat} {p : Nat} (h : p ≤ l.length) (hl : 0 < l.length) (i : Nat) : pr (rot l p) i = pr l (p + i) := by
  have lt := Nat.mod_lt i hl
  have e : (rot l p)[i % l.length]? = some (pr (rot l p) i) := by
    have := pr_get (l := rot l p) (i := i % l.length) (by rw [rot_len]; exact lt)
    rw [this]
    have e2 := pr_mod (rot l p) i
    rw [rot_len] at e2
    rw [e2]
  have e' : (rot l p)[i % l.length]? = some (pr l (p + i % l.length)) := by rw [rot_seg h, seg_get, if_pos lt]
  rw [Option.some.inj (e.symm.trans e')]
  exact pr_cong l (by rw [Nat.add_mod_mod])
/-- so many times round -/
def rep (t : Nat) (l : List Nat) : List Nat := (List.replicate t l).flatten
theorem rep_len (t : Nat) (l : List Nat) : (rep t l).length = t * l.length := by
  unfold rep; rw [List.length_flatten, List.map_replicate, List.sum_replicate_nat]
theorem rep_pr {t : Nat} {l : List Nat} (ht : 1 ≤ t) (hl : 0 < l.length) (i : Nat) : pr (rep t l) i = pr l i := by
  have hp : 0 < t * l.length := Nat.mul_pos ht hl
  have lt := Nat.mod_lt i hp
  have e := pr_get (l := rep t l) (i := i % (t * l.length)) (by rw [rep_len]; exact lt)
  unfold rep at e
  rw [rep_get l hl t _ lt, pr_get (Nat.mod_lt _ hl)] at e
  have e2 := pr_mod (rep t l) i
  rw [rep_len] at e2
  rw [← e2]
  have e3 : pr l (i % (t * l.length) % l.length) = pr (rep t l) (i % (t * l.length)) := Option.some.inj e
  rw [← e3, pr_mod]
  exact pr_cong l (by rw [Nat.mod_mul_left_mod])
theorem rep_seg {t : Nat} {l : List Nat} (ht : 1 ≤ t) (hl : 0 < l.length) : rep t l = seg l 0 (t * l.length) := by
  have e := list_seg (l := rep t l)
  rw [rep_len] at e
  rw [e]
  exact seg_ext fun k _ => rep_pr ht hl _
theorem turns_mem {n : Nat} {l : List Nat} (hl : 0 < l.length) (z : Str) : z ∈ turns n l ↔ ∃ a, z = mkS (seg l a n) := by
  unfold turns
  rw [List.mem_map]
  constructor
  · rintro ⟨a, _, rfl⟩; exact ⟨a, rfl⟩
  · rintro ⟨a, rfl⟩
    refine ⟨a % l.length, List.mem_range.mpr (Nat.mod_lt a hl), ?_⟩
    exact congrArg mkS (seg_mod l a n)
/-- texts that are read alike, from somewhere on -/
def Alike (l l' : List Nat) : Prop := ∃ p q, (∀ i, pr l' i = pr l (p + i)) ∧ ∀ i, pr l i = pr l' (q + i)
theorem Alike.turns {l l' : List Nat} (h : Alike l l') (hl : 0 < l.length) (hl' : 0 < l'.length) (n : Nat) (z : Str) : z ∈ Tx.turns n l' ↔ z ∈ Tx.turns n l := by
  obtain ⟨p, q, h1, h2⟩ := h
  rw [turns_mem hl', turns_mem hl]
  constructor
  · rintro ⟨a, rfl⟩
    exact ⟨p + a, congrArg mkS (seg_ext fun k _ => by rw [h1, Nat.add_assoc])⟩
  · rintro ⟨a, rfl⟩
    exact ⟨q + a, congrArg mkS (seg_ext fun k _ => by rw [h2, Nat.add_assoc])⟩
theorem alike_rep {l : List Nat} {p t : Nat} (h : p ≤ l.length) (hl : 0 < l.length) (ht : 1 ≤ t) : Alike l (rep t (rot l p)) := by
  have hr : 0 < (rot l p).length := by rw [rot_len]; exact hl
  refine ⟨p, l.length - p, fun i => by rw [rep_pr ht hr, rot_pr h hl], fun i => ?_⟩
  rw [rep_pr ht hr, rot_pr h hl]
  refine pr_cong l ?_
  rw [show p + (l.length - p + i) = i + l.length by omega, Nat.add_mod_right]
/-- x is read from somewhere on -/
def Stands (l x : List Nat) : Prop := ∃ a, x = seg l a x.length
theorem Alike.stands {l l' : List Nat} (h : Alike l l') (x : List Nat) : Stands l' x ↔ Stands l x := by
  obtain ⟨p, q, h1, h2⟩ := h
  constructor
  · rintro ⟨a, e⟩
    exact ⟨p + a, e.trans (seg_ext fun k _ => by rw [h1, Nat.add_assoc])⟩
  · rintro ⟨a, e⟩
    exact ⟨q + a, e.trans (seg_ext fun k _ => by rw [h2, Nat.add_assoc])⟩

/-! ### the least turn -/
structure Least (l m : List Nat) : Prop where
  at' : ∃ p, m = seg l p l.length
  le : ∀ p, m ≤ seg l p l.length
theorem Least.one {l m m' : List Nat} (h : Least l m) (h' : Least l m') : m = m' := by
  obtain ⟨p, e⟩ := h.at'
  obtain ⟨p', e'⟩ := h'.at'
  exact List.le_antisymm (by rw [e']; exact h.le p') (by rw [e]; exact h'.le p)
theorem Least.ex {l : List Nat} (hl : 0 < l.length) : ∃ s, s < l.length ∧ ∀ p, seg l s l.length ≤ seg l p l.length := by
  have key : ∀ m, 0 < m → ∃ s, s < m ∧ ∀ p, p < m → seg l s l.length ≤ seg l p l.length := by
    intro m
    induction m with
    | zero => intro h; omega
    | succ m ih =>
      intro _
      rcases Nat.eq_zero_or_pos m with rfl | hm
      · exact ⟨0, by omega, fun p hp => by obtain rfl : p = 0 := (by omega); exact List.le_refl _⟩
      · obtain ⟨s, hs, h⟩ := ih hm
        rcases List.le_total (seg l s l.length) (seg l m l.length) with c | c
        · refine ⟨s, by omega, fun p hp => ?_⟩
          rcases Nat.lt_or_ge p m with d | d
          · exact h p d
          · obtain rfl : p = m := (by omega); exact c
        · refine ⟨m, by omega, fun p hp => ?_⟩
          rcases Nat.lt_or_ge p m with d | d
          · exact List.le_trans c (h p d)
          · obtain rfl : p = m := (by omega); exact List.le_refl _
  obtain ⟨s, hs, h⟩ := key l.length hl
  exact ⟨s, hs, fun p => by rw [← seg_mod l p]; exact h _ (Nat.mod_lt p hl)⟩
/-- of a ring text so many times round it is so many times that of once round -/
theorem Least.rep {l m : List Nat} {p t : Nat} (h : Least l m) (hp : p ≤ l.length) (hl : 0 < l.length) (ht : 1 ≤ t) : Least (rep t (rot l p)) (Tx.rep t m) := by
  obtain ⟨s, e⟩ := h.at'
  have hr : 0 < (rot l p).length := by rw [rot_len]; exact hl
  have hm : 0 < m.length := by rw [e, seg_len]; exact hl
  have em : ∀ i, pr m i = pr l (s + i) := fun i => by
    have lt := Nat.mod_lt i hl
    have e1 : m[i % l.length]? = some (pr m i) := by
      have e2 := pr_get (l := m) (i := i % l.length) (by rw [e, seg_len]; exact lt)
      rw [e2]
      have e3 := pr_mod m i
      rw [show m.length = l.length by rw [e, seg_len]] at e3
      rw [e3]
    rw [e, seg_get, if_pos lt] at e1
    have e4 := Option.some.inj e1
    rw [← e] at e4
    rw [← e4]
    exact pr_cong l (by rw [Nat.add_mod_mod])
  have len : (Tx.rep t (rot l p)).length = t * l.length := by rw [rep_len, rot_len]
  have e0 : Tx.rep t m = seg l s (t * l.length) := by
    rw [rep_seg ht hm, show m.length = l.length by rw [e, seg_len]]
    exact seg_ext fun k _ => by rw [em, Nat.zero_add]
  have e1 : ∀ a n, seg (Tx.rep t (rot l p)) a n = seg l (p + a) n := fun a n => seg_ext fun k _ => by rw [rep_pr ht hr, rot_pr hp hl, Nat.add_assoc]
  refine ⟨⟨l.length - p + s, ?_⟩, fun a => ?_⟩
  · rw [len, e1, e0]
    refine seg_ext fun k _ => pr_cong l ?_
    rw [show p + (l.length - p + s) + k = s + k + l.length by omega, Nat.add_mod_right]
  · rw [len, e1, e0]
    refine List.not_lt.mp fun lt => ?_
    obtain ⟨i, hi, h1, h2⟩ := seg_lt.mp lt
    have le := h.le (p + a)
    rw [e] at le
    refine absurd le (List.not_le.mpr (seg_lt.mpr ?_))
    by_cases c : i < l.length
    · exact ⟨i, c, h1, h2⟩
    · exfalso
      -- a difference behind the first round would stand in the first round, too
      have d1 := h1 (i % l.length) (Nat.lt_of_lt_of_le (Nat.mod_lt i hl) (by omega))
      have d2 : pr l (p + a + i % l.length) = pr l (p + a + i) := pr_cong l (by rw [Nat.add_mod_mod])
      have d3 : pr l (s + i % l.length) = pr l (s + i) := pr_cong l (by rw [Nat.add_mod_mod])
      rw [d2, d3] at d1
      omega

/-! ### the search -/
/-- p is no place to begin: elsewhere a lesser text begins -/
def Out (l : List Nat) (p : Nat) : Prop := ∃ q, seg l q l.length < seg l p l.length
structure Seek (l : List Nat) (i j k : Nat) : Prop where
  ne : i ≠ j
  alike : ∀ t, t < k → pr l (i + t) = pr l (j + t)
  out : ∀ p, p < i ∨ p < j → p ≠ i → p ≠ j → Out l p
  one : i < l.length ∨ j < l.length
  kn : k ≤ l.length
theorem out_of {l : List Nat} {i j k t : Nat} (al : ∀ t, t < k → pr l (i + t) = pr l (j + t)) (lt : pr l (j + k) < pr l (i + k)) (ht : t ≤ k) (hk : k < l.length) : Out l (i + t) := by
  refine ⟨j + t, seg_lt.mpr ⟨k - t, by omega, fun x hx => ?_, ?_⟩⟩
  · rw [Nat.add_assoc, Nat.add_assoc]; exact (al (t + x) (by omega)).symm
  · rw [Nat.add_assoc, Nat.add_assoc, show t + (k - t) = k by omega]; exact lt
theorem Seek.start {l : List Nat} (hl : 0 < l.length) : Seek l 0 1 0 := ⟨by decide, fun _ h => by omega, fun p h h1 h2 => by omega, .inl hl, by omega⟩
theorem Seek.same {l : List Nat} {i j k : Nat} (h : Seek l i j k) (hk : k < l.length) (e : pr l (i + k) = pr l (j + k)) : Seek l i j (k + 1) := by
  refine ⟨h.ne, fun t ht => ?_, h.out, h.one, by omega⟩
  rcases Nat.lt_or_ge t k with c | c
  · exact h.alike t c
  · obtain rfl : t = k := by omega
    exact e
theorem Seek.left {l : List Nat} {i j k : Nat} (h : Seek l i j k) (hi : i < l.length) (hj : j < l.length) (hk : k < l.length) (lt : pr l (j + k) < pr l (i + k)) : Seek l (i + k + 1) (if i + k + 1 = j then j + 1 else j) 0 := by
  have o : ∀ t, t ≤ k → Out l (i + t) := fun t ht => out_of h.alike lt ht hk
  have ne := h.ne
  refine ⟨?_, fun t ht => by omega, fun p hp h1 h2 => ?_, ?_, by omega⟩
  · split <;> omega
  · by_cases c : i ≤ p ∧ p ≤ i + k
    · have := o (p - i) (by omega)
      rwa [show i + (p - i) = p by omega] at this
    · refine h.out p ?_ ?_ ?_
      all_goals (split at hp <;> split at h2 <;> omega)
  · split <;> omega
theorem Seek.right {l : List Nat} {i j k : Nat} (h : Seek l i j k) (hi : i < l.length) (hj : j < l.length) (hk : k < l.length) (lt : pr l (i + k) < pr l (j + k)) : Seek l i (if i = j + k + 1 then j + k + 1 + 1 else j + k + 1) 0 := by
  have o : ∀ t, t ≤ k → Out l (j + t) := fun t ht => out_of (fun t ht => (h.alike t ht).symm) lt ht hk
  have ne := h.ne
  refine ⟨?_, fun t ht => by omega, fun p hp h1 h2 => ?_, .inl hi, by omega⟩
  · split <;> omega
  · by_cases c : j ≤ p ∧ p ≤ j + k
    · have := o (p - j) (by omega)
      rwa [show j + (p - j) = p by omega] at this
    · refine h.out p ?_ ?_ ?_
      all_goals (split at hp <;> split at h2 <;> omega)
theorem Seek.done {l : List Nat} {i j k : Nat} (h : Seek l i j k) (hl : 0 < l.length) (e : ¬ (i < l.length ∧ j < l.length ∧ k < l.length)) : Least l (seg l (min i j) l.length) := by
  obtain ⟨s, hs, hm⟩ := Least.ex hl
  have no : ∀ p, seg l p l.length = seg l s l.length → ¬ Out l p := fun p ep ⟨q, lt⟩ => by
    rw [ep] at lt
    exact absurd (hm q) (List.not_le.mpr lt)
  have ne := h.ne
  suffices key : seg l (min i j) l.length = seg l s l.length from ⟨⟨_, rfl⟩, fun p => by rw [key]; exact hm p⟩
  by_cases c : s < i ∨ s < j
  · have : s = i ∨ s = j := by
      by_cases a : s = i
      · exact .inl a
      · by_cases b : s = j
        · exact .inr b
        · exact absurd (h.out s c a b) (no s rfl)
    rw [show min i j = s by omega]
  · have ek : k = l.length := by
      have := h.one
      have := h.kn
      omega
    subst ek
    -- both read alike: what stands behind the greater one stands between them, too
    obtain ⟨m, d, hd, em, eM⟩ : ∃ m d, 0 < d ∧ min i j = m ∧ max i j = m + d := ⟨min i j, max i j - min i j, by omega, rfl, by omega⟩
    have al : ∀ t, pr l (m + t) = pr l (m + d + t) := fun t => by
      have e1 : pr l (i + t) = pr l (j + t) := by
        have := h.alike (t % l.length) (Nat.mod_lt t hl)
        rw [pr_cong l (show (i + t % l.length) % l.length = (i + t) % l.length by rw [Nat.add_mod_mod]), pr_cong l (show (j + t % l.length) % l.length = (j + t) % l.length by rw [Nat.add_mod_mod])] at this
        exact this
      rcases Nat.lt_or_ge i j with a | a
      · rw [show m = i by omega, show i + d = j by omega]; exact e1
      · rw [show m = j by omega, show j + d = i by omega]; exact e1.symm
    have back : ∀ c r, seg l (m + r + c * d) l.length = seg l (m + r) l.length := by
      intro c
      induction c with
      | zero => intro r; rw [Nat.zero_mul, Nat.add_zero]
      | succ c ih =>
        intro r
        rw [← ih r]
        refine seg_ext fun x _ => ?_
        have := al (r + c * d + x)
        rw [show m + r + (c + 1) * d + x = m + d + (r + c * d + x) by rw [Nat.succ_mul]; omega, ← this]
        exact congrArg (pr l) (by omega)
    have es : s = m + (s - m) % d + (s - m) / d * d := by
      have := Nat.mod_add_div (s - m) d
      rw [Nat.mul_comm] at this
      omega
    have e2 : seg l s l.length = seg l (m + (s - m) % d) l.length := by
      have := back ((s - m) / d) ((s - m) % d)
      rw [← es] at this
      exact this
    rcases Nat.eq_zero_or_pos ((s - m) % d) with z | z
    · rw [z, Nat.add_zero] at e2
      rw [em, e2]
    · exfalso
      have lt := Nat.mod_lt (s - m) hd
      exact no _ e2.symm (h.out _ (by omega) (by omega) (by omega))
end Tx

set_option Elab.async false
set_option linter.all false
set_option maxRecDepth 100000
set_option maxHeartbeats 1000000
namespace Tx
open PySem PySem.Spec PyProof.Rows L2 TL
/-! ### lists of texts as data -/
theorem eqvAll_strs : ∀ (xs ys : List Str), PyData.eqvAll (xs.map PyData.str) (ys.map PyData.str) = decide (xs = ys)
  | [], [] => by simp [PyData.eqvAll]
  | [], _ :: _ => by simp [PyData.eqvAll]
  | _ :: _, [] => by simp [PyData.eqvAll]
  | x :: xs, y :: ys => by
    have ih := eqvAll_strs xs ys
    simp only [List.map_cons, PyData.eqvAll, PyData.eqv, ih]
    by_cases a : x = y
    · subst a; simp
    · rw [beq_eq_false_iff_ne.mpr a]; simp [a]
theorem eqv_strs (xs ys : List Str) : PyData.eqv (.list (xs.map PyData.str)) (.list (ys.map PyData.str)) = decide (xs = ys) := by
  rw [← eqvAll_strs]; simp only [PyData.eqv]
theorem low_ok {z : Str} (h : Low z) : PyData.strOk z = true := by
  unfold PyData.strOk
  rw [Array.all_eq_true']
  intro c hc
  have := h c (by simpa [tl] using hc)
  exact decide_eq_true (by omega)
theorem lay_strs : ∀ xs : List Str, (∀ z ∈ xs, Low z) → PyData.canLayAll0 (xs.map PyData.str) = true ∧ PyData.depthAll (xs.map PyData.str) = 0
  | [], _ => ⟨rfl, rfl⟩
  | x :: xs, h => by
    have ih := lay_strs xs fun z hz => h z (List.mem_cons_of_mem _ hz)
    simp only [List.map_cons, PyData.canLayAll0, PyData.depthAll, PyData.canLay0, PyData.depth, ih.1, ih.2, low_ok (h x (List.mem_cons_self ..))]
    simp
theorem shaped_strs {xs : List Str} (h : ∀ z ∈ xs, Low z) : SeqAt.shaped (.list (xs.map PyData.str)) = true := by
  unfold SeqAt.shaped
  simp only [PyData.canLay0, PyData.depth, (lay_strs xs h).1, (lay_strs xs h).2]
  decide
theorem dp_all {K : PySem.W.Frag} {H : Hp} : ∀ xs : List Str, DpAll K H (xs.map V.str) (xs.map PyData.str)
  | [] => .nil
  | x :: xs => .cons (.str x) (dp_all xs)
theorem dp_strs {K : PySem.W.Frag} {H : Hp} {a : Addr} {xs : List Str} (h : H a = some (.lst (xs.map V.str))) : Dp K H (.ref a) (.list (xs.map PyData.str)) := .lst (.inl (.inl h)) (dp_all xs)
/-! ### within -/
theorem found_stands {l : List Nat} {x : Str} (hl : 0 < l.length) (h1 : 1 ≤ x.length) :
    (!(Builtin.Str.occurrences (mkS (unroll l (x.length - 1))) x 0 (mkS (unroll l (x.length - 1))).length 1).isEmpty) = true ↔ Stands l (tl x) := by
  rw [PySem.StrLaws.found_iff, len_mkS, unroll_len l hl]
  have key : ∀ i, i + x.length ≤ l.length + (x.length - 1) → (Builtin.Str.subAt (mkS (unroll l (x.length - 1))) x i = true ↔ tl x = seg l i x.length) := fun i hi => by
    rw [PySem.StrLaws.subAt_eq, beq_iff_eq]
    have e : ((unroll l (x.length - 1)).drop i).take x.length = seg l i x.length := by
      refine List.ext_getElem? fun k => ?_
      rw [List.getElem?_take, List.getElem?_drop, seg_get]
      by_cases c : k < x.length
      · rw [if_pos c, if_pos c, unroll_get l hl _ _ (by omega), pr_get (Nat.mod_lt _ hl), pr_mod]
      · rw [if_neg c, if_neg c]
    exact ⟨fun h => by rw [← e]; exact h.symm, fun h => by show ((unroll l (x.length - 1)).drop i).take x.length = tl x; rw [e, h]⟩
  constructor
  · rintro ⟨i, hi, h⟩
    exact ⟨i, by rw [← len_tl]; exact (key i hi).mp h⟩
  · rintro ⟨a, e⟩
    have lt := Nat.mod_lt a hl
    refine ⟨a % l.length, by omega, (key _ (by omega)).mpr ?_⟩
    rw [← len_tl] at e
    rw [seg_mod]
    exact e
/-! ### read from behind -/
theorem pr_rev (l : List Nat) (hl : 0 < l.length) {x y : Nat} (h : (x + y + 1) % l.length = 0) : pr l.reverse y = pr l x := by
  have hx := Nat.mod_lt x hl
  have hy := Nat.mod_lt y hl
  have e : x % l.length = l.length - 1 - y % l.length := by
    have h2 : (x % l.length + y % l.length + 1) % l.length = 0 := by
      rw [← h, Nat.add_mod (x + y) 1, Nat.add_mod x y, Nat.add_mod (x % l.length + y % l.length) 1]
    have h3 : l.length ∣ (x % l.length + y % l.length + 1) := Nat.dvd_of_mod_eq_zero h2
    obtain ⟨c, hc⟩ := h3
    have c1 : c = 1 := by
      rcases Nat.lt_or_ge c 1 with a | a
      · have : c = 0 := by omega
        subst this; omega
      · rcases Nat.lt_or_ge 1 c with b | b
        · have := Nat.mul_le_mul_left l.length b
          omega
        · omega
    subst c1
    omega
  unfold pr
  rw [List.length_reverse, List.getD_eq_getElem?_getD, List.getD_eq_getElem?_getD, List.getElem?_reverse hy, e]
theorem seg_rev (l : List Nat) (hl : 0 < l.length) (a n : Nat) : (seg l.reverse a n).reverse = seg l ((a + n) * (l.length - 1)) n := by
  refine List.ext_getElem? fun k => ?_
  rw [seg_get]
  by_cases c : k < n
  · rw [List.getElem?_reverse (by rw [seg_len]; exact c), seg_len, seg_get, if_pos c, if_pos (by omega)]
    refine congrArg some (pr_rev l hl ?_)
    have e1 : (a + n) * (l.length - 1) + (a + n) = (a + n) * l.length := by
      rw [← Nat.mul_succ, show (l.length - 1).succ = l.length by omega]
    rw [show (a + n) * (l.length - 1) + k + (a + (n - 1 - k)) + 1 = (a + n) * l.length by omega, Nat.mul_mod_left]
  · rw [if_neg c, List.getElem?_eq_none (by rw [List.length_reverse, seg_len]; omega)]
def revS (z : Str) : Str := mkS (tl z).reverse
theorem revS_revS (z : Str) : revS (revS z) = z := by
  unfold revS; rw [tl_mkS, List.reverse_reverse, mkS_tl]
theorem turns_rev {l : List Nat} (hl : 0 < l.length) (n : Nat) (z : Str) : z ∈ turns n l.reverse ↔ revS z ∈ turns n l := by
  have hr : 0 < l.reverse.length := by rw [List.length_reverse]; exact hl
  rw [turns_mem hr, turns_mem hl]
  constructor
  · rintro ⟨a, rfl⟩
    exact ⟨_, congrArg mkS (seg_rev l hl a n)⟩
  · rintro ⟨a, e⟩
    have e2 : (tl z).reverse = seg l a n := congrArg tl e
    have e3 := seg_rev l.reverse hr a n
    rw [List.reverse_reverse] at e3
    refine ⟨(a + n) * (l.reverse.length - 1), ?_⟩
    rw [← e3, ← e2, List.reverse_reverse, mkS_tl]
theorem Up.rev {l : List Nat} {n : Nat} {ws zs : List Str} (hl : 0 < l.length) (u : Up ws (turns n l)) (p : zs.Perm (ws.map revS)) (s : sortedS zs = true) : Up zs (turns n l.reverse) := by
  have tlen : ∀ l' : List Nat, (turns n l').length = l'.length := fun l' => by unfold turns; rw [List.length_map, List.length_range]
  refine ⟨s, p.nodup_iff.mpr ?_, fun x => ?_, ?_⟩
  · refine List.Pairwise.map revS (fun x y h e => h ?_) u.2.1
    rw [← revS_revS x, ← revS_revS y, e]
  · rw [p.mem_iff, turns_rev hl, ← u.2.2.1, List.mem_map]
    constructor
    · rintro ⟨y, hy, rfl⟩; rw [revS_revS]; exact hy
    · intro h; exact ⟨_, h, revS_revS x⟩
  · rw [p.length_eq, List.length_map, tlen, List.length_reverse, ← tlen l]; exact u.2.2.2
/-! ### books -/
structure Book (n : Nat) (ws : List Str) : Prop where
  n2 : 2 ≤ n
  n6 : n ≤ 6
  one : 1 ≤ ws.length
  most : ws.length ≤ 3000
  asc : ws.Pairwise fun a b => tl a < tl b
  each : ∀ z ∈ ws, Low z ∧ z.length = n
def BookAt (H : Hp) (b : Addr) (n : Nat) (ws : List Str) : Prop := ∃ t, H b = some (.tup [.int n, .ref t]) ∧ H t = some (.tup (ws.map V.str))
theorem BookAt.same {H H' : Hp} {b : Addr} {n : Nat} {ws : List Str} (k : BookAt H b n ws) (s : Same H H') : BookAt H' b n ws := let ⟨t, e1, e2⟩ := k; ⟨t, s _ _ e1, s _ _ e2⟩
theorem asc_of {ws : List Str} (s : ws.Pairwise fun a b => tl a ≤ tl b) (nd : ws.Nodup) : ws.Pairwise fun a b => tl a < tl b := by
  refine (List.Pairwise.and s nd).imp fun {a b} h => ?_
  exact Classical.byContradiction fun n => h.2 (ext_tl (List.le_antisymm h.1 (List.not_lt.mp n)))
theorem up_asc {ws xs : List Str} (u : Up ws xs) : ws.Pairwise fun a b => tl a < tl b := asc_of (sorted_le u.1) u.2.1
theorem turns_low {z : Str} (lo : Low z) (h : 1 ≤ z.length) {n : Nat} {y : Str} (hy : y ∈ turns n (tl z)) : Low y ∧ y.length = n := by
  have hl : 0 < (tl z).length := by rw [← len_tl]; omega
  obtain ⟨a, rfl⟩ := (turns_mem hl y).mp hy
  refine ⟨fun c hc => ?_, by rw [len_mkS, seg_len]⟩
  rw [tl_mkS] at hc
  obtain ⟨k, hk⟩ := List.getElem?_of_mem hc
  rw [seg_get] at hk
  split at hk
  · have e := Option.some.inj hk
    have g := pr_get (l := tl z) (Nat.mod_lt (a + k) hl)
    rw [pr_mod, e] at g
    exact lo c (List.mem_of_getElem? g)
  · cases hk
end Tx

set_option Elab.async false
set_option linter.all false
set_option maxRecDepth 100000
set_option maxHeartbeats 1000000
namespace Tx
open PySem PySem.Spec PyProof.Rows L2 TL
theorem seg_take (l : List Nat) (a n m : Nat) : (seg l a n).take m = seg l a (min m n) := by
  refine List.ext_getElem? fun k => ?_
  rw [List.getElem?_take, seg_get, seg_get]
  by_cases c : k < m
  · by_cases d : k < n
    · rw [if_pos c, if_pos d, if_pos (by omega)]
    · rw [if_pos c, if_neg d, if_neg (by omega)]
  · rw [if_neg c, if_neg (by omega)]
/-- it stands just if its first round does, and each other letter is the one a round ahead -/
theorem stands_due {l x : List Nat} (hl : 0 < l.length) : Stands l x ↔ (∃ a, a < l.length ∧ seg l a (x.take l.length).length = x.take l.length) ∧ ∀ k, l.length ≤ k → k < x.length → x[k]? = x[k - l.length]? := by
  constructor
  · rintro ⟨a, e⟩
    refine ⟨⟨a % l.length, Nat.mod_lt a hl, ?_⟩, fun k h1 h2 => ?_⟩
    · rw [seg_mod, List.length_take]
      have := congrArg (List.take l.length) e
      rw [seg_take] at this
      exact this.symm
    · rw [e, seg_get, seg_get, if_pos h2, if_pos (by omega)]
      refine congrArg some (pr_cong l ?_)
      rw [show a + k = a + (k - l.length) + l.length by omega, Nat.add_mod_right]
  · rintro ⟨⟨a, _, e⟩, h⟩
    refine ⟨a, List.ext_getElem? fun k => ?_⟩
    rw [seg_get]
    by_cases c : k < x.length
    · rw [if_pos c]
      induction k using Nat.strongRecOn with
      | ind k ih =>
        by_cases d : k < l.length
        · have e2 := congrArg (fun y => y[k]?) e
          simp only [seg_get, List.getElem?_take] at e2
          rw [if_pos (by rw [List.length_take]; omega), if_pos d] at e2
          exact e2.symm
        · rw [h k (by omega) c, ih (k - l.length) (by omega) (by omega)]
          refine congrArg some (pr_cong l ?_)
          rw [show a + k = a + (k - l.length) + l.length by omega, Nat.add_mod_right]
    · rw [if_neg c, List.getElem?_eq_none (by omega)]
theorem Stands.rev1 {l x : List Nat} (hl : 0 < l.length) (h : Stands l x) : Stands l.reverse x.reverse := by
  obtain ⟨a, e⟩ := h
  have hr : 0 < l.reverse.length := by rw [List.length_reverse]; exact hl
  have k := seg_rev l.reverse hr a x.length
  rw [List.reverse_reverse, ← e] at k
  exact ⟨_, by rw [List.length_reverse]; exact k⟩
theorem Stands.rev {l x : List Nat} (hl : 0 < l.length) : Stands l.reverse x.reverse ↔ Stands l x := by
  refine ⟨fun h => ?_, .rev1 hl⟩
  have k := h.rev1 (by rw [List.length_reverse]; exact hl)
  rwa [List.reverse_reverse, List.reverse_reverse] at k
theorem cut_seg {l x : List Nat} {a i n : Nat} (e : x = seg l a x.length) (h : i + n ≤ x.length) : cut x i n = seg l (a + i) n := by
  refine List.ext_getElem? fun k => ?_
  unfold cut
  rw [List.getElem?_take, List.getElem?_drop, seg_get]
  by_cases c : k < n
  · rw [if_pos c, if_pos c, e, seg_get, if_pos (by omega), Nat.add_assoc]
  · rw [if_neg c, if_neg c]
theorem Stands.cut {l x : List Nat} (h : Stands l x) {i n : Nat} (hn : i + n ≤ x.length) : Stands l (Tx.cut x i n) := by
  obtain ⟨a, e⟩ := h
  have k := cut_seg e hn
  refine ⟨a + i, ?_⟩
  rw [k, seg_len]
theorem rep_one' (l : List Nat) : rep 1 l = l := by unfold rep; simp
theorem Least.of_stands {l x m : List Nat} (hl : 0 < l.length) (h : Stands l x) (hx : x.length = l.length) (hm : Least l m) : Least x m := by
  obtain ⟨a, e⟩ := h
  have lt := Nat.mod_lt a hl
  have r := hm.rep (p := a % l.length) (t := 1) (Nat.le_of_lt lt) hl (by decide)
  rw [rep_one', rep_one', rot_seg (Nat.le_of_lt lt), seg_mod, ← hx, ← e] at r
  exact r
theorem Least.len {l m : List Nat} (h : Least l m) : m.length = l.length := by
  obtain ⟨p, e⟩ := h.at'
  rw [e, seg_len]
theorem stands_of_least {l x m : List Nat} (hl : 0 < l.length) (hx : x.length = l.length) (h : Least l m) (k : Least x m) : Stands l x := by
  obtain ⟨q, e⟩ := h.at'
  obtain ⟨p, e'⟩ := k.at'
  rw [hx] at e'
  have al := seg_inj (e'.symm.trans e)
  refine ⟨q + p * (l.length - 1), List.ext_getElem? fun j => ?_⟩
  rw [seg_get]
  by_cases c : j < x.length
  · rw [if_pos c, pr_get c]
    have lt := Nat.mod_lt (j + p * (l.length - 1)) hl
    have e1 := al _ lt
    have e2 : p * (l.length - 1) + p = p * l.length := by rw [← Nat.mul_succ, show (l.length - 1).succ = l.length by omega]
    have e3 : pr x (p + (j + p * (l.length - 1)) % l.length) = pr x j := by
      refine pr_cong x ?_
      rw [hx, Nat.add_mod_mod, show p + (j + p * (l.length - 1)) = j + p * l.length by omega, Nat.add_mul_mod_self_right]
    have e4 : pr l (q + (j + p * (l.length - 1)) % l.length) = pr l (q + p * (l.length - 1) + j) := by
      refine pr_cong l ?_
      rw [Nat.add_mod_mod, show q + (j + p * (l.length - 1)) = q + p * (l.length - 1) + j by omega]
    rw [← e3, ← e4, e1]
  · rw [if_neg c, List.getElem?_eq_none (by omega)]
theorem stands_rot {l x : List Nat} (hl : 0 < l.length) (hx : x.length = l.length) : Stands l x ↔ ∃ p, p < l.length ∧ x = rot l p := by
  constructor
  · rintro ⟨a, e⟩
    have lt := Nat.mod_lt a hl
    exact ⟨a % l.length, lt, by rw [rot_seg (Nat.le_of_lt lt), seg_mod, ← hx]; exact e⟩
  · rintro ⟨p, hp, e⟩
    exact ⟨p, by rw [hx, ← rot_seg (Nat.le_of_lt hp)]; exact e⟩
theorem rot_zero (l : List Nat) : rot l 0 = l := by unfold rot; simp
theorem alike_times {l : List Nat} {t : Nat} (hl : 0 < l.length) (ht : 1 ≤ t) : Alike l (rep t l) := by
  have h := alike_rep (l := l) (p := 0) (t := t) (Nat.zero_le _) hl ht
  rwa [rot_zero] at h
/-- what stands is of windows alone -/
theorem stands_steps {l : List Nat} {x : Str} (hl : 0 < l.length) (h : Stands l (tl x)) {n : Nat} {z : Str} (hz : z ∈ steps n (tl x)) (hn : n ≤ x.length) : z ∈ turns n l := by
  unfold steps at hz
  obtain ⟨i, hi, rfl⟩ := List.mem_map.mp hz
  have hi := List.mem_range.mp hi
  obtain ⟨a, e⟩ := h
  rw [← len_tl] at hi
  exact (turns_mem hl _).mpr ⟨a + i, congrArg mkS (cut_seg e (by rw [← len_tl]; omega))⟩
end Tx

set_option Elab.async false
set_option linter.all false
set_option maxRecDepth 100000
set_option maxHeartbeats 1000000
namespace Tx
open PySem PySem.Spec PyProof.Rows L2 TL
/-! ### the web of a book -/
def iniS (z : Str) : Str := mkS ((tl z).take (z.length - 1))
def taiS (z : Str) : Str := mkS ((tl z).drop 1)
/-- one place after another, along windows -/
inductive Path (ws : List Str) : Str → Str → Prop
  | here (a : Str) : Path ws a a
  | step {a : Str} {v : Str} : Path ws a (iniS v) → v ∈ ws → Path ws a (taiS v)
theorem Path.trans {ws : List Str} {a b c : Str} (h : Path ws a b) (k : Path ws b c) : Path ws a c := by
  induction k with
  | here => exact h
  | step _ hv ih => exact .step ih hv
/-- what holds of a and goes along windows holds of all that a comes to -/
theorem Path.closed {ws : List Str} {a b : Str} {S : Str → Prop} (h : Path ws a b) (s : S a) (c : ∀ v ∈ ws, S (iniS v) → S (taiS v)) : S b := by
  induction h with
  | here => exact s
  | step _ hv ih => exact c _ hv ih
def placesL (ws : List Str) : List Str := ws.map iniS ++ ws.map taiS
theorem ini_place {ws : List Str} {v : Str} (h : v ∈ ws) : iniS v ∈ placesL ws := List.mem_append_left _ (List.mem_map.mpr ⟨v, h, rfl⟩)
theorem tai_place {ws : List Str} {v : Str} (h : v ∈ ws) : taiS v ∈ placesL ws := List.mem_append_right _ (List.mem_map.mpr ⟨v, h, rfl⟩)
def Joined (ws : List Str) : Prop := ∀ s ∈ placesL ws, ∀ t ∈ placesL ws, Path ws s t
/-- as many as can be in a list without two alike -/
theorem pig : ∀ (xs ys : List Str), xs.Nodup → (∀ x ∈ xs, x ∈ ys) → xs.length ≤ ys.length
  | [], _, _, _ => Nat.zero_le _
  | x :: xs, ys, nd, sub => by
    obtain ⟨nx, nd'⟩ := List.nodup_cons.mp nd
    have hx := sub x (List.mem_cons_self ..)
    have k := pig xs (ys.erase x) nd' fun y hy => (List.mem_erase_of_ne fun e => nx (by rw [← e]; exact hy)).mpr (sub y (List.mem_cons_of_mem _ hy))
    rw [List.length_erase_of_mem hx] at k
    have : 0 < ys.length := List.length_pos_of_mem hx
    rw [List.length_cons]
    omega
theorem pig_all {xs ys : List Str} (nd : xs.Nodup) (sub : ∀ x ∈ xs, x ∈ ys) (len : ys.length ≤ xs.length) {y : Str} (hy : y ∈ ys) : y ∈ xs := by
  refine Classical.byContradiction fun no => ?_
  have := pig (y :: xs) ys (List.nodup_cons.mpr ⟨no, nd⟩) fun x hx => by
    rcases List.mem_cons.mp hx with rfl | hx
    · exact hy
    · exact sub x hx
  rw [List.length_cons] at this
  omega
theorem count_two {p q r : Str → Bool} (hp : ∀ x, p x = true → r x = true) (hq : ∀ x, q x = true → r x = true) : ∀ ws : List Str, (∀ x ∈ ws, p x = true → q x = true → False) → ws.countP p + ws.countP q ≤ ws.countP r
  | [], _ => by simp
  | x :: ws, no => by
    have ih := count_two hp hq ws fun y hy => no y (List.mem_cons_of_mem _ hy)
    have nx := no x (List.mem_cons_self ..)
    rw [List.countP_cons, List.countP_cons, List.countP_cons]
    cases e1 : p x <;> cases e2 : q x <;> cases e3 : r x <;> simp only [if_true, Bool.false_eq_true, if_false] <;> first
      | omega
      | exact absurd ((hp x e1).symm.trans e3) (by decide)
      | exact absurd ((hq x e2).symm.trans e3) (by decide)
      | exact (nx e1 e2).elim
/-- windows to come: those whose end is not there yet -/
def togo (ws xs : List Str) : Nat := ws.countP fun v => decide (taiS v ∉ xs)
def newT (ws xs : List Str) : List Str := (ws.filter fun v => decide (iniS v ∈ xs) && decide (taiS v ∉ xs)).map taiS
theorem togo_le {ws xs ys : List Str} (u : ∀ x, x ∈ ys ↔ x ∈ newT ws xs) : togo ws (xs ++ ys) + (newT ws xs).length ≤ togo ws xs := by
  unfold togo newT
  rw [List.length_map, ← List.countP_eq_length_filter]
  refine count_two (fun v h => ?_) (fun v h => ?_) ws (fun v hv h1 h2 => ?_)
  · have h := of_decide_eq_true h
    exact decide_eq_true fun c => h (List.mem_append_left _ c)
  · rw [Bool.and_eq_true] at h; exact h.2
  · refine of_decide_eq_true h1 (List.mem_append_right _ ((u _).mpr ?_))
    exact List.mem_map.mpr ⟨v, List.mem_filter.mpr ⟨hv, h2⟩, rfl⟩
end Tx

set_option Elab.async false
set_option linter.all false
set_option maxRecDepth 100000
set_option maxHeartbeats 4000000
namespace Tx
open PySem PySem.Spec PyProof.Rows L2 TL
/-- a text's signs, one by one -/
def signs (x : Str) : List Str := (tl x).map fun c => ⟨#[c]⟩
theorem signs_len (x : Str) : (signs x).length = x.cps.size := by unfold signs; rw [List.length_map, ← len_tl]; rfl
section
variable {P : Program} {w : World} {A : Around} {E : Value → Shared → Prop}
set_option maxHeartbeats 6400000 in
theorem call_setT {s : Shared} {x : Str} {t : Tok} {Q : Value → Shared → Prop} (hh : A.handled = none) (hb : x.cps.size + 1 < scanBound)
    (h : ∀ h' tk ks, FirstOf (signs x) (signs x).length ks → SetS w h' s.heap.objs.size ks → (∀ b o, s.heap.get? b = some o → h'.get? b = some o) → Q (.ref s.heap.objs.size) { s with heap := h', toks := tk }) :
    wpAny (model P w) A (call (.type "set") [.str x t]) Q E s := by
  obtain ⟨c, tl', hmro⟩ := F.called_set.mro
  have hmade := F.called_set.made
  have hsub := F.called_set.sub
  refine wpAny_call (codeAny_of_tree (show wpAny _ _ (callAny (.type "set") _) _ _ _ from ?_))
  refine wpAny_pure ⟨Code.quiet_builtin _ (by decide +kernel), codeAny_builtin F.entry_type_call ?_⟩
  rw [Around.under_plain (weight_type_call_type "set" [.str x t] []) rfl]
  have h1 := F.called_set.notType
  have h2 := F.called_set.canCreate
  have hct := F.typeCall_set_1 (.str x t)
  repeat (any_goals (first | assumption | wp_step))
  refine codeAny_mono (code_set_led1 (.str x t) (E := E) (Q₁ := fun obj s1 => obj = .ref s.heap.objs.size ∧ s1 = { s with heap := s.heap.push (freshSet w) }) ⟨rfl, rfl⟩) fun r s1 hr => ?_
  rcases r with e | fl
  · exact hr
  · rcases fl with obj | _ | _ | _
    all_goals first | exact hr.elim | skip
    obtain ⟨rfl, rfl⟩ := hr
    have at0 : (s.heap.push (freshSet w)).get? s.heap.objs.size = some (freshSet w) := Heap.get?_push_size _ rfl
    have hT : Shared.TypeIs { s with heap := s.heap.push (freshSet w) } (.ref s.heap.objs.size) "set" := ⟨_, at0, rfl⟩
    have hli := F.called_set.init.lookup
    have hbi := F.called_set.init.bind (.ref s.heap.objs.size)
    repeat (any_goals (first | assumption | wp_step))
    refine codeAny_mono (codeAny_call_builtin (R := wants (fun r s2 => r = .none ∧ ∃ h' tk ks, s2 = { s with heap := h', toks := tk } ∧ FirstOf (signs x) (signs x).length ks ∧ SetS w h' s.heap.objs.size ks ∧
      ∀ b o, s.heap.get? b = some o → h'.get? b = some o) E) F.called_set.init.plain F.entry_set_init (check_set_init_1 hT ?_)) fun r2 s2 hr2 => ?_
    · have f1 := PySem.F.sub_str_set
      have f2 := PySem.F.sub_str_frozenset
      have f3 : (Value.type "str" == Value.type "dict") = false := by decide
      unfold Builtin.«set.__init__» noKeywords Builtin.Frozenset.updateFrom
      generalize hPI : pyIter = PI
      wp_walk
      subst hPI
      refine wpAny_pyIter_str fun oI St W st0 => wpAny_bind (wpAny_runValue ?_)
      have hh3 : A.in1.in1.in1.handled = none := by simp [hh]
      have sz : (s.heap.push (freshSet w)).objs.size = s.heap.objs.size + 1 := Heap.size_push ..
      have nS : s.heap.objs.size ∉ [(s.heap.push (freshSet w)).objs.size] := by
        rw [sz]
        simp only [List.mem_singleton]
        exact Nat.ne_of_lt (Nat.lt_succ_self _)
      have hv : ∀ (i : Nat) (v : Value), SignAt x i v → ∃ y u, (signs x)[i]? = some y ∧ v = .str y u := fun i v z => by
        obtain ⟨c, u, e, rfl⟩ := z
        refine ⟨⟨#[c]⟩, u, ?_, rfl⟩
        unfold signs
        rw [List.getElem?_map, show (tl x)[i]? = some c by rw [← e]; exact Array.getElem?_toList ..]
        rfl
      refine setS_update (W _ hh3).toS nS (signs_len x).symm hb hv x.cps.size 0 _ [] (Nat.sub_zero _) (Nat.zero_le _)
        st0 ⟨Nat.le_refl _, List.nodup_nil, fun y => by rw [List.take_zero]⟩ (fresh_ok (Heap.get?_push_of_some _ at0)) fun s3 ks mv fo hk => ?_
      obtain ⟨h3, g3, d3, t3, o3⟩ := s3
      obtain rfl : g3 = s.gens := mv.gens
      obtain rfl : d3 = s.drawn := mv.drawn
      obtain rfl : o3 = s.os := mv.os
      rw [← signs_len] at fo
      refine wpAny_pure (wpAny_pure (a := Fin.done (.ret Value.none)) ⟨rfl, h3, t3, ks, rfl, fo, hk, fun b o e => ?_⟩)
      have lb := Heap.lt_size e
      refine mv.heap b o ?_ (Heap.get?_push_of_some _ (Heap.get?_push_of_some _ e))
      rw [sz]
      simp only [List.mem_cons, List.mem_singleton, List.not_mem_nil, or_false, not_or]
      exact ⟨Nat.ne_of_lt lb, Nat.ne_of_lt (Nat.lt_succ_of_lt lb)⟩
    · rcases r2 with e | fl
      · exact hr2
      · rcases fl with r | _ | _ | _
        all_goals first | exact hr2.elim | skip
        obtain ⟨rfl, h', tk, ks, rfl, fo, hk, kp⟩ := hr2
        repeat (any_goals (first | assumption | wp_step))
        exact h _ _ _ fo hk kp
end
section
variable {X : Cx} {pins : List (Addr × Obj)} {σ : L2.St} {H : Hp}
/-- set(x), a text -/
def rSetT (w : World) : List V → Hp → VK → Prop := fun vs H Q => ∃ x : Str, vs = [V.str x] ∧ x.length < 4000 ∧ ∀ p ks, FirstOf (signs x) (signs x).length ks → H p = none → Q (.ref p) (upd H p (SetSO w p ks))
theorem cr_setT (hc : X.calm = true) : CallR X (.type "set") (rSetT X.w) := by
  intro pins s σ H vs us Q I r h
  obtain ⟨x, rfl, hb, q⟩ := h
  obtain ⟨u, rfl, t, rfl⟩ := vals1 r
  refine call_setT (I.ok.hd hc) (by unfold scanBound; exact Nat.lt_of_lt_of_le (Nat.succ_lt_succ hb) (by decide)) fun h' tk ks fo hk kp => ?_
  exact ⟨.ref s.heap.objs.size, upd H s.heap.objs.size (SetSO X.w s.heap.objs.size ks), I.laid (t' := tk) kp (Nat.le_refl _) (setSO_new hk), rfl, q _ ks fo (I.hok.fresh (Nat.le_refl _))⟩
theorem setTK (w : World) (hw : X.w = w) (hc : X.calm = true) : CallR X (.type "set") (rSetT w) := by subst hw; exact cr_setT hc
/-- min(x, y), two texts -/
def rMin2S : List V → Hp → VK → Prop := fun vs H Q => ∃ x y : Str, vs = [V.str x, V.str y] ∧ ∀ m, m = x ∨ m = y → Q (.str m) H
theorem cr_min2S (hc : X.calm = true) : CallR X (.builtin "min") rMin2S := by
  intro pins s σ H vs us Q I r h
  obtain ⟨x, y, rfl, q⟩ := h
  obtain ⟨u, w', rfl, ⟨t, rfl⟩, ⟨t', rfl⟩⟩ := vals2 r
  have hT : (s.heap.push { cls := .type "tuple", data := .seq #[Value.str x t, Value.str y t'] }).IsTuple s.heap.objs.size #[Value.str x t, Value.str y t'] := ⟨_, Heap.get?_push_size _ rfl, rfl, _, rfl⟩
  have hsz : (s.heap.push { cls := .type "tuple", data := .seq #[Value.str x t, Value.str y t'] }).objs.size = s.heap.objs.size + 1 := Heap.size_push ..
  have hval : ∀ (i : Nat) (v : Value), (#[Value.str x t, Value.str y t'] : Array Value)[i]? = some v → ∃ u, v = .str ([x, y].getD i Str.empty) u := fun i v e => by
    match i, e with
    | 0, e => exact ⟨t, (Option.some.inj e).symm⟩
    | 1, e => exact ⟨t', (Option.some.inj e).symm⟩
    | n + 2, e => simp at e
  refine call_min_two (wpAny_pyIter_tuple hT ?_)
  refine ⟨_, [_, s.heap.objs.size], [_], _, _, _, _, rfl, Walks.tuple (A := X.A.in1) (I.ok.hd hc) _ s.heap.objs.size (by rw [hsz]; exact Nat.ne_of_lt (Nat.lt_succ_self _)) #[Value.str x t, Value.str y t'],
    ⟨⟨_, Heap.get?_push_size _ rfl, rfl, rfl⟩, hT.push _⟩, fun c hc => ?_, by show 0 < 2; decide, (fun i j vi vj s' Q' E' hi hj hq => ?_ : CmpOf X.prog X.w X.A.in1 .Lt _ fun i j => decide (tl ([x, y].getD i Str.empty) < tl ([x, y].getD j Str.empty))), fun v h' tk hP hk => ?_⟩
  · show c < ((s.heap.push _).push _).objs.size
    rw [Heap.size_push, hsz]
    rcases List.mem_cons.mp hc with e | hc
    · rw [e, hsz]; exact Nat.lt_succ_self _
    · rw [List.mem_singleton.mp hc]; exact Nat.lt_succ_of_lt (Nat.lt_succ_self _)
  · obtain ⟨u, rfl⟩ := hval i vi hi
    obtain ⟨u', rfl⟩ := hval j vj hj
    exact P.lt_str hq
  · have hold : ∀ c o, s.heap.get? c = some o → h'.get? c = some o := fun c o e => by
      refine hk c o (fun hm => ?_) (Heap.get?_push_of_some _ (Heap.get?_push_of_some _ e))
      have e2 := Heap.lt_size e
      rw [List.mem_singleton.mp hm, hsz] at e2
      exact Nat.lt_irrefl _ (Nat.lt_of_succ_lt e2)
    obtain ⟨u, rfl⟩ := hval _ v hP
    refine ⟨.str _, H, I.kept hold, ⟨u, rfl⟩, q _ ?_⟩
    have lt : argBest (fun i j => decide (tl ([x, y].getD i Str.empty) < tl ([x, y].getD j Str.empty))) 1 ≤ 1 := (best_at (xs := [x, y]) 1 (by show 1 < 2; decide)).1
    show [x, y].getD (argBest (fun i j => decide (tl ([x, y].getD i Str.empty) < tl ([x, y].getD j Str.empty))) 1) Str.empty = x ∨ [x, y].getD (argBest (fun i j => decide (tl ([x, y].getD i Str.empty) < tl ([x, y].getD j Str.empty))) 1) Str.empty = y
    generalize argBest (fun i j => decide (tl ([x, y].getD i Str.empty) < tl ([x, y].getD j Str.empty))) 1 = n at lt ⊢
    rcases (show n = 0 ∨ n = 1 by omega) with rfl | rfl
    · exact .inl rfl
    · exact .inr rfl
/-- d != {} -/
def rNeD0 : R2 := fun x y H Q => ∃ a b ks, x = .ref a ∧ y = .ref b ∧ H a = some (.dK ks) ∧ H b = some (.dK []) ∧ Q (.bl (!ks.isEmpty)) H
theorem op_neD0 (hu : X.A.units < cLine) : OpR X (compareOp .NotEq) rNeD0 := by
  intro pins s σ H x y v u Q I rx ry h
  obtain ⟨a, b, ks, rfl, rfl, ea, eb, q⟩ := h
  obtain rfl : v = Value.ref a := rx
  obtain rfl : u = Value.ref b := ry
  obtain ⟨_, ya, va, ra, da⟩ := (show ObjOk X.prog X.w H s.heap a (.dK ks) from I.hok a _ ea)
  obtain ⟨_, yb, vb, rb, db⟩ := (show ObjOk X.prog X.w H s.heap b (.dK []) from I.hok b _ eb)
  have hb0 : vb.length = 0 := by rw [← rb.length]; rfl
  refine PySem.W.keq_ne (knd := mixKind X.prog X.w) (r := true) ya yb da db hu (fun e => ?_) (fin_bl I q ?_)
  · have h0 : ks = [] := List.eq_nil_of_length_eq_zero (by rw [ra.length, e]; exact hb0)
    subst h0
    exact hits_all rb ra fun p hp => by cases hp
  · cases ks with
    | nil =>
      have : va.length = 0 := by rw [← ra.length]; rfl
      simp [this, hb0]
    | cons k ks =>
      have : va.length = ks.length + 1 := by rw [← ra.length]; rfl
      simp [this, hb0]
end
end Tx

set_option Elab.async false
set_option linter.all false
set_option maxRecDepth 100000
set_option maxHeartbeats 1000000
namespace Tx
open PySem PySem.Spec PyProof.Rows L2 TL
def topS (i : Nat) : Stmt := PySem.Challenge.pw_surepieces_k03_what_fits_and_stands.main.body.getD i (.Pass ⟨0, 0, 0, 0⟩)
section
variable {P : Program} {w : World} {K : PySem.W.Frag} {mg : Str → Option Value} {base : Heap}
abbrev st_is_whole : Stmt := topS 2
theorem sc_is_whole : FnScope ["value"] ["value"] (defScope st_is_whole) := ⟨rfl, rfl, rfl, by decide +kernel, rfl, by decide +kernel, by decide +kernel⟩
theorem pl_is_whole : PlainB "is_whole" st_is_whole ["value"] := fun _ _ _ _ _ _ us hl => match us, hl with | [_], _ => rfl
/-- of an int: True -/
def spWhole : Sp := fun vs H Q _ => ∃ i, vs = [.int i] ∧ Q (.bl true) H
theorem ok_is_whole (T : Top K mg "is_whole" st_is_whole) (B : Bt mg) : Dn P w K mg base 1 "is_whole" st_is_whole ["value"] spWhole := by
  refine dn_of T sc_is_whole pl_is_whole (fun vs H Q E h => ?_) fun f cdv A outer s H vs Q E hr h => ?_
  · obtain ⟨i, rfl, _⟩ := h; rfl
  · obtain ⟨i, rfl, q⟩ := h
    refine ⟨_, (pss_one (ps_ret (pe_and (pe_callB (isiK K rfl) (by rfl) B.isi (by decide +kernel) (pa_cons (pv 0) (pa_cons (pe_bltn (v := .ty "int") (by rfl) B.int (by decide +kernel) rfl) pa_nil))) (pe_one (pe_not (pe_callB (isiK K rfl) (by rfl) B.isi (by decide +kernel) (pa_cons (pv 0) (pa_cons (pe_bltn (v := .ty "bool") (by rfl) B.bool (by decide +kernel) rfl) pa_nil)))))))), ?_⟩
    refine ⟨_, rfl, .int i, .ty "int", _, _, true, rfl, .ty _, .base (.int i), kit_ty (by decide +kernel), true, rfl, iteT ?_⟩
    exact ⟨_, rfl, .int i, .ty "bool", _, _, false, rfl, .ty _, .base (.int i), kit_ty (by decide +kernel), false, rfl, q⟩
abbrev st_is_letters : Stmt := topS 3
theorem sc_is_letters : FnScope ["value", "letter"] ["value"] (defScope st_is_letters) := ⟨rfl, rfl, rfl, by decide +kernel, rfl, by decide +kernel, by decide +kernel⟩
theorem pl_is_letters : PlainB "is_letters" st_is_letters ["value"] := fun _ _ _ _ _ _ us hl => match us, hl with | [_], _ => rfl
/-- of a text of small letters: True -/
def spLow : Sp := fun vs H Q _ => ∃ z, vs = [.str z] ∧ Low z ∧ z.length ≤ 100000 ∧ ∀ H', Same H H' → Q (.bl true) H'
theorem ok_is_letters (T : Top K mg "is_letters" st_is_letters) (B : Bt mg) : Dn P w K mg base 1 "is_letters" st_is_letters ["value"] spLow := by
  refine dn_of T sc_is_letters pl_is_letters (fun vs H Q E h => ?_) fun f cdv A outer s H vs Q E hr h => ?_
  · obtain ⟨z, rfl, _⟩ := h; rfl
  · obtain ⟨z, rfl, lo, hz, q⟩ := h
    refine ⟨_, (pss_one (ps_ret (pe_and (pe_callB (isiK K rfl) (by rfl) B.isi (by decide +kernel) (pa_cons (pv 0) (pa_cons (pe_bltn (v := .ty "str") (by rfl) B.str (by decide +kernel) rfl) pa_nil))) (pe_one (pe_callB (allK K rfl rfl) (by rfl) B.all (by decide +kernel) (pa_cons (pe_lc (own := [("letter", 1)]) (g := gName 1) rfl sc_is_letters.nd (pi_str (pv 0)) (blkOk_by (N := ["value", "letter"]) (sc := defScope st_is_letters) (by decide +kernel)) (fun _ _ _ _ _ => (pg_name (i := 1) sc_is_letters.nd rfl (.inl rfl))) (fun _ _ _ _ _ => pts_nil) (fun _ _ _ _ _ => (pe_chain op_le_str op_le_str pe_str (pv 1) pe_str))) pa_nil)))))), ?_⟩
    refine ⟨_, rfl, .str z, .ty "str", _, _, true, rfl, .ty _, .base (.str z), kit_ty (by decide +kernel), true, rfl, iteT ?_⟩
    refine ⟨_, rfl, z, rfl, fun D hD => lc_text (fun i H' => Same H H' ∧ H' D = some (.lst ((List.range i).map fun _ => V.bl true))) ⟨same_upd hD, upd_same⟩ (fun i c H' hc ⟨sm, e⟩ => ?_) fun H' ⟨sm, e⟩ => ?_⟩
    · have hl := lo c (List.mem_of_getElem? hc)
      have lt := (List.getElem?_eq_some_iff.mp hc).1
      rw [← len_tl] at lt
      refine ⟨rfl, lc_yes ?_⟩
      refine ⟨_, rfl, _, _, rfl, rfl, _, rfl, ?_⟩
      rw [low_a hl.1]
      refine iteT ?_
      refine ⟨_, _, rfl, rfl, _, e, grown_len _ lt (by omega), wr sm hD, ?_⟩
      rw [upd_same, low_z hl.2, grown (fun _ => V.bl true)]
    · refine ⟨D, List.replicate z.cps.size true, rfl, .inl (.inl ?_), ?_⟩
      · rw [e, trues]
      · rw [all_trues]
        exact q _ sm
abbrev st_steps_of : Stmt := topS 5
theorem sc_steps_of : FnScope ["size", "text", "at"] ["size", "text"] (defScope st_steps_of) := ⟨rfl, rfl, rfl, by decide +kernel, rfl, by decide +kernel, by decide +kernel⟩
theorem pl_steps_of : PlainB "steps_of" st_steps_of ["size", "text"] := fun _ _ _ _ _ _ us hl => match us, hl with | [_, _], _ => rfl
/-- the texts of n letters that stand in a text -/
def spSteps : Sp := fun vs H Q _ => ∃ (n : Nat) (z : Str), vs = [.int n, .str z] ∧ 1 ≤ n ∧ n ≤ 100000 ∧ z.length ≤ 100000 ∧ ∀ p H', H p = none → Same H H' → H' p = some (.lst ((steps n (tl z)).map V.str)) → Q (.ref p) H'
theorem ok_steps_of (T : Top K mg "steps_of" st_steps_of) (B : Bt mg) : Dn P w K mg base 1 "steps_of" st_steps_of ["size", "text"] spSteps := by
  refine dn_of T sc_steps_of pl_steps_of (fun vs H Q E h => ?_) fun f cdv A outer s H vs Q E hr h => ?_
  · obtain ⟨n, z, rfl, _⟩ := h; rfl
  · obtain ⟨n, z, rfl, n1, hn, hz, q⟩ := h
    have sl : z.length ≤ sizeLine := Nat.le_trans hz (by decide)
    refine ⟨_, (pss_one (ps_ret (pe_lc (own := [("at", 2)]) (g := gName 2) rfl sc_steps_of.nd (pi_range1 (by rfl) B.range (pa_cons (pe_op op_add (pe_op op_sub (pe_callB call_len_str (by rfl) B.len (by decide +kernel) (pa_cons (pv 1) pa_nil)) (pv 0)) pe_int) pa_nil)) (blkOk_by (N := ["size", "text", "at"]) (sc := defScope st_steps_of) (by decide +kernel)) (fun _ _ _ _ _ => (pg_name (i := 2) sc_steps_of.nd rfl (.inl rfl))) (fun _ _ _ _ _ => pts_nil) (fun _ _ _ _ _ => (pe_slice sl_str (pv 1) (po_some (pv 2)) (po_some (pe_op op_add (pv 2) (pv 0)))))))), ?_⟩
    refine ⟨_, rfl, _, rfl, sl, _, rfl, _, _, rfl, rfl, _, _, rfl, rfl, _, rfl, by omega, by omega, fun D hD => ?_⟩
    rw [show ((z.length : Int) - (n : Int) + 1).toNat = z.length + 1 - n by omega]
    refine lc_range (fun i H' => Same H H' ∧ H' D = some (.lst ((List.range i).map fun j => V.str (mkS (cut (tl z) j n))))) ⟨same_upd hD, upd_same⟩ (fun i H' hi ⟨sm, e⟩ => ?_) fun H' ⟨sm, e⟩ => ?_
    · refine ⟨rfl, lc_yes ?_⟩
      refine ⟨_, rfl, _, rfl, _, rfl, _, rfl, _, rfl, _, _, rfl, rfl, _, rfl, z, rfl, sl, _, e, grown_len _ hi (by omega), wr sm hD, ?_⟩
      rw [upd_same, show ((0 : Int) + (i : Int)) = (i : Int) by omega, cutS_mid z i n (by omega), grown fun j => V.str (mkS (cut (tl z) j n))]
    · refine q D H' hD sm ?_
      rw [e]
      unfold steps
      rw [← len_tl, List.map_map]
      rfl
abbrev st_unrolled : Stmt := topS 6
theorem sc_unrolled : FnScope ["ring", "more", "times"] ["ring", "more"] (defScope st_unrolled) := ⟨rfl, rfl, rfl, by decide +kernel, rfl, by decide +kernel, by decide +kernel⟩
theorem pl_unrolled : PlainB "unrolled" st_unrolled ["ring", "more"] := fun _ _ _ _ _ _ us hl => match us, hl with | [_, _], _ => rfl
def spUnroll : Sp := fun vs H Q _ => ∃ (z : Str) (m : Nat), vs = [.str z, .int m] ∧ 1 ≤ z.length ∧ z.length ≤ 10000 ∧ m ≤ 10000 ∧ Q (.str (mkS (unroll (tl z) m))) H
theorem ok_unrolled (T : Top K mg "unrolled" st_unrolled) (B : Bt mg) : Dn P w K mg base 1 "unrolled" st_unrolled ["ring", "more"] spUnroll := by
  refine dn_of T sc_unrolled pl_unrolled (fun vs H Q E h => ?_) fun f cdv A outer s H vs Q E hr h => ?_
  · obtain ⟨n, z, rfl, _⟩ := h; rfl
  · obtain ⟨z, m, rfl, h1, hz, hm, q⟩ := h
    have sl : z.length ≤ sizeLine := Nat.le_trans hz (by decide)
    have ez : (z.length : Int) ≠ 0 := by omega
    refine ⟨_, (pss_cons (ps_set (i := 2) sc_unrolled.nd rfl (.inl rfl) (pe_op op_add (pe_op op_fdivN (pv 1) (pe_callB call_len_str (by rfl) B.len (by decide +kernel) (pa_cons (pv 0) pa_nil))) pe_int))
      (pss_one (ps_ret (pe_slice sl_str (pe_op op_mulS (pv 0) (pv 2)) po_none (po_some (pe_op op_add (pe_callB call_len_str (by rfl) B.len (by decide +kernel) (pa_cons (pv 0) pa_nil)) (pv 1))))))), ?_⟩
    obtain ⟨d, hd⟩ : ∃ d, d = m / z.length := ⟨_, rfl⟩
    have e1 : (m : Int).fdiv (z.length : Int) = (d : Int) := by
      rw [Int.fdiv_eq_ediv_of_nonneg _ (by omega), hd]; rfl
    have e3 : z.length * d ≤ m := by rw [hd]; exact Nat.mul_div_le m z.length
    have e4 : d ≤ m := by rw [hd]; exact Nat.div_le_self _ _
    have e7 := Nat.div_add_mod m z.length
    have e8 := Nat.mod_lt m (show 0 < z.length by omega)
    rw [← hd] at e7
    have e2 : ((d : Int) + 2).toNat = d + 2 := by omega
    have e5 : z.length * (d + 2) = z.length * d + z.length * 2 := Nat.mul_add _ _ _
    have e6 : (mkS ((List.replicate (d + 2) (tl z)).flatten)).length = z.length * d + z.length * 2 := by
      rw [len_mkS, List.length_flatten, List.map_replicate, List.sum_replicate_nat, ← len_tl, Nat.mul_comm, e5]
    refine ⟨_, rfl, _, rfl, _, rfl, sl, _, _, rfl, rfl, ⟨ez, by show (z.length : Int).natAbs < _; omega⟩, _, _, rfl, rfl, ?_⟩
    rw [e1]
    refine ⟨_, rfl, _, rfl, _, _, rfl, rfl, by omega, by omega, by rw [e2, e5]; omega, ?_⟩
    rw [e2]
    refine ⟨_, rfl, _, rfl, sl, _, rfl, _, _, rfl, rfl, _, rfl, _, rfl, ?_, ?_⟩
    · exact Nat.le_trans (Nat.le_of_eq e6) (Nat.le_trans (show _ ≤ 30000 by omega) (by decide))
    · rw [show ((z.length : Int) + (m : Int)) = ((z.length + m : Nat) : Int) by omega]
      have e9 := cutS_to (mkS ((List.replicate (d + 2) (tl z)).flatten)) (z.length + m) (by rw [e6]; omega)
      refine (congrArg (fun y => Q (.str y) H) (e9.trans ?_)).mpr q
      rw [tl_mkS, hd, len_tl]
      rfl
abbrev st_is_size : Stmt := topS 15
theorem sc_is_size : FnScope ["value"] ["value"] (defScope st_is_size) := ⟨rfl, rfl, rfl, by decide +kernel, rfl, by decide +kernel, by decide +kernel⟩
theorem pl_is_size : PlainB "is_size" st_is_size ["value"] := fun _ _ _ _ _ _ us hl => match us, hl with | [_], _ => rfl
def spSize : Sp := fun vs H Q _ => ∃ n : Nat, vs = [.int n] ∧ 2 ≤ n ∧ n ≤ 6 ∧ Q (.bl true) H
theorem ok_is_size (T : Top K mg "is_size" st_is_size) (D_is_whole : Dn P w K mg base 1 "is_whole" st_is_whole ["value"] spWhole) : Dn P w K mg base 2 "is_size" st_is_size ["value"] spSize := by
  refine dn_of T sc_is_size pl_is_size (fun vs H Q E h => ?_) fun f cdv A outer s H vs Q E hr h => ?_
  · obtain ⟨n, rfl, _⟩ := h; rfl
  · obtain ⟨n, rfl, h2, h6, q⟩ := h
    refine ⟨_, (pss_one (ps_ret (pe_and (pe_fn D_is_whole (hr.mono (by decide)) (by rfl) (pa_cons (pv 0) pa_nil)) (pe_one (pe_chain op_le op_le pe_int (pv 0) pe_int))))), ?_⟩
    refine ⟨_, rfl, _, rfl, _, rfl, ?_⟩
    refine iteT ?_
    refine ⟨_, rfl, _, _, rfl, rfl, _, rfl, ?_⟩
    rw [decide_eq_true (show (2 : Int) ≤ (n : Int) by omega)]
    refine iteT ?_
    refine ⟨_, _, rfl, rfl, ?_⟩
    show Q (.bl (decide ((n : Int) ≤ 6))) H
    rw [decide_eq_true (show (n : Int) ≤ 6 by omega)]
    exact q
end
end Tx

set_option Elab.async false
set_option linter.all false
set_option maxRecDepth 100000
set_option maxHeartbeats 1000000
namespace Tx
open PySem PySem.Spec PyProof.Rows L2 TL
section
variable {P : Program} {w : World} {K : PySem.W.Frag} {mg : Str → Option Value} {base : Heap}
abbrev Wf (P : Program) (w : World) (K : PySem.W.Frag) (mg : Str → Option Value) (base : Heap) := True
abbrev st_is_ring : Stmt := topS 17
theorem sc_is_ring : FnScope ["value"] ["value"] (defScope st_is_ring) := ⟨rfl, rfl, rfl, by decide +kernel, rfl, by decide +kernel, by decide +kernel⟩
theorem pl_is_ring : PlainB "is_ring" st_is_ring ["value"] := fun _ _ _ _ _ _ us hl => match us, hl with | [_], _ => rfl
def spRing : Sp := fun vs H Q _ => ∃ z, vs = [.str z] ∧ Low z ∧ 1 ≤ z.length ∧ z.length ≤ 100000 ∧ ∀ H', Same H H' → Q (.bl true) H'
theorem ok_is_ring (T : Top K mg "is_ring" st_is_ring) (D_is_letters : Dn P w K mg base 1 "is_letters" st_is_letters ["value"] spLow) : Dn P w K mg base 2 "is_ring" st_is_ring ["value"] spRing := by
  refine dn_of T sc_is_ring pl_is_ring (fun vs H Q E h => ?_) fun f cdv A outer s H vs Q E hr h => ?_
  · obtain ⟨n, rfl, _⟩ := h; rfl
  · obtain ⟨z, rfl, lo, h1, hz, q⟩ := h
    refine ⟨_, (pss_one (ps_ret (pe_and (pe_fn D_is_letters (hr.mono (by decide)) (by rfl) (pa_cons (pv 0) pa_nil)) (pe_one (pe_cmpR op_ne (pv 0) pe_str (nomark _)))))), ?_⟩
    refine ⟨_, rfl, z, rfl, lo, hz, fun H' sm => ⟨_, rfl, ?_⟩⟩
    refine iteT ?_
    refine ⟨_, rfl, rfl, ?_⟩
    show Q (.bl (!decide (V.str z = V.str (Str.ofString "")))) H'
    rw [decide_eq_false fun e => ?_]
    · exact q _ sm
    · rw [V.str.inj e] at h1; exact absurd h1 (by decide)
abbrev st_check_ring : Stmt := topS 19
theorem sc_check_ring : FnScope ["ring"] ["ring"] (defScope st_check_ring) := ⟨rfl, rfl, rfl, by decide +kernel, rfl, by decide +kernel, by decide +kernel⟩
theorem pl_check_ring : PlainB "check_ring" st_check_ring ["ring"] := fun _ _ _ _ _ _ us hl => match us, hl with | [_], _ => rfl
def spCkRing : Sp := fun vs H Q _ => ∃ z, vs = [.str z] ∧ Low z ∧ 1 ≤ z.length ∧ z.length ≤ 100000 ∧ ∀ H', Same H H' → Q .non H'
theorem ok_check_ring (T : Top K mg "check_ring" st_check_ring) (D_is_ring : Dn P w K mg base 2 "is_ring" st_is_ring ["value"] spRing) : Dn P w K mg base 3 "check_ring" st_check_ring ["ring"] spCkRing := by
  refine dn_of T sc_check_ring pl_check_ring (fun vs H Q E h => ?_) fun f cdv A outer s H vs Q E hr h => ?_
  · obtain ⟨n, rfl, _⟩ := h; rfl
  · obtain ⟨z, rfl, lo, h1, hz, q⟩ := h
    refine ⟨_, (pss_one (ps_if (pt_not (pt_val (pe_fn D_is_ring (hr.mono (by decide)) (by rfl) (pa_cons (pv 0) pa_nil)))) (pss_one ps_never) pss_nil)), ?_⟩
    refine ⟨_, rfl, z, rfl, lo, h1, hz, fun H' sm => ⟨_, rfl, ?_⟩⟩
    refine iteF ?_
    exact q _ sm
abbrev st_check_size : Stmt := topS 20
theorem sc_check_size : FnScope ["size"] ["size"] (defScope st_check_size) := ⟨rfl, rfl, rfl, by decide +kernel, rfl, by decide +kernel, by decide +kernel⟩
theorem pl_check_size : PlainB "check_size" st_check_size ["size"] := fun _ _ _ _ _ _ us hl => match us, hl with | [_], _ => rfl
def spCkSize : Sp := fun vs H Q _ => ∃ n : Nat, vs = [.int n] ∧ 2 ≤ n ∧ n ≤ 6 ∧ Q .non H
theorem ok_check_size (T : Top K mg "check_size" st_check_size) (D_is_size : Dn P w K mg base 2 "is_size" st_is_size ["value"] spSize) : Dn P w K mg base 3 "check_size" st_check_size ["size"] spCkSize := by
  refine dn_of T sc_check_size pl_check_size (fun vs H Q E h => ?_) fun f cdv A outer s H vs Q E hr h => ?_
  · obtain ⟨n, rfl, _⟩ := h; rfl
  · obtain ⟨n, rfl, h2, h6, q⟩ := h
    refine ⟨_, (pss_one (ps_if (pt_not (pt_val (pe_fn D_is_size (hr.mono (by decide)) (by rfl) (pa_cons (pv 0) pa_nil)))) (pss_one ps_never) pss_nil)), ?_⟩
    refine ⟨_, rfl, n, rfl, h2, h6, _, rfl, ?_⟩
    refine iteF ?_
    exact q
abbrev st_windows_of : Stmt := topS 21
theorem sc_windows_of : FnScope ["size", "text"] ["size", "text"] (defScope st_windows_of) := ⟨rfl, rfl, rfl, by decide +kernel, rfl, by decide +kernel, by decide +kernel⟩
theorem pl_windows_of : PlainB "windows_of" st_windows_of ["size", "text"] := fun _ _ _ _ _ _ us hl => match us, hl with | [_, _], _ => rfl
def g_kb_windows_of_text_size {A : Type} : List A → List A → List A | [], [v0, v1] => [v1, v0] | _, _ => []
theorem kb_windows_of_text_size {K : PySem.W.Frag} : ∀ fd, (∃ kV doc pm an cdv ct, fd = PySem.W.fnOf "windows_of" "windows_of" (defArgs st_windows_of) (defBody st_windows_of) (defScope st_windows_of) .none kV doc pm an cdv ct) → KBinds K fd ["size", "text"] ["text", "size"] g_kb_windows_of_text_size g_kb_windows_of_text_size := by
  rintro fd ⟨kV, doc, pm, an, cdv, ct, rfl⟩
  refine ⟨fun s us ws _ hl => ?_, fun r q => ?_⟩
  · match us, ws, hl with
    | [], [_, _], _ => exact .of_eq rfl
  · match r, q with
    | .nil, (.cons a0 (.cons a1 .nil)) => exact (.cons a1 (.cons a0 .nil))
    | .nil, .nil => exact .nil
    | .nil, (.cons _ .nil) => exact .nil
    | .nil, (.cons _ (.cons _ (.cons _ _))) => exact .nil
    | .cons _ _, _ => exact .nil
/-- the texts of n letters that stand in a text, ascending, each once -/
def spWin : Sp := fun vs H Q _ => ∃ (n : Nat) (z : Str), vs = [.int n, .str z] ∧ 2 ≤ n ∧ n ≤ 6 ∧ Low z ∧ z.length ≤ 3900 ∧ ∀ p H' ys, H p = none → Same H H' → Up ys (steps n (tl z)) → H' p = some (.lst (ys.map V.str)) → Q (.ref p) H'
theorem steps_len (n : Nat) (l : List Nat) : (steps n l).length = l.length + 1 - n := by
  unfold steps; rw [List.length_map, List.length_range]
theorem ok_windows_of (T : Top K mg "windows_of" st_windows_of) (B : Bt mg) (D_check_size : Dn P w K mg base 3 "check_size" st_check_size ["size"] spCkSize)
    (D_is_letters : Dn P w K mg base 1 "is_letters" st_is_letters ["value"] spLow) (D_steps_of : Dn P w K mg base 1 "steps_of" st_steps_of ["size", "text"] spSteps) : Dn P w K mg base 4 "windows_of" st_windows_of ["size", "text"] spWin := by
  refine dn_of T sc_windows_of pl_windows_of (fun vs H Q E h => ?_) fun f cdv A outer s H vs Q E hr h => ?_
  · obtain ⟨n, z, rfl, _⟩ := h; rfl
  · obtain ⟨n, z, rfl, h2, h6, lo, hz, q⟩ := h
    refine ⟨_, (pss_cons (ps_expr (pe_fn D_check_size (hr.mono (by decide)) (by rfl) (pa_cons (pv 0) pa_nil)))
      (pss_cons (ps_if (pt_not (pt_val (pe_fn D_is_letters (hr.mono (by decide)) (by rfl) (pa_cons (pv 1) pa_nil)))) (pss_one ps_never) pss_nil)
      (pss_one (ps_ret (pe_callB (sortSetK w rfl rfl) (by rfl) B.sorted (by decide +kernel) (pa_cons (pe_callTy (setK K w rfl rfl rfl) (by rfl) B.set (by decide +kernel) (pa_cons (pe_fn D_steps_of (hr.mono (by decide)) (by rfl) (pa_cons (pv 0) (pa_cons (pv 1) pa_nil))) pa_nil)) pa_nil)))))), ?_⟩
    refine ⟨_, rfl, n, rfl, h2, h6, _, rfl, z, rfl, lo, by omega, fun H1 s1 => ⟨_, rfl, ?_⟩⟩
    refine iteF ?_
    refine ⟨_, rfl, _, rfl, n, z, rfl, by omega, by omega, by omega, fun a H2 na s2 ea => ?_⟩
    refine ⟨a, steps n (tl z), rfl, .inl (.inl ea), ?_, fun b ks fo nb => ⟨b, ks, rfl, upd_same, fun ys p py so np => ?_⟩⟩
    · rw [steps_len, ← len_tl]; omega
    · refine q p _ ys ?_ ?_ (.of py so fo) upd_same
      · exact (s1.trans s2).free ((same_upd nb).free np)
      · exact ((s1.trans s2).trans (same_upd nb)).trans (same_upd np)
abbrev st_ring_windows : Stmt := topS 22
theorem sc_ring_windows : FnScope ["size", "ring"] ["size", "ring"] (defScope st_ring_windows) := ⟨rfl, rfl, rfl, by decide +kernel, rfl, by decide +kernel, by decide +kernel⟩
theorem pl_ring_windows : PlainB "ring_windows" st_ring_windows ["size", "ring"] := fun _ _ _ _ _ _ us hl => match us, hl with | [_, _], _ => rfl
def g_kb_ring_windows_ring_size {A : Type} : List A → List A → List A | [], [v0, v1] => [v1, v0] | _, _ => []
theorem kb_ring_windows_ring_size {K : PySem.W.Frag} : ∀ fd, (∃ kV doc pm an cdv ct, fd = PySem.W.fnOf "ring_windows" "ring_windows" (defArgs st_ring_windows) (defBody st_ring_windows) (defScope st_ring_windows) .none kV doc pm an cdv ct) → KBinds K fd ["size", "ring"] ["ring", "size"] g_kb_ring_windows_ring_size g_kb_ring_windows_ring_size := by
  rintro fd ⟨kV, doc, pm, an, cdv, ct, rfl⟩
  refine ⟨fun s us ws _ hl => ?_, fun r q => ?_⟩
  · match us, ws, hl with
    | [], [_, _], _ => exact .of_eq rfl
  · match r, q with
    | .nil, (.cons a0 (.cons a1 .nil)) => exact (.cons a1 (.cons a0 .nil))
    | .nil, .nil => exact .nil
    | .nil, (.cons _ .nil) => exact .nil
    | .nil, (.cons _ (.cons _ (.cons _ _))) => exact .nil
    | .cons _ _, _ => exact .nil
/-- the texts of n letters that are read round, ascending, each once -/
def spRWin : Sp := fun vs H Q _ => ∃ (n : Nat) (z : Str), vs = [.int n, .str z] ∧ 2 ≤ n ∧ n ≤ 6 ∧ Low z ∧ 1 ≤ z.length ∧ z.length ≤ 3000 ∧ ∀ p H' ys, H p = none → Same H H' → Up ys (turns n (tl z)) → H' p = some (.lst (ys.map V.str)) → Q (.ref p) H'
theorem low_unroll {z : Str} (lo : Low z) (h : 1 ≤ z.length) (m : Nat) : Low (mkS (unroll (tl z) m)) := by
  intro c hc
  rw [tl_mkS] at hc
  obtain ⟨i, hi⟩ := List.getElem?_of_mem hc
  have hl : 0 < (tl z).length := by rw [← len_tl]; omega
  have lt : i < (tl z).length + m := by
    have := (List.getElem?_eq_some_iff.mp hi).1
    rwa [unroll_len _ hl] at this
  rw [unroll_get _ hl _ _ lt] at hi
  exact lo c (List.mem_of_getElem? hi)
theorem ok_ring_windows (T : Top K mg "ring_windows" st_ring_windows) (D_check_size : Dn P w K mg base 3 "check_size" st_check_size ["size"] spCkSize) (D_check_ring : Dn P w K mg base 3 "check_ring" st_check_ring ["ring"] spCkRing)
    (D_windows_of : Dn P w K mg base 4 "windows_of" st_windows_of ["size", "text"] spWin) (D_unrolled : Dn P w K mg base 1 "unrolled" st_unrolled ["ring", "more"] spUnroll) : Dn P w K mg base 5 "ring_windows" st_ring_windows ["size", "ring"] spRWin := by
  refine dn_of T sc_ring_windows pl_ring_windows (fun vs H Q E h => ?_) fun f cdv A outer s H vs Q E hr h => ?_
  · obtain ⟨n, z, rfl, _⟩ := h; rfl
  · obtain ⟨n, z, rfl, h2, h6, lo, h1, hz, q⟩ := h
    refine ⟨_, (pss_cons (ps_expr (pe_fn D_check_size (hr.mono (by decide)) (by rfl) (pa_cons (pv 0) pa_nil)))
      (pss_cons (ps_expr (pe_fn D_check_ring (hr.mono (by decide)) (by rfl) (pa_cons (pv 1) pa_nil)))
      (pss_one (ps_ret (pe_fn D_windows_of (hr.mono (by decide)) (by rfl) (pa_cons (pv 0) (pa_cons (pe_fn D_unrolled (hr.mono (by decide)) (by rfl) (pa_cons (pv 1) (pa_cons (pe_op op_sub (pv 0) pe_int) pa_nil))) pa_nil))))))), ?_⟩
    refine ⟨_, rfl, n, rfl, h2, h6, _, rfl, z, rfl, lo, h1, by omega, fun H1 s1 => ?_⟩
    have hl : 0 < (tl z).length := by rw [← len_tl]; omega
    refine ⟨_, rfl, _, rfl, _, rfl, _, _, rfl, rfl, z, n - 1, ?_, h1, by omega, by omega, ?_⟩
    · show [V.str z, V.int ((n : Int) - 1)] = [V.str z, V.int ((n - 1 : Nat) : Int)]
      rw [show ((n : Int) - 1) = ((n - 1 : Nat) : Int) by omega]
    · refine ⟨n, _, rfl, h2, h6, low_unroll lo h1 _, ?_, fun p H' ys np s2 up e => ?_⟩
      · rw [len_mkS, unroll_len _ hl, ← len_tl]; omega
      · rw [tl_mkS, steps_unroll _ hl n (by omega)] at up
        exact q p H' ys (s1.free np) (s1.trans s2) up e
end
end Tx

set_option Elab.async false
set_option linter.all false
set_option maxRecDepth 100000
set_option maxHeartbeats 1000000
namespace Tx
open PySem PySem.Spec PyProof.Rows L2 TL
/-- the draws' list at p, at most n draws from it so far -/
def Src (H : Hp) (p : Addr) (n : Nat) : Prop := ∃ a b c : Int, H p = some (.lst [.int a, .int b, .int c]) ∧ 0 ≤ b ∧ b < 10 ^ 30 ∧ 0 ≤ c ∧ c ≤ n
/-- all but p is as it was -/
def But (p : Addr) (H H' : Hp) : Prop := ∀ b o, H b = some o → b ≠ p → H' b = some o
theorem But.refl {p : Addr} {H : Hp} : But p H H := fun _ _ e _ => e
theorem But.trans {p : Addr} {H H1 H2 : Hp} (a : But p H H1) (b : But p H1 H2) : But p H H2 := fun c o e n => b c o (a c o e n) n
theorem But.same {p : Addr} {H H1 H2 : Hp} (a : But p H H1) (b : Same H1 H2) : But p H H2 := fun c o e n => b c o (a c o e n)
theorem Same.but {p : Addr} {H H1 : Hp} (a : Same H H1) : But p H H1 := fun c o e _ => a c o e
theorem But.upd {p : Addr} {H : Hp} {o : HO} : But p H (upd H p o) := fun c u e n => by rw [upd_ne n]; exact e
theorem Src.same {H H' : Hp} {p : Addr} {n : Nat} (s : Src H p n) (k : Same H H') : Src H' p n := let ⟨a, b, c, e, r⟩ := s; ⟨a, b, c, k _ _ e, r⟩
theorem Src.mono {H : Hp} {p : Addr} {n m : Nat} (s : Src H p n) (h : n ≤ m) : Src H p m := let ⟨a, b, c, e, h1, h2, h3, h4⟩ := s; ⟨a, b, c, e, h1, h2, h3, by omega⟩
theorem Src.at {H : Hp} {p : Addr} {n : Nat} (s : Src H p n) : ∃ o, H p = some o := let ⟨_, _, _, e, _⟩ := s; ⟨_, e⟩
/-- a new object is none of what was -/
theorem But.free {p q : Addr} {H H' : Hp} (k : But p H H') (hp : ∃ o, H' p = some o) (h : H' q = none) : H q = none := by
  cases e : H q with
  | none => rfl
  | some o =>
    by_cases c : q = p
    · subst c; obtain ⟨u, hu⟩ := hp; rw [hu] at h; cases h
    · rw [k q o e c] at h; cases h
theorem Src.new {H : Hp} {p q : Addr} {n : Nat} {o : HO} (s : Src H p n) (h : H q = none) : Src (upd H q o) p n := s.same (same_upd h)
section
variable {P : Program} {w : World} {K : PySem.W.Frag} {mg : Str → Option Value} {base : Heap}
theorem fmod_bd {i j : Int} (h : 0 < j) : 0 ≤ i.fmod j ∧ i.fmod j < j := ⟨Int.fmod_nonneg_of_pos _ h, Int.fmod_lt_of_pos _ h⟩
theorem nat_lt {i : Int} {k : Nat} (h0 : 0 ≤ i) (h : i < 2 ^ k) : i.natAbs < 2 ^ k := by
  have e : (i.natAbs : Int) = i := Int.natAbs_of_nonneg h0
  have e2 : ((2 ^ k : Nat) : Int) = (2 : Int) ^ k := by rw [Int.natCast_pow]; rfl
  omega
theorem at0 {x y z : V} : atI [x, y, z] 0 = some x := rfl
theorem at1 {x y z : V} : atI [x, y, z] 1 = some y := rfl
theorem at2 {x y z : V} : atI [x, y, z] 2 = some z := rfl
abbrev st_law_pick : Stmt := topS 27
theorem sc_law_pick : FnScope ["source", "top", "found", "mixed"] ["source", "top"] (defScope st_law_pick) := ⟨rfl, rfl, rfl, by decide +kernel, rfl, by decide +kernel, by decide +kernel⟩
theorem pl_law_pick : PlainB "_law_pick" st_law_pick ["source", "top"] := fun _ _ _ _ _ _ us hl => match us, hl with | [_, _], _ => rfl
/-- a number below top -/
def spPick : Sp := fun vs H Q _ => ∃ (p : Addr) (top : Int) (n : Nat), vs = [.ref p, .int top] ∧ Src H p n ∧ n ≤ 1000000000 ∧ 1 ≤ top ∧ top ≤ 1000000000 ∧ ∀ r H', 0 ≤ r → r < top → Src H' p (n + 1) → But p H H' → Q (.int r) H'
theorem ok_law_pick (T : Top K mg "_law_pick" st_law_pick) (B : Bt mg) : Dn P w K mg base 1 "_law_pick" st_law_pick ["source", "top"] spPick := by
  refine dn_of T sc_law_pick pl_law_pick (fun vs H Q E h => ?_) fun f cdv A outer s H vs Q E hr h => ?_
  · obtain ⟨n, z, _, rfl, _⟩ := h; rfl
  · obtain ⟨p, top, n, rfl, ⟨a, b, c, e, b0, b1, c0, c1⟩, hn, t1, t2, q⟩ := h
    have sq : SqL K H p [.int a, .int b, .int c] := .inl (.inl e)
    refine ⟨_, (pss_cons (ps_if (pt_cmpR op_gt (pe_ix (ixK K rfl) (pv 0) pe_int (fun _ _ => rfl)) pe_int (nomark _)) (pss_cons (ps_set (i := 2) sc_law_pick.nd rfl (.inl rfl) (pe_op op_modN (pe_callTy call_int1 (by rfl) B.int (by decide +kernel) (pa_cons (pe_ix (ixK K rfl) (pv 0) pe_int (fun _ _ => rfl)) pa_nil)) (pv 1)))
      (pss_cons (ps_asg (pe_op op_fdivN (pe_ix (ixK K rfl) (pv 0) pe_int (fun _ _ => rfl)) (pv 1)) (pg_sub (pv 0) pe_int set_list))
      (pss_one (ps_ret (pv 2))))) pss_nil)
      (pss_cons (ps_asg (pe_op op_add (pe_ix (ixK K rfl) (pv 0) pe_int (fun _ _ => rfl)) pe_int) (pg_sub (pv 0) pe_int set_list))
      (pss_cons (ps_set (i := 3) sc_law_pick.nd rfl (.inl rfl) (pe_op op_modN (pe_callTy call_int1 (by rfl) B.int (by decide +kernel) (pa_cons (pe_op op_add (pe_op op_add (pe_ix (ixK K rfl) (pv 0) pe_int (fun _ _ => rfl)) (pe_op op_mulW (pe_op op_mulW pe_int (pe_ix (ixK K rfl) (pv 0) pe_int (fun _ _ => rfl))) (pe_ix (ixK K rfl) (pv 0) pe_int (fun _ _ => rfl)))) (pe_op op_mulW pe_int (pe_ix (ixK K rfl) (pv 0) pe_int (fun _ _ => rfl)))) pa_nil)) (pe_op op_add (pe_op op_pow pe_int pe_int) pe_int)))
      (pss_cons (ps_set (i := 3) sc_law_pick.nd rfl (.inl rfl) (pe_op op_modN (pe_callTy call_int1 (by rfl) B.int (by decide +kernel) (pa_cons (pe_op op_add (pe_op op_mulW (pe_op op_mulW (pv 3) (pv 3)) (pv 3)) (pe_ix (ixK K rfl) (pv 0) pe_int (fun _ _ => rfl))) pa_nil)) (pe_op op_add (pe_op op_pow pe_int pe_int) pe_int)))
      (pss_one (ps_ret (pe_op op_modN (pe_op op_fdivN (pe_op op_modN (pe_callTy call_int1 (by rfl) B.int (by decide +kernel) (pa_cons (pe_op op_mulW (pv 3) (pe_op op_add (pv 3) pe_int)) pa_nil)) (pe_op op_add (pe_op op_pow pe_int pe_int) pe_int)) pe_int) (pv 1)))))))), ?_⟩
    refine ⟨_, rfl, p, _, _, _, rfl, rfl, sq, at0, _, _, rfl, rfl, _, rfl, ?_⟩
    refine ite2 (fun ha => ?_) fun ha => ?_
    · refine ⟨_, rfl, p, _, _, _, rfl, rfl, sq, at0, .inl ⟨_, rfl, _, rfl, _, _, rfl, rfl, by omega, ?_⟩⟩
      refine ⟨_, rfl, p, _, _, _, rfl, rfl, sq, at0, _, rfl, _, _, rfl, rfl, ⟨by omega, by omega⟩, _, rfl, p, _, _, 0, rfl, rfl, e, rfl, _, rfl, ?_⟩
      have m := fmod_bd (i := a) (j := top) (by omega)
      exact q _ _ m.1 m.2 ⟨_, b, c, upd_same, b0, b1, c0, by omega⟩ But.upd
    · refine ⟨_, rfl, p, _, _, _, rfl, rfl, sq, at2, _, _, rfl, rfl, _, rfl, p, _, _, 2, rfl, rfl, e, rfl, ?_⟩
      have e1 : (upd H p (.lst ([V.int a, .int b, .int c].set 2 (.int (c + 1))))) p = some (.lst [V.int a, .int b, .int (c + 1)]) := upd_same
      have sq1 : SqL K (upd H p (.lst ([V.int a, .int b, .int c].set 2 (.int (c + 1))))) p [V.int a, .int b, .int (c + 1)] := .inl (.inl e1)
      have lc : (c + 1).natAbs < 2 ^ 31 := nat_lt (by omega) (by omega)
      refine ⟨_, rfl, p, _, _, _, rfl, rfl, sq1, at1, _, rfl, p, _, _, _, rfl, rfl, sq1, at2, _, _, rfl, rfl, ?w1, _, rfl, p, _, _, _, rfl, rfl, sq1, at2, _, _, rfl, rfl, ?w2, _, _, rfl, rfl,
        _, rfl, p, _, _, _, rfl, rfl, sq1, at2, _, _, rfl, rfl, ?w3, _, _, rfl, rfl, .inl ⟨_, rfl, _, _, rfl, rfl, ⟨by decide, by decide, by decide⟩, _, _, rfl, rfl, _, _, rfl, rfl, show (10 : Int) ^ Int.toNat 29 + 319 ≠ 0 by decide, ?_⟩⟩
      case w1 => exact wide_mul (a := 40) (by decide) lc (by decide) (by decide) (by decide)
      case w2 => exact wide_mul (a := 71) (wide_lt (a := 40) (by decide) lc) lc (by decide) (by decide) (by decide)
      case w3 => exact wide_mul (a := 40) (by decide) lc (by decide) (by decide) (by decide)
      dsimp only
      generalize hx : Int.fmod _ ((10 : Int) ^ Int.toNat 29 + 319) = x
      have bx : 0 ≤ x ∧ x < 10 ^ 29 + 319 := by rw [← hx]; exact fmod_bd (by decide)
      have lx : x.natAbs < 2 ^ 100 := nat_lt bx.1 (Int.lt_trans bx.2 (by decide))
      refine ⟨_, rfl, _, rfl, _, _, rfl, rfl, wide_mul (a := 100) (b := 100) lx lx (by decide) (by decide) (by decide), _, rfl, _, _, rfl, rfl, wide_mul (a := 200) (b := 100) (wide_lt (a := 100) (b := 100) lx lx) lx (by decide) (by decide) (by decide),
        _, rfl, p, _, _, _, rfl, rfl, sq1, at2, _, _, rfl, rfl, .inl ⟨_, rfl, _, _, rfl, rfl, ⟨by decide, by decide, by decide⟩, _, _, rfl, rfl, _, _, rfl, rfl, show (10 : Int) ^ Int.toNat 31 + 33 ≠ 0 by decide, ?_⟩⟩
      dsimp only
      generalize hy : Int.fmod _ ((10 : Int) ^ Int.toNat 31 + 33) = y
      have byy : 0 ≤ y ∧ y < 10 ^ 31 + 33 := by rw [← hy]; exact fmod_bd (by decide)
      have ly : y.natAbs < 2 ^ 110 := nat_lt byy.1 (Int.lt_trans byy.2 (by decide))
      have ly2 : (y + 104717).natAbs < 2 ^ 110 := nat_lt (by omega) (Int.lt_trans (show y + 104717 < 10 ^ 31 + 33 + 104717 by omega) (by decide))
      refine ⟨_, rfl, _, rfl, _, _, rfl, rfl, _, _, rfl, rfl, wide_mul (a := 110) (b := 110) ly ly2 (by decide) (by decide) (by decide), .inl ⟨_, rfl, _, _, rfl, rfl, ⟨by decide, by decide, by decide⟩, _, _, rfl, rfl, _, _, rfl, rfl, show (10 : Int) ^ Int.toNat 32 + 49 ≠ 0 by decide,
        _, _, rfl, rfl, ⟨by decide, by decide⟩, _, rfl, _, _, rfl, rfl, by omega, ?_⟩⟩
      dsimp only
      generalize Int.fdiv _ 7907 = r
      have m := fmod_bd (i := r) (j := top) (by omega)
      exact q _ _ m.1 m.2 ⟨a, b, c + 1, upd_same, b0, b1, by omega, by omega⟩ But.upd
end
end Tx

set_option Elab.async false
set_option linter.all false
set_option maxRecDepth 100000
set_option maxHeartbeats 1000000
namespace Tx
open PySem PySem.Spec PyProof.Rows L2 TL
/-- a conditional value: whatever it is -/
theorem if_any {P : V → Prop} {t : TT} {ta tb : TE} {σ : L2.St} {H : Hp} {Q : VK} (b : Bool) (ht : ∀ R : Bool → Hp → Prop, R b H → t σ H R) (ha : b = true → ∀ Q : VK, (∀ v, P v → Q v H) → ta σ H Q)
    (hb : b = false → ∀ Q : VK, (∀ v, P v → Q v H) → tb σ H Q) (q : ∀ v, P v → Q v H) : tIf t ta tb σ H Q := by
  refine ht _ ?_
  cases b with
  | true => exact iteT (ha rfl Q q)
  | false => exact iteF (hb rfl Q q)
theorem ints_flat (ns : List Int) {i : Nat} {x : V} (h : (ns.map V.int)[i]? = some x) : ∃ z, x = V.int z := by
  rw [List.getElem?_map] at h
  cases e : ns[i]? with
  | none => rw [e] at h; cases h
  | some z => rw [e] at h; exact ⟨z, (Option.some.inj h).symm⟩
theorem str_e : Str.ofString "" = ⟨#[]⟩ := by decide +kernel
theorem joinL_nil : ∀ ps : List (List Nat), TL.joinL [] ps = ps.flatten
  | [] => rfl
  | [p] => by show p = _; simp
  | p :: q :: r => by
    show p ++ ([] ++ TL.joinL [] (q :: r)) = _
    rw [joinL_nil (q :: r), List.nil_append]
    simp
theorem join_e (ys : List Str) : Txt.join (Str.ofString "") ys = mkS (ys.map tl).flatten := by
  refine ext_tl ?_
  rw [TL.join_eq, TL.tl_join, str_e]
  exact joinL_nil _
theorem sum_one (l : List Nat) : ((l.map fun c => (⟨#[c]⟩ : Str)).map (·.length)).sum = l.length := by
  induction l with
  | nil => rfl
  | cons c l ih => rw [List.map_cons, List.map_cons, List.sum_cons, ih, List.length_cons]; show 1 + _ = _; omega
theorem flat_one (l : List Nat) : ((l.map fun c => (⟨#[c]⟩ : Str)).map tl).flatten = l := by
  induction l with
  | nil => rfl
  | cons c l ih => rw [List.map_cons, List.map_cons, List.flatten_cons, ih]; rfl
theorem atI_pos {A : Type} {xs : List A} {i : Int} {x : A} (h0 : 0 ≤ i) (h : xs[i.toNat]? = some x) : atI xs i = some x := by
  have lt := (List.getElem?_eq_some_iff.mp h).1
  unfold atI ixN
  rw [if_pos h0, if_pos (by omega)]
  exact h
/-- what a text of draws is made of -/
def Lets (L : Str) : Prop := Low L ∧ 1 ≤ L.length ∧ L.length ≤ 30
section
variable {P : Program} {w : World} {K : PySem.W.Frag} {mg : Str → Option Value} {base : Heap}
abbrev st_law_source : Stmt := topS 26
theorem sc_law_source : FnScope ["script", "k", "cell", "total", "other"] ["script", "k"] (defScope st_law_source) := ⟨rfl, rfl, rfl, by decide +kernel, rfl, by decide +kernel, by decide +kernel⟩
theorem pl_law_source : PlainB "_law_source" st_law_source ["script", "k"] := fun _ _ _ _ _ _ us hl => match us, hl with | [_, _], _ => rfl
def spSource (K : PySem.W.Frag) : Sp := fun vs H Q _ => ∃ (a : Addr) (ns : List Int) (k : Nat), vs = [.ref a, .int k] ∧ SqL K H a (ns.map V.int) ∧ ns.length ≤ 63 ∧ k ≤ 100 ∧ ∀ p H', H p = none → Same H H' → Src H' p 0 → Q (.ref p) H'
theorem ok_law_source (T : Top K mg "_law_source" st_law_source) (B : Bt mg) : Dn P w K mg base 1 "_law_source" st_law_source ["script", "k"] (spSource K) := by
  refine dn_of T sc_law_source pl_law_source (fun vs H Q E h => ?_) fun f cdv A outer s H vs Q E hr h => ?_
  · obtain ⟨a, ns, k, rfl, _⟩ := h; rfl
  · obtain ⟨a, ns, k, rfl, sq, hn, hk, q⟩ := h
    refine ⟨_, (pss_cons (ps_set (i := 2) sc_law_source.nd rfl (.inl rfl) (pe_ifExp (pt_cmpR op_lt (pv 1) (pe_callB (lenK K rfl) (by rfl) B.len (by decide +kernel) (pa_cons (pv 0) pa_nil)) (nomark _)) (pe_ix (ixK K rfl) (pv 0) (pv 1) (fun _ _ => rfl)) (pe_op op_add (pe_op op_mul pe_int (pv 1)) pe_int)))
      (pss_cons (ps_set (i := 3) sc_law_source.nd rfl (.inl rfl) (pe_callB (lenK K rfl) (by rfl) B.len (by decide +kernel) (pa_cons (pv 0) pa_nil)))
      (pss_cons (ps_for PassesOwn.never rfl (pi_list (pv 0)) (pg_name (i := 4) sc_law_source.nd rfl (.inl rfl)) (pss_one (ps_set (i := 3) sc_law_source.nd rfl (.inl rfl) (pe_op op_modN (pe_callTy call_int1 (by rfl) B.int (by decide +kernel) (pa_cons (pe_op op_add (pe_op op_mul (pv 3) pe_int) (pe_op op_modN (pe_callTy call_int1 (by rfl) B.int (by decide +kernel) (pa_cons (pv 4) pa_nil)) (pe_op op_add (pe_op op_pow pe_int pe_int) pe_int))) pa_nil)) (pe_op op_add (pe_op op_pow pe_int pe_int) pe_int)))))
      (pss_one (ps_ret (pe_lst (pa_cons (pe_callB (call_max2 rfl) (by rfl) B.max (by decide +kernel) (pa_cons pe_int (pa_cons (pe_op op_sub (pv 2) (pe_op op_pow pe_int pe_int)) pa_nil))) (pa_cons (pe_op op_modN (pe_callTy call_int1 (by rfl) B.int (by decide +kernel) (pa_cons (pe_op op_add (pe_op op_add (pe_op op_add (pe_op op_mul (pe_callB call_abs (by rfl) B.abs (by decide +kernel) (pa_cons (pv 2) pa_nil)) pe_int) (pe_op op_mul pe_int (pv 3))) (pe_callTy call_int1 (by rfl) B.int (by decide +kernel) (pa_cons (pe_cmpR op_lt (pv 2) pe_int (nomark _)) pa_nil))) (pe_op op_mul pe_int (pv 1))) pa_nil)) (pe_op op_add (pe_op op_pow pe_int pe_int) pe_int)) (pa_cons pe_int pa_nil))))))))), ?_⟩
    refine if_any (P := fun v => ∃ x, v = V.int x) (decide ((k : Int) < ((ns.map V.int).length : Int))) (fun R r => ⟨_, rfl, _, rfl, a, _, rfl, .inl sq, _, _, rfl, rfl, _, rfl, r⟩) (fun lt Q' q' => ?_) (fun _ Q' q' => ⟨_, rfl, _, _, rfl, rfl, .inl ⟨by decide, by decide⟩, _, _, rfl, rfl, q' _ ⟨_, rfl⟩⟩) fun v ⟨x, ex⟩ => ?_
    · have lt := of_decide_eq_true lt
      rw [List.length_map] at lt
      have e : (ns.map V.int)[k]? = some (V.int (ns[k]'(by omega))) := by rw [List.getElem?_map, List.getElem?_eq_getElem (by omega)] <;> rfl
      exact ⟨_, rfl, _, rfl, a, _, _, _, rfl, rfl, sq, atI_pos (by omega) e, q' _ ⟨_, rfl⟩⟩
    · subst ex
      refine ⟨_, rfl, a, _, rfl, .inl sq, ?_⟩
      refine ⟨_, rfl, a, rfl, ⟨_, sq⟩, for_list (K := K) (a := a) (xs := ns.map V.int) (fun i σ H' => H' = H ∧ ∃ t o, σ = [some (.ref a), some (.int k), some (.int x), some (.int t), o]) ⟨rfl, _, none, rfl⟩ (fun _ _ _ _ h => by rw [h.1]; exact sq) (fun i y σ H' hi ⟨eH, t, o, eσ⟩ => ?_) fun σ H' ⟨eH, t, o, eσ⟩ => ?_⟩
      · subst eH eσ
        obtain ⟨z, rfl⟩ := ints_flat ns hi
        refine ⟨_, rfl, _, _, rfl, rfl, .inr ⟨by decide, by decide⟩, _, rfl, .inl ⟨_, rfl, _, _, rfl, rfl, ⟨by decide, by decide, by decide⟩, _, _, rfl, rfl, _, _, rfl, rfl, show (10 : Int) ^ Int.toNat 20 + 39 ≠ 0 by decide,
          _, _, rfl, rfl, .inl ⟨_, rfl, _, _, rfl, rfl, ⟨by decide, by decide, by decide⟩, _, _, rfl, rfl, _, _, rfl, rfl, show (10 : Int) ^ Int.toNat 26 + 67 ≠ 0 by decide, ?_⟩⟩⟩
        exact ⟨rfl, _, _, rfl⟩
      · subst eH eσ
        refine ⟨_, rfl, _, _, rfl, rfl, ⟨by decide, by decide, by decide⟩, _, _, rfl, rfl, _, _, rfl, ?_⟩
        refine ⟨_, rfl, _, rfl, _, _, rfl, rfl, .inr ⟨by decide, by decide⟩, _, rfl, _, _, rfl, rfl, .inl ⟨by decide, by decide⟩, _, _, rfl, rfl, _, rfl, _, _, rfl, rfl, .inr ⟨_, rfl, _, _, rfl, rfl,
          _, rfl, _, _, rfl, rfl, .inl ⟨by decide, by decide⟩, _, _, rfl, rfl, .inl ⟨_, rfl, _, _, rfl, rfl, ⟨by decide, by decide, by decide⟩, _, _, rfl, rfl, _, _, rfl, rfl, show (10 : Int) ^ Int.toNat 29 + 319 ≠ 0 by decide, ?_⟩⟩⟩
        refine ⟨by show 3 ≤ sizeLine; decide, fun p np => q p _ np (same_upd np) ⟨_, _, 0, upd_same, ?_, ?_, by decide, by decide⟩⟩
        · exact (fmod_bd (by decide)).1
        · exact Int.lt_trans (fmod_bd (by decide)).2 (by decide)
abbrev st_law_letters : Stmt := topS 28
theorem sc_law_letters : FnScope ["source", "menu"] ["source"] (defScope st_law_letters) := ⟨rfl, rfl, rfl, by decide +kernel, rfl, by decide +kernel, by decide +kernel⟩
theorem pl_law_letters : PlainB "_law_letters" st_law_letters ["source"] := fun _ _ _ _ _ _ us hl => match us, hl with | [_], _ => rfl
def spLetters : Sp := fun vs H Q _ => ∃ (p : Addr) (n : Nat), vs = [.ref p] ∧ Src H p n ∧ n ≤ 100000000 ∧ ∀ L H', Lets L → L.length ≤ 26 → Src H' p (n + 1) → But p H H' → Q (.str L) H'
def menu : List Str := ["ab", "abc", "acgt", "zyxa", "abcdef", "abcdefghijklmnopqrstuvwxyz", "ab", "abcd", "acgt", "bz", "cab", "a"]
def letsB (L : Str) : Bool := ((tl L).all fun c => decide (97 ≤ c ∧ c ≤ 122)) && decide (1 ≤ L.length ∧ L.length ≤ 26)
theorem lets_of {L : Str} (h : letsB L = true) : Lets L ∧ L.length ≤ 26 := by
  unfold letsB at h
  rw [Bool.and_eq_true, List.all_eq_true] at h
  have h2 := of_decide_eq_true h.2
  exact ⟨⟨fun c hc => of_decide_eq_true (h.1 c hc), h2.1, Nat.le_trans h2.2 (by decide)⟩, h2.2⟩
theorem menu_ok : menu.all letsB = true := by decide +kernel
theorem ok_law_letters (T : Top K mg "_law_letters" st_law_letters) (D_law_pick : Dn P w K mg base 1 "_law_pick" st_law_pick ["source", "top"] spPick) : Dn P w K mg base 2 "_law_letters" st_law_letters ["source"] spLetters := by
  refine dn_of T sc_law_letters pl_law_letters (fun vs H Q E h => ?_) fun f cdv A outer s H vs Q E hr h => ?_
  · obtain ⟨a, ns, rfl, _⟩ := h; rfl
  · obtain ⟨p, n, rfl, sr, hn, q⟩ := h
    refine ⟨_, (pss_cons (ps_set (i := 1) sc_law_letters.nd rfl (.inl rfl) (pe_lst (pa_cons pe_str (pa_cons pe_str (pa_cons pe_str (pa_cons pe_str (pa_cons pe_str (pa_cons pe_str (pa_cons pe_str (pa_cons pe_str (pa_cons pe_str (pa_cons pe_str (pa_cons pe_str (pa_cons pe_str pa_nil))))))))))))))
      (pss_one (ps_ret (pe_ix (ixK K rfl) (pv 1) (pe_fn D_law_pick (hr.mono (by decide)) (by rfl) (pa_cons (pv 0) (pa_cons pe_int pa_nil))) (fun _ _ => rfl))))), ?_⟩
    refine ⟨by show 12 ≤ sizeLine; decide, fun m nm => ?_⟩
    refine ⟨_, rfl, _, rfl, p, 12, n, rfl, sr.new nm, by omega, by decide, by decide, fun r H' r0 r1 sr' bt => ?_⟩
    obtain ⟨o, eo⟩ := sr.at
    have em : H' m = some (.lst (menu.map V.str)) := bt m _ upd_same (ne_of_none eo nm).symm
    obtain ⟨L, eL⟩ : ∃ L, menu[r.toNat]? = some L := ⟨_, List.getElem?_eq_getElem (show r.toNat < menu.length by show _ < 12; omega)⟩
    refine ⟨m, menu.map V.str, r, V.str L, rfl, rfl, .inl (.inl em), atI_pos r0 ?_, ?_⟩
    · rw [List.getElem?_map, eL]; rfl
    · obtain ⟨LL, l26⟩ := lets_of (List.all_eq_true.mp menu_ok L (List.mem_of_getElem? eL))
      exact q L H' LL l26 sr' (But.trans (Same.but (same_upd nm)) bt)
abbrev st_law_word : Stmt := topS 29
theorem sc_law_word : FnScope ["source", "letters", "size", "at"] ["source", "letters", "size"] (defScope st_law_word) := ⟨rfl, rfl, rfl, by decide +kernel, rfl, by decide +kernel, by decide +kernel⟩
theorem pl_law_word : PlainB "_law_word" st_law_word ["source", "letters", "size"] := fun _ _ _ _ _ _ us hl => match us, hl with | [_, _, _], _ => rfl
def spWord : Sp := fun vs H Q _ => ∃ (p : Addr) (L : Str) (k n : Nat), vs = [.ref p, .str L, .int k] ∧ Src H p n ∧ Lets L ∧ k ≤ 100000 ∧ n ≤ 100000000 ∧ ∀ z H', z.length = k → Low z → Src H' p (n + k) → But p H H' → Q (.str z) H'
theorem But.mk {p D : Addr} {H H1 : Hp} {o : HO} (a : But p H H1) (h : H D = none) : But p H (L2.upd H1 D o) := fun b u e n => by
  rw [upd_ne (ne_of_none e h)]; exact a b u e n
theorem ok_law_word (T : Top K mg "_law_word" st_law_word) (B : Bt mg) (D_law_pick : Dn P w K mg base 1 "_law_pick" st_law_pick ["source", "top"] spPick) : Dn P w K mg base 2 "_law_word" st_law_word ["source", "letters", "size"] spWord := by
  refine dn_of T sc_law_word pl_law_word (fun vs H Q E h => ?_) fun f cdv A outer s H vs Q E hr h => ?_
  · obtain ⟨a, ns, _, _, rfl, _⟩ := h; rfl
  · obtain ⟨p, L, k, n, rfl, sr, ⟨lo, l1, l2⟩, hk, hn, q⟩ := h
    refine ⟨_, (pss_one (ps_ret (joinK K rfl pe_str (pe_lc (own := [("at", 3)]) (g := gName 3) rfl sc_law_word.nd (pi_range1 (by rfl) B.range (pa_cons (pv 2) pa_nil)) (blkOk_by (N := ["source", "letters", "size", "at"]) (sc := defScope st_law_word) (by decide +kernel)) (fun _ _ _ _ _ => (pg_name (i := 3) sc_law_word.nd rfl (.inl rfl))) (fun _ _ _ _ _ => pts_nil) (fun _ _ _ _ _ => (pe_ix ix_str (pv 1) (pe_fn D_law_pick (hr.mono (by decide)) (by rfl) (pa_cons (pv 0) (pa_cons (pe_callB call_len_str (by rfl) B.len (by decide +kernel) (pa_cons (pv 1) pa_nil)) pa_nil))) (fun _ _ => rfl))))))), ?_⟩
    refine ⟨⟨_, rfl⟩, _, rfl, _, rfl, by omega, by omega, fun D hD => ?_⟩
    obtain ⟨o, eo⟩ := sr.at
    have ne : D ≠ p := (ne_of_none eo hD).symm
    rw [Int.toNat_natCast]
    refine lc_range (fun i H' => Src H' p (n + i) ∧ But p H H' ∧ ∃ l : List Nat, l.length = i ∧ (∀ c ∈ l, 97 ≤ c ∧ c ≤ 122) ∧ H' D = some (.lst ((l.map fun c => (⟨#[c]⟩ : Str)).map V.str))) ?_ (fun i H' hi ⟨sr', bt, l, el, hl, eD⟩ => ?_) fun H' ⟨sr', bt, l, el, hl, eD⟩ => ?_
    · exact ⟨sr.new hD, But.refl.mk hD, [], rfl, (fun c z => by cases z), upd_same⟩
    · refine ⟨rfl, lc_yes ?_⟩
      refine ⟨_, rfl, _, rfl, _, rfl, _, rfl, Nat.le_trans l2 (by decide), p, L.length, n + i, rfl, sr', by omega, by omega, by omega, fun r H2 r0 r1 sr2 bt2 => ?_⟩
      have lt : r.toNat < (tl L).length := by rw [← len_tl]; omega
      refine ⟨L, r, (tl L)[r.toNat], rfl, rfl, Nat.le_trans l2 (by decide), atI_pos r0 (List.getElem?_eq_getElem lt), _, bt2 _ _ eD ne, ?_, ?_⟩
      · rw [List.length_map, List.length_map, el]; exact Nat.lt_of_lt_of_le (show i < 100000 by omega) (by decide)
      · refine ⟨?_, (bt.trans bt2).mk hD, l ++ [(tl L)[r.toNat]], by rw [List.length_append, el]; rfl, fun c hc => ?_, ?_⟩
        · obtain ⟨a, b, c, e, rest⟩ := sr2
          exact ⟨a, b, c, by rw [upd_ne ne.symm]; exact e, rest⟩
        · rcases List.mem_append.mp hc with hc | hc
          · exact hl c hc
          · rw [List.mem_singleton.mp hc]; exact lo _ (List.getElem_mem lt)
        · rw [upd_same, List.map_append, List.map_append]; rfl
    · refine ⟨Str.ofString "", D, l.map fun c => (⟨#[c]⟩ : Str), rfl, rfl, .inl (.inl (.inl eD)), ?_, ?_⟩
      · rw [sum_one, el, str_e]; show k + _ * 0 ≤ _; omega
      · rw [join_e, flat_one]
        exact q (mkS l) H' (by rw [len_mkS, el]) hl sr' bt
abbrev st_law_round : Stmt := topS 30
theorem sc_law_round : FnScope ["size", "ring", "beads", "at", "more"] ["size", "ring"] (defScope st_law_round) := ⟨rfl, rfl, rfl, by decide +kernel, rfl, by decide +kernel, by decide +kernel⟩
theorem pl_law_round : PlainB "_law_round" st_law_round ["size", "ring"] := fun _ _ _ _ _ _ us hl => match us, hl with | [_, _], _ => rfl
def spRound : Sp := fun vs H Q _ => ∃ (n : Nat) (z : Str), vs = [.int n, .str z] ∧ n ≤ 1000 ∧ z.length ≤ 100000 ∧ ∀ p H', H p = none → Same H H' → H' p = some (.lst ((turns n (tl z)).map V.str)) → Q (.ref p) H'
theorem ok_law_round (T : Top K mg "_law_round" st_law_round) (B : Bt mg) : Dn P w K mg base 1 "_law_round" st_law_round ["size", "ring"] spRound := by
  refine dn_of T sc_law_round pl_law_round (fun vs H Q E h => ?_) fun f cdv A outer s H vs Q E hr h => ?_
  · obtain ⟨a, ns, rfl, _⟩ := h; rfl
  · obtain ⟨n, z, rfl, hn, hz, q⟩ := h
    have sl : z.length ≤ sizeLine := Nat.le_trans hz (by decide)
    refine ⟨_, (pss_cons (ps_set (i := 2) sc_law_round.nd rfl (.inr rfl) (pe_callB call_len_str (by rfl) B.len (by decide +kernel) (pa_cons (pv 1) pa_nil)))
      (pss_one (ps_ret (pe_lc (own := [("at", 3)]) (g := gName 3) rfl sc_law_round.nd (pi_range1 (by rfl) B.range (pa_cons (pv 2) pa_nil)) (blkOk_by (N := ["size", "ring", "beads", "at", "more"]) (sc := defScope st_law_round) (by decide +kernel)) (fun _ _ _ _ _ => (pg_name (i := 3) sc_law_round.nd rfl (.inr rfl))) (fun _ _ _ _ _ => pts_nil) (fun _ _ _ _ _ => (joinK K rfl pe_str (pe_lc (own := [("more", 4)]) (g := gName 4) rfl sc_law_round.nd (pi_range1 (by rfl) B.range (pa_cons (pv 0) pa_nil)) (blkOk_by (N := ["size", "ring", "beads", "at", "more"]) (sc := { kind := .function, names := [(".0", .local), ("at", .cell), ("range", .globalImplicit), ("beads", .cell), ("ring", .cell), ("size", .cell)], isGenerator := false, isCoroutine := false }) (by decide +kernel)) (fun _ _ _ _ _ => (pg_name (i := 4) sc_law_round.nd rfl (.inl rfl))) (fun _ _ _ _ _ => pts_nil) (fun _ _ _ _ _ => (pe_ix ix_str (pv 1) (pe_op op_modN (pe_callTy call_int1 (by rfl) B.int (by decide +kernel) (pa_cons (pe_op op_add (pv 3) (pv 4)) pa_nil)) (pv 2)) (fun _ _ => rfl)))))))))), ?_⟩
    refine ⟨_, rfl, _, rfl, sl, _, rfl, _, rfl, by omega, by omega, fun D hD => ?_⟩
    rw [Int.toNat_natCast]
    let g : Nat → Nat → Nat := fun a k => (tl z).getD ((a + k) % (tl z).length) 0
    refine lc_range (fun i H' => Same H H' ∧ H' D = some (.lst ((List.range i).map fun a => V.str (mkS ((List.range n).map (g a)))))) ⟨same_upd hD, upd_same⟩ (fun i H' hi ⟨sm, e⟩ => ?_) fun H' ⟨sm, e⟩ => ?_
    · refine ⟨rfl, lc_yes ?_⟩
      refine ⟨⟨_, rfl⟩, _, rfl, _, rfl, by omega, by omega, fun D2 hD2 => ?_⟩
      rw [Int.toNat_natCast]
      have hl : 0 < (tl z).length := by rw [← len_tl]; omega
      refine lc_range (fun j H2 => Same H' H2 ∧ H2 D2 = some (.lst ((List.range j).map fun k => V.str ⟨#[g i k]⟩))) ⟨same_upd hD2, upd_same⟩ (fun j H2 hj ⟨sm2, e2⟩ => ?_) fun H2 ⟨sm2, e2⟩ => ?_
      · refine ⟨rfl, lc_yes ?_⟩
        have lt := Nat.mod_lt (i + j) hl
        have em : (((0 : Int) + (i : Int)) + ((0 : Int) + (j : Int))).fmod (z.length : Int) = (((i + j) % (tl z).length : Nat) : Int) := by
          rw [Int.fmod_eq_emod_of_nonneg _ (by omega), len_tl, show ((0 : Int) + (i : Int)) + ((0 : Int) + (j : Int)) = ((i + j : Nat) : Int) by omega]; rfl
        refine ⟨_, rfl, _, rfl, _, rfl, _, _, rfl, rfl, .inl ⟨_, rfl, _, rfl, _, _, rfl, rfl, by omega, z, _, g i j, rfl, rfl, sl, ?_, _, e2, grown_len _ hj (by omega), wr sm2 hD2, ?_⟩⟩
        · rw [em]
          refine atI_pos (by omega) ?_
          rw [Int.toNat_natCast]
          show _ = some ((tl z).getD ((i + j) % (tl z).length) 0)
          rw [List.getD_eq_getElem?_getD, List.getElem?_eq_getElem lt]; rfl
        · rw [upd_same, grown fun k => V.str ⟨#[g i k]⟩]
      · refine ⟨Str.ofString "", D2, ((List.range n).map (g i)).map fun c => (⟨#[c]⟩ : Str), rfl, rfl, .inl (.inl (.inl ?_)), ?_, ?_⟩
        · rw [e2, List.map_map, List.map_map]; rfl
        · rw [sum_one, List.length_map, List.length_range, str_e]; show n + _ * 0 ≤ _; omega
        · rw [join_e, flat_one]
          refine ⟨_, sm2 _ _ e, grown_len _ hi (by omega), wr (sm.trans sm2) hD, ?_⟩
          rw [upd_same, grown fun a => V.str (mkS ((List.range n).map (g a)))]
    · refine q D H' hD sm ?_
      rw [e, len_tl]
      unfold turns
      rw [List.map_map]
      rfl
end
end Tx

set_option Elab.async false
set_option linter.all false
set_option maxRecDepth 100000
set_option maxHeartbeats 1000000
namespace Tx
open PySem PySem.Spec PyProof.Rows L2 TL
theorem cutS_ij (z : Str) (i j : Nat) (h : i ≤ j) (hj : j ≤ z.length) : cutS z (some (i : Int)) (some (j : Int)) = mkS (cut (tl z) i (j - i)) := by
  have e := cutS_mid z i (j - i) (by omega)
  rw [show ((i : Int) + ((j - i : Nat) : Int)) = (j : Int) by omega] at e
  exact e
theorem low_app {x y : Str} (hx : Low x) (hy : Low y) : Low (x ++ y) := fun c hc => by
  rw [tl_append] at hc
  exact (List.mem_append.mp hc).elim (hx c) (hy c)
theorem len_app (x y : Str) : (x ++ y).length = x.length + y.length := by rw [len_tl, tl_append, List.length_append, ← len_tl, ← len_tl]
theorem low_mk {l : List Nat} {z : Str} (h : Low z) (k : ∀ c ∈ l, c ∈ tl z) : Low (mkS l) := fun c hc => h c (k c hc)
theorem low_take {z : Str} (h : Low z) (n : Nat) : Low (mkS ((tl z).take n)) := low_mk h fun _ hc => List.mem_of_mem_take hc
theorem low_cut {z : Str} (h : Low z) (i n : Nat) : Low (mkS (cut (tl z) i n)) := low_mk h fun _ hc => List.mem_of_mem_drop (List.mem_of_mem_take hc)
theorem len_take {z : Str} {n : Nat} (h : n ≤ z.length) : (mkS ((tl z).take n)).length = n := by rw [len_mkS, List.length_take, ← len_tl]; omega
theorem len_cut {z : Str} {i n : Nat} (h : i + n ≤ z.length) : (mkS (cut (tl z) i n)).length = n := by
  unfold cut
  rw [len_mkS, List.length_take, List.length_drop, ← len_tl]; omega
theorem low_one {L : Str} (h : Low L) {c : Nat} (hc : c ∈ tl L) : Low ⟨#[c]⟩ := fun d hd => by
  have e : d = c := List.mem_singleton.mp hd
  subst e; exact h d hc
theorem But.kept {p b : Addr} {o : HO} {H H' : Hp} (k : But p H H') (e : H b = some o) (n : b ≠ p) : H' b = some o := k b o e n
section
variable {P : Program} {w : World} {K : PySem.W.Frag} {mg : Str → Option Value} {base : Heap}
abbrev st_law_ring : Stmt := topS 31
theorem sc_law_ring : FnScope ["source", "letters", "most", "size", "kind", "words", "found", "at", "turn"] ["source", "letters", "most"] (defScope st_law_ring) := ⟨rfl, rfl, rfl, by decide +kernel, rfl, by decide +kernel, by decide +kernel⟩
theorem pl_law_ring : PlainB "_law_ring" st_law_ring ["source", "letters", "most"] := fun _ _ _ _ _ _ us hl => match us, hl with | [_, _, _], _ => rfl
/-- a ring text of draws -/
def spLRing : Sp := fun vs H Q _ => ∃ (p : Addr) (L : Str) (most n : Nat), vs = [.ref p, .str L, .int most] ∧ Src H p n ∧ Lets L ∧ 1 ≤ most ∧ most ≤ 2001 ∧ n ≤ 10000000 ∧
  ∀ z H', Low z → 1 ≤ z.length → z.length ≤ most → Src H' p (n + 10000) → But p H H' → Q (.str z) H'
theorem ok_law_ring (T : Top K mg "_law_ring" st_law_ring) (B : Bt mg) (D_law_pick : Dn P w K mg base 1 "_law_pick" st_law_pick ["source", "top"] spPick)
    (D_law_word : Dn P w K mg base 2 "_law_word" st_law_word ["source", "letters", "size"] spWord) : Dn P w K mg base 3 "_law_ring" st_law_ring ["source", "letters", "most"] spLRing := by
  refine dn_of T sc_law_ring pl_law_ring (fun vs H Q E h => ?_) fun f cdv A outer s H vs Q E hr h => ?_
  · obtain ⟨a, ns, _, _, rfl, _⟩ := h; rfl
  · obtain ⟨p, L, most, n, rfl, sr, LL, m1, m2, hn, q⟩ := h
    obtain ⟨lo, l1, l2⟩ := id LL
    have sL : L.length ≤ sizeLine := Nat.le_trans l2 (by decide)
    refine ⟨_, (pss_cons (ps_par (i := 3) (j := 4) (by rfl) sc_law_ring.nd rfl rfl (by decide) rfl rfl (pa_cons (pe_op op_add pe_int (pe_fn D_law_pick (hr.mono (by decide)) (by rfl) (pa_cons (pv 0) (pa_cons (pv 2) pa_nil)))) (pa_cons (pe_fn D_law_pick (hr.mono (by decide)) (by rfl) (pa_cons (pv 0) (pa_cons pe_int pa_nil))) pa_nil)) (by rfl))
      (pss_cons (ps_if (pt_cmpR op_lt (pv 4) pe_int (nomark _)) (pss_one (ps_ret (pe_fn D_law_word (hr.mono (by decide)) (by rfl) (pa_cons (pv 0) (pa_cons (pv 1) (pa_cons (pv 3) pa_nil)))))) pss_nil)
      (pss_cons (ps_setLc (i := 5) (own := [("turn", 8)]) (g := gName 8) rfl sc_law_ring.nd rfl rfl (sw_true rfl rfl rfl (by decide +kernel)) (pi_range1 (by rfl) B.range (pa_cons (pe_op op_add pe_int (pe_fn D_law_pick (hr.mono (by decide)) (by rfl) (pa_cons (pv 0) (pa_cons pe_int pa_nil)))) pa_nil)) (blkOk_by (N := ["source", "letters", "most", "size", "kind", "words", "found", "at", "turn"]) (sc := defScope st_law_ring) (by decide +kernel)) (fun _ _ _ _ _ => (pg_name (i := 8) sc_law_ring.nd rfl (.inl rfl))) (fun _ _ _ _ _ => pts_nil) (fun _ _ _ _ _ => (pe_fn D_law_word (hr.mono (by decide)) (by rfl) (pa_cons (pv 0) (pa_cons (pv 1) (pa_cons (pe_op op_add pe_int (pe_fn D_law_pick (hr.mono (by decide)) (by rfl) (pa_cons (pv 0) (pa_cons pe_int pa_nil)))) pa_nil))))))
      (pss_cons (ps_set (i := 6) sc_law_ring.nd rfl (.inl rfl) pe_str)
      (pss_cons (ps_while PassesOwn.never (pt_cmpR op_lt (pe_callB call_len_str (by rfl) B.len (by decide +kernel) (pa_cons (pv 6) pa_nil)) (pv 3) (nomark _)) (pss_one (ps_set (i := 6) sc_law_ring.nd rfl (.inl rfl) (pe_op op_add_str (pv 6) (pe_ix (ixK K rfl) (pv 5) (pe_fn D_law_pick (hr.mono (by decide)) (by rfl) (pa_cons (pv 0) (pa_cons (pe_callB (lenK K rfl) (by rfl) B.len (by decide +kernel) (pa_cons (pv 5) pa_nil)) pa_nil))) (fun _ _ => rfl))))))
      (pss_cons (ps_set (i := 7) sc_law_ring.nd rfl (.inl rfl) (pe_fn D_law_pick (hr.mono (by decide)) (by rfl) (pa_cons (pv 0) (pa_cons (pv 3) pa_nil))))
      (pss_one (ps_ret (pe_ifExp (pt_cmpR op_eq (pv 4) pe_int (nomark _)) (pe_op op_add_str (pe_op op_add_str (pe_slice sl_str (pv 6) po_none (po_some (pv 7))) (pe_ix ix_str (pv 1) (pe_fn D_law_pick (hr.mono (by decide)) (by rfl) (pa_cons (pv 0) (pa_cons (pe_callB call_len_str (by rfl) B.len (by decide +kernel) (pa_cons (pv 1) pa_nil)) pa_nil))) (fun _ _ => rfl))) (pe_slice sl_str (pv 6) (po_some (pe_op op_add (pv 7) pe_int)) (po_some (pv 3)))) (pe_slice sl_str (pv 6) po_none (po_some (pv 3)))))))))))), ?_⟩
    refine ⟨_, rfl, _, rfl, p, most, n, rfl, sr, by omega, by omega, by omega, fun r1 H1 a0 a1 sr1 bt1 => ?_⟩
    refine ⟨_, _, rfl, rfl, _, rfl, p, 4, n + 1, rfl, sr1, by omega, by decide, by decide, fun kind H2 b0 b1 sr2 bt2 => ?_⟩
    refine ⟨_, _, rfl, ?_⟩
    obtain ⟨size, es⟩ : ∃ k : Nat, 1 + r1 = (k : Int) := ⟨(1 + r1).toNat, by omega⟩
    have z1 : 1 ≤ size := by omega
    have z2 : size ≤ most := by omega
    dsimp only
    rw [es]
    refine ⟨_, rfl, _, _, rfl, rfl, _, rfl, ?_⟩
    refine ite2 (fun _ => ?_) fun _ => ?_
    · refine ⟨_, rfl, _, rfl, _, rfl, p, L, size, n + 1 + 1, rfl, sr2, LL, by omega, by omega, fun z H3 e3 lz sr3 bt3 => ?_⟩
      exact q z H3 lz (by omega) (by omega) (sr3.mono (by omega)) ((bt1.trans bt2).trans bt3)
    · refine ⟨_, rfl, p, 3, n + 1 + 1, rfl, sr2, by omega, by decide, by decide, fun r3 H3 c0 c1 sr3 bt3 => ?_⟩
      obtain ⟨o, eo⟩ := sr3.at
      refine ⟨_, _, rfl, rfl, _, rfl, by omega, by omega, fun D hD => ?_⟩
      have ne : D ≠ p := (ne_of_none eo hD).symm
      refine lc_range (fun i H' => Src H' p (n + 3 + 6 * i) ∧ But p H3 H' ∧ ∃ ws : List Str, ws.length = i ∧ (∀ z ∈ ws, Low z ∧ 1 ≤ z.length ∧ z.length ≤ 5) ∧ H' D = some (.lst (ws.map V.str))) ?_ (fun i H' hi ⟨sr', bt', ws, ew, hw, eD⟩ => ?_) fun H4 ⟨sr4, bt4, ws, ew, hw, eD⟩ => ?_
      · exact ⟨sr3.new hD, But.refl.mk hD, [], rfl, (fun c z => by cases z), upd_same⟩
      · refine ⟨rfl, lc_yes ?_⟩
        refine ⟨_, rfl, _, rfl, _, rfl, p, 5, n + 3 + 6 * i, rfl, sr', by omega, by decide, by decide, fun r4 H5 d0 d1 sr5 bt5 => ?_⟩
        obtain ⟨k, ek⟩ : ∃ k : Nat, 1 + r4 = (k : Int) := ⟨(1 + r4).toNat, by omega⟩
        refine ⟨_, _, rfl, rfl, p, L, k, n + 3 + 6 * i + 1, by show [V.ref p, V.str L, V.int (1 + r4)] = _; rw [ek], sr5, LL, by omega, by omega, fun z H6 ez lz sr6 bt6 => ?_⟩
        refine ⟨_, bt6.kept (bt5.kept eD ne) ne, ?_, ?_, ((bt'.trans bt5).trans bt6).mk hD, ws ++ [z], by rw [List.length_append, ew]; rfl, fun y hy => ?_, ?_⟩
        · rw [List.length_map, ew]; exact Nat.lt_of_lt_of_le (show i < 100 by omega) (by decide)
        · obtain ⟨a, b, c, e, rest⟩ := sr6.mono (m := n + 3 + 6 * (i + 1)) (by omega)
          exact ⟨a, b, c, by rw [upd_ne ne.symm]; exact e, rest⟩
        · rcases List.mem_append.mp hy with hy | hy
          · exact hw y hy
          · rw [List.mem_singleton.mp hy]; exact ⟨lz, by omega, by omega⟩
        · rw [upd_same, List.map_append]; rfl
      · have hw1 : 1 ≤ ws.length := by omega
        have hw2 : ws.length ≤ 3 := by omega
        refine ⟨fun m σ H' => ∃ (z : Str) (y7 y8 : Option V), σ = [some (.ref p), some (.str L), some (.int most), some (.int size), some (.int kind), some (.ref D), some (.str z), y7, y8] ∧ Low z ∧ m = size - z.length ∧ z.length ≤ size + 5 ∧ Src H' p (n + 30 + z.length) ∧ But p H4 H' ∧ H' D = some (.lst (ws.map V.str)),
          ⟨size, Str.ofString "", none, none, rfl, ?_, ?_, ?_, ?_, But.refl, eD⟩, fun m σ H' ⟨z, y7, y8, eσ, lz, em, hz, srw, btw, eDw⟩ => ?_⟩
        · rw [str_e]; intro c hc; cases hc
        · rw [str_e]; show size = size - 0; omega
        · rw [str_e]; show 0 ≤ _; omega
        · rw [str_e]; exact sr4.mono (show _ ≤ n + 30 + 0 by omega)
        · subst eσ
          have sz : z.length ≤ sizeLine := Nat.le_trans hz (Nat.le_trans (show size + 5 ≤ 3000 by omega) (by decide))
          refine ⟨_, rfl, z, rfl, sz, _, rfl, _, _, rfl, rfl, _, rfl, ?_⟩
          refine ite2 (fun lt => ?_) fun ge => ?_
          · have lt := of_decide_eq_true lt
            refine ⟨_, fun _ _ h => h, ?_⟩
            refine ⟨_, rfl, _, rfl, _, rfl, _, rfl, D, _, rfl, .inl (.inl (.inl eDw)), p, (ws.map V.str).length, n + 30 + z.length, rfl, srw, by omega, by rw [List.length_map]; omega, by rw [List.length_map]; omega, fun r H5 d0 d1 sr5 bt5 => ?_⟩
            rw [List.length_map] at d1
            have ltr : r.toNat < ws.length := by omega
            have hy := hw _ (List.getElem_mem ltr)
            refine ⟨D, ws.map V.str, r, V.str ws[r.toNat], rfl, rfl, .inl (.inl (bt5.kept eDw ne)), atI_pos d0 (by rw [List.getElem?_map, List.getElem?_eq_getElem ltr] <;> rfl), _, _, rfl, rfl, Nat.le_trans (show _ ≤ 3000 by omega) (by decide), ?_⟩
            refine ⟨size - (z ++ ws[r.toNat]).length, by rw [len_app]; omega, z ++ ws[r.toNat], y7, y8, rfl, low_app lz hy.1, rfl, by rw [len_app]; omega, sr5.mono (by rw [len_app]; omega), btw.trans bt5, bt5.kept eDw ne⟩
          · have ge : size ≤ z.length := by
              have := of_decide_eq_false (Bool.eq_false_iff.mpr ge)
              omega
            refine ⟨_, rfl, _, rfl, p, size, n + 30 + z.length, rfl, srw, by omega, by omega, by omega, fun at' H5 d0 d1 sr5 bt5 => ?_⟩
            obtain ⟨a, ea⟩ : ∃ a : Nat, at' = (a : Int) := ⟨at'.toNat, by omega⟩
            subst ea
            have bt := (((bt1.trans bt2).trans bt3).trans bt4).trans (btw.trans bt5)
            refine ⟨_, rfl, rfl, _, rfl, ?_⟩
            refine ite2 (fun _ => ?_) fun _ => ?_
            · refine ⟨_, rfl, _, rfl, _, rfl, z, rfl, sz, _, rfl, _, rfl, _, rfl, L, rfl, sL, p, L.length, n + 30 + z.length + 1, rfl, sr5, by omega, by omega, by omega, fun r H6 f0 f1 sr6 bt6 => ?_⟩
              have lt : r.toNat < (tl L).length := by rw [← len_tl]; omega
              rw [cutS_to z a (by omega)]
              refine ⟨L, r, (tl L)[r.toNat], rfl, rfl, sL, atI_pos f0 (List.getElem?_eq_getElem lt), _, _, rfl, rfl, ?_, _, rfl, _, rfl, _, _, rfl, rfl, _, rfl, _, rfl, _, rfl, z, rfl, sz, ?_⟩
              · rw [len_take (by omega)]; exact Nat.le_trans (show a + 1 ≤ 3000 by omega) (by decide)
              rw [show ((a : Int) + 1) = ((a + 1 : Nat) : Int) by omega, cutS_ij z (a + 1) size (by omega) ge]
              have e1 : (mkS ((tl z).take a) ++ (⟨#[(tl L)[r.toNat]]⟩ : Str)).length = a + 1 := by rw [len_app, len_take (by omega)]; rfl
              have e2 : (mkS (cut (tl z) (a + 1) (size - (a + 1)))).length = size - (a + 1) := len_cut (by omega)
              refine ⟨_, _, rfl, rfl, by rw [e1, e2]; exact Nat.le_trans (show _ ≤ 3000 by omega) (by decide), ?_⟩
              exact q _ H6 (low_app (low_app (low_take lz a) (low_one lo (List.getElem_mem lt))) (low_cut lz _ _)) (by rw [len_app, e1, e2]; omega) (by rw [len_app, e1, e2]; omega) (sr6.mono (by omega)) (bt.trans bt6)
            · refine ⟨_, rfl, _, rfl, _, rfl, z, rfl, sz, ?_⟩
              rw [cutS_to z size ge]
              exact q _ H5 (low_take lz _) (by rw [len_take ge]; omega) (by rw [len_take ge]; omega) (sr5.mono (by omega)) bt
end
end Tx

set_option Elab.async false
set_option linter.all false
set_option maxRecDepth 100000
set_option maxHeartbeats 1000000
namespace Tx
open PySem PySem.Spec PyProof.Rows L2 TL RZ
theorem str_at {xs : List Str} {i : Nat} {x : V} (h : (xs.map V.str)[i]? = some x) : ∃ z, xs[i]? = some z ∧ x = V.str z := by
  rw [List.getElem?_map] at h
  cases e : xs[i]? with
  | none => rw [e] at h; cases h
  | some z => rw [e] at h; exact ⟨z, rfl, (Option.some.inj h).symm⟩
theorem cutV_tail (xs : List V) : cutV xs (some (1 : Int)) none = xs.drop 1 := by
  have e : (1 : Int) = ((1 : Nat) : Int) := rfl
  unfold cutV
  rw [e, HT.sIx_nat, HT.sIx_none]
  by_cases c : 1 ≤ xs.length
  · rw [Nat.min_eq_left c, List.take_of_length_le (by rw [List.length_drop]; exact Nat.le_refl _)]
  · have : xs = [] := List.eq_nil_of_length_eq_zero (by omega)
    subst this; rfl
theorem dp_strsT {K : PySem.W.Frag} {H : Hp} {a : Addr} {xs : List Str} (h : H a = some (.tup (xs.map V.str))) : Dp K H (.ref a) (.tuple (xs.map PyData.str)) := .tup (.inl (.inl h)) (dp_all xs)
theorem shaped_strsT {xs : List Str} (h : ∀ z ∈ xs, Low z) : SeqAt.shaped (.tuple (xs.map PyData.str)) = true := by
  unfold SeqAt.shaped
  simp only [PyData.canLay0, PyData.depth, (lay_strs xs h).1, (lay_strs xs h).2]
  decide
section
variable {P : Program} {w : World} {K : PySem.W.Frag} {mg : Str → Option Value} {base : Heap}
abbrev st_is_ascending : Stmt := topS 4
theorem sc_is_ascending : FnScope ["value", "one", "other", "item"] ["value"] (defScope st_is_ascending) := ⟨rfl, rfl, rfl, by decide +kernel, rfl, by decide +kernel, by decide +kernel⟩
theorem pl_is_ascending : PlainB "is_ascending" st_is_ascending ["value"] := fun _ _ _ _ _ _ us hl => match us, hl with | [_], _ => rfl
/-- of a tuple of ascending texts: True -/
def spAsc : Sp := fun vs H Q _ => ∃ (t : Addr) (ws : List Str), vs = [.ref t] ∧ H t = some (.tup (ws.map V.str)) ∧ 1 ≤ ws.length ∧ ws.length ≤ 3000 ∧ (ws.Pairwise fun a b => tl a < tl b) ∧ ∀ H', Same H H' → Q (.bl true) H'
theorem ok_is_ascending (T : Top K mg "is_ascending" st_is_ascending) (B : Bt mg) : Dn P w K mg base 1 "is_ascending" st_is_ascending ["value"] spAsc := by
  refine dn_of T sc_is_ascending pl_is_ascending (fun vs H Q E h => ?_) fun f cdv A outer s H vs Q E hr h => ?_
  · obtain ⟨t, z, rfl, _⟩ := h; rfl
  · obtain ⟨t, ws, rfl, et, w1, w2, asc, q⟩ := h
    refine ⟨_, (pss_cons (ps_if (PW.pt (pw_or (pt_not (pt_val (pe_callB (isiK K rfl) (by rfl) B.isi (by decide +kernel) (pa_cons (pv 0) (pa_cons (pe_bltn (v := .ty "tuple") (by rfl) B.tuple (by decide +kernel) rfl) pa_nil))))) (pw_or1 (pt_not (pt_val (pe_callB (allK K rfl rfl) (by rfl) B.all (by decide +kernel) (pa_cons (pe_lc (own := [("item", 3)]) (g := gName 3) rfl sc_is_ascending.nd (pi_tup (pv 0)) (blkOk_by (N := ["value", "one", "other", "item"]) (sc := defScope st_is_ascending) (by decide +kernel)) (fun _ _ _ _ _ => (pg_name (i := 3) sc_is_ascending.nd rfl (.inl rfl))) (fun _ _ _ _ _ => pts_nil) (fun _ _ _ _ _ => (pe_callB (isiK K rfl) (by rfl) B.isi (by decide +kernel) (pa_cons (pv 3) (pa_cons (pe_bltn (v := .ty "str") (by rfl) B.str (by decide +kernel) rfl) pa_nil))))) pa_nil))))))) (pss_one (ps_ret pe_bl)) pss_nil)
      (pss_one (ps_ret (pe_callB (allK K rfl rfl) (by rfl) B.all (by decide +kernel) (pa_cons (pe_lc (own := [("one", 1), ("other", 2)]) (g := gTup K 2 (gCons (gName 1) (gCons (gName 2) (gNil)))) rfl sc_is_ascending.nd (pi_zipA (by rfl) B.zip (pa_cons (pv 0) (pa_cons (pe_slice sl_tup (pv 0) (po_some pe_int) po_none) pa_nil))) (blkOk_by (N := ["value", "one", "other", "item"]) (sc := defScope st_is_ascending) (by decide +kernel)) (fun _ _ _ _ _ => (pg_tupK (n := 2) K rfl rfl (pgs_cons (pg_name (i := 1) sc_is_ascending.nd rfl (.inl rfl)) (pgs_cons (pg_name (i := 2) sc_is_ascending.nd rfl (.inl rfl)) pgs_nil)))) (fun _ _ _ _ _ => pts_nil) (fun _ _ _ _ _ => (pe_cmpR op_lt_str (pv 1) (pv 2) (nomark _)))) pa_nil))))), ?_⟩
    refine ⟨_, rfl, .ref t, .ty "tuple", _, _, true, rfl, .ty _, .base (.tup et), kit_ty (by decide +kernel), true, rfl, ?_⟩
    refine iteF ?_
    refine ⟨_, rfl, t, rfl, ⟨_, .inl (.inl et)⟩, fun D hD => ?_⟩
    refine lc_tup (a := t) (xs := ws.map V.str) (fun i H' => Same H H' ∧ H' D = some (.lst ((List.range i).map fun _ => V.bl true))) ⟨same_upd hD, upd_same⟩ (fun i H' _ h => .inl (.inl (h.1 _ _ et))) (fun i x H' hi ⟨sm, e⟩ => ?_) fun H' ⟨sm, e⟩ => ?_
    · obtain ⟨z, hz, rfl⟩ := str_at hi
      have lt := (List.getElem?_eq_some_iff.mp hz).1
      refine ⟨rfl, lc_yes ?_⟩
      refine ⟨_, rfl, .str z, .ty "str", _, _, true, rfl, .ty _, .base (.str z), kit_ty (by decide +kernel), _, e, grown_len _ lt (by omega), wr sm hD, ?_⟩
      rw [upd_same, grown fun _ => V.bl true]
    · rw [List.length_map] at e
      refine ⟨D, List.replicate ws.length true, rfl, .inl (.inl (by rw [e, trues])), _, rfl, ?_⟩
      rw [all_trues]
      refine iteF ?_
      have et' := sm _ _ et
      refine ⟨_, rfl, _, rfl, _, rfl, t, _, rfl, .inl (.inl et'), ?_, fun p np => ?_⟩
      · rintro ⟨c, _⟩
        rw [show (1 : Int) = ((1 : Nat) : Int) from rfl, HT.sIx_nat, List.length_map] at c
        omega
      rw [cutV_tail, ← List.map_drop]
      have s1 : Same H (upd H' p (.tup ((ws.drop 1).map V.str))) := sm.trans (same_upd np)
      refine ⟨t, p, _, _, rfl, .inr ⟨.inl (.inl (s1 _ _ et)), .inl (.inl upd_same), fun D2 hD2 => ?_⟩⟩
      have ep : (upd H' p (.tup ((ws.drop 1).map V.str))) p = some (.tup ((ws.drop 1).map V.str)) := upd_same
      generalize upd H' p (.tup ((ws.drop 1).map V.str)) = H1 at s1 hD2 ep ⊢
      refine lc_zipT (xs := ws.map V.str) (ys := (ws.drop 1).map V.str) (by rw [List.length_map, List.length_map, List.length_drop]; omega) (fun i H2 => Same H1 H2 ∧ H2 D2 = some (.lst ((List.range i).map fun _ => V.bl true))) ⟨same_upd hD2, upd_same⟩ (fun i H2 h => ⟨.inl (.inl (h.1 _ _ (s1 _ _ et))), .inl (.inl (h.1 _ _ ep))⟩) (fun i x y U H2 hx hy ⟨sm2, e2⟩ nU => ?_) fun H2 ⟨sm2, e2⟩ => ?_
      · obtain ⟨a, ha, rfl⟩ := str_at hx
        obtain ⟨b, hb, rfl⟩ := str_at hy
        rw [List.getElem?_drop] at hb
        obtain ⟨la, ga⟩ := List.getElem?_eq_some_iff.mp ha
        obtain ⟨lb, gb⟩ := List.getElem?_eq_some_iff.mp hb
        have ab : tl a < tl b := by
          have := List.pairwise_iff_getElem.mp asc i (1 + i) la lb (by omega)
          rwa [ga, gb] at this
        refine ⟨U, _, rfl, .inl (.inl upd_same), rfl, _, _, rfl, _, _, rfl, rfl, rfl, lc_yes ?_⟩
        have sU : Same H1 (upd H2 U (.tup [V.str a, V.str b])) := sm2.trans (same_upd nU)
        refine ⟨_, rfl, _, rfl, a, b, rfl, rfl, _, (same_upd nU) _ _ e2, grown_len _ la (by omega), wr sU hD2, ?_⟩
        rw [upd_same, show decide (a.cps.toList < b.cps.toList) = true from decide_eq_true ab, grown fun _ => V.bl true]
      · refine ⟨D2, List.replicate ((ws.drop 1).map V.str).length true, rfl, .inl (.inl (by rw [e2, trues])), ?_⟩
        rw [all_trues]
        exact q _ (s1.trans sm2)
abbrev st_is_windows : Stmt := topS 16
theorem sc_is_windows : FnScope ["size", "value", "window"] ["size", "value"] (defScope st_is_windows) := ⟨rfl, rfl, rfl, by decide +kernel, rfl, by decide +kernel, by decide +kernel⟩
theorem pl_is_windows : PlainB "is_windows" st_is_windows ["size", "value"] := fun _ _ _ _ _ _ us hl => match us, hl with | [_, _], _ => rfl
def g_kb_is_windows_value_size {A : Type} : List A → List A → List A | [], [v0, v1] => [v1, v0] | _, _ => []
theorem kb_is_windows_value_size {K : PySem.W.Frag} : ∀ fd, (∃ kV doc pm an cdv ct, fd = PySem.W.fnOf "is_windows" "is_windows" (defArgs st_is_windows) (defBody st_is_windows) (defScope st_is_windows) .none kV doc pm an cdv ct) → KBinds K fd ["size", "value"] ["value", "size"] g_kb_is_windows_value_size g_kb_is_windows_value_size := by
  rintro fd ⟨kV, doc, pm, an, cdv, ct, rfl⟩
  refine ⟨fun s us ws _ hl => ?_, fun r q => ?_⟩
  · match us, ws, hl with
    | [], [_, _], _ => exact .of_eq rfl
  · match r, q with
    | .nil, (.cons a0 (.cons a1 .nil)) => exact (.cons a1 (.cons a0 .nil))
    | .nil, .nil => exact .nil
    | .nil, (.cons _ .nil) => exact .nil
    | .nil, (.cons _ (.cons _ (.cons _ _))) => exact .nil
    | .cons _ _, _ => exact .nil
/-- of an ascending tuple of windows of n letters: True -/
def spWins : Sp := fun vs H Q _ => ∃ (n : Nat) (t : Addr) (ws : List Str), vs = [.int n, .ref t] ∧ H t = some (.tup (ws.map V.str)) ∧ Book n ws ∧ ∀ H', Same H H' → Q (.bl true) H'
theorem ok_is_windows (T : Top K mg "is_windows" st_is_windows) (B : Bt mg) (D_is_ascending : Dn P w K mg base 1 "is_ascending" st_is_ascending ["value"] spAsc)
    (D_is_letters : Dn P w K mg base 1 "is_letters" st_is_letters ["value"] spLow) : Dn P w K mg base 2 "is_windows" st_is_windows ["size", "value"] spWins := by
  refine dn_of T sc_is_windows pl_is_windows (fun vs H Q E h => ?_) fun f cdv A outer s H vs Q E hr h => ?_
  · obtain ⟨n, t, z, rfl, _⟩ := h; rfl
  · obtain ⟨n, t, ws, rfl, et, bk, q⟩ := h
    refine ⟨_, (pss_one (ps_ret (pe_and (pe_fn D_is_ascending (hr.mono (by decide)) (by rfl) (pa_cons (pv 1) pa_nil)) (pe_one (pe_callB (allK K rfl rfl) (by rfl) B.all (by decide +kernel) (pa_cons (pe_lc (own := [("window", 2)]) (g := gName 2) rfl sc_is_windows.nd (pi_tup (pv 1)) (blkOk_by (N := ["size", "value", "window"]) (sc := defScope st_is_windows) (by decide +kernel)) (fun _ _ _ _ _ => (pg_name (i := 2) sc_is_windows.nd rfl (.inl rfl))) (fun _ _ _ _ _ => pts_nil) (fun _ _ _ _ _ => (pe_and (pe_cmpR op_eq (pe_callB call_len_str (by rfl) B.len (by decide +kernel) (pa_cons (pv 2) pa_nil)) (pv 0) (nomark _)) (pe_one (pe_fn D_is_letters (hr.mono (by decide)) (by rfl) (pa_cons (pv 2) pa_nil)))))) pa_nil)))))), ?_⟩
    refine ⟨_, rfl, t, ws, rfl, et, bk.one, bk.most, bk.asc, fun H1 s1 => ⟨true, rfl, ?_⟩⟩
    refine iteT ?_
    have et1 := s1 _ _ et
    refine ⟨_, rfl, t, rfl, ⟨_, .inl (.inl et1)⟩, fun D hD => ?_⟩
    refine lc_tup (a := t) (xs := ws.map V.str) (fun i H' => Same H1 H' ∧ H' D = some (.lst ((List.range i).map fun _ => V.bl true))) ⟨same_upd hD, upd_same⟩ (fun i H' _ h => .inl (.inl (h.1 _ _ et1))) (fun i x H' hi ⟨sm, e⟩ => ?_) fun H' ⟨sm, e⟩ => ?_
    · obtain ⟨z, hz, rfl⟩ := str_at hi
      have lt := (List.getElem?_eq_some_iff.mp hz).1
      obtain ⟨lo, ln⟩ := bk.each z (List.mem_of_getElem? hz)
      have hn := bk.n6
      have hm := bk.most
      refine ⟨rfl, lc_yes ?_⟩
      refine ⟨_, rfl, z, rfl, Nat.le_trans (show z.length ≤ 100000 by omega) (by decide), _, rfl, rfl, _, rfl, ?_⟩
      rw [ln, decide_eq_true rfl]
      refine iteT ?_
      refine ⟨_, rfl, z, rfl, lo, by omega, fun H2 s2 => ⟨_, s2 _ _ e, grown_len _ lt (by omega), wr (sm.trans s2) hD, ?_⟩⟩
      rw [upd_same, grown fun _ => V.bl true]
    · rw [List.length_map] at e
      refine ⟨D, List.replicate ws.length true, rfl, .inl (.inl (by rw [e, trues])), ?_⟩
      rw [all_trues]
      exact q _ (s1.trans sm)
abbrev st_is_book : Stmt := topS 14
theorem sc_is_book : FnScope ["value", "size", "windows"] ["value"] (defScope st_is_book) := ⟨rfl, rfl, rfl, by decide +kernel, rfl, by decide +kernel, by decide +kernel⟩
theorem pl_is_book : PlainB "is_book" st_is_book ["value"] := fun _ _ _ _ _ _ us hl => match us, hl with | [_], _ => rfl
def spBook : Sp := fun vs H Q _ => ∃ (b : Addr) (n : Nat) (ws : List Str), vs = [.ref b] ∧ BookAt H b n ws ∧ Book n ws ∧ ∀ H', Same H H' → Q (.bl true) H'
theorem ok_is_book (T : Top K mg "is_book" st_is_book) (B : Bt mg) (D_is_size : Dn P w K mg base 2 "is_size" st_is_size ["value"] spSize) (D_is_windows : Dn P w K mg base 2 "is_windows" st_is_windows ["size", "value"] spWins) : Dn P w K mg base 3 "is_book" st_is_book ["value"] spBook := by
  refine dn_of T sc_is_book pl_is_book (fun vs H Q E h => ?_) fun f cdv A outer s H vs Q E hr h => ?_
  · obtain ⟨t, _, z, rfl, _⟩ := h; rfl
  · obtain ⟨b, n, ws, rfl, ⟨t, eb, et⟩, bk, q⟩ := h
    refine ⟨_, (pss_cons (ps_if (PW.pt (pw_or (pt_not (pt_val (pe_callB (isiK K rfl) (by rfl) B.isi (by decide +kernel) (pa_cons (pv 0) (pa_cons (pe_bltn (v := .ty "tuple") (by rfl) B.tuple (by decide +kernel) rfl) pa_nil))))) (pw_or1 (pt_cmpR op_ne (pe_callB (lenK K rfl) (by rfl) B.len (by decide +kernel) (pa_cons (pv 0) pa_nil)) pe_int (nomark _))))) (pss_one (ps_ret pe_bl)) pss_nil)
      (pss_cons (ps_asg (pv 0) (pg_tupK K rfl rfl (pgs_cons (pg_name (i := 1) sc_is_book.nd rfl (.inl rfl)) (pgs_cons (pg_name (i := 2) sc_is_book.nd rfl (.inl rfl)) pgs_nil))))
      (pss_one (ps_ret (pe_and (pe_fn D_is_size (hr.mono (by decide)) (by rfl) (pa_cons (pv 1) pa_nil)) (pe_and (pe_fn D_is_windows (hr.mono (by decide)) (by rfl) (pa_cons (pv 1) (pa_cons (pv 2) pa_nil))) (pe_one (pe_cmpR (neDK K rfl hr.units) (pv 2) (pe_tup pa_nil) (nomark _))))))))), ?_⟩
    refine ⟨_, rfl, .ref b, .ty "tuple", _, _, true, rfl, .ty _, .base (.tup eb), kit_ty (by decide +kernel), true, rfl, ?_⟩
    refine iteF ?_
    refine ⟨_, rfl, b, _, rfl, .inr (.inl (.inl eb)), rfl, _, rfl, ?_⟩
    refine iteNS rfl ?_
    refine ⟨_, rfl, b, _, rfl, .inl (.inl eb), rfl, _, _, rfl, _, _, rfl, rfl, ?_⟩
    refine ⟨_, rfl, n, rfl, bk.n2, bk.n6, true, rfl, ?_⟩
    refine iteT ?_
    refine ⟨_, rfl, _, rfl, n, t, ws, rfl, et, bk, fun H1 s1 => ⟨true, rfl, ?_⟩⟩
    refine iteT ?_
    have et1 := s1 _ _ et
    refine ⟨_, rfl, (by show 0 ≤ sizeLine; decide), fun u nu => ?_⟩
    have et2 : (upd H1 u (.tup [])) t = some (.tup (ws.map V.str)) := (same_upd nu) _ _ et1
    refine ⟨_, _, dp_strsT et2, .tup (.inl (.inl upd_same)) .nil, shaped_strsT fun y hy => (bk.each y hy).1, rfl, ?_⟩
    have e : PyData.eqv (.tuple (ws.map PyData.str)) (.tuple []) = false := by
      have := bk.one
      cases e : ws with
      | nil => rw [e] at this; exact absurd this (by decide)
      | cons _ _ => rfl
    first | exact q _ (s1.trans (same_upd nu)) | (rw [e]; exact q _ (s1.trans (same_upd nu)))
abbrev st_check_book : Stmt := topS 18
theorem sc_check_book : FnScope ["book"] ["book"] (defScope st_check_book) := ⟨rfl, rfl, rfl, by decide +kernel, rfl, by decide +kernel, by decide +kernel⟩
theorem pl_check_book : PlainB "check_book" st_check_book ["book"] := fun _ _ _ _ _ _ us hl => match us, hl with | [_], _ => rfl
def spCkBook : Sp := fun vs H Q _ => ∃ (b : Addr) (n : Nat) (ws : List Str), vs = [.ref b] ∧ BookAt H b n ws ∧ Book n ws ∧ ∀ H', Same H H' → Q .non H'
theorem ok_check_book (T : Top K mg "check_book" st_check_book) (D_is_book : Dn P w K mg base 3 "is_book" st_is_book ["value"] spBook) : Dn P w K mg base 4 "check_book" st_check_book ["book"] spCkBook := by
  refine dn_of T sc_check_book pl_check_book (fun vs H Q E h => ?_) fun f cdv A outer s H vs Q E hr h => ?_
  · obtain ⟨t, _, z, rfl, _⟩ := h; rfl
  · obtain ⟨b, n, ws, rfl, at', bk, q⟩ := h
    refine ⟨_, (pss_one (ps_if (pt_not (pt_val (pe_fn D_is_book (hr.mono (by decide)) (by rfl) (pa_cons (pv 0) pa_nil)))) (pss_one ps_never) pss_nil)), ?_⟩
    refine ⟨_, rfl, b, n, ws, rfl, at', bk, fun H' sm => ⟨_, rfl, ?_⟩⟩
    refine iteF ?_
    exact q _ sm
abbrev st_fits : Stmt := topS 23
theorem sc_fits : FnScope ["book", "ring"] ["book", "ring"] (defScope st_fits) := ⟨rfl, rfl, rfl, by decide +kernel, rfl, by decide +kernel, by decide +kernel⟩
theorem pl_fits : PlainB "fits" st_fits ["book", "ring"] := fun _ _ _ _ _ _ us hl => match us, hl with | [_, _], _ => rfl
def g_kb_fits_ring_book {A : Type} : List A → List A → List A | [], [v0, v1] => [v1, v0] | _, _ => []
theorem kb_fits_ring_book {K : PySem.W.Frag} : ∀ fd, (∃ kV doc pm an cdv ct, fd = PySem.W.fnOf "fits" "fits" (defArgs st_fits) (defBody st_fits) (defScope st_fits) .none kV doc pm an cdv ct) → KBinds K fd ["book", "ring"] ["ring", "book"] g_kb_fits_ring_book g_kb_fits_ring_book := by
  rintro fd ⟨kV, doc, pm, an, cdv, ct, rfl⟩
  refine ⟨fun s us ws _ hl => ?_, fun r q => ?_⟩
  · match us, ws, hl with
    | [], [_, _], _ => exact .of_eq rfl
  · match r, q with
    | .nil, (.cons a0 (.cons a1 .nil)) => exact (.cons a1 (.cons a0 .nil))
    | .nil, .nil => exact .nil
    | .nil, (.cons _ .nil) => exact .nil
    | .nil, (.cons _ (.cons _ (.cons _ _))) => exact .nil
    | .cons _ _, _ => exact .nil
/-- whether the windows read round are just the book's -/
def spFits : Sp := fun vs H Q _ => ∃ (b : Addr) (n : Nat) (ws ys : List Str) (z : Str), vs = [.ref b, .str z] ∧ BookAt H b n ws ∧ Book n ws ∧ Low z ∧ 1 ≤ z.length ∧ z.length ≤ 3000 ∧ Up ys (turns n (tl z)) ∧ ∀ H', Same H H' → Q (.bl (decide (ys = ws))) H'
theorem ok_fits (T : Top K mg "fits" st_fits) (B : Bt mg) (D_check_book : Dn P w K mg base 4 "check_book" st_check_book ["book"] spCkBook) (D_ring_windows : Dn P w K mg base 5 "ring_windows" st_ring_windows ["size", "ring"] spRWin) :
    Dn P w K mg base 6 "fits" st_fits ["book", "ring"] spFits := by
  refine dn_of T sc_fits pl_fits (fun vs H Q E h => ?_) fun f cdv A outer s H vs Q E hr h => ?_
  · obtain ⟨t, _, z, _, _, rfl, _⟩ := h; rfl
  · obtain ⟨b, n, ws, ys, z, rfl, at', bk, lo, z1, z2, up, q⟩ := h
    refine ⟨_, (pss_cons (ps_expr (pe_fn D_check_book (hr.mono (by decide)) (by rfl) (pa_cons (pv 0) pa_nil)))
      (pss_one (ps_ret (pe_cmpR (eqDK K rfl hr.units) (pe_fn D_ring_windows (hr.mono (by decide)) (by rfl) (pa_cons (pe_ix (ixTK K rfl) (pv 0) pe_int (fun _ _ => rfl)) (pa_cons (pv 1) pa_nil))) (pe_callTy (listK K rfl) (by rfl) B.list (by decide +kernel) (pa_cons (pe_ix (ixTK K rfl) (pv 0) pe_int (fun _ _ => rfl)) pa_nil)) (nomark _))))), ?_⟩
    refine ⟨_, rfl, b, n, ws, rfl, at', bk, fun H1 s1 => ?_⟩
    obtain ⟨t, eb, et⟩ := at'.same s1
    refine ⟨_, rfl, b, _, _, _, rfl, rfl, .inl (.inl eb), rfl, _, rfl, n, z, rfl, bk.n2, bk.n6, lo, z1, z2, fun p H2 zs np s2 up2 ep => ?_⟩
    obtain rfl : zs = ys := up2.one up fun _ => Iff.rfl
    have eb2 := s2 _ _ eb
    have et2 := s2 _ _ et
    refine ⟨_, rfl, b, _, _, _, rfl, rfl, .inl (.inl eb2), rfl, t, _, rfl, .inr (.inl (.inl et2)), fun l nl => ?_⟩
    have ep2 : (upd H2 l (.lst (ws.map V.str))) p = some (.lst (zs.map V.str)) := (same_upd nl) _ _ ep
    refine ⟨_, _, dp_strs ep2, dp_strs upd_same, shaped_strs fun y hy => ?_, shaped_strs fun y hy => (bk.each y hy).1, ?_⟩
    · exact (turns_low lo z1 ((up.2.2.1 y).mp hy)).1
    · rw [eqv_strs]
      exact q _ ((s1.trans s2).trans (same_upd nl))
abbrev st_stands_in : Stmt := topS 24
theorem sc_stands_in : FnScope ["ring", "piece"] ["ring", "piece"] (defScope st_stands_in) := ⟨rfl, rfl, rfl, by decide +kernel, rfl, by decide +kernel, by decide +kernel⟩
theorem pl_stands_in : PlainB "stands_in" st_stands_in ["ring", "piece"] := fun _ _ _ _ _ _ us hl => match us, hl with | [_, _], _ => rfl
def g_kb_stands_in_piece_ring {A : Type} : List A → List A → List A | [], [v0, v1] => [v1, v0] | _, _ => []
theorem kb_stands_in_piece_ring {K : PySem.W.Frag} : ∀ fd, (∃ kV doc pm an cdv ct, fd = PySem.W.fnOf "stands_in" "stands_in" (defArgs st_stands_in) (defBody st_stands_in) (defScope st_stands_in) .none kV doc pm an cdv ct) → KBinds K fd ["ring", "piece"] ["piece", "ring"] g_kb_stands_in_piece_ring g_kb_stands_in_piece_ring := by
  rintro fd ⟨kV, doc, pm, an, cdv, ct, rfl⟩
  refine ⟨fun s us ws _ hl => ?_, fun r q => ?_⟩
  · match us, ws, hl with
    | [], [_, _], _ => exact .of_eq rfl
  · match r, q with
    | .nil, (.cons a0 (.cons a1 .nil)) => exact (.cons a1 (.cons a0 .nil))
    | .nil, .nil => exact .nil
    | .nil, (.cons _ .nil) => exact .nil
    | .nil, (.cons _ (.cons _ (.cons _ _))) => exact .nil
    | .cons _ _, _ => exact .nil
/-- whether a text is read round -/
def spStands : Sp := fun vs H Q _ => ∃ (z x : Str) (c : Bool), vs = [.str z, .str x] ∧ Low z ∧ 1 ≤ z.length ∧ z.length ≤ 3000 ∧ Low x ∧ 1 ≤ x.length ∧ x.length ≤ 3000 ∧ (c = true ↔ Stands (tl z) (tl x)) ∧ ∀ H', Same H H' → Q (.bl c) H'
theorem ok_stands_in (T : Top K mg "stands_in" st_stands_in) (B : Bt mg) (D_check_ring : Dn P w K mg base 3 "check_ring" st_check_ring ["ring"] spCkRing) (D_is_ring : Dn P w K mg base 2 "is_ring" st_is_ring ["value"] spRing)
    (D_unrolled : Dn P w K mg base 1 "unrolled" st_unrolled ["ring", "more"] spUnroll) : Dn P w K mg base 4 "stands_in" st_stands_in ["ring", "piece"] spStands := by
  refine dn_of T sc_stands_in pl_stands_in (fun vs H Q E h => ?_) fun f cdv A outer s H vs Q E hr h => ?_
  · obtain ⟨t, _, z, rfl, _⟩ := h; rfl
  · obtain ⟨z, x, c, rfl, lz, z1, z2, lx, x1, x2, hc, q⟩ := h
    refine ⟨_, (pss_cons (ps_expr (pe_fn D_check_ring (hr.mono (by decide)) (by rfl) (pa_cons (pv 0) pa_nil)))
      (pss_cons (ps_if (pt_not (pt_val (pe_fn D_is_ring (hr.mono (by decide)) (by rfl) (pa_cons (pv 1) pa_nil)))) (pss_one ps_never) pss_nil)
      (pss_one (ps_ret (pe_cmpR op_in_str (pv 1) (pe_fn D_unrolled (hr.mono (by decide)) (by rfl) (pa_cons (pv 0) (pa_cons (pe_op op_sub (pe_callB call_len_str (by rfl) B.len (by decide +kernel) (pa_cons (pv 1) pa_nil)) pe_int) pa_nil))) (by rfl)))))), ?_⟩
    refine ⟨_, rfl, z, rfl, lz, z1, by omega, fun H1 s1 => ?_⟩
    refine ⟨_, rfl, x, rfl, lx, x1, by omega, fun H2 s2 => ⟨_, rfl, ?_⟩⟩
    refine iteF ?_
    refine ⟨_, rfl, _, rfl, _, rfl, x, rfl, Nat.le_trans (show x.length ≤ 3000 by omega) (by decide), _, _, rfl, rfl, z, x.length - 1, ?_, z1, by omega, by omega, x, _, rfl, rfl, ?_⟩
    · show [V.str z, V.int ((x.length : Int) - 1)] = [V.str z, V.int ((x.length - 1 : Nat) : Int)]
      rw [show ((x.length : Int) - 1) = ((x.length - 1 : Nat) : Int) by omega]
    · have f := found_stands (l := tl z) (x := x) (by rw [← len_tl]; omega) x1
      rw [Bool.eq_iff_iff.mpr (f.trans hc.symm)]
      exact q _ (s1.trans s2)
end
end Tx

set_option Elab.async false
set_option linter.all false
set_option maxRecDepth 100000
set_option maxHeartbeats 1000000
namespace Tx
open PySem PySem.Spec PyProof.Rows L2 TL RZ
theorem cut_twice {l : List Nat} {s : Nat} (h : s ≤ l.length) : cut (l ++ l) s l.length = seg l s l.length := by
  refine List.ext_getElem? fun k => ?_
  unfold cut
  rw [List.getElem?_take, List.getElem?_drop, seg_get]
  by_cases c : k < l.length
  · rw [if_pos c, if_pos c]
    by_cases d : s + k < l.length
    · rw [List.getElem?_append_left d, pr_get d]
    · rw [List.getElem?_append_right (by omega), pr_get (l := l) (i := s + k - l.length) (by omega)]
      refine congrArg some (pr_cong l ?_)
      exact (Nat.mod_eq_sub_mod (by omega)).symm
  · rw [if_neg c, if_neg c]
theorem twice_at {z : Str} {x : Nat} {a : Int} (e : a = (x : Int)) (h : x < 2 * z.length) : atI (z ++ z).cps.toList a = some (pr (tl z) x) := by
  have e1 : (z ++ z).cps.toList = tl z ++ tl z := tl_append z z
  have hl : (tl z).length = z.length := (len_tl z).symm
  rw [e1, e]
  refine atI_pos (by omega) ?_
  rw [Int.toNat_natCast]
  by_cases d : x < (tl z).length
  · rw [List.getElem?_append_left d, pr_get d]
  · rw [List.getElem?_append_right (by omega), pr_get (l := tl z) (i := x - (tl z).length) (by omega)]
    exact congrArg some (pr_cong _ (Nat.mod_eq_sub_mod (by omega)).symm)
theorem ring_at {z : Str} {x : Nat} {a : Int} (e : a = (x : Int)) (h : x < z.length) : atI z.cps.toList a = some (pr (tl z) x) := by
  rw [e]
  refine atI_pos (by omega) ?_
  rw [Int.toNat_natCast]
  exact pr_get (l := tl z) (by rw [← len_tl]; exact h)
theorem one_ne {c d : Nat} : decide (V.str ⟨#[c]⟩ = V.str ⟨#[d]⟩) = decide (c = d) := by
  by_cases h : c = d
  · subst h; rw [decide_eq_true rfl, decide_eq_true rfl]
  · rw [decide_eq_false h, decide_eq_false fun e => h ?_]
    have := congrArg tl (V.str.inj e)
    rw [tl_one, tl_one] at this
    exact List.head_eq_of_cons_eq this
theorem one_lt {c d : Nat} : decide ((⟨#[c]⟩ : Str).cps.toList < (⟨#[d]⟩ : Str).cps.toList) = decide (c < d) := by
  have : ([c] < [d]) ↔ c < d := by simp [List.cons_lt_cons_iff]
  exact decide_eq_decide.mpr this
theorem Dn.mono {P : Program} {w : World} {K : PySem.W.Frag} {mg : Str → Option Value} {base : Heap} {j k : Nat} {x : Str} {st : Stmt} {ps : List Str} {sp : Sp} (D : Dn P w K mg base j x st ps sp) (h : j ≤ k) : Dn P w K mg base k x st ps sp := by
  obtain ⟨f, fd, hm, F, G⟩ := D.ex
  exact ⟨⟨f, fd, hm, F, G.mono h⟩, D.plain⟩
theorem Dn.or {P : Program} {w : World} {K : PySem.W.Frag} {mg : Str → Option Value} {base : Heap} {k : Nat} {x : Str} {st : Stmt} {ps : List Str} {sp sp' : Sp} (D : Dn P w K mg base k x st ps sp) (D' : Dn P w K mg base k x st ps sp') :
    Dn P w K mg base k x st ps (fun vs H Q E => sp vs H Q E ∨ sp' vs H Q E) := by
  obtain ⟨f, fd, hm, F, G⟩ := D.ex
  obtain ⟨f', fd', hm', F', G'⟩ := D'.ex
  rw [hm] at hm'
  cases hm'
  have e : fd = fd' := by
    obtain ⟨_, _, _, _, _, _, _, _, _, _, l, _⟩ := F.ex
    obtain ⟨_, _, _, _, _, _, _, _, _, _, l', _⟩ := F'.ex
    rw [l] at l'
    injection l' with e
    injection e with e1 e2 e3 e4
    injection e3
  subst e
  exact ⟨⟨f, fd, hm, F, ⟨fun vs H Q E h => h.elim (G.len vs H Q E) (G'.len vs H Q E), fun A outer s H args us vs Q E r v b z h => h.elim (G.run A outer s H args us vs Q E r v b z) (G'.run A outer s H args us vs Q E r v b z)⟩⟩, D.plain⟩
section
variable {P : Program} {w : World} {K : PySem.W.Frag} {mg : Str → Option Value} {base : Heap}
end
end Tx

set_option Elab.async false
set_option linter.all false
set_option maxRecDepth 100000
set_option maxHeartbeats 1000000
namespace Tx
open PySem PySem.Spec PyProof.Rows L2 TL RZ
theorem eqvAll_ints0 (ns : List Int) : PyData.eqv (.list (ns.map PyData.int)) (.list []) = decide (ns = []) := by
  cases ns with
  | nil => rfl
  | cons n ns => simp [PyData.eqv, PyData.eqvAll]
theorem lay_ints : ∀ ns : List Int, PyData.canLayAll0 (ns.map PyData.int) = true ∧ PyData.depthAll (ns.map PyData.int) = 0
  | [] => ⟨rfl, rfl⟩
  | n :: ns => by
    have ih := lay_ints ns
    simp only [List.map_cons, PyData.canLayAll0, PyData.depthAll, PyData.canLay0, PyData.depth, ih.1, ih.2]
    simp
theorem shaped_ints (ns : List Int) : SeqAt.shaped (.list (ns.map PyData.int)) = true := by
  unfold SeqAt.shaped
  simp only [PyData.canLay0, PyData.depth, (lay_ints ns).1, (lay_ints ns).2]
  decide
theorem dp_ints {K : PySem.W.Frag} {H : Hp} : ∀ ns : List Int, DpAll K H (ns.map V.int) (ns.map PyData.int)
  | [] => .nil
  | n :: ns => .cons (.int n) (dp_ints ns)
theorem cutS_from (z : Str) (p : Nat) (h : p ≤ z.length) : cutS z (some (p : Int)) none = mkS ((tl z).drop p) := by
  refine ext_tl ?_
  unfold cutS
  rw [HT.sIx_nat, HT.sIx_none, Nat.min_eq_left h]
  show ((tl z).drop p).take (z.length - p) = _
  rw [List.take_of_length_le (by rw [List.length_drop, ← len_tl]; exact Nat.le_refl _)]
  rfl
theorem rot_str (z : Str) (p : Nat) : mkS ((tl z).drop p) ++ mkS ((tl z).take p) = mkS (rot (tl z) p) := by
  refine ext_tl ?_
  rw [tl_append]; rfl
theorem seg_of {l : List Nat} {x : Str} {a : Nat} (h : ∀ k, k < x.length → (tl x)[k]? = some (pr l (a + k))) : tl x = seg l a (tl x).length := by
  refine List.ext_getElem? fun k => ?_
  rw [seg_get, ← len_tl]
  by_cases c : k < x.length
  · rw [if_pos c, h k c]
  · rw [if_neg c, List.getElem?_eq_none (by rw [← len_tl]; omega)]
theorem of_seg {l : List Nat} {x : Str} {a : Nat} (h : tl x = seg l a (tl x).length) (k : Nat) (hk : k < x.length) : (tl x)[k]? = some (pr l (a + k)) := by
  rw [h, seg_get, if_pos (by rw [← len_tl]; exact hk)]
section
variable {P : Program} {w : World} {K : PySem.W.Frag} {mg : Str → Option Value} {base : Heap}
theorem least_of {z m : Str} {zs : List Str} (h1 : 1 ≤ z.length) (ez : zs = (List.range z.length).map fun p => mkS (rot (tl z) p)) (hm : m ∈ zs) (le : ∀ y ∈ zs, tl m ≤ tl y) : Least (tl z) (tl m) := by
  have hl : 0 < (tl z).length := by rw [← len_tl]; omega
  subst ez
  obtain ⟨p, hp, rfl⟩ := List.mem_map.mp hm
  have hp := List.mem_range.mp hp
  refine ⟨⟨p, rot_seg (by rw [← len_tl]; omega)⟩, fun r => ?_⟩
  have lt := Nat.mod_lt r hl
  have := le (mkS (rot (tl z) (r % (tl z).length))) (List.mem_map.mpr ⟨_, List.mem_range.mpr (by rw [len_tl]; exact lt), rfl⟩)
  have e1 : tl (mkS (rot (tl z) (r % (tl z).length))) = seg (tl z) (r % (tl z).length) (tl z).length := rot_seg (Nat.le_of_lt lt)
  rw [e1, seg_mod] at this
  exact this
abbrev st_law_stands : Stmt := topS 40
theorem sc_law_stands : FnScope ["ring", "piece", "beads", "at", "k"] ["ring", "piece"] (defScope st_law_stands) := ⟨rfl, rfl, rfl, by decide +kernel, rfl, by decide +kernel, by decide +kernel⟩
theorem pl_law_stands : PlainB "_law_stands" st_law_stands ["ring", "piece"] := fun _ _ _ _ _ _ us hl => match us, hl with | [_, _], _ => rfl
theorem ok_law_stands (T : Top K mg "_law_stands" st_law_stands) (B : Bt mg) : Dn P w K mg base 1 "_law_stands" st_law_stands ["ring", "piece"] spStands := by
  refine dn_of T sc_law_stands pl_law_stands (fun vs H Q E h => ?_) fun f cdv A outer s H vs Q E hr h => ?_
  · obtain ⟨t, _, z, rfl, _⟩ := h; rfl
  · obtain ⟨z, x, c, rfl, lz, z1, z2, lx, x1, x2, hc, q⟩ := h
    have sz : z.length ≤ sizeLine := Nat.le_trans z2 (by decide)
    have sx : x.length ≤ sizeLine := Nat.le_trans x2 (by decide)
    have hl : 0 < (tl z).length := by rw [← len_tl]; omega
    have ln : (tl z).length = z.length := (len_tl z).symm
    have x0 : (tl x)[0]? = some (tl x)[0] := List.getElem?_eq_getElem (by rw [← len_tl]; omega)
    refine ⟨_, (pss_cons (ps_set (i := 2) sc_law_stands.nd rfl (.inr rfl) (pe_callB call_len_str (by rfl) B.len (by decide +kernel) (pa_cons (pv 0) pa_nil)))
      (pss_cons (ps_for PassesOwn.never rfl (pi_range1 (by rfl) B.range (pa_cons (pv 2) pa_nil)) (pg_name (i := 3) sc_law_stands.nd rfl (.inr rfl)) (pss_one (ps_if (PW.pt (pw_and (pt_cmpR op_eq (pe_ix ix_str (pv 0) (pv 3) (fun _ _ => rfl)) (pe_ix ix_str (pv 1) pe_int (fun _ _ => rfl)) (nomark _)) (pw_and1 (pt_cmpR (eqDK K rfl hr.units) (pe_lc (own := [("k", 4)]) (g := gName 4) rfl sc_law_stands.nd (pi_range1 (by rfl) B.range (pa_cons (pe_callB call_len_str (by rfl) B.len (by decide +kernel) (pa_cons (pv 1) pa_nil)) pa_nil)) (blkOk_by (N := ["ring", "piece", "beads", "at", "k"]) (sc := defScope st_law_stands) (by decide +kernel)) (fun _ _ _ _ _ => (pg_name (i := 4) sc_law_stands.nd rfl (.inl rfl))) (fun _ _ _ _ _ => (pts_one (pt_cmpR op_ne (pe_ix ix_str (pv 1) (pv 4) (fun _ _ => rfl)) (pe_ix ix_str (pv 0) (pe_op op_modN (pe_callTy call_int1 (by rfl) B.int (by decide +kernel) (pa_cons (pe_op op_add (pv 3) (pv 4)) pa_nil)) (pv 2)) (fun _ _ => rfl)) (nomark _)))) (fun _ _ _ _ _ => (pv 4))) (pe_lst pa_nil) (nomark _))))) (pss_one (ps_ret pe_bl)) pss_nil)))
      (pss_one (ps_ret pe_bl)))), ?_⟩
    refine ⟨_, rfl, z, rfl, sz, _, rfl, _, rfl, by omega, by omega, ?_⟩
    rw [Int.toNat_natCast]
    refine for_range (fun i σ H' => (∀ a, a < i → ¬ tl x = seg (tl z) a (tl x).length) ∧ Same H H' ∧ ∃ o, σ = [some (.str z), some (.str x), some (.int z.length), o, none]) ⟨fun a h => absurd h (Nat.not_lt_zero _), Same.refl _, none, rfl⟩ (fun i σ H' hi ⟨no, sm, o, eσ⟩ => ?_) fun σ H' ⟨no, sm, o, eσ⟩ => ?_
    · subst eσ
      refine ⟨_, rfl, _, rfl, z, _, pr (tl z) i, rfl, rfl, sz, ring_at (by omega) hi, _, rfl, x, _, (tl x)[0], rfl, rfl, sx, atI_pos (by decide) x0, rfl, _, rfl, ?_⟩
      rw [one_ne]
      refine ite2 (fun e => ?_) fun e => ?_
      · have e := of_decide_eq_true e
        refine ⟨_, rfl, x, rfl, sx, _, rfl, by omega, by omega, fun D hD => ?_⟩
        rw [Int.toNat_natCast]
        refine lc_range (fun j H2 => Same H' H2 ∧ ∃ ns : List Int, ns.length ≤ j ∧ H2 D = some (.lst (ns.map V.int)) ∧ (ns = [] ↔ ∀ k, k < j → (tl x)[k]? = some (pr (tl z) (i + k)))) ⟨same_upd hD, [], Nat.le_refl _, upd_same, ⟨fun _ k h => absurd h (Nat.not_lt_zero _), fun _ => rfl⟩⟩ (fun j H2 hj ⟨sm2, ns, nl, e2, ne⟩ => ?_) fun H2 ⟨sm2, ns, nl, e2, ne⟩ => ?_
        · have xj : (tl x)[j]? = some ((tl x)[j]'(by rw [← len_tl]; exact hj)) := List.getElem?_eq_getElem (by rw [← len_tl]; exact hj)
          have em : (((0 : Int) + (i : Int)) + ((0 : Int) + (j : Int))).fmod (z.length : Int) = (((i + j) % (tl z).length : Nat) : Int) := by
            rw [Int.fmod_eq_emod_of_nonneg _ (by omega), len_tl, show ((0 : Int) + (i : Int)) + ((0 : Int) + (j : Int)) = ((i + j : Nat) : Int) by omega]; rfl
          have ltm := Nat.mod_lt (i + j) hl
          refine ⟨rfl, ?_⟩
          refine ⟨_, rfl, _, rfl, x, _, _, rfl, rfl, sx, atI_pos (by omega) (by rw [show ((0 : Int) + (j : Int)).toNat = j by omega]; exact xj), _, rfl, _, rfl, _, rfl, _, _, rfl, rfl, .inl ⟨_, rfl, _, rfl, _, _, rfl, rfl, by omega, z, _, pr (tl z) (i + j), rfl, rfl, sz, ?_, rfl, _, rfl, ?_⟩⟩
          · rw [em, ← pr_mod]; exact ring_at rfl (by omega)
          rw [one_ne]
          by_cases d : (tl x)[j]'(by rw [← len_tl]; exact hj) = pr (tl z) (i + j)
          · rw [decide_eq_true d]
            refine iteF ?_
            refine ⟨sm2, ns, by omega, e2, ne.trans ⟨fun h k hk => ?_, fun h k hk => h k (by omega)⟩⟩
            rcases Nat.lt_or_ge k j with lt | ge
            · exact h k lt
            · obtain rfl : k = j := by omega
              rw [xj, d]
          · rw [decide_eq_false d]
            refine iteT ?_
            refine ⟨_, rfl, _, e2, by rw [List.length_map]; exact Nat.lt_of_lt_of_le (show ns.length < 3000 by omega) (by decide), wr sm2 hD, ns ++ [(0 : Int) + (j : Int)], by rw [List.length_append]; exact Nat.add_le_add_right nl 1, by rw [upd_same, List.map_append]; rfl, ⟨fun h => by simp at h, fun h => ?_⟩⟩
            have := h j (Nat.lt_succ_self j)
            rw [xj] at this
            exact absurd (Option.some.inj this) d
        · refine ⟨by show 0 ≤ sizeLine; decide, fun l nl' => ⟨.list (ns.map PyData.int), .list [], .lst (.inl (.inl ((same_upd nl') _ _ e2))) (dp_ints ns), .lst (.inl (.inl upd_same)) .nil, shaped_ints ns, by decide, _, rfl, ?_⟩⟩
          have s3 : Same H (upd H2 l (.lst [])) := (sm.trans sm2).trans (same_upd nl')
          rw [eqvAll_ints0]
          refine ite2 (fun h => ?_) fun h => ?_
          · have h := ne.mp (of_decide_eq_true h)
            have ct : c = true := hc.mpr ⟨i, seg_of h⟩
            subst ct
            exact q _ s3
          · refine ⟨fun a ha => ?_, s3, _, rfl⟩
            rcases Nat.lt_or_ge a i with lt | ge
            · exact no a lt
            · obtain rfl : a = i := by omega
              exact fun e' => h (decide_eq_true (ne.mpr (of_seg e')))
      · refine iteF ?_
        refine ⟨fun a ha => ?_, sm, _, rfl⟩
        rcases Nat.lt_or_ge a i with lt | ge
        · exact no a lt
        · obtain rfl : a = i := by omega
          refine fun e' => e (decide_eq_true ?_)
          have := of_seg e' 0 (by omega)
          rw [x0] at this
          exact (Option.some.inj this).symm
    · have cf : c = false := by
        refine Bool.eq_false_iff.mpr fun ct => ?_
        obtain ⟨a, ea⟩ := hc.mp ct
        refine no (a % (tl z).length) (by rw [← ln]; exact Nat.mod_lt a hl) ?_
        rw [seg_mod]; exact ea
      subst cf
      exact q _ sm
end
end Tx

set_option Elab.async false
set_option linter.all false
set_option maxRecDepth 100000
set_option maxHeartbeats 1000000
namespace Tx
open PySem PySem.Spec PyProof.Rows L2 TL RZ
theorem if_step {S : Bool → Hp → Prop} {P : V → Hp → Prop} {t : TT} {ta tb : TE} {σ : L2.St} {H : Hp} {Q : VK} (ht : ∀ R : Bool → Hp → Prop, (∀ b H1, S b H1 → R b H1) → t σ H R) (ha : ∀ H1, S true H1 → ∀ Q : VK, (∀ v H', P v H' → Q v H') → ta σ H1 Q)
    (hb : ∀ H1, S false H1 → ∀ Q : VK, (∀ v H', P v H' → Q v H') → tb σ H1 Q) (q : ∀ v H', P v H' → Q v H') : tIf t ta tb σ H Q := by
  refine ht _ fun b H1 s => ?_
  cases b with
  | true => exact iteT (ha H1 s Q q)
  | false => exact iteF (hb H1 s Q q)
theorem seq_if {c : TT} {ta tb rest : TS} {D : Ends} {σ : L2.St} {H : Hp} (R : L2.St → Hp → Prop) (hr : ∀ σ' H', R σ' H' → rest D σ' H') (h : (∀ σ' H', R σ' H' → rest D σ' H') → tIfS c ta tb { D with nx := rest D } σ H) : tSeq (tIfS c ta tb) rest D σ H := h hr
theorem rgV0 (n : Nat) : rgV 0 (n : Int) = (List.range n).map fun k : Nat => V.int (k : Int) := by
  unfold rgV
  rw [show ((n : Int) - 0).toNat = n by omega]
  refine List.map_congr_left fun k _ => ?_
  rw [show ((0 : Int) + ((k : Nat) : Int)) = (k : Int) by omega]
theorem Src.ne {H : Hp} {p a : Addr} {n : Nat} {xs : List V} (s : Src H p n) (e : H a = some (.tup xs)) : a ≠ p := fun h => by
  subst h
  obtain ⟨_, _, _, e', _⟩ := s
  rw [e'] at e
  cases e
theorem ne_lt {H : Hp} {a F : Addr} {xs ys : List V} (e : H a = some (.tup xs)) (f : H F = some (.lst ys)) : a ≠ F := fun h => by
  subst h; rw [e] at f; cases f
/-- a turned text and how many times -/
def TurnAt (H : Hp) (a : Addr) (z : Str) : Prop := ∃ p t : Nat, H a = some (.tup [.str (mkS (rot (tl z) p)), .int t]) ∧ p ≤ z.length ∧ 1 ≤ t ∧ t ≤ 5
theorem TurnAt.but {H H' : Hp} {p a : Addr} {z : Str} {n : Nat} (k : TurnAt H a z) (bt : But p H H') (sr : Src H p n) : TurnAt H' a z := by
  obtain ⟨x, t, e, r⟩ := k
  exact ⟨x, t, bt.kept e (sr.ne e), r⟩
theorem TurnAt.set {H : Hp} {a F : Addr} {z : Str} {ys : List V} {o : HO} (k : TurnAt H a z) (f : H F = some (.lst ys)) : TurnAt (upd H F o) a z := by
  obtain ⟨x, t, e, r⟩ := k
  exact ⟨x, t, keep_ne' e (ne_lt e f), r⟩
where keep_ne' {H : Hp} {a b : Addr} {o u : HO} (e : H a = some o) (n : a ≠ b) : (upd H b u) a = some o := by rw [upd_ne n]; exact e
theorem TurnAt.same {H H' : Hp} {a : Addr} {z : Str} (k : TurnAt H a z) (s : Same H H') : TurnAt H' a z := let ⟨x, t, e, r⟩ := k; ⟨x, t, s _ _ e, r⟩
def TurnsAt (H : Hp) (q : Addr) (z : Str) : Prop := ∃ as : List Addr, H q = some (.lst (as.map V.ref)) ∧ as.length ≤ 20 ∧ ∀ a ∈ as, TurnAt H a z
theorem if_anyH {P : V → Hp → Prop} {t : TT} {ta tb : TE} {σ : L2.St} {H : Hp} {Q : VK} (b : Bool) (ht : ∀ R : Bool → Hp → Prop, R b H → t σ H R) (ha : b = true → ∀ Q : VK, (∀ v H', P v H' → Q v H') → ta σ H Q)
    (hb : b = false → ∀ Q : VK, (∀ v H', P v H' → Q v H') → tb σ H Q) (q : ∀ v H', P v H' → Q v H') : tIf t ta tb σ H Q := by
  refine ht _ ?_
  cases b with
  | true => exact iteT (ha rfl Q q)
  | false => exact iteF (hb rfl Q q)
theorem lt_line {n : Nat} (h : n ≤ 100000) : n < sizeLine := Nat.lt_of_le_of_lt h (by decide)
theorem keep_ne {H : Hp} {a b : Addr} {o u : HO} (e : H a = some o) (n : a ≠ b) : (upd H b u) a = some o := by rw [upd_ne n]; exact e
theorem Src.set {H : Hp} {p F : Addr} {n : Nat} {o : HO} (s : Src H p n) (h : F ≠ p) : Src (upd H F o) p n := by
  obtain ⟨a, b, c, e, r⟩ := s
  exact ⟨a, b, c, by rw [upd_ne h.symm]; exact e, r⟩
section
variable {P : Program} {w : World} {K : PySem.W.Frag} {mg : Str → Option Value} {base : Heap}
abbrev st_law_same : Stmt := topS 36
theorem sc_law_same : FnScope ["found", "due", "at"] ["found", "due"] (defScope st_law_same) := ⟨rfl, rfl, rfl, by decide +kernel, rfl, by decide +kernel, by decide +kernel⟩
theorem pl_law_same : PlainB "_law_same" st_law_same ["found", "due"] := fun _ _ _ _ _ _ us hl => match us, hl with | [_, _], _ => rfl
/-- of two equal texts: True -/
def spSame0 : Sp := fun vs H Q _ => (∃ z : Str, vs = [.str z, .str z] ∧ Q (.bl true) H) ∨ ∃ b : Bool, vs = [.bl b, .bl b] ∧ Q (.bl true) H
/-- of two lists of the same texts: True -/
def spSame1 : Sp := fun vs H Q _ => ∃ (p q : Addr) (xs : List V), vs = [.ref p, .ref q] ∧ H p = some (.lst xs) ∧ H q = some (.lst xs) ∧ xs.length ≤ 100000 ∧ (∀ v ∈ xs, (∃ z, v = V.str z) ∨ ∃ b, v = V.bl b) ∧ ∀ H', Same H H' → Q (.bl true) H'
def spSame : Sp := fun vs H Q E => spSame0 vs H Q E ∨ spSame1 vs H Q E
/-- a call that is never made -/
theorem dn_void {x : Str} {st : Stmt} {ps : List Str} (T : Top K mg x st) (pl : PlainB x st ps) : Dn P w K mg base 1 x st ps fun _ _ _ _ => False := by
  obtain ⟨f, fd, hm, F⟩ := T
  exact ⟨⟨f, fd, hm, F, fun _ _ _ _ h => h.elim, fun _ _ _ _ _ _ _ _ _ _ _ _ _ h => h.elim⟩, pl⟩
theorem ok_same0 (T : Top K mg "_law_same" st_law_same) (B : Bt mg) : Dn P w K mg base 2 "_law_same" st_law_same ["found", "due"] spSame0 := by
  refine dn_of T sc_law_same pl_law_same (fun vs H Q E h => ?_) fun f cdv A outer s H vs Q E hr h => ?_
  · rcases h with ⟨a, rfl, _⟩ | ⟨a, rfl, _⟩ <;> rfl
  · have D_law_same : Dn P w K mg base 1 "_law_same" st_law_same ["found", "due"] fun _ _ _ _ => False := dn_void T pl_law_same
    refine ⟨_, (pss_cons (ps_if (PW.pt (pw_or (pt_val (pe_callB (isiK K rfl) (by rfl) B.isi (by decide +kernel) (pa_cons (pv 1) (pa_cons (pe_bltn (v := .ty "list") (by rfl) B.list (by decide +kernel) rfl) pa_nil)))) (pw_or1 (pt_val (pe_callB (isiK K rfl) (by rfl) B.isi (by decide +kernel) (pa_cons (pv 1) (pa_cons (pe_bltn (v := .ty "tuple") (by rfl) B.tuple (by decide +kernel) rfl) pa_nil))))))) (pss_cons (ps_if (PW.pt (pw_or (pt_cmpR op_ne (pe_callB (isiK K rfl) (by rfl) B.isi (by decide +kernel) (pa_cons (pv 0) (pa_cons (pe_bltn (v := .ty "list") (by rfl) B.list (by decide +kernel) rfl) pa_nil))) (pe_callB (isiK K rfl) (by rfl) B.isi (by decide +kernel) (pa_cons (pv 1) (pa_cons (pe_bltn (v := .ty "list") (by rfl) B.list (by decide +kernel) rfl) pa_nil))) (nomark _)) (pw_or1 (pt_cmpR op_ne (pe_callB (isiK K rfl) (by rfl) B.isi (by decide +kernel) (pa_cons (pv 0) (pa_cons (pe_bltn (v := .ty "tuple") (by rfl) B.tuple (by decide +kernel) rfl) pa_nil))) (pe_callB (isiK K rfl) (by rfl) B.isi (by decide +kernel) (pa_cons (pv 1) (pa_cons (pe_bltn (v := .ty "tuple") (by rfl) B.tuple (by decide +kernel) rfl) pa_nil))) (nomark _))))) (pss_one (ps_ret pe_bl)) pss_nil)
      (pss_one (ps_ret (pe_and (pe_cmpR op_eq (pe_callB (lenK K rfl) (by rfl) B.len (by decide +kernel) (pa_cons (pv 0) pa_nil)) (pe_callB (lenK K rfl) (by rfl) B.len (by decide +kernel) (pa_cons (pv 1) pa_nil)) (nomark _)) (pe_one (pe_callB (allK K rfl rfl) (by rfl) B.all (by decide +kernel) (pa_cons (pe_lc (own := [("at", 2)]) (g := gName 2) rfl sc_law_same.nd (pi_range1 (by rfl) B.range (pa_cons (pe_callB (lenK K rfl) (by rfl) B.len (by decide +kernel) (pa_cons (pv 1) pa_nil)) pa_nil)) (blkOk_by (N := ["found", "due", "at"]) (sc := defScope st_law_same) (by decide +kernel)) (fun _ _ _ _ _ => (pg_name (i := 2) sc_law_same.nd rfl (.inl rfl))) (fun _ _ _ _ _ => pts_nil) (fun _ _ _ _ _ => (pe_fn D_law_same (hr.mono (by decide)) (by rfl) (pa_cons (pe_ix (ixK K rfl) (pv 0) (pv 2) (fun _ _ => rfl)) (pa_cons (pe_ix (ixK K rfl) (pv 1) (pv 2) (fun _ _ => rfl)) pa_nil))))) pa_nil))))))) pss_nil)
      (pss_cons (ps_if (pt_val (pe_callB (isiK K rfl) (by rfl) B.isi (by decide +kernel) (pa_cons (pv 1) (pa_cons (pe_bltn (v := .ty "bool") (by rfl) B.bool (by decide +kernel) rfl) pa_nil)))) (pss_one (ps_ret (pe_and (pe_callB (isiK K rfl) (by rfl) B.isi (by decide +kernel) (pa_cons (pv 0) (pa_cons (pe_bltn (v := .ty "bool") (by rfl) B.bool (by decide +kernel) rfl) pa_nil))) (pe_one (pe_cmpR op_eq (pv 0) (pv 1) (nomark _)))))) pss_nil)
      (pss_cons (ps_if (pt_val (pe_callB (isiK K rfl) (by rfl) B.isi (by decide +kernel) (pa_cons (pv 1) (pa_cons (pe_bltn (v := .ty "str") (by rfl) B.str (by decide +kernel) rfl) pa_nil)))) (pss_one (ps_ret (pe_and (pe_callB (isiK K rfl) (by rfl) B.isi (by decide +kernel) (pa_cons (pv 0) (pa_cons (pe_bltn (v := .ty "str") (by rfl) B.str (by decide +kernel) rfl) pa_nil))) (pe_one (pe_cmpR op_eq (pv 0) (pv 1) (nomark _)))))) pss_nil)
      (pss_one (ps_ret (pe_cmpR op_isN (pv 0) pe_non (nomark _))))))), ?_⟩
    rcases h with ⟨z, rfl, q⟩ | ⟨z, rfl, q⟩
    · refine ⟨_, rfl, .str z, .ty "list", _, _, false, rfl, .ty _, .base (.str z), kit_ty (by decide +kernel), false, rfl, ?_⟩
      refine iteF ?_
      refine ⟨_, rfl, .str z, .ty "tuple", _, _, false, rfl, .ty _, .base (.str z), kit_ty (by decide +kernel), false, rfl, ?_⟩
      refine iteF ?_
      refine ⟨_, rfl, .str z, .ty "bool", _, _, false, rfl, .ty _, .base (.str z), kit_ty (by decide +kernel), false, rfl, ?_⟩
      refine iteF ?_
      refine ⟨_, rfl, .str z, .ty "str", _, _, true, rfl, .ty _, .base (.str z), kit_ty (by decide +kernel), true, rfl, ?_⟩
      refine iteT ?_
      refine ⟨_, rfl, .str z, .ty "str", _, _, true, rfl, .ty _, .base (.str z), kit_ty (by decide +kernel), true, rfl, ?_⟩
      refine iteT ?_
      refine ⟨_, rfl, _, rfl, rfl, ?_⟩
      show Q (.bl (decide (V.str z = V.str z))) H
      rw [decide_eq_true rfl]
      exact q
    · refine ⟨_, rfl, .bl z, .ty "list", _, _, false, rfl, .ty _, .base (.bl z), kit_ty (by decide +kernel), false, rfl, ?_⟩
      refine iteF ?_
      refine ⟨_, rfl, .bl z, .ty "tuple", _, _, false, rfl, .ty _, .base (.bl z), kit_ty (by decide +kernel), false, rfl, ?_⟩
      refine iteF ?_
      refine ⟨_, rfl, .bl z, .ty "bool", _, _, true, rfl, .ty _, .base (.bl z), kit_ty (by decide +kernel), true, rfl, ?_⟩
      refine iteT ?_
      refine ⟨_, rfl, .bl z, .ty "bool", _, _, true, rfl, .ty _, .base (.bl z), kit_ty (by decide +kernel), true, rfl, ?_⟩
      refine iteT ?_
      refine ⟨_, rfl, _, rfl, rfl, ?_⟩
      show Q (.bl (decide (V.bl z = V.bl z))) H
      rw [decide_eq_true rfl]
      exact q
theorem ok_same1 (T : Top K mg "_law_same" st_law_same) (B : Bt mg) (D_law_same : Dn P w K mg base 2 "_law_same" st_law_same ["found", "due"] spSame0) : Dn P w K mg base 3 "_law_same" st_law_same ["found", "due"] spSame1 := by
  refine dn_of T sc_law_same pl_law_same (fun vs H Q E h => ?_) fun f cdv A outer s H vs Q E hr h => ?_
  · obtain ⟨a, b, c, rfl, _⟩ := h; rfl
  · obtain ⟨p, p', xs, rfl, e1, e2, hx, hv, q⟩ := h
    refine ⟨_, (pss_cons (ps_if (PW.pt (pw_or (pt_val (pe_callB (isiK K rfl) (by rfl) B.isi (by decide +kernel) (pa_cons (pv 1) (pa_cons (pe_bltn (v := .ty "list") (by rfl) B.list (by decide +kernel) rfl) pa_nil)))) (pw_or1 (pt_val (pe_callB (isiK K rfl) (by rfl) B.isi (by decide +kernel) (pa_cons (pv 1) (pa_cons (pe_bltn (v := .ty "tuple") (by rfl) B.tuple (by decide +kernel) rfl) pa_nil))))))) (pss_cons (ps_if (PW.pt (pw_or (pt_cmpR op_ne (pe_callB (isiK K rfl) (by rfl) B.isi (by decide +kernel) (pa_cons (pv 0) (pa_cons (pe_bltn (v := .ty "list") (by rfl) B.list (by decide +kernel) rfl) pa_nil))) (pe_callB (isiK K rfl) (by rfl) B.isi (by decide +kernel) (pa_cons (pv 1) (pa_cons (pe_bltn (v := .ty "list") (by rfl) B.list (by decide +kernel) rfl) pa_nil))) (nomark _)) (pw_or1 (pt_cmpR op_ne (pe_callB (isiK K rfl) (by rfl) B.isi (by decide +kernel) (pa_cons (pv 0) (pa_cons (pe_bltn (v := .ty "tuple") (by rfl) B.tuple (by decide +kernel) rfl) pa_nil))) (pe_callB (isiK K rfl) (by rfl) B.isi (by decide +kernel) (pa_cons (pv 1) (pa_cons (pe_bltn (v := .ty "tuple") (by rfl) B.tuple (by decide +kernel) rfl) pa_nil))) (nomark _))))) (pss_one (ps_ret pe_bl)) pss_nil)
      (pss_one (ps_ret (pe_and (pe_cmpR op_eq (pe_callB (lenK K rfl) (by rfl) B.len (by decide +kernel) (pa_cons (pv 0) pa_nil)) (pe_callB (lenK K rfl) (by rfl) B.len (by decide +kernel) (pa_cons (pv 1) pa_nil)) (nomark _)) (pe_one (pe_callB (allK K rfl rfl) (by rfl) B.all (by decide +kernel) (pa_cons (pe_lc (own := [("at", 2)]) (g := gName 2) rfl sc_law_same.nd (pi_range1 (by rfl) B.range (pa_cons (pe_callB (lenK K rfl) (by rfl) B.len (by decide +kernel) (pa_cons (pv 1) pa_nil)) pa_nil)) (blkOk_by (N := ["found", "due", "at"]) (sc := defScope st_law_same) (by decide +kernel)) (fun _ _ _ _ _ => (pg_name (i := 2) sc_law_same.nd rfl (.inl rfl))) (fun _ _ _ _ _ => pts_nil) (fun _ _ _ _ _ => (pe_fn D_law_same (hr.mono (by decide)) (by rfl) (pa_cons (pe_ix (ixK K rfl) (pv 0) (pv 2) (fun _ _ => rfl)) (pa_cons (pe_ix (ixK K rfl) (pv 1) (pv 2) (fun _ _ => rfl)) pa_nil))))) pa_nil))))))) pss_nil)
      (pss_cons (ps_if (pt_val (pe_callB (isiK K rfl) (by rfl) B.isi (by decide +kernel) (pa_cons (pv 1) (pa_cons (pe_bltn (v := .ty "bool") (by rfl) B.bool (by decide +kernel) rfl) pa_nil)))) (pss_one (ps_ret (pe_and (pe_callB (isiK K rfl) (by rfl) B.isi (by decide +kernel) (pa_cons (pv 0) (pa_cons (pe_bltn (v := .ty "bool") (by rfl) B.bool (by decide +kernel) rfl) pa_nil))) (pe_one (pe_cmpR op_eq (pv 0) (pv 1) (nomark _)))))) pss_nil)
      (pss_cons (ps_if (pt_val (pe_callB (isiK K rfl) (by rfl) B.isi (by decide +kernel) (pa_cons (pv 1) (pa_cons (pe_bltn (v := .ty "str") (by rfl) B.str (by decide +kernel) rfl) pa_nil)))) (pss_one (ps_ret (pe_and (pe_callB (isiK K rfl) (by rfl) B.isi (by decide +kernel) (pa_cons (pv 0) (pa_cons (pe_bltn (v := .ty "str") (by rfl) B.str (by decide +kernel) rfl) pa_nil))) (pe_one (pe_cmpR op_eq (pv 0) (pv 1) (nomark _)))))) pss_nil)
      (pss_one (ps_ret (pe_cmpR op_isN (pv 0) pe_non (nomark _))))))), ?_⟩
    refine ⟨_, rfl, .ref p', .ty "list", _, _, true, rfl, .ty _, .base (.lst e2), kit_ty (by decide +kernel), true, rfl, ?_⟩
    refine iteT ?_
    refine ⟨_, rfl, .ref p, .ty "list", _, _, true, rfl, .ty _, .base (.lst e1), kit_ty (by decide +kernel), _, rfl, .ref p', .ty "list", _, _, true, rfl, .ty _, .base (.lst e2), kit_ty (by decide +kernel), rfl, _, rfl, ?_⟩
    refine iteNS rfl ?_
    refine ⟨_, rfl, .ref p, .ty "tuple", _, _, false, rfl, .ty _, .base (.lst e1), kit_ty (by decide +kernel), _, rfl, .ref p', .ty "tuple", _, _, false, rfl, .ty _, .base (.lst e2), kit_ty (by decide +kernel), rfl, _, rfl, ?_⟩
    refine iteNS rfl ?_
    refine ⟨_, rfl, p, _, rfl, .inl (.inl (.inl e1)), _, rfl, p', _, rfl, .inl (.inl (.inl e2)), rfl, _, rfl, ?_⟩
    rw [decide_eq_true rfl]
    refine iteT ?_
    refine ⟨_, rfl, p', _, rfl, .inl (.inl (.inl e2)), _, rfl, by omega, by omega, fun D hD => ?_⟩
    rw [Int.toNat_natCast]
    refine lc_range (fun i H' => Same H H' ∧ H' D = some (.lst ((List.range i).map fun _ => V.bl true))) ⟨same_upd hD, upd_same⟩ (fun i H' hi ⟨sm, e⟩ => ?_) fun H' ⟨sm, e⟩ => ?_
    · refine ⟨rfl, lc_yes ?_⟩
      have g2 : atI xs ((0 : Int) + (i : Int)) = some xs[i] := by
        rw [show ((0 : Int) + (i : Int)) = (i : Int) by omega]; exact atI_pos (by omega) (by rw [Int.toNat_natCast]; exact List.getElem?_eq_getElem hi)
      have fin : spSame0 [xs[i], xs[i]] H' (fun y H4 => ∃ acc, H4 D = some (.lst acc) ∧ acc.length < sizeLine ∧ (Same H (upd H4 D (.lst (acc ++ [y]))) ∧ (upd H4 D (.lst (acc ++ [y]))) D = some (.lst ((List.range (i + 1)).map fun _ => V.bl true)))) E0 := by
        have k : ∃ acc, H' D = some (.lst acc) ∧ acc.length < sizeLine ∧ (Same H (upd H' D (.lst (acc ++ [V.bl true]))) ∧ (upd H' D (.lst (acc ++ [V.bl true]))) D = some (.lst ((List.range (i + 1)).map fun _ => V.bl true))) :=
          ⟨_, e, grown_len _ hi (by omega), wr sm hD, by rw [upd_same, grown fun _ => V.bl true]⟩
        rcases hv _ (List.getElem_mem hi) with ⟨z, ez⟩ | ⟨z, ez⟩
        · rw [ez]; exact .inl ⟨z, rfl, k⟩
        · rw [ez]; exact .inr ⟨z, rfl, k⟩
      exact ⟨_, rfl, _, rfl, p, _, _, _, rfl, rfl, .inl (.inl (sm _ _ e1)), g2, _, rfl, _, rfl, p', _, _, _, rfl, rfl, .inl (.inl (sm _ _ e2)), g2, fin⟩
    · refine ⟨D, List.replicate xs.length true, rfl, .inl (.inl ?_), ?_⟩
      · rw [e, trues]
      · rw [all_trues]; exact q _ sm
theorem ok_same (T : Top K mg "_law_same" st_law_same) (B : Bt mg) (D0 : Dn P w K mg base 2 "_law_same" st_law_same ["found", "due"] spSame0) (D1 : Dn P w K mg base 3 "_law_same" st_law_same ["found", "due"] spSame1) :
    Dn P w K mg base 3 "_law_same" st_law_same ["found", "due"] spSame := (D0.mono (by decide)).or D1
end
end Tx

set_option Elab.async false
set_option linter.all false
set_option maxRecDepth 100000
set_option maxHeartbeats 1000000
namespace Tx
open PySem PySem.Spec PyProof.Rows L2 TL RZ
theorem turns_len (n : Nat) (l : List Nat) : (turns n l).length = l.length := by unfold turns; rw [List.length_map, List.length_range]
theorem low_drop {z : Str} (h : Low z) (n : Nat) : Low (mkS ((tl z).drop n)) := low_mk h fun _ hc => List.mem_of_mem_drop hc
theorem cutS_neg (z : Str) (h : 1 ≤ z.length) : cutS z none (some (-1)) = mkS ((tl z).take (z.length - 1)) := by
  refine ext_tl ?_
  unfold cutS
  rw [HT.sIx_none]
  show ((tl z).drop 0).take (HT.sIx z.length z.length (some (-1)) - 0) = _
  have e : HT.sIx z.length z.length (some (-1)) = z.length - 1 := by
    show (if (-1 : Int) < 0 then ((-1 : Int) + (z.length : Int)).toNat else min (-1 : Int).toNat z.length) = _
    rw [if_pos (by decide)]; omega
  rw [e]; rfl
theorem cutV_to (xs : List V) (p : Nat) : cutV xs none (some (p : Int)) = xs.take p := by
  unfold cutV
  rw [HT.sIx_nat, HT.sIx_none]
  show (xs.drop 0).take (min p xs.length - 0) = xs.take p
  rw [List.drop_zero, Nat.sub_zero]
  by_cases h : p ≤ xs.length
  · rw [Nat.min_eq_left h]
  · rw [Nat.min_eq_right (by omega), List.take_of_length_le (Nat.le_refl _), List.take_of_length_le (by omega)]
theorem in_dec (x : Str) (ws : List Str) : inV (.str x) (ws.map V.str) = decide (x ∈ ws) := by
  unfold inV
  rw [List.any_map]
  by_cases c : x ∈ ws
  · rw [decide_eq_true c, List.any_eq_true]
    exact ⟨x, c, by simp [eqV]⟩
  · rw [decide_eq_false c, List.any_eq_false]
    intro y hy h
    have h : eqV (V.str y) (V.str x) = true := h
    have e : y = x := by simpa [eqV] using h
    exact c (e ▸ hy)
theorem flat_strs (ws : List Str) : (ws.map V.str).all flatV = true := by
  rw [List.all_eq_true]
  intro v hv
  obtain ⟨x, _, rfl⟩ := List.mem_map.mp hv
  rfl
theorem str_ne {x y : Str} : decide (V.str x = V.str y) = decide (x = y) := by
  by_cases h : x = y
  · subst h; rw [decide_eq_true rfl, decide_eq_true rfl]
  · rw [decide_eq_false h, decide_eq_false fun e => h (V.str.inj e)]
/-- windows of draws -/
def Wins (k : Nat) (ws : List Str) : Prop := 1 ≤ ws.length ∧ ws.length ≤ 60 ∧ ∀ z ∈ ws, Low z ∧ z.length = k
theorem Up.wins {k most : Nat} {ws ys : List Str} (u : Up ys ws) (h : Wins k ws) (k2 : 2 ≤ k) (k6 : k ≤ 6) (m1 : 1 ≤ most) : Book k (ys.take most) := by
  obtain ⟨w1, w2, w3⟩ := h
  have sub : (ys.take most).Sublist ys := List.take_sublist ..
  have yl : ys.length ≤ 60 := Nat.le_trans u.2.2.2 w2
  have y1 : 1 ≤ ys.length := by
    cases ws with
    | nil => exact absurd w1 (by decide)
    | cons v ws =>
      have := (u.2.2.1 v).mpr (List.mem_cons_self ..)
      exact List.length_pos_of_mem this
  refine ⟨k2, k6, by rw [List.length_take]; omega, by rw [List.length_take]; omega, (up_asc u).sublist sub, fun z hz => w3 z ((u.2.2.1 z).mp (sub.subset hz))⟩
theorem mem_list {xs : List Str} {i : Nat} {y : V} (h : (xs.map V.str)[i]? = some y) : ∃ x ∈ xs, y = V.str x := by
  obtain ⟨x, h1, h2⟩ := List.mem_map.mp (List.mem_of_getElem? h)
  exact ⟨x, h1, h2.symm⟩
theorem big {m : Nat} (h : m ≤ 3000) : m ≤ sizeLine := Nat.le_trans h (by decide)
section
variable {P : Program} {w : World} {K : PySem.W.Frag} {mg : Str → Option Value} {base : Heap}
abbrev st_law_book : Stmt := topS 32
theorem sc_law_book : FnScope ["source", "most", "size", "letters", "kind", "windows", "lost", "old", "letter", "text", "at", "turn", "window"] ["source", "most"] (defScope st_law_book) := ⟨rfl, rfl, rfl, by decide +kernel, rfl, by decide +kernel, by decide +kernel⟩
theorem pl_law_book : PlainB "_law_book" st_law_book ["source", "most"] := fun _ _ _ _ _ _ us hl => match us, hl with | [_, _], _ => rfl
/-- what stands while windows are drawn -/
def Gw (H0 H' : Hp) (p : Addr) (most k kind : Nat) (L : Str) (bd n : Nat) (σ' : L2.St) : Prop := ∃ (F : Addr) (ws : List Str) (o6 o7 o8 o9 : Option V), σ' = [some (.ref p), some (.int most), some (.int k), some (.str L), some (.int kind), some (.ref F), o6, o7, o8, o9, none, none, none] ∧
  H0 F = none ∧ H' F = some (.lst (ws.map V.str)) ∧ Wins k ws ∧ ws.length ≤ bd ∧ Src H' p n ∧ But p H0 H'
def spLBook : Sp := fun vs H Q _ => ∃ (p : Addr) (most n : Nat), vs = [.ref p, .int most] ∧ Src H p n ∧ n ≤ 1000000 ∧ 1 ≤ most ∧ most ≤ 40 ∧ ∀ b k ws H', H b = none → BookAt H' b k ws → Book k ws → ws.length ≤ most → Src H' p (n + 30000) → But p H H' → Q (.ref b) H'
theorem ok_law_book (T : Top K mg "_law_book" st_law_book) (B : Bt mg) (D_law_pick : Dn P w K mg base 1 "_law_pick" st_law_pick ["source", "top"] spPick) (D_law_letters : Dn P w K mg base 2 "_law_letters" st_law_letters ["source"] spLetters)
    (D_law_round : Dn P w K mg base 1 "_law_round" st_law_round ["size", "ring"] spRound) (D_law_ring : Dn P w K mg base 3 "_law_ring" st_law_ring ["source", "letters", "most"] spLRing) (D_law_word : Dn P w K mg base 2 "_law_word" st_law_word ["source", "letters", "size"] spWord) :
    Dn P w K mg base 4 "_law_book" st_law_book ["source", "most"] spLBook := by
  refine dn_of T sc_law_book pl_law_book (fun vs H Q E h => ?_) fun f cdv A outer s H vs Q E hr h => ?_
  · obtain ⟨a, b, _, rfl, _⟩ := h; rfl
  · obtain ⟨p, most, n, rfl, sr, hn, m1, m40, q⟩ := h
    obtain ⟨o, eo⟩ := id sr.at
    refine ⟨_, (pss_cons (ps_asg (pe_tup (pa_cons (pe_op op_add pe_int (pe_fn D_law_pick (hr.mono (by decide)) (by rfl) (pa_cons (pv 0) (pa_cons pe_int pa_nil)))) (pa_cons (pe_fn D_law_letters (hr.mono (by decide)) (by rfl) (pa_cons (pv 0) pa_nil)) (pa_cons (pe_fn D_law_pick (hr.mono (by decide)) (by rfl) (pa_cons (pv 0) (pa_cons pe_int pa_nil))) pa_nil)))) (pg_tupK K rfl rfl (pgs_cons (pg_name (i := 2) sc_law_book.nd rfl (.inr rfl)) (pgs_cons (pg_name (i := 3) sc_law_book.nd rfl (.inr rfl)) (pgs_cons (pg_name (i := 4) sc_law_book.nd rfl (.inl rfl)) pgs_nil)))))
      (pss_cons (ps_set (i := 5) sc_law_book.nd rfl (.inl rfl) (pe_fn D_law_round (hr.mono (by decide)) (by rfl) (pa_cons (pv 2) (pa_cons (pe_fn D_law_ring (hr.mono (by decide)) (by rfl) (pa_cons (pv 0) (pa_cons (pv 3) (pa_cons (pv 1) pa_nil)))) pa_nil))))
      (pss_cons (ps_if (PW.pt (pw_and (pt_cmpR op_eq (pv 4) pe_int (nomark _)) (pw_and1 (pt_cmpR op_gt (pe_callB (lenK K rfl) (by rfl) B.len (by decide +kernel) (pa_cons (pv 5) pa_nil)) pe_int (nomark _))))) (pss_cons (ps_set (i := 6) sc_law_book.nd rfl (.inr rfl) (pe_ix (ixK K rfl) (pv 5) (pe_fn D_law_pick (hr.mono (by decide)) (by rfl) (pa_cons (pv 0) (pa_cons (pe_callB (lenK K rfl) (by rfl) B.len (by decide +kernel) (pa_cons (pv 5) pa_nil)) pa_nil))) (fun _ _ => rfl)))
      (pss_one (ps_set (i := 5) sc_law_book.nd rfl (.inl rfl) (pe_op op_cat (pe_lc (own := [("window", 12)]) (g := gName 12) rfl sc_law_book.nd (pi_list (pv 5)) (blkOk_by (N := ["source", "most", "size", "letters", "kind", "windows", "lost", "old", "letter", "text", "at", "turn", "window"]) (sc := defScope st_law_book) (by decide +kernel)) (fun _ _ _ _ _ => (pg_name (i := 12) sc_law_book.nd rfl (.inl rfl))) (fun _ _ _ _ _ => (pts_one (pt_cmpR op_ne (pv 12) (pv 6) (nomark _)))) (fun _ _ _ _ _ => (pv 12))) (pe_slice (slK K rfl) (pv 5) po_none (po_some pe_int)))))) pss_nil)
      (pss_cons (ps_if (pt_cmpR op_eq (pv 4) pe_int (nomark _)) (pss_cons (ps_par (i := 7) (j := 8) (by rfl) sc_law_book.nd rfl rfl (by decide) rfl rfl (pa_cons (pe_ix (ixK K rfl) (pv 5) (pe_fn D_law_pick (hr.mono (by decide)) (by rfl) (pa_cons (pv 0) (pa_cons (pe_callB (lenK K rfl) (by rfl) B.len (by decide +kernel) (pa_cons (pv 5) pa_nil)) pa_nil))) (fun _ _ => rfl)) (pa_cons (pe_ix ix_str (pv 3) (pe_fn D_law_pick (hr.mono (by decide)) (by rfl) (pa_cons (pv 0) (pa_cons (pe_callB call_len_str (by rfl) B.len (by decide +kernel) (pa_cons (pv 3) pa_nil)) pa_nil))) (fun _ _ => rfl)) pa_nil)) (by rfl))
      (pss_one (ps_set (i := 5) sc_law_book.nd rfl (.inl rfl) (pe_op op_cat (pe_slice (slK K rfl) (pv 5) po_none (po_some (pe_op op_sub (pv 1) pe_int))) (pe_lst (pa_cons (pe_ix (ixK K rfl) (pe_lst (pa_cons (pe_op op_add_str (pe_slice sl_str (pv 7) (po_some pe_int) po_none) (pv 8)) (pa_cons (pe_op op_add_str (pv 8) (pe_slice sl_str (pv 7) po_none (po_some (pe_un un_neg pe_int)))) pa_nil))) (pe_fn D_law_pick (hr.mono (by decide)) (by rfl) (pa_cons (pv 0) (pa_cons pe_int pa_nil))) (fun _ _ => rfl)) pa_nil)))))) pss_nil)
      (pss_cons (ps_if (pt_cmpR op_eq (pv 4) pe_int (nomark _)) (pss_cons (ps_set (i := 9) sc_law_book.nd rfl (.inr rfl) (pe_fn D_law_word (hr.mono (by decide)) (by rfl) (pa_cons (pv 0) (pa_cons (pv 3) (pa_cons (pe_op op_add (pv 2) (pe_fn D_law_pick (hr.mono (by decide)) (by rfl) (pa_cons (pv 0) (pa_cons (pv 1) pa_nil)))) pa_nil)))))
      (pss_one (ps_setLc (i := 5) (own := [("at", 10)]) (g := gName 10) rfl sc_law_book.nd rfl rfl (sw_true rfl rfl rfl (by decide +kernel)) (pi_range1 (by rfl) B.range (pa_cons (pe_op op_add (pe_op op_sub (pe_callB call_len_str (by rfl) B.len (by decide +kernel) (pa_cons (pv 9) pa_nil)) (pv 2)) pe_int) pa_nil)) (blkOk_by (N := ["source", "most", "size", "letters", "kind", "windows", "lost", "old", "letter", "text", "at", "turn", "window"]) (sc := defScope st_law_book) (by decide +kernel)) (fun _ _ _ _ _ => (pg_name (i := 10) sc_law_book.nd rfl (.inl rfl))) (fun _ _ _ _ _ => pts_nil) (fun _ _ _ _ _ => (pe_slice sl_str (pv 9) (po_some (pv 10)) (po_some (pe_op op_add (pv 10) (pv 2)))))))) pss_nil)
      (pss_cons (ps_if (pt_cmpR op_eq (pv 4) pe_int (nomark _)) (pss_one (ps_setLc (i := 5) (own := [("turn", 11)]) (g := gName 11) rfl sc_law_book.nd rfl rfl (sw_true rfl rfl rfl (by decide +kernel)) (pi_range1 (by rfl) B.range (pa_cons (pe_op op_add pe_int (pe_fn D_law_pick (hr.mono (by decide)) (by rfl) (pa_cons (pv 0) (pa_cons (pv 1) pa_nil)))) pa_nil)) (blkOk_by (N := ["source", "most", "size", "letters", "kind", "windows", "lost", "old", "letter", "text", "at", "turn", "window"]) (sc := defScope st_law_book) (by decide +kernel)) (fun _ _ _ _ _ => (pg_name (i := 11) sc_law_book.nd rfl (.inl rfl))) (fun _ _ _ _ _ => pts_nil) (fun _ _ _ _ _ => (pe_fn D_law_word (hr.mono (by decide)) (by rfl) (pa_cons (pv 0) (pa_cons (pv 3) (pa_cons (pv 2) pa_nil))))))) pss_nil)
      (pss_one (ps_ret (pe_tup (pa_cons (pv 2) (pa_cons (pe_callTy (tupK K rfl) (by rfl) B.tuple (by decide +kernel) (pa_cons (pe_slice (slK K rfl) (pe_callB (sortSetK w rfl rfl) (by rfl) B.sorted (by decide +kernel) (pa_cons (pe_callTy (setK K w rfl rfl rfl) (by rfl) B.set (by decide +kernel) (pa_cons (pv 5) pa_nil)) pa_nil)) po_none (po_some (pv 1))) pa_nil)) pa_nil))))))))))), ?_⟩
    refine ⟨_, rfl, p, 5, n, rfl, sr, by omega, by decide, by decide, fun r1 H1 a0 a1 sr1 bt1 => ⟨_, _, rfl, rfl, _, rfl, p, _, rfl, sr1, by omega, fun L H2 LL l26 sr2 bt2 => ⟨_, rfl, p, 7, _, rfl, sr2, by omega, by decide, by decide, fun kd H3 b0 b1 sr3 bt3 => ⟨by show 3 ≤ sizeLine; decide, fun v nv => ⟨v, _, rfl, .inl (.inl upd_same), rfl, _, _, rfl, _, _, rfl, _, _, rfl, rfl, ?_⟩⟩⟩⟩⟩
    obtain ⟨k, ek⟩ : ∃ k : Nat, 2 + r1 = (k : Int) := ⟨(2 + r1).toNat, by omega⟩
    obtain ⟨kind, ekd⟩ : ∃ k : Nat, kd = (k : Int) := ⟨kd.toNat, by omega⟩
    subst ekd
    dsimp only
    rw [ek]
    have k2 : 2 ≤ k := by omega
    have k6 : k ≤ 6 := by omega
    obtain ⟨lo, l1, _⟩ := id LL
    have sL : L.length ≤ sizeLine := Nat.le_trans l26 (by decide)
    have b3 : But p H (upd H3 v (.tup [V.int (k : Int), .str L, .int (kind : Int)])) := ((bt1.trans bt2).trans bt3).same (same_upd nv)
    have sr3' := sr3.new (o := .tup [V.int (k : Int), .str L, .int (kind : Int)]) nv
    generalize upd H3 v (.tup [V.int (k : Int), .str L, .int (kind : Int)]) = H4 at b3 sr3' ⊢
    refine ⟨_, rfl, _, rfl, _, rfl, _, rfl, p, L, most, _, rfl, sr3', LL, m1, by omega, by omega, fun z H5 lz z1 z2 sr5 bt5 => ⟨k, z, rfl, by omega, by omega, fun F H6 nF s6 eF => ?_⟩⟩
    have hl : 0 < (tl z).length := by rw [← len_tl]; omega
    have w0 : Wins k (turns k (tl z)) := ⟨by rw [turns_len]; exact hl, by rw [turns_len, ← len_tl]; omega, fun y hy => turns_low lz z1 hy⟩
    have b5 : But p H H5 := b3.trans bt5
    have g0 : Gw H H6 p most k kind L 40 (n + 10010) [some (.ref p), some (.int most), some (.int k), some (.str L), some (.int kind), some (.ref F), none, none, none, none, none, none, none] :=
      ⟨F, _, none, none, none, none, rfl, b5.free sr5.at nF, eF, w0, by rw [turns_len, ← len_tl]; omega, (sr5.same s6).mono (by omega), b5.same s6⟩
    dsimp only [gName]
    refine seq_if (fun σ H' => Gw H H' p most k kind L 41 (n + 10100) σ) ?rest1 fun kk => ?now1
    case now1 =>
      obtain ⟨F, ws, o6, o7, o8, o9, eσ, nF, eF, ⟨w1, w41, wl⟩, wm, srw, btw⟩ := g0
      have nFp : F ≠ p := (ne_of_none eo nF).symm
      cases eσ
      refine ⟨_, rfl, rfl, _, rfl, ?_⟩
      refine ite2 (fun _ => ?_) fun _ => ?_
      · refine ⟨_, rfl, _, _, rfl, .inl (.inl (.inl eF)), _, _, rfl, rfl, _, rfl, ?_⟩
        refine ite2 (fun _ => ?_) fun _ => ?_
        · refine ⟨_, rfl, _, rfl, _, rfl, _, _, rfl, .inl (.inl (.inl eF)), p, ((ws.map V.str).length : Int), _, rfl, srw, by omega, by rw [List.length_map]; omega, by rw [List.length_map]; omega, fun r H7 c0 c1 sr7 bt7 => ?_⟩
          rw [List.length_map] at c1
          have lt : r.toNat < ws.length := by omega
          have eF7 := bt7.kept eF nFp
          refine ⟨_, _, r, V.str ws[r.toNat], rfl, rfl, .inl (.inl eF7), atI_pos c0 (by rw [List.getElem?_map, List.getElem?_eq_getElem lt]; rfl), ?_⟩
          refine ⟨_, rfl, _, rfl, ⟨_, .inl (.inl eF7)⟩, fun D hD => ?_⟩
          refine lc_list (a := F) (xs := ws.map V.str) (fun j H2 => Same H7 H2 ∧ ∃ fs : List Str, H2 D = some (.lst (fs.map V.str)) ∧ fs.length ≤ j ∧ ∀ y ∈ fs, y ∈ ws) ⟨same_upd hD, [], upd_same, Nat.le_refl _, fun _ h => by cases h⟩ (fun j H2 _ h => .inl (.inl (h.1 _ _ eF7))) (fun j v H2 hj ⟨sm, fs, e2, fl, f1⟩ => ?_) fun H8 ⟨s8, fs, e8, fl, f1⟩ => ?_
          · obtain ⟨x, hx, rfl⟩ := mem_list hj
            have jl : j < 60 := by
              have := (List.getElem?_eq_some_iff.mp hj).1
              rw [List.length_map] at this
              omega
            refine ⟨rfl, ?_⟩
            refine ⟨_, rfl, _, rfl, rfl, _, rfl, ?_⟩
            refine ite2 (fun _ => ?_) fun _ => ?_
            · refine ⟨_, rfl, _, e2, by rw [List.length_map]; exact lt_line (by omega), wr sm hD, fs ++ [x], by rw [upd_same, List.map_append]; rfl, by rw [List.length_append]; exact Nat.add_le_add_right fl 1, fun u hu => ?_⟩
              rcases List.mem_append.mp hu with hu | hu
              · exact f1 u hu
              · rw [List.mem_singleton.mp hu]; exact hx
            · exact ⟨sm, fs, e2, by omega, f1⟩
          rw [List.length_map] at fl
          refine ⟨_, rfl, _, rfl, F, _, rfl, .inl (.inl (s8 _ _ eF7)), fun g ng => ?_⟩
          have ec : cutV (ws.map V.str) none (some (1 : Int)) = (ws.map V.str).take 1 := cutV_to _ 1
          rw [ec, ← List.map_take]
          refine ⟨D, g, _, _, rfl, rfl, (same_upd ng) _ _ e8, upd_same, by rw [List.length_map, List.length_map, List.length_take]; exact big (by omega), fun h nh => ?_⟩
          rw [← List.map_append]
          have s9 : Same H7 (upd (upd H8 g (.lst ((ws.take 1).map V.str))) h (.lst ((fs ++ ws.take 1).map V.str))) := (s8.trans (same_upd ng)).trans (same_upd nh)
          have nh7 : H7 h = none := s8.free ((same_upd ng).free nh)
          have b7 : But p H H7 := btw.trans bt7
          have lfs : (fs ++ ws.take 1).length = fs.length + 1 := by rw [List.length_append, List.length_take]; omega
          refine kk _ _ ⟨h, fs ++ ws.take 1, _, _, _, _, rfl, b7.free sr7.at nh7, upd_same, ⟨by omega, by omega, fun y hy => ?_⟩, by omega, (sr7.same s9).mono (by omega), b7.same s9⟩
          rcases List.mem_append.mp hy with hy | hy
          · exact wl y (f1 y hy)
          · exact wl y (List.mem_of_mem_take hy)
        · exact kk _ _ ⟨F, ws, _, _, _, _, rfl, nF, eF, ⟨w1, w41, wl⟩, by omega, srw.mono (by omega), btw⟩
      · refine iteF ?_
        exact kk _ _ ⟨F, ws, _, _, _, _, rfl, nF, eF, ⟨w1, w41, wl⟩, by omega, srw.mono (by omega), btw⟩
    case rest1 =>
      clear g0
      intro σ H7 g0
      refine seq_if (fun σ H' => Gw H H' p most k kind L 42 (n + 10200) σ) ?rest2 fun kk => ?now2
      case now2 =>
        obtain ⟨F, ws, o6, o7, o8, o9, eσ, nF, eF, ⟨w1, w41, wl⟩, wm, srw, btw⟩ := g0
        have nFp : F ≠ p := (ne_of_none eo nF).symm
        cases eσ
        refine ⟨_, rfl, rfl, _, rfl, ?_⟩
        refine ite2 (fun _ => ?_) fun _ => ?_
        · refine ⟨_, rfl, _, rfl, _, rfl, _, _, rfl, .inl (.inl (.inl eF)), p, ((ws.map V.str).length : Int), _, rfl, srw, by omega, by rw [List.length_map]; omega, by rw [List.length_map]; omega, fun r H8 c0 c1 sr8 bt8 => ?_⟩
          rw [List.length_map] at c1
          have lt : r.toNat < ws.length := by omega
          obtain ⟨ly, yl⟩ := wl _ (List.getElem_mem lt)
          have eF8 := bt8.kept eF nFp
          refine ⟨_, _, r, V.str ws[r.toNat], rfl, rfl, .inl (.inl eF8), atI_pos c0 (by rw [List.getElem?_map, List.getElem?_eq_getElem lt]; rfl), ?_⟩
          generalize ws[r.toNat] = y at ly yl ⊢
          have sy : y.length ≤ sizeLine := big (by omega)
          refine ⟨_, rfl, _, rfl, _, rfl, L, rfl, sL, p, L.length, _, rfl, sr8, by omega, by omega, by omega, fun r9 H9 d0 d1 sr9 bt9 => ?_⟩
          have lt9 : r9.toNat < (tl L).length := by rw [← len_tl]; omega
          have lc : Low (⟨#[(tl L)[r9.toNat]]⟩ : Str) := low_one lo (List.getElem_mem lt9)
          refine ⟨_, r9, (tl L)[r9.toNat], rfl, rfl, sL, atI_pos d0 (List.getElem?_eq_getElem lt9), _, _, rfl, ?_⟩
          generalize (tl L)[r9.toNat] = ch at lc ⊢
          have eF9 := bt9.kept eF8 nFp
          have c1' : (⟨#[ch]⟩ : Str).length = 1 := rfl
          refine ⟨_, rfl, _, rfl, _, _, rfl, rfl, _, rfl, F, _, rfl, .inl (.inl eF9), fun g ng => ?_⟩
          rw [show ((most : Int) - 1) = ((most - 1 : Nat) : Int) by omega, cutV_to _ (most - 1), ← List.map_take]
          have e1 : cutS y (some (1 : Int)) none = mkS ((tl y).drop 1) := cutS_from y 1 (by omega)
          have ld1 : (mkS ((tl y).drop 1)).length = k - 1 := by rw [len_mkS, List.length_drop, ← len_tl, yl]
          have lt1 : (mkS ((tl y).take (y.length - 1))).length = k - 1 := by rw [len_take (by omega), yl]
          refine ⟨_, rfl, _, rfl, y, rfl, sy, ?_⟩
          rw [e1]
          refine ⟨_, rfl, _, _, rfl, rfl, by rw [c1', ld1]; exact big (by omega), _, rfl, _, rfl, _, rfl, _, rfl, y, rfl, sy, ?_⟩
          rw [cutS_neg y (by omega)]
          refine ⟨_, _, rfl, rfl, by rw [c1', lt1]; exact big (by omega), by show 2 ≤ sizeLine; decide, fun pr2 npr => ?_⟩
          have sg : Same H9 (upd (upd H9 g (.lst ((ws.take (most - 1)).map V.str))) pr2 (.lst [V.str (mkS ((tl y).drop 1) ++ ⟨#[ch]⟩), .str (⟨#[ch]⟩ ++ mkS ((tl y).take (y.length - 1)))])) := (same_upd ng).trans (same_upd npr)
          have epr : (upd (upd H9 g (.lst ((ws.take (most - 1)).map V.str))) pr2 (.lst [V.str (mkS ((tl y).drop 1) ++ ⟨#[ch]⟩), .str (⟨#[ch]⟩ ++ mkS ((tl y).take (y.length - 1)))])) pr2 = some (.lst [V.str (mkS ((tl y).drop 1) ++ ⟨#[ch]⟩), .str (⟨#[ch]⟩ ++ mkS ((tl y).take (y.length - 1)))]) := upd_same
          have egg : (upd (upd H9 g (.lst ((ws.take (most - 1)).map V.str))) pr2 (.lst [V.str (mkS ((tl y).drop 1) ++ ⟨#[ch]⟩), .str (⟨#[ch]⟩ ++ mkS ((tl y).take (y.length - 1)))])) g = some (.lst ((ws.take (most - 1)).map V.str)) := (same_upd npr) _ _ upd_same
          generalize upd (upd H9 g (.lst ((ws.take (most - 1)).map V.str))) pr2 (.lst [V.str (mkS ((tl y).drop 1) ++ ⟨#[ch]⟩), .str (⟨#[ch]⟩ ++ mkS ((tl y).take (y.length - 1)))]) = H10 at sg epr egg ⊢
          obtain ⟨o9', eo9⟩ := id sr9.at
          have nprp : pr2 ≠ p := fun h => by
            subst h
            obtain ⟨_, _, _, e', _⟩ := sr9
            exact absurd ((same_upd ng) _ _ e') (by rw [npr]; exact fun h => by cases h)
          have ngp : g ≠ p := (ne_of_none eo9 ng).symm
          refine ⟨_, rfl, p, 2, _, rfl, sr9.same sg, by omega, by decide, by decide, fun r11 H11 f0 f1 sr11 bt11 => ?_⟩
          obtain ⟨x, ex, lx, xl⟩ : ∃ x : Str, [V.str (mkS ((tl y).drop 1) ++ ⟨#[ch]⟩), V.str (⟨#[ch]⟩ ++ mkS ((tl y).take (y.length - 1)))][r11.toNat]? = some (V.str x) ∧ Low x ∧ x.length = k := by
            rcases (show r11 = 0 ∨ r11 = 1 by omega) with rfl | rfl
            · exact ⟨_, rfl, low_app (low_drop ly _) lc, by rw [len_app, c1', ld1]; omega⟩
            · exact ⟨_, rfl, low_app lc (low_take ly _), by rw [len_app, c1', lt1]; omega⟩
          refine ⟨pr2, _, r11, V.str x, rfl, rfl, .inl (.inl (bt11.kept epr nprp)), atI_pos f0 ex, by show 1 ≤ sizeLine; decide, fun l nl => ?_⟩
          refine ⟨g, l, _, _, rfl, rfl, (same_upd nl) _ _ (bt11.kept egg ngp), upd_same, by rw [List.length_map, List.length_take]; exact big (show _ + 1 ≤ 3000 by omega), fun h nh => ?_⟩
          have b11 : But p H H11 := ((btw.trans bt8).trans bt9).trans ((Same.but sg).trans bt11)
          have nh0 : H h = none := b11.free sr11.at ((same_upd nl).free nh)
          refine kk _ _ ⟨h, ws.take (most - 1) ++ [x], _, _, _, _, rfl, nh0, by rw [upd_same, List.map_append]; rfl, ⟨by rw [List.length_append]; exact Nat.le_add_left 1 _, by rw [List.length_append, List.length_take]; show _ + 1 ≤ 60; omega, fun u hu => ?_⟩, by rw [List.length_append, List.length_take]; show _ + 1 ≤ 42; omega, ((sr11.same (same_upd nl)).same (same_upd nh)).mono (by omega), (b11.same (same_upd nl)).same (same_upd nh)⟩
          rcases List.mem_append.mp hu with hu | hu
          · exact wl u (List.mem_of_mem_take hu)
          · rw [List.mem_singleton.mp hu]; exact ⟨lx, xl⟩
        · exact kk _ _ ⟨F, ws, _, _, _, _, rfl, nF, eF, ⟨w1, w41, wl⟩, by omega, srw.mono (by omega), btw⟩
      case rest2 =>
        clear g0
        intro σ H7 g0
        refine seq_if (fun σ H' => Gw H H' p most k kind L 43 (n + 10400) σ) ?rest3 fun kk => ?now3
        case now3 =>
          obtain ⟨F, ws, o6, o7, o8, o9, eσ, nF, eF, ⟨w1, w41, wl⟩, wm, srw, btw⟩ := g0
          cases eσ
          refine ⟨_, rfl, rfl, _, rfl, ?_⟩
          refine ite2 (fun _ => ?_) fun _ => ?_
          · refine ⟨_, rfl, _, rfl, _, rfl, _, rfl, _, rfl, p, most, _, rfl, srw, by omega, by omega, by omega, fun r H8 c0 c1 sr8 bt8 => ⟨_, _, rfl, rfl, ?_⟩⟩
            obtain ⟨sz5, e5⟩ : ∃ j : Nat, (k : Int) + r = (j : Int) := ⟨((k : Int) + r).toNat, by omega⟩
            dsimp only
            rw [e5]
            refine ⟨p, L, sz5, _, rfl, sr8, LL, by omega, by omega, fun x H9 xl lx sr9 bt9 => ?_⟩
            have sx : x.length ≤ sizeLine := big (by omega)
            refine ⟨_, rfl, x, rfl, sx, _, rfl, _, _, rfl, rfl, _, _, rfl, rfl, _, rfl, by omega, by omega, fun D hD => ?_⟩
            rw [show ((x.length : Int) - (k : Int) + 1).toNat = x.length + 1 - k by omega]
            have b9 : But p H H9 := (btw.trans bt8).trans bt9
            refine lc_range (fun i H' => Same H9 H' ∧ H' D = some (.lst (((steps k (tl x)).take i).map V.str))) ⟨same_upd hD, upd_same⟩ (fun i H' hi ⟨sm, e⟩ => ?_) fun H' ⟨sm, e⟩ => ?_
            · have sa : (steps k (tl x))[i]? = some (mkS (cut (tl x) i k)) := by
                unfold steps
                rw [List.getElem?_map, List.getElem?_range (by rw [← len_tl]; exact hi)]; rfl
              refine ⟨rfl, lc_yes ?_⟩
              refine ⟨_, rfl, _, rfl, _, rfl, _, rfl, _, rfl, _, _, rfl, rfl, _, rfl, x, rfl, sx, _, e, by rw [List.length_map, List.length_take]; exact lt_line (by omega), wr sm hD, ?_⟩
              rw [upd_same, show ((0 : Int) + (i : Int)) = (i : Int) by omega, cutS_mid x i k (by omega), List.take_add_one, sa, List.map_append]; rfl
            · rw [List.take_of_length_le (by rw [steps_len, ← len_tl]; exact Nat.le_refl _)] at e
              refine kk _ _ ⟨D, steps k (tl x), _, _, _, _, rfl, b9.free sr9.at hD, e, ⟨by rw [steps_len, ← len_tl]; omega, by rw [steps_len, ← len_tl]; omega, fun u hu => ?_⟩, by rw [steps_len, ← len_tl]; omega, (sr9.same sm).mono (by omega), b9.same sm⟩
              unfold steps at hu
              obtain ⟨i, hi, rfl⟩ := List.mem_map.mp hu
              have hi := List.mem_range.mp hi
              exact ⟨low_cut lx _ _, len_cut (by rw [← len_tl] at hi; omega)⟩
          · exact kk _ _ ⟨F, ws, _, _, _, _, rfl, nF, eF, ⟨w1, w41, wl⟩, by omega, srw.mono (by omega), btw⟩
        case rest3 =>
          clear g0
          intro σ H7 g0
          refine seq_if (fun σ H' => Gw H H' p most k kind L 44 (n + 20000) σ) ?rest4 fun kk => ?now4
          case now4 =>
            obtain ⟨F, ws, o6, o7, o8, o9, eσ, nF, eF, ⟨w1, w41, wl⟩, wm, srw, btw⟩ := g0
            cases eσ
            refine ⟨_, rfl, rfl, _, rfl, ?_⟩
            refine ite2 (fun _ => ?_) fun _ => ?_
            · refine ⟨_, rfl, _, rfl, p, most, _, rfl, srw, by omega, by omega, by omega, fun r H8 c0 c1 sr8 bt8 => ⟨_, _, rfl, rfl, _, rfl, by omega, by omega, fun D hD => ?_⟩⟩
              obtain ⟨m, em⟩ : ∃ j : Nat, 1 + r = (j : Int) := ⟨(1 + r).toNat, by omega⟩
              rw [show (1 + r).toNat = m by omega]
              obtain ⟨o8', eo8⟩ := id sr8.at
              have nDp : D ≠ p := (ne_of_none eo8 hD).symm
              have b8 : But p H H8 := btw.trans bt8
              refine lc_range (fun i H' => Src H' p (n + 10401 + 6 * i) ∧ But p H8 H' ∧ ∃ us : List Str, us.length = i ∧ (∀ u ∈ us, Low u ∧ u.length = k) ∧ H' D = some (.lst (us.map V.str))) ⟨(sr8.new hD).mono (by omega), But.refl.mk hD, [], rfl, (fun _ h => by cases h), upd_same⟩ (fun i H' hi ⟨sr', bt', us, ul, hu, eD⟩ => ?_) fun H' ⟨sr', bt', us, ul, hu, eD⟩ => ?_
              · refine ⟨rfl, lc_yes ?_⟩
                refine ⟨_, rfl, _, rfl, _, rfl, p, L, k, _, rfl, sr', LL, by omega, by omega, fun x H9 xl lx sr9 bt9 => ?_⟩
                refine ⟨_, bt9.kept eD nDp, by rw [List.length_map, ul]; exact lt_line (by omega), (sr9.set nDp).mono (by omega), (bt'.trans bt9).mk hD, us ++ [x], by rw [List.length_append, ul]; rfl, fun u h => ?_, by rw [upd_same, List.map_append]; rfl⟩
                rcases List.mem_append.mp h with h | h
                · exact hu u h
                · rw [List.mem_singleton.mp h]; exact ⟨lx, xl⟩
              · exact kk _ _ ⟨D, us, _, _, _, _, rfl, b8.free sr8.at hD, eD, ⟨by omega, by omega, hu⟩, by omega, sr'.mono (by omega), b8.trans bt'⟩
            · exact kk _ _ ⟨F, ws, _, _, _, _, rfl, nF, eF, ⟨w1, w41, wl⟩, by omega, srw.mono (by omega), btw⟩
          case rest4 =>
            clear g0
            intro σ H7 g0
            obtain ⟨F, ws, o6, o7, o8, o9, eσ, nF, eF, wins, wm, srw, btw⟩ := g0
            cases eσ
            obtain ⟨w1, w41, wl⟩ := id wins
            refine ⟨_, rfl, _, rfl, F, ws, rfl, .inl (.inl eF), by omega, fun t ks fo nt => ⟨t, ks, rfl, upd_same, fun ys a py so na => ?_⟩⟩
            have up : Up ys ws := .of py so fo
            have s8 : Same H7 (upd (upd H7 t (SetSO w t ks)) a (.lst (ys.map V.str))) := (same_upd nt).trans (same_upd na)
            have ea : (upd (upd H7 t (SetSO w t ks)) a (.lst (ys.map V.str))) a = some (.lst (ys.map V.str)) := upd_same
            generalize upd (upd H7 t (SetSO w t ks)) a (.lst (ys.map V.str)) = H8 at s8 ea ⊢
            refine ⟨_, rfl, _, rfl, a, _, rfl, .inl (.inl ea), fun c nc => ?_⟩
            rw [cutV_to _ most, ← List.map_take]
            refine ⟨c, _, rfl, .inl ⟨.inl (.inl upd_same), fun u nu => ⟨by show 2 ≤ sizeLine; decide, fun b nb => ?_⟩⟩⟩
            have s9 : Same H7 (upd (upd (upd H8 c (.lst ((ys.take most).map V.str))) u (.tup ((ys.take most).map V.str))) b (.tup [V.int (k : Int), .ref u])) := ((s8.trans (same_upd nc)).trans (same_upd nu)).trans (same_upd nb)
            refine q b k (ys.take most) _ (btw.free srw.at (s8.free ((same_upd nc).free ((same_upd nu).free nb)))) ⟨u, upd_same, (same_upd nb) _ _ upd_same⟩ (up.wins wins k2 k6 m1) (by rw [List.length_take]; omega) ((srw.same s9).mono (by omega)) (btw.same s9)
end
end Tx

set_option Elab.async false
set_option linter.all false
set_option maxRecDepth 100000
set_option maxHeartbeats 1000000
namespace Tx
open PySem PySem.Spec PyProof.Rows L2 TL RZ
theorem ini_eq {v : Str} (h : 1 ≤ v.length) : cutS v none (some (-1)) = iniS v := cutS_neg v h
theorem tai_eq {v : Str} (h : 1 ≤ v.length) : cutS v (some (1 : Int)) none = taiS v := cutS_from v 1 h
/-- what is found from s on -/
structure Fnd (ws : List Str) (s : Str) (xs : List Str) : Prop where
  nd : xs.Nodup
  me : s ∈ xs
  way : ∀ x ∈ xs, Path ws s x
  pl : ∀ x ∈ xs, x = s ∨ x ∈ ws.map taiS
  few : xs.length + togo ws xs ≤ 1 + ws.length
theorem Fnd.start (ws : List Str) (s : Str) : Fnd ws s [s] := by
  refine ⟨List.nodup_cons.mpr ⟨by simp, List.nodup_nil⟩, List.mem_singleton.mpr rfl, fun x hx => ?_, fun x hx => .inl (List.mem_singleton.mp hx), ?_⟩
  · rw [List.mem_singleton.mp hx]; exact .here s
  · have : togo ws [s] ≤ ws.length := List.countP_le_length
    show 1 + _ ≤ _
    omega
theorem mem_newT {ws xs : List Str} {x : Str} (h : x ∈ newT ws xs) : ∃ v ∈ ws, iniS v ∈ xs ∧ taiS v ∉ xs ∧ x = taiS v := by
  unfold newT at h
  obtain ⟨v, hv, rfl⟩ := List.mem_map.mp h
  obtain ⟨h1, h2⟩ := List.mem_filter.mp hv
  rw [Bool.and_eq_true] at h2
  exact ⟨v, h1, of_decide_eq_true h2.1, of_decide_eq_true h2.2, rfl⟩
theorem Fnd.more {ws : List Str} {s : Str} {xs ys : List Str} (f : Fnd ws s xs) (u : Up ys (newT ws xs)) : Fnd ws s (xs ++ ys) := by
  refine ⟨List.nodup_append.mpr ⟨f.nd, u.2.1, fun a ha b hb e => ?_⟩, List.mem_append_left _ f.me, fun x hx => ?_, fun x hx => ?_, ?_⟩
  · subst e
    obtain ⟨v, _, _, h, e⟩ := mem_newT ((u.2.2.1 a).mp hb)
    exact h (e ▸ ha)
  · rcases List.mem_append.mp hx with hx | hx
    · exact f.way x hx
    · obtain ⟨v, hv, h, _, rfl⟩ := mem_newT ((u.2.2.1 x).mp hx)
      exact .step (f.way _ h) hv
  · rcases List.mem_append.mp hx with hx | hx
    · exact f.pl x hx
    · obtain ⟨v, hv, _, _, rfl⟩ := mem_newT ((u.2.2.1 x).mp hx)
      exact .inr (List.mem_map.mpr ⟨v, hv, rfl⟩)
  · have h1 := togo_le u.2.2.1
    have h2 := u.2.2.2
    have h3 := f.few
    rw [List.length_append]
    omega
theorem newT_nil {ws xs : List Str} (h : newT ws xs = []) : ∀ v ∈ ws, iniS v ∈ xs → taiS v ∈ xs := fun v hv hi => by
  refine Classical.byContradiction fun no => ?_
  have : taiS v ∈ newT ws xs := List.mem_map.mpr ⟨v, List.mem_filter.mpr ⟨hv, by rw [Bool.and_eq_true]; exact ⟨decide_eq_true hi, decide_eq_true no⟩⟩, rfl⟩
  rw [h] at this
  cases this
section
variable {P : Program} {w : World} {K : PySem.W.Frag} {mg : Str → Option Value} {base : Heap}
abbrev st_law_spots : Stmt := topS 33
theorem sc_law_spots : FnScope ["book", "window"] ["book"] (defScope st_law_spots) := ⟨rfl, rfl, rfl, by decide +kernel, rfl, by decide +kernel, by decide +kernel⟩
theorem pl_law_spots : PlainB "_law_spots" st_law_spots ["book"] := fun _ _ _ _ _ _ us hl => match us, hl with | [_], _ => rfl
def spSpots : Sp := fun vs H Q _ => ∃ (b : Addr) (k : Nat) (ws : List Str), vs = [.ref b] ∧ BookAt H b k ws ∧ Book k ws ∧ ws.length ≤ 100 ∧ ∀ a ys H', H a = none → Same H H' → H' a = some (.lst (ys.map V.str)) → Up ys (placesL ws) → Q (.ref a) H'
theorem ok_law_spots (T : Top K mg "_law_spots" st_law_spots) (B : Bt mg) : Dn P w K mg base 1 "_law_spots" st_law_spots ["book"] spSpots := by
  refine dn_of T sc_law_spots pl_law_spots (fun vs H Q E h => ?_) fun f cdv A outer s H vs Q E hr h => ?_
  · obtain ⟨a, b, _, rfl, _⟩ := h; rfl
  · obtain ⟨b, k, ws, rfl, ⟨t, eb, et⟩, bk, wl, q⟩ := h
    have k2 := bk.n2
    have k6 := bk.n6
    refine ⟨_, (pss_one (ps_ret (pe_callB (sortSetK w rfl rfl) (by rfl) B.sorted (by decide +kernel) (pa_cons (pe_callTy (setK K w rfl rfl rfl) (by rfl) B.set (by decide +kernel) (pa_cons (pe_op op_cat (pe_lc (own := [("window", 1)]) (g := gName 1) rfl sc_law_spots.nd (pi_tup (pe_ix (ixTK K rfl) (pv 0) pe_int (fun _ _ => rfl))) (blkOk_by (N := ["book", "window"]) (sc := defScope st_law_spots) (by decide +kernel)) (fun _ _ _ _ _ => (pg_name (i := 1) sc_law_spots.nd rfl (.inl rfl))) (fun _ _ _ _ _ => pts_nil) (fun _ _ _ _ _ => (pe_slice sl_str (pv 1) po_none (po_some (pe_un un_neg pe_int))))) (pe_lc (own := [("window", 1)]) (g := gName 1) rfl sc_law_spots.nd (pi_tup (pe_ix (ixTK K rfl) (pv 0) pe_int (fun _ _ => rfl))) (blkOk_by (N := ["book", "window"]) (sc := defScope st_law_spots) (by decide +kernel)) (fun _ _ _ _ _ => (pg_name (i := 1) sc_law_spots.nd rfl (.inl rfl))) (fun _ _ _ _ _ => pts_nil) (fun _ _ _ _ _ => (pe_slice sl_str (pv 1) (po_some pe_int) po_none)))) pa_nil)) pa_nil)))), ?_⟩
    refine ⟨_, rfl, b, _, _, _, rfl, rfl, .inl (.inl eb), rfl, t, rfl, ⟨_, .inl (.inl et)⟩, fun D hD => ?_⟩
    refine lc_tup (a := t) (xs := ws.map V.str) (fun i H' => Same H H' ∧ H' D = some (.lst (((ws.take i).map iniS).map V.str))) ⟨same_upd hD, upd_same⟩ (fun i H' _ h => .inl (.inl (h.1 _ _ et))) (fun i y H' hi ⟨sm, e⟩ => ?_) fun H1 ⟨s1, e1⟩ => ?_
    · obtain ⟨v, hv, rfl⟩ := str_at hi
      obtain ⟨lo, vl⟩ := bk.each v (List.mem_of_getElem? hv)
      refine ⟨rfl, lc_yes ?_⟩
      refine ⟨_, rfl, _, rfl, _, rfl, v, rfl, big (by omega), ?_⟩
      rw [ini_eq (by omega)]
      refine ⟨_, e, by rw [List.length_map, List.length_map, List.length_take]; exact lt_line (by omega), wr sm hD, ?_⟩
      rw [upd_same, List.take_add_one, hv, List.map_append, List.map_append]; rfl
    rw [List.length_map, List.take_length] at e1
    refine ⟨_, rfl, b, _, _, _, rfl, rfl, .inl (.inl (s1 _ _ eb)), rfl, t, rfl, ⟨_, .inl (.inl (s1 _ _ et))⟩, fun D2 hD2 => ?_⟩
    refine lc_tup (a := t) (xs := ws.map V.str) (fun i H' => Same H1 H' ∧ H' D2 = some (.lst (((ws.take i).map taiS).map V.str))) ⟨same_upd hD2, upd_same⟩ (fun i H' _ h => .inl (.inl (h.1 _ _ (s1 _ _ et)))) (fun i y H' hi ⟨sm, e⟩ => ?_) fun H2 ⟨s2, e2⟩ => ?_
    · obtain ⟨v, hv, rfl⟩ := str_at hi
      obtain ⟨lo, vl⟩ := bk.each v (List.mem_of_getElem? hv)
      refine ⟨rfl, lc_yes ?_⟩
      refine ⟨_, rfl, _, rfl, v, rfl, big (by omega), ?_⟩
      rw [tai_eq (by omega)]
      refine ⟨_, e, by rw [List.length_map, List.length_map, List.length_take]; exact lt_line (by omega), wr sm hD2, ?_⟩
      rw [upd_same, List.take_add_one, hv, List.map_append, List.map_append]; rfl
    rw [List.length_map, List.take_length] at e2
    refine ⟨D, D2, _, _, rfl, rfl, s2 _ _ e1, e2, by rw [List.length_map, List.length_map, List.length_map, List.length_map]; exact big (by omega), fun g ng => ?_⟩
    have pl : (placesL ws).length ≤ 200 := by unfold placesL; rw [List.length_append, List.length_map, List.length_map]; omega
    refine ⟨g, placesL ws, rfl, .inl (.inl (by rw [upd_same]; unfold placesL; rw [List.map_append])), by omega, fun u ks fo nu => ⟨u, ks, rfl, upd_same, fun ys a py so na => ?_⟩⟩
    refine q a ys _ ?_ ((((s1.trans s2).trans (same_upd ng)).trans (same_upd nu)).trans (same_upd na)) upd_same (.of py so fo)
    exact (s1.trans s2).free ((same_upd ng).free ((same_upd nu).free na))
abbrev st_law_reach : Stmt := topS 34
theorem sc_law_reach : FnScope ["book", "spot", "found", "more", "later", "window"] ["book", "spot"] (defScope st_law_reach) := ⟨rfl, rfl, rfl, by decide +kernel, rfl, by decide +kernel, by decide +kernel⟩
theorem pl_law_reach : PlainB "_law_reach" st_law_reach ["book", "spot"] := fun _ _ _ _ _ _ us hl => match us, hl with | [_, _], _ => rfl
def spReach : Sp := fun vs H Q _ => ∃ (b : Addr) (k : Nat) (ws : List Str) (s : Str), vs = [.ref b, .str s] ∧ BookAt H b k ws ∧ Book k ws ∧ ws.length ≤ 100 ∧ Low s ∧ ∀ a xs H', H a = none → Same H H' → H' a = some (.lst (xs.map V.str)) → Fnd ws s xs → (∀ v ∈ ws, iniS v ∈ xs → taiS v ∈ xs) → Q (.ref a) H'
theorem low_ini {v : Str} (h : Low v) : Low (iniS v) := low_take h _
theorem low_tai {v : Str} (h : Low v) : Low (taiS v) := low_drop h 1
theorem ok_law_reach (T : Top K mg "_law_reach" st_law_reach) (B : Bt mg) : Dn P w K mg base 1 "_law_reach" st_law_reach ["book", "spot"] spReach := by
  refine dn_of T sc_law_reach pl_law_reach (fun vs H Q E h => ?_) fun f cdv A outer s H vs Q E hr h => ?_
  · obtain ⟨a, b, _, _, rfl, _⟩ := h; rfl
  · obtain ⟨b, k, ws, s, rfl, ⟨t, eb, et⟩, bk, wl, ls, q⟩ := h
    have k2 := bk.n2
    have k6 := bk.n6
    refine ⟨_, (pss_cons (ps_asg (pe_tup (pa_cons (pe_lst (pa_cons (pv 1) pa_nil)) (pa_cons pe_bl pa_nil))) (pg_tupK K rfl rfl (pgs_cons (pg_name (i := 2) sc_law_reach.nd rfl (.inr rfl)) (pgs_cons (pg_name (i := 3) sc_law_reach.nd rfl (.inl rfl)) pgs_nil))))
      (pss_cons (ps_while PassesOwn.never (pt_val (pv 3)) (pss_cons (ps_setLc (i := 4) (own := [("window", 5)]) (g := gName 5) rfl sc_law_reach.nd rfl rfl (sw_true rfl rfl rfl (by decide +kernel)) (pi_tup (pe_ix (ixTK K rfl) (pv 0) pe_int (fun _ _ => rfl))) (blkOk_by (N := ["book", "spot", "found", "more", "later", "window"]) (sc := defScope st_law_reach) (by decide +kernel)) (fun _ _ _ _ _ => (pg_name (i := 5) sc_law_reach.nd rfl (.inl rfl))) (fun _ _ _ _ _ => (pts_one (PW.pt (pw_and (pt_cmpR (inK K rfl) (pe_slice sl_str (pv 5) po_none (po_some (pe_un un_neg pe_int))) (pv 2) (by rfl)) (pw_and1 (pt_cmpR (notInK K rfl) (pe_slice sl_str (pv 5) (po_some pe_int) po_none) (pv 2) (by rfl))))))) (fun _ _ _ _ _ => (pe_slice sl_str (pv 5) (po_some pe_int) po_none)))
      (pss_one (ps_asg (pe_tup (pa_cons (pe_op op_cat (pv 2) (pe_callB (sortSetK w rfl rfl) (by rfl) B.sorted (by decide +kernel) (pa_cons (pe_callTy (setK K w rfl rfl rfl) (by rfl) B.set (by decide +kernel) (pa_cons (pv 4) pa_nil)) pa_nil))) (pa_cons (pe_cmpR (neDK K rfl hr.units) (pv 4) (pe_lst pa_nil) (nomark _)) pa_nil))) (pg_tupK K rfl rfl (pgs_cons (pg_name (i := 2) sc_law_reach.nd rfl (.inr rfl)) (pgs_cons (pg_name (i := 3) sc_law_reach.nd rfl (.inl rfl)) pgs_nil)))))))
      (pss_one (ps_ret (pv 2))))), ?_⟩
    refine ⟨_, rfl, by show 1 ≤ sizeLine; decide, fun F0 nF0 => ⟨by show 2 ≤ sizeLine; decide, fun u nu => ⟨u, _, rfl, .inl (.inl upd_same), rfl, _, _, rfl, _, _, rfl, rfl, ?_⟩⟩⟩
    have s0 : Same H (upd (upd H F0 (.lst [V.str s])) u (.tup [V.ref F0, .bl true])) := (same_upd nF0).trans (same_upd nu)
    have e0 : (upd (upd H F0 (.lst [V.str s])) u (.tup [V.ref F0, .bl true])) F0 = some (.lst ([s].map V.str)) := (same_upd nu) _ _ upd_same
    generalize upd (upd H F0 (.lst [V.str s])) u (.tup [V.ref F0, .bl true]) = H1 at s0 e0 ⊢
    refine ⟨fun m σ H' => ∃ (F : Addr) (xs : List Str) (mo : Bool) (o4 : Option V), σ = [some (.ref b), some (.str s), some (.ref F), some (.bl mo), o4, none] ∧ H F = none ∧ H' F = some (.lst (xs.map V.str)) ∧ Same H H' ∧ Fnd ws s xs ∧ (mo = false → ∀ v ∈ ws, iniS v ∈ xs → taiS v ∈ xs) ∧ m = (if mo = true then 1 else 0) + togo ws xs,
      ⟨_, F0, [s], true, none, rfl, nF0, e0, s0, .start ws s, (fun h => by cases h), rfl⟩, fun m σ H' ⟨F, xs, mo, o4, eσ, nF, eF, sm, fd, cl, em⟩ => ?_⟩
    subst eσ
    refine ⟨_, rfl, mo, rfl, ?_⟩
    cases mo with
    | false =>
      refine iteF ?_
      exact ⟨_, rfl, q F xs H' nF sm eF fd (cl rfl)⟩
    | true =>
      have em : m = 1 + togo ws xs := em
      have few := fd.few
      refine iteT ⟨_, fun _ _ h => h, ?_⟩
      refine ⟨_, rfl, b, _, _, _, rfl, rfl, .inl (.inl (sm _ _ eb)), rfl, t, rfl, ⟨_, .inl (.inl (sm _ _ et))⟩, fun D hD => ?_⟩
      refine lc_tup (a := t) (xs := ws.map V.str) (fun i H2 => Same H' H2 ∧ H2 D = some (.lst ((newT (ws.take i) xs).map V.str))) ⟨same_upd hD, by rw [upd_same, List.take_zero]; rfl⟩ (fun i H2 _ h => .inl (.inl (h.1 _ _ (sm _ _ et)))) (fun i y H2 hi ⟨s2, e2⟩ => ?_) fun H2 ⟨s2, e2⟩ => ?_
      · obtain ⟨v, hv, rfl⟩ := str_at hi
        obtain ⟨lo, vl⟩ := bk.each v (List.mem_of_getElem? hv)
        have eF2 := s2 _ _ eF
        have ht : newT (ws.take (i + 1)) xs = newT (ws.take i) xs ++ (if iniS v ∈ xs ∧ taiS v ∉ xs then [taiS v] else []) := by
          unfold newT
          rw [List.take_add_one, hv, List.filter_append, List.map_append]
          refine congrArg (fun r : List Str => ((ws.take i).filter fun v => decide (iniS v ∈ xs) && decide (taiS v ∉ xs)).map taiS ++ r) ?_
          by_cases c1 : iniS v ∈ xs <;> by_cases c2 : taiS v ∈ xs <;> simp [c1, c2]
        refine ⟨rfl, ?_⟩
        refine ⟨_, rfl, _, rfl, _, rfl, v, rfl, big (by omega), ?_⟩
        rw [ini_eq (by omega)]
        refine ⟨_, rfl, F, _, rfl, .inl (.inl (.inl eF2)), rfl, flat_strs xs, _, rfl, ?_⟩
        dsimp only
        rw [in_dec]
        by_cases c1 : iniS v ∈ xs
        · rw [decide_eq_true c1]
          refine iteT ?_
          refine ⟨_, rfl, _, rfl, v, rfl, big (by omega), ?_⟩
          rw [tai_eq (by omega)]
          refine ⟨_, rfl, F, _, rfl, .inl (.inl (.inl eF2)), rfl, flat_strs xs, _, rfl, ?_⟩
          dsimp only
          rw [in_dec]
          by_cases c2 : taiS v ∈ xs
          · rw [decide_eq_true c2]
            refine iteF ?_
            refine ⟨s2, ?_⟩
            rw [ht, if_neg (fun h => h.2 c2), List.append_nil]
            exact e2
          · rw [decide_eq_false c2]
            refine iteT ?_
            refine ⟨_, rfl, _, rfl, v, rfl, big (by omega), ?_⟩
            rw [tai_eq (by omega)]
            refine ⟨_, e2, ?_, wr s2 hD, ?_⟩
            · have : (newT (ws.take i) xs).length ≤ 100 := by
                unfold newT
                rw [List.length_map]
                exact Nat.le_trans (List.length_filter_le _ _) (by rw [List.length_take]; omega)
              rw [List.length_map]; exact lt_line (by omega)
            · rw [upd_same, ht, if_pos ⟨c1, c2⟩, List.map_append]; rfl
        · rw [decide_eq_false c1]
          refine iteF ?_
          refine iteF ?_
          refine ⟨s2, ?_⟩
          rw [ht, if_neg (fun h => c1 h.1), List.append_nil]
          exact e2
      · rw [List.length_map, List.take_length] at e2
        have nl : (newT ws xs).length ≤ 100 := by
          unfold newT
          rw [List.length_map]
          exact Nat.le_trans (List.length_filter_le _ _) wl
        have eF2 := s2 _ _ eF
        refine ⟨_, rfl, _, rfl, D, newT ws xs, rfl, .inl (.inl e2), by omega, fun tt ks fo nt => ⟨tt, ks, rfl, upd_same, fun ys a py so na => ?_⟩⟩
        have up : Up ys (newT ws xs) := .of py so fo
        have yl := up.2.2.2
        have s3 : Same H2 (upd (upd H2 tt (SetSO w tt ks)) a (.lst (ys.map V.str))) := (same_upd nt).trans (same_upd na)
        have ea : (upd (upd H2 tt (SetSO w tt ks)) a (.lst (ys.map V.str))) a = some (.lst (ys.map V.str)) := upd_same
        generalize upd (upd H2 tt (SetSO w tt ks)) a (.lst (ys.map V.str)) = H3 at s3 ea ⊢
        refine ⟨F, a, _, _, rfl, rfl, s3 _ _ eF2, ea, by rw [List.length_map, List.length_map]; exact big (by omega), fun G nG => ?_⟩
        rw [← List.map_append]
        have e3 := (same_upd (o := .lst ((xs ++ ys).map V.str)) nG) _ _ (s3 _ _ e2)
        refine ⟨_, rfl, by show 0 ≤ sizeLine; decide, fun l nl2 => ⟨.list ((newT ws xs).map PyData.str), .list [], dp_strs ((same_upd nl2) _ _ e3), .lst (.inl (.inl upd_same)) .nil, shaped_strs fun x hx => ?_, by decide, by show 2 ≤ sizeLine; decide, fun u2 nu2 => ⟨u2, _, rfl, .inl (.inl upd_same), rfl, _, _, rfl, _, _, rfl, rfl, ?_⟩⟩⟩
        · obtain ⟨v, hv, _, _, rfl⟩ := mem_newT hx
          exact low_tai (bk.each v hv).1
        have s4 : Same H' (upd (upd (upd H3 G (.lst ((xs ++ ys).map V.str))) l (.lst [])) u2 (.tup [V.ref G, .bl (!PyData.eqv (.list ((newT ws xs).map PyData.str)) (.list []))])) := ((s2.trans s3).trans (same_upd nG)).trans ((same_upd nl2).trans (same_upd nu2))
        have nG0 : H G = none := sm.free (s2.free (s3.free nG))
        have eG : (upd (upd (upd H3 G (.lst ((xs ++ ys).map V.str))) l (.lst [])) u2 (.tup [V.ref G, .bl (!PyData.eqv (.list ((newT ws xs).map PyData.str)) (.list []))])) G = some (.lst ((xs ++ ys).map V.str)) := (same_upd nu2) _ _ ((same_upd nl2) _ _ upd_same)
        have ev : PyData.eqv (.list ((newT ws xs).map PyData.str)) (.list []) = decide (newT ws xs = []) := eqv_strs (newT ws xs) []
        rw [ev] at s4 eG ⊢
        have tg := togo_le up.2.2.1
        by_cases c : newT ws xs = []
        · have ey : ys = [] := by
            rw [c] at yl
            exact List.eq_nil_of_length_eq_zero (Nat.le_zero.mp yl)
          rw [decide_eq_true c] at s4 eG ⊢
          refine ⟨togo ws xs, by omega, G, xs ++ ys, false, _, rfl, nG0, eG, sm.trans s4, fd.more up, fun _ => ?_, ?_⟩
          · rw [ey, List.append_nil]; exact newT_nil c
          · rw [ey, List.append_nil]; show _ = 0 + _; omega
        · rw [decide_eq_false c] at s4 eG ⊢
          have : 0 < (newT ws xs).length := List.length_pos_iff.mpr c
          exact ⟨1 + togo ws (xs ++ ys), by omega, G, xs ++ ys, true, _, rfl, nG0, eG, sm.trans s4, fd.more up, (fun h => by cases h), rfl⟩
abbrev st_law_joined : Stmt := topS 35
theorem sc_law_joined : FnScope ["book", "every", "spot"] ["book"] (defScope st_law_joined) := ⟨rfl, rfl, rfl, by decide +kernel, rfl, by decide +kernel, by decide +kernel⟩
theorem pl_law_joined : PlainB "_law_joined" st_law_joined ["book"] := fun _ _ _ _ _ _ us hl => match us, hl with | [_], _ => rfl
def spJoined : Sp := fun vs H Q _ => ∃ (b : Addr) (k : Nat) (ws : List Str), vs = [.ref b] ∧ BookAt H b k ws ∧ Book k ws ∧ ws.length ≤ 100 ∧ ∀ c H', Same H H' → (c = true → Joined ws) → Q (.bl c) H'
theorem ok_law_joined (T : Top K mg "_law_joined" st_law_joined) (B : Bt mg) (D_law_spots : Dn P w K mg base 1 "_law_spots" st_law_spots ["book"] spSpots) (D_law_reach : Dn P w K mg base 1 "_law_reach" st_law_reach ["book", "spot"] spReach) :
    Dn P w K mg base 2 "_law_joined" st_law_joined ["book"] spJoined := by
  refine dn_of T sc_law_joined pl_law_joined (fun vs H Q E h => ?_) fun f cdv A outer s H vs Q E hr h => ?_
  · obtain ⟨a, b, _, rfl, _⟩ := h; rfl
  · obtain ⟨b, k, ws, rfl, bat, bk, wl, q⟩ := h
    have pl : (placesL ws).length ≤ 200 := by unfold placesL; rw [List.length_append, List.length_map, List.length_map]; omega
    refine ⟨_, (pss_cons (ps_set (i := 1) sc_law_joined.nd rfl (.inr rfl) (pe_fn D_law_spots (hr.mono (by decide)) (by rfl) (pa_cons (pv 0) pa_nil)))
      (pss_one (ps_ret (pe_callB (allK K rfl rfl) (by rfl) B.all (by decide +kernel) (pa_cons (pe_lc (own := [("spot", 2)]) (g := gName 2) rfl sc_law_joined.nd (pi_list (pv 1)) (blkOk_by (N := ["book", "every", "spot"]) (sc := defScope st_law_joined) (by decide +kernel)) (fun _ _ _ _ _ => (pg_name (i := 2) sc_law_joined.nd rfl (.inl rfl))) (fun _ _ _ _ _ => pts_nil) (fun _ _ _ _ _ => (pe_cmpR op_eq (pe_callB (lenK K rfl) (by rfl) B.len (by decide +kernel) (pa_cons (pe_fn D_law_reach (hr.mono (by decide)) (by rfl) (pa_cons (pv 0) (pa_cons (pv 2) pa_nil))) pa_nil)) (pe_callB (lenK K rfl) (by rfl) B.len (by decide +kernel) (pa_cons (pv 1) pa_nil)) (nomark _)))) pa_nil))))), ?_⟩
    refine ⟨_, rfl, b, k, ws, rfl, bat, bk, wl, fun a ys H1 na s1 ea up => ?_⟩
    have yl : ys.length ≤ 200 := Nat.le_trans up.2.2.2 pl
    refine ⟨_, rfl, a, rfl, ⟨_, .inl (.inl ea)⟩, fun D hD => ?_⟩
    refine lc_list (a := a) (xs := ys.map V.str) (fun i H' => Same H1 H' ∧ ∃ bs : List Bool, H' D = some (.lst (bs.map V.bl)) ∧ bs.length = i ∧ (bs.all id = true → ∀ s ∈ ys.take i, ∀ t ∈ placesL ws, Path ws s t)) ⟨same_upd hD, [], upd_same, rfl, fun _ s h => (by rw [List.take_zero] at h; cases h)⟩ (fun i H' _ h => .inl (.inl (h.1 _ _ ea))) (fun i y H' hi ⟨sm, bs, e, bl, hb⟩ => ?_) fun H' ⟨sm, bs, e, bl, hb⟩ => ?_
    · obtain ⟨v, hv, rfl⟩ := str_at hi
      have hvm := List.mem_of_getElem? hv
      have il : i < 200 := by
        have := (List.getElem?_eq_some_iff.mp hv).1
        omega
      have lv : Low v := by
        rcases List.mem_append.mp ((up.2.2.1 v).mp hvm) with h | h
        · obtain ⟨x, hx, rfl⟩ := List.mem_map.mp h
          exact low_ini (bk.each x hx).1
        · obtain ⟨x, hx, rfl⟩ := List.mem_map.mp h
          exact low_tai (bk.each x hx).1
      refine ⟨rfl, lc_yes ?_⟩
      refine ⟨_, rfl, _, rfl, b, k, ws, v, rfl, bat.same (s1.trans sm), bk, wl, lv, fun a2 xs H2 na2 s2 ea2 fd cl => ?_⟩
      refine ⟨a2, _, rfl, .inl (.inl (.inl ea2)), _, rfl, a, _, rfl, .inl (.inl (.inl (s2 _ _ (sm _ _ ea)))), rfl, ?_⟩
      refine ⟨_, s2 _ _ e, by rw [List.length_map, bl]; exact lt_line (by omega), wr (sm.trans s2) hD, bs ++ [decide (V.int ((xs.map V.str).length : Int) = V.int ((ys.map V.str).length : Int))], by rw [upd_same, List.map_append]; rfl, by rw [List.length_append, bl]; rfl, fun all s hs tt ht => ?_⟩
      rw [List.all_append, Bool.and_eq_true] at all
      rw [List.take_add_one, hv] at hs
      rcases List.mem_append.mp hs with hs | hs
      · exact hb all.1 s hs tt ht
      · have es : s = v := by simpa using hs
        subst es
        have eq : xs.length = ys.length := by
          have := all.2
          simp only [List.all_cons, List.all_nil, Bool.and_true, id, decide_eq_true_eq, List.length_map] at this
          have := V.int.inj this
          omega
        refine fd.way tt (pig_all fd.nd (ys := ys) (fun x hx => ?_) (by omega) ((up.2.2.1 tt).mpr ht))
        rcases fd.pl x hx with rfl | hx
        · exact hvm
        · exact (up.2.2.1 x).mpr (List.mem_append_right _ hx)
    · rw [List.length_map, List.take_length] at hb
      exact ⟨D, bs, rfl, .inl (.inl e), q _ H' (s1.trans sm) fun all s hs t ht => hb all s ((up.2.2.1 s).mpr hs) t ht⟩
end
end Tx

set_option Elab.async false
set_option linter.all false
set_option maxRecDepth 100000
set_option maxHeartbeats 1000000
namespace Tx
open PySem PySem.Spec PyProof.Rows L2 TL RZ
theorem any_keys {kvs : List (Key × V)} {ks : List Str} (e : kvs.map (·.1) = ks.map Sum.inr) (x : Str) : (kvs.any fun kv => decide (kv.1 = Sum.inr x)) = decide (x ∈ ks) := by
  have e1 : (kvs.any fun kv => decide (kv.1 = Sum.inr x)) = (kvs.map (·.1)).any fun k => decide (k = Sum.inr x) := by rw [List.any_map]; rfl
  rw [e1, e, List.any_map]
  by_cases c : x ∈ ks
  · rw [decide_eq_true c, List.any_eq_true]
    exact ⟨x, c, decide_eq_true rfl⟩
  · rw [decide_eq_false c, List.any_eq_false]
    intro y hy h
    have h : (Sum.inr y : Key) = Sum.inr x := of_decide_eq_true h
    exact c (Sum.inr.inj h ▸ hy)
theorem keys_put {kvs : List (Key × V)} {ks : List Str} (e : kvs.map (·.1) = ks.map Sum.inr) (x : Str) (v : V) : (putK kvs (Sum.inr x : Key) v).map (·.1) = (if x ∈ ks then ks else ks ++ [x]).map Sum.inr := by
  unfold putK
  rw [any_keys e]
  by_cases c : x ∈ ks
  · rw [if_pos c, if_pos (decide_eq_true c), List.map_map, ← e]
    refine List.map_congr_left fun kv _ => ?_
    show (if kv.1 = Sum.inr x then ((kv.1, v) : Key × V) else kv).1 = kv.1
    split <;> rfl
  · rw [if_neg c, if_neg (by rw [decide_eq_false c]; exact Bool.false_ne_true), List.map_append, List.map_append, e]; rfl
theorem val_some {kvs : List (Key × V)} {ks : List Str} (e : kvs.map (·.1) = ks.map Sum.inr) (x : Str) : (valV kvs (Sum.inr x : Key)).isSome = decide (x ∈ ks) := by
  rw [← any_keys e x]
  unfold valV
  rw [Option.isSome_map, Bool.eq_iff_iff, List.find?_isSome, List.any_eq_true]
/-- a dict of texts by texts -/
structure DT (G : Str → Str → Prop) (kvs : List (Key × V)) (ks : List Str) : Prop where
  keys : kvs.map (·.1) = ks.map Sum.inr
  each : ∀ q ∈ kvs, ∃ x y, q = (Sum.inr x, V.str y) ∧ G x y
theorem mem_put {kvs : List (Key × V)} {k : Key} {v : V} {q : Key × V} (h : q ∈ putK kvs k v) : q ∈ kvs ∨ q = (k, v) := by
  unfold putK at h
  split at h
  · obtain ⟨a, ha, e⟩ := List.mem_map.mp h
    split at e
    · rename_i c
      exact .inr (by rw [← e, ← of_decide_eq_true (p := a.1 = k) (by simpa using c)])
    · exact .inl (e ▸ ha)
  · rcases List.mem_append.mp h with h | h
    · exact .inl h
    · exact .inr (List.mem_singleton.mp h)
theorem DT.nil (G : Str → Str → Prop) : DT G [] [] := ⟨rfl, fun _ h => by cases h⟩
theorem DT.put {G : Str → Str → Prop} {kvs : List (Key × V)} {ks : List Str} (d : DT G kvs ks) {x y : Str} (g : G x y) : DT G (putK kvs (Sum.inr x : Key) (V.str y)) (if x ∈ ks then ks else ks ++ [x]) :=
  ⟨keys_put d.keys x _, fun q h => by
    rcases mem_put h with h | h
    · exact d.each q h
    · exact ⟨x, y, h, g⟩⟩
theorem DT.val {G : Str → Str → Prop} {kvs : List (Key × V)} {ks : List Str} (d : DT G kvs ks) {x : Str} {v : V} (h : valV kvs (Sum.inr x : Key) = some v) : ∃ y, v = V.str y ∧ G x y := by
  unfold valV at h
  obtain ⟨q, hq, e⟩ := Option.map_eq_some_iff.mp h
  have h1 := List.mem_of_find?_eq_some hq
  have h2 : q.1 = Sum.inr x := by simpa using List.find?_some hq
  obtain ⟨x', y, e2, g⟩ := d.each q h1
  rw [e2] at h2 e
  have : x' = x := Sum.inr.inj h2
  subst this
  exact ⟨y, e.symm, g⟩
theorem DT.there {G : Str → Str → Prop} {kvs : List (Key × V)} {ks : List Str} (d : DT G kvs ks) {x : Str} (h : x ∈ ks) : ∃ y, valV kvs (Sum.inr x : Key) = some (V.str y) ∧ G x y := by
  have := val_some d.keys x
  rw [decide_eq_true h] at this
  obtain ⟨v, hv⟩ := Option.isSome_iff_exists.mp this
  obtain ⟨y, rfl, g⟩ := d.val hv
  exact ⟨y, hv, g⟩
theorem DT.imp {G G' : Str → Str → Prop} {kvs : List (Key × V)} {ks : List Str} (d : DT G kvs ks) (h : ∀ x y, G x y → G' x y) : DT G' kvs ks :=
  ⟨d.keys, fun q hq => let ⟨x, y, e, g⟩ := d.each q hq; ⟨x, y, e, h x y g⟩⟩
theorem DT.len {G : Str → Str → Prop} {kvs : List (Key × V)} {ks : List Str} (d : DT G kvs ks) : kvs.length = ks.length := by
  have := congrArg List.length d.keys
  rwa [List.length_map, List.length_map] at this
theorem mem_ite {x y : Str} {ks : List Str} : y ∈ (if x ∈ ks then ks else ks ++ [x]) ↔ y ∈ ks ∨ y = x := by
  by_cases c : x ∈ ks
  · rw [if_pos c]
    exact ⟨.inl, fun h => h.elim id fun h => by rw [h]; exact c⟩
  · rw [if_neg c, List.mem_append, List.mem_singleton]
theorem nd_ite {x : Str} {ks : List Str} (h : ks.Nodup) : (if x ∈ ks then ks else ks ++ [x]).Nodup := by
  by_cases c : x ∈ ks
  · rw [if_pos c]; exact h
  · rw [if_neg c]
    exact List.nodup_append.mpr ⟨h, List.nodup_cons.mpr ⟨by simp, List.nodup_nil⟩, fun a ha b hb e => c (by rw [← List.mem_singleton.mp hb, ← e]; exact ha)⟩
/-- a piece that ends with the window x, of at most n steps more -/
def Way (k : Nat) (ws : List Str) (n : Nat) (x y : Str) : Prop := x ∈ ws ∧ Low y ∧ k ≤ y.length ∧ y.length ≤ k + n ∧ (tl y).drop (y.length - k) = tl x
def left (ws ks : List Str) : Nat := ws.countP fun v => decide (v ∉ ks)
theorem left_le (ws ks : List Str) : left ws ks ≤ ws.length := List.countP_le_length
theorem left_less {ws ks ks' : List Str} (sub : ∀ x ∈ ks, x ∈ ks') {v : Str} (hv : v ∈ ws) (n : v ∉ ks) (h : v ∈ ks') : left ws ks' + 1 ≤ left ws ks := by
  have k := count_two (p := fun x => decide (x ∉ ks')) (q := fun x => decide (x = v)) (r := fun x => decide (x ∉ ks)) (fun x hx => decide_eq_true fun c => of_decide_eq_true hx (sub x c)) (fun x hx => by rw [of_decide_eq_true hx]; exact decide_eq_true n) ws
    (fun x _ h1 h2 => of_decide_eq_true h1 (by rw [of_decide_eq_true h2]; exact h))
  have : 1 ≤ ws.countP fun x => decide (x = v) := List.countP_pos_iff.mpr ⟨v, hv, decide_eq_true rfl⟩
  unfold left
  omega
/-- what is known: closed but for the last layer -/
structure Known (ws : List Str) (one : Str) (ks ls : List Str) : Prop where
  me : one ∈ ks
  sub : ∀ x ∈ ls, x ∈ ks
  cl : ∀ u ∈ ks, u ∈ ls ∨ ∀ v ∈ ws, iniS v = taiS u → v ∈ ks
  nd : ks.Nodup
  inn : ∀ x ∈ ks, x ∈ ws
theorem Known.done {ws : List Str} {one other : Str} {ks : List Str} (h : Known ws one ks []) (j : Joined ws) (ho : one ∈ ws) (hr : other ∈ ws) : other ∈ ks := by
  have cl : ∀ u ∈ ks, ∀ v ∈ ws, iniS v = taiS u → v ∈ ks := fun u hu => (h.cl u hu).elim (fun z => by cases z) id
  have := (j (taiS one) (tai_place ho) (iniS other) (ini_place hr)).closed (S := fun p => ∀ v ∈ ws, iniS v = p → v ∈ ks) (cl one h.me) fun v hv s => cl v (s v hv rfl)
  exact this other hr rfl
theorem Way.more {k n : Nat} {ws : List Str} {u yu v : Str} {c : Nat} (hk : 2 ≤ k) (g : Way k ws n u yu) (hv : v ∈ ws) (lv : Low v) (vl : v.length = k) (ul : u.length = k) (e : iniS v = taiS u) (hc : (tl v)[v.length - 1]? = some c) : Way k ws (n + 1) v (yu ++ ⟨#[c]⟩) := by
  obtain ⟨_, ly, y1, y2, ye⟩ := g
  have c1 : (⟨#[c]⟩ : Str).length = 1 := rfl
  have hcl : c ∈ tl v := List.mem_of_getElem? hc
  refine ⟨hv, low_app ly (low_one lv hcl), by rw [len_app]; omega, by rw [len_app, c1]; omega, ?_⟩
  rw [len_app, c1, tl_append, List.drop_append_of_le_length (by rw [← len_tl]; omega), show yu.length + 1 - k = yu.length - k + 1 by omega, ← List.drop_drop, ye]
  have e2 : (tl v).take (v.length - 1) = (tl u).drop 1 := congrArg tl e
  rw [← e2]
  show (tl v).take (v.length - 1) ++ [c] = tl v
  rw [show [c] = (tl v)[v.length - 1]?.toList by rw [hc]; rfl, ← List.take_add_one, show v.length - 1 + 1 = (tl v).length by rw [← len_tl]; omega, List.take_length]
theorem Way.mono {k n m : Nat} {ws : List Str} {x y : Str} (g : Way k ws n x y) (h : n ≤ m) : Way k ws m x y := ⟨g.1, g.2.1, g.2.2.1, Nat.le_trans g.2.2.2.1 (by omega), g.2.2.2.2⟩
theorem left_mono {ws ks ks' : List Str} (sub : ∀ x ∈ ks, x ∈ ks') : left ws ks' ≤ left ws ks := List.countP_mono_left fun x _ h => decide_eq_true fun c => of_decide_eq_true h (sub x c)
theorem for_keys {d : Addr} {o : Obj} {kvs : List (Key × V)} {g : TG} {tb : TS} {D : Ends} {σ : L2.St} {H : Hp} (Pv : Nat → L2.St → Hp → Prop) (h0 : Pv 0 σ H) (hl : ∀ i σ H, Pv i σ H → H d = some (.frz o (.dK kvs)))
    (hs : ∀ i k v σ H, kvs[i]? = some (k, v) → Pv i σ H → g (kV k) σ H fun σ2 H2 => tb { D with nx := Pv (i + 1), ct := Pv (i + 1), bk := D.nx } σ2 H2) (hd : ∀ σ H, Pv kvs.length σ H → D.nx σ H) :
    ∃ W : Nat → Nat → L2.St → Hp → Prop, (∃ m, W 0 m σ H) ∧ ∀ i m σ H, W i m σ H →
      ((Itk d o kvs).stop i H ∧ D.nx σ H) ∨ ((Itk d o kvs).go i H ∧ ∃ N : L2.St → Hp → Prop, (∀ σ' H', N σ' H' → ∃ m', m' < m ∧ W (i + 1) m' σ' H') ∧ ∀ x H', (Itk d o kvs).yld i H x H' → g x σ H' fun σ2 H2 => tb { D with nx := N, ct := N, bk := D.nx } σ2 H2) := by
  refine ⟨fun i m σ H => m + i = kvs.length ∧ Pv i σ H, ⟨kvs.length, rfl, h0⟩, fun i m σ H ⟨e, p⟩ => ?_⟩
  have q := hl i σ H p
  by_cases lt : i < kvs.length
  · refine .inr ⟨⟨q, lt⟩, Pv (i + 1), fun σ' H' p' => ⟨m - 1, by omega, by omega, p'⟩, fun x H' y => ?_⟩
    obtain ⟨rfl, k, v, e2, rfl⟩ := y
    exact hs i k v _ _ e2 p
  · obtain rfl : i = kvs.length := by omega
    exact .inl ⟨⟨q, Nat.le_refl _⟩, hd _ _ p⟩
theorem for_start {K : PySem.W.Frag} {te : TE} {g : TG} {tb : TS} {D : Ends} {σ : L2.St} {H : Hp} (h : te σ H fun x H1 => ∃ a, x = .ref a ∧ (∃ xs, SqL K H1 a xs) ∧ ∃ W : Nat → Nat → L2.St → Hp → Prop, (∃ m, W 0 m σ H1) ∧ ∀ i m σ H, W i m σ H →
    ((Itl K a).stop i H ∧ D.nx σ H) ∨ ((Itl K a).go i H ∧ ∃ N : L2.St → Hp → Prop, (∀ σ' H', N σ' H' → ∃ m', m' < m ∧ W (i + 1) m' σ' H') ∧ ∀ x H', (Itl K a).yld i H x H' → g x σ H' fun σ2 H2 => tb { D with nx := N, ct := N, bk := D.nx } σ2 H2)) :
    tFor (iList K te) g tb D σ H := h
theorem atI_last {z : Str} {c : Nat} (h : (tl z)[z.length - 1]? = some c) (h1 : 1 ≤ z.length) : atI z.cps.toList (-1) = some c := by
  have hl : z.cps.toList.length = z.length := (len_tl z).symm
  unfold atI ixN
  rw [hl, if_neg (by decide), if_pos (by omega)]
  show z.cps.toList[((-1 : Int) + (z.length : Int)).toNat]? = some c
  rw [show ((-1 : Int) + (z.length : Int)).toNat = z.length - 1 by omega]
  exact h
theorem dget_of {H : Hp} {a : Addr} {kvs : List (Key × V)} {x : Str} {v : V} (e : Rd H a (.dK kvs)) (h : valV kvs (Sum.inr x : Key) = some v) : DGet H a (.str x) (some v) := by
  rw [← h]
  exact .inl ⟨kvs, Sum.inr x, e, rfl, rfl⟩
section
variable {P : Program} {w : World} {K : PySem.W.Frag} {mg : Str → Option Value} {base : Heap}
abbrev st_law_road : Stmt := topS 37
theorem sc_law_road : FnScope ["book", "one", "other", "known", "layer", "later", "step", "window", "text"] ["book", "one", "other"] (defScope st_law_road) := ⟨rfl, rfl, rfl, by decide +kernel, rfl, by decide +kernel, by decide +kernel⟩
theorem pl_law_road : PlainB "_law_road" st_law_road ["book", "one", "other"] := fun _ _ _ _ _ _ us hl => match us, hl with | [_, _, _], _ => rfl
/-- the way between two windows of a joined book -/
def spRoad : Sp := fun vs H Q _ => ∃ (b : Addr) (k : Nat) (ws : List Str) (one other : Str), vs = [.ref b, .str one, .str other] ∧ BookAt H b k ws ∧ Book k ws ∧ ws.length ≤ 100 ∧ Joined ws ∧ one ∈ ws ∧ other ∈ ws ∧ ∀ y H', Same H H' → Way k ws ws.length other y → Q (.str y) H'
theorem ok_law_road (T : Top K mg "_law_road" st_law_road) (B : Bt mg) : Dn P w K mg base 1 "_law_road" st_law_road ["book", "one", "other"] spRoad := by
  refine dn_of T sc_law_road pl_law_road (fun vs H Q E h => ?_) fun f cdv A outer s H vs Q E hr h => ?_
  · obtain ⟨a, b, _, _, _, rfl, _⟩ := h; rfl
  · obtain ⟨b, k, ws, one, other, rfl, ⟨t, eb, et⟩, bk, wl, jn, ho, hot, q⟩ := h
    have k2 := bk.n2
    have k6 := bk.n6
    obtain ⟨lo1, l1⟩ := bk.each one ho
    have d0 : DT (Way k ws 0) [((Sum.inr one : Key), V.str one)] [one] := ⟨rfl, fun p hp => ⟨one, one, List.mem_singleton.mp hp, ho, lo1, by omega, by omega, by rw [l1, Nat.sub_self, List.drop_zero]⟩⟩
    refine ⟨_, (pss_cons (ps_par (i := 3) (j := 4) (by rfl) sc_law_road.nd rfl rfl (by decide) rfl rfl (pa_cons (pe_disp (pps_cons (pv 1) (pv 1) pps_nil) (by rfl) (by rfl) (fun z => by cases z) (by decide)) (pa_cons (pe_disp (pps_cons (pv 1) (pv 1) pps_nil) (by rfl) (by rfl) (fun z => by cases z) (by decide)) pa_nil)) (by rfl))
      (pss_cons (ps_while PassesOwn.never (PW.pt (pw_and (pt_cmpR (op_neD0 (Nat.lt_of_succ_lt (hu_of hr))) (pv 4) pe_dnewK (nomark _)) (pw_and1 (pt_cmp (pc_dnotin (hu_of hr) (pv 2) (pv 3)))))) (pss_cons (ps_set (i := 5) sc_law_road.nd rfl (.inl rfl) pe_dnewK)
      (pss_cons (ps_for PassesOwn.never rfl (pi_list (pe_callB (cr_sortD rfl) (by rfl) B.sorted (by decide +kernel) (pa_cons (pv 4) pa_nil))) (pg_name (i := 6) sc_law_road.nd rfl (.inl rfl)) (pss_one (ps_for PassesOwn.never rfl (pi_tup (pe_ix (ixTK K rfl) (pv 0) pe_int (fun _ _ => rfl))) (pg_name (i := 7) sc_law_road.nd rfl (.inl rfl)) (pss_one (ps_if (PW.pt (pw_and (pt_cmpR op_eq (pe_slice sl_str (pv 7) po_none (po_some (pe_un un_neg pe_int))) (pe_slice sl_str (pv 6) (po_some pe_int) po_none) (nomark _)) (pw_and1 (pt_cmp (pc_dnotin (hu_of hr) (pv 7) (pv 3)))))) (pss_cons (ps_set (i := 8) sc_law_road.nd rfl (.inl rfl) (pe_op op_add_str (pe_dget (hu_of hr) (pv 4) (pv 6) (fun _ _ => rfl)) (pe_ix ix_str (pv 7) (pe_un un_neg pe_int) (fun _ _ => rfl))))
      (pss_one (ps_dput (hu_of hr) (pv 5) (pv 7) (pe_callB (cr_min2S rfl) (by rfl) B.min (by decide +kernel) (pa_cons (pe_dget2 (hu_of hr) (pv 5) (pv 7) (pv 8) ⟨by rfl, by rfl, by rfl, by rfl⟩) (pa_cons (pv 8) pa_nil))) rfl))) pss_nil)))))
      (pss_cons (ps_lock (ps_for PassesOwn.never rfl (pi_keys (pv 5)) (pg_name (i := 7) sc_law_road.nd rfl (.inl rfl)) (pss_one (ps_dput (hu_of hr) (pv 3) (pv 7) (pe_dget (hu_of hr) (pv 5) (pv 7) (fun _ _ => rfl)) rfl))))
      (pss_one (ps_set (i := 4) sc_law_road.nd rfl (.inl rfl) (pv 5)))))))
      (pss_one (ps_ret (pe_dget2 (hu_of hr) (pv 3) (pv 2) pe_non ⟨by rfl, by rfl, by rfl, by rfl⟩))))), ?_⟩
    refine fun d nd => ⟨_, rfl, _, rfl, upd_same, [(Sum.inr one, V.str one)], rfl, by show 1 ≤ 15; decide, fun d2 nd2 => ⟨_, rfl, _, rfl, upd_same, [(Sum.inr one, V.str one)], rfl, by show 1 ≤ 15; decide, _, _, rfl, ?_⟩⟩
    have s1 : Same H (upd (upd H d (.dK [])) d (.dK (mergeK [] [((Sum.inr one : Key), V.str one)]))) := wr (same_upd nd) nd
    have e1 : (upd (upd H d (.dK [])) d (.dK (mergeK [] [((Sum.inr one : Key), V.str one)]))) d = some (.dK [((Sum.inr one : Key), V.str one)]) := upd_same
    generalize upd (upd H d (.dK [])) d (.dK (mergeK [] [((Sum.inr one : Key), V.str one)])) = H1 at s1 e1 nd2 ⊢
    have n2 : d ≠ d2 := ne_of_none e1 nd2
    have s2 : Same H1 (upd (upd H1 d2 (.dK [])) d2 (.dK (mergeK [] [((Sum.inr one : Key), V.str one)]))) := wr (same_upd nd2) nd2
    have e2 : (upd (upd H1 d2 (.dK [])) d2 (.dK (mergeK [] [((Sum.inr one : Key), V.str one)]))) d2 = some (.dK [((Sum.inr one : Key), V.str one)]) := upd_same
    generalize upd (upd H1 d2 (.dK [])) d2 (.dK (mergeK [] [((Sum.inr one : Key), V.str one)])) = H2 at s2 e2 ⊢
    have fewN : ∀ xs : List Str, xs.Nodup → (∀ x ∈ xs, x ∈ ws) → xs.length ≤ 100 := fun xs h1 h2 => Nat.le_trans (pig xs ws h1 h2) wl
    refine ⟨fun m σ H' => ∃ (L : Addr) (kvs kvl : List (Key × V)) (ks ls : List Str) (n : Nat) (o5 o6 o7 o8 : Option V), σ = [some (.ref b), some (.str one), some (.str other), some (.ref d), some (.ref L), o5, o6, o7, o8] ∧ L ≠ d ∧ H' d = some (.dK kvs) ∧ H' L = some (.dK kvl) ∧ DT (Way k ws n) kvs ks ∧ DT (Way k ws n) kvl ls ∧ Known ws one ks ls ∧ ls.Nodup ∧ n + left ws ks ≤ ws.length ∧ Same H H' ∧ m = left ws ks + (if ls = [] then 0 else 1),
      ⟨_, d2, _, _, [one], [one], 0, none, none, none, none, rfl, n2.symm, s2 _ _ e1, e2, d0, d0, ⟨List.mem_singleton.mpr rfl, fun x h => h, fun u h => .inl h, List.nodup_cons.mpr ⟨by simp, List.nodup_nil⟩, fun x h => by rw [List.mem_singleton.mp h]; exact ho⟩, List.nodup_cons.mpr ⟨by simp, List.nodup_nil⟩, by have := left_le ws [one]; omega, s1.trans s2, rfl⟩,
      fun m σ H' ⟨L, kvs, kvl, ks, ls, n, o5, o6, o7, o8, eσ, nL, ed, eL, dk, dl, kn, ndl, bd, sm, em⟩ => ?_⟩
    subst eσ
    have fin : ∀ H'' : Hp, Same H' H'' → other ∈ ks → ∃ y, valV kvs (Sum.inr other : Key) = some (V.str y) ∧ Q (.str y) H'' := fun H'' s h => by
      obtain ⟨y, hv, g⟩ := dk.there h
      exact ⟨y, hv, q y H'' (sm.trans s) (g.mono (by omega))⟩
    refine ⟨_, rfl, fun e0 ne0 => ⟨L, e0, kvl, rfl, rfl, (same_upd ne0) _ _ eL, upd_same, _, rfl, ?_⟩⟩
    have s0 : Same H' (upd H' e0 (.dK [])) := same_upd ne0
    generalize upd H' e0 (.dK []) = H3 at s0 ⊢
    have ed3 := s0 _ _ ed
    by_cases hls : ls = []
    · have : kvl = [] := List.eq_nil_of_length_eq_zero (by rw [dl.len, hls]; rfl)
      subst this
      subst hls
      refine iteF ?_
      refine iteF ?_
      obtain ⟨y, hv, qy⟩ := fin H3 s0 (kn.done jn ho hot)
      refine ⟨_, rfl, d, rfl, .inl ⟨_, .inl ed3⟩, _, rfl, _, dget_of (.inl ed3) hv, ?_⟩
      exact qy
    · have hkv : (!kvl.isEmpty) = true := by
        cases kvl with
        | nil => exact absurd (List.eq_nil_of_length_eq_zero (by rw [← dl.len]; rfl)) hls
        | cons _ _ => rfl
      rw [hkv]
      refine iteT ?_
      refine ⟨_, rfl, _, rfl, d, _, rfl, DGet.k (k := Sum.inr other) ed3, _, rfl, ?_⟩
      rw [val_some dk.keys]
      by_cases hk : other ∈ ks
      · rw [decide_eq_true hk]
        refine iteF ?_
        obtain ⟨y, hv, qy⟩ := fin H3 s0 hk
        refine ⟨_, rfl, d, rfl, .inl ⟨_, .inl ed3⟩, _, rfl, _, dget_of (.inl ed3) hv, ?_⟩
        exact qy
      · rw [decide_eq_false hk]
        refine iteT ⟨_, fun _ _ h => h, ?_⟩
        refine fun D nD => ?_
        have nDd : D ≠ d := (ne_of_none ed3 nD).symm
        have eL3 := s0 _ _ eL
        have nDL : D ≠ L := (ne_of_none eL3 nD).symm
        have nD0 : H D = none := sm.free (s0.free nD)
        dsimp only [gName, tSeq]
        refine for_start ?_
        refine ⟨_, rfl, L, kvl, ls, rfl, .inl ((same_upd nD) _ _ eL3), dl.keys, fun ys a py so na => ⟨a, rfl, ⟨_, .inl (.inl upd_same)⟩, ?_⟩⟩
        have s4 : Same H3 (upd (upd H3 D (.dK [])) a (.lst (ys.map V.str))) := (same_upd nD).trans (same_upd na)
        have eD4 : (upd (upd H3 D (.dK [])) a (.lst (ys.map V.str))) D = some (.dK []) := (same_upd na) _ _ upd_same
        have ea4 : (upd (upd H3 D (.dK [])) a (.lst (ys.map V.str))) a = some (.lst (ys.map V.str)) := upd_same
        generalize upd (upd H3 D (.dK [])) a (.lst (ys.map V.str)) = H4 at s4 eD4 ea4 ⊢
        have naD : a ≠ D := fun h => by rw [h, eD4] at ea4; cases ea4
        have sm4 : Same H H4 := (sm.trans s0).trans s4
        have kl : ∀ u ∈ ys, u ∈ ls := fun u h => py.mem_iff.mp h
        refine for_list (K := K) (a := a) (xs := ys.map V.str) (fun i σ H' => ∃ (kvn : List (Key × V)) (ns : List Str) (o6 o7 o8 : Option V), σ = [some (.ref b), some (.str one), some (.str other), some (.ref d), some (.ref L), some (.ref D), o6, o7, o8] ∧ But D H4 H' ∧ H' D = some (.dK kvn) ∧ DT (Way k ws (n + 1)) kvn ns ∧ ns.Nodup ∧ (∀ x ∈ ns, x ∈ ws ∧ x ∉ ks) ∧ ∀ u ∈ ys.take i, ∀ v ∈ ws, iniS v = taiS u → v ∈ ks ∨ v ∈ ns)
          ⟨[], [], _, _, _, rfl, But.refl, eD4, .nil _, List.nodup_nil, (fun _ h => by cases h), fun u h => by rw [List.take_zero] at h; cases h⟩ (fun _ _ _ _ ⟨_, _, _, _, _, _, bt, _⟩ => .inl (.inl (bt.kept ea4 naD))) (fun i y σ H5 hi ⟨kvn, ns, p6, p7, p8, eσ, bt, eD, dn, ndn, hns, hcl⟩ => ?_) fun σ H5 ⟨kvn, ns, p6, p7, p8, eσ, bt, eD, dn, ndn, hns, hcl⟩ => ?_
        · subst eσ
          obtain ⟨u, hu, rfl⟩ := str_at hi
          have hul := kl u (List.mem_of_getElem? hu)
          obtain ⟨yu, hyu, gu⟩ := dl.there hul
          obtain ⟨lu, ul⟩ := bk.each u gu.1
          have eb5 := bt.kept (sm4 _ _ eb) (fun h => by rw [h] at eb; rw [nD0] at eb; cases eb)
          have ntD : t ≠ D := fun h => by rw [h] at et; rw [nD0] at et; cases et
          refine ⟨_, rfl, b, _, _, _, rfl, rfl, .inl (.inl eb5), rfl, t, rfl, ⟨_, .inl (.inl (bt.kept (sm4 _ _ et) ntD))⟩, ?_⟩
          refine for_tup (K := K) (a := t) (xs := ws.map V.str) (fun j σ H' => ∃ (kvn : List (Key × V)) (ns : List Str) (o7 o8 : Option V), σ = [some (.ref b), some (.str one), some (.str other), some (.ref d), some (.ref L), some (.ref D), some (.str u), o7, o8] ∧ But D H4 H' ∧ H' D = some (.dK kvn) ∧ DT (Way k ws (n + 1)) kvn ns ∧ ns.Nodup ∧ (∀ x ∈ ns, x ∈ ws ∧ x ∉ ks) ∧ (∀ u ∈ ys.take i, ∀ v ∈ ws, iniS v = taiS u → v ∈ ks ∨ v ∈ ns) ∧ ∀ v ∈ ws.take j, iniS v = taiS u → v ∈ ks ∨ v ∈ ns)
            ⟨kvn, ns, _, _, rfl, bt, eD, dn, ndn, hns, hcl, fun v h => by rw [List.take_zero] at h; cases h⟩ (fun _ _ _ _ ⟨_, _, _, _, _, bt, _⟩ => .inl (.inl (bt.kept (sm4 _ _ et) ntD))) (fun j y σ H6 hj ⟨kvn, ns, p7, p8, eσ, bt, eD, dn, ndn, hns, hcl, hcj⟩ => ?_) fun σ H6 ⟨kvn, ns, p7, p8, eσ, bt, eD, dn, ndn, hns, hcl, hcj⟩ => ?_
          · subst eσ
            obtain ⟨v, hv, rfl⟩ := str_at hj
            have hvm := List.mem_of_getElem? hv
            obtain ⟨lv, vl⟩ := bk.each v hvm
            have ht : ws.take (j + 1) = ws.take j ++ [v] := by rw [List.take_add_one, hv]; rfl
            have ed6 := bt.kept (s4 _ _ ed3) nDd.symm
            have eL6 := bt.kept (s4 _ _ eL3) nDL.symm
            have skip : (iniS v = taiS u → v ∈ ks ∨ v ∈ ns) → ∀ x ∈ ws.take (j + 1), iniS x = taiS u → x ∈ ks ∨ x ∈ ns := fun h x hx e => by
              rw [ht] at hx
              rcases List.mem_append.mp hx with hx | hx
              · exact hcj x hx e
              · rw [List.mem_singleton.mp hx] at e ⊢; exact h e
            refine ⟨_, rfl, _, rfl, _, rfl, v, rfl, big (by omega), ?_⟩
            rw [ini_eq (by omega)]
            refine ⟨_, rfl, _, rfl, u, rfl, big (by omega), ?_⟩
            rw [tai_eq (by omega)]
            refine ⟨rfl, _, rfl, ?_⟩
            rw [str_ne]
            by_cases c1 : iniS v = taiS u
            · rw [decide_eq_true c1]
              refine iteT ?_
              refine ⟨_, rfl, _, rfl, d, _, rfl, DGet.k (k := Sum.inr v) ed6, _, rfl, ?_⟩
              rw [val_some dk.keys]
              by_cases c2 : v ∈ ks
              · rw [decide_eq_true c2]
                refine iteF ?_
                exact ⟨kvn, ns, _, _, rfl, bt, eD, dn, ndn, hns, hcl, skip fun _ => .inl c2⟩
              · rw [decide_eq_false c2]
                refine iteT ?_
                have ltv : v.length - 1 < (tl v).length := by rw [← len_tl]; omega
                have hc : (tl v)[v.length - 1]? = some (tl v)[v.length - 1] := List.getElem?_eq_getElem ltv
                have gv : Way k ws (n + 1) v (yu ++ ⟨#[(tl v)[v.length - 1]]⟩) := gu.more k2 hvm lv vl ul c1 hc
                have lyu := gu.2.2.2.1
                refine ⟨_, rfl, _, rfl, L, V.str yu, rfl, dget_of (.inl eL6) hyu, _, rfl, _, rfl, v, _, _, rfl, rfl, big (by omega), atI_last hc (by omega), _, _, rfl, rfl, ?_, ?_⟩
                · exact big (show yu.length + 1 ≤ 3000 by omega)
                generalize yu ++ (⟨#[(tl v)[v.length - 1]]⟩ : Str) = text at gv ⊢
                obtain ⟨y', hy', gy'⟩ : ∃ y', (valV kvn (Sum.inr v : Key)).getD (V.str text) = V.str y' ∧ Way k ws (n + 1) v y' := by
                  cases e : valV kvn (Sum.inr v : Key) with
                  | none => exact ⟨text, rfl, gv⟩
                  | some z =>
                    obtain ⟨y', rfl, g⟩ := dn.val e
                    exact ⟨y', rfl, g⟩
                have few := fewN ns ndn fun x hx => (hns x hx).1
                refine ⟨_, rfl, D, rfl, .inl ⟨_, .inl eD⟩, _, rfl, _, rfl, _, DGet.k (k := Sum.inr v) eD, _, rfl, y', text, congrArg (fun z => [z, V.str text]) hy', fun m hm => ⟨_, rfl, _, rfl, D, _, rfl, DPut.k (k := Sum.inr v) eD (by rw [dn.len]; exact lt_line (by omega)), ?_⟩⟩
                have gm : Way k ws (n + 1) v m := by
                  rcases hm with rfl | rfl
                  · exact gy'
                  · exact gv
                refine ⟨_, _, _, _, rfl, bt.trans But.upd, upd_same, dn.put gm, nd_ite ndn, fun x hx => ?_, fun u' hu' x hx e => ?_, fun x hx e => ?_⟩
                · rcases mem_ite.mp hx with hx | rfl
                  · exact hns x hx
                  · exact ⟨hvm, c2⟩
                · exact (hcl u' hu' x hx e).imp id fun h => mem_ite.mpr (.inl h)
                · rw [ht] at hx
                  rcases List.mem_append.mp hx with hx | hx
                  · exact (hcj x hx e).imp id fun h => mem_ite.mpr (.inl h)
                  · exact .inr (mem_ite.mpr (.inr (List.mem_singleton.mp hx)))
            · rw [decide_eq_false c1]
              refine iteF ?_
              refine iteF ?_
              exact ⟨kvn, ns, _, _, rfl, bt, eD, dn, ndn, hns, hcl, skip fun h => absurd h c1⟩
          · subst eσ
            rw [List.length_map, List.take_length] at hcj
            refine ⟨kvn, ns, _, _, _, rfl, bt, eD, dn, ndn, hns, fun u' hu' v hv e => ?_⟩
            rw [List.take_add_one, hu] at hu'
            rcases List.mem_append.mp hu' with h | h
            · exact hcl u' h v hv e
            · have : u' = u := by simpa using h
              subst this
              exact hcj v hv e
        · subst eσ
          rw [List.length_map, List.take_length] at hcl
          have ed5 := bt.kept (s4 _ _ ed3) nDd.symm
          have few := fewN ns ndn fun x hx => (hns x hx).1
          obtain ⟨n', hn1, hn2, hn0, hn9⟩ : ∃ n', DT (Way k ws n') kvs ks ∧ DT (Way k ws n') kvn ns ∧ (ns = [] → n' = n) ∧ n' ≤ n + 1 := by
            by_cases c : ns = []
            · have : kvn = [] := List.eq_nil_of_length_eq_zero (by rw [dn.len, c]; rfl)
              subst this
              subst c
              exact ⟨n, dk, .nil _, fun _ => rfl, by omega⟩
            · exact ⟨n + 1, dk.imp fun x y g => g.mono (by omega), dn, fun h => absurd h c, Nat.le_refl _⟩
          refine ⟨D, _, eD, trivial, fun od => ?_⟩
          refine ⟨_, rfl, D, od, rfl, .inl ⟨kvn, upd_same, ?_⟩⟩
          refine for_keys (fun i σ H' => ∃ (kvs' : List (Key × V)) (ks' : List Str) (o7 : Option V), σ = [some (.ref b), some (.str one), some (.str other), some (.ref d), some (.ref L), some (.ref D), p6, o7, p8] ∧ H' D = some (.frz od (.dK kvn)) ∧ H' d = some (.dK kvs') ∧ DT (Way k ws n') kvs' ks' ∧ ks'.Nodup ∧ (∀ x, x ∈ ks' ↔ x ∈ ks ∨ x ∈ ns.take i) ∧ ∀ c o, H4 c = some o → c ≠ d → c ≠ D → H' c = some o)
            ⟨kvs, ks, _, rfl, upd_same, keep_ne ed5 nDd.symm, hn1, kn.nd, fun x => by rw [List.take_zero]; simp, fun c o e c1 c2 => keep_ne (bt.kept e c2) c2⟩ (fun _ _ _ ⟨_, _, _, _, e, _⟩ => e) (fun i kk vv σ H7 hi ⟨kvs', ks', o7, eσ, eD7, ed7, dk', nd', mem', oth⟩ => ?_) fun σ H7 ⟨kvs', ks', o7, eσ, eD7, ed7, dk', nd', mem', oth⟩ => ?_
          · subst eσ
            have hx : ns[i]? = some (match kk with | .inr x => x | _ => Str.empty) ∧ ∃ x, kk = Sum.inr x := by
              have e := congrArg (fun l : List Key => l[i]?) dn.keys
              simp only [List.getElem?_map, hi] at e
              cases e2 : ns[i]? with
              | none => rw [e2] at e; cases e
              | some x =>
                rw [e2] at e
                have : kk = Sum.inr x := Option.some.inj e
                subst this
                exact ⟨rfl, x, rfl⟩
            obtain ⟨hx, x, rfl⟩ := hx
            obtain ⟨y, hy, gy⟩ := hn2.there (List.mem_of_getElem? hx)
            have few' := fewN ks' nd' fun z hz => by
              rcases (mem' z).mp hz with h | h
              · exact kn.inn z h
              · exact (hns z (List.mem_of_mem_take h)).1
            refine ⟨_, rfl, _, rfl, D, V.str y, rfl, dget_of (.inr ⟨od, eD7⟩) hy, _, rfl, _, rfl, d, _, rfl, DPut.k (k := Sum.inr x) ed7 (by rw [dk'.len]; exact lt_line (by omega)), ?_⟩
            refine ⟨_, _, _, rfl, keep_ne eD7 nDd, upd_same, dk'.put gy, nd_ite nd', fun z => ?_, fun c o e c1 c2 => keep_ne (oth c o e c1 c2) c1⟩
            rw [mem_ite, mem', List.take_add_one, hx, List.mem_append]
            simp only [Option.toList, List.mem_singleton]
            exact or_assoc
          · subst eσ
            rw [hn2.len, List.take_length] at mem'
            refine ⟨eD7, ?_⟩
            refine ⟨_, rfl, ?_⟩
            have sub : ∀ x ∈ ks, x ∈ ks' := fun x h => (mem' x).mpr (.inl h)
            have lm := left_mono (ws := ws) sub
            have key : n' + left ws ks' ≤ ws.length ∧ left ws ks' + (if ns = [] then 0 else 1) < left ws ks + 1 := by
              by_cases c : ns = []
              · rw [if_pos c, hn0 c]; omega
              · rw [if_neg c]
                obtain ⟨v, hv⟩ := List.exists_mem_of_ne_nil ns c
                have := left_less sub (hns v hv).1 (hns v hv).2 ((mem' v).mpr (.inr hv))
                omega
            refine ⟨left ws ks' + (if ns = [] then 0 else 1), ?_, D, kvs', kvn, ks', ns, n', _, _, _, _, rfl, nDd, keep_ne ed7 nDd.symm, upd_same, dk', hn2, ⟨sub _ kn.me, fun x h => (mem' x).mpr (.inr h), fun u hu => ?_, nd', fun x h => ?_⟩, ndn, key.1, fun c o e => ?_, rfl⟩
            · rw [em, if_neg hls]; exact key.2
            · rcases (mem' u).mp hu with h | h
              · rcases kn.cl u h with h | h
                · exact .inr fun v hv e => (mem' v).mpr (hcl u (py.mem_iff.mpr h) v hv e)
                · exact .inr fun v hv e => sub v (h v hv e)
              · exact .inl h
            · rcases (mem' x).mp h with h | h
              · exact kn.inn x h
              · exact (hns x h).1
            · have c1 : c ≠ d := fun h => by rw [h, nd] at e; cases e
              have c2 : c ≠ D := fun h => by rw [h, nD0] at e; cases e
              exact keep_ne (oth c o (sm4 _ _ e) c1 c2) c2
end
end Tx

set_option Elab.async false
set_option linter.all false
set_option maxRecDepth 100000
set_option maxHeartbeats 1000000
namespace Tx
open PySem PySem.Spec PyProof.Rows L2 TL RZ
theorem cutS_last (z : Str) (k : Nat) (h1 : 2 ≤ k) (h : k ≤ z.length) : cutS z (some (1 - (k : Int))) none = mkS ((tl z).drop (z.length + 1 - k)) := by
  refine ext_tl ?_
  unfold cutS
  have e : HT.sIx z.length 0 (some (1 - (k : Int))) = z.length + 1 - k := by
    show (if (1 - (k : Int)) < 0 then ((1 - (k : Int)) + (z.length : Int)).toNat else min (1 - (k : Int)).toNat z.length) = _
    rw [if_pos (by omega)]; omega
  rw [e, HT.sIx_none]
  show ((tl z).drop _).take (z.length - _) = _
  rw [List.take_of_length_le (by rw [List.length_drop, ← len_tl]; exact Nat.le_refl _)]
  rfl
theorem cutS_mneg (z : Str) (k : Nat) (h1 : 1 ≤ k) (h : k ≤ z.length) : cutS z (some (-(k : Int))) none = mkS ((tl z).drop (z.length - k)) := by
  refine ext_tl ?_
  unfold cutS
  have e : HT.sIx z.length 0 (some (-(k : Int))) = z.length - k := by
    show (if (-(k : Int)) < 0 then ((-(k : Int)) + (z.length : Int)).toNat else min (-(k : Int)).toNat z.length) = _
    rw [if_pos (by omega)]; omega
  rw [e, HT.sIx_none]
  show ((tl z).drop _).take (z.length - _) = _
  rw [List.take_of_length_le (by rw [List.length_drop, ← len_tl]; exact Nat.le_refl _)]
  rfl
theorem cutS_tneg (z : Str) (k : Nat) (h1 : 1 ≤ k) (h : k ≤ z.length) : cutS z none (some (-(k : Int))) = mkS ((tl z).take (z.length - k)) := by
  refine ext_tl ?_
  unfold cutS
  have e : HT.sIx z.length z.length (some (-(k : Int))) = z.length - k := by
    show (if (-(k : Int)) < 0 then ((-(k : Int)) + (z.length : Int)).toNat else min (-(k : Int)).toNat z.length) = _
    rw [if_pos (by omega)]; omega
  rw [e, HT.sIx_none]
  rfl
theorem Path.first {ws : List Str} {a b : Str} (h : Path ws a b) : a = b ∨ ∃ v ∈ ws, iniS v = a := by
  induction h with
  | here => exact .inl rfl
  | step _ hv ih =>
    rcases ih with e | e
    · exact .inr ⟨_, hv, e.symm⟩
    · exact .inr e
theorem Joined.next {ws : List Str} (j : Joined ws) {u : Str} (h : u ∈ ws) : ∃ v ∈ ws, iniS v = taiS u := by
  rcases (j (taiS u) (tai_place h) (iniS u) (ini_place h)).first with e | e
  · exact ⟨u, h, e.symm⟩
  · exact e
theorem BookAt.but {H H' : Hp} {p a : Addr} {n m : Nat} {ws : List Str} (k : BookAt H a n ws) (bt : But p H H') (sr : Src H p m) : BookAt H' a n ws := by
  obtain ⟨t, e1, e2⟩ := k
  exact ⟨t, bt.kept e1 (sr.ne e1), bt.kept e2 (sr.ne e2)⟩
/-- a text that ends with a window -/
def Ends (k : Nat) (ws : List Str) (x u : Str) : Prop := u ∈ ws ∧ Low x ∧ k ≤ x.length ∧ (tl x).drop (x.length - k) = tl u
theorem Ends.tail {k : Nat} {ws : List Str} {x u : Str} (e : Ends k ws x u) (h1 : 2 ≤ k) : cutS x (some (1 - (k : Int))) none = taiS u := by
  have h := e.2.2.1
  rw [cutS_last x k h1 h, show x.length + 1 - k = x.length - k + 1 by omega, ← List.drop_drop, e.2.2.2]
  rfl
theorem Ends.win {k : Nat} {ws : List Str} {x u : Str} (e : Ends k ws x u) (h1 : 1 ≤ k) : cutS x (some (-(k : Int))) none = u := by
  rw [cutS_mneg x k h1 e.2.2.1, e.2.2.2, mkS_tl]
theorem Ends.more {k : Nat} {ws : List Str} {x u v : Str} {c : Nat} (hk : 2 ≤ k) (g : Ends k ws x u) (hv : v ∈ ws) (lv : Low v) (vl : v.length = k) (ul : u.length = k) (e : iniS v = taiS u) (hc : (tl v)[v.length - 1]? = some c) : Ends k ws (x ++ ⟨#[c]⟩) v := by
  have w : Way k ws x.length u x := ⟨g.1, g.2.1, g.2.2.1, by omega, g.2.2.2⟩
  have w2 := w.more hk hv lv vl ul e hc
  exact ⟨hv, w2.2.1, w2.2.2.1, w2.2.2.2.2⟩
theorem Ends.on {k n : Nat} {ws : List Str} {x u v y : Str} (g : Ends k ws x u) (h : Way k ws n v y) : Ends k ws (mkS ((tl x).take (x.length - k)) ++ y) v := by
  obtain ⟨hv, ly, y1, y2, ye⟩ := h
  have lt : (mkS ((tl x).take (x.length - k))).length = x.length - k := len_take (by omega)
  refine ⟨hv, low_app (low_take g.2.1 _) ly, by rw [len_app]; omega, ?_⟩
  rw [len_app, lt, tl_append, show x.length - k + y.length - k = (tl (mkS ((tl x).take (x.length - k)))).length + (y.length - k) by rw [← len_tl, lt]; omega, List.drop_append, List.drop_eq_nil_of_le (Nat.le_add_right _ _), Nat.add_sub_cancel_left, List.nil_append, ye]
section
variable {P : Program} {w : World} {K : PySem.W.Frag} {mg : Str → Option Value} {base : Heap}
abbrev st_law_walk : Stmt := topS 38
theorem sc_law_walk : FnScope ["source", "book", "size", "first", "text", "seen", "turn", "window", "later"] ["source", "book", "size"] (defScope st_law_walk) := ⟨rfl, rfl, rfl, by decide +kernel, rfl, by decide +kernel, by decide +kernel⟩
theorem pl_law_walk : PlainB "_law_walk" st_law_walk ["source", "book", "size"] := fun _ _ _ _ _ _ us hl => match us, hl with | [_, _, _], _ => rfl
def spWalk : Sp := fun vs H Q _ => ∃ (p b : Addr) (k size n : Nat) (ws : List Str), vs = [.ref p, .ref b, .int size] ∧ Src H p n ∧ n ≤ 1000000 ∧ BookAt H b k ws ∧ Book k ws ∧ ws.length ≤ 100 ∧ Joined ws ∧ size ≤ 1900 ∧ ∀ y H', Low y → 1 ≤ y.length → y.length ≤ 100000 → Src H' p (n + 2000) → But p H H' → Q (.str y) H'
theorem ok_law_walk (T : Top K mg "_law_walk" st_law_walk) (B : Bt mg) (D_law_pick : Dn P w K mg base 1 "_law_pick" st_law_pick ["source", "top"] spPick) (D_law_road : Dn P w K mg base 1 "_law_road" st_law_road ["book", "one", "other"] spRoad) :
    Dn P w K mg base 2 "_law_walk" st_law_walk ["source", "book", "size"] spWalk := by
  refine dn_of T sc_law_walk pl_law_walk (fun vs H Q E h => ?_) fun f cdv A outer s H vs Q E hr h => ?_
  · obtain ⟨a, b, _, _, _, _, rfl, _⟩ := h; rfl
  · obtain ⟨p, b, k, size, n, ws, rfl, sr, hn, bat, bk, wl, jn, hs, q⟩ := h
    have k2 := bk.n2
    have k6 := bk.n6
    have w1 := bk.one
    obtain ⟨t, eb, et⟩ := id bat
    refine ⟨_, (pss_cons (ps_set (i := 3) sc_law_walk.nd rfl (.inl rfl) (pe_ix (ixTK K rfl) (pe_ix (ixTK K rfl) (pv 1) pe_int (fun _ _ => rfl)) (pe_fn D_law_pick (hr.mono (by decide)) (by rfl) (pa_cons (pv 0) (pa_cons (pe_callB (lenK K rfl) (by rfl) B.len (by decide +kernel) (pa_cons (pe_ix (ixTK K rfl) (pv 1) pe_int (fun _ _ => rfl)) pa_nil)) pa_nil))) (fun _ _ => rfl)))
      (pss_cons (ps_asg (pe_tup (pa_cons (pv 3) (pa_cons (pe_disp (pps_cons (pv 3) pe_bl pps_nil) (by rfl) (by rfl) (fun z => by cases z) (by decide)) pa_nil))) (pg_tupK K rfl rfl (pgs_cons (pg_name (i := 4) sc_law_walk.nd rfl (.inr rfl)) (pgs_cons (pg_name (i := 5) sc_law_walk.nd rfl (.inr rfl)) pgs_nil))))
      (pss_cons (ps_for PassesOwn.never rfl (pi_range1 (by rfl) B.range (pa_cons (pv 2) pa_nil)) (pg_name (i := 6) sc_law_walk.nd rfl (.inl rfl)) (pss_cons (ps_setLc (i := 8) (own := [("window", 7)]) (g := gName 7) rfl sc_law_walk.nd rfl rfl (sw_true rfl rfl rfl (by decide +kernel)) (pi_tup (pe_ix (ixTK K rfl) (pv 1) pe_int (fun _ _ => rfl))) (blkOk_by (N := ["source", "book", "size", "first", "text", "seen", "turn", "window", "later"]) (sc := defScope st_law_walk) (by decide +kernel)) (fun _ _ _ _ _ => (pg_name (i := 7) sc_law_walk.nd rfl (.inl rfl))) (fun _ _ _ _ _ => (pts_one (pt_cmpR op_eq (pe_slice sl_str (pv 7) po_none (po_some (pe_un un_neg pe_int))) (pe_slice sl_str (pv 4) (po_some (pe_op op_sub pe_int (pe_ix (ixTK K rfl) (pv 1) pe_int (fun _ _ => rfl)))) po_none) (nomark _)))) (fun _ _ _ _ _ => (pv 7)))
      (pss_cons (ps_set (i := 4) sc_law_walk.nd rfl (.inr rfl) (pe_op op_add_str (pv 4) (pe_ix ix_str (pe_ix (ixK K rfl) (pv 8) (pe_fn D_law_pick (hr.mono (by decide)) (by rfl) (pa_cons (pv 0) (pa_cons (pe_callB (lenK K rfl) (by rfl) B.len (by decide +kernel) (pa_cons (pv 8) pa_nil)) pa_nil))) (fun _ _ => rfl)) (pe_un un_neg pe_int) (fun _ _ => rfl))))
      (pss_one (ps_dput (hu_of hr) (pv 5) (pe_slice sl_str (pv 4) (po_some (pe_un un_neg (pe_ix (ixTK K rfl) (pv 1) pe_int (fun _ _ => rfl)))) po_none) pe_bl rfl)))))
      (pss_cons (ps_for PassesOwn.never rfl (pi_list (pe_op op_cat (pe_lc (own := [("window", 7)]) (g := gName 7) rfl sc_law_walk.nd (pi_tup (pe_ix (ixTK K rfl) (pv 1) pe_int (fun _ _ => rfl))) (blkOk_by (N := ["source", "book", "size", "first", "text", "seen", "turn", "window", "later"]) (sc := defScope st_law_walk) (by decide +kernel)) (fun _ _ _ _ _ => (pg_name (i := 7) sc_law_walk.nd rfl (.inl rfl))) (fun _ _ _ _ _ => (pts_one (pt_cmp (pc_dnotin (hu_of hr) (pv 7) (pv 5))))) (fun _ _ _ _ _ => (pv 7))) (pe_lst (pa_cons (pv 3) pa_nil)))) (pg_name (i := 7) sc_law_walk.nd rfl (.inl rfl)) (pss_one (ps_set (i := 4) sc_law_walk.nd rfl (.inr rfl) (pe_op op_add_str (pe_slice sl_str (pv 4) po_none (po_some (pe_un un_neg (pe_ix (ixTK K rfl) (pv 1) pe_int (fun _ _ => rfl))))) (pe_fn D_law_road (hr.mono (by decide)) (by rfl) (pa_cons (pv 1) (pa_cons (pe_slice sl_str (pv 4) (po_some (pe_un un_neg (pe_ix (ixTK K rfl) (pv 1) pe_int (fun _ _ => rfl)))) po_none) (pa_cons (pv 7) pa_nil))))))))
      (pss_one (ps_ret (pe_ifExp (pt_cmpR op_gt (pe_callB call_len_str (by rfl) B.len (by decide +kernel) (pa_cons (pv 4) pa_nil)) (pe_ix (ixTK K rfl) (pv 1) pe_int (fun _ _ => rfl)) (nomark _)) (pe_slice sl_str (pv 4) po_none (po_some (pe_op op_sub (pe_callB call_len_str (by rfl) B.len (by decide +kernel) (pa_cons (pv 4) pa_nil)) (pe_ix (ixTK K rfl) (pv 1) pe_int (fun _ _ => rfl))))) (pe_ix ix_str (pv 4) pe_int (fun _ _ => rfl))))))))), ?_⟩
    refine ⟨_, rfl, b, _, _, _, rfl, rfl, .inl (.inl eb), rfl, _, rfl, _, rfl, b, _, _, _, rfl, rfl, .inl (.inl eb), rfl, t, _, rfl, .inr (.inl (.inl et)), p, ((ws.map V.str).length : Int), n, rfl, sr, by omega, by rw [List.length_map]; omega, by rw [List.length_map]; omega, fun r H1 r0 r1 sr1 bt1 => ?_⟩
    rw [List.length_map] at r1
    have lt : r.toNat < ws.length := by omega
    have fm := List.getElem_mem lt
    obtain ⟨lf, fl⟩ := bk.each _ fm
    have bat1 := bat.but bt1 sr
    have et1 := bt1.kept et (sr.ne et)
    refine ⟨t, _, r, V.str ws[r.toNat], rfl, rfl, .inl (.inl et1), atI_pos r0 (by rw [List.getElem?_map, List.getElem?_eq_getElem lt]; rfl), ?_⟩
    generalize ws[r.toNat] = first at fm lf fl ⊢
    refine ⟨_, rfl, fun d nd => ⟨_, rfl, upd_same, [(Sum.inr first, V.bl true)], rfl, by show 1 ≤ 15; decide, by show 2 ≤ sizeLine; decide, fun u nu => ⟨u, _, rfl, .inl (.inl upd_same), rfl, _, _, rfl, _, _, rfl, rfl, ?_⟩⟩⟩
    have s2 : Same H1 (upd (upd (upd H1 d (.dK [])) d (.dK (mergeK [] [((Sum.inr first : Key), V.bl true)]))) u (.tup [V.str first, .ref d])) := (wr (same_upd nd) nd).trans (same_upd nu)
    have ed2 : (upd (upd (upd H1 d (.dK [])) d (.dK (mergeK [] [((Sum.inr first : Key), V.bl true)]))) u (.tup [V.str first, .ref d])) d = some (.dK [((Sum.inr first : Key), V.bl true)]) := (same_upd nu) _ _ upd_same
    generalize upd (upd (upd H1 d (.dK [])) d (.dK (mergeK [] [((Sum.inr first : Key), V.bl true)]))) u (.tup [V.str first, .ref d]) = H2 at s2 ed2 ⊢
    obtain ⟨o1, eo1⟩ := id sr1.at
    have ndp : d ≠ p := (ne_of_none eo1 nd).symm
    refine ⟨_, rfl, size, rfl, by omega, by omega, ?_⟩
    rw [Int.toNat_natCast]
    refine for_range (fun i σ H' => ∃ (x e : Str) (kvs : List (Key × V)) (ks : List Str) (o6 o8 : Option V), σ = [some (.ref p), some (.ref b), some (.int size), some (.str first), some (.str x), some (.ref d), o6, none, o8] ∧ Ends k ws x e ∧ x.length = k + i ∧ H' d = some (.dK kvs) ∧ kvs.map (·.1) = ks.map Sum.inr ∧ ks.Nodup ∧ (∀ y ∈ ks, y ∈ ws) ∧ Src H' p (n + 1 + i) ∧ But p H1 H')
      ⟨first, first, _, [first], none, none, rfl, ⟨fm, lf, by omega, by rw [fl, Nat.sub_self, List.drop_zero]⟩, by rw [fl]; rfl, ed2, rfl, List.nodup_cons.mpr ⟨by simp, List.nodup_nil⟩, fun y h => by rw [List.mem_singleton.mp h]; exact fm, sr1.same s2, Same.but s2⟩ (fun i σ H' hi ⟨x, e, kvs, ks, o6, o8, eσ, en, xl, ed, ek, nk, hk, sr', bt'⟩ => ?_) fun σ H' ⟨x, e, kvs, ks, o6, o8, eσ, en, xl, ed, ek, nk, hk, sr', bt'⟩ => ?_
    · subst eσ
      have sx : x.length ≤ sizeLine := big (by omega)
      obtain ⟨t', eb', et'⟩ := bat1.but bt' sr1
      obtain ⟨le, el⟩ := bk.each e en.1
      obtain ⟨o', eo'⟩ := id sr'.at
      refine ⟨_, rfl, b, _, _, _, rfl, rfl, .inl (.inl eb'), rfl, t', rfl, ⟨_, .inl (.inl et')⟩, fun D hD => ?_⟩
      have nDp : D ≠ p := (ne_of_none eo' hD).symm
      refine lc_tup (a := t') (xs := ws.map V.str) (fun j H2 => Same H' H2 ∧ ∃ fs : List Str, H2 D = some (.lst (fs.map V.str)) ∧ fs.length ≤ j ∧ (∀ v ∈ fs, v ∈ ws ∧ iniS v = taiS e) ∧ ∀ v ∈ ws.take j, iniS v = taiS e → v ∈ fs) ⟨same_upd hD, [], upd_same, Nat.le_refl _, (fun _ h => by cases h), fun v h => by rw [List.take_zero] at h; cases h⟩ (fun j H2 _ h => .inl (.inl (h.1 _ _ et'))) (fun j y H2 hj ⟨sm, fs, e2, fll, f1, f2⟩ => ?_) fun H4 ⟨s4, fs, e4, fll, f1, f2⟩ => ?_
      · obtain ⟨v, hv, rfl⟩ := str_at hj
        have hvm := List.mem_of_getElem? hv
        obtain ⟨lv, vl⟩ := bk.each v hvm
        have jl := (List.getElem?_eq_some_iff.mp hv).1
        have ht : ws.take (j + 1) = ws.take j ++ [v] := by rw [List.take_add_one, hv]; rfl
        refine ⟨rfl, ?_⟩
        refine ⟨_, rfl, _, rfl, _, rfl, v, rfl, big (by omega), ?_⟩
        rw [ini_eq (by omega)]
        refine ⟨_, rfl, _, rfl, b, _, _, _, rfl, rfl, .inl (.inl (sm _ _ eb')), rfl, _, _, rfl, rfl, _, rfl, x, rfl, sx, ?_⟩
        rw [en.tail k2]
        refine ⟨rfl, _, rfl, ?_⟩
        rw [str_ne]
        refine ite2 (fun c => ?_) fun c => ?_
        · have c := of_decide_eq_true c
          refine ⟨_, rfl, _, e2, by rw [List.length_map]; exact lt_line (by omega), wr sm hD, fs ++ [v], by rw [upd_same, List.map_append]; rfl, by rw [List.length_append]; exact Nat.add_le_add_right fll 1, fun z hz => ?_, fun z hz hc => ?_⟩
          · rcases List.mem_append.mp hz with hz | hz
            · exact f1 z hz
            · rw [List.mem_singleton.mp hz]; exact ⟨hvm, c⟩
          · rw [ht] at hz
            rcases List.mem_append.mp hz with hz | hz
            · exact List.mem_append_left _ (f2 z hz hc)
            · exact List.mem_append_right _ hz
        · refine ⟨sm, fs, e2, by omega, f1, fun z hz hc => ?_⟩
          rw [ht] at hz
          rcases List.mem_append.mp hz with hz | hz
          · exact f2 z hz hc
          · rw [List.mem_singleton.mp hz] at hc; exact absurd (decide_eq_true hc) c
      · rw [List.length_map, List.take_length] at f2
        rw [List.length_map] at fll
        obtain ⟨v0, hv0, ev0⟩ := jn.next en.1
        have fne : 1 ≤ fs.length := List.length_pos_of_mem (f2 v0 hv0 ev0)
        refine ⟨_, rfl, _, rfl, _, rfl, _, rfl, D, _, rfl, .inl (.inl (.inl e4)), p, ((fs.map V.str).length : Int), _, rfl, sr'.same s4, by omega, by rw [List.length_map]; omega, by rw [List.length_map]; omega, fun r5 H5 d0 d1 sr5 bt5 => ?_⟩
        rw [List.length_map] at d1
        have lt5 : r5.toNat < fs.length := by omega
        obtain ⟨hvm, hve⟩ := f1 _ (List.getElem_mem lt5)
        refine ⟨D, _, r5, V.str fs[r5.toNat], rfl, rfl, .inl (.inl (bt5.kept e4 nDp)), atI_pos d0 (by rw [List.getElem?_map, List.getElem?_eq_getElem lt5]; rfl), ?_⟩
        generalize fs[r5.toNat] = v at hvm hve ⊢
        obtain ⟨lv, vl⟩ := bk.each v hvm
        have ltv : v.length - 1 < (tl v).length := by rw [← len_tl]; omega
        have hc : (tl v)[v.length - 1]? = some (tl v)[v.length - 1] := List.getElem?_eq_getElem ltv
        have en' := en.more k2 hvm lv vl el hve hc
        refine ⟨_, rfl, v, _, _, rfl, rfl, big (by omega), atI_last hc (by omega), _, _, rfl, rfl, ?_, ?_⟩
        · exact big (show x.length + 1 ≤ 3000 by omega)
        have xl' : (x ++ (⟨#[(tl v)[v.length - 1]]⟩ : Str)).length = k + (i + 1) := by rw [len_app, xl]; rfl
        generalize x ++ (⟨#[(tl v)[v.length - 1]]⟩ : Str) = x' at en' xl' ⊢
        have b5 : But p H1 H5 := (bt'.same s4).trans bt5
        have ed5 := bt5.kept (s4 _ _ ed) ndp
        obtain ⟨t5, eb5, et5⟩ := bat1.but b5 sr1
        have few := pig ks ws nk hk
        have kl : kvs.length = ks.length := by
          have := congrArg List.length ek
          rwa [List.length_map, List.length_map] at this
        refine ⟨_, rfl, _, rfl, _, rfl, b, _, _, _, rfl, rfl, .inl (.inl eb5), rfl, _, rfl, _, rfl, x', rfl, big (by omega), ?_⟩
        rw [en'.win (by omega)]
        refine ⟨d, _, rfl, DPut.k (k := Sum.inr v) ed5 (by rw [kl]; exact lt_line (by omega)), ?_⟩
        refine ⟨x', v, _, _, _, _, rfl, en', xl', upd_same, keys_put ek v _, nd_ite nk, fun z hz => ?_, (sr5.set ndp).mono (by omega), b5.mk nd⟩
        rcases mem_ite.mp hz with hz | rfl
        · exact hk z hz
        · exact hvm
    · subst eσ
      obtain ⟨t', eb', et'⟩ := bat1.but bt' sr1
      dsimp only [gName, tSeq]
      refine for_start ?_
      refine ⟨_, rfl, b, _, _, _, rfl, rfl, .inl (.inl eb'), rfl, t', rfl, ⟨_, .inl (.inl et')⟩, fun D hD => ?_⟩
      refine lc_tup (a := t') (xs := ws.map V.str) (fun j H2 => Same H' H2 ∧ ∃ fs : List Str, H2 D = some (.lst (fs.map V.str)) ∧ fs.length ≤ j ∧ ∀ v ∈ fs, v ∈ ws) ⟨same_upd hD, [], upd_same, Nat.le_refl _, fun _ h => by cases h⟩ (fun j H2 _ h => .inl (.inl (h.1 _ _ et'))) (fun j y H2 hj ⟨sm, fs, e2, fll, f1⟩ => ?_) fun H4 ⟨s4, fs, e4, fll, f1⟩ => ?_
      · obtain ⟨v, hv, rfl⟩ := str_at hj
        have hvm := List.mem_of_getElem? hv
        have jl := (List.getElem?_eq_some_iff.mp hv).1
        refine ⟨rfl, ?_⟩
        refine ⟨_, rfl, _, rfl, d, _, rfl, DGet.k (k := Sum.inr v) (sm _ _ ed), _, rfl, ?_⟩
        refine ite2 (fun _ => ?_) fun _ => ?_
        · refine ⟨_, rfl, _, e2, by rw [List.length_map]; exact lt_line (by omega), wr sm hD, fs ++ [v], by rw [upd_same, List.map_append]; rfl, by rw [List.length_append]; exact Nat.add_le_add_right fll 1, fun z hz => ?_⟩
          rcases List.mem_append.mp hz with hz | hz
          · exact f1 z hz
          · rw [List.mem_singleton.mp hz]; exact hvm
        · exact ⟨sm, fs, e2, by omega, f1⟩
      rw [List.length_map] at fll
      refine ⟨_, rfl, by show 1 ≤ sizeLine; decide, fun l nl => ⟨D, l, _, _, rfl, rfl, (same_upd nl) _ _ e4, upd_same, by rw [List.length_map]; exact big (show fs.length + 1 ≤ 3000 by omega), fun g ng => ?_⟩⟩
      have s5 : Same H' (upd (upd H4 l (.lst [V.str first])) g (.lst (fs.map V.str ++ [V.str first]))) := (s4.trans (same_upd nl)).trans (same_upd ng)
      have eg : (upd (upd H4 l (.lst [V.str first])) g (.lst (fs.map V.str ++ [V.str first]))) g = some (.lst ((fs ++ [first]).map V.str)) := by rw [upd_same, List.map_append]; rfl
      generalize upd (upd H4 l (.lst [V.str first])) g (.lst (fs.map V.str ++ [V.str first])) = H5 at s5 eg ⊢
      have hg : ∀ v ∈ fs ++ [first], v ∈ ws := fun v h => by
        rcases List.mem_append.mp h with h | h
        · exact f1 v h
        · rw [List.mem_singleton.mp h]; exact fm
      have lg : (fs ++ [first]).length ≤ 101 := by rw [List.length_append]; show fs.length + 1 ≤ 101; omega
      generalize fs ++ [first] = gs at eg hg lg
      refine ⟨g, rfl, ⟨_, .inl (.inl eg)⟩, for_list (K := K) (a := g) (xs := gs.map V.str) (fun j σ H6 => ∃ (x e : Str) (o7 : Option V), σ = [some (.ref p), some (.ref b), some (.int size), some (.str first), some (.str x), some (.ref d), o6, o7, o8] ∧ Ends k ws x e ∧ x.length ≤ k + size + 100 * j ∧ Same H5 H6) ⟨x, e, _, rfl, en, by omega, Same.refl _⟩ (fun _ _ _ _ ⟨_, _, _, _, _, _, h⟩ => .inl (.inl (h _ _ eg))) (fun j y σ H6 hj ⟨x, e, o7, eσ, en, xl, sm⟩ => ?_) fun σ H6 ⟨x, e, o7, eσ, en, xl, sm⟩ => ?_⟩
      · subst eσ
        obtain ⟨v, hv, rfl⟩ := mem_list hj
        have jl : j < 101 := by
          have := (List.getElem?_eq_some_iff.mp hj).1
          rw [List.length_map] at this
          omega
        have sx : x.length ≤ sizeLine := Nat.le_trans (show x.length ≤ 100000 by omega) (by decide)
        have eb6 := sm _ _ (s5 _ _ eb')
        have bat6 : BookAt H6 b k ws := ⟨t', eb6, sm _ _ (s5 _ _ et')⟩
        refine ⟨_, rfl, _, rfl, b, _, _, _, rfl, rfl, .inl (.inl eb6), rfl, _, rfl, _, rfl, x, rfl, sx, ?_⟩
        rw [cutS_tneg x k (by omega) en.2.2.1]
        refine ⟨_, rfl, _, rfl, _, rfl, b, _, _, _, rfl, rfl, .inl (.inl eb6), rfl, _, rfl, _, rfl, x, rfl, sx, ?_⟩
        rw [en.win (by omega)]
        refine ⟨_, rfl, b, k, ws, e, v, rfl, bat6, bk, wl, jn, en.1, hg v hv, fun y H7 s7 wy => ?_⟩
        have lt' : (mkS ((tl x).take (x.length - k))).length = x.length - k := len_take (by omega)
        have yl := wy.2.2.2.1
        refine ⟨_, _, rfl, rfl, by rw [lt']; exact Nat.le_trans (show _ ≤ 100000 by omega) (by decide), ?_⟩
        exact ⟨_, v, _, rfl, en.on wy, by rw [len_app, lt']; omega, sm.trans s7⟩
      · subst eσ
        rw [List.length_map] at xl
        have sx : x.length ≤ sizeLine := Nat.le_trans (show x.length ≤ 100000 by omega) (by decide)
        have eb6 := sm _ _ (s5 _ _ eb')
        have b6 : But p H H6 := ((bt1.trans bt').same s5).same sm
        have sr6 : Src H6 p (n + 2000) := ((sr'.same s5).same sm).mono (by omega)
        refine ⟨_, rfl, x, rfl, sx, _, rfl, b, _, _, _, rfl, rfl, .inl (.inl eb6), rfl, _, _, rfl, rfl, _, rfl, ?_⟩
        refine ite2 (fun gt => ?_) fun le => ?_
        · have gt := of_decide_eq_true gt
          refine ⟨_, rfl, _, rfl, x, rfl, sx, _, rfl, b, _, _, _, rfl, rfl, .inl (.inl eb6), rfl, _, _, rfl, rfl, _, rfl, x, rfl, sx, ?_⟩
          rw [show ((x.length : Int) - (k : Int)) = ((x.length - k : Nat) : Int) by omega, cutS_to x (x.length - k) (by omega)]
          have lt' : (mkS ((tl x).take (x.length - k))).length = x.length - k := len_take (by omega)
          exact q _ H6 (low_take en.2.1 _) (by omega) (by omega) sr6 b6
        · have h3 := en.2.2.1
          have ltx : 0 < (tl x).length := by rw [← len_tl]; omega
          refine ⟨_, rfl, x, _, (tl x)[0], rfl, rfl, sx, atI_pos (by decide) (List.getElem?_eq_getElem ltx), ?_⟩
          exact q _ H6 (low_one en.2.1 (List.getElem_mem ltx)) (by show 1 ≤ 1; decide) (by show 1 ≤ 100000; decide) sr6 b6
end
end Tx

set_option Elab.async false
set_option linter.all false
set_option maxRecDepth 100000
set_option maxHeartbeats 1000000
namespace Tx
open PySem PySem.Spec PyProof.Rows L2 TL RZ
theorem cutS_to' (z : Str) (n : Nat) : cutS z none (some (n : Int)) = mkS ((tl z).take n) := by
  by_cases h : n ≤ z.length
  · exact cutS_to z n h
  · refine ext_tl ?_
    unfold cutS
    rw [HT.sIx_nat, HT.sIx_none, Nat.min_eq_right (by omega)]
    show ((tl z).drop 0).take (z.length - 0) = (tl z).take n
    rw [List.drop_zero, Nat.sub_zero, List.take_of_length_le (by rw [← len_tl]; exact Nat.le_refl _), List.take_of_length_le (by rw [← len_tl]; omega)]
theorem big5 {m : Nat} (h : m ≤ 100000) : m ≤ sizeLine := Nat.le_trans h (by decide)
theorem sum_each {ws : List Str} {k : Nat} (h : ∀ z ∈ ws, z.length = k) : (ws.map (·.length)).sum = ws.length * k := by
  induction ws with
  | nil => simp
  | cons x ws ih =>
    rw [List.map_cons, List.sum_cons, ih fun z hz => h z (List.mem_cons_of_mem _ hz), h x (List.mem_cons_self ..), List.length_cons, Nat.succ_mul]
    omega
theorem flat_len (ws : List Str) : (mkS (ws.map tl).flatten).length = (ws.map (·.length)).sum := by
  rw [len_mkS, List.length_flatten, List.map_map]
  refine congrArg List.sum (List.map_congr_left fun z _ => ?_)
  exact (len_tl z).symm
theorem flat_low {ws : List Str} (h : ∀ z ∈ ws, Low z) : Low (mkS (ws.map tl).flatten) := fun c hc => by
  rw [tl_mkS] at hc
  obtain ⟨l, hl, hc⟩ := List.mem_flatten.mp hc
  obtain ⟨z, hz, rfl⟩ := List.mem_map.mp hl
  exact h z hz c hc
theorem signs_low {x : Str} (h : Low x) {y : Str} (hy : y ∈ signs x) : ∃ c, y = ⟨#[c]⟩ ∧ 97 ≤ c ∧ c ≤ 122 := by
  unfold signs at hy
  obtain ⟨c, hc, rfl⟩ := List.mem_map.mp hy
  exact ⟨c, rfl, h c hc⟩
theorem few_signs {ys : List Str} (nd : ys.Nodup) (h : ∀ y ∈ ys, ∃ c, y = (⟨#[c]⟩ : Str) ∧ 97 ≤ c ∧ c ≤ 122) : ys.length ≤ 26 := by
  have := pig ys ((List.range 26).map fun i => (⟨#[97 + i]⟩ : Str)) nd fun y hy => by
    obtain ⟨c, rfl, h1, h2⟩ := h y hy
    exact List.mem_map.mpr ⟨c - 97, List.mem_range.mpr (by omega), by rw [show 97 + (c - 97) = c by omega]⟩
  rwa [List.length_map, List.length_range] at this
def RingsAt (H : Hp) (q : Addr) : Prop := ∃ xs : List Str, H q = some (.lst (xs.map V.str)) ∧ 1 ≤ xs.length ∧ xs.length ≤ 20 ∧ ∀ x ∈ xs, Low x ∧ 1 ≤ x.length ∧ x.length ≤ 2001
section
variable {P : Program} {w : World} {K : PySem.W.Frag} {mg : Str → Option Value} {base : Heap}
abbrev st_law_fits : Stmt := topS 39
theorem sc_law_fits : FnScope ["book", "ring"] ["book", "ring"] (defScope st_law_fits) := ⟨rfl, rfl, rfl, by decide +kernel, rfl, by decide +kernel, by decide +kernel⟩
theorem pl_law_fits : PlainB "_law_fits" st_law_fits ["book", "ring"] := fun _ _ _ _ _ _ us hl => match us, hl with | [_, _], _ => rfl
def spLFits : Sp := fun vs H Q _ => ∃ (b : Addr) (k : Nat) (ws : List Str) (z : Str), vs = [.ref b, .str z] ∧ BookAt H b k ws ∧ Book k ws ∧ Low z ∧ 1 ≤ z.length ∧ z.length ≤ 2001 ∧ ∀ ys H', Up ys (turns k (tl z)) → Same H H' → Q (.bl (decide (ys = ws))) H'
theorem ok_law_fits (T : Top K mg "_law_fits" st_law_fits) (B : Bt mg) (D_law_round : Dn P w K mg base 1 "_law_round" st_law_round ["size", "ring"] spRound) : Dn P w K mg base 2 "_law_fits" st_law_fits ["book", "ring"] spLFits := by
  refine dn_of T sc_law_fits pl_law_fits (fun vs H Q E h => ?_) fun f cdv A outer s H vs Q E hr h => ?_
  · obtain ⟨a, b, _, _, rfl, _⟩ := h; rfl
  · obtain ⟨b, k, ws, z, rfl, ⟨t, eb, et⟩, bk, lz, z1, z2, q⟩ := h
    have k6 := bk.n6
    refine ⟨_, (pss_one (ps_ret (pe_cmpR (eqDK K rfl hr.units) (pe_callB (sortSetK w rfl rfl) (by rfl) B.sorted (by decide +kernel) (pa_cons (pe_callTy (setK K w rfl rfl rfl) (by rfl) B.set (by decide +kernel) (pa_cons (pe_fn D_law_round (hr.mono (by decide)) (by rfl) (pa_cons (pe_ix (ixTK K rfl) (pv 0) pe_int (fun _ _ => rfl)) (pa_cons (pv 1) pa_nil))) pa_nil)) pa_nil)) (pe_callTy (listK K rfl) (by rfl) B.list (by decide +kernel) (pa_cons (pe_ix (ixTK K rfl) (pv 0) pe_int (fun _ _ => rfl)) pa_nil)) (nomark _)))), ?_⟩
    refine ⟨_, rfl, b, _, _, _, rfl, rfl, .inl (.inl eb), rfl, _, rfl, k, z, rfl, by omega, by omega, fun r H1 nr s1 er => ⟨r, _, rfl, .inl (.inl er), by rw [turns_len, ← len_tl]; omega, fun u ks fo nu => ⟨u, ks, rfl, upd_same, fun ys a py so na => ?_⟩⟩⟩
    have up : Up ys (turns k (tl z)) := .of py so fo
    have s2 : Same H (upd (upd H1 u (SetSO w u ks)) a (.lst (ys.map V.str))) := (s1.trans (same_upd nu)).trans (same_upd na)
    have ea : (upd (upd H1 u (SetSO w u ks)) a (.lst (ys.map V.str))) a = some (.lst (ys.map V.str)) := upd_same
    generalize upd (upd H1 u (SetSO w u ks)) a (.lst (ys.map V.str)) = H2 at s2 ea ⊢
    refine ⟨_, rfl, b, _, _, _, rfl, rfl, .inl (.inl (s2 _ _ eb)), rfl, t, _, rfl, .inr (.inl (.inl (s2 _ _ et))), fun l nl => ?_⟩
    refine ⟨_, _, dp_strs ((same_upd nl) _ _ ea), dp_strs upd_same, shaped_strs fun y hy => (turns_low lz z1 ((up.2.2.1 y).mp hy)).1, shaped_strs fun y hy => (bk.each y hy).1, ?_⟩
    rw [eqv_strs]
    exact q ys _ up (s2.trans (same_upd nl))
abbrev st_law_rings : Stmt := topS 41
theorem sc_law_rings : FnScope ["source", "book", "letters", "found", "walked", "at", "letter"] ["source", "book"] (defScope st_law_rings) := ⟨rfl, rfl, rfl, by decide +kernel, rfl, by decide +kernel, by decide +kernel⟩
theorem pl_law_rings : PlainB "_law_rings" st_law_rings ["source", "book"] := fun _ _ _ _ _ _ us hl => match us, hl with | [_, _], _ => rfl
def spRings : Sp := fun vs H Q _ => ∃ (p b : Addr) (k n : Nat) (ws : List Str), vs = [.ref p, .ref b] ∧ Src H p n ∧ n ≤ 900000 ∧ BookAt H b k ws ∧ Book k ws ∧ ws.length ≤ 40 ∧ ∀ q H', H q = none → RingsAt H' q → Src H' p (n + 30000) → But p H H' → Q (.ref q) H'
theorem ok_law_rings (T : Top K mg "_law_rings" st_law_rings) (B : Bt mg) (D_law_ring : Dn P w K mg base 3 "_law_ring" st_law_ring ["source", "letters", "most"] spLRing) (D_law_joined : Dn P w K mg base 2 "_law_joined" st_law_joined ["book"] spJoined)
    (D_law_walk : Dn P w K mg base 2 "_law_walk" st_law_walk ["source", "book", "size"] spWalk) (D_law_pick : Dn P w K mg base 1 "_law_pick" st_law_pick ["source", "top"] spPick) : Dn P w K mg base 4 "_law_rings" st_law_rings ["source", "book"] spRings := by
  refine dn_of T sc_law_rings pl_law_rings (fun vs H Q E h => ?_) fun f cdv A outer s H vs Q E hr h => ?_
  · obtain ⟨a, b, _, _, _, rfl, _⟩ := h; rfl
  · obtain ⟨p, b, k, n, ws, rfl, sr, hn, bat, bk, wl, q⟩ := h
    have k2 := bk.n2
    have k6 := bk.n6
    have w1 := bk.one
    obtain ⟨t, eb, et⟩ := id bat
    have sm0 : (ws.map (·.length)).sum = ws.length * k := sum_each fun z hz => (bk.each z hz).2
    have sm1 : ws.length * k ≤ 240 := Nat.mul_le_mul wl k6
    have lX : (mkS (ws.map tl).flatten).length = ws.length * k := by rw [flat_len, sm0]
    have loX : Low (mkS (ws.map tl).flatten) := flat_low fun z hz => (bk.each z hz).1
    refine ⟨_, (pss_cons (ps_set (i := 2) sc_law_rings.nd rfl (.inl rfl) (pe_op op_add_str (joinK K rfl pe_str (pe_callB (sortSetK w rfl rfl) (by rfl) B.sorted (by decide +kernel) (pa_cons (pe_callTy (setTK w rfl rfl) (by rfl) B.set (by decide +kernel) (pa_cons (joinK K rfl pe_str (pe_ix (ixTK K rfl) (pv 1) pe_int (fun _ _ => rfl))) pa_nil)) pa_nil))) pe_str))
      (pss_cons (ps_set (i := 3) sc_law_rings.nd rfl (.inl rfl) (pe_lst (pa_cons (pe_fn D_law_ring (hr.mono (by decide)) (by rfl) (pa_cons (pv 0) (pa_cons (pv 2) (pa_cons pe_int pa_nil)))) (pa_cons (pe_fn D_law_ring (hr.mono (by decide)) (by rfl) (pa_cons (pv 0) (pa_cons (pv 2) (pa_cons pe_int pa_nil)))) (pa_cons (pe_ix (ixTK K rfl) (pe_ix (ixTK K rfl) (pv 1) pe_int (fun _ _ => rfl)) pe_int (fun _ _ => rfl)) pa_nil)))))
      (pss_cons (ps_if (pt_val (pe_fn D_law_joined (hr.mono (by decide)) (by rfl) (pa_cons (pv 1) pa_nil))) (pss_cons (ps_set (i := 4) sc_law_rings.nd rfl (.inl rfl) (pe_slice sl_str (pe_fn D_law_walk (hr.mono (by decide)) (by rfl) (pa_cons (pv 0) (pa_cons (pv 1) (pa_cons (pe_fn D_law_pick (hr.mono (by decide)) (by rfl) (pa_cons (pv 0) (pa_cons (pe_ix (ixK K rfl) (pe_lst (pa_cons pe_int (pa_cons pe_int (pa_cons pe_int (pa_cons pe_int pa_nil))))) (pe_fn D_law_pick (hr.mono (by decide)) (by rfl) (pa_cons (pv 0) (pa_cons pe_int pa_nil))) (fun _ _ => rfl)) pa_nil))) pa_nil)))) po_none (po_some pe_int)))
      (pss_cons (ps_par (i := 5) (j := 6) (by rfl) sc_law_rings.nd rfl rfl (by decide) rfl rfl (pa_cons (pe_fn D_law_pick (hr.mono (by decide)) (by rfl) (pa_cons (pv 0) (pa_cons (pe_callB call_len_str (by rfl) B.len (by decide +kernel) (pa_cons (pv 4) pa_nil)) pa_nil))) (pa_cons (pe_ix ix_str (pv 2) (pe_fn D_law_pick (hr.mono (by decide)) (by rfl) (pa_cons (pv 0) (pa_cons (pe_callB call_len_str (by rfl) B.len (by decide +kernel) (pa_cons (pv 2) pa_nil)) pa_nil))) (fun _ _ => rfl)) pa_nil)) (by rfl))
      (pss_cons (ps_set (i := 3) sc_law_rings.nd rfl (.inl rfl) (pe_op op_cat (pv 3) (pe_lst (pa_cons (pv 4) (pa_cons (pe_op op_add_str (pe_slice sl_str (pv 4) (po_some (pv 5)) po_none) (pe_slice sl_str (pv 4) po_none (po_some (pv 5)))) (pa_cons (pe_op op_add_str (pe_op op_add_str (pe_slice sl_str (pv 4) po_none (po_some (pv 5))) (pv 6)) (pe_slice sl_str (pv 4) (po_some (pe_op op_add (pv 5) pe_int)) po_none)) pa_nil))))))
      (pss_cons (ps_set (i := 3) sc_law_rings.nd rfl (.inl rfl) (pe_op op_cat (pv 3) (pe_lst (pa_cons (pe_op op_add_str (pe_op op_add_str (pe_slice sl_str (pv 4) po_none (po_some (pv 5))) (pv 6)) (pe_slice sl_str (pv 4) (po_some (pv 5)) po_none)) (pa_cons (pe_op op_add_str (pe_op op_add_str (pe_slice sl_str (pv 4) po_none (po_some (pv 5))) (pe_slice sl_str (pv 4) (po_some (pe_op op_add (pv 5) pe_int)) po_none)) (pv 6)) (pa_cons (pe_slice sl_str (pv 4) po_none (po_some (pe_op op_add (pv 5) pe_int))) pa_nil))))))
      (pss_one (ps_if (pt_cmpR op_lt (pe_callB call_len_str (by rfl) B.len (by decide +kernel) (pa_cons (pv 4) pa_nil)) pe_int (nomark _)) (pss_one (ps_expr (pe_bm PySem.F.plainAttrs_list PySem.F.slot_list_append PySem.F.type_list_append mt_append (pv 3) (pa_cons (pe_op op_add_str (pv 4) (pv 4)) pa_nil)))) pss_nil)))))) pss_nil)
      (pss_one (ps_ret (pv 3)))))), ?_⟩
    refine ⟨⟨_, rfl⟩, ⟨_, rfl⟩, _, rfl, b, _, _, _, rfl, rfl, .inl (.inl eb), rfl, Str.ofString "", t, ws, rfl, rfl, .inr (.inl (.inl et)), ?_, ?_⟩
    · rw [sm0, str_e]; show ws.length * k + _ * 0 ≤ _; omega
    rw [join_e]
    generalize mkS (ws.map tl).flatten = X at lX loX ⊢
    refine ⟨X, rfl, by omega, fun p1 ks fo np1 => ⟨p1, ks, rfl, upd_same, fun ys a py so na => ?_⟩⟩
    have up : Up ys (signs X) := .of py so fo
    have hys : ∀ y ∈ ys, ∃ c, y = (⟨#[c]⟩ : Str) ∧ 97 ≤ c ∧ c ≤ 122 := fun y hy => signs_low loX ((up.2.2.1 y).mp hy)
    have l26 := few_signs up.2.1 hys
    have hy1 : ∀ y ∈ ys, y.length = 1 := fun y hy => by
      obtain ⟨c, rfl, _⟩ := hys y hy
      rfl
    have s1 : Same H (upd (upd H p1 (SetSO w p1 ks)) a (.lst (ys.map V.str))) := (same_upd np1).trans (same_upd na)
    have ea : (upd (upd H p1 (SetSO w p1 ks)) a (.lst (ys.map V.str))) a = some (.lst (ys.map V.str)) := upd_same
    generalize upd (upd H p1 (SetSO w p1 ks)) a (.lst (ys.map V.str)) = H1 at s1 ea ⊢
    refine ⟨Str.ofString "", a, ys, rfl, rfl, .inl (.inl (.inl ea)), ?_, ?_⟩
    · rw [sum_each hy1, str_e]; show ys.length * 1 + _ * 0 ≤ _; omega
    rw [join_e]
    have lL : (mkS (ys.map tl).flatten).length = ys.length := by rw [flat_len, sum_each hy1, Nat.mul_one]
    have loL : Low (mkS (ys.map tl).flatten) := flat_low fun y hy => by
      obtain ⟨c, rfl, h⟩ := hys y hy
      intro d hd
      obtain rfl : d = c := List.mem_singleton.mp hd
      exact h
    have lz : (Str.ofString "z").length = 1 := by rw [str_z]; rfl
    refine ⟨_, _, rfl, rfl, by rw [lL, lz]; exact big (by omega), ?_⟩
    have LL : Lets (mkS (ys.map tl).flatten ++ Str.ofString "z") := ⟨low_app loL (by
      rw [str_z]
      intro c hc
      obtain rfl : c = 122 := List.mem_singleton.mp hc
      decide), by rw [len_app, lz]; omega, by rw [len_app, lL, lz]; omega⟩
    dsimp only
    generalize mkS (ys.map tl).flatten ++ Str.ofString "z" = L at LL ⊢
    obtain ⟨lo, l1, l30⟩ := id LL
    have sL : L.length ≤ sizeLine := big (by omega)
    refine ⟨_, rfl, _, rfl, p, L, 40, n, rfl, sr.same s1, LL, by decide, by decide, by omega, fun x1 H2 a1 a2 a3 sr2 bt2 => ⟨_, rfl, _, rfl, p, L, 5, _, rfl, sr2, LL, by decide, by decide, by omega, fun x2 H3 b1 b2 b3 sr3 bt3 => ?_⟩⟩
    have b3' : But p H H3 := ((Same.but s1).trans bt2).trans bt3
    obtain ⟨t3, eb3, et3⟩ := bat.but b3' sr
    obtain ⟨w0, ew0, hw0⟩ : ∃ v, ws[0]? = some v ∧ v ∈ ws := ⟨ws[0], List.getElem?_eq_getElem (by omega), List.getElem_mem _⟩
    obtain ⟨lw0, wl0⟩ := bk.each w0 hw0
    refine ⟨_, rfl, b, _, _, _, rfl, rfl, .inl (.inl eb3), rfl, t3, _, _, V.str w0, rfl, rfl, .inl (.inl et3), atI_pos (by decide) (by show (ws.map V.str)[0]? = _; rw [List.getElem?_map, ew0]; rfl), by show 3 ≤ sizeLine; decide, fun F nF => ?_⟩
    have nF0 : H F = none := b3'.free sr3.at nF
    have rF : RingsAt (upd H3 F (.lst [V.str x1, .str x2, .str w0])) F := ⟨[x1, x2, w0], upd_same, by show 1 ≤ 3; decide, by show 3 ≤ 20; decide, fun x hx => by
      rcases List.mem_cons.mp hx with rfl | hx
      · exact ⟨a1, a2, by omega⟩
      rcases List.mem_cons.mp hx with rfl | hx
      · exact ⟨b1, b2, by omega⟩
      · rw [List.mem_singleton.mp hx]; exact ⟨lw0, by omega, by omega⟩⟩
    have eF : (upd H3 F (.lst [V.str x1, .str x2, .str w0])) F = some (.lst ([x1, x2, w0].map V.str)) := upd_same
    have hF : ∀ x ∈ [x1, x2, w0], Low x ∧ 1 ≤ x.length ∧ x.length ≤ 2001 := by
      obtain ⟨xs, e, _, _, h⟩ := rF
      rw [eF] at e
      have : xs = [x1, x2, w0] := by
        have e := Option.some.inj e
        injection e with e
        exact (List.map_inj_right (fun _ _ h => V.str.inj h)).mp e.symm
      subst this
      exact h
    have b4 : But p H (upd H3 F (.lst [V.str x1, .str x2, .str w0])) := b3'.same (same_upd nF)
    have sr4 := sr3.new (o := .lst [V.str x1, .str x2, .str w0]) nF
    have lF : ([x1, x2, w0] : List Str).length = 3 := rfl
    generalize [x1, x2, w0] = fs at eF hF lF
    dsimp only [gName]
    generalize upd H3 F (.lst [V.str x1, .str x2, .str w0]) = H4 at eF b4 sr4 ⊢
    clear rF
    obtain ⟨o, eo⟩ := id sr.at
    refine seq_if (fun σ H' => ∃ (F : Addr) (o4 o5 o6 : Option V), σ = [some (.ref p), some (.ref b), some (.str L), some (.ref F), o4, o5, o6] ∧ H F = none ∧ RingsAt H' F ∧ Src H' p (n + 30000) ∧ But p H H') ?rest1 fun kk => ?now1
    case rest1 =>
      intro σ H' ⟨F, o4, o5, o6, eσ, nF, rF, srr, btr⟩
      subst eσ
      exact ⟨_, rfl, q F H' nF rF srr btr⟩
    case now1 =>
      refine ⟨_, rfl, b, k, ws, rfl, bat.but b4 sr, bk, by omega, fun c H5 s5 hj => ⟨c, rfl, ?_⟩⟩
      have b5 : But p H H5 := b4.same s5
      have sr5 := sr4.same s5
      have eF5 := s5 _ _ eF
      have nFp : F ≠ p := (ne_of_none eo nF0).symm
      cases c with
      | false =>
        refine iteF ?_
        exact kk _ _ ⟨F, _, _, _, rfl, nF0, ⟨fs, eF5, by omega, by omega, hF⟩, sr5.mono (by omega), b5⟩
      | true =>
        refine iteT ?_
        refine ⟨_, rfl, _, rfl, _, rfl, by show 4 ≤ sizeLine; decide, fun m nm => ⟨_, rfl, p, 4, _, rfl, sr5.new nm, by omega, by decide, by decide, fun r H6 r0 r1 sr6 bt6 => ?_⟩⟩
        obtain ⟨o5, eo5⟩ := id sr5.at
        have nmp : m ≠ p := (ne_of_none eo5 nm).symm
        have em : H6 m = some (.lst [.int 60, .int 60, .int 300, .int 1900]) := bt6.kept upd_same nmp
        have b6 : But p H H6 := b5.trans ((Same.but (same_upd nm)).trans bt6)
        obtain ⟨top, et', t1, t2⟩ : ∃ top : Nat, [V.int 60, V.int 60, V.int 300, V.int 1900][r.toNat]? = some (.int (top : Int)) ∧ 1 ≤ top ∧ top ≤ 1900 := by
          rcases (show r = 0 ∨ r = 1 ∨ r = 2 ∨ r = 3 by omega) with rfl | rfl | rfl | rfl
          · exact ⟨60, rfl, by omega, by omega⟩
          · exact ⟨60, rfl, by omega, by omega⟩
          · exact ⟨300, rfl, by omega, by omega⟩
          · exact ⟨1900, rfl, by omega, by omega⟩
        refine ⟨m, _, r, _, rfl, rfl, .inl (.inl em), atI_pos r0 et', p, top, _, rfl, sr6, by omega, by omega, by omega, fun r7 H7 c0 c1 sr7 bt7 => ?_⟩
        obtain ⟨size, es⟩ : ∃ j : Nat, r7 = (j : Int) := ⟨r7.toNat, by omega⟩
        subst es
        have b7 : But p H H7 := b6.trans bt7
        refine ⟨p, b, k, size, _, ws, rfl, sr7, by omega, bat.but b7 sr, bk, by omega, hj rfl, by omega, fun y H8 ly y1 y2 sr8 bt8 => ?_⟩
        have b8 : But p H H8 := b7.trans bt8
        refine ⟨_, rfl, y, rfl, big5 y2, ?_⟩
        have e1999 : cutS y none (some (1999 : Int)) = mkS ((tl y).take 1999) := cutS_to' y 1999
        rw [e1999]
        have lx' : (mkS ((tl y).take 1999)).length = min 1999 y.length := by rw [len_mkS, List.length_take, ← len_tl]
        have lox := low_take ly 1999
        have x1' : 1 ≤ (mkS ((tl y).take 1999)).length := by rw [lx']; omega
        have x2' : (mkS ((tl y).take 1999)).length ≤ 1999 := by rw [lx']; omega
        generalize mkS ((tl y).take 1999) = x at lox x1' x2'
        have sx : x.length ≤ sizeLine := big (by omega)
        refine ⟨_, rfl, _, rfl, x, rfl, sx, p, x.length, _, rfl, sr8, by omega, by omega, by omega, fun r9 H9 d0 d1 sr9 bt9 => ?_⟩
        obtain ⟨at', ea'⟩ : ∃ j : Nat, r9 = (j : Int) := ⟨r9.toNat, by omega⟩
        subst ea'
        refine ⟨_, rfl, _, rfl, _, rfl, L, rfl, sL, p, L.length, _, rfl, sr9, by omega, by omega, by omega, fun r10 H10 f0 f1 sr10 bt10 => ?_⟩
        have lt10 : r10.toNat < (tl L).length := by rw [← len_tl]; omega
        have lc : Low (⟨#[(tl L)[r10.toNat]]⟩ : Str) := low_one lo (List.getElem_mem lt10)
        refine ⟨L, r10, (tl L)[r10.toNat], rfl, rfl, sL, atI_pos f0 (List.getElem?_eq_getElem lt10), _, _, rfl, ?_⟩
        generalize (tl L)[r10.toNat] = ch at lc ⊢
        have c1' : (⟨#[ch]⟩ : Str).length = 1 := rfl
        have b10 : But p H H10 := (b8.trans bt9).trans bt10
        have eF10 := bt10.kept (bt9.kept (bt8.kept (bt7.kept (bt6.kept ((same_upd nm) _ _ eF5) nFp) nFp) nFp) nFp) nFp
        have lt : (mkS ((tl x).take at')).length = at' := len_take (by omega)
        have ld : (mkS ((tl x).drop at')).length = x.length - at' := by rw [len_mkS, List.length_drop, ← len_tl]
        have ld1 : (mkS ((tl x).drop (at' + 1))).length = x.length - (at' + 1) := by rw [len_mkS, List.length_drop, ← len_tl]
        have lt1 : (mkS ((tl x).take (at' + 1))).length = at' + 1 := len_take (by omega)
        refine ⟨_, rfl, _, rfl, _, rfl, _, rfl, _, rfl, x, rfl, sx, _, rfl, _, rfl, _, rfl, x, rfl, sx, ?_⟩
        rw [cutS_from x at' (by omega), cutS_to x at' (by omega)]
        refine ⟨_, _, rfl, rfl, by rw [ld, lt]; exact big (by omega), _, rfl, _, rfl, _, rfl, x, rfl, sx, ?_⟩
        rw [cutS_to x at' (by omega)]
        refine ⟨_, rfl, _, _, rfl, rfl, by rw [lt, c1']; exact big (by omega), _, rfl, _, rfl, _, _, rfl, rfl, _, rfl, x, rfl, sx, ?_⟩
        rw [show ((at' : Int) + 1) = ((at' + 1 : Nat) : Int) by omega, cutS_from x (at' + 1) (by omega)]
        refine ⟨_, _, rfl, rfl, by rw [len_app, lt, c1', ld1]; exact big (by omega), by show 3 ≤ sizeLine; decide, fun g ng => ?_⟩
        refine ⟨F, g, _, _, rfl, rfl, (same_upd ng) _ _ eF10, upd_same, by rw [List.length_map, lF]; show 3 + 3 ≤ _; decide, fun F2 nF2 => ?_⟩
        have nF20 : H F2 = none := (b10.same (same_upd ng)).free (sr10.new ng).at nF2
        have sB : Same H10 (upd (upd H10 g (.lst [V.str x, .str (mkS ((tl x).drop at') ++ mkS ((tl x).take at')), .str (mkS ((tl x).take at') ++ (⟨#[ch]⟩ : Str) ++ mkS ((tl x).drop (at' + 1)))])) F2 (.lst (fs.map V.str ++ [V.str x, .str (mkS ((tl x).drop at') ++ mkS ((tl x).take at')), .str (mkS ((tl x).take at') ++ (⟨#[ch]⟩ : Str) ++ mkS ((tl x).drop (at' + 1)))]))) := (same_upd ng).trans (same_upd nF2)
        have eF2 : (upd (upd H10 g (.lst [V.str x, .str (mkS ((tl x).drop at') ++ mkS ((tl x).take at')), .str (mkS ((tl x).take at') ++ (⟨#[ch]⟩ : Str) ++ mkS ((tl x).drop (at' + 1)))])) F2 (.lst (fs.map V.str ++ [V.str x, .str (mkS ((tl x).drop at') ++ mkS ((tl x).take at')), .str (mkS ((tl x).take at') ++ (⟨#[ch]⟩ : Str) ++ mkS ((tl x).drop (at' + 1)))]))) F2 = some (.lst ((fs ++ [x, mkS ((tl x).drop at') ++ mkS ((tl x).take at'), mkS ((tl x).take at') ++ (⟨#[ch]⟩ : Str) ++ mkS ((tl x).drop (at' + 1))]).map V.str)) := by rw [upd_same, List.map_append]; rfl
        have h2 : ∀ z ∈ fs ++ [x, mkS ((tl x).drop at') ++ mkS ((tl x).take at'), mkS ((tl x).take at') ++ (⟨#[ch]⟩ : Str) ++ mkS ((tl x).drop (at' + 1))], Low z ∧ 1 ≤ z.length ∧ z.length ≤ 2001 := fun z hz => by
          rcases List.mem_append.mp hz with hz | hz
          · exact hF z hz
          rcases List.mem_cons.mp hz with rfl | hz
          · exact ⟨lox, by omega, by omega⟩
          rcases List.mem_cons.mp hz with rfl | hz
          · exact ⟨low_app (low_drop lox _) (low_take lox _), by rw [len_app, ld, lt]; omega, by rw [len_app, ld, lt]; omega⟩
          · rw [List.mem_singleton.mp hz]
            exact ⟨low_app (low_app (low_take lox _) lc) (low_drop lox _), by rw [len_app, len_app, lt, c1']; omega, by rw [len_app, len_app, lt, c1', ld1]; omega⟩
        have l2 : (fs ++ [x, mkS ((tl x).drop at') ++ mkS ((tl x).take at'), mkS ((tl x).take at') ++ (⟨#[ch]⟩ : Str) ++ mkS ((tl x).drop (at' + 1))]).length = 6 := by rw [List.length_append, lF]; rfl
        generalize fs ++ [x, mkS ((tl x).drop at') ++ mkS ((tl x).take at'), mkS ((tl x).take at') ++ (⟨#[ch]⟩ : Str) ++ mkS ((tl x).drop (at' + 1))] = fs2 at eF2 h2 l2
        dsimp only
        generalize upd (upd H10 g (.lst [V.str x, .str (mkS ((tl x).drop at') ++ mkS ((tl x).take at')), .str (mkS ((tl x).take at') ++ (⟨#[ch]⟩ : Str) ++ mkS ((tl x).drop (at' + 1)))])) F2 (.lst (fs.map V.str ++ [V.str x, .str (mkS ((tl x).drop at') ++ mkS ((tl x).take at')), .str (mkS ((tl x).take at') ++ (⟨#[ch]⟩ : Str) ++ mkS ((tl x).drop (at' + 1)))])) = H11 at sB eF2 ⊢
        have sr11 := sr10.same sB
        have b11 : But p H H11 := b10.same sB
        refine ⟨_, rfl, _, rfl, _, rfl, _, rfl, x, rfl, sx, ?_⟩
        rw [cutS_to x at' (by omega)]
        refine ⟨_, rfl, _, _, rfl, rfl, by rw [lt, c1']; exact big (by omega), _, rfl, _, rfl, _, rfl, x, rfl, sx, ?_⟩
        rw [cutS_from x at' (by omega)]
        refine ⟨_, _, rfl, rfl, by rw [len_app, lt, c1', ld]; exact big (by omega), _, rfl, _, rfl, _, rfl, x, rfl, sx, ?_⟩
        rw [cutS_to x at' (by omega)]
        refine ⟨_, rfl, _, rfl, _, _, rfl, rfl, _, rfl, x, rfl, sx, ?_⟩
        rw [show ((at' : Int) + 1) = ((at' + 1 : Nat) : Int) by omega, cutS_from x (at' + 1) (by omega)]
        refine ⟨_, _, rfl, rfl, by rw [lt, ld1]; exact big (by omega), _, rfl, _, _, rfl, rfl, by rw [len_app, lt, ld1, c1']; exact big (by omega), _, rfl, _, rfl, _, _, rfl, rfl, _, rfl, x, rfl, sx, ?_⟩
        rw [show ((at' : Int) + 1) = ((at' + 1 : Nat) : Int) by omega, cutS_to x (at' + 1) (by omega)]
        refine ⟨by show 3 ≤ sizeLine; decide, fun g2 ng2 => ⟨F2, g2, _, _, rfl, rfl, (same_upd ng2) _ _ eF2, upd_same, by rw [List.length_map, l2]; show 6 + 3 ≤ _; decide, fun F3 nF3 => ?_⟩⟩
        have nF30 : H F3 = none := (b11.same (same_upd ng2)).free (sr11.new ng2).at nF3
        let ts : List Str := [mkS ((tl x).take at') ++ (⟨#[ch]⟩ : Str) ++ mkS ((tl x).drop at'), mkS ((tl x).take at') ++ mkS ((tl x).drop (at' + 1)) ++ (⟨#[ch]⟩ : Str), mkS ((tl x).take (at' + 1))]
        have h3 : ∀ z ∈ fs2 ++ ts, Low z ∧ 1 ≤ z.length ∧ z.length ≤ 2001 := fun z hz => by
          rcases List.mem_append.mp hz with hz | hz
          · exact h2 z hz
          rcases List.mem_cons.mp hz with rfl | hz
          · exact ⟨low_app (low_app (low_take lox _) lc) (low_drop lox _), by rw [len_app, len_app, lt, c1']; omega, by rw [len_app, len_app, lt, c1', ld]; omega⟩
          rcases List.mem_cons.mp hz with rfl | hz
          · exact ⟨low_app (low_app (low_take lox _) (low_drop lox _)) lc, by rw [len_app, len_app, c1']; omega, by rw [len_app, len_app, lt, c1', ld1]; omega⟩
          · rw [List.mem_singleton.mp hz]
            exact ⟨low_take lox _, by rw [lt1]; omega, by rw [lt1]; omega⟩
        have l3 : (fs2 ++ ts).length = 9 := by rw [List.length_append, l2]; rfl
        have sC : Same H11 (upd (upd H11 g2 (.lst (ts.map V.str))) F3 (.lst (fs2.map V.str ++ ts.map V.str))) := (same_upd ng2).trans (same_upd nF3)
        have eF3 : (upd (upd H11 g2 (.lst (ts.map V.str))) F3 (.lst (fs2.map V.str ++ ts.map V.str))) F3 = some (.lst ((fs2 ++ ts).map V.str)) := by rw [upd_same, List.map_append]
        have sr12 := sr11.same sC
        have b12 : But p H _ := b11.same sC
        dsimp only [gName]
        show tIfS _ _ _ _ _ (upd (upd H11 g2 (.lst (ts.map V.str))) F3 (.lst (fs2.map V.str ++ ts.map V.str)))
        generalize upd (upd H11 g2 (.lst (ts.map V.str))) F3 (.lst (fs2.map V.str ++ ts.map V.str)) = H12 at eF3 sr12 b12 ⊢
        generalize fs2 ++ ts = fs3 at h3 l3 eF3
        have nF3p : F3 ≠ p := (ne_of_none eo nF30).symm
        refine ⟨_, rfl, x, rfl, sx, _, _, rfl, rfl, _, rfl, ?_⟩
        refine ite2 (fun lt9 => ?_) fun _ => ?_
        · have lt9 := of_decide_eq_true lt9
          refine ⟨_, rfl, .inl ⟨rfl, _, .inl (.inl eF3)⟩, _, rfl, _, rfl, _, _, rfl, rfl, big (by omega), F3, _, _, rfl, rfl, eF3, by rw [List.length_map, l3]; exact lt_line (by decide), ?_⟩
          refine kk _ _ ⟨F3, _, _, _, rfl, nF30, ⟨fs3 ++ [x ++ x], by rw [upd_same, List.map_append]; rfl, by rw [List.length_append]; omega, by rw [List.length_append, l3]; show 9 + 1 ≤ 20; decide, fun z hz => ?_⟩, (sr12.set nF3p).mono (by omega), b12.mk nF30⟩
          rcases List.mem_append.mp hz with hz | hz
          · exact h3 z hz
          · rw [List.mem_singleton.mp hz]
            exact ⟨low_app lox lox, by rw [len_app]; omega, by rw [len_app]; omega⟩
        · exact kk _ _ ⟨F3, _, _, _, rfl, nF30, ⟨fs3, eF3, by omega, by omega, h3⟩, sr12.mono (by omega), b12⟩
end
end Tx

set_option Elab.async false
set_option linter.all false
set_option maxRecDepth 100000
set_option maxHeartbeats 1000000
namespace Tx
open PySem PySem.Spec PyProof.Rows L2 TL RZ
def PiecesAt (H : Hp) (q : Addr) : Prop := ∃ xs : List Str, H q = some (.lst (xs.map V.str)) ∧ 1 ≤ xs.length ∧ xs.length ≤ 20 ∧ ∀ x ∈ xs, Low x ∧ 1 ≤ x.length ∧ x.length ≤ 3000
theorem low_seg {z : Str} (lo : Low z) (h : 1 ≤ z.length) (a n : Nat) : Low (mkS (seg (tl z) a n)) :=
  (turns_low lo h (n := n) ((turns_mem (by rw [← len_tl]; omega) _).mpr ⟨a, rfl⟩)).1
theorem seg_grow (l : List Nat) (a i : Nat) : seg l a i ++ [pr l (a + i)] = seg l a (i + 1) := grown (fun k => pr l (a + k)) i
theorem str_abcdz : Str.ofString "abcdz" = ⟨#[97, 98, 99, 100, 122]⟩ := by decide +kernel
/-- the turns of a loop over a list -/
def LoopL (K : PySem.W.Frag) (a : Addr) (g : TG) (tb : TS) (D : L2.Ends) (σ : L2.St) (H1 : Hp) : Prop := ∃ W : Nat → Nat → L2.St → Hp → Prop, (∃ m, W 0 m σ H1) ∧ ∀ i m σ H, W i m σ H →
    ((Itl K a).stop i H ∧ D.nx σ H) ∨ ((Itl K a).go i H ∧ ∃ N : L2.St → Hp → Prop, (∀ σ' H', N σ' H' → ∃ m', m' < m ∧ W (i + 1) m' σ' H') ∧ ∀ x H', (Itl K a).yld i H x H' → g x σ H' fun σ2 H2 => tb { D with nx := N, ct := N, bk := D.nx } σ2 H2)
theorem for_begin {K : PySem.W.Frag} {te : TE} {g : TG} {tb : TS} {D : L2.Ends} {σ : L2.St} {H : Hp} (h : te σ H fun x H1 => ∃ a, x = .ref a ∧ (∃ xs, SqL K H1 a xs) ∧ LoopL K a g tb D σ H1) : tFor (iList K te) g tb D σ H := h
/-- a text beside a truth -/
def Told (G : Str → Bool → Prop) (H : Hp) (a : Addr) : Prop := ∃ x c, H a = some (.tup [.str x, .bl c]) ∧ G x c
theorem Told.same {G : Str → Bool → Prop} {H H' : Hp} {a : Addr} (k : Told G H a) (s : Same H H') : Told G H' a := let ⟨x, c, e, g⟩ := k; ⟨x, c, s _ _ e, g⟩
theorem Told.but {G : Str → Bool → Prop} {H H' : Hp} {p a : Addr} {n : Nat} (k : Told G H a) (bt : But p H H') (sr : Src H p n) : Told G H' a := let ⟨x, c, e, g⟩ := k; ⟨x, c, bt.kept e (sr.ne e), g⟩
theorem ref_at {as : List Addr} {i : Nat} {y : V} (h : (as.map V.ref)[i]? = some y) : ∃ a ∈ as, y = V.ref a := by
  obtain ⟨a, h1, h2⟩ := List.mem_map.mp (List.mem_of_getElem? h)
  exact ⟨a, h1, h2.symm⟩
section
variable {P : Program} {w : World} {K : PySem.W.Frag} {mg : Str → Option Value} {base : Heap}
abbrev st_law_pieces : Stmt := topS 42
theorem sc_law_pieces : FnScope ["source", "ring", "beads", "found", "size", "at", "piece", "spot", "letter", "k"] ["source", "ring"] (defScope st_law_pieces) := ⟨rfl, rfl, rfl, by decide +kernel, rfl, by decide +kernel, by decide +kernel⟩
theorem pl_law_pieces : PlainB "_law_pieces" st_law_pieces ["source", "ring"] := fun _ _ _ _ _ _ us hl => match us, hl with | [_, _], _ => rfl
def spPieces : Sp := fun vs H Q _ => ∃ (p : Addr) (z : Str) (n : Nat), vs = [.ref p, .str z] ∧ Src H p n ∧ n ≤ 10000000 ∧ Low z ∧ 1 ≤ z.length ∧ z.length ≤ 2001 ∧ ∀ q H', H q = none → PiecesAt H' q → Src H' p (n + 100) → But p H H' → Q (.ref q) H'
theorem ok_law_pieces (T : Top K mg "_law_pieces" st_law_pieces) (B : Bt mg) (D_law_pick : Dn P w K mg base 1 "_law_pick" st_law_pick ["source", "top"] spPick) (D_law_word : Dn P w K mg base 2 "_law_word" st_law_word ["source", "letters", "size"] spWord) :
    Dn P w K mg base 3 "_law_pieces" st_law_pieces ["source", "ring"] spPieces := by
  refine dn_of T sc_law_pieces pl_law_pieces (fun vs H Q E h => ?_) fun f cdv A outer s H vs Q E hr h => ?_
  · obtain ⟨a, b, _, rfl, _⟩ := h; rfl
  · obtain ⟨p, z, n, rfl, sr, hn, lz, z1, z2, q⟩ := h
    have sz : z.length ≤ sizeLine := Nat.le_trans z2 (by decide)
    have hl : 0 < (tl z).length := by rw [← len_tl]; omega
    have ln : (tl z).length = z.length := (len_tl z).symm
    obtain ⟨o, eo⟩ := id sr.at
    refine ⟨_, (pss_cons (ps_asg (pe_tup (pa_cons (pe_callB call_len_str (by rfl) B.len (by decide +kernel) (pa_cons (pv 1) pa_nil)) (pa_cons (pe_lst pa_nil) pa_nil))) (pg_tupK K rfl rfl (pgs_cons (pg_name (i := 2) sc_law_pieces.nd rfl (.inr rfl)) (pgs_cons (pg_name (i := 3) sc_law_pieces.nd rfl (.inl rfl)) pgs_nil))))
      (pss_cons (ps_for PassesOwn.never rfl (pi_list (pe_lst (pa_cons (pe_op op_add pe_int (pe_fn D_law_pick (hr.mono (by decide)) (by rfl) (pa_cons (pv 0) (pa_cons pe_int pa_nil)))) (pa_cons (pe_op op_add (pe_op op_add (pe_op op_mul pe_int (pv 2)) pe_int) (pe_fn D_law_pick (hr.mono (by decide)) (by rfl) (pa_cons (pv 0) (pa_cons pe_int pa_nil)))) (pa_cons (pe_op op_add (pv 2) (pe_fn D_law_pick (hr.mono (by decide)) (by rfl) (pa_cons (pv 0) (pa_cons pe_int pa_nil)))) pa_nil))))) (pg_name (i := 4) sc_law_pieces.nd rfl (.inl rfl)) (pss_cons (ps_asg (pe_tup (pa_cons (pe_callB (call_min2 rfl) (by rfl) B.min (by decide +kernel) (pa_cons (pv 4) (pa_cons pe_int pa_nil))) (pa_cons (pe_fn D_law_pick (hr.mono (by decide)) (by rfl) (pa_cons (pv 0) (pa_cons (pv 2) pa_nil))) pa_nil))) (pg_tupK K rfl rfl (pgs_cons (pg_name (i := 4) sc_law_pieces.nd rfl (.inl rfl)) (pgs_cons (pg_name (i := 5) sc_law_pieces.nd rfl (.inr rfl)) pgs_nil))))
      (pss_cons (ps_set (i := 6) sc_law_pieces.nd rfl (.inl rfl) (joinK K rfl pe_str (pe_lc (own := [("k", 9)]) (g := gName 9) rfl sc_law_pieces.nd (pi_range1 (by rfl) B.range (pa_cons (pv 4) pa_nil)) (blkOk_by (N := ["source", "ring", "beads", "found", "size", "at", "piece", "spot", "letter", "k"]) (sc := defScope st_law_pieces) (by decide +kernel)) (fun _ _ _ _ _ => (pg_name (i := 9) sc_law_pieces.nd rfl (.inl rfl))) (fun _ _ _ _ _ => pts_nil) (fun _ _ _ _ _ => (pe_ix ix_str (pv 1) (pe_op op_modN (pe_callTy call_int1 (by rfl) B.int (by decide +kernel) (pa_cons (pe_op op_add (pv 5) (pv 9)) pa_nil)) (pv 2)) (fun _ _ => rfl))))))
      (pss_cons (ps_par (i := 7) (j := 8) (by rfl) sc_law_pieces.nd rfl rfl (by decide) rfl rfl (pa_cons (pe_ix (ixK K rfl) (pe_lst (pa_cons (pe_fn D_law_pick (hr.mono (by decide)) (by rfl) (pa_cons (pv 0) (pa_cons (pv 4) pa_nil))) (pa_cons (pe_op op_sub (pv 4) pe_int) pa_nil))) (pe_fn D_law_pick (hr.mono (by decide)) (by rfl) (pa_cons (pv 0) (pa_cons pe_int pa_nil))) (fun _ _ => rfl)) (pa_cons (pe_ix ix_str pe_str (pe_fn D_law_pick (hr.mono (by decide)) (by rfl) (pa_cons (pv 0) (pa_cons pe_int pa_nil))) (fun _ _ => rfl)) pa_nil)) (by rfl))
      (pss_one (ps_set (i := 3) sc_law_pieces.nd rfl (.inl rfl) (pe_op op_cat (pv 3) (pe_lst (pa_cons (pv 6) (pa_cons (pe_op op_add_str (pe_op op_add_str (pe_slice sl_str (pv 6) po_none (po_some (pv 7))) (pv 8)) (pe_slice sl_str (pv 6) (po_some (pe_op op_add (pv 7) pe_int)) po_none)) (pa_cons (pe_revS (pv 6)) pa_nil)))))))))))
      (pss_one (ps_ret (pe_op op_cat (pv 3) (pe_lst (pa_cons (pe_fn D_law_word (hr.mono (by decide)) (by rfl) (pa_cons (pv 0) (pa_cons (pe_slice sl_str (pv 1) po_none (po_some pe_int)) (pa_cons (pe_op op_add pe_int (pe_fn D_law_pick (hr.mono (by decide)) (by rfl) (pa_cons (pv 0) (pa_cons pe_int pa_nil)))) pa_nil)))) pa_nil))))))), ?_⟩
    refine ⟨_, rfl, z, rfl, sz, by show 0 ≤ sizeLine; decide, fun F0 nF0 => ⟨by show 2 ≤ sizeLine; decide, fun u nu => ⟨u, _, rfl, .inl (.inl upd_same), rfl, _, _, rfl, _, _, rfl, rfl, ?_⟩⟩⟩
    have sm0 : Same H (upd (upd H F0 (.lst [])) u (.tup [V.int (z.length : Int), .ref F0])) := (same_upd nF0).trans (same_upd nu)
    have eF0 : (upd (upd H F0 (.lst [])) u (.tup [V.int (z.length : Int), .ref F0])) F0 = some (.lst []) := (same_upd nu) _ _ upd_same
    have nF0p : F0 ≠ p := (ne_of_none eo nF0).symm
    generalize upd (upd H F0 (.lst [])) u (.tup [V.int (z.length : Int), .ref F0]) = H1 at sm0 eF0 ⊢
    dsimp only [gName, tSeq]
    refine for_begin ?_
    refine ⟨_, rfl, p, 60, n, rfl, sr.same sm0, by omega, by decide, by decide, fun r1 H2 a0 a1 sr2 bt2 => ⟨_, _, rfl, rfl, _, rfl, _, _, rfl, rfl, .inl ⟨by decide, by decide⟩, _, _, rfl, rfl, _, rfl, p, 7, _, rfl, sr2, by omega, by decide, by decide, fun r2 H3 b0 b1 sr3 bt3 => ⟨_, _, rfl, rfl, _, rfl, _, rfl, p, 2, _, rfl, sr3, by omega, by decide, by decide, fun r3 H4 c0 c1 sr4 bt4 => ⟨_, _, rfl, rfl, by show 3 ≤ sizeLine; decide, fun l nl => ?_⟩⟩⟩⟩
    dsimp only
    obtain ⟨v1, ev1, g1⟩ : ∃ v, v = 1 + r1 ∧ 1 ≤ v := ⟨_, rfl, by omega⟩
    obtain ⟨v2, ev2, g2⟩ : ∃ v, v = 2 * (z.length : Int) + 1 + r2 ∧ 1 ≤ v := ⟨_, rfl, by omega⟩
    obtain ⟨v3, ev3, g3⟩ : ∃ v, v = (z.length : Int) + r3 ∧ 1 ≤ v := ⟨_, rfl, by omega⟩
    rw [← ev1, ← ev2, ← ev3]
    have bF : But p H1 H4 := (bt2.trans bt3).trans bt4
    have eF4 : H4 F0 = some (.lst []) := bF.kept eF0 nF0p
    obtain ⟨o4, eo4⟩ := id sr4.at
    have nlp : l ≠ p := (ne_of_none eo4 nl).symm
    have el : (upd H4 l (.lst [V.int v1, .int v2, .int v3])) l = some (.lst [V.int v1, .int v2, .int v3]) := upd_same
    have b5 : But p H (upd H4 l (.lst [V.int v1, .int v2, .int v3])) := ((Same.but sm0).trans bF).same (same_upd nl)
    have sr5 := sr4.new (o := .lst [V.int v1, .int v2, .int v3]) nl
    have eF5 : (upd H4 l (.lst [V.int v1, .int v2, .int v3])) F0 = some (.lst []) := (same_upd nl) _ _ eF4
    generalize upd H4 l (.lst [V.int v1, .int v2, .int v3]) = H5 at el b5 sr5 eF5 ⊢
    refine ⟨l, rfl, ⟨_, .inl (.inl el)⟩, for_list (K := K) (a := l) (xs := [V.int v1, .int v2, .int v3]) (fun i σ H' => ∃ (F : Addr) (xs : List Str) (o4 o5 o6 o7 o8 : Option V), σ = [some (.ref p), some (.str z), some (.int z.length), some (.ref F), o4, o5, o6, o7, o8, none] ∧ H F = none ∧ H' F = some (.lst (xs.map V.str)) ∧ xs.length = 3 * i ∧ (∀ x ∈ xs, Low x ∧ 1 ≤ x.length ∧ x.length ≤ 3000) ∧ Src H' p (n + 10 + 5 * i) ∧ But p H5 H')
      ⟨F0, [], none, none, none, none, none, rfl, nF0, eF5, rfl, (fun _ h => by cases h), sr5.mono (by omega), But.refl⟩ (fun i σ H' _ ⟨_, _, _, _, _, _, _, _, _, _, _, _, _, b⟩ => .inl (.inl (b.kept el nlp))) (fun i y σ H' hi ⟨F, xs, o4, o5, o6, o7, o8, eσ, nF, eF, lx, hx, sr', bt'⟩ => ?_) fun σ H' ⟨F, xs, o4, o5, o6, o7, o8, eσ, nF, eF, lx, hx, sr', bt'⟩ => ?_⟩
    · subst eσ
      have hi3 : i < 3 := (List.getElem?_eq_some_iff.mp hi).1
      obtain ⟨v, rfl, gv⟩ : ∃ v : Int, y = V.int v ∧ 1 ≤ v := by
        rcases (show i = 0 ∨ i = 1 ∨ i = 2 by omega) with rfl | rfl | rfl
        · exact ⟨v1, (Option.some.inj hi).symm, g1⟩
        · exact ⟨v2, (Option.some.inj hi).symm, g2⟩
        · exact ⟨v3, (Option.some.inj hi).symm, g3⟩
      have nFp : F ≠ p := (ne_of_none eo nF).symm
      obtain ⟨size, es, s1, s60⟩ : ∃ k : Nat, (if 60 < v then 60 else v) = (k : Int) ∧ 1 ≤ k ∧ k ≤ 60 := ⟨(if 60 < v then 60 else v).toNat, by split <;> omega, by split <;> omega, by split <;> omega⟩
      refine ⟨_, rfl, _, _, rfl, _, rfl, _, rfl, p, z.length, _, rfl, sr', by omega, by omega, by omega, fun r H6 c0 c1 sr6 bt6 => ?_⟩
      obtain ⟨a, ea⟩ : ∃ k : Nat, r = (k : Int) := ⟨r.toNat, by omega⟩
      subst ea
      rw [es]
      refine ⟨by show 2 ≤ sizeLine; decide, fun v' nv => ⟨v', _, rfl, .inl (.inl upd_same), rfl, _, _, rfl, _, _, rfl, rfl, ?_⟩⟩
      have b7 : But p H' (upd H6 v' (.tup [V.int (size : Int), .int (a : Int)])) := bt6.same (same_upd nv)
      have sr7 := sr6.new (o := .tup [V.int (size : Int), .int (a : Int)]) nv
      generalize upd H6 v' (.tup [V.int (size : Int), .int (a : Int)]) = H7 at b7 sr7 ⊢
      refine ⟨⟨_, rfl⟩, _, rfl, _, rfl, by omega, by omega, fun D hD => ?_⟩
      rw [Int.toNat_natCast]
      refine lc_range (fun j H' => Same H7 H' ∧ H' D = some (.lst (((seg (tl z) a j).map fun c => (⟨#[c]⟩ : Str)).map V.str))) ⟨same_upd hD, upd_same⟩ (fun j H8 hj ⟨sm, e⟩ => ?_) fun H8 ⟨sm, e⟩ => ?_
      · refine ⟨rfl, lc_yes ?_⟩
        have lt := Nat.mod_lt (a + j) hl
        have emd : ((a : Int) + ((0 : Int) + (j : Int))).fmod (z.length : Int) = (((a + j) % (tl z).length : Nat) : Int) := by
          rw [Int.fmod_eq_emod_of_nonneg _ (by omega), len_tl, show (a : Int) + ((0 : Int) + (j : Int)) = ((a + j : Nat) : Int) by omega]; rfl
        refine ⟨_, rfl, _, rfl, _, rfl, _, _, rfl, rfl, .inl ⟨_, rfl, _, rfl, _, _, rfl, rfl, by omega, z, _, pr (tl z) (a + j), rfl, rfl, sz, ?_, _, e, ?_, wr sm hD, ?_⟩⟩
        · rw [emd, ← pr_mod]; exact ring_at rfl (by omega)
        · rw [List.length_map, List.length_map, seg_len]; exact lt_line (by omega)
        · rw [upd_same, ← seg_grow, List.map_append, List.map_append]; rfl
      · refine ⟨Str.ofString "", D, (seg (tl z) a size).map fun c => (⟨#[c]⟩ : Str), rfl, rfl, .inl (.inl (.inl e)), ?_, ?_⟩
        · rw [sum_one, seg_len, str_e]; show size + _ * 0 ≤ _; omega
        rw [join_e, flat_one]
        have lp : (mkS (seg (tl z) a size)).length = size := by rw [len_mkS, seg_len]
        have low := low_seg lz z1 a size
        dsimp only
        generalize mkS (seg (tl z) a size) = y at lp low ⊢
        have sy : y.length ≤ sizeLine := big (by omega)
        have b8 : But p H' H8 := b7.same sm
        have sr8 := sr7.same sm
        refine ⟨_, rfl, _, rfl, p, size, _, rfl, sr8, by omega, by omega, by omega, fun sp H9 d0 d1 sr9 bt9 => ⟨_, rfl, _, _, rfl, rfl, by show 2 ≤ sizeLine; decide, fun m nm => ?_⟩⟩
        obtain ⟨o9, eo9⟩ := id sr9.at
        have nmp : m ≠ p := (ne_of_none eo9 nm).symm
        refine ⟨_, rfl, p, 2, _, rfl, sr9.new nm, by omega, by decide, by decide, fun r4 H10 f0 f1 sr10 bt10 => ?_⟩
        obtain ⟨k, ek, kl⟩ : ∃ k : Nat, [V.int sp, V.int ((size : Int) - 1)][r4.toNat]? = some (.int (k : Int)) ∧ k < size := by
          rcases (show r4 = 0 ∨ r4 = 1 by omega) with rfl | rfl
          · exact ⟨sp.toNat, by show some (V.int sp) = _; rw [Int.toNat_of_nonneg d0], by omega⟩
          · exact ⟨size - 1, by show some (V.int ((size : Int) - 1)) = _; rw [show ((size : Int) - 1) = ((size - 1 : Nat) : Int) by omega], by omega⟩
        refine ⟨m, _, r4, _, rfl, rfl, .inl (.inl (bt10.kept upd_same nmp)), atI_pos f0 ek, _, rfl, p, 5, _, rfl, sr10, by omega, by decide, by decide, fun r5 H11 h0 h1 sr11 bt11 => ?_⟩
        obtain ⟨ch, ech, c1', c2'⟩ : ∃ ch : Nat, (Str.ofString "abcdz").cps.toList[r5.toNat]? = some ch ∧ 97 ≤ ch ∧ ch ≤ 122 := by
          rw [str_abcdz]
          rcases (show r5 = 0 ∨ r5 = 1 ∨ r5 = 2 ∨ r5 = 3 ∨ r5 = 4 by omega) with rfl | rfl | rfl | rfl | rfl
          · exact ⟨97, rfl, by omega, by omega⟩
          · exact ⟨98, rfl, by omega, by omega⟩
          · exact ⟨99, rfl, by omega, by omega⟩
          · exact ⟨100, rfl, by omega, by omega⟩
          · exact ⟨122, rfl, by omega, by omega⟩
        refine ⟨_, r5, ch, rfl, rfl, by rw [str_abcdz]; show 5 ≤ sizeLine; decide, atI_pos h0 ech, _, _, rfl, ?_⟩
        have b11 : But p H' H11 := ((b8.trans bt9).trans ((Same.but (same_upd nm)).trans bt10)).trans bt11
        have eF11 := b11.kept eF nFp
        have lc : Low (⟨#[ch]⟩ : Str) := fun d hd => by
          obtain rfl : d = ch := List.mem_singleton.mp hd
          exact ⟨c1', c2'⟩
        have lt : (mkS ((tl y).take k)).length = k := len_take (by omega)
        have ld : (mkS ((tl y).drop (k + 1))).length = size - (k + 1) := by rw [len_mkS, List.length_drop, ← len_tl, lp]
        have c1s : (⟨#[ch]⟩ : Str).length = 1 := rfl
        refine ⟨_, rfl, _, rfl, _, rfl, _, rfl, _, rfl, y, rfl, sy, ?_⟩
        rw [cutS_to y k (by omega)]
        refine ⟨_, rfl, _, _, rfl, rfl, by rw [lt, c1s]; exact big (by omega), _, rfl, _, rfl, _, _, rfl, rfl, _, rfl, y, rfl, sy, ?_⟩
        rw [show ((k : Int) + 1) = ((k + 1 : Nat) : Int) by omega, cutS_from y (k + 1) (by omega)]
        refine ⟨_, _, rfl, rfl, by rw [len_app, lt, c1s, ld]; exact big (by omega), _, rfl, y, rfl, by omega, by show 3 ≤ sizeLine; decide, fun g ng => ?_⟩
        refine ⟨F, g, _, _, rfl, rfl, (same_upd ng) _ _ eF11, upd_same, by rw [List.length_map]; exact big (show xs.length + 3 ≤ 3000 by omega), fun F' nF' => ?_⟩
        have bA : But p H5 H11 := bt'.trans b11
        have nF'0 : H F' = none := ((b5.trans bA).same (same_upd ng)).free (sr11.new ng).at nF'
        refine ⟨F', xs ++ [y, mkS ((tl y).take k) ++ (⟨#[ch]⟩ : Str) ++ mkS ((tl y).drop (k + 1)), mkS (tl y).reverse], _, _, _, _, _, rfl, nF'0, by rw [upd_same, List.map_append]; rfl, by rw [List.length_append]; show xs.length + 3 = _; omega, fun c hc => ?_, ((sr11.new ng).new nF').mono (by omega), (bA.same (same_upd ng)).same (same_upd nF')⟩
        rcases List.mem_append.mp hc with hc | hc
        · exact hx c hc
        rcases List.mem_cons.mp hc with rfl | hc
        · exact ⟨low, by omega, by omega⟩
        rcases List.mem_cons.mp hc with rfl | hc
        · exact ⟨low_app (low_app (low_take low k) lc) (low_drop low _), by rw [len_app, len_app, lt, c1s]; omega, by rw [len_app, len_app, lt, c1s, ld]; omega⟩
        · rw [List.mem_singleton.mp hc]
          exact ⟨low_mk low fun c hc => List.mem_reverse.mp hc, by rw [len_mkS, List.length_reverse, ← len_tl]; omega, by rw [len_mkS, List.length_reverse, ← len_tl]; omega⟩
    · subst eσ
      have lx : xs.length = 9 := lx
      have sr' : Src H' p (n + 10 + 15) := sr'
      have nFp : F ≠ p := (ne_of_none eo nF).symm
      refine ⟨_, rfl, _, rfl, _, rfl, _, rfl, z, rfl, sz, ?_⟩
      have e3 : cutS z none (some (3 : Int)) = mkS ((tl z).take 3) := cutS_to' z 3
      rw [e3]
      have l3 : (mkS ((tl z).take 3)).length = min 3 z.length := by rw [len_mkS, List.length_take, ← len_tl]
      refine ⟨_, rfl, p, 9, _, rfl, sr', by omega, by decide, by decide, fun r H6 c0 c1 sr6 bt6 => ⟨_, _, rfl, rfl, ?_⟩⟩
      obtain ⟨k, ek⟩ : ∃ k : Nat, 1 + r = (k : Int) := ⟨(1 + r).toNat, by omega⟩
      dsimp only
      rw [ek]
      refine ⟨p, _, k, _, rfl, sr6, ⟨low_take lz 3, by rw [l3]; omega, by rw [l3]; omega⟩, by omega, by omega, fun x H7 ex lx' sr7 bt7 => ⟨by show 1 ≤ sizeLine; decide, fun g ng => ?_⟩⟩
      have eF7 := bt7.kept (bt6.kept eF nFp) nFp
      refine ⟨F, g, _, _, rfl, rfl, (same_upd ng) _ _ eF7, upd_same, by rw [List.length_map]; exact big (show xs.length + 1 ≤ 3000 by omega), fun F' nF' => ?_⟩
      have bA : But p H H7 := ((b5.trans bt').trans bt6).trans bt7
      have nF'0 : H F' = none := (bA.same (same_upd ng)).free (sr7.new ng).at nF'
      refine q F' _ nF'0 ⟨xs ++ [x], by rw [upd_same, List.map_append]; rfl, by rw [List.length_append]; exact Nat.le_add_left 1 _, by rw [List.length_append, lx]; show 9 + 1 ≤ 20; decide, fun c hc => ?_⟩ (((sr7.new ng).new nF').mono (by omega)) ((bA.same (same_upd ng)).same (same_upd nF'))
      rcases List.mem_append.mp hc with hc | hc
      · exact hx c hc
      · rw [List.mem_singleton.mp hc]; exact ⟨lx', by omega, by omega⟩
abbrev st_law_pieces_right : Stmt := topS 43
theorem sc_law_pieces_right : FnScope ["source", "ring", "piece", "asked", "due"] ["source", "ring"] (defScope st_law_pieces_right) := ⟨rfl, rfl, rfl, by decide +kernel, rfl, by decide +kernel, by decide +kernel⟩
theorem pl_law_pieces_right : PlainB "_law_pieces_right" st_law_pieces_right ["source", "ring"] := fun _ _ _ _ _ _ us hl => match us, hl with | [_, _], _ => rfl
def spPR : Sp := fun vs H Q _ => ∃ (p : Addr) (z : Str) (n : Nat), vs = [.ref p, .str z] ∧ Src H p n ∧ n ≤ 1000000 ∧ Low z ∧ 1 ≤ z.length ∧ z.length ≤ 2001 ∧ ∀ H', Src H' p (n + 100) → But p H H' → Q (.bl true) H'
theorem ok_law_pieces_right (T : Top K mg "_law_pieces_right" st_law_pieces_right) (B : Bt mg) (D_law_pieces : Dn P w K mg base 3 "_law_pieces" st_law_pieces ["source", "ring"] spPieces) (D_law_stands : Dn P w K mg base 1 "_law_stands" st_law_stands ["ring", "piece"] spStands)
    (D_law_same : Dn P w K mg base 3 "_law_same" st_law_same ["found", "due"] spSame) (D_stands_in : Dn P w K mg base 4 "stands_in" st_stands_in ["ring", "piece"] spStands) : Dn P w K mg base 5 "_law_pieces_right" st_law_pieces_right ["source", "ring"] spPR := by
  refine dn_of T sc_law_pieces_right pl_law_pieces_right (fun vs H Q E h => ?_) fun f cdv A outer s H vs Q E hr h => ?_
  · obtain ⟨a, b, _, rfl, _⟩ := h; rfl
  · obtain ⟨p, z, n, rfl, sr, hn, lz, z1, z2, q⟩ := h
    let G : Str → Bool → Prop := fun x c => (Low x ∧ 1 ≤ x.length ∧ x.length ≤ 3000) ∧ (c = true ↔ Stands (tl z) (tl x))
    refine ⟨_, (pss_cons (ps_setLc (i := 3) (own := [("piece", 2)]) (g := gName 2) rfl sc_law_pieces_right.nd rfl rfl (sw_true rfl rfl rfl (by decide +kernel)) (pi_list (pe_fn D_law_pieces (hr.mono (by decide)) (by rfl) (pa_cons (pv 0) (pa_cons (pv 1) pa_nil)))) (blkOk_by (N := ["source", "ring", "piece", "asked", "due"]) (sc := defScope st_law_pieces_right) (by decide +kernel)) (fun _ _ _ _ _ => (pg_name (i := 2) sc_law_pieces_right.nd rfl (.inl rfl))) (fun _ _ _ _ _ => pts_nil) (fun _ _ _ _ _ => (pe_tup (pa_cons (pv 2) (pa_cons (pe_fn D_law_stands (hr.mono (by decide)) (by rfl) (pa_cons (pv 1) (pa_cons (pv 2) pa_nil))) pa_nil)))))
      (pss_cons (ps_for PassesOwn.never rfl (pi_list (pe_op op_cat (pv 3) (pe_slice (slK K rfl) (pv 3) po_none (po_some pe_int)))) (pg_tupK K rfl rfl (pgs_cons (pg_name (i := 2) sc_law_pieces_right.nd rfl (.inl rfl)) (pgs_cons (pg_name (i := 4) sc_law_pieces_right.nd rfl (.inl rfl)) pgs_nil))) (pss_one (ps_if (pt_not (pt_val (pe_fn D_law_same (hr.mono (by decide)) (by rfl) (pa_cons (pe_fn D_stands_in (hr.mono (by decide)) (by rfl) (pa_cons (pv 1) (pa_cons (pv 2) pa_nil))) (pa_cons (pv 4) pa_nil))))) (pss_one (ps_ret pe_bl)) pss_nil)))
      (pss_one (ps_ret (pe_fn D_law_same (hr.mono (by decide)) (by rfl) (pa_cons (pe_fnK D_stands_in (hr.mono (by decide)) (by rfl) (pk_cons (pe_ix (ixTK K rfl) (pe_ix (ixK K rfl) (pv 3) pe_int (fun _ _ => rfl)) pe_int (fun _ _ => rfl)) (pk_cons (pv 1) pk_nil)) kb_stands_in_piece_ring) (pa_cons (pe_ix (ixTK K rfl) (pe_ix (ixK K rfl) (pv 3) pe_int (fun _ _ => rfl)) pe_int (fun _ _ => rfl)) pa_nil))))))), ?_⟩
    refine ⟨_, rfl, _, rfl, p, z, n, rfl, sr, by omega, lz, z1, z2, fun pq H1 npq ⟨xs, exs, x1, x20, hxs⟩ sr1 bt1 => ⟨pq, rfl, ⟨_, .inl (.inl exs)⟩, fun D hD => ?_⟩⟩
    refine lc_list (a := pq) (xs := xs.map V.str) (fun i H' => Same H1 H' ∧ ∃ as : List Addr, H' D = some (.lst (as.map V.ref)) ∧ as.length = i ∧ ∀ a ∈ as, Told G H' a) ⟨same_upd hD, [], upd_same, rfl, fun _ h => by cases h⟩ (fun i H' _ h => .inl (.inl (h.1 _ _ exs))) (fun i y H' hi ⟨sm, as, e, al, ha⟩ => ?_) fun H2 ⟨s2, as, e2, al, ha⟩ => ?_
    · obtain ⟨x, hx, rfl⟩ := mem_list hi
      obtain ⟨lx, hx1, hx2⟩ := hxs x hx
      have il : i < 20 := by
        have := (List.getElem?_eq_some_iff.mp hi).1
        rw [List.length_map] at this
        omega
      obtain ⟨c, hc⟩ : ∃ c : Bool, c = true ↔ Stands (tl z) (tl x) := by
        by_cases h : Stands (tl z) (tl x)
        · exact ⟨true, fun _ => h, fun _ => rfl⟩
        · exact ⟨false, fun e => Bool.noConfusion e, fun e => absurd e h⟩
      refine ⟨rfl, lc_yes ?_⟩
      refine ⟨_, rfl, _, rfl, _, rfl, z, x, c, rfl, lz, z1, by omega, lx, hx1, hx2, hc, fun H3 s3 => ⟨by show 2 ≤ sizeLine; decide, fun a na => ?_⟩⟩
      have e3 := s3 _ _ e
      have naD : a ≠ D := (ne_of_none e3 na).symm
      have s4 : Same H' (upd H3 a (.tup [V.str x, .bl c])) := s3.trans (same_upd na)
      refine ⟨_, (same_upd na) _ _ e3, by rw [List.length_map, al]; exact lt_line (by omega), wr (sm.trans s4) hD, as ++ [a], by rw [upd_same, List.map_append]; rfl, by rw [List.length_append, al]; rfl, fun u hu => ?_⟩
      rcases List.mem_append.mp hu with hu | hu
      · obtain ⟨x', c', e', g'⟩ := (ha u hu).same s4
        exact ⟨x', c', keep_ne e' (ne_lt e' (s4 _ _ e)), g'⟩
      · rw [List.mem_singleton.mp hu]
        exact ⟨x, c, keep_ne upd_same naD, ⟨lx, hx1, hx2⟩, hc⟩
    · rw [List.length_map] at al
      dsimp only [gName, tSeq]
      refine for_start ?_
      refine ⟨_, rfl, _, rfl, _, rfl, D, _, rfl, .inl (.inl e2), fun l nl => ?_⟩
      have ec : cutV (as.map V.ref) none (some (2 : Int)) = (as.map V.ref).take 2 := cutV_to _ 2
      rw [ec, ← List.map_take]
      refine ⟨D, l, _, _, rfl, rfl, (same_upd nl) _ _ e2, upd_same, by rw [List.length_map, List.length_map, List.length_take]; exact big (by omega), fun g ng => ?_⟩
      rw [← List.map_append]
      have s3 : Same H2 (upd (upd H2 l (.lst ((as.take 2).map V.ref))) g (.lst ((as ++ as.take 2).map V.ref))) := (same_upd nl).trans (same_upd ng)
      have eg : (upd (upd H2 l (.lst ((as.take 2).map V.ref))) g (.lst ((as ++ as.take 2).map V.ref))) g = some (.lst ((as ++ as.take 2).map V.ref)) := upd_same
      generalize upd (upd H2 l (.lst ((as.take 2).map V.ref))) g (.lst ((as ++ as.take 2).map V.ref)) = H3 at s3 eg ⊢
      have hg : ∀ a ∈ as ++ as.take 2, a ∈ as := fun a h => (List.mem_append.mp h).elim id List.mem_of_mem_take
      refine ⟨g, rfl, ⟨_, .inl (.inl eg)⟩, for_list (K := K) (a := g) (xs := (as ++ as.take 2).map V.ref) (fun i σ H' => ∃ o2 o4, σ = [some (.ref p), some (.str z), o2, some (.ref D), o4] ∧ Same H3 H') ⟨_, none, rfl, Same.refl _⟩ (fun _ _ _ _ ⟨_, _, _, h⟩ => .inl (.inl (h _ _ eg))) (fun i y σ H' hi ⟨o2, o4, eσ, sm⟩ => ?_) fun σ H' ⟨o2, o4, eσ, sm⟩ => ?_⟩
      · subst eσ
        obtain ⟨a, ham, rfl⟩ := ref_at hi
        obtain ⟨x, c, eax, ⟨lx, hx1, hx2⟩, hc⟩ := ((ha a (hg a ham)).same s3).same sm
        refine ⟨a, _, rfl, .inl (.inl eax), rfl, _, _, rfl, _, _, rfl, rfl, ?_⟩
        refine ⟨_, rfl, _, rfl, z, x, c, rfl, lz, z1, by omega, lx, hx1, hx2, hc, fun H5 s5 => ?_⟩
        refine ⟨_, rfl, .inl (.inr ⟨c, rfl, _, rfl, ?_⟩)⟩
        refine iteF ?_
        exact ⟨_, _, rfl, sm.trans s5⟩
      · subst eσ
        obtain ⟨a0, ea0, ha0⟩ : ∃ a, as[0]? = some a ∧ a ∈ as := ⟨as[0], List.getElem?_eq_getElem (by omega), List.getElem_mem _⟩
        obtain ⟨x, c, eax, ⟨lx, hx1, hx2⟩, hc⟩ := ((ha a0 ha0).same s3).same sm
        have eD := sm _ _ (s3 _ _ e2)
        have at0 : atI (as.map V.ref) 0 = some (V.ref a0) := atI_pos (by decide) (by show (as.map V.ref)[0]? = _; rw [List.getElem?_map, ea0]; rfl)
        refine ⟨_, rfl, D, _, _, _, rfl, rfl, .inl (.inl eD), at0, a0, _, _, _, rfl, rfl, .inl (.inl eax), rfl, _, rfl, z, x, c, rfl, lz, z1, by omega, lx, hx1, hx2, hc, fun H5 s5 => ?_⟩
        refine ⟨_, rfl, D, _, _, _, rfl, rfl, .inl (.inl (s5 _ _ eD)), at0, a0, _, _, _, rfl, rfl, .inl (.inl (s5 _ _ eax)), rfl, ?_⟩
        exact .inl (.inr ⟨c, rfl, q H5 (((((sr1.same s2).same s3).same sm).same s5)) ((((bt1.same s2).same s3).same sm).same s5)⟩)
end
end Tx

set_option Elab.async false
set_option linter.all false
set_option maxRecDepth 100000
set_option maxHeartbeats 1000000
namespace Tx
open PySem PySem.Spec PyProof.Rows L2 TL RZ
section
variable {P : Program} {w : World} {K : PySem.W.Frag} {mg : Str → Option Value} {base : Heap}
abbrev st_law_right : Stmt := topS 44
theorem sc_law_right : FnScope ["source", "book", "ring", "asked", "due", "turn"] ["source"] (defScope st_law_right) := ⟨rfl, rfl, rfl, by decide +kernel, rfl, by decide +kernel, by decide +kernel⟩
theorem pl_law_right : PlainB "_law_right" st_law_right ["source"] := fun _ _ _ _ _ _ us hl => match us, hl with | [_], _ => rfl
def spRight : Sp := fun vs H Q _ => ∃ p : Addr, vs = [.ref p] ∧ Src H p 0 ∧ ∀ H', But p H H' → Q (.bl true) H'
theorem ok_law_right (T : Top K mg "_law_right" st_law_right) (B : Bt mg) (D_law_book : Dn P w K mg base 4 "_law_book" st_law_book ["source", "most"] spLBook) (D_law_pick : Dn P w K mg base 1 "_law_pick" st_law_pick ["source", "top"] spPick)
    (D_law_rings : Dn P w K mg base 4 "_law_rings" st_law_rings ["source", "book"] spRings) (D_law_fits : Dn P w K mg base 2 "_law_fits" st_law_fits ["book", "ring"] spLFits) (D_law_same : Dn P w K mg base 3 "_law_same" st_law_same ["found", "due"] spSame)
    (D_fits : Dn P w K mg base 6 "fits" st_fits ["book", "ring"] spFits) (D_law_pieces_right : Dn P w K mg base 5 "_law_pieces_right" st_law_pieces_right ["source", "ring"] spPR) : Dn P w K mg base 7 "_law_right" st_law_right ["source"] spRight := by
  refine dn_of T sc_law_right pl_law_right (fun vs H Q E h => ?_) fun f cdv A outer s H vs Q E hr h => ?_
  · obtain ⟨a, rfl, _⟩ := h; rfl
  · obtain ⟨p, rfl, sr, q⟩ := h
    refine ⟨_, (pss_cons (ps_set (i := 1) sc_law_right.nd rfl (.inr rfl) (pe_fn D_law_book (hr.mono (by decide)) (by rfl) (pa_cons (pv 0) (pa_cons (pe_ix (ixK K rfl) (pe_lst (pa_cons pe_int (pa_cons pe_int (pa_cons pe_int pa_nil)))) (pe_fn D_law_pick (hr.mono (by decide)) (by rfl) (pa_cons (pv 0) (pa_cons pe_int pa_nil))) (fun _ _ => rfl)) pa_nil))))
      (pss_cons (ps_setLc (i := 3) (own := [("ring", 2)]) (g := gName 2) rfl sc_law_right.nd rfl rfl (sw_true rfl rfl rfl (by decide +kernel)) (pi_list (pe_fn D_law_rings (hr.mono (by decide)) (by rfl) (pa_cons (pv 0) (pa_cons (pv 1) pa_nil)))) (blkOk_by (N := ["source", "book", "ring", "asked", "due", "turn"]) (sc := defScope st_law_right) (by decide +kernel)) (fun _ _ _ _ _ => (pg_name (i := 2) sc_law_right.nd rfl (.inl rfl))) (fun _ _ _ _ _ => pts_nil) (fun _ _ _ _ _ => (pe_tup (pa_cons (pv 2) (pa_cons (pe_fn D_law_fits (hr.mono (by decide)) (by rfl) (pa_cons (pv 1) (pa_cons (pv 2) pa_nil))) pa_nil)))))
      (pss_cons (ps_for PassesOwn.never rfl (pi_list (pe_op op_cat (pv 3) (pe_slice (slK K rfl) (pv 3) po_none (po_some pe_int)))) (pg_tupK K rfl rfl (pgs_cons (pg_name (i := 2) sc_law_right.nd rfl (.inl rfl)) (pgs_cons (pg_name (i := 4) sc_law_right.nd rfl (.inl rfl)) pgs_nil))) (pss_one (ps_if (PW.pt (pw_or (pt_not (pt_val (pe_fn D_law_same (hr.mono (by decide)) (by rfl) (pa_cons (pe_fn D_fits (hr.mono (by decide)) (by rfl) (pa_cons (pv 1) (pa_cons (pv 2) pa_nil))) (pa_cons (pv 4) pa_nil))))) (pw_or1 (pt_not (pt_val (pe_fn D_law_same (hr.mono (by decide)) (by rfl) (pa_cons (pe_fnK D_fits (hr.mono (by decide)) (by rfl) (pk_cons (pv 2) (pk_cons (pv 1) pk_nil)) kb_fits_ring_book) (pa_cons (pv 4) pa_nil)))))))) (pss_one (ps_ret pe_bl)) pss_nil)))
      (pss_cons (ps_for PassesOwn.never rfl (pi_range1 (by rfl) B.range (pa_cons pe_int pa_nil)) (pg_name (i := 5) sc_law_right.nd rfl (.inl rfl)) (pss_one (ps_if (pt_not (pt_val (pe_fn D_law_pieces_right (hr.mono (by decide)) (by rfl) (pa_cons (pv 0) (pa_cons (pe_ix (ixTK K rfl) (pe_ix (ixK K rfl) (pv 3) (pe_fn D_law_pick (hr.mono (by decide)) (by rfl) (pa_cons (pv 0) (pa_cons (pe_callB (lenK K rfl) (by rfl) B.len (by decide +kernel) (pa_cons (pv 3) pa_nil)) pa_nil))) (fun _ _ => rfl)) pe_int (fun _ _ => rfl)) pa_nil))))) (pss_one (ps_ret pe_bl)) pss_nil)))
      (pss_one (ps_ret pe_bl)))))), ?_⟩
    refine ⟨_, rfl, by show 3 ≤ sizeLine; decide, fun m nm => ⟨_, rfl, p, 3, _, rfl, sr.new nm, by decide, by decide, by decide, fun r H2 r0 r1 sr2 bt2 => ?_⟩⟩
    obtain ⟨o, eo⟩ := id sr.at
    have nmp : m ≠ p := (ne_of_none eo nm).symm
    have em : H2 m = some (.lst [.int 12, .int 12, .int 40]) := bt2.kept upd_same nmp
    have b2 : But p H H2 := (Same.but (same_upd nm)).trans bt2
    obtain ⟨most, et, t1, t2⟩ : ∃ top : Nat, [V.int 12, V.int 12, V.int 40][r.toNat]? = some (.int (top : Int)) ∧ 1 ≤ top ∧ top ≤ 40 := by
      rcases (show r = 0 ∨ r = 1 ∨ r = 2 by omega) with rfl | rfl | rfl
      · exact ⟨12, rfl, by omega, by omega⟩
      · exact ⟨12, rfl, by omega, by omega⟩
      · exact ⟨40, rfl, by omega, by omega⟩
    refine ⟨m, _, r, _, rfl, rfl, .inl (.inl em), atI_pos r0 et, p, most, _, rfl, sr2, by decide, t1, t2, fun b k ws H3 nb bat bk wl sr3 bt3 => ?_⟩
    have b3 : But p H H3 := b2.trans bt3
    have wl40 : ws.length ≤ 40 := by omega
    let G : Str → Bool → Prop := fun x c => (Low x ∧ 1 ≤ x.length ∧ x.length ≤ 2001) ∧ ∃ ys, Up ys (turns k (tl x)) ∧ c = decide (ys = ws)
    refine ⟨_, rfl, _, rfl, p, b, k, _, ws, rfl, sr3, by decide, bat, bk, wl40, fun rq H4 nrq ⟨xs, exs, x1, x20, hxs⟩ sr4 bt4 => ⟨rq, rfl, ⟨_, .inl (.inl exs)⟩, fun D hD => ?_⟩⟩
    have bat4 := bat.but bt4 sr3
    refine lc_list (a := rq) (xs := xs.map V.str) (fun i H' => Same H4 H' ∧ ∃ as : List Addr, H' D = some (.lst (as.map V.ref)) ∧ as.length = i ∧ ∀ a ∈ as, Told G H' a) ⟨same_upd hD, [], upd_same, rfl, fun _ h => by cases h⟩ (fun i H' _ h => .inl (.inl (h.1 _ _ exs))) (fun i y H' hi ⟨sm, as, e, al, ha⟩ => ?_) fun H5 ⟨s5, as, e5, al, ha⟩ => ?_
    · obtain ⟨x, hx, rfl⟩ := mem_list hi
      obtain ⟨lx, hx1, hx2⟩ := hxs x hx
      have il : i < 20 := by
        have := (List.getElem?_eq_some_iff.mp hi).1
        rw [List.length_map] at this
        omega
      refine ⟨rfl, lc_yes ?_⟩
      refine ⟨_, rfl, _, rfl, _, rfl, b, k, ws, x, rfl, bat4.same sm, bk, lx, hx1, hx2, fun ys H6 up s6 => ⟨by show 2 ≤ sizeLine; decide, fun a na => ?_⟩⟩
      have e6 := s6 _ _ e
      have naD : a ≠ D := (ne_of_none e6 na).symm
      have s7 : Same H' (upd H6 a (.tup [V.str x, .bl (decide (ys = ws))])) := s6.trans (same_upd na)
      refine ⟨_, (same_upd na) _ _ e6, by rw [List.length_map, al]; exact lt_line (by omega), wr (sm.trans s7) hD, as ++ [a], by rw [upd_same, List.map_append]; rfl, by rw [List.length_append, al]; rfl, fun u hu => ?_⟩
      rcases List.mem_append.mp hu with hu | hu
      · obtain ⟨x', c', e', g'⟩ := (ha u hu).same s7
        exact ⟨x', c', keep_ne e' (ne_lt e' (s7 _ _ e)), g'⟩
      · rw [List.mem_singleton.mp hu]
        exact ⟨x, _, keep_ne upd_same naD, ⟨lx, hx1, hx2⟩, ys, up, rfl⟩
    · rw [List.length_map] at al
      have b5 : But p H H5 := (b3.trans bt4).same s5
      have sr5 := sr4.same s5
      have bat5 := bat4.same s5
      dsimp only [gName, tSeq]
      refine for_begin ?_
      refine ⟨_, rfl, _, rfl, _, rfl, D, _, rfl, .inl (.inl e5), fun l nl => ?_⟩
      have ec : cutV (as.map V.ref) none (some (2 : Int)) = (as.map V.ref).take 2 := cutV_to _ 2
      rw [ec, ← List.map_take]
      refine ⟨D, l, _, _, rfl, rfl, (same_upd nl) _ _ e5, upd_same, by rw [List.length_map, List.length_map, List.length_take]; exact big (by omega), fun g ng => ?_⟩
      rw [← List.map_append]
      have s6 : Same H5 (upd (upd H5 l (.lst ((as.take 2).map V.ref))) g (.lst ((as ++ as.take 2).map V.ref))) := (same_upd nl).trans (same_upd ng)
      have eg : (upd (upd H5 l (.lst ((as.take 2).map V.ref))) g (.lst ((as ++ as.take 2).map V.ref))) g = some (.lst ((as ++ as.take 2).map V.ref)) := upd_same
      generalize upd (upd H5 l (.lst ((as.take 2).map V.ref))) g (.lst ((as ++ as.take 2).map V.ref)) = H6 at s6 eg ⊢
      have hg : ∀ a ∈ as ++ as.take 2, a ∈ as := fun a h => (List.mem_append.mp h).elim id List.mem_of_mem_take
      refine ⟨g, rfl, ⟨_, .inl (.inl eg)⟩, for_list (K := K) (a := g) (xs := (as ++ as.take 2).map V.ref) (fun i σ H' => ∃ o2 o4, σ = [some (.ref p), some (.ref b), o2, some (.ref D), o4, none] ∧ Same H6 H') ⟨_, none, rfl, Same.refl _⟩ (fun _ _ _ _ ⟨_, _, _, h⟩ => .inl (.inl (h _ _ eg))) (fun i y σ H' hi ⟨o2, o4, eσ, sm⟩ => ?_) fun σ H' ⟨o2, o4, eσ, sm⟩ => ?_⟩
      · subst eσ
        obtain ⟨a, ham, rfl⟩ := ref_at hi
        obtain ⟨x, c, eax, ⟨lx, hx1, hx2⟩, ys, up, ec⟩ := ((ha a (hg a ham)).same s6).same sm
        have bat6 := (bat5.same s6).same sm
        subst ec
        refine ⟨a, _, rfl, .inl (.inl eax), rfl, _, _, rfl, _, _, rfl, rfl, ?_⟩
        refine ⟨_, rfl, _, rfl, b, k, ws, ys, x, rfl, bat6, bk, lx, hx1, by omega, up, fun H7 s7 => ?_⟩
        refine ⟨_, rfl, .inl (.inr ⟨decide (ys = ws), rfl, true, rfl, ?_⟩)⟩
        refine iteF ?_
        refine ⟨_, rfl, _, rfl, b, k, ws, ys, x, rfl, bat6.same s7, bk, lx, hx1, by omega, up, fun H8 s8 => ?_⟩
        refine ⟨_, rfl, .inl (.inr ⟨decide (ys = ws), rfl, true, rfl, ?_⟩)⟩
        refine iteF ?_
        exact ⟨_, _, rfl, (sm.trans s7).trans s8⟩
      · subst eσ
        have s56 : Same H5 H' := s6.trans sm
        have sr6 := sr5.same s56
        have eD6 := s56 _ _ e5
        have nDp : D ≠ p := by
          obtain ⟨o4', eo4'⟩ := id sr4.at
          exact (ne_of_none eo4' hD).symm
        refine ⟨2, rfl, by decide, by decide, for_range (fun i σ H7 => ∃ o5, σ = [some (.ref p), some (.ref b), o2, some (.ref D), o4, o5] ∧ Src H7 p (200000 + 200 * i) ∧ But p H' H7) ⟨_, rfl, sr6.mono (by decide), But.refl⟩ (fun i σ H7 hi ⟨o5, eσ, sr7, bt7⟩ => ?_) fun σ H7 ⟨o5, eσ, sr7, bt7⟩ => ?_⟩
        · subst eσ
          have hi : i < 2 := hi
          have eD7 := bt7.kept eD6 nDp
          refine ⟨_, rfl, _, rfl, _, rfl, _, rfl, D, _, rfl, .inl (.inl (.inl eD7)), p, ((as.map V.ref).length : Int), _, rfl, sr7, by omega, by rw [List.length_map]; omega, by rw [List.length_map]; omega, fun r8 H8 c0 c1 sr8 bt8 => ?_⟩
          rw [List.length_map] at c1
          have lt8 : r8.toNat < as.length := by omega
          have ham := List.getElem_mem lt8
          have eD8 := bt8.kept eD7 nDp
          refine ⟨D, _, r8, V.ref as[r8.toNat], rfl, rfl, .inl (.inl eD8), atI_pos c0 (by rw [List.getElem?_map, List.getElem?_eq_getElem lt8]; rfl), ?_⟩
          generalize as[r8.toNat] = a at ham ⊢
          obtain ⟨x, c, eax, ⟨lx, hx1, hx2⟩, _⟩ := (((ha a ham).same s56).but bt7 sr6).but bt8 sr7
          refine ⟨a, _, _, _, rfl, rfl, .inl (.inl eax), rfl, ?_⟩
          refine ⟨p, x, _, rfl, sr8, by omega, lx, hx1, hx2, fun H9 sr9 bt9 => ⟨_, rfl, ?_⟩⟩
          refine iteF ?_
          exact ⟨_, rfl, sr9.mono (by omega), (bt7.trans bt8).trans bt9⟩
        · exact q H7 ((b5.same s56).trans bt7)
abbrev st_law : Stmt := topS 45
theorem sc_law : FnScope ["script", "k"] ["script"] (defScope st_law) := ⟨rfl, rfl, rfl, by decide +kernel, rfl, by decide +kernel, by decide +kernel⟩
theorem pl_law : PlainB "law" st_law ["script"] := fun _ _ _ _ _ _ us hl => match us, hl with | [_], _ => rfl
def spLaw (K : PySem.W.Frag) : Sp := fun vs H Q _ => ∃ (a : Addr) (ns : List Int), vs = [.ref a] ∧ SqL K H a (ns.map V.int) ∧ ns.length ≤ 63 ∧ ∀ H', Q (.bl true) H'
theorem ok_law (T : Top K mg "law" st_law) (B : Bt mg) (D_law_right : Dn P w K mg base 7 "_law_right" st_law_right ["source"] spRight) (D_law_source : Dn P w K mg base 1 "_law_source" st_law_source ["script", "k"] (spSource K)) :
    Dn P w K mg base 8 "law" st_law ["script"] (spLaw K) := by
  refine dn_of T sc_law pl_law (fun vs H Q E h => ?_) fun f cdv A outer s H vs Q E hr h => ?_
  · obtain ⟨a, _, rfl, _⟩ := h; rfl
  · obtain ⟨a, ns, rfl, sq, hn, q⟩ := h
    refine ⟨_, (pss_cons (ps_for PassesOwn.never rfl (pi_range1 (by rfl) B.range (pa_cons (pe_callB (call_max2 rfl) (by rfl) B.max (by decide +kernel) (pa_cons pe_int (pa_cons (pe_callB (call_min2 rfl) (by rfl) B.min (by decide +kernel) (pa_cons pe_int (pa_cons (pe_callB (lenK K rfl) (by rfl) B.len (by decide +kernel) (pa_cons (pv 0) pa_nil)) pa_nil))) pa_nil))) pa_nil)) (pg_name (i := 1) sc_law.nd rfl (.inl rfl)) (pss_one (ps_if (pt_not (pt_val (pe_fn D_law_right (hr.mono (by decide)) (by rfl) (pa_cons (pe_fn D_law_source (hr.mono (by decide)) (by rfl) (pa_cons (pv 0) (pa_cons (pv 1) pa_nil))) pa_nil)))) (pss_one (ps_ret pe_bl)) pss_nil)))
      (pss_one (ps_ret pe_bl))), ?_⟩
    refine ⟨_, rfl, a, _, rfl, .inl sq, _, _, rfl, _, _, rfl, ?_⟩
    obtain ⟨n, en, hn3⟩ : ∃ n : Nat, (if (if ((ns.map V.int).length : Int) < 2 then ((ns.map V.int).length : Int) else 2) > 1 then (if ((ns.map V.int).length : Int) < 2 then ((ns.map V.int).length : Int) else 2) else 1) = (n : Int) ∧ n ≤ 2 := by
      rw [List.length_map]
      refine ⟨(if (if (ns.length : Int) < 2 then (ns.length : Int) else 2) > 1 then (if (ns.length : Int) < 2 then (ns.length : Int) else 2) else 1).toNat, ?_, ?_⟩ <;> split <;> split <;> omega
    refine ⟨(n : Int), congrArg (fun x => [V.int x]) en, by omega, by omega, ?_⟩
    rw [Int.toNat_natCast]
    refine for_range (fun i σ H' => Same H H' ∧ ∃ o, σ = [some (.ref a), o]) ⟨Same.refl _, none, rfl⟩ (fun i σ H' hi ⟨sm, o, eσ⟩ => ?_) fun σ H' ⟨sm, o, eσ⟩ => ?_
    · subst eσ
      refine ⟨_, rfl, _, rfl, a, ns, i, ?_, sm.seq sq, hn, by omega, fun p H1 np s1 sr => ?_⟩
      · show [V.ref a, V.int (0 + (i : Int))] = [V.ref a, V.int (i : Int)]
        rw [show ((0 : Int) + (i : Int)) = (i : Int) by omega]
      · refine ⟨p, rfl, sr, fun H2 bt => ⟨_, rfl, ?_⟩⟩
        refine iteF ?_
        exact ⟨fun b o e => bt b o (s1 _ _ (sm _ _ e)) (ne_of_none (sm _ _ e) np), _, rfl⟩
    · exact q H'
end
end Tx

set_option Elab.async false
set_option linter.all false
set_option maxRecDepth 100000
namespace Tx
open PySem PySem.Spec PyProof.Rows L2 TL
theorem fun_one {K : PySem.W.Frag} {x q : Str} {st : Stmt} {f : Addr} {fd fd' : FuncData} (F : Fun K x q st f fd) (F' : Fun K x q st f fd') : fd = fd' := by
  obtain ⟨_, _, _, _, _, _, _, _, _, _, l, _⟩ := F.ex
  obtain ⟨_, _, _, _, _, _, _, _, _, _, l', _⟩ := F'.ex
  rw [l] at l'
  injection l' with e
  injection e with e1 e2 e3 e4
  injection e3
theorem all_ok {l : PySem.W.OpenLaw} {w : World} {K : PySem.W.Frag} {h : Heap} {mg : Str → Option Value} {fa : Addr} (X : K.In h) (G : h.Ns mainGlobals mg) (hfa : mg "law" = some (.ref fa)) (B : Bt mg)
    (T_is_whole : Top K mg "is_whole" st_is_whole) (T_is_letters : Top K mg "is_letters" st_is_letters) (T_steps_of : Top K mg "steps_of" st_steps_of) (T_unrolled : Top K mg "unrolled" st_unrolled) (T_is_size : Top K mg "is_size" st_is_size) (T_is_ring : Top K mg "is_ring" st_is_ring) (T_check_ring : Top K mg "check_ring" st_check_ring) (T_check_size : Top K mg "check_size" st_check_size) (T_windows_of : Top K mg "windows_of" st_windows_of) (T_ring_windows : Top K mg "ring_windows" st_ring_windows) (T_is_ascending : Top K mg "is_ascending" st_is_ascending) (T_is_windows : Top K mg "is_windows" st_is_windows) (T_is_book : Top K mg "is_book" st_is_book) (T_check_book : Top K mg "check_book" st_check_book) (T_fits : Top K mg "fits" st_fits) (T_stands_in : Top K mg "stands_in" st_stands_in) (T_law_pick : Top K mg "_law_pick" st_law_pick) (T_law_source : Top K mg "_law_source" st_law_source) (T_law_letters : Top K mg "_law_letters" st_law_letters) (T_law_word : Top K mg "_law_word" st_law_word) (T_law_round : Top K mg "_law_round" st_law_round) (T_law_ring : Top K mg "_law_ring" st_law_ring) (T_law_same : Top K mg "_law_same" st_law_same) (T_law_book : Top K mg "_law_book" st_law_book) (T_law_spots : Top K mg "_law_spots" st_law_spots) (T_law_reach : Top K mg "_law_reach" st_law_reach) (T_law_joined : Top K mg "_law_joined" st_law_joined) (T_law_road : Top K mg "_law_road" st_law_road) (T_law_walk : Top K mg "_law_walk" st_law_walk) (T_law_fits : Top K mg "_law_fits" st_law_fits) (T_law_stands : Top K mg "_law_stands" st_law_stands) (T_law_rings : Top K mg "_law_rings" st_law_rings) (T_law_pieces : Top K mg "_law_pieces" st_law_pieces) (T_law_pieces_right : Top K mg "_law_pieces_right" st_law_pieces_right) (T_law_right : Top K mg "_law_right" st_law_right) (T_law : Top K mg "law" st_law) :
    ∃ fd : FuncData, (∀ (s : Shared) (v : Value), BindsTo s fd ⟨[v], []⟩ [("script", v)]) ∧ ∀ base : Heap, K.In base → base.Ns mainGlobals mg → FnOk l.prog w K mg base CX0 8 fa fd ["script"] (spLaw K) := by
  obtain ⟨f, fd, hm, F⟩ := id T_law
  rw [hfa] at hm
  cases hm
  refine ⟨fd, fun s v => ?_, fun base _ _ => ?_⟩
  · obtain ⟨oc, od, kV, doc, pm, an, cdv, ct, osl, rfl, lk, hcd⟩ := F.ex
    exact .of_eq (pl_law kV doc pm an cdv ct [v] rfl)
  · skip
    have d_is_whole := ok_is_whole (P := l.prog) (w := w) (base := base) T_is_whole B
    have d_is_letters := ok_is_letters (P := l.prog) (w := w) (base := base) T_is_letters B
    have d_steps_of := ok_steps_of (P := l.prog) (w := w) (base := base) T_steps_of B
    have d_unrolled := ok_unrolled (P := l.prog) (w := w) (base := base) T_unrolled B
    have d_is_size := ok_is_size (P := l.prog) (w := w) (base := base) T_is_size d_is_whole
    have d_is_ring := ok_is_ring (P := l.prog) (w := w) (base := base) T_is_ring d_is_letters
    have d_check_ring := ok_check_ring (P := l.prog) (w := w) (base := base) T_check_ring d_is_ring
    have d_check_size := ok_check_size (P := l.prog) (w := w) (base := base) T_check_size d_is_size
    have d_windows_of := ok_windows_of (P := l.prog) (w := w) (base := base) T_windows_of B d_check_size d_is_letters d_steps_of
    have d_ring_windows := ok_ring_windows (P := l.prog) (w := w) (base := base) T_ring_windows d_check_size d_check_ring d_windows_of d_unrolled
    have d_is_ascending := ok_is_ascending (P := l.prog) (w := w) (base := base) T_is_ascending B
    have d_is_windows := ok_is_windows (P := l.prog) (w := w) (base := base) T_is_windows B d_is_ascending d_is_letters
    have d_is_book := ok_is_book (P := l.prog) (w := w) (base := base) T_is_book B d_is_size d_is_windows
    have d_check_book := ok_check_book (P := l.prog) (w := w) (base := base) T_check_book d_is_book
    have d_fits := ok_fits (P := l.prog) (w := w) (base := base) T_fits B d_check_book d_ring_windows
    have d_stands_in := ok_stands_in (P := l.prog) (w := w) (base := base) T_stands_in B d_check_ring d_is_ring d_unrolled
    have d_law_pick := ok_law_pick (P := l.prog) (w := w) (base := base) T_law_pick B
    have d_law_source := ok_law_source (P := l.prog) (w := w) (base := base) T_law_source B
    have d_law_letters := ok_law_letters (P := l.prog) (w := w) (base := base) T_law_letters d_law_pick
    have d_law_word := ok_law_word (P := l.prog) (w := w) (base := base) T_law_word B d_law_pick
    have d_law_round := ok_law_round (P := l.prog) (w := w) (base := base) T_law_round B
    have d_law_ring := ok_law_ring (P := l.prog) (w := w) (base := base) T_law_ring B d_law_pick d_law_word
    have d_same0 := ok_same0 (P := l.prog) (w := w) (base := base) T_law_same B
    have d_same1 := ok_same1 (P := l.prog) (w := w) (base := base) T_law_same B d_same0
    have d_same := ok_same (P := l.prog) (w := w) (base := base) T_law_same B d_same0 d_same1
    have d_law_book := ok_law_book (P := l.prog) (w := w) (base := base) T_law_book B d_law_pick d_law_letters d_law_round d_law_ring d_law_word
    have d_law_spots := ok_law_spots (P := l.prog) (w := w) (base := base) T_law_spots B
    have d_law_reach := ok_law_reach (P := l.prog) (w := w) (base := base) T_law_reach B
    have d_law_joined := ok_law_joined (P := l.prog) (w := w) (base := base) T_law_joined B d_law_spots d_law_reach
    have d_law_road := ok_law_road (P := l.prog) (w := w) (base := base) T_law_road B
    have d_law_walk := ok_law_walk (P := l.prog) (w := w) (base := base) T_law_walk B d_law_pick d_law_road
    have d_law_fits := ok_law_fits (P := l.prog) (w := w) (base := base) T_law_fits B d_law_round
    have d_law_stands := ok_law_stands (P := l.prog) (w := w) (base := base) T_law_stands B
    have d_law_rings := ok_law_rings (P := l.prog) (w := w) (base := base) T_law_rings B d_law_ring d_law_joined d_law_walk d_law_pick
    have d_law_pieces := ok_law_pieces (P := l.prog) (w := w) (base := base) T_law_pieces B d_law_pick d_law_word
    have d_law_pieces_right := ok_law_pieces_right (P := l.prog) (w := w) (base := base) T_law_pieces_right B d_law_pieces d_law_stands d_same d_stands_in
    have d_law_right := ok_law_right (P := l.prog) (w := w) (base := base) T_law_right B d_law_book d_law_pick d_law_rings d_law_fits d_same d_fits d_law_pieces_right
    have d_law := ok_law (P := l.prog) (w := w) (base := base) T_law B d_law_right d_law_source
    obtain ⟨f', fd', hm', F', G'⟩ := d_law.ex
    rw [hfa] at hm'
    cases hm'
    cases fun_one F F'
    exact G'
end Tx
open PySem PySem.W PyProof.Rows
set_option maxRecDepth 100000 in
set_option maxHeartbeats 0 in
theorem PySem.Challenge.cw_surepieces_k03_what_fits_and_stands_holds : PySem.Challenge.rw_surepieces_k03_what_fits_and_stands.Holds := by
  w_on; o_law; k_head; (case hw => w_witness2)
  k_fill
  refine L2.walk_of (l := PySem.Challenge.rw_surepieces_k03_what_fits_and_stands) (n := 63) (k := 8) (x := "script") (CX := fun _ => L2.CX0) (sp := fun w => Tx.spLaw _) rfl (by decide) rfl ⟨rfl, by decide, by decide⟩ (fun w h Y => PySem.W.kIn_of Y) ?F (fun _ _ a ns hl _ hS => ⟨a, ns, rfl, hS, hl, fun _ => rfl⟩) (fun _ _ _ _ _ h => h)
  case F =>
    intro w mg fa h KX G hmg
    refine' Tx.all_ok KX G hmg ⟨PySem.W.mg_none_of KX G ?b0, PySem.W.mg_none_of KX G ?b1, PySem.W.mg_none_of KX G ?b2, PySem.W.mg_none_of KX G ?b3, PySem.W.mg_none_of KX G ?b4, PySem.W.mg_none_of KX G ?b5, PySem.W.mg_none_of KX G ?b6, PySem.W.mg_none_of KX G ?b7, PySem.W.mg_none_of KX G ?b8, PySem.W.mg_none_of KX G ?b9, PySem.W.mg_none_of KX G ?b10, PySem.W.mg_none_of KX G ?b11, PySem.W.mg_none_of KX G ?b12, PySem.W.mg_none_of KX G ?b13, PySem.W.mg_none_of KX G ?b14⟩ ?t0 ?t1 ?t2 ?t3 ?t4 ?t5 ?t6 ?t7 ?t8 ?t9 ?t10 ?t11 ?t12 ?t13 ?t14 ?t15 ?t16 ?t17 ?t18 ?t19 ?t20 ?t21 ?t22 ?t23 ?t24 ?t25 ?t26 ?t27 ?t28 ?t29 ?t30 ?t31 ?t32 ?t33 ?t34 ?t35
    (case b0 => k_is)
    (case b1 => k_is)
    (case b2 => k_is)
    (case b3 => k_is)
    (case b4 => k_is)
    (case b5 => k_is)
    (case b6 => k_is)
    (case b7 => k_is)
    (case b8 => k_is)
    (case b9 => k_is)
    (case b10 => k_is)
    (case b11 => k_is)
    (case b12 => k_is)
    (case b13 => k_is)
    (case b14 => k_is)
    (case t0 => refine' Tx.top_mk KX G ?a ?l ?c ?k; (case a => k_is); (case l => k_is); (case c => k_is); (case k => k_is))
    (case t1 => refine' Tx.top_mk KX G ?a ?l ?c ?k; (case a => k_is); (case l => k_is); (case c => k_is); (case k => k_is))
    (case t2 => refine' Tx.top_mk KX G ?a ?l ?c ?k; (case a => k_is); (case l => k_is); (case c => k_is); (case k => k_is))
    (case t3 => refine' Tx.top_mk KX G ?a ?l ?c ?k; (case a => k_is); (case l => k_is); (case c => k_is); (case k => k_is))
    (case t4 => refine' Tx.top_mk KX G ?a ?l ?c ?k; (case a => k_is); (case l => k_is); (case c => k_is); (case k => k_is))
    (case t5 => refine' Tx.top_mk KX G ?a ?l ?c ?k; (case a => k_is); (case l => k_is); (case c => k_is); (case k => k_is))
    (case t6 => refine' Tx.top_mk KX G ?a ?l ?c ?k; (case a => k_is); (case l => k_is); (case c => k_is); (case k => k_is))
    (case t7 => refine' Tx.top_mk KX G ?a ?l ?c ?k; (case a => k_is); (case l => k_is); (case c => k_is); (case k => k_is))
    (case t8 => refine' Tx.top_mk KX G ?a ?l ?c ?k; (case a => k_is); (case l => k_is); (case c => k_is); (case k => k_is))
    (case t9 => refine' Tx.top_mk KX G ?a ?l ?c ?k; (case a => k_is); (case l => k_is); (case c => k_is); (case k => k_is))
    (case t10 => refine' Tx.top_mk KX G ?a ?l ?c ?k; (case a => k_is); (case l => k_is); (case c => k_is); (case k => k_is))
    (case t11 => refine' Tx.top_mk KX G ?a ?l ?c ?k; (case a => k_is); (case l => k_is); (case c => k_is); (case k => k_is))
    (case t12 => refine' Tx.top_mk KX G ?a ?l ?c ?k; (case a => k_is); (case l => k_is); (case c => k_is); (case k => k_is))
    (case t13 => refine' Tx.top_mk KX G ?a ?l ?c ?k; (case a => k_is); (case l => k_is); (case c => k_is); (case k => k_is))
    (case t14 => refine' Tx.top_mk KX G ?a ?l ?c ?k; (case a => k_is); (case l => k_is); (case c => k_is); (case k => k_is))
    (case t15 => refine' Tx.top_mk KX G ?a ?l ?c ?k; (case a => k_is); (case l => k_is); (case c => k_is); (case k => k_is))
    (case t16 => refine' Tx.top_mk KX G ?a ?l ?c ?k; (case a => k_is); (case l => k_is); (case c => k_is); (case k => k_is))
    (case t17 => refine' Tx.top_mk KX G ?a ?l ?c ?k; (case a => k_is); (case l => k_is); (case c => k_is); (case k => k_is))
    (case t18 => refine' Tx.top_mk KX G ?a ?l ?c ?k; (case a => k_is); (case l => k_is); (case c => k_is); (case k => k_is))
    (case t19 => refine' Tx.top_mk KX G ?a ?l ?c ?k; (case a => k_is); (case l => k_is); (case c => k_is); (case k => k_is))
    (case t20 => refine' Tx.top_mk KX G ?a ?l ?c ?k; (case a => k_is); (case l => k_is); (case c => k_is); (case k => k_is))
    (case t21 => refine' Tx.top_mk KX G ?a ?l ?c ?k; (case a => k_is); (case l => k_is); (case c => k_is); (case k => k_is))
    (case t22 => refine' Tx.top_mk KX G ?a ?l ?c ?k; (case a => k_is); (case l => k_is); (case c => k_is); (case k => k_is))
    (case t23 => refine' Tx.top_mk KX G ?a ?l ?c ?k; (case a => k_is); (case l => k_is); (case c => k_is); (case k => k_is))
    (case t24 => refine' Tx.top_mk KX G ?a ?l ?c ?k; (case a => k_is); (case l => k_is); (case c => k_is); (case k => k_is))
    (case t25 => refine' Tx.top_mk KX G ?a ?l ?c ?k; (case a => k_is); (case l => k_is); (case c => k_is); (case k => k_is))
    (case t26 => refine' Tx.top_mk KX G ?a ?l ?c ?k; (case a => k_is); (case l => k_is); (case c => k_is); (case k => k_is))
    (case t27 => refine' Tx.top_mk KX G ?a ?l ?c ?k; (case a => k_is); (case l => k_is); (case c => k_is); (case k => k_is))
    (case t28 => refine' Tx.top_mk KX G ?a ?l ?c ?k; (case a => k_is); (case l => k_is); (case c => k_is); (case k => k_is))
    (case t29 => refine' Tx.top_mk KX G ?a ?l ?c ?k; (case a => k_is); (case l => k_is); (case c => k_is); (case k => k_is))
    (case t30 => refine' Tx.top_mk KX G ?a ?l ?c ?k; (case a => k_is); (case l => k_is); (case c => k_is); (case k => k_is))
    (case t31 => refine' Tx.top_mk KX G ?a ?l ?c ?k; (case a => k_is); (case l => k_is); (case c => k_is); (case k => k_is))
    (case t32 => refine' Tx.top_mk KX G ?a ?l ?c ?k; (case a => k_is); (case l => k_is); (case c => k_is); (case k => k_is))
    (case t33 => refine' Tx.top_mk KX G ?a ?l ?c ?k; (case a => k_is); (case l => k_is); (case c => k_is); (case k => k_is))
    (case t34 => refine' Tx.top_mk KX G ?a ?l ?c ?k; (case a => k_is); (case l => k_is); (case c => k_is); (case k => k_is))
    (case t35 => refine' Tx.top_mk KX G ?a ?l ?c ?k; (case a => k_is); (case l => k_is); (case c => k_is); (case k => k_is))
