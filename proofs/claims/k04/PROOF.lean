import PyProof.Rows.All
import Wide.All
import OpenK.AllK
import Wide.FinOn
import PyProof.Rows.SortShellAny
import HandS.ForMost
import HandS.Set
import HandS.SetFor
import HandS.More
import HandS.Strs
import HandS.IsInst
import HandS.Zip
import HandS.Conv
import PyProof.Rows.StrRev
import PyProof.Rows.StrStep
import HandS.Style
import PyProof.MinMaxWalk
import PyProof.StrLawsIn
import HandS.DictComp
import KE.DataMinMax
import HandS.TupLe
import HandS.NoneIn
import HandS.Wide
import PySem.Challenge.RW_surepieces_k04_first_shortest_pieces_bet
set_option Elab.async false
set_option linter.all false
set_option maxRecDepth 100000
set_option maxHeartbeats 4000000
/-! Texts: sorted of a list, a dict, a set of texts, any number of them; set of a list of texts -/
namespace Tx
open PySem PySem.Spec PyProof.Rows L2

section
variable {X : Cx} {pins : List (Addr × Obj)} {σ : L2.St} {H : Hp}
/-- the end of sorted: what was collected is laid as a new list, and that is sorted -/
theorem sortTail {s : Shared} {A : Around} {E : Value → Shared → Prop} {vs : List Value} {ks : List Str} {Q : VK}
    (I : Inv X pins σ H s) (hS : StrsAre vs ks) (hz : vs.length ≤ sizeLine)
    (q : ∀ ys p, ys.Perm ks → sortedS ys = true → H p = none → Q (.ref p) (upd H p (.lst (ys.map V.str)))) :
    wpAny (model X.prog X.w) A (newList vs >>= fun l => holding [l] (call (.builtin "list.sort") [l] []) >>= fun _ => ret l)
      (fun fin s' => ∃ v, fin = .done (.ret v) ∧ EP X pins σ Q v s') E s := by
  have at0 : (s.heap.push (seqObj "list" vs.toArray 0)).get? s.heap.objs.size = some (seqObj "list" vs.toArray 0) := Heap.get?_push_size _ rfl
  refine wpAny_bind (wpAny_newList ?_ hz)
  refine wpAny_bind (wpAny_holding (wpAny_call_entry slot_list_sort ⟨_, at0, rfl⟩ entry_list_sort (list_sort_treeKAny strKind_oneLt (s := { s with heap := s.heap.push (seqObj "list" vs.toArray 0) }) at0 hS.keysOf
    (fun _ _ _ e => keyKind_strs (by rw [← e]; exact hS)) hz fun st' hp hs => ⟨_, rfl, ?_⟩) (args_list_sort _)))
  obtain ⟨ys, g1, g2, g3⟩ := sorted_out_str hS hp hs
  obtain ⟨ep, ha⟩ := sortedHeap_at (vs := vs) (out := (arrOf st').map (·.2)) at0
  have hl : (ys.map V.str).length ≤ sizeLine := by
    rw [List.length_map, g2.length_eq, ← StrsAre.length hS]; exact hz
  refine wpAny_pure ⟨_, rfl, .ref s.heap.objs.size, upd H s.heap.objs.size (.lst (ys.map V.str)), ?_, rfl, q ys _ g2 g3 (I.hok.fresh (Nat.le_refl _))⟩
  refine I.laid (t' := s.toks) (fun b u e => ?_) (Nat.le_refl _) (show ObjOk X.prog X.w _ _ _ (.lst (ys.map V.str)) from ⟨hl, ((arrOf st').map (·.2)).toList, ep, vals_of_strs g1, by rw [Array.toArray_toList]; exact ha⟩)
  have lt := Heap.lt_size e
  rw [sortedHeap_old (Nat.ne_of_lt lt) (by rw [size_push']; exact Nat.lt_succ_of_lt lt)]
  exact Heap.get?_push_of_some _ e

/-- sorted(xs), a list of texts -/
def rSortL (K : PySem.W.Frag) : List V → Hp → VK → Prop := fun vs H Q => ∃ (a : Addr) (zs : List Str), vs = [V.ref a] ∧ SqL K H a (zs.map V.str) ∧
  ∀ ys p, ys.Perm zs → sortedS ys = true → H p = none → Q (.ref p) (upd H p (.lst (ys.map V.str)))
theorem cr_sortL : CallR X (.builtin "sorted") (rSortL X.K) := by
  intro pins s σ H vs us Q I r h
  obtain ⟨a, zs, rfl, hs, q⟩ := h
  obtain ⟨its, rv, hl, hz⟩ := I.list hs
  rw [Vals.ref1 r]
  have e0 := rv.length
  rw [List.length_map] at e0 hz
  refine sorted_strsAny hl.isList rv.strs (by rw [← e0]; exact hz) fun out ys h1 h2 h3 => ?_
  obtain ⟨ep, he⟩ := sortedAll_at s.heap its out
  have hn : (ys.map V.str).length ≤ sizeLine := by rw [List.length_map, h2.length_eq]; exact hz
  exact ⟨.ref _, upd H (s.heap.objs.size + 1) (.lst (ys.map V.str)), I.laid (t' := s.toks) (fun _ _ => sortedAll_old) (Nat.le_succ _) ⟨hn, out.toList, ep, vals_of_strs h1, he⟩, rfl, q ys _ h2 h3 (I.hok.fresh (Nat.le_succ _))⟩

/-- sorted(d), a dict with text keys -/
def rSortD : List V → Hp → VK → Prop := fun vs H Q => ∃ (a : Addr) (kvs : List (Key × V)) (ks : List Str), vs = [V.ref a] ∧ Rd H a (.dK kvs) ∧ kvs.map (·.1) = ks.map Sum.inr ∧
  ∀ ys p, ys.Perm ks → sortedS ys = true → H p = none → Q (.ref p) (upd H p (.lst (ys.map V.str)))
theorem cr_sortD (hc : X.calm = true) : CallR X (.builtin "sorted") rSortD := by
  intro pins s σ H vs us Q I r h
  obtain ⟨a, kvs, ks, rfl, hd, hks, q⟩ := h
  rw [Vals.ref1 r]
  obtain ⟨z, lo, ws, rel, dd⟩ := dk_rd I.hok hd
  obtain ⟨ep, hat⟩ := dd.dictAt
  have hw : ws.map (·.1) = ks.map Sum.inr := rel.keys.symm.trans hks
  have hl : ws.length = ks.length := by
    have e := congrArg List.length hw
    rwa [List.length_map, List.length_map] at e
  have h16 : ws.length ≤ sizeLine := by rw [← rel.length]; exact z
  refine Calls.call_function_entry kind_sorted plain_sorted entry_sorted (args_sorted1 _) ?_
  unfold Builtin.«sorted»
  refine wpAny_bind (m := checkCount "sorted" 1 1 _) (wpAny_pure ?_)
  refine wpAny_bind (PySem.W.kdu_collect (A := X.A.in1) (PySem.W.kdl_dict (knd := mixKind X.prog X.w) (kvs := ws) (ep := ep) lo) (I.ok.hd hc) hat h16 fun h' tk acc hk hacc => ?_)
  have hal : acc.toList.length = ks.length := by rw [Array.length_toList, hacc.1, hl]
  have hS : StrsAre acc.toList ks := L2.strs_at hal fun j v e => by
    obtain ⟨k, x, e1, e2⟩ := hacc.2 j v (by rwa [← Array.getElem?_toList])
    have e3 : (ks.map Sum.inr)[j]? = some k := by rw [← hw, List.getElem?_map, e1] <;> rfl
    rw [List.getElem?_map] at e3
    cases e4 : ks[j]? with
    | none => rw [e4] at e3; cases e3
    | some y =>
      rw [e4] at e3
      cases (Option.some.inj e3 : Sum.inr y = k)
      obtain ⟨t, ev⟩ := Value.isStrOf_shape (x := y) (v := v) e2
      exact ⟨y, t, rfl, ev⟩
  exact sortTail (s := { s with heap := h', toks := tk }) (I.kept hk) hS (by rw [hal, ← hl]; exact h16) q
end

/-! ### a set of texts -/
/-- the texts ks stand in the set at a, each once; it can be walked -/
def SetS (w : World) (h : Heap) (a : Addr) (ks : List Str) : Prop :=
  ∃ o es ep t, h.get? a = some o ∧ o.ExactSet ∧ o.data = .set es ep t ∧ (∀ e ∈ es.toList, ∃ x tk, e = (hashStr w x, Value.str x tk)) ∧
    (es.toList.map fun e => strOf e.2).Perm ks ∧ ks.Nodup ∧ es.size < scanBound ∧ t.fits es.size = true ∧ Ris t.place.toList ∧ (w.params.followText "set-order" = true ∨ t.led = true)
section
variable {P : Program} {w : World} {h h' : Heap} {a : Addr} {ks : List Str}
theorem SetS.keep (R : SetS w h a ks) (k : ∀ o, h.get? a = some o → h'.get? a = some o) : SetS w h' a ks := by
  obtain ⟨o, es, ep, t, ho, r⟩ := R
  exact ⟨o, es, ep, t, k o ho, r⟩
theorem elems_of {l : List (Int × Value)} (g : ∀ e ∈ l, ∃ x tk, e = (hashStr w x, Value.str x tk)) : ElemsOf (PySem.strKind P w) l := fun e he => by
  obtain ⟨x, tk, rfl⟩ := g e he
  exact ⟨⟨x, strKind_is P w x tk, rfl⟩, rfl⟩
theorem key_there {l : List (Int × Value)} (g : ∀ e ∈ l, ∃ x tk, e = (hashStr w x, Value.str x tk)) (x : Str) : (∃ e ∈ l, (PySem.strKind P w).is x e.2 = true) ↔ x ∈ l.map fun e => strOf e.2 := by
  rw [List.mem_map]
  refine ⟨fun ⟨e, he, q⟩ => ⟨e, he, ?_⟩, fun ⟨e, he, q⟩ => ⟨e, he, ?_⟩⟩ <;> obtain ⟨y, tk, rfl⟩ := g e he
  · exact (of_decide_eq_true (p := y = x) (by simpa [PySem.strKind, Value.isStrOf] using q))
  · have q' : y = x := q
    subst q'
    exact strKind_is P w y tk

/-- what is stored behind an adding, at one go or with the table laid anew -/
theorem setS_store {P : Program} {A : Around} {E : Value → Shared → Prop} {s : Shared} {o : Obj} {es es1 : Array (Int × Value)} {ep : Nat} {t t2 : SetTable} {dm : Bool} {R : Option Bool → Shared → Prop} {g : Bool → Sem Unit}
    (hg : ∀ (b : Bool) (s1 : Shared) (Q' : Unit → Shared → Prop), Q' () s1 → wpAny (model P w) A (g b) Q' E s1)
    (ho : s.heap.get? a = some o) (hex : o.ExactSet) (hd : o.data = .set es ep t) (g1 : ∀ e ∈ es1.toList, ∃ x tk, e = (hashStr w x, Value.str x tk)) (pk : (es1.toList.map fun e => strOf e.2).Perm ks) (nd : ks.Nodup)
    (hb : es1.size < scanBound) (hf : t2.fits es1.size = true) (hr : Ris t2.place.toList) (hl : w.params.followText "set-order" = true ∨ t2.led = true)
    (fin : ∀ h', Heap.SameBut a s.heap h' → SetS w h' a ks → R (some true) { s with heap := h' }) :
    wpAny (model P w) A (do
        storeSet a es1 t2
        if (!dm && t2.tooFull) = true then do
          let z := relayAll t2 es1 (SetTable.grown es1.size)
          g z.2.2; storeSet a z.1 z.2.1; pure (some true)
        else pure (some true)) R E s := by
  have o1 := store_at (es' := es1) (t' := t2) ho hd
  have k1 := Heap.SameBut.update s.heap a (Obj.putSet es1 t2)
  refine wpAny_bind (wpAny_storeSet_of ho hd ?_ (fits_of_scanBound hb))
  by_cases c : (!dm && t2.tooFull) = true
  · rw [if_pos c]
    have e1 := relayAll_perm t2 es1 (SetTable.grown es1.size)
    have e2 := relayAll_fits t2 es1 (SetTable.grown es1.size)
    have e3 := relayAll_ris t2 es1 (SetTable.grown es1.size)
    have e4 := relayAll_led t2 es1 (SetTable.grown es1.size)
    generalize relayAll t2 es1 (SetTable.grown es1.size) = Z at e1 e2 e3 e4 ⊢
    have e5 : Z.1.size = es1.size := by rw [← Array.length_toList, e1.length_eq, Array.length_toList]
    have b2 : Z.1.size < scanBound := by rw [e5]; exact hb
    refine wpAny_bind (hg _ _ _ (wpAny_bind (wpAny_storeSet_of o1 rfl (wpAny_pure (fin _ (k1.trans (Heap.SameBut.update _ a _)) ?_)) (fits_of_scanBound b2))))
    exact ⟨_, Z.1, _, Z.2.1, store_at (es' := Z.1) (t' := Z.2.1) o1 rfl, hex, rfl, fun e he => g1 e (e1.mem_iff.mp he), (e1.map _).trans pk, nd, b2, e2, e3, hl.imp id (by rw [e4]; exact id)⟩
  · rw [if_neg c]
    exact wpAny_pure (fin _ k1 ⟨_, es1, _, t2, o1, hex, rfl, g1, pk, nd, hb, hf, hr, hl⟩)

theorem setS_add {P : Program} {A : Around} {E : Value → Shared → Prop} {s : Shared} {x : Str} {tk : Tok} {Q : Bool → Shared → Prop} (R : SetS w s.heap a ks) (room : ks.length + 1 < scanBound)
    (hQ : ∀ h' b, Heap.SameBut a s.heap h' → SetS w h' a (if x ∈ ks then ks else x :: ks) → Q b { s with heap := h' }) :
    wpAny (model P w) A (setAddHashed a (.str x tk) ((PySem.strKind P w).hash x)) Q E s := by
  obtain ⟨o, es, ep, t, ho, hex, hd, g, pk, nd, hb, hf, hr, hl⟩ := R
  have hkey : (PySem.strKind P w).is x (.str x tk) = true := strKind_is P w x tk
  have hsc : (Value.str x tk).scannable = true := rfl
  have hel : ElemsOf (PySem.strKind P w) es.toList := elems_of g
  have hn : es.size = ks.length := by
    have e := pk.length_eq
    rwa [List.length_map, Array.length_toList] at e
  unfold setAddHashed setAddHashedIn
  refine wpAny_holding (wpAny_bind (wpAny_setState_of ho hd hf ?_))
  dsimp only
  rw [byScan_of hsc hb hel, if_pos rfl]
  unfold setAddByScan
  refine wpAny_bind (wpAny_bind (wpAny_rule (wpAny_bind (wpAny_setScan_of hkey ho hd hf hel ?_))))
  cases hfi : List.findIdx? (fun e => (PySem.strKind P w).is x e.2) es.toList with
  | some j =>
    dsimp only
    obtain ⟨hj, pj, _⟩ := List.findIdx?_eq_some_iff_getElem.mp hfi
    have hx : x ∈ ks := pk.mem_iff.mp ((key_there (P := P) g x).mp ⟨_, List.getElem_mem hj, pj⟩)
    refine wpAny_pure (wpAny_pure (hQ s.heap false (Heap.SameBut.refl a s.heap) ?_))
    rw [if_pos hx]
    exact ⟨o, es, ep, t, ho, hex, hd, g, pk, nd, hb, hf, hr, hl⟩
  | none =>
    dsimp only
    have hx : x ∉ ks := fun z => by
      obtain ⟨e, he, q⟩ := (key_there (P := P) g x).mpr (pk.mem_iff.mpr z)
      have c := List.findIdx?_eq_none_iff.mp hfi e he
      rw [q] at c
      cases c
    have quiet : ∀ (b : Bool) {s1 : Shared} {Q' : Unit → Shared → Prop}, Q' () s1 → wpAny (model P w) A (match b with | true => rule "set.scan.the-table-gave-way" | false => pure ()) Q' E s1 := by
      intro b s1 Q' q
      cases b
      · exact wpAny_pure q
      · exact wpAny_rule q
    have p1 := layNew_perm t es ((PySem.strKind P w).hash x) (.str x tk)
    have f1 := layNew_fits t es ((PySem.strKind P w).hash x) (.str x tk)
    have r1 := layNew_ris t es ((PySem.strKind P w).hash x) (.str x tk) hr
    have l1 := layNew_led t es ((PySem.strKind P w).hash x) (.str x tk)
    generalize layNew t es ((PySem.strKind P w).hash x) (.str x tk) = Z at p1 f1 r1 l1 ⊢
    obtain ⟨es1, t1, dm, gave⟩ := Z
    dsimp only at p1 f1 r1 l1 ⊢
    rw [Array.toList_push] at p1
    have p2 : es1.toList.Perm ((hashStr w x, Value.str x tk) :: es.toList) := p1.trans (List.perm_append_singleton _ _)
    have p3 : (es1.toList.map fun e => strOf e.2).Perm (x :: ks) := by
      have e := p2.map fun e : Int × Value => strOf e.2
      exact e.trans (pk.cons x)
    have g1 : ∀ e ∈ es1.toList, ∃ x tk, e = (hashStr w x, Value.str x tk) := fun e he =>
      (List.mem_cons.mp (p2.mem_iff.mp he)).elim (fun z => ⟨x, tk, z⟩) (g e)
    have z1 : es1.size = ks.length + 1 := by rw [← Array.length_toList, p2.length_eq, List.length_cons, Array.length_toList, hn]
    have led : w.params.followText "set-order" = true ∨ t1.led = true := hl.imp id (by rw [l1]; exact id)
    have fin : ∀ h', Heap.SameBut a s.heap h' → SetS w h' a (x :: ks) → Q true { s with heap := h' } := fun h' sb r => hQ h' true sb (by rw [if_neg hx]; exact r)
    have nd1 : (x :: ks).Nodup := List.nodup_cons.mpr ⟨hx, nd⟩
    refine wpAny_bind (quiet _ ?_)
    have hs1 : es1.size < scanBound := by rw [z1]; exact room
    split
    · refine wpAny_bind ?_
      rw [hashByValue_scannable 8 hsc]
      refine wpAny_pure (setS_store (g := fun b => match b with | true => rule "set.scan.the-table-gave-way" | false => pure ()) (fun b s1 Q' q => quiet b q) ho hex hd g1 p3 nd1 hs1 ?_ ?_ ?_ fun h' sb r => wpAny_pure (fin h' sb r))
      all_goals (first | (split <;> first | exact f1 | exact SetTable.fits_plain_off f1 | exact r1 | exact led) | exact f1 | exact r1 | exact led)
    · refine wpAny_bind (wpAny_pure ?_)
      exact setS_store (g := fun b => match b with | true => rule "set.scan.the-table-gave-way" | false => pure ()) (fun b s1 Q' q => quiet b q) ho hex hd g1 p3 nd1 hs1 f1 r1 led fun h' sb r => wpAny_pure (fin h' sb r)
end
end Tx

set_option Elab.async false
set_option linter.all false
set_option maxRecDepth 100000
set_option maxHeartbeats 4000000
namespace Tx
open PySem PySem.Spec PyProof.Rows L2

/-- ks are the texts of the first i items, each once -/
def FirstOf (xs : List Str) (i : Nat) (ks : List Str) : Prop := ks.length ≤ i ∧ ks.Nodup ∧ ∀ x, x ∈ ks ↔ x ∈ xs.take i
theorem FirstOf.next {xs ks : List Str} {i : Nat} {x : Str} (f : FirstOf xs i ks) (h : xs[i]? = some x) : FirstOf xs (i + 1) (if x ∈ ks then ks else x :: ks) := by
  obtain ⟨f1, f2, f3⟩ := f
  have e : xs.take (i + 1) = xs.take i ++ [x] := by rw [List.take_add_one, h] <;> rfl
  by_cases c : x ∈ ks
  · rw [if_pos c]
    refine ⟨by omega, f2, fun y => ?_⟩
    rw [e, List.mem_append, ← f3 y, List.mem_singleton]
    exact ⟨.inl, fun z => z.elim id fun z => z ▸ c⟩
  · rw [if_neg c]
    refine ⟨by rw [List.length_cons]; omega, List.nodup_cons.mpr ⟨c, f2⟩, fun y => ?_⟩
    rw [e, List.mem_append, ← f3 y, List.mem_singleton, List.mem_cons]
    exact Or.comm

section
variable {P : Program} {w : World} {A : Around} {E : Value → Shared → Prop}
theorem setS_update {I S : Addr} {fp wr : List Addr} {G : Array GenState → Array GenState → Prop} {n : Nat} {Pv : Nat → Value → Prop} {St : Nat → Shared → Prop} {R : Result → Shared → Prop} {xs : List Str}
    (W : WalksS P w A.in1 I fp wr G n Pv St) (hS : S ∉ fp) (hn : n = xs.length) (hb : n + 1 < scanBound) (hv : ∀ i v, Pv i v → ∃ x t, xs[i]? = some x ∧ v = .str x t) :
    ∀ (m i : Nat) (s : Shared) (ks : List Str), n - i = m → i ≤ n → St i s → FirstOf xs i ks → SetS w s.heap S ks →
      (∀ s' ks', Moved (S :: wr) G s s' → FirstOf xs n ks' → SetS w s'.heap S ks' → R (.ok (.ret .none)) s') →
      codeAny (model P w) A (.builtin "set.update.loop" ⟨[.ref S, .ref I], []⟩) R s := by
  have hw : S ∉ wr := fun z => hS (W.sub _ z)
  have up : ∀ b ∈ wr, b ∈ S :: wr := fun b z => List.mem_cons_of_mem _ z
  intro m
  induction m with
  | zero =>
    intro i s ks e1 e2 st f hk q
    obtain rfl : i = n := by omega
    refine codeAny_builtin F.entry_set_update_loop ?_
    rw [Around.under_plainId F.plain_set_update_loop _]
    refine wpAny_bind (m := pyNext (.ref I)) (W.done s _ _ st fun s' mv => ?_)
    exact wpAny_pure (q s' ks (mv.mono up) f (hk.keep fun o z => mv.heap S o hw z))
  | succ m ih =>
    intro i s ks e1 e2 st f hk q
    have lt : i < n := by omega
    refine codeAny_builtin F.entry_set_update_loop ?_
    rw [Around.under_plainId F.plain_set_update_loop _]
    refine wpAny_bind (m := pyNext (.ref I)) (W.item i s _ _ lt st fun v s' pv st' mv => ?_)
    obtain ⟨x, t, hx, rfl⟩ := hv i v pv
    have hk' : SetS w s'.heap S ks := hk.keep fun o z => mv.heap S o hw z
    refine wpAny_bind (m := holding [Value.str x t] (setAdd S (.str x t))) (wpAny_holding ?_)
    unfold setAdd
    refine wpAny_holding (wpAny_bind ((PySem.strKind P w).pyHash (k := x) (strKind_is _ _ _ _) ?_))
    refine setS_add (s := { s' with toks := s'.toks + 1 }) hk' (by have := f.1; omega) fun h' b sb hk2 => ?_
    refine wpAny_pure ⟨plainId_quiet F.plain_set_update_loop _, ih (i + 1) _ _ (by omega) lt (W.frame _ s' _ _ st' (Nat.le_succ _) fun c hc o z => ?_) (f.next hx) hk2 fun s2 ks2 mv2 f2 hk3 => ?_⟩
    · rw [sb.2 c fun z' : c = S => hS (z' ▸ hc)]; exact z
    · refine q s2 ks2 (Moved.trans W.gtrans ((mv.mono up).then_heap (Nat.le_succ _) fun c o hc z => ?_) mv2) f2 hk3
      rw [sb.2 c fun z' : c = S => hc (by rw [z']; exact List.mem_cons_self)]; exact z

def freshSet (w : World) : Obj := { cls := .type "set", dict := none, data := .set #[] 0 (.fresh 0 0 (!w.params.followText "set-order")) }
theorem fresh_ok {h : Heap} {a : Addr} (e : h.get? a = some (freshSet w)) : SetS w h a [] :=
  ⟨_, #[], 0, _, e, ⟨rfl, rfl, rfl⟩, rfl, fun e z => by simp at z, List.Perm.refl _, List.nodup_nil, by decide, rfl, List.Pairwise.nil, by
    show _ ∨ (!w.params.followText "set-order") = true
    cases w.params.followText "set-order"
    · exact .inr rfl
    · exact .inl rfl⟩

set_option maxHeartbeats 6400000 in
theorem call_setS {s : Shared} {l : Addr} {items : Array Value} {xs : List Str} {Q : Value → Shared → Prop} (hh : A.handled = none) (hl : s.heap.IsList l items) (hi : StrsAre items.toList xs) (hb : xs.length + 1 < scanBound)
    (h : ∀ h' tk ks, FirstOf xs xs.length ks → SetS w h' s.heap.objs.size ks → (∀ b o, s.heap.get? b = some o → h'.get? b = some o) → Q (.ref s.heap.objs.size) { s with heap := h', toks := tk }) :
    wpAny (model P w) A (call (.type "set") [.ref l]) Q E s := by
  have hsz : xs.length = items.size := by rw [← StrsAre.len_eq hi, Array.length_toList]
  obtain ⟨c, tl, hmro⟩ := F.called_set.mro
  have hmade := F.called_set.made
  have hsub := F.called_set.sub
  refine wpAny_call (codeAny_of_tree (show wpAny _ _ (callAny (.type "set") _) _ _ _ from ?_))
  refine wpAny_pure ⟨Code.quiet_builtin _ (by decide +kernel), codeAny_builtin F.entry_type_call ?_⟩
  rw [Around.under_plain (weight_type_call_type "set" [.ref l] []) rfl]
  have h1 := F.called_set.notType
  have h2 := F.called_set.canCreate
  have hct := F.typeCall_set_1 (.ref l)
  repeat (any_goals (first | assumption | wp_step))
  refine codeAny_mono (code_set_led1 (.ref l) (E := E) (Q₁ := fun obj s1 => obj = .ref s.heap.objs.size ∧ s1 = { s with heap := s.heap.push (freshSet w) }) ⟨rfl, rfl⟩) fun r s1 hr => ?_
  rcases r with e | fl
  · exact hr
  · rcases fl with obj | _ | _ | _
    all_goals first | exact hr.elim | skip
    obtain ⟨rfl, rfl⟩ := hr
    have at0 : (s.heap.push (freshSet w)).get? s.heap.objs.size = some (freshSet w) := Heap.get?_push_size _ rfl
    have hT : Shared.TypeIs { s with heap := s.heap.push (freshSet w) } (.ref s.heap.objs.size) "set" := ⟨_, at0, rfl⟩
    have hli := F.called_set.init.lookup
    have hbi := F.called_set.init.bind (.ref s.heap.objs.size)
    repeat (any_goals (first | assumption | wp_step))
    refine codeAny_mono (codeAny_call_builtin (R := wants (fun r s2 => r = .none ∧ ∃ h' tk ks, s2 = { s with heap := h', toks := tk } ∧ FirstOf xs xs.length ks ∧ SetS w h' s.heap.objs.size ks ∧
      ∀ b o, s.heap.get? b = some o → h'.get? b = some o) E) F.called_set.init.plain F.entry_set_init (check_set_init_1 hT ?_)) fun r2 s2 hr2 => ?_
    · obtain ⟨⟨oc, od, oa, os⟩, hol, hcl, nl, hdl⟩ := hl
      simp only at hcl hdl
      subst hcl; subst hdl
      have lt := Heap.lt_size hol
      have hol' : (s.heap.push (freshSet w)).get? l = some { cls := .type "list", dict := od, data := .seq items nl, slots := os } := Heap.get?_push_of_some _ hol
      have hl1 : (s.heap.push (freshSet w)).IsList l items := ⟨_, hol', rfl, nl, rfl⟩
      have f1 := F.sub_list_set
      have f2 := F.sub_list_frozenset
      have f3 : (Value.type "list" == Value.type "dict") = false := by decide
      unfold Builtin.«set.__init__» noKeywords Builtin.Frozenset.updateFrom
      generalize hPI : pyIter = PI
      wp_walk
      subst hPI
      refine wpAny_pyIter_list hl1 (wpAny_bind (wpAny_runValue ?_))
      have hh3 : A.in1.in1.in1.handled = none := by simp [hh]
      have sz : (s.heap.push (freshSet w)).objs.size = s.heap.objs.size + 1 := Heap.size_push ..
      have neI : l ≠ (s.heap.push (freshSet w)).objs.size := by rw [sz]; exact Nat.ne_of_lt (Nat.lt_succ_of_lt lt)
      have nS : s.heap.objs.size ∉ [(s.heap.push (freshSet w)).objs.size, l] := by
        rw [sz]
        simp only [List.mem_cons, List.mem_singleton, List.not_mem_nil, or_false, not_or]
        exact ⟨Nat.ne_of_lt (Nat.lt_succ_self _), Nat.ne_of_gt lt⟩
      have hv : ∀ (i : Nat) (v : Value), items[i]? = some v → ∃ x t, xs[i]? = some x ∧ v = .str x t := fun i v z => by
        have lti : i < xs.length := by rw [hsz]; exact (Array.getElem?_eq_some_iff.mp z).1
        obtain ⟨t, e⟩ := SS.strs_at hi i v (by rw [Array.getElem?_toList]; exact z)
        refine ⟨xs[i], t, List.getElem?_eq_getElem lti, ?_⟩
        rw [e, List.getD_eq_getElem?_getD, List.getElem?_eq_getElem lti] <;> rfl
      refine setS_update ((Walks.list hh3 _ l neI items).toS) nS hsz.symm (by rw [← hsz]; exact hb) hv items.size 0 _ [] (Nat.sub_zero _) (Nat.zero_le _)
        ⟨⟨_, Heap.get?_push_size _ rfl, rfl, rfl⟩, hl1.push _⟩ ⟨Nat.le_refl _, List.nodup_nil, fun x => by rw [List.take_zero]⟩ (fresh_ok (Heap.get?_push_of_some _ at0)) fun s3 ks mv fo hk => ?_
      obtain ⟨h3, g3, d3, t3, o3⟩ := s3
      obtain rfl : g3 = s.gens := mv.gens
      obtain rfl : d3 = s.drawn := mv.drawn
      obtain rfl : o3 = s.os := mv.os
      rw [← hsz] at fo
      refine wpAny_pure (wpAny_pure (a := Fin.done (.ret Value.none)) ⟨rfl, h3, t3, ks, rfl, fo, hk, fun b o e => ?_⟩)
      have lb := Heap.lt_size e
      refine mv.heap b o ?_ (Heap.get?_push_of_some _ (Heap.get?_push_of_some _ e))
      rw [sz]
      simp only [List.mem_cons, List.mem_singleton, List.not_mem_nil, or_false, not_or]
      exact ⟨Nat.ne_of_lt lb, Nat.ne_of_lt (Nat.lt_succ_of_lt lb)⟩
    · rcases r2 with e | fl
      · exact hr2
      · rcases fl with r | _ | _ | _
        all_goals first | exact hr2.elim | skip
        obtain ⟨rfl, h', tk, ks, rfl, fo, hk, kp⟩ := hr2
        repeat (any_goals (first | assumption | wp_step))
        exact h _ _ _ fo hk kp
end
end Tx

set_option Elab.async false
set_option linter.all false
set_option maxRecDepth 100000
set_option maxHeartbeats 4000000
namespace Tx
open PySem PySem.Spec PyProof.Rows L2
/-- the set of the texts ks at a -/
def SetSO (w : World) (a : Addr) (ks : List Str) : HO := .ext fun h => SetS w h a ks
section
variable {X : Cx} {pins : List (Addr × Obj)} {σ : L2.St} {H : Hp}
theorem setSO_new {w : World} {P : Program} {h : Heap} {a : Addr} {ks : List Str} (R : SetS w h a ks) : ObjOk P w H h a (SetSO w a ks) := by
  have ⟨o, _, _, _, e, _⟩ := R
  exact ⟨R, ⟨o, e⟩, fun _ _ r k => r.keep k⟩
theorem setSO_get {s : Shared} {a : Addr} {ks : List Str} (I : Inv X pins σ H s) (e : H a = some (SetSO X.w a ks)) : SetS X.w s.heap a ks := (I.hok a _ e).1
/-- set(xs), a list of texts -/
def rSetS (K : PySem.W.Frag) (w : World) : List V → Hp → VK → Prop := fun vs H Q => ∃ (l : Addr) (xs : List Str), vs = [V.ref l] ∧ SqL K H l (xs.map V.str) ∧ xs.length < 4000 ∧
  ∀ p ks, FirstOf xs xs.length ks → H p = none → Q (.ref p) (upd H p (SetSO w p ks))
theorem cr_setS (hc : X.calm = true) : CallR X (.type "set") (rSetS X.K X.w) := by
  intro pins s σ H vs us Q I r h
  obtain ⟨l, xs, rfl, hs, hb, q⟩ := h
  rw [Vals.ref1 r]
  obtain ⟨its, rv, pl, hz⟩ := I.list hs
  refine call_setS (I.ok.hd hc) pl.isList (by simpa using rv.strs) (by unfold scanBound; omega) fun h' tk ks fo hk kp => ?_
  exact ⟨.ref s.heap.objs.size, upd H s.heap.objs.size (SetSO X.w s.heap.objs.size ks), I.laid (t' := tk) kp (Nat.le_refl _) (setSO_new hk), rfl, q _ ks fo (I.hok.fresh (Nat.le_refl _))⟩
/-- sorted(found), a set of texts -/
def rSortSet (w : World) : List V → Hp → VK → Prop := fun vs H Q => ∃ (a : Addr) (ks : List Str), vs = [V.ref a] ∧ H a = some (SetSO w a ks) ∧
  ∀ ys p, ys.Perm ks → sortedS ys = true → H p = none → Q (.ref p) (upd H p (.lst (ys.map V.str)))
theorem cr_sortSet (hc : X.calm = true) : CallR X (.builtin "sorted") (rSortSet X.w) := by
  intro pins s σ H vs us Q I r h
  obtain ⟨a, ks, rfl, ha, q⟩ := h
  rw [Vals.ref1 r]
  obtain ⟨o, es, ep, t, ho, hex, hd, g, pk, nd, hb, hf, hr, hl⟩ := setSO_get I ha
  refine Calls.call_function_entry kind_sorted plain_sorted entry_sorted (args_sorted1 _) ?_
  unfold Builtin.«sorted»
  refine wpAny_bind (m := checkCount "sorted" 1 1 _) (wpAny_pure ?_)
  refine wpAny_bind (collect_set (A := X.A.in1) (I.ok.hd hc) ⟨o, ho, hex.1, hd⟩ hf hb hr hl fun s' out kp hz hg hos pm => ?_)
  have hS : StrsAre out (out.map strOf) := strsAre_map out fun v hv => by
    obtain ⟨e, he, rfl⟩ := List.mem_map.mp (pm.mem_iff.mp hv)
    obtain ⟨x, tk, rfl⟩ := g e he
    exact ⟨x, tk, rfl⟩
  have p2 : (out.map strOf).Perm ks := by
    have e := pm.map strOf
    rw [List.map_map] at e
    exact e.trans pk
  have J : Inv X pins σ H { s with heap := s'.heap, gens := s'.gens, drawn := s'.drawn, toks := s'.toks } :=
    I.call (ch := []) (Un.kept kp) (I.hok.kept kp) (by rw [hg]; exact I.bare) (fun _ z => nomatch z)
  have e : s' = { s with heap := s'.heap, gens := s'.gens, drawn := s'.drawn, toks := s'.toks } := by
    obtain ⟨⟩ := s'
    obtain ⟨⟩ := s
    cases hos
    rfl
  rw [e]
  refine sortTail J hS ?_ fun ys p y1 y2 y3 => q ys p (y1.trans p2) y2 y3
  rw [pm.length_eq, List.length_map, Array.length_toList]
  exact fits_of_scanBound hb
end
end Tx

set_option Elab.async false
set_option linter.all false
set_option maxRecDepth 100000
namespace Tx
open PySem PySem.Spec PyProof.Rows L2
/-- the def st stands at the module's name x -/
def Top (K : PySem.W.Frag) (mg : Str → Option Value) (x : Str) (st : Stmt) : Prop := ∃ f fd, mg x = some (.ref f) ∧ Fun K x x st f fd
theorem top_mk {K : PySem.W.Frag} {h : Heap} {mg : Str → Option Value} {x : Str} {st : Stmt} {f : Addr} {oc kV doc pm cdv ct : Value} {od an : Option Addr} {osl : Array (Option Value)} (X : K.In h) (G : h.Ns mainGlobals mg)
    (a : PySem.W.nsIn K mainGlobals x = some (some (.ref f))) (l : K.lookup f = some ⟨oc, od, .func (PySem.W.fnOf x x (defArgs st) (defBody st) (defScope st) .none kV doc pm an cdv ct), osl⟩)
    (c : PySem.W.codeIn K cdv x = true) (k : PySem.W.keepIn K (.ref f) = true) : Top K mg x st := ⟨f, _, PySem.W.mg_of X G a, fun_mk l c k⟩
/-- and keeps its promise -/
structure Dn (P : Program) (w : World) (K : PySem.W.Frag) (mg : Str → Option Value) (base : Heap) (k : Nat) (x : Str) (st : Stmt) (ps : List Str) (sp : Sp) : Prop where
  ex : ∃ f fd, mg x = some (.ref f) ∧ Fun K x x st f fd ∧ FnOk P w K mg base CX0 k f fd ps sp
  plain : ∀ (kV doc pm : Value) (an : Option Addr) (cdv ct : Value) (us : List Value), us.length = ps.length → bindArgs (PySem.W.fnOf x x (defArgs st) (defBody st) (defScope st) .none kV doc pm an cdv ct) ⟨us, []⟩ = pure (ps.zip us)
section
variable {X : Cx} {k : Nat} {x : Str} {st : Stmt} {ps : List Str} {sp : Sp} {p pos : Pos} {e : Expr} {es : List Expr} {t : TA}
theorem pe_fn (D : Dn X.prog X.w X.K X.mg X.base k x st ps sp) (hr : Room k X.A) (hg : Gl X x) (ha : PA X (e :: es) t) (hdb : (x == ("__debug__" : Str)) = false := by decide)
    (he : starEach (e :: es) X.env = (false, eval e X.env) :: starEach es X.env := by rfl) (hpl : (backTo pos (starEach es X.env)).any (·.1) = false := by rfl) : PE X (.Call (.Name x p) (e :: es) [] pos) (tCall sp [] E0 t) := by
  obtain ⟨f, fd, hm, F, G⟩ := D.ex
  exact pe_call G hr hg hm F.kp (F.binds D.plain) .nil pass0 ha hdb he hpl
variable {kws : List Keyword} {ks : List Str} {g : List Value → List Value → List Value} {gV : List V → List V → List V} {tk : TA}
/-- f(k = v, ..), keywords alone -/
theorem pe_fnK (D : Dn X.prog X.w X.K X.mg X.base k x st ps sp) (hr : Room k X.A) (hg : Gl X x) (hkw : PK X kws tk)
    (hb : ∀ fd, (∃ kV doc pm an cdv ct, fd = PySem.W.fnOf x x (defArgs st) (defBody st) (defScope st) .none kV doc pm an cdv ct) → KBinds X.K fd ps ks g gV)
    (hall : (backToKw pos (keywordEach kws X.env)).all (·.1.isSome) = true := by rfl) (hks : (backToKw pos (keywordEach kws X.env)).filterMap (·.1) = ks := by rfl) (hdb : (x == ("__debug__" : Str)) = false := by decide)
    (hpl : ((backTo pos (starEach [] X.env)).any (·.1) || (backToKw pos (keywordEach kws X.env)).any (·.1.isNone)) = false := by rfl) :
    PE X (.Call (.Name x p) [] kws pos) (tCallK sp gV E0 tNil tk) := by
  obtain ⟨f, fd, hm, F, G⟩ := D.ex
  obtain ⟨oc, od, kV, doc, pm, an, cdv, ct, osl, rfl, lk, hcd⟩ := id F.ex
  refine ⟨fun pins s σ H Q I h => wpAny_Call_Name_kw (ld_glob I hg hm ?_ hdb)⟩
  refine PySem.W.callWith_KW0 (h₀ := X.base) I.ok.mod.kin F.kp hall (thn (hkw.run pos pins s σ H _ I h) fun ws s2 ⟨zs, H2, I2, rz, q2⟩ => ⟨I2.kIn, ?_⟩) hpl
  rw [hks]
  exact run_fnk (us := []) (vs := []) G hr (hb _ ⟨kV, doc, pm, an, cdv, ct, rfl⟩) pass0 I2 .nil rz q2
end
theorem fold_rep (x : Array Nat) : ∀ (n : Nat) (acc : Array Nat), ((List.replicate n x).foldl (· ++ ·) acc).toList = acc.toList ++ (List.replicate n x.toList).flatten
  | 0, acc => by simp
  | n + 1, acc => by
    rw [List.replicate_succ, List.foldl_cons, fold_rep x n, List.replicate_succ, List.flatten_cons, Array.toList_append, List.append_assoc]
theorem mul_tl (z : Str) (n : Int) (h : 1 ≤ n) : Txt.mul z n = ⟨((List.replicate n.toNat z.cps.toList).flatten).toArray⟩ := by
  refine Str.ext' (Array.toList_inj.mp ?_)
  unfold Txt.mul
  rw [if_neg (by omega)]
  by_cases c : (n == 1 || z.length == 0) = true
  · rw [if_pos c]
    rcases Bool.or_eq_true_iff.mp c with e | e
    · have e : n = 1 := by simpa using e
      subst e
      simp
    · have e : z.cps.toList = [] := by
        have e : z.cps.size = 0 := by simpa [Str.length] using e
        simpa using e
      show z.cps.toList = _
      rw [e]
      simp
  · rw [if_neg c]
    show ((List.replicate n.toNat z.cps).foldl (· ++ ·) #[]).toList = _
    rw [fold_rep]
    simp
/-- text * number -/
theorem op_mulS {X : Cx} : OpR X (binaryOp .Mult) (fun x y H Q => ∃ z n, x = .str z ∧ y = .int n ∧ 1 ≤ n ∧ n ≤ 1000000 ∧ z.length * n.toNat ≤ 16000000 ∧ Q (.str ⟨((List.replicate n.toNat z.cps.toList).flatten).toArray⟩) H) := by
  intro pins s σ H x y u v Q I rx ry h
  obtain ⟨z, n, rfl, rfl, h1, h2, h3, q⟩ := h
  obtain ⟨t, rfl⟩ := rx
  obtain ⟨t', rfl⟩ := ry
  rw [← mul_tl z n h1] at q
  have b : z.length ≤ 16000000 := by
    have e : 1 ≤ n.toNat := by omega
    have := Nat.mul_le_mul_left z.length e
    omega
  refine SB.mul ⟨by simp; omega, fun _ _ hc => ?_, fun _ _ => ?_⟩ fun t' k => ⟨V.str (Txt.mul z n), H, I.tok _, ⟨_, rfl⟩, q⟩
  · have e : (16000000 : Int) ≤ (2 ^ 63 - 1) / n := by
      refine (Int.le_ediv_iff_mul_le (by omega)).mpr ?_
      omega
    omega
  · unfold Builtin.Str.tooLong
    refine decide_eq_false ?_
    have : sizeLine = 16777216 := sizeLine_eq
    omega
end Tx

set_option Elab.async false
set_option linter.all false
set_option maxRecDepth 100000
set_option maxHeartbeats 1000000
namespace Tx
open PySem PySem.Spec PyProof.Rows L2 TL
/-- how a def of plain parameters takes its arguments -/
abbrev PlainB (x : Str) (st : Stmt) (ps : List Str) : Prop := ∀ (kV doc pm : Value) (an : Option Addr) (cdv ct : Value) (us : List Value), us.length = ps.length → bindArgs (PySem.W.fnOf x x (defArgs st) (defBody st) (defScope st) .none kV doc pm an cdv ct) ⟨us, []⟩ = pure (ps.zip us)
section
variable {P : Program} {w : World} {K : PySem.W.Frag} {mg : Str → Option Value} {base : Heap}
/-- a def keeps its promise, by its body -/
theorem dn_of {x : Str} {st : Stmt} {N ps : List Str} {k : Nat} {sp : Sp} (T : Top K mg x st) (S : FnScope N ps (defScope st)) (pl : PlainB x st ps) (len : ∀ vs H Q E, sp vs H Q E → vs.length = ps.length)
    (body : ∀ (f : Addr) (cdv : Value) (A : Around) (outer : List Env) (s : Shared) (H : Hp) (vs : List V) (Q : VK) (E : XK), Room k (A.deeper (envOfC x (defScope st) s.heap.objs.size f cdv)) → sp vs H Q E →
      ∃ t, PSs (cxOf CX0 P w K mg base N x (defScope st) f cdv A outer s H E).nox (defBody st) t ∧ t { nx := fun _ H' => Q .non H', rt := Q } (start N vs) H) : Dn P w K mg base (k + 1) x st ps sp := by
  obtain ⟨f, fd, hm, F⟩ := T
  exact ⟨⟨f, fd, hm, F, F.ok S len fun cdv A outer s H vs Q E hr h => body f cdv A outer s H vs Q E hr h⟩, pl⟩
end
/-- the built-in names that the module's top leaves as they are -/
structure Bt (mg : Str → Option Value) : Prop where
  len : mg "len" = none
  isi : mg "isinstance" = none
  int : mg "int" = none
  str : mg "str" = none
  bool : mg "bool" = none
  list : mg "list" = none
  tuple : mg "tuple" = none
  set : mg "set" = none
  range : mg "range" = none
  sorted : mg "sorted" = none
  min : mg "min" = none
  max : mg "max" = none
  abs : mg "abs" = none
  all : mg "all" = none
  zip : mg "zip" = none
theorem same_upd {H : Hp} {p : Addr} {o : HO} (h : H p = none) : Same H (upd H p o) := fun b x e => by
  rw [upd_ne (ne_of_none e h)]; exact e
/-- what is new stays apart: a write to it keeps what was -/
theorem wr {H H' : Hp} {p : Addr} {o : HO} (s : Same H H') (h : H p = none) : Same H (upd H' p o) := fun b x e => by
  rw [upd_ne (ne_of_none e h)]; exact s b x e

theorem grown {A : Type} (f : Nat → A) (i : Nat) : (List.range i).map f ++ [f i] = (List.range (i + 1)).map f := by
  rw [List.range_succ, List.map_append]; rfl
theorem grown_len {A : Type} (f : Nat → A) {i n : Nat} (h : i < n) (hn : n ≤ 1000000) : ((List.range i).map f).length < sizeLine := by
  rw [List.length_map, List.length_range]
  exact Nat.lt_of_lt_of_le (Nat.lt_of_lt_of_le h hn) (by decide)
/-- a comprehension without a test -/
theorem lc_yes {te : TE} {σ : L2.St} {H : Hp} {Nx : VK} {B : Hp → Prop} (h : te σ H Nx) : tYes σ H (fun b H3 => if b = true then te σ H3 Nx else B H3) := by
  show (if true = true then te σ H Nx else B H)
  rw [if_pos rfl]
  exact h
/-- a comprehension over a text -/
theorem lc_text {z : Str} {g : TG} {tt : TT} {te : TE} {vs : List Nat} {σ : L2.St} {H1 : Hp} {D : Addr} {Qd : Hp → Prop} (Pv : Nat → Hp → Prop) (h0 : Pv 0 (upd H1 D (.lst [])))
    (hs : ∀ i c H, z.cps.toList[i]? = some c → Pv i H → g (.str ⟨#[c]⟩) (wipe σ vs) H fun σ2 H2 => wipe σ2 vs = wipe σ vs ∧ tt σ2 H2 fun b H3 =>
      if b = true then te σ2 H3 fun y H4 => ∃ acc, H4 D = some (.lst acc) ∧ acc.length < sizeLine ∧ Pv (i + 1) (upd H4 D (.lst (acc ++ [y]))) else Pv (i + 1) H3)
    (hd : ∀ H, Pv z.cps.size H → Qd H) :
    ∃ W : Nat → Nat → Hp → Prop, (∃ m, W 0 m (upd H1 D (.lst []))) ∧ ∀ i m H, W i m H →
      ((Its z).stop i H ∧ Qd H) ∨ ((Its z).go i H ∧ ∃ Nx : Hp → Prop, (∀ H', Nx H' → ∃ m', m' < m ∧ W (i + 1) m' H') ∧ ∀ x H', (Its z).yld i H x H' → g x (wipe σ vs) H' fun σ2 H2 => wipe σ2 vs = wipe σ vs ∧ tt σ2 H2 fun b H3 =>
        if b = true then te σ2 H3 fun y H4 => ∃ acc, H4 D = some (.lst acc) ∧ acc.length < sizeLine ∧ Nx (upd H4 D (.lst (acc ++ [y]))) else Nx H3) := by
  refine ⟨fun i m H => m + i = z.cps.size ∧ Pv i H, ⟨z.cps.size, rfl, h0⟩, fun i m H ⟨e, p⟩ => ?_⟩
  by_cases lt : i < z.cps.size
  · refine .inr ⟨lt, Pv (i + 1), fun H' p' => ⟨m - 1, by omega, by omega, p'⟩, fun x H' y => ?_⟩
    obtain ⟨rfl, c, hc, rfl⟩ := y
    exact hs i c _ (by rw [Array.getElem?_toList]; exact hc) p
  · obtain rfl : i = z.cps.size := by omega
    exact .inl ⟨Nat.le_refl _, hd H p⟩
/-- a text of small letters -/
def Low (z : Str) : Prop := ∀ c ∈ tl z, 97 ≤ c ∧ c ≤ 122
theorem tl_one (c : Nat) : tl ⟨#[c]⟩ = [c] := rfl
theorem le_one {c d : Nat} : (!decide (tl ⟨#[d]⟩ < tl ⟨#[c]⟩)) = decide (c ≤ d) := by
  rw [tl_one, tl_one]
  by_cases h : c ≤ d
  · rw [decide_eq_true h]
    simp [List.cons_lt_cons_iff]
    omega
  · rw [decide_eq_false h]
    simp [List.cons_lt_cons_iff]
    omega
theorem str_a : Str.ofString "a" = ⟨#[97]⟩ := by decide +kernel
theorem str_z : Str.ofString "z" = ⟨#[122]⟩ := by decide +kernel
theorem low_a {c : Nat} (h : 97 ≤ c) : (!decide ((⟨#[c]⟩ : Str).cps.toList < (Str.ofString "a").cps.toList)) = true := by
  rw [str_a]; exact le_one.trans (decide_eq_true h)
theorem low_z {c : Nat} (h : c ≤ 122) : (!decide ((Str.ofString "z").cps.toList < (⟨#[c]⟩ : Str).cps.toList)) = true := by
  rw [str_z]; exact le_one.trans (decide_eq_true h)
theorem trues (n : Nat) : (List.range n).map (fun _ => V.bl true) = (List.replicate n true).map V.bl := by
  induction n with
  | zero => rfl
  | succ n ih => rw [List.range_succ, List.map_append, ih, List.replicate_succ', List.map_append]; rfl
theorem all_trues (n : Nat) : (List.replicate n true).all id = true := by
  induction n with
  | zero => rfl
  | succ n ih => rw [List.replicate_succ, List.all_cons, ih]; rfl

/-! ### texts as lists of signs -/
def mkS (l : List Nat) : Str := ⟨l.toArray⟩
theorem tl_mkS (l : List Nat) : tl (mkS l) = l := rfl
theorem len_mkS (l : List Nat) : (mkS l).length = l.length := by rw [len_tl, tl_mkS]
theorem mkS_tl (z : Str) : mkS (tl z) = z := ext_tl rfl
def cut (l : List Nat) (i n : Nat) : List Nat := (l.drop i).take n
theorem cutS_mid (z : Str) (i n : Nat) (h : i + n ≤ z.length) : cutS z (some (i : Int)) (some ((i : Int) + (n : Int))) = mkS (cut (tl z) i n) := by
  refine ext_tl ?_
  have e : ((i : Int) + (n : Int)) = ((i + n : Nat) : Int) := by omega
  rw [e]
  unfold cutS
  rw [HT.sIx_nat, HT.sIx_nat, Nat.min_eq_left (show i ≤ z.length by omega), Nat.min_eq_left h, show i + n - i = n by omega]
  rfl
theorem cutS_to (z : Str) (n : Nat) (h : n ≤ z.length) : cutS z none (some (n : Int)) = mkS ((tl z).take n) := by
  refine ext_tl ?_
  unfold cutS
  rw [HT.sIx_nat, HT.sIx_none, Nat.min_eq_left h]
  rfl
/-- all texts of n letters that stand in a text, from the left -/
def steps (n : Nat) (l : List Nat) : List Str := (List.range (l.length + 1 - n)).map fun i => mkS (cut l i n)
/-- a ring text read once round and on -/
def unroll (l : List Nat) (m : Nat) : List Nat := ((List.replicate (m / l.length + 2) l).flatten).take (l.length + m)
/-- its windows, letter by letter -/
def turns (n : Nat) (l : List Nat) : List Str := (List.range l.length).map fun a => mkS ((List.range n).map fun k => l.getD ((a + k) % l.length) 0)
theorem rep_get (l : List Nat) (hl : 0 < l.length) : ∀ (n i : Nat), i < n * l.length → ((List.replicate n l).flatten)[i]? = l[i % l.length]?
  | 0, i, h => by omega
  | n + 1, i, h => by
    rw [List.replicate_succ, List.flatten_cons]
    by_cases lt : i < l.length
    · rw [List.getElem?_append_left lt, Nat.mod_eq_of_lt lt]
    · have e : (n + 1) * l.length = n * l.length + l.length := Nat.succ_mul n l.length
      rw [List.getElem?_append_right (by omega), rep_get l hl n (i - l.length) (by omega), ← Nat.mod_eq_sub_mod (by omega)]
theorem unroll_get (l : List Nat) (hl : 0 < l.length) (m i : Nat) (h : i < l.length + m) : (unroll l m)[i]? = l[i % l.length]? := by
  unfold unroll
  rw [List.getElem?_take_of_lt h]
  refine rep_get l hl _ i ?_
  have h1 := Nat.div_add_mod m l.length
  have h2 := Nat.mod_lt m hl
  have h3 : (m / l.length + 2) * l.length = l.length * (m / l.length) + 2 * l.length := by
    rw [Nat.add_mul, Nat.mul_comm]
  omega
theorem unroll_len (l : List Nat) (hl : 0 < l.length) (m : Nat) : (unroll l m).length = l.length + m := by
  unfold unroll
  rw [List.length_take, List.length_flatten, List.map_replicate, List.sum_replicate_nat]
  have h1 := Nat.div_add_mod m l.length
  have h2 := Nat.mod_lt m hl
  have h3 : (m / l.length + 2) * l.length = l.length * (m / l.length) + 2 * l.length := by
    rw [Nat.add_mul, Nat.mul_comm]
  omega
/-- what is read on the unrolled text is what is read round -/
theorem steps_unroll (l : List Nat) (hl : 0 < l.length) (n : Nat) (hn : 1 ≤ n) : steps n (unroll l (n - 1)) = turns n l := by
  unfold steps turns
  rw [unroll_len l hl, show l.length + (n - 1) + 1 - n = l.length by omega]
  refine List.map_congr_left fun i hi => ?_
  have hi := List.mem_range.mp hi
  refine congrArg mkS ?_
  refine List.ext_getElem? fun j => ?_
  unfold cut
  rw [List.getElem?_take, List.getElem?_drop, List.getElem?_map]
  by_cases lt : j < n
  · rw [if_pos lt, unroll_get l hl _ _ (by omega), List.getElem?_range lt]
    have h2 := Nat.mod_lt (i + j) hl
    simp [List.getD_eq_getElem?_getD, List.getElem?_eq_getElem h2]
  · rw [if_neg lt, List.getElem?_eq_none (by rw [List.length_range]; omega)]
    rfl
/-! ### ascending lists of texts, each once -/
def Up (ys xs : List Str) : Prop := sortedS ys = true ∧ ys.Nodup ∧ (∀ x, x ∈ ys ↔ x ∈ xs) ∧ ys.length ≤ xs.length
theorem rising_le : ∀ (l : List Str) (p : Str), risingS p l = true → (p :: l).Pairwise fun a b => tl a ≤ tl b
  | [], p, _ => List.pairwise_singleton _ _
  | x :: r, p, h => by
    have h : (!ltCps (tl x) (tl p) && risingS x r) = true := h
    rw [Bool.and_eq_true, ltCps_eq, Bool.not_eq_true', decide_eq_false_iff_not] at h
    have px : tl p ≤ tl x := List.not_lt.mp h.1
    have ih := rising_le r x h.2
    refine List.pairwise_cons.mpr ⟨fun y hy => ?_, ih⟩
    rcases List.mem_cons.mp hy with rfl | hy
    · exact px
    · exact List.le_trans px ((List.pairwise_cons.mp ih).1 y hy)
theorem sorted_le {l : List Str} (h : sortedS l = true) : l.Pairwise fun a b => tl a ≤ tl b := by
  cases l with
  | nil => exact List.Pairwise.nil
  | cons p l => exact rising_le l p h
theorem Up.one {ys zs xs xs' : List Str} (h : Up ys xs) (k : Up zs xs') (e : ∀ x, x ∈ xs ↔ x ∈ xs') : ys = zs := by
  refine List.Perm.eq_of_pairwise (fun a b _ _ h1 h2 => ext_tl (List.le_antisymm h1 h2)) (sorted_le h.1) (sorted_le k.1) ((List.perm_ext_iff_of_nodup h.2.1 k.2.1).mpr fun x => ?_)
  rw [h.2.2.1 x, e x, k.2.2.1 x]
theorem Up.of {ys ks xs : List Str} (p : ys.Perm ks) (s : sortedS ys = true) (f : FirstOf xs xs.length ks) : Up ys xs := by
  refine ⟨s, p.nodup_iff.mpr f.2.1, fun x => ?_, by rw [p.length_eq]; exact f.1⟩
  rw [p.mem_iff, f.2.2 x, List.take_length]
end Tx

set_option Elab.async false
set_option linter.all false
set_option maxRecDepth 100000
set_option maxHeartbeats 1000000
namespace Tx
open PySem PySem.Spec PyProof.Rows L2 TL RZ
/-! the rules that look into the written part, with that part named: for blocks within a def -/
section
variable {X : Cx} (K : PySem.W.Frag)
def rLenL (K : PySem.W.Frag) : List V → Hp → VK → Prop := fun xs H Q => ∃ p ys, xs = [.ref p] ∧ (SqL K H p ys ∨ SqT K H p ys) ∧ Q (.int ys.length) H
theorem lenK (h : X.K = K) : CallR X (.builtin "len") (rLenL K) := by subst h; exact call_len_seq
theorem isiK (h : X.K = K) : CallR X (.builtin "isinstance") (rIsi K) := by subst h; exact call_isi
theorem ixK (h : X.K = K) : IxR X (rIxL K) := by subst h; exact ix_list
theorem ixTK (h : X.K = K) : IxR X (rIxT K) := by subst h; exact ix_tup
theorem slK (h : X.K = K) : SlR X (rSlL K) := by subst h; exact sl_list
theorem allK (h : X.K = K) (hc : X.calm = true) : CallR X (.builtin "all") (rAll K) := by subst h; exact cr_all hc
theorem anyK (h : X.K = K) (hc : X.calm = true) : CallR X (.builtin "any") (rAny K) := by subst h; exact cr_any hc
theorem sortLK (h : X.K = K) : CallR X (.builtin "sorted") (rSortL K) := by subst h; exact cr_sortL
theorem inK (h : X.K = K) : OpR X (compareOp .In) (rIn K false) := by subst h; exact op_in_seq
theorem notInK (h : X.K = K) : OpR X (compareOp .NotIn) (rIn K true) := by subst h; exact op_notIn_seq
theorem eqDK (h : X.K = K) (hu : X.A.units + 64 < cLine) : OpR X (compareOp .Eq) (rEqD K) := by subst h; exact op_eqD hu
theorem neDK (h : X.K = K) (hu : X.A.units + 64 < cLine) : OpR X (compareOp .NotEq) (rNeD K) := by subst h; exact op_neD hu
def rJoin (K : PySem.W.Frag) : V → List V → Hp → VK → Prop := fun x xs H Q => ∃ a p, ∃ ys : List Str, x = .str a ∧ xs = [.ref p] ∧ (SqL K H p (ys.map V.str) ∨ SqT K H p (ys.map V.str)) ∧ (ys.map (·.length)).sum + ys.length * a.length ≤ 16777216 ∧ Q (.str (Txt.join a ys)) H
theorem joinK {o e : Expr} {to te : TE} {apos pos : Pos} (h : X.K = K) (ho : PE X o to) (he : PE X e te) (hs : starEach [e] X.env = [(false, eval e X.env)] := by rfl) (hb : attributeBase o "join" X.env (eval o X.env) = eval o X.env := by rfl)
    (hl : (apos.endLine == pos.line) = true := by rfl) : PE X (.Call (.Attribute o "join" apos) [e] [] pos) (tM1 (rJoin K) to te) := by subst h; exact pe_join ho he hs hb hl
def rListOf (K : PySem.W.Frag) : List V → Hp → VK → Prop := fun xs H Q => ∃ p ys, xs = [.ref p] ∧ (SqL K H p ys ∨ SqT K H p ys) ∧ ∀ l, H l = none → Q (.ref l) (upd H l (.lst ys))
theorem listK (h : X.K = K) : CallR X (.type "list") (rListOf K) := by subst h; exact call_list_of
def rTupOf (K : PySem.W.Frag) : List V → Hp → VK → Prop := fun xs H Q => ∃ p ys, xs = [.ref p] ∧ ((SqL K H p ys ∧ ∀ l, H l = none → Q (.ref l) (upd H l (.tup ys))) ∨ (SqT K H p ys ∧ Q (.ref p) H))
theorem tupK (h : X.K = K) : CallR X (.type "tuple") (rTupOf K) := by subst h; exact call_tuple_of
theorem pg_tupK {es : List Expr} {k : Nat} {t : TGs} {n : Nat} {pos : Pos} (h : X.K = K) (hc : X.calm = true) (hg : PGs X es t) (hn : (assignEach es X.env).length = n := by rfl) (hst : (assignEach es X.env).findIdx? (·.1) = none := by rfl) : PG X (.Tuple es k pos) (gTup K n t) := by subst h; exact pg_tup hc hg hn hst
variable (w : World)
theorem setK (h : X.K = K) (hw : X.w = w) (hc : X.calm = true) : CallR X (.type "set") (rSetS K w) := by subst h hw; exact cr_setS hc
theorem sortSetK (hw : X.w = w) (hc : X.calm = true) : CallR X (.builtin "sorted") (rSortSet w) := by subst hw; exact cr_sortSet hc
end
/-- a comprehension over zip of two tuples, the second one shorter -/
theorem lc_zipT {K : PySem.W.Frag} {a b : Addr} {xs ys : List V} {g : TG} {tt : TT} {te : TE} {vs : List Nat} {σ : L2.St} {H1 : Hp} {D : Addr} {Qd : Hp → Prop} (hl : ys.length ≤ xs.length) (Pv : Nat → Hp → Prop) (h0 : Pv 0 (upd H1 D (.lst []))) (hq : ∀ i H, Pv i H → SqT K H a xs ∧ SqT K H b ys)
    (hs : ∀ i x y T H, xs[i]? = some x → ys[i]? = some y → Pv i H → H T = none → g (.ref T) (wipe σ vs) (upd H T (.tup [x, y])) fun σ2 H2 => wipe σ2 vs = wipe σ vs ∧ tt σ2 H2 fun b H3 =>
      if b = true then te σ2 H3 fun y H4 => ∃ acc, H4 D = some (.lst acc) ∧ acc.length < sizeLine ∧ Pv (i + 1) (upd H4 D (.lst (acc ++ [y]))) else Pv (i + 1) H3)
    (hd : ∀ H, Pv ys.length H → Qd H) :
    ∃ W : Nat → Nat → Hp → Prop, (∃ m, W 0 m (upd H1 D (.lst []))) ∧ ∀ i m H, W i m H →
      ((ItzT K a b).stop i H ∧ Qd H) ∨ ((ItzT K a b).go i H ∧ ∃ Nx : Hp → Prop, (∀ H', Nx H' → ∃ m', m' < m ∧ W (i + 1) m' H') ∧ ∀ x H', (ItzT K a b).yld i H x H' → g x (wipe σ vs) H' fun σ2 H2 => wipe σ2 vs = wipe σ vs ∧ tt σ2 H2 fun b H3 =>
        if b = true then te σ2 H3 fun y H4 => ∃ acc, H4 D = some (.lst acc) ∧ acc.length < sizeLine ∧ Nx (upd H4 D (.lst (acc ++ [y]))) else Nx H3) := by
  refine ⟨fun i m H => m + i = ys.length ∧ Pv i H, ⟨ys.length, rfl, h0⟩, fun i m H ⟨e, p⟩ => ?_⟩
  obtain ⟨qx, qy⟩ := hq i H p
  by_cases lt : i < ys.length
  · have gx : xs[i]? = some xs[i] := List.getElem?_eq_getElem (by omega)
    have gy : ys[i]? = some ys[i] := List.getElem?_eq_getElem lt
    refine .inr ⟨⟨xs, ys, _, _, qx, qy, gx, gy⟩, Pv (i + 1), fun H' p' => ⟨m - 1, by omega, by omega, p'⟩, fun v H' y => ?_⟩
    obtain ⟨T, x', y', rfl, hT, rfl, f1, f2⟩ := y
    exact hs i x' y' T H (f1 xs qx) (f2 ys qy) p hT
  · obtain rfl : i = ys.length := by omega
    exact .inl ⟨⟨xs, ys, qx, qy, .inr (Nat.le_refl _)⟩, hd H p⟩
end Tx

set_option Elab.async false
set_option linter.all false
set_option maxRecDepth 100000
set_option maxHeartbeats 2000000
namespace Tx
open PySem PySem.Spec PyProof.Rows L2 TL
/-! ### min of a list of texts -/
theorem best_at {xs : List Str} : ∀ k, k < xs.length → argBest (fun i j => decide (tl (xs.getD i Str.empty) < tl (xs.getD j Str.empty))) k ≤ k ∧ ∀ j, j ≤ k → tl (xs.getD (argBest (fun i j => decide (tl (xs.getD i Str.empty) < tl (xs.getD j Str.empty))) k) Str.empty) ≤ tl (xs.getD j Str.empty)
  | 0, _ => ⟨Nat.le_refl _, fun j hj => by
      have e : j = 0 := by omega
      subst e
      exact List.le_refl _⟩
  | k + 1, h => by
    obtain ⟨h1, h2⟩ := best_at (xs := xs) k (by omega)
    simp only [argBest]
    by_cases c : tl (xs.getD (k + 1) Str.empty) < tl (xs.getD (argBest (fun i j => decide (tl (xs.getD i Str.empty) < tl (xs.getD j Str.empty))) k) Str.empty)
    · rw [if_pos (decide_eq_true c)]
      refine ⟨Nat.le_refl _, fun j hj => ?_⟩
      rcases Nat.lt_or_ge j (k + 1) with lt | ge
      · exact List.le_trans (List.le_of_lt c) (h2 j (by omega))
      · obtain rfl : j = k + 1 := by omega
        exact List.le_refl _
    · rw [if_neg (by rw [decide_eq_false c]; exact Bool.false_ne_true)]
      refine ⟨by omega, fun j hj => ?_⟩
      rcases Nat.lt_or_ge j (k + 1) with lt | ge
      · exact h2 j (by omega)
      · obtain rfl : j = k + 1 := by omega
        exact List.not_lt.mp c
def rMinS (K : PySem.W.Frag) : List V → Hp → VK → Prop := fun vs H Q => ∃ (a : Addr) (zs : List Str), vs = [V.ref a] ∧ SqL K H a (zs.map V.str) ∧ 0 < zs.length ∧ ∀ m, m ∈ zs → (∀ y ∈ zs, tl m ≤ tl y) → Q (.str m) H
section
variable {X : Cx} {pins : List (Addr × Obj)} {σ : L2.St} {H : Hp}
theorem cr_minS (hc : X.calm = true) : CallR X (.builtin "min") (rMinS X.K) := by
  intro pins s σ H vs us Q I r h
  obtain ⟨a, zs, rfl, hs, hne, q⟩ := h
  rw [Vals.ref1 r]
  obtain ⟨its, rv, hl, hz⟩ := I.list hs
  have hS := rv.strs
  have e0 := rv.length
  rw [List.length_map] at e0
  have lt := Heap.lt_size hl.isList.choose_spec.1
  have hval : ∀ (i : Nat) (v : Value), its.toArray[i]? = some v → ∃ t, v = .str (zs.getD i Str.empty) t := fun i v e => SS.strs_at hS i v (by simpa using e)
  refine call_min_walk (wpAny_pyIter_list hl.isList ?_)
  refine ⟨_, _, _, _, _, _, _, rfl, Walks.list (A := X.A.in1) (I.ok.hd hc) s.heap.objs.size a (Nat.ne_of_lt lt) its.toArray, ⟨⟨_, Heap.get?_push_size _ rfl, rfl, rfl⟩, hl.isList.push _⟩, fun b hb => ?_, by rw [List.size_toArray]; omega, (fun i j vi vj s' Q' E' hi hj hq => ?_ : CmpOf X.prog X.w X.A.in1 .Lt _ fun i j => decide (tl (zs.getD i Str.empty) < tl (zs.getD j Str.empty))), fun v h' tk hP hk => ?_⟩
  · show b < (s.heap.push _).objs.size
    rw [Heap.size_push]
    rcases List.mem_cons.mp hb with e | hb
    · rw [e]; exact Nat.lt_succ_self _
    · rw [List.mem_singleton.mp hb]; exact Nat.lt_succ_of_lt lt
  · obtain ⟨t, rfl⟩ := hval i vi hi
    obtain ⟨u, rfl⟩ := hval j vj hj
    exact P.lt_str hq
  · obtain ⟨t, rfl⟩ := hval _ v hP
    rw [List.size_toArray, ← e0] at hP ⊢
    obtain ⟨b1, b2⟩ := best_at (xs := zs) (zs.length - 1) (by omega)
    refine ⟨.str _, H, I.kept (t' := tk) fun b u e => hk b u (fun hm => ?_) (Heap.get?_push_of_some _ e), ⟨t, rfl⟩, q _ ?_ fun y hy => ?_⟩
    · have e2 := Heap.lt_size e
      rw [List.mem_singleton.mp hm] at e2
      exact absurd e2 (Nat.lt_irrefl _)
    · rw [List.getD_eq_getElem?_getD, List.getElem?_eq_getElem (by omega)]
      exact List.getElem_mem _
    · obtain ⟨i, hi, e⟩ := List.mem_iff_getElem.mp hy
      have e2 : zs.getD i Str.empty = y := by rw [List.getD_eq_getElem?_getD, List.getElem?_eq_getElem hi, ← e] <;> rfl
      rw [← e2]
      exact b2 i (by omega)
theorem minSK (K : PySem.W.Frag) (h : X.K = K) (hc : X.calm = true) : CallR X (.builtin "min") (rMinS K) := by subst h; exact cr_minS hc
/-! ### z[::-1] -/
def tRevS (te : TE) : TE := fun σ H Q => te σ H fun x H1 => ∃ z, x = .str z ∧ z.length ≤ 100000 ∧ Q (.str (mkS (tl z).reverse)) H1
theorem rev_by (z : Str) (u : Tok) : Txt.sliceBy z none none (-1, u) = mkS (tl z).reverse := by
  refine ext_tl ?_
  show (Txt.sliceBy z none none (-1, u)).cps.toList = _
  rw [step_rev_list, tl_mkS]
  refine List.ext_getElem? fun i => ?_
  rw [List.getElem?_map]
  by_cases c : i < z.length
  · rw [List.getElem?_range c, List.getElem?_reverse (by rw [← len_tl]; exact c), ← len_tl]
    have lt : z.length - 1 - i < z.cps.size := by show _ < z.length; omega
    rw [show (tl z)[z.length - 1 - i]? = z.cps[z.length - 1 - i]? from Array.getElem?_toList .., Array.getElem?_eq_getElem lt]
    show some (z.cps.getD _ 0) = _
    rw [Array.getD_eq_getD_getElem?, Array.getElem?_eq_getElem lt]; rfl
  · rw [List.getElem?_eq_none (by rw [List.length_range]; omega), List.getElem?_eq_none (by rw [List.length_reverse, ← len_tl]; omega)]; rfl
theorem pe_revS {e : Expr} {te : TE} {k : Nat} {p1 p2 p3 pos : Pos} (he : PE X e te) : PE X (.Subscript e (.Slice none none (some (.UnaryOp .USub (.Constant (.int 1) k p1) p2)) p3) pos) (tRevS te) := by
  refine ⟨fun pins s σ H Q I h => Subscript_ (thn (he.run pins s σ H _ I h) fun v s1 ⟨x, H1, I1, r1, z, ex, hz, q⟩ => ?_)⟩
  subst ex
  obtain ⟨t, rfl⟩ := r1
  have hst : PO X (some (.UnaryOp .USub (.Constant (.int 1) k p1) p2)) (tPart (tUn (rU fun i => .int (-i)) (tC (.int 1)))) := po_some (pe_un un_neg pe_int)
  refine wpAny_Slice (thn (po_none.run pins s1 σ H1 (fun o H2 => o = none ∧ H2 = H1) I1 ⟨rfl, rfl⟩) fun vl s2 ⟨l, H2, I2, pl, el, e2⟩ => ?_)
  subst el e2
  refine thn (po_none.run pins s2 σ H2 (fun o H3 => o = none ∧ H3 = H2) I2 ⟨rfl, rfl⟩) fun vu s3 ⟨u, H3, I3, pu, eu, e3⟩ => ?_
  subst eu e3
  refine thn (hst.run pins s3 σ H3 (fun o H4 => o = some (-1) ∧ H4 = H3) I3 ⟨1, rfl, -1, rfl, rfl, rfl⟩) fun vs s4 ⟨o, H4, I4, ps, eo, e4⟩ => ?_
  subst eo e4
  obtain ⟨l, rfl, e1⟩ := IsPart.raw pl
  obtain ⟨u, rfl, e2⟩ := IsPart.raw pu
  obtain ⟨st, rfl, e3⟩ := IsPart.raw ps
  cases l with
  | some l => cases e1
  | none =>
    cases u with
    | some u => cases e2
    | none =>
      cases st with
      | none => cases e3
      | some st =>
        obtain ⟨k1, uk⟩ := st
        obtain rfl : k1 = -1 := Option.some.inj e3
        refine tail_any (ops := [.ref s4.heap.objs.size, .str z t]) (typeIs_str _ z t) F.slot_str_getitem.lookup (wpAny_getItem_str_slice (l := none) (u := none) (st := some (-1, uk)) ⟨_, Heap.get?_push_size _ rfl, rfl, rfl⟩ rfl
          (post_val_or_str ⟨Nat.le_trans (Txt.sliceBy_le z none none (-1, uk) (show (-1 : Int) ≠ 0 by decide)) (Nat.le_trans hz (by decide)), fun t' c => ?_⟩)) (by with_unfolding_all rfl)
        rw [← rev_by z uk] at q
        exact ⟨V.str _, H4, I4.kept (t' := c) fun b ob e => Heap.get?_push_of_some _ e, ⟨t', rfl⟩, q⟩
end
end Tx

set_option Elab.async false
set_option linter.all false
set_option maxRecDepth 100000
set_option maxHeartbeats 1000000
namespace Tx
open PySem PySem.Spec PyProof.Rows L2 TL
/-! ### a ring text as what is read on and on -/
def pr (l : List Nat) (i : Nat) : Nat := l.getD (i % l.length) 0
theorem pr_mod (l : List Nat) (i : Nat) : pr l (i % l.length) = pr l i := by unfold pr; rw [Nat.mod_mod]
theorem pr_add (l : List Nat) (i m : Nat) : pr l (i + m * l.length) = pr l i := by unfold pr; rw [Nat.add_mul_mod_self_right]
theorem pr_cong (l : List Nat) {i j : Nat} (h : i % l.length = j % l.length) : pr l i = pr l j := by unfold pr; rw [h]
theorem pr_get {l : List Nat} {i : Nat} (h : i < l.length) : l[i]? = some (pr l i) := by
  unfold pr
  rw [Nat.mod_eq_of_lt h, List.getD_eq_getElem?_getD, List.getElem?_eq_getElem h]; rfl
/-- the n letters from the a-th on -/
def seg (l : List Nat) (a n : Nat) : List Nat := (List.range n).map fun k => pr l (a + k)
theorem seg_len (l : List Nat) (a n : Nat) : (seg l a n).length = n := by unfold seg; rw [List.length_map, List.length_range]
theorem seg_get (l : List Nat) (a n k : Nat) : (seg l a n)[k]? = if k < n then some (pr l (a + k)) else none := by
  unfold seg
  rw [List.getElem?_map]
  by_cases h : k < n
  · rw [if_pos h, List.getElem?_range h]; rfl
  · rw [if_neg h, List.getElem?_eq_none (by rw [List.length_range]; omega)]; rfl
theorem seg_ext {l l' : List Nat} {a b n : Nat} (h : ∀ k, k < n → pr l (a + k) = pr l' (b + k)) : seg l a n = seg l' b n := by
  refine List.map_congr_left fun k hk => h k (List.mem_range.mp hk)
theorem seg_inj {l l' : List Nat} {a b n : Nat} (h : seg l a n = seg l' b n) : ∀ k, k < n → pr l (a + k) = pr l' (b + k) := fun k hk => by
  have e := congrArg (fun x => x[k]?) h
  simp only [seg_get, if_pos hk] at e
  exact Option.some.inj e
theorem seg_mod (l : List Nat) (a n : Nat) : seg l (a % l.length) n = seg l a n := seg_ext fun k _ => pr_cong l (by rw [Nat.mod_add_mod])
theorem list_seg {l : List Nat} : l = seg l 0 l.length := by
  refine List.ext_getElem? fun k => ?_
  rw [seg_get]
  by_cases h : k < l.length
  · rw [if_pos h, Nat.zero_add, pr_get h]
  · rw [if_neg h, List.getElem?_eq_none (by omega)]
theorem seg_lt {l l' : List Nat} {a b n : Nat} : seg l a n < seg l' b n ↔ ∃ i, i < n ∧ (∀ j, j < i → pr l (a + j) = pr l' (b + j)) ∧ pr l (a + i) < pr l' (b + i) := by
  rw [List.lt_iff_exists]
  have g1 : ∀ i (h : i < (seg l a n).length), (seg l a n)[i] = pr l (a + i) := fun i h => by
    have e := seg_get l a n i
    rw [List.getElem?_eq_getElem h, if_pos (by rwa [seg_len] at h)] at e
    exact Option.some.inj e
  have g2 : ∀ i (h : i < (seg l' b n).length), (seg l' b n)[i] = pr l' (b + i) := fun i h => by
    have e := seg_get l' b n i
    rw [List.getElem?_eq_getElem h, if_pos (by rwa [seg_len] at h)] at e
    exact Option.some.inj e
  constructor
  · rintro (⟨_, h⟩ | ⟨i, h1, h2, h3, h4⟩)
    · rw [seg_len, seg_len] at h; omega
    · refine ⟨i, by rwa [seg_len] at h1, fun j hj => ?_, by rwa [g1, g2] at h4⟩
      have e := h3 j hj
      rwa [g1, g2] at e
  · rintro ⟨i, hi, h3, h4⟩
    refine .inr ⟨i, by rwa [seg_len], by rwa [seg_len], fun j hj => ?_, by rwa [g1, g2]⟩
    rw [g1, g2]; exact h3 j hj
/-- turned by p -/
def rot (l : List Nat) (p : Nat) : List Nat := l.drop p ++ l.take p
theorem rot_len (l : List Nat) (p : Nat) : (rot l p).length = l.length := by unfold rot; rw [List.length_append, List.length_drop, List.length_take]; omega
theorem rot_seg {l : List Nat} {p : Nat} (h : p ≤ l.length) : rot l p = seg l p l.length := by
  refine List.ext_getElem? fun k => ?_
  rw [seg_get]
  unfold rot
  by_cases c : k < l.length
  · rw [if_pos c]
    by_cases d : k < l.length - p
    · rw [List.getElem?_append_left (by rw [List.length_drop]; exact d), List.getElem?_drop, pr_get (by omega)]
    · rw [List.getElem?_append_right (by rw [List.length_drop]; omega), List.length_drop, List.getElem?_take_of_lt (by omega), pr_get (by omega)]
      refine congrArg some (pr_cong l ?_)
      rw [show p + k = (k - (l.length - p)) + l.length by omega, Nat.add_mod_right]
  · rw [if_neg c, List.getElem?_eq_none]
    rw [List.length_append, List.length_drop, List.length_take]; omega
theorem rot_pr {l : List Nat} {p : Nat} (h : p ≤ l.length) (hl : 0 < l.length) (i : Nat) : pr (rot l p) i = pr l (p + i) := by
  have lt := Nat.mod_lt i hl
  have e : (rot l p)[i % l.length]? = some (pr (rot l p) i) := by
    have := pr_get (l := rot l p) (i := i % l.length) (by rw [rot_len]; exact lt)
    rw [this]
    have e2 := pr_mod (rot l p) i
    rw [rot_len] at e2
    rw [e2]
  have e' : (rot l p)[i % l.length]? = some (pr l (p + i % l.length)) := by rw [rot_seg h, seg_get, if_pos lt]
  rw [Option.some.inj (e.symm.trans e')]
  exact pr_cong l (by rw [Nat.add_mod_mod])
/-- so many times round -/
def rep (t : Nat) (l : List Nat) : List Nat := (List.replicate t l).flatten
theorem rep_len (t : Nat) (l : List Nat) : (rep t l).length = t * l.length := by
  unfold rep; rw [List.length_flatten, List.map_replicate, List.sum_replicate_nat]
theorem rep_pr {t : Nat} {l : List Nat} (ht : 1 ≤ t) (hl : 0 < l.length) (i : Nat) : pr (rep t l) i = pr l i := by
  have hp : 0 < t * l.length := Nat.mul_pos ht hl
  have lt := Nat.mod_lt i hp
  have e := pr_get (l := rep t l) (i := i % (t * l.length)) (by rw [rep_len]; exact lt)
  unfold rep at e
  rw [rep_get l hl t _ lt, pr_get (Nat.mod_lt _ hl)] at e
  have e2 := pr_mod (rep t l) i
  rw [rep_len] at e2
  rw [← e2]
  have e3 : pr l (i % (t * l.length) % l.length) = pr (rep t l) (i % (t * l.length)) := Option.some.inj e
  rw [← e3, pr_mod]
  exact pr_cong l (by rw [Nat.mod_mul_left_mod])
theorem rep_seg {t : Nat} {l : List Nat} (ht : 1 ≤ t) (hl : 0 < l.length) : rep t l = seg l 0 (t * l.length) := by
  have e := list_seg (l := rep t l)
  rw [rep_len] at e
  rw [e]
  exact seg_ext fun k _ => rep_pr ht hl _
theorem turns_mem {n : Nat} {l : List Nat} (hl : 0 < l.length) (z : Str) : z ∈ turns n l ↔ ∃ a, z = mkS (seg l a n) := by
  unfold turns
  rw [List.mem_map]
  constructor
  · rintro ⟨a, _, rfl⟩; exact ⟨a, rfl⟩
  · rintro ⟨a, rfl⟩
    refine ⟨a % l.length, List.mem_range.mpr (Nat.mod_lt a hl), ?_⟩
    exact congrArg mkS (seg_mod l a n)
/-- texts that are read alike, from somewhere on -/
def Alike (l l' : List Nat) : Prop := ∃ p q, (∀ i, pr l' i = pr l (p + i)) ∧ ∀ i, pr l i = pr l' (q + i)
theorem Alike.turns {l l' : List Nat} (h : Alike l l') (hl : 0 < l.length) (hl' : 0 < l'.length) (n : Nat) (z : Str) : z ∈ Tx.turns n l' ↔ z ∈ Tx.turns n l := by
  obtain ⟨p, q, h1, h2⟩ := h
  rw [turns_mem hl', turns_mem hl]
  constructor
  · rintro ⟨a, rfl⟩
    exact ⟨p + a, congrArg mkS (seg_ext fun k _ => by rw [h1, Nat.add_assoc])⟩
  · rintro ⟨a, rfl⟩
    exact ⟨q + a, congrArg mkS (seg_ext fun k _ => by rw [h2, Nat.add_assoc])⟩
theorem alike_rep {l : List Nat} {p t : Nat} (h : p ≤ l.length) (hl : 0 < l.length) (ht : 1 ≤ t) : Alike l (rep t (rot l p)) := by
  have hr : 0 < (rot l p).length := by rw [rot_len]; exact hl
  refine ⟨p, l.length - p, fun i => by rw [rep_pr ht hr, rot_pr h hl], fun i => ?_⟩
  rw [rep_pr ht hr, rot_pr h hl]
  refine pr_cong l ?_
  rw [show p + (l.length - p + i) = i + l.length by omega, Nat.add_mod_right]
/-- x is read from somewhere on -/
def Stands (l x : List Nat) : Prop := ∃ a, x = seg l a x.length
theorem Alike.stands {l l' : List Nat} (h : Alike l l') (x : List Nat) : Stands l' x ↔ Stands l x := by
  obtain ⟨p, q, h1, h2⟩ := h
  constructor
  · rintro ⟨a, e⟩
    exact ⟨p + a, e.trans (seg_ext fun k _ => by rw [h1, Nat.add_assoc])⟩
  · rintro ⟨a, e⟩
    exact ⟨q + a, e.trans (seg_ext fun k _ => by rw [h2, Nat.add_assoc])⟩

/-! ### the least turn -/
structure Least (l m : List Nat) : Prop where
  at' : ∃ p, m = seg l p l.length
  le : ∀ p, m ≤ seg l p l.length
theorem Least.one {l m m' : List Nat} (h : Least l m) (h' : Least l m') : m = m' := by
  obtain ⟨p, e⟩ := h.at'
  obtain ⟨p', e'⟩ := h'.at'
  exact List.le_antisymm (by rw [e']; exact h.le p') (by rw [e]; exact h'.le p)
theorem Least.ex {l : List Nat} (hl : 0 < l.length) : ∃ s, s < l.length ∧ ∀ p, seg l s l.length ≤ seg l p l.length := by
  have key : ∀ m, 0 < m → ∃ s, s < m ∧ ∀ p, p < m → seg l s l.length ≤ seg l p l.length := by
    intro m
    induction m with
    | zero => intro h; omega
    | succ m ih =>
      intro _
      rcases Nat.eq_zero_or_pos m with rfl | hm
      · exact ⟨0, by omega, fun p hp => by obtain rfl : p = 0 := (by omega); exact List.le_refl _⟩
      · obtain ⟨s, hs, h⟩ := ih hm
        rcases List.le_total (seg l s l.length) (seg l m l.length) with c | c
        · refine ⟨s, by omega, fun p hp => ?_⟩
          rcases Nat.lt_or_ge p m with d | d
          · exact h p d
          · obtain rfl : p = m := (by omega); exact c
        · refine ⟨m, by omega, fun p hp => ?_⟩
          rcases Nat.lt_or_ge p m with d | d
          · exact List.le_trans c (h p d)
          · obtain rfl : p = m := (by omega); exact List.le_refl _
  obtain ⟨s, hs, h⟩ := key l.length hl
  exact ⟨s, hs, fun p => by rw [← seg_mod l p]; exact h _ (Nat.mod_lt p hl)⟩
/-- of a ring text so many times round it is so many times that of once round -/
theorem Least.rep {l m : List Nat} {p t : Nat} (h : Least l m) (hp : p ≤ l.length) (hl : 0 < l.length) (ht : 1 ≤ t) : Least (rep t (rot l p)) (Tx.rep t m) := by
  obtain ⟨s, e⟩ := h.at'
  have hr : 0 < (rot l p).length := by rw [rot_len]; exact hl
  have hm : 0 < m.length := by rw [e, seg_len]; exact hl
  have em : ∀ i, pr m i = pr l (s + i) := fun i => by
    have lt := Nat.mod_lt i hl
    have e1 : m[i % l.length]? = some (pr m i) := by
      have e2 := pr_get (l := m) (i := i % l.length) (by rw [e, seg_len]; exact lt)
      rw [e2]
      have e3 := pr_mod m i
      rw [show m.length = l.length by rw [e, seg_len]] at e3
      rw [e3]
    rw [e, seg_get, if_pos lt] at e1
    have e4 := Option.some.inj e1
    rw [← e] at e4
    rw [← e4]
    exact pr_cong l (by rw [Nat.add_mod_mod])
  have len : (Tx.rep t (rot l p)).length = t * l.length := by rw [rep_len, rot_len]
  have e0 : Tx.rep t m = seg l s (t * l.length) := by
    rw [rep_seg ht hm, show m.length = l.length by rw [e, seg_len]]
    exact seg_ext fun k _ => by rw [em, Nat.zero_add]
  have e1 : ∀ a n, seg (Tx.rep t (rot l p)) a n = seg l (p + a) n := fun a n => seg_ext fun k _ => by rw [rep_pr ht hr, rot_pr hp hl, Nat.add_assoc]
  refine ⟨⟨l.length - p + s, ?_⟩, fun a => ?_⟩
  · rw [len, e1, e0]
    refine seg_ext fun k _ => pr_cong l ?_
    rw [show p + (l.length - p + s) + k = s + k + l.length by omega, Nat.add_mod_right]
  · rw [len, e1, e0]
    refine List.not_lt.mp fun lt => ?_
    obtain ⟨i, hi, h1, h2⟩ := seg_lt.mp lt
    have le := h.le (p + a)
    rw [e] at le
    refine absurd le (List.not_le.mpr (seg_lt.mpr ?_))
    by_cases c : i < l.length
    · exact ⟨i, c, h1, h2⟩
    · exfalso
      -- a difference behind the first round would stand in the first round, too
      have d1 := h1 (i % l.length) (Nat.lt_of_lt_of_le (Nat.mod_lt i hl) (by omega))
      have d2 : pr l (p + a + i % l.length) = pr l (p + a + i) := pr_cong l (by rw [Nat.add_mod_mod])
      have d3 : pr l (s + i % l.length) = pr l (s + i) := pr_cong l (by rw [Nat.add_mod_mod])
      rw [d2, d3] at d1
      omega

/-! ### the search -/
/-- p is no place to begin: elsewhere a lesser text begins -/
def Out (l : List Nat) (p : Nat) : Prop := ∃ q, seg l q l.length < seg l p l.length
structure Seek (l : List Nat) (i j k : Nat) : Prop where
  ne : i ≠ j
  alike : ∀ t, t < k → pr l (i + t) = pr l (j + t)
  out : ∀ p, p < i ∨ p < j → p ≠ i → p ≠ j → Out l p
  one : i < l.length ∨ j < l.length
  kn : k ≤ l.length
theorem out_of {l : List Nat} {i j k t : Nat} (al : ∀ t, t < k → pr l (i + t) = pr l (j + t)) (lt : pr l (j + k) < pr l (i + k)) (ht : t ≤ k) (hk : k < l.length) : Out l (i + t) := by
  refine ⟨j + t, seg_lt.mpr ⟨k - t, by omega, fun x hx => ?_, ?_⟩⟩
  · rw [Nat.add_assoc, Nat.add_assoc]; exact (al (t + x) (by omega)).symm
  · rw [Nat.add_assoc, Nat.add_assoc, show t + (k - t) = k by omega]; exact lt
theorem Seek.start {l : List Nat} (hl : 0 < l.length) : Seek l 0 1 0 := ⟨by decide, fun _ h => by omega, fun p h h1 h2 => by omega, .inl hl, by omega⟩
theorem Seek.same {l : List Nat} {i j k : Nat} (h : Seek l i j k) (hk : k < l.length) (e : pr l (i + k) = pr l (j + k)) : Seek l i j (k + 1) := by
  refine ⟨h.ne, fun t ht => ?_, h.out, h.one, by omega⟩
  rcases Nat.lt_or_ge t k with c | c
  · exact h.alike t c
  · obtain rfl : t = k := by omega
    exact e
theorem Seek.left {l : List Nat} {i j k : Nat} (h : Seek l i j k) (hi : i < l.length) (hj : j < l.length) (hk : k < l.length) (lt : pr l (j + k) < pr l (i + k)) : Seek l (i + k + 1) (if i + k + 1 = j then j + 1 else j) 0 := by
  have o : ∀ t, t ≤ k → Out l (i + t) := fun t ht => out_of h.alike lt ht hk
  have ne := h.ne
  refine ⟨?_, fun t ht => by omega, fun p hp h1 h2 => ?_, ?_, by omega⟩
  · split <;> omega
  · by_cases c : i ≤ p ∧ p ≤ i + k
    · have := o (p - i) (by omega)
      rwa [show i + (p - i) = p by omega] at this
    · refine h.out p ?_ ?_ ?_
      all_goals (split at hp <;> split at h2 <;> omega)
  · split <;> omega
theorem Seek.right {l : List Nat} {i j k : Nat} (h : Seek l i j k) (hi : i < l.length) (hj : j < l.length) (hk : k < l.length) (lt : pr l (i + k) < pr l (j + k)) : Seek l i (if i = j + k + 1 then j + k + 1 + 1 else j + k + 1) 0 := by
  have o : ∀ t, t ≤ k → Out l (j + t) := fun t ht => out_of (fun t ht => (h.alike t ht).symm) lt ht hk
  have ne := h.ne
  refine ⟨?_, fun t ht => by omega, fun p hp h1 h2 => ?_, .inl hi, by omega⟩
  · split <;> omega
  · by_cases c : j ≤ p ∧ p ≤ j + k
    · have := o (p - j) (by omega)
      rwa [show j + (p - j) = p by omega] at this
    · refine h.out p ?_ ?_ ?_
      all_goals (split at hp <;> split at h2 <;> omega)
theorem Seek.done {l : List Nat} {i j k : Nat} (h : Seek l i j k) (hl : 0 < l.length) (e : ¬ (i < l.length ∧ j < l.length ∧ k < l.length)) : Least l (seg l (min i j) l.length) := by
  obtain ⟨s, hs, hm⟩ := Least.ex hl
  have no : ∀ p, seg l p l.length = seg l s l.length → ¬ Out l p := fun p ep ⟨q, lt⟩ => by
    rw [ep] at lt
    exact absurd (hm q) (List.not_le.mpr lt)
  have ne := h.ne
  suffices key : seg l (min i j) l.length = seg l s l.length from ⟨⟨_, rfl⟩, fun p => by rw [key]; exact hm p⟩
  by_cases c : s < i ∨ s < j
  · have : s = i ∨ s = j := by
      by_cases a : s = i
      · exact .inl a
      · by_cases b : s = j
        · exact .inr b
        · exact absurd (h.out s c a b) (no s rfl)
    rw [show min i j = s by omega]
  · have ek : k = l.length := by
      have := h.one
      have := h.kn
      omega
    subst ek
    -- both read alike: what stands behind the greater one stands between them, too
    obtain ⟨m, d, hd, em, eM⟩ : ∃ m d, 0 < d ∧ min i j = m ∧ max i j = m + d := ⟨min i j, max i j - min i j, by omega, rfl, by omega⟩
    have al : ∀ t, pr l (m + t) = pr l (m + d + t) := fun t => by
      have e1 : pr l (i + t) = pr l (j + t) := by
        have := h.alike (t % l.length) (Nat.mod_lt t hl)
        rw [pr_cong l (show (i + t % l.length) % l.length = (i + t) % l.length by rw [Nat.add_mod_mod]), pr_cong l (show (j + t % l.length) % l.length = (j + t) % l.length by rw [Nat.add_mod_mod])] at this
        exact this
      rcases Nat.lt_or_ge i j with a | a
      · rw [show m = i by omega, show i + d = j by omega]; exact e1
      · rw [show m = j by omega, show j + d = i by omega]; exact e1.symm
    have back : ∀ c r, seg l (m + r + c * d) l.length = seg l (m + r) l.length := by
      intro c
      induction c with
      | zero => intro r; rw [Nat.zero_mul, Nat.add_zero]
      | succ c ih =>
        intro r
        rw [← ih r]
        refine seg_ext fun x _ => ?_
        have := al (r + c * d + x)
        rw [show m + r + (c + 1) * d + x = m + d + (r + c * d + x) by rw [Nat.succ_mul]; omega, ← this]
        exact congrArg (pr l) (by omega)
    have es : s = m + (s - m) % d + (s - m) / d * d := by
      have := Nat.mod_add_div (s - m) d
      rw [Nat.mul_comm] at this
      omega
    have e2 : seg l s l.length = seg l (m + (s - m) % d) l.length := by
      have := back ((s - m) / d) ((s - m) % d)
      rw [← es] at this
      exact this
    rcases Nat.eq_zero_or_pos ((s - m) % d) with z | z
    · rw [z, Nat.add_zero] at e2
      rw [em, e2]
    · exfalso
      have lt := Nat.mod_lt (s - m) hd
      exact no _ e2.symm (h.out _ (by omega) (by omega) (by omega))
end Tx

set_option Elab.async false
set_option linter.all false
set_option maxRecDepth 100000
set_option maxHeartbeats 1000000
namespace Tx
open PySem PySem.Spec PyProof.Rows L2 TL
/-! ### lists of texts as data -/
theorem eqvAll_strs : ∀ (xs ys : List Str), PyData.eqvAll (xs.map PyData.str) (ys.map PyData.str) = decide (xs = ys)
  | [], [] => by simp [PyData.eqvAll]
  | [], _ :: _ => by simp [PyData.eqvAll]
  | _ :: _, [] => by simp [PyData.eqvAll]
  | x :: xs, y :: ys => by
    have ih := eqvAll_strs xs ys
    simp only [List.map_cons, PyData.eqvAll, PyData.eqv, ih]
    by_cases a : x = y
    · subst a; simp
    · rw [beq_eq_false_iff_ne.mpr a]; simp [a]
theorem eqv_strs (xs ys : List Str) : PyData.eqv (.list (xs.map PyData.str)) (.list (ys.map PyData.str)) = decide (xs = ys) := by
  rw [← eqvAll_strs]; simp only [PyData.eqv]
theorem low_ok {z : Str} (h : Low z) : PyData.strOk z = true := by
  unfold PyData.strOk
  rw [Array.all_eq_true']
  intro c hc
  have := h c (by simpa [tl] using hc)
  exact decide_eq_true (by omega)
theorem lay_strs : ∀ xs : List Str, (∀ z ∈ xs, Low z) → PyData.canLayAll0 (xs.map PyData.str) = true ∧ PyData.depthAll (xs.map PyData.str) = 0
  | [], _ => ⟨rfl, rfl⟩
  | x :: xs, h => by
    have ih := lay_strs xs fun z hz => h z (List.mem_cons_of_mem _ hz)
    simp only [List.map_cons, PyData.canLayAll0, PyData.depthAll, PyData.canLay0, PyData.depth, ih.1, ih.2, low_ok (h x (List.mem_cons_self ..))]
    simp
theorem shaped_strs {xs : List Str} (h : ∀ z ∈ xs, Low z) : SeqAt.shaped (.list (xs.map PyData.str)) = true := by
  unfold SeqAt.shaped
  simp only [PyData.canLay0, PyData.depth, (lay_strs xs h).1, (lay_strs xs h).2]
  decide
theorem dp_all {K : PySem.W.Frag} {H : Hp} : ∀ xs : List Str, DpAll K H (xs.map V.str) (xs.map PyData.str)
  | [] => .nil
  | x :: xs => .cons (.str x) (dp_all xs)
theorem dp_strs {K : PySem.W.Frag} {H : Hp} {a : Addr} {xs : List Str} (h : H a = some (.lst (xs.map V.str))) : Dp K H (.ref a) (.list (xs.map PyData.str)) := .lst (.inl (.inl h)) (dp_all xs)
/-! ### within -/
theorem found_stands {l : List Nat} {x : Str} (hl : 0 < l.length) (h1 : 1 ≤ x.length) :
    (!(Builtin.Str.occurrences (mkS (unroll l (x.length - 1))) x 0 (mkS (unroll l (x.length - 1))).length 1).isEmpty) = true ↔ Stands l (tl x) := by
  rw [PySem.StrLaws.found_iff, len_mkS, unroll_len l hl]
  have key : ∀ i, i + x.length ≤ l.length + (x.length - 1) → (Builtin.Str.subAt (mkS (unroll l (x.length - 1))) x i = true ↔ tl x = seg l i x.length) := fun i hi => by
    rw [PySem.StrLaws.subAt_eq, beq_iff_eq]
    have e : ((unroll l (x.length - 1)).drop i).take x.length = seg l i x.length := by
      refine List.ext_getElem? fun k => ?_
      rw [List.getElem?_take, List.getElem?_drop, seg_get]
      by_cases c : k < x.length
      · rw [if_pos c, if_pos c, unroll_get l hl _ _ (by omega), pr_get (Nat.mod_lt _ hl), pr_mod]
      · rw [if_neg c, if_neg c]
    exact ⟨fun h => by rw [← e]; exact h.symm, fun h => by show ((unroll l (x.length - 1)).drop i).take x.length = tl x; rw [e, h]⟩
  constructor
  · rintro ⟨i, hi, h⟩
    exact ⟨i, by rw [← len_tl]; exact (key i hi).mp h⟩
  · rintro ⟨a, e⟩
    have lt := Nat.mod_lt a hl
    refine ⟨a % l.length, by omega, (key _ (by omega)).mpr ?_⟩
    rw [← len_tl] at e
    rw [seg_mod]
    exact e
/-! ### read from behind -/
theorem pr_rev (l : List Nat) (hl : 0 < l.length) {x y : Nat} (h : (x + y + 1) % l.length = 0) : pr l.reverse y = pr l x := by
  have hx := Nat.mod_lt x hl
  have hy := Nat.mod_lt y hl
  have e : x % l.length = l.length - 1 - y % l.length := by
    have h2 : (x % l.length + y % l.length + 1) % l.length = 0 := by
      rw [← h, Nat.add_mod (x + y) 1, Nat.add_mod x y, Nat.add_mod (x % l.length + y % l.length) 1]
    have h3 : l.length ∣ (x % l.length + y % l.length + 1) := Nat.dvd_of_mod_eq_zero h2
    obtain ⟨c, hc⟩ := h3
    have c1 : c = 1 := by
      rcases Nat.lt_or_ge c 1 with a | a
      · have : c = 0 := by omega
        subst this; omega
      · rcases Nat.lt_or_ge 1 c with b | b
        · have := Nat.mul_le_mul_left l.length b
          omega
        · omega
    subst c1
    omega
  unfold pr
  rw [List.length_reverse, List.getD_eq_getElem?_getD, List.getD_eq_getElem?_getD, List.getElem?_reverse hy, e]
theorem seg_rev (l : List Nat) (hl : 0 < l.length) (a n : Nat) : (seg l.reverse a n).reverse = seg l ((a + n) * (l.length - 1)) n := by
  refine List.ext_getElem? fun k => ?_
  rw [seg_get]
  by_cases c : k < n
  · rw [List.getElem?_reverse (by rw [seg_len]; exact c), seg_len, seg_get, if_pos c, if_pos (by omega)]
    refine congrArg some (pr_rev l hl ?_)
    have e1 : (a + n) * (l.length - 1) + (a + n) = (a + n) * l.length := by
      rw [← Nat.mul_succ, show (l.length - 1).succ = l.length by omega]
    rw [show (a + n) * (l.length - 1) + k + (a + (n - 1 - k)) + 1 = (a + n) * l.length by omega, Nat.mul_mod_left]
  · rw [if_neg c, List.getElem?_eq_none (by rw [List.length_reverse, seg_len]; omega)]
def revS (z : Str) : Str := mkS (tl z).reverse
theorem revS_revS (z : Str) : revS (revS z) = z := by
  unfold revS; rw [tl_mkS, List.reverse_reverse, mkS_tl]
theorem turns_rev {l : List Nat} (hl : 0 < l.length) (n : Nat) (z : Str) : z ∈ turns n l.reverse ↔ revS z ∈ turns n l := by
  have hr : 0 < l.reverse.length := by rw [List.length_reverse]; exact hl
  rw [turns_mem hr, turns_mem hl]
  constructor
  · rintro ⟨a, rfl⟩
    exact ⟨_, congrArg mkS (seg_rev l hl a n)⟩
  · rintro ⟨a, e⟩
    have e2 : (tl z).reverse = seg l a n := congrArg tl e
    have e3 := seg_rev l.reverse hr a n
    rw [List.reverse_reverse] at e3
    refine ⟨(a + n) * (l.reverse.length - 1), ?_⟩
    rw [← e3, ← e2, List.reverse_reverse, mkS_tl]
theorem Up.rev {l : List Nat} {n : Nat} {ws zs : List Str} (hl : 0 < l.length) (u : Up ws (turns n l)) (p : zs.Perm (ws.map revS)) (s : sortedS zs = true) : Up zs (turns n l.reverse) := by
  have tlen : ∀ l' : List Nat, (turns n l').length = l'.length := fun l' => by unfold turns; rw [List.length_map, List.length_range]
  refine ⟨s, p.nodup_iff.mpr ?_, fun x => ?_, ?_⟩
  · refine List.Pairwise.map revS (fun x y h e => h ?_) u.2.1
    rw [← revS_revS x, ← revS_revS y, e]
  · rw [p.mem_iff, turns_rev hl, ← u.2.2.1, List.mem_map]
    constructor
    · rintro ⟨y, hy, rfl⟩; rw [revS_revS]; exact hy
    · intro h; exact ⟨_, h, revS_revS x⟩
  · rw [p.length_eq, List.length_map, tlen, List.length_reverse, ← tlen l]; exact u.2.2.2
/-! ### books -/
structure Book (n : Nat) (ws : List Str) : Prop where
  n2 : 2 ≤ n
  n6 : n ≤ 6
  one : 1 ≤ ws.length
  most : ws.length ≤ 3000
  asc : ws.Pairwise fun a b => tl a < tl b
  each : ∀ z ∈ ws, Low z ∧ z.length = n
def BookAt (H : Hp) (b : Addr) (n : Nat) (ws : List Str) : Prop := ∃ t, H b = some (.tup [.int n, .ref t]) ∧ H t = some (.tup (ws.map V.str))
theorem BookAt.same {H H' : Hp} {b : Addr} {n : Nat} {ws : List Str} (k : BookAt H b n ws) (s : Same H H') : BookAt H' b n ws := let ⟨t, e1, e2⟩ := k; ⟨t, s _ _ e1, s _ _ e2⟩
theorem asc_of {ws : List Str} (s : ws.Pairwise fun a b => tl a ≤ tl b) (nd : ws.Nodup) : ws.Pairwise fun a b => tl a < tl b := by
  refine (List.Pairwise.and s nd).imp fun {a b} h => ?_
  exact Classical.byContradiction fun n => h.2 (ext_tl (List.le_antisymm h.1 (List.not_lt.mp n)))
theorem up_asc {ws xs : List Str} (u : Up ws xs) : ws.Pairwise fun a b => tl a < tl b := asc_of (sorted_le u.1) u.2.1
theorem turns_low {z : Str} (lo : Low z) (h : 1 ≤ z.length) {n : Nat} {y : Str} (hy : y ∈ turns n (tl z)) : Low y ∧ y.length = n := by
  have hl : 0 < (tl z).length := by rw [← len_tl]; omega
  obtain ⟨a, rfl⟩ := (turns_mem hl y).mp hy
  refine ⟨fun c hc => ?_, by rw [len_mkS, seg_len]⟩
  rw [tl_mkS] at hc
  obtain ⟨k, hk⟩ := List.getElem?_of_mem hc
  rw [seg_get] at hk
  split at hk
  · have e := Option.some.inj hk
    have g := pr_get (l := tl z) (Nat.mod_lt (a + k) hl)
    rw [pr_mod, e] at g
    exact lo c (List.mem_of_getElem? g)
  · cases hk
end Tx

set_option Elab.async false
set_option linter.all false
set_option maxRecDepth 100000
set_option maxHeartbeats 1000000
namespace Tx
open PySem PySem.Spec PyProof.Rows L2 TL
theorem seg_take (l : List Nat) (a n m : Nat) : (seg l a n).take m = seg l a (min m n) := by
  refine List.ext_getElem? fun k => ?_
  rw [List.getElem?_take, seg_get, seg_get]
  by_cases c : k < m
  · by_cases d : k < n
    · rw [if_pos c, if_pos d, if_pos (by omega)]
    · rw [if_pos c, if_neg d, if_neg (by omega)]
  · rw [if_neg c, if_neg (by omega)]
/-- it stands just if its first round does, and each other letter is the one a round ahead -/
theorem stands_due {l x : List Nat} (hl : 0 < l.length) : Stands l x ↔ (∃ a, a < l.length ∧ seg l a (x.take l.length).length = x.take l.length) ∧ ∀ k, l.length ≤ k → k < x.length → x[k]? = x[k - l.length]? := by
  constructor
  · rintro ⟨a, e⟩
    refine ⟨⟨a % l.length, Nat.mod_lt a hl, ?_⟩, fun k h1 h2 => ?_⟩
    · rw [seg_mod, List.length_take]
      have := congrArg (List.take l.length) e
      rw [seg_take] at this
      exact this.symm
    · rw [e, seg_get, seg_get, if_pos h2, if_pos (by omega)]
      refine congrArg some (pr_cong l ?_)
      rw [show a + k = a + (k - l.length) + l.length by omega, Nat.add_mod_right]
  · rintro ⟨⟨a, _, e⟩, h⟩
    refine ⟨a, List.ext_getElem? fun k => ?_⟩
    rw [seg_get]
    by_cases c : k < x.length
    · rw [if_pos c]
      induction k using Nat.strongRecOn with
      | ind k ih =>
        by_cases d : k < l.length
        · have e2 := congrArg (fun y => y[k]?) e
          simp only [seg_get, List.getElem?_take] at e2
          rw [if_pos (by rw [List.length_take]; omega), if_pos d] at e2
          exact e2.symm
        · rw [h k (by omega) c, ih (k - l.length) (by omega) (by omega)]
          refine congrArg some (pr_cong l ?_)
          rw [show a + k = a + (k - l.length) + l.length by omega, Nat.add_mod_right]
    · rw [if_neg c, List.getElem?_eq_none (by omega)]
theorem Stands.rev1 {l x : List Nat} (hl : 0 < l.length) (h : Stands l x) : Stands l.reverse x.reverse := by
  obtain ⟨a, e⟩ := h
  have hr : 0 < l.reverse.length := by rw [List.length_reverse]; exact hl
  have k := seg_rev l.reverse hr a x.length
  rw [List.reverse_reverse, ← e] at k
  exact ⟨_, by rw [List.length_reverse]; exact k⟩
theorem Stands.rev {l x : List Nat} (hl : 0 < l.length) : Stands l.reverse x.reverse ↔ Stands l x := by
  refine ⟨fun h => ?_, .rev1 hl⟩
  have k := h.rev1 (by rw [List.length_reverse]; exact hl)
  rwa [List.reverse_reverse, List.reverse_reverse] at k
theorem cut_seg {l x : List Nat} {a i n : Nat} (e : x = seg l a x.length) (h : i + n ≤ x.length) : cut x i n = seg l (a + i) n := by
  refine List.ext_getElem? fun k => ?_
  unfold cut
  rw [List.getElem?_take, List.getElem?_drop, seg_get]
  by_cases c : k < n
  · rw [if_pos c, if_pos c, e, seg_get, if_pos (by omega), Nat.add_assoc]
  · rw [if_neg c, if_neg c]
theorem Stands.cut {l x : List Nat} (h : Stands l x) {i n : Nat} (hn : i + n ≤ x.length) : Stands l (Tx.cut x i n) := by
  obtain ⟨a, e⟩ := h
  have k := cut_seg e hn
  refine ⟨a + i, ?_⟩
  rw [k, seg_len]
theorem rep_one' (l : List Nat) : rep 1 l = l := by unfold rep; simp
theorem Least.of_stands {l x m : List Nat} (hl : 0 < l.length) (h : Stands l x) (hx : x.length = l.length) (hm : Least l m) : Least x m := by
  obtain ⟨a, e⟩ := h
  have lt := Nat.mod_lt a hl
  have r := hm.rep (p := a % l.length) (t := 1) (Nat.le_of_lt lt) hl (by decide)
  rw [rep_one', rep_one', rot_seg (Nat.le_of_lt lt), seg_mod, ← hx, ← e] at r
  exact r
theorem Least.len {l m : List Nat} (h : Least l m) : m.length = l.length := by
  obtain ⟨p, e⟩ := h.at'
  rw [e, seg_len]
theorem stands_of_least {l x m : List Nat} (hl : 0 < l.length) (hx : x.length = l.length) (h : Least l m) (k : Least x m) : Stands l x := by
  obtain ⟨q, e⟩ := h.at'
  obtain ⟨p, e'⟩ := k.at'
  rw [hx] at e'
  have al := seg_inj (e'.symm.trans e)
  refine ⟨q + p * (l.length - 1), List.ext_getElem? fun j => ?_⟩
  rw [seg_get]
  by_cases c : j < x.length
  · rw [if_pos c, pr_get c]
    have lt := Nat.mod_lt (j + p * (l.length - 1)) hl
    have e1 := al _ lt
    have e2 : p * (l.length - 1) + p = p * l.length := by rw [← Nat.mul_succ, show (l.length - 1).succ = l.length by omega]
    have e3 : pr x (p + (j + p * (l.length - 1)) % l.length) = pr x j := by
      refine pr_cong x ?_
      rw [hx, Nat.add_mod_mod, show p + (j + p * (l.length - 1)) = j + p * l.length by omega, Nat.add_mul_mod_self_right]
    have e4 : pr l (q + (j + p * (l.length - 1)) % l.length) = pr l (q + p * (l.length - 1) + j) := by
      refine pr_cong l ?_
      rw [Nat.add_mod_mod, show q + (j + p * (l.length - 1)) = q + p * (l.length - 1) + j by omega]
    rw [← e3, ← e4, e1]
  · rw [if_neg c, List.getElem?_eq_none (by omega)]
theorem stands_rot {l x : List Nat} (hl : 0 < l.length) (hx : x.length = l.length) : Stands l x ↔ ∃ p, p < l.length ∧ x = rot l p := by
  constructor
  · rintro ⟨a, e⟩
    have lt := Nat.mod_lt a hl
    exact ⟨a % l.length, lt, by rw [rot_seg (Nat.le_of_lt lt), seg_mod, ← hx]; exact e⟩
  · rintro ⟨p, hp, e⟩
    exact ⟨p, by rw [hx, ← rot_seg (Nat.le_of_lt hp)]; exact e⟩
theorem rot_zero (l : List Nat) : rot l 0 = l := by unfold rot; simp
theorem alike_times {l : List Nat} {t : Nat} (hl : 0 < l.length) (ht : 1 ≤ t) : Alike l (rep t l) := by
  have h := alike_rep (l := l) (p := 0) (t := t) (Nat.zero_le _) hl ht
  rwa [rot_zero] at h
/-- what stands is of windows alone -/
theorem stands_steps {l : List Nat} {x : Str} (hl : 0 < l.length) (h : Stands l (tl x)) {n : Nat} {z : Str} (hz : z ∈ steps n (tl x)) (hn : n ≤ x.length) : z ∈ turns n l := by
  unfold steps at hz
  obtain ⟨i, hi, rfl⟩ := List.mem_map.mp hz
  have hi := List.mem_range.mp hi
  obtain ⟨a, e⟩ := h
  rw [← len_tl] at hi
  exact (turns_mem hl _).mpr ⟨a + i, congrArg mkS (cut_seg e (by rw [← len_tl]; omega))⟩
end Tx

set_option Elab.async false
set_option linter.all false
set_option maxRecDepth 100000
set_option maxHeartbeats 1000000
namespace Tx
open PySem PySem.Spec PyProof.Rows L2 TL
/-! ### the web of a book -/
def iniS (z : Str) : Str := mkS ((tl z).take (z.length - 1))
def taiS (z : Str) : Str := mkS ((tl z).drop 1)
/-- one place after another, along windows -/
inductive Path (ws : List Str) : Str → Str → Prop
  | here (a : Str) : Path ws a a
  | step {a : Str} {v : Str} : Path ws a (iniS v) → v ∈ ws → Path ws a (taiS v)
theorem Path.trans {ws : List Str} {a b c : Str} (h : Path ws a b) (k : Path ws b c) : Path ws a c := by
  induction k with
  | here => exact h
  | step _ hv ih => exact .step ih hv
/-- what holds of a and goes along windows holds of all that a comes to -/
theorem Path.closed {ws : List Str} {a b : Str} {S : Str → Prop} (h : Path ws a b) (s : S a) (c : ∀ v ∈ ws, S (iniS v) → S (taiS v)) : S b := by
  induction h with
  | here => exact s
  | step _ hv ih => exact c _ hv ih
def placesL (ws : List Str) : List Str := ws.map iniS ++ ws.map taiS
theorem ini_place {ws : List Str} {v : Str} (h : v ∈ ws) : iniS v ∈ placesL ws := List.mem_append_left _ (List.mem_map.mpr ⟨v, h, rfl⟩)
theorem tai_place {ws : List Str} {v : Str} (h : v ∈ ws) : taiS v ∈ placesL ws := List.mem_append_right _ (List.mem_map.mpr ⟨v, h, rfl⟩)
def Joined (ws : List Str) : Prop := ∀ s ∈ placesL ws, ∀ t ∈ placesL ws, Path ws s t
/-- as many as can be in a list without two alike -/
theorem pig : ∀ (xs ys : List Str), xs.Nodup → (∀ x ∈ xs, x ∈ ys) → xs.length ≤ ys.length
  | [], _, _, _ => Nat.zero_le _
  | x :: xs, ys, nd, sub => by
    obtain ⟨nx, nd'⟩ := List.nodup_cons.mp nd
    have hx := sub x (List.mem_cons_self ..)
    have k := pig xs (ys.erase x) nd' fun y hy => (List.mem_erase_of_ne fun e => nx (by rw [← e]; exact hy)).mpr (sub y (List.mem_cons_of_mem _ hy))
    rw [List.length_erase_of_mem hx] at k
    have : 0 < ys.length := List.length_pos_of_mem hx
    rw [List.length_cons]
    omega
theorem pig_all {xs ys : List Str} (nd : xs.Nodup) (sub : ∀ x ∈ xs, x ∈ ys) (len : ys.length ≤ xs.length) {y : Str} (hy : y ∈ ys) : y ∈ xs := by
  refine Classical.byContradiction fun no => ?_
  have := pig (y :: xs) ys (List.nodup_cons.mpr ⟨no, nd⟩) fun x hx => by
    rcases List.mem_cons.mp hx with rfl | hx
    · exact hy
    · exact sub x hx
  rw [List.length_cons] at this
  omega
theorem count_two {p q r : Str → Bool} (hp : ∀ x, p x = true → r x = true) (hq : ∀ x, q x = true → r x = true) : ∀ ws : List Str, (∀ x ∈ ws, p x = true → q x = true → False) → ws.countP p + ws.countP q ≤ ws.countP r
  | [], _ => by simp
  | x :: ws, no => by
    have ih := count_two hp hq ws fun y hy => no y (List.mem_cons_of_mem _ hy)
    have nx := no x (List.mem_cons_self ..)
    rw [List.countP_cons, List.countP_cons, List.countP_cons]
    cases e1 : p x <;> cases e2 : q x <;> cases e3 : r x <;> simp only [if_true, Bool.false_eq_true, if_false] <;> first
      | omega
      | exact absurd ((hp x e1).symm.trans e3) (by decide)
      | exact absurd ((hq x e2).symm.trans e3) (by decide)
      | exact (nx e1 e2).elim
/-- windows to come: those whose end is not there yet -/
def togo (ws xs : List Str) : Nat := ws.countP fun v => decide (taiS v ∉ xs)
def newT (ws xs : List Str) : List Str := (ws.filter fun v => decide (iniS v ∈ xs) && decide (taiS v ∉ xs)).map taiS
theorem togo_le {ws xs ys : List Str} (u : ∀ x, x ∈ ys ↔ x ∈ newT ws xs) : togo ws (xs ++ ys) + (newT ws xs).length ≤ togo ws xs := by
  unfold togo newT
  rw [List.length_map, ← List.countP_eq_length_filter]
  refine count_two (fun v h => ?_) (fun v h => ?_) ws (fun v hv h1 h2 => ?_)
  · have h := of_decide_eq_true h
    exact decide_eq_true fun c => h (List.mem_append_left _ c)
  · rw [Bool.and_eq_true] at h; exact h.2
  · refine of_decide_eq_true h1 (List.mem_append_right _ ((u _).mpr ?_))
    exact List.mem_map.mpr ⟨v, List.mem_filter.mpr ⟨hv, h2⟩, rfl⟩
end Tx

set_option Elab.async false
set_option linter.all false
set_option maxRecDepth 100000
set_option maxHeartbeats 4000000
namespace Tx
open PySem PySem.Spec PyProof.Rows L2 TL
/-- a text's signs, one by one -/
def signs (x : Str) : List Str := (tl x).map fun c => ⟨#[c]⟩
theorem signs_len (x : Str) : (signs x).length = x.cps.size := by unfold signs; rw [List.length_map, ← len_tl]; rfl
section
variable {P : Program} {w : World} {A : Around} {E : Value → Shared → Prop}
set_option maxHeartbeats 6400000 in
theorem call_setT {s : Shared} {x : Str} {t : Tok} {Q : Value → Shared → Prop} (hh : A.handled = none) (hb : x.cps.size + 1 < scanBound)
    (h : ∀ h' tk ks, FirstOf (signs x) (signs x).length ks → SetS w h' s.heap.objs.size ks → (∀ b o, s.heap.get? b = some o → h'.get? b = some o) → Q (.ref s.heap.objs.size) { s with heap := h', toks := tk }) :
    wpAny (model P w) A (call (.type "set") [.str x t]) Q E s := by
  obtain ⟨c, tl', hmro⟩ := F.called_set.mro
  have hmade := F.called_set.made
  have hsub := F.called_set.sub
  refine wpAny_call (codeAny_of_tree (show wpAny _ _ (callAny (.type "set") _) _ _ _ from ?_))
  refine wpAny_pure ⟨Code.quiet_builtin _ (by decide +kernel), codeAny_builtin F.entry_type_call ?_⟩
  rw [Around.under_plain (weight_type_call_type "set" [.str x t] []) rfl]
  have h1 := F.called_set.notType
  have h2 := F.called_set.canCreate
  have hct := F.typeCall_set_1 (.str x t)
  repeat (any_goals (first | assumption | wp_step))
  refine codeAny_mono (code_set_led1 (.str x t) (E := E) (Q₁ := fun obj s1 => obj = .ref s.heap.objs.size ∧ s1 = { s with heap := s.heap.push (freshSet w) }) ⟨rfl, rfl⟩) fun r s1 hr => ?_
  rcases r with e | fl
  · exact hr
  · rcases fl with obj | _ | _ | _
    all_goals first | exact hr.elim | skip
    obtain ⟨rfl, rfl⟩ := hr
    have at0 : (s.heap.push (freshSet w)).get? s.heap.objs.size = some (freshSet w) := Heap.get?_push_size _ rfl
    have hT : Shared.TypeIs { s with heap := s.heap.push (freshSet w) } (.ref s.heap.objs.size) "set" := ⟨_, at0, rfl⟩
    have hli := F.called_set.init.lookup
    have hbi := F.called_set.init.bind (.ref s.heap.objs.size)
    repeat (any_goals (first | assumption | wp_step))
    refine codeAny_mono (codeAny_call_builtin (R := wants (fun r s2 => r = .none ∧ ∃ h' tk ks, s2 = { s with heap := h', toks := tk } ∧ FirstOf (signs x) (signs x).length ks ∧ SetS w h' s.heap.objs.size ks ∧
      ∀ b o, s.heap.get? b = some o → h'.get? b = some o) E) F.called_set.init.plain F.entry_set_init (check_set_init_1 hT ?_)) fun r2 s2 hr2 => ?_
    · have f1 := PySem.F.sub_str_set
      have f2 := PySem.F.sub_str_frozenset
      have f3 : (Value.type "str" == Value.type "dict") = false := by decide
      unfold Builtin.«set.__init__» noKeywords Builtin.Frozenset.updateFrom
      generalize hPI : pyIter = PI
      wp_walk
      subst hPI
      refine wpAny_pyIter_str fun oI St W st0 => wpAny_bind (wpAny_runValue ?_)
      have hh3 : A.in1.in1.in1.handled = none := by simp [hh]
      have sz : (s.heap.push (freshSet w)).objs.size = s.heap.objs.size + 1 := Heap.size_push ..
      have nS : s.heap.objs.size ∉ [(s.heap.push (freshSet w)).objs.size] := by
        rw [sz]
        simp only [List.mem_singleton]
        exact Nat.ne_of_lt (Nat.lt_succ_self _)
      have hv : ∀ (i : Nat) (v : Value), SignAt x i v → ∃ y u, (signs x)[i]? = some y ∧ v = .str y u := fun i v z => by
        obtain ⟨c, u, e, rfl⟩ := z
        refine ⟨⟨#[c]⟩, u, ?_, rfl⟩
        unfold signs
        rw [List.getElem?_map, show (tl x)[i]? = some c by rw [← e]; exact Array.getElem?_toList ..]
        rfl
      refine setS_update (W _ hh3).toS nS (signs_len x).symm hb hv x.cps.size 0 _ [] (Nat.sub_zero _) (Nat.zero_le _)
        st0 ⟨Nat.le_refl _, List.nodup_nil, fun y => by rw [List.take_zero]⟩ (fresh_ok (Heap.get?_push_of_some _ at0)) fun s3 ks mv fo hk => ?_
      obtain ⟨h3, g3, d3, t3, o3⟩ := s3
      obtain rfl : g3 = s.gens := mv.gens
      obtain rfl : d3 = s.drawn := mv.drawn
      obtain rfl : o3 = s.os := mv.os
      rw [← signs_len] at fo
      refine wpAny_pure (wpAny_pure (a := Fin.done (.ret Value.none)) ⟨rfl, h3, t3, ks, rfl, fo, hk, fun b o e => ?_⟩)
      have lb := Heap.lt_size e
      refine mv.heap b o ?_ (Heap.get?_push_of_some _ (Heap.get?_push_of_some _ e))
      rw [sz]
      simp only [List.mem_cons, List.mem_singleton, List.not_mem_nil, or_false, not_or]
      exact ⟨Nat.ne_of_lt lb, Nat.ne_of_lt (Nat.lt_succ_of_lt lb)⟩
    · rcases r2 with e | fl
      · exact hr2
      · rcases fl with r | _ | _ | _
        all_goals first | exact hr2.elim | skip
        obtain ⟨rfl, h', tk, ks, rfl, fo, hk, kp⟩ := hr2
        repeat (any_goals (first | assumption | wp_step))
        exact h _ _ _ fo hk kp
end
section
variable {X : Cx} {pins : List (Addr × Obj)} {σ : L2.St} {H : Hp}
/-- set(x), a text -/
def rSetT (w : World) : List V → Hp → VK → Prop := fun vs H Q => ∃ x : Str, vs = [V.str x] ∧ x.length < 4000 ∧ ∀ p ks, FirstOf (signs x) (signs x).length ks → H p = none → Q (.ref p) (upd H p (SetSO w p ks))
theorem cr_setT (hc : X.calm = true) : CallR X (.type "set") (rSetT X.w) := by
  intro pins s σ H vs us Q I r h
  obtain ⟨x, rfl, hb, q⟩ := h
  obtain ⟨u, rfl, t, rfl⟩ := vals1 r
  refine call_setT (I.ok.hd hc) (by unfold scanBound; exact Nat.lt_of_lt_of_le (Nat.succ_lt_succ hb) (by decide)) fun h' tk ks fo hk kp => ?_
  exact ⟨.ref s.heap.objs.size, upd H s.heap.objs.size (SetSO X.w s.heap.objs.size ks), I.laid (t' := tk) kp (Nat.le_refl _) (setSO_new hk), rfl, q _ ks fo (I.hok.fresh (Nat.le_refl _))⟩
theorem setTK (w : World) (hw : X.w = w) (hc : X.calm = true) : CallR X (.type "set") (rSetT w) := by subst hw; exact cr_setT hc
/-- min(x, y), two texts -/
def rMin2S : List V → Hp → VK → Prop := fun vs H Q => ∃ x y : Str, vs = [V.str x, V.str y] ∧ ∀ m, m = x ∨ m = y → Q (.str m) H
theorem cr_min2S (hc : X.calm = true) : CallR X (.builtin "min") rMin2S := by
  intro pins s σ H vs us Q I r h
  obtain ⟨x, y, rfl, q⟩ := h
  obtain ⟨u, w', rfl, ⟨t, rfl⟩, ⟨t', rfl⟩⟩ := vals2 r
  have hT : (s.heap.push { cls := .type "tuple", data := .seq #[Value.str x t, Value.str y t'] }).IsTuple s.heap.objs.size #[Value.str x t, Value.str y t'] := ⟨_, Heap.get?_push_size _ rfl, rfl, _, rfl⟩
  have hsz : (s.heap.push { cls := .type "tuple", data := .seq #[Value.str x t, Value.str y t'] }).objs.size = s.heap.objs.size + 1 := Heap.size_push ..
  have hval : ∀ (i : Nat) (v : Value), (#[Value.str x t, Value.str y t'] : Array Value)[i]? = some v → ∃ u, v = .str ([x, y].getD i Str.empty) u := fun i v e => by
    match i, e with
    | 0, e => exact ⟨t, (Option.some.inj e).symm⟩
    | 1, e => exact ⟨t', (Option.some.inj e).symm⟩
    | n + 2, e => simp at e
  refine call_min_two (wpAny_pyIter_tuple hT ?_)
  refine ⟨_, [_, s.heap.objs.size], [_], _, _, _, _, rfl, Walks.tuple (A := X.A.in1) (I.ok.hd hc) _ s.heap.objs.size (by rw [hsz]; exact Nat.ne_of_lt (Nat.lt_succ_self _)) #[Value.str x t, Value.str y t'],
    ⟨⟨_, Heap.get?_push_size _ rfl, rfl, rfl⟩, hT.push _⟩, fun c hc => ?_, by show 0 < 2; decide, (fun i j vi vj s' Q' E' hi hj hq => ?_ : CmpOf X.prog X.w X.A.in1 .Lt _ fun i j => decide (tl ([x, y].getD i Str.empty) < tl ([x, y].getD j Str.empty))), fun v h' tk hP hk => ?_⟩
  · show c < ((s.heap.push _).push _).objs.size
    rw [Heap.size_push, hsz]
    rcases List.mem_cons.mp hc with e | hc
    · rw [e, hsz]; exact Nat.lt_succ_self _
    · rw [List.mem_singleton.mp hc]; exact Nat.lt_succ_of_lt (Nat.lt_succ_self _)
  · obtain ⟨u, rfl⟩ := hval i vi hi
    obtain ⟨u', rfl⟩ := hval j vj hj
    exact P.lt_str hq
  · have hold : ∀ c o, s.heap.get? c = some o → h'.get? c = some o := fun c o e => by
      refine hk c o (fun hm => ?_) (Heap.get?_push_of_some _ (Heap.get?_push_of_some _ e))
      have e2 := Heap.lt_size e
      rw [List.mem_singleton.mp hm, hsz] at e2
      exact Nat.lt_irrefl _ (Nat.lt_of_succ_lt e2)
    obtain ⟨u, rfl⟩ := hval _ v hP
    refine ⟨.str _, H, I.kept hold, ⟨u, rfl⟩, q _ ?_⟩
    have lt : argBest (fun i j => decide (tl ([x, y].getD i Str.empty) < tl ([x, y].getD j Str.empty))) 1 ≤ 1 := (best_at (xs := [x, y]) 1 (by show 1 < 2; decide)).1
    show [x, y].getD (argBest (fun i j => decide (tl ([x, y].getD i Str.empty) < tl ([x, y].getD j Str.empty))) 1) Str.empty = x ∨ [x, y].getD (argBest (fun i j => decide (tl ([x, y].getD i Str.empty) < tl ([x, y].getD j Str.empty))) 1) Str.empty = y
    generalize argBest (fun i j => decide (tl ([x, y].getD i Str.empty) < tl ([x, y].getD j Str.empty))) 1 = n at lt ⊢
    rcases (show n = 0 ∨ n = 1 by omega) with rfl | rfl
    · exact .inl rfl
    · exact .inr rfl
/-- d != {} -/
def rNeD0 : R2 := fun x y H Q => ∃ a b ks, x = .ref a ∧ y = .ref b ∧ H a = some (.dK ks) ∧ H b = some (.dK []) ∧ Q (.bl (!ks.isEmpty)) H
theorem op_neD0 (hu : X.A.units < cLine) : OpR X (compareOp .NotEq) rNeD0 := by
  intro pins s σ H x y v u Q I rx ry h
  obtain ⟨a, b, ks, rfl, rfl, ea, eb, q⟩ := h
  obtain rfl : v = Value.ref a := rx
  obtain rfl : u = Value.ref b := ry
  obtain ⟨_, ya, va, ra, da⟩ := (show ObjOk X.prog X.w H s.heap a (.dK ks) from I.hok a _ ea)
  obtain ⟨_, yb, vb, rb, db⟩ := (show ObjOk X.prog X.w H s.heap b (.dK []) from I.hok b _ eb)
  have hb0 : vb.length = 0 := by rw [← rb.length]; rfl
  refine PySem.W.keq_ne (knd := mixKind X.prog X.w) (r := true) ya yb da db hu (fun e => ?_) (fin_bl I q ?_)
  · have h0 : ks = [] := List.eq_nil_of_length_eq_zero (by rw [ra.length, e]; exact hb0)
    subst h0
    exact hits_all rb ra fun p hp => by cases hp
  · cases ks with
    | nil =>
      have : va.length = 0 := by rw [← ra.length]; rfl
      simp [this, hb0]
    | cons k ks =>
      have : va.length = ks.length + 1 := by rw [← ra.length]; rfl
      simp [this, hb0]
end
end Tx

set_option Elab.async false
set_option linter.all false
set_option maxRecDepth 100000
set_option maxHeartbeats 4000000
namespace Tx
open PySem PySem.Spec PyProof.Rows L2 TL
section
variable {X : Cx}
/-- x = {k: v for ..} -/
theorem ps_setDc {i : Nat} {y : Str} {py : Pos} {kx vx tg iter : Expr} {ifs : List Expr} {scope : Scope} {own : List (Str × Nat)} {pos spos : Pos} {wi : TI} {g : TG} {tt : TT} {tk tv : TE} (hc : X.calm = true) (hN : X.N.Nodup) (hy : X.N[i]? = some y) (hyl : X.env.scope.names.lookup y = some .local)
    (hsw : swapsWith (.DictComp kx vx [⟨tg, iter, ifs, 0⟩] scope pos) (some (.Name y py)) spos.line X.env = pure true) (hi : PI X tg iter wi) (ok : BlkOk X.N X.env.scope scope own)
    (hg : ∀ (s : Shared) (H : Hp) (C : Addr) (cl : List (Str × Addr)) (fp : List Addr), PG (X.blk s H scope (compEnvC scope cl C X.env) fp) tg g) (ht : ∀ (s : Shared) (H : Hp) (C : Addr) (cl : List (Str × Addr)) (fp : List Addr), PTs (X.blk s H scope (compEnvC scope cl C X.env) fp) ifs tt)
    (hk : ∀ (s : Shared) (H : Hp) (C : Addr) (cl : List (Str × Addr)) (fp : List Addr), PE (X.blk s H scope (compEnvC scope cl C X.env) fp) kx tk)
    (he : ∀ (s : Shared) (H : Hp) (C : Addr) (cl : List (Str × Addr)) (fp : List Addr), PE (X.blk s H scope (compEnvC scope cl C X.env) fp) vx tv) (hs : ∀ x, foldedSetIterable iter X.env x = pure x := by intro _; rfl) :
    PS X (.Assign [.Name y py] (.DictComp kx vx [⟨tg, iter, ifs, 0⟩] scope pos) spos) (tAsg (tDc wi g tt tk tv (own.map (·.2))) (gName i)) := by
  refine ⟨fun pins s σ H D I h => ?_⟩
  rw [exec_Assign_Name_used _ _ _ _ hsw]
  refine wpAny_bind (wpAny_standAt (wpAny_bind ?_))
  show wpAny _ X.A (do let _ ← comprehension (.DictComp kx vx [⟨tg, iter, ifs, 0⟩] scope pos) scope X.env (firstIterPos [⟨tg, iter, ifs, 0⟩] pos) newDict false (eval iter X.env) (some (assign (.Name y py) X.env))) _ _ s
  have h : tDc wi g tt tk tv (own.map (·.2)) σ H (fun x H1 => gName i x σ H1 D.nx) := h
  refine wpAny_bind (thn (dc_core (Qf := fun _ s' => SP X pins D .next s') hc hN I hi ok hg ht hk he hs h fun L C s' m H' I' q hn f => ?_) fun _ s' hq => wpAny_pure (wpAny_pure hq))
  show wpAny _ _ (assign (.Name y py) X.env (.ref L)) _ _ _
  refine wpAny_assign_Name (store_ok2 (v := V.ref L) I' hN hy (.inl hyl) rfl (fun s2 I2 ⟨a, sb, ha⟩ => ?_) (.inr hyl))
  obtain ⟨f0, f1, f2, f3, f4, f5⟩ := f
  have haC : C ≠ a := by
    rcases ha with z | z
    · rw [z]; exact f1
    · exact fun e => f4 y a z e.symm
  refine ⟨m, hn.sameBut sb haC, fun h3 sb3 => ?_⟩
  exact ⟨_, H', I2.turned (t' := s2.toks) (fun b o hb e => (sb3.2 b hb).trans e) f0 f1 f3 f4 f5, q⟩
theorem sw_trueD {kx vx : Expr} {gs : List Comprehension} {scope : Scope} {pos py : Pos} {y : Str} {l : Nat} {env : Env} (hk : env.scope.kind = .function) (hy : env.scope.names.lookup y = some .local) (hl : (py.line == pos.line) = true)
    (ha : (scope.names.any fun (n, k) => n == y && (k == .local || k == .cell)) = false) : swapsWith (.DictComp kx vx gs scope pos) (some (.Name y py)) l env = pure true := by
  have ky : env.kindOf y = some .local := hy
  have hb : env.blockKind = .function := by unfold Env.blockKind; rw [hk]; rfl
  unfold swapsWith
  simp only [hb, ky, ha, Expr.pos, hl]
  rfl
end
section
variable {X : Cx}
/-- min(x, y), two texts: the lesser one -/
def rMin2B : List V → Hp → VK → Prop := fun vs H Q => ∃ x y : Str, vs = [V.str x, V.str y] ∧ ∀ m, (m = x ∨ m = y) → tl m ≤ tl x → tl m ≤ tl y → Q (.str m) H
theorem cr_min2B (hc : X.calm = true) : CallR X (.builtin "min") rMin2B := by
  intro pins s σ H vs us Q I r h
  obtain ⟨x, y, rfl, q⟩ := h
  obtain ⟨u, w', rfl, ⟨t, rfl⟩, ⟨t', rfl⟩⟩ := vals2 r
  have hT : (s.heap.push { cls := .type "tuple", data := .seq #[Value.str x t, Value.str y t'] }).IsTuple s.heap.objs.size #[Value.str x t, Value.str y t'] := ⟨_, Heap.get?_push_size _ rfl, rfl, _, rfl⟩
  have hsz : (s.heap.push { cls := .type "tuple", data := .seq #[Value.str x t, Value.str y t'] }).objs.size = s.heap.objs.size + 1 := Heap.size_push ..
  have hval : ∀ (i : Nat) (v : Value), (#[Value.str x t, Value.str y t'] : Array Value)[i]? = some v → ∃ u, v = .str ([x, y].getD i Str.empty) u := fun i v e => by
    match i, e with
    | 0, e => exact ⟨t, (Option.some.inj e).symm⟩
    | 1, e => exact ⟨t', (Option.some.inj e).symm⟩
    | n + 2, e => simp at e
  refine call_min_two (wpAny_pyIter_tuple hT ?_)
  refine ⟨_, [_, s.heap.objs.size], [_], _, _, _, _, rfl, Walks.tuple (A := X.A.in1) (I.ok.hd hc) _ s.heap.objs.size (by rw [hsz]; exact Nat.ne_of_lt (Nat.lt_succ_self _)) #[Value.str x t, Value.str y t'],
    ⟨⟨_, Heap.get?_push_size _ rfl, rfl, rfl⟩, hT.push _⟩, fun c hc => ?_, by show 0 < 2; decide, (fun i j vi vj s' Q' E' hi hj hq => ?_ : CmpOf X.prog X.w X.A.in1 .Lt _ fun i j => decide (tl ([x, y].getD i Str.empty) < tl ([x, y].getD j Str.empty))), fun v h' tk hP hk => ?_⟩
  · show c < ((s.heap.push _).push _).objs.size
    rw [Heap.size_push, hsz]
    rcases List.mem_cons.mp hc with e | hc
    · rw [e, hsz]; exact Nat.lt_succ_self _
    · rw [List.mem_singleton.mp hc]; exact Nat.lt_succ_of_lt (Nat.lt_succ_self _)
  · obtain ⟨u, rfl⟩ := hval i vi hi
    obtain ⟨u', rfl⟩ := hval j vj hj
    exact P.lt_str hq
  · have hold : ∀ c o, s.heap.get? c = some o → h'.get? c = some o := fun c o e => by
      refine hk c o (fun hm => ?_) (Heap.get?_push_of_some _ (Heap.get?_push_of_some _ e))
      have e2 := Heap.lt_size e
      rw [List.mem_singleton.mp hm, hsz] at e2
      exact Nat.lt_irrefl _ (Nat.lt_of_succ_lt e2)
    obtain ⟨u, rfl⟩ := hval _ v hP
    have best := best_at (xs := [x, y]) 1 (by show 1 < 2; decide)
    refine ⟨.str _, H, I.kept hold, ⟨u, rfl⟩, q _ ?_ (best.2 0 (by decide)) (best.2 1 (by decide))⟩
    have lt : argBest (fun i j => decide (tl ([x, y].getD i Str.empty) < tl ([x, y].getD j Str.empty))) 1 ≤ 1 := best.1
    show [x, y].getD (argBest (fun i j => decide (tl ([x, y].getD i Str.empty) < tl ([x, y].getD j Str.empty))) 1) Str.empty = x ∨ [x, y].getD (argBest (fun i j => decide (tl ([x, y].getD i Str.empty) < tl ([x, y].getD j Str.empty))) 1) Str.empty = y
    generalize argBest (fun i j => decide (tl ([x, y].getD i Str.empty) < tl ([x, y].getD j Str.empty))) 1 = n at lt ⊢
    rcases (show n = 0 ∨ n = 1 by omega) with rfl | rfl
    · exact .inl rfl
    · exact .inr rfl
end
end Tx

set_option Elab.async false
set_option linter.all false
set_option maxRecDepth 100000
set_option maxHeartbeats 4000000
namespace Tx
open PySem PySem.Spec PyProof.Rows L2 TL
/-! ### min of a list of pairs (number, text) -/
def pltB (p q : Nat × Str) : Bool := if p.1 = q.1 then decide (tl p.2 < tl q.2) else decide (p.1 < q.1)
theorem pltB_irrefl (p : Nat × Str) : pltB p p = false := by
  unfold pltB; rw [if_pos rfl]; exact decide_eq_false (List.lt_irrefl _)
theorem pltB_trans {a b c : Nat × Str} (h : pltB a b = true) (k : pltB b c = true) : pltB a c = true := by
  unfold pltB at *
  by_cases e1 : a.1 = b.1 <;> by_cases e2 : b.1 = c.1
  · rw [if_pos e1] at h; rw [if_pos e2] at k; rw [if_pos (e1.trans e2)]
    exact decide_eq_true (List.lt_trans (of_decide_eq_true h) (of_decide_eq_true k))
  · rw [if_neg e2] at k; have k := of_decide_eq_true k
    rw [if_neg (by omega)]; exact decide_eq_true (by omega)
  · rw [if_neg e1] at h; have h := of_decide_eq_true h
    rw [if_neg (by omega)]; exact decide_eq_true (by omega)
  · rw [if_neg e1] at h; rw [if_neg e2] at k; have h := of_decide_eq_true h; have k := of_decide_eq_true k
    rw [if_neg (by omega)]; exact decide_eq_true (by omega)
theorem best_gen {A : Type} (f : A → A → Bool) (ir : ∀ a, f a a = false) (tr : ∀ a b c, f a b = true → f b c = true → f a c = true) (g : Nat → A) : ∀ k, argBest (fun i j => f (g i) (g j)) k ≤ k ∧ ∀ j, j ≤ k → f (g j) (g (argBest (fun i j => f (g i) (g j)) k)) = false
  | 0 => ⟨Nat.le_refl _, fun j hj => by obtain rfl : j = 0 := by omega
                                        exact ir _⟩
  | k + 1 => by
    obtain ⟨h1, h2⟩ := best_gen f ir tr g k
    simp only [argBest]
    by_cases c : f (g (k + 1)) (g (argBest (fun i j => f (g i) (g j)) k)) = true
    · rw [if_pos c]
      refine ⟨Nat.le_refl _, fun j hj => ?_⟩
      rcases Nat.lt_or_ge j (k + 1) with lt | ge
      · cases d : f (g j) (g (k + 1)) with
        | false => rfl
        | true => exact absurd (tr _ _ _ d c) (by rw [h2 j (by omega)]; exact Bool.false_ne_true)
      · obtain rfl : j = k + 1 := by omega
        exact ir _
    · rw [if_neg c]
      refine ⟨by omega, fun j hj => ?_⟩
      rcases Nat.lt_or_ge j (k + 1) with lt | ge
      · exact h2 j (by omega)
      · obtain rfl : j = k + 1 := by omega
        exact Bool.eq_false_iff.mpr c
/-- the pairs stand at the addresses -/
def PairsAt (H : Hp) : List Addr → List (Nat × Str) → Prop
  | [], [] => True
  | a :: as, p :: ps => H a = some (.tup [.int p.1, .str p.2]) ∧ PairsAt H as ps
  | _, _ => False
theorem PairsAt.at' {H : Hp} : ∀ {as : List Addr} {ps : List (Nat × Str)}, PairsAt H as ps → as.length = ps.length ∧ ∀ i (h : i < as.length) (h' : i < ps.length), H as[i] = some (.tup [.int ps[i].1, .str ps[i].2])
  | [], [], _ => ⟨rfl, fun i h => by simp at h⟩
  | a :: as, p :: ps, ⟨e, r⟩ => by
    obtain ⟨h1, h2⟩ := PairsAt.at' r
    refine ⟨by rw [List.length_cons, List.length_cons, h1], fun i h h' => ?_⟩
    cases i with
    | zero => exact e
    | succ i => exact h2 i (by simpa using h) (by simpa using h')
theorem PairsAt.same {H H' : Hp} (s : Same H H') : ∀ {as : List Addr} {ps : List (Nat × Str)}, PairsAt H as ps → PairsAt H' as ps
  | [], [], _ => trivial
  | _ :: _, _ :: _, ⟨e, r⟩ => ⟨s _ _ e, PairsAt.same s r⟩
theorem PairsAt.snoc {H : Hp} {a : Addr} {p : Nat × Str} (e : H a = some (.tup [.int p.1, .str p.2])) : ∀ {as : List Addr} {ps : List (Nat × Str)}, PairsAt H as ps → PairsAt H (as ++ [a]) (ps ++ [p])
  | [], [], _ => ⟨e, trivial⟩
  | _ :: _, _ :: _, ⟨e', r⟩ => ⟨e', PairsAt.snoc e r⟩
def rMinP (K : PySem.W.Frag) : List V → Hp → VK → Prop := fun vs H Q => ∃ (a : Addr) (as : List Addr) (ps : List (Nat × Str)), vs = [V.ref a] ∧ SqL K H a (as.map V.ref) ∧ PairsAt H as ps ∧ 0 < ps.length ∧
  ∀ b p, p ∈ ps → H b = some (.tup [.int p.1, .str p.2]) → (∀ q ∈ ps, pltB q p = false) → Q (.ref b) H
section
variable {X : Cx} {pins : List (Addr × Obj)} {σ : L2.St} {H : Hp}
theorem cr_minP (hc : X.calm = true) (hu : X.A.units + 64 < cLine) : CallR X (.builtin "min") (rMinP X.K) := by
  intro pins s σ H vs us Q I r h
  obtain ⟨a, as, ps, rfl, hs, hp, hne, q⟩ := h
  rw [Vals.ref1 r]
  obtain ⟨its, rv, hl, hz⟩ := I.list hs
  obtain ⟨pl, pat⟩ := hp.at'
  have e0 := rv.length
  rw [List.length_map] at e0
  have hval : ∀ (i : Nat) (v : Value), its.toArray[i]? = some v → ∃ (h : i < as.length) (h' : i < ps.length), v = .ref as[i] := fun i v e => by
    have e : its[i]? = some v := by simpa using e
    have li := (List.getElem?_eq_some_iff.mp e).1
    refine ⟨by omega, by omega, ?_⟩
    have : RelV (V.ref as[i]) v := by
      have := rv.get (i := i) (x := V.ref as[i]) (by rw [List.getElem?_map, List.getElem?_eq_getElem (by omega)]; rfl)
      obtain ⟨u, eu, ru⟩ := this
      rw [e] at eu
      cases eu
      exact ru
    exact this
  have tup : ∀ {s' : Shared} (hk : ∀ b o, s.heap.get? b = some o → s'.heap.get? b = some o) i (h : i < as.length) (h' : i < ps.length), ∃ t u, s'.heap.IsTuple as[i] #[.int ps[i].1 t, .str ps[i].2 u] := fun {s'} hk i h h' => by
    obtain ⟨it2, r2, ⟨o, ho, hcl, n, hd⟩, _⟩ := I.tuple (.inl (.inl (pat i h h')))
    obtain ⟨u1, u2, e2, ⟨t, rfl⟩, ⟨u, rfl⟩⟩ := vals2 r2
    subst e2
    exact ⟨t, u, o, hk _ _ ho, hcl, n, hd⟩
  refine PySem.call_min_walkH (PySem.W.iter_listW (A := X.A.in1) (I.ok.hd hc) hl.isList fun s₂ e W st hfp hw hk => ?_)
  refine ⟨_, _, _, _, _, _, _, s.heap, fun i j => pltB (ps.getD i (0, Str.empty)) (ps.getD j (0, Str.empty)), rfl, W, st, hfp, by rw [List.size_toArray]; omega, hw, hk, (fun i j vi vj s' Q' E' hk' hi hj hq => ?_), fun v s' hP m => ?_⟩
  · obtain ⟨h1, h1', rfl⟩ := hval i vi hi
    obtain ⟨h2, h2', rfl⟩ := hval j vj hj
    obtain ⟨t, u, T⟩ := tup hk' i h1 h1'
    obtain ⟨t', u', T'⟩ := tup hk' j h2 h2'
    have gi : ps.getD i (0, Str.empty) = ps[i] := by rw [List.getD_eq_getElem?_getD, List.getElem?_eq_getElem h1']; rfl
    have gj : ps.getD j (0, Str.empty) = ps[j] := by rw [List.getD_eq_getElem?_getD, List.getElem?_eq_getElem h2']; rfl
    dsimp only at hq
    rw [gi, gj] at hq
    generalize ps[i] = p at T hq
    generalize ps[j] = p' at T' hq
    refine Ob.RcOp.tuples_lt (A := X.A.in1) (s := s') (e := fun j => if j = 0 then decide (p.1 = p'.1) else decide (p.2 = p'.2)) (r := fun j => if j = 0 then decide (p.1 < p'.1) else decide (tl p.2 < tl p'.2)) T T' (by show X.A.units + 1 < _; omega) (fun j h1 h2 => ?_) (fun j h1 h2 _ => ?_) X.prog X.w E' Q' ?_
    · match j, h1, h2 with
      | 0, _, _ =>
        have := SeqAt.EqAt.int_int (A := X.A.in1.in1) (s := s') (p.1 : Int) t (p'.1 : Int) t'
        have z : ((p.1 : Int) == (p'.1 : Int)) = decide (p.1 = p'.1) := by
          by_cases c : p.1 = p'.1
          · rw [decide_eq_true c, c]; exact beq_self_eq_true _
          · rw [decide_eq_false c]; exact beq_eq_false_iff_ne.mpr fun h => c (by omega)
        rw [z] at this
        exact this
      | 1, _, _ =>
        have := SeqAt.EqAt.str_str (A := X.A.in1.in1) (s := s') p.2 u p'.2 u'
        have z : (p.2 == p'.2) = decide (p.2 = p'.2) := by
          by_cases c : p.2 = p'.2
          · rw [decide_eq_true c, c]; exact beq_self_eq_true _
          · rw [decide_eq_false c]; exact beq_eq_false_iff_ne.mpr c
        rw [z] at this
        exact this
      | n + 2, h1, _ => simp at h1; omega
    · match j, h1, h2 with
      | 0, _, _ =>
        have := Ob.RcOp.lt_int (A := X.A.in1.in1) (s := s') (p.1 : Int) (p'.1 : Int) t t'
        have z : decide ((p.1 : Int) < (p'.1 : Int)) = decide (p.1 < p'.1) := decide_eq_decide.mpr (by omega)
        rw [z] at this
        exact this
      | 1, _, _ => exact fun _ _ _ _ h => PyProof.Rows.lt_str h
      | n + 2, h1, _ => simp at h1; omega
    · have z : Ob.lexAt (fun j => if j = 0 then decide (p.1 = p'.1) else decide (p.2 = p'.2)) (fun j => if j = 0 then decide (p.1 < p'.1) else decide (tl p.2 < tl p'.2)) (decide ((#[Value.int p.1 t, .str p.2 u] : Array Value).size < (#[Value.int p'.1 t', .str p'.2 u'] : Array Value).size)) 0 (min (#[Value.int p.1 t, .str p.2 u] : Array Value).size (#[Value.int p'.1 t', .str p'.2 u'] : Array Value).size) = pltB p p' := by
        show Ob.lexAt _ _ (decide (2 < 2)) 0 2 = _
        rw [Ob.lexAt_succ, Ob.lexAt_succ, Ob.lexAt_zero]
        unfold pltB
        by_cases c : p.1 = p'.1
        · rw [if_pos c]
          by_cases d : p.2 = p'.2
          · simp [c, d, List.lt_irrefl]
          · simp [c, d]
        · rw [if_neg c]
          simp [c]
      rw [z]
      exact hq
  · obtain ⟨h', tk, rfl, hk'⟩ := PySem.W.moved_old e rfl m
    obtain ⟨h1, h1', rfl⟩ := hval _ v hP
    have gen := best_gen pltB pltB_irrefl (fun a b c => pltB_trans) (fun i => ps.getD i (0, Str.empty)) (its.toArray.size - 1)
    refine ⟨.ref _, H, I.kept hk', rfl, q _ _ (List.getElem_mem h1') (pat _ h1 h1') fun y hy => ?_⟩
    obtain ⟨j, hj, rfl⟩ := List.mem_iff_getElem.mp hy
    have := gen.2 j (by rw [List.size_toArray]; omega)
    have gi : ∀ i (h : i < ps.length), ps.getD i (0, Str.empty) = ps[i] := fun i h => by rw [List.getD_eq_getElem?_getD, List.getElem?_eq_getElem h]; rfl
    rw [gi j hj, gi _ h1'] at this
    exact this
theorem minPK (K : PySem.W.Frag) (h : X.K = K) (hc : X.calm = true) (hu : X.A.units + 64 < cLine) : CallR X (.builtin "min") (rMinP K) := by subst h; exact cr_minP hc hu
end
end Tx

set_option Elab.async false
set_option linter.all false
set_option maxRecDepth 100000
set_option maxHeartbeats 1000000
namespace Tx
open PySem PySem.Spec PyProof.Rows L2 TL
/-! ### ways from one window, and the first shortest ones -/
/-- the last sign of a window -/
def lasL (v : Str) : List Nat := (tl v).drop (v.length - 1)
/-- the signs of a piece, by its steps -/
def txt : List Str → List Nat
  | [] => []
  | w :: r => tl w ++ (r.map lasL).flatten
theorem txt_add {l : List Str} (h : l ≠ []) (v : Str) : txt (l ++ [v]) = txt l ++ lasL v := by
  cases l with
  | nil => exact absurd rfl h
  | cons w r =>
    show tl w ++ ((r ++ [v]).map lasL).flatten = (tl w ++ (r.map lasL).flatten) ++ lasL v
    rw [List.map_append, List.flatten_append, List.append_assoc]
    simp
theorem lt_app : ∀ {x y a b : List Nat}, x.length = y.length → x < y → x ++ a < y ++ b
  | [], [], _, _, _, h => absurd h (List.lt_irrefl _)
  | [], _ :: _, _, _, n, _ => by simp at n
  | _ :: _, [], _, _, n, _ => by simp at n
  | c :: x, d :: y, a, b, n, h => by
    rw [List.cons_append, List.cons_append, List.cons_lt_cons_iff]
    rcases List.cons_lt_cons_iff.mp h with h | ⟨e, h⟩
    · exact .inl h
    · exact .inr ⟨e, lt_app (by simpa using n) h⟩
theorem le_app {x y : List Nat} (n : x.length = y.length) (h : x ≤ y) (a : List Nat) : x ++ a ≤ y ++ a := by
  by_cases e : x = y
  · rw [e]; exact List.le_refl _
  · have lt : x < y := List.not_le.mp fun g => e (List.le_antisymm h g)
    exact List.le_of_lt (lt_app n lt)
theorem las_len {v : Str} (h : 1 ≤ v.length) : (lasL v).length = 1 := by
  unfold lasL; rw [List.length_drop, ← len_tl]; omega
/-- the steps of a way from one window, and its last one -/
inductive Wk (ws : List Str) (one : Str) : List Str → Str → Prop
  | one : Wk ws one [one] one
  | more {l : List Str} {u v : Str} : Wk ws one l u → v ∈ ws → iniS v = taiS u → Wk ws one (l ++ [v]) v
section
variable {ws : List Str} {one : Str}
theorem Wk.ne {l : List Str} {v : Str} (h : Wk ws one l v) : l ≠ [] := by cases h <;> simp
theorem Wk.pos {l : List Str} {v : Str} (h : Wk ws one l v) : 1 ≤ l.length := List.length_pos_iff.mpr h.ne
theorem Wk.inn {l : List Str} {v : Str} (h : Wk ws one l v) (ho : one ∈ ws) : v ∈ ws := by cases h <;> assumption
theorem Wk.all {l : List Str} {v : Str} (h : Wk ws one l v) (ho : one ∈ ws) : ∀ x ∈ l, x ∈ ws := by
  induction h with
  | one => intro x hx; rw [List.mem_singleton.mp hx]; exact ho
  | more _ hv _ ih =>
    intro x hx
    rcases List.mem_append.mp hx with hx | hx
    · exact ih x hx
    · rw [List.mem_singleton.mp hx]; exact hv
theorem Wk.last {l : List Str} {v : Str} (h : Wk ws one l v) : l.getLast? = some v := by
  cases h with
  | one => rfl
  | more _ _ _ => simp
theorem Wk.inv {l : List Str} {v : Str} (h : Wk ws one l v) (n : 2 ≤ l.length) : ∃ l' u, l = l' ++ [v] ∧ Wk ws one l' u ∧ v ∈ ws ∧ iniS v = taiS u := by
  cases h with
  | one => simp at n
  | more hw hv e => exact ⟨_, _, rfl, hw, hv, e⟩
theorem Wk.one_of {l : List Str} {v : Str} (h : Wk ws one l v) (n : l.length ≤ 1) : l = [one] ∧ v = one := by
  cases h with
  | one => exact ⟨rfl, rfl⟩
  | more hw _ _ => have := hw.pos; rw [List.length_append, List.length_singleton] at n; omega
/-- v is come to by d steps more, no less, and y is the first text of them -/
structure Bst (ws : List Str) (one : Str) (d : Nat) (v : Str) (y : List Nat) : Prop where
  way : ∃ l, Wk ws one l v ∧ l.length = d + 1 ∧ txt l = y
  short : ∀ l, Wk ws one l v → d + 1 ≤ l.length
  first : ∀ l, Wk ws one l v → l.length = d + 1 → y ≤ txt l
theorem Bst.start : Bst ws one 0 one (tl one) :=
  ⟨⟨[one], .one, rfl, by simp [txt]⟩, fun l h => h.pos, fun l h n => by
    obtain ⟨rfl, _⟩ := h.one_of (by omega)
    simp [txt, List.le_refl]⟩
theorem Bst.uniq {d d' : Nat} {v : Str} {y y' : List Nat} (h : Bst ws one d v y) (h' : Bst ws one d' v y') : d = d' ∧ y = y' := by
  obtain ⟨l, hl, nl, el⟩ := h.way
  obtain ⟨l', hl', nl', el'⟩ := h'.way
  have a := h.short l' hl'
  have b := h'.short l hl
  have e : d = d' := by omega
  subst e
  exact ⟨rfl, List.le_antisymm (el' ▸ h.first l' hl' nl') (el ▸ h'.first l hl nl)⟩
theorem Bst.inn {d : Nat} {v : Str} {y : List Nat} (h : Bst ws one d v y) (ho : one ∈ ws) : v ∈ ws := by
  obtain ⟨l, hl, _⟩ := h.way
  exact hl.inn ho
/-- what is told of a way: the first shortest text, or that there is none -/
def RoadR (ws : List Str) (one other : Str) (r : V) : Prop := (∃ d y, r = .str (mkS y) ∧ Bst ws one d other y) ∨ (r = .non ∧ ∀ l, ¬ Wk ws one l other)
theorem RoadR.uniq {other : Str} {r r' : V} (h : RoadR ws one other r) (h' : RoadR ws one other r') : r = r' := by
  rcases h with ⟨d, y, rfl, b⟩ | ⟨rfl, n⟩ <;> rcases h' with ⟨d', y', rfl, b'⟩ | ⟨rfl, n'⟩
  · rw [(b.uniq b').2]
  · obtain ⟨l, hl, _⟩ := b.way; exact absurd hl (n' l)
  · obtain ⟨l, hl, _⟩ := b'.way; exact absurd hl (n l)
  · rfl
/-- ks are the windows that are come to by d steps at most -/
structure Lv (ws : List Str) (one : Str) (d : Nat) (ks : List Str) : Prop where
  all : ∀ l v, Wk ws one l v → l.length ≤ d + 1 → v ∈ ks
  each : ∀ v ∈ ks, ∃ d' y, d' ≤ d ∧ Bst ws one d' v y
theorem Lv.start : Lv ws one 0 [one] := ⟨fun l v h n => by
    obtain ⟨_, rfl⟩ := h.one_of (by omega); exact List.mem_singleton.mpr rfl, fun v hv => by
    rw [List.mem_singleton.mp hv]; exact ⟨0, _, Nat.le_refl _, .start⟩⟩
theorem Lv.inn {d : Nat} {ks : List Str} (h : Lv ws one d ks) (ho : one ∈ ws) {v : Str} (hv : v ∈ ks) : v ∈ ws := by
  obtain ⟨d', y, _, b⟩ := h.each v hv
  exact b.inn ho
/-- all windows have a sign -/
def Full (ws : List Str) : Prop := ∀ v ∈ ws, 1 ≤ v.length
theorem Wk.len {l : List Str} {v : Str} (h : Wk ws one l v) (f : Full ws) : (txt l).length + 1 = one.length + l.length := by
  induction h with
  | one => simp [txt, len_tl]
  | more hw hv _ ih =>
    rw [txt_add hw.ne, List.length_append, List.length_append, las_len (f _ hv)]
    simp; omega
theorem Bst.len {d : Nat} {v : Str} {y : List Nat} (h : Bst ws one d v y) (f : Full ws) : y.length = one.length + d := by
  obtain ⟨l, hl, nl, rfl⟩ := h.way
  have := hl.len f
  omega
/-- a new one, by the first of those that lead to it -/
theorem Lv.next {d : Nat} {ks : List Str} (f : Full ws) (h : Lv ws one d ks) {u v : Str} {y : List Nat} (hv : v ∈ ws) (nv : v ∉ ks) (bu : Bst ws one d u y) (e : iniS v = taiS u)
    (first : ∀ u' y', Bst ws one d u' y' → iniS v = taiS u' → y ++ lasL v ≤ y' ++ lasL v) : Bst ws one (d + 1) v (y ++ lasL v) := by
  have sh : ∀ l, Wk ws one l v → d + 1 + 1 ≤ l.length := fun l hl => by
    refine Nat.lt_of_not_le fun n => nv (h.all l v hl (by omega))
  obtain ⟨l, hl, nl, el⟩ := bu.way
  refine ⟨⟨l ++ [v], .more hl hv e, by rw [List.length_append, nl]; rfl, by rw [txt_add hl.ne, el]⟩, sh, fun l' hl' nl' => ?_⟩
  obtain ⟨m, u', rfl, hm, _, e'⟩ := hl'.inv (by omega)
  have nm : m.length = d + 1 := by rw [List.length_append] at nl'; simp at nl'; omega
  obtain ⟨d', y', hd', b'⟩ := h.each u' (h.all m u' hm (by omega))
  have ed : d' = d := by
    obtain ⟨l3, h3, n3, _⟩ := b'.way
    have := sh _ (.more h3 hv e')
    rw [List.length_append] at this
    simp at this
    omega
  subst ed
  rw [txt_add hm.ne]
  refine List.le_trans (first u' y' b' e') ?_
  have l1 := b'.len f
  have l2 := hm.len f
  exact le_app (by omega) (b'.first m hm nm) _
/-- d + 1 steps at most: ks and those that the ones at d lead to -/
theorem Lv.grow {d : Nat} {ks ks' : List Str} (h : Lv ws one d ks) (sub : ∀ v ∈ ks, v ∈ ks') (new : ∀ v ∈ ks', v ∈ ks ∨ ∃ y, Bst ws one (d + 1) v y)
    (cl : ∀ u y v, Bst ws one d u y → v ∈ ws → iniS v = taiS u → v ∈ ks') : Lv ws one (d + 1) ks' := by
  refine ⟨fun l v hl n => ?_, fun v hv => ?_⟩
  · by_cases c : l.length ≤ d + 1
    · exact sub v (h.all l v hl c)
    · obtain ⟨m, u, rfl, hm, hv, e⟩ := hl.inv (by omega)
      have nm : m.length = d + 1 := by rw [List.length_append] at n c; simp at n c; omega
      obtain ⟨d', y', hd', b'⟩ := h.each u (h.all m u hm (by omega))
      by_cases k : d' = d
      · subst k; exact cl u y' v b' hv e
      · obtain ⟨l3, h3, n3, _⟩ := b'.way
        refine sub v (h.all _ v (.more h3 hv e) ?_)
        rw [List.length_append]; simp; omega
  · rcases new v hv with k | ⟨y, b⟩
    · obtain ⟨d', y, hd, b⟩ := h.each v k
      exact ⟨d', y, by omega, b⟩
    · exact ⟨d + 1, y, Nat.le_refl _, b⟩
/-- none at d: nothing more is come to -/
theorem Lv.done {d : Nat} {ks : List Str} (h : Lv ws one d ks) (no : ∀ u y, u ∈ ks → ¬ Bst ws one d u y) {l : List Str} {v : Str} (hl : Wk ws one l v) : v ∈ ks := by
  induction hl with
  | one => exact h.all _ _ .one (by simp)
  | @more l u v hw hv e ih =>
    obtain ⟨d', y', hd', b'⟩ := h.each u ih
    have : d' ≠ d := fun k => by subst k; exact no u y' ih b'
    obtain ⟨l3, h3, n3, _⟩ := b'.way
    refine h.all _ v (.more h3 hv e) ?_
    rw [List.length_append]; simp; omega
end
/-! ### what is reached, nearest first -/
abbrev Ent := Str × Option Str
def keysE (fs : List Ent) : List Str := fs.map (·.1)
def addE (fs : List Ent) (p : Str × Str) : List Ent := if p.2 ∈ keysE fs then fs else fs ++ [(p.2, some p.1)]
def pairsE (adj : Str → List Str) (F : List Str) : List (Str × Str) := F.flatMap fun u => (adj u).map fun v => (u, v)
def roundE (adj : Str → List Str) (fs : List Ent) (j : Nat) : List Ent := (pairsE adj (keysE (fs.drop j))).foldl addE fs
inductive Run (adj : Str → List Str) : List Ent → Nat → List Ent → Prop
  | done (fs : List Ent) : Run adj fs fs.length fs
  | step {fs R : List Ent} {j : Nat} : j < fs.length → Run adj (roundE adj fs j) fs.length R → Run adj fs j R
theorem Run.inv {adj : Str → List Str} {P : List Ent → Nat → Prop} (hs : ∀ fs j, P fs j → j < fs.length → P (roundE adj fs j) fs.length) {fs R : List Ent} {j : Nat} (r : Run adj fs j R) (h : P fs j) : P R R.length := by
  induction r with
  | done => exact h
  | step lt _ ih => exact ih (hs _ _ h lt)
/-- the way to one that is reached -/
inductive Tr (R : List Ent) : Str → List Str → Prop
  | start {v : Str} : (v, none) ∈ R → Tr R v [v]
  | more {u v : Str} {l : List Str} : (v, some u) ∈ R → Tr R u l → Tr R v (l ++ [v])
theorem Tr.mono {R R' : List Ent} (s : ∀ p ∈ R, p ∈ R') {v : Str} {l : List Str} (h : Tr R v l) : Tr R' v l := by
  induction h with
  | start h => exact .start (s _ h)
  | more h _ ih => exact .more (s _ h) ih
theorem keysE_app (a b : List Ent) : keysE (a ++ b) = keysE a ++ keysE b := List.map_append
/-- what one round adds: of each pair of one already there and a new one the first -/
theorem fold_add (Rl : Str × Str → Str × Str → Prop) : ∀ (ps : List (Str × Str)) (fs : List Ent), ps.Pairwise Rl → ∃ qs : List (Str × Str), ps.foldl addE fs = fs ++ qs.map (fun q => (q.2, some q.1)) ∧ qs.Sublist ps ∧
    (qs.map (·.2)).Nodup ∧ (∀ q ∈ qs, q.2 ∉ keysE fs) ∧ (∀ p ∈ ps, p.2 ∈ keysE fs ∨ p.2 ∈ qs.map (·.2)) ∧ ∀ q ∈ qs, ∀ p ∈ ps, p.2 = q.2 → p = q ∨ Rl q p
  | [], fs, _ => ⟨[], by simp, .slnil, by simp, by simp, by simp, by simp⟩
  | p :: ps, fs, pw => by
    obtain ⟨p1, p2⟩ := List.pairwise_cons.mp pw
    rw [List.foldl_cons]
    by_cases c : p.2 ∈ keysE fs
    · have ea : addE fs p = fs := if_pos c
      rw [ea]
      obtain ⟨qs, h1, h2, h3, h4, h5, h6⟩ := fold_add Rl ps fs p2
      refine ⟨qs, h1, .cons _ h2, h3, h4, fun x hx => ?_, fun q hq x hx e => ?_⟩
      · rcases List.mem_cons.mp hx with rfl | hx
        · exact .inl c
        · exact h5 x hx
      · rcases List.mem_cons.mp hx with rfl | hx
        · exact absurd (e ▸ c) (h4 q hq)
        · exact h6 q hq x hx e
    · have ea : addE fs p = fs ++ [(p.2, some p.1)] := if_neg c
      rw [ea]
      obtain ⟨qs, h1, h2, h3, h4, h5, h6⟩ := fold_add Rl ps (fs ++ [(p.2, some p.1)]) p2
      have k : ∀ x, x ∈ keysE (fs ++ [(p.2, some p.1)]) ↔ x ∈ keysE fs ∨ x = p.2 := fun x => by
        rw [keysE_app, List.mem_append]; simp [keysE]
      refine ⟨p :: qs, by rw [h1]; simp, .cons_cons _ h2, ?_, fun q hq => ?_, fun x hx => ?_, fun q hq x hx e => ?_⟩
      · rw [List.map_cons, List.nodup_cons]
        refine ⟨fun h => ?_, h3⟩
        obtain ⟨q, hq, e⟩ := List.mem_map.mp h
        exact h4 q hq ((k _).mpr (.inr e))
      · rcases List.mem_cons.mp hq with rfl | hq
        · exact c
        · exact fun h => h4 q hq ((k _).mpr (.inl h))
      · rcases List.mem_cons.mp hx with rfl | hx
        · exact .inr (by simp)
        · rcases h5 x hx with h | h
          · rcases (k _).mp h with h | h
            · exact .inl h
            · exact .inr (by rw [h]; simp)
          · exact .inr (by rw [List.map_cons]; exact List.mem_cons_of_mem _ h)
      · rcases List.mem_cons.mp hq with rfl | hq'
        · rcases List.mem_cons.mp hx with rfl | hx'
          · exact .inl rfl
          · exact .inr (p1 x hx')
        · rcases List.mem_cons.mp hx with rfl | hx'
          · exact absurd ((k _).mpr (.inr e.symm)) (h4 q hq')
          · exact h6 q hq' x hx' e
theorem mem_pairsE {adj : Str → List Str} {F : List Str} {p : Str × Str} : p ∈ pairsE adj F ↔ p.1 ∈ F ∧ p.2 ∈ adj p.1 := by
  unfold pairsE
  rw [List.mem_flatMap]
  constructor
  · rintro ⟨u, hu, h⟩
    obtain ⟨v, hv, rfl⟩ := List.mem_map.mp h
    exact ⟨hu, hv⟩
  · rintro ⟨h1, h2⟩
    exact ⟨p.1, h1, List.mem_map.mpr ⟨p.2, h2, rfl⟩⟩
/-- the windows that begin where u ends, ascending -/
def adjW (ws : List Str) (u : Str) : List Str := ws.filter fun v => decide (iniS v = taiS u)
theorem mem_adjW {ws : List Str} {u v : Str} : v ∈ adjW ws u ↔ v ∈ ws ∧ iniS v = taiS u := by
  unfold adjW; rw [List.mem_filter, decide_eq_true_iff]
theorem ini_las {v : Str} : (tl v) = tl (iniS v) ++ lasL v := (List.take_append_drop (v.length - 1) (tl v)).symm
theorem las_lt {u v : Str} (e : iniS u = iniS v) (h : tl u < tl v) (y : List Nat) : y ++ lasL u < y ++ lasL v := by
  rw [ini_las (v := u), ini_las (v := v), e] at h
  have : lasL u < lasL v := by
    refine List.not_le.mp fun g => ?_
    exact absurd h (List.not_lt.mpr (List.append_left_le g))
  exact List.append_left_lt this
section
variable {ws : List Str} {one : Str}
structure Fr (ws : List Str) (one : Str) (fs : List Ent) (j d : Nat) : Prop where
  nd : (keysE fs).Nodup
  lv : Lv ws one d (keysE fs)
  old : ∀ p ∈ fs.take j, ∃ d' y, d' < d ∧ Bst ws one d' p.1 y
  new : ∀ p ∈ fs.drop j, ∃ y, Bst ws one d p.1 y
  asc : (keysE (fs.drop j)).Pairwise fun u v => ∀ y z, Bst ws one d u y → Bst ws one d v z → y < z
  tr : ∀ v ∈ keysE fs, ∃ l d, Tr fs v l ∧ Wk ws one l v ∧ l.length = d + 1 ∧ l.length ≤ fs.length ∧ Bst ws one d v (txt l)
theorem Fr.start : Fr ws one [(one, none)] 0 0 := by
  refine ⟨by simp [keysE], .start, by simp, fun p hp => ?_, by simp [keysE], fun v hv => ?_⟩
  · have e : p = (one, none) := by simpa using hp
    subst e
    exact ⟨_, .start⟩
  · have e : v = one := by simpa [keysE] using hv
    subst e
    exact ⟨[v], 0, .start (by simp), .one, rfl, Nat.le_refl _, by simpa [txt] using Bst.start⟩
theorem pairs_asc (f : Full ws) (asc : ws.Pairwise fun a b => tl a < tl b) {d : Nat} {F : List Str} (h : F.Pairwise fun u v => ∀ y z, Bst ws one d u y → Bst ws one d v z → y < z) :
    (pairsE (adjW ws) F).Pairwise fun p q => ∀ y z, Bst ws one d p.1 y → Bst ws one d q.1 z → y ++ lasL p.2 < z ++ lasL q.2 := by
  unfold pairsE
  rw [List.pairwise_flatMap]
  refine ⟨fun u _ => ?_, h.imp fun {u u'} lt x hx y hy a b ba bb => ?_⟩
  · rw [List.pairwise_map]
    refine (List.Pairwise.and_mem.mp (asc.sublist (List.filter_sublist (p := fun v => decide (iniS v = taiS u))))).imp fun {v v'} ⟨hv, hv', lt⟩ y z b b' => ?_
    rw [(b.uniq b').2]
    exact las_lt (((mem_adjW.mp hv).2).trans ((mem_adjW.mp hv').2).symm) lt _
  · obtain ⟨v, _, rfl⟩ := List.mem_map.mp hx
    obtain ⟨v', _, rfl⟩ := List.mem_map.mp hy
    exact lt_app (by rw [ba.len f, bb.len f]) (lt a b ba bb)
theorem Fr.next (f : Full ws) (asc : ws.Pairwise fun a b => tl a < tl b) {fs : List Ent} {j d : Nat} (h : Fr ws one fs j d) : Fr ws one (roundE (adjW ws) fs j) fs.length (d + 1) := by
  have key := fold_add (fun p q => ∀ y z, Bst ws one d p.1 y → Bst ws one d q.1 z → y ++ lasL p.2 < z ++ lasL q.2) (pairsE (adjW ws) (keysE (fs.drop j))) fs (pairs_asc f asc h.asc)
  · obtain ⟨qs, h1, h2, h3, h4, h5, h6⟩ := key
    have front : ∀ u y, Bst ws one d u y → u ∈ keysE (fs.drop j) := fun u y b => by
      obtain ⟨l, hl, nl, _⟩ := b.way
      have hu := h.lv.all l u hl (by omega)
      rw [← List.take_append_drop j fs, keysE_app] at hu
      rcases List.mem_append.mp hu with hu | hu
      · obtain ⟨p, hp, rfl⟩ := List.mem_map.mp hu
        obtain ⟨d', y', lt, b'⟩ := h.old p hp
        have := (b.uniq b').1
        omega
      · exact hu
    have bq : ∀ q ∈ qs, ∃ y, Bst ws one d q.1 y ∧ Bst ws one (d + 1) q.2 (y ++ lasL q.2) := fun q hq => by
      obtain ⟨m1, m2⟩ := mem_pairsE.mp (h2.subset hq)
      obtain ⟨p, hp, e⟩ := List.mem_map.mp m1
      obtain ⟨y, b⟩ := h.new p hp
      rw [e] at b
      obtain ⟨v1, v2⟩ := mem_adjW.mp m2
      refine ⟨y, b, h.lv.next f v1 (h4 q hq) b v2 fun u' y' b' e' => ?_⟩
      rcases h6 q hq (u', q.2) (mem_pairsE.mpr ⟨front u' y' b', mem_adjW.mpr ⟨v1, e'⟩⟩) rfl with e2 | lt
      · have : u' = q.1 := congrArg Prod.fst e2
        subst this
        rw [(b.uniq b').2]; exact List.le_refl _
      · exact List.le_of_lt (lt y y' b b')
    have kn : keysE (qs.map fun q => (q.2, some q.1)) = qs.map (·.2) := by unfold keysE; rw [List.map_map]; rfl
    have ke : keysE (roundE (adjW ws) fs j) = keysE fs ++ qs.map (·.2) := by unfold roundE; rw [h1, keysE_app, kn]
    have er : roundE (adjW ws) fs j = fs ++ qs.map fun q => (q.2, some q.1) := h1
    refine ⟨?_, ?_, fun p hp => ?_, fun p hp => ?_, ?_, fun v hv => ?_⟩
    · rw [ke, List.nodup_append]
      refine ⟨h.nd, h3, fun a ha b hb e => ?_⟩
      obtain ⟨q, hq, rfl⟩ := List.mem_map.mp hb
      exact h4 q hq (e ▸ ha)
    · refine h.lv.grow (fun v hv => by rw [ke]; exact List.mem_append_left _ hv) (fun v hv => ?_) fun u y v b hv e => ?_
      · rw [ke] at hv
        rcases List.mem_append.mp hv with hv | hv
        · exact .inl hv
        · obtain ⟨q, hq, rfl⟩ := List.mem_map.mp hv
          obtain ⟨y, _, b⟩ := bq q hq
          exact .inr ⟨_, b⟩
      · rw [ke, List.mem_append]
        exact h5 (u, v) (mem_pairsE.mpr ⟨front u y b, mem_adjW.mpr ⟨hv, e⟩⟩)
    · rw [er, List.take_left] at hp
      obtain ⟨d', y, le, b⟩ := h.lv.each p.1 (List.mem_map.mpr ⟨p, hp, rfl⟩)
      exact ⟨d', y, by omega, b⟩
    · rw [er, List.drop_left] at hp
      obtain ⟨q, hq, rfl⟩ := List.mem_map.mp hp
      obtain ⟨y, _, b⟩ := bq q hq
      exact ⟨_, b⟩
    · rw [er, List.drop_left, kn, List.pairwise_map]
      refine (List.Pairwise.sublist h2 (pairs_asc f asc h.asc)).imp_of_mem fun {p q} hp hq lt y z b b' => ?_
      obtain ⟨y1, c1, c2⟩ := bq p hp
      obtain ⟨z1, e1, e2⟩ := bq q hq
      rw [(b.uniq c2).2, (b'.uniq e2).2]
      exact lt _ _ c1 e1
    · rw [ke] at hv
      have sub : ∀ p ∈ fs, p ∈ roundE (adjW ws) fs j := fun p hp => by rw [er]; exact List.mem_append_left _ hp
      rcases List.mem_append.mp hv with hv | hv
      · obtain ⟨l, d', t, w, n, nl, b⟩ := h.tr v hv
        exact ⟨l, d', t.mono sub, w, n, by rw [er, List.length_append]; omega, b⟩
      · obtain ⟨q, hq, rfl⟩ := List.mem_map.mp hv
        obtain ⟨y, b, b'⟩ := bq q hq
        obtain ⟨m1, m2⟩ := mem_pairsE.mp (h2.subset hq)
        obtain ⟨v1, v2⟩ := mem_adjW.mp m2
        obtain ⟨l, d', t, w, n, nl, bl⟩ := h.tr q.1 (by
          obtain ⟨p, hp, e⟩ := List.mem_map.mp m1
          rw [← e]
          exact List.mem_map.mpr ⟨p, List.mem_of_mem_drop hp, rfl⟩)
        obtain ⟨e1, e2⟩ := b.uniq bl
        subst e1
        refine ⟨l ++ [q.2], d + 1, .more (u := q.1) ?_ (t.mono sub), .more w v1 v2, by rw [List.length_append, n]; rfl, ?_, ?_⟩
        rotate_left
        · have := List.length_pos_of_mem hq
          rw [er, List.length_append, List.length_append, List.length_map, List.length_singleton]; omega
        · rw [txt_add w.ne, ← e2]; exact b'
        · rw [er]; exact List.mem_append_right _ (List.mem_map.mpr ⟨q, hq, rfl⟩)
/-- what reached tells from one window on -/
theorem way_of {R : List Ent} (f : Full ws) (asc : ws.Pairwise fun a b => tl a < tl b) (r : Run (adjW ws) [(one, none)] 0 R) :
    (keysE R).Nodup ∧ (∀ v ∈ keysE R, ∃ l d, Tr R v l ∧ Wk ws one l v ∧ l.length = d + 1 ∧ l.length ≤ R.length ∧ Bst ws one d v (txt l)) ∧ ∀ v, v ∉ keysE R → ∀ l, ¬ Wk ws one l v := by
  obtain ⟨d, h⟩ := r.inv (P := fun fs j => ∃ d, Fr ws one fs j d) (fun fs j ⟨d, h⟩ _ => ⟨d + 1, h.next f asc⟩) ⟨0, .start⟩
  refine ⟨h.nd, h.tr, fun v nv l hl => nv (h.lv.done (fun u y hu b => ?_) hl)⟩
  obtain ⟨p, hp, rfl⟩ := List.mem_map.mp hu
  obtain ⟨d', y', lt, b'⟩ := h.old p (by rw [List.take_length]; exact hp)
  have := (b.uniq b').1
  omega
end
end Tx

set_option Elab.async false
set_option linter.all false
set_option maxRecDepth 100000
set_option maxHeartbeats 1000000
namespace Tx
open PySem PySem.Spec PyProof.Rows L2 TL
/-! ### ways without a window twice -/
section
variable {ws : List Str} {one : Str}
theorem Wk.pre {l : List Str} {v x : Str} (h : Wk ws one l v) (hx : x ∈ l) : ∃ m, Wk ws one m x ∧ m.length ≤ l.length := by
  induction h with
  | one => exact ⟨[one], by rw [List.mem_singleton.mp hx]; exact .one, Nat.le_refl _⟩
  | @more l u v hw hv e ih =>
    rcases List.mem_append.mp hx with hx | hx
    · obtain ⟨m, hm, n⟩ := ih hx
      exact ⟨m, hm, by rw [List.length_append]; omega⟩
    · rw [List.mem_singleton.mp hx]
      exact ⟨_, .more hw hv e, Nat.le_refl _⟩
theorem Wk.simple {l : List Str} {v : Str} (h : Wk ws one l v) (s : ∀ m, Wk ws one m v → l.length ≤ m.length) : l.Nodup := by
  induction h with
  | one => exact List.nodup_cons.mpr ⟨by simp, List.nodup_nil⟩
  | @more l u v hw hv e ih =>
    rw [List.nodup_append]
    refine ⟨ih fun m hm => ?_, List.nodup_cons.mpr ⟨by simp, List.nodup_nil⟩, fun a ha b hb e2 => ?_⟩
    · have := s _ (.more hm hv e)
      rw [List.length_append, List.length_append] at this
      simpa using this
    · rw [List.mem_singleton.mp hb] at e2
      subst e2
      obtain ⟨m, hm, n⟩ := hw.pre ha
      have := s m hm
      rw [List.length_append, List.length_singleton] at this
      omega
theorem Wk.least {v : Str} : ∀ (n : Nat) (l : List Str), l.length ≤ n → Wk ws one l v → ∃ m, Wk ws one m v ∧ ∀ m', Wk ws one m' v → m.length ≤ m'.length
  | 0, l, hn, h => by have := h.pos; omega
  | n + 1, l, hn, h => by
    by_cases c : ∃ m, Wk ws one m v ∧ m.length < l.length
    · obtain ⟨m, hm, lt⟩ := c
      exact Wk.least n m (by omega) hm
    · exact ⟨l, h, fun m hm => Nat.le_of_not_lt fun lt => c ⟨m, hm, lt⟩⟩
/-- all ways of n + 1 steps without a window twice -/
structure Lay (ws : List Str) (one : Str) (n : Nat) (L : List (List Str)) : Prop where
  each : ∀ st ∈ L, st.Nodup ∧ st.length = n + 1 ∧ ∃ v, Wk ws one st v
  all : ∀ st v, Wk ws one st v → st.Nodup → st.length = n + 1 → st ∈ L
/-- all of n at most -/
structure Fdn (ws : List Str) (one : Str) (n : Nat) (F : List (List Str)) : Prop where
  each : ∀ st ∈ F, st.Nodup ∧ ∃ v, Wk ws one st v
  all : ∀ st v, Wk ws one st v → st.Nodup → st.length ≤ n → st ∈ F
theorem Lay.start : Lay ws one 0 [[one]] := ⟨fun st h => by
    rw [List.mem_singleton.mp h]
    exact ⟨List.nodup_cons.mpr ⟨by simp, List.nodup_nil⟩, rfl, one, .one⟩, fun st v h _ n => by
    obtain ⟨rfl, _⟩ := h.one_of (by omega)
    exact List.mem_singleton.mpr rfl⟩
theorem Fdn.start : Fdn ws one 0 [] := ⟨fun st h => (by cases h), fun st v h _ n => (by have := h.pos; omega)⟩
theorem Fdn.more {n : Nat} {F L : List (List Str)} (f : Fdn ws one n F) (l : Lay ws one n L) : Fdn ws one (n + 1) (F ++ L) := by
  refine ⟨fun st h => ?_, fun st v h nd le => ?_⟩
  · rcases List.mem_append.mp h with h | h
    · exact f.each st h
    · obtain ⟨a, _, b⟩ := l.each st h
      exact ⟨a, b⟩
  · by_cases c : st.length ≤ n
    · exact List.mem_append_left _ (f.all st v h nd c)
    · exact List.mem_append_right _ (l.all st v h nd (by omega))
theorem Lay.next {n : Nat} {L T : List (List Str)} (l : Lay ws one n L) (t1 : ∀ st ∈ T, ∃ m u v, st = m ++ [v] ∧ m ∈ L ∧ m.getLast? = some u ∧ v ∈ ws ∧ iniS v = taiS u ∧ v ∉ m)
    (t2 : ∀ m ∈ L, ∀ u v, m.getLast? = some u → v ∈ ws → iniS v = taiS u → v ∉ m → m ++ [v] ∈ T) : Lay ws one (n + 1) T := by
  refine ⟨fun st h => ?_, fun st v h nd le => ?_⟩
  · obtain ⟨m, u, v, rfl, hm, lu, hv, e, nv⟩ := t1 st h
    obtain ⟨a, b, x, hx⟩ := l.each m hm
    have : u = x := Option.some.inj (lu.symm.trans hx.last)
    subst this
    refine ⟨?_, by rw [List.length_append, b]; rfl, v, .more hx hv e⟩
    rw [List.nodup_append]
    exact ⟨a, List.nodup_cons.mpr ⟨by simp, List.nodup_nil⟩, fun y hy z hz e2 => nv (by rw [← List.mem_singleton.mp hz, ← e2]; exact hy)⟩
  · obtain ⟨m, u, rfl, hm, hv, e⟩ := h.inv (by omega)
    rw [List.nodup_append] at nd
    refine t2 m (l.all m u hm nd.1 ?_) u v hm.last hv e fun hx => nd.2.2 v hx v (List.mem_singleton.mpr rfl) rfl
    rw [List.length_append, List.length_singleton] at le
    omega
theorem Lay.done {n : Nat} {F : List (List Str)} (f : Fdn ws one n F) (l : Lay ws one n []) (st : List Str) (v : Str) (h : Wk ws one st v) (nd : st.Nodup) : st ∈ F := by
  have key : ∀ (st : List Str) (v : Str), Wk ws one st v → st.Nodup → st.length ≤ n := fun st v h => by
    induction h with
    | one =>
      intro nd
      refine Nat.le_of_not_lt fun lt => ?_
      have : n = 0 := by simp at lt; omega
      subst this
      cases l.all _ _ .one nd rfl
    | @more m u v hw hv e ih =>
      intro nd
      have nm := (List.nodup_append.mp nd).1
      have := ih nm
      refine Nat.le_of_not_lt fun lt => ?_
      have e1 : (m ++ [v]).length = n + 1 := by rw [List.length_append, List.length_singleton] at lt ⊢; omega
      cases l.all _ _ (.more hw hv e) nd e1
  exact f.all st v h nd (key st v h nd)
/-- of all ways without a window twice the least, by length and text, is the way -/
theorem first_of (f : Full ws) {xss : List (List Str)} {other : Str} (h1 : ∀ st ∈ xss, ∃ v, Wk ws one st v) (h2 : ∀ st v, Wk ws one st v → st.Nodup → st ∈ xss) {st : List Str} (hst : st ∈ xss) (e : st.getLast? = some other)
    (le : ∀ s' ∈ xss, s'.getLast? = some other → pltB ((txt s').length, mkS (txt s')) ((txt st).length, mkS (txt st)) = false) : ∃ d, Bst ws one d other (txt st) ∧ st.length = d + 1 := by
  obtain ⟨v, hv⟩ := h1 st hst
  have : v = other := Option.some.inj (hv.last.symm.trans e)
  subst this
  have p := hv.pos
  have lv := hv.len f
  have sh : ∀ l, Wk ws one l v → st.length ≤ l.length := fun l hl => by
    obtain ⟨m, hm, sm⟩ := Wk.least l.length l (Nat.le_refl _) hl
    have := le m (h2 m v hm (hm.simple sm)) hm.last
    have lm := hm.len f
    have ml := sm l hl
    unfold pltB at this
    simp only at this
    refine Nat.le_of_not_lt fun lt => ?_
    rw [if_neg (by omega)] at this
    have := of_decide_eq_false this
    omega
  refine ⟨st.length - 1, ⟨⟨st, hv, by omega, rfl⟩, fun l hl => by have := sh l hl; omega, fun l hl n => ?_⟩, by omega⟩
  have := le l (h2 l v hl (hl.simple fun m hm => by have := sh m hm; omega)) hl.last
  have ll := hl.len f
  unfold pltB at this
  simp only at this
  rw [if_pos (by omega)] at this
  exact List.not_lt.mp (of_decide_eq_false this)
end
/-! ### lists of lists of texts -/
def LLs (H : Hp) : List Addr → List (List Str) → Prop
  | [], [] => True
  | a :: as, xs :: xss => H a = some (.lst (xs.map V.str)) ∧ LLs H as xss
  | _, _ => False
theorem LLs.len {H : Hp} : ∀ {as : List Addr} {xss : List (List Str)}, LLs H as xss → as.length = xss.length
  | [], [], _ => rfl
  | _ :: _, _ :: _, ⟨_, r⟩ => by rw [List.length_cons, List.length_cons, LLs.len r]
theorem LLs.at' {H : Hp} : ∀ {as : List Addr} {xss : List (List Str)}, LLs H as xss → ∀ {i : Nat} {a : Addr}, as[i]? = some a → ∃ xs, xss[i]? = some xs ∧ H a = some (.lst (xs.map V.str))
  | [], [], _, i, a, h => by simp at h
  | b :: as, xs :: xss, ⟨e, r⟩, 0, a, h => by
    have : b = a := Option.some.inj h
    subst this
    exact ⟨xs, rfl, e⟩
  | b :: as, xs :: xss, ⟨e, r⟩, i + 1, a, h => LLs.at' r (i := i) h
theorem LLs.same {H H' : Hp} (s : Same H H') : ∀ {as : List Addr} {xss : List (List Str)}, LLs H as xss → LLs H' as xss
  | [], [], _ => trivial
  | _ :: _, _ :: _, ⟨e, r⟩ => ⟨s _ _ e, LLs.same s r⟩
theorem LLs.snoc {H : Hp} {a : Addr} {xs : List Str} (e : H a = some (.lst (xs.map V.str))) : ∀ {as : List Addr} {xss : List (List Str)}, LLs H as xss → LLs H (as ++ [a]) (xss ++ [xs])
  | [], [], _ => ⟨e, trivial⟩
  | _ :: _, _ :: _, ⟨e', r⟩ => ⟨e', LLs.snoc e r⟩
theorem LLs.app {H : Hp} {bs : List Addr} {yss : List (List Str)} (k : LLs H bs yss) : ∀ {as : List Addr} {xss : List (List Str)}, LLs H as xss → LLs H (as ++ bs) (xss ++ yss)
  | [], [], _ => k
  | _ :: _, _ :: _, ⟨e', r⟩ => ⟨e', LLs.app k r⟩
theorem LLs.keep {H : Hp} {t : Addr} {o : HO} : ∀ {as : List Addr} {xss : List (List Str)}, LLs H as xss → (∀ a ∈ as, a ≠ t) → LLs (upd H t o) as xss
  | [], [], _, _ => trivial
  | a :: _, _ :: _, ⟨e, r⟩, n => ⟨by rw [upd_ne (n a (List.mem_cons_self ..))]; exact e, LLs.keep r fun b hb => n b (List.mem_cons_of_mem _ hb)⟩
def lldata (xss : List (List Str)) : List PyData := xss.map fun xs => .list (xs.map PyData.str)
theorem dp_lls {K : PySem.W.Frag} {H : Hp} : ∀ {as : List Addr} {xss : List (List Str)}, LLs H as xss → DpAll K H (as.map V.ref) (lldata xss)
  | [], [], _ => .nil
  | _ :: _, _ :: _, ⟨e, r⟩ => .cons (dp_strs e) (dp_lls r)
theorem lay_lls : ∀ xss : List (List Str), (∀ xs ∈ xss, ∀ z ∈ xs, Low z) → PyData.canLayAll0 (lldata xss) = true ∧ PyData.depthAll (lldata xss) ≤ 1
  | [], _ => ⟨rfl, Nat.zero_le _⟩
  | xs :: xss, h => by
    have ih := lay_lls xss fun ys hy => h ys (List.mem_cons_of_mem _ hy)
    have l := lay_strs xs (h xs (List.mem_cons_self ..))
    unfold lldata at ih ⊢
    simp only [List.map_cons, PyData.canLayAll0, PyData.depthAll, PyData.canLay0, PyData.depth, ih.1, l.1, l.2]
    refine ⟨rfl, ?_⟩
    have := ih.2
    omega
theorem shaped_lls {xss : List (List Str)} (h : ∀ xs ∈ xss, ∀ z ∈ xs, Low z) : SeqAt.shaped (.list (lldata xss)) = true := by
  unfold SeqAt.shaped
  obtain ⟨a, b⟩ := lay_lls xss h
  simp only [PyData.canLay0, PyData.depth, a, Bool.true_and]
  exact decide_eq_true (by omega)
theorem eqv_lls0 (xss : List (List Str)) : PyData.eqv (.list (lldata xss)) (.list []) = decide (xss = []) := by
  cases xss with
  | nil => rfl
  | cons x xs => simp [lldata, PyData.eqv, PyData.eqvAll]
section
open L2
variable {X : Cx} (K : PySem.W.Frag)
theorem pg_unlK {es : List Expr} {k : Nat} {t : TGs} {n : Nat} {pos : Pos} (h : X.K = K) (hc : X.calm = true) (hg : PGs X es t) (hn : (assignEach es X.env).length = n := by rfl) (hst : (assignEach es X.env).findIdx? (·.1) = none := by rfl) : PG X (.Tuple es k pos) (gUnl K n t) := by subst h; exact pg_unl hc hg hn hst
theorem pi_listK {tg l : Expr} {tl : TE} (h : X.K = K) (hl : PE X l tl) : PI X tg l (iList K tl) := by subst h; exact pi_list hl
theorem pi_tupK {tg l : Expr} {tl : TE} (h : X.K = K) (hl : PE X l tl) : PI X tg l (iTup K tl) := by subst h; exact pi_tup hl
end
end Tx

set_option Elab.async false
set_option linter.all false
set_option maxRecDepth 100000
set_option maxHeartbeats 1000000
namespace Tx
open PySem PySem.Spec PyProof.Rows L2 TL
/-! ### all that is reached -/
inductive RT (adj : Str → List Str) (s : Str) : Str → Prop
  | here : RT adj s s
  | step {u v : Str} : RT adj s u → v ∈ adj u → RT adj s v
theorem RT.trans {adj : Str → List Str} {a b c : Str} (h : RT adj a b) (k : RT adj b c) : RT adj a c := by
  induction k with
  | here => exact h
  | step _ hv ih => exact .step ih hv
theorem RT.closed {adj : Str → List Str} {a b : Str} {S : Str → Prop} (h : RT adj a b) (s : S a) (c : ∀ u, S u → ∀ v ∈ adj u, S v) : S b := by
  induction h with
  | here => exact s
  | step _ hv ih => exact c _ ih _ hv
/-- links are followed along l, from s on -/
inductive Ch (adj : Str → List Str) : List Str → Str → Str → Prop
  | one (s : Str) : Ch adj [s] s s
  | more {l : List Str} {s u v : Str} : Ch adj l s u → v ∈ adj u → Ch adj (l ++ [v]) s v
structure RInv (adj : Str → List Str) (ss : List Str) (fs : List Ent) (j : Nat) : Prop where
  nd : (keysE fs).Nodup
  jl : j ≤ fs.length
  st : ∀ s ∈ ss, s ∈ keysE fs
  cl : ∀ p ∈ fs.take j, ∀ v ∈ adj p.1, v ∈ keysE fs
  tr : ∀ v ∈ keysE fs, ∃ l s, s ∈ ss ∧ Tr fs v l ∧ Ch adj l s v ∧ l.length ≤ fs.length
theorem Ch.rt {adj : Str → List Str} {l : List Str} {s v : Str} (h : Ch adj l s v) : RT adj s v := by
  induction h with
  | one => exact .here
  | more _ hv ih => exact .step ih hv
theorem RInv.start {adj : Str → List Str} {ss : List Str} (nd : ss.Nodup) : RInv adj ss (ss.map fun s => (s, none)) 0 := by
  have k : keysE (ss.map fun s => ((s, none) : Ent)) = ss := by unfold keysE; rw [List.map_map]; exact List.map_id' ss
  refine ⟨by rw [k]; exact nd, Nat.zero_le _, by rw [k]; exact fun _ h => h, fun p h => (by rw [List.take_zero] at h; cases h), fun v hv => ?_⟩
  rw [k] at hv
  refine ⟨[v], v, hv, .start (List.mem_map.mpr ⟨v, hv, rfl⟩), .one v, ?_⟩
  rw [List.length_map]; exact List.length_pos_of_mem hv
theorem RInv.next {adj : Str → List Str} {ss : List Str} {fs : List Ent} {j : Nat} (h : RInv adj ss fs j) : RInv adj ss (roundE adj fs j) fs.length := by
  obtain ⟨qs, h1, h2, h3, h4, h5, _⟩ := fold_add (fun _ _ => True) (pairsE adj (keysE (fs.drop j))) fs (List.pairwise_of_forall fun _ _ => trivial)
  have er : roundE adj fs j = fs ++ qs.map fun q => (q.2, some q.1) := h1
  have kn : keysE (qs.map fun q => (q.2, some q.1)) = qs.map (·.2) := by unfold keysE; rw [List.map_map]; rfl
  have ke : keysE (roundE adj fs j) = keysE fs ++ qs.map (·.2) := by rw [er, keysE_app, kn]
  have sub : ∀ p ∈ fs, p ∈ roundE adj fs j := fun p hp => by rw [er]; exact List.mem_append_left _ hp
  refine ⟨?_, by rw [er, List.length_append]; omega, fun s hs => by rw [ke]; exact List.mem_append_left _ (h.st s hs), fun p hp v hv => ?_, fun v hv => ?_⟩
  · rw [ke, List.nodup_append]
    refine ⟨h.nd, h3, fun a ha b hb e => ?_⟩
    obtain ⟨q, hq, rfl⟩ := List.mem_map.mp hb
    exact h4 q hq (e ▸ ha)
  · rw [er, List.take_left] at hp
    rw [ke, List.mem_append]
    rw [← List.take_append_drop j fs] at hp
    rcases List.mem_append.mp hp with hp | hp
    · exact .inl (h.cl p hp v hv)
    · exact h5 (p.1, v) (mem_pairsE.mpr ⟨List.mem_map.mpr ⟨p, hp, rfl⟩, hv⟩)
  · rw [ke] at hv
    rcases List.mem_append.mp hv with hv | hv
    · obtain ⟨l, s, hs, t, c, n⟩ := h.tr v hv
      exact ⟨l, s, hs, t.mono sub, c, by rw [er, List.length_append]; omega⟩
    · obtain ⟨q, hq, rfl⟩ := List.mem_map.mp hv
      obtain ⟨m1, m2⟩ := mem_pairsE.mp (h2.subset hq)
      obtain ⟨l, s, hs, t, c, n⟩ := h.tr q.1 (by
        obtain ⟨p, hp, e⟩ := List.mem_map.mp m1
        rw [← e]
        exact List.mem_map.mpr ⟨p, List.mem_of_mem_drop hp, rfl⟩)
      have := List.length_pos_of_mem hq
      refine ⟨l ++ [q.2], s, hs, .more (u := q.1) (by rw [er]; exact List.mem_append_right _ (List.mem_map.mpr ⟨q, hq, rfl⟩)) (t.mono sub), .more c m2, ?_⟩
      rw [er, List.length_append, List.length_append, List.length_map, List.length_singleton]; omega
/-- what reached tells: all that the starts lead to, each with a way -/
theorem run_all {adj : Str → List Str} {ss : List Str} {R : List Ent} (nd : ss.Nodup) (r : Run adj (ss.map fun s => (s, none)) 0 R) :
    (keysE R).Nodup ∧ (∀ v, v ∈ keysE R ↔ ∃ s ∈ ss, RT adj s v) ∧ (∀ v ∈ keysE R, ∃ l s, s ∈ ss ∧ Tr R v l ∧ Ch adj l s v ∧ l.length ≤ R.length) ∧ ∀ u ∈ keysE R, ∀ v ∈ adj u, v ∈ keysE R := by
  have h := r.inv (P := fun fs j => RInv adj ss fs j) (fun fs j h _ => h.next) (RInv.start nd)
  have cl : ∀ u ∈ keysE R, ∀ v ∈ adj u, v ∈ keysE R := fun u hu v hv => by
    obtain ⟨p, hp, rfl⟩ := List.mem_map.mp hu
    exact h.cl p (by rw [List.take_length]; exact hp) v hv
  refine ⟨h.nd, fun v => ⟨fun hv => ?_, fun ⟨s, hs, rt⟩ => rt.closed (h.st s hs) cl⟩, h.tr, cl⟩
  obtain ⟨l, s, hs, _, c, _⟩ := h.tr v hv
  exact ⟨s, hs, c.rt⟩
/-! ### places and closed lots -/
def begW (ws : List Str) (p : Str) : List Str := ws.filter fun v => decide (iniS v = p)
theorem mem_begW {ws : List Str} {p v : Str} : v ∈ begW ws p ↔ v ∈ ws ∧ iniS v = p := by unfold begW; rw [List.mem_filter, decide_eq_true_iff]
def adjP (ws : List Str) (p : Str) : List Str := (begW ws p).map taiS
theorem mem_adjP {ws : List Str} {p x : Str} : x ∈ adjP ws p ↔ ∃ v ∈ ws, iniS v = p ∧ taiS v = x := by
  unfold adjP
  rw [List.mem_map]
  constructor
  · rintro ⟨v, hv, e⟩
    obtain ⟨h1, h2⟩ := mem_begW.mp hv
    exact ⟨v, h1, h2, e⟩
  · rintro ⟨v, h1, h2, e⟩
    exact ⟨v, mem_begW.mpr ⟨h1, h2⟩, e⟩
theorem rt_path {ws : List Str} {a b : Str} : RT (adjP ws) a b ↔ Path ws a b := by
  constructor
  · intro h
    induction h with
    | here => exact .here a
    | step _ hv ih =>
      obtain ⟨x, hx, e, rfl⟩ := mem_adjP.mp hv
      subst e
      exact .step ih hx
  · intro h
    induction h with
    | here => exact .here
    | step _ hv ih => exact .step ih (mem_adjP.mpr ⟨_, hv, rfl, rfl⟩)
/-- a lot of places out of which no window leads -/
structure IsLot (ws lot : List Str) : Prop where
  asc : lot.Pairwise fun a b => tl a < tl b
  ne : lot ≠ []
  pl : ∀ x ∈ lot, x ∈ placesL ws
  out : ∃ x ∈ placesL ws, x ∉ lot
  cl : ∀ v ∈ ws, iniS v ∈ lot → taiS v ∈ lot
theorem IsLot.not {ws lot : List Str} (h : IsLot ws lot) : ¬ Joined ws := fun j => by
  obtain ⟨s, hs⟩ := List.exists_mem_of_ne_nil lot h.ne
  obtain ⟨x, hx, n⟩ := h.out
  exact n ((j s (h.pl s hs) x hx).closed hs fun v hv => h.cl v hv)
/-- the links the other way -/
def Rev (ns : List Str) (adj adj' : Str → List Str) : Prop := ∀ x ∈ ns, ∀ y, y ∈ adj' x ↔ y ∈ ns ∧ x ∈ adj y
theorem rt_rev {ns : List Str} {adj adj' : Str → List Str} (rv : Rev ns adj adj') (clo : ∀ x ∈ ns, ∀ y ∈ adj x, y ∈ ns) {a b : Str} (ha : a ∈ ns) : RT adj' a b ↔ b ∈ ns ∧ RT adj b a := by
  constructor
  · intro h
    induction h with
    | here => exact ⟨ha, .here⟩
    | step _ hv ih =>
      obtain ⟨h1, h2⟩ := (rv _ ih.1 _).mp hv
      exact ⟨h1, (RT.step .here h2).trans ih.2⟩
  · rintro ⟨hb, h⟩
    have key : ∀ c, RT adj b c → c ∈ ns → RT adj' c b ∧ c ∈ ns := fun c h hc => by
      induction h with
      | here => exact ⟨.here, hb⟩
      | @step u v hu hv ih =>
        have un : u ∈ ns := hu.closed (S := fun x => x ∈ ns) hb clo
        exact ⟨(RT.step .here ((rv v hc u).mpr ⟨un, hv⟩)).trans (ih un).1, hc⟩
    exact (key a h ha).1
end Tx

set_option Elab.async false
set_option linter.all false
set_option maxRecDepth 100000
set_option maxHeartbeats 1000000
namespace Tx
open PySem PySem.Spec PyProof.Rows L2 TL
def topS (i : Nat) : Stmt := PySem.Challenge.pw_surepieces_k04_first_shortest_pieces_bet.main.body.getD i (.Pass ⟨0, 0, 0, 0⟩)
section
variable {P : Program} {w : World} {K : PySem.W.Frag} {mg : Str → Option Value} {base : Heap}
abbrev st_is_whole : Stmt := topS 2
theorem sc_is_whole : FnScope ["value"] ["value"] (defScope st_is_whole) := ⟨rfl, rfl, rfl, by decide +kernel, rfl, by decide +kernel, by decide +kernel⟩
theorem pl_is_whole : PlainB "is_whole" st_is_whole ["value"] := fun _ _ _ _ _ _ us hl => match us, hl with | [_], _ => rfl
/-- of an int: True -/
def spWhole : Sp := fun vs H Q _ => ∃ i, vs = [.int i] ∧ Q (.bl true) H
theorem ok_is_whole (T : Top K mg "is_whole" st_is_whole) (B : Bt mg) : Dn P w K mg base 1 "is_whole" st_is_whole ["value"] spWhole := by
  refine dn_of T sc_is_whole pl_is_whole (fun vs H Q E h => ?_) fun f cdv A outer s H vs Q E hr h => ?_
  · obtain ⟨i, rfl, _⟩ := h; rfl
  · obtain ⟨i, rfl, q⟩ := h
    refine ⟨_, (pss_one (ps_ret (pe_and (pe_callB (isiK K rfl) (by rfl) B.isi (by decide +kernel) (pa_cons (pv 0) (pa_cons (pe_bltn (v := .ty "int") (by rfl) B.int (by decide +kernel) rfl) pa_nil))) (pe_one (pe_not (pe_callB (isiK K rfl) (by rfl) B.isi (by decide +kernel) (pa_cons (pv 0) (pa_cons (pe_bltn (v := .ty "bool") (by rfl) B.bool (by decide +kernel) rfl) pa_nil)))))))), ?_⟩
    refine ⟨_, rfl, .int i, .ty "int", _, _, true, rfl, .ty _, .base (.int i), kit_ty (by decide +kernel), true, rfl, iteT ?_⟩
    exact ⟨_, rfl, .int i, .ty "bool", _, _, false, rfl, .ty _, .base (.int i), kit_ty (by decide +kernel), false, rfl, q⟩
abbrev st_is_letters : Stmt := topS 3
theorem sc_is_letters : FnScope ["value", "letter"] ["value"] (defScope st_is_letters) := ⟨rfl, rfl, rfl, by decide +kernel, rfl, by decide +kernel, by decide +kernel⟩
theorem pl_is_letters : PlainB "is_letters" st_is_letters ["value"] := fun _ _ _ _ _ _ us hl => match us, hl with | [_], _ => rfl
/-- of a text of small letters: True -/
def spLow : Sp := fun vs H Q _ => ∃ z, vs = [.str z] ∧ Low z ∧ z.length ≤ 100000 ∧ ∀ H', Same H H' → Q (.bl true) H'
theorem ok_is_letters (T : Top K mg "is_letters" st_is_letters) (B : Bt mg) : Dn P w K mg base 1 "is_letters" st_is_letters ["value"] spLow := by
  refine dn_of T sc_is_letters pl_is_letters (fun vs H Q E h => ?_) fun f cdv A outer s H vs Q E hr h => ?_
  · obtain ⟨z, rfl, _⟩ := h; rfl
  · obtain ⟨z, rfl, lo, hz, q⟩ := h
    refine ⟨_, (pss_one (ps_ret (pe_and (pe_callB (isiK K rfl) (by rfl) B.isi (by decide +kernel) (pa_cons (pv 0) (pa_cons (pe_bltn (v := .ty "str") (by rfl) B.str (by decide +kernel) rfl) pa_nil))) (pe_one (pe_callB (allK K rfl rfl) (by rfl) B.all (by decide +kernel) (pa_cons (pe_lc (own := [("letter", 1)]) (g := gName 1) rfl sc_is_letters.nd (pi_str (pv 0)) (blkOk_by (N := ["value", "letter"]) (sc := defScope st_is_letters) (by decide +kernel)) (fun _ _ _ _ _ => (pg_name (i := 1) sc_is_letters.nd rfl (.inl rfl))) (fun _ _ _ _ _ => pts_nil) (fun _ _ _ _ _ => (pe_chain op_le_str op_le_str pe_str (pv 1) pe_str))) pa_nil)))))), ?_⟩
    refine ⟨_, rfl, .str z, .ty "str", _, _, true, rfl, .ty _, .base (.str z), kit_ty (by decide +kernel), true, rfl, iteT ?_⟩
    refine ⟨_, rfl, z, rfl, fun D hD => lc_text (fun i H' => Same H H' ∧ H' D = some (.lst ((List.range i).map fun _ => V.bl true))) ⟨same_upd hD, upd_same⟩ (fun i c H' hc ⟨sm, e⟩ => ?_) fun H' ⟨sm, e⟩ => ?_⟩
    · have hl := lo c (List.mem_of_getElem? hc)
      have lt := (List.getElem?_eq_some_iff.mp hc).1
      rw [← len_tl] at lt
      refine ⟨rfl, lc_yes ?_⟩
      refine ⟨_, rfl, _, _, rfl, rfl, _, rfl, ?_⟩
      rw [low_a hl.1]
      refine iteT ?_
      refine ⟨_, _, rfl, rfl, _, e, grown_len _ lt (by omega), wr sm hD, ?_⟩
      rw [upd_same, low_z hl.2, grown (fun _ => V.bl true)]
    · refine ⟨D, List.replicate z.cps.size true, rfl, .inl (.inl ?_), ?_⟩
      · rw [e, trues]
      · rw [all_trues]
        exact q _ sm
abbrev st_is_size : Stmt := topS 15
theorem sc_is_size : FnScope ["value"] ["value"] (defScope st_is_size) := ⟨rfl, rfl, rfl, by decide +kernel, rfl, by decide +kernel, by decide +kernel⟩
theorem pl_is_size : PlainB "is_size" st_is_size ["value"] := fun _ _ _ _ _ _ us hl => match us, hl with | [_], _ => rfl
def spSize : Sp := fun vs H Q _ => ∃ n : Nat, vs = [.int n] ∧ 2 ≤ n ∧ n ≤ 6 ∧ Q (.bl true) H
theorem ok_is_size (T : Top K mg "is_size" st_is_size) (D_is_whole : Dn P w K mg base 1 "is_whole" st_is_whole ["value"] spWhole) : Dn P w K mg base 2 "is_size" st_is_size ["value"] spSize := by
  refine dn_of T sc_is_size pl_is_size (fun vs H Q E h => ?_) fun f cdv A outer s H vs Q E hr h => ?_
  · obtain ⟨n, rfl, _⟩ := h; rfl
  · obtain ⟨n, rfl, h2, h6, q⟩ := h
    refine ⟨_, (pss_one (ps_ret (pe_and (pe_fn D_is_whole (hr.mono (by decide)) (by rfl) (pa_cons (pv 0) pa_nil)) (pe_one (pe_chain op_le op_le pe_int (pv 0) pe_int))))), ?_⟩
    refine ⟨_, rfl, _, rfl, _, rfl, ?_⟩
    refine iteT ?_
    refine ⟨_, rfl, _, _, rfl, rfl, _, rfl, ?_⟩
    rw [decide_eq_true (show (2 : Int) ≤ (n : Int) by omega)]
    refine iteT ?_
    refine ⟨_, _, rfl, rfl, ?_⟩
    show Q (.bl (decide ((n : Int) ≤ 6))) H
    rw [decide_eq_true (show (n : Int) ≤ 6 by omega)]
    exact q
end
end Tx

set_option Elab.async false
set_option linter.all false
set_option maxRecDepth 100000
set_option maxHeartbeats 1000000
namespace Tx
open PySem PySem.Spec PyProof.Rows L2 TL
section
variable {P : Program} {w : World} {K : PySem.W.Frag} {mg : Str → Option Value} {base : Heap}
abbrev Wf (P : Program) (w : World) (K : PySem.W.Frag) (mg : Str → Option Value) (base : Heap) := True
theorem steps_len (n : Nat) (l : List Nat) : (steps n l).length = l.length + 1 - n := by
  unfold steps; rw [List.length_map, List.length_range]
theorem low_unroll {z : Str} (lo : Low z) (h : 1 ≤ z.length) (m : Nat) : Low (mkS (unroll (tl z) m)) := by
  intro c hc
  rw [tl_mkS] at hc
  obtain ⟨i, hi⟩ := List.getElem?_of_mem hc
  have hl : 0 < (tl z).length := by rw [← len_tl]; omega
  have lt : i < (tl z).length + m := by
    have := (List.getElem?_eq_some_iff.mp hi).1
    rwa [unroll_len _ hl] at this
  rw [unroll_get _ hl _ _ lt] at hi
  exact lo c (List.mem_of_getElem? hi)
end
end Tx

set_option Elab.async false
set_option linter.all false
set_option maxRecDepth 100000
set_option maxHeartbeats 1000000
namespace Tx
open PySem PySem.Spec PyProof.Rows L2 TL
/-- the draws' list at p, at most n draws from it so far -/
def Src (H : Hp) (p : Addr) (n : Nat) : Prop := ∃ a b c : Int, H p = some (.lst [.int a, .int b, .int c]) ∧ 0 ≤ b ∧ b < 10 ^ 30 ∧ 0 ≤ c ∧ c ≤ n
/-- all but p is as it was -/
def But (p : Addr) (H H' : Hp) : Prop := ∀ b o, H b = some o → b ≠ p → H' b = some o
theorem But.refl {p : Addr} {H : Hp} : But p H H := fun _ _ e _ => e
theorem But.trans {p : Addr} {H H1 H2 : Hp} (a : But p H H1) (b : But p H1 H2) : But p H H2 := fun c o e n => b c o (a c o e n) n
theorem But.same {p : Addr} {H H1 H2 : Hp} (a : But p H H1) (b : Same H1 H2) : But p H H2 := fun c o e n => b c o (a c o e n)
theorem Same.but {p : Addr} {H H1 : Hp} (a : Same H H1) : But p H H1 := fun c o e _ => a c o e
theorem But.upd {p : Addr} {H : Hp} {o : HO} : But p H (upd H p o) := fun c u e n => by rw [upd_ne n]; exact e
theorem Src.same {H H' : Hp} {p : Addr} {n : Nat} (s : Src H p n) (k : Same H H') : Src H' p n := let ⟨a, b, c, e, r⟩ := s; ⟨a, b, c, k _ _ e, r⟩
theorem Src.mono {H : Hp} {p : Addr} {n m : Nat} (s : Src H p n) (h : n ≤ m) : Src H p m := let ⟨a, b, c, e, h1, h2, h3, h4⟩ := s; ⟨a, b, c, e, h1, h2, h3, by omega⟩
theorem Src.at {H : Hp} {p : Addr} {n : Nat} (s : Src H p n) : ∃ o, H p = some o := let ⟨_, _, _, e, _⟩ := s; ⟨_, e⟩
/-- a new object is none of what was -/
theorem But.free {p q : Addr} {H H' : Hp} (k : But p H H') (hp : ∃ o, H' p = some o) (h : H' q = none) : H q = none := by
  cases e : H q with
  | none => rfl
  | some o =>
    by_cases c : q = p
    · subst c; obtain ⟨u, hu⟩ := hp; rw [hu] at h; cases h
    · rw [k q o e c] at h; cases h
theorem Src.new {H : Hp} {p q : Addr} {n : Nat} {o : HO} (s : Src H p n) (h : H q = none) : Src (upd H q o) p n := s.same (same_upd h)
section
variable {P : Program} {w : World} {K : PySem.W.Frag} {mg : Str → Option Value} {base : Heap}
theorem fmod_bd {i j : Int} (h : 0 < j) : 0 ≤ i.fmod j ∧ i.fmod j < j := ⟨Int.fmod_nonneg_of_pos _ h, Int.fmod_lt_of_pos _ h⟩
theorem nat_lt {i : Int} {k : Nat} (h0 : 0 ≤ i) (h : i < 2 ^ k) : i.natAbs < 2 ^ k := by
  have e : (i.natAbs : Int) = i := Int.natAbs_of_nonneg h0
  have e2 : ((2 ^ k : Nat) : Int) = (2 : Int) ^ k := by rw [Int.natCast_pow]; rfl
  omega
theorem at0 {x y z : V} : atI [x, y, z] 0 = some x := rfl
theorem at1 {x y z : V} : atI [x, y, z] 1 = some y := rfl
theorem at2 {x y z : V} : atI [x, y, z] 2 = some z := rfl
abbrev st_law_pick : Stmt := topS 22
theorem sc_law_pick : FnScope ["source", "top", "found", "mixed"] ["source", "top"] (defScope st_law_pick) := ⟨rfl, rfl, rfl, by decide +kernel, rfl, by decide +kernel, by decide +kernel⟩
theorem pl_law_pick : PlainB "_law_pick" st_law_pick ["source", "top"] := fun _ _ _ _ _ _ us hl => match us, hl with | [_, _], _ => rfl
/-- a number below top -/
def spPick : Sp := fun vs H Q _ => ∃ (p : Addr) (top : Int) (n : Nat), vs = [.ref p, .int top] ∧ Src H p n ∧ n ≤ 1000000000 ∧ 1 ≤ top ∧ top ≤ 1000000000 ∧ ∀ r H', 0 ≤ r → r < top → Src H' p (n + 1) → But p H H' → Q (.int r) H'
theorem ok_law_pick (T : Top K mg "_law_pick" st_law_pick) (B : Bt mg) : Dn P w K mg base 1 "_law_pick" st_law_pick ["source", "top"] spPick := by
  refine dn_of T sc_law_pick pl_law_pick (fun vs H Q E h => ?_) fun f cdv A outer s H vs Q E hr h => ?_
  · obtain ⟨n, z, _, rfl, _⟩ := h; rfl
  · obtain ⟨p, top, n, rfl, ⟨a, b, c, e, b0, b1, c0, c1⟩, hn, t1, t2, q⟩ := h
    have sq : SqL K H p [.int a, .int b, .int c] := .inl (.inl e)
    refine ⟨_, (pss_cons (ps_if (pt_cmpR op_gt (pe_ix (ixK K rfl) (pv 0) pe_int (fun _ _ => rfl)) pe_int (nomark _)) (pss_cons (ps_set (i := 2) sc_law_pick.nd rfl (.inl rfl) (pe_op op_modN (pe_callTy call_int1 (by rfl) B.int (by decide +kernel) (pa_cons (pe_ix (ixK K rfl) (pv 0) pe_int (fun _ _ => rfl)) pa_nil)) (pv 1)))
      (pss_cons (ps_asg (pe_op op_fdivN (pe_ix (ixK K rfl) (pv 0) pe_int (fun _ _ => rfl)) (pv 1)) (pg_sub (pv 0) pe_int set_list))
      (pss_one (ps_ret (pv 2))))) pss_nil)
      (pss_cons (ps_asg (pe_op op_add (pe_ix (ixK K rfl) (pv 0) pe_int (fun _ _ => rfl)) pe_int) (pg_sub (pv 0) pe_int set_list))
      (pss_cons (ps_set (i := 3) sc_law_pick.nd rfl (.inl rfl) (pe_op op_modN (pe_callTy call_int1 (by rfl) B.int (by decide +kernel) (pa_cons (pe_op op_add (pe_op op_add (pe_ix (ixK K rfl) (pv 0) pe_int (fun _ _ => rfl)) (pe_op op_mulW (pe_op op_mulW pe_int (pe_ix (ixK K rfl) (pv 0) pe_int (fun _ _ => rfl))) (pe_ix (ixK K rfl) (pv 0) pe_int (fun _ _ => rfl)))) (pe_op op_mulW pe_int (pe_ix (ixK K rfl) (pv 0) pe_int (fun _ _ => rfl)))) pa_nil)) (pe_op op_add (pe_op op_pow pe_int pe_int) pe_int)))
      (pss_cons (ps_set (i := 3) sc_law_pick.nd rfl (.inl rfl) (pe_op op_modN (pe_callTy call_int1 (by rfl) B.int (by decide +kernel) (pa_cons (pe_op op_add (pe_op op_mulW (pe_op op_mulW (pv 3) (pv 3)) (pv 3)) (pe_ix (ixK K rfl) (pv 0) pe_int (fun _ _ => rfl))) pa_nil)) (pe_op op_add (pe_op op_pow pe_int pe_int) pe_int)))
      (pss_one (ps_ret (pe_op op_modN (pe_op op_fdivN (pe_op op_modN (pe_callTy call_int1 (by rfl) B.int (by decide +kernel) (pa_cons (pe_op op_mulW (pv 3) (pe_op op_add (pv 3) pe_int)) pa_nil)) (pe_op op_add (pe_op op_pow pe_int pe_int) pe_int)) pe_int) (pv 1)))))))), ?_⟩
    refine ⟨_, rfl, p, _, _, _, rfl, rfl, sq, at0, _, _, rfl, rfl, _, rfl, ?_⟩
    refine ite2 (fun ha => ?_) fun ha => ?_
    · refine ⟨_, rfl, p, _, _, _, rfl, rfl, sq, at0, .inl ⟨_, rfl, _, rfl, _, _, rfl, rfl, by omega, ?_⟩⟩
      refine ⟨_, rfl, p, _, _, _, rfl, rfl, sq, at0, _, rfl, _, _, rfl, rfl, ⟨by omega, by omega⟩, _, rfl, p, _, _, 0, rfl, rfl, e, rfl, _, rfl, ?_⟩
      have m := fmod_bd (i := a) (j := top) (by omega)
      exact q _ _ m.1 m.2 ⟨_, b, c, upd_same, b0, b1, c0, by omega⟩ But.upd
    · refine ⟨_, rfl, p, _, _, _, rfl, rfl, sq, at2, _, _, rfl, rfl, _, rfl, p, _, _, 2, rfl, rfl, e, rfl, ?_⟩
      have e1 : (upd H p (.lst ([V.int a, .int b, .int c].set 2 (.int (c + 1))))) p = some (.lst [V.int a, .int b, .int (c + 1)]) := upd_same
      have sq1 : SqL K (upd H p (.lst ([V.int a, .int b, .int c].set 2 (.int (c + 1))))) p [V.int a, .int b, .int (c + 1)] := .inl (.inl e1)
      have lc : (c + 1).natAbs < 2 ^ 31 := nat_lt (by omega) (by omega)
      refine ⟨_, rfl, p, _, _, _, rfl, rfl, sq1, at1, _, rfl, p, _, _, _, rfl, rfl, sq1, at2, _, _, rfl, rfl, ?w1, _, rfl, p, _, _, _, rfl, rfl, sq1, at2, _, _, rfl, rfl, ?w2, _, _, rfl, rfl,
        _, rfl, p, _, _, _, rfl, rfl, sq1, at2, _, _, rfl, rfl, ?w3, _, _, rfl, rfl, .inl ⟨_, rfl, _, _, rfl, rfl, ⟨by decide, by decide, by decide⟩, _, _, rfl, rfl, _, _, rfl, rfl, show (10 : Int) ^ Int.toNat 29 + 319 ≠ 0 by decide, ?_⟩⟩
      case w1 => exact wide_mul (a := 40) (by decide) lc (by decide) (by decide) (by decide)
      case w2 => exact wide_mul (a := 71) (wide_lt (a := 40) (by decide) lc) lc (by decide) (by decide) (by decide)
      case w3 => exact wide_mul (a := 40) (by decide) lc (by decide) (by decide) (by decide)
      dsimp only
      generalize hx : Int.fmod _ ((10 : Int) ^ Int.toNat 29 + 319) = x
      have bx : 0 ≤ x ∧ x < 10 ^ 29 + 319 := by rw [← hx]; exact fmod_bd (by decide)
      have lx : x.natAbs < 2 ^ 100 := nat_lt bx.1 (Int.lt_trans bx.2 (by decide))
      refine ⟨_, rfl, _, rfl, _, _, rfl, rfl, wide_mul (a := 100) (b := 100) lx lx (by decide) (by decide) (by decide), _, rfl, _, _, rfl, rfl, wide_mul (a := 200) (b := 100) (wide_lt (a := 100) (b := 100) lx lx) lx (by decide) (by decide) (by decide),
        _, rfl, p, _, _, _, rfl, rfl, sq1, at2, _, _, rfl, rfl, .inl ⟨_, rfl, _, _, rfl, rfl, ⟨by decide, by decide, by decide⟩, _, _, rfl, rfl, _, _, rfl, rfl, show (10 : Int) ^ Int.toNat 31 + 33 ≠ 0 by decide, ?_⟩⟩
      dsimp only
      generalize hy : Int.fmod _ ((10 : Int) ^ Int.toNat 31 + 33) = y
      have byy : 0 ≤ y ∧ y < 10 ^ 31 + 33 := by rw [← hy]; exact fmod_bd (by decide)
      have ly : y.natAbs < 2 ^ 110 := nat_lt byy.1 (Int.lt_trans byy.2 (by decide))
      have ly2 : (y + 104717).natAbs < 2 ^ 110 := nat_lt (by omega) (Int.lt_trans (show y + 104717 < 10 ^ 31 + 33 + 104717 by omega) (by decide))
      refine ⟨_, rfl, _, rfl, _, _, rfl, rfl, _, _, rfl, rfl, wide_mul (a := 110) (b := 110) ly ly2 (by decide) (by decide) (by decide), .inl ⟨_, rfl, _, _, rfl, rfl, ⟨by decide, by decide, by decide⟩, _, _, rfl, rfl, _, _, rfl, rfl, show (10 : Int) ^ Int.toNat 32 + 49 ≠ 0 by decide,
        _, _, rfl, rfl, ⟨by decide, by decide⟩, _, rfl, _, _, rfl, rfl, by omega, ?_⟩⟩
      dsimp only
      generalize Int.fdiv _ 7907 = r
      have m := fmod_bd (i := r) (j := top) (by omega)
      exact q _ _ m.1 m.2 ⟨a, b, c + 1, upd_same, b0, b1, by omega, by omega⟩ But.upd
end
end Tx

set_option Elab.async false
set_option linter.all false
set_option maxRecDepth 100000
set_option maxHeartbeats 1000000
namespace Tx
open PySem PySem.Spec PyProof.Rows L2 TL
/-- a conditional value: whatever it is -/
theorem if_any {P : V → Prop} {t : TT} {ta tb : TE} {σ : L2.St} {H : Hp} {Q : VK} (b : Bool) (ht : ∀ R : Bool → Hp → Prop, R b H → t σ H R) (ha : b = true → ∀ Q : VK, (∀ v, P v → Q v H) → ta σ H Q)
    (hb : b = false → ∀ Q : VK, (∀ v, P v → Q v H) → tb σ H Q) (q : ∀ v, P v → Q v H) : tIf t ta tb σ H Q := by
  refine ht _ ?_
  cases b with
  | true => exact iteT (ha rfl Q q)
  | false => exact iteF (hb rfl Q q)
theorem ints_flat (ns : List Int) {i : Nat} {x : V} (h : (ns.map V.int)[i]? = some x) : ∃ z, x = V.int z := by
  rw [List.getElem?_map] at h
  cases e : ns[i]? with
  | none => rw [e] at h; cases h
  | some z => rw [e] at h; exact ⟨z, (Option.some.inj h).symm⟩
theorem str_e : Str.ofString "" = ⟨#[]⟩ := by decide +kernel
theorem joinL_nil : ∀ ps : List (List Nat), TL.joinL [] ps = ps.flatten
  | [] => rfl
  | [p] => by show p = _; simp
  | p :: q :: r => by
    show p ++ ([] ++ TL.joinL [] (q :: r)) = _
    rw [joinL_nil (q :: r), List.nil_append]
    simp
theorem join_e (ys : List Str) : Txt.join (Str.ofString "") ys = mkS (ys.map tl).flatten := by
  refine ext_tl ?_
  rw [TL.join_eq, TL.tl_join, str_e]
  exact joinL_nil _
theorem sum_one (l : List Nat) : ((l.map fun c => (⟨#[c]⟩ : Str)).map (·.length)).sum = l.length := by
  induction l with
  | nil => rfl
  | cons c l ih => rw [List.map_cons, List.map_cons, List.sum_cons, ih, List.length_cons]; show 1 + _ = _; omega
theorem flat_one (l : List Nat) : ((l.map fun c => (⟨#[c]⟩ : Str)).map tl).flatten = l := by
  induction l with
  | nil => rfl
  | cons c l ih => rw [List.map_cons, List.map_cons, List.flatten_cons, ih]; rfl
theorem atI_pos {A : Type} {xs : List A} {i : Int} {x : A} (h0 : 0 ≤ i) (h : xs[i.toNat]? = some x) : atI xs i = some x := by
  have lt := (List.getElem?_eq_some_iff.mp h).1
  unfold atI ixN
  rw [if_pos h0, if_pos (by omega)]
  exact h
/-- what a text of draws is made of -/
def Lets (L : Str) : Prop := Low L ∧ 1 ≤ L.length ∧ L.length ≤ 30
section
variable {P : Program} {w : World} {K : PySem.W.Frag} {mg : Str → Option Value} {base : Heap}
abbrev st_law_source : Stmt := topS 21
theorem sc_law_source : FnScope ["script", "k", "cell", "total", "other"] ["script", "k"] (defScope st_law_source) := ⟨rfl, rfl, rfl, by decide +kernel, rfl, by decide +kernel, by decide +kernel⟩
theorem pl_law_source : PlainB "_law_source" st_law_source ["script", "k"] := fun _ _ _ _ _ _ us hl => match us, hl with | [_, _], _ => rfl
def spSource (K : PySem.W.Frag) : Sp := fun vs H Q _ => ∃ (a : Addr) (ns : List Int) (k : Nat), vs = [.ref a, .int k] ∧ SqL K H a (ns.map V.int) ∧ ns.length ≤ 63 ∧ k ≤ 100 ∧ ∀ p H', H p = none → Same H H' → Src H' p 0 → Q (.ref p) H'
theorem ok_law_source (T : Top K mg "_law_source" st_law_source) (B : Bt mg) : Dn P w K mg base 1 "_law_source" st_law_source ["script", "k"] (spSource K) := by
  refine dn_of T sc_law_source pl_law_source (fun vs H Q E h => ?_) fun f cdv A outer s H vs Q E hr h => ?_
  · obtain ⟨a, ns, k, rfl, _⟩ := h; rfl
  · obtain ⟨a, ns, k, rfl, sq, hn, hk, q⟩ := h
    refine ⟨_, (pss_cons (ps_set (i := 2) sc_law_source.nd rfl (.inl rfl) (pe_ifExp (pt_cmpR op_lt (pv 1) (pe_callB (lenK K rfl) (by rfl) B.len (by decide +kernel) (pa_cons (pv 0) pa_nil)) (nomark _)) (pe_ix (ixK K rfl) (pv 0) (pv 1) (fun _ _ => rfl)) (pe_op op_add (pe_op op_mul pe_int (pv 1)) pe_int)))
      (pss_cons (ps_set (i := 3) sc_law_source.nd rfl (.inl rfl) (pe_callB (lenK K rfl) (by rfl) B.len (by decide +kernel) (pa_cons (pv 0) pa_nil)))
      (pss_cons (ps_for PassesOwn.never rfl (pi_list (pv 0)) (pg_name (i := 4) sc_law_source.nd rfl (.inl rfl)) (pss_one (ps_set (i := 3) sc_law_source.nd rfl (.inl rfl) (pe_op op_modN (pe_callTy call_int1 (by rfl) B.int (by decide +kernel) (pa_cons (pe_op op_add (pe_op op_mul (pv 3) pe_int) (pe_op op_modN (pe_callTy call_int1 (by rfl) B.int (by decide +kernel) (pa_cons (pv 4) pa_nil)) (pe_op op_add (pe_op op_pow pe_int pe_int) pe_int))) pa_nil)) (pe_op op_add (pe_op op_pow pe_int pe_int) pe_int)))))
      (pss_one (ps_ret (pe_lst (pa_cons (pe_callB (call_max2 rfl) (by rfl) B.max (by decide +kernel) (pa_cons pe_int (pa_cons (pe_op op_sub (pv 2) (pe_op op_pow pe_int pe_int)) pa_nil))) (pa_cons (pe_op op_modN (pe_callTy call_int1 (by rfl) B.int (by decide +kernel) (pa_cons (pe_op op_add (pe_op op_add (pe_op op_add (pe_op op_mul (pe_callB call_abs (by rfl) B.abs (by decide +kernel) (pa_cons (pv 2) pa_nil)) pe_int) (pe_op op_mul pe_int (pv 3))) (pe_callTy call_int1 (by rfl) B.int (by decide +kernel) (pa_cons (pe_cmpR op_lt (pv 2) pe_int (nomark _)) pa_nil))) (pe_op op_mul pe_int (pv 1))) pa_nil)) (pe_op op_add (pe_op op_pow pe_int pe_int) pe_int)) (pa_cons pe_int pa_nil))))))))), ?_⟩
    refine if_any (P := fun v => ∃ x, v = V.int x) (decide ((k : Int) < ((ns.map V.int).length : Int))) (fun R r => ⟨_, rfl, _, rfl, a, _, rfl, .inl sq, _, _, rfl, rfl, _, rfl, r⟩) (fun lt Q' q' => ?_) (fun _ Q' q' => ⟨_, rfl, _, _, rfl, rfl, .inl ⟨by decide, by decide⟩, _, _, rfl, rfl, q' _ ⟨_, rfl⟩⟩) fun v ⟨x, ex⟩ => ?_
    · have lt := of_decide_eq_true lt
      rw [List.length_map] at lt
      have e : (ns.map V.int)[k]? = some (V.int (ns[k]'(by omega))) := by rw [List.getElem?_map, List.getElem?_eq_getElem (by omega)] <;> rfl
      exact ⟨_, rfl, _, rfl, a, _, _, _, rfl, rfl, sq, atI_pos (by omega) e, q' _ ⟨_, rfl⟩⟩
    · subst ex
      refine ⟨_, rfl, a, _, rfl, .inl sq, ?_⟩
      refine ⟨_, rfl, a, rfl, ⟨_, sq⟩, for_list (K := K) (a := a) (xs := ns.map V.int) (fun i σ H' => H' = H ∧ ∃ t o, σ = [some (.ref a), some (.int k), some (.int x), some (.int t), o]) ⟨rfl, _, none, rfl⟩ (fun _ _ _ _ h => by rw [h.1]; exact sq) (fun i y σ H' hi ⟨eH, t, o, eσ⟩ => ?_) fun σ H' ⟨eH, t, o, eσ⟩ => ?_⟩
      · subst eH eσ
        obtain ⟨z, rfl⟩ := ints_flat ns hi
        refine ⟨_, rfl, _, _, rfl, rfl, .inr ⟨by decide, by decide⟩, _, rfl, .inl ⟨_, rfl, _, _, rfl, rfl, ⟨by decide, by decide, by decide⟩, _, _, rfl, rfl, _, _, rfl, rfl, show (10 : Int) ^ Int.toNat 20 + 39 ≠ 0 by decide,
          _, _, rfl, rfl, .inl ⟨_, rfl, _, _, rfl, rfl, ⟨by decide, by decide, by decide⟩, _, _, rfl, rfl, _, _, rfl, rfl, show (10 : Int) ^ Int.toNat 26 + 67 ≠ 0 by decide, ?_⟩⟩⟩
        exact ⟨rfl, _, _, rfl⟩
      · subst eH eσ
        refine ⟨_, rfl, _, _, rfl, rfl, ⟨by decide, by decide, by decide⟩, _, _, rfl, rfl, _, _, rfl, ?_⟩
        refine ⟨_, rfl, _, rfl, _, _, rfl, rfl, .inr ⟨by decide, by decide⟩, _, rfl, _, _, rfl, rfl, .inl ⟨by decide, by decide⟩, _, _, rfl, rfl, _, rfl, _, _, rfl, rfl, .inr ⟨_, rfl, _, _, rfl, rfl,
          _, rfl, _, _, rfl, rfl, .inl ⟨by decide, by decide⟩, _, _, rfl, rfl, .inl ⟨_, rfl, _, _, rfl, rfl, ⟨by decide, by decide, by decide⟩, _, _, rfl, rfl, _, _, rfl, rfl, show (10 : Int) ^ Int.toNat 29 + 319 ≠ 0 by decide, ?_⟩⟩⟩
        refine ⟨by show 3 ≤ sizeLine; decide, fun p np => q p _ np (same_upd np) ⟨_, _, 0, upd_same, ?_, ?_, by decide, by decide⟩⟩
        · exact (fmod_bd (by decide)).1
        · exact Int.lt_trans (fmod_bd (by decide)).2 (by decide)
abbrev st_law_letters : Stmt := topS 23
theorem sc_law_letters : FnScope ["source", "menu"] ["source"] (defScope st_law_letters) := ⟨rfl, rfl, rfl, by decide +kernel, rfl, by decide +kernel, by decide +kernel⟩
theorem pl_law_letters : PlainB "_law_letters" st_law_letters ["source"] := fun _ _ _ _ _ _ us hl => match us, hl with | [_], _ => rfl
def spLetters : Sp := fun vs H Q _ => ∃ (p : Addr) (n : Nat), vs = [.ref p] ∧ Src H p n ∧ n ≤ 100000000 ∧ ∀ L H', Lets L → L.length ≤ 26 → Src H' p (n + 1) → But p H H' → Q (.str L) H'
def menu : List Str := ["ab", "abc", "acgt", "zyxa", "abcdef", "abcdefghijklmnopqrstuvwxyz", "ab", "abcd", "acgt", "bz", "cab", "a"]
def letsB (L : Str) : Bool := ((tl L).all fun c => decide (97 ≤ c ∧ c ≤ 122)) && decide (1 ≤ L.length ∧ L.length ≤ 26)
theorem lets_of {L : Str} (h : letsB L = true) : Lets L ∧ L.length ≤ 26 := by
  unfold letsB at h
  rw [Bool.and_eq_true, List.all_eq_true] at h
  have h2 := of_decide_eq_true h.2
  exact ⟨⟨fun c hc => of_decide_eq_true (h.1 c hc), h2.1, Nat.le_trans h2.2 (by decide)⟩, h2.2⟩
theorem menu_ok : menu.all letsB = true := by decide +kernel
theorem ok_law_letters (T : Top K mg "_law_letters" st_law_letters) (D_law_pick : Dn P w K mg base 1 "_law_pick" st_law_pick ["source", "top"] spPick) : Dn P w K mg base 2 "_law_letters" st_law_letters ["source"] spLetters := by
  refine dn_of T sc_law_letters pl_law_letters (fun vs H Q E h => ?_) fun f cdv A outer s H vs Q E hr h => ?_
  · obtain ⟨a, ns, rfl, _⟩ := h; rfl
  · obtain ⟨p, n, rfl, sr, hn, q⟩ := h
    refine ⟨_, (pss_cons (ps_set (i := 1) sc_law_letters.nd rfl (.inl rfl) (pe_lst (pa_cons pe_str (pa_cons pe_str (pa_cons pe_str (pa_cons pe_str (pa_cons pe_str (pa_cons pe_str (pa_cons pe_str (pa_cons pe_str (pa_cons pe_str (pa_cons pe_str (pa_cons pe_str (pa_cons pe_str pa_nil))))))))))))))
      (pss_one (ps_ret (pe_ix (ixK K rfl) (pv 1) (pe_fn D_law_pick (hr.mono (by decide)) (by rfl) (pa_cons (pv 0) (pa_cons pe_int pa_nil))) (fun _ _ => rfl))))), ?_⟩
    refine ⟨by show 12 ≤ sizeLine; decide, fun m nm => ?_⟩
    refine ⟨_, rfl, _, rfl, p, 12, n, rfl, sr.new nm, by omega, by decide, by decide, fun r H' r0 r1 sr' bt => ?_⟩
    obtain ⟨o, eo⟩ := sr.at
    have em : H' m = some (.lst (menu.map V.str)) := bt m _ upd_same (ne_of_none eo nm).symm
    obtain ⟨L, eL⟩ : ∃ L, menu[r.toNat]? = some L := ⟨_, List.getElem?_eq_getElem (show r.toNat < menu.length by show _ < 12; omega)⟩
    refine ⟨m, menu.map V.str, r, V.str L, rfl, rfl, .inl (.inl em), atI_pos r0 ?_, ?_⟩
    · rw [List.getElem?_map, eL]; rfl
    · obtain ⟨LL, l26⟩ := lets_of (List.all_eq_true.mp menu_ok L (List.mem_of_getElem? eL))
      exact q L H' LL l26 sr' (But.trans (Same.but (same_upd nm)) bt)
abbrev st_law_word : Stmt := topS 24
theorem sc_law_word : FnScope ["source", "letters", "size", "at"] ["source", "letters", "size"] (defScope st_law_word) := ⟨rfl, rfl, rfl, by decide +kernel, rfl, by decide +kernel, by decide +kernel⟩
theorem pl_law_word : PlainB "_law_word" st_law_word ["source", "letters", "size"] := fun _ _ _ _ _ _ us hl => match us, hl with | [_, _, _], _ => rfl
def spWord : Sp := fun vs H Q _ => ∃ (p : Addr) (L : Str) (k n : Nat), vs = [.ref p, .str L, .int k] ∧ Src H p n ∧ Lets L ∧ k ≤ 100000 ∧ n ≤ 100000000 ∧ ∀ z H', z.length = k → Low z → Src H' p (n + k) → But p H H' → Q (.str z) H'
theorem But.mk {p D : Addr} {H H1 : Hp} {o : HO} (a : But p H H1) (h : H D = none) : But p H (L2.upd H1 D o) := fun b u e n => by
  rw [upd_ne (ne_of_none e h)]; exact a b u e n
theorem ok_law_word (T : Top K mg "_law_word" st_law_word) (B : Bt mg) (D_law_pick : Dn P w K mg base 1 "_law_pick" st_law_pick ["source", "top"] spPick) : Dn P w K mg base 2 "_law_word" st_law_word ["source", "letters", "size"] spWord := by
  refine dn_of T sc_law_word pl_law_word (fun vs H Q E h => ?_) fun f cdv A outer s H vs Q E hr h => ?_
  · obtain ⟨a, ns, _, _, rfl, _⟩ := h; rfl
  · obtain ⟨p, L, k, n, rfl, sr, ⟨lo, l1, l2⟩, hk, hn, q⟩ := h
    refine ⟨_, (pss_one (ps_ret (joinK K rfl pe_str (pe_lc (own := [("at", 3)]) (g := gName 3) rfl sc_law_word.nd (pi_range1 (by rfl) B.range (pa_cons (pv 2) pa_nil)) (blkOk_by (N := ["source", "letters", "size", "at"]) (sc := defScope st_law_word) (by decide +kernel)) (fun _ _ _ _ _ => (pg_name (i := 3) sc_law_word.nd rfl (.inl rfl))) (fun _ _ _ _ _ => pts_nil) (fun _ _ _ _ _ => (pe_ix ix_str (pv 1) (pe_fn D_law_pick (hr.mono (by decide)) (by rfl) (pa_cons (pv 0) (pa_cons (pe_callB call_len_str (by rfl) B.len (by decide +kernel) (pa_cons (pv 1) pa_nil)) pa_nil))) (fun _ _ => rfl))))))), ?_⟩
    refine ⟨⟨_, rfl⟩, _, rfl, _, rfl, by omega, by omega, fun D hD => ?_⟩
    obtain ⟨o, eo⟩ := sr.at
    have ne : D ≠ p := (ne_of_none eo hD).symm
    rw [Int.toNat_natCast]
    refine lc_range (fun i H' => Src H' p (n + i) ∧ But p H H' ∧ ∃ l : List Nat, l.length = i ∧ (∀ c ∈ l, 97 ≤ c ∧ c ≤ 122) ∧ H' D = some (.lst ((l.map fun c => (⟨#[c]⟩ : Str)).map V.str))) ?_ (fun i H' hi ⟨sr', bt, l, el, hl, eD⟩ => ?_) fun H' ⟨sr', bt, l, el, hl, eD⟩ => ?_
    · exact ⟨sr.new hD, But.refl.mk hD, [], rfl, (fun c z => by cases z), upd_same⟩
    · refine ⟨rfl, lc_yes ?_⟩
      refine ⟨_, rfl, _, rfl, _, rfl, _, rfl, Nat.le_trans l2 (by decide), p, L.length, n + i, rfl, sr', by omega, by omega, by omega, fun r H2 r0 r1 sr2 bt2 => ?_⟩
      have lt : r.toNat < (tl L).length := by rw [← len_tl]; omega
      refine ⟨L, r, (tl L)[r.toNat], rfl, rfl, Nat.le_trans l2 (by decide), atI_pos r0 (List.getElem?_eq_getElem lt), _, bt2 _ _ eD ne, ?_, ?_⟩
      · rw [List.length_map, List.length_map, el]; exact Nat.lt_of_lt_of_le (show i < 100000 by omega) (by decide)
      · refine ⟨?_, (bt.trans bt2).mk hD, l ++ [(tl L)[r.toNat]], by rw [List.length_append, el]; rfl, fun c hc => ?_, ?_⟩
        · obtain ⟨a, b, c, e, rest⟩ := sr2
          exact ⟨a, b, c, by rw [upd_ne ne.symm]; exact e, rest⟩
        · rcases List.mem_append.mp hc with hc | hc
          · exact hl c hc
          · rw [List.mem_singleton.mp hc]; exact lo _ (List.getElem_mem lt)
        · rw [upd_same, List.map_append, List.map_append]; rfl
    · refine ⟨Str.ofString "", D, l.map fun c => (⟨#[c]⟩ : Str), rfl, rfl, .inl (.inl (.inl eD)), ?_, ?_⟩
      · rw [sum_one, el, str_e]; show k + _ * 0 ≤ _; omega
      · rw [join_e, flat_one]
        exact q (mkS l) H' (by rw [len_mkS, el]) hl sr' bt
abbrev st_law_round : Stmt := topS 25
theorem sc_law_round : FnScope ["size", "ring", "beads", "at", "more"] ["size", "ring"] (defScope st_law_round) := ⟨rfl, rfl, rfl, by decide +kernel, rfl, by decide +kernel, by decide +kernel⟩
theorem pl_law_round : PlainB "_law_round" st_law_round ["size", "ring"] := fun _ _ _ _ _ _ us hl => match us, hl with | [_, _], _ => rfl
def spRound : Sp := fun vs H Q _ => ∃ (n : Nat) (z : Str), vs = [.int n, .str z] ∧ n ≤ 1000 ∧ z.length ≤ 100000 ∧ ∀ p H', H p = none → Same H H' → H' p = some (.lst ((turns n (tl z)).map V.str)) → Q (.ref p) H'
theorem ok_law_round (T : Top K mg "_law_round" st_law_round) (B : Bt mg) : Dn P w K mg base 1 "_law_round" st_law_round ["size", "ring"] spRound := by
  refine dn_of T sc_law_round pl_law_round (fun vs H Q E h => ?_) fun f cdv A outer s H vs Q E hr h => ?_
  · obtain ⟨a, ns, rfl, _⟩ := h; rfl
  · obtain ⟨n, z, rfl, hn, hz, q⟩ := h
    have sl : z.length ≤ sizeLine := Nat.le_trans hz (by decide)
    refine ⟨_, (pss_cons (ps_set (i := 2) sc_law_round.nd rfl (.inr rfl) (pe_callB call_len_str (by rfl) B.len (by decide +kernel) (pa_cons (pv 1) pa_nil)))
      (pss_one (ps_ret (pe_lc (own := [("at", 3)]) (g := gName 3) rfl sc_law_round.nd (pi_range1 (by rfl) B.range (pa_cons (pv 2) pa_nil)) (blkOk_by (N := ["size", "ring", "beads", "at", "more"]) (sc := defScope st_law_round) (by decide +kernel)) (fun _ _ _ _ _ => (pg_name (i := 3) sc_law_round.nd rfl (.inr rfl))) (fun _ _ _ _ _ => pts_nil) (fun _ _ _ _ _ => (joinK K rfl pe_str (pe_lc (own := [("more", 4)]) (g := gName 4) rfl sc_law_round.nd (pi_range1 (by rfl) B.range (pa_cons (pv 0) pa_nil)) (blkOk_by (N := ["size", "ring", "beads", "at", "more"]) (sc := { kind := .function, names := [(".0", .local), ("at", .cell), ("range", .globalImplicit), ("beads", .cell), ("ring", .cell), ("size", .cell)], isGenerator := false, isCoroutine := false }) (by decide +kernel)) (fun _ _ _ _ _ => (pg_name (i := 4) sc_law_round.nd rfl (.inl rfl))) (fun _ _ _ _ _ => pts_nil) (fun _ _ _ _ _ => (pe_ix ix_str (pv 1) (pe_op op_modN (pe_callTy call_int1 (by rfl) B.int (by decide +kernel) (pa_cons (pe_op op_add (pv 3) (pv 4)) pa_nil)) (pv 2)) (fun _ _ => rfl)))))))))), ?_⟩
    refine ⟨_, rfl, _, rfl, sl, _, rfl, _, rfl, by omega, by omega, fun D hD => ?_⟩
    rw [Int.toNat_natCast]
    let g : Nat → Nat → Nat := fun a k => (tl z).getD ((a + k) % (tl z).length) 0
    refine lc_range (fun i H' => Same H H' ∧ H' D = some (.lst ((List.range i).map fun a => V.str (mkS ((List.range n).map (g a)))))) ⟨same_upd hD, upd_same⟩ (fun i H' hi ⟨sm, e⟩ => ?_) fun H' ⟨sm, e⟩ => ?_
    · refine ⟨rfl, lc_yes ?_⟩
      refine ⟨⟨_, rfl⟩, _, rfl, _, rfl, by omega, by omega, fun D2 hD2 => ?_⟩
      rw [Int.toNat_natCast]
      have hl : 0 < (tl z).length := by rw [← len_tl]; omega
      refine lc_range (fun j H2 => Same H' H2 ∧ H2 D2 = some (.lst ((List.range j).map fun k => V.str ⟨#[g i k]⟩))) ⟨same_upd hD2, upd_same⟩ (fun j H2 hj ⟨sm2, e2⟩ => ?_) fun H2 ⟨sm2, e2⟩ => ?_
      · refine ⟨rfl, lc_yes ?_⟩
        have lt := Nat.mod_lt (i + j) hl
        have em : (((0 : Int) + (i : Int)) + ((0 : Int) + (j : Int))).fmod (z.length : Int) = (((i + j) % (tl z).length : Nat) : Int) := by
          rw [Int.fmod_eq_emod_of_nonneg _ (by omega), len_tl, show ((0 : Int) + (i : Int)) + ((0 : Int) + (j : Int)) = ((i + j : Nat) : Int) by omega]; rfl
        refine ⟨_, rfl, _, rfl, _, rfl, _, _, rfl, rfl, .inl ⟨_, rfl, _, rfl, _, _, rfl, rfl, by omega, z, _, g i j, rfl, rfl, sl, ?_, _, e2, grown_len _ hj (by omega), wr sm2 hD2, ?_⟩⟩
        · rw [em]
          refine atI_pos (by omega) ?_
          rw [Int.toNat_natCast]
          show _ = some ((tl z).getD ((i + j) % (tl z).length) 0)
          rw [List.getD_eq_getElem?_getD, List.getElem?_eq_getElem lt]; rfl
        · rw [upd_same, grown fun k => V.str ⟨#[g i k]⟩]
      · refine ⟨Str.ofString "", D2, ((List.range n).map (g i)).map fun c => (⟨#[c]⟩ : Str), rfl, rfl, .inl (.inl (.inl ?_)), ?_, ?_⟩
        · rw [e2, List.map_map, List.map_map]; rfl
        · rw [sum_one, List.length_map, List.length_range, str_e]; show n + _ * 0 ≤ _; omega
        · rw [join_e, flat_one]
          refine ⟨_, sm2 _ _ e, grown_len _ hi (by omega), wr (sm.trans sm2) hD, ?_⟩
          rw [upd_same, grown fun a => V.str (mkS ((List.range n).map (g a)))]
    · refine q D H' hD sm ?_
      rw [e, len_tl]
      unfold turns
      rw [List.map_map]
      rfl
end
end Tx

set_option Elab.async false
set_option linter.all false
set_option maxRecDepth 100000
set_option maxHeartbeats 1000000
namespace Tx
open PySem PySem.Spec PyProof.Rows L2 TL
theorem cutS_ij (z : Str) (i j : Nat) (h : i ≤ j) (hj : j ≤ z.length) : cutS z (some (i : Int)) (some (j : Int)) = mkS (cut (tl z) i (j - i)) := by
  have e := cutS_mid z i (j - i) (by omega)
  rw [show ((i : Int) + ((j - i : Nat) : Int)) = (j : Int) by omega] at e
  exact e
theorem low_app {x y : Str} (hx : Low x) (hy : Low y) : Low (x ++ y) := fun c hc => by
  rw [tl_append] at hc
  exact (List.mem_append.mp hc).elim (hx c) (hy c)
theorem len_app (x y : Str) : (x ++ y).length = x.length + y.length := by rw [len_tl, tl_append, List.length_append, ← len_tl, ← len_tl]
theorem low_mk {l : List Nat} {z : Str} (h : Low z) (k : ∀ c ∈ l, c ∈ tl z) : Low (mkS l) := fun c hc => h c (k c hc)
theorem low_take {z : Str} (h : Low z) (n : Nat) : Low (mkS ((tl z).take n)) := low_mk h fun _ hc => List.mem_of_mem_take hc
theorem low_cut {z : Str} (h : Low z) (i n : Nat) : Low (mkS (cut (tl z) i n)) := low_mk h fun _ hc => List.mem_of_mem_drop (List.mem_of_mem_take hc)
theorem len_take {z : Str} {n : Nat} (h : n ≤ z.length) : (mkS ((tl z).take n)).length = n := by rw [len_mkS, List.length_take, ← len_tl]; omega
theorem len_cut {z : Str} {i n : Nat} (h : i + n ≤ z.length) : (mkS (cut (tl z) i n)).length = n := by
  unfold cut
  rw [len_mkS, List.length_take, List.length_drop, ← len_tl]; omega
theorem low_one {L : Str} (h : Low L) {c : Nat} (hc : c ∈ tl L) : Low ⟨#[c]⟩ := fun d hd => by
  have e : d = c := List.mem_singleton.mp hd
  subst e; exact h d hc
theorem But.kept {p b : Addr} {o : HO} {H H' : Hp} (k : But p H H') (e : H b = some o) (n : b ≠ p) : H' b = some o := k b o e n
section
variable {P : Program} {w : World} {K : PySem.W.Frag} {mg : Str → Option Value} {base : Heap}
abbrev st_law_ring : Stmt := topS 26
theorem sc_law_ring : FnScope ["source", "letters", "most", "size", "kind", "words", "found", "at", "turn"] ["source", "letters", "most"] (defScope st_law_ring) := ⟨rfl, rfl, rfl, by decide +kernel, rfl, by decide +kernel, by decide +kernel⟩
theorem pl_law_ring : PlainB "_law_ring" st_law_ring ["source", "letters", "most"] := fun _ _ _ _ _ _ us hl => match us, hl with | [_, _, _], _ => rfl
/-- a ring text of draws -/
def spLRing : Sp := fun vs H Q _ => ∃ (p : Addr) (L : Str) (most n : Nat), vs = [.ref p, .str L, .int most] ∧ Src H p n ∧ Lets L ∧ 1 ≤ most ∧ most ≤ 2001 ∧ n ≤ 10000000 ∧
  ∀ z H', Low z → 1 ≤ z.length → z.length ≤ most → Src H' p (n + 10000) → But p H H' → Q (.str z) H'
theorem ok_law_ring (T : Top K mg "_law_ring" st_law_ring) (B : Bt mg) (D_law_pick : Dn P w K mg base 1 "_law_pick" st_law_pick ["source", "top"] spPick)
    (D_law_word : Dn P w K mg base 2 "_law_word" st_law_word ["source", "letters", "size"] spWord) : Dn P w K mg base 3 "_law_ring" st_law_ring ["source", "letters", "most"] spLRing := by
  refine dn_of T sc_law_ring pl_law_ring (fun vs H Q E h => ?_) fun f cdv A outer s H vs Q E hr h => ?_
  · obtain ⟨a, ns, _, _, rfl, _⟩ := h; rfl
  · obtain ⟨p, L, most, n, rfl, sr, LL, m1, m2, hn, q⟩ := h
    obtain ⟨lo, l1, l2⟩ := id LL
    have sL : L.length ≤ sizeLine := Nat.le_trans l2 (by decide)
    refine ⟨_, (pss_cons (ps_par (i := 3) (j := 4) (by rfl) sc_law_ring.nd rfl rfl (by decide) rfl rfl (pa_cons (pe_op op_add pe_int (pe_fn D_law_pick (hr.mono (by decide)) (by rfl) (pa_cons (pv 0) (pa_cons (pv 2) pa_nil)))) (pa_cons (pe_fn D_law_pick (hr.mono (by decide)) (by rfl) (pa_cons (pv 0) (pa_cons pe_int pa_nil))) pa_nil)) (by rfl))
      (pss_cons (ps_if (pt_cmpR op_lt (pv 4) pe_int (nomark _)) (pss_one (ps_ret (pe_fn D_law_word (hr.mono (by decide)) (by rfl) (pa_cons (pv 0) (pa_cons (pv 1) (pa_cons (pv 3) pa_nil)))))) pss_nil)
      (pss_cons (ps_setLc (i := 5) (own := [("turn", 8)]) (g := gName 8) rfl sc_law_ring.nd rfl rfl (sw_true rfl rfl rfl (by decide +kernel)) (pi_range1 (by rfl) B.range (pa_cons (pe_op op_add pe_int (pe_fn D_law_pick (hr.mono (by decide)) (by rfl) (pa_cons (pv 0) (pa_cons pe_int pa_nil)))) pa_nil)) (blkOk_by (N := ["source", "letters", "most", "size", "kind", "words", "found", "at", "turn"]) (sc := defScope st_law_ring) (by decide +kernel)) (fun _ _ _ _ _ => (pg_name (i := 8) sc_law_ring.nd rfl (.inl rfl))) (fun _ _ _ _ _ => pts_nil) (fun _ _ _ _ _ => (pe_fn D_law_word (hr.mono (by decide)) (by rfl) (pa_cons (pv 0) (pa_cons (pv 1) (pa_cons (pe_op op_add pe_int (pe_fn D_law_pick (hr.mono (by decide)) (by rfl) (pa_cons (pv 0) (pa_cons pe_int pa_nil)))) pa_nil))))))
      (pss_cons (ps_set (i := 6) sc_law_ring.nd rfl (.inl rfl) pe_str)
      (pss_cons (ps_while PassesOwn.never (pt_cmpR op_lt (pe_callB call_len_str (by rfl) B.len (by decide +kernel) (pa_cons (pv 6) pa_nil)) (pv 3) (nomark _)) (pss_one (ps_set (i := 6) sc_law_ring.nd rfl (.inl rfl) (pe_op op_add_str (pv 6) (pe_ix (ixK K rfl) (pv 5) (pe_fn D_law_pick (hr.mono (by decide)) (by rfl) (pa_cons (pv 0) (pa_cons (pe_callB (lenK K rfl) (by rfl) B.len (by decide +kernel) (pa_cons (pv 5) pa_nil)) pa_nil))) (fun _ _ => rfl))))))
      (pss_cons (ps_set (i := 7) sc_law_ring.nd rfl (.inl rfl) (pe_fn D_law_pick (hr.mono (by decide)) (by rfl) (pa_cons (pv 0) (pa_cons (pv 3) pa_nil))))
      (pss_one (ps_ret (pe_ifExp (pt_cmpR op_eq (pv 4) pe_int (nomark _)) (pe_op op_add_str (pe_op op_add_str (pe_slice sl_str (pv 6) po_none (po_some (pv 7))) (pe_ix ix_str (pv 1) (pe_fn D_law_pick (hr.mono (by decide)) (by rfl) (pa_cons (pv 0) (pa_cons (pe_callB call_len_str (by rfl) B.len (by decide +kernel) (pa_cons (pv 1) pa_nil)) pa_nil))) (fun _ _ => rfl))) (pe_slice sl_str (pv 6) (po_some (pe_op op_add (pv 7) pe_int)) (po_some (pv 3)))) (pe_slice sl_str (pv 6) po_none (po_some (pv 3)))))))))))), ?_⟩
    refine ⟨_, rfl, _, rfl, p, most, n, rfl, sr, by omega, by omega, by omega, fun r1 H1 a0 a1 sr1 bt1 => ?_⟩
    refine ⟨_, _, rfl, rfl, _, rfl, p, 4, n + 1, rfl, sr1, by omega, by decide, by decide, fun kind H2 b0 b1 sr2 bt2 => ?_⟩
    refine ⟨_, _, rfl, ?_⟩
    obtain ⟨size, es⟩ : ∃ k : Nat, 1 + r1 = (k : Int) := ⟨(1 + r1).toNat, by omega⟩
    have z1 : 1 ≤ size := by omega
    have z2 : size ≤ most := by omega
    dsimp only
    rw [es]
    refine ⟨_, rfl, _, _, rfl, rfl, _, rfl, ?_⟩
    refine ite2 (fun _ => ?_) fun _ => ?_
    · refine ⟨_, rfl, _, rfl, _, rfl, p, L, size, n + 1 + 1, rfl, sr2, LL, by omega, by omega, fun z H3 e3 lz sr3 bt3 => ?_⟩
      exact q z H3 lz (by omega) (by omega) (sr3.mono (by omega)) ((bt1.trans bt2).trans bt3)
    · refine ⟨_, rfl, p, 3, n + 1 + 1, rfl, sr2, by omega, by decide, by decide, fun r3 H3 c0 c1 sr3 bt3 => ?_⟩
      obtain ⟨o, eo⟩ := sr3.at
      refine ⟨_, _, rfl, rfl, _, rfl, by omega, by omega, fun D hD => ?_⟩
      have ne : D ≠ p := (ne_of_none eo hD).symm
      refine lc_range (fun i H' => Src H' p (n + 3 + 6 * i) ∧ But p H3 H' ∧ ∃ ws : List Str, ws.length = i ∧ (∀ z ∈ ws, Low z ∧ 1 ≤ z.length ∧ z.length ≤ 5) ∧ H' D = some (.lst (ws.map V.str))) ?_ (fun i H' hi ⟨sr', bt', ws, ew, hw, eD⟩ => ?_) fun H4 ⟨sr4, bt4, ws, ew, hw, eD⟩ => ?_
      · exact ⟨sr3.new hD, But.refl.mk hD, [], rfl, (fun c z => by cases z), upd_same⟩
      · refine ⟨rfl, lc_yes ?_⟩
        refine ⟨_, rfl, _, rfl, _, rfl, p, 5, n + 3 + 6 * i, rfl, sr', by omega, by decide, by decide, fun r4 H5 d0 d1 sr5 bt5 => ?_⟩
        obtain ⟨k, ek⟩ : ∃ k : Nat, 1 + r4 = (k : Int) := ⟨(1 + r4).toNat, by omega⟩
        refine ⟨_, _, rfl, rfl, p, L, k, n + 3 + 6 * i + 1, by show [V.ref p, V.str L, V.int (1 + r4)] = _; rw [ek], sr5, LL, by omega, by omega, fun z H6 ez lz sr6 bt6 => ?_⟩
        refine ⟨_, bt6.kept (bt5.kept eD ne) ne, ?_, ?_, ((bt'.trans bt5).trans bt6).mk hD, ws ++ [z], by rw [List.length_append, ew]; rfl, fun y hy => ?_, ?_⟩
        · rw [List.length_map, ew]; exact Nat.lt_of_lt_of_le (show i < 100 by omega) (by decide)
        · obtain ⟨a, b, c, e, rest⟩ := sr6.mono (m := n + 3 + 6 * (i + 1)) (by omega)
          exact ⟨a, b, c, by rw [upd_ne ne.symm]; exact e, rest⟩
        · rcases List.mem_append.mp hy with hy | hy
          · exact hw y hy
          · rw [List.mem_singleton.mp hy]; exact ⟨lz, by omega, by omega⟩
        · rw [upd_same, List.map_append]; rfl
      · have hw1 : 1 ≤ ws.length := by omega
        have hw2 : ws.length ≤ 3 := by omega
        refine ⟨fun m σ H' => ∃ (z : Str) (y7 y8 : Option V), σ = [some (.ref p), some (.str L), some (.int most), some (.int size), some (.int kind), some (.ref D), some (.str z), y7, y8] ∧ Low z ∧ m = size - z.length ∧ z.length ≤ size + 5 ∧ Src H' p (n + 30 + z.length) ∧ But p H4 H' ∧ H' D = some (.lst (ws.map V.str)),
          ⟨size, Str.ofString "", none, none, rfl, ?_, ?_, ?_, ?_, But.refl, eD⟩, fun m σ H' ⟨z, y7, y8, eσ, lz, em, hz, srw, btw, eDw⟩ => ?_⟩
        · rw [str_e]; intro c hc; cases hc
        · rw [str_e]; show size = size - 0; omega
        · rw [str_e]; show 0 ≤ _; omega
        · rw [str_e]; exact sr4.mono (show _ ≤ n + 30 + 0 by omega)
        · subst eσ
          have sz : z.length ≤ sizeLine := Nat.le_trans hz (Nat.le_trans (show size + 5 ≤ 3000 by omega) (by decide))
          refine ⟨_, rfl, z, rfl, sz, _, rfl, _, _, rfl, rfl, _, rfl, ?_⟩
          refine ite2 (fun lt => ?_) fun ge => ?_
          · have lt := of_decide_eq_true lt
            refine ⟨_, fun _ _ h => h, ?_⟩
            refine ⟨_, rfl, _, rfl, _, rfl, _, rfl, D, _, rfl, .inl (.inl (.inl eDw)), p, (ws.map V.str).length, n + 30 + z.length, rfl, srw, by omega, by rw [List.length_map]; omega, by rw [List.length_map]; omega, fun r H5 d0 d1 sr5 bt5 => ?_⟩
            rw [List.length_map] at d1
            have ltr : r.toNat < ws.length := by omega
            have hy := hw _ (List.getElem_mem ltr)
            refine ⟨D, ws.map V.str, r, V.str ws[r.toNat], rfl, rfl, .inl (.inl (bt5.kept eDw ne)), atI_pos d0 (by rw [List.getElem?_map, List.getElem?_eq_getElem ltr] <;> rfl), _, _, rfl, rfl, Nat.le_trans (show _ ≤ 3000 by omega) (by decide), ?_⟩
            refine ⟨size - (z ++ ws[r.toNat]).length, by rw [len_app]; omega, z ++ ws[r.toNat], y7, y8, rfl, low_app lz hy.1, rfl, by rw [len_app]; omega, sr5.mono (by rw [len_app]; omega), btw.trans bt5, bt5.kept eDw ne⟩
          · have ge : size ≤ z.length := by
              have := of_decide_eq_false (Bool.eq_false_iff.mpr ge)
              omega
            refine ⟨_, rfl, _, rfl, p, size, n + 30 + z.length, rfl, srw, by omega, by omega, by omega, fun at' H5 d0 d1 sr5 bt5 => ?_⟩
            obtain ⟨a, ea⟩ : ∃ a : Nat, at' = (a : Int) := ⟨at'.toNat, by omega⟩
            subst ea
            have bt := (((bt1.trans bt2).trans bt3).trans bt4).trans (btw.trans bt5)
            refine ⟨_, rfl, rfl, _, rfl, ?_⟩
            refine ite2 (fun _ => ?_) fun _ => ?_
            · refine ⟨_, rfl, _, rfl, _, rfl, z, rfl, sz, _, rfl, _, rfl, _, rfl, L, rfl, sL, p, L.length, n + 30 + z.length + 1, rfl, sr5, by omega, by omega, by omega, fun r H6 f0 f1 sr6 bt6 => ?_⟩
              have lt : r.toNat < (tl L).length := by rw [← len_tl]; omega
              rw [cutS_to z a (by omega)]
              refine ⟨L, r, (tl L)[r.toNat], rfl, rfl, sL, atI_pos f0 (List.getElem?_eq_getElem lt), _, _, rfl, rfl, ?_, _, rfl, _, rfl, _, _, rfl, rfl, _, rfl, _, rfl, _, rfl, z, rfl, sz, ?_⟩
              · rw [len_take (by omega)]; exact Nat.le_trans (show a + 1 ≤ 3000 by omega) (by decide)
              rw [show ((a : Int) + 1) = ((a + 1 : Nat) : Int) by omega, cutS_ij z (a + 1) size (by omega) ge]
              have e1 : (mkS ((tl z).take a) ++ (⟨#[(tl L)[r.toNat]]⟩ : Str)).length = a + 1 := by rw [len_app, len_take (by omega)]; rfl
              have e2 : (mkS (cut (tl z) (a + 1) (size - (a + 1)))).length = size - (a + 1) := len_cut (by omega)
              refine ⟨_, _, rfl, rfl, by rw [e1, e2]; exact Nat.le_trans (show _ ≤ 3000 by omega) (by decide), ?_⟩
              exact q _ H6 (low_app (low_app (low_take lz a) (low_one lo (List.getElem_mem lt))) (low_cut lz _ _)) (by rw [len_app, e1, e2]; omega) (by rw [len_app, e1, e2]; omega) (sr6.mono (by omega)) (bt.trans bt6)
            · refine ⟨_, rfl, _, rfl, _, rfl, z, rfl, sz, ?_⟩
              rw [cutS_to z size ge]
              exact q _ H5 (low_take lz _) (by rw [len_take ge]; omega) (by rw [len_take ge]; omega) (sr5.mono (by omega)) bt
end
end Tx

set_option Elab.async false
set_option linter.all false
set_option maxRecDepth 100000
set_option maxHeartbeats 1000000
namespace Tx
open PySem PySem.Spec PyProof.Rows L2 TL RZ
theorem str_at {xs : List Str} {i : Nat} {x : V} (h : (xs.map V.str)[i]? = some x) : ∃ z, xs[i]? = some z ∧ x = V.str z := by
  rw [List.getElem?_map] at h
  cases e : xs[i]? with
  | none => rw [e] at h; cases h
  | some z => rw [e] at h; exact ⟨z, rfl, (Option.some.inj h).symm⟩
theorem cutV_tail (xs : List V) : cutV xs (some (1 : Int)) none = xs.drop 1 := by
  have e : (1 : Int) = ((1 : Nat) : Int) := rfl
  unfold cutV
  rw [e, HT.sIx_nat, HT.sIx_none]
  by_cases c : 1 ≤ xs.length
  · rw [Nat.min_eq_left c, List.take_of_length_le (by rw [List.length_drop]; exact Nat.le_refl _)]
  · have : xs = [] := List.eq_nil_of_length_eq_zero (by omega)
    subst this; rfl
theorem dp_strsT {K : PySem.W.Frag} {H : Hp} {a : Addr} {xs : List Str} (h : H a = some (.tup (xs.map V.str))) : Dp K H (.ref a) (.tuple (xs.map PyData.str)) := .tup (.inl (.inl h)) (dp_all xs)
theorem shaped_strsT {xs : List Str} (h : ∀ z ∈ xs, Low z) : SeqAt.shaped (.tuple (xs.map PyData.str)) = true := by
  unfold SeqAt.shaped
  simp only [PyData.canLay0, PyData.depth, (lay_strs xs h).1, (lay_strs xs h).2]
  decide
section
variable {P : Program} {w : World} {K : PySem.W.Frag} {mg : Str → Option Value} {base : Heap}
abbrev st_is_ascending : Stmt := topS 4
theorem sc_is_ascending : FnScope ["value", "one", "other", "item"] ["value"] (defScope st_is_ascending) := ⟨rfl, rfl, rfl, by decide +kernel, rfl, by decide +kernel, by decide +kernel⟩
theorem pl_is_ascending : PlainB "is_ascending" st_is_ascending ["value"] := fun _ _ _ _ _ _ us hl => match us, hl with | [_], _ => rfl
/-- of a tuple of ascending texts: True -/
def spAsc : Sp := fun vs H Q _ => ∃ (t : Addr) (ws : List Str), vs = [.ref t] ∧ H t = some (.tup (ws.map V.str)) ∧ 1 ≤ ws.length ∧ ws.length ≤ 3000 ∧ (ws.Pairwise fun a b => tl a < tl b) ∧ ∀ H', Same H H' → Q (.bl true) H'
theorem ok_is_ascending (T : Top K mg "is_ascending" st_is_ascending) (B : Bt mg) : Dn P w K mg base 1 "is_ascending" st_is_ascending ["value"] spAsc := by
  refine dn_of T sc_is_ascending pl_is_ascending (fun vs H Q E h => ?_) fun f cdv A outer s H vs Q E hr h => ?_
  · obtain ⟨t, z, rfl, _⟩ := h; rfl
  · obtain ⟨t, ws, rfl, et, w1, w2, asc, q⟩ := h
    refine ⟨_, (pss_cons (ps_if (PW.pt (pw_or (pt_not (pt_val (pe_callB (isiK K rfl) (by rfl) B.isi (by decide +kernel) (pa_cons (pv 0) (pa_cons (pe_bltn (v := .ty "tuple") (by rfl) B.tuple (by decide +kernel) rfl) pa_nil))))) (pw_or1 (pt_not (pt_val (pe_callB (allK K rfl rfl) (by rfl) B.all (by decide +kernel) (pa_cons (pe_lc (own := [("item", 3)]) (g := gName 3) rfl sc_is_ascending.nd (pi_tup (pv 0)) (blkOk_by (N := ["value", "one", "other", "item"]) (sc := defScope st_is_ascending) (by decide +kernel)) (fun _ _ _ _ _ => (pg_name (i := 3) sc_is_ascending.nd rfl (.inl rfl))) (fun _ _ _ _ _ => pts_nil) (fun _ _ _ _ _ => (pe_callB (isiK K rfl) (by rfl) B.isi (by decide +kernel) (pa_cons (pv 3) (pa_cons (pe_bltn (v := .ty "str") (by rfl) B.str (by decide +kernel) rfl) pa_nil))))) pa_nil))))))) (pss_one (ps_ret pe_bl)) pss_nil)
      (pss_one (ps_ret (pe_callB (allK K rfl rfl) (by rfl) B.all (by decide +kernel) (pa_cons (pe_lc (own := [("one", 1), ("other", 2)]) (g := gTup K 2 (gCons (gName 1) (gCons (gName 2) (gNil)))) rfl sc_is_ascending.nd (pi_zipA (by rfl) B.zip (pa_cons (pv 0) (pa_cons (pe_slice sl_tup (pv 0) (po_some pe_int) po_none) pa_nil))) (blkOk_by (N := ["value", "one", "other", "item"]) (sc := defScope st_is_ascending) (by decide +kernel)) (fun _ _ _ _ _ => (pg_tupK (n := 2) K rfl rfl (pgs_cons (pg_name (i := 1) sc_is_ascending.nd rfl (.inl rfl)) (pgs_cons (pg_name (i := 2) sc_is_ascending.nd rfl (.inl rfl)) pgs_nil)))) (fun _ _ _ _ _ => pts_nil) (fun _ _ _ _ _ => (pe_cmpR op_lt_str (pv 1) (pv 2) (nomark _)))) pa_nil))))), ?_⟩
    refine ⟨_, rfl, .ref t, .ty "tuple", _, _, true, rfl, .ty _, .base (.tup et), kit_ty (by decide +kernel), true, rfl, ?_⟩
    refine iteF ?_
    refine ⟨_, rfl, t, rfl, ⟨_, .inl (.inl et)⟩, fun D hD => ?_⟩
    refine lc_tup (a := t) (xs := ws.map V.str) (fun i H' => Same H H' ∧ H' D = some (.lst ((List.range i).map fun _ => V.bl true))) ⟨same_upd hD, upd_same⟩ (fun i H' _ h => .inl (.inl (h.1 _ _ et))) (fun i x H' hi ⟨sm, e⟩ => ?_) fun H' ⟨sm, e⟩ => ?_
    · obtain ⟨z, hz, rfl⟩ := str_at hi
      have lt := (List.getElem?_eq_some_iff.mp hz).1
      refine ⟨rfl, lc_yes ?_⟩
      refine ⟨_, rfl, .str z, .ty "str", _, _, true, rfl, .ty _, .base (.str z), kit_ty (by decide +kernel), _, e, grown_len _ lt (by omega), wr sm hD, ?_⟩
      rw [upd_same, grown fun _ => V.bl true]
    · rw [List.length_map] at e
      refine ⟨D, List.replicate ws.length true, rfl, .inl (.inl (by rw [e, trues])), _, rfl, ?_⟩
      rw [all_trues]
      refine iteF ?_
      have et' := sm _ _ et
      refine ⟨_, rfl, _, rfl, _, rfl, t, _, rfl, .inl (.inl et'), ?_, fun p np => ?_⟩
      · rintro ⟨c, _⟩
        rw [show (1 : Int) = ((1 : Nat) : Int) from rfl, HT.sIx_nat, List.length_map] at c
        omega
      rw [cutV_tail, ← List.map_drop]
      have s1 : Same H (upd H' p (.tup ((ws.drop 1).map V.str))) := sm.trans (same_upd np)
      refine ⟨t, p, _, _, rfl, .inr ⟨.inl (.inl (s1 _ _ et)), .inl (.inl upd_same), fun D2 hD2 => ?_⟩⟩
      have ep : (upd H' p (.tup ((ws.drop 1).map V.str))) p = some (.tup ((ws.drop 1).map V.str)) := upd_same
      generalize upd H' p (.tup ((ws.drop 1).map V.str)) = H1 at s1 hD2 ep ⊢
      refine lc_zipT (xs := ws.map V.str) (ys := (ws.drop 1).map V.str) (by rw [List.length_map, List.length_map, List.length_drop]; omega) (fun i H2 => Same H1 H2 ∧ H2 D2 = some (.lst ((List.range i).map fun _ => V.bl true))) ⟨same_upd hD2, upd_same⟩ (fun i H2 h => ⟨.inl (.inl (h.1 _ _ (s1 _ _ et))), .inl (.inl (h.1 _ _ ep))⟩) (fun i x y U H2 hx hy ⟨sm2, e2⟩ nU => ?_) fun H2 ⟨sm2, e2⟩ => ?_
      · obtain ⟨a, ha, rfl⟩ := str_at hx
        obtain ⟨b, hb, rfl⟩ := str_at hy
        rw [List.getElem?_drop] at hb
        obtain ⟨la, ga⟩ := List.getElem?_eq_some_iff.mp ha
        obtain ⟨lb, gb⟩ := List.getElem?_eq_some_iff.mp hb
        have ab : tl a < tl b := by
          have := List.pairwise_iff_getElem.mp asc i (1 + i) la lb (by omega)
          rwa [ga, gb] at this
        refine ⟨U, _, rfl, .inl (.inl upd_same), rfl, _, _, rfl, _, _, rfl, rfl, rfl, lc_yes ?_⟩
        have sU : Same H1 (upd H2 U (.tup [V.str a, V.str b])) := sm2.trans (same_upd nU)
        refine ⟨_, rfl, _, rfl, a, b, rfl, rfl, _, (same_upd nU) _ _ e2, grown_len _ la (by omega), wr sU hD2, ?_⟩
        rw [upd_same, show decide (a.cps.toList < b.cps.toList) = true from decide_eq_true ab, grown fun _ => V.bl true]
      · refine ⟨D2, List.replicate ((ws.drop 1).map V.str).length true, rfl, .inl (.inl (by rw [e2, trues])), ?_⟩
        rw [all_trues]
        exact q _ (s1.trans sm2)
abbrev st_is_windows : Stmt := topS 16
theorem sc_is_windows : FnScope ["size", "value", "window"] ["size", "value"] (defScope st_is_windows) := ⟨rfl, rfl, rfl, by decide +kernel, rfl, by decide +kernel, by decide +kernel⟩
theorem pl_is_windows : PlainB "is_windows" st_is_windows ["size", "value"] := fun _ _ _ _ _ _ us hl => match us, hl with | [_, _], _ => rfl
def g_kb_is_windows_value_size {A : Type} : List A → List A → List A | [], [v0, v1] => [v1, v0] | _, _ => []
theorem kb_is_windows_value_size {K : PySem.W.Frag} : ∀ fd, (∃ kV doc pm an cdv ct, fd = PySem.W.fnOf "is_windows" "is_windows" (defArgs st_is_windows) (defBody st_is_windows) (defScope st_is_windows) .none kV doc pm an cdv ct) → KBinds K fd ["size", "value"] ["value", "size"] g_kb_is_windows_value_size g_kb_is_windows_value_size := by
  rintro fd ⟨kV, doc, pm, an, cdv, ct, rfl⟩
  refine ⟨fun s us ws _ hl => ?_, fun r q => ?_⟩
  · match us, ws, hl with
    | [], [_, _], _ => exact .of_eq rfl
  · match r, q with
    | .nil, (.cons a0 (.cons a1 .nil)) => exact (.cons a1 (.cons a0 .nil))
    | .nil, .nil => exact .nil
    | .nil, (.cons _ .nil) => exact .nil
    | .nil, (.cons _ (.cons _ (.cons _ _))) => exact .nil
    | .cons _ _, _ => exact .nil
/-- of an ascending tuple of windows of n letters: True -/
def spWins : Sp := fun vs H Q _ => ∃ (n : Nat) (t : Addr) (ws : List Str), vs = [.int n, .ref t] ∧ H t = some (.tup (ws.map V.str)) ∧ Book n ws ∧ ∀ H', Same H H' → Q (.bl true) H'
theorem ok_is_windows (T : Top K mg "is_windows" st_is_windows) (B : Bt mg) (D_is_ascending : Dn P w K mg base 1 "is_ascending" st_is_ascending ["value"] spAsc)
    (D_is_letters : Dn P w K mg base 1 "is_letters" st_is_letters ["value"] spLow) : Dn P w K mg base 2 "is_windows" st_is_windows ["size", "value"] spWins := by
  refine dn_of T sc_is_windows pl_is_windows (fun vs H Q E h => ?_) fun f cdv A outer s H vs Q E hr h => ?_
  · obtain ⟨n, t, z, rfl, _⟩ := h; rfl
  · obtain ⟨n, t, ws, rfl, et, bk, q⟩ := h
    refine ⟨_, (pss_one (ps_ret (pe_and (pe_fn D_is_ascending (hr.mono (by decide)) (by rfl) (pa_cons (pv 1) pa_nil)) (pe_one (pe_callB (allK K rfl rfl) (by rfl) B.all (by decide +kernel) (pa_cons (pe_lc (own := [("window", 2)]) (g := gName 2) rfl sc_is_windows.nd (pi_tup (pv 1)) (blkOk_by (N := ["size", "value", "window"]) (sc := defScope st_is_windows) (by decide +kernel)) (fun _ _ _ _ _ => (pg_name (i := 2) sc_is_windows.nd rfl (.inl rfl))) (fun _ _ _ _ _ => pts_nil) (fun _ _ _ _ _ => (pe_and (pe_cmpR op_eq (pe_callB call_len_str (by rfl) B.len (by decide +kernel) (pa_cons (pv 2) pa_nil)) (pv 0) (nomark _)) (pe_one (pe_fn D_is_letters (hr.mono (by decide)) (by rfl) (pa_cons (pv 2) pa_nil)))))) pa_nil)))))), ?_⟩
    refine ⟨_, rfl, t, ws, rfl, et, bk.one, bk.most, bk.asc, fun H1 s1 => ⟨true, rfl, ?_⟩⟩
    refine iteT ?_
    have et1 := s1 _ _ et
    refine ⟨_, rfl, t, rfl, ⟨_, .inl (.inl et1)⟩, fun D hD => ?_⟩
    refine lc_tup (a := t) (xs := ws.map V.str) (fun i H' => Same H1 H' ∧ H' D = some (.lst ((List.range i).map fun _ => V.bl true))) ⟨same_upd hD, upd_same⟩ (fun i H' _ h => .inl (.inl (h.1 _ _ et1))) (fun i x H' hi ⟨sm, e⟩ => ?_) fun H' ⟨sm, e⟩ => ?_
    · obtain ⟨z, hz, rfl⟩ := str_at hi
      have lt := (List.getElem?_eq_some_iff.mp hz).1
      obtain ⟨lo, ln⟩ := bk.each z (List.mem_of_getElem? hz)
      have hn := bk.n6
      have hm := bk.most
      refine ⟨rfl, lc_yes ?_⟩
      refine ⟨_, rfl, z, rfl, Nat.le_trans (show z.length ≤ 100000 by omega) (by decide), _, rfl, rfl, _, rfl, ?_⟩
      rw [ln, decide_eq_true rfl]
      refine iteT ?_
      refine ⟨_, rfl, z, rfl, lo, by omega, fun H2 s2 => ⟨_, s2 _ _ e, grown_len _ lt (by omega), wr (sm.trans s2) hD, ?_⟩⟩
      rw [upd_same, grown fun _ => V.bl true]
    · rw [List.length_map] at e
      refine ⟨D, List.replicate ws.length true, rfl, .inl (.inl (by rw [e, trues])), ?_⟩
      rw [all_trues]
      exact q _ (s1.trans sm)
abbrev st_is_book : Stmt := topS 14
theorem sc_is_book : FnScope ["value", "size", "windows"] ["value"] (defScope st_is_book) := ⟨rfl, rfl, rfl, by decide +kernel, rfl, by decide +kernel, by decide +kernel⟩
theorem pl_is_book : PlainB "is_book" st_is_book ["value"] := fun _ _ _ _ _ _ us hl => match us, hl with | [_], _ => rfl
def spBook : Sp := fun vs H Q _ => ∃ (b : Addr) (n : Nat) (ws : List Str), vs = [.ref b] ∧ BookAt H b n ws ∧ Book n ws ∧ ∀ H', Same H H' → Q (.bl true) H'
theorem ok_is_book (T : Top K mg "is_book" st_is_book) (B : Bt mg) (D_is_size : Dn P w K mg base 2 "is_size" st_is_size ["value"] spSize) (D_is_windows : Dn P w K mg base 2 "is_windows" st_is_windows ["size", "value"] spWins) : Dn P w K mg base 3 "is_book" st_is_book ["value"] spBook := by
  refine dn_of T sc_is_book pl_is_book (fun vs H Q E h => ?_) fun f cdv A outer s H vs Q E hr h => ?_
  · obtain ⟨t, _, z, rfl, _⟩ := h; rfl
  · obtain ⟨b, n, ws, rfl, ⟨t, eb, et⟩, bk, q⟩ := h
    refine ⟨_, (pss_cons (ps_if (PW.pt (pw_or (pt_not (pt_val (pe_callB (isiK K rfl) (by rfl) B.isi (by decide +kernel) (pa_cons (pv 0) (pa_cons (pe_bltn (v := .ty "tuple") (by rfl) B.tuple (by decide +kernel) rfl) pa_nil))))) (pw_or1 (pt_cmpR op_ne (pe_callB (lenK K rfl) (by rfl) B.len (by decide +kernel) (pa_cons (pv 0) pa_nil)) pe_int (nomark _))))) (pss_one (ps_ret pe_bl)) pss_nil)
      (pss_cons (ps_asg (pv 0) (pg_tupK K rfl rfl (pgs_cons (pg_name (i := 1) sc_is_book.nd rfl (.inl rfl)) (pgs_cons (pg_name (i := 2) sc_is_book.nd rfl (.inl rfl)) pgs_nil))))
      (pss_one (ps_ret (pe_and (pe_fn D_is_size (hr.mono (by decide)) (by rfl) (pa_cons (pv 1) pa_nil)) (pe_and (pe_fn D_is_windows (hr.mono (by decide)) (by rfl) (pa_cons (pv 1) (pa_cons (pv 2) pa_nil))) (pe_one (pe_cmpR (neDK K rfl hr.units) (pv 2) (pe_tup pa_nil) (nomark _))))))))), ?_⟩
    refine ⟨_, rfl, .ref b, .ty "tuple", _, _, true, rfl, .ty _, .base (.tup eb), kit_ty (by decide +kernel), true, rfl, ?_⟩
    refine iteF ?_
    refine ⟨_, rfl, b, _, rfl, .inr (.inl (.inl eb)), rfl, _, rfl, ?_⟩
    refine iteNS rfl ?_
    refine ⟨_, rfl, b, _, rfl, .inl (.inl eb), rfl, _, _, rfl, _, _, rfl, rfl, ?_⟩
    refine ⟨_, rfl, n, rfl, bk.n2, bk.n6, true, rfl, ?_⟩
    refine iteT ?_
    refine ⟨_, rfl, _, rfl, n, t, ws, rfl, et, bk, fun H1 s1 => ⟨true, rfl, ?_⟩⟩
    refine iteT ?_
    have et1 := s1 _ _ et
    refine ⟨_, rfl, (by show 0 ≤ sizeLine; decide), fun u nu => ?_⟩
    have et2 : (upd H1 u (.tup [])) t = some (.tup (ws.map V.str)) := (same_upd nu) _ _ et1
    refine ⟨_, _, dp_strsT et2, .tup (.inl (.inl upd_same)) .nil, shaped_strsT fun y hy => (bk.each y hy).1, rfl, ?_⟩
    have e : PyData.eqv (.tuple (ws.map PyData.str)) (.tuple []) = false := by
      have := bk.one
      cases e : ws with
      | nil => rw [e] at this; exact absurd this (by decide)
      | cons _ _ => rfl
    first | exact q _ (s1.trans (same_upd nu)) | (rw [e]; exact q _ (s1.trans (same_upd nu)))
abbrev st_check_book : Stmt := topS 17
theorem sc_check_book : FnScope ["book"] ["book"] (defScope st_check_book) := ⟨rfl, rfl, rfl, by decide +kernel, rfl, by decide +kernel, by decide +kernel⟩
theorem pl_check_book : PlainB "check_book" st_check_book ["book"] := fun _ _ _ _ _ _ us hl => match us, hl with | [_], _ => rfl
def spCkBook : Sp := fun vs H Q _ => ∃ (b : Addr) (n : Nat) (ws : List Str), vs = [.ref b] ∧ BookAt H b n ws ∧ Book n ws ∧ ∀ H', Same H H' → Q .non H'
theorem ok_check_book (T : Top K mg "check_book" st_check_book) (D_is_book : Dn P w K mg base 3 "is_book" st_is_book ["value"] spBook) : Dn P w K mg base 4 "check_book" st_check_book ["book"] spCkBook := by
  refine dn_of T sc_check_book pl_check_book (fun vs H Q E h => ?_) fun f cdv A outer s H vs Q E hr h => ?_
  · obtain ⟨t, _, z, rfl, _⟩ := h; rfl
  · obtain ⟨b, n, ws, rfl, at', bk, q⟩ := h
    refine ⟨_, (pss_one (ps_if (pt_not (pt_val (pe_fn D_is_book (hr.mono (by decide)) (by rfl) (pa_cons (pv 0) pa_nil)))) (pss_one ps_never) pss_nil)), ?_⟩
    refine ⟨_, rfl, b, n, ws, rfl, at', bk, fun H' sm => ⟨_, rfl, ?_⟩⟩
    refine iteF ?_
    exact q _ sm
end
end Tx

set_option Elab.async false
set_option linter.all false
set_option maxRecDepth 100000
set_option maxHeartbeats 1000000
namespace Tx
open PySem PySem.Spec PyProof.Rows L2 TL RZ
theorem cut_twice {l : List Nat} {s : Nat} (h : s ≤ l.length) : cut (l ++ l) s l.length = seg l s l.length := by
  refine List.ext_getElem? fun k => ?_
  unfold cut
  rw [List.getElem?_take, List.getElem?_drop, seg_get]
  by_cases c : k < l.length
  · rw [if_pos c, if_pos c]
    by_cases d : s + k < l.length
    · rw [List.getElem?_append_left d, pr_get d]
    · rw [List.getElem?_append_right (by omega), pr_get (l := l) (i := s + k - l.length) (by omega)]
      refine congrArg some (pr_cong l ?_)
      exact (Nat.mod_eq_sub_mod (by omega)).symm
  · rw [if_neg c, if_neg c]
theorem twice_at {z : Str} {x : Nat} {a : Int} (e : a = (x : Int)) (h : x < 2 * z.length) : atI (z ++ z).cps.toList a = some (pr (tl z) x) := by
  have e1 : (z ++ z).cps.toList = tl z ++ tl z := tl_append z z
  have hl : (tl z).length = z.length := (len_tl z).symm
  rw [e1, e]
  refine atI_pos (by omega) ?_
  rw [Int.toNat_natCast]
  by_cases d : x < (tl z).length
  · rw [List.getElem?_append_left d, pr_get d]
  · rw [List.getElem?_append_right (by omega), pr_get (l := tl z) (i := x - (tl z).length) (by omega)]
    exact congrArg some (pr_cong _ (Nat.mod_eq_sub_mod (by omega)).symm)
theorem ring_at {z : Str} {x : Nat} {a : Int} (e : a = (x : Int)) (h : x < z.length) : atI z.cps.toList a = some (pr (tl z) x) := by
  rw [e]
  refine atI_pos (by omega) ?_
  rw [Int.toNat_natCast]
  exact pr_get (l := tl z) (by rw [← len_tl]; exact h)
theorem one_ne {c d : Nat} : decide (V.str ⟨#[c]⟩ = V.str ⟨#[d]⟩) = decide (c = d) := by
  by_cases h : c = d
  · subst h; rw [decide_eq_true rfl, decide_eq_true rfl]
  · rw [decide_eq_false h, decide_eq_false fun e => h ?_]
    have := congrArg tl (V.str.inj e)
    rw [tl_one, tl_one] at this
    exact List.head_eq_of_cons_eq this
theorem one_lt {c d : Nat} : decide ((⟨#[c]⟩ : Str).cps.toList < (⟨#[d]⟩ : Str).cps.toList) = decide (c < d) := by
  have : ([c] < [d]) ↔ c < d := by simp [List.cons_lt_cons_iff]
  exact decide_eq_decide.mpr this
theorem Dn.mono {P : Program} {w : World} {K : PySem.W.Frag} {mg : Str → Option Value} {base : Heap} {j k : Nat} {x : Str} {st : Stmt} {ps : List Str} {sp : Sp} (D : Dn P w K mg base j x st ps sp) (h : j ≤ k) : Dn P w K mg base k x st ps sp := by
  obtain ⟨f, fd, hm, F, G⟩ := D.ex
  exact ⟨⟨f, fd, hm, F, G.mono h⟩, D.plain⟩
theorem Dn.or {P : Program} {w : World} {K : PySem.W.Frag} {mg : Str → Option Value} {base : Heap} {k : Nat} {x : Str} {st : Stmt} {ps : List Str} {sp sp' : Sp} (D : Dn P w K mg base k x st ps sp) (D' : Dn P w K mg base k x st ps sp') :
    Dn P w K mg base k x st ps (fun vs H Q E => sp vs H Q E ∨ sp' vs H Q E) := by
  obtain ⟨f, fd, hm, F, G⟩ := D.ex
  obtain ⟨f', fd', hm', F', G'⟩ := D'.ex
  rw [hm] at hm'
  cases hm'
  have e : fd = fd' := by
    obtain ⟨_, _, _, _, _, _, _, _, _, _, l, _⟩ := F.ex
    obtain ⟨_, _, _, _, _, _, _, _, _, _, l', _⟩ := F'.ex
    rw [l] at l'
    injection l' with e
    injection e with e1 e2 e3 e4
    injection e3
  subst e
  exact ⟨⟨f, fd, hm, F, ⟨fun vs H Q E h => h.elim (G.len vs H Q E) (G'.len vs H Q E), fun A outer s H args us vs Q E r v b z h => h.elim (G.run A outer s H args us vs Q E r v b z) (G'.run A outer s H args us vs Q E r v b z)⟩⟩, D.plain⟩
section
variable {P : Program} {w : World} {K : PySem.W.Frag} {mg : Str → Option Value} {base : Heap}
end
end Tx

set_option Elab.async false
set_option linter.all false
set_option maxRecDepth 100000
set_option maxHeartbeats 1000000
namespace Tx
open PySem PySem.Spec PyProof.Rows L2 TL RZ
theorem eqvAll_ints0 (ns : List Int) : PyData.eqv (.list (ns.map PyData.int)) (.list []) = decide (ns = []) := by
  cases ns with
  | nil => rfl
  | cons n ns => simp [PyData.eqv, PyData.eqvAll]
theorem lay_ints : ∀ ns : List Int, PyData.canLayAll0 (ns.map PyData.int) = true ∧ PyData.depthAll (ns.map PyData.int) = 0
  | [] => ⟨rfl, rfl⟩
  | n :: ns => by
    have ih := lay_ints ns
    simp only [List.map_cons, PyData.canLayAll0, PyData.depthAll, PyData.canLay0, PyData.depth, ih.1, ih.2]
    simp
theorem shaped_ints (ns : List Int) : SeqAt.shaped (.list (ns.map PyData.int)) = true := by
  unfold SeqAt.shaped
  simp only [PyData.canLay0, PyData.depth, (lay_ints ns).1, (lay_ints ns).2]
  decide
theorem dp_ints {K : PySem.W.Frag} {H : Hp} : ∀ ns : List Int, DpAll K H (ns.map V.int) (ns.map PyData.int)
  | [] => .nil
  | n :: ns => .cons (.int n) (dp_ints ns)
theorem cutS_from (z : Str) (p : Nat) (h : p ≤ z.length) : cutS z (some (p : Int)) none = mkS ((tl z).drop p) := by
  refine ext_tl ?_
  unfold cutS
  rw [HT.sIx_nat, HT.sIx_none, Nat.min_eq_left h]
  show ((tl z).drop p).take (z.length - p) = _
  rw [List.take_of_length_le (by rw [List.length_drop, ← len_tl]; exact Nat.le_refl _)]
  rfl
theorem rot_str (z : Str) (p : Nat) : mkS ((tl z).drop p) ++ mkS ((tl z).take p) = mkS (rot (tl z) p) := by
  refine ext_tl ?_
  rw [tl_append]; rfl
theorem seg_of {l : List Nat} {x : Str} {a : Nat} (h : ∀ k, k < x.length → (tl x)[k]? = some (pr l (a + k))) : tl x = seg l a (tl x).length := by
  refine List.ext_getElem? fun k => ?_
  rw [seg_get, ← len_tl]
  by_cases c : k < x.length
  · rw [if_pos c, h k c]
  · rw [if_neg c, List.getElem?_eq_none (by rw [← len_tl]; omega)]
theorem of_seg {l : List Nat} {x : Str} {a : Nat} (h : tl x = seg l a (tl x).length) (k : Nat) (hk : k < x.length) : (tl x)[k]? = some (pr l (a + k)) := by
  rw [h, seg_get, if_pos (by rw [← len_tl]; exact hk)]
section
variable {P : Program} {w : World} {K : PySem.W.Frag} {mg : Str → Option Value} {base : Heap}
theorem least_of {z m : Str} {zs : List Str} (h1 : 1 ≤ z.length) (ez : zs = (List.range z.length).map fun p => mkS (rot (tl z) p)) (hm : m ∈ zs) (le : ∀ y ∈ zs, tl m ≤ tl y) : Least (tl z) (tl m) := by
  have hl : 0 < (tl z).length := by rw [← len_tl]; omega
  subst ez
  obtain ⟨p, hp, rfl⟩ := List.mem_map.mp hm
  have hp := List.mem_range.mp hp
  refine ⟨⟨p, rot_seg (by rw [← len_tl]; omega)⟩, fun r => ?_⟩
  have lt := Nat.mod_lt r hl
  have := le (mkS (rot (tl z) (r % (tl z).length))) (List.mem_map.mpr ⟨_, List.mem_range.mpr (by rw [len_tl]; exact lt), rfl⟩)
  have e1 : tl (mkS (rot (tl z) (r % (tl z).length))) = seg (tl z) (r % (tl z).length) (tl z).length := rot_seg (Nat.le_of_lt lt)
  rw [e1, seg_mod] at this
  exact this
end
end Tx

set_option Elab.async false
set_option linter.all false
set_option maxRecDepth 100000
set_option maxHeartbeats 1000000
namespace Tx
open PySem PySem.Spec PyProof.Rows L2 TL RZ
theorem if_step {S : Bool → Hp → Prop} {P : V → Hp → Prop} {t : TT} {ta tb : TE} {σ : L2.St} {H : Hp} {Q : VK} (ht : ∀ R : Bool → Hp → Prop, (∀ b H1, S b H1 → R b H1) → t σ H R) (ha : ∀ H1, S true H1 → ∀ Q : VK, (∀ v H', P v H' → Q v H') → ta σ H1 Q)
    (hb : ∀ H1, S false H1 → ∀ Q : VK, (∀ v H', P v H' → Q v H') → tb σ H1 Q) (q : ∀ v H', P v H' → Q v H') : tIf t ta tb σ H Q := by
  refine ht _ fun b H1 s => ?_
  cases b with
  | true => exact iteT (ha H1 s Q q)
  | false => exact iteF (hb H1 s Q q)
theorem seq_if {c : TT} {ta tb rest : TS} {D : Ends} {σ : L2.St} {H : Hp} (R : L2.St → Hp → Prop) (hr : ∀ σ' H', R σ' H' → rest D σ' H') (h : (∀ σ' H', R σ' H' → rest D σ' H') → tIfS c ta tb { D with nx := rest D } σ H) : tSeq (tIfS c ta tb) rest D σ H := h hr
theorem rgV0 (n : Nat) : rgV 0 (n : Int) = (List.range n).map fun k : Nat => V.int (k : Int) := by
  unfold rgV
  rw [show ((n : Int) - 0).toNat = n by omega]
  refine List.map_congr_left fun k _ => ?_
  rw [show ((0 : Int) + ((k : Nat) : Int)) = (k : Int) by omega]
theorem Src.ne {H : Hp} {p a : Addr} {n : Nat} {xs : List V} (s : Src H p n) (e : H a = some (.tup xs)) : a ≠ p := fun h => by
  subst h
  obtain ⟨_, _, _, e', _⟩ := s
  rw [e'] at e
  cases e
theorem ne_lt {H : Hp} {a F : Addr} {xs ys : List V} (e : H a = some (.tup xs)) (f : H F = some (.lst ys)) : a ≠ F := fun h => by
  subst h; rw [e] at f; cases f
/-- a turned text and how many times -/
def TurnAt (H : Hp) (a : Addr) (z : Str) : Prop := ∃ p t : Nat, H a = some (.tup [.str (mkS (rot (tl z) p)), .int t]) ∧ p ≤ z.length ∧ 1 ≤ t ∧ t ≤ 5
theorem TurnAt.but {H H' : Hp} {p a : Addr} {z : Str} {n : Nat} (k : TurnAt H a z) (bt : But p H H') (sr : Src H p n) : TurnAt H' a z := by
  obtain ⟨x, t, e, r⟩ := k
  exact ⟨x, t, bt.kept e (sr.ne e), r⟩
theorem TurnAt.set {H : Hp} {a F : Addr} {z : Str} {ys : List V} {o : HO} (k : TurnAt H a z) (f : H F = some (.lst ys)) : TurnAt (upd H F o) a z := by
  obtain ⟨x, t, e, r⟩ := k
  exact ⟨x, t, keep_ne' e (ne_lt e f), r⟩
where keep_ne' {H : Hp} {a b : Addr} {o u : HO} (e : H a = some o) (n : a ≠ b) : (upd H b u) a = some o := by rw [upd_ne n]; exact e
theorem TurnAt.same {H H' : Hp} {a : Addr} {z : Str} (k : TurnAt H a z) (s : Same H H') : TurnAt H' a z := let ⟨x, t, e, r⟩ := k; ⟨x, t, s _ _ e, r⟩
def TurnsAt (H : Hp) (q : Addr) (z : Str) : Prop := ∃ as : List Addr, H q = some (.lst (as.map V.ref)) ∧ as.length ≤ 20 ∧ ∀ a ∈ as, TurnAt H a z
theorem if_anyH {P : V → Hp → Prop} {t : TT} {ta tb : TE} {σ : L2.St} {H : Hp} {Q : VK} (b : Bool) (ht : ∀ R : Bool → Hp → Prop, R b H → t σ H R) (ha : b = true → ∀ Q : VK, (∀ v H', P v H' → Q v H') → ta σ H Q)
    (hb : b = false → ∀ Q : VK, (∀ v H', P v H' → Q v H') → tb σ H Q) (q : ∀ v H', P v H' → Q v H') : tIf t ta tb σ H Q := by
  refine ht _ ?_
  cases b with
  | true => exact iteT (ha rfl Q q)
  | false => exact iteF (hb rfl Q q)
theorem lt_line {n : Nat} (h : n ≤ 100000) : n < sizeLine := Nat.lt_of_le_of_lt h (by decide)
theorem keep_ne {H : Hp} {a b : Addr} {o u : HO} (e : H a = some o) (n : a ≠ b) : (upd H b u) a = some o := by rw [upd_ne n]; exact e
theorem Src.set {H : Hp} {p F : Addr} {n : Nat} {o : HO} (s : Src H p n) (h : F ≠ p) : Src (upd H F o) p n := by
  obtain ⟨a, b, c, e, r⟩ := s
  exact ⟨a, b, c, by rw [upd_ne h.symm]; exact e, r⟩
section
variable {P : Program} {w : World} {K : PySem.W.Frag} {mg : Str → Option Value} {base : Heap}
abbrev st_law_same : Stmt := topS 28
theorem sc_law_same : FnScope ["found", "due", "at"] ["found", "due"] (defScope st_law_same) := ⟨rfl, rfl, rfl, by decide +kernel, rfl, by decide +kernel, by decide +kernel⟩
theorem pl_law_same : PlainB "_law_same" st_law_same ["found", "due"] := fun _ _ _ _ _ _ us hl => match us, hl with | [_, _], _ => rfl
/-- a text, a bool, None -/
def Simp (v : V) : Prop := (∃ z, v = .str z) ∨ (∃ b, v = .bl b) ∨ v = .non
/-- of two equal ones: True -/
def spSame0 : Sp := fun vs H Q _ => ∃ v, vs = [v, v] ∧ Simp v ∧ Q (.bl true) H
/-- of two lists of the same: True -/
def spSame1 : Sp := fun vs H Q _ => ∃ (p q : Addr) (xs : List V), vs = [.ref p, .ref q] ∧ H p = some (.lst xs) ∧ H q = some (.lst xs) ∧ xs.length ≤ 100000 ∧ (∀ v ∈ xs, Simp v) ∧ ∀ H', Same H H' → Q (.bl true) H'
def spSame : Sp := fun vs H Q E => spSame0 vs H Q E ∨ spSame1 vs H Q E
/-- a call that is never made -/
theorem dn_void {x : Str} {st : Stmt} {ps : List Str} (T : Top K mg x st) (pl : PlainB x st ps) : Dn P w K mg base 1 x st ps fun _ _ _ _ => False := by
  obtain ⟨f, fd, hm, F⟩ := T
  exact ⟨⟨f, fd, hm, F, fun _ _ _ _ h => h.elim, fun _ _ _ _ _ _ _ _ _ _ _ _ _ h => h.elim⟩, pl⟩
theorem ok_same0 (T : Top K mg "_law_same" st_law_same) (B : Bt mg) : Dn P w K mg base 2 "_law_same" st_law_same ["found", "due"] spSame0 := by
  refine dn_of T sc_law_same pl_law_same (fun vs H Q E h => ?_) fun f cdv A outer s H vs Q E hr h => ?_
  · obtain ⟨v, rfl, _⟩ := h; rfl
  · have D_law_same : Dn P w K mg base 1 "_law_same" st_law_same ["found", "due"] fun _ _ _ _ => False := dn_void T pl_law_same
    refine ⟨_, (pss_cons (ps_if (PW.pt (pw_or (pt_val (pe_callB (isiK K rfl) (by rfl) B.isi (by decide +kernel) (pa_cons (pv 1) (pa_cons (pe_bltn (v := .ty "list") (by rfl) B.list (by decide +kernel) rfl) pa_nil)))) (pw_or1 (pt_val (pe_callB (isiK K rfl) (by rfl) B.isi (by decide +kernel) (pa_cons (pv 1) (pa_cons (pe_bltn (v := .ty "tuple") (by rfl) B.tuple (by decide +kernel) rfl) pa_nil))))))) (pss_cons (ps_if (PW.pt (pw_or (pt_cmpR op_ne (pe_callB (isiK K rfl) (by rfl) B.isi (by decide +kernel) (pa_cons (pv 0) (pa_cons (pe_bltn (v := .ty "list") (by rfl) B.list (by decide +kernel) rfl) pa_nil))) (pe_callB (isiK K rfl) (by rfl) B.isi (by decide +kernel) (pa_cons (pv 1) (pa_cons (pe_bltn (v := .ty "list") (by rfl) B.list (by decide +kernel) rfl) pa_nil))) (nomark _)) (pw_or1 (pt_cmpR op_ne (pe_callB (isiK K rfl) (by rfl) B.isi (by decide +kernel) (pa_cons (pv 0) (pa_cons (pe_bltn (v := .ty "tuple") (by rfl) B.tuple (by decide +kernel) rfl) pa_nil))) (pe_callB (isiK K rfl) (by rfl) B.isi (by decide +kernel) (pa_cons (pv 1) (pa_cons (pe_bltn (v := .ty "tuple") (by rfl) B.tuple (by decide +kernel) rfl) pa_nil))) (nomark _))))) (pss_one (ps_ret pe_bl)) pss_nil)
      (pss_one (ps_ret (pe_and (pe_cmpR op_eq (pe_callB (lenK K rfl) (by rfl) B.len (by decide +kernel) (pa_cons (pv 0) pa_nil)) (pe_callB (lenK K rfl) (by rfl) B.len (by decide +kernel) (pa_cons (pv 1) pa_nil)) (nomark _)) (pe_one (pe_callB (allK K rfl rfl) (by rfl) B.all (by decide +kernel) (pa_cons (pe_lc (own := [("at", 2)]) (g := gName 2) rfl sc_law_same.nd (pi_range1 (by rfl) B.range (pa_cons (pe_callB (lenK K rfl) (by rfl) B.len (by decide +kernel) (pa_cons (pv 1) pa_nil)) pa_nil)) (blkOk_by (N := ["found", "due", "at"]) (sc := defScope st_law_same) (by decide +kernel)) (fun _ _ _ _ _ => (pg_name (i := 2) sc_law_same.nd rfl (.inl rfl))) (fun _ _ _ _ _ => pts_nil) (fun _ _ _ _ _ => (pe_fn D_law_same (hr.mono (by decide)) (by rfl) (pa_cons (pe_ix (ixK K rfl) (pv 0) (pv 2) (fun _ _ => rfl)) (pa_cons (pe_ix (ixK K rfl) (pv 1) (pv 2) (fun _ _ => rfl)) pa_nil))))) pa_nil))))))) pss_nil)
      (pss_cons (ps_if (pt_val (pe_callB (isiK K rfl) (by rfl) B.isi (by decide +kernel) (pa_cons (pv 1) (pa_cons (pe_bltn (v := .ty "bool") (by rfl) B.bool (by decide +kernel) rfl) pa_nil)))) (pss_one (ps_ret (pe_and (pe_callB (isiK K rfl) (by rfl) B.isi (by decide +kernel) (pa_cons (pv 0) (pa_cons (pe_bltn (v := .ty "bool") (by rfl) B.bool (by decide +kernel) rfl) pa_nil))) (pe_one (pe_cmpR op_eq (pv 0) (pv 1) (nomark _)))))) pss_nil)
      (pss_cons (ps_if (pt_val (pe_callB (isiK K rfl) (by rfl) B.isi (by decide +kernel) (pa_cons (pv 1) (pa_cons (pe_bltn (v := .ty "str") (by rfl) B.str (by decide +kernel) rfl) pa_nil)))) (pss_one (ps_ret (pe_and (pe_callB (isiK K rfl) (by rfl) B.isi (by decide +kernel) (pa_cons (pv 0) (pa_cons (pe_bltn (v := .ty "str") (by rfl) B.str (by decide +kernel) rfl) pa_nil))) (pe_one (pe_cmpR op_eq (pv 0) (pv 1) (nomark _)))))) pss_nil)
      (pss_one (ps_ret (pe_cmpR op_isN (pv 0) pe_non (nomark _))))))), ?_⟩
    obtain ⟨v, rfl, ⟨z, rfl⟩ | ⟨z, rfl⟩ | rfl, q⟩ := h
    · refine ⟨_, rfl, .str z, .ty "list", _, _, false, rfl, .ty _, .base (.str z), kit_ty (by decide +kernel), false, rfl, ?_⟩
      refine iteF ?_
      refine ⟨_, rfl, .str z, .ty "tuple", _, _, false, rfl, .ty _, .base (.str z), kit_ty (by decide +kernel), false, rfl, ?_⟩
      refine iteF ?_
      refine ⟨_, rfl, .str z, .ty "bool", _, _, false, rfl, .ty _, .base (.str z), kit_ty (by decide +kernel), false, rfl, ?_⟩
      refine iteF ?_
      refine ⟨_, rfl, .str z, .ty "str", _, _, true, rfl, .ty _, .base (.str z), kit_ty (by decide +kernel), true, rfl, ?_⟩
      refine iteT ?_
      refine ⟨_, rfl, .str z, .ty "str", _, _, true, rfl, .ty _, .base (.str z), kit_ty (by decide +kernel), true, rfl, ?_⟩
      refine iteT ?_
      refine ⟨_, rfl, _, rfl, rfl, ?_⟩
      show Q (.bl (decide (V.str z = V.str z))) H
      rw [decide_eq_true rfl]
      exact q
    · refine ⟨_, rfl, .bl z, .ty "list", _, _, false, rfl, .ty _, .base (.bl z), kit_ty (by decide +kernel), false, rfl, ?_⟩
      refine iteF ?_
      refine ⟨_, rfl, .bl z, .ty "tuple", _, _, false, rfl, .ty _, .base (.bl z), kit_ty (by decide +kernel), false, rfl, ?_⟩
      refine iteF ?_
      refine ⟨_, rfl, .bl z, .ty "bool", _, _, true, rfl, .ty _, .base (.bl z), kit_ty (by decide +kernel), true, rfl, ?_⟩
      refine iteT ?_
      refine ⟨_, rfl, .bl z, .ty "bool", _, _, true, rfl, .ty _, .base (.bl z), kit_ty (by decide +kernel), true, rfl, ?_⟩
      refine iteT ?_
      refine ⟨_, rfl, _, rfl, rfl, ?_⟩
      show Q (.bl (decide (V.bl z = V.bl z))) H
      rw [decide_eq_true rfl]
      exact q
    · refine ⟨_, rfl, .non, .ty "list", _, _, false, rfl, .ty _, .base .non, kit_ty (by decide +kernel), false, rfl, ?_⟩
      refine iteF ?_
      refine ⟨_, rfl, .non, .ty "tuple", _, _, false, rfl, .ty _, .base .non, kit_ty (by decide +kernel), false, rfl, ?_⟩
      refine iteF ?_
      refine ⟨_, rfl, .non, .ty "bool", _, _, false, rfl, .ty _, .base .non, kit_ty (by decide +kernel), false, rfl, ?_⟩
      refine iteF ?_
      refine ⟨_, rfl, .non, .ty "str", _, _, false, rfl, .ty _, .base .non, kit_ty (by decide +kernel), false, rfl, ?_⟩
      refine iteF ?_
      refine ⟨_, rfl, rfl, ?_⟩
      exact q
theorem ok_same1 (T : Top K mg "_law_same" st_law_same) (B : Bt mg) (D_law_same : Dn P w K mg base 2 "_law_same" st_law_same ["found", "due"] spSame0) : Dn P w K mg base 3 "_law_same" st_law_same ["found", "due"] spSame1 := by
  refine dn_of T sc_law_same pl_law_same (fun vs H Q E h => ?_) fun f cdv A outer s H vs Q E hr h => ?_
  · obtain ⟨a, b, c, rfl, _⟩ := h; rfl
  · obtain ⟨p, p', xs, rfl, e1, e2, hx, hv, q⟩ := h
    refine ⟨_, (pss_cons (ps_if (PW.pt (pw_or (pt_val (pe_callB (isiK K rfl) (by rfl) B.isi (by decide +kernel) (pa_cons (pv 1) (pa_cons (pe_bltn (v := .ty "list") (by rfl) B.list (by decide +kernel) rfl) pa_nil)))) (pw_or1 (pt_val (pe_callB (isiK K rfl) (by rfl) B.isi (by decide +kernel) (pa_cons (pv 1) (pa_cons (pe_bltn (v := .ty "tuple") (by rfl) B.tuple (by decide +kernel) rfl) pa_nil))))))) (pss_cons (ps_if (PW.pt (pw_or (pt_cmpR op_ne (pe_callB (isiK K rfl) (by rfl) B.isi (by decide +kernel) (pa_cons (pv 0) (pa_cons (pe_bltn (v := .ty "list") (by rfl) B.list (by decide +kernel) rfl) pa_nil))) (pe_callB (isiK K rfl) (by rfl) B.isi (by decide +kernel) (pa_cons (pv 1) (pa_cons (pe_bltn (v := .ty "list") (by rfl) B.list (by decide +kernel) rfl) pa_nil))) (nomark _)) (pw_or1 (pt_cmpR op_ne (pe_callB (isiK K rfl) (by rfl) B.isi (by decide +kernel) (pa_cons (pv 0) (pa_cons (pe_bltn (v := .ty "tuple") (by rfl) B.tuple (by decide +kernel) rfl) pa_nil))) (pe_callB (isiK K rfl) (by rfl) B.isi (by decide +kernel) (pa_cons (pv 1) (pa_cons (pe_bltn (v := .ty "tuple") (by rfl) B.tuple (by decide +kernel) rfl) pa_nil))) (nomark _))))) (pss_one (ps_ret pe_bl)) pss_nil)
      (pss_one (ps_ret (pe_and (pe_cmpR op_eq (pe_callB (lenK K rfl) (by rfl) B.len (by decide +kernel) (pa_cons (pv 0) pa_nil)) (pe_callB (lenK K rfl) (by rfl) B.len (by decide +kernel) (pa_cons (pv 1) pa_nil)) (nomark _)) (pe_one (pe_callB (allK K rfl rfl) (by rfl) B.all (by decide +kernel) (pa_cons (pe_lc (own := [("at", 2)]) (g := gName 2) rfl sc_law_same.nd (pi_range1 (by rfl) B.range (pa_cons (pe_callB (lenK K rfl) (by rfl) B.len (by decide +kernel) (pa_cons (pv 1) pa_nil)) pa_nil)) (blkOk_by (N := ["found", "due", "at"]) (sc := defScope st_law_same) (by decide +kernel)) (fun _ _ _ _ _ => (pg_name (i := 2) sc_law_same.nd rfl (.inl rfl))) (fun _ _ _ _ _ => pts_nil) (fun _ _ _ _ _ => (pe_fn D_law_same (hr.mono (by decide)) (by rfl) (pa_cons (pe_ix (ixK K rfl) (pv 0) (pv 2) (fun _ _ => rfl)) (pa_cons (pe_ix (ixK K rfl) (pv 1) (pv 2) (fun _ _ => rfl)) pa_nil))))) pa_nil))))))) pss_nil)
      (pss_cons (ps_if (pt_val (pe_callB (isiK K rfl) (by rfl) B.isi (by decide +kernel) (pa_cons (pv 1) (pa_cons (pe_bltn (v := .ty "bool") (by rfl) B.bool (by decide +kernel) rfl) pa_nil)))) (pss_one (ps_ret (pe_and (pe_callB (isiK K rfl) (by rfl) B.isi (by decide +kernel) (pa_cons (pv 0) (pa_cons (pe_bltn (v := .ty "bool") (by rfl) B.bool (by decide +kernel) rfl) pa_nil))) (pe_one (pe_cmpR op_eq (pv 0) (pv 1) (nomark _)))))) pss_nil)
      (pss_cons (ps_if (pt_val (pe_callB (isiK K rfl) (by rfl) B.isi (by decide +kernel) (pa_cons (pv 1) (pa_cons (pe_bltn (v := .ty "str") (by rfl) B.str (by decide +kernel) rfl) pa_nil)))) (pss_one (ps_ret (pe_and (pe_callB (isiK K rfl) (by rfl) B.isi (by decide +kernel) (pa_cons (pv 0) (pa_cons (pe_bltn (v := .ty "str") (by rfl) B.str (by decide +kernel) rfl) pa_nil))) (pe_one (pe_cmpR op_eq (pv 0) (pv 1) (nomark _)))))) pss_nil)
      (pss_one (ps_ret (pe_cmpR op_isN (pv 0) pe_non (nomark _))))))), ?_⟩
    refine ⟨_, rfl, .ref p', .ty "list", _, _, true, rfl, .ty _, .base (.lst e2), kit_ty (by decide +kernel), true, rfl, ?_⟩
    refine iteT ?_
    refine ⟨_, rfl, .ref p, .ty "list", _, _, true, rfl, .ty _, .base (.lst e1), kit_ty (by decide +kernel), _, rfl, .ref p', .ty "list", _, _, true, rfl, .ty _, .base (.lst e2), kit_ty (by decide +kernel), rfl, _, rfl, ?_⟩
    refine iteNS rfl ?_
    refine ⟨_, rfl, .ref p, .ty "tuple", _, _, false, rfl, .ty _, .base (.lst e1), kit_ty (by decide +kernel), _, rfl, .ref p', .ty "tuple", _, _, false, rfl, .ty _, .base (.lst e2), kit_ty (by decide +kernel), rfl, _, rfl, ?_⟩
    refine iteNS rfl ?_
    refine ⟨_, rfl, p, _, rfl, .inl (.inl (.inl e1)), _, rfl, p', _, rfl, .inl (.inl (.inl e2)), rfl, _, rfl, ?_⟩
    rw [decide_eq_true rfl]
    refine iteT ?_
    refine ⟨_, rfl, p', _, rfl, .inl (.inl (.inl e2)), _, rfl, by omega, by omega, fun D hD => ?_⟩
    rw [Int.toNat_natCast]
    refine lc_range (fun i H' => Same H H' ∧ H' D = some (.lst ((List.range i).map fun _ => V.bl true))) ⟨same_upd hD, upd_same⟩ (fun i H' hi ⟨sm, e⟩ => ?_) fun H' ⟨sm, e⟩ => ?_
    · refine ⟨rfl, lc_yes ?_⟩
      have g2 : atI xs ((0 : Int) + (i : Int)) = some xs[i] := by
        rw [show ((0 : Int) + (i : Int)) = (i : Int) by omega]; exact atI_pos (by omega) (by rw [Int.toNat_natCast]; exact List.getElem?_eq_getElem hi)
      have fin : spSame0 [xs[i], xs[i]] H' (fun y H4 => ∃ acc, H4 D = some (.lst acc) ∧ acc.length < sizeLine ∧ (Same H (upd H4 D (.lst (acc ++ [y]))) ∧ (upd H4 D (.lst (acc ++ [y]))) D = some (.lst ((List.range (i + 1)).map fun _ => V.bl true)))) E0 := by
        have k : ∃ acc, H' D = some (.lst acc) ∧ acc.length < sizeLine ∧ (Same H (upd H' D (.lst (acc ++ [V.bl true]))) ∧ (upd H' D (.lst (acc ++ [V.bl true]))) D = some (.lst ((List.range (i + 1)).map fun _ => V.bl true))) :=
          ⟨_, e, grown_len _ hi (by omega), wr sm hD, by rw [upd_same, grown fun _ => V.bl true]⟩
        exact ⟨_, rfl, hv _ (List.getElem_mem hi), k⟩
      exact ⟨_, rfl, _, rfl, p, _, _, _, rfl, rfl, .inl (.inl (sm _ _ e1)), g2, _, rfl, _, rfl, p', _, _, _, rfl, rfl, .inl (.inl (sm _ _ e2)), g2, fin⟩
    · refine ⟨D, List.replicate xs.length true, rfl, .inl (.inl ?_), ?_⟩
      · rw [e, trues]
      · rw [all_trues]; exact q _ sm
theorem ok_same (T : Top K mg "_law_same" st_law_same) (B : Bt mg) (D0 : Dn P w K mg base 2 "_law_same" st_law_same ["found", "due"] spSame0) (D1 : Dn P w K mg base 3 "_law_same" st_law_same ["found", "due"] spSame1) :
    Dn P w K mg base 3 "_law_same" st_law_same ["found", "due"] spSame := (D0.mono (by decide)).or D1
end
end Tx

set_option Elab.async false
set_option linter.all false
set_option maxRecDepth 100000
set_option maxHeartbeats 1000000
namespace Tx
open PySem PySem.Spec PyProof.Rows L2 TL RZ
theorem turns_len (n : Nat) (l : List Nat) : (turns n l).length = l.length := by unfold turns; rw [List.length_map, List.length_range]
theorem low_drop {z : Str} (h : Low z) (n : Nat) : Low (mkS ((tl z).drop n)) := low_mk h fun _ hc => List.mem_of_mem_drop hc
theorem cutS_neg (z : Str) (h : 1 ≤ z.length) : cutS z none (some (-1)) = mkS ((tl z).take (z.length - 1)) := by
  refine ext_tl ?_
  unfold cutS
  rw [HT.sIx_none]
  show ((tl z).drop 0).take (HT.sIx z.length z.length (some (-1)) - 0) = _
  have e : HT.sIx z.length z.length (some (-1)) = z.length - 1 := by
    show (if (-1 : Int) < 0 then ((-1 : Int) + (z.length : Int)).toNat else min (-1 : Int).toNat z.length) = _
    rw [if_pos (by decide)]; omega
  rw [e]; rfl
theorem cutV_to (xs : List V) (p : Nat) : cutV xs none (some (p : Int)) = xs.take p := by
  unfold cutV
  rw [HT.sIx_nat, HT.sIx_none]
  show (xs.drop 0).take (min p xs.length - 0) = xs.take p
  rw [List.drop_zero, Nat.sub_zero]
  by_cases h : p ≤ xs.length
  · rw [Nat.min_eq_left h]
  · rw [Nat.min_eq_right (by omega), List.take_of_length_le (Nat.le_refl _), List.take_of_length_le (by omega)]
theorem in_dec (x : Str) (ws : List Str) : inV (.str x) (ws.map V.str) = decide (x ∈ ws) := by
  unfold inV
  rw [List.any_map]
  by_cases c : x ∈ ws
  · rw [decide_eq_true c, List.any_eq_true]
    exact ⟨x, c, by simp [eqV]⟩
  · rw [decide_eq_false c, List.any_eq_false]
    intro y hy h
    have h : eqV (V.str y) (V.str x) = true := h
    have e : y = x := by simpa [eqV] using h
    exact c (e ▸ hy)
theorem flat_strs (ws : List Str) : (ws.map V.str).all flatV = true := by
  rw [List.all_eq_true]
  intro v hv
  obtain ⟨x, _, rfl⟩ := List.mem_map.mp hv
  rfl
theorem str_ne {x y : Str} : decide (V.str x = V.str y) = decide (x = y) := by
  by_cases h : x = y
  · subst h; rw [decide_eq_true rfl, decide_eq_true rfl]
  · rw [decide_eq_false h, decide_eq_false fun e => h (V.str.inj e)]
/-- windows of draws -/
def Wins (k : Nat) (ws : List Str) : Prop := 1 ≤ ws.length ∧ ws.length ≤ 60 ∧ ∀ z ∈ ws, Low z ∧ z.length = k
theorem Up.wins {k most : Nat} {ws ys : List Str} (u : Up ys ws) (h : Wins k ws) (k2 : 2 ≤ k) (k6 : k ≤ 6) (m1 : 1 ≤ most) : Book k (ys.take most) := by
  obtain ⟨w1, w2, w3⟩ := h
  have sub : (ys.take most).Sublist ys := List.take_sublist ..
  have yl : ys.length ≤ 60 := Nat.le_trans u.2.2.2 w2
  have y1 : 1 ≤ ys.length := by
    cases ws with
    | nil => exact absurd w1 (by decide)
    | cons v ws =>
      have := (u.2.2.1 v).mpr (List.mem_cons_self ..)
      exact List.length_pos_of_mem this
  refine ⟨k2, k6, by rw [List.length_take]; omega, by rw [List.length_take]; omega, (up_asc u).sublist sub, fun z hz => w3 z ((u.2.2.1 z).mp (sub.subset hz))⟩
theorem mem_list {xs : List Str} {i : Nat} {y : V} (h : (xs.map V.str)[i]? = some y) : ∃ x ∈ xs, y = V.str x := by
  obtain ⟨x, h1, h2⟩ := List.mem_map.mp (List.mem_of_getElem? h)
  exact ⟨x, h1, h2.symm⟩
theorem big {m : Nat} (h : m ≤ 3000) : m ≤ sizeLine := Nat.le_trans h (by decide)
section
variable {P : Program} {w : World} {K : PySem.W.Frag} {mg : Str → Option Value} {base : Heap}
abbrev st_law_book : Stmt := topS 27
theorem sc_law_book : FnScope ["source", "most", "size", "letters", "kind", "windows", "lost", "old", "letter", "text", "at", "turn", "window"] ["source", "most"] (defScope st_law_book) := ⟨rfl, rfl, rfl, by decide +kernel, rfl, by decide +kernel, by decide +kernel⟩
theorem pl_law_book : PlainB "_law_book" st_law_book ["source", "most"] := fun _ _ _ _ _ _ us hl => match us, hl with | [_, _], _ => rfl
/-- what stands while windows are drawn -/
def Gw (H0 H' : Hp) (p : Addr) (most k kind : Nat) (L : Str) (bd n : Nat) (σ' : L2.St) : Prop := ∃ (F : Addr) (ws : List Str) (o6 o7 o8 o9 : Option V), σ' = [some (.ref p), some (.int most), some (.int k), some (.str L), some (.int kind), some (.ref F), o6, o7, o8, o9, none, none, none] ∧
  H0 F = none ∧ H' F = some (.lst (ws.map V.str)) ∧ Wins k ws ∧ ws.length ≤ bd ∧ Src H' p n ∧ But p H0 H'
def spLBook : Sp := fun vs H Q _ => ∃ (p : Addr) (most n : Nat), vs = [.ref p, .int most] ∧ Src H p n ∧ n ≤ 1000000 ∧ 1 ≤ most ∧ most ≤ 40 ∧ ∀ b k ws H', H b = none → BookAt H' b k ws → Book k ws → ws.length ≤ most → Src H' p (n + 30000) → But p H H' → Q (.ref b) H'
theorem ok_law_book (T : Top K mg "_law_book" st_law_book) (B : Bt mg) (D_law_pick : Dn P w K mg base 1 "_law_pick" st_law_pick ["source", "top"] spPick) (D_law_letters : Dn P w K mg base 2 "_law_letters" st_law_letters ["source"] spLetters)
    (D_law_round : Dn P w K mg base 1 "_law_round" st_law_round ["size", "ring"] spRound) (D_law_ring : Dn P w K mg base 3 "_law_ring" st_law_ring ["source", "letters", "most"] spLRing) (D_law_word : Dn P w K mg base 2 "_law_word" st_law_word ["source", "letters", "size"] spWord) :
    Dn P w K mg base 4 "_law_book" st_law_book ["source", "most"] spLBook := by
  refine dn_of T sc_law_book pl_law_book (fun vs H Q E h => ?_) fun f cdv A outer s H vs Q E hr h => ?_
  · obtain ⟨a, b, _, rfl, _⟩ := h; rfl
  · obtain ⟨p, most, n, rfl, sr, hn, m1, m40, q⟩ := h
    obtain ⟨o, eo⟩ := id sr.at
    refine ⟨_, (pss_cons (ps_asg (pe_tup (pa_cons (pe_op op_add pe_int (pe_fn D_law_pick (hr.mono (by decide)) (by rfl) (pa_cons (pv 0) (pa_cons pe_int pa_nil)))) (pa_cons (pe_fn D_law_letters (hr.mono (by decide)) (by rfl) (pa_cons (pv 0) pa_nil)) (pa_cons (pe_fn D_law_pick (hr.mono (by decide)) (by rfl) (pa_cons (pv 0) (pa_cons pe_int pa_nil))) pa_nil)))) (pg_tupK K rfl rfl (pgs_cons (pg_name (i := 2) sc_law_book.nd rfl (.inr rfl)) (pgs_cons (pg_name (i := 3) sc_law_book.nd rfl (.inr rfl)) (pgs_cons (pg_name (i := 4) sc_law_book.nd rfl (.inl rfl)) pgs_nil)))))
      (pss_cons (ps_set (i := 5) sc_law_book.nd rfl (.inl rfl) (pe_fn D_law_round (hr.mono (by decide)) (by rfl) (pa_cons (pv 2) (pa_cons (pe_fn D_law_ring (hr.mono (by decide)) (by rfl) (pa_cons (pv 0) (pa_cons (pv 3) (pa_cons (pv 1) pa_nil)))) pa_nil))))
      (pss_cons (ps_if (PW.pt (pw_and (pt_cmpR op_eq (pv 4) pe_int (nomark _)) (pw_and1 (pt_cmpR op_gt (pe_callB (lenK K rfl) (by rfl) B.len (by decide +kernel) (pa_cons (pv 5) pa_nil)) pe_int (nomark _))))) (pss_cons (ps_set (i := 6) sc_law_book.nd rfl (.inr rfl) (pe_ix (ixK K rfl) (pv 5) (pe_fn D_law_pick (hr.mono (by decide)) (by rfl) (pa_cons (pv 0) (pa_cons (pe_callB (lenK K rfl) (by rfl) B.len (by decide +kernel) (pa_cons (pv 5) pa_nil)) pa_nil))) (fun _ _ => rfl)))
      (pss_one (ps_set (i := 5) sc_law_book.nd rfl (.inl rfl) (pe_op op_cat (pe_lc (own := [("window", 12)]) (g := gName 12) rfl sc_law_book.nd (pi_list (pv 5)) (blkOk_by (N := ["source", "most", "size", "letters", "kind", "windows", "lost", "old", "letter", "text", "at", "turn", "window"]) (sc := defScope st_law_book) (by decide +kernel)) (fun _ _ _ _ _ => (pg_name (i := 12) sc_law_book.nd rfl (.inl rfl))) (fun _ _ _ _ _ => (pts_one (pt_cmpR op_ne (pv 12) (pv 6) (nomark _)))) (fun _ _ _ _ _ => (pv 12))) (pe_slice (slK K rfl) (pv 5) po_none (po_some pe_int)))))) pss_nil)
      (pss_cons (ps_if (pt_cmpR op_eq (pv 4) pe_int (nomark _)) (pss_cons (ps_par (i := 7) (j := 8) (by rfl) sc_law_book.nd rfl rfl (by decide) rfl rfl (pa_cons (pe_ix (ixK K rfl) (pv 5) (pe_fn D_law_pick (hr.mono (by decide)) (by rfl) (pa_cons (pv 0) (pa_cons (pe_callB (lenK K rfl) (by rfl) B.len (by decide +kernel) (pa_cons (pv 5) pa_nil)) pa_nil))) (fun _ _ => rfl)) (pa_cons (pe_ix ix_str (pv 3) (pe_fn D_law_pick (hr.mono (by decide)) (by rfl) (pa_cons (pv 0) (pa_cons (pe_callB call_len_str (by rfl) B.len (by decide +kernel) (pa_cons (pv 3) pa_nil)) pa_nil))) (fun _ _ => rfl)) pa_nil)) (by rfl))
      (pss_one (ps_set (i := 5) sc_law_book.nd rfl (.inl rfl) (pe_op op_cat (pe_slice (slK K rfl) (pv 5) po_none (po_some (pe_op op_sub (pv 1) pe_int))) (pe_lst (pa_cons (pe_ix (ixK K rfl) (pe_lst (pa_cons (pe_op op_add_str (pe_slice sl_str (pv 7) (po_some pe_int) po_none) (pv 8)) (pa_cons (pe_op op_add_str (pv 8) (pe_slice sl_str (pv 7) po_none (po_some (pe_un un_neg pe_int)))) pa_nil))) (pe_fn D_law_pick (hr.mono (by decide)) (by rfl) (pa_cons (pv 0) (pa_cons pe_int pa_nil))) (fun _ _ => rfl)) pa_nil)))))) pss_nil)
      (pss_cons (ps_if (pt_cmpR op_eq (pv 4) pe_int (nomark _)) (pss_cons (ps_set (i := 9) sc_law_book.nd rfl (.inr rfl) (pe_fn D_law_word (hr.mono (by decide)) (by rfl) (pa_cons (pv 0) (pa_cons (pv 3) (pa_cons (pe_op op_add (pv 2) (pe_fn D_law_pick (hr.mono (by decide)) (by rfl) (pa_cons (pv 0) (pa_cons (pv 1) pa_nil)))) pa_nil)))))
      (pss_one (ps_setLc (i := 5) (own := [("at", 10)]) (g := gName 10) rfl sc_law_book.nd rfl rfl (sw_true rfl rfl rfl (by decide +kernel)) (pi_range1 (by rfl) B.range (pa_cons (pe_op op_add (pe_op op_sub (pe_callB call_len_str (by rfl) B.len (by decide +kernel) (pa_cons (pv 9) pa_nil)) (pv 2)) pe_int) pa_nil)) (blkOk_by (N := ["source", "most", "size", "letters", "kind", "windows", "lost", "old", "letter", "text", "at", "turn", "window"]) (sc := defScope st_law_book) (by decide +kernel)) (fun _ _ _ _ _ => (pg_name (i := 10) sc_law_book.nd rfl (.inl rfl))) (fun _ _ _ _ _ => pts_nil) (fun _ _ _ _ _ => (pe_slice sl_str (pv 9) (po_some (pv 10)) (po_some (pe_op op_add (pv 10) (pv 2)))))))) pss_nil)
      (pss_cons (ps_if (pt_cmpR op_eq (pv 4) pe_int (nomark _)) (pss_one (ps_setLc (i := 5) (own := [("turn", 11)]) (g := gName 11) rfl sc_law_book.nd rfl rfl (sw_true rfl rfl rfl (by decide +kernel)) (pi_range1 (by rfl) B.range (pa_cons (pe_op op_add pe_int (pe_fn D_law_pick (hr.mono (by decide)) (by rfl) (pa_cons (pv 0) (pa_cons (pv 1) pa_nil)))) pa_nil)) (blkOk_by (N := ["source", "most", "size", "letters", "kind", "windows", "lost", "old", "letter", "text", "at", "turn", "window"]) (sc := defScope st_law_book) (by decide +kernel)) (fun _ _ _ _ _ => (pg_name (i := 11) sc_law_book.nd rfl (.inl rfl))) (fun _ _ _ _ _ => pts_nil) (fun _ _ _ _ _ => (pe_fn D_law_word (hr.mono (by decide)) (by rfl) (pa_cons (pv 0) (pa_cons (pv 3) (pa_cons (pv 2) pa_nil))))))) pss_nil)
      (pss_one (ps_ret (pe_tup (pa_cons (pv 2) (pa_cons (pe_callTy (tupK K rfl) (by rfl) B.tuple (by decide +kernel) (pa_cons (pe_slice (slK K rfl) (pe_callB (sortSetK w rfl rfl) (by rfl) B.sorted (by decide +kernel) (pa_cons (pe_callTy (setK K w rfl rfl rfl) (by rfl) B.set (by decide +kernel) (pa_cons (pv 5) pa_nil)) pa_nil)) po_none (po_some (pv 1))) pa_nil)) pa_nil))))))))))), ?_⟩
    refine ⟨_, rfl, p, 5, n, rfl, sr, by omega, by decide, by decide, fun r1 H1 a0 a1 sr1 bt1 => ⟨_, _, rfl, rfl, _, rfl, p, _, rfl, sr1, by omega, fun L H2 LL l26 sr2 bt2 => ⟨_, rfl, p, 7, _, rfl, sr2, by omega, by decide, by decide, fun kd H3 b0 b1 sr3 bt3 => ⟨by show 3 ≤ sizeLine; decide, fun v nv => ⟨v, _, rfl, .inl (.inl upd_same), rfl, _, _, rfl, _, _, rfl, _, _, rfl, rfl, ?_⟩⟩⟩⟩⟩
    obtain ⟨k, ek⟩ : ∃ k : Nat, 2 + r1 = (k : Int) := ⟨(2 + r1).toNat, by omega⟩
    obtain ⟨kind, ekd⟩ : ∃ k : Nat, kd = (k : Int) := ⟨kd.toNat, by omega⟩
    subst ekd
    dsimp only
    rw [ek]
    have k2 : 2 ≤ k := by omega
    have k6 : k ≤ 6 := by omega
    obtain ⟨lo, l1, _⟩ := id LL
    have sL : L.length ≤ sizeLine := Nat.le_trans l26 (by decide)
    have b3 : But p H (upd H3 v (.tup [V.int (k : Int), .str L, .int (kind : Int)])) := ((bt1.trans bt2).trans bt3).same (same_upd nv)
    have sr3' := sr3.new (o := .tup [V.int (k : Int), .str L, .int (kind : Int)]) nv
    generalize upd H3 v (.tup [V.int (k : Int), .str L, .int (kind : Int)]) = H4 at b3 sr3' ⊢
    refine ⟨_, rfl, _, rfl, _, rfl, _, rfl, p, L, most, _, rfl, sr3', LL, m1, by omega, by omega, fun z H5 lz z1 z2 sr5 bt5 => ⟨k, z, rfl, by omega, by omega, fun F H6 nF s6 eF => ?_⟩⟩
    have hl : 0 < (tl z).length := by rw [← len_tl]; omega
    have w0 : Wins k (turns k (tl z)) := ⟨by rw [turns_len]; exact hl, by rw [turns_len, ← len_tl]; omega, fun y hy => turns_low lz z1 hy⟩
    have b5 : But p H H5 := b3.trans bt5
    have g0 : Gw H H6 p most k kind L 40 (n + 10010) [some (.ref p), some (.int most), some (.int k), some (.str L), some (.int kind), some (.ref F), none, none, none, none, none, none, none] :=
      ⟨F, _, none, none, none, none, rfl, b5.free sr5.at nF, eF, w0, by rw [turns_len, ← len_tl]; omega, (sr5.same s6).mono (by omega), b5.same s6⟩
    dsimp only [gName]
    refine seq_if (fun σ H' => Gw H H' p most k kind L 41 (n + 10100) σ) ?rest1 fun kk => ?now1
    case now1 =>
      obtain ⟨F, ws, o6, o7, o8, o9, eσ, nF, eF, ⟨w1, w41, wl⟩, wm, srw, btw⟩ := g0
      have nFp : F ≠ p := (ne_of_none eo nF).symm
      cases eσ
      refine ⟨_, rfl, rfl, _, rfl, ?_⟩
      refine ite2 (fun _ => ?_) fun _ => ?_
      · refine ⟨_, rfl, _, _, rfl, .inl (.inl (.inl eF)), _, _, rfl, rfl, _, rfl, ?_⟩
        refine ite2 (fun _ => ?_) fun _ => ?_
        · refine ⟨_, rfl, _, rfl, _, rfl, _, _, rfl, .inl (.inl (.inl eF)), p, ((ws.map V.str).length : Int), _, rfl, srw, by omega, by rw [List.length_map]; omega, by rw [List.length_map]; omega, fun r H7 c0 c1 sr7 bt7 => ?_⟩
          rw [List.length_map] at c1
          have lt : r.toNat < ws.length := by omega
          have eF7 := bt7.kept eF nFp
          refine ⟨_, _, r, V.str ws[r.toNat], rfl, rfl, .inl (.inl eF7), atI_pos c0 (by rw [List.getElem?_map, List.getElem?_eq_getElem lt]; rfl), ?_⟩
          refine ⟨_, rfl, _, rfl, ⟨_, .inl (.inl eF7)⟩, fun D hD => ?_⟩
          refine lc_list (a := F) (xs := ws.map V.str) (fun j H2 => Same H7 H2 ∧ ∃ fs : List Str, H2 D = some (.lst (fs.map V.str)) ∧ fs.length ≤ j ∧ ∀ y ∈ fs, y ∈ ws) ⟨same_upd hD, [], upd_same, Nat.le_refl _, fun _ h => by cases h⟩ (fun j H2 _ h => .inl (.inl (h.1 _ _ eF7))) (fun j v H2 hj ⟨sm, fs, e2, fl, f1⟩ => ?_) fun H8 ⟨s8, fs, e8, fl, f1⟩ => ?_
          · obtain ⟨x, hx, rfl⟩ := mem_list hj
            have jl : j < 60 := by
              have := (List.getElem?_eq_some_iff.mp hj).1
              rw [List.length_map] at this
              omega
            refine ⟨rfl, ?_⟩
            refine ⟨_, rfl, _, rfl, rfl, _, rfl, ?_⟩
            refine ite2 (fun _ => ?_) fun _ => ?_
            · refine ⟨_, rfl, _, e2, by rw [List.length_map]; exact lt_line (by omega), wr sm hD, fs ++ [x], by rw [upd_same, List.map_append]; rfl, by rw [List.length_append]; exact Nat.add_le_add_right fl 1, fun u hu => ?_⟩
              rcases List.mem_append.mp hu with hu | hu
              · exact f1 u hu
              · rw [List.mem_singleton.mp hu]; exact hx
            · exact ⟨sm, fs, e2, by omega, f1⟩
          rw [List.length_map] at fl
          refine ⟨_, rfl, _, rfl, F, _, rfl, .inl (.inl (s8 _ _ eF7)), fun g ng => ?_⟩
          have ec : cutV (ws.map V.str) none (some (1 : Int)) = (ws.map V.str).take 1 := cutV_to _ 1
          rw [ec, ← List.map_take]
          refine ⟨D, g, _, _, rfl, rfl, (same_upd ng) _ _ e8, upd_same, by rw [List.length_map, List.length_map, List.length_take]; exact big (by omega), fun h nh => ?_⟩
          rw [← List.map_append]
          have s9 : Same H7 (upd (upd H8 g (.lst ((ws.take 1).map V.str))) h (.lst ((fs ++ ws.take 1).map V.str))) := (s8.trans (same_upd ng)).trans (same_upd nh)
          have nh7 : H7 h = none := s8.free ((same_upd ng).free nh)
          have b7 : But p H H7 := btw.trans bt7
          have lfs : (fs ++ ws.take 1).length = fs.length + 1 := by rw [List.length_append, List.length_take]; omega
          refine kk _ _ ⟨h, fs ++ ws.take 1, _, _, _, _, rfl, b7.free sr7.at nh7, upd_same, ⟨by omega, by omega, fun y hy => ?_⟩, by omega, (sr7.same s9).mono (by omega), b7.same s9⟩
          rcases List.mem_append.mp hy with hy | hy
          · exact wl y (f1 y hy)
          · exact wl y (List.mem_of_mem_take hy)
        · exact kk _ _ ⟨F, ws, _, _, _, _, rfl, nF, eF, ⟨w1, w41, wl⟩, by omega, srw.mono (by omega), btw⟩
      · refine iteF ?_
        exact kk _ _ ⟨F, ws, _, _, _, _, rfl, nF, eF, ⟨w1, w41, wl⟩, by omega, srw.mono (by omega), btw⟩
    case rest1 =>
      clear g0
      intro σ H7 g0
      refine seq_if (fun σ H' => Gw H H' p most k kind L 42 (n + 10200) σ) ?rest2 fun kk => ?now2
      case now2 =>
        obtain ⟨F, ws, o6, o7, o8, o9, eσ, nF, eF, ⟨w1, w41, wl⟩, wm, srw, btw⟩ := g0
        have nFp : F ≠ p := (ne_of_none eo nF).symm
        cases eσ
        refine ⟨_, rfl, rfl, _, rfl, ?_⟩
        refine ite2 (fun _ => ?_) fun _ => ?_
        · refine ⟨_, rfl, _, rfl, _, rfl, _, _, rfl, .inl (.inl (.inl eF)), p, ((ws.map V.str).length : Int), _, rfl, srw, by omega, by rw [List.length_map]; omega, by rw [List.length_map]; omega, fun r H8 c0 c1 sr8 bt8 => ?_⟩
          rw [List.length_map] at c1
          have lt : r.toNat < ws.length := by omega
          obtain ⟨ly, yl⟩ := wl _ (List.getElem_mem lt)
          have eF8 := bt8.kept eF nFp
          refine ⟨_, _, r, V.str ws[r.toNat], rfl, rfl, .inl (.inl eF8), atI_pos c0 (by rw [List.getElem?_map, List.getElem?_eq_getElem lt]; rfl), ?_⟩
          generalize ws[r.toNat] = y at ly yl ⊢
          have sy : y.length ≤ sizeLine := big (by omega)
          refine ⟨_, rfl, _, rfl, _, rfl, L, rfl, sL, p, L.length, _, rfl, sr8, by omega, by omega, by omega, fun r9 H9 d0 d1 sr9 bt9 => ?_⟩
          have lt9 : r9.toNat < (tl L).length := by rw [← len_tl]; omega
          have lc : Low (⟨#[(tl L)[r9.toNat]]⟩ : Str) := low_one lo (List.getElem_mem lt9)
          refine ⟨_, r9, (tl L)[r9.toNat], rfl, rfl, sL, atI_pos d0 (List.getElem?_eq_getElem lt9), _, _, rfl, ?_⟩
          generalize (tl L)[r9.toNat] = ch at lc ⊢
          have eF9 := bt9.kept eF8 nFp
          have c1' : (⟨#[ch]⟩ : Str).length = 1 := rfl
          refine ⟨_, rfl, _, rfl, _, _, rfl, rfl, _, rfl, F, _, rfl, .inl (.inl eF9), fun g ng => ?_⟩
          rw [show ((most : Int) - 1) = ((most - 1 : Nat) : Int) by omega, cutV_to _ (most - 1), ← List.map_take]
          have e1 : cutS y (some (1 : Int)) none = mkS ((tl y).drop 1) := cutS_from y 1 (by omega)
          have ld1 : (mkS ((tl y).drop 1)).length = k - 1 := by rw [len_mkS, List.length_drop, ← len_tl, yl]
          have lt1 : (mkS ((tl y).take (y.length - 1))).length = k - 1 := by rw [len_take (by omega), yl]
          refine ⟨_, rfl, _, rfl, y, rfl, sy, ?_⟩
          rw [e1]
          refine ⟨_, rfl, _, _, rfl, rfl, by rw [c1', ld1]; exact big (by omega), _, rfl, _, rfl, _, rfl, _, rfl, y, rfl, sy, ?_⟩
          rw [cutS_neg y (by omega)]
          refine ⟨_, _, rfl, rfl, by rw [c1', lt1]; exact big (by omega), by show 2 ≤ sizeLine; decide, fun pr2 npr => ?_⟩
          have sg : Same H9 (upd (upd H9 g (.lst ((ws.take (most - 1)).map V.str))) pr2 (.lst [V.str (mkS ((tl y).drop 1) ++ ⟨#[ch]⟩), .str (⟨#[ch]⟩ ++ mkS ((tl y).take (y.length - 1)))])) := (same_upd ng).trans (same_upd npr)
          have epr : (upd (upd H9 g (.lst ((ws.take (most - 1)).map V.str))) pr2 (.lst [V.str (mkS ((tl y).drop 1) ++ ⟨#[ch]⟩), .str (⟨#[ch]⟩ ++ mkS ((tl y).take (y.length - 1)))])) pr2 = some (.lst [V.str (mkS ((tl y).drop 1) ++ ⟨#[ch]⟩), .str (⟨#[ch]⟩ ++ mkS ((tl y).take (y.length - 1)))]) := upd_same
          have egg : (upd (upd H9 g (.lst ((ws.take (most - 1)).map V.str))) pr2 (.lst [V.str (mkS ((tl y).drop 1) ++ ⟨#[ch]⟩), .str (⟨#[ch]⟩ ++ mkS ((tl y).take (y.length - 1)))])) g = some (.lst ((ws.take (most - 1)).map V.str)) := (same_upd npr) _ _ upd_same
          generalize upd (upd H9 g (.lst ((ws.take (most - 1)).map V.str))) pr2 (.lst [V.str (mkS ((tl y).drop 1) ++ ⟨#[ch]⟩), .str (⟨#[ch]⟩ ++ mkS ((tl y).take (y.length - 1)))]) = H10 at sg epr egg ⊢
          obtain ⟨o9', eo9⟩ := id sr9.at
          have nprp : pr2 ≠ p := fun h => by
            subst h
            obtain ⟨_, _, _, e', _⟩ := sr9
            exact absurd ((same_upd ng) _ _ e') (by rw [npr]; exact fun h => by cases h)
          have ngp : g ≠ p := (ne_of_none eo9 ng).symm
          refine ⟨_, rfl, p, 2, _, rfl, sr9.same sg, by omega, by decide, by decide, fun r11 H11 f0 f1 sr11 bt11 => ?_⟩
          obtain ⟨x, ex, lx, xl⟩ : ∃ x : Str, [V.str (mkS ((tl y).drop 1) ++ ⟨#[ch]⟩), V.str (⟨#[ch]⟩ ++ mkS ((tl y).take (y.length - 1)))][r11.toNat]? = some (V.str x) ∧ Low x ∧ x.length = k := by
            rcases (show r11 = 0 ∨ r11 = 1 by omega) with rfl | rfl
            · exact ⟨_, rfl, low_app (low_drop ly _) lc, by rw [len_app, c1', ld1]; omega⟩
            · exact ⟨_, rfl, low_app lc (low_take ly _), by rw [len_app, c1', lt1]; omega⟩
          refine ⟨pr2, _, r11, V.str x, rfl, rfl, .inl (.inl (bt11.kept epr nprp)), atI_pos f0 ex, by show 1 ≤ sizeLine; decide, fun l nl => ?_⟩
          refine ⟨g, l, _, _, rfl, rfl, (same_upd nl) _ _ (bt11.kept egg ngp), upd_same, by rw [List.length_map, List.length_take]; exact big (show _ + 1 ≤ 3000 by omega), fun h nh => ?_⟩
          have b11 : But p H H11 := ((btw.trans bt8).trans bt9).trans ((Same.but sg).trans bt11)
          have nh0 : H h = none := b11.free sr11.at ((same_upd nl).free nh)
          refine kk _ _ ⟨h, ws.take (most - 1) ++ [x], _, _, _, _, rfl, nh0, by rw [upd_same, List.map_append]; rfl, ⟨by rw [List.length_append]; exact Nat.le_add_left 1 _, by rw [List.length_append, List.length_take]; show _ + 1 ≤ 60; omega, fun u hu => ?_⟩, by rw [List.length_append, List.length_take]; show _ + 1 ≤ 42; omega, ((sr11.same (same_upd nl)).same (same_upd nh)).mono (by omega), (b11.same (same_upd nl)).same (same_upd nh)⟩
          rcases List.mem_append.mp hu with hu | hu
          · exact wl u (List.mem_of_mem_take hu)
          · rw [List.mem_singleton.mp hu]; exact ⟨lx, xl⟩
        · exact kk _ _ ⟨F, ws, _, _, _, _, rfl, nF, eF, ⟨w1, w41, wl⟩, by omega, srw.mono (by omega), btw⟩
      case rest2 =>
        clear g0
        intro σ H7 g0
        refine seq_if (fun σ H' => Gw H H' p most k kind L 43 (n + 10400) σ) ?rest3 fun kk => ?now3
        case now3 =>
          obtain ⟨F, ws, o6, o7, o8, o9, eσ, nF, eF, ⟨w1, w41, wl⟩, wm, srw, btw⟩ := g0
          cases eσ
          refine ⟨_, rfl, rfl, _, rfl, ?_⟩
          refine ite2 (fun _ => ?_) fun _ => ?_
          · refine ⟨_, rfl, _, rfl, _, rfl, _, rfl, _, rfl, p, most, _, rfl, srw, by omega, by omega, by omega, fun r H8 c0 c1 sr8 bt8 => ⟨_, _, rfl, rfl, ?_⟩⟩
            obtain ⟨sz5, e5⟩ : ∃ j : Nat, (k : Int) + r = (j : Int) := ⟨((k : Int) + r).toNat, by omega⟩
            dsimp only
            rw [e5]
            refine ⟨p, L, sz5, _, rfl, sr8, LL, by omega, by omega, fun x H9 xl lx sr9 bt9 => ?_⟩
            have sx : x.length ≤ sizeLine := big (by omega)
            refine ⟨_, rfl, x, rfl, sx, _, rfl, _, _, rfl, rfl, _, _, rfl, rfl, _, rfl, by omega, by omega, fun D hD => ?_⟩
            rw [show ((x.length : Int) - (k : Int) + 1).toNat = x.length + 1 - k by omega]
            have b9 : But p H H9 := (btw.trans bt8).trans bt9
            refine lc_range (fun i H' => Same H9 H' ∧ H' D = some (.lst (((steps k (tl x)).take i).map V.str))) ⟨same_upd hD, upd_same⟩ (fun i H' hi ⟨sm, e⟩ => ?_) fun H' ⟨sm, e⟩ => ?_
            · have sa : (steps k (tl x))[i]? = some (mkS (cut (tl x) i k)) := by
                unfold steps
                rw [List.getElem?_map, List.getElem?_range (by rw [← len_tl]; exact hi)]; rfl
              refine ⟨rfl, lc_yes ?_⟩
              refine ⟨_, rfl, _, rfl, _, rfl, _, rfl, _, rfl, _, _, rfl, rfl, _, rfl, x, rfl, sx, _, e, by rw [List.length_map, List.length_take]; exact lt_line (by omega), wr sm hD, ?_⟩
              rw [upd_same, show ((0 : Int) + (i : Int)) = (i : Int) by omega, cutS_mid x i k (by omega), List.take_add_one, sa, List.map_append]; rfl
            · rw [List.take_of_length_le (by rw [steps_len, ← len_tl]; exact Nat.le_refl _)] at e
              refine kk _ _ ⟨D, steps k (tl x), _, _, _, _, rfl, b9.free sr9.at hD, e, ⟨by rw [steps_len, ← len_tl]; omega, by rw [steps_len, ← len_tl]; omega, fun u hu => ?_⟩, by rw [steps_len, ← len_tl]; omega, (sr9.same sm).mono (by omega), b9.same sm⟩
              unfold steps at hu
              obtain ⟨i, hi, rfl⟩ := List.mem_map.mp hu
              have hi := List.mem_range.mp hi
              exact ⟨low_cut lx _ _, len_cut (by rw [← len_tl] at hi; omega)⟩
          · exact kk _ _ ⟨F, ws, _, _, _, _, rfl, nF, eF, ⟨w1, w41, wl⟩, by omega, srw.mono (by omega), btw⟩
        case rest3 =>
          clear g0
          intro σ H7 g0
          refine seq_if (fun σ H' => Gw H H' p most k kind L 44 (n + 20000) σ) ?rest4 fun kk => ?now4
          case now4 =>
            obtain ⟨F, ws, o6, o7, o8, o9, eσ, nF, eF, ⟨w1, w41, wl⟩, wm, srw, btw⟩ := g0
            cases eσ
            refine ⟨_, rfl, rfl, _, rfl, ?_⟩
            refine ite2 (fun _ => ?_) fun _ => ?_
            · refine ⟨_, rfl, _, rfl, p, most, _, rfl, srw, by omega, by omega, by omega, fun r H8 c0 c1 sr8 bt8 => ⟨_, _, rfl, rfl, _, rfl, by omega, by omega, fun D hD => ?_⟩⟩
              obtain ⟨m, em⟩ : ∃ j : Nat, 1 + r = (j : Int) := ⟨(1 + r).toNat, by omega⟩
              rw [show (1 + r).toNat = m by omega]
              obtain ⟨o8', eo8⟩ := id sr8.at
              have nDp : D ≠ p := (ne_of_none eo8 hD).symm
              have b8 : But p H H8 := btw.trans bt8
              refine lc_range (fun i H' => Src H' p (n + 10401 + 6 * i) ∧ But p H8 H' ∧ ∃ us : List Str, us.length = i ∧ (∀ u ∈ us, Low u ∧ u.length = k) ∧ H' D = some (.lst (us.map V.str))) ⟨(sr8.new hD).mono (by omega), But.refl.mk hD, [], rfl, (fun _ h => by cases h), upd_same⟩ (fun i H' hi ⟨sr', bt', us, ul, hu, eD⟩ => ?_) fun H' ⟨sr', bt', us, ul, hu, eD⟩ => ?_
              · refine ⟨rfl, lc_yes ?_⟩
                refine ⟨_, rfl, _, rfl, _, rfl, p, L, k, _, rfl, sr', LL, by omega, by omega, fun x H9 xl lx sr9 bt9 => ?_⟩
                refine ⟨_, bt9.kept eD nDp, by rw [List.length_map, ul]; exact lt_line (by omega), (sr9.set nDp).mono (by omega), (bt'.trans bt9).mk hD, us ++ [x], by rw [List.length_append, ul]; rfl, fun u h => ?_, by rw [upd_same, List.map_append]; rfl⟩
                rcases List.mem_append.mp h with h | h
                · exact hu u h
                · rw [List.mem_singleton.mp h]; exact ⟨lx, xl⟩
              · exact kk _ _ ⟨D, us, _, _, _, _, rfl, b8.free sr8.at hD, eD, ⟨by omega, by omega, hu⟩, by omega, sr'.mono (by omega), b8.trans bt'⟩
            · exact kk _ _ ⟨F, ws, _, _, _, _, rfl, nF, eF, ⟨w1, w41, wl⟩, by omega, srw.mono (by omega), btw⟩
          case rest4 =>
            clear g0
            intro σ H7 g0
            obtain ⟨F, ws, o6, o7, o8, o9, eσ, nF, eF, wins, wm, srw, btw⟩ := g0
            cases eσ
            obtain ⟨w1, w41, wl⟩ := id wins
            refine ⟨_, rfl, _, rfl, F, ws, rfl, .inl (.inl eF), by omega, fun t ks fo nt => ⟨t, ks, rfl, upd_same, fun ys a py so na => ?_⟩⟩
            have up : Up ys ws := .of py so fo
            have s8 : Same H7 (upd (upd H7 t (SetSO w t ks)) a (.lst (ys.map V.str))) := (same_upd nt).trans (same_upd na)
            have ea : (upd (upd H7 t (SetSO w t ks)) a (.lst (ys.map V.str))) a = some (.lst (ys.map V.str)) := upd_same
            generalize upd (upd H7 t (SetSO w t ks)) a (.lst (ys.map V.str)) = H8 at s8 ea ⊢
            refine ⟨_, rfl, _, rfl, a, _, rfl, .inl (.inl ea), fun c nc => ?_⟩
            rw [cutV_to _ most, ← List.map_take]
            refine ⟨c, _, rfl, .inl ⟨.inl (.inl upd_same), fun u nu => ⟨by show 2 ≤ sizeLine; decide, fun b nb => ?_⟩⟩⟩
            have s9 : Same H7 (upd (upd (upd H8 c (.lst ((ys.take most).map V.str))) u (.tup ((ys.take most).map V.str))) b (.tup [V.int (k : Int), .ref u])) := ((s8.trans (same_upd nc)).trans (same_upd nu)).trans (same_upd nb)
            refine q b k (ys.take most) _ (btw.free srw.at (s8.free ((same_upd nc).free ((same_upd nu).free nb)))) ⟨u, upd_same, (same_upd nb) _ _ upd_same⟩ (up.wins wins k2 k6 m1) (by rw [List.length_take]; omega) ((srw.same s9).mono (by omega)) (btw.same s9)
end
end Tx

set_option Elab.async false
set_option linter.all false
set_option maxRecDepth 100000
set_option maxHeartbeats 1000000
namespace Tx
open PySem PySem.Spec PyProof.Rows L2 TL RZ
theorem ini_eq {v : Str} (h : 1 ≤ v.length) : cutS v none (some (-1)) = iniS v := cutS_neg v h
theorem tai_eq {v : Str} (h : 1 ≤ v.length) : cutS v (some (1 : Int)) none = taiS v := cutS_from v 1 h
/-- what is found from s on -/
structure Fnd (ws : List Str) (s : Str) (xs : List Str) : Prop where
  nd : xs.Nodup
  me : s ∈ xs
  way : ∀ x ∈ xs, Path ws s x
  pl : ∀ x ∈ xs, x = s ∨ x ∈ ws.map taiS
  few : xs.length + togo ws xs ≤ 1 + ws.length
theorem Fnd.start (ws : List Str) (s : Str) : Fnd ws s [s] := by
  refine ⟨List.nodup_cons.mpr ⟨by simp, List.nodup_nil⟩, List.mem_singleton.mpr rfl, fun x hx => ?_, fun x hx => .inl (List.mem_singleton.mp hx), ?_⟩
  · rw [List.mem_singleton.mp hx]; exact .here s
  · have : togo ws [s] ≤ ws.length := List.countP_le_length
    show 1 + _ ≤ _
    omega
theorem mem_newT {ws xs : List Str} {x : Str} (h : x ∈ newT ws xs) : ∃ v ∈ ws, iniS v ∈ xs ∧ taiS v ∉ xs ∧ x = taiS v := by
  unfold newT at h
  obtain ⟨v, hv, rfl⟩ := List.mem_map.mp h
  obtain ⟨h1, h2⟩ := List.mem_filter.mp hv
  rw [Bool.and_eq_true] at h2
  exact ⟨v, h1, of_decide_eq_true h2.1, of_decide_eq_true h2.2, rfl⟩
theorem Fnd.more {ws : List Str} {s : Str} {xs ys : List Str} (f : Fnd ws s xs) (u : Up ys (newT ws xs)) : Fnd ws s (xs ++ ys) := by
  refine ⟨List.nodup_append.mpr ⟨f.nd, u.2.1, fun a ha b hb e => ?_⟩, List.mem_append_left _ f.me, fun x hx => ?_, fun x hx => ?_, ?_⟩
  · subst e
    obtain ⟨v, _, _, h, e⟩ := mem_newT ((u.2.2.1 a).mp hb)
    exact h (e ▸ ha)
  · rcases List.mem_append.mp hx with hx | hx
    · exact f.way x hx
    · obtain ⟨v, hv, h, _, rfl⟩ := mem_newT ((u.2.2.1 x).mp hx)
      exact .step (f.way _ h) hv
  · rcases List.mem_append.mp hx with hx | hx
    · exact f.pl x hx
    · obtain ⟨v, hv, _, _, rfl⟩ := mem_newT ((u.2.2.1 x).mp hx)
      exact .inr (List.mem_map.mpr ⟨v, hv, rfl⟩)
  · have h1 := togo_le u.2.2.1
    have h2 := u.2.2.2
    have h3 := f.few
    rw [List.length_append]
    omega
theorem newT_nil {ws xs : List Str} (h : newT ws xs = []) : ∀ v ∈ ws, iniS v ∈ xs → taiS v ∈ xs := fun v hv hi => by
  refine Classical.byContradiction fun no => ?_
  have : taiS v ∈ newT ws xs := List.mem_map.mpr ⟨v, List.mem_filter.mpr ⟨hv, by rw [Bool.and_eq_true]; exact ⟨decide_eq_true hi, decide_eq_true no⟩⟩, rfl⟩
  rw [h] at this
  cases this
section
variable {P : Program} {w : World} {K : PySem.W.Frag} {mg : Str → Option Value} {base : Heap}
theorem low_ini {v : Str} (h : Low v) : Low (iniS v) := low_take h _
theorem low_tai {v : Str} (h : Low v) : Low (taiS v) := low_drop h 1
end
end Tx

set_option Elab.async false
set_option linter.all false
set_option maxRecDepth 100000
set_option maxHeartbeats 1000000
namespace Tx
open PySem PySem.Spec PyProof.Rows L2 TL RZ
theorem any_keys {kvs : List (Key × V)} {ks : List Str} (e : kvs.map (·.1) = ks.map Sum.inr) (x : Str) : (kvs.any fun kv => decide (kv.1 = Sum.inr x)) = decide (x ∈ ks) := by
  have e1 : (kvs.any fun kv => decide (kv.1 = Sum.inr x)) = (kvs.map (·.1)).any fun k => decide (k = Sum.inr x) := by rw [List.any_map]; rfl
  rw [e1, e, List.any_map]
  by_cases c : x ∈ ks
  · rw [decide_eq_true c, List.any_eq_true]
    exact ⟨x, c, decide_eq_true rfl⟩
  · rw [decide_eq_false c, List.any_eq_false]
    intro y hy h
    have h : (Sum.inr y : Key) = Sum.inr x := of_decide_eq_true h
    exact c (Sum.inr.inj h ▸ hy)
theorem keys_put {kvs : List (Key × V)} {ks : List Str} (e : kvs.map (·.1) = ks.map Sum.inr) (x : Str) (v : V) : (putK kvs (Sum.inr x : Key) v).map (·.1) = (if x ∈ ks then ks else ks ++ [x]).map Sum.inr := by
  unfold putK
  rw [any_keys e]
  by_cases c : x ∈ ks
  · rw [if_pos c, if_pos (decide_eq_true c), List.map_map, ← e]
    refine List.map_congr_left fun kv _ => ?_
    show (if kv.1 = Sum.inr x then ((kv.1, v) : Key × V) else kv).1 = kv.1
    split <;> rfl
  · rw [if_neg c, if_neg (by rw [decide_eq_false c]; exact Bool.false_ne_true), List.map_append, List.map_append, e]; rfl
theorem val_some {kvs : List (Key × V)} {ks : List Str} (e : kvs.map (·.1) = ks.map Sum.inr) (x : Str) : (valV kvs (Sum.inr x : Key)).isSome = decide (x ∈ ks) := by
  rw [← any_keys e x]
  unfold valV
  rw [Option.isSome_map, Bool.eq_iff_iff, List.find?_isSome, List.any_eq_true]
/-- a dict of texts by texts -/
structure DT (G : Str → Str → Prop) (kvs : List (Key × V)) (ks : List Str) : Prop where
  keys : kvs.map (·.1) = ks.map Sum.inr
  each : ∀ q ∈ kvs, ∃ x y, q = (Sum.inr x, V.str y) ∧ G x y
theorem mem_put {kvs : List (Key × V)} {k : Key} {v : V} {q : Key × V} (h : q ∈ putK kvs k v) : q ∈ kvs ∨ q = (k, v) := by
  unfold putK at h
  split at h
  · obtain ⟨a, ha, e⟩ := List.mem_map.mp h
    split at e
    · rename_i c
      exact .inr (by rw [← e, ← of_decide_eq_true (p := a.1 = k) (by simpa using c)])
    · exact .inl (e ▸ ha)
  · rcases List.mem_append.mp h with h | h
    · exact .inl h
    · exact .inr (List.mem_singleton.mp h)
theorem DT.nil (G : Str → Str → Prop) : DT G [] [] := ⟨rfl, fun _ h => by cases h⟩
theorem DT.put {G : Str → Str → Prop} {kvs : List (Key × V)} {ks : List Str} (d : DT G kvs ks) {x y : Str} (g : G x y) : DT G (putK kvs (Sum.inr x : Key) (V.str y)) (if x ∈ ks then ks else ks ++ [x]) :=
  ⟨keys_put d.keys x _, fun q h => by
    rcases mem_put h with h | h
    · exact d.each q h
    · exact ⟨x, y, h, g⟩⟩
theorem DT.val {G : Str → Str → Prop} {kvs : List (Key × V)} {ks : List Str} (d : DT G kvs ks) {x : Str} {v : V} (h : valV kvs (Sum.inr x : Key) = some v) : ∃ y, v = V.str y ∧ G x y := by
  unfold valV at h
  obtain ⟨q, hq, e⟩ := Option.map_eq_some_iff.mp h
  have h1 := List.mem_of_find?_eq_some hq
  have h2 : q.1 = Sum.inr x := by simpa using List.find?_some hq
  obtain ⟨x', y, e2, g⟩ := d.each q h1
  rw [e2] at h2 e
  have : x' = x := Sum.inr.inj h2
  subst this
  exact ⟨y, e.symm, g⟩
theorem DT.there {G : Str → Str → Prop} {kvs : List (Key × V)} {ks : List Str} (d : DT G kvs ks) {x : Str} (h : x ∈ ks) : ∃ y, valV kvs (Sum.inr x : Key) = some (V.str y) ∧ G x y := by
  have := val_some d.keys x
  rw [decide_eq_true h] at this
  obtain ⟨v, hv⟩ := Option.isSome_iff_exists.mp this
  obtain ⟨y, rfl, g⟩ := d.val hv
  exact ⟨y, hv, g⟩
theorem DT.imp {G G' : Str → Str → Prop} {kvs : List (Key × V)} {ks : List Str} (d : DT G kvs ks) (h : ∀ x y, G x y → G' x y) : DT G' kvs ks :=
  ⟨d.keys, fun q hq => let ⟨x, y, e, g⟩ := d.each q hq; ⟨x, y, e, h x y g⟩⟩
theorem DT.len {G : Str → Str → Prop} {kvs : List (Key × V)} {ks : List Str} (d : DT G kvs ks) : kvs.length = ks.length := by
  have := congrArg List.length d.keys
  rwa [List.length_map, List.length_map] at this
theorem mem_ite {x y : Str} {ks : List Str} : y ∈ (if x ∈ ks then ks else ks ++ [x]) ↔ y ∈ ks ∨ y = x := by
  by_cases c : x ∈ ks
  · rw [if_pos c]
    exact ⟨.inl, fun h => h.elim id fun h => by rw [h]; exact c⟩
  · rw [if_neg c, List.mem_append, List.mem_singleton]
theorem nd_ite {x : Str} {ks : List Str} (h : ks.Nodup) : (if x ∈ ks then ks else ks ++ [x]).Nodup := by
  by_cases c : x ∈ ks
  · rw [if_pos c]; exact h
  · rw [if_neg c]
    exact List.nodup_append.mpr ⟨h, List.nodup_cons.mpr ⟨by simp, List.nodup_nil⟩, fun a ha b hb e => c (by rw [← List.mem_singleton.mp hb, ← e]; exact ha)⟩
/-- a piece that ends with the window x, of at most n steps more -/
def Way (k : Nat) (ws : List Str) (n : Nat) (x y : Str) : Prop := x ∈ ws ∧ Low y ∧ k ≤ y.length ∧ y.length ≤ k + n ∧ (tl y).drop (y.length - k) = tl x
def left (ws ks : List Str) : Nat := ws.countP fun v => decide (v ∉ ks)
theorem left_le (ws ks : List Str) : left ws ks ≤ ws.length := List.countP_le_length
theorem left_less {ws ks ks' : List Str} (sub : ∀ x ∈ ks, x ∈ ks') {v : Str} (hv : v ∈ ws) (n : v ∉ ks) (h : v ∈ ks') : left ws ks' + 1 ≤ left ws ks := by
  have k := count_two (p := fun x => decide (x ∉ ks')) (q := fun x => decide (x = v)) (r := fun x => decide (x ∉ ks)) (fun x hx => decide_eq_true fun c => of_decide_eq_true hx (sub x c)) (fun x hx => by rw [of_decide_eq_true hx]; exact decide_eq_true n) ws
    (fun x _ h1 h2 => of_decide_eq_true h1 (by rw [of_decide_eq_true h2]; exact h))
  have : 1 ≤ ws.countP fun x => decide (x = v) := List.countP_pos_iff.mpr ⟨v, hv, decide_eq_true rfl⟩
  unfold left
  omega
/-- what is known: closed but for the last layer -/
structure Known (ws : List Str) (one : Str) (ks ls : List Str) : Prop where
  me : one ∈ ks
  sub : ∀ x ∈ ls, x ∈ ks
  cl : ∀ u ∈ ks, u ∈ ls ∨ ∀ v ∈ ws, iniS v = taiS u → v ∈ ks
  nd : ks.Nodup
  inn : ∀ x ∈ ks, x ∈ ws
theorem Known.done {ws : List Str} {one other : Str} {ks : List Str} (h : Known ws one ks []) (j : Joined ws) (ho : one ∈ ws) (hr : other ∈ ws) : other ∈ ks := by
  have cl : ∀ u ∈ ks, ∀ v ∈ ws, iniS v = taiS u → v ∈ ks := fun u hu => (h.cl u hu).elim (fun z => by cases z) id
  have := (j (taiS one) (tai_place ho) (iniS other) (ini_place hr)).closed (S := fun p => ∀ v ∈ ws, iniS v = p → v ∈ ks) (cl one h.me) fun v hv s => cl v (s v hv rfl)
  exact this other hr rfl
theorem Way.more {k n : Nat} {ws : List Str} {u yu v : Str} {c : Nat} (hk : 2 ≤ k) (g : Way k ws n u yu) (hv : v ∈ ws) (lv : Low v) (vl : v.length = k) (ul : u.length = k) (e : iniS v = taiS u) (hc : (tl v)[v.length - 1]? = some c) : Way k ws (n + 1) v (yu ++ ⟨#[c]⟩) := by
  obtain ⟨_, ly, y1, y2, ye⟩ := g
  have c1 : (⟨#[c]⟩ : Str).length = 1 := rfl
  have hcl : c ∈ tl v := List.mem_of_getElem? hc
  refine ⟨hv, low_app ly (low_one lv hcl), by rw [len_app]; omega, by rw [len_app, c1]; omega, ?_⟩
  rw [len_app, c1, tl_append, List.drop_append_of_le_length (by rw [← len_tl]; omega), show yu.length + 1 - k = yu.length - k + 1 by omega, ← List.drop_drop, ye]
  have e2 : (tl v).take (v.length - 1) = (tl u).drop 1 := congrArg tl e
  rw [← e2]
  show (tl v).take (v.length - 1) ++ [c] = tl v
  rw [show [c] = (tl v)[v.length - 1]?.toList by rw [hc]; rfl, ← List.take_add_one, show v.length - 1 + 1 = (tl v).length by rw [← len_tl]; omega, List.take_length]
theorem Way.mono {k n m : Nat} {ws : List Str} {x y : Str} (g : Way k ws n x y) (h : n ≤ m) : Way k ws m x y := ⟨g.1, g.2.1, g.2.2.1, Nat.le_trans g.2.2.2.1 (by omega), g.2.2.2.2⟩
theorem left_mono {ws ks ks' : List Str} (sub : ∀ x ∈ ks, x ∈ ks') : left ws ks' ≤ left ws ks := List.countP_mono_left fun x _ h => decide_eq_true fun c => of_decide_eq_true h (sub x c)
theorem for_keys {d : Addr} {o : Obj} {kvs : List (Key × V)} {g : TG} {tb : TS} {D : Ends} {σ : L2.St} {H : Hp} (Pv : Nat → L2.St → Hp → Prop) (h0 : Pv 0 σ H) (hl : ∀ i σ H, Pv i σ H → H d = some (.frz o (.dK kvs)))
    (hs : ∀ i k v σ H, kvs[i]? = some (k, v) → Pv i σ H → g (kV k) σ H fun σ2 H2 => tb { D with nx := Pv (i + 1), ct := Pv (i + 1), bk := D.nx } σ2 H2) (hd : ∀ σ H, Pv kvs.length σ H → D.nx σ H) :
    ∃ W : Nat → Nat → L2.St → Hp → Prop, (∃ m, W 0 m σ H) ∧ ∀ i m σ H, W i m σ H →
      ((Itk d o kvs).stop i H ∧ D.nx σ H) ∨ ((Itk d o kvs).go i H ∧ ∃ N : L2.St → Hp → Prop, (∀ σ' H', N σ' H' → ∃ m', m' < m ∧ W (i + 1) m' σ' H') ∧ ∀ x H', (Itk d o kvs).yld i H x H' → g x σ H' fun σ2 H2 => tb { D with nx := N, ct := N, bk := D.nx } σ2 H2) := by
  refine ⟨fun i m σ H => m + i = kvs.length ∧ Pv i σ H, ⟨kvs.length, rfl, h0⟩, fun i m σ H ⟨e, p⟩ => ?_⟩
  have q := hl i σ H p
  by_cases lt : i < kvs.length
  · refine .inr ⟨⟨q, lt⟩, Pv (i + 1), fun σ' H' p' => ⟨m - 1, by omega, by omega, p'⟩, fun x H' y => ?_⟩
    obtain ⟨rfl, k, v, e2, rfl⟩ := y
    exact hs i k v _ _ e2 p
  · obtain rfl : i = kvs.length := by omega
    exact .inl ⟨⟨q, Nat.le_refl _⟩, hd _ _ p⟩
theorem for_start {K : PySem.W.Frag} {te : TE} {g : TG} {tb : TS} {D : Ends} {σ : L2.St} {H : Hp} (h : te σ H fun x H1 => ∃ a, x = .ref a ∧ (∃ xs, SqL K H1 a xs) ∧ ∃ W : Nat → Nat → L2.St → Hp → Prop, (∃ m, W 0 m σ H1) ∧ ∀ i m σ H, W i m σ H →
    ((Itl K a).stop i H ∧ D.nx σ H) ∨ ((Itl K a).go i H ∧ ∃ N : L2.St → Hp → Prop, (∀ σ' H', N σ' H' → ∃ m', m' < m ∧ W (i + 1) m' σ' H') ∧ ∀ x H', (Itl K a).yld i H x H' → g x σ H' fun σ2 H2 => tb { D with nx := N, ct := N, bk := D.nx } σ2 H2)) :
    tFor (iList K te) g tb D σ H := h
theorem atI_last {z : Str} {c : Nat} (h : (tl z)[z.length - 1]? = some c) (h1 : 1 ≤ z.length) : atI z.cps.toList (-1) = some c := by
  have hl : z.cps.toList.length = z.length := (len_tl z).symm
  unfold atI ixN
  rw [hl, if_neg (by decide), if_pos (by omega)]
  show z.cps.toList[((-1 : Int) + (z.length : Int)).toNat]? = some c
  rw [show ((-1 : Int) + (z.length : Int)).toNat = z.length - 1 by omega]
  exact h
theorem dget_of {H : Hp} {a : Addr} {kvs : List (Key × V)} {x : Str} {v : V} (e : Rd H a (.dK kvs)) (h : valV kvs (Sum.inr x : Key) = some v) : DGet H a (.str x) (some v) := by
  rw [← h]
  exact .inl ⟨kvs, Sum.inr x, e, rfl, rfl⟩
end Tx

set_option Elab.async false
set_option linter.all false
set_option maxRecDepth 100000
set_option maxHeartbeats 1000000
namespace Tx
open PySem PySem.Spec PyProof.Rows L2 TL RZ
theorem yes_of {X B : Hp → Prop} {σ : L2.St} {H : Hp} (h : X H) : tYes σ H (fun b H3 => if b = true then X H3 else B H3) := by
  show (if true = true then X H else B H)
  rw [if_pos rfl]; exact h
theorem dc_list {K : PySem.W.Frag} {a : Addr} {xs : List V} {g : TG} {tt : TT} {tk tv : TE} {vs : List Nat} {σ : L2.St} {H1 : Hp} {D : Addr} {Qd : Hp → Prop} (Pv : Nat → Hp → Prop) (h0 : Pv 0 (upd H1 D (.dK []))) (hl : ∀ i H, i ≤ xs.length → Pv i H → SqL K H a xs)
    (hs : ∀ i x H, xs[i]? = some x → Pv i H → g x (wipe σ vs) H fun σ2 H2 => wipe σ2 vs = wipe σ vs ∧ tt σ2 H2 fun b H3 =>
      if b = true then tk σ2 H3 fun y H4 => tv σ2 H4 fun z H5 => ∃ kvs k, y = kV k ∧ H5 D = some (.dK kvs) ∧ kvs.length < sizeLine ∧ Pv (i + 1) (upd H5 D (.dK (putK kvs k z))) else Pv (i + 1) H3) (hd : ∀ H, Pv xs.length H → Qd H) :
    ∃ W : Nat → Nat → Hp → Prop, (∃ m, W 0 m (upd H1 D (.dK []))) ∧ ∀ i m H, W i m H →
      ((Itl K a).stop i H ∧ Qd H) ∨ ((Itl K a).go i H ∧ ∃ Nx : Hp → Prop, (∀ H', Nx H' → ∃ m', m' < m ∧ W (i + 1) m' H') ∧ ∀ x H', (Itl K a).yld i H x H' → g x (wipe σ vs) H' fun σ2 H2 => wipe σ2 vs = wipe σ vs ∧ tt σ2 H2 fun b H3 =>
        if b = true then tk σ2 H3 fun y H4 => tv σ2 H4 fun z H5 => ∃ kvs k, y = kV k ∧ H5 D = some (.dK kvs) ∧ kvs.length < sizeLine ∧ Nx (upd H5 D (.dK (putK kvs k z))) else Nx H3) := by
  refine ⟨fun i m H => m = xs.length - i ∧ i ≤ xs.length ∧ Pv i H, ⟨xs.length, by simp, Nat.zero_le _, h0⟩, ?_⟩
  rintro i m H ⟨rfl, hi, p⟩
  have q := hl i H hi p
  by_cases hlt : i < xs.length
  · refine .inr ⟨⟨xs, xs[i], q, by simp [hlt]⟩, Pv (i + 1), fun H' p' => ⟨xs.length - (i + 1), by omega, rfl, hlt, p'⟩, fun x H' y => ?_⟩
    obtain ⟨e, y⟩ := y
    subst e
    exact hs i x _ (y xs q) p
  · have e : i = xs.length := by omega
    subst e
    exact .inl ⟨⟨xs, q, Nat.le_refl _⟩, hd H p⟩
/-- a dict by a function of its keys -/
def dkF (f : Str → V) (ys : List Str) : List (Key × V) := ys.map fun x => ((Sum.inr x : Key), f x)
theorem dkF_keys (f : Str → V) (ys : List Str) : (dkF f ys).map (·.1) = ys.map Sum.inr := by unfold dkF; rw [List.map_map]; rfl
theorem dkF_len (f : Str → V) (ys : List Str) : (dkF f ys).length = ys.length := List.length_map ..
theorem dkF_val (f : Str → V) {x : Str} : ∀ {ys : List Str}, x ∈ ys → valV (dkF f ys) (Sum.inr x : Key) = some (f x)
  | y :: ys, h => by
    by_cases e : y = x
    · subst e; exact valV_pos rfl
    · have : valV (dkF f (y :: ys)) (Sum.inr x : Key) = valV (dkF f ys) (Sum.inr x : Key) := valV_neg (fun h => e (Sum.inr.inj h))
      rw [this]
      exact dkF_val f ((List.mem_cons.mp h).resolve_left fun h => e h.symm)
theorem val_not {kvs : List (Key × V)} {ks : List Str} (e : kvs.map (·.1) = ks.map Sum.inr) {x : Str} (h : x ∉ ks) : valV kvs (Sum.inr x : Key) = none := by
  have := val_some e x
  rw [decide_eq_false h] at this
  exact Option.isSome_eq_false_iff.mp this |> Option.isNone_iff_eq_none.mp
theorem dkF_put {f f' : Str → V} {ys : List Str} {x : Str} {v : V} (h : x ∉ ys) (h1 : f' x = v) (h2 : ∀ z, z ≠ x → f' z = f z) : putK (dkF f ys) (Sum.inr x : Key) v = dkF f' (ys ++ [x]) := by
  rw [putK_new v (val_not (dkF_keys f ys) h)]
  unfold dkF
  rw [List.map_append]
  refine congr (congrArg _ (List.map_congr_left fun z hz => ?_)) ?_
  · have ne : z ≠ x := fun e => h (by rw [← e]; exact hz)
    rw [h2 z ne]
  · simp [h1]
/-- a dict of lists of texts -/
def DL (H : Hp) (d : Addr) (ns : List Str) (adj : Str → List Str) : Prop := ∃ f : Str → Addr, H d = some (.dK (dkF (fun x => .ref (f x)) ns)) ∧ ∀ x ∈ ns, H (f x) = some (.lst ((adj x).map V.str))
theorem DL.same {H H' : Hp} {d : Addr} {ns : List Str} {adj : Str → List Str} (h : DL H d ns adj) (s : Same H H') : DL H' d ns adj := let ⟨f, e, g⟩ := h; ⟨f, s _ _ e, fun x hx => s _ _ (g x hx)⟩
theorem take_mem {xs : List Str} {i : Nat} {x : Str} (h : xs[i]? = some x) : xs.take (i + 1) = xs.take i ++ [x] := by rw [List.take_add_one, h]; rfl
theorem not_before {xs : List Str} (nd : xs.Nodup) {i : Nat} {x : Str} (h : xs[i]? = some x) : x ∉ xs.take i := by
  intro hx
  obtain ⟨l1, l2⟩ := List.getElem?_eq_some_iff.mp h
  have : (xs.take (i + 1)).Nodup := nd.sublist (List.take_sublist ..)
  rw [take_mem h, List.nodup_append] at this
  exact this.2.2 x hx x (List.mem_singleton.mpr rfl) rfl
theorem ini_eq' {v : Str} (h : 1 ≤ v.length) : cutS v none (some (-1)) = iniS v := cutS_neg v h
theorem tai_eq' {v : Str} (h : 1 ≤ v.length) : cutS v (some (1 : Int)) none = taiS v := cutS_from v 1 h
def encE (p : Ent) : Key × V := (Sum.inr p.1, match p.2 with | none => .non | some u => .str u)
theorem encE_keys (fs : List Ent) : (fs.map encE).map (·.1) = (keysE fs).map Sum.inr := by unfold keysE; rw [List.map_map, List.map_map]; rfl
theorem encE_val : ∀ {fs : List Ent}, (keysE fs).Nodup → ∀ p ∈ fs, valV (fs.map encE) (Sum.inr p.1 : Key) = some (encE p).2
  | q :: fs, nd, p, hp => by
    obtain ⟨n1, n2⟩ := List.nodup_cons.mp nd
    rcases List.mem_cons.mp hp with rfl | hp
    · exact valV_pos rfl
    · have ne : ¬ (encE q).1 = (Sum.inr p.1 : Key) := fun e => n1 (by
        have : q.1 = p.1 := Sum.inr.inj e
        exact List.mem_map.mpr ⟨p, hp, this.symm⟩)
      have : valV ((q :: fs).map encE) (Sum.inr p.1 : Key) = valV (fs.map encE) (Sum.inr p.1 : Key) := valV_neg ne
      rw [this]
      exact encE_val n2 p hp
theorem encE_put {fs : List Ent} {u v : Str} (h : v ∉ keysE fs) : putK (fs.map encE) (Sum.inr v : Key) (.str u) = (addE fs (u, v)).map encE := by
  rw [putK_new _ (val_not (encE_keys fs) h)]
  unfold addE
  rw [if_neg h, List.map_append]; rfl
section
variable {P : Program} {w : World} {K : PySem.W.Frag} {mg : Str → Option Value} {base : Heap}
abbrev st_check_window : Stmt := topS 18
theorem sc_check_window : FnScope ["book", "window"] ["book", "window"] (defScope st_check_window) := ⟨rfl, rfl, rfl, by decide +kernel, rfl, by decide +kernel, by decide +kernel⟩
theorem pl_check_window : PlainB "check_window" st_check_window ["book", "window"] := fun _ _ _ _ _ _ us hl => match us, hl with | [_, _], _ => rfl
def spCkWin : Sp := fun vs H Q _ => ∃ (b : Addr) (k : Nat) (ws : List Str) (v : Str), vs = [.ref b, .str v] ∧ BookAt H b k ws ∧ v ∈ ws ∧ Q .non H
theorem ok_check_window (T : Top K mg "check_window" st_check_window) (B : Bt mg) : Dn P w K mg base 1 "check_window" st_check_window ["book", "window"] spCkWin := by
  refine dn_of T sc_check_window pl_check_window (fun vs H Q E h => ?_) fun f cdv A outer s H vs Q E hr h => ?_
  · obtain ⟨a, b, _, _, rfl, _⟩ := h; rfl
  · obtain ⟨b, k, ws, v, rfl, ⟨t, eb, et⟩, hv, q⟩ := h
    refine ⟨_, (pss_one (ps_if (PW.pt (pw_or (pt_not (pt_val (pe_callB (isiK K rfl) (by rfl) B.isi (by decide +kernel) (pa_cons (pv 1) (pa_cons (pe_bltn (v := .ty "str") (by rfl) B.str (by decide +kernel) rfl) pa_nil))))) (pw_or1 (pt_cmpR (notInK K rfl) (pv 1) (pe_ix (ixTK K rfl) (pv 0) pe_int (fun _ _ => rfl)) (by rfl))))) (pss_one ps_never) pss_nil)), ?_⟩
    refine ⟨_, rfl, .str v, .ty "str", _, _, true, rfl, .ty _, .base (.str v), kit_ty (by decide +kernel), true, rfl, ?_⟩
    refine iteF ?_
    refine ⟨_, rfl, _, rfl, b, _, _, _, rfl, rfl, .inl (.inl eb), rfl, t, _, rfl, .inr (.inl (.inl et)), rfl, flat_strs ws, _, rfl, ?_⟩
    dsimp only
    rw [in_dec, decide_eq_true hv]
    refine iteF ?_
    exact q
abbrev st_begun : Stmt := topS 6
theorem sc_begun : FnScope ["book", "window", "ends", "found", "place"] ["book"] (defScope st_begun) := ⟨rfl, rfl, rfl, by decide +kernel, rfl, by decide +kernel, by decide +kernel⟩
theorem pl_begun : PlainB "begun" st_begun ["book"] := fun _ _ _ _ _ _ us hl => match us, hl with | [_], _ => rfl
def spBegun : Sp := fun vs H Q _ => ∃ (b : Addr) (k : Nat) (ws : List Str), vs = [.ref b] ∧ BookAt H b k ws ∧ Book k ws ∧ ws.length ≤ 100 ∧ ∀ d ns H', H d = none → Same H H' → Up ns (placesL ws) → DL H' d ns (begW ws) → Q (.ref d) H'
theorem ok_begun (T : Top K mg "begun" st_begun) (B : Bt mg) : Dn P w K mg base 1 "begun" st_begun ["book"] spBegun := by
  refine dn_of T sc_begun pl_begun (fun vs H Q E h => ?_) fun f cdv A outer s H vs Q E hr h => ?_
  · obtain ⟨a, b, _, rfl, _⟩ := h; rfl
  · obtain ⟨b, k, ws, rfl, ⟨t, eb, et⟩, bk, wl, q⟩ := h
    have k2 := bk.n2
    have k6 := bk.n6
    refine ⟨_, (pss_cons (ps_set (i := 2) sc_begun.nd rfl (.inl rfl) (pe_op op_cat (pe_lc (own := [("window", 1)]) (g := gName 1) rfl sc_begun.nd (pi_tup (pe_ix (ixTK K rfl) (pv 0) pe_int (fun _ _ => rfl))) (blkOk_by (N := ["book", "window", "ends", "found", "place"]) (sc := defScope st_begun) (by decide +kernel)) (fun _ _ _ _ _ => (pg_name (i := 1) sc_begun.nd rfl (.inl rfl))) (fun _ _ _ _ _ => pts_nil) (fun _ _ _ _ _ => (pe_slice sl_str (pv 1) po_none (po_some (pe_un un_neg pe_int))))) (pe_lc (own := [("window", 1)]) (g := gName 1) rfl sc_begun.nd (pi_tup (pe_ix (ixTK K rfl) (pv 0) pe_int (fun _ _ => rfl))) (blkOk_by (N := ["book", "window", "ends", "found", "place"]) (sc := defScope st_begun) (by decide +kernel)) (fun _ _ _ _ _ => (pg_name (i := 1) sc_begun.nd rfl (.inl rfl))) (fun _ _ _ _ _ => pts_nil) (fun _ _ _ _ _ => (pe_slice sl_str (pv 1) (po_some pe_int) po_none)))))
      (pss_cons (ps_setDc (i := 3) (own := [("place", 4)]) (g := gName 4) rfl sc_begun.nd rfl rfl (sw_trueD rfl rfl rfl (by decide +kernel)) (pi_list (pe_callB (sortSetK w rfl rfl) (by rfl) B.sorted (by decide +kernel) (pa_cons (pe_callTy (setK K w rfl rfl rfl) (by rfl) B.set (by decide +kernel) (pa_cons (pv 2) pa_nil)) pa_nil))) (blkOk_by (N := ["book", "window", "ends", "found", "place"]) (sc := defScope st_begun) (by decide +kernel)) (fun _ _ _ _ _ => (pg_name (i := 4) sc_begun.nd rfl (.inl rfl))) (fun _ _ _ _ _ => pts_nil) (fun _ _ _ _ _ => (pv 4)) (fun _ _ _ _ _ => (pe_lst pa_nil)))
      (pss_cons (ps_for PassesOwn.never rfl (pi_tup (pe_ix (ixTK K rfl) (pv 0) pe_int (fun _ _ => rfl))) (pg_name (i := 1) sc_begun.nd rfl (.inl rfl)) (pss_one (ps_expr (pe_bm PySem.F.plainAttrs_list PySem.F.slot_list_append PySem.F.type_list_append mt_append (pe_dget (hu_of hr) (pv 3) (pe_slice sl_str (pv 1) po_none (po_some (pe_un un_neg pe_int))) (fun _ _ => rfl)) (pa_cons (pv 1) pa_nil)))))
      (pss_one (ps_ret (pv 3)))))), ?_⟩
    refine ⟨_, rfl, b, _, _, _, rfl, rfl, .inl (.inl eb), rfl, t, rfl, ⟨_, .inl (.inl et)⟩, fun D hD => ?_⟩
    refine lc_tup (a := t) (xs := ws.map V.str) (fun i H' => Same H H' ∧ H' D = some (.lst (((ws.take i).map iniS).map V.str))) ⟨same_upd hD, upd_same⟩ (fun i H' _ h => .inl (.inl (h.1 _ _ et))) (fun i y H' hi ⟨sm, e⟩ => ?_) fun H1 ⟨s1, e1⟩ => ?_
    · obtain ⟨v, hv, rfl⟩ := str_at hi
      obtain ⟨lo, vl⟩ := bk.each v (List.mem_of_getElem? hv)
      refine ⟨rfl, lc_yes ?_⟩
      refine ⟨_, rfl, _, rfl, _, rfl, v, rfl, big (by omega), ?_⟩
      rw [ini_eq' (by omega)]
      refine ⟨_, e, by rw [List.length_map, List.length_map, List.length_take]; exact lt_line (by omega), wr sm hD, ?_⟩
      rw [upd_same, List.take_add_one, hv, List.map_append, List.map_append]; rfl
    rw [List.length_map, List.take_length] at e1
    refine ⟨_, rfl, b, _, _, _, rfl, rfl, .inl (.inl (s1 _ _ eb)), rfl, t, rfl, ⟨_, .inl (.inl (s1 _ _ et))⟩, fun D2 hD2 => ?_⟩
    refine lc_tup (a := t) (xs := ws.map V.str) (fun i H' => Same H1 H' ∧ H' D2 = some (.lst (((ws.take i).map taiS).map V.str))) ⟨same_upd hD2, upd_same⟩ (fun i H' _ h => .inl (.inl (h.1 _ _ (s1 _ _ et)))) (fun i y H' hi ⟨sm, e⟩ => ?_) fun H2 ⟨s2, e2⟩ => ?_
    · obtain ⟨v, hv, rfl⟩ := str_at hi
      obtain ⟨lo, vl⟩ := bk.each v (List.mem_of_getElem? hv)
      refine ⟨rfl, lc_yes ?_⟩
      refine ⟨_, rfl, _, rfl, v, rfl, big (by omega), ?_⟩
      rw [tai_eq' (by omega)]
      refine ⟨_, e, by rw [List.length_map, List.length_map, List.length_take]; exact lt_line (by omega), wr sm hD2, ?_⟩
      rw [upd_same, List.take_add_one, hv, List.map_append, List.map_append]; rfl
    rw [List.length_map, List.take_length] at e2
    refine ⟨D, D2, _, _, rfl, rfl, s2 _ _ e1, e2, by rw [List.length_map, List.length_map, List.length_map, List.length_map]; exact big (by omega), fun g ng => ?_⟩
    have pl : (placesL ws).length ≤ 200 := by unfold placesL; rw [List.length_append, List.length_map, List.length_map]; omega
    refine ⟨_, rfl, g, placesL ws, rfl, .inl (.inl (by rw [upd_same]; unfold placesL; rw [List.map_append])), by omega, fun u ks fo nu => ⟨u, ks, rfl, upd_same, fun ys a py so na => ⟨a, rfl, ⟨_, .inl (.inl upd_same)⟩, fun d nd => ?_⟩⟩⟩
    have up : Up ys (placesL ws) := .of py so fo
    have yl : ys.length ≤ 200 := Nat.le_trans up.2.2.2 pl
    have s3 : Same H (upd (upd (upd H2 g (.lst (((ws.map iniS).map V.str) ++ ((ws.map taiS).map V.str)))) u (SetSO w u ks)) a (.lst (ys.map V.str))) := (((s1.trans s2).trans (same_upd ng)).trans (same_upd nu)).trans (same_upd na)
    have ea : (upd (upd (upd H2 g (.lst (((ws.map iniS).map V.str) ++ ((ws.map taiS).map V.str)))) u (SetSO w u ks)) a (.lst (ys.map V.str))) a = some (.lst (ys.map V.str)) := upd_same
    generalize upd (upd (upd H2 g (.lst (((ws.map iniS).map V.str) ++ ((ws.map taiS).map V.str)))) u (SetSO w u ks)) a (.lst (ys.map V.str)) = H5 at s3 ea nd ⊢
    refine dc_list (a := a) (xs := ys.map V.str) (fun i H' => Same H5 H' ∧ ∃ f : Str → Addr, H' d = some (.dK (dkF (fun x => .ref (f x)) (ys.take i))) ∧ (∀ x ∈ ys.take i, H5 (f x) = none ∧ f x ≠ d ∧ H' (f x) = some (.lst [])) ∧ ∀ x ∈ ys.take i, ∀ y ∈ ys.take i, f x = f y → x = y)
      ⟨same_upd nd, fun _ => 0, by rw [upd_same]; rfl, (fun x h => by rw [List.take_zero] at h; cases h), fun x h => by rw [List.take_zero] at h; cases h⟩ (fun i H' _ h => .inl (.inl (h.1 _ _ ea))) (fun i y H' hi ⟨sm, f, e, fx, inj⟩ => ?_) fun H6 ⟨s6, f, e6, fx, inj⟩ => ?_
    · obtain ⟨x, hx, rfl⟩ := str_at hi
      have nx := not_before up.2.1 hx
      have il : i < 200 := by
        have := (List.getElem?_eq_some_iff.mp hx).1
        omega
      refine ⟨rfl, yes_of ?_⟩
      refine ⟨_, rfl, by show 0 ≤ sizeLine; decide, fun p np => ?_⟩
      have npd : p ≠ d := (ne_of_none e np).symm
      obtain ⟨f', h1, h2⟩ : ∃ f' : Str → Addr, f' x = p ∧ ∀ z, z ≠ x → f' z = f z := ⟨fun z => if z = x then p else f z, if_pos rfl, fun z h => if_neg h⟩
      have old : ∀ {z}, z ∈ ys.take i ++ [x] → z ≠ x → z ∈ ys.take i := fun {z} hz c => (List.mem_append.mp hz).resolve_right fun h => c (List.mem_singleton.mp h)
      refine ⟨_, Sum.inr x, rfl, keep_ne e npd.symm, by rw [dkF_len, List.length_take]; exact lt_line (by omega), wr (sm.trans (same_upd np)) nd, f', ?_, fun z hz => ?_, fun z hz y hy ef => ?_⟩
      · rw [upd_same, take_mem hx, dkF_put nx (congrArg V.ref h1) fun z hz => congrArg V.ref (h2 z hz)]
      · rw [take_mem hx] at hz
        by_cases c : z = x
        · rw [c, h1]
          exact ⟨sm.free np, npd, keep_ne upd_same npd⟩
        · rw [h2 z c]
          obtain ⟨f1, f2, f3⟩ := fx z (old hz c)
          exact ⟨f1, f2, keep_ne (keep_ne f3 (ne_of_none f3 np)) f2⟩
      · rw [take_mem hx] at hz hy
        by_cases c : z = x <;> by_cases c' : y = x
        · rw [c, c']
        · rw [c, h1, h2 y c'] at ef
          exact absurd ef.symm (ne_of_none (fx y (old hy c')).2.2 np)
        · rw [c', h1, h2 z c] at ef
          exact absurd ef (ne_of_none (fx z (old hz c)).2.2 np)
        · rw [h2 z c, h2 y c'] at ef
          exact inj z (old hz c) y (old hy c') ef
    rw [List.length_map, List.take_length] at e6 fx inj
    have et6 := s6 _ _ (s3 _ _ et)
    refine ⟨_, rfl, b, _, _, _, rfl, rfl, .inl (.inl (s6 _ _ (s3 _ _ eb))), rfl, t, rfl, ⟨_, .inl (.inl et6)⟩, ?_⟩
    refine for_tup (K := K) (a := t) (xs := ws.map V.str) (fun j σ H' => ∃ o1, σ = [some (.ref b), o1, some (.ref g), some (.ref d), none] ∧ Same H5 H' ∧ H' d = some (.dK (dkF (fun x => .ref (f x)) ys)) ∧ ∀ x ∈ ys, H' (f x) = some (.lst ((begW (ws.take j) x).map V.str)))
      ⟨_, rfl, s6, e6, fun x hx => by rw [List.take_zero]; exact (fx x hx).2.2⟩ (fun _ _ _ _ ⟨_, _, h, _⟩ => .inl (.inl (h _ _ (s3 _ _ et)))) (fun j y σ H7 hj ⟨o1, eσ, s7, e7, g7⟩ => ?_) fun σ H7 ⟨o1, eσ, s7, e7, g7⟩ => ?_
    · subst eσ
      obtain ⟨v, hv, rfl⟩ := str_at hj
      have hvm := List.mem_of_getElem? hv
      obtain ⟨lv, vl⟩ := bk.each v hvm
      have iv : iniS v ∈ ys := (up.2.2.1 _).mpr (ini_place hvm)
      have jl := (List.getElem?_eq_some_iff.mp hv).1
      refine ⟨_, rfl, _, rfl, _, rfl, _, rfl, v, rfl, big (by omega), ?_⟩
      rw [ini_eq' (by omega)]
      refine ⟨d, .ref (f (iniS v)), rfl, dget_of (.inl e7) (dkF_val _ iv), .inl ⟨rfl, _, .inl (.inl (g7 _ iv))⟩, _, rfl, _, _, _, rfl, rfl, g7 _ iv, ?_, ?_⟩
      · rw [List.length_map]
        refine lt_line (Nat.le_trans (List.length_filter_le _ _) ?_)
        rw [List.length_take]; omega
      · refine ⟨_, rfl, wr s7 (fx _ iv).1, keep_ne e7 (fx _ iv).2.1.symm, fun x hx => ?_⟩
        have ht : begW (ws.take (j + 1)) x = begW (ws.take j) x ++ (if iniS v = x then [v] else []) := by
          unfold begW
          rw [take_mem hv, List.filter_append]
          refine congrArg (fun r : List Str => (ws.take j).filter (fun v => decide (iniS v = x)) ++ r) ?_
          by_cases c : iniS v = x <;> simp [c]
        by_cases c : iniS v = x
        · subst c
          rw [upd_same, ht, if_pos rfl, List.map_append]; rfl
        · rw [ht, if_neg c, List.append_nil]
          exact keep_ne (g7 x hx) fun h => c (inj _ hx _ iv h).symm
    · subst eσ
      rw [List.length_map, List.take_length] at g7
      refine ⟨_, rfl, ?_⟩
      exact q d ys H7 (s3.free nd) (s3.trans s7) up ⟨f, e7, g7⟩
end
end Tx

set_option Elab.async false
set_option linter.all false
set_option maxRecDepth 100000
set_option maxHeartbeats 1000000
namespace Tx
open PySem PySem.Spec PyProof.Rows L2 TL RZ
theorem encE_put0 {fs : List Ent} {v : Str} (h : v ∉ keysE fs) : putK (fs.map encE) (Sum.inr v : Key) .non = (fs ++ [(v, none)]).map encE := by
  rw [putK_new _ (val_not (encE_keys fs) h), List.map_append]; rfl
theorem keys_none (ss : List Str) : keysE (ss.map fun s => ((s, none) : Ent)) = ss := by unfold keysE; rw [List.map_map]; exact List.map_id' ss
theorem encE_list (fs : List Ent) : ((fs.map encE).map fun kv => kV kv.1) = (keysE fs).map V.str := by
  unfold keysE; rw [List.map_map, List.map_map]; rfl
theorem addE_new {fs : List Ent} {u v : Str} (h : v ∉ keysE fs) : addE fs (u, v) = fs ++ [(v, some u)] := if_neg h
theorem addE_old {fs : List Ent} {u v : Str} (h : v ∈ keysE fs) : addE fs (u, v) = fs := if_pos h
theorem keysE_snoc (fs : List Ent) (v : Str) (o : Option Str) : keysE (fs ++ [(v, o)]) = keysE fs ++ [v] := by rw [keysE_app]; rfl
theorem pairs_take {adj : Str → List Str} {F : List Str} {i : Nat} {u : Str} (h : F[i]? = some u) : pairsE adj (F.take (i + 1)) = pairsE adj (F.take i) ++ (adj u).map fun v => (u, v) := by
  unfold pairsE; rw [take_mem h, List.flatMap_append]; simp
theorem Tr.last {R : List Ent} {v : Str} {l : List Str} (h : Tr R v l) : l.getLast? = some v := by cases h <;> simp
theorem drop_last {l : List Str} {u : Str} (h : l.getLast? = some u) : l.dropLast ++ [u] = l := by
  obtain ⟨ne, e⟩ := List.getLast?_eq_some_iff.mp h
  rw [e]; simp
/-- within a round -/
structure RI (H H' : Hp) (d fr F : Addr) (fs ft : List Ent) (j : Nat) (ns : List Str) : Prop where
  sm : Same H H'
  efr : H' fr = some (.lst ((keysE (fs.drop j)).map V.str))
  ed : H' d = some (.dK (ft.map encE))
  eF : H' F = some (.lst ((keysE (ft.drop fs.length)).map V.str))
  nd : (keysE ft).Nodup
  inn : ∀ x ∈ keysE ft, x ∈ ns
  len : fs.length ≤ ft.length
theorem RI.few {H H' : Hp} {d fr F : Addr} {fs ft : List Ent} {j : Nat} {ns : List Str} (r : RI H H' d fr F fs ft j ns) : ft.length ≤ ns.length := by
  have := pig _ ns r.nd r.inn
  rwa [show (keysE ft).length = ft.length from List.length_map ..] at this
theorem RI.add {H H' : Hp} {d fr F : Addr} {fs ft : List Ent} {j : Nat} {ns : List Str} (r : RI H H' d fr F fs ft j ns) {u v : Str} (hv : v ∈ ns) (nv : v ∉ keysE ft) (nd : H d = none) (nF : H F = none) (n1 : fr ≠ d) (n2 : F ≠ d) (n3 : F ≠ fr) :
    RI H (upd (upd H' d (.dK (putK (ft.map encE) (Sum.inr v : Key) (.str u)))) F (.lst ((keysE (ft.drop fs.length)).map V.str ++ [.str v]))) d fr F fs (addE ft (u, v)) j ns := by
  refine ⟨wr (wr r.sm nd) nF, keep_ne (keep_ne r.efr n1) n3.symm, ?_, ?_, ?_, fun x hx => ?_, ?_⟩
  · rw [upd_ne n2.symm, upd_same, encE_put nv]
  · rw [upd_same, addE_new nv, List.drop_append_of_le_length r.len, keysE_snoc, List.map_append]; rfl
  · rw [addE_new nv, keysE_snoc, List.nodup_append]
    exact ⟨r.nd, List.nodup_cons.mpr ⟨by simp, List.nodup_nil⟩, fun a ha b hb e => nv (by rw [← List.mem_singleton.mp hb, ← e]; exact ha)⟩
  · rw [addE_new nv, keysE_snoc] at hx
    rcases List.mem_append.mp hx with hx | hx
    · exact r.inn x hx
    · rw [List.mem_singleton.mp hx]; exact hv
  · rw [addE_new nv, List.length_append]; exact Nat.le_add_right_of_le r.len
/-- what way tells is a text of small letters, not long -/
def Fine (r : V) : Prop := r = .non ∨ ∃ z, r = .str z ∧ Low z ∧ z.length ≤ 200
theorem txt_low {l : List Str} (h : ∀ v ∈ l, Low v) : Low (mkS (txt l)) := by
  cases l with
  | nil => intro c hc; cases hc
  | cons w r =>
    intro c hc
    rw [tl_mkS] at hc
    rcases List.mem_append.mp hc with hc | hc
    · exact h w (List.mem_cons_self ..) c hc
    · obtain ⟨x, hx, hc⟩ := List.mem_flatten.mp hc
      obtain ⟨v, hv, rfl⟩ := List.mem_map.mp hx
      exact h v (List.mem_cons_of_mem _ hv) c (List.mem_of_mem_drop hc)
section
variable {P : Program} {w : World} {K : PySem.W.Frag} {mg : Str → Option Value} {base : Heap}
abbrev st_reached : Stmt := topS 7
theorem sc_reached : FnScope ["starts", "links", "found", "front", "further", "node", "other", "start"] ["starts", "links"] (defScope st_reached) := ⟨rfl, rfl, rfl, by decide +kernel, rfl, by decide +kernel, by decide +kernel⟩
theorem pl_reached : PlainB "reached" st_reached ["starts", "links"] := fun _ _ _ _ _ _ us hl => match us, hl with | [_, _], _ => rfl
def spReached : Sp := fun vs H Q _ => ∃ (l d0 : Addr) (ss ns : List Str) (adj : Str → List Str), vs = [.ref l, .ref d0] ∧ SqL K H l (ss.map V.str) ∧ ss.Nodup ∧ DL H d0 ns adj ∧ ns.length ≤ 3000 ∧ (∀ x ∈ ss, x ∈ ns) ∧ (∀ x ∈ ns, ∀ y ∈ adj x, y ∈ ns) ∧
  ∀ d H' R, H d = none → Same H H' → H' d = some (.dK (R.map encE)) → (keysE R).Nodup → (∀ x ∈ keysE R, x ∈ ns) → Run adj (ss.map fun s => (s, none)) 0 R → Q (.ref d) H'
theorem ok_reached (T : Top K mg "reached" st_reached) (B : Bt mg) : Dn P w K mg base 1 "reached" st_reached ["starts", "links"] (spReached (K := K)) := by
  refine dn_of T sc_reached pl_reached (fun vs H Q E h => ?_) fun f cdv A outer s H vs Q E hr h => ?_
  · obtain ⟨a, b, _, _, _, rfl, _⟩ := h; rfl
  · obtain ⟨l, d0, ss, ns, adj, rfl, ql, nss, dl, nl, sub, clo, q⟩ := h
    have few0 : ss.length ≤ ns.length := pig ss ns nss sub
    refine ⟨_, (pss_cons (ps_setDc (i := 2) (own := [("start", 7)]) (g := gName 7) rfl sc_reached.nd rfl rfl (sw_trueD rfl rfl rfl (by decide +kernel)) (pi_list (pv 0)) (blkOk_by (N := ["starts", "links", "found", "front", "further", "node", "other", "start"]) (sc := defScope st_reached) (by decide +kernel)) (fun _ _ _ _ _ => (pg_name (i := 7) sc_reached.nd rfl (.inl rfl))) (fun _ _ _ _ _ => pts_nil) (fun _ _ _ _ _ => (pv 7)) (fun _ _ _ _ _ => pe_non))
      (pss_cons (ps_set (i := 3) sc_reached.nd rfl (.inl rfl) (pe_callTy (call_list_dK rfl) (by rfl) B.list (by decide +kernel) (pa_cons (pv 2) pa_nil)))
      (pss_cons (ps_while PassesOwn.never (pt_truth (pv 3) (by intro _; rfl)) (pss_cons (ps_set (i := 4) sc_reached.nd rfl (.inl rfl) (pe_lst pa_nil))
      (pss_cons (ps_for PassesOwn.never rfl (pi_list (pv 3)) (pg_name (i := 5) sc_reached.nd rfl (.inl rfl)) (pss_one (ps_for PassesOwn.never rfl (pi_list (pe_dget (hu_of hr) (pv 1) (pv 5) (fun _ _ => rfl))) (pg_name (i := 6) sc_reached.nd rfl (.inl rfl)) (pss_one (ps_if (pt_cmp (pc_dnotin (hu_of hr) (pv 6) (pv 2))) (pss_cons (ps_dput (hu_of hr) (pv 2) (pv 6) (pv 5) rfl)
      (pss_one (ps_expr (pe_bm PySem.F.plainAttrs_list PySem.F.slot_list_append PySem.F.type_list_append mt_append (pv 4) (pa_cons (pv 6) pa_nil))))) pss_nil)))))
      (pss_one (ps_set (i := 3) sc_reached.nd rfl (.inl rfl) (pv 4))))))
      (pss_one (ps_ret (pv 2)))))), ?_⟩
    refine ⟨_, rfl, l, rfl, ⟨_, ql⟩, fun d nd => ?_⟩
    refine dc_list (a := l) (xs := ss.map V.str) (fun i H' => Same H H' ∧ H' d = some (.dK (((ss.take i).map fun s => ((s, none) : Ent)).map encE))) ⟨same_upd nd, by rw [upd_same]; rfl⟩ (fun i H' _ h => h.1.seq ql) (fun i y H' hi ⟨sm, e⟩ => ?_) fun H1 ⟨s1, e1⟩ => ?_
    · obtain ⟨x, hx, rfl⟩ := str_at hi
      have nx := not_before nss hx
      have il := (List.getElem?_eq_some_iff.mp hx).1
      refine ⟨rfl, yes_of ?_⟩
      refine ⟨_, rfl, _, Sum.inr x, rfl, e, by rw [List.length_map, List.length_map, List.length_take]; exact lt_line (by omega), wr sm nd, ?_⟩
      rw [upd_same, encE_put0 (by rw [keys_none]; exact nx), show ((ss.take (i + 1)).map fun s => ((s, none) : Ent)) = ((ss.take i).map fun s => ((s, none) : Ent)) ++ [(x, none)] by rw [take_mem hx, List.map_append]; rfl]
    rw [List.length_map, List.take_length] at e1
    refine ⟨_, rfl, d, _, rfl, e1, fun fr nfr => ?_⟩
    rw [encE_list, keys_none]
    generalize efs0 : (ss.map fun s => ((s, none) : Ent)) = fs0 at e1 q
    have k0 : keysE fs0 = ss := by rw [← efs0, keys_none]
    have l0 : fs0.length = ss.length := by rw [← efs0, List.length_map]
    have nfd : fr ≠ d := (ne_of_none e1 nfr).symm
    refine ⟨fun m σ H' => ∃ (fr : Addr) (fs : List Ent) (j : Nat) (o4 o5 o6 : Option V), σ = [some (.ref l), some (.ref d0), some (.ref d), some (.ref fr), o4, o5, o6, none] ∧ Same H H' ∧ H fr = none ∧ fr ≠ d ∧ H' d = some (.dK (fs.map encE)) ∧ H' fr = some (.lst ((keysE (fs.drop j)).map V.str)) ∧
        j ≤ fs.length ∧ (keysE fs).Nodup ∧ (∀ x ∈ keysE fs, x ∈ ns) ∧ (∀ R, Run adj fs j R → Run adj fs0 0 R) ∧ m = (ns.length - fs.length) + (if j < fs.length then 1 else 0),
      ⟨_, fr, fs0, 0, none, none, none, rfl, s1.trans (same_upd nfr), s1.free nfr, nfd, (same_upd nfr) _ _ e1, by rw [upd_same, List.drop_zero, k0], Nat.zero_le _, by rw [k0]; exact nss, by rw [k0]; exact sub, fun _ h => h, rfl⟩, fun m σ H' ⟨fr, fs, j, o4, o5, o6, eσ, sm, nfr, nfd, ed, efr, jl, ndk, inn, rn, em⟩ => ?_⟩
    subst eσ
    have few : fs.length ≤ ns.length := by
      have := pig _ ns ndk inn
      rwa [show (keysE fs).length = fs.length from List.length_map ..] at this
    refine ⟨_, rfl, _, .inl ⟨_, .inl (.inl efr), rfl⟩, ?_⟩
    by_cases c : j < fs.length
    · have ek : (!((keysE (fs.drop j)).map V.str).isEmpty) = true := by
        have : 0 < ((keysE (fs.drop j)).map V.str).length := by rw [List.length_map]; unfold keysE; rw [List.length_map, List.length_drop]; omega
        cases e : (keysE (fs.drop j)).map V.str with
        | nil => rw [e] at this; exact absurd this (by decide)
        | cons _ _ => rfl
      rw [ek]
      refine iteT ⟨_, fun _ _ h => h, ?_⟩
      refine ⟨by show 0 ≤ sizeLine; decide, fun F nF => ?_⟩
      have nF0 := sm.free nF
      have n2 : F ≠ d := (ne_of_none ed nF).symm
      have n3 : F ≠ fr := (ne_of_none efr nF).symm
      have r0 : RI H (upd H' F (.lst [])) d fr F fs fs j ns := ⟨sm.trans (same_upd nF), keep_ne efr n3.symm, keep_ne ed n2.symm, by rw [upd_same, List.drop_length]; rfl, ndk, inn, Nat.le_refl _⟩
      refine ⟨_, rfl, fr, rfl, ⟨_, .inl (.inl r0.efr)⟩, ?_⟩
      refine for_list (K := K) (a := fr) (xs := (keysE (fs.drop j)).map V.str) (fun i σ H3 => ∃ (ft : List Ent) (o5 o6 : Option V), σ = [some (.ref l), some (.ref d0), some (.ref d), some (.ref fr), some (.ref F), o5, o6, none] ∧ RI H H3 d fr F fs ft j ns ∧ ft = (pairsE adj ((keysE (fs.drop j)).take i)).foldl addE fs)
        ⟨fs, _, _, rfl, r0, by rw [List.take_zero]; rfl⟩ (fun _ _ _ _ ⟨_, _, _, _, r, _⟩ => .inl (.inl r.efr)) (fun i y σ H3 hi ⟨ft, o5, o6, eσ, r, eft⟩ => ?_) fun σ H3 ⟨ft, o5, o6, eσ, r, eft⟩ => ?_
      · subst eσ
        obtain ⟨u, hu, rfl⟩ := str_at hi
        have hun : u ∈ ns := inn u (by
          have := List.mem_of_getElem? hu
          obtain ⟨p, hp, rfl⟩ := List.mem_map.mp this
          exact List.mem_map.mpr ⟨p, List.mem_of_mem_drop hp, rfl⟩)
        obtain ⟨fa, ed0, ga⟩ := dl
        refine ⟨_, rfl, _, rfl, d0, .ref (fa u), rfl, dget_of (.inl (r.sm _ _ ed0)) (dkF_val _ hun), fa u, rfl, ⟨_, .inl (.inl (r.sm _ _ (ga u hun)))⟩, ?_⟩
        refine for_list (K := K) (a := fa u) (xs := (adj u).map V.str) (fun q σ H4 => ∃ (fu : List Ent) (o6 : Option V), σ = [some (.ref l), some (.ref d0), some (.ref d), some (.ref fr), some (.ref F), some (.str u), o6, none] ∧ RI H H4 d fr F fs fu j ns ∧ fu = (((adj u).take q).map fun v => (u, v)).foldl addE ft)
          ⟨ft, _, rfl, r, by rw [List.take_zero]; rfl⟩ (fun _ _ _ _ ⟨_, _, _, r, _⟩ => .inl (.inl (r.sm _ _ (ga u hun)))) (fun q y σ H4 hq ⟨fu, o6, eσ, r, efu⟩ => ?_) fun σ H4 ⟨fu, o6, eσ, r, efu⟩ => ?_
        · subst eσ
          obtain ⟨v, hv, rfl⟩ := str_at hq
          have hvn := clo u hun v (List.mem_of_getElem? hv)
          have fewu := r.few
          have nxt : addE fu (u, v) = (((adj u).take (q + 1)).map fun v => (u, v)).foldl addE ft := by
            rw [take_mem hv, List.map_append, List.foldl_append, ← efu]; rfl
          refine ⟨_, rfl, _, rfl, d, _, rfl, DGet.k (k := Sum.inr v) r.ed, _, rfl, ?_⟩
          rw [val_some (encE_keys fu)]
          by_cases hk : v ∈ keysE fu
          · rw [decide_eq_true hk]
            refine iteF ?_
            exact ⟨fu, _, rfl, r, by rw [← nxt, addE_old hk]⟩
          · rw [decide_eq_false hk]
            refine iteT ?_
            refine ⟨_, rfl, _, rfl, _, rfl, d, _, rfl, DPut.k (k := Sum.inr v) r.ed (by rw [List.length_map]; exact lt_line (by omega)), ?_⟩
            have eF' : (upd H4 d (.dK (putK (fu.map encE) (Sum.inr v : Key) (.str u)))) F = some (.lst ((keysE (fu.drop fs.length)).map V.str)) := keep_ne r.eF n2
            refine ⟨_, rfl, .inl ⟨rfl, _, .inl (.inl eF')⟩, _, rfl, F, _, _, rfl, rfl, eF', ?_, ?_⟩
            · rw [List.length_map]; unfold keysE; rw [List.length_map, List.length_drop]; exact lt_line (by omega)
            · exact ⟨_, _, rfl, r.add hvn hk nd nF0 nfd n2 n3, nxt⟩
        · subst eσ
          rw [List.length_map, List.take_length] at efu
          exact ⟨fu, _, _, rfl, r, by rw [pairs_take hu, List.foldl_append, ← eft]; exact efu⟩
      · subst eσ
        rw [List.length_map, List.take_length] at eft
        have fewt := r.few
        have le := r.len
        refine ⟨_, rfl, ?_⟩
        refine ⟨_, ?_, F, ft, fs.length, _, _, _, rfl, r.sm, nF0, n2, r.ed, r.eF, r.len, r.nd, r.inn, fun R hR => rn R (.step c ?_), rfl⟩
        · rw [em, if_pos c]; split <;> omega
        · rw [show roundE adj fs j = ft from eft.symm]; exact hR
    · have ej : j = fs.length := by omega
      subst ej
      have ek : (!((keysE (fs.drop fs.length)).map V.str).isEmpty) = false := by rw [List.drop_length]; rfl
      rw [ek]
      refine iteF ?_
      exact ⟨_, rfl, q d H' fs nd sm ed ndk inn (rn fs (.done fs))⟩
abbrev st_trail : Stmt := topS 8
theorem sc_trail : FnScope ["came", "end", "path"] ["came", "end"] (defScope st_trail) := ⟨rfl, rfl, rfl, by decide +kernel, rfl, by decide +kernel, by decide +kernel⟩
theorem pl_trail : PlainB "trail" st_trail ["came", "end"] := fun _ _ _ _ _ _ us hl => match us, hl with | [_, _], _ => rfl
def spTrail : Sp := fun vs H Q _ => ∃ (d : Addr) (e : Str) (R : List Ent) (l : List Str), vs = [.ref d, .str e] ∧ H d = some (.dK (R.map encE)) ∧ (keysE R).Nodup ∧ Tr R e l ∧ l.length ≤ 3000 ∧ ∀ p H', H p = none → Same H H' → H' p = some (.lst (l.map V.str)) → Q (.ref p) H'
theorem atI_end {xs : List V} {v : V} (h : xs.getLast? = some v) : atI xs (-1) = some v := by
  rw [List.getLast?_eq_getElem?] at h
  have lt := (List.getElem?_eq_some_iff.mp h).1
  unfold atI ixN
  rw [if_neg (by decide), if_pos (by omega)]
  show xs[((-1 : Int) + (xs.length : Int)).toNat]? = some v
  rw [show ((-1 : Int) + (xs.length : Int)).toNat = xs.length - 1 by omega]
  exact h
theorem last_map {xs : List Str} {v : Str} (h : xs.getLast? = some v) : (xs.map V.str).getLast? = some (V.str v) := by
  rw [List.getLast?_map, h]; rfl
theorem ok_trail (T : Top K mg "trail" st_trail) (B : Bt mg) : Dn P w K mg base 1 "trail" st_trail ["came", "end"] spTrail := by
  refine dn_of T sc_trail pl_trail (fun vs H Q E h => ?_) fun f cdv A outer s H vs Q E hr h => ?_
  · obtain ⟨a, b, _, _, rfl, _⟩ := h; rfl
  · obtain ⟨d, e, R, l, rfl, ed, nd, tr, ll, q⟩ := h
    refine ⟨_, (pss_cons (ps_set (i := 2) sc_trail.nd rfl (.inl rfl) (pe_lst (pa_cons (pv 1) pa_nil)))
      (pss_cons (ps_while PassesOwn.never (pt_cmpR op_notN (pe_dget (hu_of hr) (pv 0) (pe_ix (ixK K rfl) (pv 2) (pe_un un_neg pe_int) (fun _ _ => rfl)) (fun _ _ => rfl)) pe_non (nomark _)) (pss_one (ps_expr (pe_bm PySem.F.plainAttrs_list PySem.F.slot_list_append PySem.F.type_list_append mt_append (pv 2) (pa_cons (pe_dget (hu_of hr) (pv 0) (pe_ix (ixK K rfl) (pv 2) (pe_un un_neg pe_int) (fun _ _ => rfl)) (fun _ _ => rfl)) pa_nil)))))
      (pss_cons (ps_expr (pe_bm0 PySem.F.plainAttrs_list PySem.F.slot_list_reverse PySem.F.type_list_reverse mt_reverse (pv 2)))
      (pss_one (ps_ret (pv 2)))))), ?_⟩
    refine ⟨_, rfl, by show 1 ≤ sizeLine; decide, fun p np => ?_⟩
    have npd : p ≠ d := (ne_of_none ed np).symm
    refine ⟨fun m σ H' => ∃ (c : Str) (lr pr : List Str), σ = [some (.ref d), some (.str e), some (.ref p)] ∧ Same H H' ∧ H' p = some (.lst (pr.map V.str)) ∧ Tr R c lr ∧ pr.getLast? = some c ∧ lr.dropLast ++ pr.reverse = l ∧ m = lr.length,
      ⟨_, e, l, [e], rfl, same_upd np, upd_same, tr, rfl, by simpa using drop_last tr.last, rfl⟩, fun m σ H' ⟨c, lr, pr, eσ, sm, ep, tc, lc, el, em⟩ => ?_⟩
    subst eσ
    have lens : lr.length - 1 + pr.length = l.length := by rw [← el, List.length_append, List.length_dropLast, List.length_reverse]
    cases tc with
    | start hm =>
      refine ⟨_, rfl, _, rfl, _, rfl, p, _, _, .str c, rfl, rfl, .inl (.inl ep), atI_end (last_map lc), d, .non, rfl, dget_of (.inl (sm _ _ ed)) (encE_val nd _ hm), rfl, _, rfl, ?_⟩
      refine iteF ?_
      refine ⟨_, rfl, .inl ⟨rfl, _, .inl (.inl ep)⟩, p, _, rfl, rfl, ep, ?_⟩
      refine ⟨_, rfl, q p _ np (wr sm np) ?_⟩
      rw [upd_same, ← List.map_reverse, ← el]; rfl
    | @more u _ lr hm tu =>
      refine ⟨_, rfl, _, rfl, _, rfl, p, _, _, .str c, rfl, rfl, .inl (.inl ep), atI_end (last_map lc), d, .str u, rfl, dget_of (.inl (sm _ _ ed)) (encE_val nd _ hm), rfl, _, rfl, ?_⟩
      refine iteT ⟨_, fun _ _ h => h, ?_⟩
      refine ⟨_, rfl, .inl ⟨rfl, _, .inl (.inl ep)⟩, _, rfl, _, rfl, _, rfl, p, _, _, .str c, rfl, rfl, .inl (.inl ep), atI_end (last_map lc), d, .str u, rfl, dget_of (.inl (sm _ _ ed)) (encE_val nd _ hm), p, _, _, rfl, rfl, ep, by rw [List.length_map]; exact lt_line (by omega), ?_⟩
      refine ⟨lr.length, by rw [em, List.length_append]; exact Nat.lt_succ_self _, u, lr, pr ++ [u], rfl, wr sm np, by rw [upd_same, List.map_append]; rfl, tu, by simp, ?_, rfl⟩
      rw [List.dropLast_concat] at el
      rw [List.reverse_append, ← List.append_assoc]
      show (lr.dropLast ++ [u]) ++ pr.reverse = l
      rw [drop_last tu.last]; exact el
abbrev st_text_of : Stmt := topS 5
theorem sc_text_of : FnScope ["steps", "step"] ["steps"] (defScope st_text_of) := ⟨rfl, rfl, rfl, by decide +kernel, rfl, by decide +kernel, by decide +kernel⟩
theorem pl_text_of : PlainB "text_of" st_text_of ["steps"] := fun _ _ _ _ _ _ us hl => match us, hl with | [_], _ => rfl
def spTextOf : Sp := fun vs H Q _ => ∃ (p : Addr) (xs : List Str), vs = [.ref p] ∧ H p = some (.lst (xs.map V.str)) ∧ 1 ≤ xs.length ∧ xs.length ≤ 3000 ∧ (∀ x ∈ xs, 1 ≤ x.length ∧ x.length ≤ 6) ∧ ∀ H', Same H H' → Q (.str (mkS (txt xs))) H'
theorem las_one {v : Str} {c : Nat} (h1 : 1 ≤ v.length) (hc : (tl v)[v.length - 1]? = some c) : lasL v = [c] := by
  have l := las_len h1
  unfold lasL at l ⊢
  have e : ((tl v).drop (v.length - 1))[0]? = some c := by rw [List.getElem?_drop]; exact hc
  match (tl v).drop (v.length - 1), l, e with
  | [a], _, e => simp at e; rw [e]
theorem ok_text_of (T : Top K mg "text_of" st_text_of) (B : Bt mg) : Dn P w K mg base 1 "text_of" st_text_of ["steps"] spTextOf := by
  refine dn_of T sc_text_of pl_text_of (fun vs H Q E h => ?_) fun f cdv A outer s H vs Q E hr h => ?_
  · obtain ⟨a, b, rfl, _⟩ := h; rfl
  · obtain ⟨p, xs, rfl, ep, x1, x2, hx, q⟩ := h
    obtain ⟨x0, xr, exs⟩ : ∃ x0 xr, xs = x0 :: xr := by
      cases xs with
      | nil => exact absurd x1 (by decide)
      | cons a r => exact ⟨a, r, rfl⟩
    refine ⟨_, (pss_one (ps_ret (pe_op op_add_str (pe_ix (ixK K rfl) (pv 0) pe_int (fun _ _ => rfl)) (joinK K rfl pe_str (pe_lc (own := [("step", 1)]) (g := gName 1) rfl sc_text_of.nd (pi_list (pe_slice (slK K rfl) (pv 0) (po_some pe_int) po_none)) (blkOk_by (N := ["steps", "step"]) (sc := defScope st_text_of) (by decide +kernel)) (fun _ _ _ _ _ => (pg_name (i := 1) sc_text_of.nd rfl (.inl rfl))) (fun _ _ _ _ _ => pts_nil) (fun _ _ _ _ _ => (pe_ix ix_str (pv 1) (pe_un un_neg pe_int) (fun _ _ => rfl)))))))), ?_⟩
    refine ⟨_, rfl, p, _, 0, .str x0, rfl, rfl, .inl (.inl ep), atI_pos (by decide) (by rw [exs]; rfl), ?_⟩
    refine ⟨⟨_, rfl⟩, _, rfl, _, rfl, p, _, rfl, .inl (.inl ep), fun g ng => ?_⟩
    rw [cutV_tail, ← List.map_drop]
    refine ⟨g, rfl, ⟨_, .inl (.inl upd_same)⟩, fun D hD => ?_⟩
    have er : xs.drop 1 = xr := by rw [exs]; rfl
    rw [er] at hD ⊢
    have eg : (upd H g (.lst (xr.map V.str))) g = some (.lst (xr.map V.str)) := upd_same
    have sg : Same H (upd H g (.lst (xr.map V.str))) := same_upd ng
    generalize upd H g (.lst (xr.map V.str)) = H1 at eg sg hD ⊢
    have lr : xr.length ≤ 3000 := by rw [exs, List.length_cons] at x2; omega
    refine lc_list (a := g) (xs := xr.map V.str) (fun i H' => Same H1 H' ∧ H' D = some (.lst (((xr.take i).map fun v => mkS (lasL v)).map V.str))) ⟨same_upd hD, upd_same⟩ (fun i H' _ h => .inl (.inl (h.1 _ _ eg))) (fun i y H' hi ⟨sm, e⟩ => ?_) fun H' ⟨sm, e⟩ => ?_
    · obtain ⟨v, hv, rfl⟩ := str_at hi
      obtain ⟨v1, v6⟩ := hx v (by rw [exs]; exact List.mem_cons_of_mem _ (List.mem_of_getElem? hv))
      have il := (List.getElem?_eq_some_iff.mp hv).1
      have ltv : v.length - 1 < (tl v).length := by rw [← len_tl]; omega
      have hc : (tl v)[v.length - 1]? = some (tl v)[v.length - 1] := List.getElem?_eq_getElem ltv
      refine ⟨rfl, lc_yes ?_⟩
      refine ⟨_, rfl, _, rfl, v, _, _, rfl, rfl, big (by omega), atI_last hc (by omega), _, e, by rw [List.length_map, List.length_map, List.length_take]; exact lt_line (by omega), wr sm hD, ?_⟩
      rw [upd_same, take_mem hv, List.map_append, List.map_append]
      show some (HO.lst (_ ++ [V.str (mkS [_])])) = some (HO.lst (_ ++ [V.str (mkS (lasL v))]))
      rw [las_one v1 hc]
    · rw [List.length_map, List.take_length] at e
      have one : ∀ y ∈ xr.map fun v => mkS (lasL v), y.length = 1 := fun y hy => by
        obtain ⟨v, hv, rfl⟩ := List.mem_map.mp hy
        rw [len_mkS]
        exact las_len (hx v (by rw [exs]; exact List.mem_cons_of_mem _ hv)).1
      have sum : (((xr.map fun v => mkS (lasL v)).map (·.length)).sum) = xr.length := by
        rw [show ((xr.map fun v => mkS (lasL v)).map (·.length)) = List.replicate xr.length 1 from List.eq_replicate_iff.mpr ⟨by simp, fun b hb => by
          obtain ⟨y, hy, rfl⟩ := List.mem_map.mp hb
          exact one y hy⟩]
        simp
      have ej : Txt.join (Str.ofString "") (xr.map fun v => mkS (lasL v)) = mkS (xr.map lasL).flatten := by
        rw [join_e, List.map_map]; rfl
      have x06 := (hx x0 (by rw [exs]; exact List.mem_cons_self ..)).2
      refine ⟨Str.ofString "", D, xr.map fun v => mkS (lasL v), rfl, rfl, .inl (.inl (.inl e)), ?_, ?_⟩
      · rw [sum, str_e]; show xr.length + _ * 0 ≤ _; omega
      · rw [ej]
        have lj : (mkS (xr.map lasL).flatten).length = xr.length := by
          rw [len_mkS, List.length_flatten, ← sum, List.map_map, List.map_map]; rfl
        refine ⟨_, _, rfl, rfl, by rw [lj]; exact Nat.le_trans (show _ ≤ 100000 by omega) (by decide), ?_⟩
        have et : x0 ++ mkS (xr.map lasL).flatten = mkS (txt xs) := by
          refine ext_tl ?_
          rw [tl_append, exs]; rfl
        rw [et]
        exact q H' (sg.trans sm)
abbrev st_way : Stmt := topS 19
theorem sc_way : FnScope ["book", "one", "other", "starts", "came", "window"] ["book", "one", "other"] (defScope st_way) := ⟨rfl, rfl, rfl, by decide +kernel, rfl, by decide +kernel, by decide +kernel⟩
theorem pl_way : PlainB "way" st_way ["book", "one", "other"] := fun _ _ _ _ _ _ us hl => match us, hl with | [_, _, _], _ => rfl
def g_kb_way_other_one_book {A : Type} : List A → List A → List A | [], [v0, v1, v2] => [v2, v1, v0] | _, _ => []
theorem kb_way_other_one_book {K : PySem.W.Frag} : ∀ fd, (∃ kV doc pm an cdv ct, fd = PySem.W.fnOf "way" "way" (defArgs st_way) (defBody st_way) (defScope st_way) .none kV doc pm an cdv ct) → KBinds K fd ["book", "one", "other"] ["other", "one", "book"] g_kb_way_other_one_book g_kb_way_other_one_book := by
  rintro fd ⟨kV, doc, pm, an, cdv, ct, rfl⟩
  refine ⟨fun s us ws _ hl => ?_, fun r q => ?_⟩
  · match us, ws, hl with
    | [], [_, _, _], _ => exact .of_eq rfl
  · match r, q with
    | .nil, (.cons a0 (.cons a1 (.cons a2 .nil))) => exact (.cons a2 (.cons a1 (.cons a0 .nil)))
    | .nil, .nil => exact .nil
    | .nil, (.cons _ .nil) => exact .nil
    | .nil, (.cons _ (.cons _ .nil)) => exact .nil
    | .nil, (.cons _ (.cons _ (.cons _ (.cons _ _)))) => exact .nil
    | .cons _ _, _ => exact .nil
theorem low_las {v : Str} (h : Low v) : Low (mkS (lasL v)) := low_drop h _
def spWay : Sp := fun vs H Q _ => ∃ (b : Addr) (k : Nat) (ws : List Str) (one other : Str), vs = [.ref b, .str one, .str other] ∧ BookAt H b k ws ∧ Book k ws ∧ ws.length ≤ 100 ∧ one ∈ ws ∧ other ∈ ws ∧ ∀ r H', Same H H' → RoadR ws one other r → Fine r → Q r H'
theorem Book.full {k : Nat} {ws : List Str} (bk : Book k ws) : Full ws := fun v hv => by
  have := (bk.each v hv).2
  have := bk.n2
  omega
theorem Book.nodup {k : Nat} {ws : List Str} (bk : Book k ws) : ws.Nodup := bk.asc.imp fun {a b} h e => by
  rw [e] at h; exact List.lt_irrefl _ h
theorem ok_way (T : Top K mg "way" st_way) (B : Bt mg) (D_check_book : Dn P w K mg base 4 "check_book" st_check_book ["book"] spCkBook) (D_check_window : Dn P w K mg base 1 "check_window" st_check_window ["book", "window"] spCkWin)
    (D_begun : Dn P w K mg base 1 "begun" st_begun ["book"] spBegun) (D_reached : Dn P w K mg base 1 "reached" st_reached ["starts", "links"] (spReached (K := K))) (D_trail : Dn P w K mg base 1 "trail" st_trail ["came", "end"] spTrail) (D_text_of : Dn P w K mg base 1 "text_of" st_text_of ["steps"] spTextOf) :
    Dn P w K mg base 5 "way" st_way ["book", "one", "other"] spWay := by
  refine dn_of T sc_way pl_way (fun vs H Q E h => ?_) fun f cdv A outer s H vs Q E hr h => ?_
  · obtain ⟨a, b, _, _, _, rfl, _⟩ := h; rfl
  · obtain ⟨b, k, ws, one, other, rfl, bat, bk, wl, ho, hot, q⟩ := h
    have k2 := bk.n2
    have k6 := bk.n6
    refine ⟨_, (pss_cons (ps_expr (pe_fn D_check_book (hr.mono (by decide)) (by rfl) (pa_cons (pv 0) pa_nil)))
      (pss_cons (ps_expr (pe_fn D_check_window (hr.mono (by decide)) (by rfl) (pa_cons (pv 0) (pa_cons (pv 1) pa_nil))))
      (pss_cons (ps_expr (pe_fn D_check_window (hr.mono (by decide)) (by rfl) (pa_cons (pv 0) (pa_cons (pv 2) pa_nil))))
      (pss_cons (ps_set (i := 3) sc_way.nd rfl (.inr rfl) (pe_fn D_begun (hr.mono (by decide)) (by rfl) (pa_cons (pv 0) pa_nil)))
      (pss_cons (ps_set (i := 4) sc_way.nd rfl (.inl rfl) (pe_fn D_reached (hr.mono (by decide)) (by rfl) (pa_cons (pe_lst (pa_cons (pv 1) pa_nil)) (pa_cons (pe_dc (own := [("window", 5)]) (g := gName 5) rfl sc_way.nd (pi_tup (pe_ix (ixTK K rfl) (pv 0) pe_int (fun _ _ => rfl))) (blkOk_by (N := ["book", "one", "other", "starts", "came", "window"]) (sc := defScope st_way) (by decide +kernel)) (fun _ _ _ _ _ => (pg_name (i := 5) sc_way.nd rfl (.inl rfl))) (fun _ _ _ _ _ => pts_nil) (fun _ _ _ _ _ => (pv 5)) (fun _ _ _ _ _ => (pe_dget (hu_of hr) (pv 3) (pe_slice sl_str (pv 5) (po_some pe_int) po_none) (fun _ _ => rfl)))) pa_nil))))
      (pss_cons (ps_if (pt_cmp (pc_dnotin (hu_of hr) (pv 2) (pv 4))) (pss_one (ps_ret pe_non)) pss_nil)
      (pss_one (ps_ret (pe_fn D_text_of (hr.mono (by decide)) (by rfl) (pa_cons (pe_fn D_trail (hr.mono (by decide)) (by rfl) (pa_cons (pv 4) (pa_cons (pv 2) pa_nil))) pa_nil)))))))))), ?_⟩
    refine ⟨_, rfl, b, k, ws, rfl, bat, bk, fun H1 s1 => ?_⟩
    have bat1 := bat.same s1
    refine ⟨_, rfl, _, rfl, b, k, ws, one, rfl, bat1, ho, ?_⟩
    refine ⟨_, rfl, _, rfl, b, k, ws, other, rfl, bat1, hot, ?_⟩
    refine ⟨_, rfl, b, k, ws, rfl, bat1, bk, wl, fun d ns H2 nd s2 up dl => ?_⟩
    obtain ⟨fa, ed, ga⟩ := dl
    obtain ⟨t, eb, et⟩ := bat1.same s2
    refine ⟨_, rfl, by show 1 ≤ sizeLine; decide, fun l nl => ?_⟩
    have sl : Same H2 (upd H2 l (.lst [V.str one])) := same_upd nl
    have el : (upd H2 l (.lst [V.str one])) l = some (.lst ([one].map V.str)) := upd_same
    generalize upd H2 l (.lst [V.str one]) = H3 at sl el ⊢
    refine ⟨_, rfl, b, _, _, _, rfl, rfl, .inl (.inl (sl _ _ eb)), rfl, t, rfl, ⟨_, .inl (.inl (sl _ _ et))⟩, fun d2 nd2 => ?_⟩
    have inn : ∀ v ∈ ws, taiS v ∈ ns := fun v hv => (up.2.2.1 _).mpr (tai_place hv)
    refine dc_tup (a := t) (xs := ws.map V.str) (fun i H' => Same H3 H' ∧ H' d2 = some (.dK (dkF (fun x => .ref (fa (taiS x))) (ws.take i)))) ⟨same_upd nd2, by rw [upd_same]; rfl⟩ (fun i H' _ h => .inl (.inl (h.1 _ _ (sl _ _ et)))) (fun i y H' hi ⟨sm, e⟩ => ?_) fun H4 ⟨s4, e4⟩ => ?_
    · obtain ⟨v, hv, rfl⟩ := str_at hi
      have hvm := List.mem_of_getElem? hv
      obtain ⟨lo, vl⟩ := bk.each v hvm
      refine ⟨rfl, yes_of ?_⟩
      refine ⟨_, rfl, _, rfl, _, rfl, _, rfl, v, rfl, big (by omega), ?_⟩
      rw [tai_eq' (by omega)]
      refine ⟨d, .ref (fa (taiS v)), rfl, dget_of (.inl (sm _ _ (sl _ _ ed))) (dkF_val _ (inn v hvm)), _, Sum.inr v, rfl, e, by rw [dkF_len, List.length_take]; exact lt_line (by omega), wr sm nd2, ?_⟩
      rw [upd_same, dkF_put (not_before bk.nodup hv) rfl fun _ _ => rfl, ← take_mem hv]
    rw [List.length_map, List.take_length] at e4
    have dl2 : DL H4 d2 ws (adjW ws) := ⟨fun x => fa (taiS x), e4, fun x hx => s4 _ _ (sl _ _ (ga _ (inn x hx)))⟩
    refine ⟨l, d2, [one], ws, adjW ws, rfl, .inl (.inl (s4 _ _ el)), List.nodup_cons.mpr ⟨by simp, List.nodup_nil⟩, dl2, by omega, fun x hx => by rw [List.mem_singleton.mp hx]; exact ho, fun x _ y hy => (mem_adjW.mp hy).1, fun d3 H5 R n5 s5 e5 ndR inR run => ?_⟩
    obtain ⟨_, w1, w2⟩ := way_of bk.full bk.asc run
    have sm5 : Same H H5 := (((s1.trans s2).trans sl).trans s4).trans s5
    refine ⟨_, rfl, _, rfl, d3, _, rfl, DGet.k (k := Sum.inr other) e5, _, rfl, ?_⟩
    rw [val_some (encE_keys R)]
    by_cases hk : other ∈ keysE R
    · rw [decide_eq_true hk]
      refine iteF ?_
      obtain ⟨x, dd, tr, wk, xl, xR, bs⟩ := w1 other hk
      have fewR : R.length ≤ 100 := by
        have := pig _ ws ndR inR
        rw [show (keysE R).length = R.length from List.length_map ..] at this
        omega
      refine ⟨_, rfl, _, rfl, d3, other, R, x, rfl, e5, ndR, tr, by omega, fun p H6 np s6 ep => ?_⟩
      refine ⟨p, x, rfl, ep, wk.pos, by omega, fun y hy => ?_, fun H7 s7 => ?_⟩
      · have := (bk.each y (wk.all ho y hy)).2
        omega
      · refine q _ H7 ((sm5.trans s6).trans s7) (.inl ⟨dd, _, rfl, bs⟩) (.inr ⟨_, rfl, txt_low fun v hv => (bk.each v (wk.all ho v hv)).1, ?_⟩)
        rw [len_mkS, bs.len bk.full, (bk.each one ho).2]
        omega
    · rw [decide_eq_false hk]
      refine iteT ?_
      exact q _ H5 sm5 (.inr ⟨rfl, fun l => w2 other hk l⟩) (.inl rfl)
end
end Tx

set_option Elab.async false
set_option linter.all false
set_option maxRecDepth 100000
set_option maxHeartbeats 1000000
namespace Tx
open PySem PySem.Spec PyProof.Rows L2 TL RZ
/-- a dict of texts, by what is known of each -/
structure KD (G : Str → List Nat → Prop) (kvs : List (Key × V)) (ks : List Str) : Prop where
  keys : kvs.map (·.1) = ks.map Sum.inr
  each : ∀ x ∈ ks, ∃ y, valV kvs (Sum.inr x : Key) = some (.str (mkS y)) ∧ G x y
theorem KD.nil (G : Str → List Nat → Prop) : KD G [] [] := ⟨rfl, fun _ h => by cases h⟩
theorem KD.imp {G G' : Str → List Nat → Prop} {kvs : List (Key × V)} {ks : List Str} (k : KD G kvs ks) (h : ∀ x ∈ ks, ∀ y, G x y → G' x y) : KD G' kvs ks :=
  ⟨k.keys, fun x hx => let ⟨y, e, g⟩ := k.each x hx; ⟨y, e, h x hx y g⟩⟩
theorem KD.len {G : Str → List Nat → Prop} {kvs : List (Key × V)} {ks : List Str} (k : KD G kvs ks) : kvs.length = ks.length := by
  have := congrArg List.length k.keys
  rwa [List.length_map, List.length_map] at this
theorem KD.put {G : Str → List Nat → Prop} {kvs : List (Key × V)} {ks : List Str} (k : KD G kvs ks) {x : Str} {y : List Nat} (g : G x y) : KD G (putK kvs (Sum.inr x : Key) (.str (mkS y))) (if x ∈ ks then ks else ks ++ [x]) := by
  refine ⟨keys_put k.keys x _, fun z hz => ?_⟩
  rw [valV_put]
  by_cases c : z = x
  · subst c; rw [if_pos rfl]; exact ⟨y, rfl, g⟩
  · rw [if_neg fun h => c (Sum.inr.inj h)]
    exact k.each z ((mem_ite.mp hz).resolve_right c)
theorem mk_las {y : List Nat} {v : Str} {c : Nat} (h1 : 1 ≤ v.length) (hc : (tl v)[v.length - 1]? = some c) : mkS y ++ (⟨#[c]⟩ : Str) = mkS (y ++ lasL v) := by
  refine ext_tl ?_
  rw [tl_append, las_one h1 hc]; rfl
theorem Bst.low {ws : List Str} {one v : Str} {d : Nat} {y : List Nat} (b : Bst ws one d v y) (ho : one ∈ ws) (lo : ∀ v ∈ ws, Low v) : Low (mkS y) := by
  obtain ⟨l, hl, _, rfl⟩ := b.way
  exact txt_low fun x hx => lo x (hl.all ho x hx)
/-- the least of those that come by the pairs that were looked at -/
def Cand (ws : List Str) (one : Str) (dd : Nat) (Pp : Str → Str → Prop) (v : Str) (y : List Nat) : Prop :=
  (∃ u yu, Bst ws one dd u yu ∧ iniS v = taiS u ∧ y = yu ++ lasL v) ∧ ∀ u yu, Pp u v → Bst ws one dd u yu → iniS v = taiS u → y ≤ yu ++ lasL v
section
variable {P : Program} {w : World} {K : PySem.W.Frag} {mg : Str → Option Value} {base : Heap}
abbrev st_law_road : Stmt := topS 29
theorem sc_law_road : FnScope ["book", "one", "other", "known", "layer", "later", "step", "window", "text"] ["book", "one", "other"] (defScope st_law_road) := ⟨rfl, rfl, rfl, by decide +kernel, rfl, by decide +kernel, by decide +kernel⟩
theorem pl_law_road : PlainB "_law_road" st_law_road ["book", "one", "other"] := fun _ _ _ _ _ _ us hl => match us, hl with | [_, _, _], _ => rfl
def spRoad2 : Sp := fun vs H Q _ => ∃ (b : Addr) (k : Nat) (ws : List Str) (one other : Str), vs = [.ref b, .str one, .str other] ∧ BookAt H b k ws ∧ Book k ws ∧ ws.length ≤ 100 ∧ one ∈ ws ∧ ∀ r H', Same H H' → RoadR ws one other r → Fine r → Q r H'
theorem ok_law_road (T : Top K mg "_law_road" st_law_road) (B : Bt mg) : Dn P w K mg base 1 "_law_road" st_law_road ["book", "one", "other"] spRoad2 := by
  refine dn_of T sc_law_road pl_law_road (fun vs H Q E h => ?_) fun f cdv A outer s H vs Q E hr h => ?_
  · obtain ⟨a, b, _, _, _, rfl, _⟩ := h; rfl
  · obtain ⟨b, k, ws, one, other, rfl, ⟨t, eb, et⟩, bk, wl, ho, q⟩ := h
    have k2 := bk.n2
    have k6 := bk.n6
    obtain ⟨lo1, l1⟩ := bk.each one ho
    have fewN : ∀ xs : List Str, xs.Nodup → (∀ x ∈ xs, x ∈ ws) → xs.length ≤ ws.length := fun xs h1 h2 => pig xs ws h1 h2
    have start : ∀ G : Str → List Nat → Prop, G one (tl one) → KD G [((Sum.inr one : Key), V.str one)] [one] := fun G g => ⟨rfl, fun x hx => by
      rw [List.mem_singleton.mp hx]
      exact ⟨tl one, by rw [mkS_tl]; exact valV_pos rfl, g⟩⟩
    refine ⟨_, (pss_cons (ps_par (i := 3) (j := 4) (by rfl) sc_law_road.nd rfl rfl (by decide) rfl rfl (pa_cons (pe_disp (pps_cons (pv 1) (pv 1) pps_nil) (by rfl) (by rfl) (fun z => by cases z) (by decide)) (pa_cons (pe_disp (pps_cons (pv 1) (pv 1) pps_nil) (by rfl) (by rfl) (fun z => by cases z) (by decide)) pa_nil)) (by rfl))
      (pss_cons (ps_while PassesOwn.never (PW.pt (pw_and (pt_cmpR (op_neD0 (Nat.lt_of_succ_lt (hu_of hr))) (pv 4) pe_dnewK (nomark _)) (pw_and1 (pt_cmp (pc_dnotin (hu_of hr) (pv 2) (pv 3)))))) (pss_cons (ps_set (i := 5) sc_law_road.nd rfl (.inl rfl) pe_dnewK)
      (pss_cons (ps_for PassesOwn.never rfl (pi_list (pe_callB (cr_sortD rfl) (by rfl) B.sorted (by decide +kernel) (pa_cons (pv 4) pa_nil))) (pg_name (i := 6) sc_law_road.nd rfl (.inl rfl)) (pss_one (ps_for PassesOwn.never rfl (pi_tup (pe_ix (ixTK K rfl) (pv 0) pe_int (fun _ _ => rfl))) (pg_name (i := 7) sc_law_road.nd rfl (.inl rfl)) (pss_one (ps_if (PW.pt (pw_and (pt_cmpR op_eq (pe_slice sl_str (pv 7) po_none (po_some (pe_un un_neg pe_int))) (pe_slice sl_str (pv 6) (po_some pe_int) po_none) (nomark _)) (pw_and1 (pt_cmp (pc_dnotin (hu_of hr) (pv 7) (pv 3)))))) (pss_cons (ps_set (i := 8) sc_law_road.nd rfl (.inl rfl) (pe_op op_add_str (pe_dget (hu_of hr) (pv 4) (pv 6) (fun _ _ => rfl)) (pe_ix ix_str (pv 7) (pe_un un_neg pe_int) (fun _ _ => rfl))))
      (pss_one (ps_dput (hu_of hr) (pv 5) (pv 7) (pe_callB (cr_min2B rfl) (by rfl) B.min (by decide +kernel) (pa_cons (pe_dget2 (hu_of hr) (pv 5) (pv 7) (pv 8) ⟨by rfl, by rfl, by rfl, by rfl⟩) (pa_cons (pv 8) pa_nil))) rfl))) pss_nil)))))
      (pss_cons (ps_lock (ps_for PassesOwn.never rfl (pi_keys (pv 5)) (pg_name (i := 7) sc_law_road.nd rfl (.inl rfl)) (pss_one (ps_dput (hu_of hr) (pv 3) (pv 7) (pe_dget (hu_of hr) (pv 5) (pv 7) (fun _ _ => rfl)) rfl))))
      (pss_one (ps_set (i := 4) sc_law_road.nd rfl (.inl rfl) (pv 5)))))))
      (pss_one (ps_ret (pe_dget2 (hu_of hr) (pv 3) (pv 2) pe_non ⟨by rfl, by rfl, by rfl, by rfl⟩))))), ?_⟩
    refine fun d nd => ⟨_, rfl, _, rfl, upd_same, [(Sum.inr one, V.str one)], rfl, by show 1 ≤ 15; decide, fun d2 nd2 => ⟨_, rfl, _, rfl, upd_same, [(Sum.inr one, V.str one)], rfl, by show 1 ≤ 15; decide, _, _, rfl, ?_⟩⟩
    have s1 : Same H (upd (upd H d (.dK [])) d (.dK (mergeK [] [((Sum.inr one : Key), V.str one)]))) := wr (same_upd nd) nd
    have e1 : (upd (upd H d (.dK [])) d (.dK (mergeK [] [((Sum.inr one : Key), V.str one)]))) d = some (.dK [((Sum.inr one : Key), V.str one)]) := upd_same
    generalize upd (upd H d (.dK [])) d (.dK (mergeK [] [((Sum.inr one : Key), V.str one)])) = H1 at s1 e1 nd2 ⊢
    have n2 : d ≠ d2 := ne_of_none e1 nd2
    have s2 : Same H1 (upd (upd H1 d2 (.dK [])) d2 (.dK (mergeK [] [((Sum.inr one : Key), V.str one)]))) := wr (same_upd nd2) nd2
    have e2 : (upd (upd H1 d2 (.dK [])) d2 (.dK (mergeK [] [((Sum.inr one : Key), V.str one)]))) d2 = some (.dK [((Sum.inr one : Key), V.str one)]) := upd_same
    generalize upd (upd H1 d2 (.dK [])) d2 (.dK (mergeK [] [((Sum.inr one : Key), V.str one)])) = H2 at s2 e2 ⊢
    refine ⟨fun m σ H' => ∃ (L : Addr) (kvs kvl : List (Key × V)) (ks ls : List Str) (dd : Nat) (o5 o6 o7 o8 : Option V), σ = [some (.ref b), some (.str one), some (.str other), some (.ref d), some (.ref L), o5, o6, o7, o8] ∧ L ≠ d ∧ H' d = some (.dK kvs) ∧ H' L = some (.dK kvl) ∧
        KD (fun x y => ∃ d', d' ≤ dd ∧ Bst ws one d' x y) kvs ks ∧ KD (Bst ws one dd) kvl ls ∧ Lv ws one dd ks ∧ (∀ u y, Bst ws one dd u y → u ∈ ls) ∧ ks.Nodup ∧ dd ≤ ks.length ∧ (ls ≠ [] → dd < ks.length) ∧ Same H H' ∧ m = (ws.length - ks.length) + (if ls = [] then 0 else 1),
      ⟨_, d2, _, _, [one], [one], 0, none, none, none, none, rfl, n2.symm, s2 _ _ e1, e2, start _ ⟨0, Nat.le_refl _, .start⟩, start _ .start, .start, fun u y bs => by
          obtain ⟨l, hl, nl, _⟩ := bs.way
          obtain ⟨_, rfl⟩ := hl.one_of (by omega)
          exact List.mem_singleton.mpr rfl, List.nodup_cons.mpr ⟨by simp, List.nodup_nil⟩, Nat.zero_le _, fun _ => Nat.lt_succ_self _, s1.trans s2, rfl⟩,
      fun m σ H' ⟨L, kvs, kvl, ks, ls, dd, o5, o6, o7, o8, eσ, nL, ed, eL, dk, dl, lv, lsA, ndk, dd1, dd2, sm, em⟩ => ?_⟩
    subst eσ
    have ksw : ∀ x ∈ ks, x ∈ ws := fun x hx => lv.inn ho hx
    have fewk := fewN ks ndk ksw
    have fin : ∀ H'' : Hp, Same H' H'' → other ∈ ks → ∃ z, valV kvs (Sum.inr other : Key) = some z ∧ Q z H'' := fun H'' s h => by
      obtain ⟨y, hv, d', hd', bs⟩ := dk.each other h
      refine ⟨_, hv, q _ H'' (sm.trans s) (.inl ⟨d', y, rfl, bs⟩) (.inr ⟨_, rfl, bs.low ho fun v hv => (bk.each v hv).1, ?_⟩)⟩
      rw [len_mkS, bs.len bk.full]; omega
    refine ⟨_, rfl, fun e0 ne0 => ⟨L, e0, kvl, rfl, rfl, (same_upd ne0) _ _ eL, upd_same, _, rfl, ?_⟩⟩
    have s0 : Same H' (upd H' e0 (.dK [])) := same_upd ne0
    generalize upd H' e0 (.dK []) = H3 at s0 ⊢
    have ed3 := s0 _ _ ed
    by_cases hls : ls = []
    · have : kvl = [] := List.eq_nil_of_length_eq_zero (by rw [dl.len, hls]; rfl)
      subst this
      subst hls
      refine iteF ?_
      refine iteF ?_
      by_cases hk : other ∈ ks
      · obtain ⟨z, hv, qy⟩ := fin H3 s0 hk
        refine ⟨_, rfl, d, rfl, .inl ⟨_, .inl ed3⟩, _, rfl, _, dget_of (.inl ed3) hv, ?_⟩
        exact qy
      · refine ⟨_, rfl, d, rfl, .inl ⟨_, .inl ed3⟩, _, rfl, _, DGet.k (k := Sum.inr other) ed3, ?_⟩
        rw [val_not dk.keys hk]
        exact q _ H3 (sm.trans s0) (.inr ⟨rfl, fun l hl => hk (lv.done (fun u y _ bs => by have := lsA u y bs; cases this) hl)⟩) (.inl rfl)
    · have hkv : (!kvl.isEmpty) = true := by
        cases kvl with
        | nil => exact absurd (List.eq_nil_of_length_eq_zero (by rw [← dl.len]; rfl)) hls
        | cons _ _ => rfl
      rw [hkv]
      refine iteT ?_
      refine ⟨_, rfl, _, rfl, d, _, rfl, DGet.k (k := Sum.inr other) ed3, _, rfl, ?_⟩
      rw [val_some dk.keys]
      by_cases hk : other ∈ ks
      · rw [decide_eq_true hk]
        refine iteF ?_
        obtain ⟨z, hv, qy⟩ := fin H3 s0 hk
        refine ⟨_, rfl, d, rfl, .inl ⟨_, .inl ed3⟩, _, rfl, _, dget_of (.inl ed3) hv, ?_⟩
        exact qy
      · rw [decide_eq_false hk]
        refine iteT ⟨_, fun _ _ h => h, ?_⟩
        refine fun D nD => ?_
        have nDd : D ≠ d := (ne_of_none ed3 nD).symm
        have eL3 := s0 _ _ eL
        have nDL : D ≠ L := (ne_of_none eL3 nD).symm
        have nD0 : H D = none := sm.free (s0.free nD)
        dsimp only [gName, tSeq]
        refine for_start ?_
        refine ⟨_, rfl, L, kvl, ls, rfl, .inl ((same_upd nD) _ _ eL3), dl.keys, fun ys a py so na => ⟨a, rfl, ⟨_, .inl (.inl upd_same)⟩, ?_⟩⟩
        have s4 : Same H3 (upd (upd H3 D (.dK [])) a (.lst (ys.map V.str))) := (same_upd nD).trans (same_upd na)
        have eD4 : (upd (upd H3 D (.dK [])) a (.lst (ys.map V.str))) D = some (.dK []) := (same_upd na) _ _ upd_same
        have ea4 : (upd (upd H3 D (.dK [])) a (.lst (ys.map V.str))) a = some (.lst (ys.map V.str)) := upd_same
        generalize upd (upd H3 D (.dK [])) a (.lst (ys.map V.str)) = H4 at s4 eD4 ea4 ⊢
        have naD : a ≠ D := fun h => by rw [h, eD4] at ea4; cases ea4
        have sm4 : Same H H4 := (sm.trans s0).trans s4
        have kl : ∀ u, u ∈ ys ↔ u ∈ ls := fun u => py.mem_iff
        have lw : ∀ u ∈ ls, u ∈ ws := fun u hu => by
          obtain ⟨y, _, bs⟩ := dl.each u hu
          exact bs.inn ho
        refine for_list (K := K) (a := a) (xs := ys.map V.str) (fun i σ H' => ∃ (kvn : List (Key × V)) (ns : List Str) (o6 o7 o8 : Option V), σ = [some (.ref b), some (.str one), some (.str other), some (.ref d), some (.ref L), some (.ref D), o6, o7, o8] ∧ But D H4 H' ∧ H' D = some (.dK kvn) ∧ KD (Cand ws one dd fun u _ => u ∈ ys.take i) kvn ns ∧ ns.Nodup ∧ (∀ x ∈ ns, x ∈ ws ∧ x ∉ ks) ∧ ∀ u ∈ ys.take i, ∀ v ∈ ws, iniS v = taiS u → v ∈ ks ∨ v ∈ ns)
          ⟨[], [], _, _, _, rfl, But.refl, eD4, .nil _, List.nodup_nil, (fun _ h => by cases h), fun u h => by rw [List.take_zero] at h; cases h⟩ (fun _ _ _ _ ⟨_, _, _, _, _, _, bt, _⟩ => .inl (.inl (bt.kept ea4 naD))) (fun i y σ H5 hi ⟨kvn, ns, p6, p7, p8, eσ, bt, eD, dn, ndn, hns, hcl⟩ => ?_) fun σ H5 ⟨kvn, ns, p6, p7, p8, eσ, bt, eD, dn, ndn, hns, hcl⟩ => ?_
        · subst eσ
          obtain ⟨u, hu, rfl⟩ := str_at hi
          have hul := (kl u).mp (List.mem_of_getElem? hu)
          obtain ⟨yu, hyu, gu⟩ := dl.each u hul
          obtain ⟨lu, ul⟩ := bk.each u (lw u hul)
          have lyu : yu.length ≤ 300 := by rw [gu.len bk.full]; omega
          have eb5 := bt.kept (sm4 _ _ eb) (fun h => by rw [h] at eb; rw [nD0] at eb; cases eb)
          have ntD : t ≠ D := fun h => by rw [h] at et; rw [nD0] at et; cases et
          refine ⟨_, rfl, b, _, _, _, rfl, rfl, .inl (.inl eb5), rfl, t, rfl, ⟨_, .inl (.inl (bt.kept (sm4 _ _ et) ntD))⟩, ?_⟩
          refine for_tup (K := K) (a := t) (xs := ws.map V.str) (fun j σ H' => ∃ (kvn : List (Key × V)) (ns : List Str) (o7 o8 : Option V), σ = [some (.ref b), some (.str one), some (.str other), some (.ref d), some (.ref L), some (.ref D), some (.str u), o7, o8] ∧ But D H4 H' ∧ H' D = some (.dK kvn) ∧ KD (Cand ws one dd fun u' v' => u' ∈ ys.take i ∨ (u' = u ∧ v' ∈ ws.take j)) kvn ns ∧ ns.Nodup ∧ (∀ x ∈ ns, x ∈ ws ∧ x ∉ ks) ∧ (∀ u ∈ ys.take i, ∀ v ∈ ws, iniS v = taiS u → v ∈ ks ∨ v ∈ ns) ∧ ∀ v ∈ ws.take j, iniS v = taiS u → v ∈ ks ∨ v ∈ ns)
            ⟨kvn, ns, _, _, rfl, bt, eD, dn.imp fun x _ y ⟨c1, c2⟩ => ⟨c1, fun u' yu' h => c2 u' yu' (h.resolve_right fun h => by rw [List.take_zero] at h; cases h.2)⟩, ndn, hns, hcl, fun v h => by rw [List.take_zero] at h; cases h⟩ (fun _ _ _ _ ⟨_, _, _, _, _, bt, _⟩ => .inl (.inl (bt.kept (sm4 _ _ et) ntD))) (fun j y σ H6 hj ⟨kvn, ns, p7, p8, eσ, bt, eD, dn, ndn, hns, hcl, hcj⟩ => ?_) fun σ H6 ⟨kvn, ns, p7, p8, eσ, bt, eD, dn, ndn, hns, hcl, hcj⟩ => ?_
          · subst eσ
            obtain ⟨v, hv, rfl⟩ := str_at hj
            have hvm := List.mem_of_getElem? hv
            obtain ⟨lv', vl⟩ := bk.each v hvm
            have ht : ws.take (j + 1) = ws.take j ++ [v] := take_mem hv
            have ed6 := bt.kept (s4 _ _ ed3) nDd.symm
            have eL6 := bt.kept (s4 _ _ eL3) nDL.symm
            have skip : (iniS v = taiS u → v ∈ ks ∨ v ∈ ns) → ∀ x ∈ ws.take (j + 1), iniS x = taiS u → x ∈ ks ∨ x ∈ ns := fun h x hx e => by
              rw [ht] at hx
              rcases List.mem_append.mp hx with hx | hx
              · exact hcj x hx e
              · rw [List.mem_singleton.mp hx] at e ⊢; exact h e
            -- what was the least stays so, but at v
            have stay : ∀ x ∈ ns, ∀ y, (x = v → iniS v = taiS u → False) → Cand ws one dd (fun u' v' => u' ∈ ys.take i ∨ (u' = u ∧ v' ∈ ws.take j)) x y → Cand ws one dd (fun u' v' => u' ∈ ys.take i ∨ (u' = u ∧ v' ∈ ws.take (j + 1))) x y := fun x hx y no ⟨c1, c2⟩ => by
              refine ⟨c1, fun u' yu' hp b' e' => ?_⟩
              rcases hp with hp | ⟨rfl, hp⟩
              · exact c2 u' yu' (.inl hp) b' e'
              · rw [ht] at hp
                rcases List.mem_append.mp hp with hp | hp
                · exact c2 u' yu' (.inr ⟨rfl, hp⟩) b' e'
                · have := List.mem_singleton.mp hp
                  subst this
                  exact (no rfl e').elim
            refine ⟨_, rfl, _, rfl, _, rfl, v, rfl, big (by omega), ?_⟩
            rw [ini_eq' (by omega)]
            refine ⟨_, rfl, _, rfl, u, rfl, big (by omega), ?_⟩
            rw [tai_eq' (by omega)]
            refine ⟨rfl, _, rfl, ?_⟩
            rw [str_ne]
            by_cases c1 : iniS v = taiS u
            · rw [decide_eq_true c1]
              refine iteT ?_
              refine ⟨_, rfl, _, rfl, d, _, rfl, DGet.k (k := Sum.inr v) ed6, _, rfl, ?_⟩
              rw [val_some dk.keys]
              by_cases c2 : v ∈ ks
              · rw [decide_eq_true c2]
                refine iteF ?_
                exact ⟨kvn, ns, _, _, rfl, bt, eD, dn.imp fun x hx y g => stay x hx y (fun e _ => (hns x hx).2 (e ▸ c2)) g, ndn, hns, hcl, skip fun _ => .inl c2⟩
              · rw [decide_eq_false c2]
                refine iteT ?_
                have ltv : v.length - 1 < (tl v).length := by rw [← len_tl]; omega
                have hc : (tl v)[v.length - 1]? = some (tl v)[v.length - 1] := List.getElem?_eq_getElem ltv
                refine ⟨_, rfl, _, rfl, L, V.str (mkS yu), rfl, dget_of (.inl eL6) hyu, _, rfl, _, rfl, v, _, _, rfl, rfl, big (by omega), atI_last hc (by omega), _, _, rfl, rfl, ?_, ?_⟩
                · rw [len_mkS]; exact big (show yu.length + 1 ≤ 3000 by omega)
                rw [mk_las (by omega) hc]
                obtain ⟨y', hy', gy'⟩ : ∃ y', (valV kvn (Sum.inr v : Key)).getD (V.str (mkS (yu ++ lasL v))) = V.str (mkS y') ∧ Cand ws one dd (fun u' v' => (u' ∈ ys.take i ∨ (u' = u ∧ v' ∈ ws.take j)) ∧ v ∈ ns) v y' := by
                  by_cases hvn : v ∈ ns
                  · obtain ⟨y', e, c1, c2⟩ := dn.each v hvn
                    rw [e]
                    exact ⟨y', rfl, c1, fun u' yu' hp => c2 u' yu' hp.1⟩
                  · rw [val_not dn.keys hvn]
                    exact ⟨_, rfl, ⟨u, yu, gu, c1, rfl⟩, fun u' yu' hp => absurd hp.2 hvn⟩
                have few := fewN ns ndn fun x hx => (hns x hx).1
                refine ⟨_, rfl, D, rfl, .inl ⟨_, .inl eD⟩, _, rfl, _, rfl, _, DGet.k (k := Sum.inr v) eD, _, rfl, mkS y', mkS (yu ++ lasL v), congrArg (fun z => [z, V.str (mkS (yu ++ lasL v))]) hy', fun m hm hm1 hm2 => ⟨_, rfl, _, rfl, D, _, rfl, DPut.k (k := Sum.inr v) eD (by rw [dn.len]; exact lt_line (by omega)), ?_⟩⟩
                rw [tl_mkS] at hm1 hm2
                have gm : Cand ws one dd (fun u' v' => u' ∈ ys.take i ∨ (u' = u ∧ v' ∈ ws.take (j + 1))) v (tl m) := by
                  refine ⟨?_, fun u' yu' hp b' e' => ?_⟩
                  · rcases hm with rfl | rfl
                    · exact gy'.1
                    · exact ⟨u, yu, gu, c1, rfl⟩
                  · have old : (u' ∈ ys.take i ∨ (u' = u ∧ v ∈ ws.take j)) → tl m ≤ yu' ++ lasL v := fun hp => by
                      by_cases hvn : v ∈ ns
                      · exact List.le_trans hm1 (gy'.2 u' yu' ⟨hp, hvn⟩ b' e')
                      · rcases hp with hp2 | ⟨eu, hp2⟩
                        · exact absurd (hcl u' hp2 v hvm e') (fun h => h.elim c2 hvn)
                        · exact absurd (hcj v hp2 (by rw [← eu]; exact e')) (fun h => h.elim c2 hvn)
                    rcases hp with hp | ⟨rfl, hp⟩
                    · exact old (.inl hp)
                    · rw [(b'.uniq gu).2]; exact hm2
                have em' : m = mkS (tl m) := (mkS_tl m).symm
                rw [em']
                refine ⟨_, _, _, _, rfl, bt.trans But.upd, upd_same, ⟨keys_put dn.keys v _, fun z hz => ?_⟩, nd_ite ndn, fun x hx => ?_, fun u' hu' x hx e => ?_, fun x hx e => ?_⟩
                · rw [valV_put]
                  by_cases c : z = v
                  · subst c; rw [if_pos rfl]; exact ⟨_, rfl, gm⟩
                  · rw [if_neg fun h => c (Sum.inr.inj h)]
                    have hz := (mem_ite.mp hz).resolve_right c
                    obtain ⟨y, e, g⟩ := dn.each z hz
                    exact ⟨y, e, stay z hz y (fun h _ => c h) g⟩
                · rcases mem_ite.mp hx with hx | rfl
                  · exact hns x hx
                  · exact ⟨hvm, c2⟩
                · exact (hcl u' hu' x hx e).imp id fun h => mem_ite.mpr (.inl h)
                · rw [ht] at hx
                  rcases List.mem_append.mp hx with hx | hx
                  · exact (hcj x hx e).imp id fun h => mem_ite.mpr (.inl h)
                  · exact .inr (mem_ite.mpr (.inr (List.mem_singleton.mp hx)))
            · rw [decide_eq_false c1]
              refine iteF ?_
              refine iteF ?_
              exact ⟨kvn, ns, _, _, rfl, bt, eD, dn.imp fun x hx y g => stay x hx y (fun _ e => c1 e) g, ndn, hns, hcl, skip fun h => absurd h c1⟩
          · subst eσ
            rw [List.length_map, List.take_length] at hcj dn
            have hty : ys.take (i + 1) = ys.take i ++ [u] := take_mem hu
            refine ⟨kvn, ns, _, _, _, rfl, bt, eD, dn.imp fun x hx y ⟨c1, c2⟩ => ⟨c1, fun u' yu' hp => c2 u' yu' ?_⟩, ndn, hns, fun u' hu' v hv e => ?_⟩
            · rw [hty] at hp
              rcases List.mem_append.mp hp with h | h
              · exact .inl h
              · exact .inr ⟨List.mem_singleton.mp h, (hns x hx).1⟩
            · rw [hty] at hu'
              rcases List.mem_append.mp hu' with h | h
              · exact hcl u' h v hv e
              · have := List.mem_singleton.mp h
                subst this
                exact hcj v hv e
        · subst eσ
          rw [List.length_map, List.take_length] at hcl dn
          have ed5 := bt.kept (s4 _ _ ed3) nDd.symm
          have few := fewN ns ndn fun x hx => (hns x hx).1
          have new : KD (Bst ws one (dd + 1)) kvn ns := dn.imp fun v hv y ⟨⟨u, yu, bu, e, ey⟩, c2⟩ => by
            rw [ey]
            refine lv.next bk.full (hns v hv).1 (hns v hv).2 bu e fun u' y' b' e' => ?_
            rw [← ey]
            exact c2 u' y' ((kl u').mpr (lsA u' y' b')) b' e'
          have dk1 : KD (fun x y => ∃ d', d' ≤ dd + 1 ∧ Bst ws one d' x y) kvs ks := dk.imp fun x _ y ⟨d', h, b'⟩ => ⟨d', by omega, b'⟩
          refine ⟨D, _, eD, trivial, fun od => ?_⟩
          refine ⟨_, rfl, D, od, rfl, .inl ⟨kvn, upd_same, ?_⟩⟩
          refine for_keys (fun i σ H' => ∃ (kvs' : List (Key × V)) (ks' : List Str) (o7 : Option V), σ = [some (.ref b), some (.str one), some (.str other), some (.ref d), some (.ref L), some (.ref D), p6, o7, p8] ∧ H' D = some (.frz od (.dK kvn)) ∧ H' d = some (.dK kvs') ∧ KD (fun x y => ∃ d', d' ≤ dd + 1 ∧ Bst ws one d' x y) kvs' ks' ∧ ks'.Nodup ∧ (∀ x, x ∈ ks' ↔ x ∈ ks ∨ x ∈ ns.take i) ∧ ∀ c o, H4 c = some o → c ≠ d → c ≠ D → H' c = some o)
            ⟨kvs, ks, _, rfl, upd_same, keep_ne ed5 nDd.symm, dk1, ndk, fun x => by rw [List.take_zero]; simp, fun c o e c1 c2 => keep_ne (bt.kept e c2) c2⟩ (fun _ _ _ ⟨_, _, _, _, e, _⟩ => e) (fun i kk vv σ H7 hi ⟨kvs', ks', o7, eσ, eD7, ed7, dk', nd', mem', oth⟩ => ?_) fun σ H7 ⟨kvs', ks', o7, eσ, eD7, ed7, dk', nd', mem', oth⟩ => ?_
          · subst eσ
            have hx : ns[i]? = some (match kk with | .inr x => x | _ => Str.empty) ∧ ∃ x, kk = Sum.inr x := by
              have e := congrArg (fun l : List Key => l[i]?) new.keys
              simp only [List.getElem?_map, hi] at e
              cases e2 : ns[i]? with
              | none => rw [e2] at e; cases e
              | some x =>
                rw [e2] at e
                have : kk = Sum.inr x := Option.some.inj e
                subst this
                exact ⟨rfl, x, rfl⟩
            obtain ⟨hx, x, rfl⟩ := hx
            obtain ⟨y, hy, gy⟩ := new.each x (List.mem_of_getElem? hx)
            have few' := fewN ks' nd' fun z hz => by
              rcases (mem' z).mp hz with h | h
              · exact ksw z h
              · exact (hns z (List.mem_of_mem_take h)).1
            refine ⟨_, rfl, _, rfl, D, V.str (mkS y), rfl, dget_of (.inr ⟨od, eD7⟩) hy, _, rfl, _, rfl, d, _, rfl, DPut.k (k := Sum.inr x) ed7 (by rw [dk'.len]; exact lt_line (by omega)), ?_⟩
            refine ⟨_, _, _, rfl, keep_ne eD7 nDd, upd_same, dk'.put ⟨dd + 1, Nat.le_refl _, gy⟩, nd_ite nd', fun z => ?_, fun c o e c1 c2 => keep_ne (oth c o e c1 c2) c1⟩
            rw [mem_ite, mem', take_mem hx, List.mem_append, List.mem_singleton]
            exact or_assoc
          · subst eσ
            rw [new.len, List.take_length] at mem'
            refine ⟨eD7, ?_⟩
            refine ⟨_, rfl, ?_⟩
            have ksw' : ∀ z ∈ ks', z ∈ ws := fun z hz => by
              rcases (mem' z).mp hz with h | h
              · exact ksw z h
              · exact (hns z h).1
            have few' := fewN ks' nd' ksw'
            have more : ks.length + ns.length ≤ ks'.length := by
              rw [← List.length_append]
              refine pig (ks ++ ns) ks' (List.nodup_append.mpr ⟨ndk, ndn, fun a ha b hb e => (hns b hb).2 (e ▸ ha)⟩) fun x hx => (mem' x).mpr (List.mem_append.mp hx)
            have lv' : Lv ws one (dd + 1) ks' := lv.grow (fun v hv => (mem' v).mpr (.inl hv)) (fun v hv => ((mem' v).mp hv).imp id fun h => let ⟨y, _, b'⟩ := new.each v h; ⟨y, b'⟩) fun u y v bu hv e => (mem' v).mpr (hcl u ((kl u).mpr (lsA u y bu)) v hv e)
            have d2' := dd2 hls
            refine ⟨_, ?_, D, kvs', kvn, ks', ns, dd + 1, _, _, _, _, rfl, nDd, keep_ne ed7 nDd.symm, upd_same, dk', new, lv', fun u y bu => ?_, nd', by omega, fun h => ?_, fun c o e => ?_, rfl⟩
            · rw [em, if_neg hls]
              by_cases c : ns = []
              · rw [if_pos c]; omega
              · have : 0 < ns.length := List.length_pos_iff.mpr c
                rw [if_neg c]; omega
            · obtain ⟨l, hl, nl, _⟩ := bu.way
              rcases (mem' u).mp (lv'.all l u hl (by omega)) with h | h
              · obtain ⟨d', y', hd, b'⟩ := lv.each u h
                have := (bu.uniq b').1
                omega
              · exact h
            · have : 0 < ns.length := List.length_pos_iff.mpr h
              omega
            · have c1 : c ≠ D := fun h => by rw [h, nD0] at e; cases e
              have c2 : c ≠ d := fun h => by rw [h, nd] at e; cases e
              exact keep_ne (oth c o (sm4 _ _ e) c2 c1) c1
end
end Tx

set_option Elab.async false
set_option linter.all false
set_option maxRecDepth 100000
set_option maxHeartbeats 1000000
namespace Tx
open PySem PySem.Spec PyProof.Rows L2 TL RZ
theorem ref_at {as : List Addr} {i : Nat} {y : V} (h : (as.map V.ref)[i]? = some y) : ∃ a, as[i]? = some a ∧ y = V.ref a := by
  rw [List.getElem?_map] at h
  cases e : as[i]? with
  | none => rw [e] at h; cases h
  | some z => rw [e] at h; exact ⟨z, rfl, (Option.some.inj h).symm⟩
section
variable {P : Program} {w : World} {K : PySem.W.Frag} {mg : Str → Option Value} {base : Heap}
abbrev st_law_pieces : Stmt := topS 30
theorem sc_law_pieces : FnScope ["book", "one", "found", "layer", "later", "steps", "window"] ["book", "one"] (defScope st_law_pieces) := ⟨rfl, rfl, rfl, by decide +kernel, rfl, by decide +kernel, by decide +kernel⟩
theorem pl_law_pieces : PlainB "_law_pieces" st_law_pieces ["book", "one"] := fun _ _ _ _ _ _ us hl => match us, hl with | [_, _], _ => rfl
/-- all ways from one window without a window twice -/
def spPcs : Sp := fun vs H Q _ => ∃ (b : Addr) (k : Nat) (ws : List Str) (one : Str), vs = [.ref b, .str one] ∧ BookAt H b k ws ∧ Book k ws ∧ ws.length ≤ 7 ∧ one ∈ ws ∧
  ∀ F fas fss H', Same H H' → H' F = some (.lst (fas.map V.ref)) → LLs H' fas fss → fss.length ≤ 1000000 → (∀ st ∈ fss, st.Nodup ∧ ∃ v, Wk ws one st v) → (∀ st v, Wk ws one st v → st.Nodup → st ∈ fss) → Q (.ref F) H'
theorem pow7 {n : Nat} (h : n ≤ 7) : 7 ^ n ≤ 823543 := Nat.le_trans (Nat.pow_le_pow_right (by decide) h) (by decide)
theorem ok_law_pieces (T : Top K mg "_law_pieces" st_law_pieces) (B : Bt mg) : Dn P w K mg base 1 "_law_pieces" st_law_pieces ["book", "one"] spPcs := by
  refine dn_of T sc_law_pieces pl_law_pieces (fun vs H Q E h => ?_) fun f cdv A outer s H vs Q E hr h => ?_
  · obtain ⟨a, b, _, _, rfl, _⟩ := h; rfl
  · obtain ⟨b, k, ws, one, rfl, ⟨t, eb, et⟩, bk, wl, ho, q⟩ := h
    have k2 := bk.n2
    have k6 := bk.n6
    refine ⟨_, (pss_cons (ps_par (i := 2) (j := 3) (by rfl) sc_law_pieces.nd rfl rfl (by decide) rfl rfl (pa_cons (pe_lst pa_nil) (pa_cons (pe_lst (pa_cons (pe_lst (pa_cons (pv 1) pa_nil)) pa_nil)) pa_nil)) (by rfl))
      (pss_cons (ps_while PassesOwn.never (pt_cmpR (neDK K rfl hr.units) (pv 3) (pe_lst pa_nil) (nomark _)) (pss_cons (ps_set (i := 2) sc_law_pieces.nd rfl (.inl rfl) (pe_op op_cat (pv 2) (pv 3)))
      (pss_cons (ps_set (i := 4) sc_law_pieces.nd rfl (.inl rfl) (pe_lst pa_nil))
      (pss_cons (ps_for PassesOwn.never rfl (pi_list (pv 3)) (pg_name (i := 5) sc_law_pieces.nd rfl (.inl rfl)) (pss_one (ps_for PassesOwn.never rfl (pi_tup (pe_ix (ixTK K rfl) (pv 0) pe_int (fun _ _ => rfl))) (pg_name (i := 6) sc_law_pieces.nd rfl (.inl rfl)) (pss_one (ps_if (PW.pt (pw_and (pt_cmpR op_eq (pe_slice sl_str (pv 6) po_none (po_some (pe_un un_neg pe_int))) (pe_slice sl_str (pe_ix (ixK K rfl) (pv 5) (pe_un un_neg pe_int) (fun _ _ => rfl)) (po_some pe_int) po_none) (nomark _)) (pw_and1 (pt_cmpR (notInK K rfl) (pv 6) (pv 5) (by rfl))))) (pss_one (ps_expr (pe_bm PySem.F.plainAttrs_list PySem.F.slot_list_append PySem.F.type_list_append mt_append (pv 4) (pa_cons (pe_op op_cat (pv 5) (pe_lst (pa_cons (pv 6) pa_nil))) pa_nil)))) pss_nil)))))
      (pss_one (ps_set (i := 3) sc_law_pieces.nd rfl (.inl rfl) (pv 4)))))))
      (pss_one (ps_ret (pv 2))))), ?_⟩
    refine ⟨by show 0 ≤ sizeLine; decide, fun F0 nF0 => ⟨_, rfl, by show 1 ≤ sizeLine; decide, fun u nu => ⟨by show 1 ≤ sizeLine; decide, fun L0 nL0 => ⟨_, _, rfl, ?_⟩⟩⟩⟩
    have s0 : Same H (upd (upd (upd H F0 (.lst [])) u (.lst [V.str one])) L0 (.lst [V.ref u])) := ((same_upd nF0).trans (same_upd nu)).trans (same_upd nL0)
    have eF0 : (upd (upd (upd H F0 (.lst [])) u (.lst [V.str one])) L0 (.lst [V.ref u])) F0 = some (.lst (([] : List Addr).map V.ref)) := (same_upd nL0) _ _ ((same_upd nu) _ _ upd_same)
    have eu0 : (upd (upd (upd H F0 (.lst [])) u (.lst [V.str one])) L0 (.lst [V.ref u])) u = some (.lst ([one].map V.str)) := (same_upd nL0) _ _ upd_same
    have eL0 : (upd (upd (upd H F0 (.lst [])) u (.lst [V.str one])) L0 (.lst [V.ref u])) L0 = some (.lst ([u].map V.ref)) := upd_same
    generalize upd (upd (upd H F0 (.lst [])) u (.lst [V.str one])) L0 (.lst [V.ref u]) = H1 at s0 eF0 eu0 eL0 ⊢
    refine ⟨fun m σ H' => ∃ (F L : Addr) (fas las : List Addr) (fss lss : List (List Str)) (n : Nat) (o4 o5 o6 : Option V), σ = [some (.ref b), some (.str one), some (.ref F), some (.ref L), o4, o5, o6] ∧ Same H H' ∧ H' F = some (.lst (fas.map V.ref)) ∧ LLs H' fas fss ∧ H' L = some (.lst (las.map V.ref)) ∧ LLs H' las lss ∧
        Fdn ws one n fss ∧ Lay ws one n lss ∧ fss.length ≤ 7 ^ n ∧ lss.length ≤ 7 ^ n ∧ n ≤ 7 ∧ m = 8 - n,
      ⟨_, F0, L0, [], [u], [], [[one]], 0, none, none, none, rfl, s0, eF0, trivial, eL0, ⟨eu0, trivial⟩, .start, .start, Nat.zero_le _, Nat.le_refl 1, Nat.zero_le _, rfl⟩, fun m σ H' ⟨F, L, fas, las, fss, lss, n, o4, o5, o6, eσ, sm, eF, lf, eL, ll, fd, ly, fn, ln, n7, em⟩ => ?_⟩
    subst eσ
    have lw : ∀ xs ∈ lss, ∀ z ∈ xs, Low z := fun xs hx z hz => by
      obtain ⟨_, _, v, hv⟩ := ly.each xs hx
      exact (bk.each z (hv.all ho z hz)).1
    have p7 := pow7 n7
    refine ⟨_, rfl, by show 0 ≤ sizeLine; decide, fun l nl => ⟨.list (lldata lss), .list [], .lst (.inl (.inl ((same_upd nl) _ _ eL))) (dp_lls (ll.same (same_upd nl))), .lst (.inl (.inl upd_same)) .nil, shaped_lls lw, by decide, _, rfl, ?_⟩⟩
    have sl : Same H' (upd H' l (.lst [])) := same_upd nl
    generalize upd H' l (.lst []) = H2 at sl ⊢
    have sm2 := sm.trans sl
    have eF2 := sl _ _ eF
    have eL2 := sl _ _ eL
    have lf2 := lf.same sl
    have ll2 := ll.same sl
    rw [eqv_lls0]
    by_cases c : lss = []
    · rw [decide_eq_true c]
      refine iteF ?_
      subst c
      exact ⟨_, rfl, q F fas fss H2 sm2 eF2 lf2 (by omega) fd.each fun st v h nd => Lay.done fd ly st v h nd⟩
    · rw [decide_eq_false c]
      refine iteT ⟨_, fun _ _ h => h, ?_⟩
      have n6 : n ≤ 6 := by
        obtain ⟨st, hst⟩ := List.exists_mem_of_ne_nil lss c
        obtain ⟨nd, ls, v, hv⟩ := ly.each st hst
        have := pig st ws nd (hv.all ho)
        omega
      refine ⟨_, rfl, _, rfl, F, L, _, _, rfl, rfl, eF2, eL2, by rw [List.length_map, List.length_map, lf.len, ll.len]; exact Nat.le_trans (show _ ≤ 2000000 by omega) (by decide), fun G nG => ?_⟩
      rw [← List.map_append]
      have sG : Same H2 (upd H2 G (.lst ((fas ++ las).map V.ref))) := same_upd nG
      have eG : (upd H2 G (.lst ((fas ++ las).map V.ref))) G = some (.lst ((fas ++ las).map V.ref)) := upd_same
      generalize upd H2 G (.lst ((fas ++ las).map V.ref)) = H3 at sG eG ⊢
      refine ⟨by show 0 ≤ sizeLine; decide, fun T0 nT => ?_⟩
      have sm3 : Same H H3 := sm2.trans sG
      have nT0 := sm3.free nT
      have eL3 := sG _ _ eL2
      have ll3 := ll2.same sG
      refine ⟨_, rfl, L, rfl, ⟨_, .inl (.inl ((same_upd nT) _ _ eL3))⟩, ?_⟩
      refine for_list (K := K) (a := L) (xs := las.map V.ref) (fun i σ H' => ∃ (tas : List Addr) (tss : List (List Str)) (o5 o6 : Option V), σ = [some (.ref b), some (.str one), some (.ref G), some (.ref L), some (.ref T0), o5, o6] ∧ Same H3 H' ∧ H' T0 = some (.lst (tas.map V.ref)) ∧ LLs H' tas tss ∧ (∀ a ∈ tas, a ≠ T0) ∧ tss.length ≤ i * 7 ∧
          (∀ st ∈ tss, ∃ m u v, st = m ++ [v] ∧ m ∈ lss ∧ m.getLast? = some u ∧ v ∈ ws ∧ iniS v = taiS u ∧ v ∉ m) ∧ ∀ m ∈ lss.take i, ∀ u v, m.getLast? = some u → v ∈ ws → iniS v = taiS u → v ∉ m → m ++ [v] ∈ tss)
        ⟨[], [], _, _, rfl, same_upd nT, upd_same, trivial, (fun _ h => by cases h), Nat.zero_le _, (fun _ h => by cases h), fun m h => by rw [List.take_zero] at h; cases h⟩ (fun _ _ _ _ ⟨_, _, _, _, _, h, _⟩ => .inl (.inl (h _ _ eL3))) (fun i y σ H4 hi ⟨tas, tss, o5, o6, eσ, s4, eT, lt4, nT4, tl4, t1, t2⟩ => ?_) fun σ H4 ⟨tas, tss, o5, o6, eσ, s4, eT, lt4, nT4, tl4, t1, t2⟩ => ?_
      · subst eσ
        obtain ⟨sa, hsa, rfl⟩ := ref_at hi
        obtain ⟨st, hst, est⟩ := ll3.at' hsa
        have hstm := List.mem_of_getElem? hst
        obtain ⟨ndst, lst, lv, wst⟩ := ly.each st hstm
        have il : i < lss.length := (List.getElem?_eq_some_iff.mp hst).1
        have lvw : lv ∈ ws := wst.inn ho
        obtain ⟨_, lvl⟩ := bk.each lv lvw
        have eb4 := s4 _ _ (sm3 _ _ eb)
        have et4 := s4 _ _ (sm3 _ _ et)
        refine ⟨_, rfl, b, _, _, _, rfl, rfl, .inl (.inl eb4), rfl, t, rfl, ⟨_, .inl (.inl et4)⟩, ?_⟩
        refine for_tup (K := K) (a := t) (xs := ws.map V.str) (fun j σ H' => ∃ (tas : List Addr) (tss : List (List Str)) (o6 : Option V), σ = [some (.ref b), some (.str one), some (.ref G), some (.ref L), some (.ref T0), some (.ref sa), o6] ∧ Same H3 H' ∧ H' T0 = some (.lst (tas.map V.ref)) ∧ LLs H' tas tss ∧ (∀ a ∈ tas, a ≠ T0) ∧ tss.length ≤ i * 7 + j ∧
            (∀ st ∈ tss, ∃ m u v, st = m ++ [v] ∧ m ∈ lss ∧ m.getLast? = some u ∧ v ∈ ws ∧ iniS v = taiS u ∧ v ∉ m) ∧ (∀ m ∈ lss.take i, ∀ u v, m.getLast? = some u → v ∈ ws → iniS v = taiS u → v ∉ m → m ++ [v] ∈ tss) ∧ ∀ v ∈ ws.take j, iniS v = taiS lv → v ∉ st → st ++ [v] ∈ tss)
          ⟨tas, tss, _, rfl, s4, eT, lt4, nT4, by omega, t1, t2, fun v h => by rw [List.take_zero] at h; cases h⟩ (fun _ _ _ _ ⟨_, _, _, _, h, _⟩ => .inl (.inl (h _ _ (sm3 _ _ et)))) (fun j y σ H5 hj ⟨tas, tss, o6, eσ, s5, eT, lt5, nT5, tl5, t1, t2, t3⟩ => ?_) fun σ H5 ⟨tas, tss, o6, eσ, s5, eT, lt5, nT5, tl5, t1, t2, t3⟩ => ?_
        · subst eσ
          obtain ⟨v, hv, rfl⟩ := str_at hj
          have hvm := List.mem_of_getElem? hv
          obtain ⟨_, vl⟩ := bk.each v hvm
          have jl := (List.getElem?_eq_some_iff.mp hv).1
          have ht : ws.take (j + 1) = ws.take j ++ [v] := take_mem hv
          have est5 := s5 _ _ est
          have skip : (iniS v = taiS lv → v ∉ st → False) → ∀ x ∈ ws.take (j + 1), iniS x = taiS lv → x ∉ st → st ++ [x] ∈ tss := fun h x hx e n => by
            rw [ht] at hx
            rcases List.mem_append.mp hx with hx | hx
            · exact t3 x hx e n
            · rw [List.mem_singleton.mp hx] at e n; exact (h e n).elim
          refine ⟨_, rfl, _, rfl, _, rfl, v, rfl, big (by omega), ?_⟩
          rw [ini_eq' (by omega)]
          refine ⟨_, rfl, _, rfl, sa, _, _, .str lv, rfl, rfl, .inl (.inl est5), atI_end (last_map wst.last), _, rfl, lv, rfl, big (by omega), ?_⟩
          rw [tai_eq' (by omega)]
          refine ⟨rfl, _, rfl, ?_⟩
          rw [str_ne]
          by_cases c1 : iniS v = taiS lv
          · rw [decide_eq_true c1]
            refine iteT ?_
            refine ⟨_, rfl, _, rfl, sa, _, rfl, .inl (.inl (.inl est5)), rfl, flat_strs st, _, rfl, ?_⟩
            dsimp only
            rw [in_dec]
            by_cases c2 : v ∈ st
            · rw [decide_eq_true c2]
              refine iteF ?_
              exact ⟨tas, tss, _, rfl, s5, eT, lt5, nT5, by omega, t1, t2, skip fun _ h => h c2⟩
            · rw [decide_eq_false c2]
              refine iteT ?_
              have tlen : tas.length = tss.length := lt5.len
              have lnn : lss.length ≤ 823543 := by omega
              refine ⟨_, rfl, .inl ⟨rfl, _, .inl (.inl eT)⟩, _, rfl, _, rfl, by show 1 ≤ sizeLine; decide, fun g1 ng1 => ⟨sa, g1, _, _, rfl, rfl, (same_upd ng1) _ _ est5, upd_same, by rw [List.length_map]; exact big (show st.length + 1 ≤ 3000 by omega), fun g2 ng2 => ?_⟩⟩
              have sg : Same H5 (upd (upd H5 g1 (.lst [V.str v])) g2 (.lst (st.map V.str ++ [V.str v]))) := (same_upd ng1).trans (same_upd ng2)
              have eg2 : (upd (upd H5 g1 (.lst [V.str v])) g2 (.lst (st.map V.str ++ [V.str v]))) g2 = some (.lst ((st ++ [v]).map V.str)) := by rw [upd_same, List.map_append]; rfl
              have eT1 : (upd H5 g1 (.lst [V.str v])) T0 = some (.lst (tas.map V.ref)) := (same_upd ng1) _ _ eT
              have ng2T : g2 ≠ T0 := (ne_of_none eT1 ng2).symm
              generalize upd (upd H5 g1 (.lst [V.str v])) g2 (.lst (st.map V.str ++ [V.str v])) = H6 at sg eg2 ⊢
              have eT6 := sg _ _ eT
              refine ⟨T0, _, _, rfl, rfl, eT6, by rw [List.length_map]; exact Nat.lt_of_le_of_lt (show _ ≤ 8000000 by omega) (by decide), ?_⟩
              refine ⟨tas ++ [g2], tss ++ [st ++ [v]], _, rfl, wr (s5.trans sg) nT, by rw [upd_same, List.map_append]; rfl, ?_, fun a ha => ?_, by rw [List.length_append]; show _ + 1 ≤ _; omega, fun x hx => ?_, fun m hm u x lu hx e n => List.mem_append_left _ (t2 m hm u x lu hx e n), fun x hx e n => ?_⟩
              · exact ((lt5.same sg).snoc eg2).keep fun a ha => by
                  rcases List.mem_append.mp ha with ha | ha
                  · exact nT5 a ha
                  · rw [List.mem_singleton.mp ha]; exact ng2T
              · rcases List.mem_append.mp ha with ha | ha
                · exact nT5 a ha
                · rw [List.mem_singleton.mp ha]; exact ng2T
              · rcases List.mem_append.mp hx with hx | hx
                · exact t1 x hx
                · exact ⟨st, lv, v, List.mem_singleton.mp hx, hstm, wst.last, hvm, c1, c2⟩
              · rw [ht] at hx
                rcases List.mem_append.mp hx with hx | hx
                · exact List.mem_append_left _ (t3 x hx e n)
                · rw [List.mem_singleton.mp hx]; exact List.mem_append_right _ (List.mem_singleton.mpr rfl)
          · rw [decide_eq_false c1]
            refine iteF ?_
            refine iteF ?_
            exact ⟨tas, tss, _, rfl, s5, eT, lt5, nT5, by omega, t1, t2, skip fun h _ => c1 h⟩
        · subst eσ
          rw [List.length_map, List.take_length] at t3
          rw [List.length_map] at tl5
          refine ⟨tas, tss, _, _, rfl, s5, eT, lt5, nT5, by omega, t1, fun m hm u v lu hv e n => ?_⟩
          rw [take_mem' hst] at hm
          rcases List.mem_append.mp hm with hm | hm
          · exact t2 m hm u v lu hv e n
          · have := List.mem_singleton.mp hm
            subst this
            have : u = lv := Option.some.inj (lu.symm.trans wst.last)
            subst this
            exact t3 v hv e n
      · subst eσ
        rw [List.length_map, ll.len, List.take_length] at t2
        rw [List.length_map, ll.len] at tl4
        have pw : 7 ^ (n + 1) = 7 ^ n * 7 := Nat.pow_succ ..
        refine ⟨_, rfl, ?_⟩
        refine ⟨8 - (n + 1), by omega, G, T0, fas ++ las, tas, fss ++ lss, tss, n + 1, _, _, _, rfl, sm3.trans s4, s4 _ _ eG, ((LLs.app ll2 lf2).same sG).same s4, eT, lt4, fd.more ly, ly.next t1 t2, ?_, ?_, by omega, rfl⟩
        · rw [List.length_append]; omega
        · omega
where take_mem' {α : Type} {xs : List α} {i : Nat} {x : α} (h : xs[i]? = some x) : xs.take (i + 1) = xs.take i ++ [x] := by rw [List.take_add_one, h]; rfl
end
end Tx

set_option Elab.async false
set_option linter.all false
set_option maxRecDepth 100000
set_option maxHeartbeats 1000000
namespace Tx
open PySem PySem.Spec PyProof.Rows L2 TL RZ
theorem PairsAt.keep {H : Hp} {t : Addr} {o : HO} : ∀ {as : List Addr} {ps : List (Nat × Str)}, PairsAt H as ps → (∀ a ∈ as, a ≠ t) → PairsAt (upd H t o) as ps
  | [], [], _, _ => trivial
  | a :: _, _ :: _, ⟨e, r⟩, n => ⟨by rw [upd_ne (n a (List.mem_cons_self ..))]; exact e, PairsAt.keep r fun b hb => n b (List.mem_cons_of_mem _ hb)⟩
section
variable {P : Program} {w : World} {K : PySem.W.Frag} {mg : Str → Option Value} {base : Heap}
abbrev st_law_first : Stmt := topS 31
theorem sc_law_first : FnScope ["pieces", "other", "texts", "steps", "text", "step"] ["pieces", "other"] (defScope st_law_first) := ⟨rfl, rfl, rfl, by decide +kernel, rfl, by decide +kernel, by decide +kernel⟩
theorem pl_law_first : PlainB "_law_first" st_law_first ["pieces", "other"] := fun _ _ _ _ _ _ us hl => match us, hl with | [_, _], _ => rfl
def spFirst : Sp := fun vs H Q _ => ∃ (k : Nat) (ws : List Str) (one other : Str) (F : Addr) (fas : List Addr) (fss : List (List Str)), vs = [.ref F, .str other] ∧ Book k ws ∧ ws.length ≤ 7 ∧ one ∈ ws ∧ H F = some (.lst (fas.map V.ref)) ∧ LLs H fas fss ∧ fss.length ≤ 1000000 ∧
  (∀ st ∈ fss, st.Nodup ∧ ∃ v, Wk ws one st v) ∧ (∀ st v, Wk ws one st v → st.Nodup → st ∈ fss) ∧ ∀ r H', Same H H' → RoadR ws one other r → Fine r → Q r H'
theorem ok_law_first (T : Top K mg "_law_first" st_law_first) (B : Bt mg) : Dn P w K mg base 1 "_law_first" st_law_first ["pieces", "other"] spFirst := by
  refine dn_of T sc_law_first pl_law_first (fun vs H Q E h => ?_) fun f cdv A outer s H vs Q E hr h => ?_
  · obtain ⟨_, _, _, _, a, _, _, rfl, _⟩ := h; rfl
  · obtain ⟨k, ws, one, other, F, fas, fss, rfl, bk, wl, ho, eF, lf, fl, f1, f2, q⟩ := h
    have k2 := bk.n2
    have k6 := bk.n6
    have l1 := (bk.each one ho).2
    have txl : ∀ st ∈ fss, (txt st).length ≤ 12 := fun st hst => by
      obtain ⟨nd, v, hv⟩ := f1 st hst
      have := hv.len bk.full
      have := pig st ws nd (hv.all ho)
      omega
    have lowt : ∀ st ∈ fss, Low (mkS (txt st)) := fun st hst => by
      obtain ⟨_, v, hv⟩ := f1 st hst
      exact txt_low fun x hx => (bk.each x (hv.all ho x hx)).1
    refine ⟨_, (pss_cons (ps_setLc (i := 2) (own := [("steps", 3)]) (g := gName 3) rfl sc_law_first.nd rfl rfl (sw_true rfl rfl rfl (by decide +kernel)) (pi_list (pv 0)) (blkOk_by (N := ["pieces", "other", "texts", "steps", "text", "step"]) (sc := defScope st_law_first) (by decide +kernel)) (fun _ _ _ _ _ => (pg_name (i := 3) sc_law_first.nd rfl (.inl rfl))) (fun _ _ _ _ _ => (pts_one (pt_cmpR op_eq (pe_ix (ixK K rfl) (pv 3) (pe_un un_neg pe_int) (fun _ _ => rfl)) (pv 1) (nomark _)))) (fun _ _ _ _ _ => (pe_op op_add_str (pe_ix (ixK K rfl) (pv 3) pe_int (fun _ _ => rfl)) (joinK K rfl pe_str (pe_lc (own := [("step", 5)]) (g := gName 5) rfl sc_law_first.nd (pi_listK K rfl (pe_slice (slK K rfl) (pv 3) (po_some pe_int) po_none)) (blkOk_by (N := ["pieces", "other", "texts", "steps", "text", "step"]) (sc := { kind := .function, names := [(".0", .local), ("steps", .local), ("other", .cell)], isGenerator := false, isCoroutine := false }) (by decide +kernel)) (fun _ _ _ _ _ => (pg_name (i := 5) sc_law_first.nd rfl (.inl rfl))) (fun _ _ _ _ _ => pts_nil) (fun _ _ _ _ _ => (pe_ix ix_str (pv 5) (pe_un un_neg pe_int) (fun _ _ => rfl))))))))
      (pss_cons (ps_if (pt_cmpR (eqDK K rfl hr.units) (pv 2) (pe_lst pa_nil) (nomark _)) (pss_one (ps_ret pe_non)) pss_nil)
      (pss_one (ps_ret (pe_ix (ixTK K rfl) (pe_callB (minPK K rfl rfl hr.units) (by rfl) B.min (by decide +kernel) (pa_cons (pe_lc (own := [("text", 4)]) (g := gName 4) rfl sc_law_first.nd (pi_list (pv 2)) (blkOk_by (N := ["pieces", "other", "texts", "steps", "text", "step"]) (sc := defScope st_law_first) (by decide +kernel)) (fun _ _ _ _ _ => (pg_name (i := 4) sc_law_first.nd rfl (.inl rfl))) (fun _ _ _ _ _ => pts_nil) (fun _ _ _ _ _ => (pe_tup (pa_cons (pe_callB call_len_str (by rfl) B.len (by decide +kernel) (pa_cons (pv 4) pa_nil)) (pa_cons (pv 4) pa_nil))))) pa_nil)) pe_int (fun _ _ => rfl)))))), ?_⟩
    refine ⟨_, rfl, F, rfl, ⟨_, .inl (.inl eF)⟩, fun D hD => ?_⟩
    refine lc_list (a := F) (xs := fas.map V.ref) (fun i H' => Same H H' ∧ ∃ zs : List Str, H' D = some (.lst (zs.map V.str)) ∧ zs.length ≤ i ∧ (∀ z ∈ zs, ∃ st ∈ fss, st.getLast? = some other ∧ z = mkS (txt st)) ∧ ∀ st ∈ fss.take i, st.getLast? = some other → mkS (txt st) ∈ zs)
      ⟨same_upd hD, [], upd_same, Nat.zero_le _, (fun _ h => by cases h), fun _ h => by rw [List.take_zero] at h; cases h⟩ (fun i H' _ h => .inl (.inl (h.1 _ _ eF))) (fun i y H' hi ⟨sm, zs, e, zl, z1, z2⟩ => ?_) fun H1 ⟨s1, zs, e1, zl, z1, z2⟩ => ?_
    · obtain ⟨sa, hsa, rfl⟩ := ref_at hi
      obtain ⟨st, hst, est⟩ := lf.at' hsa
      have hstm := List.mem_of_getElem? hst
      have il := (List.getElem?_eq_some_iff.mp hst).1
      obtain ⟨nd, lv, wst⟩ := f1 st hstm
      have est' := sm _ _ est
      have slen := pig st ws nd (wst.all ho)
      have spos := wst.pos
      have ht : fss.take (i + 1) = fss.take i ++ [st] := ok_law_pieces.take_mem' hst
      refine ⟨rfl, ?_⟩
      refine ⟨_, rfl, _, rfl, sa, _, _, .str lv, rfl, rfl, .inl (.inl est'), atI_end (last_map wst.last), _, rfl, rfl, _, rfl, ?_⟩
      rw [str_ne]
      by_cases c : lv = other
      · subst c
        rw [decide_eq_true rfl]
        refine iteT ?_
        obtain ⟨x0, xr, exs⟩ : ∃ x0 xr, st = x0 :: xr := by
          cases st with
          | nil => exact absurd spos (by decide)
          | cons a r => exact ⟨a, r, rfl⟩
        refine ⟨_, rfl, sa, _, 0, .str x0, rfl, rfl, .inl (.inl est'), atI_pos (by decide) (by rw [exs]; rfl), ?_⟩
        refine ⟨⟨_, rfl⟩, _, rfl, _, rfl, sa, _, rfl, .inl (.inl est'), fun g ng => ?_⟩
        rw [cutV_tail, ← List.map_drop]
        refine ⟨g, rfl, ⟨_, .inl (.inl upd_same)⟩, fun D2 hD2 => ?_⟩
        have er : st.drop 1 = xr := by rw [exs]; rfl
        rw [er] at hD2 ⊢
        have eg : (upd H' g (.lst (xr.map V.str))) g = some (.lst (xr.map V.str)) := upd_same
        have sg : Same H' (upd H' g (.lst (xr.map V.str))) := same_upd ng
        generalize upd H' g (.lst (xr.map V.str)) = H2 at eg sg hD2 ⊢
        have hx : ∀ v ∈ st, 1 ≤ v.length ∧ v.length ≤ 6 := fun v hv => by
          have := (bk.each v (wst.all ho v hv)).2
          omega
        have lr : xr.length ≤ 7 := by rw [exs, List.length_cons] at slen; omega
        refine lc_list (a := g) (xs := xr.map V.str) (fun i H' => Same H2 H' ∧ H' D2 = some (.lst (((xr.take i).map fun v => mkS (lasL v)).map V.str))) ⟨same_upd hD2, upd_same⟩ (fun i H' _ h => .inl (.inl (h.1 _ _ eg))) (fun i y H' hi ⟨sm, e⟩ => ?_) fun H4 ⟨s4, e4⟩ => ?_
        · obtain ⟨v, hv, rfl⟩ := str_at hi
          obtain ⟨v1, v6⟩ := hx v (by rw [exs]; exact List.mem_cons_of_mem _ (List.mem_of_getElem? hv))
          have il := (List.getElem?_eq_some_iff.mp hv).1
          have ltv : v.length - 1 < (tl v).length := by rw [← len_tl]; omega
          have hc : (tl v)[v.length - 1]? = some (tl v)[v.length - 1] := List.getElem?_eq_getElem ltv
          refine ⟨rfl, lc_yes ?_⟩
          refine ⟨_, rfl, _, rfl, v, _, _, rfl, rfl, big (by omega), atI_last hc (by omega), _, e, by rw [List.length_map, List.length_map, List.length_take]; exact lt_line (by omega), wr sm hD2, ?_⟩
          rw [upd_same, take_mem hv, List.map_append, List.map_append]
          show some (HO.lst (_ ++ [V.str (mkS [_])])) = some (HO.lst (_ ++ [V.str (mkS (lasL v))]))
          rw [las_one v1 hc]
        · rw [List.length_map, List.take_length] at e4
          have one' : ∀ y ∈ xr.map fun v => mkS (lasL v), y.length = 1 := fun y hy => by
            obtain ⟨v, hv, rfl⟩ := List.mem_map.mp hy
            rw [len_mkS]
            exact las_len (hx v (by rw [exs]; exact List.mem_cons_of_mem _ hv)).1
          have sum : (((xr.map fun v => mkS (lasL v)).map (·.length)).sum) = xr.length := by
            rw [show ((xr.map fun v => mkS (lasL v)).map (·.length)) = List.replicate xr.length 1 from List.eq_replicate_iff.mpr ⟨by simp, fun b hb => by
              obtain ⟨y, hy, rfl⟩ := List.mem_map.mp hb
              exact one' y hy⟩]
            simp
          have ej : Txt.join (Str.ofString "") (xr.map fun v => mkS (lasL v)) = mkS (xr.map lasL).flatten := by
            rw [join_e, List.map_map]; rfl
          have x06 := (hx x0 (by rw [exs]; exact List.mem_cons_self ..)).2
          refine ⟨Str.ofString "", D2, xr.map fun v => mkS (lasL v), rfl, rfl, .inl (.inl (.inl e4)), ?_, ?_⟩
          · rw [sum, str_e]; show xr.length + _ * 0 ≤ _; omega
          · rw [ej]
            have lj : (mkS (xr.map lasL).flatten).length = xr.length := by
              rw [len_mkS, List.length_flatten, ← sum, List.map_map, List.map_map]; rfl
            refine ⟨_, _, rfl, rfl, by rw [lj]; exact big (show _ ≤ 3000 by omega), ?_⟩
            have et : x0 ++ mkS (xr.map lasL).flatten = mkS (txt st) := by
              refine ext_tl ?_
              rw [tl_append, exs]; rfl
            rw [et]
            have s5 : Same H' H4 := sg.trans s4
            refine ⟨_, s5 _ _ e, by rw [List.length_map]; exact Nat.lt_of_le_of_lt (show _ ≤ 2000000 by omega) (by decide), wr (sm.trans s5) hD, zs ++ [mkS (txt st)], by rw [upd_same, List.map_append]; rfl, by rw [List.length_append]; exact Nat.add_le_add_right zl 1, fun z hz => ?_, fun x hx e => ?_⟩
            · rcases List.mem_append.mp hz with hz | hz
              · exact z1 z hz
              · exact ⟨st, hstm, wst.last, List.mem_singleton.mp hz⟩
            · rw [ht] at hx
              rcases List.mem_append.mp hx with hx | hx
              · exact List.mem_append_left _ (z2 x hx e)
              · rw [List.mem_singleton.mp hx]; exact List.mem_append_right _ (List.mem_singleton.mpr rfl)
      · rw [decide_eq_false c]
        refine iteF ?_
        refine ⟨sm, zs, e, by omega, z1, fun x hx e => ?_⟩
        rw [ht] at hx
        rcases List.mem_append.mp hx with hx | hx
        · exact z2 x hx e
        · rw [List.mem_singleton.mp hx, wst.last] at e
          exact absurd (Option.some.inj e) c
    · rw [List.length_map, lf.len, List.take_length] at z2
      rw [List.length_map, lf.len] at zl
      have lz : ∀ z ∈ zs, Low z := fun z hz => by
        obtain ⟨st, hst, _, rfl⟩ := z1 z hz
        exact lowt st hst
      refine ⟨_, rfl, by show 0 ≤ sizeLine; decide, fun l nl => ⟨.list (zs.map PyData.str), .list [], dp_strs ((same_upd nl) _ _ e1), .lst (.inl (.inl upd_same)) .nil, shaped_strs lz, by decide, _, rfl, ?_⟩⟩
      have sl := s1.trans (same_upd (o := .lst []) nl)
      have e2 := (same_upd (o := .lst []) nl) _ _ e1
      generalize upd H1 l (.lst []) = H2 at sl e2 ⊢
      rw [show PyData.eqv (.list (zs.map PyData.str)) (.list []) = decide (zs = []) from eqv_strs zs []]
      by_cases c : zs = []
      · rw [decide_eq_true c]
        refine iteT ?_
        refine q _ H2 sl (.inr ⟨rfl, fun l hl => ?_⟩) (.inl rfl)
        obtain ⟨m, hm, sm⟩ := Wk.least l.length l (Nat.le_refl _) hl
        have := z2 m (f2 m other hm (hm.simple sm)) hm.last
        rw [c] at this
        cases this
      · rw [decide_eq_false c]
        refine iteF ?_
        refine ⟨_, rfl, D, rfl, ⟨_, .inl (.inl e2)⟩, fun E0 hE => ?_⟩
        refine lc_list (a := D) (xs := zs.map V.str) (fun i H' => Same H2 H' ∧ ∃ as : List Addr, H' E0 = some (.lst (as.map V.ref)) ∧ PairsAt H' as ((zs.take i).map fun z => (z.length, z)) ∧ ∀ a ∈ as, a ≠ E0)
          ⟨same_upd hE, [], upd_same, trivial, fun _ h => by cases h⟩ (fun i H' _ h => .inl (.inl (h.1 _ _ e2))) (fun i y H' hi ⟨sm, as, e, pa, na⟩ => ?_) fun H3 ⟨s3, as, e3, pa, na⟩ => ?_
        · obtain ⟨z, hz, rfl⟩ := str_at hi
          obtain ⟨st, hst, _, ez⟩ := z1 z (List.mem_of_getElem? hz)
          have zlen : z.length ≤ 12 := by rw [ez, len_mkS]; exact txl st hst
          have il := (List.getElem?_eq_some_iff.mp hz).1
          refine ⟨rfl, lc_yes ?_⟩
          refine ⟨_, rfl, z, rfl, big (by omega), _, rfl, by show 2 ≤ sizeLine; decide, fun p np => ?_⟩
          have npE : p ≠ E0 := (ne_of_none e np).symm
          have lp := pa.at'.1
          rw [List.length_map, List.length_take] at lp
          refine ⟨_, (same_upd np) _ _ e, by rw [List.length_map]; exact Nat.lt_of_le_of_lt (show _ ≤ 2000000 by omega) (by decide), wr (sm.trans (same_upd np)) hE, as ++ [p], by rw [upd_same, List.map_append]; rfl, ?_, fun a ha => ?_⟩
          · rw [take_mem hz, List.map_append]
            refine PairsAt.keep (((pa.same (same_upd np)).snoc (p := (z.length, z)) upd_same)) fun a ha => ?_
            rcases List.mem_append.mp ha with ha | ha
            · exact na a ha
            · rw [List.mem_singleton.mp ha]; exact npE
          · rcases List.mem_append.mp ha with ha | ha
            · exact na a ha
            · rw [List.mem_singleton.mp ha]; exact npE
        · rw [List.length_map, List.take_length] at pa
          refine ⟨E0, as, _, rfl, .inl (.inl e3), pa, by rw [List.length_map]; exact List.length_pos_iff.mpr c, fun a p hp ea hmin => ?_⟩
          obtain ⟨z, hz, rfl⟩ := List.mem_map.mp hp
          obtain ⟨st, hst, ls, ez⟩ := z1 z hz
          refine ⟨a, _, 1, .str z, rfl, rfl, .inl (.inl ea), rfl, ?_⟩
          have lenz : ∀ st, (mkS (txt st)).length = (txt st).length := fun st => len_mkS _
          obtain ⟨d, bs, _⟩ := first_of bk.full (fun st h => (f1 st h).2) f2 hst ls fun s' hs' l' => by
            have := hmin _ (List.mem_map.mpr ⟨_, z2 s' hs' l', rfl⟩)
            rw [ez] at this
            simp only [lenz] at this
            exact this
          rw [ez]
          exact q _ H3 (sl.trans s3) (.inl ⟨d, _, rfl, bs⟩) (.inr ⟨_, rfl, lowt st hst, by rw [len_mkS]; have := txl st hst; omega⟩)
abbrev st_law_small_right : Stmt := topS 32
theorem sc_law_small_right : FnScope ["book", "one", "pieces", "other", "due"] ["book"] (defScope st_law_small_right) := ⟨rfl, rfl, rfl, by decide +kernel, rfl, by decide +kernel, by decide +kernel⟩
theorem pl_law_small_right : PlainB "_law_small_right" st_law_small_right ["book"] := fun _ _ _ _ _ _ us hl => match us, hl with | [_], _ => rfl
theorem RoadR.simp {ws : List Str} {one other : Str} {r : V} (h : RoadR ws one other r) : Simp r := by
  rcases h with ⟨_, _, rfl, _⟩ | ⟨rfl, _⟩
  · exact .inl ⟨_, rfl⟩
  · exact .inr (.inr rfl)
theorem RoadR.scal {ws : List Str} {one other : Str} {r : V} (h : RoadR ws one other r) : L2.scal r r = true := by
  rcases h with ⟨_, _, rfl, _⟩ | ⟨rfl, _⟩ <;> rfl
def spSmall : Sp := fun vs H Q _ => ∃ (b : Addr) (k : Nat) (ws : List Str), vs = [.ref b] ∧ BookAt H b k ws ∧ Book k ws ∧ ws.length ≤ 7 ∧ ∀ H', Same H H' → Q (.bl true) H'
theorem ok_law_small_right (T : Top K mg "_law_small_right" st_law_small_right) (B : Bt mg) (D_law_pieces : Dn P w K mg base 1 "_law_pieces" st_law_pieces ["book", "one"] spPcs) (D_law_first : Dn P w K mg base 1 "_law_first" st_law_first ["pieces", "other"] spFirst)
    (D_law_same : Dn P w K mg base 3 "_law_same" st_law_same ["found", "due"] spSame) (D_way : Dn P w K mg base 5 "way" st_way ["book", "one", "other"] spWay) (D_law_road : Dn P w K mg base 1 "_law_road" st_law_road ["book", "one", "other"] spRoad2) :
    Dn P w K mg base 6 "_law_small_right" st_law_small_right ["book"] spSmall := by
  refine dn_of T sc_law_small_right pl_law_small_right (fun vs H Q E h => ?_) fun f cdv A outer s H vs Q E hr h => ?_
  · obtain ⟨a, _, _, rfl, _⟩ := h; rfl
  · obtain ⟨b, k, ws, rfl, bat, bk, wl, q⟩ := h
    obtain ⟨t, eb, et⟩ := id bat
    refine ⟨_, (pss_cons (ps_for PassesOwn.never rfl (pi_tup (pe_ix (ixTK K rfl) (pv 0) pe_int (fun _ _ => rfl))) (pg_name (i := 1) sc_law_small_right.nd rfl (.inl rfl)) (pss_cons (ps_set (i := 2) sc_law_small_right.nd rfl (.inl rfl) (pe_fn D_law_pieces (hr.mono (by decide)) (by rfl) (pa_cons (pv 0) (pa_cons (pv 1) pa_nil))))
      (pss_one (ps_for PassesOwn.never rfl (pi_tup (pe_ix (ixTK K rfl) (pv 0) pe_int (fun _ _ => rfl))) (pg_name (i := 3) sc_law_small_right.nd rfl (.inl rfl)) (pss_cons (ps_set (i := 4) sc_law_small_right.nd rfl (.inl rfl) (pe_fn D_law_first (hr.mono (by decide)) (by rfl) (pa_cons (pv 2) (pa_cons (pv 3) pa_nil))))
      (pss_one (ps_if (PW.pt (pw_or (pt_not (pt_val (pe_fn D_law_same (hr.mono (by decide)) (by rfl) (pa_cons (pe_fn D_way (hr.mono (by decide)) (by rfl) (pa_cons (pv 0) (pa_cons (pv 1) (pa_cons (pv 3) pa_nil)))) (pa_cons (pv 4) pa_nil))))) (pw_or1 (pt_cmpR op_ne (pv 4) (pe_fn D_law_road (hr.mono (by decide)) (by rfl) (pa_cons (pv 0) (pa_cons (pv 1) (pa_cons (pv 3) pa_nil)))) (nomark _))))) (pss_one (ps_ret pe_bl)) pss_nil)))))))
      (pss_one (ps_ret pe_bl))), ?_⟩
    refine ⟨_, rfl, b, _, _, _, rfl, rfl, .inl (.inl eb), rfl, t, rfl, ⟨_, .inl (.inl et)⟩, ?_⟩
    refine for_tup (K := K) (a := t) (xs := ws.map V.str) (fun i σ H' => ∃ o1 o2 o3 o4, σ = [some (.ref b), o1, o2, o3, o4] ∧ Same H H') ⟨_, _, _, _, rfl, Same.refl _⟩ (fun _ _ _ _ ⟨_, _, _, _, _, h⟩ => .inl (.inl (h _ _ et))) (fun i y σ H' hi ⟨o1, o2, o3, o4, eσ, sm⟩ => ?_) fun σ H' ⟨o1, o2, o3, o4, eσ, sm⟩ => ?_
    · subst eσ
      obtain ⟨one, h1, rfl⟩ := str_at hi
      have ho := List.mem_of_getElem? h1
      refine ⟨_, rfl, _, rfl, b, k, ws, one, rfl, bat.same sm, bk, wl, ho, fun F fas fss H1 s1 eF lf fl f1 f2 => ?_⟩
      have sm1 := sm.trans s1
      refine ⟨_, rfl, b, _, _, _, rfl, rfl, .inl (.inl (sm1 _ _ eb)), rfl, t, rfl, ⟨_, .inl (.inl (sm1 _ _ et))⟩, ?_⟩
      refine for_tup (K := K) (a := t) (xs := ws.map V.str) (fun j σ H' => ∃ o3 o4, σ = [some (.ref b), some (.str one), some (.ref F), o3, o4] ∧ Same H1 H') ⟨_, _, rfl, Same.refl _⟩ (fun _ _ _ _ ⟨_, _, _, h⟩ => .inl (.inl (h _ _ (sm1 _ _ et)))) (fun j y σ H' hj ⟨o3, o4, eσ, s2⟩ => ?_) fun σ H' ⟨o3, o4, eσ, s2⟩ => ?_
      · subst eσ
        obtain ⟨other, h2, rfl⟩ := str_at hj
        have hot := List.mem_of_getElem? h2
        have sm2 := sm1.trans s2
        refine ⟨_, rfl, _, rfl, k, ws, one, other, F, fas, fss, rfl, bk, wl, ho, s2 _ _ eF, lf.same s2, fl, f1, f2, fun r H3 s3 rr fr => ?_⟩
        refine ⟨_, rfl, _, rfl, _, rfl, b, k, ws, one, other, rfl, bat.same (sm2.trans s3), bk, by omega, ho, hot, fun r' H4 s4 rr' fr' => ?_⟩
        have er := rr.uniq rr'
        subst er
        refine ⟨_, rfl, .inl ⟨r, rfl, rr.simp, true, rfl, ?_⟩⟩
        refine iteF ?_
        refine ⟨_, rfl, _, rfl, _, rfl, _, rfl, b, k, ws, one, other, rfl, bat.same ((sm2.trans s3).trans s4), bk, by omega, ho, fun r' H5 s5 rr' fr' => ?_⟩
        have er := rr.uniq rr'
        subst er
        refine ⟨rr.scal, _, rfl, ?_⟩
        rw [decide_eq_true rfl]
        refine iteF ?_
        exact ⟨_, _, rfl, ((s2.trans s3).trans s4).trans s5⟩
      · subst eσ
        exact ⟨_, _, _, _, rfl, sm1.trans s2⟩
    · subst eσ
      exact q H' sm
abbrev st_law_great_right : Stmt := topS 33
theorem sc_law_great_right : FnScope ["source", "book", "asked", "turn", "one", "other", "due", "side"] ["source", "book"] (defScope st_law_great_right) := ⟨rfl, rfl, rfl, by decide +kernel, rfl, by decide +kernel, by decide +kernel⟩
theorem pl_law_great_right : PlainB "_law_great_right" st_law_great_right ["source", "book"] := fun _ _ _ _ _ _ us hl => match us, hl with | [_, _], _ => rfl
/-- two windows and what is told of them -/
def Ask (ws : List Str) (H : Hp) (a : Addr) : Prop := ∃ one other r, H a = some (.tup [.str one, .str other, r]) ∧ one ∈ ws ∧ other ∈ ws ∧ RoadR ws one other r
theorem Ask.same {ws : List Str} {H H' : Hp} {a : Addr} (k : Ask ws H a) (s : Same H H') : Ask ws H' a := let ⟨x, y, r, e, g⟩ := k; ⟨x, y, r, s _ _ e, g⟩
theorem Ask.but {ws : List Str} {H H' : Hp} {p a : Addr} {n : Nat} (k : Ask ws H a) (bt : But p H H') (sr : Src H p n) : Ask ws H' a := let ⟨x, y, r, e, g⟩ := k; ⟨x, y, r, bt.kept e (sr.ne e), g⟩
theorem Ask.keep {ws : List Str} {H : Hp} {a t : Addr} {o : HO} (k : Ask ws H a) (n : a ≠ t) : Ask ws (upd H t o) a := let ⟨x, y, r, e, g⟩ := k; ⟨x, y, r, keep_ne e n, g⟩
theorem BookAt.but' {H H' : Hp} {p a : Addr} {n m : Nat} {ws : List Str} (k : BookAt H a n ws) (bt : But p H H') (sr : Src H p m) : BookAt H' a n ws := by
  obtain ⟨t, e1, e2⟩ := k
  exact ⟨t, bt.kept e1 (sr.ne e1), bt.kept e2 (sr.ne e2)⟩
def LoopL (K : PySem.W.Frag) (a : Addr) (g : TG) (tb : TS) (D : L2.Ends) (σ : L2.St) (H1 : Hp) : Prop := ∃ W : Nat → Nat → L2.St → Hp → Prop, (∃ m, W 0 m σ H1) ∧ ∀ i m σ H, W i m σ H →
    ((Itl K a).stop i H ∧ D.nx σ H) ∨ ((Itl K a).go i H ∧ ∃ N : L2.St → Hp → Prop, (∀ σ' H', N σ' H' → ∃ m', m' < m ∧ W (i + 1) m' σ' H') ∧ ∀ x H', (Itl K a).yld i H x H' → g x σ H' fun σ2 H2 => tb { D with nx := N, ct := N, bk := D.nx } σ2 H2)
theorem for_begin {K : PySem.W.Frag} {te : TE} {g : TG} {tb : TS} {D : L2.Ends} {σ : L2.St} {H : Hp} (h : te σ H fun x H1 => ∃ a, x = .ref a ∧ (∃ xs, SqL K H1 a xs) ∧ LoopL K a g tb D σ H1) : tFor (iList K te) g tb D σ H := h
def spGreat : Sp := fun vs H Q _ => ∃ (p b : Addr) (k n : Nat) (ws : List Str), vs = [.ref p, .ref b] ∧ Src H p n ∧ n ≤ 1000000 ∧ BookAt H b k ws ∧ Book k ws ∧ ws.length ≤ 40 ∧ ∀ H', But p H H' → Q (.bl true) H'
theorem ok_law_great_right (T : Top K mg "_law_great_right" st_law_great_right) (B : Bt mg) (D_law_pick : Dn P w K mg base 1 "_law_pick" st_law_pick ["source", "top"] spPick)
    (D_law_same : Dn P w K mg base 3 "_law_same" st_law_same ["found", "due"] spSame) (D_way : Dn P w K mg base 5 "way" st_way ["book", "one", "other"] spWay) (D_law_road : Dn P w K mg base 1 "_law_road" st_law_road ["book", "one", "other"] spRoad2) :
    Dn P w K mg base 6 "_law_great_right" st_law_great_right ["source", "book"] spGreat := by
  refine dn_of T sc_law_great_right pl_law_great_right (fun vs H Q E h => ?_) fun f cdv A outer s H vs Q E hr h => ?_
  · obtain ⟨a, b, _, _, _, rfl, _⟩ := h; rfl
  · obtain ⟨p, b, k, n, ws, rfl, sr, hn, bat, bk, wl, q⟩ := h
    have w1 := bk.one
    refine ⟨_, (pss_cons (ps_set (i := 2) sc_law_great_right.nd rfl (.inl rfl) (pe_lst pa_nil))
      (pss_cons (ps_for PassesOwn.never rfl (pi_range1 (by rfl) B.range (pa_cons pe_int pa_nil)) (pg_name (i := 3) sc_law_great_right.nd rfl (.inl rfl)) (pss_cons (ps_asg (pe_lc (own := [("side", 7)]) (g := gName 7) rfl sc_law_great_right.nd (pi_range1 (by rfl) B.range (pa_cons pe_int pa_nil)) (blkOk_by (N := ["source", "book", "asked", "turn", "one", "other", "due", "side"]) (sc := defScope st_law_great_right) (by decide +kernel)) (fun _ _ _ _ _ => (pg_name (i := 7) sc_law_great_right.nd rfl (.inl rfl))) (fun _ _ _ _ _ => pts_nil) (fun _ _ _ _ _ => (pe_ix (ixTK K rfl) (pe_ix (ixTK K rfl) (pv 1) pe_int (fun _ _ => rfl)) (pe_fn D_law_pick (hr.mono (by decide)) (by rfl) (pa_cons (pv 0) (pa_cons (pe_callB (lenK K rfl) (by rfl) B.len (by decide +kernel) (pa_cons (pe_ix (ixTK K rfl) (pv 1) pe_int (fun _ _ => rfl)) pa_nil)) pa_nil))) (fun _ _ => rfl)))) (pg_unlK K rfl rfl (pgs_cons (pg_name (i := 4) sc_law_great_right.nd rfl (.inl rfl)) (pgs_cons (pg_name (i := 5) sc_law_great_right.nd rfl (.inl rfl)) pgs_nil))))
      (pss_one (ps_expr (pe_bm PySem.F.plainAttrs_list PySem.F.slot_list_append PySem.F.type_list_append mt_append (pv 2) (pa_cons (pe_tup (pa_cons (pv 4) (pa_cons (pv 5) (pa_cons (pe_fn D_law_road (hr.mono (by decide)) (by rfl) (pa_cons (pv 1) (pa_cons (pv 4) (pa_cons (pv 5) pa_nil)))) pa_nil)))) pa_nil))))))
      (pss_cons (ps_for PassesOwn.never rfl (pi_list (pe_op op_cat (pv 2) (pe_slice (slK K rfl) (pv 2) po_none (po_some pe_int)))) (pg_tupK K rfl rfl (pgs_cons (pg_name (i := 4) sc_law_great_right.nd rfl (.inl rfl)) (pgs_cons (pg_name (i := 5) sc_law_great_right.nd rfl (.inl rfl)) (pgs_cons (pg_name (i := 6) sc_law_great_right.nd rfl (.inl rfl)) pgs_nil)))) (pss_one (ps_if (pt_not (pt_val (pe_fn D_law_same (hr.mono (by decide)) (by rfl) (pa_cons (pe_lst (pa_cons (pe_fn D_way (hr.mono (by decide)) (by rfl) (pa_cons (pv 1) (pa_cons (pv 4) (pa_cons (pv 5) pa_nil)))) (pa_cons (pe_fnK D_way (hr.mono (by decide)) (by rfl) (pk_cons (pv 5) (pk_cons (pv 4) (pk_cons (pv 1) pk_nil))) kb_way_other_one_book) pa_nil))) (pa_cons (pe_lst (pa_cons (pv 6) (pa_cons (pv 6) pa_nil))) pa_nil))))) (pss_one (ps_ret pe_bl)) pss_nil)))
      (pss_one (ps_ret (pe_fn D_law_same (hr.mono (by decide)) (by rfl) (pa_cons (pe_fn D_way (hr.mono (by decide)) (by rfl) (pa_cons (pv 1) (pa_cons (pe_ix (ixTK K rfl) (pe_ix (ixTK K rfl) (pv 1) pe_int (fun _ _ => rfl)) pe_int (fun _ _ => rfl)) (pa_cons (pe_ix (ixTK K rfl) (pe_ix (ixTK K rfl) (pv 1) pe_int (fun _ _ => rfl)) pe_int (fun _ _ => rfl)) pa_nil)))) (pa_cons (pe_ix (ixTK K rfl) (pe_ix (ixTK K rfl) (pv 1) pe_int (fun _ _ => rfl)) pe_int (fun _ _ => rfl)) pa_nil)))))))), ?_⟩
    refine ⟨by show 0 ≤ sizeLine; decide, fun A0 nA => ?_⟩
    obtain ⟨o0, eo0⟩ := id sr.at
    have nAp : A0 ≠ p := (ne_of_none eo0 nA).symm
    have sA : Same H (upd H A0 (.lst [])) := same_upd nA
    have eA : (upd H A0 (.lst [])) A0 = some (.lst (([] : List Addr).map V.ref)) := upd_same
    generalize upd H A0 (.lst []) = H1 at sA eA ⊢
    have sr1 := sr.same sA
    have bat1 := bat.same sA
    refine ⟨6, rfl, by decide, by decide, ?_⟩
    refine for_range (fun i σ H' => ∃ (as : List Addr) (o3 o4 o5 : Option V), σ = [some (.ref p), some (.ref b), some (.ref A0), o3, o4, o5, none, none] ∧ Src H' p (n + 2 * i) ∧ But p H H' ∧ H' A0 = some (.lst (as.map V.ref)) ∧ as.length = i ∧ ∀ a ∈ as, Ask ws H' a)
      ⟨[], _, _, _, rfl, sr1, Same.but sA, eA, rfl, fun _ h => by cases h⟩ (fun i σ H' hi ⟨as, o3, o4, o5, eσ, sr', bt', eA', al, asks⟩ => ?_) fun σ H' ⟨as, o3, o4, o5, eσ, sr', bt', eA', al, asks⟩ => ?_
    · subst eσ
      have hi : i < 6 := hi
      have bat' := bat.but' bt' sr
      obtain ⟨o', eo'⟩ := id sr'.at
      refine ⟨2, rfl, by decide, by decide, fun D hD => ?_⟩
      have nDp : D ≠ p := (ne_of_none eo' hD).symm
      have nDA : D ≠ A0 := (ne_of_none eA' hD).symm
      refine lc_range (fun j H2 => Src H2 p (n + 2 * i + j) ∧ But p H' H2 ∧ ∃ xs : List Str, H2 D = some (.lst (xs.map V.str)) ∧ xs.length = j ∧ ∀ x ∈ xs, x ∈ ws) ⟨sr'.new hD, But.refl.mk hD, [], upd_same, rfl, fun _ h => by cases h⟩ (fun j H2 hj ⟨sr2, bt2, xs, eD, xl, hx⟩ => ?_) fun H2 ⟨sr2, bt2, xs, eD, xl, hx⟩ => ?_
      · have hj : j < 2 := hj
        obtain ⟨t2, eb2, et2⟩ := bat'.but' bt2 sr'
        refine ⟨rfl, lc_yes ?_⟩
        refine ⟨_, rfl, b, _, _, _, rfl, rfl, .inl (.inl eb2), rfl, _, rfl, _, rfl, b, _, _, _, rfl, rfl, .inl (.inl eb2), rfl, t2, _, rfl, .inr (.inl (.inl et2)), p, ((ws.map V.str).length : Int), _, rfl, sr2, by omega, by rw [List.length_map]; omega, by rw [List.length_map]; omega, fun r H3 r0 r1 sr3 bt3 => ?_⟩
        rw [List.length_map] at r1
        have lt : r.toNat < ws.length := by omega
        have fm := List.getElem_mem lt
        have et3 := bt3.kept et2 (sr2.ne et2)
        have eD3 := bt3.kept eD nDp
        refine ⟨t2, _, r, V.str ws[r.toNat], rfl, rfl, .inl (.inl et3), atI_pos r0 (by rw [List.getElem?_map, List.getElem?_eq_getElem lt]; rfl), ?_⟩
        generalize ws[r.toNat] = first at fm ⊢
        refine ⟨_, eD3, by rw [List.length_map, xl]; exact lt_line (by omega), sr3.set nDp, (bt2.trans bt3).mk hD, xs ++ [first], by rw [upd_same, List.map_append]; rfl, by rw [List.length_append, xl]; rfl, fun x hx2 => ?_⟩
        rcases List.mem_append.mp hx2 with h | h
        · exact hx x h
        · rw [List.mem_singleton.mp h]; exact fm
      · obtain ⟨x, y, rfl⟩ : ∃ x y, xs = [x, y] := by
          match xs, xl with
          | [x, y], _ => exact ⟨x, y, rfl⟩
        have hxm := hx x (by simp)
        have hym := hx y (by simp)
        refine ⟨D, _, rfl, .inl (.inl eD), rfl, _, _, rfl, _, _, rfl, rfl, ?_⟩
        have eA2 := bt2.kept eA' nAp
        have bat2 := bat'.but' bt2 sr'
        have asks2 : ∀ a ∈ as, Ask ws H2 a := fun a ha => (asks a ha).but bt2 sr'
        refine ⟨_, rfl, .inl ⟨rfl, _, .inl (.inl eA2)⟩, _, rfl, _, rfl, _, rfl, _, rfl, _, rfl, b, k, ws, x, y, rfl, bat2, bk, by omega, hxm, fun r H3 s3 rr fr => ?_⟩
        refine ⟨by show 3 ≤ sizeLine; decide, fun g ng => ?_⟩
        have eA3 := s3 _ _ eA2
        have ngA : g ≠ A0 := (ne_of_none eA3 ng).symm
        have sg : Same H2 (upd H3 g (.tup [V.str x, .str y, r])) := s3.trans (same_upd ng)
        refine ⟨A0, _, _, rfl, rfl, (same_upd ng) _ _ eA3, by rw [List.length_map, al]; exact lt_line (by omega), ?_⟩
        refine ⟨as ++ [g], _, _, _, rfl, ((sr2.same sg).set nAp).mono (by omega), ((bt'.trans bt2).same sg).mk nA, by rw [upd_same, List.map_append]; rfl, by rw [List.length_append, al]; rfl, fun a ha => ?_⟩
        rcases List.mem_append.mp ha with ha | ha
        · have k' := (asks2 a ha).same sg
          refine k'.keep fun h => ?_
          subst h
          obtain ⟨_, _, _, e, _⟩ := asks2 a ha
          rw [eA2] at e; cases e
        · rw [List.mem_singleton.mp ha]
          exact Ask.keep ⟨x, y, r, upd_same, hxm, hym, rr⟩ ngA
    · subst eσ
      have bat' := bat.but' bt' sr
      have al : as.length = 6 := al
      dsimp only [gName, tSeq]
      refine for_begin ?_
      refine ⟨_, rfl, _, rfl, _, rfl, A0, _, rfl, .inl (.inl eA'), fun l nl => ?_⟩
      have ec : cutV (as.map V.ref) none (some (2 : Int)) = (as.map V.ref).take 2 := cutV_to _ 2
      rw [ec, ← List.map_take]
      refine ⟨A0, l, _, _, rfl, rfl, (same_upd nl) _ _ eA', upd_same, by rw [List.length_map, List.length_map, List.length_take]; exact big (by omega), fun g ng => ?_⟩
      rw [← List.map_append]
      have s6 : Same H' (upd (upd H' l (.lst ((as.take 2).map V.ref))) g (.lst ((as ++ as.take 2).map V.ref))) := (same_upd nl).trans (same_upd ng)
      have eg : (upd (upd H' l (.lst ((as.take 2).map V.ref))) g (.lst ((as ++ as.take 2).map V.ref))) g = some (.lst ((as ++ as.take 2).map V.ref)) := upd_same
      generalize upd (upd H' l (.lst ((as.take 2).map V.ref))) g (.lst ((as ++ as.take 2).map V.ref)) = H6 at s6 eg ⊢
      have hg : ∀ a ∈ as ++ as.take 2, a ∈ as := fun a h => (List.mem_append.mp h).elim id List.mem_of_mem_take
      refine ⟨g, rfl, ⟨_, .inl (.inl eg)⟩, for_list (K := K) (a := g) (xs := (as ++ as.take 2).map V.ref) (fun i σ H7 => ∃ o4 o5 o6, σ = [some (.ref p), some (.ref b), some (.ref A0), o3, o4, o5, o6, none] ∧ Same H6 H7) ⟨_, _, _, rfl, Same.refl _⟩ (fun _ _ _ _ ⟨_, _, _, _, h⟩ => .inl (.inl (h _ _ eg))) (fun i y σ H7 hi ⟨o4, o5, o6, eσ, sm⟩ => ?_) fun σ H7 ⟨o4, o5, o6, eσ, sm⟩ => ?_⟩
      · subst eσ
        obtain ⟨a, ham, rfl⟩ := ref_at hi
        obtain ⟨x, y, r, eax, hxm, hym, rr⟩ := ((asks a (hg a (List.mem_of_getElem? ham))).same s6).same sm
        have bat7 := (bat'.same s6).same sm
        refine ⟨a, _, rfl, .inl (.inl eax), rfl, _, _, rfl, _, _, rfl, _, _, rfl, rfl, ?_⟩
        refine ⟨_, rfl, _, rfl, _, rfl, b, k, ws, x, y, rfl, bat7, bk, by omega, hxm, hym, fun r1 H8 s8 rr1 _ => ?_⟩
        obtain rfl := rr.uniq rr1
        refine ⟨_, rfl, _, rfl, _, rfl, b, k, ws, x, y, rfl, bat7.same s8, bk, by omega, hxm, hym, fun r2 H9 s9 rr2 _ => ?_⟩
        obtain rfl := rr.uniq rr2
        refine ⟨by show 2 ≤ sizeLine; decide, fun l1 nl1 => ⟨_, rfl, _, rfl, by show 2 ≤ sizeLine; decide, fun l2 nl2 => ?_⟩⟩
        refine .inr ⟨l1, l2, [r, r], rfl, (same_upd nl2) _ _ upd_same, upd_same, (show 2 ≤ 100000 by decide), fun v hv => ?_, fun H10 s10 => ⟨true, rfl, ?_⟩⟩
        · have : v = r := by simpa using hv
          rw [this]; exact rr.simp
        refine iteF ?_
        exact ⟨_, _, _, rfl, sm.trans (((s8.trans s9).trans ((same_upd nl1).trans (same_upd nl2))).trans s10)⟩
      · subst eσ
        obtain ⟨t7, eb7, et7⟩ := (bat'.same s6).same sm
        obtain ⟨w0, hw0⟩ : ∃ w0, ws[0]? = some w0 := ⟨ws[0], List.getElem?_eq_getElem (by omega)⟩
        have hwm := List.mem_of_getElem? hw0
        have at0 : atI (ws.map V.str) 0 = some (V.str w0) := atI_pos (by decide) (by rw [List.getElem?_map]; show (ws[0]?).map V.str = _; rw [hw0]; rfl)
        refine ⟨_, rfl, _, rfl, b, _, _, _, rfl, rfl, .inl (.inl eb7), rfl, t7, _, 0, .str w0, rfl, rfl, .inl (.inl et7), at0, _, rfl, b, _, _, _, rfl, rfl, .inl (.inl eb7), rfl, t7, _, 0, .str w0, rfl, rfl, .inl (.inl et7), at0, b, k, ws, w0, w0, rfl, ⟨t7, eb7, et7⟩, bk, by omega, hwm, hwm, fun r H8 s8 rr _ => ?_⟩
        have er : r = .str w0 := rr.uniq (.inl ⟨0, tl w0, by rw [mkS_tl], .start⟩)
        subst er
        refine ⟨_, rfl, b, _, _, _, rfl, rfl, .inl (.inl (s8 _ _ eb7)), rfl, t7, _, 0, .str w0, rfl, rfl, .inl (.inl (s8 _ _ et7)), at0, ?_⟩
        exact .inl ⟨_, rfl, .inl ⟨_, rfl⟩, q H8 (bt'.same ((s6.trans sm).trans s8))⟩
abbrev st_law : Stmt := topS 34
theorem sc_law : FnScope ["script", "k", "source"] ["script"] (defScope st_law) := ⟨rfl, rfl, rfl, by decide +kernel, rfl, by decide +kernel, by decide +kernel⟩
theorem pl_law : PlainB "law" st_law ["script"] := fun _ _ _ _ _ _ us hl => match us, hl with | [_], _ => rfl
def spLaw (K : PySem.W.Frag) : Sp := fun vs H Q _ => ∃ (a : Addr) (ns : List Int), vs = [.ref a] ∧ SqL K H a (ns.map V.int) ∧ ns.length ≤ 63 ∧ ∀ H', Q (.bl true) H'
theorem ok_law (T : Top K mg "law" st_law) (B : Bt mg) (D_law_small_right : Dn P w K mg base 6 "_law_small_right" st_law_small_right ["book"] spSmall) (D_law_great_right : Dn P w K mg base 6 "_law_great_right" st_law_great_right ["source", "book"] spGreat)
    (D_law_book : Dn P w K mg base 4 "_law_book" st_law_book ["source", "most"] spLBook) (D_law_source : Dn P w K mg base 1 "_law_source" st_law_source ["script", "k"] (spSource K)) :
    Dn P w K mg base 7 "law" st_law ["script"] (spLaw K) := by
  refine dn_of T sc_law pl_law (fun vs H Q E h => ?_) fun f cdv A outer s H vs Q E hr h => ?_
  · obtain ⟨a, _, rfl, _⟩ := h; rfl
  · obtain ⟨a, ns, rfl, sq, hn, q⟩ := h
    refine ⟨_, (pss_cons (ps_for PassesOwn.never rfl (pi_range1 (by rfl) B.range (pa_cons (pe_callB (call_max2 rfl) (by rfl) B.max (by decide +kernel) (pa_cons pe_int (pa_cons (pe_callB (call_min2 rfl) (by rfl) B.min (by decide +kernel) (pa_cons pe_int (pa_cons (pe_callB (lenK K rfl) (by rfl) B.len (by decide +kernel) (pa_cons (pv 0) pa_nil)) pa_nil))) pa_nil))) pa_nil)) (pg_name (i := 1) sc_law.nd rfl (.inl rfl)) (pss_cons (ps_set (i := 2) sc_law.nd rfl (.inl rfl) (pe_fn D_law_source (hr.mono (by decide)) (by rfl) (pa_cons (pv 0) (pa_cons (pv 1) pa_nil))))
      (pss_one (ps_if (PW.pt (pw_or (pt_not (pt_val (pe_fn D_law_small_right (hr.mono (by decide)) (by rfl) (pa_cons (pe_fn D_law_book (hr.mono (by decide)) (by rfl) (pa_cons (pv 2) (pa_cons pe_int pa_nil))) pa_nil)))) (pw_or1 (pt_not (pt_val (pe_fn D_law_great_right (hr.mono (by decide)) (by rfl) (pa_cons (pv 2) (pa_cons (pe_fn D_law_book (hr.mono (by decide)) (by rfl) (pa_cons (pv 2) (pa_cons pe_int pa_nil))) pa_nil)))))))) (pss_one (ps_ret pe_bl)) pss_nil))))
      (pss_one (ps_ret pe_bl))), ?_⟩
    refine ⟨_, rfl, a, _, rfl, .inl sq, _, _, rfl, _, _, rfl, ?_⟩
    obtain ⟨n, en, hn3⟩ : ∃ n : Nat, (if (if ((ns.map V.int).length : Int) < 3 then ((ns.map V.int).length : Int) else 3) > 1 then (if ((ns.map V.int).length : Int) < 3 then ((ns.map V.int).length : Int) else 3) else 1) = (n : Int) ∧ n ≤ 3 := by
      rw [List.length_map]
      refine ⟨(if (if (ns.length : Int) < 3 then (ns.length : Int) else 3) > 1 then (if (ns.length : Int) < 3 then (ns.length : Int) else 3) else 1).toNat, ?_, ?_⟩ <;> split <;> split <;> omega
    refine ⟨(n : Int), congrArg (fun x => [V.int x]) en, by omega, by omega, ?_⟩
    rw [Int.toNat_natCast]
    refine for_range (fun i σ H' => Same H H' ∧ ∃ o1 o2, σ = [some (.ref a), o1, o2]) ⟨Same.refl _, none, none, rfl⟩ (fun i σ H' hi ⟨sm, o1, o2, eσ⟩ => ?_) fun σ H' ⟨sm, o1, o2, eσ⟩ => ?_
    · subst eσ
      refine ⟨_, rfl, _, rfl, a, ns, i, ?_, sm.seq sq, hn, by omega, fun p H1 np s1 sr => ?_⟩
      · show [V.ref a, V.int (0 + (i : Int))] = [V.ref a, V.int (i : Int)]
        rw [show ((0 : Int) + (i : Int)) = (i : Int) by omega]
      · have fr : ∀ H2, But p H1 H2 → Same H H2 := fun H2 bt b o e => bt b o (s1 _ _ (sm _ _ e)) (ne_of_none (sm _ _ e) np)
        refine ⟨_, rfl, p, 7, 0, rfl, sr, by decide, by decide, by decide, fun b1 k1 w1 H2 _ bat1 bk1 wl1 sr2 bt2 => ?_⟩
        refine ⟨b1, k1, w1, rfl, bat1, bk1, wl1, fun H3 s3 => ⟨true, rfl, ?_⟩⟩
        refine iteF ?_
        refine ⟨_, rfl, _, rfl, p, 40, 30000, rfl, sr2.same s3, by decide, by decide, by decide, fun b2 k2 w2 H4 _ bat2 bk2 wl2 sr4 bt4 => ?_⟩
        refine ⟨p, b2, k2, 60000, w2, rfl, sr4, by decide, bat2, bk2, wl2, fun H5 bt5 => ⟨true, rfl, ?_⟩⟩
        refine iteF ?_
        exact ⟨fr H5 (((bt2.same s3).trans bt4).trans bt5), _, _, rfl⟩
    · exact q H'
end
end Tx

set_option Elab.async false
set_option linter.all false
set_option maxRecDepth 100000
namespace Tx
open PySem PySem.Spec PyProof.Rows L2 TL
theorem fun_one {K : PySem.W.Frag} {x q : Str} {st : Stmt} {f : Addr} {fd fd' : FuncData} (F : Fun K x q st f fd) (F' : Fun K x q st f fd') : fd = fd' := by
  obtain ⟨_, _, _, _, _, _, _, _, _, _, l, _⟩ := F.ex
  obtain ⟨_, _, _, _, _, _, _, _, _, _, l', _⟩ := F'.ex
  rw [l] at l'
  injection l' with e
  injection e with e1 e2 e3 e4
  injection e3
theorem all_ok {l : PySem.W.OpenLaw} {w : World} {K : PySem.W.Frag} {h : Heap} {mg : Str → Option Value} {fa : Addr} (X : K.In h) (G : h.Ns mainGlobals mg) (hfa : mg "law" = some (.ref fa)) (B : Bt mg)
    (T_is_whole : Top K mg "is_whole" st_is_whole) (T_is_letters : Top K mg "is_letters" st_is_letters) (T_is_size : Top K mg "is_size" st_is_size) (T_is_ascending : Top K mg "is_ascending" st_is_ascending) (T_is_windows : Top K mg "is_windows" st_is_windows) (T_is_book : Top K mg "is_book" st_is_book) (T_check_book : Top K mg "check_book" st_check_book) (T_check_window : Top K mg "check_window" st_check_window) (T_begun : Top K mg "begun" st_begun) (T_reached : Top K mg "reached" st_reached) (T_trail : Top K mg "trail" st_trail) (T_text_of : Top K mg "text_of" st_text_of) (T_way : Top K mg "way" st_way) (T_law_pick : Top K mg "_law_pick" st_law_pick) (T_law_source : Top K mg "_law_source" st_law_source) (T_law_letters : Top K mg "_law_letters" st_law_letters) (T_law_word : Top K mg "_law_word" st_law_word) (T_law_round : Top K mg "_law_round" st_law_round) (T_law_ring : Top K mg "_law_ring" st_law_ring) (T_law_same : Top K mg "_law_same" st_law_same) (T_law_book : Top K mg "_law_book" st_law_book) (T_law_road : Top K mg "_law_road" st_law_road) (T_law_pieces : Top K mg "_law_pieces" st_law_pieces) (T_law_first : Top K mg "_law_first" st_law_first) (T_law_small_right : Top K mg "_law_small_right" st_law_small_right) (T_law_great_right : Top K mg "_law_great_right" st_law_great_right) (T_law : Top K mg "law" st_law) :
    ∃ fd : FuncData, (∀ (s : Shared) (v : Value), BindsTo s fd ⟨[v], []⟩ [("script", v)]) ∧ ∀ base : Heap, K.In base → base.Ns mainGlobals mg → FnOk l.prog w K mg base CX0 7 fa fd ["script"] (spLaw K) := by
  obtain ⟨f, fd, hm, F⟩ := id T_law
  rw [hfa] at hm
  cases hm
  refine ⟨fd, fun s v => ?_, fun base _ _ => ?_⟩
  · obtain ⟨oc, od, kV, doc, pm, an, cdv, ct, osl, rfl, lk, hcd⟩ := F.ex
    exact .of_eq (pl_law kV doc pm an cdv ct [v] rfl)
  · skip
    have d_is_whole := ok_is_whole (P := l.prog) (w := w) (base := base) T_is_whole B
    have d_is_letters := ok_is_letters (P := l.prog) (w := w) (base := base) T_is_letters B
    have d_is_size := ok_is_size (P := l.prog) (w := w) (base := base) T_is_size d_is_whole
    have d_is_ascending := ok_is_ascending (P := l.prog) (w := w) (base := base) T_is_ascending B
    have d_is_windows := ok_is_windows (P := l.prog) (w := w) (base := base) T_is_windows B d_is_ascending d_is_letters
    have d_is_book := ok_is_book (P := l.prog) (w := w) (base := base) T_is_book B d_is_size d_is_windows
    have d_check_book := ok_check_book (P := l.prog) (w := w) (base := base) T_check_book d_is_book
    have d_check_window := ok_check_window (P := l.prog) (w := w) (base := base) T_check_window B
    have d_begun := ok_begun (P := l.prog) (w := w) (base := base) T_begun B
    have d_reached := ok_reached (P := l.prog) (w := w) (base := base) T_reached B
    have d_trail := ok_trail (P := l.prog) (w := w) (base := base) T_trail B
    have d_text_of := ok_text_of (P := l.prog) (w := w) (base := base) T_text_of B
    have d_way := ok_way (P := l.prog) (w := w) (base := base) T_way B d_check_book d_check_window d_begun d_reached d_trail d_text_of
    have d_law_pick := ok_law_pick (P := l.prog) (w := w) (base := base) T_law_pick B
    have d_law_source := ok_law_source (P := l.prog) (w := w) (base := base) T_law_source B
    have d_law_letters := ok_law_letters (P := l.prog) (w := w) (base := base) T_law_letters d_law_pick
    have d_law_word := ok_law_word (P := l.prog) (w := w) (base := base) T_law_word B d_law_pick
    have d_law_round := ok_law_round (P := l.prog) (w := w) (base := base) T_law_round B
    have d_law_ring := ok_law_ring (P := l.prog) (w := w) (base := base) T_law_ring B d_law_pick d_law_word
    have d_same0 := ok_same0 (P := l.prog) (w := w) (base := base) T_law_same B
    have d_same1 := ok_same1 (P := l.prog) (w := w) (base := base) T_law_same B d_same0
    have d_same := ok_same (P := l.prog) (w := w) (base := base) T_law_same B d_same0 d_same1
    have d_law_book := ok_law_book (P := l.prog) (w := w) (base := base) T_law_book B d_law_pick d_law_letters d_law_round d_law_ring d_law_word
    have d_law_road := ok_law_road (P := l.prog) (w := w) (base := base) T_law_road B
    have d_law_pieces := ok_law_pieces (P := l.prog) (w := w) (base := base) T_law_pieces B
    have d_law_first := ok_law_first (P := l.prog) (w := w) (base := base) T_law_first B
    have d_law_small_right := ok_law_small_right (P := l.prog) (w := w) (base := base) T_law_small_right B d_law_pieces d_law_first d_same d_way d_law_road
    have d_law_great_right := ok_law_great_right (P := l.prog) (w := w) (base := base) T_law_great_right B d_law_pick d_same d_way d_law_road
    have d_law := ok_law (P := l.prog) (w := w) (base := base) T_law B d_law_small_right d_law_great_right d_law_book d_law_source
    obtain ⟨f', fd', hm', F', G'⟩ := d_law.ex
    rw [hfa] at hm'
    cases hm'
    cases fun_one F F'
    exact G'
end Tx
open PySem PySem.W PyProof.Rows
set_option maxRecDepth 100000 in
set_option maxHeartbeats 0 in
theorem PySem.Challenge.cw_surepieces_k04_first_shortest_pieces_bet_holds : PySem.Challenge.rw_surepieces_k04_first_shortest_pieces_bet.Holds := by
  w_on; o_law; k_head; (case hw => w_witness2)
  k_fill
  refine L2.walk_of (l := PySem.Challenge.rw_surepieces_k04_first_shortest_pieces_bet) (n := 63) (k := 7) (x := "script") (CX := fun _ => L2.CX0) (sp := fun w => Tx.spLaw _) rfl (by decide) rfl ⟨rfl, by decide, by decide⟩ (fun w h Y => PySem.W.kIn_of Y) ?F (fun _ _ a ns hl _ hS => ⟨a, ns, rfl, hS, hl, fun _ => rfl⟩) (fun _ _ _ _ _ h => h)
  case F =>
    intro w mg fa h KX G hmg
    refine' Tx.all_ok KX G hmg ⟨PySem.W.mg_none_of KX G ?b0, PySem.W.mg_none_of KX G ?b1, PySem.W.mg_none_of KX G ?b2, PySem.W.mg_none_of KX G ?b3, PySem.W.mg_none_of KX G ?b4, PySem.W.mg_none_of KX G ?b5, PySem.W.mg_none_of KX G ?b6, PySem.W.mg_none_of KX G ?b7, PySem.W.mg_none_of KX G ?b8, PySem.W.mg_none_of KX G ?b9, PySem.W.mg_none_of KX G ?b10, PySem.W.mg_none_of KX G ?b11, PySem.W.mg_none_of KX G ?b12, PySem.W.mg_none_of KX G ?b13, PySem.W.mg_none_of KX G ?b14⟩ ?t0 ?t1 ?t2 ?t3 ?t4 ?t5 ?t6 ?t7 ?t8 ?t9 ?t10 ?t11 ?t12 ?t13 ?t14 ?t15 ?t16 ?t17 ?t18 ?t19 ?t20 ?t21 ?t22 ?t23 ?t24 ?t25 ?t26
    (case b0 => k_is)
    (case b1 => k_is)
    (case b2 => k_is)
    (case b3 => k_is)
    (case b4 => k_is)
    (case b5 => k_is)
    (case b6 => k_is)
    (case b7 => k_is)
    (case b8 => k_is)
    (case b9 => k_is)
    (case b10 => k_is)
    (case b11 => k_is)
    (case b12 => k_is)
    (case b13 => k_is)
    (case b14 => k_is)
    (case t0 => refine' Tx.top_mk KX G ?a ?l ?c ?k; (case a => k_is); (case l => k_is); (case c => k_is); (case k => k_is))
    (case t1 => refine' Tx.top_mk KX G ?a ?l ?c ?k; (case a => k_is); (case l => k_is); (case c => k_is); (case k => k_is))
    (case t2 => refine' Tx.top_mk KX G ?a ?l ?c ?k; (case a => k_is); (case l => k_is); (case c => k_is); (case k => k_is))
    (case t3 => refine' Tx.top_mk KX G ?a ?l ?c ?k; (case a => k_is); (case l => k_is); (case c => k_is); (case k => k_is))
    (case t4 => refine' Tx.top_mk KX G ?a ?l ?c ?k; (case a => k_is); (case l => k_is); (case c => k_is); (case k => k_is))
    (case t5 => refine' Tx.top_mk KX G ?a ?l ?c ?k; (case a => k_is); (case l => k_is); (case c => k_is); (case k => k_is))
    (case t6 => refine' Tx.top_mk KX G ?a ?l ?c ?k; (case a => k_is); (case l => k_is); (case c => k_is); (case k => k_is))
    (case t7 => refine' Tx.top_mk KX G ?a ?l ?c ?k; (case a => k_is); (case l => k_is); (case c => k_is); (case k => k_is))
    (case t8 => refine' Tx.top_mk KX G ?a ?l ?c ?k; (case a => k_is); (case l => k_is); (case c => k_is); (case k => k_is))
    (case t9 => refine' Tx.top_mk KX G ?a ?l ?c ?k; (case a => k_is); (case l => k_is); (case c => k_is); (case k => k_is))
    (case t10 => refine' Tx.top_mk KX G ?a ?l ?c ?k; (case a => k_is); (case l => k_is); (case c => k_is); (case k => k_is))
    (case t11 => refine' Tx.top_mk KX G ?a ?l ?c ?k; (case a => k_is); (case l => k_is); (case c => k_is); (case k => k_is))
    (case t12 => refine' Tx.top_mk KX G ?a ?l ?c ?k; (case a => k_is); (case l => k_is); (case c => k_is); (case k => k_is))
    (case t13 => refine' Tx.top_mk KX G ?a ?l ?c ?k; (case a => k_is); (case l => k_is); (case c => k_is); (case k => k_is))
    (case t14 => refine' Tx.top_mk KX G ?a ?l ?c ?k; (case a => k_is); (case l => k_is); (case c => k_is); (case k => k_is))
    (case t15 => refine' Tx.top_mk KX G ?a ?l ?c ?k; (case a => k_is); (case l => k_is); (case c => k_is); (case k => k_is))
    (case t16 => refine' Tx.top_mk KX G ?a ?l ?c ?k; (case a => k_is); (case l => k_is); (case c => k_is); (case k => k_is))
    (case t17 => refine' Tx.top_mk KX G ?a ?l ?c ?k; (case a => k_is); (case l => k_is); (case c => k_is); (case k => k_is))
    (case t18 => refine' Tx.top_mk KX G ?a ?l ?c ?k; (case a => k_is); (case l => k_is); (case c => k_is); (case k => k_is))
    (case t19 => refine' Tx.top_mk KX G ?a ?l ?c ?k; (case a => k_is); (case l => k_is); (case c => k_is); (case k => k_is))
    (case t20 => refine' Tx.top_mk KX G ?a ?l ?c ?k; (case a => k_is); (case l => k_is); (case c => k_is); (case k => k_is))
    (case t21 => refine' Tx.top_mk KX G ?a ?l ?c ?k; (case a => k_is); (case l => k_is); (case c => k_is); (case k => k_is))
    (case t22 => refine' Tx.top_mk KX G ?a ?l ?c ?k; (case a => k_is); (case l => k_is); (case c => k_is); (case k => k_is))
    (case t23 => refine' Tx.top_mk KX G ?a ?l ?c ?k; (case a => k_is); (case l => k_is); (case c => k_is); (case k => k_is))
    (case t24 => refine' Tx.top_mk KX G ?a ?l ?c ?k; (case a => k_is); (case l => k_is); (case c => k_is); (case k => k_is))
    (case t25 => refine' Tx.top_mk KX G ?a ?l ?c ?k; (case a => k_is); (case l => k_is); (case c => k_is); (case k => k_is))
    (case t26 => refine' Tx.top_mk KX G ?a ?l ?c ?k; (case a => k_is); (case l => k_is); (case c => k_is); (case k => k_is))
