import PyProof.Rows.All
import Wide.All
import OpenK.AllK
import Wide.FinOn
import PyProof.Rows.SortShellAny
import HandS.ForMost
import HandS.Set
import HandS.SetFor
import HandS.More
import HandS.Strs
import HandS.IsInst
import HandS.Zip
import HandS.Conv
import PyProof.Rows.StrRev
import PyProof.Rows.StrStep
import HandS.Style
import PyProof.MinMaxWalk
import PyProof.StrLawsIn
import HandS.DictComp
import KE.DataMinMax
import HandS.TupLe
import PyProof.SetRoads
import HandS.NoneIn
import PyProof.ListStr
import PyProof.StrLawsLast
import PyProof.StrLawsFirst
import HandS.Replace
import HandS.SetBool
import HandS.DictTup
import PyProof.RaisesDict
import PyProof.MeetsDictList
import PyProof.DictUpdate
import HandS.Walk
import HandS.WordsDict
import HandS.Deep
import HandS.TupAny
import HandS.Dict
import KE.KDictDisplayH
import KE.KEqDict
import PyProof.SumWalkG
import HandS.RaiseMore
import PyProof.ReprRoads
import HandS.DeepEq
import HandS.Wide
import KE.DataAny
import PyProof.Rows.RegFStrParts
import HandS.TupLen
import PySem.Challenge.RW_surepieces_k06_sure_by_a_product
set_option Elab.async false
set_option linter.all false
set_option maxRecDepth 100000
set_option maxHeartbeats 4000000
/-! Texts: sorted of a list, a dict, a set of texts, any number of them; set of a list of texts -/
namespace Tx
open PySem PySem.Spec PyProof.Rows L2

section
variable {X : Cx} {pins : List (Addr × Obj)} {σ : L2.St} {H : Hp}
/-- the end of sorted: what was collected is laid as a new list, and that is sorted -/
theorem sortTail {s : Shared} {A : Around} {E : Value → Shared → Prop} {vs : List Value} {ks : List Str} {Q : VK}
    (I : Inv X pins σ H s) (hS : StrsAre vs ks) (hz : vs.length ≤ sizeLine)
    (q : ∀ ys p, ys.Perm ks → sortedS ys = true → H p = none → Q (.ref p) (upd H p (.lst (ys.map V.str)))) :
    wpAny (model X.prog X.w) A (newList vs >>= fun l => holding [l] (call (.builtin "list.sort") [l] []) >>= fun _ => ret l)
      (fun fin s' => ∃ v, fin = .done (.ret v) ∧ EP X pins σ Q v s') E s := by
  have at0 : (s.heap.push (seqObj "list" vs.toArray 0)).get? s.heap.objs.size = some (seqObj "list" vs.toArray 0) := Heap.get?_push_size _ rfl
  refine wpAny_bind (wpAny_newList ?_ hz)
  refine wpAny_bind (wpAny_holding (wpAny_call_entry slot_list_sort ⟨_, at0, rfl⟩ entry_list_sort (list_sort_treeKAny strKind_oneLt (s := { s with heap := s.heap.push (seqObj "list" vs.toArray 0) }) at0 hS.keysOf
    (fun _ _ _ e => keyKind_strs (by rw [← e]; exact hS)) hz fun st' hp hs => ⟨_, rfl, ?_⟩) (args_list_sort _)))
  obtain ⟨ys, g1, g2, g3⟩ := sorted_out_str hS hp hs
  obtain ⟨ep, ha⟩ := sortedHeap_at (vs := vs) (out := (arrOf st').map (·.2)) at0
  have hl : (ys.map V.str).length ≤ sizeLine := by
    rw [List.length_map, g2.length_eq, ← StrsAre.length hS]; exact hz
  refine wpAny_pure ⟨_, rfl, .ref s.heap.objs.size, upd H s.heap.objs.size (.lst (ys.map V.str)), ?_, rfl, q ys _ g2 g3 (I.hok.fresh (Nat.le_refl _))⟩
  refine I.laid (t' := s.toks) (fun b u e => ?_) (Nat.le_refl _) (show ObjOk X.prog X.w _ _ _ (.lst (ys.map V.str)) from ⟨hl, ((arrOf st').map (·.2)).toList, ep, vals_of_strs g1, by rw [Array.toArray_toList]; exact ha⟩)
  have lt := Heap.lt_size e
  rw [sortedHeap_old (Nat.ne_of_lt lt) (by rw [size_push']; exact Nat.lt_succ_of_lt lt)]
  exact Heap.get?_push_of_some _ e

/-- sorted(xs), a list of texts -/
def rSortL (K : PySem.W.Frag) : List V → Hp → VK → Prop := fun vs H Q => ∃ (a : Addr) (zs : List Str), vs = [V.ref a] ∧ SqL K H a (zs.map V.str) ∧
  ∀ ys p, ys.Perm zs → sortedS ys = true → H p = none → Q (.ref p) (upd H p (.lst (ys.map V.str)))
theorem cr_sortL : CallR X (.builtin "sorted") (rSortL X.K) := by
  intro pins s σ H vs us Q I r h
  obtain ⟨a, zs, rfl, hs, q⟩ := h
  obtain ⟨its, rv, hl, hz⟩ := I.list hs
  rw [Vals.ref1 r]
  have e0 := rv.length
  rw [List.length_map] at e0 hz
  refine sorted_strsAny hl.isList rv.strs (by rw [← e0]; exact hz) fun out ys h1 h2 h3 => ?_
  obtain ⟨ep, he⟩ := sortedAll_at s.heap its out
  have hn : (ys.map V.str).length ≤ sizeLine := by rw [List.length_map, h2.length_eq]; exact hz
  exact ⟨.ref _, upd H (s.heap.objs.size + 1) (.lst (ys.map V.str)), I.laid (t' := s.toks) (fun _ _ => sortedAll_old) (Nat.le_succ _) ⟨hn, out.toList, ep, vals_of_strs h1, he⟩, rfl, q ys _ h2 h3 (I.hok.fresh (Nat.le_succ _))⟩

/-- sorted(d), a dict with text keys -/
def rSortD : List V → Hp → VK → Prop := fun vs H Q => ∃ (a : Addr) (kvs : List (Key × V)) (ks : List Str), vs = [V.ref a] ∧ Rd H a (.dK kvs) ∧ kvs.map (·.1) = ks.map Sum.inr ∧
  ∀ ys p, ys.Perm ks → sortedS ys = true → H p = none → Q (.ref p) (upd H p (.lst (ys.map V.str)))
theorem cr_sortD (hc : X.calm = true) : CallR X (.builtin "sorted") rSortD := by
  intro pins s σ H vs us Q I r h
  obtain ⟨a, kvs, ks, rfl, hd, hks, q⟩ := h
  rw [Vals.ref1 r]
  obtain ⟨z, lo, ws, rel, dd⟩ := dk_rd I.hok hd
  obtain ⟨ep, hat⟩ := dd.dictAt
  have hw : ws.map (·.1) = ks.map Sum.inr := rel.keys.symm.trans hks
  have hl : ws.length = ks.length := by
    have e := congrArg List.length hw
    rwa [List.length_map, List.length_map] at e
  have h16 : ws.length ≤ sizeLine := by rw [← rel.length]; exact z
  refine Calls.call_function_entry kind_sorted plain_sorted entry_sorted (args_sorted1 _) ?_
  unfold Builtin.«sorted»
  refine wpAny_bind (m := checkCount "sorted" 1 1 _) (wpAny_pure ?_)
  refine wpAny_bind (PySem.W.kdu_collect (A := X.A.in1) (PySem.W.kdl_dict (knd := mixKind X.prog X.w) (kvs := ws) (ep := ep) lo) (I.ok.hd hc) hat h16 fun h' tk acc hk hacc => ?_)
  have hal : acc.toList.length = ks.length := by rw [Array.length_toList, hacc.1, hl]
  have hS : StrsAre acc.toList ks := L2.strs_at hal fun j v e => by
    obtain ⟨k, x, e1, e2⟩ := hacc.2 j v (by rwa [← Array.getElem?_toList])
    have e3 : (ks.map Sum.inr)[j]? = some k := by rw [← hw, List.getElem?_map, e1] <;> rfl
    rw [List.getElem?_map] at e3
    cases e4 : ks[j]? with
    | none => rw [e4] at e3; cases e3
    | some y =>
      rw [e4] at e3
      cases (Option.some.inj e3 : Sum.inr y = k)
      obtain ⟨t, ev⟩ := Value.isStrOf_shape (x := y) (v := v) e2
      exact ⟨y, t, rfl, ev⟩
  exact sortTail (s := { s with heap := h', toks := tk }) (I.kept hk) hS (by rw [hal, ← hl]; exact h16) q
end

/-! ### a set of texts -/
/-- the texts ks stand in the set at a, each once; it can be walked -/
def SetS (w : World) (h : Heap) (a : Addr) (ks : List Str) : Prop :=
  ∃ o es ep t, h.get? a = some o ∧ o.ExactSet ∧ o.data = .set es ep t ∧ (∀ e ∈ es.toList, ∃ x tk, e = (hashStr w x, Value.str x tk)) ∧
    (es.toList.map fun e => strOf e.2).Perm ks ∧ ks.Nodup ∧ es.size < scanBound ∧ t.fits es.size = true ∧ Ris t.place.toList ∧ (w.params.followText "set-order" = true ∨ t.led = true)
section
variable {P : Program} {w : World} {h h' : Heap} {a : Addr} {ks : List Str}
theorem SetS.keep (R : SetS w h a ks) (k : ∀ o, h.get? a = some o → h'.get? a = some o) : SetS w h' a ks := by
  obtain ⟨o, es, ep, t, ho, r⟩ := R
  exact ⟨o, es, ep, t, k o ho, r⟩
theorem elems_of {l : List (Int × Value)} (g : ∀ e ∈ l, ∃ x tk, e = (hashStr w x, Value.str x tk)) : ElemsOf (PySem.strKind P w) l := fun e he => by
  obtain ⟨x, tk, rfl⟩ := g e he
  exact ⟨⟨x, strKind_is P w x tk, rfl⟩, rfl⟩
theorem key_there {l : List (Int × Value)} (g : ∀ e ∈ l, ∃ x tk, e = (hashStr w x, Value.str x tk)) (x : Str) : (∃ e ∈ l, (PySem.strKind P w).is x e.2 = true) ↔ x ∈ l.map fun e => strOf e.2 := by
  rw [List.mem_map]
  refine ⟨fun ⟨e, he, q⟩ => ⟨e, he, ?_⟩, fun ⟨e, he, q⟩ => ⟨e, he, ?_⟩⟩ <;> obtain ⟨y, tk, rfl⟩ := g e he
  · exact (of_decide_eq_true (p := y = x) (by simpa [PySem.strKind, Value.isStrOf] using q))
  · have q' : y = x := q
    subst q'
    exact strKind_is P w y tk

/-- what is stored behind an adding, at one go or with the table laid anew -/
theorem setS_store {P : Program} {A : Around} {E : Value → Shared → Prop} {s : Shared} {o : Obj} {es es1 : Array (Int × Value)} {ep : Nat} {t t2 : SetTable} {dm : Bool} {R : Option Bool → Shared → Prop} {g : Bool → Sem Unit}
    (hg : ∀ (b : Bool) (s1 : Shared) (Q' : Unit → Shared → Prop), Q' () s1 → wpAny (model P w) A (g b) Q' E s1)
    (ho : s.heap.get? a = some o) (hex : o.ExactSet) (hd : o.data = .set es ep t) (g1 : ∀ e ∈ es1.toList, ∃ x tk, e = (hashStr w x, Value.str x tk)) (pk : (es1.toList.map fun e => strOf e.2).Perm ks) (nd : ks.Nodup)
    (hb : es1.size < scanBound) (hf : t2.fits es1.size = true) (hr : Ris t2.place.toList) (hl : w.params.followText "set-order" = true ∨ t2.led = true)
    (fin : ∀ h', Heap.SameBut a s.heap h' → SetS w h' a ks → R (some true) { s with heap := h' }) :
    wpAny (model P w) A (do
        storeSet a es1 t2
        if (!dm && t2.tooFull) = true then do
          let z := relayAll t2 es1 (SetTable.grown es1.size)
          g z.2.2; storeSet a z.1 z.2.1; pure (some true)
        else pure (some true)) R E s := by
  have o1 := store_at (es' := es1) (t' := t2) ho hd
  have k1 := Heap.SameBut.update s.heap a (Obj.putSet es1 t2)
  refine wpAny_bind (wpAny_storeSet_of ho hd ?_ (fits_of_scanBound hb))
  by_cases c : (!dm && t2.tooFull) = true
  · rw [if_pos c]
    have e1 := relayAll_perm t2 es1 (SetTable.grown es1.size)
    have e2 := relayAll_fits t2 es1 (SetTable.grown es1.size)
    have e3 := relayAll_ris t2 es1 (SetTable.grown es1.size)
    have e4 := relayAll_led t2 es1 (SetTable.grown es1.size)
    generalize relayAll t2 es1 (SetTable.grown es1.size) = Z at e1 e2 e3 e4 ⊢
    have e5 : Z.1.size = es1.size := by rw [← Array.length_toList, e1.length_eq, Array.length_toList]
    have b2 : Z.1.size < scanBound := by rw [e5]; exact hb
    refine wpAny_bind (hg _ _ _ (wpAny_bind (wpAny_storeSet_of o1 rfl (wpAny_pure (fin _ (k1.trans (Heap.SameBut.update _ a _)) ?_)) (fits_of_scanBound b2))))
    exact ⟨_, Z.1, _, Z.2.1, store_at (es' := Z.1) (t' := Z.2.1) o1 rfl, hex, rfl, fun e he => g1 e (e1.mem_iff.mp he), (e1.map _).trans pk, nd, b2, e2, e3, hl.imp id (by rw [e4]; exact id)⟩
  · rw [if_neg c]
    exact wpAny_pure (fin _ k1 ⟨_, es1, _, t2, o1, hex, rfl, g1, pk, nd, hb, hf, hr, hl⟩)

theorem setS_add {P : Program} {A : Around} {E : Value → Shared → Prop} {s : Shared} {x : Str} {tk : Tok} {Q : Bool → Shared → Prop} (R : SetS w s.heap a ks) (room : ks.length + 1 < scanBound)
    (hQ : ∀ h' b, Heap.SameBut a s.heap h' → SetS w h' a (if x ∈ ks then ks else x :: ks) → Q b { s with heap := h' }) :
    wpAny (model P w) A (setAddHashed a (.str x tk) ((PySem.strKind P w).hash x)) Q E s := by
  obtain ⟨o, es, ep, t, ho, hex, hd, g, pk, nd, hb, hf, hr, hl⟩ := R
  have hkey : (PySem.strKind P w).is x (.str x tk) = true := strKind_is P w x tk
  have hsc : (Value.str x tk).scannable = true := rfl
  have hel : ElemsOf (PySem.strKind P w) es.toList := elems_of g
  have hn : es.size = ks.length := by
    have e := pk.length_eq
    rwa [List.length_map, Array.length_toList] at e
  unfold setAddHashed setAddHashedIn
  refine wpAny_holding (wpAny_bind (wpAny_setState_of ho hd hf ?_))
  dsimp only
  rw [byScan_of hsc hb hel, if_pos rfl]
  unfold setAddByScan
  refine wpAny_bind (wpAny_bind (wpAny_rule (wpAny_bind (wpAny_setScan_of hkey ho hd hf hel ?_))))
  cases hfi : List.findIdx? (fun e => (PySem.strKind P w).is x e.2) es.toList with
  | some j =>
    dsimp only
    obtain ⟨hj, pj, _⟩ := List.findIdx?_eq_some_iff_getElem.mp hfi
    have hx : x ∈ ks := pk.mem_iff.mp ((key_there (P := P) g x).mp ⟨_, List.getElem_mem hj, pj⟩)
    refine wpAny_pure (wpAny_pure (hQ s.heap false (Heap.SameBut.refl a s.heap) ?_))
    rw [if_pos hx]
    exact ⟨o, es, ep, t, ho, hex, hd, g, pk, nd, hb, hf, hr, hl⟩
  | none =>
    dsimp only
    have hx : x ∉ ks := fun z => by
      obtain ⟨e, he, q⟩ := (key_there (P := P) g x).mpr (pk.mem_iff.mpr z)
      have c := List.findIdx?_eq_none_iff.mp hfi e he
      rw [q] at c
      cases c
    have quiet : ∀ (b : Bool) {s1 : Shared} {Q' : Unit → Shared → Prop}, Q' () s1 → wpAny (model P w) A (match b with | true => rule "set.scan.the-table-gave-way" | false => pure ()) Q' E s1 := by
      intro b s1 Q' q
      cases b
      · exact wpAny_pure q
      · exact wpAny_rule q
    have p1 := layNew_perm t es ((PySem.strKind P w).hash x) (.str x tk)
    have f1 := layNew_fits t es ((PySem.strKind P w).hash x) (.str x tk)
    have r1 := layNew_ris t es ((PySem.strKind P w).hash x) (.str x tk) hr
    have l1 := layNew_led t es ((PySem.strKind P w).hash x) (.str x tk)
    generalize layNew t es ((PySem.strKind P w).hash x) (.str x tk) = Z at p1 f1 r1 l1 ⊢
    obtain ⟨es1, t1, dm, gave⟩ := Z
    dsimp only at p1 f1 r1 l1 ⊢
    rw [Array.toList_push] at p1
    have p2 : es1.toList.Perm ((hashStr w x, Value.str x tk) :: es.toList) := p1.trans (List.perm_append_singleton _ _)
    have p3 : (es1.toList.map fun e => strOf e.2).Perm (x :: ks) := by
      have e := p2.map fun e : Int × Value => strOf e.2
      exact e.trans (pk.cons x)
    have g1 : ∀ e ∈ es1.toList, ∃ x tk, e = (hashStr w x, Value.str x tk) := fun e he =>
      (List.mem_cons.mp (p2.mem_iff.mp he)).elim (fun z => ⟨x, tk, z⟩) (g e)
    have z1 : es1.size = ks.length + 1 := by rw [← Array.length_toList, p2.length_eq, List.length_cons, Array.length_toList, hn]
    have led : w.params.followText "set-order" = true ∨ t1.led = true := hl.imp id (by rw [l1]; exact id)
    have fin : ∀ h', Heap.SameBut a s.heap h' → SetS w h' a (x :: ks) → Q true { s with heap := h' } := fun h' sb r => hQ h' true sb (by rw [if_neg hx]; exact r)
    have nd1 : (x :: ks).Nodup := List.nodup_cons.mpr ⟨hx, nd⟩
    refine wpAny_bind (quiet _ ?_)
    have hs1 : es1.size < scanBound := by rw [z1]; exact room
    split
    · refine wpAny_bind ?_
      rw [hashByValue_scannable 8 hsc]
      refine wpAny_pure (setS_store (g := fun b => match b with | true => rule "set.scan.the-table-gave-way" | false => pure ()) (fun b s1 Q' q => quiet b q) ho hex hd g1 p3 nd1 hs1 ?_ ?_ ?_ fun h' sb r => wpAny_pure (fin h' sb r))
      all_goals (first | (split <;> first | exact f1 | exact SetTable.fits_plain_off f1 | exact r1 | exact led) | exact f1 | exact r1 | exact led)
    · refine wpAny_bind (wpAny_pure ?_)
      exact setS_store (g := fun b => match b with | true => rule "set.scan.the-table-gave-way" | false => pure ()) (fun b s1 Q' q => quiet b q) ho hex hd g1 p3 nd1 hs1 f1 r1 led fun h' sb r => wpAny_pure (fin h' sb r)
end
end Tx

set_option Elab.async false
set_option linter.all false
set_option maxRecDepth 100000
set_option maxHeartbeats 4000000
namespace Tx
open PySem PySem.Spec PyProof.Rows L2

/-- ks are the texts of the first i items, each once -/
def FirstOf (xs : List Str) (i : Nat) (ks : List Str) : Prop := ks.length ≤ i ∧ ks.Nodup ∧ ∀ x, x ∈ ks ↔ x ∈ xs.take i
theorem FirstOf.next {xs ks : List Str} {i : Nat} {x : Str} (f : FirstOf xs i ks) (h : xs[i]? = some x) : FirstOf xs (i + 1) (if x ∈ ks then ks else x :: ks) := by
  obtain ⟨f1, f2, f3⟩ := f
  have e : xs.take (i + 1) = xs.take i ++ [x] := by rw [List.take_add_one, h] <;> rfl
  by_cases c : x ∈ ks
  · rw [if_pos c]
    refine ⟨by omega, f2, fun y => ?_⟩
    rw [e, List.mem_append, ← f3 y, List.mem_singleton]
    exact ⟨.inl, fun z => z.elim id fun z => z ▸ c⟩
  · rw [if_neg c]
    refine ⟨by rw [List.length_cons]; omega, List.nodup_cons.mpr ⟨c, f2⟩, fun y => ?_⟩
    rw [e, List.mem_append, ← f3 y, List.mem_singleton, List.mem_cons]
    exact Or.comm

section
variable {P : Program} {w : World} {A : Around} {E : Value → Shared → Prop}
theorem setS_update {I S : Addr} {fp wr : List Addr} {G : Array GenState → Array GenState → Prop} {n : Nat} {Pv : Nat → Value → Prop} {St : Nat → Shared → Prop} {R : Result → Shared → Prop} {xs : List Str}
    (W : WalksS P w A.in1 I fp wr G n Pv St) (hS : S ∉ fp) (hn : n = xs.length) (hb : n + 1 < scanBound) (hv : ∀ i v, Pv i v → ∃ x t, xs[i]? = some x ∧ v = .str x t) :
    ∀ (m i : Nat) (s : Shared) (ks : List Str), n - i = m → i ≤ n → St i s → FirstOf xs i ks → SetS w s.heap S ks →
      (∀ s' ks', Moved (S :: wr) G s s' → FirstOf xs n ks' → SetS w s'.heap S ks' → R (.ok (.ret .none)) s') →
      codeAny (model P w) A (.builtin "set.update.loop" ⟨[.ref S, .ref I], []⟩) R s := by
  have hw : S ∉ wr := fun z => hS (W.sub _ z)
  have up : ∀ b ∈ wr, b ∈ S :: wr := fun b z => List.mem_cons_of_mem _ z
  intro m
  induction m with
  | zero =>
    intro i s ks e1 e2 st f hk q
    obtain rfl : i = n := by omega
    refine codeAny_builtin F.entry_set_update_loop ?_
    rw [Around.under_plainId F.plain_set_update_loop _]
    refine wpAny_bind (m := pyNext (.ref I)) (W.done s _ _ st fun s' mv => ?_)
    exact wpAny_pure (q s' ks (mv.mono up) f (hk.keep fun o z => mv.heap S o hw z))
  | succ m ih =>
    intro i s ks e1 e2 st f hk q
    have lt : i < n := by omega
    refine codeAny_builtin F.entry_set_update_loop ?_
    rw [Around.under_plainId F.plain_set_update_loop _]
    refine wpAny_bind (m := pyNext (.ref I)) (W.item i s _ _ lt st fun v s' pv st' mv => ?_)
    obtain ⟨x, t, hx, rfl⟩ := hv i v pv
    have hk' : SetS w s'.heap S ks := hk.keep fun o z => mv.heap S o hw z
    refine wpAny_bind (m := holding [Value.str x t] (setAdd S (.str x t))) (wpAny_holding ?_)
    unfold setAdd
    refine wpAny_holding (wpAny_bind ((PySem.strKind P w).pyHash (k := x) (strKind_is _ _ _ _) ?_))
    refine setS_add (s := { s' with toks := s'.toks + 1 }) hk' (by have := f.1; omega) fun h' b sb hk2 => ?_
    refine wpAny_pure ⟨plainId_quiet F.plain_set_update_loop _, ih (i + 1) _ _ (by omega) lt (W.frame _ s' _ _ st' (Nat.le_succ _) fun c hc o z => ?_) (f.next hx) hk2 fun s2 ks2 mv2 f2 hk3 => ?_⟩
    · rw [sb.2 c fun z' : c = S => hS (z' ▸ hc)]; exact z
    · refine q s2 ks2 (Moved.trans W.gtrans ((mv.mono up).then_heap (Nat.le_succ _) fun c o hc z => ?_) mv2) f2 hk3
      rw [sb.2 c fun z' : c = S => hc (by rw [z']; exact List.mem_cons_self)]; exact z

def freshSet (w : World) : Obj := { cls := .type "set", dict := none, data := .set #[] 0 (.fresh 0 0 (!w.params.followText "set-order")) }
theorem fresh_ok {h : Heap} {a : Addr} (e : h.get? a = some (freshSet w)) : SetS w h a [] :=
  ⟨_, #[], 0, _, e, ⟨rfl, rfl, rfl⟩, rfl, fun e z => by simp at z, List.Perm.refl _, List.nodup_nil, by decide, rfl, List.Pairwise.nil, by
    show _ ∨ (!w.params.followText "set-order") = true
    cases w.params.followText "set-order"
    · exact .inr rfl
    · exact .inl rfl⟩

set_option maxHeartbeats 6400000 in
theorem call_setS {s : Shared} {l : Addr} {items : Array Value} {xs : List Str} {Q : Value → Shared → Prop} (hh : A.handled = none) (hl : s.heap.IsList l items) (hi : StrsAre items.toList xs) (hb : xs.length + 1 < scanBound)
    (h : ∀ h' tk ks, FirstOf xs xs.length ks → SetS w h' s.heap.objs.size ks → (∀ b o, s.heap.get? b = some o → h'.get? b = some o) → Q (.ref s.heap.objs.size) { s with heap := h', toks := tk }) :
    wpAny (model P w) A (call (.type "set") [.ref l]) Q E s := by
  have hsz : xs.length = items.size := by rw [← StrsAre.len_eq hi, Array.length_toList]
  obtain ⟨c, tl, hmro⟩ := F.called_set.mro
  have hmade := F.called_set.made
  have hsub := F.called_set.sub
  refine wpAny_call (codeAny_of_tree (show wpAny _ _ (callAny (.type "set") _) _ _ _ from ?_))
  refine wpAny_pure ⟨Code.quiet_builtin _ (by decide +kernel), codeAny_builtin F.entry_type_call ?_⟩
  rw [Around.under_plain (weight_type_call_type "set" [.ref l] []) rfl]
  have h1 := F.called_set.notType
  have h2 := F.called_set.canCreate
  have hct := F.typeCall_set_1 (.ref l)
  repeat (any_goals (first | assumption | wp_step))
  refine codeAny_mono (code_set_led1 (.ref l) (E := E) (Q₁ := fun obj s1 => obj = .ref s.heap.objs.size ∧ s1 = { s with heap := s.heap.push (freshSet w) }) ⟨rfl, rfl⟩) fun r s1 hr => ?_
  rcases r with e | fl
  · exact hr
  · rcases fl with obj | _ | _ | _
    all_goals first | exact hr.elim | skip
    obtain ⟨rfl, rfl⟩ := hr
    have at0 : (s.heap.push (freshSet w)).get? s.heap.objs.size = some (freshSet w) := Heap.get?_push_size _ rfl
    have hT : Shared.TypeIs { s with heap := s.heap.push (freshSet w) } (.ref s.heap.objs.size) "set" := ⟨_, at0, rfl⟩
    have hli := F.called_set.init.lookup
    have hbi := F.called_set.init.bind (.ref s.heap.objs.size)
    repeat (any_goals (first | assumption | wp_step))
    refine codeAny_mono (codeAny_call_builtin (R := wants (fun r s2 => r = .none ∧ ∃ h' tk ks, s2 = { s with heap := h', toks := tk } ∧ FirstOf xs xs.length ks ∧ SetS w h' s.heap.objs.size ks ∧
      ∀ b o, s.heap.get? b = some o → h'.get? b = some o) E) F.called_set.init.plain F.entry_set_init (check_set_init_1 hT ?_)) fun r2 s2 hr2 => ?_
    · obtain ⟨⟨oc, od, oa, os⟩, hol, hcl, nl, hdl⟩ := hl
      simp only at hcl hdl
      subst hcl; subst hdl
      have lt := Heap.lt_size hol
      have hol' : (s.heap.push (freshSet w)).get? l = some { cls := .type "list", dict := od, data := .seq items nl, slots := os } := Heap.get?_push_of_some _ hol
      have hl1 : (s.heap.push (freshSet w)).IsList l items := ⟨_, hol', rfl, nl, rfl⟩
      have f1 := F.sub_list_set
      have f2 := F.sub_list_frozenset
      have f3 : (Value.type "list" == Value.type "dict") = false := by decide
      unfold Builtin.«set.__init__» noKeywords Builtin.Frozenset.updateFrom
      generalize hPI : pyIter = PI
      wp_walk
      subst hPI
      refine wpAny_pyIter_list hl1 (wpAny_bind (wpAny_runValue ?_))
      have hh3 : A.in1.in1.in1.handled = none := by simp [hh]
      have sz : (s.heap.push (freshSet w)).objs.size = s.heap.objs.size + 1 := Heap.size_push ..
      have neI : l ≠ (s.heap.push (freshSet w)).objs.size := by rw [sz]; exact Nat.ne_of_lt (Nat.lt_succ_of_lt lt)
      have nS : s.heap.objs.size ∉ [(s.heap.push (freshSet w)).objs.size, l] := by
        rw [sz]
        simp only [List.mem_cons, List.mem_singleton, List.not_mem_nil, or_false, not_or]
        exact ⟨Nat.ne_of_lt (Nat.lt_succ_self _), Nat.ne_of_gt lt⟩
      have hv : ∀ (i : Nat) (v : Value), items[i]? = some v → ∃ x t, xs[i]? = some x ∧ v = .str x t := fun i v z => by
        have lti : i < xs.length := by rw [hsz]; exact (Array.getElem?_eq_some_iff.mp z).1
        obtain ⟨t, e⟩ := SS.strs_at hi i v (by rw [Array.getElem?_toList]; exact z)
        refine ⟨xs[i], t, List.getElem?_eq_getElem lti, ?_⟩
        rw [e, List.getD_eq_getElem?_getD, List.getElem?_eq_getElem lti] <;> rfl
      refine setS_update ((Walks.list hh3 _ l neI items).toS) nS hsz.symm (by rw [← hsz]; exact hb) hv items.size 0 _ [] (Nat.sub_zero _) (Nat.zero_le _)
        ⟨⟨_, Heap.get?_push_size _ rfl, rfl, rfl⟩, hl1.push _⟩ ⟨Nat.le_refl _, List.nodup_nil, fun x => by rw [List.take_zero]⟩ (fresh_ok (Heap.get?_push_of_some _ at0)) fun s3 ks mv fo hk => ?_
      obtain ⟨h3, g3, d3, t3, o3⟩ := s3
      obtain rfl : g3 = s.gens := mv.gens
      obtain rfl : d3 = s.drawn := mv.drawn
      obtain rfl : o3 = s.os := mv.os
      rw [← hsz] at fo
      refine wpAny_pure (wpAny_pure (a := Fin.done (.ret Value.none)) ⟨rfl, h3, t3, ks, rfl, fo, hk, fun b o e => ?_⟩)
      have lb := Heap.lt_size e
      refine mv.heap b o ?_ (Heap.get?_push_of_some _ (Heap.get?_push_of_some _ e))
      rw [sz]
      simp only [List.mem_cons, List.mem_singleton, List.not_mem_nil, or_false, not_or]
      exact ⟨Nat.ne_of_lt lb, Nat.ne_of_lt (Nat.lt_succ_of_lt lb)⟩
    · rcases r2 with e | fl
      · exact hr2
      · rcases fl with r | _ | _ | _
        all_goals first | exact hr2.elim | skip
        obtain ⟨rfl, h', tk, ks, rfl, fo, hk, kp⟩ := hr2
        repeat (any_goals (first | assumption | wp_step))
        exact h _ _ _ fo hk kp
end
end Tx

set_option Elab.async false
set_option linter.all false
set_option maxRecDepth 100000
set_option maxHeartbeats 4000000
namespace Tx
open PySem PySem.Spec PyProof.Rows L2
/-- the set of the texts ks at a -/
def SetSO (w : World) (a : Addr) (ks : List Str) : HO := .ext fun h => SetS w h a ks
section
variable {X : Cx} {pins : List (Addr × Obj)} {σ : L2.St} {H : Hp}
theorem setSO_new {w : World} {P : Program} {h : Heap} {a : Addr} {ks : List Str} (R : SetS w h a ks) : ObjOk P w H h a (SetSO w a ks) := by
  have ⟨o, _, _, _, e, _⟩ := R
  exact ⟨R, ⟨o, e⟩, fun _ _ r k => r.keep k⟩
theorem setSO_get {s : Shared} {a : Addr} {ks : List Str} (I : Inv X pins σ H s) (e : H a = some (SetSO X.w a ks)) : SetS X.w s.heap a ks := (I.hok a _ e).1
/-- set(xs), a list of texts -/
def rSetS (K : PySem.W.Frag) (w : World) : List V → Hp → VK → Prop := fun vs H Q => ∃ (l : Addr) (xs : List Str), vs = [V.ref l] ∧ SqL K H l (xs.map V.str) ∧ xs.length < 4000 ∧
  ∀ p ks, FirstOf xs xs.length ks → H p = none → Q (.ref p) (upd H p (SetSO w p ks))
theorem cr_setS (hc : X.calm = true) : CallR X (.type "set") (rSetS X.K X.w) := by
  intro pins s σ H vs us Q I r h
  obtain ⟨l, xs, rfl, hs, hb, q⟩ := h
  rw [Vals.ref1 r]
  obtain ⟨its, rv, pl, hz⟩ := I.list hs
  refine call_setS (I.ok.hd hc) pl.isList (by simpa using rv.strs) (by unfold scanBound; omega) fun h' tk ks fo hk kp => ?_
  exact ⟨.ref s.heap.objs.size, upd H s.heap.objs.size (SetSO X.w s.heap.objs.size ks), I.laid (t' := tk) kp (Nat.le_refl _) (setSO_new hk), rfl, q _ ks fo (I.hok.fresh (Nat.le_refl _))⟩
/-- sorted(found), a set of texts -/
def rSortSet (w : World) : List V → Hp → VK → Prop := fun vs H Q => ∃ (a : Addr) (ks : List Str), vs = [V.ref a] ∧ H a = some (SetSO w a ks) ∧
  ∀ ys p, ys.Perm ks → sortedS ys = true → H p = none → Q (.ref p) (upd H p (.lst (ys.map V.str)))
theorem cr_sortSet (hc : X.calm = true) : CallR X (.builtin "sorted") (rSortSet X.w) := by
  intro pins s σ H vs us Q I r h
  obtain ⟨a, ks, rfl, ha, q⟩ := h
  rw [Vals.ref1 r]
  obtain ⟨o, es, ep, t, ho, hex, hd, g, pk, nd, hb, hf, hr, hl⟩ := setSO_get I ha
  refine Calls.call_function_entry kind_sorted plain_sorted entry_sorted (args_sorted1 _) ?_
  unfold Builtin.«sorted»
  refine wpAny_bind (m := checkCount "sorted" 1 1 _) (wpAny_pure ?_)
  refine wpAny_bind (collect_set (A := X.A.in1) (I.ok.hd hc) ⟨o, ho, hex.1, hd⟩ hf hb hr hl fun s' out kp hz hg hos pm => ?_)
  have hS : StrsAre out (out.map strOf) := strsAre_map out fun v hv => by
    obtain ⟨e, he, rfl⟩ := List.mem_map.mp (pm.mem_iff.mp hv)
    obtain ⟨x, tk, rfl⟩ := g e he
    exact ⟨x, tk, rfl⟩
  have p2 : (out.map strOf).Perm ks := by
    have e := pm.map strOf
    rw [List.map_map] at e
    exact e.trans pk
  have J : Inv X pins σ H { s with heap := s'.heap, gens := s'.gens, drawn := s'.drawn, toks := s'.toks } :=
    I.call (ch := []) (Un.kept kp) (I.hok.kept kp) (by rw [hg]; exact I.bare) (fun _ z => nomatch z)
  have e : s' = { s with heap := s'.heap, gens := s'.gens, drawn := s'.drawn, toks := s'.toks } := by
    obtain ⟨⟩ := s'
    obtain ⟨⟩ := s
    cases hos
    rfl
  rw [e]
  refine sortTail J hS ?_ fun ys p y1 y2 y3 => q ys p (y1.trans p2) y2 y3
  rw [pm.length_eq, List.length_map, Array.length_toList]
  exact fits_of_scanBound hb
end
end Tx

set_option Elab.async false
set_option linter.all false
set_option maxRecDepth 100000
namespace Tx
open PySem PySem.Spec PyProof.Rows L2
/-- the def st stands at the module's name x -/
def Top (K : PySem.W.Frag) (mg : Str → Option Value) (x : Str) (st : Stmt) : Prop := ∃ f fd, mg x = some (.ref f) ∧ Fun K x x st f fd
theorem top_mk {K : PySem.W.Frag} {h : Heap} {mg : Str → Option Value} {x : Str} {st : Stmt} {f : Addr} {oc kV doc pm cdv ct : Value} {od an : Option Addr} {osl : Array (Option Value)} (X : K.In h) (G : h.Ns mainGlobals mg)
    (a : PySem.W.nsIn K mainGlobals x = some (some (.ref f))) (l : K.lookup f = some ⟨oc, od, .func (PySem.W.fnOf x x (defArgs st) (defBody st) (defScope st) .none kV doc pm an cdv ct), osl⟩)
    (c : PySem.W.codeIn K cdv x = true) (k : PySem.W.keepIn K (.ref f) = true) : Top K mg x st := ⟨f, _, PySem.W.mg_of X G a, fun_mk l c k⟩
/-- and keeps its promise -/
structure Dn (P : Program) (w : World) (K : PySem.W.Frag) (mg : Str → Option Value) (base : Heap) (k : Nat) (x : Str) (st : Stmt) (ps : List Str) (sp : Sp) : Prop where
  ex : ∃ f fd, mg x = some (.ref f) ∧ Fun K x x st f fd ∧ FnOk P w K mg base CX0 k f fd ps sp
  plain : ∀ (kV doc pm : Value) (an : Option Addr) (cdv ct : Value) (us : List Value), us.length = ps.length → bindArgs (PySem.W.fnOf x x (defArgs st) (defBody st) (defScope st) .none kV doc pm an cdv ct) ⟨us, []⟩ = pure (ps.zip us)
section
variable {X : Cx} {k : Nat} {x : Str} {st : Stmt} {ps : List Str} {sp : Sp} {p pos : Pos} {e : Expr} {es : List Expr} {t : TA}
theorem pe_fn (D : Dn X.prog X.w X.K X.mg X.base k x st ps sp) (hr : Room k X.A) (hg : Gl X x) (ha : PA X (e :: es) t) (hdb : (x == ("__debug__" : Str)) = false := by decide)
    (he : starEach (e :: es) X.env = (false, eval e X.env) :: starEach es X.env := by rfl) (hpl : (backTo pos (starEach es X.env)).any (·.1) = false := by rfl) : PE X (.Call (.Name x p) (e :: es) [] pos) (tCall sp [] E0 t) := by
  obtain ⟨f, fd, hm, F, G⟩ := D.ex
  exact pe_call G hr hg hm F.kp (F.binds D.plain) .nil pass0 ha hdb he hpl
variable {kws : List Keyword} {ks : List Str} {g : List Value → List Value → List Value} {gV : List V → List V → List V} {tk : TA}
/-- f(k = v, ..), keywords alone -/
theorem pe_fnK (D : Dn X.prog X.w X.K X.mg X.base k x st ps sp) (hr : Room k X.A) (hg : Gl X x) (hkw : PK X kws tk)
    (hb : ∀ fd, (∃ kV doc pm an cdv ct, fd = PySem.W.fnOf x x (defArgs st) (defBody st) (defScope st) .none kV doc pm an cdv ct) → KBinds X.K fd ps ks g gV)
    (hall : (backToKw pos (keywordEach kws X.env)).all (·.1.isSome) = true := by rfl) (hks : (backToKw pos (keywordEach kws X.env)).filterMap (·.1) = ks := by rfl) (hdb : (x == ("__debug__" : Str)) = false := by decide)
    (hpl : ((backTo pos (starEach [] X.env)).any (·.1) || (backToKw pos (keywordEach kws X.env)).any (·.1.isNone)) = false := by rfl) :
    PE X (.Call (.Name x p) [] kws pos) (tCallK sp gV E0 tNil tk) := by
  obtain ⟨f, fd, hm, F, G⟩ := D.ex
  obtain ⟨oc, od, kV, doc, pm, an, cdv, ct, osl, rfl, lk, hcd⟩ := id F.ex
  refine ⟨fun pins s σ H Q I h => wpAny_Call_Name_kw (ld_glob I hg hm ?_ hdb)⟩
  refine PySem.W.callWith_KW0 (h₀ := X.base) I.ok.mod.kin F.kp hall (thn (hkw.run pos pins s σ H _ I h) fun ws s2 ⟨zs, H2, I2, rz, q2⟩ => ⟨I2.kIn, ?_⟩) hpl
  rw [hks]
  exact run_fnk (us := []) (vs := []) G hr (hb _ ⟨kV, doc, pm, an, cdv, ct, rfl⟩) pass0 I2 .nil rz q2
end
theorem fold_rep (x : Array Nat) : ∀ (n : Nat) (acc : Array Nat), ((List.replicate n x).foldl (· ++ ·) acc).toList = acc.toList ++ (List.replicate n x.toList).flatten
  | 0, acc => by simp
  | n + 1, acc => by
    rw [List.replicate_succ, List.foldl_cons, fold_rep x n, List.replicate_succ, List.flatten_cons, Array.toList_append, List.append_assoc]
theorem mul_tl (z : Str) (n : Int) (h : 1 ≤ n) : Txt.mul z n = ⟨((List.replicate n.toNat z.cps.toList).flatten).toArray⟩ := by
  refine Str.ext' (Array.toList_inj.mp ?_)
  unfold Txt.mul
  rw [if_neg (by omega)]
  by_cases c : (n == 1 || z.length == 0) = true
  · rw [if_pos c]
    rcases Bool.or_eq_true_iff.mp c with e | e
    · have e : n = 1 := by simpa using e
      subst e
      simp
    · have e : z.cps.toList = [] := by
        have e : z.cps.size = 0 := by simpa [Str.length] using e
        simpa using e
      show z.cps.toList = _
      rw [e]
      simp
  · rw [if_neg c]
    show ((List.replicate n.toNat z.cps).foldl (· ++ ·) #[]).toList = _
    rw [fold_rep]
    simp
/-- text * number -/
theorem op_mulS {X : Cx} : OpR X (binaryOp .Mult) (fun x y H Q => ∃ z n, x = .str z ∧ y = .int n ∧ 1 ≤ n ∧ n ≤ 1000000 ∧ z.length * n.toNat ≤ 16000000 ∧ Q (.str ⟨((List.replicate n.toNat z.cps.toList).flatten).toArray⟩) H) := by
  intro pins s σ H x y u v Q I rx ry h
  obtain ⟨z, n, rfl, rfl, h1, h2, h3, q⟩ := h
  obtain ⟨t, rfl⟩ := rx
  obtain ⟨t', rfl⟩ := ry
  rw [← mul_tl z n h1] at q
  have b : z.length ≤ 16000000 := by
    have e : 1 ≤ n.toNat := by omega
    have := Nat.mul_le_mul_left z.length e
    omega
  refine SB.mul ⟨by simp; omega, fun _ _ hc => ?_, fun _ _ => ?_⟩ fun t' k => ⟨V.str (Txt.mul z n), H, I.tok _, ⟨_, rfl⟩, q⟩
  · have e : (16000000 : Int) ≤ (2 ^ 63 - 1) / n := by
      refine (Int.le_ediv_iff_mul_le (by omega)).mpr ?_
      omega
    omega
  · unfold Builtin.Str.tooLong
    refine decide_eq_false ?_
    have : sizeLine = 16777216 := sizeLine_eq
    omega
end Tx

set_option Elab.async false
set_option linter.all false
set_option maxRecDepth 100000
set_option maxHeartbeats 1000000
namespace Tx
open PySem PySem.Spec PyProof.Rows L2 TL
/-- how a def of plain parameters takes its arguments -/
abbrev PlainB (x : Str) (st : Stmt) (ps : List Str) : Prop := ∀ (kV doc pm : Value) (an : Option Addr) (cdv ct : Value) (us : List Value), us.length = ps.length → bindArgs (PySem.W.fnOf x x (defArgs st) (defBody st) (defScope st) .none kV doc pm an cdv ct) ⟨us, []⟩ = pure (ps.zip us)
section
variable {P : Program} {w : World} {K : PySem.W.Frag} {mg : Str → Option Value} {base : Heap}
/-- a def keeps its promise, by its body -/
theorem dn_of {x : Str} {st : Stmt} {N ps : List Str} {k : Nat} {sp : Sp} (T : Top K mg x st) (S : FnScope N ps (defScope st)) (pl : PlainB x st ps) (len : ∀ vs H Q E, sp vs H Q E → vs.length = ps.length)
    (body : ∀ (f : Addr) (cdv : Value) (A : Around) (outer : List Env) (s : Shared) (H : Hp) (vs : List V) (Q : VK) (E : XK), Room k (A.deeper (envOfC x (defScope st) s.heap.objs.size f cdv)) → sp vs H Q E →
      ∃ t, PSs (cxOf CX0 P w K mg base N x (defScope st) f cdv A outer s H E).nox (defBody st) t ∧ t { nx := fun _ H' => Q .non H', rt := Q } (start N vs) H) : Dn P w K mg base (k + 1) x st ps sp := by
  obtain ⟨f, fd, hm, F⟩ := T
  exact ⟨⟨f, fd, hm, F, F.ok S len fun cdv A outer s H vs Q E hr h => body f cdv A outer s H vs Q E hr h⟩, pl⟩
end
/-- the built-in names that the module's top leaves as they are -/
structure Bt (mg : Str → Option Value) : Prop where
  len : mg "len" = none
  isi : mg "isinstance" = none
  int : mg "int" = none
  str : mg "str" = none
  bool : mg "bool" = none
  list : mg "list" = none
  tuple : mg "tuple" = none
  set : mg "set" = none
  range : mg "range" = none
  sorted : mg "sorted" = none
  min : mg "min" = none
  max : mg "max" = none
  abs : mg "abs" = none
  all : mg "all" = none
  zip : mg "zip" = none
  any : mg "any" = none
  sum : mg "sum" = none
  enum : mg "enumerate" = none
  repr : mg "repr" = none
  dict : mg "dict" = none
theorem same_upd {H : Hp} {p : Addr} {o : HO} (h : H p = none) : Same H (upd H p o) := fun b x e => by
  rw [upd_ne (ne_of_none e h)]; exact e
/-- what is new stays apart: a write to it keeps what was -/
theorem wr {H H' : Hp} {p : Addr} {o : HO} (s : Same H H') (h : H p = none) : Same H (upd H' p o) := fun b x e => by
  rw [upd_ne (ne_of_none e h)]; exact s b x e

theorem grown {A : Type} (f : Nat → A) (i : Nat) : (List.range i).map f ++ [f i] = (List.range (i + 1)).map f := by
  rw [List.range_succ, List.map_append]; rfl
theorem grown_len {A : Type} (f : Nat → A) {i n : Nat} (h : i < n) (hn : n ≤ 1000000) : ((List.range i).map f).length < sizeLine := by
  rw [List.length_map, List.length_range]
  exact Nat.lt_of_lt_of_le (Nat.lt_of_lt_of_le h hn) (by decide)
/-- a comprehension without a test -/
theorem lc_yes {te : TE} {σ : L2.St} {H : Hp} {Nx : VK} {B : Hp → Prop} (h : te σ H Nx) : tYes σ H (fun b H3 => if b = true then te σ H3 Nx else B H3) := by
  show (if true = true then te σ H Nx else B H)
  rw [if_pos rfl]
  exact h
/-- a comprehension over a text -/
theorem lc_text {z : Str} {g : TG} {tt : TT} {te : TE} {vs : List Nat} {σ : L2.St} {H1 : Hp} {D : Addr} {Qd : Hp → Prop} (Pv : Nat → Hp → Prop) (h0 : Pv 0 (upd H1 D (.lst [])))
    (hs : ∀ i c H, z.cps.toList[i]? = some c → Pv i H → g (.str ⟨#[c]⟩) (wipe σ vs) H fun σ2 H2 => wipe σ2 vs = wipe σ vs ∧ tt σ2 H2 fun b H3 =>
      if b = true then te σ2 H3 fun y H4 => ∃ acc, H4 D = some (.lst acc) ∧ acc.length < sizeLine ∧ Pv (i + 1) (upd H4 D (.lst (acc ++ [y]))) else Pv (i + 1) H3)
    (hd : ∀ H, Pv z.cps.size H → Qd H) :
    ∃ W : Nat → Nat → Hp → Prop, (∃ m, W 0 m (upd H1 D (.lst []))) ∧ ∀ i m H, W i m H →
      ((Its z).stop i H ∧ Qd H) ∨ ((Its z).go i H ∧ ∃ Nx : Hp → Prop, (∀ H', Nx H' → ∃ m', m' < m ∧ W (i + 1) m' H') ∧ ∀ x H', (Its z).yld i H x H' → g x (wipe σ vs) H' fun σ2 H2 => wipe σ2 vs = wipe σ vs ∧ tt σ2 H2 fun b H3 =>
        if b = true then te σ2 H3 fun y H4 => ∃ acc, H4 D = some (.lst acc) ∧ acc.length < sizeLine ∧ Nx (upd H4 D (.lst (acc ++ [y]))) else Nx H3) := by
  refine ⟨fun i m H => m + i = z.cps.size ∧ Pv i H, ⟨z.cps.size, rfl, h0⟩, fun i m H ⟨e, p⟩ => ?_⟩
  by_cases lt : i < z.cps.size
  · refine .inr ⟨lt, Pv (i + 1), fun H' p' => ⟨m - 1, by omega, by omega, p'⟩, fun x H' y => ?_⟩
    obtain ⟨rfl, c, hc, rfl⟩ := y
    exact hs i c _ (by rw [Array.getElem?_toList]; exact hc) p
  · obtain rfl : i = z.cps.size := by omega
    exact .inl ⟨Nat.le_refl _, hd H p⟩
/-- a text of small letters -/
def Low (z : Str) : Prop := ∀ c ∈ tl z, 97 ≤ c ∧ c ≤ 122
theorem tl_one (c : Nat) : tl ⟨#[c]⟩ = [c] := rfl
theorem le_one {c d : Nat} : (!decide (tl ⟨#[d]⟩ < tl ⟨#[c]⟩)) = decide (c ≤ d) := by
  rw [tl_one, tl_one]
  by_cases h : c ≤ d
  · rw [decide_eq_true h]
    simp [List.cons_lt_cons_iff]
    omega
  · rw [decide_eq_false h]
    simp [List.cons_lt_cons_iff]
    omega
theorem str_a : Str.ofString "a" = ⟨#[97]⟩ := by decide +kernel
theorem str_z : Str.ofString "z" = ⟨#[122]⟩ := by decide +kernel
theorem low_a {c : Nat} (h : 97 ≤ c) : (!decide ((⟨#[c]⟩ : Str).cps.toList < (Str.ofString "a").cps.toList)) = true := by
  rw [str_a]; exact le_one.trans (decide_eq_true h)
theorem low_z {c : Nat} (h : c ≤ 122) : (!decide ((Str.ofString "z").cps.toList < (⟨#[c]⟩ : Str).cps.toList)) = true := by
  rw [str_z]; exact le_one.trans (decide_eq_true h)
theorem trues (n : Nat) : (List.range n).map (fun _ => V.bl true) = (List.replicate n true).map V.bl := by
  induction n with
  | zero => rfl
  | succ n ih => rw [List.range_succ, List.map_append, ih, List.replicate_succ', List.map_append]; rfl
theorem all_trues (n : Nat) : (List.replicate n true).all id = true := by
  induction n with
  | zero => rfl
  | succ n ih => rw [List.replicate_succ, List.all_cons, ih]; rfl

/-! ### texts as lists of signs -/
def mkS (l : List Nat) : Str := ⟨l.toArray⟩
theorem tl_mkS (l : List Nat) : tl (mkS l) = l := rfl
theorem len_mkS (l : List Nat) : (mkS l).length = l.length := by rw [len_tl, tl_mkS]
theorem mkS_tl (z : Str) : mkS (tl z) = z := ext_tl rfl
def cut (l : List Nat) (i n : Nat) : List Nat := (l.drop i).take n
theorem cutS_mid (z : Str) (i n : Nat) (h : i + n ≤ z.length) : cutS z (some (i : Int)) (some ((i : Int) + (n : Int))) = mkS (cut (tl z) i n) := by
  refine ext_tl ?_
  have e : ((i : Int) + (n : Int)) = ((i + n : Nat) : Int) := by omega
  rw [e]
  unfold cutS
  rw [HT.sIx_nat, HT.sIx_nat, Nat.min_eq_left (show i ≤ z.length by omega), Nat.min_eq_left h, show i + n - i = n by omega]
  rfl
theorem cutS_to (z : Str) (n : Nat) (h : n ≤ z.length) : cutS z none (some (n : Int)) = mkS ((tl z).take n) := by
  refine ext_tl ?_
  unfold cutS
  rw [HT.sIx_nat, HT.sIx_none, Nat.min_eq_left h]
  rfl
/-- all texts of n letters that stand in a text, from the left -/
def steps (n : Nat) (l : List Nat) : List Str := (List.range (l.length + 1 - n)).map fun i => mkS (cut l i n)
/-- a ring text read once round and on -/
def unroll (l : List Nat) (m : Nat) : List Nat := ((List.replicate (m / l.length + 2) l).flatten).take (l.length + m)
/-- its windows, letter by letter -/
def turns (n : Nat) (l : List Nat) : List Str := (List.range l.length).map fun a => mkS ((List.range n).map fun k => l.getD ((a + k) % l.length) 0)
theorem rep_get (l : List Nat) (hl : 0 < l.length) : ∀ (n i : Nat), i < n * l.length → ((List.replicate n l).flatten)[i]? = l[i % l.length]?
  | 0, i, h => by omega
  | n + 1, i, h => by
    rw [List.replicate_succ, List.flatten_cons]
    by_cases lt : i < l.length
    · rw [List.getElem?_append_left lt, Nat.mod_eq_of_lt lt]
    · have e : (n + 1) * l.length = n * l.length + l.length := Nat.succ_mul n l.length
      rw [List.getElem?_append_right (by omega), rep_get l hl n (i - l.length) (by omega), ← Nat.mod_eq_sub_mod (by omega)]
theorem unroll_get (l : List Nat) (hl : 0 < l.length) (m i : Nat) (h : i < l.length + m) : (unroll l m)[i]? = l[i % l.length]? := by
  unfold unroll
  rw [List.getElem?_take_of_lt h]
  refine rep_get l hl _ i ?_
  have h1 := Nat.div_add_mod m l.length
  have h2 := Nat.mod_lt m hl
  have h3 : (m / l.length + 2) * l.length = l.length * (m / l.length) + 2 * l.length := by
    rw [Nat.add_mul, Nat.mul_comm]
  omega
theorem unroll_len (l : List Nat) (hl : 0 < l.length) (m : Nat) : (unroll l m).length = l.length + m := by
  unfold unroll
  rw [List.length_take, List.length_flatten, List.map_replicate, List.sum_replicate_nat]
  have h1 := Nat.div_add_mod m l.length
  have h2 := Nat.mod_lt m hl
  have h3 : (m / l.length + 2) * l.length = l.length * (m / l.length) + 2 * l.length := by
    rw [Nat.add_mul, Nat.mul_comm]
  omega
/-- what is read on the unrolled text is what is read round -/
theorem steps_unroll (l : List Nat) (hl : 0 < l.length) (n : Nat) (hn : 1 ≤ n) : steps n (unroll l (n - 1)) = turns n l := by
  unfold steps turns
  rw [unroll_len l hl, show l.length + (n - 1) + 1 - n = l.length by omega]
  refine List.map_congr_left fun i hi => ?_
  have hi := List.mem_range.mp hi
  refine congrArg mkS ?_
  refine List.ext_getElem? fun j => ?_
  unfold cut
  rw [List.getElem?_take, List.getElem?_drop, List.getElem?_map]
  by_cases lt : j < n
  · rw [if_pos lt, unroll_get l hl _ _ (by omega), List.getElem?_range lt]
    have h2 := Nat.mod_lt (i + j) hl
    simp [List.getD_eq_getElem?_getD, List.getElem?_eq_getElem h2]
  · rw [if_neg lt, List.getElem?_eq_none (by rw [List.length_range]; omega)]
    rfl
/-! ### ascending lists of texts, each once -/
def Up (ys xs : List Str) : Prop := sortedS ys = true ∧ ys.Nodup ∧ (∀ x, x ∈ ys ↔ x ∈ xs) ∧ ys.length ≤ xs.length
theorem rising_le : ∀ (l : List Str) (p : Str), risingS p l = true → (p :: l).Pairwise fun a b => tl a ≤ tl b
  | [], p, _ => List.pairwise_singleton _ _
  | x :: r, p, h => by
    have h : (!ltCps (tl x) (tl p) && risingS x r) = true := h
    rw [Bool.and_eq_true, ltCps_eq, Bool.not_eq_true', decide_eq_false_iff_not] at h
    have px : tl p ≤ tl x := List.not_lt.mp h.1
    have ih := rising_le r x h.2
    refine List.pairwise_cons.mpr ⟨fun y hy => ?_, ih⟩
    rcases List.mem_cons.mp hy with rfl | hy
    · exact px
    · exact List.le_trans px ((List.pairwise_cons.mp ih).1 y hy)
theorem sorted_le {l : List Str} (h : sortedS l = true) : l.Pairwise fun a b => tl a ≤ tl b := by
  cases l with
  | nil => exact List.Pairwise.nil
  | cons p l => exact rising_le l p h
theorem Up.one {ys zs xs xs' : List Str} (h : Up ys xs) (k : Up zs xs') (e : ∀ x, x ∈ xs ↔ x ∈ xs') : ys = zs := by
  refine List.Perm.eq_of_pairwise (fun a b _ _ h1 h2 => ext_tl (List.le_antisymm h1 h2)) (sorted_le h.1) (sorted_le k.1) ((List.perm_ext_iff_of_nodup h.2.1 k.2.1).mpr fun x => ?_)
  rw [h.2.2.1 x, e x, k.2.2.1 x]
theorem Up.of {ys ks xs : List Str} (p : ys.Perm ks) (s : sortedS ys = true) (f : FirstOf xs xs.length ks) : Up ys xs := by
  refine ⟨s, p.nodup_iff.mpr f.2.1, fun x => ?_, by rw [p.length_eq]; exact f.1⟩
  rw [p.mem_iff, f.2.2 x, List.take_length]
end Tx

set_option Elab.async false
set_option linter.all false
set_option maxRecDepth 100000
set_option maxHeartbeats 1000000
namespace Tx
open PySem PySem.Spec PyProof.Rows L2 TL RZ
/-! the rules that look into the written part, with that part named: for blocks within a def -/
section
variable {X : Cx} (K : PySem.W.Frag)
def rLenL (K : PySem.W.Frag) : List V → Hp → VK → Prop := fun xs H Q => ∃ p ys, xs = [.ref p] ∧ (SqL K H p ys ∨ SqT K H p ys) ∧ Q (.int ys.length) H
theorem lenK (h : X.K = K) : CallR X (.builtin "len") (rLenL K) := by subst h; exact call_len_seq
theorem isiK (h : X.K = K) : CallR X (.builtin "isinstance") (rIsi K) := by subst h; exact call_isi
theorem ixK (h : X.K = K) : IxR X (rIxL K) := by subst h; exact ix_list
theorem ixTK (h : X.K = K) : IxR X (rIxT K) := by subst h; exact ix_tup
theorem slK (h : X.K = K) : SlR X (rSlL K) := by subst h; exact sl_list
theorem allK (h : X.K = K) (hc : X.calm = true) : CallR X (.builtin "all") (rAll K) := by subst h; exact cr_all hc
theorem anyK (h : X.K = K) (hc : X.calm = true) : CallR X (.builtin "any") (rAny K) := by subst h; exact cr_any hc
theorem sortLK (h : X.K = K) : CallR X (.builtin "sorted") (rSortL K) := by subst h; exact cr_sortL
theorem inK (h : X.K = K) : OpR X (compareOp .In) (rIn K false) := by subst h; exact op_in_seq
theorem notInK (h : X.K = K) : OpR X (compareOp .NotIn) (rIn K true) := by subst h; exact op_notIn_seq
theorem eqDK (h : X.K = K) (hu : X.A.units + 64 < cLine) : OpR X (compareOp .Eq) (rEqD K) := by subst h; exact op_eqD hu
theorem neDK (h : X.K = K) (hu : X.A.units + 64 < cLine) : OpR X (compareOp .NotEq) (rNeD K) := by subst h; exact op_neD hu
def rJoin (K : PySem.W.Frag) : V → List V → Hp → VK → Prop := fun x xs H Q => ∃ a p, ∃ ys : List Str, x = .str a ∧ xs = [.ref p] ∧ (SqL K H p (ys.map V.str) ∨ SqT K H p (ys.map V.str)) ∧ (ys.map (·.length)).sum + ys.length * a.length ≤ 16777216 ∧ Q (.str (Txt.join a ys)) H
theorem joinK {o e : Expr} {to te : TE} {apos pos : Pos} (h : X.K = K) (ho : PE X o to) (he : PE X e te) (hs : starEach [e] X.env = [(false, eval e X.env)] := by rfl) (hb : attributeBase o "join" X.env (eval o X.env) = eval o X.env := by rfl)
    (hl : (apos.endLine == pos.line) = true := by rfl) : PE X (.Call (.Attribute o "join" apos) [e] [] pos) (tM1 (rJoin K) to te) := by subst h; exact pe_join ho he hs hb hl
def rListOf (K : PySem.W.Frag) : List V → Hp → VK → Prop := fun xs H Q => ∃ p ys, xs = [.ref p] ∧ (SqL K H p ys ∨ SqT K H p ys) ∧ ∀ l, H l = none → Q (.ref l) (upd H l (.lst ys))
theorem listK (h : X.K = K) : CallR X (.type "list") (rListOf K) := by subst h; exact call_list_of
def rTupOf (K : PySem.W.Frag) : List V → Hp → VK → Prop := fun xs H Q => ∃ p ys, xs = [.ref p] ∧ ((SqL K H p ys ∧ ∀ l, H l = none → Q (.ref l) (upd H l (.tup ys))) ∨ (SqT K H p ys ∧ Q (.ref p) H))
theorem tupK (h : X.K = K) : CallR X (.type "tuple") (rTupOf K) := by subst h; exact call_tuple_of
theorem pg_tupK {es : List Expr} {k : Nat} {t : TGs} {n : Nat} {pos : Pos} (h : X.K = K) (hc : X.calm = true) (hg : PGs X es t) (hn : (assignEach es X.env).length = n := by rfl) (hst : (assignEach es X.env).findIdx? (·.1) = none := by rfl) : PG X (.Tuple es k pos) (gTup K n t) := by subst h; exact pg_tup hc hg hn hst
variable (w : World)
theorem setK (h : X.K = K) (hw : X.w = w) (hc : X.calm = true) : CallR X (.type "set") (rSetS K w) := by subst h hw; exact cr_setS hc
theorem sortSetK (hw : X.w = w) (hc : X.calm = true) : CallR X (.builtin "sorted") (rSortSet w) := by subst hw; exact cr_sortSet hc
end
/-- a comprehension over zip of two tuples, the second one shorter -/
theorem lc_zipT {K : PySem.W.Frag} {a b : Addr} {xs ys : List V} {g : TG} {tt : TT} {te : TE} {vs : List Nat} {σ : L2.St} {H1 : Hp} {D : Addr} {Qd : Hp → Prop} (hl : ys.length ≤ xs.length) (Pv : Nat → Hp → Prop) (h0 : Pv 0 (upd H1 D (.lst []))) (hq : ∀ i H, Pv i H → SqT K H a xs ∧ SqT K H b ys)
    (hs : ∀ i x y T H, xs[i]? = some x → ys[i]? = some y → Pv i H → H T = none → g (.ref T) (wipe σ vs) (upd H T (.tup [x, y])) fun σ2 H2 => wipe σ2 vs = wipe σ vs ∧ tt σ2 H2 fun b H3 =>
      if b = true then te σ2 H3 fun y H4 => ∃ acc, H4 D = some (.lst acc) ∧ acc.length < sizeLine ∧ Pv (i + 1) (upd H4 D (.lst (acc ++ [y]))) else Pv (i + 1) H3)
    (hd : ∀ H, Pv ys.length H → Qd H) :
    ∃ W : Nat → Nat → Hp → Prop, (∃ m, W 0 m (upd H1 D (.lst []))) ∧ ∀ i m H, W i m H →
      ((ItzT K a b).stop i H ∧ Qd H) ∨ ((ItzT K a b).go i H ∧ ∃ Nx : Hp → Prop, (∀ H', Nx H' → ∃ m', m' < m ∧ W (i + 1) m' H') ∧ ∀ x H', (ItzT K a b).yld i H x H' → g x (wipe σ vs) H' fun σ2 H2 => wipe σ2 vs = wipe σ vs ∧ tt σ2 H2 fun b H3 =>
        if b = true then te σ2 H3 fun y H4 => ∃ acc, H4 D = some (.lst acc) ∧ acc.length < sizeLine ∧ Nx (upd H4 D (.lst (acc ++ [y]))) else Nx H3) := by
  refine ⟨fun i m H => m + i = ys.length ∧ Pv i H, ⟨ys.length, rfl, h0⟩, fun i m H ⟨e, p⟩ => ?_⟩
  obtain ⟨qx, qy⟩ := hq i H p
  by_cases lt : i < ys.length
  · have gx : xs[i]? = some xs[i] := List.getElem?_eq_getElem (by omega)
    have gy : ys[i]? = some ys[i] := List.getElem?_eq_getElem lt
    refine .inr ⟨⟨xs, ys, _, _, qx, qy, gx, gy⟩, Pv (i + 1), fun H' p' => ⟨m - 1, by omega, by omega, p'⟩, fun v H' y => ?_⟩
    obtain ⟨T, x', y', rfl, hT, rfl, f1, f2⟩ := y
    exact hs i x' y' T H (f1 xs qx) (f2 ys qy) p hT
  · obtain rfl : i = ys.length := by omega
    exact .inl ⟨⟨xs, ys, qx, qy, .inr (Nat.le_refl _)⟩, hd H p⟩
end Tx

set_option Elab.async false
set_option linter.all false
set_option maxRecDepth 100000
set_option maxHeartbeats 2000000
namespace Tx
open PySem PySem.Spec PyProof.Rows L2 TL
/-! ### min of a list of texts -/
theorem best_at {xs : List Str} : ∀ k, k < xs.length → argBest (fun i j => decide (tl (xs.getD i Str.empty) < tl (xs.getD j Str.empty))) k ≤ k ∧ ∀ j, j ≤ k → tl (xs.getD (argBest (fun i j => decide (tl (xs.getD i Str.empty) < tl (xs.getD j Str.empty))) k) Str.empty) ≤ tl (xs.getD j Str.empty)
  | 0, _ => ⟨Nat.le_refl _, fun j hj => by
      have e : j = 0 := by omega
      subst e
      exact List.le_refl _⟩
  | k + 1, h => by
    obtain ⟨h1, h2⟩ := best_at (xs := xs) k (by omega)
    simp only [argBest]
    by_cases c : tl (xs.getD (k + 1) Str.empty) < tl (xs.getD (argBest (fun i j => decide (tl (xs.getD i Str.empty) < tl (xs.getD j Str.empty))) k) Str.empty)
    · rw [if_pos (decide_eq_true c)]
      refine ⟨Nat.le_refl _, fun j hj => ?_⟩
      rcases Nat.lt_or_ge j (k + 1) with lt | ge
      · exact List.le_trans (List.le_of_lt c) (h2 j (by omega))
      · obtain rfl : j = k + 1 := by omega
        exact List.le_refl _
    · rw [if_neg (by rw [decide_eq_false c]; exact Bool.false_ne_true)]
      refine ⟨by omega, fun j hj => ?_⟩
      rcases Nat.lt_or_ge j (k + 1) with lt | ge
      · exact h2 j (by omega)
      · obtain rfl : j = k + 1 := by omega
        exact List.not_lt.mp c
def rMinS (K : PySem.W.Frag) : List V → Hp → VK → Prop := fun vs H Q => ∃ (a : Addr) (zs : List Str), vs = [V.ref a] ∧ SqL K H a (zs.map V.str) ∧ 0 < zs.length ∧ ∀ m, m ∈ zs → (∀ y ∈ zs, tl m ≤ tl y) → Q (.str m) H
section
variable {X : Cx} {pins : List (Addr × Obj)} {σ : L2.St} {H : Hp}
theorem cr_minS (hc : X.calm = true) : CallR X (.builtin "min") (rMinS X.K) := by
  intro pins s σ H vs us Q I r h
  obtain ⟨a, zs, rfl, hs, hne, q⟩ := h
  rw [Vals.ref1 r]
  obtain ⟨its, rv, hl, hz⟩ := I.list hs
  have hS := rv.strs
  have e0 := rv.length
  rw [List.length_map] at e0
  have lt := Heap.lt_size hl.isList.choose_spec.1
  have hval : ∀ (i : Nat) (v : Value), its.toArray[i]? = some v → ∃ t, v = .str (zs.getD i Str.empty) t := fun i v e => SS.strs_at hS i v (by simpa using e)
  refine call_min_walk (wpAny_pyIter_list hl.isList ?_)
  refine ⟨_, _, _, _, _, _, _, rfl, Walks.list (A := X.A.in1) (I.ok.hd hc) s.heap.objs.size a (Nat.ne_of_lt lt) its.toArray, ⟨⟨_, Heap.get?_push_size _ rfl, rfl, rfl⟩, hl.isList.push _⟩, fun b hb => ?_, by rw [List.size_toArray]; omega, (fun i j vi vj s' Q' E' hi hj hq => ?_ : CmpOf X.prog X.w X.A.in1 .Lt _ fun i j => decide (tl (zs.getD i Str.empty) < tl (zs.getD j Str.empty))), fun v h' tk hP hk => ?_⟩
  · show b < (s.heap.push _).objs.size
    rw [Heap.size_push]
    rcases List.mem_cons.mp hb with e | hb
    · rw [e]; exact Nat.lt_succ_self _
    · rw [List.mem_singleton.mp hb]; exact Nat.lt_succ_of_lt lt
  · obtain ⟨t, rfl⟩ := hval i vi hi
    obtain ⟨u, rfl⟩ := hval j vj hj
    exact P.lt_str hq
  · obtain ⟨t, rfl⟩ := hval _ v hP
    rw [List.size_toArray, ← e0] at hP ⊢
    obtain ⟨b1, b2⟩ := best_at (xs := zs) (zs.length - 1) (by omega)
    refine ⟨.str _, H, I.kept (t' := tk) fun b u e => hk b u (fun hm => ?_) (Heap.get?_push_of_some _ e), ⟨t, rfl⟩, q _ ?_ fun y hy => ?_⟩
    · have e2 := Heap.lt_size e
      rw [List.mem_singleton.mp hm] at e2
      exact absurd e2 (Nat.lt_irrefl _)
    · rw [List.getD_eq_getElem?_getD, List.getElem?_eq_getElem (by omega)]
      exact List.getElem_mem _
    · obtain ⟨i, hi, e⟩ := List.mem_iff_getElem.mp hy
      have e2 : zs.getD i Str.empty = y := by rw [List.getD_eq_getElem?_getD, List.getElem?_eq_getElem hi, ← e] <;> rfl
      rw [← e2]
      exact b2 i (by omega)
theorem minSK (K : PySem.W.Frag) (h : X.K = K) (hc : X.calm = true) : CallR X (.builtin "min") (rMinS K) := by subst h; exact cr_minS hc
/-! ### z[::-1] -/
def tRevS (te : TE) : TE := fun σ H Q => te σ H fun x H1 => ∃ z, x = .str z ∧ z.length ≤ 100000 ∧ Q (.str (mkS (tl z).reverse)) H1
theorem rev_by (z : Str) (u : Tok) : Txt.sliceBy z none none (-1, u) = mkS (tl z).reverse := by
  refine ext_tl ?_
  show (Txt.sliceBy z none none (-1, u)).cps.toList = _
  rw [step_rev_list, tl_mkS]
  refine List.ext_getElem? fun i => ?_
  rw [List.getElem?_map]
  by_cases c : i < z.length
  · rw [List.getElem?_range c, List.getElem?_reverse (by rw [← len_tl]; exact c), ← len_tl]
    have lt : z.length - 1 - i < z.cps.size := by show _ < z.length; omega
    rw [show (tl z)[z.length - 1 - i]? = z.cps[z.length - 1 - i]? from Array.getElem?_toList .., Array.getElem?_eq_getElem lt]
    show some (z.cps.getD _ 0) = _
    rw [Array.getD_eq_getD_getElem?, Array.getElem?_eq_getElem lt]; rfl
  · rw [List.getElem?_eq_none (by rw [List.length_range]; omega), List.getElem?_eq_none (by rw [List.length_reverse, ← len_tl]; omega)]; rfl
theorem pe_revS {e : Expr} {te : TE} {k : Nat} {p1 p2 p3 pos : Pos} (he : PE X e te) : PE X (.Subscript e (.Slice none none (some (.UnaryOp .USub (.Constant (.int 1) k p1) p2)) p3) pos) (tRevS te) := by
  refine ⟨fun pins s σ H Q I h => Subscript_ (thn (he.run pins s σ H _ I h) fun v s1 ⟨x, H1, I1, r1, z, ex, hz, q⟩ => ?_)⟩
  subst ex
  obtain ⟨t, rfl⟩ := r1
  have hst : PO X (some (.UnaryOp .USub (.Constant (.int 1) k p1) p2)) (tPart (tUn (rU fun i => .int (-i)) (tC (.int 1)))) := po_some (pe_un un_neg pe_int)
  refine wpAny_Slice (thn (po_none.run pins s1 σ H1 (fun o H2 => o = none ∧ H2 = H1) I1 ⟨rfl, rfl⟩) fun vl s2 ⟨l, H2, I2, pl, el, e2⟩ => ?_)
  subst el e2
  refine thn (po_none.run pins s2 σ H2 (fun o H3 => o = none ∧ H3 = H2) I2 ⟨rfl, rfl⟩) fun vu s3 ⟨u, H3, I3, pu, eu, e3⟩ => ?_
  subst eu e3
  refine thn (hst.run pins s3 σ H3 (fun o H4 => o = some (-1) ∧ H4 = H3) I3 ⟨1, rfl, -1, rfl, rfl, rfl⟩) fun vs s4 ⟨o, H4, I4, ps, eo, e4⟩ => ?_
  subst eo e4
  obtain ⟨l, rfl, e1⟩ := IsPart.raw pl
  obtain ⟨u, rfl, e2⟩ := IsPart.raw pu
  obtain ⟨st, rfl, e3⟩ := IsPart.raw ps
  cases l with
  | some l => cases e1
  | none =>
    cases u with
    | some u => cases e2
    | none =>
      cases st with
      | none => cases e3
      | some st =>
        obtain ⟨k1, uk⟩ := st
        obtain rfl : k1 = -1 := Option.some.inj e3
        refine tail_any (ops := [.ref s4.heap.objs.size, .str z t]) (typeIs_str _ z t) F.slot_str_getitem.lookup (wpAny_getItem_str_slice (l := none) (u := none) (st := some (-1, uk)) ⟨_, Heap.get?_push_size _ rfl, rfl, rfl⟩ rfl
          (post_val_or_str ⟨Nat.le_trans (Txt.sliceBy_le z none none (-1, uk) (show (-1 : Int) ≠ 0 by decide)) (Nat.le_trans hz (by decide)), fun t' c => ?_⟩)) (by with_unfolding_all rfl)
        rw [← rev_by z uk] at q
        exact ⟨V.str _, H4, I4.kept (t' := c) fun b ob e => Heap.get?_push_of_some _ e, ⟨t', rfl⟩, q⟩
end
end Tx

set_option Elab.async false
set_option linter.all false
set_option maxRecDepth 100000
set_option maxHeartbeats 1000000
namespace Tx
open PySem PySem.Spec PyProof.Rows L2 TL
/-! ### a ring text as what is read on and on -/
def pr (l : List Nat) (i : Nat) : Nat := l.getD (i % l.length) 0
theorem pr_mod (l : List Nat) (i : Nat) : pr l (i % l.length) = pr l i := by unfold pr; rw [Nat.mod_mod]
theorem pr_add (l : List Nat) (i m : Nat) : pr l (i + m * l.length) = pr l i := by unfold pr; rw [Nat.add_mul_mod_self_right]
theorem pr_cong (l : List Nat) {i j : Nat} (h : i % l.length = j % l.length) : pr l i = pr l j := by unfold pr; rw [h]
theorem pr_get {l : List Nat} {i : Nat} (h : i < l.length) : l[i]? = some (pr l i) := by
  unfold pr
  rw [Nat.mod_eq_of_lt h, List.getD_eq_getElem?_getD, List.getElem?_eq_getElem h]; rfl
/-- the n letters from the a-th on -/
def seg (l : List Nat) (a n : Nat) : List Nat := (List.range n).map fun k => pr l (a + k)
theorem seg_len (l : List Nat) (a n : Nat) : (seg l a n).length = n := by unfold seg; rw [List.length_map, List.length_range]
theorem seg_get (l : List Nat) (a n k : Nat) : (seg l a n)[k]? = if k < n then some (pr l (a + k)) else none := by
  unfold seg
  rw [List.getElem?_map]
  by_cases h : k < n
  · rw [if_pos h, List.getElem?_range h]; rfl
  · rw [if_neg h, List.getElem?_eq_none (by rw [List.length_range]; omega)]; rfl
theorem seg_ext {l l' : List Nat} {a b n : Nat} (h : ∀ k, k < n → pr l (a + k) = pr l' (b + k)) : seg l a n = seg l' b n := by
  refine List.map_congr_left fun k hk => h k (List.mem_range.mp hk)
theorem seg_inj {l l' : List Nat} {a b n : Nat} (h : seg l a n = seg l' b n) : ∀ k, k < n → pr l (a + k) = pr l' (b + k) := fun k hk => by
  have e := congrArg (fun x => x[k]?) h
  simp only [seg_get, if_pos hk] at e
  exact Option.some.inj e
theorem seg_mod (l : List Nat) (a n : Nat) : seg l (a % l.length) n = seg l a n := seg_ext fun k _ => pr_cong l (by rw [Nat.mod_add_mod])
theorem list_seg {l : List Nat} : l = seg l 0 l.length := by
  refine List.ext_getElem? fun k => ?_
  rw [seg_get]
  by_cases h : k < l.length
  · rw [if_pos h, Nat.zero_add, pr_get h]
  · rw [if_neg h, List.getElem?_eq_none (by omega)]
theorem seg_lt {l l' : List Nat} {a b n : Nat} : seg l a n < seg l' b n ↔ ∃ i, i < n ∧ (∀ j, j < i → pr l (a + j) = pr l' (b + j)) ∧ pr l (a + i) < pr l' (b + i) := by
  rw [List.lt_iff_exists]
  have g1 : ∀ i (h : i < (seg l a n).length), (seg l a n)[i] = pr l (a + i) := fun i h => by
    have e := seg_get l a n i
    rw [List.getElem?_eq_getElem h, if_pos (by rwa [seg_len] at h)] at e
    exact Option.some.inj e
  have g2 : ∀ i (h : i < (seg l' b n).length), (seg l' b n)[i] = pr l' (b + i) := fun i h => by
    have e := seg_get l' b n i
    rw [List.getElem?_eq_getElem h, if_pos (by rwa [seg_len] at h)] at e
    exact Option.some.inj e
  constructor
  · rintro (⟨_, h⟩ | ⟨i, h1, h2, h3, h4⟩)
    · rw [seg_len, seg_len] at h; omega
    · refine ⟨i, by rwa [seg_len] at h1, fun j hj => ?_, by rwa [g1, g2] at h4⟩
      have e := h3 j hj
      rwa [g1, g2] at e
  · rintro ⟨i, hi, h3, h4⟩
    refine .inr ⟨i, by rwa [seg_len], by rwa [seg_len], fun j hj => ?_, by rwa [g1, g2]⟩
    rw [g1, g2]; exact h3 j hj
/-- turned by p -/
def rot (l : List Nat) (p : Nat) : List Nat := l.drop p ++ l.take p
theorem rot_len (l : List Nat) (p : Nat) : (rot l p).length = l.length := by unfold rot; rw [List.length_append, List.length_drop, List.length_take]; omega
theorem rot_seg {l : List Nat} {p : Nat} (h : p ≤ l.length) : rot l p = seg l p l.length := by
  refine List.ext_getElem? fun k => ?_
  rw [seg_get]
  unfold rot
  by_cases c : k < l.length
  · rw [if_pos c]
    by_cases d : k < l.length - p
    · rw [List.getElem?_append_left (by rw [List.length_drop]; exact d), List.getElem?_drop, pr_get (by omega)]
    · rw [List.getElem?_append_right (by rw [List.length_drop]; omega), List.length_drop, List.getElem?_take_of_lt (by omega), pr_get (by omega)]
      refine congrArg some (pr_cong l ?_)
      rw [show p + k = (k - (l.length - p)) + l.length by omega, Nat.add_mod_right]
  · rw [if_neg c, List.getElem?_eq_none]
    rw [List.length_append, List.length_drop, List.length_take]; omega
theorem rot_pr {l : List Nat} {p : Nat} (h : p ≤ l.length) (hl : 0 < l.length) (i : Nat) : pr (rot l p) i = pr l (p + i) := by
  have lt := Nat.mod_lt i hl
  have e : (rot l p)[i % l.length]? = some (pr (rot l p) i) := by
    have := pr_get (l := rot l p) (i := i % l.length) (by rw [rot_len]; exact lt)
    rw [this]
    have e2 := pr_mod (rot l p) i
    rw [rot_len] at e2
    rw [e2]
  have e' : (rot l p)[i % l.length]? = some (pr l (p + i % l.length)) := by rw [rot_seg h, seg_get, if_pos lt]
  rw [Option.some.inj (e.symm.trans e')]
  exact pr_cong l (by rw [Nat.add_mod_mod])
/-- so many times round -/
def rep (t : Nat) (l : List Nat) : List Nat := (List.replicate t l).flatten
theorem rep_len (t : Nat) (l : List Nat) : (rep t l).length = t * l.length := by
  unfold rep; rw [List.length_flatten, List.map_replicate, List.sum_replicate_nat]
theorem rep_pr {t : Nat} {l : List Nat} (ht : 1 ≤ t) (hl : 0 < l.length) (i : Nat) : pr (rep t l) i = pr l i := by
  have hp : 0 < t * l.length := Nat.mul_pos ht hl
  have lt := Nat.mod_lt i hp
  have e := pr_get (l := rep t l) (i := i % (t * l.length)) (by rw [rep_len]; exact lt)
  unfold rep at e
  rw [rep_get l hl t _ lt, pr_get (Nat.mod_lt _ hl)] at e
  have e2 := pr_mod (rep t l) i
  rw [rep_len] at e2
  rw [← e2]
  have e3 : pr l (i % (t * l.length) % l.length) = pr (rep t l) (i % (t * l.length)) := Option.some.inj e
  rw [← e3, pr_mod]
  exact pr_cong l (by rw [Nat.mod_mul_left_mod])
theorem rep_seg {t : Nat} {l : List Nat} (ht : 1 ≤ t) (hl : 0 < l.length) : rep t l = seg l 0 (t * l.length) := by
  have e := list_seg (l := rep t l)
  rw [rep_len] at e
  rw [e]
  exact seg_ext fun k _ => rep_pr ht hl _
theorem turns_mem {n : Nat} {l : List Nat} (hl : 0 < l.length) (z : Str) : z ∈ turns n l ↔ ∃ a, z = mkS (seg l a n) := by
  unfold turns
  rw [List.mem_map]
  constructor
  · rintro ⟨a, _, rfl⟩; exact ⟨a, rfl⟩
  · rintro ⟨a, rfl⟩
    refine ⟨a % l.length, List.mem_range.mpr (Nat.mod_lt a hl), ?_⟩
    exact congrArg mkS (seg_mod l a n)
/-- texts that are read alike, from somewhere on -/
def Alike (l l' : List Nat) : Prop := ∃ p q, (∀ i, pr l' i = pr l (p + i)) ∧ ∀ i, pr l i = pr l' (q + i)
theorem Alike.turns {l l' : List Nat} (h : Alike l l') (hl : 0 < l.length) (hl' : 0 < l'.length) (n : Nat) (z : Str) : z ∈ Tx.turns n l' ↔ z ∈ Tx.turns n l := by
  obtain ⟨p, q, h1, h2⟩ := h
  rw [turns_mem hl', turns_mem hl]
  constructor
  · rintro ⟨a, rfl⟩
    exact ⟨p + a, congrArg mkS (seg_ext fun k _ => by rw [h1, Nat.add_assoc])⟩
  · rintro ⟨a, rfl⟩
    exact ⟨q + a, congrArg mkS (seg_ext fun k _ => by rw [h2, Nat.add_assoc])⟩
theorem alike_rep {l : List Nat} {p t : Nat} (h : p ≤ l.length) (hl : 0 < l.length) (ht : 1 ≤ t) : Alike l (rep t (rot l p)) := by
  have hr : 0 < (rot l p).length := by rw [rot_len]; exact hl
  refine ⟨p, l.length - p, fun i => by rw [rep_pr ht hr, rot_pr h hl], fun i => ?_⟩
  rw [rep_pr ht hr, rot_pr h hl]
  refine pr_cong l ?_
  rw [show p + (l.length - p + i) = i + l.length by omega, Nat.add_mod_right]
/-- x is read from somewhere on -/
def Stands (l x : List Nat) : Prop := ∃ a, x = seg l a x.length
theorem Alike.stands {l l' : List Nat} (h : Alike l l') (x : List Nat) : Stands l' x ↔ Stands l x := by
  obtain ⟨p, q, h1, h2⟩ := h
  constructor
  · rintro ⟨a, e⟩
    exact ⟨p + a, e.trans (seg_ext fun k _ => by rw [h1, Nat.add_assoc])⟩
  · rintro ⟨a, e⟩
    exact ⟨q + a, e.trans (seg_ext fun k _ => by rw [h2, Nat.add_assoc])⟩

/-! ### the least turn -/
structure Least (l m : List Nat) : Prop where
  at' : ∃ p, m = seg l p l.length
  le : ∀ p, m ≤ seg l p l.length
theorem Least.one {l m m' : List Nat} (h : Least l m) (h' : Least l m') : m = m' := by
  obtain ⟨p, e⟩ := h.at'
  obtain ⟨p', e'⟩ := h'.at'
  exact List.le_antisymm (by rw [e']; exact h.le p') (by rw [e]; exact h'.le p)
theorem Least.ex {l : List Nat} (hl : 0 < l.length) : ∃ s, s < l.length ∧ ∀ p, seg l s l.length ≤ seg l p l.length := by
  have key : ∀ m, 0 < m → ∃ s, s < m ∧ ∀ p, p < m → seg l s l.length ≤ seg l p l.length := by
    intro m
    induction m with
    | zero => intro h; omega
    | succ m ih =>
      intro _
      rcases Nat.eq_zero_or_pos m with rfl | hm
      · exact ⟨0, by omega, fun p hp => by obtain rfl : p = 0 := (by omega); exact List.le_refl _⟩
      · obtain ⟨s, hs, h⟩ := ih hm
        rcases List.le_total (seg l s l.length) (seg l m l.length) with c | c
        · refine ⟨s, by omega, fun p hp => ?_⟩
          rcases Nat.lt_or_ge p m with d | d
          · exact h p d
          · obtain rfl : p = m := (by omega); exact c
        · refine ⟨m, by omega, fun p hp => ?_⟩
          rcases Nat.lt_or_ge p m with d | d
          · exact List.le_trans c (h p d)
          · obtain rfl : p = m := (by omega); exact List.le_refl _
  obtain ⟨s, hs, h⟩ := key l.length hl
  exact ⟨s, hs, fun p => by rw [← seg_mod l p]; exact h _ (Nat.mod_lt p hl)⟩
/-- of a ring text so many times round it is so many times that of once round -/
theorem Least.rep {l m : List Nat} {p t : Nat} (h : Least l m) (hp : p ≤ l.length) (hl : 0 < l.length) (ht : 1 ≤ t) : Least (rep t (rot l p)) (Tx.rep t m) := by
  obtain ⟨s, e⟩ := h.at'
  have hr : 0 < (rot l p).length := by rw [rot_len]; exact hl
  have hm : 0 < m.length := by rw [e, seg_len]; exact hl
  have em : ∀ i, pr m i = pr l (s + i) := fun i => by
    have lt := Nat.mod_lt i hl
    have e1 : m[i % l.length]? = some (pr m i) := by
      have e2 := pr_get (l := m) (i := i % l.length) (by rw [e, seg_len]; exact lt)
      rw [e2]
      have e3 := pr_mod m i
      rw [show m.length = l.length by rw [e, seg_len]] at e3
      rw [e3]
    rw [e, seg_get, if_pos lt] at e1
    have e4 := Option.some.inj e1
    rw [← e] at e4
    rw [← e4]
    exact pr_cong l (by rw [Nat.add_mod_mod])
  have len : (Tx.rep t (rot l p)).length = t * l.length := by rw [rep_len, rot_len]
  have e0 : Tx.rep t m = seg l s (t * l.length) := by
    rw [rep_seg ht hm, show m.length = l.length by rw [e, seg_len]]
    exact seg_ext fun k _ => by rw [em, Nat.zero_add]
  have e1 : ∀ a n, seg (Tx.rep t (rot l p)) a n = seg l (p + a) n := fun a n => seg_ext fun k _ => by rw [rep_pr ht hr, rot_pr hp hl, Nat.add_assoc]
  refine ⟨⟨l.length - p + s, ?_⟩, fun a => ?_⟩
  · rw [len, e1, e0]
    refine seg_ext fun k _ => pr_cong l ?_
    rw [show p + (l.length - p + s) + k = s + k + l.length by omega, Nat.add_mod_right]
  · rw [len, e1, e0]
    refine List.not_lt.mp fun lt => ?_
    obtain ⟨i, hi, h1, h2⟩ := seg_lt.mp lt
    have le := h.le (p + a)
    rw [e] at le
    refine absurd le (List.not_le.mpr (seg_lt.mpr ?_))
    by_cases c : i < l.length
    · exact ⟨i, c, h1, h2⟩
    · exfalso
      -- a difference behind the first round would stand in the first round, too
      have d1 := h1 (i % l.length) (Nat.lt_of_lt_of_le (Nat.mod_lt i hl) (by omega))
      have d2 : pr l (p + a + i % l.length) = pr l (p + a + i) := pr_cong l (by rw [Nat.add_mod_mod])
      have d3 : pr l (s + i % l.length) = pr l (s + i) := pr_cong l (by rw [Nat.add_mod_mod])
      rw [d2, d3] at d1
      omega

/-! ### the search -/
/-- p is no place to begin: elsewhere a lesser text begins -/
def Out (l : List Nat) (p : Nat) : Prop := ∃ q, seg l q l.length < seg l p l.length
structure Seek (l : List Nat) (i j k : Nat) : Prop where
  ne : i ≠ j
  alike : ∀ t, t < k → pr l (i + t) = pr l (j + t)
  out : ∀ p, p < i ∨ p < j → p ≠ i → p ≠ j → Out l p
  one : i < l.length ∨ j < l.length
  kn : k ≤ l.length
theorem out_of {l : List Nat} {i j k t : Nat} (al : ∀ t, t < k → pr l (i + t) = pr l (j + t)) (lt : pr l (j + k) < pr l (i + k)) (ht : t ≤ k) (hk : k < l.length) : Out l (i + t) := by
  refine ⟨j + t, seg_lt.mpr ⟨k - t, by omega, fun x hx => ?_, ?_⟩⟩
  · rw [Nat.add_assoc, Nat.add_assoc]; exact (al (t + x) (by omega)).symm
  · rw [Nat.add_assoc, Nat.add_assoc, show t + (k - t) = k by omega]; exact lt
theorem Seek.start {l : List Nat} (hl : 0 < l.length) : Seek l 0 1 0 := ⟨by decide, fun _ h => by omega, fun p h h1 h2 => by omega, .inl hl, by omega⟩
theorem Seek.same {l : List Nat} {i j k : Nat} (h : Seek l i j k) (hk : k < l.length) (e : pr l (i + k) = pr l (j + k)) : Seek l i j (k + 1) := by
  refine ⟨h.ne, fun t ht => ?_, h.out, h.one, by omega⟩
  rcases Nat.lt_or_ge t k with c | c
  · exact h.alike t c
  · obtain rfl : t = k := by omega
    exact e
theorem Seek.left {l : List Nat} {i j k : Nat} (h : Seek l i j k) (hi : i < l.length) (hj : j < l.length) (hk : k < l.length) (lt : pr l (j + k) < pr l (i + k)) : Seek l (i + k + 1) (if i + k + 1 = j then j + 1 else j) 0 := by
  have o : ∀ t, t ≤ k → Out l (i + t) := fun t ht => out_of h.alike lt ht hk
  have ne := h.ne
  refine ⟨?_, fun t ht => by omega, fun p hp h1 h2 => ?_, ?_, by omega⟩
  · split <;> omega
  · by_cases c : i ≤ p ∧ p ≤ i + k
    · have := o (p - i) (by omega)
      rwa [show i + (p - i) = p by omega] at this
    · refine h.out p ?_ ?_ ?_
      all_goals (split at hp <;> split at h2 <;> omega)
  · split <;> omega
theorem Seek.right {l : List Nat} {i j k : Nat} (h : Seek l i j k) (hi : i < l.length) (hj : j < l.length) (hk : k < l.length) (lt : pr l (i + k) < pr l (j + k)) : Seek l i (if i = j + k + 1 then j + k + 1 + 1 else j + k + 1) 0 := by
  have o : ∀ t, t ≤ k → Out l (j + t) := fun t ht => out_of (fun t ht => (h.alike t ht).symm) lt ht hk
  have ne := h.ne
  refine ⟨?_, fun t ht => by omega, fun p hp h1 h2 => ?_, .inl hi, by omega⟩
  · split <;> omega
  · by_cases c : j ≤ p ∧ p ≤ j + k
    · have := o (p - j) (by omega)
      rwa [show j + (p - j) = p by omega] at this
    · refine h.out p ?_ ?_ ?_
      all_goals (split at hp <;> split at h2 <;> omega)
theorem Seek.done {l : List Nat} {i j k : Nat} (h : Seek l i j k) (hl : 0 < l.length) (e : ¬ (i < l.length ∧ j < l.length ∧ k < l.length)) : Least l (seg l (min i j) l.length) := by
  obtain ⟨s, hs, hm⟩ := Least.ex hl
  have no : ∀ p, seg l p l.length = seg l s l.length → ¬ Out l p := fun p ep ⟨q, lt⟩ => by
    rw [ep] at lt
    exact absurd (hm q) (List.not_le.mpr lt)
  have ne := h.ne
  suffices key : seg l (min i j) l.length = seg l s l.length from ⟨⟨_, rfl⟩, fun p => by rw [key]; exact hm p⟩
  by_cases c : s < i ∨ s < j
  · have : s = i ∨ s = j := by
      by_cases a : s = i
      · exact .inl a
      · by_cases b : s = j
        · exact .inr b
        · exact absurd (h.out s c a b) (no s rfl)
    rw [show min i j = s by omega]
  · have ek : k = l.length := by
      have := h.one
      have := h.kn
      omega
    subst ek
    -- both read alike: what stands behind the greater one stands between them, too
    obtain ⟨m, d, hd, em, eM⟩ : ∃ m d, 0 < d ∧ min i j = m ∧ max i j = m + d := ⟨min i j, max i j - min i j, by omega, rfl, by omega⟩
    have al : ∀ t, pr l (m + t) = pr l (m + d + t) := fun t => by
      have e1 : pr l (i + t) = pr l (j + t) := by
        have := h.alike (t % l.length) (Nat.mod_lt t hl)
        rw [pr_cong l (show (i + t % l.length) % l.length = (i + t) % l.length by rw [Nat.add_mod_mod]), pr_cong l (show (j + t % l.length) % l.length = (j + t) % l.length by rw [Nat.add_mod_mod])] at this
        exact this
      rcases Nat.lt_or_ge i j with a | a
      · rw [show m = i by omega, show i + d = j by omega]; exact e1
      · rw [show m = j by omega, show j + d = i by omega]; exact e1.symm
    have back : ∀ c r, seg l (m + r + c * d) l.length = seg l (m + r) l.length := by
      intro c
      induction c with
      | zero => intro r; rw [Nat.zero_mul, Nat.add_zero]
      | succ c ih =>
        intro r
        rw [← ih r]
        refine seg_ext fun x _ => ?_
        have := al (r + c * d + x)
        rw [show m + r + (c + 1) * d + x = m + d + (r + c * d + x) by rw [Nat.succ_mul]; omega, ← this]
        exact congrArg (pr l) (by omega)
    have es : s = m + (s - m) % d + (s - m) / d * d := by
      have := Nat.mod_add_div (s - m) d
      rw [Nat.mul_comm] at this
      omega
    have e2 : seg l s l.length = seg l (m + (s - m) % d) l.length := by
      have := back ((s - m) / d) ((s - m) % d)
      rw [← es] at this
      exact this
    rcases Nat.eq_zero_or_pos ((s - m) % d) with z | z
    · rw [z, Nat.add_zero] at e2
      rw [em, e2]
    · exfalso
      have lt := Nat.mod_lt (s - m) hd
      exact no _ e2.symm (h.out _ (by omega) (by omega) (by omega))
end Tx

set_option Elab.async false
set_option linter.all false
set_option maxRecDepth 100000
set_option maxHeartbeats 1000000
namespace Tx
open PySem PySem.Spec PyProof.Rows L2 TL
/-! ### lists of texts as data -/
theorem eqvAll_strs : ∀ (xs ys : List Str), PyData.eqvAll (xs.map PyData.str) (ys.map PyData.str) = decide (xs = ys)
  | [], [] => by simp [PyData.eqvAll]
  | [], _ :: _ => by simp [PyData.eqvAll]
  | _ :: _, [] => by simp [PyData.eqvAll]
  | x :: xs, y :: ys => by
    have ih := eqvAll_strs xs ys
    simp only [List.map_cons, PyData.eqvAll, PyData.eqv, ih]
    by_cases a : x = y
    · subst a; simp
    · rw [beq_eq_false_iff_ne.mpr a]; simp [a]
theorem eqv_strs (xs ys : List Str) : PyData.eqv (.list (xs.map PyData.str)) (.list (ys.map PyData.str)) = decide (xs = ys) := by
  rw [← eqvAll_strs]; simp only [PyData.eqv]
theorem low_ok {z : Str} (h : Low z) : PyData.strOk z = true := by
  unfold PyData.strOk
  rw [Array.all_eq_true']
  intro c hc
  have := h c (by simpa [tl] using hc)
  exact decide_eq_true (by omega)
theorem lay_strs : ∀ xs : List Str, (∀ z ∈ xs, Low z) → PyData.canLayAll0 (xs.map PyData.str) = true ∧ PyData.depthAll (xs.map PyData.str) = 0
  | [], _ => ⟨rfl, rfl⟩
  | x :: xs, h => by
    have ih := lay_strs xs fun z hz => h z (List.mem_cons_of_mem _ hz)
    simp only [List.map_cons, PyData.canLayAll0, PyData.depthAll, PyData.canLay0, PyData.depth, ih.1, ih.2, low_ok (h x (List.mem_cons_self ..))]
    simp
theorem shaped_strs {xs : List Str} (h : ∀ z ∈ xs, Low z) : SeqAt.shaped (.list (xs.map PyData.str)) = true := by
  unfold SeqAt.shaped
  simp only [PyData.canLay0, PyData.depth, (lay_strs xs h).1, (lay_strs xs h).2]
  decide
theorem dp_all {K : PySem.W.Frag} {H : Hp} : ∀ xs : List Str, DpAll K H (xs.map V.str) (xs.map PyData.str)
  | [] => .nil
  | x :: xs => .cons (.str x) (dp_all xs)
theorem dp_strs {K : PySem.W.Frag} {H : Hp} {a : Addr} {xs : List Str} (h : H a = some (.lst (xs.map V.str))) : Dp K H (.ref a) (.list (xs.map PyData.str)) := .lst (.inl (.inl h)) (dp_all xs)
/-! ### within -/
theorem found_stands {l : List Nat} {x : Str} (hl : 0 < l.length) (h1 : 1 ≤ x.length) :
    (!(Builtin.Str.occurrences (mkS (unroll l (x.length - 1))) x 0 (mkS (unroll l (x.length - 1))).length 1).isEmpty) = true ↔ Stands l (tl x) := by
  rw [PySem.StrLaws.found_iff, len_mkS, unroll_len l hl]
  have key : ∀ i, i + x.length ≤ l.length + (x.length - 1) → (Builtin.Str.subAt (mkS (unroll l (x.length - 1))) x i = true ↔ tl x = seg l i x.length) := fun i hi => by
    rw [PySem.StrLaws.subAt_eq, beq_iff_eq]
    have e : ((unroll l (x.length - 1)).drop i).take x.length = seg l i x.length := by
      refine List.ext_getElem? fun k => ?_
      rw [List.getElem?_take, List.getElem?_drop, seg_get]
      by_cases c : k < x.length
      · rw [if_pos c, if_pos c, unroll_get l hl _ _ (by omega), pr_get (Nat.mod_lt _ hl), pr_mod]
      · rw [if_neg c, if_neg c]
    exact ⟨fun h => by rw [← e]; exact h.symm, fun h => by show ((unroll l (x.length - 1)).drop i).take x.length = tl x; rw [e, h]⟩
  constructor
  · rintro ⟨i, hi, h⟩
    exact ⟨i, by rw [← len_tl]; exact (key i hi).mp h⟩
  · rintro ⟨a, e⟩
    have lt := Nat.mod_lt a hl
    refine ⟨a % l.length, by omega, (key _ (by omega)).mpr ?_⟩
    rw [← len_tl] at e
    rw [seg_mod]
    exact e
/-! ### read from behind -/
theorem pr_rev (l : List Nat) (hl : 0 < l.length) {x y : Nat} (h : (x + y + 1) % l.length = 0) : pr l.reverse y = pr l x := by
  have hx := Nat.mod_lt x hl
  have hy := Nat.mod_lt y hl
  have e : x % l.length = l.length - 1 - y % l.length := by
    have h2 : (x % l.length + y % l.length + 1) % l.length = 0 := by
      rw [← h, Nat.add_mod (x + y) 1, Nat.add_mod x y, Nat.add_mod (x % l.length + y % l.length) 1]
    have h3 : l.length ∣ (x % l.length + y % l.length + 1) := Nat.dvd_of_mod_eq_zero h2
    obtain ⟨c, hc⟩ := h3
    have c1 : c = 1 := by
      rcases Nat.lt_or_ge c 1 with a | a
      · have : c = 0 := by omega
        subst this; omega
      · rcases Nat.lt_or_ge 1 c with b | b
        · have := Nat.mul_le_mul_left l.length b
          omega
        · omega
    subst c1
    omega
  unfold pr
  rw [List.length_reverse, List.getD_eq_getElem?_getD, List.getD_eq_getElem?_getD, List.getElem?_reverse hy, e]
theorem seg_rev (l : List Nat) (hl : 0 < l.length) (a n : Nat) : (seg l.reverse a n).reverse = seg l ((a + n) * (l.length - 1)) n := by
  refine List.ext_getElem? fun k => ?_
  rw [seg_get]
  by_cases c : k < n
  · rw [List.getElem?_reverse (by rw [seg_len]; exact c), seg_len, seg_get, if_pos c, if_pos (by omega)]
    refine congrArg some (pr_rev l hl ?_)
    have e1 : (a + n) * (l.length - 1) + (a + n) = (a + n) * l.length := by
      rw [← Nat.mul_succ, show (l.length - 1).succ = l.length by omega]
    rw [show (a + n) * (l.length - 1) + k + (a + (n - 1 - k)) + 1 = (a + n) * l.length by omega, Nat.mul_mod_left]
  · rw [if_neg c, List.getElem?_eq_none (by rw [List.length_reverse, seg_len]; omega)]
def revS (z : Str) : Str := mkS (tl z).reverse
theorem revS_revS (z : Str) : revS (revS z) = z := by
  unfold revS; rw [tl_mkS, List.reverse_reverse, mkS_tl]
theorem turns_rev {l : List Nat} (hl : 0 < l.length) (n : Nat) (z : Str) : z ∈ turns n l.reverse ↔ revS z ∈ turns n l := by
  have hr : 0 < l.reverse.length := by rw [List.length_reverse]; exact hl
  rw [turns_mem hr, turns_mem hl]
  constructor
  · rintro ⟨a, rfl⟩
    exact ⟨_, congrArg mkS (seg_rev l hl a n)⟩
  · rintro ⟨a, e⟩
    have e2 : (tl z).reverse = seg l a n := congrArg tl e
    have e3 := seg_rev l.reverse hr a n
    rw [List.reverse_reverse] at e3
    refine ⟨(a + n) * (l.reverse.length - 1), ?_⟩
    rw [← e3, ← e2, List.reverse_reverse, mkS_tl]
theorem Up.rev {l : List Nat} {n : Nat} {ws zs : List Str} (hl : 0 < l.length) (u : Up ws (turns n l)) (p : zs.Perm (ws.map revS)) (s : sortedS zs = true) : Up zs (turns n l.reverse) := by
  have tlen : ∀ l' : List Nat, (turns n l').length = l'.length := fun l' => by unfold turns; rw [List.length_map, List.length_range]
  refine ⟨s, p.nodup_iff.mpr ?_, fun x => ?_, ?_⟩
  · refine List.Pairwise.map revS (fun x y h e => h ?_) u.2.1
    rw [← revS_revS x, ← revS_revS y, e]
  · rw [p.mem_iff, turns_rev hl, ← u.2.2.1, List.mem_map]
    constructor
    · rintro ⟨y, hy, rfl⟩; rw [revS_revS]; exact hy
    · intro h; exact ⟨_, h, revS_revS x⟩
  · rw [p.length_eq, List.length_map, tlen, List.length_reverse, ← tlen l]; exact u.2.2.2
/-! ### books -/
structure Book (n : Nat) (ws : List Str) : Prop where
  n2 : 2 ≤ n
  n6 : n ≤ 6
  one : 1 ≤ ws.length
  most : ws.length ≤ 3000
  asc : ws.Pairwise fun a b => tl a < tl b
  each : ∀ z ∈ ws, Low z ∧ z.length = n
def BookAt (H : Hp) (b : Addr) (n : Nat) (ws : List Str) : Prop := ∃ t, H b = some (.tup [.int n, .ref t]) ∧ H t = some (.tup (ws.map V.str))
theorem BookAt.same {H H' : Hp} {b : Addr} {n : Nat} {ws : List Str} (k : BookAt H b n ws) (s : Same H H') : BookAt H' b n ws := let ⟨t, e1, e2⟩ := k; ⟨t, s _ _ e1, s _ _ e2⟩
theorem asc_of {ws : List Str} (s : ws.Pairwise fun a b => tl a ≤ tl b) (nd : ws.Nodup) : ws.Pairwise fun a b => tl a < tl b := by
  refine (List.Pairwise.and s nd).imp fun {a b} h => ?_
  exact Classical.byContradiction fun n => h.2 (ext_tl (List.le_antisymm h.1 (List.not_lt.mp n)))
theorem up_asc {ws xs : List Str} (u : Up ws xs) : ws.Pairwise fun a b => tl a < tl b := asc_of (sorted_le u.1) u.2.1
theorem turns_low {z : Str} (lo : Low z) (h : 1 ≤ z.length) {n : Nat} {y : Str} (hy : y ∈ turns n (tl z)) : Low y ∧ y.length = n := by
  have hl : 0 < (tl z).length := by rw [← len_tl]; omega
  obtain ⟨a, rfl⟩ := (turns_mem hl y).mp hy
  refine ⟨fun c hc => ?_, by rw [len_mkS, seg_len]⟩
  rw [tl_mkS] at hc
  obtain ⟨k, hk⟩ := List.getElem?_of_mem hc
  rw [seg_get] at hk
  split at hk
  · have e := Option.some.inj hk
    have g := pr_get (l := tl z) (Nat.mod_lt (a + k) hl)
    rw [pr_mod, e] at g
    exact lo c (List.mem_of_getElem? g)
  · cases hk
end Tx

set_option Elab.async false
set_option linter.all false
set_option maxRecDepth 100000
set_option maxHeartbeats 1000000
namespace Tx
open PySem PySem.Spec PyProof.Rows L2 TL
theorem seg_take (l : List Nat) (a n m : Nat) : (seg l a n).take m = seg l a (min m n) := by
  refine List.ext_getElem? fun k => ?_
  rw [List.getElem?_take, seg_get, seg_get]
  by_cases c : k < m
  · by_cases d : k < n
    · rw [if_pos c, if_pos d, if_pos (by omega)]
    · rw [if_pos c, if_neg d, if_neg (by omega)]
  · rw [if_neg c, if_neg (by omega)]
/-- it stands just if its first round does, and each other letter is the one a round ahead -/
theorem stands_due {l x : List Nat} (hl : 0 < l.length) : Stands l x ↔ (∃ a, a < l.length ∧ seg l a (x.take l.length).length = x.take l.length) ∧ ∀ k, l.length ≤ k → k < x.length → x[k]? = x[k - l.length]? := by
  constructor
  · rintro ⟨a, e⟩
    refine ⟨⟨a % l.length, Nat.mod_lt a hl, ?_⟩, fun k h1 h2 => ?_⟩
    · rw [seg_mod, List.length_take]
      have := congrArg (List.take l.length) e
      rw [seg_take] at this
      exact this.symm
    · rw [e, seg_get, seg_get, if_pos h2, if_pos (by omega)]
      refine congrArg some (pr_cong l ?_)
      rw [show a + k = a + (k - l.length) + l.length by omega, Nat.add_mod_right]
  · rintro ⟨⟨a, _, e⟩, h⟩
    refine ⟨a, List.ext_getElem? fun k => ?_⟩
    rw [seg_get]
    by_cases c : k < x.length
    · rw [if_pos c]
      induction k using Nat.strongRecOn with
      | ind k ih =>
        by_cases d : k < l.length
        · have e2 := congrArg (fun y => y[k]?) e
          simp only [seg_get, List.getElem?_take] at e2
          rw [if_pos (by rw [List.length_take]; omega), if_pos d] at e2
          exact e2.symm
        · rw [h k (by omega) c, ih (k - l.length) (by omega) (by omega)]
          refine congrArg some (pr_cong l ?_)
          rw [show a + k = a + (k - l.length) + l.length by omega, Nat.add_mod_right]
    · rw [if_neg c, List.getElem?_eq_none (by omega)]
theorem Stands.rev1 {l x : List Nat} (hl : 0 < l.length) (h : Stands l x) : Stands l.reverse x.reverse := by
  obtain ⟨a, e⟩ := h
  have hr : 0 < l.reverse.length := by rw [List.length_reverse]; exact hl
  have k := seg_rev l.reverse hr a x.length
  rw [List.reverse_reverse, ← e] at k
  exact ⟨_, by rw [List.length_reverse]; exact k⟩
theorem Stands.rev {l x : List Nat} (hl : 0 < l.length) : Stands l.reverse x.reverse ↔ Stands l x := by
  refine ⟨fun h => ?_, .rev1 hl⟩
  have k := h.rev1 (by rw [List.length_reverse]; exact hl)
  rwa [List.reverse_reverse, List.reverse_reverse] at k
theorem cut_seg {l x : List Nat} {a i n : Nat} (e : x = seg l a x.length) (h : i + n ≤ x.length) : cut x i n = seg l (a + i) n := by
  refine List.ext_getElem? fun k => ?_
  unfold cut
  rw [List.getElem?_take, List.getElem?_drop, seg_get]
  by_cases c : k < n
  · rw [if_pos c, if_pos c, e, seg_get, if_pos (by omega), Nat.add_assoc]
  · rw [if_neg c, if_neg c]
theorem Stands.cut {l x : List Nat} (h : Stands l x) {i n : Nat} (hn : i + n ≤ x.length) : Stands l (Tx.cut x i n) := by
  obtain ⟨a, e⟩ := h
  have k := cut_seg e hn
  refine ⟨a + i, ?_⟩
  rw [k, seg_len]
theorem rep_one' (l : List Nat) : rep 1 l = l := by unfold rep; simp
theorem Least.of_stands {l x m : List Nat} (hl : 0 < l.length) (h : Stands l x) (hx : x.length = l.length) (hm : Least l m) : Least x m := by
  obtain ⟨a, e⟩ := h
  have lt := Nat.mod_lt a hl
  have r := hm.rep (p := a % l.length) (t := 1) (Nat.le_of_lt lt) hl (by decide)
  rw [rep_one', rep_one', rot_seg (Nat.le_of_lt lt), seg_mod, ← hx, ← e] at r
  exact r
theorem Least.len {l m : List Nat} (h : Least l m) : m.length = l.length := by
  obtain ⟨p, e⟩ := h.at'
  rw [e, seg_len]
theorem stands_of_least {l x m : List Nat} (hl : 0 < l.length) (hx : x.length = l.length) (h : Least l m) (k : Least x m) : Stands l x := by
  obtain ⟨q, e⟩ := h.at'
  obtain ⟨p, e'⟩ := k.at'
  rw [hx] at e'
  have al := seg_inj (e'.symm.trans e)
  refine ⟨q + p * (l.length - 1), List.ext_getElem? fun j => ?_⟩
  rw [seg_get]
  by_cases c : j < x.length
  · rw [if_pos c, pr_get c]
    have lt := Nat.mod_lt (j + p * (l.length - 1)) hl
    have e1 := al _ lt
    have e2 : p * (l.length - 1) + p = p * l.length := by rw [← Nat.mul_succ, show (l.length - 1).succ = l.length by omega]
    have e3 : pr x (p + (j + p * (l.length - 1)) % l.length) = pr x j := by
      refine pr_cong x ?_
      rw [hx, Nat.add_mod_mod, show p + (j + p * (l.length - 1)) = j + p * l.length by omega, Nat.add_mul_mod_self_right]
    have e4 : pr l (q + (j + p * (l.length - 1)) % l.length) = pr l (q + p * (l.length - 1) + j) := by
      refine pr_cong l ?_
      rw [Nat.add_mod_mod, show q + (j + p * (l.length - 1)) = q + p * (l.length - 1) + j by omega]
    rw [← e3, ← e4, e1]
  · rw [if_neg c, List.getElem?_eq_none (by omega)]
theorem stands_rot {l x : List Nat} (hl : 0 < l.length) (hx : x.length = l.length) : Stands l x ↔ ∃ p, p < l.length ∧ x = rot l p := by
  constructor
  · rintro ⟨a, e⟩
    have lt := Nat.mod_lt a hl
    exact ⟨a % l.length, lt, by rw [rot_seg (Nat.le_of_lt lt), seg_mod, ← hx]; exact e⟩
  · rintro ⟨p, hp, e⟩
    exact ⟨p, by rw [hx, ← rot_seg (Nat.le_of_lt hp)]; exact e⟩
theorem rot_zero (l : List Nat) : rot l 0 = l := by unfold rot; simp
theorem alike_times {l : List Nat} {t : Nat} (hl : 0 < l.length) (ht : 1 ≤ t) : Alike l (rep t l) := by
  have h := alike_rep (l := l) (p := 0) (t := t) (Nat.zero_le _) hl ht
  rwa [rot_zero] at h
/-- what stands is of windows alone -/
theorem stands_steps {l : List Nat} {x : Str} (hl : 0 < l.length) (h : Stands l (tl x)) {n : Nat} {z : Str} (hz : z ∈ steps n (tl x)) (hn : n ≤ x.length) : z ∈ turns n l := by
  unfold steps at hz
  obtain ⟨i, hi, rfl⟩ := List.mem_map.mp hz
  have hi := List.mem_range.mp hi
  obtain ⟨a, e⟩ := h
  rw [← len_tl] at hi
  exact (turns_mem hl _).mpr ⟨a + i, congrArg mkS (cut_seg e (by rw [← len_tl]; omega))⟩
end Tx

set_option Elab.async false
set_option linter.all false
set_option maxRecDepth 100000
set_option maxHeartbeats 1000000
namespace Tx
open PySem PySem.Spec PyProof.Rows L2 TL
/-! ### the web of a book -/
def iniS (z : Str) : Str := mkS ((tl z).take (z.length - 1))
def taiS (z : Str) : Str := mkS ((tl z).drop 1)
/-- one place after another, along windows -/
inductive Path (ws : List Str) : Str → Str → Prop
  | here (a : Str) : Path ws a a
  | step {a : Str} {v : Str} : Path ws a (iniS v) → v ∈ ws → Path ws a (taiS v)
theorem Path.trans {ws : List Str} {a b c : Str} (h : Path ws a b) (k : Path ws b c) : Path ws a c := by
  induction k with
  | here => exact h
  | step _ hv ih => exact .step ih hv
/-- what holds of a and goes along windows holds of all that a comes to -/
theorem Path.closed {ws : List Str} {a b : Str} {S : Str → Prop} (h : Path ws a b) (s : S a) (c : ∀ v ∈ ws, S (iniS v) → S (taiS v)) : S b := by
  induction h with
  | here => exact s
  | step _ hv ih => exact c _ hv ih
def placesL (ws : List Str) : List Str := ws.map iniS ++ ws.map taiS
theorem ini_place {ws : List Str} {v : Str} (h : v ∈ ws) : iniS v ∈ placesL ws := List.mem_append_left _ (List.mem_map.mpr ⟨v, h, rfl⟩)
theorem tai_place {ws : List Str} {v : Str} (h : v ∈ ws) : taiS v ∈ placesL ws := List.mem_append_right _ (List.mem_map.mpr ⟨v, h, rfl⟩)
def Joined (ws : List Str) : Prop := ∀ s ∈ placesL ws, ∀ t ∈ placesL ws, Path ws s t
/-- as many as can be in a list without two alike -/
theorem pig : ∀ (xs ys : List Str), xs.Nodup → (∀ x ∈ xs, x ∈ ys) → xs.length ≤ ys.length
  | [], _, _, _ => Nat.zero_le _
  | x :: xs, ys, nd, sub => by
    obtain ⟨nx, nd'⟩ := List.nodup_cons.mp nd
    have hx := sub x (List.mem_cons_self ..)
    have k := pig xs (ys.erase x) nd' fun y hy => (List.mem_erase_of_ne fun e => nx (by rw [← e]; exact hy)).mpr (sub y (List.mem_cons_of_mem _ hy))
    rw [List.length_erase_of_mem hx] at k
    have : 0 < ys.length := List.length_pos_of_mem hx
    rw [List.length_cons]
    omega
theorem pig_all {xs ys : List Str} (nd : xs.Nodup) (sub : ∀ x ∈ xs, x ∈ ys) (len : ys.length ≤ xs.length) {y : Str} (hy : y ∈ ys) : y ∈ xs := by
  refine Classical.byContradiction fun no => ?_
  have := pig (y :: xs) ys (List.nodup_cons.mpr ⟨no, nd⟩) fun x hx => by
    rcases List.mem_cons.mp hx with rfl | hx
    · exact hy
    · exact sub x hx
  rw [List.length_cons] at this
  omega
theorem count_two {p q r : Str → Bool} (hp : ∀ x, p x = true → r x = true) (hq : ∀ x, q x = true → r x = true) : ∀ ws : List Str, (∀ x ∈ ws, p x = true → q x = true → False) → ws.countP p + ws.countP q ≤ ws.countP r
  | [], _ => by simp
  | x :: ws, no => by
    have ih := count_two hp hq ws fun y hy => no y (List.mem_cons_of_mem _ hy)
    have nx := no x (List.mem_cons_self ..)
    rw [List.countP_cons, List.countP_cons, List.countP_cons]
    cases e1 : p x <;> cases e2 : q x <;> cases e3 : r x <;> simp only [if_true, Bool.false_eq_true, if_false] <;> first
      | omega
      | exact absurd ((hp x e1).symm.trans e3) (by decide)
      | exact absurd ((hq x e2).symm.trans e3) (by decide)
      | exact (nx e1 e2).elim
/-- windows to come: those whose end is not there yet -/
def togo (ws xs : List Str) : Nat := ws.countP fun v => decide (taiS v ∉ xs)
def newT (ws xs : List Str) : List Str := (ws.filter fun v => decide (iniS v ∈ xs) && decide (taiS v ∉ xs)).map taiS
theorem togo_le {ws xs ys : List Str} (u : ∀ x, x ∈ ys ↔ x ∈ newT ws xs) : togo ws (xs ++ ys) + (newT ws xs).length ≤ togo ws xs := by
  unfold togo newT
  rw [List.length_map, ← List.countP_eq_length_filter]
  refine count_two (fun v h => ?_) (fun v h => ?_) ws (fun v hv h1 h2 => ?_)
  · have h := of_decide_eq_true h
    exact decide_eq_true fun c => h (List.mem_append_left _ c)
  · rw [Bool.and_eq_true] at h; exact h.2
  · refine of_decide_eq_true h1 (List.mem_append_right _ ((u _).mpr ?_))
    exact List.mem_map.mpr ⟨v, List.mem_filter.mpr ⟨hv, h2⟩, rfl⟩
end Tx

set_option Elab.async false
set_option linter.all false
set_option maxRecDepth 100000
set_option maxHeartbeats 4000000
namespace Tx
open PySem PySem.Spec PyProof.Rows L2 TL
/-- a text's signs, one by one -/
def signs (x : Str) : List Str := (tl x).map fun c => ⟨#[c]⟩
theorem signs_len (x : Str) : (signs x).length = x.cps.size := by unfold signs; rw [List.length_map, ← len_tl]; rfl
section
variable {P : Program} {w : World} {A : Around} {E : Value → Shared → Prop}
set_option maxHeartbeats 6400000 in
theorem call_setT {s : Shared} {x : Str} {t : Tok} {Q : Value → Shared → Prop} (hh : A.handled = none) (hb : x.cps.size + 1 < scanBound)
    (h : ∀ h' tk ks, FirstOf (signs x) (signs x).length ks → SetS w h' s.heap.objs.size ks → (∀ b o, s.heap.get? b = some o → h'.get? b = some o) → Q (.ref s.heap.objs.size) { s with heap := h', toks := tk }) :
    wpAny (model P w) A (call (.type "set") [.str x t]) Q E s := by
  obtain ⟨c, tl', hmro⟩ := F.called_set.mro
  have hmade := F.called_set.made
  have hsub := F.called_set.sub
  refine wpAny_call (codeAny_of_tree (show wpAny _ _ (callAny (.type "set") _) _ _ _ from ?_))
  refine wpAny_pure ⟨Code.quiet_builtin _ (by decide +kernel), codeAny_builtin F.entry_type_call ?_⟩
  rw [Around.under_plain (weight_type_call_type "set" [.str x t] []) rfl]
  have h1 := F.called_set.notType
  have h2 := F.called_set.canCreate
  have hct := F.typeCall_set_1 (.str x t)
  repeat (any_goals (first | assumption | wp_step))
  refine codeAny_mono (code_set_led1 (.str x t) (E := E) (Q₁ := fun obj s1 => obj = .ref s.heap.objs.size ∧ s1 = { s with heap := s.heap.push (freshSet w) }) ⟨rfl, rfl⟩) fun r s1 hr => ?_
  rcases r with e | fl
  · exact hr
  · rcases fl with obj | _ | _ | _
    all_goals first | exact hr.elim | skip
    obtain ⟨rfl, rfl⟩ := hr
    have at0 : (s.heap.push (freshSet w)).get? s.heap.objs.size = some (freshSet w) := Heap.get?_push_size _ rfl
    have hT : Shared.TypeIs { s with heap := s.heap.push (freshSet w) } (.ref s.heap.objs.size) "set" := ⟨_, at0, rfl⟩
    have hli := F.called_set.init.lookup
    have hbi := F.called_set.init.bind (.ref s.heap.objs.size)
    repeat (any_goals (first | assumption | wp_step))
    refine codeAny_mono (codeAny_call_builtin (R := wants (fun r s2 => r = .none ∧ ∃ h' tk ks, s2 = { s with heap := h', toks := tk } ∧ FirstOf (signs x) (signs x).length ks ∧ SetS w h' s.heap.objs.size ks ∧
      ∀ b o, s.heap.get? b = some o → h'.get? b = some o) E) F.called_set.init.plain F.entry_set_init (check_set_init_1 hT ?_)) fun r2 s2 hr2 => ?_
    · have f1 := PySem.F.sub_str_set
      have f2 := PySem.F.sub_str_frozenset
      have f3 : (Value.type "str" == Value.type "dict") = false := by decide
      unfold Builtin.«set.__init__» noKeywords Builtin.Frozenset.updateFrom
      generalize hPI : pyIter = PI
      wp_walk
      subst hPI
      refine wpAny_pyIter_str fun oI St W st0 => wpAny_bind (wpAny_runValue ?_)
      have hh3 : A.in1.in1.in1.handled = none := by simp [hh]
      have sz : (s.heap.push (freshSet w)).objs.size = s.heap.objs.size + 1 := Heap.size_push ..
      have nS : s.heap.objs.size ∉ [(s.heap.push (freshSet w)).objs.size] := by
        rw [sz]
        simp only [List.mem_singleton]
        exact Nat.ne_of_lt (Nat.lt_succ_self _)
      have hv : ∀ (i : Nat) (v : Value), SignAt x i v → ∃ y u, (signs x)[i]? = some y ∧ v = .str y u := fun i v z => by
        obtain ⟨c, u, e, rfl⟩ := z
        refine ⟨⟨#[c]⟩, u, ?_, rfl⟩
        unfold signs
        rw [List.getElem?_map, show (tl x)[i]? = some c by rw [← e]; exact Array.getElem?_toList ..]
        rfl
      refine setS_update (W _ hh3).toS nS (signs_len x).symm hb hv x.cps.size 0 _ [] (Nat.sub_zero _) (Nat.zero_le _)
        st0 ⟨Nat.le_refl _, List.nodup_nil, fun y => by rw [List.take_zero]⟩ (fresh_ok (Heap.get?_push_of_some _ at0)) fun s3 ks mv fo hk => ?_
      obtain ⟨h3, g3, d3, t3, o3⟩ := s3
      obtain rfl : g3 = s.gens := mv.gens
      obtain rfl : d3 = s.drawn := mv.drawn
      obtain rfl : o3 = s.os := mv.os
      rw [← signs_len] at fo
      refine wpAny_pure (wpAny_pure (a := Fin.done (.ret Value.none)) ⟨rfl, h3, t3, ks, rfl, fo, hk, fun b o e => ?_⟩)
      have lb := Heap.lt_size e
      refine mv.heap b o ?_ (Heap.get?_push_of_some _ (Heap.get?_push_of_some _ e))
      rw [sz]
      simp only [List.mem_cons, List.mem_singleton, List.not_mem_nil, or_false, not_or]
      exact ⟨Nat.ne_of_lt lb, Nat.ne_of_lt (Nat.lt_succ_of_lt lb)⟩
    · rcases r2 with e | fl
      · exact hr2
      · rcases fl with r | _ | _ | _
        all_goals first | exact hr2.elim | skip
        obtain ⟨rfl, h', tk, ks, rfl, fo, hk, kp⟩ := hr2
        repeat (any_goals (first | assumption | wp_step))
        exact h _ _ _ fo hk kp
end
section
variable {X : Cx} {pins : List (Addr × Obj)} {σ : L2.St} {H : Hp}
/-- set(x), a text -/
def rSetT (w : World) : List V → Hp → VK → Prop := fun vs H Q => ∃ x : Str, vs = [V.str x] ∧ x.length < 4000 ∧ ∀ p ks, FirstOf (signs x) (signs x).length ks → H p = none → Q (.ref p) (upd H p (SetSO w p ks))
theorem cr_setT (hc : X.calm = true) : CallR X (.type "set") (rSetT X.w) := by
  intro pins s σ H vs us Q I r h
  obtain ⟨x, rfl, hb, q⟩ := h
  obtain ⟨u, rfl, t, rfl⟩ := vals1 r
  refine call_setT (I.ok.hd hc) (by unfold scanBound; exact Nat.lt_of_lt_of_le (Nat.succ_lt_succ hb) (by decide)) fun h' tk ks fo hk kp => ?_
  exact ⟨.ref s.heap.objs.size, upd H s.heap.objs.size (SetSO X.w s.heap.objs.size ks), I.laid (t' := tk) kp (Nat.le_refl _) (setSO_new hk), rfl, q _ ks fo (I.hok.fresh (Nat.le_refl _))⟩
theorem setTK (w : World) (hw : X.w = w) (hc : X.calm = true) : CallR X (.type "set") (rSetT w) := by subst hw; exact cr_setT hc
/-- min(x, y), two texts -/
def rMin2S : List V → Hp → VK → Prop := fun vs H Q => ∃ x y : Str, vs = [V.str x, V.str y] ∧ ∀ m, m = x ∨ m = y → Q (.str m) H
theorem cr_min2S (hc : X.calm = true) : CallR X (.builtin "min") rMin2S := by
  intro pins s σ H vs us Q I r h
  obtain ⟨x, y, rfl, q⟩ := h
  obtain ⟨u, w', rfl, ⟨t, rfl⟩, ⟨t', rfl⟩⟩ := vals2 r
  have hT : (s.heap.push { cls := .type "tuple", data := .seq #[Value.str x t, Value.str y t'] }).IsTuple s.heap.objs.size #[Value.str x t, Value.str y t'] := ⟨_, Heap.get?_push_size _ rfl, rfl, _, rfl⟩
  have hsz : (s.heap.push { cls := .type "tuple", data := .seq #[Value.str x t, Value.str y t'] }).objs.size = s.heap.objs.size + 1 := Heap.size_push ..
  have hval : ∀ (i : Nat) (v : Value), (#[Value.str x t, Value.str y t'] : Array Value)[i]? = some v → ∃ u, v = .str ([x, y].getD i Str.empty) u := fun i v e => by
    match i, e with
    | 0, e => exact ⟨t, (Option.some.inj e).symm⟩
    | 1, e => exact ⟨t', (Option.some.inj e).symm⟩
    | n + 2, e => simp at e
  refine call_min_two (wpAny_pyIter_tuple hT ?_)
  refine ⟨_, [_, s.heap.objs.size], [_], _, _, _, _, rfl, Walks.tuple (A := X.A.in1) (I.ok.hd hc) _ s.heap.objs.size (by rw [hsz]; exact Nat.ne_of_lt (Nat.lt_succ_self _)) #[Value.str x t, Value.str y t'],
    ⟨⟨_, Heap.get?_push_size _ rfl, rfl, rfl⟩, hT.push _⟩, fun c hc => ?_, by show 0 < 2; decide, (fun i j vi vj s' Q' E' hi hj hq => ?_ : CmpOf X.prog X.w X.A.in1 .Lt _ fun i j => decide (tl ([x, y].getD i Str.empty) < tl ([x, y].getD j Str.empty))), fun v h' tk hP hk => ?_⟩
  · show c < ((s.heap.push _).push _).objs.size
    rw [Heap.size_push, hsz]
    rcases List.mem_cons.mp hc with e | hc
    · rw [e, hsz]; exact Nat.lt_succ_self _
    · rw [List.mem_singleton.mp hc]; exact Nat.lt_succ_of_lt (Nat.lt_succ_self _)
  · obtain ⟨u, rfl⟩ := hval i vi hi
    obtain ⟨u', rfl⟩ := hval j vj hj
    exact P.lt_str hq
  · have hold : ∀ c o, s.heap.get? c = some o → h'.get? c = some o := fun c o e => by
      refine hk c o (fun hm => ?_) (Heap.get?_push_of_some _ (Heap.get?_push_of_some _ e))
      have e2 := Heap.lt_size e
      rw [List.mem_singleton.mp hm, hsz] at e2
      exact Nat.lt_irrefl _ (Nat.lt_of_succ_lt e2)
    obtain ⟨u, rfl⟩ := hval _ v hP
    refine ⟨.str _, H, I.kept hold, ⟨u, rfl⟩, q _ ?_⟩
    have lt : argBest (fun i j => decide (tl ([x, y].getD i Str.empty) < tl ([x, y].getD j Str.empty))) 1 ≤ 1 := (best_at (xs := [x, y]) 1 (by show 1 < 2; decide)).1
    show [x, y].getD (argBest (fun i j => decide (tl ([x, y].getD i Str.empty) < tl ([x, y].getD j Str.empty))) 1) Str.empty = x ∨ [x, y].getD (argBest (fun i j => decide (tl ([x, y].getD i Str.empty) < tl ([x, y].getD j Str.empty))) 1) Str.empty = y
    generalize argBest (fun i j => decide (tl ([x, y].getD i Str.empty) < tl ([x, y].getD j Str.empty))) 1 = n at lt ⊢
    rcases (show n = 0 ∨ n = 1 by omega) with rfl | rfl
    · exact .inl rfl
    · exact .inr rfl
/-- d != {} -/
def rNeD0 : R2 := fun x y H Q => ∃ a b ks, x = .ref a ∧ y = .ref b ∧ H a = some (.dK ks) ∧ H b = some (.dK []) ∧ Q (.bl (!ks.isEmpty)) H
theorem op_neD0 (hu : X.A.units < cLine) : OpR X (compareOp .NotEq) rNeD0 := by
  intro pins s σ H x y v u Q I rx ry h
  obtain ⟨a, b, ks, rfl, rfl, ea, eb, q⟩ := h
  obtain rfl : v = Value.ref a := rx
  obtain rfl : u = Value.ref b := ry
  obtain ⟨_, ya, va, ra, da⟩ := (show ObjOk X.prog X.w H s.heap a (.dK ks) from I.hok a _ ea)
  obtain ⟨_, yb, vb, rb, db⟩ := (show ObjOk X.prog X.w H s.heap b (.dK []) from I.hok b _ eb)
  have hb0 : vb.length = 0 := by rw [← rb.length]; rfl
  refine PySem.W.keq_ne (knd := mixKind X.prog X.w) (r := true) ya yb da db hu (fun e => ?_) (fin_bl I q ?_)
  · have h0 : ks = [] := List.eq_nil_of_length_eq_zero (by rw [ra.length, e]; exact hb0)
    subst h0
    exact hits_all rb ra fun p hp => by cases hp
  · cases ks with
    | nil =>
      have : va.length = 0 := by rw [← ra.length]; rfl
      simp [this, hb0]
    | cons k ks =>
      have : va.length = ks.length + 1 := by rw [← ra.length]; rfl
      simp [this, hb0]
end
end Tx

set_option Elab.async false
set_option linter.all false
set_option maxRecDepth 100000
set_option maxHeartbeats 4000000
namespace Tx
open PySem PySem.Spec PyProof.Rows L2 TL
section
variable {X : Cx}
/-- x = {k: v for ..} -/
theorem ps_setDc {i : Nat} {y : Str} {py : Pos} {kx vx tg iter : Expr} {ifs : List Expr} {scope : Scope} {own : List (Str × Nat)} {pos spos : Pos} {wi : TI} {g : TG} {tt : TT} {tk tv : TE} (hc : X.calm = true) (hN : X.N.Nodup) (hy : X.N[i]? = some y) (hyl : X.env.scope.names.lookup y = some .local)
    (hsw : swapsWith (.DictComp kx vx [⟨tg, iter, ifs, 0⟩] scope pos) (some (.Name y py)) spos.line X.env = pure true) (hi : PI X tg iter wi) (ok : BlkOk X.N X.env.scope scope own)
    (hg : ∀ (s : Shared) (H : Hp) (C : Addr) (cl : List (Str × Addr)) (fp : List Addr), PG (X.blk s H scope (compEnvC scope cl C X.env) fp) tg g) (ht : ∀ (s : Shared) (H : Hp) (C : Addr) (cl : List (Str × Addr)) (fp : List Addr), PTs (X.blk s H scope (compEnvC scope cl C X.env) fp) ifs tt)
    (hk : ∀ (s : Shared) (H : Hp) (C : Addr) (cl : List (Str × Addr)) (fp : List Addr), PE (X.blk s H scope (compEnvC scope cl C X.env) fp) kx tk)
    (he : ∀ (s : Shared) (H : Hp) (C : Addr) (cl : List (Str × Addr)) (fp : List Addr), PE (X.blk s H scope (compEnvC scope cl C X.env) fp) vx tv) (hs : ∀ x, foldedSetIterable iter X.env x = pure x := by intro _; rfl) :
    PS X (.Assign [.Name y py] (.DictComp kx vx [⟨tg, iter, ifs, 0⟩] scope pos) spos) (tAsg (tDc wi g tt tk tv (own.map (·.2))) (gName i)) := by
  refine ⟨fun pins s σ H D I h => ?_⟩
  rw [exec_Assign_Name_used _ _ _ _ hsw]
  refine wpAny_bind (wpAny_standAt (wpAny_bind ?_))
  show wpAny _ X.A (do let _ ← comprehension (.DictComp kx vx [⟨tg, iter, ifs, 0⟩] scope pos) scope X.env (firstIterPos [⟨tg, iter, ifs, 0⟩] pos) newDict false (eval iter X.env) (some (assign (.Name y py) X.env))) _ _ s
  have h : tDc wi g tt tk tv (own.map (·.2)) σ H (fun x H1 => gName i x σ H1 D.nx) := h
  refine wpAny_bind (thn (dc_core (Qf := fun _ s' => SP X pins D .next s') hc hN I hi ok hg ht hk he hs h fun L C s' m H' I' q hn f => ?_) fun _ s' hq => wpAny_pure (wpAny_pure hq))
  show wpAny _ _ (assign (.Name y py) X.env (.ref L)) _ _ _
  refine wpAny_assign_Name (store_ok2 (v := V.ref L) I' hN hy (.inl hyl) rfl (fun s2 I2 ⟨a, sb, ha⟩ => ?_) (.inr hyl))
  obtain ⟨f0, f1, f2, f3, f4, f5⟩ := f
  have haC : C ≠ a := by
    rcases ha with z | z
    · rw [z]; exact f1
    · exact fun e => f4 y a z e.symm
  refine ⟨m, hn.sameBut sb haC, fun h3 sb3 => ?_⟩
  exact ⟨_, H', I2.turned (t' := s2.toks) (fun b o hb e => (sb3.2 b hb).trans e) f0 f1 f3 f4 f5, q⟩
theorem sw_trueD {kx vx : Expr} {gs : List Comprehension} {scope : Scope} {pos py : Pos} {y : Str} {l : Nat} {env : Env} (hk : env.scope.kind = .function) (hy : env.scope.names.lookup y = some .local) (hl : (py.line == pos.line) = true)
    (ha : (scope.names.any fun (n, k) => n == y && (k == .local || k == .cell)) = false) : swapsWith (.DictComp kx vx gs scope pos) (some (.Name y py)) l env = pure true := by
  have ky : env.kindOf y = some .local := hy
  have hb : env.blockKind = .function := by unfold Env.blockKind; rw [hk]; rfl
  unfold swapsWith
  simp only [hb, ky, ha, Expr.pos, hl]
  rfl
end
section
variable {X : Cx}
/-- min(x, y), two texts: the lesser one -/
def rMin2B : List V → Hp → VK → Prop := fun vs H Q => ∃ x y : Str, vs = [V.str x, V.str y] ∧ ∀ m, (m = x ∨ m = y) → tl m ≤ tl x → tl m ≤ tl y → Q (.str m) H
theorem cr_min2B (hc : X.calm = true) : CallR X (.builtin "min") rMin2B := by
  intro pins s σ H vs us Q I r h
  obtain ⟨x, y, rfl, q⟩ := h
  obtain ⟨u, w', rfl, ⟨t, rfl⟩, ⟨t', rfl⟩⟩ := vals2 r
  have hT : (s.heap.push { cls := .type "tuple", data := .seq #[Value.str x t, Value.str y t'] }).IsTuple s.heap.objs.size #[Value.str x t, Value.str y t'] := ⟨_, Heap.get?_push_size _ rfl, rfl, _, rfl⟩
  have hsz : (s.heap.push { cls := .type "tuple", data := .seq #[Value.str x t, Value.str y t'] }).objs.size = s.heap.objs.size + 1 := Heap.size_push ..
  have hval : ∀ (i : Nat) (v : Value), (#[Value.str x t, Value.str y t'] : Array Value)[i]? = some v → ∃ u, v = .str ([x, y].getD i Str.empty) u := fun i v e => by
    match i, e with
    | 0, e => exact ⟨t, (Option.some.inj e).symm⟩
    | 1, e => exact ⟨t', (Option.some.inj e).symm⟩
    | n + 2, e => simp at e
  refine call_min_two (wpAny_pyIter_tuple hT ?_)
  refine ⟨_, [_, s.heap.objs.size], [_], _, _, _, _, rfl, Walks.tuple (A := X.A.in1) (I.ok.hd hc) _ s.heap.objs.size (by rw [hsz]; exact Nat.ne_of_lt (Nat.lt_succ_self _)) #[Value.str x t, Value.str y t'],
    ⟨⟨_, Heap.get?_push_size _ rfl, rfl, rfl⟩, hT.push _⟩, fun c hc => ?_, by show 0 < 2; decide, (fun i j vi vj s' Q' E' hi hj hq => ?_ : CmpOf X.prog X.w X.A.in1 .Lt _ fun i j => decide (tl ([x, y].getD i Str.empty) < tl ([x, y].getD j Str.empty))), fun v h' tk hP hk => ?_⟩
  · show c < ((s.heap.push _).push _).objs.size
    rw [Heap.size_push, hsz]
    rcases List.mem_cons.mp hc with e | hc
    · rw [e, hsz]; exact Nat.lt_succ_self _
    · rw [List.mem_singleton.mp hc]; exact Nat.lt_succ_of_lt (Nat.lt_succ_self _)
  · obtain ⟨u, rfl⟩ := hval i vi hi
    obtain ⟨u', rfl⟩ := hval j vj hj
    exact P.lt_str hq
  · have hold : ∀ c o, s.heap.get? c = some o → h'.get? c = some o := fun c o e => by
      refine hk c o (fun hm => ?_) (Heap.get?_push_of_some _ (Heap.get?_push_of_some _ e))
      have e2 := Heap.lt_size e
      rw [List.mem_singleton.mp hm, hsz] at e2
      exact Nat.lt_irrefl _ (Nat.lt_of_succ_lt e2)
    obtain ⟨u, rfl⟩ := hval _ v hP
    have best := best_at (xs := [x, y]) 1 (by show 1 < 2; decide)
    refine ⟨.str _, H, I.kept hold, ⟨u, rfl⟩, q _ ?_ (best.2 0 (by decide)) (best.2 1 (by decide))⟩
    have lt : argBest (fun i j => decide (tl ([x, y].getD i Str.empty) < tl ([x, y].getD j Str.empty))) 1 ≤ 1 := best.1
    show [x, y].getD (argBest (fun i j => decide (tl ([x, y].getD i Str.empty) < tl ([x, y].getD j Str.empty))) 1) Str.empty = x ∨ [x, y].getD (argBest (fun i j => decide (tl ([x, y].getD i Str.empty) < tl ([x, y].getD j Str.empty))) 1) Str.empty = y
    generalize argBest (fun i j => decide (tl ([x, y].getD i Str.empty) < tl ([x, y].getD j Str.empty))) 1 = n at lt ⊢
    rcases (show n = 0 ∨ n = 1 by omega) with rfl | rfl
    · exact .inl rfl
    · exact .inr rfl
end
end Tx

set_option Elab.async false
set_option linter.all false
set_option maxRecDepth 100000
set_option maxHeartbeats 4000000
namespace Tx
open PySem PySem.Spec PyProof.Rows L2 TL
/-! ### min of a list of pairs (number, text) -/
def pltB (p q : Nat × Str) : Bool := if p.1 = q.1 then decide (tl p.2 < tl q.2) else decide (p.1 < q.1)
theorem pltB_irrefl (p : Nat × Str) : pltB p p = false := by
  unfold pltB; rw [if_pos rfl]; exact decide_eq_false (List.lt_irrefl _)
theorem pltB_trans {a b c : Nat × Str} (h : pltB a b = true) (k : pltB b c = true) : pltB a c = true := by
  unfold pltB at *
  by_cases e1 : a.1 = b.1 <;> by_cases e2 : b.1 = c.1
  · rw [if_pos e1] at h; rw [if_pos e2] at k; rw [if_pos (e1.trans e2)]
    exact decide_eq_true (List.lt_trans (of_decide_eq_true h) (of_decide_eq_true k))
  · rw [if_neg e2] at k; have k := of_decide_eq_true k
    rw [if_neg (by omega)]; exact decide_eq_true (by omega)
  · rw [if_neg e1] at h; have h := of_decide_eq_true h
    rw [if_neg (by omega)]; exact decide_eq_true (by omega)
  · rw [if_neg e1] at h; rw [if_neg e2] at k; have h := of_decide_eq_true h; have k := of_decide_eq_true k
    rw [if_neg (by omega)]; exact decide_eq_true (by omega)
theorem best_gen {A : Type} (f : A → A → Bool) (ir : ∀ a, f a a = false) (tr : ∀ a b c, f a b = true → f b c = true → f a c = true) (g : Nat → A) : ∀ k, argBest (fun i j => f (g i) (g j)) k ≤ k ∧ ∀ j, j ≤ k → f (g j) (g (argBest (fun i j => f (g i) (g j)) k)) = false
  | 0 => ⟨Nat.le_refl _, fun j hj => by obtain rfl : j = 0 := by omega
                                        exact ir _⟩
  | k + 1 => by
    obtain ⟨h1, h2⟩ := best_gen f ir tr g k
    simp only [argBest]
    by_cases c : f (g (k + 1)) (g (argBest (fun i j => f (g i) (g j)) k)) = true
    · rw [if_pos c]
      refine ⟨Nat.le_refl _, fun j hj => ?_⟩
      rcases Nat.lt_or_ge j (k + 1) with lt | ge
      · cases d : f (g j) (g (k + 1)) with
        | false => rfl
        | true => exact absurd (tr _ _ _ d c) (by rw [h2 j (by omega)]; exact Bool.false_ne_true)
      · obtain rfl : j = k + 1 := by omega
        exact ir _
    · rw [if_neg c]
      refine ⟨by omega, fun j hj => ?_⟩
      rcases Nat.lt_or_ge j (k + 1) with lt | ge
      · exact h2 j (by omega)
      · obtain rfl : j = k + 1 := by omega
        exact Bool.eq_false_iff.mpr c
/-- the pairs stand at the addresses -/
def PairsAt (H : Hp) : List Addr → List (Nat × Str) → Prop
  | [], [] => True
  | a :: as, p :: ps => H a = some (.tup [.int p.1, .str p.2]) ∧ PairsAt H as ps
  | _, _ => False
theorem PairsAt.at' {H : Hp} : ∀ {as : List Addr} {ps : List (Nat × Str)}, PairsAt H as ps → as.length = ps.length ∧ ∀ i (h : i < as.length) (h' : i < ps.length), H as[i] = some (.tup [.int ps[i].1, .str ps[i].2])
  | [], [], _ => ⟨rfl, fun i h => by simp at h⟩
  | a :: as, p :: ps, ⟨e, r⟩ => by
    obtain ⟨h1, h2⟩ := PairsAt.at' r
    refine ⟨by rw [List.length_cons, List.length_cons, h1], fun i h h' => ?_⟩
    cases i with
    | zero => exact e
    | succ i => exact h2 i (by simpa using h) (by simpa using h')
theorem PairsAt.same {H H' : Hp} (s : Same H H') : ∀ {as : List Addr} {ps : List (Nat × Str)}, PairsAt H as ps → PairsAt H' as ps
  | [], [], _ => trivial
  | _ :: _, _ :: _, ⟨e, r⟩ => ⟨s _ _ e, PairsAt.same s r⟩
theorem PairsAt.snoc {H : Hp} {a : Addr} {p : Nat × Str} (e : H a = some (.tup [.int p.1, .str p.2])) : ∀ {as : List Addr} {ps : List (Nat × Str)}, PairsAt H as ps → PairsAt H (as ++ [a]) (ps ++ [p])
  | [], [], _ => ⟨e, trivial⟩
  | _ :: _, _ :: _, ⟨e', r⟩ => ⟨e', PairsAt.snoc e r⟩
def rMinP (K : PySem.W.Frag) : List V → Hp → VK → Prop := fun vs H Q => ∃ (a : Addr) (as : List Addr) (ps : List (Nat × Str)), vs = [V.ref a] ∧ SqL K H a (as.map V.ref) ∧ PairsAt H as ps ∧ 0 < ps.length ∧
  ∀ b p, p ∈ ps → H b = some (.tup [.int p.1, .str p.2]) → (∀ q ∈ ps, pltB q p = false) → Q (.ref b) H
section
variable {X : Cx} {pins : List (Addr × Obj)} {σ : L2.St} {H : Hp}
theorem cr_minP (hc : X.calm = true) (hu : X.A.units + 64 < cLine) : CallR X (.builtin "min") (rMinP X.K) := by
  intro pins s σ H vs us Q I r h
  obtain ⟨a, as, ps, rfl, hs, hp, hne, q⟩ := h
  rw [Vals.ref1 r]
  obtain ⟨its, rv, hl, hz⟩ := I.list hs
  obtain ⟨pl, pat⟩ := hp.at'
  have e0 := rv.length
  rw [List.length_map] at e0
  have hval : ∀ (i : Nat) (v : Value), its.toArray[i]? = some v → ∃ (h : i < as.length) (h' : i < ps.length), v = .ref as[i] := fun i v e => by
    have e : its[i]? = some v := by simpa using e
    have li := (List.getElem?_eq_some_iff.mp e).1
    refine ⟨by omega, by omega, ?_⟩
    have : RelV (V.ref as[i]) v := by
      have := rv.get (i := i) (x := V.ref as[i]) (by rw [List.getElem?_map, List.getElem?_eq_getElem (by omega)]; rfl)
      obtain ⟨u, eu, ru⟩ := this
      rw [e] at eu
      cases eu
      exact ru
    exact this
  have tup : ∀ {s' : Shared} (hk : ∀ b o, s.heap.get? b = some o → s'.heap.get? b = some o) i (h : i < as.length) (h' : i < ps.length), ∃ t u, s'.heap.IsTuple as[i] #[.int ps[i].1 t, .str ps[i].2 u] := fun {s'} hk i h h' => by
    obtain ⟨it2, r2, ⟨o, ho, hcl, n, hd⟩, _⟩ := I.tuple (.inl (.inl (pat i h h')))
    obtain ⟨u1, u2, e2, ⟨t, rfl⟩, ⟨u, rfl⟩⟩ := vals2 r2
    subst e2
    exact ⟨t, u, o, hk _ _ ho, hcl, n, hd⟩
  refine PySem.call_min_walkH (PySem.W.iter_listW (A := X.A.in1) (I.ok.hd hc) hl.isList fun s₂ e W st hfp hw hk => ?_)
  refine ⟨_, _, _, _, _, _, _, s.heap, fun i j => pltB (ps.getD i (0, Str.empty)) (ps.getD j (0, Str.empty)), rfl, W, st, hfp, by rw [List.size_toArray]; omega, hw, hk, (fun i j vi vj s' Q' E' hk' hi hj hq => ?_), fun v s' hP m => ?_⟩
  · obtain ⟨h1, h1', rfl⟩ := hval i vi hi
    obtain ⟨h2, h2', rfl⟩ := hval j vj hj
    obtain ⟨t, u, T⟩ := tup hk' i h1 h1'
    obtain ⟨t', u', T'⟩ := tup hk' j h2 h2'
    have gi : ps.getD i (0, Str.empty) = ps[i] := by rw [List.getD_eq_getElem?_getD, List.getElem?_eq_getElem h1']; rfl
    have gj : ps.getD j (0, Str.empty) = ps[j] := by rw [List.getD_eq_getElem?_getD, List.getElem?_eq_getElem h2']; rfl
    dsimp only at hq
    rw [gi, gj] at hq
    generalize ps[i] = p at T hq
    generalize ps[j] = p' at T' hq
    refine Ob.RcOp.tuples_lt (A := X.A.in1) (s := s') (e := fun j => if j = 0 then decide (p.1 = p'.1) else decide (p.2 = p'.2)) (r := fun j => if j = 0 then decide (p.1 < p'.1) else decide (tl p.2 < tl p'.2)) T T' (by show X.A.units + 1 < _; omega) (fun j h1 h2 => ?_) (fun j h1 h2 _ => ?_) X.prog X.w E' Q' ?_
    · match j, h1, h2 with
      | 0, _, _ =>
        have := SeqAt.EqAt.int_int (A := X.A.in1.in1) (s := s') (p.1 : Int) t (p'.1 : Int) t'
        have z : ((p.1 : Int) == (p'.1 : Int)) = decide (p.1 = p'.1) := by
          by_cases c : p.1 = p'.1
          · rw [decide_eq_true c, c]; exact beq_self_eq_true _
          · rw [decide_eq_false c]; exact beq_eq_false_iff_ne.mpr fun h => c (by omega)
        rw [z] at this
        exact this
      | 1, _, _ =>
        have := SeqAt.EqAt.str_str (A := X.A.in1.in1) (s := s') p.2 u p'.2 u'
        have z : (p.2 == p'.2) = decide (p.2 = p'.2) := by
          by_cases c : p.2 = p'.2
          · rw [decide_eq_true c, c]; exact beq_self_eq_true _
          · rw [decide_eq_false c]; exact beq_eq_false_iff_ne.mpr c
        rw [z] at this
        exact this
      | n + 2, h1, _ => simp at h1; omega
    · match j, h1, h2 with
      | 0, _, _ =>
        have := Ob.RcOp.lt_int (A := X.A.in1.in1) (s := s') (p.1 : Int) (p'.1 : Int) t t'
        have z : decide ((p.1 : Int) < (p'.1 : Int)) = decide (p.1 < p'.1) := decide_eq_decide.mpr (by omega)
        rw [z] at this
        exact this
      | 1, _, _ => exact fun _ _ _ _ h => PyProof.Rows.lt_str h
      | n + 2, h1, _ => simp at h1; omega
    · have z : Ob.lexAt (fun j => if j = 0 then decide (p.1 = p'.1) else decide (p.2 = p'.2)) (fun j => if j = 0 then decide (p.1 < p'.1) else decide (tl p.2 < tl p'.2)) (decide ((#[Value.int p.1 t, .str p.2 u] : Array Value).size < (#[Value.int p'.1 t', .str p'.2 u'] : Array Value).size)) 0 (min (#[Value.int p.1 t, .str p.2 u] : Array Value).size (#[Value.int p'.1 t', .str p'.2 u'] : Array Value).size) = pltB p p' := by
        show Ob.lexAt _ _ (decide (2 < 2)) 0 2 = _
        rw [Ob.lexAt_succ, Ob.lexAt_succ, Ob.lexAt_zero]
        unfold pltB
        by_cases c : p.1 = p'.1
        · rw [if_pos c]
          by_cases d : p.2 = p'.2
          · simp [c, d, List.lt_irrefl]
          · simp [c, d]
        · rw [if_neg c]
          simp [c]
      rw [z]
      exact hq
  · obtain ⟨h', tk, rfl, hk'⟩ := PySem.W.moved_old e rfl m
    obtain ⟨h1, h1', rfl⟩ := hval _ v hP
    have gen := best_gen pltB pltB_irrefl (fun a b c => pltB_trans) (fun i => ps.getD i (0, Str.empty)) (its.toArray.size - 1)
    refine ⟨.ref _, H, I.kept hk', rfl, q _ _ (List.getElem_mem h1') (pat _ h1 h1') fun y hy => ?_⟩
    obtain ⟨j, hj, rfl⟩ := List.mem_iff_getElem.mp hy
    have := gen.2 j (by rw [List.size_toArray]; omega)
    have gi : ∀ i (h : i < ps.length), ps.getD i (0, Str.empty) = ps[i] := fun i h => by rw [List.getD_eq_getElem?_getD, List.getElem?_eq_getElem h]; rfl
    rw [gi j hj, gi _ h1'] at this
    exact this
theorem minPK (K : PySem.W.Frag) (h : X.K = K) (hc : X.calm = true) (hu : X.A.units + 64 < cLine) : CallR X (.builtin "min") (rMinP K) := by subst h; exact cr_minP hc hu
end
end Tx

set_option Elab.async false
set_option linter.all false
set_option maxRecDepth 100000
set_option maxHeartbeats 1000000
namespace Tx
open PySem PySem.Spec PyProof.Rows L2 TL
section
variable {X : Cx}
/-- len of a set of texts -/
def rLenS (w : World) : List V → Hp → VK → Prop := fun vs H Q => ∃ (a : Addr) (ks : List Str), vs = [V.ref a] ∧ H a = some (SetSO w a ks) ∧ Q (.int ((ks.length : Nat) : Int)) H
theorem cr_lenS : CallR X (.builtin "len") (rLenS X.w) := by
  intro pins s σ H vs us Q I r h
  obtain ⟨a, ks, rfl, ea, q⟩ := h
  rw [Vals.ref1 r]
  obtain ⟨o, es, ep, t, ho, hex, hd, _, pm, _, small, fit, _⟩ := setSO_get I ea
  have e : es.size = ks.length := by
    have := pm.length_eq
    rwa [List.length_map, Array.length_toList] at this
  refine call_len_set ho hex hd fit (by unfold scanBound at small; have : (sizeLine : Nat) < 2 ^ 63 := line63; omega) ?_
  rw [e]
  exact ⟨.int ((ks.length : Nat) : Int), H, I.tok _, ⟨_, rfl⟩, q⟩
theorem lenSK (w : World) (hw : X.w = w) : CallR X (.builtin "len") (rLenS w) := by subst hw; exact cr_lenS
end
end Tx

set_option Elab.async false
set_option linter.all false
set_option maxRecDepth 100000
set_option maxHeartbeats 1000000
namespace Tx
open PySem PySem.Spec PyProof.Rows L2 TL
/-! ### ways from one window, and the first shortest ones -/
/-- the last sign of a window -/
def lasL (v : Str) : List Nat := (tl v).drop (v.length - 1)
/-- the signs of a piece, by its steps -/
def txt : List Str → List Nat
  | [] => []
  | w :: r => tl w ++ (r.map lasL).flatten
theorem txt_add {l : List Str} (h : l ≠ []) (v : Str) : txt (l ++ [v]) = txt l ++ lasL v := by
  cases l with
  | nil => exact absurd rfl h
  | cons w r =>
    show tl w ++ ((r ++ [v]).map lasL).flatten = (tl w ++ (r.map lasL).flatten) ++ lasL v
    rw [List.map_append, List.flatten_append, List.append_assoc]
    simp
theorem lt_app : ∀ {x y a b : List Nat}, x.length = y.length → x < y → x ++ a < y ++ b
  | [], [], _, _, _, h => absurd h (List.lt_irrefl _)
  | [], _ :: _, _, _, n, _ => by simp at n
  | _ :: _, [], _, _, n, _ => by simp at n
  | c :: x, d :: y, a, b, n, h => by
    rw [List.cons_append, List.cons_append, List.cons_lt_cons_iff]
    rcases List.cons_lt_cons_iff.mp h with h | ⟨e, h⟩
    · exact .inl h
    · exact .inr ⟨e, lt_app (by simpa using n) h⟩
theorem le_app {x y : List Nat} (n : x.length = y.length) (h : x ≤ y) (a : List Nat) : x ++ a ≤ y ++ a := by
  by_cases e : x = y
  · rw [e]; exact List.le_refl _
  · have lt : x < y := List.not_le.mp fun g => e (List.le_antisymm h g)
    exact List.le_of_lt (lt_app n lt)
theorem las_len {v : Str} (h : 1 ≤ v.length) : (lasL v).length = 1 := by
  unfold lasL; rw [List.length_drop, ← len_tl]; omega
/-- the steps of a way from one window, and its last one -/
inductive Wk (ws : List Str) (one : Str) : List Str → Str → Prop
  | one : Wk ws one [one] one
  | more {l : List Str} {u v : Str} : Wk ws one l u → v ∈ ws → iniS v = taiS u → Wk ws one (l ++ [v]) v
section
variable {ws : List Str} {one : Str}
theorem Wk.ne {l : List Str} {v : Str} (h : Wk ws one l v) : l ≠ [] := by cases h <;> simp
theorem Wk.pos {l : List Str} {v : Str} (h : Wk ws one l v) : 1 ≤ l.length := List.length_pos_iff.mpr h.ne
theorem Wk.inn {l : List Str} {v : Str} (h : Wk ws one l v) (ho : one ∈ ws) : v ∈ ws := by cases h <;> assumption
theorem Wk.all {l : List Str} {v : Str} (h : Wk ws one l v) (ho : one ∈ ws) : ∀ x ∈ l, x ∈ ws := by
  induction h with
  | one => intro x hx; rw [List.mem_singleton.mp hx]; exact ho
  | more _ hv _ ih =>
    intro x hx
    rcases List.mem_append.mp hx with hx | hx
    · exact ih x hx
    · rw [List.mem_singleton.mp hx]; exact hv
theorem Wk.last {l : List Str} {v : Str} (h : Wk ws one l v) : l.getLast? = some v := by
  cases h with
  | one => rfl
  | more _ _ _ => simp
theorem Wk.inv {l : List Str} {v : Str} (h : Wk ws one l v) (n : 2 ≤ l.length) : ∃ l' u, l = l' ++ [v] ∧ Wk ws one l' u ∧ v ∈ ws ∧ iniS v = taiS u := by
  cases h with
  | one => simp at n
  | more hw hv e => exact ⟨_, _, rfl, hw, hv, e⟩
theorem Wk.one_of {l : List Str} {v : Str} (h : Wk ws one l v) (n : l.length ≤ 1) : l = [one] ∧ v = one := by
  cases h with
  | one => exact ⟨rfl, rfl⟩
  | more hw _ _ => have := hw.pos; rw [List.length_append, List.length_singleton] at n; omega
/-- v is come to by d steps more, no less, and y is the first text of them -/
structure Bst (ws : List Str) (one : Str) (d : Nat) (v : Str) (y : List Nat) : Prop where
  way : ∃ l, Wk ws one l v ∧ l.length = d + 1 ∧ txt l = y
  short : ∀ l, Wk ws one l v → d + 1 ≤ l.length
  first : ∀ l, Wk ws one l v → l.length = d + 1 → y ≤ txt l
theorem Bst.start : Bst ws one 0 one (tl one) :=
  ⟨⟨[one], .one, rfl, by simp [txt]⟩, fun l h => h.pos, fun l h n => by
    obtain ⟨rfl, _⟩ := h.one_of (by omega)
    simp [txt, List.le_refl]⟩
theorem Bst.uniq {d d' : Nat} {v : Str} {y y' : List Nat} (h : Bst ws one d v y) (h' : Bst ws one d' v y') : d = d' ∧ y = y' := by
  obtain ⟨l, hl, nl, el⟩ := h.way
  obtain ⟨l', hl', nl', el'⟩ := h'.way
  have a := h.short l' hl'
  have b := h'.short l hl
  have e : d = d' := by omega
  subst e
  exact ⟨rfl, List.le_antisymm (el' ▸ h.first l' hl' nl') (el ▸ h'.first l hl nl)⟩
theorem Bst.inn {d : Nat} {v : Str} {y : List Nat} (h : Bst ws one d v y) (ho : one ∈ ws) : v ∈ ws := by
  obtain ⟨l, hl, _⟩ := h.way
  exact hl.inn ho
/-- what is told of a way: the first shortest text, or that there is none -/
def RoadR (ws : List Str) (one other : Str) (r : V) : Prop := (∃ d y, r = .str (mkS y) ∧ Bst ws one d other y) ∨ (r = .non ∧ ∀ l, ¬ Wk ws one l other)
theorem RoadR.uniq {other : Str} {r r' : V} (h : RoadR ws one other r) (h' : RoadR ws one other r') : r = r' := by
  rcases h with ⟨d, y, rfl, b⟩ | ⟨rfl, n⟩ <;> rcases h' with ⟨d', y', rfl, b'⟩ | ⟨rfl, n'⟩
  · rw [(b.uniq b').2]
  · obtain ⟨l, hl, _⟩ := b.way; exact absurd hl (n' l)
  · obtain ⟨l, hl, _⟩ := b'.way; exact absurd hl (n l)
  · rfl
/-- ks are the windows that are come to by d steps at most -/
structure Lv (ws : List Str) (one : Str) (d : Nat) (ks : List Str) : Prop where
  all : ∀ l v, Wk ws one l v → l.length ≤ d + 1 → v ∈ ks
  each : ∀ v ∈ ks, ∃ d' y, d' ≤ d ∧ Bst ws one d' v y
theorem Lv.start : Lv ws one 0 [one] := ⟨fun l v h n => by
    obtain ⟨_, rfl⟩ := h.one_of (by omega); exact List.mem_singleton.mpr rfl, fun v hv => by
    rw [List.mem_singleton.mp hv]; exact ⟨0, _, Nat.le_refl _, .start⟩⟩
theorem Lv.inn {d : Nat} {ks : List Str} (h : Lv ws one d ks) (ho : one ∈ ws) {v : Str} (hv : v ∈ ks) : v ∈ ws := by
  obtain ⟨d', y, _, b⟩ := h.each v hv
  exact b.inn ho
/-- all windows have a sign -/
def Full (ws : List Str) : Prop := ∀ v ∈ ws, 1 ≤ v.length
theorem Wk.len {l : List Str} {v : Str} (h : Wk ws one l v) (f : Full ws) : (txt l).length + 1 = one.length + l.length := by
  induction h with
  | one => simp [txt, len_tl]
  | more hw hv _ ih =>
    rw [txt_add hw.ne, List.length_append, List.length_append, las_len (f _ hv)]
    simp; omega
theorem Bst.len {d : Nat} {v : Str} {y : List Nat} (h : Bst ws one d v y) (f : Full ws) : y.length = one.length + d := by
  obtain ⟨l, hl, nl, rfl⟩ := h.way
  have := hl.len f
  omega
/-- a new one, by the first of those that lead to it -/
theorem Lv.next {d : Nat} {ks : List Str} (f : Full ws) (h : Lv ws one d ks) {u v : Str} {y : List Nat} (hv : v ∈ ws) (nv : v ∉ ks) (bu : Bst ws one d u y) (e : iniS v = taiS u)
    (first : ∀ u' y', Bst ws one d u' y' → iniS v = taiS u' → y ++ lasL v ≤ y' ++ lasL v) : Bst ws one (d + 1) v (y ++ lasL v) := by
  have sh : ∀ l, Wk ws one l v → d + 1 + 1 ≤ l.length := fun l hl => by
    refine Nat.lt_of_not_le fun n => nv (h.all l v hl (by omega))
  obtain ⟨l, hl, nl, el⟩ := bu.way
  refine ⟨⟨l ++ [v], .more hl hv e, by rw [List.length_append, nl]; rfl, by rw [txt_add hl.ne, el]⟩, sh, fun l' hl' nl' => ?_⟩
  obtain ⟨m, u', rfl, hm, _, e'⟩ := hl'.inv (by omega)
  have nm : m.length = d + 1 := by rw [List.length_append] at nl'; simp at nl'; omega
  obtain ⟨d', y', hd', b'⟩ := h.each u' (h.all m u' hm (by omega))
  have ed : d' = d := by
    obtain ⟨l3, h3, n3, _⟩ := b'.way
    have := sh _ (.more h3 hv e')
    rw [List.length_append] at this
    simp at this
    omega
  subst ed
  rw [txt_add hm.ne]
  refine List.le_trans (first u' y' b' e') ?_
  have l1 := b'.len f
  have l2 := hm.len f
  exact le_app (by omega) (b'.first m hm nm) _
/-- d + 1 steps at most: ks and those that the ones at d lead to -/
theorem Lv.grow {d : Nat} {ks ks' : List Str} (h : Lv ws one d ks) (sub : ∀ v ∈ ks, v ∈ ks') (new : ∀ v ∈ ks', v ∈ ks ∨ ∃ y, Bst ws one (d + 1) v y)
    (cl : ∀ u y v, Bst ws one d u y → v ∈ ws → iniS v = taiS u → v ∈ ks') : Lv ws one (d + 1) ks' := by
  refine ⟨fun l v hl n => ?_, fun v hv => ?_⟩
  · by_cases c : l.length ≤ d + 1
    · exact sub v (h.all l v hl c)
    · obtain ⟨m, u, rfl, hm, hv, e⟩ := hl.inv (by omega)
      have nm : m.length = d + 1 := by rw [List.length_append] at n c; simp at n c; omega
      obtain ⟨d', y', hd', b'⟩ := h.each u (h.all m u hm (by omega))
      by_cases k : d' = d
      · subst k; exact cl u y' v b' hv e
      · obtain ⟨l3, h3, n3, _⟩ := b'.way
        refine sub v (h.all _ v (.more h3 hv e) ?_)
        rw [List.length_append]; simp; omega
  · rcases new v hv with k | ⟨y, b⟩
    · obtain ⟨d', y, hd, b⟩ := h.each v k
      exact ⟨d', y, by omega, b⟩
    · exact ⟨d + 1, y, Nat.le_refl _, b⟩
/-- none at d: nothing more is come to -/
theorem Lv.done {d : Nat} {ks : List Str} (h : Lv ws one d ks) (no : ∀ u y, u ∈ ks → ¬ Bst ws one d u y) {l : List Str} {v : Str} (hl : Wk ws one l v) : v ∈ ks := by
  induction hl with
  | one => exact h.all _ _ .one (by simp)
  | @more l u v hw hv e ih =>
    obtain ⟨d', y', hd', b'⟩ := h.each u ih
    have : d' ≠ d := fun k => by subst k; exact no u y' ih b'
    obtain ⟨l3, h3, n3, _⟩ := b'.way
    refine h.all _ v (.more h3 hv e) ?_
    rw [List.length_append]; simp; omega
end
/-! ### what is reached, nearest first -/
abbrev Ent := Str × Option Str
def keysE (fs : List Ent) : List Str := fs.map (·.1)
def addE (fs : List Ent) (p : Str × Str) : List Ent := if p.2 ∈ keysE fs then fs else fs ++ [(p.2, some p.1)]
def pairsE (adj : Str → List Str) (F : List Str) : List (Str × Str) := F.flatMap fun u => (adj u).map fun v => (u, v)
def roundE (adj : Str → List Str) (fs : List Ent) (j : Nat) : List Ent := (pairsE adj (keysE (fs.drop j))).foldl addE fs
inductive Run (adj : Str → List Str) : List Ent → Nat → List Ent → Prop
  | done (fs : List Ent) : Run adj fs fs.length fs
  | step {fs R : List Ent} {j : Nat} : j < fs.length → Run adj (roundE adj fs j) fs.length R → Run adj fs j R
theorem Run.inv {adj : Str → List Str} {P : List Ent → Nat → Prop} (hs : ∀ fs j, P fs j → j < fs.length → P (roundE adj fs j) fs.length) {fs R : List Ent} {j : Nat} (r : Run adj fs j R) (h : P fs j) : P R R.length := by
  induction r with
  | done => exact h
  | step lt _ ih => exact ih (hs _ _ h lt)
/-- the way to one that is reached -/
inductive Tr (R : List Ent) : Str → List Str → Prop
  | start {v : Str} : (v, none) ∈ R → Tr R v [v]
  | more {u v : Str} {l : List Str} : (v, some u) ∈ R → Tr R u l → Tr R v (l ++ [v])
theorem Tr.mono {R R' : List Ent} (s : ∀ p ∈ R, p ∈ R') {v : Str} {l : List Str} (h : Tr R v l) : Tr R' v l := by
  induction h with
  | start h => exact .start (s _ h)
  | more h _ ih => exact .more (s _ h) ih
theorem keysE_app (a b : List Ent) : keysE (a ++ b) = keysE a ++ keysE b := List.map_append
/-- what one round adds: of each pair of one already there and a new one the first -/
theorem fold_add (Rl : Str × Str → Str × Str → Prop) : ∀ (ps : List (Str × Str)) (fs : List Ent), ps.Pairwise Rl → ∃ qs : List (Str × Str), ps.foldl addE fs = fs ++ qs.map (fun q => (q.2, some q.1)) ∧ qs.Sublist ps ∧
    (qs.map (·.2)).Nodup ∧ (∀ q ∈ qs, q.2 ∉ keysE fs) ∧ (∀ p ∈ ps, p.2 ∈ keysE fs ∨ p.2 ∈ qs.map (·.2)) ∧ ∀ q ∈ qs, ∀ p ∈ ps, p.2 = q.2 → p = q ∨ Rl q p
  | [], fs, _ => ⟨[], by simp, .slnil, by simp, by simp, by simp, by simp⟩
  | p :: ps, fs, pw => by
    obtain ⟨p1, p2⟩ := List.pairwise_cons.mp pw
    rw [List.foldl_cons]
    by_cases c : p.2 ∈ keysE fs
    · have ea : addE fs p = fs := if_pos c
      rw [ea]
      obtain ⟨qs, h1, h2, h3, h4, h5, h6⟩ := fold_add Rl ps fs p2
      refine ⟨qs, h1, .cons _ h2, h3, h4, fun x hx => ?_, fun q hq x hx e => ?_⟩
      · rcases List.mem_cons.mp hx with rfl | hx
        · exact .inl c
        · exact h5 x hx
      · rcases List.mem_cons.mp hx with rfl | hx
        · exact absurd (e ▸ c) (h4 q hq)
        · exact h6 q hq x hx e
    · have ea : addE fs p = fs ++ [(p.2, some p.1)] := if_neg c
      rw [ea]
      obtain ⟨qs, h1, h2, h3, h4, h5, h6⟩ := fold_add Rl ps (fs ++ [(p.2, some p.1)]) p2
      have k : ∀ x, x ∈ keysE (fs ++ [(p.2, some p.1)]) ↔ x ∈ keysE fs ∨ x = p.2 := fun x => by
        rw [keysE_app, List.mem_append]; simp [keysE]
      refine ⟨p :: qs, by rw [h1]; simp, .cons_cons _ h2, ?_, fun q hq => ?_, fun x hx => ?_, fun q hq x hx e => ?_⟩
      · rw [List.map_cons, List.nodup_cons]
        refine ⟨fun h => ?_, h3⟩
        obtain ⟨q, hq, e⟩ := List.mem_map.mp h
        exact h4 q hq ((k _).mpr (.inr e))
      · rcases List.mem_cons.mp hq with rfl | hq
        · exact c
        · exact fun h => h4 q hq ((k _).mpr (.inl h))
      · rcases List.mem_cons.mp hx with rfl | hx
        · exact .inr (by simp)
        · rcases h5 x hx with h | h
          · rcases (k _).mp h with h | h
            · exact .inl h
            · exact .inr (by rw [h]; simp)
          · exact .inr (by rw [List.map_cons]; exact List.mem_cons_of_mem _ h)
      · rcases List.mem_cons.mp hq with rfl | hq'
        · rcases List.mem_cons.mp hx with rfl | hx'
          · exact .inl rfl
          · exact .inr (p1 x hx')
        · rcases List.mem_cons.mp hx with rfl | hx'
          · exact absurd ((k _).mpr (.inr e.symm)) (h4 q hq')
          · exact h6 q hq' x hx' e
theorem mem_pairsE {adj : Str → List Str} {F : List Str} {p : Str × Str} : p ∈ pairsE adj F ↔ p.1 ∈ F ∧ p.2 ∈ adj p.1 := by
  unfold pairsE
  rw [List.mem_flatMap]
  constructor
  · rintro ⟨u, hu, h⟩
    obtain ⟨v, hv, rfl⟩ := List.mem_map.mp h
    exact ⟨hu, hv⟩
  · rintro ⟨h1, h2⟩
    exact ⟨p.1, h1, List.mem_map.mpr ⟨p.2, h2, rfl⟩⟩
/-- the windows that begin where u ends, ascending -/
def adjW (ws : List Str) (u : Str) : List Str := ws.filter fun v => decide (iniS v = taiS u)
theorem mem_adjW {ws : List Str} {u v : Str} : v ∈ adjW ws u ↔ v ∈ ws ∧ iniS v = taiS u := by
  unfold adjW; rw [List.mem_filter, decide_eq_true_iff]
theorem ini_las {v : Str} : (tl v) = tl (iniS v) ++ lasL v := (List.take_append_drop (v.length - 1) (tl v)).symm
theorem las_lt {u v : Str} (e : iniS u = iniS v) (h : tl u < tl v) (y : List Nat) : y ++ lasL u < y ++ lasL v := by
  rw [ini_las (v := u), ini_las (v := v), e] at h
  have : lasL u < lasL v := by
    refine List.not_le.mp fun g => ?_
    exact absurd h (List.not_lt.mpr (List.append_left_le g))
  exact List.append_left_lt this
section
variable {ws : List Str} {one : Str}
structure Fr (ws : List Str) (one : Str) (fs : List Ent) (j d : Nat) : Prop where
  nd : (keysE fs).Nodup
  lv : Lv ws one d (keysE fs)
  old : ∀ p ∈ fs.take j, ∃ d' y, d' < d ∧ Bst ws one d' p.1 y
  new : ∀ p ∈ fs.drop j, ∃ y, Bst ws one d p.1 y
  asc : (keysE (fs.drop j)).Pairwise fun u v => ∀ y z, Bst ws one d u y → Bst ws one d v z → y < z
  tr : ∀ v ∈ keysE fs, ∃ l d, Tr fs v l ∧ Wk ws one l v ∧ l.length = d + 1 ∧ l.length ≤ fs.length ∧ Bst ws one d v (txt l)
theorem Fr.start : Fr ws one [(one, none)] 0 0 := by
  refine ⟨by simp [keysE], .start, by simp, fun p hp => ?_, by simp [keysE], fun v hv => ?_⟩
  · have e : p = (one, none) := by simpa using hp
    subst e
    exact ⟨_, .start⟩
  · have e : v = one := by simpa [keysE] using hv
    subst e
    exact ⟨[v], 0, .start (by simp), .one, rfl, Nat.le_refl _, by simpa [txt] using Bst.start⟩
theorem pairs_asc (f : Full ws) (asc : ws.Pairwise fun a b => tl a < tl b) {d : Nat} {F : List Str} (h : F.Pairwise fun u v => ∀ y z, Bst ws one d u y → Bst ws one d v z → y < z) :
    (pairsE (adjW ws) F).Pairwise fun p q => ∀ y z, Bst ws one d p.1 y → Bst ws one d q.1 z → y ++ lasL p.2 < z ++ lasL q.2 := by
  unfold pairsE
  rw [List.pairwise_flatMap]
  refine ⟨fun u _ => ?_, h.imp fun {u u'} lt x hx y hy a b ba bb => ?_⟩
  · rw [List.pairwise_map]
    refine (List.Pairwise.and_mem.mp (asc.sublist (List.filter_sublist (p := fun v => decide (iniS v = taiS u))))).imp fun {v v'} ⟨hv, hv', lt⟩ y z b b' => ?_
    rw [(b.uniq b').2]
    exact las_lt (((mem_adjW.mp hv).2).trans ((mem_adjW.mp hv').2).symm) lt _
  · obtain ⟨v, _, rfl⟩ := List.mem_map.mp hx
    obtain ⟨v', _, rfl⟩ := List.mem_map.mp hy
    exact lt_app (by rw [ba.len f, bb.len f]) (lt a b ba bb)
theorem Fr.next (f : Full ws) (asc : ws.Pairwise fun a b => tl a < tl b) {fs : List Ent} {j d : Nat} (h : Fr ws one fs j d) : Fr ws one (roundE (adjW ws) fs j) fs.length (d + 1) := by
  have key := fold_add (fun p q => ∀ y z, Bst ws one d p.1 y → Bst ws one d q.1 z → y ++ lasL p.2 < z ++ lasL q.2) (pairsE (adjW ws) (keysE (fs.drop j))) fs (pairs_asc f asc h.asc)
  · obtain ⟨qs, h1, h2, h3, h4, h5, h6⟩ := key
    have front : ∀ u y, Bst ws one d u y → u ∈ keysE (fs.drop j) := fun u y b => by
      obtain ⟨l, hl, nl, _⟩ := b.way
      have hu := h.lv.all l u hl (by omega)
      rw [← List.take_append_drop j fs, keysE_app] at hu
      rcases List.mem_append.mp hu with hu | hu
      · obtain ⟨p, hp, rfl⟩ := List.mem_map.mp hu
        obtain ⟨d', y', lt, b'⟩ := h.old p hp
        have := (b.uniq b').1
        omega
      · exact hu
    have bq : ∀ q ∈ qs, ∃ y, Bst ws one d q.1 y ∧ Bst ws one (d + 1) q.2 (y ++ lasL q.2) := fun q hq => by
      obtain ⟨m1, m2⟩ := mem_pairsE.mp (h2.subset hq)
      obtain ⟨p, hp, e⟩ := List.mem_map.mp m1
      obtain ⟨y, b⟩ := h.new p hp
      rw [e] at b
      obtain ⟨v1, v2⟩ := mem_adjW.mp m2
      refine ⟨y, b, h.lv.next f v1 (h4 q hq) b v2 fun u' y' b' e' => ?_⟩
      rcases h6 q hq (u', q.2) (mem_pairsE.mpr ⟨front u' y' b', mem_adjW.mpr ⟨v1, e'⟩⟩) rfl with e2 | lt
      · have : u' = q.1 := congrArg Prod.fst e2
        subst this
        rw [(b.uniq b').2]; exact List.le_refl _
      · exact List.le_of_lt (lt y y' b b')
    have kn : keysE (qs.map fun q => (q.2, some q.1)) = qs.map (·.2) := by unfold keysE; rw [List.map_map]; rfl
    have ke : keysE (roundE (adjW ws) fs j) = keysE fs ++ qs.map (·.2) := by unfold roundE; rw [h1, keysE_app, kn]
    have er : roundE (adjW ws) fs j = fs ++ qs.map fun q => (q.2, some q.1) := h1
    refine ⟨?_, ?_, fun p hp => ?_, fun p hp => ?_, ?_, fun v hv => ?_⟩
    · rw [ke, List.nodup_append]
      refine ⟨h.nd, h3, fun a ha b hb e => ?_⟩
      obtain ⟨q, hq, rfl⟩ := List.mem_map.mp hb
      exact h4 q hq (e ▸ ha)
    · refine h.lv.grow (fun v hv => by rw [ke]; exact List.mem_append_left _ hv) (fun v hv => ?_) fun u y v b hv e => ?_
      · rw [ke] at hv
        rcases List.mem_append.mp hv with hv | hv
        · exact .inl hv
        · obtain ⟨q, hq, rfl⟩ := List.mem_map.mp hv
          obtain ⟨y, _, b⟩ := bq q hq
          exact .inr ⟨_, b⟩
      · rw [ke, List.mem_append]
        exact h5 (u, v) (mem_pairsE.mpr ⟨front u y b, mem_adjW.mpr ⟨hv, e⟩⟩)
    · rw [er, List.take_left] at hp
      obtain ⟨d', y, le, b⟩ := h.lv.each p.1 (List.mem_map.mpr ⟨p, hp, rfl⟩)
      exact ⟨d', y, by omega, b⟩
    · rw [er, List.drop_left] at hp
      obtain ⟨q, hq, rfl⟩ := List.mem_map.mp hp
      obtain ⟨y, _, b⟩ := bq q hq
      exact ⟨_, b⟩
    · rw [er, List.drop_left, kn, List.pairwise_map]
      refine (List.Pairwise.sublist h2 (pairs_asc f asc h.asc)).imp_of_mem fun {p q} hp hq lt y z b b' => ?_
      obtain ⟨y1, c1, c2⟩ := bq p hp
      obtain ⟨z1, e1, e2⟩ := bq q hq
      rw [(b.uniq c2).2, (b'.uniq e2).2]
      exact lt _ _ c1 e1
    · rw [ke] at hv
      have sub : ∀ p ∈ fs, p ∈ roundE (adjW ws) fs j := fun p hp => by rw [er]; exact List.mem_append_left _ hp
      rcases List.mem_append.mp hv with hv | hv
      · obtain ⟨l, d', t, w, n, nl, b⟩ := h.tr v hv
        exact ⟨l, d', t.mono sub, w, n, by rw [er, List.length_append]; omega, b⟩
      · obtain ⟨q, hq, rfl⟩ := List.mem_map.mp hv
        obtain ⟨y, b, b'⟩ := bq q hq
        obtain ⟨m1, m2⟩ := mem_pairsE.mp (h2.subset hq)
        obtain ⟨v1, v2⟩ := mem_adjW.mp m2
        obtain ⟨l, d', t, w, n, nl, bl⟩ := h.tr q.1 (by
          obtain ⟨p, hp, e⟩ := List.mem_map.mp m1
          rw [← e]
          exact List.mem_map.mpr ⟨p, List.mem_of_mem_drop hp, rfl⟩)
        obtain ⟨e1, e2⟩ := b.uniq bl
        subst e1
        refine ⟨l ++ [q.2], d + 1, .more (u := q.1) ?_ (t.mono sub), .more w v1 v2, by rw [List.length_append, n]; rfl, ?_, ?_⟩
        rotate_left
        · have := List.length_pos_of_mem hq
          rw [er, List.length_append, List.length_append, List.length_map, List.length_singleton]; omega
        · rw [txt_add w.ne, ← e2]; exact b'
        · rw [er]; exact List.mem_append_right _ (List.mem_map.mpr ⟨q, hq, rfl⟩)
/-- what reached tells from one window on -/
theorem way_of {R : List Ent} (f : Full ws) (asc : ws.Pairwise fun a b => tl a < tl b) (r : Run (adjW ws) [(one, none)] 0 R) :
    (keysE R).Nodup ∧ (∀ v ∈ keysE R, ∃ l d, Tr R v l ∧ Wk ws one l v ∧ l.length = d + 1 ∧ l.length ≤ R.length ∧ Bst ws one d v (txt l)) ∧ ∀ v, v ∉ keysE R → ∀ l, ¬ Wk ws one l v := by
  obtain ⟨d, h⟩ := r.inv (P := fun fs j => ∃ d, Fr ws one fs j d) (fun fs j ⟨d, h⟩ _ => ⟨d + 1, h.next f asc⟩) ⟨0, .start⟩
  refine ⟨h.nd, h.tr, fun v nv l hl => nv (h.lv.done (fun u y hu b => ?_) hl)⟩
  obtain ⟨p, hp, rfl⟩ := List.mem_map.mp hu
  obtain ⟨d', y', lt, b'⟩ := h.old p (by rw [List.take_length]; exact hp)
  have := (b.uniq b').1
  omega
end
end Tx

set_option Elab.async false
set_option linter.all false
set_option maxRecDepth 100000
set_option maxHeartbeats 1000000
namespace Tx
open PySem PySem.Spec PyProof.Rows L2 TL
/-! ### ways without a window twice -/
section
variable {ws : List Str} {one : Str}
theorem Wk.pre {l : List Str} {v x : Str} (h : Wk ws one l v) (hx : x ∈ l) : ∃ m, Wk ws one m x ∧ m.length ≤ l.length := by
  induction h with
  | one => exact ⟨[one], by rw [List.mem_singleton.mp hx]; exact .one, Nat.le_refl _⟩
  | @more l u v hw hv e ih =>
    rcases List.mem_append.mp hx with hx | hx
    · obtain ⟨m, hm, n⟩ := ih hx
      exact ⟨m, hm, by rw [List.length_append]; omega⟩
    · rw [List.mem_singleton.mp hx]
      exact ⟨_, .more hw hv e, Nat.le_refl _⟩
theorem Wk.simple {l : List Str} {v : Str} (h : Wk ws one l v) (s : ∀ m, Wk ws one m v → l.length ≤ m.length) : l.Nodup := by
  induction h with
  | one => exact List.nodup_cons.mpr ⟨by simp, List.nodup_nil⟩
  | @more l u v hw hv e ih =>
    rw [List.nodup_append]
    refine ⟨ih fun m hm => ?_, List.nodup_cons.mpr ⟨by simp, List.nodup_nil⟩, fun a ha b hb e2 => ?_⟩
    · have := s _ (.more hm hv e)
      rw [List.length_append, List.length_append] at this
      simpa using this
    · rw [List.mem_singleton.mp hb] at e2
      subst e2
      obtain ⟨m, hm, n⟩ := hw.pre ha
      have := s m hm
      rw [List.length_append, List.length_singleton] at this
      omega
theorem Wk.least {v : Str} : ∀ (n : Nat) (l : List Str), l.length ≤ n → Wk ws one l v → ∃ m, Wk ws one m v ∧ ∀ m', Wk ws one m' v → m.length ≤ m'.length
  | 0, l, hn, h => by have := h.pos; omega
  | n + 1, l, hn, h => by
    by_cases c : ∃ m, Wk ws one m v ∧ m.length < l.length
    · obtain ⟨m, hm, lt⟩ := c
      exact Wk.least n m (by omega) hm
    · exact ⟨l, h, fun m hm => Nat.le_of_not_lt fun lt => c ⟨m, hm, lt⟩⟩
/-- all ways of n + 1 steps without a window twice -/
structure Lay (ws : List Str) (one : Str) (n : Nat) (L : List (List Str)) : Prop where
  each : ∀ st ∈ L, st.Nodup ∧ st.length = n + 1 ∧ ∃ v, Wk ws one st v
  all : ∀ st v, Wk ws one st v → st.Nodup → st.length = n + 1 → st ∈ L
/-- all of n at most -/
structure Fdn (ws : List Str) (one : Str) (n : Nat) (F : List (List Str)) : Prop where
  each : ∀ st ∈ F, st.Nodup ∧ ∃ v, Wk ws one st v
  all : ∀ st v, Wk ws one st v → st.Nodup → st.length ≤ n → st ∈ F
theorem Lay.start : Lay ws one 0 [[one]] := ⟨fun st h => by
    rw [List.mem_singleton.mp h]
    exact ⟨List.nodup_cons.mpr ⟨by simp, List.nodup_nil⟩, rfl, one, .one⟩, fun st v h _ n => by
    obtain ⟨rfl, _⟩ := h.one_of (by omega)
    exact List.mem_singleton.mpr rfl⟩
theorem Fdn.start : Fdn ws one 0 [] := ⟨fun st h => (by cases h), fun st v h _ n => (by have := h.pos; omega)⟩
theorem Fdn.more {n : Nat} {F L : List (List Str)} (f : Fdn ws one n F) (l : Lay ws one n L) : Fdn ws one (n + 1) (F ++ L) := by
  refine ⟨fun st h => ?_, fun st v h nd le => ?_⟩
  · rcases List.mem_append.mp h with h | h
    · exact f.each st h
    · obtain ⟨a, _, b⟩ := l.each st h
      exact ⟨a, b⟩
  · by_cases c : st.length ≤ n
    · exact List.mem_append_left _ (f.all st v h nd c)
    · exact List.mem_append_right _ (l.all st v h nd (by omega))
theorem Lay.next {n : Nat} {L T : List (List Str)} (l : Lay ws one n L) (t1 : ∀ st ∈ T, ∃ m u v, st = m ++ [v] ∧ m ∈ L ∧ m.getLast? = some u ∧ v ∈ ws ∧ iniS v = taiS u ∧ v ∉ m)
    (t2 : ∀ m ∈ L, ∀ u v, m.getLast? = some u → v ∈ ws → iniS v = taiS u → v ∉ m → m ++ [v] ∈ T) : Lay ws one (n + 1) T := by
  refine ⟨fun st h => ?_, fun st v h nd le => ?_⟩
  · obtain ⟨m, u, v, rfl, hm, lu, hv, e, nv⟩ := t1 st h
    obtain ⟨a, b, x, hx⟩ := l.each m hm
    have : u = x := Option.some.inj (lu.symm.trans hx.last)
    subst this
    refine ⟨?_, by rw [List.length_append, b]; rfl, v, .more hx hv e⟩
    rw [List.nodup_append]
    exact ⟨a, List.nodup_cons.mpr ⟨by simp, List.nodup_nil⟩, fun y hy z hz e2 => nv (by rw [← List.mem_singleton.mp hz, ← e2]; exact hy)⟩
  · obtain ⟨m, u, rfl, hm, hv, e⟩ := h.inv (by omega)
    rw [List.nodup_append] at nd
    refine t2 m (l.all m u hm nd.1 ?_) u v hm.last hv e fun hx => nd.2.2 v hx v (List.mem_singleton.mpr rfl) rfl
    rw [List.length_append, List.length_singleton] at le
    omega
theorem Lay.done {n : Nat} {F : List (List Str)} (f : Fdn ws one n F) (l : Lay ws one n []) (st : List Str) (v : Str) (h : Wk ws one st v) (nd : st.Nodup) : st ∈ F := by
  have key : ∀ (st : List Str) (v : Str), Wk ws one st v → st.Nodup → st.length ≤ n := fun st v h => by
    induction h with
    | one =>
      intro nd
      refine Nat.le_of_not_lt fun lt => ?_
      have : n = 0 := by simp at lt; omega
      subst this
      cases l.all _ _ .one nd rfl
    | @more m u v hw hv e ih =>
      intro nd
      have nm := (List.nodup_append.mp nd).1
      have := ih nm
      refine Nat.le_of_not_lt fun lt => ?_
      have e1 : (m ++ [v]).length = n + 1 := by rw [List.length_append, List.length_singleton] at lt ⊢; omega
      cases l.all _ _ (.more hw hv e) nd e1
  exact f.all st v h nd (key st v h nd)
/-- of all ways without a window twice the least, by length and text, is the way -/
theorem first_of (f : Full ws) {xss : List (List Str)} {other : Str} (h1 : ∀ st ∈ xss, ∃ v, Wk ws one st v) (h2 : ∀ st v, Wk ws one st v → st.Nodup → st ∈ xss) {st : List Str} (hst : st ∈ xss) (e : st.getLast? = some other)
    (le : ∀ s' ∈ xss, s'.getLast? = some other → pltB ((txt s').length, mkS (txt s')) ((txt st).length, mkS (txt st)) = false) : ∃ d, Bst ws one d other (txt st) ∧ st.length = d + 1 := by
  obtain ⟨v, hv⟩ := h1 st hst
  have : v = other := Option.some.inj (hv.last.symm.trans e)
  subst this
  have p := hv.pos
  have lv := hv.len f
  have sh : ∀ l, Wk ws one l v → st.length ≤ l.length := fun l hl => by
    obtain ⟨m, hm, sm⟩ := Wk.least l.length l (Nat.le_refl _) hl
    have := le m (h2 m v hm (hm.simple sm)) hm.last
    have lm := hm.len f
    have ml := sm l hl
    unfold pltB at this
    simp only at this
    refine Nat.le_of_not_lt fun lt => ?_
    rw [if_neg (by omega)] at this
    have := of_decide_eq_false this
    omega
  refine ⟨st.length - 1, ⟨⟨st, hv, by omega, rfl⟩, fun l hl => by have := sh l hl; omega, fun l hl n => ?_⟩, by omega⟩
  have := le l (h2 l v hl (hl.simple fun m hm => by have := sh m hm; omega)) hl.last
  have ll := hl.len f
  unfold pltB at this
  simp only at this
  rw [if_pos (by omega)] at this
  exact List.not_lt.mp (of_decide_eq_false this)
end
/-! ### lists of lists of texts -/
def LLs (H : Hp) : List Addr → List (List Str) → Prop
  | [], [] => True
  | a :: as, xs :: xss => H a = some (.lst (xs.map V.str)) ∧ LLs H as xss
  | _, _ => False
theorem LLs.len {H : Hp} : ∀ {as : List Addr} {xss : List (List Str)}, LLs H as xss → as.length = xss.length
  | [], [], _ => rfl
  | _ :: _, _ :: _, ⟨_, r⟩ => by rw [List.length_cons, List.length_cons, LLs.len r]
theorem LLs.at' {H : Hp} : ∀ {as : List Addr} {xss : List (List Str)}, LLs H as xss → ∀ {i : Nat} {a : Addr}, as[i]? = some a → ∃ xs, xss[i]? = some xs ∧ H a = some (.lst (xs.map V.str))
  | [], [], _, i, a, h => by simp at h
  | b :: as, xs :: xss, ⟨e, r⟩, 0, a, h => by
    have : b = a := Option.some.inj h
    subst this
    exact ⟨xs, rfl, e⟩
  | b :: as, xs :: xss, ⟨e, r⟩, i + 1, a, h => LLs.at' r (i := i) h
theorem LLs.same {H H' : Hp} (s : Same H H') : ∀ {as : List Addr} {xss : List (List Str)}, LLs H as xss → LLs H' as xss
  | [], [], _ => trivial
  | _ :: _, _ :: _, ⟨e, r⟩ => ⟨s _ _ e, LLs.same s r⟩
theorem LLs.snoc {H : Hp} {a : Addr} {xs : List Str} (e : H a = some (.lst (xs.map V.str))) : ∀ {as : List Addr} {xss : List (List Str)}, LLs H as xss → LLs H (as ++ [a]) (xss ++ [xs])
  | [], [], _ => ⟨e, trivial⟩
  | _ :: _, _ :: _, ⟨e', r⟩ => ⟨e', LLs.snoc e r⟩
theorem LLs.app {H : Hp} {bs : List Addr} {yss : List (List Str)} (k : LLs H bs yss) : ∀ {as : List Addr} {xss : List (List Str)}, LLs H as xss → LLs H (as ++ bs) (xss ++ yss)
  | [], [], _ => k
  | _ :: _, _ :: _, ⟨e', r⟩ => ⟨e', LLs.app k r⟩
theorem LLs.keep {H : Hp} {t : Addr} {o : HO} : ∀ {as : List Addr} {xss : List (List Str)}, LLs H as xss → (∀ a ∈ as, a ≠ t) → LLs (upd H t o) as xss
  | [], [], _, _ => trivial
  | a :: _, _ :: _, ⟨e, r⟩, n => ⟨by rw [upd_ne (n a (List.mem_cons_self ..))]; exact e, LLs.keep r fun b hb => n b (List.mem_cons_of_mem _ hb)⟩
def lldata (xss : List (List Str)) : List PyData := xss.map fun xs => .list (xs.map PyData.str)
theorem dp_lls {K : PySem.W.Frag} {H : Hp} : ∀ {as : List Addr} {xss : List (List Str)}, LLs H as xss → DpAll K H (as.map V.ref) (lldata xss)
  | [], [], _ => .nil
  | _ :: _, _ :: _, ⟨e, r⟩ => .cons (dp_strs e) (dp_lls r)
theorem lay_lls : ∀ xss : List (List Str), (∀ xs ∈ xss, ∀ z ∈ xs, Low z) → PyData.canLayAll0 (lldata xss) = true ∧ PyData.depthAll (lldata xss) ≤ 1
  | [], _ => ⟨rfl, Nat.zero_le _⟩
  | xs :: xss, h => by
    have ih := lay_lls xss fun ys hy => h ys (List.mem_cons_of_mem _ hy)
    have l := lay_strs xs (h xs (List.mem_cons_self ..))
    unfold lldata at ih ⊢
    simp only [List.map_cons, PyData.canLayAll0, PyData.depthAll, PyData.canLay0, PyData.depth, ih.1, l.1, l.2]
    refine ⟨rfl, ?_⟩
    have := ih.2
    omega
theorem shaped_lls {xss : List (List Str)} (h : ∀ xs ∈ xss, ∀ z ∈ xs, Low z) : SeqAt.shaped (.list (lldata xss)) = true := by
  unfold SeqAt.shaped
  obtain ⟨a, b⟩ := lay_lls xss h
  simp only [PyData.canLay0, PyData.depth, a, Bool.true_and]
  exact decide_eq_true (by omega)
theorem eqv_lls0 (xss : List (List Str)) : PyData.eqv (.list (lldata xss)) (.list []) = decide (xss = []) := by
  cases xss with
  | nil => rfl
  | cons x xs => simp [lldata, PyData.eqv, PyData.eqvAll]
section
open L2
variable {X : Cx} (K : PySem.W.Frag)
theorem pg_unlK {es : List Expr} {k : Nat} {t : TGs} {n : Nat} {pos : Pos} (h : X.K = K) (hc : X.calm = true) (hg : PGs X es t) (hn : (assignEach es X.env).length = n := by rfl) (hst : (assignEach es X.env).findIdx? (·.1) = none := by rfl) : PG X (.Tuple es k pos) (gUnl K n t) := by subst h; exact pg_unl hc hg hn hst
theorem pi_listK {tg l : Expr} {tl : TE} (h : X.K = K) (hl : PE X l tl) : PI X tg l (iList K tl) := by subst h; exact pi_list hl
theorem pi_tupK {tg l : Expr} {tl : TE} (h : X.K = K) (hl : PE X l tl) : PI X tg l (iTup K tl) := by subst h; exact pi_tup hl
end
end Tx

set_option Elab.async false
set_option linter.all false
set_option maxRecDepth 100000
set_option maxHeartbeats 1000000
namespace Tx
open PySem PySem.Spec PyProof.Rows L2 TL
/-! ### all that is reached -/
inductive RT (adj : Str → List Str) (s : Str) : Str → Prop
  | here : RT adj s s
  | step {u v : Str} : RT adj s u → v ∈ adj u → RT adj s v
theorem RT.trans {adj : Str → List Str} {a b c : Str} (h : RT adj a b) (k : RT adj b c) : RT adj a c := by
  induction k with
  | here => exact h
  | step _ hv ih => exact .step ih hv
theorem RT.closed {adj : Str → List Str} {a b : Str} {S : Str → Prop} (h : RT adj a b) (s : S a) (c : ∀ u, S u → ∀ v ∈ adj u, S v) : S b := by
  induction h with
  | here => exact s
  | step _ hv ih => exact c _ ih _ hv
/-- links are followed along l, from s on -/
inductive Ch (adj : Str → List Str) : List Str → Str → Str → Prop
  | one (s : Str) : Ch adj [s] s s
  | more {l : List Str} {s u v : Str} : Ch adj l s u → v ∈ adj u → Ch adj (l ++ [v]) s v
structure RInv (adj : Str → List Str) (ss : List Str) (fs : List Ent) (j : Nat) : Prop where
  nd : (keysE fs).Nodup
  jl : j ≤ fs.length
  st : ∀ s ∈ ss, s ∈ keysE fs
  cl : ∀ p ∈ fs.take j, ∀ v ∈ adj p.1, v ∈ keysE fs
  tr : ∀ v ∈ keysE fs, ∃ l s, s ∈ ss ∧ Tr fs v l ∧ Ch adj l s v ∧ l.length ≤ fs.length
theorem Ch.rt {adj : Str → List Str} {l : List Str} {s v : Str} (h : Ch adj l s v) : RT adj s v := by
  induction h with
  | one => exact .here
  | more _ hv ih => exact .step ih hv
theorem RInv.start {adj : Str → List Str} {ss : List Str} (nd : ss.Nodup) : RInv adj ss (ss.map fun s => (s, none)) 0 := by
  have k : keysE (ss.map fun s => ((s, none) : Ent)) = ss := by unfold keysE; rw [List.map_map]; exact List.map_id' ss
  refine ⟨by rw [k]; exact nd, Nat.zero_le _, by rw [k]; exact fun _ h => h, fun p h => (by rw [List.take_zero] at h; cases h), fun v hv => ?_⟩
  rw [k] at hv
  refine ⟨[v], v, hv, .start (List.mem_map.mpr ⟨v, hv, rfl⟩), .one v, ?_⟩
  rw [List.length_map]; exact List.length_pos_of_mem hv
theorem RInv.next {adj : Str → List Str} {ss : List Str} {fs : List Ent} {j : Nat} (h : RInv adj ss fs j) : RInv adj ss (roundE adj fs j) fs.length := by
  obtain ⟨qs, h1, h2, h3, h4, h5, _⟩ := fold_add (fun _ _ => True) (pairsE adj (keysE (fs.drop j))) fs (List.pairwise_of_forall fun _ _ => trivial)
  have er : roundE adj fs j = fs ++ qs.map fun q => (q.2, some q.1) := h1
  have kn : keysE (qs.map fun q => (q.2, some q.1)) = qs.map (·.2) := by unfold keysE; rw [List.map_map]; rfl
  have ke : keysE (roundE adj fs j) = keysE fs ++ qs.map (·.2) := by rw [er, keysE_app, kn]
  have sub : ∀ p ∈ fs, p ∈ roundE adj fs j := fun p hp => by rw [er]; exact List.mem_append_left _ hp
  refine ⟨?_, by rw [er, List.length_append]; omega, fun s hs => by rw [ke]; exact List.mem_append_left _ (h.st s hs), fun p hp v hv => ?_, fun v hv => ?_⟩
  · rw [ke, List.nodup_append]
    refine ⟨h.nd, h3, fun a ha b hb e => ?_⟩
    obtain ⟨q, hq, rfl⟩ := List.mem_map.mp hb
    exact h4 q hq (e ▸ ha)
  · rw [er, List.take_left] at hp
    rw [ke, List.mem_append]
    rw [← List.take_append_drop j fs] at hp
    rcases List.mem_append.mp hp with hp | hp
    · exact .inl (h.cl p hp v hv)
    · exact h5 (p.1, v) (mem_pairsE.mpr ⟨List.mem_map.mpr ⟨p, hp, rfl⟩, hv⟩)
  · rw [ke] at hv
    rcases List.mem_append.mp hv with hv | hv
    · obtain ⟨l, s, hs, t, c, n⟩ := h.tr v hv
      exact ⟨l, s, hs, t.mono sub, c, by rw [er, List.length_append]; omega⟩
    · obtain ⟨q, hq, rfl⟩ := List.mem_map.mp hv
      obtain ⟨m1, m2⟩ := mem_pairsE.mp (h2.subset hq)
      obtain ⟨l, s, hs, t, c, n⟩ := h.tr q.1 (by
        obtain ⟨p, hp, e⟩ := List.mem_map.mp m1
        rw [← e]
        exact List.mem_map.mpr ⟨p, List.mem_of_mem_drop hp, rfl⟩)
      have := List.length_pos_of_mem hq
      refine ⟨l ++ [q.2], s, hs, .more (u := q.1) (by rw [er]; exact List.mem_append_right _ (List.mem_map.mpr ⟨q, hq, rfl⟩)) (t.mono sub), .more c m2, ?_⟩
      rw [er, List.length_append, List.length_append, List.length_map, List.length_singleton]; omega
/-- what reached tells: all that the starts lead to, each with a way -/
theorem run_all {adj : Str → List Str} {ss : List Str} {R : List Ent} (nd : ss.Nodup) (r : Run adj (ss.map fun s => (s, none)) 0 R) :
    (keysE R).Nodup ∧ (∀ v, v ∈ keysE R ↔ ∃ s ∈ ss, RT adj s v) ∧ (∀ v ∈ keysE R, ∃ l s, s ∈ ss ∧ Tr R v l ∧ Ch adj l s v ∧ l.length ≤ R.length) ∧ ∀ u ∈ keysE R, ∀ v ∈ adj u, v ∈ keysE R := by
  have h := r.inv (P := fun fs j => RInv adj ss fs j) (fun fs j h _ => h.next) (RInv.start nd)
  have cl : ∀ u ∈ keysE R, ∀ v ∈ adj u, v ∈ keysE R := fun u hu v hv => by
    obtain ⟨p, hp, rfl⟩ := List.mem_map.mp hu
    exact h.cl p (by rw [List.take_length]; exact hp) v hv
  refine ⟨h.nd, fun v => ⟨fun hv => ?_, fun ⟨s, hs, rt⟩ => rt.closed (h.st s hs) cl⟩, h.tr, cl⟩
  obtain ⟨l, s, hs, _, c, _⟩ := h.tr v hv
  exact ⟨s, hs, c.rt⟩
/-! ### places and closed lots -/
def begW (ws : List Str) (p : Str) : List Str := ws.filter fun v => decide (iniS v = p)
theorem mem_begW {ws : List Str} {p v : Str} : v ∈ begW ws p ↔ v ∈ ws ∧ iniS v = p := by unfold begW; rw [List.mem_filter, decide_eq_true_iff]
def adjP (ws : List Str) (p : Str) : List Str := (begW ws p).map taiS
theorem mem_adjP {ws : List Str} {p x : Str} : x ∈ adjP ws p ↔ ∃ v ∈ ws, iniS v = p ∧ taiS v = x := by
  unfold adjP
  rw [List.mem_map]
  constructor
  · rintro ⟨v, hv, e⟩
    obtain ⟨h1, h2⟩ := mem_begW.mp hv
    exact ⟨v, h1, h2, e⟩
  · rintro ⟨v, h1, h2, e⟩
    exact ⟨v, mem_begW.mpr ⟨h1, h2⟩, e⟩
theorem rt_path {ws : List Str} {a b : Str} : RT (adjP ws) a b ↔ Path ws a b := by
  constructor
  · intro h
    induction h with
    | here => exact .here a
    | step _ hv ih =>
      obtain ⟨x, hx, e, rfl⟩ := mem_adjP.mp hv
      subst e
      exact .step ih hx
  · intro h
    induction h with
    | here => exact .here
    | step _ hv ih => exact .step ih (mem_adjP.mpr ⟨_, hv, rfl, rfl⟩)
/-- a lot of places out of which no window leads -/
structure IsLot (ws lot : List Str) : Prop where
  asc : lot.Pairwise fun a b => tl a < tl b
  ne : lot ≠ []
  pl : ∀ x ∈ lot, x ∈ placesL ws
  out : ∃ x ∈ placesL ws, x ∉ lot
  cl : ∀ v ∈ ws, iniS v ∈ lot → taiS v ∈ lot
theorem IsLot.not {ws lot : List Str} (h : IsLot ws lot) : ¬ Joined ws := fun j => by
  obtain ⟨s, hs⟩ := List.exists_mem_of_ne_nil lot h.ne
  obtain ⟨x, hx, n⟩ := h.out
  exact n ((j s (h.pl s hs) x hx).closed hs fun v hv => h.cl v hv)
/-- the links the other way -/
def Rev (ns : List Str) (adj adj' : Str → List Str) : Prop := ∀ x ∈ ns, ∀ y, y ∈ adj' x ↔ y ∈ ns ∧ x ∈ adj y
theorem rt_rev {ns : List Str} {adj adj' : Str → List Str} (rv : Rev ns adj adj') (clo : ∀ x ∈ ns, ∀ y ∈ adj x, y ∈ ns) {a b : Str} (ha : a ∈ ns) : RT adj' a b ↔ b ∈ ns ∧ RT adj b a := by
  constructor
  · intro h
    induction h with
    | here => exact ⟨ha, .here⟩
    | step _ hv ih =>
      obtain ⟨h1, h2⟩ := (rv _ ih.1 _).mp hv
      exact ⟨h1, (RT.step .here h2).trans ih.2⟩
  · rintro ⟨hb, h⟩
    have key : ∀ c, RT adj b c → c ∈ ns → RT adj' c b ∧ c ∈ ns := fun c h hc => by
      induction h with
      | here => exact ⟨.here, hb⟩
      | @step u v hu hv ih =>
        have un : u ∈ ns := hu.closed (S := fun x => x ∈ ns) hb clo
        exact ⟨(RT.step .here ((rv v hc u).mpr ⟨un, hv⟩)).trans (ih un).1, hc⟩
    exact (key a h ha).1
end Tx

set_option Elab.async false
set_option linter.all false
set_option maxRecDepth 100000
set_option maxHeartbeats 1000000
namespace Tx
open PySem PySem.Spec PyProof.Rows L2 TL
/-! ### stretches of ways -/
def lasts (l : List Str) : List Nat := (l.map lasL).flatten
theorem txt_cons (w : Str) (r : List Str) : txt (w :: r) = tl w ++ lasts r := rfl
theorem lasts_app (a b : List Str) : lasts (a ++ b) = lasts a ++ lasts b := by unfold lasts; rw [List.map_append, List.flatten_append]
theorem txt_app {a : List Str} (h : a ≠ []) (b : List Str) : txt (a ++ b) = txt a ++ lasts b := by
  cases a with
  | nil => exact absurd rfl h
  | cons w r => rw [List.cons_append, txt_cons, txt_cons, lasts_app, List.append_assoc]
theorem lasts_len {ws : List Str} (f : Full ws) {l : List Str} (h : ∀ x ∈ l, x ∈ ws) : (lasts l).length = l.length := by
  induction l with
  | nil => rfl
  | cons a l ih =>
    show ((a :: l).map lasL).flatten.length = _
    rw [List.map_cons, List.flatten_cons, List.length_append, las_len (f a (h a (List.mem_cons_self ..)))]
    have := ih fun x hx => h x (List.mem_cons_of_mem _ hx)
    unfold lasts at this
    rw [this, List.length_cons]; omega
section
variable {ws : List Str} {one : Str}
theorem Wk.comp {l m : List Str} {u v : Str} (h : Wk ws one l u) (k : Wk ws u m v) : Wk ws one (l ++ m.tail) v := by
  induction k with
  | one => simpa using h
  | @more m x y hw hv e ih =>
    rw [List.tail_append_of_ne_nil hw.ne, ← List.append_assoc]
    exact .more ih hv e
theorem Wk.head {l : List Str} {v : Str} (h : Wk ws one l v) : l = one :: l.tail := by
  induction h with
  | one => rfl
  | @more l u v hw hv e ih => rw [ih]; rfl
theorem Wk.split {l : List Str} {v : Str} (h : Wk ws one l v) : ∀ {P C : List Str} {x : Str}, l = P ++ x :: C → Wk ws one (P ++ [x]) x ∧ Wk ws x (x :: C) v := by
  induction h with
  | one =>
    intro P C x e
    cases P with
    | nil =>
      rw [List.nil_append, List.cons.injEq] at e
      obtain ⟨rfl, rfl⟩ := e
      exact ⟨.one, .one⟩
    | cons p P => simp at e
  | @more l u v hw hv e ih =>
    intro P C x e2
    rcases List.eq_nil_or_concat C with rfl | ⟨C', y, rfl⟩
    · obtain ⟨e3, e4⟩ := List.append_inj' e2 rfl
      rw [List.cons.injEq] at e4
      obtain ⟨rfl, _⟩ := e4
      subst e3
      exact ⟨.more hw hv e, .one⟩
    · rw [List.concat_eq_append] at e2 ⊢
      rw [← List.cons_append, ← List.append_assoc] at e2
      obtain ⟨e3, e4⟩ := List.append_inj' e2 rfl
      rw [List.cons.injEq] at e4
      obtain ⟨rfl, _⟩ := e4
      obtain ⟨a, b⟩ := ih e3
      exact ⟨a, .more b hv e⟩
/-- a stretch of the first shortest way is the first shortest one between its ends -/
theorem Bst.mid (f : Full ws) (ho : one ∈ ws) {l P M C : List Str} {v x y : Str} {d : Nat} (hl : Wk ws one l v) (nl : l.length = d + 1) (b : Bst ws one d v (txt l)) (e : l = P ++ x :: M ++ C) (hy : (x :: M).getLast? = some y) : Bst ws x M.length y (txt (x :: M)) := by
  have e1 : l = P ++ x :: (M ++ C) := by rw [e]; simp
  obtain ⟨w1, w2⟩ := hl.split e1
  obtain ⟨q, eq⟩ := List.getLast?_eq_some_iff.mp hy
  have e2 : x :: (M ++ C) = q ++ y :: C := by rw [← List.cons_append, eq]; simp
  obtain ⟨w3, w4⟩ := w2.split e2
  rw [← eq] at w3
  have hx : x ∈ ws := w1.inn ho
  have hyw : y ∈ ws := w3.inn hx
  have cmp : ∀ m, Wk ws x m y → Wk ws one ((P ++ [x]) ++ m.tail ++ C) v := fun m hm => (w1.comp hm).comp w4
  have tl' : ∀ m, Wk ws x m y → txt ((P ++ [x]) ++ m.tail ++ C) = txt (P ++ [x]) ++ lasts m.tail ++ lasts C := fun m hm => by
    rw [txt_app (by simp), txt_app (by simp)]
  have len : ∀ m, Wk ws x m y → ((P ++ [x]) ++ m.tail ++ C).length = P.length + m.length + C.length := fun m hm => by
    have := hm.pos
    simp only [List.length_append, List.length_singleton, List.length_tail]; omega
  have ll : l.length = P.length + (M.length + 1) + C.length := by rw [e]; simp only [List.length_append, List.length_cons]
  refine ⟨⟨x :: M, w3, rfl, rfl⟩, fun m hm => ?_, fun m hm n => ?_⟩
  · have h1 := b.short _ (cmp m hm)
    rw [len m hm] at h1
    omega
  · have h1 := b.first _ (cmp m hm) (by rw [len m hm]; omega)
    have e3 : l = (P ++ [x]) ++ M ++ C := by rw [e]; simp
    have e4 : txt l = txt (P ++ [x]) ++ lasts M ++ lasts C := by rw [e3, txt_app (by simp), txt_app (by simp)]
    rw [tl' m hm, e4] at h1
    have hm' := hm.head
    rw [hm', txt_cons, txt_cons]
    refine List.not_lt.mp fun lt => ?_
    have lt2 : lasts m.tail < lasts M := by
      refine List.not_le.mp fun g => ?_
      exact absurd lt (List.not_lt.mpr (List.append_left_le g))
    have lM : (lasts M).length = M.length := lasts_len f fun z hz => w3.all hx z (List.mem_cons_of_mem _ hz)
    have lm : (lasts m.tail).length = m.tail.length := lasts_len f fun z hz => hm.all hx z (List.mem_of_mem_tail hz)
    have lt3 : txt (P ++ [x]) ++ lasts m.tail < txt (P ++ [x]) ++ lasts M := List.append_left_lt lt2
    have lt4 := lt_app (a := lasts C) (b := lasts C) (by simp only [List.length_append, lM, lm, List.length_tail, n]; omega) lt3
    exact absurd h1 (List.not_le.mpr lt4)
/-- the steps of its text are the way -/
theorem Wk.ends {k : Nat} {l : List Str} {v : Str} (h : Wk ws one l v) (hk : 1 ≤ k) (ho : one ∈ ws) (hw : ∀ x ∈ ws, x.length = k) : (txt l).length = k + (l.length - 1) ∧ (txt l).drop (l.length - 1) = tl v ∧ steps k (txt l) = l := by
  induction h with
  | one =>
    have e := hw _ ho
    have l1 : (tl one).length = k := by rw [← len_tl]; exact e
    have tx : txt [one] = tl one := by simp [txt]
    rw [tx]
    refine ⟨by rw [l1]; rfl, rfl, ?_⟩
    unfold steps
    rw [l1, show k + 1 - k = 1 by omega]
    show [mkS (cut (tl one) 0 k)] = [one]
    have : cut (tl one) 0 k = tl one := by unfold cut; rw [List.drop_zero, List.take_of_length_le (by omega)]
    rw [this, mkS_tl]
  | @more l u v hwk hv e ih =>
    obtain ⟨h1, h2, h3⟩ := ih
    have p := hwk.pos
    have lv := hw v hv
    have las1 := las_len (v := v) (by omega)
    have lastv : tl v = (tl u).drop 1 ++ lasL v := by
      rw [ini_las (v := v), e]; rfl
    have lu : (tl u).length = k := by rw [← h2, List.length_drop, h1]; omega
    have tlen : (txt (l ++ [v])).length = k + ((l ++ [v]).length - 1) := by
      rw [txt_add hwk.ne, List.length_append, h1, las1, List.length_append, List.length_singleton]; omega
    have tend : (txt (l ++ [v])).drop ((l ++ [v]).length - 1) = tl v := by
      rw [txt_add hwk.ne, List.length_append, List.length_singleton, show l.length + 1 - 1 = (l.length - 1) + 1 by omega, ← List.drop_drop, List.drop_append_of_le_length (by rw [h1]; omega), h2, List.drop_append_of_le_length (by rw [lu]; exact hk), ← lastv]
    refine ⟨tlen, tend, ?_⟩
    have el : (txt (l ++ [v])).length + 1 - k = ((txt l).length + 1 - k) + 1 := by
      rw [tlen, h1, List.length_append, List.length_singleton]; omega
    have eL : (txt l).length + 1 - k = l.length := by rw [h1]; omega
    show (List.range ((txt (l ++ [v])).length + 1 - k)).map _ = _
    rw [el, List.range_succ, List.map_append]
    refine congr (congrArg _ ?_) ?_
    · refine Eq.trans (List.map_congr_left fun i hi => ?_) h3
      have hi := List.mem_range.mp hi
      unfold cut
      rw [txt_add hwk.ne, List.drop_append_of_le_length (by omega), List.take_append_of_le_length (by rw [List.length_drop]; omega)]
    · rw [eL]
      have : cut (txt (l ++ [v])) l.length k = tl v := by
        have t2 := tend
        rw [List.length_append, List.length_singleton, show l.length + 1 - 1 = l.length by omega] at t2
        unfold cut
        rw [t2, List.take_of_length_le (by rw [← len_tl]; omega)]
      rw [List.map_singleton, this, mkS_tl]
theorem Wk.cut {k : Nat} {l P M C : List Str} {v x : Str} (h : Wk ws one l v) (hk : 1 ≤ k) (ho : one ∈ ws) (hw : ∀ x ∈ ws, x.length = k) (e : l = P ++ x :: M ++ C) : Tx.cut (txt l) P.length (k + M.length) = txt (x :: M) := by
  have e1 : l = P ++ x :: (M ++ C) := by rw [e]; simp
  obtain ⟨w1, w2⟩ := h.split e1
  obtain ⟨a1, a2, _⟩ := w1.ends hk ho hw
  have hx : x ∈ ws := w1.inn ho
  have f : Full ws := fun z hz => by have := hw z hz; omega
  have e2 : l = (P ++ [x]) ++ (M ++ C) := by rw [e]; simp
  have l1 : (P ++ [x]).length - 1 = P.length := by rw [List.length_append, List.length_singleton]; omega
  rw [l1] at a1 a2
  unfold Tx.cut
  rw [e2, txt_app (by simp), List.drop_append_of_le_length (by rw [a1]; omega), a2, lasts_app, ← List.append_assoc, txt_cons]
  refine List.take_append_of_le_length' ?_
  rw [List.length_append, ← len_tl, hw x hx, lasts_len f fun z hz => w2.all hx z (by simp [hz])]
where List.take_append_of_le_length' {α : Type} {a b : List α} {n : Nat} (h : n = a.length) : (a ++ b).take n = a := by rw [h, List.take_left]
/-- there is a way exactly if one window's end comes to the other's begin -/
theorem wk_path (ho : one ∈ ws) {v : Str} (hv : v ∈ ws) : (∃ l, Wk ws one l v) ↔ one = v ∨ Path ws (taiS one) (iniS v) := by
  constructor
  · rintro ⟨l, h⟩
    have key : ∀ l v, Wk ws one l v → v = one ∨ Path ws (taiS one) (iniS v) := fun l v h => by
      induction h with
      | one => exact .inl rfl
      | @more l u v hw hv e ih =>
        refine .inr ?_
        rw [e]
        rcases ih with rfl | p
        · exact .here _
        · exact .step p (hw.inn ho)
    exact (key l v h).imp Eq.symm id
  · rintro (rfl | p)
    · exact ⟨_, .one⟩
    · have key : ∀ a, Path ws (taiS one) a → ∃ l u, Wk ws one l u ∧ taiS u = a := fun a p => by
        generalize hs : taiS one = s at p
        induction p with
        | here => exact ⟨_, one, .one, hs⟩
        | @step v p hv ih =>
          obtain ⟨l, u, hw, e⟩ := ih
          exact ⟨_, v, .more hw hv e.symm, rfl⟩
      obtain ⟨l, u, hw, e⟩ := key _ p
      exact ⟨_, .more hw hv e.symm⟩
end
end Tx

set_option Elab.async false
set_option linter.all false
set_option maxRecDepth 100000
set_option maxHeartbeats 1000000
namespace Tx
open PySem PySem.Spec PyProof.Rows L2 TL RZ
/-- a text, letter by letter -/
def ren (f : Nat → Nat) (z : Str) : Str := mkS ((tl z).map f)
def InU (U : Nat → Prop) (z : Str) : Prop := ∀ c ∈ tl z, U c
/-- two letters of U stay two -/
def InjU (U : Nat → Prop) (f : Nat → Nat) : Prop := ∀ a b, U a → U b → f a = f b → a = b
section
variable {f : Nat → Nat} {U : Nat → Prop}
theorem tl_ren (z : Str) : tl (ren f z) = (tl z).map f := tl_mk _
theorem ren_len (z : Str) : (ren f z).length = z.length := by rw [len_tl, tl_ren, List.length_map, ← len_tl]
theorem map_inj (i : InjU U f) : ∀ {x y : List Nat}, (∀ c ∈ x, U c) → (∀ c ∈ y, U c) → x.map f = y.map f → x = y
  | [], [], _, _, _ => rfl
  | [], _ :: _, _, _, h => by cases h
  | _ :: _, [], _, _, h => by cases h
  | a :: x, b :: y, hx, hy, h => by
    rw [List.map_cons, List.map_cons] at h
    injection h with h1 h2
    rw [i a b (hx a List.mem_cons_self) (hy b List.mem_cons_self) h1, map_inj i (fun c hc => hx c (List.mem_cons_of_mem _ hc)) (fun c hc => hy c (List.mem_cons_of_mem _ hc)) h2]
theorem ren_inj (i : InjU U f) {x y : Str} (hx : InU U x) (hy : InU U y) (h : ren f x = ren f y) : x = y := by
  have := congrArg tl h
  rw [tl_ren, tl_ren] at this
  exact ext_tl (map_inj i hx hy this)
theorem tl_ini (z : Str) : tl (iniS z) = (tl z).take (z.length - 1) := tl_mk _
theorem tl_tai (z : Str) : tl (taiS z) = (tl z).drop 1 := tl_mk _
theorem ren_ini (z : Str) : iniS (ren f z) = ren f (iniS z) := by
  refine ext_tl ?_
  rw [tl_ini (ren f z), tl_ren (iniS z), tl_ini z, tl_ren z, ren_len, List.map_take]
theorem ren_tai (z : Str) : taiS (ren f z) = ren f (taiS z) := by
  refine ext_tl ?_
  rw [tl_tai (ren f z), tl_ren (taiS z), tl_tai z, tl_ren z, List.map_drop]
theorem InU.ini {z : Str} (h : InU U z) : InU U (iniS z) := fun c hc => by
  unfold iniS at hc; rw [tl_mk] at hc
  exact h c (List.mem_of_mem_take hc)
theorem InU.tai {z : Str} (h : InU U z) : InU U (taiS z) := fun c hc => by
  unfold taiS at hc; rw [tl_mk] at hc
  exact h c (List.mem_of_mem_drop hc)
theorem las_ren (z : Str) : lasL (ren f z) = (lasL z).map f := by
  unfold lasL
  rw [tl_ren, ren_len, List.map_drop]
theorem txt_ren : ∀ l : List Str, txt (l.map (ren f)) = (txt l).map f := fun l => by
  cases l with
  | nil => rfl
  | cons a r =>
    rw [List.map_cons, txt_cons, txt_cons, tl_ren, List.map_append]
    congr 1
    unfold lasts
    rw [List.map_flatten, List.map_map, List.map_map]
    congr 1
    exact List.map_congr_left fun x _ => las_ren x
theorem cut_map (l : List Nat) (i n : Nat) : cut (l.map f) i n = (cut l i n).map f := by
  unfold cut; rw [List.map_take, List.map_drop]
theorem steps_map (k : Nat) (l : List Nat) : steps k (l.map f) = (steps k l).map (ren f) := by
  unfold steps
  rw [List.length_map, List.map_map]
  refine List.map_congr_left fun i _ => ?_
  refine ext_tl ?_
  exact (tl_mk _).trans ((cut_map l i k).trans ((congrArg (List.map f) (tl_mk _).symm).trans (tl_ren _).symm))
theorem pr_map {l : List Nat} (hl : 0 < l.length) (i : Nat) : pr (l.map f) i = f (pr l i) := by
  have h1 := pr_get (l := l) (Nat.mod_lt i hl)
  have h2 := pr_get (l := l.map f) (i := i % l.length) (by rw [List.length_map]; exact Nat.mod_lt i hl)
  rw [List.getElem?_map, h1, pr_mod] at h2
  have e : pr (l.map f) (i % l.length) = pr (l.map f) i := by
    have := pr_mod (l.map f) i
    rwa [List.length_map] at this
  rw [e] at h2
  injection h2 with h2
  exact h2.symm
theorem seg_map {l : List Nat} (hl : 0 < l.length) (a n : Nat) : seg (l.map f) a n = (seg l a n).map f := by
  unfold seg
  rw [List.map_map]
  exact List.map_congr_left fun i _ => pr_map hl _
theorem turns_map {l : List Nat} (hl : 0 < l.length) (k : Nat) : turns k (l.map f) = (turns k l).map (ren f) := by
  unfold turns
  rw [List.map_map, List.length_map]
  refine List.map_congr_left fun a _ => ?_
  have h := seg_map (f := f) hl a k
  unfold seg pr at h
  rw [List.length_map] at h
  show mkS _ = mkS ((tl (mkS _)).map f)
  exact congrArg mkS (h.trans (congrArg (List.map f) (tl_mk _).symm))
theorem pr_mem {l : List Nat} (hl : 0 < l.length) (i : Nat) : pr l i ∈ l := by
  have h := pr_get (l := l) (Nat.mod_lt i hl)
  rw [pr_mod] at h
  exact List.mem_of_getElem? h
theorem seg_u {l : List Nat} (hl : 0 < l.length) (h : ∀ c ∈ l, U c) (a n : Nat) : ∀ c ∈ seg l a n, U c := fun c hc => by
  unfold seg at hc
  obtain ⟨i, _, rfl⟩ := List.mem_map.mp hc
  exact h _ (pr_mem hl _)
theorem turns_u {l : List Nat} (hl : 0 < l.length) (h : ∀ c ∈ l, U c) {k : Nat} {z : Str} (hz : z ∈ turns k l) : InU U z := fun c hc => by
  unfold turns at hz
  obtain ⟨a, _, rfl⟩ := List.mem_map.mp hz
  rw [tl_mk] at hc
  exact seg_u (U := U) hl h a k c (by unfold seg pr; exact hc)
theorem steps_u {l : List Nat} (h : ∀ c ∈ l, U c) {k : Nat} {z : Str} (hz : z ∈ steps k l) : InU U z := fun c hc => by
  unfold steps at hz
  obtain ⟨a, _, rfl⟩ := List.mem_map.mp hz
  rw [tl_mk] at hc
  unfold cut at hc
  exact h c (List.mem_of_mem_drop (List.mem_of_mem_take hc))
theorem stands_map (i : InjU U f) {l x : List Nat} (hl : 0 < l.length) (h1 : ∀ c ∈ l, U c) (h2 : ∀ c ∈ x, U c) : Stands (l.map f) (x.map f) ↔ Stands l x := by
  constructor
  · rintro ⟨a, e⟩
    rw [List.length_map, seg_map hl] at e
    exact ⟨a, map_inj i h2 (seg_u hl h1 _ _) e⟩
  · rintro ⟨a, e⟩
    refine ⟨a, ?_⟩
    rw [List.length_map, seg_map hl, ← e]
variable {ws ws' : List Str}
/-- ws' are the windows of ws, letter by letter -/
structure Rn (U : Nat → Prop) (f : Nat → Nat) (ws ws' : List Str) : Prop where
  inj : InjU U f
  u : ∀ v ∈ ws, InU U v
  mem : ∀ x, x ∈ ws' ↔ ∃ v ∈ ws, x = ren f v
theorem Rn.there (r : Rn U f ws ws') {v : Str} (h : v ∈ ws) : ren f v ∈ ws' := (r.mem _).mpr ⟨v, h, rfl⟩
theorem Rn.back (r : Rn U f ws ws') {v : Str} (hu : InU U v) (h : ren f v ∈ ws') : v ∈ ws := by
  obtain ⟨x, hx, e⟩ := (r.mem _).mp h
  rw [ren_inj r.inj hu (r.u x hx) e]; exact hx
theorem mem_pl {x : Str} : x ∈ placesL ws ↔ ∃ v ∈ ws, x = iniS v ∨ x = taiS v := by
  unfold placesL
  constructor
  · intro h
    rcases List.mem_append.mp h with h | h
    · obtain ⟨v, hv, rfl⟩ := List.mem_map.mp h; exact ⟨v, hv, .inl rfl⟩
    · obtain ⟨v, hv, rfl⟩ := List.mem_map.mp h; exact ⟨v, hv, .inr rfl⟩
  · rintro ⟨v, hv, rfl | rfl⟩
    · exact ini_place hv
    · exact tai_place hv
theorem Rn.pl (r : Rn U f ws ws') (x : Str) : x ∈ placesL ws' ↔ ∃ s ∈ placesL ws, x = ren f s := by
  constructor
  · intro h
    obtain ⟨v', hv, e⟩ := mem_pl.mp h
    obtain ⟨v, hv2, rfl⟩ := (r.mem _).mp hv
    rcases e with rfl | rfl
    · exact ⟨_, ini_place hv2, ren_ini v⟩
    · exact ⟨_, tai_place hv2, ren_tai v⟩
  · rintro ⟨s, hs, rfl⟩
    obtain ⟨v, hv, rfl | rfl⟩ := mem_pl.mp hs
    · rw [← ren_ini]; exact ini_place (r.there hv)
    · rw [← ren_tai]; exact tai_place (r.there hv)
theorem Rn.plU (r : Rn U f ws ws') {x : Str} (h : x ∈ placesL ws) : InU U x := by
  obtain ⟨v, hv, rfl | rfl⟩ := mem_pl.mp h
  · exact (r.u v hv).ini
  · exact (r.u v hv).tai
theorem Rn.path (r : Rn U f ws ws') {a b : Str} (h : Path ws a b) : Path ws' (ren f a) (ren f b) := by
  induction h with
  | here => exact .here _
  | step _ hv ih =>
    rw [← ren_tai]
    refine .step ?_ (r.there hv)
    rw [ren_ini]; exact ih
theorem Rn.path' (r : Rn U f ws ws') {a y : Str} (ha : InU U a) (h : Path ws' (ren f a) y) : ∃ b, y = ren f b ∧ InU U b ∧ Path ws a b := by
  generalize ea : ren f a = a' at h
  induction h with
  | here => exact ⟨a, ea.symm, ha, .here a⟩
  | step _ hv ih =>
    obtain ⟨b, e, hb, p⟩ := ih
    obtain ⟨v, hv', rfl⟩ := (r.mem _).mp hv
    rw [ren_ini] at e
    have e2 := ren_inj r.inj (r.u v hv').ini hb e
    subst e2
    exact ⟨taiS v, ren_tai v, (r.u v hv').tai, .step p hv'⟩
theorem Rn.joined (r : Rn U f ws ws') : Joined ws' ↔ Joined ws := by
  constructor
  · intro j s hs t ht
    obtain ⟨b, e, hb, p⟩ := r.path' (r.plU hs) (j _ ((r.pl _).mpr ⟨s, hs, rfl⟩) _ ((r.pl _).mpr ⟨t, ht, rfl⟩))
    rw [ren_inj r.inj (r.plU ht) hb e]; exact p
  · intro j s hs t ht
    obtain ⟨s2, hs2, rfl⟩ := (r.pl _).mp hs
    obtain ⟨t2, ht2, rfl⟩ := (r.pl _).mp ht
    exact r.path (j s2 hs2 t2 ht2)
theorem Rn.wk (r : Rn U f ws ws') {one v : Str} {l : List Str} (h : Wk ws one l v) : Wk ws' (ren f one) (l.map (ren f)) (ren f v) := by
  induction h with
  | one => exact .one
  | more _ hv e ih =>
    rw [List.map_append]
    exact .more ih (r.there hv) (by rw [ren_ini, ren_tai, e])
theorem Rn.wk' (r : Rn U f ws ws') {one y : Str} {l' : List Str} (ho : one ∈ ws) (h : Wk ws' (ren f one) l' y) : ∃ l v, l' = l.map (ren f) ∧ y = ren f v ∧ v ∈ ws ∧ Wk ws one l v := by
  generalize ea : ren f one = a' at h
  induction h with
  | one => exact ⟨[one], one, by rw [← ea]; rfl, ea.symm, ho, .one⟩
  | more _ hv e ih =>
    obtain ⟨l, u, rfl, rfl, hu, p⟩ := ih
    obtain ⟨v, hv', rfl⟩ := (r.mem _).mp hv
    rw [ren_ini, ren_tai] at e
    have e2 := ren_inj r.inj (r.u v hv').ini (r.u u hu).tai e
    exact ⟨l ++ [v], v, by rw [List.map_append]; rfl, rfl, hv', .more p hv' e2⟩
theorem Bst.of_walks {one one' v v' : Str} {d d' : Nat} {y y' : List Nat} (b : Bst ws one d v y) (b' : Bst ws' one' d' v' y')
    (h1 : ∀ l, Wk ws one l v → ∃ m, Wk ws' one' m v' ∧ m.length = l.length) (h2 : ∀ m, Wk ws' one' m v' → ∃ l, Wk ws one l v ∧ l.length = m.length) : d = d' := by
  obtain ⟨l, hl, nl, _⟩ := b.way
  obtain ⟨m, hm, nm, _⟩ := b'.way
  obtain ⟨m2, hm2, n2⟩ := h1 l hl
  obtain ⟨l2, hl2, n3⟩ := h2 m hm
  have := b.short l2 hl2
  have := b'.short m2 hm2
  omega
/-- the ways of two lots of windows that have walks of the same lengths -/
theorem road_like {one one' v v' : Str} {r r' : V} (hr : RoadR ws one v r) (hr' : RoadR ws' one' v' r') (f1 : Full ws) (f2 : Full ws') (ho : one.length = one'.length) 
    (h1 : ∀ l, Wk ws one l v → ∃ m, Wk ws' one' m v' ∧ m.length = l.length) (h2 : ∀ m, Wk ws' one' m v' → ∃ l, Wk ws one l v ∧ l.length = m.length) :
    (r = .non ∧ r' = .non) ∨ ∃ d y y', r = .str (mkS y) ∧ r' = .str (mkS y') ∧ Bst ws one d v y ∧ Bst ws' one' d v' y' ∧ y.length = y'.length := by
  rcases hr with ⟨d, y, rfl, b⟩ | ⟨rfl, no⟩
  · rcases hr' with ⟨d', y', rfl, b'⟩ | ⟨rfl, no'⟩
    · have e := b.of_walks b' h1 h2
      subst e
      exact .inr ⟨d, y, y', rfl, rfl, b, b', by rw [b.len f1, b'.len f2, ho]⟩
    · obtain ⟨l, hl, _⟩ := b.way
      obtain ⟨m, hm, _⟩ := h1 l hl
      exact (no' m hm).elim
  · rcases hr' with ⟨d', y', rfl, b'⟩ | ⟨rfl, no'⟩
    · obtain ⟨m, hm, _⟩ := b'.way
      obtain ⟨l, hl, _⟩ := h2 m hm
      exact (no l hl).elim
    · exact .inl ⟨rfl, rfl⟩
theorem Rn.road (r : Rn U f ws ws') {one v : Str} {x x' : V} (ho : one ∈ ws) (hv : v ∈ ws) (hx : RoadR ws one v x) (hx' : RoadR ws' (ren f one) (ren f v) x') (f1 : Full ws) (f2 : Full ws') :
    (x = .non ∧ x' = .non) ∨ ∃ d y y', x = .str (mkS y) ∧ x' = .str (mkS y') ∧ Bst ws one d v y ∧ Bst ws' (ren f one) d (ren f v) y' ∧ y.length = y'.length :=
  road_like hx hx' f1 f2 (ren_len one).symm (fun l h => ⟨_, r.wk h, List.length_map ..⟩) fun m h => by
    obtain ⟨l, u, rfl, e, hu, p⟩ := r.wk' ho h
    rw [← ren_inj r.inj (r.u v hv) (r.u u hu) e] at p
    exact ⟨l, p, (List.length_map ..).symm⟩
def MonU (U : Nat → Prop) (f : Nat → Nat) : Prop := ∀ a b, U a → U b → a < b → f a < f b
theorem lt_map (m : MonU U f) : ∀ {x y : List Nat}, (∀ c ∈ x, U c) → (∀ c ∈ y, U c) → x < y → x.map f < y.map f
  | [], [], _, _, h => absurd h (List.lt_irrefl _)
  | [], _ :: _, _, _, _ => List.nil_lt_cons _ _
  | _ :: _, [], _, _, h => absurd h (List.not_lt_nil _)
  | a :: x, b :: y, hx, hy, h => by
    rw [List.map_cons, List.map_cons]
    rw [List.cons_lt_cons_iff] at h ⊢
    rcases h with h | ⟨rfl, h⟩
    · exact .inl (m a b (hx a List.mem_cons_self) (hy b List.mem_cons_self) h)
    · exact .inr ⟨rfl, lt_map m (fun c hc => hx c (List.mem_cons_of_mem _ hc)) (fun c hc => hy c (List.mem_cons_of_mem _ hc)) h⟩
theorem le_map (m : MonU U f) {x y : List Nat} (hx : ∀ c ∈ x, U c) (hy : ∀ c ∈ y, U c) (h : x ≤ y) : x.map f ≤ y.map f := by
  by_cases l : x < y
  · exact List.le_of_lt (lt_map m hx hy l)
  · rw [List.le_antisymm h (List.not_lt.mp l)]; exact List.le_refl _
theorem txt_u {l : List Str} (h : ∀ x ∈ l, InU U x) : ∀ c ∈ txt l, U c := by
  cases l with
  | nil => intro c hc; cases hc
  | cons a r =>
    intro c hc
    rw [txt_cons] at hc
    rcases List.mem_append.mp hc with hc | hc
    · exact h a List.mem_cons_self c hc
    · unfold lasts at hc
      obtain ⟨y, hy, hc⟩ := List.mem_flatten.mp hc
      obtain ⟨z, hz, rfl⟩ := List.mem_map.mp hy
      unfold lasL at hc
      exact h z (List.mem_cons_of_mem _ hz) c (List.mem_of_mem_drop hc)
theorem Rn.first (r : Rn U f ws ws') (m : MonU U f) {one v : Str} {d : Nat} {y y' : List Nat} (ho : one ∈ ws) (hv : v ∈ ws) (b : Bst ws one d v y) (b' : Bst ws' (ren f one) d (ren f v) y') : y' = y.map f := by
  obtain ⟨l, hl, nl, rfl⟩ := b.way
  obtain ⟨l', hl', nl', rfl⟩ := b'.way
  obtain ⟨p, u, rfl, e, hu, hp⟩ := r.wk' ho hl'
  rw [← ren_inj r.inj (r.u v hv) (r.u u hu) e] at hp
  have a1 := b'.first _ (r.wk hl) (by rw [List.length_map]; exact nl)
  have a2 := b.first p hp (by rw [List.length_map] at nl'; exact nl')
  have a3 := le_map m (txt_u fun x hx => r.u x (hl.all ho x hx)) (txt_u fun x hx => r.u x (hp.all ho x hx)) a2
  rw [txt_ren, txt_ren] at a1
  rw [txt_ren]
  exact List.le_antisymm a1 a3
end
/-! read from behind -/
theorem tl_rev (z : Str) : tl (revS z) = (tl z).reverse := tl_mk _
theorem rev_len (z : Str) : (revS z).length = z.length := by rw [len_tl, tl_rev, List.length_reverse, ← len_tl]
theorem rev_inj {x y : Str} (h : revS x = revS y) : x = y := by rw [← revS_revS x, h, revS_revS]
theorem rev_ini (z : Str) : iniS (revS z) = revS (taiS z) := by
  refine ext_tl ?_
  rw [tl_ini (revS z), tl_rev (taiS z), tl_tai z, tl_rev z, rev_len, List.reverse_drop, len_tl z]
theorem rev_tai (z : Str) : taiS (revS z) = revS (iniS z) := by
  refine ext_tl ?_
  rw [tl_tai (revS z), tl_rev (iniS z), tl_ini z, tl_rev z, List.drop_reverse, len_tl z]
structure Rv (ws ws' : List Str) : Prop where
  mem : ∀ x, x ∈ ws' ↔ revS x ∈ ws
section
variable {ws ws' : List Str}
theorem Rv.there (r : Rv ws ws') {v : Str} (h : v ∈ ws) : revS v ∈ ws' := (r.mem _).mpr (by rw [revS_revS]; exact h)
theorem Rv.sym (r : Rv ws ws') : Rv ws' ws := ⟨fun x => by rw [r.mem, revS_revS]⟩
theorem Rv.pl1 (r : Rv ws ws') {x : Str} (h : x ∈ placesL ws) : revS x ∈ placesL ws' := by
  obtain ⟨v, hv, rfl | rfl⟩ := mem_pl.mp h
  · rw [← rev_tai]; exact tai_place (r.there hv)
  · rw [← rev_ini]; exact ini_place (r.there hv)
theorem Rv.pl (r : Rv ws ws') (x : Str) : x ∈ placesL ws' ↔ ∃ s ∈ placesL ws, x = revS s :=
  ⟨fun h => ⟨revS x, r.sym.pl1 h, (revS_revS x).symm⟩, fun ⟨s, hs, e⟩ => by rw [e]; exact r.pl1 hs⟩
theorem Path.pre {v b : Str} (hv : v ∈ ws) (h : Path ws (taiS v) b) : Path ws (iniS v) b := .trans (.step (.here _) hv) h
theorem Rv.path (r : Rv ws ws') {a b : Str} (h : Path ws a b) : Path ws' (revS b) (revS a) := by
  induction h with
  | here => exact .here _
  | step _ hv ih =>
    rw [← rev_ini]
    refine Path.pre (r.there hv) ?_
    rw [rev_tai]; exact ih
theorem Rv.joined1 (r : Rv ws ws') (j : Joined ws) : Joined ws' := fun s hs t ht => by
  have := r.path (j _ (r.sym.pl1 ht) _ (r.sym.pl1 hs))
  rwa [revS_revS, revS_revS] at this
theorem Rv.joined (r : Rv ws ws') : Joined ws' ↔ Joined ws := ⟨r.sym.joined1, r.joined1⟩
theorem Rv.wk (r : Rv ws ws') {one v : Str} {l : List Str} (ho : one ∈ ws) (h : Wk ws one l v) : ∃ m, Wk ws' (revS v) m (revS one) ∧ m.length = l.length := by
  induction h with
  | one => exact ⟨_, .one, rfl⟩
  | @more l u v hl hv e ih =>
    obtain ⟨m, hm, nm⟩ := ih
    have hu := hl.inn ho
    have c : Wk ws' (revS v) ([revS v] ++ [revS u]) (revS u) := .more .one (r.there hu) (by rw [rev_ini, rev_tai, e])
    refine ⟨_, c.comp hm, ?_⟩
    have := hm.pos
    rw [List.length_append, List.length_append, List.length_tail, nm]
    simp
    omega
theorem Rv.road (r : Rv ws ws') {one v : Str} {x x' : V} (ho : one ∈ ws) (hv : v ∈ ws) (hx : RoadR ws one v x) (hx' : RoadR ws' (revS v) (revS one) x') (f1 : Full ws) (f2 : Full ws') (e : one.length = v.length) :
    (x = .non ∧ x' = .non) ∨ ∃ d y y', x = .str (mkS y) ∧ x' = .str (mkS y') ∧ Bst ws one d v y ∧ Bst ws' (revS v) d (revS one) y' ∧ y.length = y'.length :=
  road_like hx hx' f1 f2 (by rw [rev_len]; exact e) (fun l h => r.wk ho h) fun m h => by
    have := r.sym.wk (r.there hv) h
    rwa [revS_revS, revS_revS] at this
theorem steps_rev {k : Nat} {l : List Nat} {z : Str} (h : z ∈ steps k l.reverse) (hk : k ≤ l.length) : revS z ∈ steps k l := by
  unfold steps at h ⊢
  rw [List.length_reverse] at h
  obtain ⟨i, hi, rfl⟩ := List.mem_map.mp h
  rw [List.mem_range] at hi
  refine List.mem_map.mpr ⟨l.length - k - i, List.mem_range.mpr (by omega), ?_⟩
  refine ext_tl ?_
  refine (tl_mk _).trans (Eq.trans ?_ ((congrArg List.reverse (tl_mk _).symm).trans (tl_rev _).symm))
  unfold cut
  rw [List.drop_reverse, List.take_reverse, List.reverse_reverse, List.drop_take, List.length_take]
  rw [show min (l.length - i) l.length - k = l.length - k - i by omega, show l.length - i - (l.length - k - i) = k by omega]
end
end Tx

set_option Elab.async false
set_option linter.all false
set_option maxRecDepth 100000
set_option maxHeartbeats 1000000
namespace Tx
open PySem PySem.Spec PyProof.Rows L2 TL
section
variable {X : Cx}
/-- list(x), a text -/
def rListT : List V → Hp → VK → Prop := fun vs H Q => ∃ x : Str, vs = [V.str x] ∧ x.length ≤ 3000 ∧ ∀ l, H l = none → Q (.ref l) (upd H l (.lst ((signs x).map V.str)))
theorem cr_listT (hc : X.calm = true) : CallR X (.type "list") rListT := by
  intro pins s σ H vs us Q I r h
  obtain ⟨x, rfl, hb, q⟩ := h
  obtain ⟨u, rfl, t, rfl⟩ := vals1 r
  refine call_list_str (I.ok.hd hc) x t (fun h' tk acc' c' kp hS hacc => ?_) (Nat.le_trans (show x.cps.size ≤ 3000 from hb) (by decide))
  have rv : Vals ((signs x).map V.str) acc'.toList := by
    refine vals_of_at (by rw [List.length_map, signs_len, Array.length_toList, hacc.1]) fun j v u e1 e2 => ?_
    obtain ⟨c, t2, e3, rfl⟩ := hacc.2 j u (by rw [← Array.getElem?_toList]; exact e2)
    unfold signs at e1
    rw [List.getElem?_map, List.getElem?_map, show (tl x)[j]? = some c by rw [← e3]; exact Array.getElem?_toList ..] at e1
    injection e1 with e1
    rw [← e1]
    exact ⟨t2, rfl⟩
  exact ⟨.ref s.heap.objs.size, _, I.laid (t' := tk) kp (Nat.le_refl _) (show ObjOk X.prog X.w _ h' _ (.lst ((signs x).map V.str)) from ⟨by rw [List.length_map, signs_len]; exact Nat.le_trans (show x.cps.size ≤ 3000 from hb) (by decide), acc'.toList, c', rv, hS⟩), rfl, q _ (I.hok.fresh (Nat.le_refl _))⟩
theorem cr_listTK (hc : X.calm = true) : CallR X (.type "list") rListT := cr_listT hc
end
section
variable {X : Cx} (K : PySem.W.Frag) {o e : Expr} {es : List Expr} {to : TE} {t : TA} {name : Str} {apos cpos : Pos} {T id : String} {r : V → List V → Hp → VK → Prop}
theorem pe_bmK (h : X.K = K) (pa : PlainAttrs T) (slot : Slot T name id) (hty : typeOf (.builtin id) = pure (.type "method_descriptor")) (hm : MtR X id r) (ho : PE X o to) (ha : PA X (e :: es) t)
    (hbase : attributeBase o name X.env (eval o X.env) = eval o X.env := by rfl)
    (hfew : ((backTo cpos (starEach (e :: es) X.env)).all (fun x => !x.1) && (backToKw cpos (keywordEach [] X.env)).all (fun x => x.1.isSome)
      && decide ((e :: es).length + ([] : List Keyword).length + (if ([] : List Keyword).isEmpty then 0 else 1) < 30)) = true := by rfl)
    (hline : (apos.endLine == cpos.line) = true := by rfl) (hs : starEach (e :: es) X.env = (false, eval e X.env) :: starEach es X.env := by rfl) (hplain : (backTo cpos (starEach es X.env)).any (·.1) = false := by rfl) :
    PE X (.Call (.Attribute o name apos) (e :: es) [] cpos) (tBM K T r to t) := by subst h; exact pe_bm pa slot hty hm ho ha hbase hfew hline hs hplain
end
theorem abc_e : Str.ofString "abcdefghijklmnopqrstuvwxyz" = mkS ((List.range 26).map (· + 97)) := by decide +kernel
theorem abc_at (c : Nat) (h1 : 97 ≤ c) (h2 : c ≤ 122) : ∃ rest, Builtin.Str.occurrences (Str.ofString "abcdefghijklmnopqrstuvwxyz") ⟨#[c]⟩ 0 (Str.ofString "abcdefghijklmnopqrstuvwxyz").length 1 = (c - 97) :: rest := by
  rw [abc_e]
  have sl : (mkS ((List.range 26).map (· + 97))).length = 26 := by decide +kernel
  rw [sl, StrLaws.occ_eq]
  have key : ∀ i, StrLaws.At (mkS ((List.range 26).map (· + 97))) ⟨#[c]⟩ 26 i ↔ i + 97 = c ∧ i < 26 := fun i => by
    unfold StrLaws.At
    rw [StrLaws.subAt_eq, beq_iff_eq]
    have e1 : (⟨#[c]⟩ : Str).length = 1 := rfl
    rw [e1]
    constructor
    · rintro ⟨a, b⟩
      have b2 : (((List.range 26).map (· + 97)).drop i).take 1 = [c] := b
      have b3 := congrArg (fun l => l[0]?) b2
      simp only [List.getElem?_take, List.getElem?_drop, List.getElem?_map] at b3
      rw [if_pos (by decide), Nat.add_zero, List.getElem?_range (by omega)] at b3
      injection b3 with b3
      exact ⟨b3, by omega⟩
    · rintro ⟨a, b⟩
      refine ⟨by omega, ?_⟩
      show (((List.range 26).map (· + 97)).drop i).take 1 = [c]
      refine List.ext_getElem? fun k => ?_
      rw [List.getElem?_take, List.getElem?_drop, List.getElem?_map]
      by_cases k0 : k < 1
      · obtain rfl : k = 0 := by omega
        rw [if_pos k0, Nat.add_zero, List.getElem?_range b, ← a]; rfl
      · rw [if_neg k0, List.getElem?_eq_none (by show 1 ≤ k; omega)]
  rcases StrLaws.occ_first (mkS ((List.range 26).map (· + 97))) ⟨#[c]⟩ 26 1 (Nat.le_refl _) (List.range' 0 (26 + 1 - 0)) 0 (fun i _ => Nat.zero_le _) with ⟨_, hn⟩ | ⟨pre, a, post, e, h0, ha, _⟩
  · exact (hn (c - 97) (List.mem_range'_1.mpr ⟨Nat.zero_le _, by omega⟩) ((key _).mpr ⟨by omega, by omega⟩)).elim
  · have ea := ((key a).mp ha).1
    have e2 : ((forIn (List.range' 0 (26 + 1 - 0)) ((#[] : Array Nat), 0) (StrLaws.occBody (mkS ((List.range 26).map (· + 97))) ⟨#[c]⟩ 26 1)).run.fst.toList)[0]? = some a := by rw [Array.getElem?_toList]; exact h0
    match he : (forIn (List.range' 0 (26 + 1 - 0)) ((#[] : Array Nat), 0) (StrLaws.occBody (mkS ((List.range 26).map (· + 97))) ⟨#[c]⟩ 26 1)).run.fst.toList with
    | [] => rw [he] at e2; cases e2
    | b :: rest =>
      rw [he] at e2
      injection e2 with e2
      exact ⟨rest, by rw [show c - 97 = b by omega]⟩
end Tx

set_option Elab.async false
set_option linter.all false
set_option maxRecDepth 100000
set_option maxHeartbeats 4000000
namespace Tx
open PySem PySem.Spec PyProof.Rows L2 TL PpSet
/-! comprehensions with two fors: into a set of texts, into a dict -/
section
variable {prog : Program} {w : World} {A : Around}
/-- what a turn of a clause asks: its item put, its tests, then go -/
def Turn2 (prog : Program) (w : World) (A : Around) (t : Expr) (ifs : List Expr) (it : Value) (env : Env) (stop : Shared → Prop) (err : PySem.Value → Shared → Prop) (go rest : Shared → Prop) (s : Shared) : Prop :=
  wpAny (model prog w) A (pyNext it) (fun r s₁ => match r with
    | none => stop s₁
    | some v => wpAny (model prog w) A (letOwnedTupleGo t it v) (fun _ s₂ => wpAny (model prog w) A (assign t env v) (fun _ s₃ =>
        wpAny (model prog w) A (forIn ifs true fun c r => if r = true then do let ok ← isTrue c env (eval c env); pure (ForInStep.yield ok) else pure (ForInStep.yield r))
          (fun ok s₄ => if ok = true then go s₄ else rest s₄) (notedBy (model prog w) A env err) s₃) (notedBy (model prog w) A env err) s₂) (notedBy (model prog w) A env err) s₁) (notedBy (model prog w) A env err) s
variable {R : Result → Shared → Prop} {s : Shared} {elt kx vx t0 i0 t1 i1 : Expr} {ifs0 ifs1 : List Expr} {scope : Scope} {pos : Pos} {it acc : Value} {env : Env}
theorem set2_out (hs : ∀ x, foldedSetIterable i1 env x = pure x) (I : Nat → Shared → Prop)
    (turn : ∀ n s, I n s → Turn2 prog w A t0 ifs0 it env (R (.ok .next)) (fun e s' => R (.error e) s') (fun s₃ => wpAny (model prog w) A (eval i1 env) (fun x s₄ => wpAny (model prog w) A (pyIter x) (fun it1 s₅ =>
        codeAny (model prog w) A (.compStart (.SetComp elt [⟨t0, i0, ifs0, 0⟩, ⟨t1, i1, ifs1, 0⟩] scope pos) 1 it1 acc env) (fun r s' => match r with | .ok _ => ∃ m, m < n ∧ I m s' | .error _ => False) s₅)
          (notedBy (model prog w) A env fun e s' => R (.error e) s') s₄) (notedBy (model prog w) A env fun e s' => R (.error e) s') s₃) (fun s₃ => ∃ m, m < n ∧ I m s₃) s) (n : Nat) (h : I n s) :
    codeAny (model prog w) A (.compLoop (.SetComp elt [⟨t0, i0, ifs0, 0⟩, ⟨t1, i1, ifs1, 0⟩] scope pos) 0 it acc env) R s := by
  refine codeAny_loop rfl I (fun n s hI => ?_) n h
  have tn := turn n s hI
  unfold Turn2 at tn
  show wpAny _ A ((compTurn (.SetComp elt [⟨t0, i0, ifs0, 0⟩, ⟨t1, i1, ifs1, 0⟩] scope pos) 0 it acc env).onRaise fun x => do noteFrame x env; theTreesLotGoes x) _ _ s
  refine wpAny_noted ?_
  have ct : compTurn (.SetComp elt [⟨t0, i0, ifs0, 0⟩, ⟨t1, i1, ifs1, 0⟩] scope pos) 0 it acc env = (do
      standAt i0.pos
      match ← pyNext it with
      | none => pure (.done .next)
      | some v => do
        letOwnedTupleGo t0 it v; assign t0 env v
        let mut ok := true
        for c in ifs0 do if ok then ok ← isTrue c env (eval c env)
        if ok then
          let x ← eval i1 env
          standAt i1.pos
          let x ← foldedSetIterable i1 env x
          let _ ← runOwn (.compStart (.SetComp elt [⟨t0, i0, ifs0, 0⟩, ⟨t1, i1, ifs1, 0⟩] scope pos) 1 (← holding [x] (pyIter x)) acc env) env
        again (.compLoop (.SetComp elt [⟨t0, i0, ifs0, 0⟩, ⟨t1, i1, ifs1, 0⟩] scope pos) 0 it acc env)) := by rfl
  rw [ct]
  refine wpAny_bind (wpAny_standAt (wpAny_bind (wpAny_mono tn (fun r s₁ h₁ => ?_) fun _ _ z => z)))
  match r, h₁ with
  | none, h₁ => exact wpAny_pure h₁
  | some v, h₁ =>
    refine wpAny_bind (wpAny_mono h₁ (fun _ a ha => wpAny_bind (wpAny_mono ha (fun _ b hb => wpAny_bind (wpAny_mono hb (fun ok c hq => ?_) fun _ _ z => z)) fun _ _ z => z)) fun _ _ z => z)
    cases ok with
    | false => exact wpAny_pure ⟨rfl, hq⟩
    | true =>
      refine wpAny_bind (wpAny_mono hq (fun x d hd => wpAny_bind (wpAny_standAt (wpAny_bind (wpAny_of_eq (hs x) (wpAny_bind (wpAny_holding (wpAny_mono hd (fun it1 e he => ?_) fun _ _ z => z))))))) fun _ _ z => z)
      refine wpAny_bind (wpAny_runOwn ?_)
      rw [Around.mark_none]
      refine codeAny_mono he fun r s' hr => ?_
      match r, hr with
      | .ok f, hr => first | exact wpAny_pure ⟨rfl, hr⟩ | exact wpAny_bind (wpAny_pure (wpAny_pure ⟨rfl, hr⟩))
theorem set2_in (I : Nat → Shared → Prop)
    (turn : ∀ n s, I n s → Turn2 prog w A t1 ifs1 it env (R (.ok .next)) (fun e s' => R (.error e) s') (fun s₃ => wpAny (model prog w) A (eval elt env) (fun x s₄ => wpAny (model prog w) A (call (.builtin "set.add") [acc, x]) (fun _ s₅ => ∃ m, m < n ∧ I m s₅)
          (notedBy (model prog w) A env fun e s' => R (.error e) s') s₄) (notedBy (model prog w) A env fun e s' => R (.error e) s') s₃) (fun s₃ => ∃ m, m < n ∧ I m s₃) s) (n : Nat) (h : I n s) :
    codeAny (model prog w) A (.compLoop (.SetComp elt [⟨t0, i0, ifs0, 0⟩, ⟨t1, i1, ifs1, 0⟩] scope pos) 1 it acc env) R s := by
  refine codeAny_loop rfl I (fun n s hI => ?_) n h
  have tn := turn n s hI
  unfold Turn2 at tn
  show wpAny _ A ((compTurn (.SetComp elt [⟨t0, i0, ifs0, 0⟩, ⟨t1, i1, ifs1, 0⟩] scope pos) 1 it acc env).onRaise fun x => do noteFrame x env; theTreesLotGoes x) _ _ s
  refine wpAny_noted ?_
  have ct : compTurn (.SetComp elt [⟨t0, i0, ifs0, 0⟩, ⟨t1, i1, ifs1, 0⟩] scope pos) 1 it acc env = (do
      standAt i1.pos
      match ← pyNext it with
      | none => pure (.done .next)
      | some v => do
        letOwnedTupleGo t1 it v; assign t1 env v
        let mut ok := true
        for c in ifs1 do if ok then ok ← isTrue c env (eval c env)
        if ok then (do let v ← eval elt env; standAt elt.pos; let _ ← call (.builtin "set.add") [acc, v])
        again (.compLoop (.SetComp elt [⟨t0, i0, ifs0, 0⟩, ⟨t1, i1, ifs1, 0⟩] scope pos) 1 it acc env)) := by rfl
  rw [ct]
  refine wpAny_bind (wpAny_standAt (wpAny_bind (wpAny_mono tn (fun r s₁ h₁ => ?_) fun _ _ z => z)))
  match r, h₁ with
  | none, h₁ => exact wpAny_pure h₁
  | some v, h₁ =>
    refine wpAny_bind (wpAny_mono h₁ (fun _ a ha => wpAny_bind (wpAny_mono ha (fun _ b hb => wpAny_bind (wpAny_mono hb (fun ok c hq => ?_) fun _ _ z => z)) fun _ _ z => z)) fun _ _ z => z)
    cases ok with
    | false => exact wpAny_pure ⟨rfl, hq⟩
    | true => exact wpAny_bind (wpAny_bind (wpAny_mono hq (fun x d hd => wpAny_bind (wpAny_standAt (wpAny_bind (wpAny_mono hd (fun _ e he => wpAny_pure (wpAny_pure ⟨rfl, he⟩)) fun _ _ z => z)))) fun _ _ z => z))
theorem set2_start1 (h0 : codeAny (model prog w) A (.compLoop (.SetComp elt [⟨t0, i0, ifs0, 0⟩, ⟨t1, i1, ifs1, 0⟩] scope pos) 1 it acc env) R s)
    (h : wpAny (model prog w) A (pyIter it) (fun it' s' => codeAny (model prog w) A (.compLoop (.SetComp elt [⟨t0, i0, ifs0, 0⟩, ⟨t1, i1, ifs1, 0⟩] scope pos) 1 it' acc env) R s') (notedBy (model prog w) A env fun x s' => R (.error x) s') s) :
    codeAny (model prog w) A (.compStart (.SetComp elt [⟨t0, i0, ifs0, 0⟩, ⟨t1, i1, ifs1, 0⟩] scope pos) 1 it acc env) R s := by
  refine codeAny_of_tree ?_
  show wpAny _ _ ((compStart (.SetComp elt [⟨t0, i0, ifs0, 0⟩, ⟨t1, i1, ifs1, 0⟩] scope pos) 1 it acc env).onRaise fun x => do noteFrame x env; standAt theWindowsPlace) _ _ s
  refine wpAny_notedAt ?_
  unfold compStart; show wpAny _ _ (ask >>= _) _ _ s
  refine wpAny_bind (wpAny_askSetting (wpAny_ite ?_)); split
  · first | exact wpAny_bind (wpAny_pure (wpAny_pure ⟨rfl, h0⟩)) | exact wpAny_pure ⟨rfl, h0⟩
  · first
    | exact wpAny_bind (wpAny_rule (wpAny_bind (wpAny_standAt (wpAny_bind (wpAny_mono h (fun it' s' h' => wpAny_pure ⟨rfl, h'⟩) fun _ _ x => x)))))
    | (refine wpAny_bind (wpAny_rule ?_); show wpAny _ _ (standAt i1.pos >>= _) _ _ s; exact wpAny_bind (wpAny_standAt (wpAny_bind (wpAny_mono h (fun it' s' h' => wpAny_pure ⟨rfl, h'⟩) fun _ _ x => x))))
/-! the same of a dict -/
variable {D : Addr}
theorem dict2_out (hs : ∀ x, foldedSetIterable i1 env x = pure x) (I : Nat → Shared → Prop)
    (turn : ∀ n s, I n s → Turn2 prog w A t0 ifs0 it env (R (.ok .next)) (fun e s' => R (.error e) s') (fun s₃ => wpAny (model prog w) A (eval i1 env) (fun x s₄ => wpAny (model prog w) A (pyIter x) (fun it1 s₅ =>
        codeAny (model prog w) A (.compStart (.DictComp kx vx [⟨t0, i0, ifs0, 0⟩, ⟨t1, i1, ifs1, 0⟩] scope pos) 1 it1 (.ref D) env) (fun r s' => match r with | .ok _ => ∃ m, m < n ∧ I m s' | .error _ => False) s₅)
          (notedBy (model prog w) A env fun e s' => R (.error e) s') s₄) (notedBy (model prog w) A env fun e s' => R (.error e) s') s₃) (fun s₃ => ∃ m, m < n ∧ I m s₃) s) (n : Nat) (h : I n s) :
    codeAny (model prog w) A (.compLoop (.DictComp kx vx [⟨t0, i0, ifs0, 0⟩, ⟨t1, i1, ifs1, 0⟩] scope pos) 0 it (.ref D) env) R s := by
  refine codeAny_loop rfl I (fun n s hI => ?_) n h
  have tn := turn n s hI
  unfold Turn2 at tn
  show wpAny _ A ((compTurn (.DictComp kx vx [⟨t0, i0, ifs0, 0⟩, ⟨t1, i1, ifs1, 0⟩] scope pos) 0 it (.ref D) env).onRaise fun x => do noteFrame x env; theTreesLotGoes x) _ _ s
  refine wpAny_noted ?_
  have ct : compTurn (.DictComp kx vx [⟨t0, i0, ifs0, 0⟩, ⟨t1, i1, ifs1, 0⟩] scope pos) 0 it (.ref D) env = (do
      standAt i0.pos
      match ← pyNext it with
      | none => pure (.done .next)
      | some v => do
        letOwnedTupleGo t0 it v; assign t0 env v
        let mut ok := true
        for c in ifs0 do if ok then ok ← isTrue c env (eval c env)
        if ok then
          let x ← eval i1 env
          standAt i1.pos
          let x ← foldedSetIterable i1 env x
          let _ ← runOwn (.compStart (.DictComp kx vx [⟨t0, i0, ifs0, 0⟩, ⟨t1, i1, ifs1, 0⟩] scope pos) 1 (← holding [x] (pyIter x)) (.ref D) env) env
        again (.compLoop (.DictComp kx vx [⟨t0, i0, ifs0, 0⟩, ⟨t1, i1, ifs1, 0⟩] scope pos) 0 it (.ref D) env)) := by rfl
  rw [ct]
  refine wpAny_bind (wpAny_standAt (wpAny_bind (wpAny_mono tn (fun r s₁ h₁ => ?_) fun _ _ z => z)))
  match r, h₁ with
  | none, h₁ => exact wpAny_pure h₁
  | some v, h₁ =>
    refine wpAny_bind (wpAny_mono h₁ (fun _ a ha => wpAny_bind (wpAny_mono ha (fun _ b hb => wpAny_bind (wpAny_mono hb (fun ok c hq => ?_) fun _ _ z => z)) fun _ _ z => z)) fun _ _ z => z)
    cases ok with
    | false => exact wpAny_pure ⟨rfl, hq⟩
    | true =>
      refine wpAny_bind (wpAny_mono hq (fun x d hd => wpAny_bind (wpAny_standAt (wpAny_bind (wpAny_of_eq (hs x) (wpAny_bind (wpAny_holding (wpAny_mono hd (fun it1 e he => ?_) fun _ _ z => z))))))) fun _ _ z => z)
      refine wpAny_bind (wpAny_runOwn ?_)
      rw [Around.mark_none]
      refine codeAny_mono he fun r s' hr => ?_
      match r, hr with
      | .ok f, hr => first | exact wpAny_pure ⟨rfl, hr⟩ | exact wpAny_bind (wpAny_pure (wpAny_pure ⟨rfl, hr⟩))
theorem dict2_in (I : Nat → Shared → Prop)
    (turn : ∀ n s, I n s → Turn2 prog w A t1 ifs1 it env (R (.ok .next)) (fun e s' => R (.error e) s') (fun s₃ => wpAny (model prog w) A (eval kx env) (fun kv s₄ => wpAny (model prog w) A (eval vx env) (fun vv s₅ => wpAny (model prog w) A (dictSet D kv vv) (fun _ s₆ => ∃ m, m < n ∧ I m s₆)
          (notedBy (model prog w) A env fun e s' => R (.error e) s') s₅) (notedBy (model prog w) A env fun e s' => R (.error e) s') s₄) (notedBy (model prog w) A env fun e s' => R (.error e) s') s₃) (fun s₃ => ∃ m, m < n ∧ I m s₃) s) (n : Nat) (h : I n s) :
    codeAny (model prog w) A (.compLoop (.DictComp kx vx [⟨t0, i0, ifs0, 0⟩, ⟨t1, i1, ifs1, 0⟩] scope pos) 1 it (.ref D) env) R s := by
  refine codeAny_loop rfl I (fun n s hI => ?_) n h
  have tn := turn n s hI
  unfold Turn2 at tn
  show wpAny _ A ((compTurn (.DictComp kx vx [⟨t0, i0, ifs0, 0⟩, ⟨t1, i1, ifs1, 0⟩] scope pos) 1 it (.ref D) env).onRaise fun x => do noteFrame x env; theTreesLotGoes x) _ _ s
  refine wpAny_noted ?_
  have ct : compTurn (.DictComp kx vx [⟨t0, i0, ifs0, 0⟩, ⟨t1, i1, ifs1, 0⟩] scope pos) 1 it (.ref D) env = (do
      standAt i1.pos
      match ← pyNext it with
      | none => pure (.done .next)
      | some v => do
        letOwnedTupleGo t1 it v; assign t1 env v
        let mut ok := true
        for c in ifs1 do if ok then ok ← isTrue c env (eval c env)
        if ok then
          (do
            let kv ← eval kx env
            let vv ← holding [kv] (eval vx env)
            standAt { kx.pos with endLine := vx.pos.endLine, endCol := vx.pos.endCol }; holding [kv, vv] (dictSet D kv vv))
        again (.compLoop (.DictComp kx vx [⟨t0, i0, ifs0, 0⟩, ⟨t1, i1, ifs1, 0⟩] scope pos) 1 it (.ref D) env)) := by rfl
  rw [ct]
  refine wpAny_bind (wpAny_standAt (wpAny_bind (wpAny_mono tn (fun r s₁ h₁ => ?_) fun _ _ z => z)))
  match r, h₁ with
  | none, h₁ => exact wpAny_pure h₁
  | some v, h₁ =>
    refine wpAny_bind (wpAny_mono h₁ (fun _ a ha => wpAny_bind (wpAny_mono ha (fun _ b hb => wpAny_bind (wpAny_mono hb (fun ok c hq => ?_) fun _ _ z => z)) fun _ _ z => z)) fun _ _ z => z)
    cases ok with
    | false => exact wpAny_pure ⟨rfl, hq⟩
    | true =>
      exact wpAny_bind (wpAny_bind (wpAny_mono hq (fun kv d hd => wpAny_bind (wpAny_holding (wpAny_mono hd (fun vv e he => wpAny_bind (wpAny_standAt (wpAny_holding (wpAny_mono he (fun _ f hf => wpAny_pure ⟨rfl, hf⟩) fun _ _ z => z)))) fun _ _ z => z))) fun _ _ z => z))
theorem dict2_start1 (h0 : codeAny (model prog w) A (.compLoop (.DictComp kx vx [⟨t0, i0, ifs0, 0⟩, ⟨t1, i1, ifs1, 0⟩] scope pos) 1 it acc env) R s)
    (h : wpAny (model prog w) A (pyIter it) (fun it' s' => codeAny (model prog w) A (.compLoop (.DictComp kx vx [⟨t0, i0, ifs0, 0⟩, ⟨t1, i1, ifs1, 0⟩] scope pos) 1 it' acc env) R s') (notedBy (model prog w) A env fun x s' => R (.error x) s') s) :
    codeAny (model prog w) A (.compStart (.DictComp kx vx [⟨t0, i0, ifs0, 0⟩, ⟨t1, i1, ifs1, 0⟩] scope pos) 1 it acc env) R s := by
  refine codeAny_of_tree ?_
  show wpAny _ _ ((compStart (.DictComp kx vx [⟨t0, i0, ifs0, 0⟩, ⟨t1, i1, ifs1, 0⟩] scope pos) 1 it acc env).onRaise fun x => do noteFrame x env; standAt theWindowsPlace) _ _ s
  refine wpAny_notedAt ?_
  unfold compStart; show wpAny _ _ (ask >>= _) _ _ s
  refine wpAny_bind (wpAny_askSetting (wpAny_ite ?_)); split
  · first | exact wpAny_bind (wpAny_pure (wpAny_pure ⟨rfl, h0⟩)) | exact wpAny_pure ⟨rfl, h0⟩
  · first
    | exact wpAny_bind (wpAny_rule (wpAny_bind (wpAny_standAt (wpAny_bind (wpAny_mono h (fun it' s' h' => wpAny_pure ⟨rfl, h'⟩) fun _ _ x => x)))))
    | (refine wpAny_bind (wpAny_rule ?_); show wpAny _ _ (standAt i1.pos >>= _) _ _ s; exact wpAny_bind (wpAny_standAt (wpAny_bind (wpAny_mono h (fun it' s' h' => wpAny_pure ⟨rfl, h'⟩) fun _ _ x => x))))
end
end Tx

set_option Elab.async false
set_option linter.all false
set_option maxRecDepth 100000
set_option maxHeartbeats 4000000
namespace Tx
open PySem PySem.Spec PyProof.Rows L2 TL PpSet
section
variable {X : Cx}
/-- a comprehension with two fors into an object D that `new` tells: put D is what an item does -/
def tC2 (new : Addr → HO) (wi : TI) (g : TG) (tt : TT) (wi1 : TI) (g1 : TG) (tt1 : TT) (put : Addr → L2.St → Hp → (Hp → Prop) → Prop) (vs vs1 : List Nat) : TE := fun σ H Q => wi σ H fun J H1 => ∀ D, H1 D = none →
  ∃ W : Nat → Nat → Hp → Prop, (∃ m, W 0 m (upd H1 D (new D))) ∧ ∀ i m H, W i m H → (J.stop i H ∧ Q (.ref D) H) ∨ (J.go i H ∧ ∃ Nx : Hp → Prop, (∀ H', Nx H' → ∃ m', m' < m ∧ W (i + 1) m' H') ∧
    ∀ x H', J.yld i H x H' → g x (wipe σ vs) H' fun σ2 H2 => wipe σ2 vs = wipe σ vs ∧ tt σ2 H2 fun b H3 => if b = true then wi1 σ2 H3 fun J1 H4 => ∃ W1 : Nat → Nat → Hp → Prop, (∃ m, W1 0 m H4) ∧
      ∀ j k H, W1 j k H → (J1.stop j H ∧ Nx H) ∨ (J1.go j H ∧ ∃ Nx1 : Hp → Prop, (∀ H', Nx1 H' → ∃ k', k' < k ∧ W1 (j + 1) k' H') ∧
        ∀ x H', J1.yld j H x H' → g1 x (wipe σ2 vs1) H' fun σ3 H5 => wipe σ3 vs1 = wipe σ2 vs1 ∧ tt1 σ3 H5 fun b H6 => if b = true then put D σ3 H6 Nx1 else Nx1 H6) else Nx H3)
theorem core2 {pins : List (Addr × Obj)} {s2 s3 : Shared} {σ : L2.St} {H2 H3 : Hp} {Q : VK} {cmp tg iter1 tg1 : Expr} {ifs ifs1 : List Expr} {scope : Scope} {own : List (Str × Nat)} {vs1 : List Nat} {wi1 : TI} {g g1 : TG} {tt tt1 : TT} {put : Addr → L2.St → Hp → (Hp → Prop) → Prop}
    {use : Option (Value → Sem Unit)} {Qf : Value → Shared → Prop} {D it : Addr} {fp : List Addr} {tn : Nat → Heap → Prop} {J : It} {W : Nat → Nat → Hp → Prop} {m0 : Nat} {iter : Expr} {store : Env → Addr → (PySem.Value → Shared → Prop) → (Shared → Prop) → Shared → Prop}
    (hc : X.calm = true) (hN : X.N.Nodup) (ok : BlkOk X.N X.env.scope scope own) (hv : ∀ i ∈ vs1, i ∈ own.map (·.2))
    (hg : ∀ (s : Shared) (H : Hp) (C : Addr) (cl : List (Str × Addr)) (fp : List Addr), PG (X.blk s H scope (compEnvC scope cl C X.env) fp) tg g ∧ PTs (X.blk s H scope (compEnvC scope cl C X.env) fp) ifs tt ∧
      PI (X.blk s H scope (compEnvC scope cl C X.env) fp) tg1 iter1 wi1 ∧ PG (X.blk s H scope (compEnvC scope cl C X.env) fp) tg1 g1 ∧ PTs (X.blk s H scope (compEnvC scope cl C X.env) fp) ifs1 tt1 ∧
      ∀ (D : Addr) (pins : List (Addr × Obj)) (σ : L2.St) (Hh : Hp) (sh : Shared) (Nx : Hp → Prop) (er : PySem.Value → Shared → Prop) (R : Shared → Prop), Inv (X.blk s H scope (compEnvC scope cl C X.env) fp) pins σ Hh sh → put D σ Hh Nx →
        (∀ s' H', Inv (X.blk s H scope (compEnvC scope cl C X.env) fp) pins σ H' s' → Nx H' → R s') → store (compEnvC scope cl C X.env) D er R sh)
    (hout : ∀ {R : Result → Shared → Prop} {s : Shared} {env : Env} (I : Nat → Shared → Prop), (∀ n s, I n s → Turn2 X.prog X.w X.A tg ifs (.ref it) env (R (.ok .next)) (fun e s' => R (.error e) s')
        (fun s₃ => wpAny (model X.prog X.w) X.A (eval iter1 env) (fun x s₄ => wpAny (model X.prog X.w) X.A (pyIter x) (fun it1 s₅ => codeAny (model X.prog X.w) X.A (.compStart cmp 1 it1 (.ref D) env) (fun r s' => match r with | .ok _ => ∃ m, m < n ∧ I m s' | .error _ => False) s₅)
          (notedBy (model X.prog X.w) X.A env fun e s' => R (.error e) s') s₄) (notedBy (model X.prog X.w) X.A env fun e s' => R (.error e) s') s₃) (fun s₃ => ∃ m, m < n ∧ I m s₃) s) → ∀ n, I n s → codeAny (model X.prog X.w) X.A (.compLoop cmp 0 (.ref it) (.ref D) env) R s)
    (hin : ∀ {R : Result → Shared → Prop} {s : Shared} {env : Env} {it1 : Value} (I : Nat → Shared → Prop), (∀ n s, I n s → Turn2 X.prog X.w X.A tg1 ifs1 it1 env (R (.ok .next)) (fun e s' => R (.error e) s')
        (fun s₃ => store env D (fun e s' => R (.error e) s') (fun s₅ => ∃ m, m < n ∧ I m s₅) s₃) (fun s₃ => ∃ m, m < n ∧ I m s₃) s) → ∀ n, I n s → codeAny (model X.prog X.w) X.A (.compLoop cmp 1 it1 (.ref D) env) R s)
    (hst1 : ∀ {R : Result → Shared → Prop} {s : Shared} {env : Env} {it1 : Value}, codeAny (model X.prog X.w) X.A (.compLoop cmp 1 it1 (.ref D) env) R s → wpAny (model X.prog X.w) X.A (pyIter it1) (fun it' s' => codeAny (model X.prog X.w) X.A (.compLoop cmp 1 it' (.ref D) env) R s')
        (notedBy (model X.prog X.w) X.A env fun x s' => R (.error x) s') s → codeAny (model X.prog X.w) X.A (.compStart cmp 1 it1 (.ref D) env) R s)
    (hst0 : ∀ {R : Result → Shared → Prop} {s : Shared} {env : Env}, codeAny (model X.prog X.w) X.A (.compLoop cmp 0 (.ref it) (.ref D) env) R s → wpAny (model X.prog X.w) X.A (pyIter (.ref it)) (fun it' s' => codeAny (model X.prog X.w) X.A (.compLoop cmp 0 it' (.ref D) env) R s')
        (notedBy (model X.prog X.w) X.A env fun x s' => R (.error x) s') s → codeAny (model X.prog X.w) X.A (.compStart cmp 0 (.ref it) (.ref D) env) R s)
    (T : Turn X.prog X.w X.K tg J fp it tn) (st2 : tn 0 s2.heap) (f2 : ∀ b ∈ fp, FpOk X pins H2 b) (I3 : Inv X pins σ H3 s3) (hD : s2.heap.objs.size = D) (kp : ∀ b o, s2.heap.get? b = some o → s3.heap.get? b = some o) (h3s : s3.heap.objs.size = s2.heap.objs.size + 1) (hH3 : ∀ b, b ≠ D → H3 b = H2 b)
    (w0 : W 0 m0 H3)
    (turn : ∀ i m H, W i m H → (J.stop i H ∧ Q (.ref D) H) ∨ (J.go i H ∧ ∃ Nx : Hp → Prop, (∀ H', Nx H' → ∃ m', m' < m ∧ W (i + 1) m' H') ∧
      ∀ x H', J.yld i H x H' → g x (wipe σ (own.map (·.2))) H' fun σ2 H2 => wipe σ2 (own.map (·.2)) = wipe σ (own.map (·.2)) ∧ tt σ2 H2 fun b H3 => if b = true then wi1 σ2 H3 fun J1 H4 => ∃ W1 : Nat → Nat → Hp → Prop, (∃ m, W1 0 m H4) ∧
        ∀ j k H, W1 j k H → (J1.stop j H ∧ Nx H) ∨ (J1.go j H ∧ ∃ Nx1 : Hp → Prop, (∀ H', Nx1 H' → ∃ k', k' < k ∧ W1 (j + 1) k' H') ∧
          ∀ x H', J1.yld j H x H' → g1 x (wipe σ2 vs1) H' fun σ3 H5 => wipe σ3 vs1 = wipe σ2 vs1 ∧ tt1 σ3 H5 fun b H6 => if b = true then put D σ3 H6 Nx1 else Nx1 H6) else Nx H3))
    (hRR : ∀ C s' m H', Inv X pins σ H' s' → Q (.ref D) H' → s'.heap.Ns C m → FpOk X pins H' C → compPost (model X.prog X.w) X.A X.xe use Qf (.ref D) C (.ok .next) s') :
    codeAny (model X.prog X.w) X.A (.compStart cmp 0 (.ref it) (.ref D) (compEnvC scope (cellsFrom (s3.heap.objs.size + 1) scope.names (cloFrom X.env.cells scope.names [])) s3.heap.objs.size X.env))
      (compPost (model X.prog X.w) X.A X.xe use Qf (.ref D) s3.heap.objs.size) { s3 with heap := pushCells (s3.heap.push { cls := .type "dict", data := .dict #[] }) scope.names } := by
  have lt2 : ∀ b ∈ fp, b < s2.heap.objs.size := fun b hb => let ⟨o, e, _⟩ := T.obj _ _ st2 b hb; Heap.lt_size e
  have f3 : ∀ b ∈ fp, FpOk X pins H3 b ∧ b < s3.heap.objs.size := fun b hb => by
    have l := lt2 b hb
    refine ⟨⟨?_, (f2 b hb).2⟩, by rw [h3s]; exact Nat.lt_succ_of_lt l⟩
    rw [hH3 b (by rw [← hD]; exact Nat.ne_of_lt l)]; exact (f2 b hb).1
  have st3 : tn 0 s3.heap := T.keep _ _ _ st2 fun b _ o e => kp b o e
  have I4 := block_start I3 ok hN f3
  obtain ⟨pg, pt, pi1, pg1, pt1, pst⟩ := hg s3 H3 s3.heap.objs.size (cellsFrom (s3.heap.objs.size + 1) scope.names (cloFrom X.env.cells scope.names [])) fp
  have nfp : ∀ b ∈ fp, H3 b = none := fun b hb => (f3 b hb).1.1
  generalize hce : compEnvC scope (cellsFrom (s3.heap.objs.size + 1) scope.names (cloFrom X.env.cells scope.names [])) s3.heap.objs.size X.env = ce at I4 pg pt pi1 pg1 pt1 pst ⊢
  have cL : ce.locals = s3.heap.objs.size := by rw [← hce]; rfl
  generalize hs4 : ({ s3 with heap := pushCells (s3.heap.push { cls := .type "dict", data := .dict #[] }) scope.names } : Shared) = s4 at I4 ⊢
  have st4 : tn 0 s4.heap := T.keep _ _ _ st3 fun b _ o e => by rw [← hs4]; exact pushCells_keeps _ _ _ _ (Heap.get?_push_of_some _ e)
  have stat : ∀ {σ' : L2.St} {H' : Hp} {s' : Shared}, Inv (X.blk s3 H3 scope ce fp) [] σ' H' s' → (∀ b ∈ fp, H' b = none) → ∀ b ∈ fp, FpOk (X.blk s3 H3 scope ce fp) [] H' b := fun {σ' H' s'} I' hn b hb =>
    ⟨hn b hb, (I'.ok.exf b hb).1, I'.ok.exfs b hb, .inl hb, fun x c e => (I'.ok.exf b hb).2 x c e, fun p hp => absurd (show p ∈ ([] : List (Addr × Obj)) ++ [] from hp) (by simp)⟩
  have loop : codeAny (model X.prog X.w) X.A (.compLoop cmp 0 (.ref it) (.ref D) ce) (compPost (model X.prog X.w) X.A X.xe use Qf (.ref D) s3.heap.objs.size) s4 := by
    refine hout (fun n s' => ∃ i H', Inv (X.blk s3 H3 scope ce fp) [] (wipe σ (own.map (·.2))) H' s' ∧ tn i s'.heap ∧ (∀ b ∈ fp, H' b = none) ∧ W i n H') ?_ m0 ⟨0, H3, I4, st4, nfp, w0⟩
    rintro n s5 ⟨i, H5, I5, st5, n5, w5⟩
    unfold Turn2
    rcases turn i n H5 w5 with ⟨stop, qq⟩ | ⟨go, Nx, hNx, step⟩
    · refine thnF (T.done (X.blk s3 H3 scope ce fp) rfl rfl rfl hc i [] s5 _ H5 (fun _ _ => False) I5 (stat I5 n5) st5 stop) fun r s6 ⟨hr, I6⟩ => ?_
      subst hr
      have I7 : Inv X pins σ H5 s6 := I3.call' (ch := fp) I6.os I6.base I6.hok I6.bare fun b hb => ⟨(f3 b hb).1.2.2.2.1, (f3 b hb).1.2.1, (f3 b hb).1.2.2.2.2.1, (f3 b hb).1.2.2.2.2.2⟩
      have nC : H5 s3.heap.objs.size = none := by have z : H5 ce.locals = none := I6.free; rwa [cL] at z
      obtain ⟨m, hn, _⟩ := I6.loc
      have hn : s6.heap.Ns ce.locals m := hn
      rw [cL] at hn
      exact hRR s3.heap.objs.size s6 m H5 I7 qq hn (I3.fpOk (Nat.le_refl _) nC)
    · refine thnF (T.item (X.blk s3 H3 scope ce fp) rfl rfl rfl hc i [] s5 _ H5 (fun _ _ => False) I5 (stat I5 n5) st5 go) fun r s6 ⟨u, hr, h6⟩ => ?_
      subst hr
      refine thnF h6 fun _ s7 ⟨x, H7, I7, r7, y7, st7, n7⟩ => ?_
      have I7' := I7.pinned (stat I7 n7) (T.obj _ _ st7)
      refine thnF (pg.run _ s7 _ H7 x u _ I7' r7 (step x H7 y7)) fun _ s8 ⟨σ8, H8, I8, hw8, q8⟩ => thnF (pt.run _ s8 σ8 H8 _ I8 q8) fun b s9 ⟨H9, I9, q9⟩ => ?_
      have fin : ∀ {σ9 : L2.St} {s' : Shared} {H' : Hp}, Inv (X.blk s3 H3 scope ce fp) ([] ++ pinsAt fp s7.heap) σ9 H' s' → (wipe σ (own.map (·.2))).length = σ9.length → (∀ (j : Nat) v, (wipe σ (own.map (·.2)))[j]? = some (some v) → σ9[j]? = some (some v)) → Nx H' →
          ∃ m, m < n ∧ ∃ i H', Inv (X.blk s3 H3 scope ce fp) [] (wipe σ (own.map (·.2))) H' s' ∧ tn i s'.heap ∧ (∀ b ∈ fp, H' b = none) ∧ W i m H' := fun {σ9 s' H'} I' hl hk nx => by
        obtain ⟨m', hm, w'⟩ := hNx H' nx
        have pin' : ∀ b ∈ fp, ∀ o, s7.heap.get? b = some o → s'.heap.get? b = some o ∧ H' b = none := fun b hb o e => let z := I'.pin (b, o) (List.mem_append_right _ (List.mem_append_right _ (mem_pinsAt hb e))); ⟨z.1, z.2.1⟩
        exact ⟨m', hm, i + 1, H', (I'.unpinned (pins := [])).weak hl hk, T.keep _ _ _ st7 fun b hb o e => (pin' b hb o e).1, fun b hb => let ⟨o, e, _⟩ := T.obj _ _ st7 b hb; (pin' b hb o e).2, w'⟩
      have hl8 : (wipe σ (own.map (·.2))).length = σ8.length := by rw [← hw8, wipe_length]
      have hk8 : ∀ (j : Nat) v, (wipe σ (own.map (·.2)))[j]? = some (some v) → σ8[j]? = some (some v) := fun j v e => by rw [← hw8] at e; exact (wipe_some e).1
      have hk9 : ∀ (j : Nat) v, (wipe σ (own.map (·.2)))[j]? = some (some v) → (wipe σ8 vs1)[j]? = some (some v) := fun j v e => by
        rw [← hw8] at e; obtain ⟨e1, e2⟩ := wipe_some e
        rw [wipe_out fun z => e2 (hv j z)]; exact e1
      cases b with
      | false => simp only [Bool.false_eq_true, if_false] at q9 ⊢; exact fin I9 hl8 hk8 q9
      | true =>
        simp only [if_true] at q9 ⊢
        refine thnF (pi1.run _ s9 σ8 H9 _ I9 q9) fun xv s10 hx => thnF hx fun itv s11 h11 => ?_
        obtain ⟨it1, fp1, tn1, J1, H11, e1, I11, T1, st11, f11, W1, ⟨m1, w1⟩, turn1⟩ := h11
        subst e1
        have stat1 : ∀ {H' : Hp}, (∀ b ∈ fp1, H' b = none) → ∀ b ∈ fp1, FpOk (X.blk s3 H3 scope ce fp) ([] ++ pinsAt fp s7.heap) H' b := fun hn b hb => ⟨hn b hb, (f11 b hb).2⟩
        have loop1 : codeAny (model X.prog X.w) X.A (.compLoop cmp 1 (.ref it1) (.ref D) ce) (fun r s' => match r with
              | .ok _ => ∃ m, m < n ∧ ∃ i H', Inv (X.blk s3 H3 scope ce fp) [] (wipe σ (own.map (·.2))) H' s' ∧ tn i s'.heap ∧ (∀ b ∈ fp, H' b = none) ∧ W i m H'
              | .error _ => False) s11 := by
          refine hin (fun k s' => ∃ j H', Inv (X.blk s3 H3 scope ce fp) ([] ++ pinsAt fp s7.heap) (wipe σ8 vs1) H' s' ∧ tn1 j s'.heap ∧ (∀ b ∈ fp1, H' b = none) ∧ W1 j k H') ?_ m1 ⟨0, H11, I11.weak (wipe_length _ _) (fun j v e => (wipe_some e).1), st11, fun b hb => (f11 b hb).1, w1⟩
          rintro k s12 ⟨j, H12, I12, st12, n12, w12⟩
          unfold Turn2
          rcases turn1 j k H12 w12 with ⟨stop1, nx1⟩ | ⟨go1, Nx1, hNx1, step1⟩
          · refine thnF (T1.done (X.blk s3 H3 scope ce fp) rfl rfl rfl hc j _ s12 (wipe σ8 vs1) H12 (fun _ _ => False) I12 (stat1 n12) st12 stop1) fun r s13 ⟨hr, I13⟩ => ?_
            subst hr
            exact fin I13 (hl8.trans (wipe_length σ8 vs1).symm) hk9 nx1
          · refine thnF (T1.item (X.blk s3 H3 scope ce fp) rfl rfl rfl hc j _ s12 (wipe σ8 vs1) H12 (fun _ _ => False) I12 (stat1 n12) st12 go1) fun r s13 ⟨u1, hr, h13⟩ => ?_
            subst hr
            refine thnF h13 fun _ s14 ⟨x1, H14, I14, r14, y14, st14, n14⟩ => ?_
            have I14' := I14.pinned (stat1 n14) (T1.obj _ _ st14)
            refine thnF (pg1.run _ s14 (wipe σ8 vs1) H14 x1 u1 _ I14' r14 (step1 x1 H14 y14)) fun _ s15 ⟨σ15, H15, I15, hw15, q15⟩ => thnF (pt1.run _ s15 σ15 H15 _ I15 q15) fun b1 s16 ⟨H16, I16, q16⟩ => ?_
            have fin1 : ∀ (s' : Shared) (H' : Hp), Inv (X.blk s3 H3 scope ce fp) (([] ++ pinsAt fp s7.heap) ++ pinsAt fp1 s14.heap) σ15 H' s' → Nx1 H' →
                ∃ m, m < k ∧ ∃ j H', Inv (X.blk s3 H3 scope ce fp) ([] ++ pinsAt fp s7.heap) (wipe σ8 vs1) H' s' ∧ tn1 j s'.heap ∧ (∀ b ∈ fp1, H' b = none) ∧ W1 j m H' := fun s' H' I' nx => by
              obtain ⟨m', hm, w'⟩ := hNx1 H' nx
              have pin' : ∀ b ∈ fp1, ∀ o, s14.heap.get? b = some o → s'.heap.get? b = some o ∧ H' b = none := fun b hb o e => let z := I'.pin (b, o) (List.mem_append_right _ (List.mem_append_right _ (mem_pinsAt hb e))); ⟨z.1, z.2.1⟩
              exact ⟨m', hm, j + 1, H', I'.unpinned.weak (by rw [← hw15, wipe_length]) (fun j v e => by rw [← hw15] at e; exact (wipe_some e).1), T1.keep _ _ _ st14 fun b hb o e => (pin' b hb o e).1, fun b hb => let ⟨o, e, _⟩ := T1.obj _ _ st14 b hb; (pin' b hb o e).2, w'⟩
            cases b1 with
            | false => simp only [Bool.false_eq_true, if_false] at q16 ⊢; exact fin1 _ _ I16 q16
            | true =>
              simp only [if_true] at q16 ⊢
              exact pst D _ σ15 H16 s16 Nx1 _ _ I16 q16 fin1
        exact hst1 loop1 (T1.self X.A 0 _ _ _ st11 loop1)
  exact hst0 loop (T.self X.A 0 _ _ _ st4 loop)
/-- an item put to a set of texts -/
def putS (w : World) (te : TE) : Addr → L2.St → Hp → (Hp → Prop) → Prop := fun D σ H Nx => te σ H fun y H1 => ∃ (x : Str) (ks : List Str), y = .str x ∧ H1 D = some (SetSO w D ks) ∧ ks.length + 1 < 4000 ∧ ∀ ks', ks'.Perm (if x ∈ ks then ks else x :: ks) → Nx (upd H1 D (SetSO w D ks'))
def putD (tk tv : TE) : Addr → L2.St → Hp → (Hp → Prop) → Prop := fun D σ H Nx => tk σ H fun y H1 => tv σ H1 fun z H2 => ∃ kvs k, y = kV k ∧ H2 D = some (.dK kvs) ∧ kvs.length < sizeLine ∧ Nx (upd H2 D (.dK (putK kvs k z)))
end
end Tx

set_option Elab.async false
set_option linter.all false
set_option maxRecDepth 100000
set_option maxHeartbeats 4000000
namespace Tx
open PySem PySem.Spec PyProof.Rows L2 TL PpSet
section
variable {P : Program} {w : World} {a : Addr} {ks : List Str}
theorem call_set_add {A : Around} {E : PySem.Value → Shared → Prop} {s : Shared} {x : Str} {tk : Tok} {Q : Value → Shared → Prop} (R : SetS w s.heap a ks) (room : ks.length + 1 < scanBound)
    (hQ : ∀ h' tk', Heap.SameBut a s.heap h' → SetS w h' a (if x ∈ ks then ks else x :: ks) → Q .none { s with heap := h', toks := tk' }) : wpAny (model P w) A (call (.builtin "set.add") [.ref a, .str x tk]) Q E s := by
  have hT : s.TypeIs (.ref a) "set" := by
    obtain ⟨o, es, ep, t, ho, hex, _⟩ := id R
    exact ⟨o, ho, hex.1⟩
  refine wpAny_call_entry F.slot_set_add hT F.entry_set_add ?_ (F.args_set_add_2 _ _)
  unfold Builtin.«set.add» Builtin.Frozenset.oneOther
  simp only [List.isEmpty_nil, bind_assoc]
  unfold Builtin.Frozenset.addrOf setAdd
  refine wpAny_bind (wpAny_pure ?_)
  try dsimp only
  refine wpAny_bind (wpAny_pure ?_)
  try dsimp only
  refine wpAny_bind (wpAny_holding (wpAny_bind ((PySem.strKind P w).pyHash (strKind_is P w x tk) ?_)))
  first
  | exact setS_add (s := { s with toks := s.toks + 1 }) R room fun h' b sb r => wpAny_pure ⟨_, rfl, hQ h' _ sb r⟩
  | exact setS_add R room fun h' b sb r => wpAny_pure ⟨_, rfl, hQ h' _ sb r⟩
end
section
variable {X : Cx}
/-- {elt for .. in .. for .. in ..}, texts -/
theorem pe_sc2 {elt tg iter tg1 iter1 : Expr} {ifs ifs1 : List Expr} {scope : Scope} {own : List (Str × Nat)} {vs1 : List Nat} {pos : Pos} {wi wi1 : TI} {g g1 : TG} {tt tt1 : TT} {te : TE} (w : World) (hw : X.w = w) (hc : X.calm = true) (hN : X.N.Nodup) (hi : PI X tg iter wi) (ok : BlkOk X.N X.env.scope scope own) (hv : ∀ i ∈ vs1, i ∈ own.map (·.2))
    (hg : ∀ (s : Shared) (H : Hp) (C : Addr) (cl : List (Str × Addr)) (fp : List Addr), PG (X.blk s H scope (compEnvC scope cl C X.env) fp) tg g) (ht : ∀ (s : Shared) (H : Hp) (C : Addr) (cl : List (Str × Addr)) (fp : List Addr), PTs (X.blk s H scope (compEnvC scope cl C X.env) fp) ifs tt)
    (hi1 : ∀ (s : Shared) (H : Hp) (C : Addr) (cl : List (Str × Addr)) (fp : List Addr), PI (X.blk s H scope (compEnvC scope cl C X.env) fp) tg1 iter1 wi1) (hg1 : ∀ (s : Shared) (H : Hp) (C : Addr) (cl : List (Str × Addr)) (fp : List Addr), PG (X.blk s H scope (compEnvC scope cl C X.env) fp) tg1 g1)
    (ht1 : ∀ (s : Shared) (H : Hp) (C : Addr) (cl : List (Str × Addr)) (fp : List Addr), PTs (X.blk s H scope (compEnvC scope cl C X.env) fp) ifs1 tt1) (he : ∀ (s : Shared) (H : Hp) (C : Addr) (cl : List (Str × Addr)) (fp : List Addr), PE (X.blk s H scope (compEnvC scope cl C X.env) fp) elt te)
    (hs : ∀ x, foldedSetIterable iter X.env x = pure x := by intro _; rfl) (hs1 : ∀ env x, foldedSetIterable iter1 env x = pure x := by intro _ _; rfl) :
    PE X (.SetComp elt [⟨tg, iter, ifs, 0⟩, ⟨tg1, iter1, ifs1, 0⟩] scope pos) (tC2 (fun D => SetSO w D []) wi g tt wi1 g1 tt1 (putS w te) (own.map (·.2)) vs1) := by
  subst hw
  refine ⟨fun pins s σ H Q I h => ?_⟩
  rw [eval_SetComp]
  have hfree : ∀ y ∈ scope.names, y.2 = .free → ∃ c, X.env.cells.lookup y.1 = some c := fun y hy e => (ok.free y hy e).elim (fun k => I.ok.has _ (.inl k)) fun k => I.ok.has _ (.inr k)
  refine wpAny_comprehension_free (use := none) rfl hs (closure_ok hfree) ok.kind (fun y hy e => by rw [ok.uniq y hy, e]) (thn (hi.run pins s σ H _ I h) fun xv s1 hx => thn hx fun itv s2 h2 => ?_)
  obtain ⟨it, fp, tn, J, H2, e, I2, T, st2, f2, q⟩ := h2
  subst e
  refine newSet_ok (newEnv_comp ?_)
  generalize hD : s2.heap.objs.size = D
  have hDn : H2 D = none := I2.hok.fresh (Nat.le_of_eq hD)
  obtain ⟨W, ⟨m0, w0⟩, turn⟩ := q D hDn
  have I3 : Inv X pins σ (upd H2 D (SetSO X.w D [])) { s2 with heap := s2.heap.push (freshSet X.w) } := by
    refine I2.laid (t' := s2.toks) (fun b o e => Heap.get?_push_of_some _ e) (Nat.le_of_eq hD) ?_
    exact setSO_new (fresh_ok (by rw [← hD]; exact Heap.get?_push_size _ rfl))
  refine core2 (cmp := .SetComp elt [⟨tg, iter, ifs, 0⟩, ⟨tg1, iter1, ifs1, 0⟩] scope pos) (iter := iter) (store := fun env D er R sh => wpAny (model X.prog X.w) X.A (eval elt env) (fun x s₄ => wpAny (model X.prog X.w) X.A (call (.builtin "set.add") [.ref D, x]) (fun _ s₅ => R s₅)
      (notedBy (model X.prog X.w) X.A env er) s₄) (notedBy (model X.prog X.w) X.A env er) sh) hc hN ok hv
    (fun s H C cl fp => ⟨hg s H C cl fp, ht s H C cl fp, hi1 s H C cl fp, hg1 s H C cl fp, ht1 s H C cl fp, fun D pins σ Hh sh Nx er R I' p fin => ?_⟩)
    (fun I t n h => set2_out (hs1 _) I t n h) (fun I t n h => set2_in I t n h) (fun a b => set2_start1 a b) (fun a b => codeAny_compStart_set a b) T st2 f2 I3 hD (fun b o e => Heap.get?_push_of_some _ e) (Heap.size_push ..) (fun b hb => upd_ne hb) w0 turn
    (fun C s' m H' I' q hn f => ⟨m, hn, fun h'' sb => ?_⟩)
  · refine thnF ((he s H C cl fp).run _ sh σ Hh _ I' p) fun z s17 ⟨yv, H17, I17, r17, x, ks, ey, hD17, hz17, nx⟩ => ?_
    subst ey
    obtain ⟨tk, rfl⟩ := r17
    have R17 := setSO_get I17 hD17
    have he : ∀ {h'}, SetS X.w h' D (if x ∈ ks then ks else x :: ks) → ∃ u, h'.get? D = some u := fun new => let ⟨o, _, _, _, ho, _⟩ := new; ⟨o, ho⟩
    exact call_set_add R17 (by unfold scanBound; omega) fun h' tk' sb new => fin _ _ (I17.write (e := D) (t' := tk') (by rw [hD17]; trivial) (.inl rfl) (fun b u hb hu => (sb.2 b hb).trans hu) (he new) (setSO_new new)) (nx _ (List.Perm.refl _))
  · obtain ⟨f0, f1, f2, f3, f4, f5⟩ := f
    exact ⟨.ref D, H', I'.turned (t' := s'.toks) (fun b o hb e => (sb.2 b hb).trans e) f0 f1 f3 f4 f5, rfl, q⟩
/-- {k: v for .. in .. for .. in ..} -/
theorem pe_dc2 {kx vx tg iter tg1 iter1 : Expr} {ifs ifs1 : List Expr} {scope : Scope} {own : List (Str × Nat)} {vs1 : List Nat} {pos : Pos} {wi wi1 : TI} {g g1 : TG} {tt tt1 : TT} {tk tv : TE} (hc : X.calm = true) (hN : X.N.Nodup) (hi : PI X tg iter wi) (ok : BlkOk X.N X.env.scope scope own) (hv : ∀ i ∈ vs1, i ∈ own.map (·.2))
    (hg : ∀ (s : Shared) (H : Hp) (C : Addr) (cl : List (Str × Addr)) (fp : List Addr), PG (X.blk s H scope (compEnvC scope cl C X.env) fp) tg g) (ht : ∀ (s : Shared) (H : Hp) (C : Addr) (cl : List (Str × Addr)) (fp : List Addr), PTs (X.blk s H scope (compEnvC scope cl C X.env) fp) ifs tt)
    (hi1 : ∀ (s : Shared) (H : Hp) (C : Addr) (cl : List (Str × Addr)) (fp : List Addr), PI (X.blk s H scope (compEnvC scope cl C X.env) fp) tg1 iter1 wi1) (hg1 : ∀ (s : Shared) (H : Hp) (C : Addr) (cl : List (Str × Addr)) (fp : List Addr), PG (X.blk s H scope (compEnvC scope cl C X.env) fp) tg1 g1)
    (ht1 : ∀ (s : Shared) (H : Hp) (C : Addr) (cl : List (Str × Addr)) (fp : List Addr), PTs (X.blk s H scope (compEnvC scope cl C X.env) fp) ifs1 tt1) (hk : ∀ (s : Shared) (H : Hp) (C : Addr) (cl : List (Str × Addr)) (fp : List Addr), PE (X.blk s H scope (compEnvC scope cl C X.env) fp) kx tk)
    (he : ∀ (s : Shared) (H : Hp) (C : Addr) (cl : List (Str × Addr)) (fp : List Addr), PE (X.blk s H scope (compEnvC scope cl C X.env) fp) vx tv)
    (hs : ∀ x, foldedSetIterable iter X.env x = pure x := by intro _; rfl) (hs1 : ∀ env x, foldedSetIterable iter1 env x = pure x := by intro _ _; rfl) :
    PE X (.DictComp kx vx [⟨tg, iter, ifs, 0⟩, ⟨tg1, iter1, ifs1, 0⟩] scope pos) (tC2 (fun _ => .dK []) wi g tt wi1 g1 tt1 (putD tk tv) (own.map (·.2)) vs1) := by
  refine ⟨fun pins s σ H Q I h => ?_⟩
  rw [arm_eval_DictComp]
  have hfree : ∀ y ∈ scope.names, y.2 = .free → ∃ c, X.env.cells.lookup y.1 = some c := fun y hy e => (ok.free y hy e).elim (fun k => I.ok.has _ (.inl k)) fun k => I.ok.has _ (.inr k)
  refine wpAny_comprehension_free (use := none) rfl hs (closure_ok hfree) ok.kind (fun y hy e => by rw [ok.uniq y hy, e]) (thn (hi.run pins s σ H _ I h) fun xv s1 hx => thn hx fun itv s2 h2 => ?_)
  obtain ⟨it, fp, tn, J, H2, e, I2, T, st2, f2, q⟩ := h2
  subst e
  refine wpAny_newObj_type (newEnv_comp ?_)
  generalize hD : s2.heap.objs.size = D
  have hDn : H2 D = none := I2.hok.fresh (Nat.le_of_eq hD)
  obtain ⟨W, ⟨m0, w0⟩, turn⟩ := q D hDn
  have I3 : Inv X pins σ (upd H2 D (.dK [])) { s2 with heap := s2.heap.push { cls := .type "dict", data := .dict #[] } } := by
    refine I2.laid (t' := s2.toks) (fun b o e => Heap.get?_push_of_some _ e) (Nat.le_of_eq hD) ?_
    rw [← hD]; exact dk_empty s2.heap I2.big
  refine core2 (cmp := .DictComp kx vx [⟨tg, iter, ifs, 0⟩, ⟨tg1, iter1, ifs1, 0⟩] scope pos) (iter := iter) (store := fun env D er R sh => wpAny (model X.prog X.w) X.A (eval kx env) (fun kv s₄ => wpAny (model X.prog X.w) X.A (eval vx env) (fun vv s₅ => wpAny (model X.prog X.w) X.A (dictSet D kv vv) (fun _ s₆ => R s₆)
      (notedBy (model X.prog X.w) X.A env er) s₅) (notedBy (model X.prog X.w) X.A env er) s₄) (notedBy (model X.prog X.w) X.A env er) sh) hc hN ok hv
    (fun s H C cl fp => ⟨hg s H C cl fp, ht s H C cl fp, hi1 s H C cl fp, hg1 s H C cl fp, ht1 s H C cl fp, fun D pins σ Hh sh Nx er R I' p fin => ?_⟩)
    (fun I t n h => dict2_out (hs1 _) I t n h) (fun I t n h => dict2_in I t n h) (fun a b => dict2_start1 a b) (fun a b => codeAny_compStart_dict a b) T st2 f2 I3 hD (fun b o e => Heap.get?_push_of_some _ e) (Heap.size_push ..) (fun b hb => upd_ne hb) w0 turn
    (fun C s' m H' I' q hn f => ⟨m, hn, fun h'' sb => ?_⟩)
  · refine thnF ((hk s H C cl fp).run _ sh σ Hh _ I' p) fun z s10 ⟨yk, H10, I10, r10, q10⟩ => thnF ((he s H C cl fp).run _ s10 σ H10 _ I10 q10) fun z2 s11 ⟨yv, H11, I11, r11, kvs, k, ek, hD11, hz11, nx⟩ => ?_
    subst ek
    exact d_dictSet (X := X.blk s H scope (compEnvC scope cl C X.env) fp) I11 hD11 hz11 r10 r11 fun s12 I12 => fin _ _ I12 nx
  · obtain ⟨f0, f1, f2, f3, f4, f5⟩ := f
    exact ⟨.ref D, H', I'.turned (t' := s'.toks) (fun b o hb e => (sb.2 b hb).trans e) f0 f1 f3 f4 f5, rfl, q⟩
end
end Tx

set_option Elab.async false
set_option linter.all false
set_option maxRecDepth 100000
set_option maxHeartbeats 4000000
namespace Tx
open PySem PySem.Spec PyProof.Rows L2 TL
section
variable {X : Cx}
/-- d.pop(k, e), a dict with texts and ints as keys -/
def rPopD : V → List V → Hp → VK → Prop := fun x xs H Q => ∃ (a : Addr) (kvs : List (Key × V)) (k : Key) (d : V), x = .ref a ∧ xs = [kV k, d] ∧ H a = some (.dK kvs) ∧
  (∀ v, valV kvs k = some v → Q v (upd H a (.dK (dropK kvs k)))) ∧ (valV kvs k = none → Q d H)
theorem mt_popD : MtR X "dict.pop" rPopD := by
  intro pins s σ H x xs v us Q I rx rxs h
  obtain ⟨a, kvs, k, d, rfl, rfl, ha, q1, q2⟩ := h
  cases rx
  obtain ⟨u1, u2, rfl, r1, r2⟩ := vals2 rxs
  obtain ⟨z, hd, vs, rel, dd⟩ := dk_of I.hok ha
  have hk : (mixKind X.prog X.w).is k u1 = true := kV_is r1
  have hp : (keyPart u1).isSome = true := by
    cases k with
    | inl i => obtain ⟨t, rfl⟩ := (show ∃ t, u1 = Value.int i t from r1); rfl
    | inr y => obtain ⟨t, rfl⟩ := (show ∃ t, u1 = Value.str y t from r1); rfl
  cases ev : valV kvs k with
  | none =>
    have r := rel.val k
    rw [ev] at r
    have hn : valueAt vs k = none := by
      cases e : valueAt vs k with
      | none => rfl
      | some _ => rw [e] at r; exact (show False from r).elim
    exact call_meetsIn PySem.F.slot_dict_pop dd.typeIs PySem.F.entry_dict_pop (PySem.F.args_dict_pop_3 _ _ _) (meets_dict_pop_default (mixKind X.prog X.w) a hk hd hp u2) ⟨vs, dd, hn, show EP X pins σ Q u2 _ from ⟨d, H, I.tok _, r2, q2 ev⟩⟩
  | some v0 =>
    have r := rel.val k
    rw [ev] at r
    obtain ⟨v1, e1, rv⟩ : ∃ v1, valueAt vs k = some v1 ∧ RelV v0 v1 := by
      cases e : valueAt vs k with
      | none => rw [e] at r; exact (show False from r).elim
      | some v1 => rw [e] at r; exact ⟨v1, rfl, r⟩
    refine call_meetsIn PySem.F.slot_dict_pop dd.typeIs PySem.F.entry_dict_pop (PySem.F.args_dict_pop_3 _ _ _) (meets_dict_pop_there (mixKind X.prog X.w) a hk [u2] (.inr ⟨u2, rfl⟩) hp)
      ⟨vs, v1, dd, by rw [← rel.length]; exact z, e1, fun h' dd' hs => ?_⟩
    have he : ∃ q, h'.get? a = some q := let ⟨q, _, _, hq, _⟩ := dd'; ⟨q, hq⟩
    exact show EP X pins σ Q v1 _ from ⟨v0, _, d_write (t' := s.toks + 1) I (by rw [ha]; exact True.intro) hs he (dk_new (Nat.le_trans (dropK_le kvs k) z) hd (rel.drop k) dd'), rv, q1 v0 ev⟩
/-- d.update(e), two dicts -/
def rUpd : V → List V → Hp → VK → Prop := fun x xs H Q => ∃ (a b : Addr) (kvs more : List (Key × V)), x = .ref a ∧ xs = [.ref b] ∧ a ≠ b ∧ H a = some (.dK kvs) ∧ H b = some (.dK more) ∧ kvs.length + more.length ≤ sizeLine ∧ Q .non (upd H a (.dK (mergeK kvs more)))
theorem mt_update : MtR X "dict.update" rUpd := by
  intro pins s σ H x xs v us Q I rx rxs h
  obtain ⟨a, b, kvs, more, rfl, rfl, ne, ha, hb, hz, q⟩ := h
  cases rx
  rw [Vals.ref1 rxs]
  obtain ⟨z, hd, vs, rel, dd⟩ := dk_of I.hok ha
  obtain ⟨z2, hd2, vs2, rel2, dd2⟩ := dk_of I.hok hb
  refine call_meetsIn PySem.F.slot_dict_update dd.typeIs PySem.F.entry_dict_update (PySem.F.args_dict_update_2 _ _) (meets_dict_update (mixKind X.prog X.w) a b ne hd2) ⟨vs, vs2, dd, dd2, by rw [← rel.length, ← rel2.length]; exact hz, fun h' dd' _ hs => ?_⟩
  have he : ∃ q, h'.get? a = some q := let ⟨q, _, _, hq, _⟩ := dd'; ⟨q, hq⟩
  exact show EP X pins σ Q .none _ from ⟨.non, _, d_write (t' := s.toks) I (by rw [ha]; exact True.intro) hs he (dk_new (Nat.le_trans (length_mergeK more kvs) hz) hd (rel2.merge rel) dd'), rfl, q⟩
/-- min(d), a dict with texts as keys -/
def rMinD : List V → Hp → VK → Prop := fun vs H Q => ∃ (a : Addr) (kvs : List (Key × V)) (zs : List Str), vs = [V.ref a] ∧ H a = some (.dK kvs) ∧ kvs.map (·.1) = zs.map Sum.inr ∧ 0 < zs.length ∧ ∀ m, m ∈ zs → (∀ y ∈ zs, tl m ≤ tl y) → Q (.str m) H
theorem cr_minD (hc : X.calm = true) : CallR X (.builtin "min") rMinD := by
  intro pins s σ H vs us Q I r h
  obtain ⟨a, kvs, zs, rfl, ha, hv, hne, q⟩ := h
  rw [Vals.ref1 r]
  obtain ⟨_, hsys, ws, rel, dof⟩ := dk_of I.hok ha
  obtain ⟨ep, dat⟩ := dof.dictAt
  obtain ⟨ob, es, ho, hex, hdat, hko, hpr, hnd⟩ := id dat
  have hlt : a < s.heap.objs.size := Heap.lt_size ho
  have hkeys : ws.map (·.1) = zs.map Sum.inr := (KV.keys rel).symm.trans hv
  have hlv : ws.length = zs.length := by
    have e1 := congrArg List.length hkeys
    rwa [List.length_map, List.length_map] at e1
  have hval : ∀ (i : Nat) (v : Value), (∃ k x, ws[i]? = some (k, x) ∧ (mixKind X.prog X.w).is k v = true) → ∃ t, v = Value.str (zs.getD i Str.empty) t := fun i v ⟨k, x, hk, hkey⟩ => by
    have e1 : (ws.map (·.1))[i]? = some k := by rw [List.getElem?_map, hk] <;> rfl
    rw [hkeys, List.getElem?_map] at e1
    obtain ⟨y, hy, e2⟩ := Option.map_eq_some_iff.mp e1
    subst e2
    rw [List.getD_eq_getElem?_getD, hy]
    cases v with
    | str z t =>
      refine ⟨t, ?_⟩
      have e3 : (Value.str z t).isStrOf y = true := hkey
      have e4 : z = y := by simpa [Value.isStrOf] using e3
      rw [e4]; rfl
    | _ => exact absurd hkey Bool.false_ne_true
  refine call_min_walk (wpAny_pyIter_dict (knd := mixKind X.prog X.w) hsys dat ?_)
  refine ⟨_, _, _, _, _, _, _, rfl, Walks.dictKeys (knd := mixKind X.prog X.w) (A := X.A.in1) (I.ok.hd hc) s.heap.objs.size a (Nat.ne_of_lt hlt) ws ep, ⟨⟨_, Heap.get?_push_size _ rfl, rfl, rfl⟩, dat.keep fun b u e => Heap.get?_push_of_some _ e⟩, fun b hb => ?_, by rw [hlv]; exact hne,
    (fun i j vi vj s' Q' E' hi hj hq => ?_ : CmpOf X.prog X.w X.A.in1 .Lt _ fun i j => decide (tl (zs.getD i Str.empty) < tl (zs.getD j Str.empty))), fun v h' tk hP hk => ?_⟩
  · show b < (s.heap.push _).objs.size
    rw [Heap.size_push]
    rcases List.mem_cons.mp hb with e | hb
    · rw [e]; exact Nat.lt_succ_self _
    · rw [List.mem_singleton.mp hb]; exact Nat.lt_succ_of_lt hlt
  · obtain ⟨t, rfl⟩ := hval i vi hi
    obtain ⟨u, rfl⟩ := hval j vj hj
    exact P.lt_str hq
  · obtain ⟨t, rfl⟩ := hval _ v hP
    rw [hlv]
    obtain ⟨b1, b2⟩ := best_at (xs := zs) (zs.length - 1) (by omega)
    refine ⟨.str _, H, I.kept (t' := tk) fun b u e => hk b u (fun hm => ?_) (Heap.get?_push_of_some _ e), ⟨t, rfl⟩, q _ ?_ fun y hy => ?_⟩
    · have e2 := Heap.lt_size e
      rw [List.mem_singleton.mp hm] at e2
      exact absurd e2 (Nat.lt_irrefl _)
    · rw [List.getD_eq_getElem?_getD, List.getElem?_eq_getElem (by omega)]
      exact List.getElem_mem _
    · obtain ⟨i, hi, e⟩ := List.mem_iff_getElem.mp hy
      have e2 : zs.getD i Str.empty = y := by rw [List.getD_eq_getElem?_getD, List.getElem?_eq_getElem hi, ← e] <;> rfl
      rw [← e2]
      exact b2 i (by omega)
end
end Tx

set_option Elab.async false
set_option linter.all false
set_option maxRecDepth 100000
set_option maxHeartbeats 1000000
namespace Tx
open PySem PySem.Spec PyProof.Rows L2 TL
/-! ### what is read of pieces: states, steps, closed walks -/
/-- the proper beginnings, of n letters at least -/
def headsL (n : Nat) (ps : List Str) : List Str := ps.flatMap fun p => (List.range (p.length - n)).map fun e => mkS ((tl p).take (n + e))
theorem mem_heads {n : Nat} {ps : List Str} {x : Str} : x ∈ headsL n ps ↔ ∃ p ∈ ps, ∃ e, n ≤ e ∧ e < p.length ∧ x = mkS ((tl p).take e) := by
  unfold headsL
  rw [List.mem_flatMap]
  constructor
  · rintro ⟨p, hp, h⟩
    obtain ⟨e, he, rfl⟩ := List.mem_map.mp h
    rw [List.mem_range] at he
    exact ⟨p, hp, n + e, by omega, by omega, rfl⟩
  · rintro ⟨p, hp, e, h1, h2, rfl⟩
    exact ⟨p, hp, List.mem_map.mpr ⟨e - n, List.mem_range.mpr (by omega), by rw [show n + (e - n) = e by omega]⟩⟩
/-- the last k letters -/
def endS (k : Nat) (z : Str) : Str := mkS ((tl z).drop (z.length - k))
theorem endS_len {k : Nat} {z : Str} (h : k ≤ z.length) : (endS k z).length = k := by
  unfold endS; rw [len_mkS, List.length_drop, ← len_tl]; omega
theorem endS_suf (k : Nat) (z : Str) : tl (endS k z) <:+ tl z := List.drop_suffix ..
def keptS (n : Nat) (hs : List Str) (t : Str) : Str := match (List.range (t.length + 1 - n)).find? (fun a => decide (mkS ((tl t).drop a) ∈ hs)) with
  | some a => mkS ((tl t).drop a)
  | none => endS (n - 1) t
def endsP (ps : List Str) (t : Str) : Prop := ∃ p ∈ ps, tl p <:+ tl t
theorem endsP_any (ps : List Str) (t : Str) : (ps.any fun p => (tl p).isSuffixOf (tl t)) = true ↔ endsP ps t := by
  rw [List.any_eq_true]
  exact ⟨fun ⟨p, hp, h⟩ => ⟨p, hp, List.isSuffixOf_iff_suffix.mp h⟩, fun ⟨p, hp, h⟩ => ⟨p, hp, List.isSuffixOf_iff_suffix.mpr h⟩⟩
instance decEnds (ps : List Str) (t : Str) : Decidable (endsP ps t) := decidable_of_iff _ (endsP_any ps t)
theorem suf_drop {a b : List Nat} (h : a <:+ b) : b.drop (b.length - a.length) = a := (List.suffix_iff_eq_drop.mp h).symm
theorem suf_same {a b c : List Nat} (h : a <:+ c) (k : b <:+ c) (e : a.length = b.length) : a = b := (List.suffix_of_suffix_length_le h k (Nat.le_of_eq e)).eq_of_length e
structure Kept (n : Nat) (hs : List Str) (t s : Str) : Prop where
  suf : tl s <:+ tl t
  low : n - 1 ≤ s.length
  kind : s ∈ hs ∨ s.length = n - 1
  big : ∀ x ∈ hs, n ≤ x.length → tl x <:+ tl t → x.length ≤ s.length
theorem kept_is {n : Nat} {hs : List Str} {t : Str} (hn : 1 ≤ n) (ht : n ≤ t.length) : Kept n hs t (keptS n hs t) := by
  unfold keptS
  split
  · rename_i a e
    obtain ⟨p, i, hi, ei, before⟩ := List.find?_eq_some_iff_getElem.mp e
    have hi' : i < t.length + 1 - n := by rwa [List.length_range] at hi
    have ea : i = a := by rw [← ei, List.getElem_range]
    subst ea
    have hl : (mkS ((tl t).drop i)).length = t.length - i := by rw [len_mkS, List.length_drop, ← len_tl]
    refine ⟨List.drop_suffix .., by omega, .inl (of_decide_eq_true p), fun x hx nx sx => ?_⟩
    rw [hl]
    refine Classical.byContradiction fun c => ?_
    have lx := sx.length_le
    rw [← len_tl, ← len_tl] at lx
    have b := before (t.length - x.length) (by omega)
    rw [List.getElem_range] at b
    have ex : (tl t).drop (t.length - x.length) = tl x := by rw [len_tl t, len_tl x]; exact suf_drop sx
    rw [ex, mkS_tl, decide_eq_true hx] at b
    exact absurd b (by decide)
  · rename_i e
    refine ⟨endS_suf .., by rw [endS_len (by omega)]; exact Nat.le_refl _, .inr (endS_len (by omega)), fun x hx nx sx => ?_⟩
    have lx := sx.length_le
    rw [← len_tl, ← len_tl] at lx
    have b := List.find?_eq_none.mp e (t.length - x.length) (List.mem_range.mpr (by omega))
    have ex : (tl t).drop (t.length - x.length) = tl x := by rw [len_tl t, len_tl x]; exact suf_drop sx
    rw [ex, mkS_tl] at b
    exact absurd (decide_eq_true hx) b
/-- the states that a state leads to, by the windows in their sequence -/
def textsM (n : Nat) (ws : List Str) (s : Str) : List Str := (begW ws (endS (n - 1) s)).map fun v => mkS (tl s ++ lasL v)
def adjM (n : Nat) (ws ps : List Str) (s : Str) : List Str := ((textsM n ws s).filter fun t => !decide (endsP ps t)).map (keptS n (headsL n ps))
theorem mem_adjM {n : Nat} {ws ps : List Str} {s y : Str} : y ∈ adjM n ws ps s ↔ ∃ v ∈ ws, iniS v = endS (n - 1) s ∧ ¬ endsP ps (mkS (tl s ++ lasL v)) ∧ y = keptS n (headsL n ps) (mkS (tl s ++ lasL v)) := by
  unfold adjM textsM
  rw [List.mem_map]
  constructor
  · rintro ⟨t, ht, rfl⟩
    obtain ⟨h1, h2⟩ := List.mem_filter.mp ht
    obtain ⟨v, hv, rfl⟩ := List.mem_map.mp h1
    obtain ⟨v1, v2⟩ := mem_begW.mp hv
    exact ⟨v, v1, v2, by simpa using h2, rfl⟩
  · rintro ⟨v, v1, v2, ne, rfl⟩
    exact ⟨_, List.mem_filter.mpr ⟨List.mem_map.mpr ⟨v, mem_begW.mpr ⟨v1, v2⟩, rfl⟩, by simpa using ne⟩, rfl⟩
/-- the window that is read by going from s to y -/
def winR (n : Nat) (s y : Str) : Str := endS n (mkS (tl s ++ lasL y))
structure Mach (n : Nat) (ws ps : List Str) : Prop where
  n2 : 2 ≤ n
  each : ∀ v ∈ ws, v.length = n
  pcs : ∀ p ∈ ps, n ≤ p.length
theorem las_suf {a b : Str} (h : tl a <:+ tl b) (ha : 1 ≤ a.length) : lasL a = lasL b := by
  have l := h.length_le
  rw [← len_tl, ← len_tl] at l
  have h1 : lasL a <:+ tl b := (List.drop_suffix _ _).trans h
  have h2 : lasL b <:+ tl b := List.drop_suffix _ _
  exact suf_same h1 h2 (by rw [las_len ha, las_len (by omega)])
theorem las_app (s v : Str) (hv : 1 ≤ v.length) : lasL (mkS (tl s ++ lasL v)) = lasL v := by
  have l1 := las_len hv
  refine suf_same (c := tl s ++ lasL v) (List.drop_suffix _ _) (List.suffix_append _ _) ?_
  rw [las_len (by rw [len_mkS, List.length_append]; omega), l1]
theorem Mach.step {n : Nat} {ws ps : List Str} (M : Mach n ws ps) {s y : Str} (hs : n - 1 ≤ s.length) (h : y ∈ adjM n ws ps s) :
    ∃ v ∈ ws, iniS v = endS (n - 1) s ∧ ¬ endsP ps (mkS (tl s ++ lasL v)) ∧ Kept n (headsL n ps) (mkS (tl s ++ lasL v)) y ∧ lasL y = lasL v ∧ winR n s y = v ∧ n - 1 ≤ y.length := by
  have n2 := M.n2
  obtain ⟨v, hv, e, ne, rfl⟩ := mem_adjM.mp h
  have vl := M.each v hv
  have l1 : (lasL v).length = 1 := las_len (by omega)
  have tl' : (mkS (tl s ++ lasL v)).length = s.length + 1 := by rw [len_mkS, List.length_append, ← len_tl, l1]
  have k := kept_is (hs := headsL n ps) (t := mkS (tl s ++ lasL v)) (show 1 ≤ n by omega) (by omega)
  have kl := k.low
  have el : lasL (keptS n (headsL n ps) (mkS (tl s ++ lasL v))) = lasL v := (las_suf k.suf (by omega)).trans (las_app s v (by omega))
  refine ⟨v, hv, e, ne, k, el, ?_, k.low⟩
  unfold winR
  rw [el]
  refine ext_tl ?_
  have h1 : tl (endS n (mkS (tl s ++ lasL v))) <:+ tl s ++ lasL v := endS_suf ..
  have h2 : tl v <:+ tl s ++ lasL v := by
    have e2 : tl (iniS v) = tl (endS (n - 1) s) := congrArg tl e
    rw [ini_las, e2]
    exact List.suffix_append_self_iff.mpr (endS_suf _ _)
  refine suf_same h1 h2 ?_
  rw [← len_tl, ← len_tl, endS_len (by omega), vl]
/-! ### a walk without end, with the letters of a ring text -/
def letters (t : Nat → Str) (i : Nat) : Nat := (lasL (t (i + 1))).headD 0
theorem las_oneL {z : Str} (h : 1 ≤ z.length) : lasL z = [(lasL z).headD 0] := by
  have := las_len h
  match e : lasL z with
  | [] => rw [e] at this; cases this
  | [c] => rfl
  | _ :: _ :: _ => rw [e] at this; cases this
structure Endless (n : Nat) (ws ps : List Str) (t : Nat → Str) : Prop where
  go : ∀ i, t (i + 1) ∈ adjM n ws ps (t i)
  len : n - 1 ≤ (t 0).length
theorem Endless.lens {n : Nat} {ws ps : List Str} {t : Nat → Str} (M : Mach n ws ps) (E : Endless n ws ps t) : ∀ i, n - 1 ≤ (t i).length
  | 0 => E.len
  | i + 1 => by
    obtain ⟨_, _, _, _, _, _, _, h⟩ := M.step (E.lens M i) (E.go i)
    exact h
theorem Endless.suf {n : Nat} {ws ps : List Str} {t : Nat → Str} (M : Mach n ws ps) (E : Endless n ws ps t) : ∀ i, tl (t i) <:+ tl (t 0) ++ (List.range i).map (letters t)
  | 0 => by rw [List.range_zero, List.map_nil, List.append_nil]; exact List.suffix_refl _
  | i + 1 => by
    have n2 := M.n2
    obtain ⟨v, hv, e, ne, k, el, w, hl⟩ := M.step (E.lens M i) (E.go i)
    have ih := E.suf M i
    have h1 : tl (t (i + 1)) <:+ tl (t i) ++ lasL (t (i + 1)) := by rw [el]; exact k.suf
    refine h1.trans ?_
    rw [las_oneL (show 1 ≤ (t (i + 1)).length by omega), List.range_succ, List.map_append, ← List.append_assoc]
    exact List.suffix_append_self_iff.mpr ih
/-- a closed walk of m steps tells a ring text -/
structure Closed (n m : Nat) (ws ps : List Str) (t : Nat → Str) : Prop extends Endless n ws ps t where
  m1 : 1 ≤ m
  per : ∀ i, t (i + m) = t i
def ringT (m : Nat) (t : Nat → Str) : List Nat := (List.range m).map (letters t)
theorem ringT_len (m : Nat) (t : Nat → Str) : (ringT m t).length = m := by unfold ringT; rw [List.length_map, List.length_range]
theorem Closed.pers {n m : Nat} {ws ps : List Str} {t : Nat → Str} (C : Closed n m ws ps t) (i : Nat) : ∀ q, t (i + q * m) = t i
  | 0 => by rw [Nat.zero_mul, Nat.add_zero]
  | q + 1 => by rw [Nat.succ_mul, ← Nat.add_assoc, C.per, C.pers i q]
theorem Closed.let {n m : Nat} {ws ps : List Str} {t : Nat → Str} (C : Closed n m ws ps t) (i : Nat) : letters t i = pr (ringT m t) i := by
  have m1 := C.m1
  have lt := Nat.mod_lt i (show 0 < m by omega)
  have e : letters t i = letters t (i % m) := by
    unfold letters
    have := C.pers (i % m + 1) (i / m)
    rw [show i % m + 1 + i / m * m = i + 1 by have := Nat.mod_add_div i m; rw [Nat.mul_comm] at this; omega] at this
    rw [this]
  unfold pr
  rw [ringT_len, e]
  unfold ringT
  rw [List.getD_eq_getElem?_getD, List.getElem?_map, List.getElem?_range lt]; rfl
theorem Closed.read {n m : Nat} {ws ps : List Str} {t : Nat → Str} (C : Closed n m ws ps t) (i : Nat) : (List.range i).map (letters t) = seg (ringT m t) 0 i := by
  unfold seg
  refine List.map_congr_left fun k _ => ?_
  rw [C.let, Nat.zero_add]
theorem seg_suf (l : List Nat) {i k : Nat} (h : k ≤ i) : seg l (i - k) k <:+ seg l 0 i := by
  refine List.suffix_iff_eq_drop.mpr ?_
  rw [seg_len, seg_len]
  refine List.ext_getElem? fun j => ?_
  rw [List.getElem?_drop, seg_get, seg_get]
  by_cases c : j < k
  · rw [if_pos c, if_pos (by omega), Nat.zero_add]
  · rw [if_neg c, if_neg (by omega)]
theorem Closed.at {n m B : Nat} {ws ps : List Str} {t : Nat → Str} (M : Mach n ws ps) (C : Closed n m ws ps t) (hB : ∀ i, (t i).length ≤ B) {i : Nat} (h : B ≤ i) : tl (t i) <:+ seg (ringT m t) 0 i := by
  have h1 := C.toEndless.suf M i
  rw [C.read] at h1
  have := hB i
  exact List.suffix_of_suffix_length_le h1 (List.suffix_append _ _) (by rw [seg_len, ← len_tl]; omega)
theorem Closed.next {n m B : Nat} {ws ps : List Str} {t : Nat → Str} (M : Mach n ws ps) (C : Closed n m ws ps t) (hB : ∀ i, (t i).length ≤ B) {i : Nat} (h : B ≤ i) : tl (t i) ++ lasL (t (i + 1)) <:+ seg (ringT m t) 0 (i + 1) := by
  have n2 := M.n2
  have := C.toEndless.lens M (i + 1)
  have e : seg (ringT m t) 0 (i + 1) = seg (ringT m t) 0 i ++ lasL (t (i + 1)) := by
    rw [las_oneL (show 1 ≤ (t (i + 1)).length by omega), ← C.read, ← C.read, List.range_succ, List.map_append]; rfl
  rw [e]
  exact List.suffix_append_self_iff.mpr (C.at M hB h)
theorem Closed.win {n m B : Nat} {ws ps : List Str} {t : Nat → Str} (M : Mach n ws ps) (C : Closed n m ws ps t) (hB : ∀ i, (t i).length ≤ B) {i : Nat} (h : B ≤ i) (hi : n ≤ i + 1) : winR n (t i) (t (i + 1)) = mkS (seg (ringT m t) (i + 1 - n) n) := by
  have n2 := M.n2
  have l1 := C.toEndless.lens M i
  have l2 := C.toEndless.lens M (i + 1)
  refine ext_tl ?_
  have h1 : tl (winR n (t i) (t (i + 1))) <:+ seg (ringT m t) 0 (i + 1) := (endS_suf _ _).trans (C.next M hB h)
  refine suf_same h1 (seg_suf _ hi) ?_
  rw [tl_mkS, seg_len, ← len_tl]
  unfold winR
  refine endS_len ?_
  rw [len_mkS, List.length_append, ← len_tl, las_len (by omega)]
  omega
/-- the windows of the ring text are those read along the walk -/
theorem Closed.turns {n m B : Nat} {ws ps : List Str} {t : Nat → Str} (M : Mach n ws ps) (C : Closed n m ws ps t) (hB : ∀ i, (t i).length ≤ B) (v : Str) : v ∈ turns n (ringT m t) ↔ ∃ i, i < m ∧ v = winR n (t i) (t (i + 1)) := by
  have m1 := C.m1
  have n2 := M.n2
  have rl := ringT_len m t
  rw [turns_mem (by rw [rl]; omega)]
  have far : B + n ≤ (B + n) * m := Nat.le_mul_of_pos_right _ (by omega)
  constructor
  · rintro ⟨a, rfl⟩
    have lt := Nat.mod_lt (a + n - 1) (show 0 < m by omega)
    refine ⟨(a + n - 1) % m, lt, ?_⟩
    have e := Nat.mod_add_div (a + n - 1) m
    have p1 := C.pers ((a + n - 1) % m) ((B + n) + (a + n - 1) / m)
    have p2 := C.pers ((a + n - 1) % m + 1) ((B + n) + (a + n - 1) / m)
    rw [Nat.add_mul, Nat.mul_comm ((a + n - 1) / m) m] at p1 p2
    have j1 : (a + n - 1) % m + ((B + n) * m + m * ((a + n - 1) / m)) = a + n - 1 + (B + n) * m := by omega
    have j2 : (a + n - 1) % m + 1 + ((B + n) * m + m * ((a + n - 1) / m)) = a + n - 1 + (B + n) * m + 1 := by omega
    rw [j1] at p1
    rw [j2] at p2
    rw [← p1, ← p2, C.win M hB (by omega) (by omega)]
    refine congrArg mkS (seg_ext fun k _ => pr_cong _ ?_)
    rw [rl, show a + n - 1 + (B + n) * m + 1 - n + k = a + k + (B + n) * m by omega, Nat.add_mul_mod_self_right]
  · rintro ⟨i, _, rfl⟩
    have p1 := C.pers i (B + n)
    have p2 := C.pers (i + 1) (B + n)
    rw [show i + 1 + (B + n) * m = i + (B + n) * m + 1 by omega] at p2
    rw [← p1, ← p2, C.win M hB (by omega) (by omega)]
    exact ⟨_, rfl⟩
/-- no piece stands in it -/
theorem Closed.lacks {n m B : Nat} {ws ps : List Str} {t : Nat → Str} (M : Mach n ws ps) (C : Closed n m ws ps t) (hB : ∀ i, (t i).length ≤ B) {p : Str} (hp : p ∈ ps) : ¬ Stands (ringT m t) (tl p) := by
  rintro ⟨a0, e0⟩
  have m1 := C.m1
  have n2 := M.n2
  have pl := M.pcs p hp
  have rl := ringT_len m t
  rw [← len_tl] at e0
  obtain ⟨a, e, ha⟩ : ∃ a, tl p = seg (ringT m t) a p.length ∧ B ≤ a := ⟨a0 + B * m, e0.trans (seg_ext fun k _ => pr_cong _ (by rw [rl, show a0 + B * m + k = a0 + k + B * m by omega, Nat.add_mul_mod_self_right])), by
    have := Nat.le_mul_of_pos_right B (show 0 < m by omega)
    omega⟩
  have pre : ∀ k, k ≤ p.length → (tl p).take k = seg (ringT m t) a k := fun k hk => by rw [e, seg_take, Nat.min_eq_left hk]
  -- a beginning of k letters is kept
  have key : ∀ j, n - 1 + j < p.length → (tl p).take (n - 1 + j) <:+ tl (t (a + (n - 1) + j)) := by
    intro j
    induction j with
    | zero =>
      intro _
      have h1 := C.at M hB (i := a + (n - 1)) (by omega)
      have h2 := seg_suf (ringT m t) (i := a + (n - 1)) (k := n - 1) (by omega)
      rw [Nat.add_zero, pre _ (by omega), Nat.add_zero]
      rw [show a + (n - 1) - (n - 1) = a by omega] at h2
      refine List.suffix_of_suffix_length_le h2 h1 ?_
      rw [seg_len, ← len_tl]
      exact C.toEndless.lens M _
    | succ j ih =>
      intro hj
      have ih := ih (by omega)
      obtain ⟨v, hv, ev, ne, k, el, w, hl⟩ := M.step (C.toEndless.lens M _) (C.go (a + (n - 1) + j))
      have h1 := C.next M hB (i := a + (n - 1) + j) (by omega)
      have h2 := seg_suf (ringT m t) (i := a + (n - 1) + j + 1) (k := n - 1 + (j + 1)) (by omega)
      rw [show a + (n - 1) + j + 1 - (n - 1 + (j + 1)) = a by omega, ← pre _ (by omega)] at h2
      have lt : ((tl p).take (n - 1 + (j + 1))).length = n - 1 + (j + 1) := by rw [List.length_take, ← len_tl]; omega
      have li := ih.length_le
      have lt' : ((tl p).take (n - 1 + j)).length = n - 1 + j := by rw [List.length_take, ← len_tl]; omega
      have onto : (tl p).take (n - 1 + (j + 1)) <:+ tl (t (a + (n - 1) + j)) ++ lasL (t (a + (n - 1) + j + 1)) := by
        refine List.suffix_of_suffix_length_le h2 h1 ?_
        rw [lt, List.length_append, las_len (by omega)]; omega
      have hd : mkS ((tl p).take (n - 1 + (j + 1))) ∈ headsL n ps := mem_heads.mpr ⟨p, hp, _, by omega, hj, rfl⟩
      rw [el] at onto
      have bg := k.big _ hd (by rw [len_mkS, lt]; omega) onto
      refine List.suffix_of_suffix_length_le onto k.suf ?_
      rw [lt]; rw [len_mkS, lt] at bg; rw [← len_tl]
      exact bg
  have kl := key (p.length - n) (by omega)
  obtain ⟨v, hv, ev, ne, k, el, w, hl⟩ := M.step (C.toEndless.lens M _) (C.go (a + (n - 1) + (p.length - n)))
  refine ne ⟨p, hp, ?_⟩
  show tl p <:+ tl (t (a + (n - 1) + (p.length - n))) ++ lasL v
  rw [← el]
  have h1 := C.next M hB (i := a + (n - 1) + (p.length - n)) (by omega)
  have h2 := seg_suf (ringT m t) (i := a + (n - 1) + (p.length - n) + 1) (k := p.length) (by omega)
  rw [show a + (n - 1) + (p.length - n) + 1 - p.length = a by omega, ← e] at h2
  refine List.suffix_of_suffix_length_le h2 h1 ?_
  have li := kl.length_le
  have lt' : ((tl p).take (n - 1 + (p.length - n))).length = n - 1 + (p.length - n) := by rw [List.length_take, ← len_tl]; omega
  rw [← len_tl, List.length_append, las_len (by omega)]
  omega
end Tx

set_option Elab.async false
set_option linter.all false
set_option maxRecDepth 100000
set_option maxHeartbeats 1000000
namespace Tx
open PySem PySem.Spec PyProof.Rows L2 TL
/-! ### states that lead to one another; rings from walks, walks from rings -/
def Kin (adj : Str → List Str) (s x : Str) : Prop := RT adj s x ∧ RT adj x s
theorem Kin.refl {adj : Str → List Str} (s : Str) : Kin adj s s := ⟨.here, .here⟩
theorem Kin.symm {adj : Str → List Str} {s x : Str} (h : Kin adj s x) : Kin adj x s := ⟨h.2, h.1⟩
theorem Kin.trans {adj : Str → List Str} {a b c : Str} (h : Kin adj a b) (k : Kin adj b c) : Kin adj a c := ⟨h.1.trans k.1, k.2.trans h.2⟩
/-- the lot of a state reads all windows -/
def Reads (n : Nat) (ws ps : List Str) (s : Str) : Prop := ∀ v ∈ ws, ∃ x y, Kin (adjM n ws ps) s x ∧ Kin (adjM n ws ps) s y ∧ y ∈ adjM n ws ps x ∧ winR n x y = v
theorem Reads.kin {n : Nat} {ws ps : List Str} {s s' : Str} (h : Reads n ws ps s) (k : Kin (adjM n ws ps) s s') : Reads n ws ps s' := fun v hv =>
  let ⟨x, y, a, b, c, d⟩ := h v hv; ⟨x, y, k.symm.trans a, k.symm.trans b, c, d⟩
theorem twice {ns : List Str} (f : Nat → Str) (h : ∀ i, f i ∈ ns) : ∃ i j, i < j ∧ f i = f j := by
  refine Classical.byContradiction fun no => ?_
  have nd : ((List.range (ns.length + 1)).map f).Nodup := by
    unfold List.Nodup
    rw [List.pairwise_map]
    exact List.pairwise_lt_range.imp fun {a b} lt e => no ⟨a, b, lt, e⟩
  have := pig _ ns nd fun x hx => by
    obtain ⟨i, _, rfl⟩ := List.mem_map.mp hx
    exact h i
  rw [List.length_map, List.length_range] at this
  omega
/-- the states while a ring text is read -/
def tR (n : Nat) (ps : List Str) (l : List Nat) : Nat → Str
  | 0 => mkS (seg l 0 (n - 1))
  | i + 1 => keptS n (headsL n ps) (mkS (tl (tR n ps l i) ++ [pr l (n - 1 + i)]))
theorem seg_snoc (l : List Nat) (a k : Nat) : seg l a (k + 1) = seg l a k ++ [pr l (a + k)] := by unfold seg; rw [List.range_succ, List.map_append]; rfl
theorem las_seg (l : List Nat) (a : Nat) {n : Nat} (h : 1 ≤ n) : lasL (mkS (seg l a n)) = [pr l (a + (n - 1))] := by
  obtain ⟨k, rfl⟩ : ∃ k, n = k + 1 := ⟨n - 1, by omega⟩
  unfold lasL
  rw [len_mkS, tl_mkS, seg_len, Nat.add_sub_cancel]
  rw [seg_snoc, List.drop_append_of_le_length (by rw [seg_len]; exact Nat.le_refl _), show List.drop k (seg l a k) = [] from List.drop_eq_nil_of_le (by rw [seg_len]; exact Nat.le_refl _)]; rfl
theorem ini_seg (l : List Nat) (a : Nat) {n : Nat} (h : 1 ≤ n) : iniS (mkS (seg l a n)) = mkS (seg l a (n - 1)) := by
  unfold iniS
  rw [len_mkS, tl_mkS, seg_len, seg_take, Nat.min_eq_left (by omega)]
structure RingIn (n : Nat) (ws ps : List Str) (l : List Nat) : Prop where
  pos : 0 < l.length
  inn : ∀ v ∈ turns n l, v ∈ ws
  no : ∀ p ∈ ps, ¬ Stands l (tl p)
theorem suf_stands {l x : List Nat} {i : Nat} (h : x <:+ seg l 0 i) : Stands l x := by
  have le := h.length_le
  rw [seg_len] at le
  refine ⟨i - x.length, ?_⟩
  exact suf_same h (seg_suf l le) (by rw [seg_len])
theorem RingIn.walk {n : Nat} {ws ps : List Str} {l : List Nat} (M : Mach n ws ps) (R : RingIn n ws ps l) : ∀ i, n - 1 ≤ (tR n ps l i).length ∧ tl (tR n ps l i) <:+ seg l 0 (n - 1 + i) ∧ tR n ps l (i + 1) ∈ adjM n ws ps (tR n ps l i) ∧ winR n (tR n ps l i) (tR n ps l (i + 1)) = mkS (seg l i n) := by
  have n2 := M.n2
  have go : ∀ i, n - 1 ≤ (tR n ps l i).length → tl (tR n ps l i) <:+ seg l 0 (n - 1 + i) → tR n ps l (i + 1) ∈ adjM n ws ps (tR n ps l i) ∧ winR n (tR n ps l i) (tR n ps l (i + 1)) = mkS (seg l i n) := fun i hl hs => by
    have hv : mkS (seg l i n) ∈ ws := R.inn _ ((turns_mem R.pos _).mpr ⟨i, rfl⟩)
    have el : lasL (mkS (seg l i n)) = [pr l (n - 1 + i)] := by rw [las_seg l i (by omega), Nat.add_comm]
    have ei : iniS (mkS (seg l i n)) = endS (n - 1) (tR n ps l i) := by
      rw [ini_seg l i (by omega)]
      refine ext_tl ?_
      have s1 := seg_suf l (i := n - 1 + i) (k := n - 1) (by omega)
      rw [show n - 1 + i - (n - 1) = i by omega] at s1
      refine suf_same s1 ((endS_suf _ _).trans hs) ?_
      rw [tl_mkS, seg_len, ← len_tl, endS_len hl]
    have up : tl (tR n ps l i) ++ [pr l (n - 1 + i)] <:+ seg l 0 (n - 1 + i + 1) := by
      rw [seg_snoc, Nat.zero_add]
      exact List.suffix_append_self_iff.mpr hs
    have mem : tR n ps l (i + 1) ∈ adjM n ws ps (tR n ps l i) := by
      refine mem_adjM.mpr ⟨_, hv, ei, ?_, ?_⟩
      · rintro ⟨p, hp, sp⟩
        rw [el] at sp
        exact R.no p hp (suf_stands (sp.trans up))
      · rw [el]; rfl
    refine ⟨mem, ?_⟩
    obtain ⟨v, hv', e, ne, k, ely, w, hly⟩ := M.step hl mem
    have el2 : lasL (tR n ps l (i + 1)) = [pr l (n - 1 + i)] := by
      have t1 : (mkS (tl (tR n ps l i) ++ [pr l (n - 1 + i)])).length = (tR n ps l i).length + 1 := by rw [len_mkS, List.length_append, ← len_tl]; rfl
      have k2 := kept_is (hs := headsL n ps) (t := mkS (tl (tR n ps l i) ++ [pr l (n - 1 + i)])) (show 1 ≤ n by omega) (by omega)
      have k3 := k2.low
      refine (las_suf k2.suf (by omega)).trans ?_
      rw [← el]
      exact las_app _ _ (by rw [len_mkS, seg_len]; omega)
    unfold winR
    rw [el2]
    refine ext_tl ?_
    have s2 := seg_suf l (i := n - 1 + i + 1) (k := n) (by omega)
    rw [show n - 1 + i + 1 - n = i by omega] at s2
    refine suf_same ((endS_suf _ _).trans up) s2 ?_
    rw [tl_mkS, seg_len, ← len_tl, endS_len]
    rw [len_mkS, List.length_append, ← len_tl, List.length_singleton]; omega
  intro i
  have base : n - 1 ≤ (tR n ps l i).length ∧ tl (tR n ps l i) <:+ seg l 0 (n - 1 + i) := by
    induction i with
    | zero =>
      refine ⟨?_, ?_⟩
      · show n - 1 ≤ (mkS (seg l 0 (n - 1))).length
        rw [len_mkS, seg_len]; exact Nat.le_refl _
      · exact List.suffix_refl _
    | succ i ih =>
      obtain ⟨v, hv', e, ne, k, ely, w, hly⟩ := M.step ih.1 (go i ih.1 ih.2).1
      refine ⟨hly, ?_⟩
      have t1 : (mkS (tl (tR n ps l i) ++ [pr l (n - 1 + i)])).length = (tR n ps l i).length + 1 := by rw [len_mkS, List.length_append, ← len_tl]; rfl
      have ih1 := ih.1
      have k2 := kept_is (hs := headsL n ps) (t := mkS (tl (tR n ps l i) ++ [pr l (n - 1 + i)])) (show 1 ≤ n by omega) (by omega)
      refine k2.suf.trans ?_
      rw [← Nat.add_assoc, seg_snoc, Nat.zero_add]
      exact List.suffix_append_self_iff.mpr ih.2
  exact ⟨base.1, base.2, go i base.1 base.2⟩
/-- a ring text without the pieces keeps to the lot of a state -/
theorem RingIn.reads {n : Nat} {ws ps ns : List Str} {l : List Nat} (M : Mach n ws ps) (R : RingIn n ws ps l) (all : ∀ v ∈ ws, v ∈ turns n l) (hp : ∀ x ∈ placesL ws, x ∈ ns) (cl : ∀ x ∈ ns, ∀ y ∈ adjM n ws ps x, y ∈ ns) : ∃ s ∈ ns, Reads n ws ps s := by
  have n2 := M.n2
  have inn : ∀ i, tR n ps l i ∈ ns := by
    intro i
    induction i with
    | zero =>
      refine hp _ ?_
      have hv : mkS (seg l 0 n) ∈ ws := R.inn _ ((turns_mem R.pos _).mpr ⟨0, rfl⟩)
      have := ini_place hv
      rwa [ini_seg l 0 (by omega)] at this
    | succ i ih => exact cl _ ih _ (R.walk M i).2.2.1
  obtain ⟨q1, q2, lt, e⟩ := twice (fun q => tR n ps l (q * l.length)) fun q => inn _
  have rt : ∀ i k, RT (adjM n ws ps) (tR n ps l i) (tR n ps l (i + k)) := by
    intro i k
    induction k with
    | zero => exact .here
    | succ k ih => exact .step ih (R.walk M (i + k)).2.2.1
  have qm : q1 * l.length + l.length ≤ q2 * l.length := by rw [← Nat.succ_mul]; exact Nat.mul_le_mul_right _ lt
  have e' : tR n ps l (q1 * l.length) = tR n ps l (q2 * l.length) := e
  have kin : ∀ i, q1 * l.length ≤ i → i ≤ q2 * l.length → Kin (adjM n ws ps) (tR n ps l (q1 * l.length)) (tR n ps l i) := fun i h1 h2 => by
    refine ⟨?_, ?_⟩
    · have := rt (q1 * l.length) (i - q1 * l.length)
      rwa [show q1 * l.length + (i - q1 * l.length) = i by omega] at this
    · have := rt i (q2 * l.length - i)
      rw [show i + (q2 * l.length - i) = q2 * l.length by omega, ← e'] at this
      exact this
  refine ⟨_, inn (q1 * l.length), fun v hv => ?_⟩
  obtain ⟨a, rfl⟩ := (turns_mem R.pos v).mp (all v hv)
  have am := Nat.mod_lt a R.pos
  refine ⟨_, _, kin (q1 * l.length + a % l.length) (by omega) (by omega), kin (q1 * l.length + a % l.length + 1) (by omega) (by omega), (R.walk M _).2.2.1, ?_⟩
  rw [(R.walk M _).2.2.2]
  refine congrArg mkS (seg_ext fun k _ => pr_cong l ?_)
  rw [show q1 * l.length + a % l.length + k = (a % l.length + k) + q1 * l.length by omega, Nat.add_mul_mod_self_right, Nat.mod_add_mod]
/-! ### walks as lists -/
def Wlk (adj : Str → List Str) (w : List Str) : Prop := ∀ j a b, w[j]? = some a → w[j + 1]? = some b → b ∈ adj a
theorem Wlk.one (adj : Str → List Str) (a : Str) : Wlk adj [a] := fun j x y _ h => by
  rw [List.getElem?_eq_none (by simp)] at h; cases h
theorem Wlk.snoc {adj : Str → List Str} {w : List Str} {a b : Str} (h : Wlk adj w) (e : w.getLast? = some a) (hb : b ∈ adj a) : Wlk adj (w ++ [b]) := fun j x y hx hy => by
  have ly := (List.getElem?_eq_some_iff.mp hy).1
  rw [List.length_append, List.length_singleton] at ly
  by_cases c : j + 1 < w.length
  · rw [List.getElem?_append_left (by omega)] at hx
    rw [List.getElem?_append_left c] at hy
    exact h j x y hx hy
  · have ej : j + 1 = w.length := by omega
    rw [List.getElem?_append_left (by omega)] at hx
    rw [List.getElem?_append_right (by omega), ej, Nat.sub_self] at hy
    have : y = b := (Option.some.inj hy).symm
    rw [List.getLast?_eq_getElem?, ← ej, Nat.add_sub_cancel, hx] at e
    rw [this, Option.some.inj e]
    exact hb
theorem Wlk.more {adj : Str → List Str} : ∀ {l w : List Str} {a : Str}, Wlk adj w → w.getLast? = some a → Wlk adj (a :: l) → Wlk adj (w ++ l)
  | [], w, a, h, _, _ => by rw [List.append_nil]; exact h
  | b :: l, w, a, h, e, k => by
    rw [List.append_cons]
    refine Wlk.more (a := b) (h.snoc e (k 0 a b rfl rfl)) (by simp) fun j x y hx hy => k (j + 1) x y hx hy
theorem Ch.wlk {adj : Str → List Str} {l : List Str} {s v : Str} (h : Ch adj l s v) : Wlk adj l ∧ l = s :: l.tail ∧ l.getLast? = some v := by
  induction h with
  | one s => exact ⟨Wlk.one adj _, rfl, rfl⟩
  | @more l s u v _ hv ih =>
    obtain ⟨h1, h2, h3⟩ := ih
    refine ⟨h1.snoc h3 hv, ?_, by simp⟩
    rw [h2]; rfl
/-- the windows read along a walk -/
def Rd2 (n : Nat) (w : List Str) (v : Str) : Prop := ∃ j a b, w[j]? = some a ∧ w[j + 1]? = some b ∧ winR n a b = v
theorem Rd2.app {n : Nat} {w : List Str} {v : Str} (h : Rd2 n w v) (l : List Str) : Rd2 n (w ++ l) v := by
  obtain ⟨j, a, b, h1, h2, e⟩ := h
  have l1 := (List.getElem?_eq_some_iff.mp h1).1
  have l2 := (List.getElem?_eq_some_iff.mp h2).1
  exact ⟨j, a, b, by rw [List.getElem?_append_left l1]; exact h1, by rw [List.getElem?_append_left l2]; exact h2, e⟩
theorem Rd2.snoc {n : Nat} {w : List Str} {a b : Str} (e : w.getLast? = some a) : Rd2 n (w ++ [b]) (winR n a b) := by
  have ne : w ≠ [] := fun h => by rw [h] at e; cases e
  have l := List.length_pos_iff.mpr ne
  refine ⟨w.length - 1, a, b, ?_, ?_, rfl⟩
  · rw [List.getElem?_append_left (by omega), ← List.getLast?_eq_getElem?]; exact e
  · rw [List.getElem?_append_right (by omega), show w.length - 1 + 1 - w.length = 0 by omega]; rfl
/-- what lot_without tells -/
structure GoodLot (n : Nat) (ws ps K : List Str) (adj : Str → List Str) : Prop where
  ne : K ≠ []
  nd : K.Nodup
  sub : ∀ x ∈ K, ∀ y ∈ adj x, y ∈ K ∧ y ∈ adjM n ws ps x
  len : ∀ x ∈ K, n - 1 ≤ x.length
  kin : ∀ x ∈ K, ∀ y ∈ K, RT adj x y
  all : ∀ v ∈ ws, ∃ x ∈ K, ∃ y ∈ adj x, winR n x y = v
theorem ring_of {n : Nat} {ws ps K w : List Str} {adj : Str → List Str} {a : Str} (M : Mach n ws ps) (G : GoodLot n ws ps K adj) (lo : ∀ v ∈ ws, Low v) (hw : Wlk adj w) (h0 : w = a :: w.tail) (hl : w.getLast? = some a) (h2 : 2 ≤ w.length) (hk : ∀ x ∈ w, x ∈ K) (rd : ∀ v ∈ ws, Rd2 n w v) :
    ((w.tail.map lasL).flatten).length = w.length - 1 ∧ (∀ c ∈ (w.tail.map lasL).flatten, 97 ≤ c ∧ c ≤ 122) ∧ (∀ v, v ∈ turns n ((w.tail.map lasL).flatten) ↔ v ∈ ws) ∧ ∀ p ∈ ps, ¬ Stands ((w.tail.map lasL).flatten) (tl p) := by
  have n2 := M.n2
  obtain ⟨m, em⟩ : ∃ m, w.length = m + 1 := ⟨w.length - 1, by omega⟩
  have m1 : 1 ≤ m := by omega
  obtain ⟨t, ht⟩ : ∃ t : Nat → Str, ∀ i, t i = w.getD (i % m) Str.empty := ⟨_, fun _ => rfl⟩
  have inn : ∀ j, j < w.length → ∃ x, w[j]? = some x ∧ x ∈ K := fun j hj => ⟨w[j], List.getElem?_eq_getElem hj, hk _ (List.getElem_mem hj)⟩
  have at0 : w[0]? = some a := by rw [h0]; rfl
  have atm : w[m]? = some a := by rw [List.getLast?_eq_getElem?, em, Nat.add_sub_cancel] at hl; exact hl
  have tj : ∀ i, w[i % m]? = some (t i) := fun i => by
    have lt := Nat.mod_lt i (show 0 < m by omega)
    obtain ⟨x, hx, _⟩ := inn (i % m) (by omega)
    rw [ht, List.getD_eq_getElem?_getD, hx]; rfl
  have tj1 : ∀ i, w[i % m + 1]? = some (t (i + 1)) := fun i => by
    have lt := Nat.mod_lt i (show 0 < m by omega)
    by_cases c : i % m + 1 < m
    · have := tj (i + 1)
      rwa [← Nat.mod_add_mod, Nat.mod_eq_of_lt c] at this
    · have e : i % m + 1 = m := by omega
      have e2 : (i + 1) % m = 0 := by rw [← Nat.mod_add_mod, e, Nat.mod_self]
      have := tj (i + 1)
      rw [e2, at0] at this
      rw [e, atm, this]
  have go : ∀ i, t (i + 1) ∈ adj (t i) := fun i => hw _ _ _ (tj i) (tj1 i)
  have tk : ∀ i, t i ∈ K := fun i => hk _ (List.mem_of_getElem? (tj i))
  have C : Closed n m ws ps t := ⟨⟨fun i => (G.sub _ (tk i) _ (go i)).2, G.len _ (tk 0)⟩, m1, fun i => by rw [ht, ht, Nat.add_mod_right]⟩
  obtain ⟨B, hB⟩ : ∃ B, ∀ i, (t i).length ≤ B := by
    refine ⟨(K.map (·.length)).sum, fun i => ?_⟩
    have : ∀ (L : List Str) x, x ∈ L → x.length ≤ (L.map (·.length)).sum := fun L => by
      induction L with
      | nil => intro x hx; cases hx
      | cons y L ih =>
        intro x hx
        rw [List.map_cons, List.sum_cons]
        rcases List.mem_cons.mp hx with rfl | hx
        · omega
        · have := ih x hx; omega
    exact this K _ (tk i)
  have one : ∀ i, 1 ≤ (t i).length := fun i => by have := G.len _ (tk i); omega
  have er : (w.tail.map lasL).flatten = ringT m t := by
    have : w.tail.map lasL = (List.range m).map fun i => [letters t i] := by
      refine List.ext_getElem? fun i => ?_
      rw [List.getElem?_map, List.getElem?_map, List.getElem?_tail]
      by_cases c : i < m
      · have := tj1 i
        rw [Nat.mod_eq_of_lt c] at this
        rw [this, List.getElem?_range c]
        exact congrArg some (las_oneL (one (i + 1)))
      · rw [List.getElem?_eq_none (by omega), List.getElem?_eq_none (by rw [List.length_range]; omega)]; rfl
    rw [this]
    unfold ringT
    induction (List.range m) with
    | nil => rfl
    | cons x L ih => rw [List.map_cons, List.flatten_cons, ih]; rfl
  rw [er]
  refine ⟨by rw [ringT_len, em]; rfl, fun c hc => ?_, fun v => ?_, fun p hp => C.lacks M hB hp⟩
  · unfold ringT at hc
    obtain ⟨i, _, rfl⟩ := List.mem_map.mp hc
    obtain ⟨v, hv, _, _, _, el, _, _⟩ := M.step (G.len _ (tk i)) (C.go i)
    have : letters t i ∈ lasL v := by
      rw [← el, las_oneL (one (i + 1))]; exact List.mem_singleton.mpr rfl
    exact lo v hv _ (List.mem_of_mem_drop this)
  · rw [C.turns M hB]
    constructor
    · rintro ⟨i, _, rfl⟩
      obtain ⟨v, hv, _, _, _, _, wr', _⟩ := M.step (G.len _ (tk i)) (C.go i)
      rw [wr']; exact hv
    · intro hv
      obtain ⟨j, x, y, hx, hy, e⟩ := rd v hv
      have lj := (List.getElem?_eq_some_iff.mp hy).1
      have jm : j < m := by omega
      refine ⟨j, jm, ?_⟩
      have q1 := tj j
      have q2 := tj1 j
      rw [Nat.mod_eq_of_lt jm, hx] at q1
      rw [Nat.mod_eq_of_lt jm, hy] at q2
      rw [← Option.some.inj q1, ← Option.some.inj q2, e]
/-! ### without pieces -/
theorem adjM_nil {n : Nat} {ws : List Str} (n2 : 2 ≤ n) (each : ∀ v ∈ ws, v.length = n) {s : Str} (hs : s.length = n - 1) : adjM n ws [] s = adjP ws s := by
  unfold adjM textsM adjP
  have e1 : endS (n - 1) s = s := by
    refine ext_tl ?_
    show (tl s).drop _ = tl s
    rw [hs, Nat.sub_self]; rfl
  rw [e1]
  have e2 : ((begW ws s).map fun v => mkS (tl s ++ lasL v)) = begW ws s := by
    refine (List.map_congr_left (g := id) fun v hv => ?_).trans (List.map_id _)
    obtain ⟨h1, h2⟩ := mem_begW.mp hv
    refine ext_tl ?_
    show tl s ++ lasL v = tl v
    rw [← h2, ← ini_las]
  rw [e2, List.filter_eq_self.mpr (fun t _ => by
    have : ¬ endsP [] t := fun ⟨p, hp, _⟩ => by cases hp
    simp [this])]
  refine List.map_congr_left fun v hv => ?_
  obtain ⟨h1, h2⟩ := mem_begW.mp hv
  have vl := each v h1
  have k := kept_is (hs := headsL n []) (t := v) (show 1 ≤ n by omega) (by omega)
  refine ext_tl ?_
  have t1 : tl (taiS v) <:+ tl v := List.drop_suffix _ _
  refine suf_same k.suf t1 ?_
  have kl : (keptS n (headsL n []) v).length = n - 1 := by
    rcases k.kind with h | h
    · exact absurd h (by simp [headsL])
    · exact h
  rw [← len_tl, kl, ← len_tl]
  show n - 1 = (mkS ((tl v).drop 1)).length
  rw [len_mkS, List.length_drop, ← len_tl, vl]
end Tx

set_option Elab.async false
set_option linter.all false
set_option maxRecDepth 100000
set_option maxHeartbeats 1000000
namespace Tx
open PySem PySem.Spec PyProof.Rows L2 TL
/-! ### ring texts of walks, of two rings put together, windows of one letter more -/
theorem mem_turns {l : List Nat} {n : Nat} (hl : 0 < l.length) {v : Str} : v ∈ turns n l ↔ ∃ a, a < l.length ∧ v = mkS (seg l a n) := by
  rw [turns_mem hl]
  constructor
  · rintro ⟨a, rfl⟩
    exact ⟨a % l.length, Nat.mod_lt a hl, by rw [seg_mod]⟩
  · rintro ⟨a, _, rfl⟩
    exact ⟨a, rfl⟩
theorem wk_ring {k : Nat} {ws l : List Str} {one : Str} (hk : 1 ≤ k) (hw : ∀ x ∈ ws, x.length = k) (ho : one ∈ ws) (h : Wk ws one l one) (n2 : 2 ≤ l.length) : ((txt l).take (l.length - 1)).length = l.length - 1 ∧ ∀ v, v ∈ turns k ((txt l).take (l.length - 1)) ↔ v ∈ l := by
  obtain ⟨e1, e2, e3⟩ := h.ends hk ho hw
  obtain ⟨m, em⟩ : ∃ m, l.length = m + 1 := ⟨l.length - 1, by omega⟩
  rw [em, Nat.add_sub_cancel] at e1 e2 ⊢
  have tk : (txt l).take k = tl one := by
    rw [h.head, txt_cons, List.take_append_of_le_length (by rw [← len_tl, hw one ho]; exact Nat.le_refl _), List.take_of_length_le (by rw [← len_tl, hw one ho]; exact Nat.le_refl _)]
  generalize hT : txt l = T at *
  have rl : (T.take m).length = m := by rw [List.length_take]; omega
  have rep' : ∀ i, i < k → T[i + m]? = T[i]? := fun i hi => by
    have a1 : (T.drop m)[i]? = (tl one)[i]? := by rw [e2]
    have a2 : (T.take k)[i]? = (tl one)[i]? := by rw [tk]
    rw [List.getElem?_drop, Nat.add_comm] at a1
    rw [List.getElem?_take, if_pos hi] at a2
    rw [a1, a2]
  have prd : ∀ i, i < k + m → T[i]? = some (pr (T.take m) i) := by
    intro i
    induction i using Nat.strongRecOn with
    | ind i ih =>
      intro hi
      by_cases c : i < m
      · rw [← pr_get (l := T.take m) (by rw [rl]; exact c), List.getElem?_take, if_pos c]
      · have := rep' (i - m) (by omega)
        rw [Nat.sub_add_cancel (by omega)] at this
        rw [this, ih (i - m) (by omega) (by omega)]
        refine congrArg some (pr_cong _ ?_)
        rw [rl]
        conv => rhs; rw [show i = i - m + m by omega, Nat.add_mod_right]
  have segs : ∀ a, a ≤ m → seg (T.take m) a k = cut T a k := fun a ha => by
    refine List.ext_getElem? fun j => ?_
    unfold cut
    rw [seg_get, List.getElem?_take, List.getElem?_drop]
    by_cases c : j < k
    · rw [if_pos c, if_pos c, prd _ (by omega)]
    · rw [if_neg c, if_neg c]
  have at' : ∀ a, a ≤ m → l[a]? = some (mkS (cut T a k)) := fun a ha => by
    rw [← e3]
    unfold steps
    rw [List.getElem?_map, List.getElem?_range (by omega)]; rfl
  refine ⟨rl, fun v => ?_⟩
  rw [mem_turns (by rw [rl]; omega), rl]
  constructor
  · rintro ⟨a, ha, rfl⟩
    rw [segs a (by omega)]
    exact List.mem_of_getElem? (at' a (by omega))
  · intro hv
    obtain ⟨a, ha⟩ := List.getElem?_of_mem hv
    have la := (List.getElem?_eq_some_iff.mp ha).1
    by_cases c : a < m
    · have := at' a (by omega)
      rw [ha] at this
      exact ⟨a, c, by rw [segs a (by omega)]; exact Option.some.inj this⟩
    · have ea : a = m := by omega
      subst ea
      have h0 := at' 0 (by omega)
      have hm : v = one := by
        have := h.last
        rw [List.getLast?_eq_getElem?, em, Nat.add_sub_cancel, ha] at this
        exact Option.some.inj this
      have h1 : l[0]? = some one := by rw [h.head]; rfl
      rw [h0] at h1
      exact ⟨0, by omega, by rw [segs 0 (by omega), hm]; exact (Option.some.inj h1).symm⟩
theorem joined_one {f : Str} {ws : List Str} (jn : Joined ws) (hf : f ∈ ws) (all : ∀ v ∈ ws, v = f) : iniS f = taiS f := by
  have p := jn (taiS f) (tai_place hf) (iniS f) (ini_place hf)
  generalize ea : taiS f = a at p
  generalize eb : iniS f = b at p
  cases p with
  | here => rfl
  | step _ hv => rw [all _ hv, ea]
/-- two ring texts that begin alike, one put behind the other -/
theorem two_rings {A B : List Nat} {n : Nat} (hA : 0 < A.length) (hB : n - 1 ≤ B.length) (hB0 : 0 < B.length) (hn : 1 ≤ n) (same : ∀ t, t < n - 1 → pr B t = pr A t) (v : Str) : v ∈ turns n (A ++ B) ↔ v ∈ turns n A ∨ v ∈ turns n B := by
  have ll : (A ++ B).length = A.length + B.length := List.length_append
  have pA : ∀ i, i < A.length → pr (A ++ B) i = pr A i := fun i hi => by
    have a1 := pr_get (l := A ++ B) (i := i) (by omega)
    have a2 := pr_get (l := A) hi
    rw [List.getElem?_append_left hi, a2] at a1
    exact (Option.some.inj a1).symm
  have pB : ∀ j, j < B.length → pr (A ++ B) (A.length + j) = pr B j := fun j hj => by
    have a1 := pr_get (l := A ++ B) (i := A.length + j) (by omega)
    have a2 := pr_get (l := B) hj
    rw [List.getElem?_append_right (by omega), Nat.add_sub_cancel_left, a2] at a1
    exact (Option.some.inj a1).symm
  have mA : ∀ i, A.length ≤ i → pr A i = pr A (i - A.length) := fun i hi => pr_cong A (by conv => lhs; rw [show i = i - A.length + A.length by omega, Nat.add_mod_right])
  have mB : ∀ i, B.length ≤ i → pr B i = pr B (i - B.length) := fun i hi => pr_cong B (by conv => lhs; rw [show i = i - B.length + B.length by omega, Nat.add_mod_right])
  have onA : ∀ i t, i < A.length → t < n → pr (A ++ B) (i + t) = pr A (i + t) := fun i t hi ht => by
    by_cases c : i + t < A.length
    · exact pA _ c
    · rw [mA _ (by omega), show i + t = A.length + (i + t - A.length) by omega, pB _ (by omega), same _ (by omega), Nat.add_sub_cancel_left]
  have onB : ∀ j t, j < B.length → t < n → pr (A ++ B) (A.length + (j + t)) = pr B (j + t) := fun j t hj ht => by
    by_cases c : j + t < B.length
    · exact pB _ c
    · rw [mB _ (by omega), same _ (by omega)]
      have : pr (A ++ B) (A.length + (j + t)) = pr (A ++ B) (0 + (j + t - B.length)) := pr_cong _ (by
        rw [ll, show A.length + (j + t) = 0 + (j + t - B.length) + (A.length + B.length) by omega, Nat.add_mod_right])
      rw [this, onA 0 _ hA (by omega), Nat.zero_add]
  have sA : ∀ i, i < A.length → seg (A ++ B) i n = seg A i n := fun i hi => seg_ext fun t ht => onA i t hi ht
  have sB : ∀ j, j < B.length → seg (A ++ B) (A.length + j) n = seg B j n := fun j hj => seg_ext fun t ht => by rw [Nat.add_assoc]; exact onB j t hj ht
  rw [mem_turns (by omega), mem_turns hA, mem_turns hB0]
  constructor
  · rintro ⟨a, ha, rfl⟩
    by_cases c : a < A.length
    · exact .inl ⟨a, c, by rw [sA a c]⟩
    · refine .inr ⟨a - A.length, by omega, ?_⟩
      rw [← sB (a - A.length) (by omega), show A.length + (a - A.length) = a by omega]
  · rintro (⟨a, ha, rfl⟩ | ⟨j, hj, rfl⟩)
    · exact ⟨a, by omega, by rw [sA a ha]⟩
    · exact ⟨A.length + j, by omega, by rw [sB j hj]⟩
/-- windows of one letter more begin and end with the windows -/
theorem more_ini {l : List Nat} {n : Nat} (hl : 0 < l.length) {v : Str} : v ∈ (turns (n + 1) l).map iniS ↔ v ∈ turns n l := by
  rw [List.mem_map, turns_mem hl]
  constructor
  · rintro ⟨u, hu, rfl⟩
    obtain ⟨a, rfl⟩ := (turns_mem hl u).mp hu
    exact ⟨a, by rw [ini_seg l a (by omega)]; rfl⟩
  · rintro ⟨a, rfl⟩
    exact ⟨_, (turns_mem hl _).mpr ⟨a, rfl⟩, by rw [ini_seg l a (by omega)]; rfl⟩
theorem tai_seg (l : List Nat) (a n : Nat) : taiS (mkS (seg l a (n + 1))) = mkS (seg l (a + 1) n) := by
  unfold taiS
  rw [tl_mkS]
  refine congrArg mkS (List.ext_getElem? fun j => ?_)
  rw [List.getElem?_drop, seg_get, seg_get]
  by_cases c : j < n
  · rw [if_pos c, if_pos (by omega), show a + (1 + j) = a + 1 + j by omega]
  · rw [if_neg c, if_neg (by omega)]
theorem more_tai {l : List Nat} {n : Nat} (hl : 0 < l.length) {v : Str} : v ∈ (turns (n + 1) l).map taiS ↔ v ∈ turns n l := by
  rw [List.mem_map, turns_mem hl]
  constructor
  · rintro ⟨u, hu, rfl⟩
    obtain ⟨a, rfl⟩ := (turns_mem hl u).mp hu
    exact ⟨a + 1, by rw [tai_seg]⟩
  · rintro ⟨a, rfl⟩
    refine ⟨_, (turns_mem hl _).mpr ⟨a + (l.length - 1), rfl⟩, ?_⟩
    rw [tai_seg]
    refine congrArg mkS (seg_ext fun k _ => pr_cong l ?_)
    rw [show a + (l.length - 1) + 1 + k = a + k + l.length by omega, Nat.add_mod_right]
end Tx

set_option Elab.async false
set_option linter.all false
set_option maxRecDepth 100000
set_option maxHeartbeats 1000000
namespace Tx
open PySem PySem.Spec PyProof.Rows L2 TL
section
variable {J : It} {n : Nat} {G : Hp → Prop} {Y : Nat → Hp → V → Hp → Prop}
/-- any comprehension's loop, by what is so at each turn -/
theorem it_all (w : Walk J n G Y) {F : (Hp → Prop) → V → Hp → Prop} {H0 : Hp} {Qd : Hp → Prop} (Pv : Nat → Hp → Prop) (h0 : Pv 0 H0) (hG : ∀ i H, i ≤ n → Pv i H → G H)
    (hs : ∀ i x H H', i < n → Pv i H → Y i H x H' → F (Pv (i + 1)) x H') (hd : ∀ H, Pv n H → Qd H) :
    ∃ W : Nat → Nat → Hp → Prop, (∃ m, W 0 m H0) ∧ ∀ i m H, W i m H →
      (J.stop i H ∧ Qd H) ∨ (J.go i H ∧ ∃ Nx : Hp → Prop, (∀ H', Nx H' → ∃ m', m' < m ∧ W (i + 1) m' H') ∧ ∀ x H', J.yld i H x H' → F Nx x H') := by
  refine ⟨fun i m H => m = n - i ∧ i ≤ n ∧ Pv i H, ⟨n, by simp, Nat.zero_le _, h0⟩, ?_⟩
  rintro i m H ⟨rfl, hi, p⟩
  have q := hG i H hi p
  by_cases hlt : i < n
  · exact .inr ⟨w.goes i H hlt q, Pv (i + 1), fun H' p' => ⟨n - (i + 1), by omega, rfl, hlt, p'⟩, fun x H' y => hs i x H H' hlt p (w.yields i H x H' hlt q y)⟩
  · have e : i = n := by omega
    subst e
    exact .inl ⟨w.stops H q, hd H p⟩
end
section
variable {X : Cx}
/-- d.pop(k, e), whether k is a key or not -/
def rPopF : V → List V → Hp → VK → Prop := fun x xs H Q => ∃ (a : Addr) (kvs : List (Key × V)) (k : Key) (d : V), x = .ref a ∧ xs = [kV k, d] ∧ H a = some (.dK kvs) ∧
  ∀ v H' kvs', (∀ b o, H b = some o → b ≠ a → H' b = some o) → H' a = some (.dK kvs') → kvs'.map (·.1) = (kvs.map (·.1)).filter (fun y => decide (y ≠ k)) → Q v H'
theorem drop_keys (kvs : List (Key × V)) (k : Key) : (dropK kvs k).map (·.1) = (kvs.map (·.1)).filter fun y => decide (y ≠ k) := by
  unfold dropK
  rw [List.filter_map]
  rfl
theorem mt_popF : MtR X "dict.pop" rPopF := by
  intro pins s σ H x xs v us Q I rx rxs h
  obtain ⟨a, kvs, k, d, ex, exs, ha, q⟩ := h
  refine mt_popD pins s σ H x xs v us Q I rx rxs ⟨a, kvs, k, d, ex, exs, ha, fun v hv => q v _ _ (fun b o e ne => by rw [upd_ne ne]; exact e) upd_same (drop_keys kvs k), fun hn => q d H kvs (fun _ _ e _ => e) ha ?_⟩
  refine (List.filter_eq_self.mpr fun y hy => ?_).symm
  refine decide_eq_true fun e => ?_
  obtain ⟨p, hp, rfl⟩ := List.mem_map.mp hy
  have : (valV kvs k).isSome = true := by
    unfold valV
    rw [Option.isSome_map, List.find?_isSome]
    exact ⟨p, hp, decide_eq_true e⟩
  rw [hn] at this; cases this
end
end Tx

set_option Elab.async false
set_option linter.all false
set_option maxRecDepth 100000
set_option maxHeartbeats 1000000
namespace Tx
open PySem PySem.Spec PyProof.Rows L2 TL RZ
/-! ### lists of tuples of texts -/
def LTs (H : Hp) : List Addr → List (List Str) → Prop
  | [], [] => True
  | a :: as, xs :: xss => H a = some (.tup (xs.map V.str)) ∧ LTs H as xss
  | _, _ => False
theorem LTs.len {H : Hp} : ∀ {as : List Addr} {xss : List (List Str)}, LTs H as xss → as.length = xss.length
  | [], [], _ => rfl
  | _ :: _, _ :: _, ⟨_, r⟩ => by rw [List.length_cons, List.length_cons, LTs.len r]
theorem LTs.at' {H : Hp} : ∀ {as : List Addr} {xss : List (List Str)}, LTs H as xss → ∀ {i : Nat} {a : Addr}, as[i]? = some a → ∃ xs, xss[i]? = some xs ∧ H a = some (.tup (xs.map V.str))
  | [], [], _, i, a, h => by simp at h
  | b :: as, xs :: xss, ⟨e, r⟩, 0, a, h => by
    have : b = a := Option.some.inj h
    subst this
    exact ⟨xs, rfl, e⟩
  | b :: as, xs :: xss, ⟨e, r⟩, i + 1, a, h => LTs.at' r (i := i) h
theorem LTs.same {H H' : Hp} (s : Same H H') : ∀ {as : List Addr} {xss : List (List Str)}, LTs H as xss → LTs H' as xss
  | [], [], _ => trivial
  | _ :: _, _ :: _, ⟨e, r⟩ => ⟨s _ _ e, LTs.same s r⟩
theorem LTs.snoc {H : Hp} {a : Addr} {xs : List Str} (e : H a = some (.tup (xs.map V.str))) : ∀ {as : List Addr} {xss : List (List Str)}, LTs H as xss → LTs H (as ++ [a]) (xss ++ [xs])
  | [], [], _ => ⟨e, trivial⟩
  | _ :: _, _ :: _, ⟨e', r⟩ => ⟨e', LTs.snoc e r⟩
theorem LTs.app {H : Hp} {bs : List Addr} {yss : List (List Str)} (k : LTs H bs yss) : ∀ {as : List Addr} {xss : List (List Str)}, LTs H as xss → LTs H (as ++ bs) (xss ++ yss)
  | [], [], _ => k
  | _ :: _, _ :: _, ⟨e', r⟩ => ⟨e', LTs.app k r⟩
theorem LTs.keep {H : Hp} {t : Addr} {o : HO} : ∀ {as : List Addr} {xss : List (List Str)}, LTs H as xss → (∀ a ∈ as, a ≠ t) → LTs (upd H t o) as xss
  | [], [], _, _ => trivial
  | a :: _, _ :: _, ⟨e, r⟩, n => ⟨by rw [upd_ne (n a (List.mem_cons_self ..))]; exact e, LTs.keep r fun b hb => n b (List.mem_cons_of_mem _ hb)⟩
def ltdata (xss : List (List Str)) : List PyData := xss.map fun xs => .tuple (xs.map PyData.str)
theorem dp_lts {K : PySem.W.Frag} {H : Hp} : ∀ {as : List Addr} {xss : List (List Str)}, LTs H as xss → DpAll K H (as.map V.ref) (ltdata xss)
  | [], [], _ => .nil
  | _ :: _, _ :: _, ⟨e, r⟩ => .cons (.tup (.inl (.inl e)) (dp_all _)) (dp_lts r)
theorem lay_lts : ∀ xss : List (List Str), (∀ xs ∈ xss, ∀ z ∈ xs, Low z) → PyData.canLayAll0 (ltdata xss) = true ∧ PyData.depthAll (ltdata xss) ≤ 1
  | [], _ => ⟨rfl, Nat.zero_le _⟩
  | xs :: xss, h => by
    have ih := lay_lts xss fun ys hy => h ys (List.mem_cons_of_mem _ hy)
    have l := lay_strs xs (h xs (List.mem_cons_self ..))
    unfold ltdata at ih ⊢
    simp only [List.map_cons, PyData.canLayAll0, PyData.depthAll, PyData.canLay0, PyData.depth, ih.1, l.1, l.2]
    refine ⟨rfl, ?_⟩
    have := ih.2
    omega
theorem shaped_lts {xss : List (List Str)} (h : ∀ xs ∈ xss, ∀ z ∈ xs, Low z) : SeqAt.shaped (.list (ltdata xss)) = true := by
  unfold SeqAt.shaped
  obtain ⟨a, b⟩ := lay_lts xss h
  simp only [PyData.canLay0, PyData.depth, a, Bool.true_and]
  exact decide_eq_true (by omega)
theorem eqv_lts0 (xss : List (List Str)) : PyData.eqv (.list (ltdata xss)) (.list []) = decide (xss = []) := by
  cases xss with
  | nil => rfl
  | cons x xs => simp [ltdata, PyData.eqv, PyData.eqvAll]
theorem dp_tup {K : PySem.W.Frag} {H : Hp} {a : Addr} {xs : List Str} (e : H a = some (.tup (xs.map V.str))) : Dp K H (.ref a) (.tuple (xs.map PyData.str)) := .tup (.inl (.inl e)) (dp_all xs)
theorem shaped_tup {xs : List Str} (h : ∀ z ∈ xs, Low z) : SeqAt.shaped (.tuple (xs.map PyData.str)) = true := by
  unfold SeqAt.shaped
  obtain ⟨a, b⟩ := lay_strs xs h
  simp only [PyData.canLay0, PyData.depth, a, Bool.true_and]
  exact decide_eq_true (by omega)
theorem eqv_tups (xs ys : List Str) : PyData.eqv (.tuple (xs.map PyData.str)) (.tuple (ys.map PyData.str)) = decide (xs = ys) := by
  simp only [PyData.eqv]
  exact eqvAll_strs xs ys
theorem any_lts (xs : List Str) : ∀ xss : List (List Str), ((ltdata xss).any fun z => PyData.eqv z (.tuple (xs.map PyData.str))) = decide (xs ∈ xss)
  | [] => rfl
  | ys :: xss => by
    show (PyData.eqv (.tuple (ys.map PyData.str)) (.tuple (xs.map PyData.str)) || (ltdata xss).any fun z => PyData.eqv z (.tuple (xs.map PyData.str))) = _
    rw [any_lts xs xss, eqv_tups]
    by_cases h : ys = xs
    · subst h; simp
    · rw [decide_eq_false h, Bool.false_or]
      exact decide_eq_decide.mpr ⟨fun g => List.mem_cons_of_mem _ g, fun g => (List.mem_cons.mp g).resolve_left fun e => h e.symm⟩
section
open L2
variable {X : Cx} (K : PySem.W.Frag)
theorem catTK (h : X.K = K) : OpR X (binaryOp .Add) (rCatT K) := by subst h; exact op_catT
theorem catAK (h : X.K = K) : OpR X (binaryOp .Add) (rCatA K) := by subst h; exact op_catA
theorem inDK (h : X.K = K) (hu : X.A.units + 65 < cLine) : OpR X (compareOp .In) (rInD K) := by subst h; exact op_inD hu
end
theorem units65 {k : Nat} {A : Around} (r : Room k A) : A.units + 65 < cLine := by have := r.un; omega
/-! ### all lots of some places -/
def lotsL (l : List Str) : List (List Str) := l.foldl (fun f s => f ++ f.map fun x => x ++ [s]) [[]]
theorem lotsL_snoc (l : List Str) (s : Str) : lotsL (l ++ [s]) = lotsL l ++ (lotsL l).map fun x => x ++ [s] := by
  unfold lotsL
  rw [List.foldl_append]; rfl
theorem lotsL_len : ∀ r : List Str, (lotsL r.reverse).length = 2 ^ r.length
  | [] => rfl
  | s :: r => by
    rw [List.reverse_cons, lotsL_snoc, List.length_append, List.length_map, lotsL_len r, List.length_cons, Nat.pow_succ]; omega
theorem mem_lotsR (x : List Str) : ∀ r : List Str, ∀ x, x ∈ lotsL r.reverse ↔ x.Sublist r.reverse
  | [], x => by
    show x ∈ [[]] ↔ x.Sublist []
    rw [List.mem_singleton]
    exact ⟨fun h => h ▸ List.Sublist.refl _, fun h => List.sublist_nil.mp h⟩
  | s :: r, x => by
    rw [List.reverse_cons, lotsL_snoc, List.mem_append, mem_lotsR x r, List.mem_map, List.sublist_append_iff]
    constructor
    · rintro (h | ⟨y, hy, rfl⟩)
      · exact ⟨x, [], (List.append_nil x).symm, h, List.nil_sublist _⟩
      · exact ⟨y, [s], rfl, (mem_lotsR y r y).mp hy, List.Sublist.refl _⟩
    · rintro ⟨y, z, rfl, hy, hz⟩
      rcases List.sublist_cons_iff.mp hz with h | ⟨t, rfl, h⟩
      · rw [List.sublist_nil.mp h, List.append_nil]; exact .inl hy
      · rw [List.sublist_nil.mp h]; exact .inr ⟨y, (mem_lotsR y r y).mpr hy, rfl⟩
theorem mem_lots {l x : List Str} : x ∈ lotsL l ↔ x.Sublist l := by
  have := mem_lotsR x l.reverse x
  rwa [List.reverse_reverse] at this
theorem lots_len (l : List Str) : (lotsL l).length = 2 ^ l.length := by
  have := lotsL_len l.reverse
  rwa [List.reverse_reverse, List.length_reverse] at this
def lotsP (l : List Str) : List (List Str) := (lotsL l).filter fun x => decide (0 < x.length ∧ x.length < l.length)
theorem mem_lotsP {l x : List Str} : x ∈ lotsP l ↔ x.Sublist l ∧ 0 < x.length ∧ x.length < l.length := by
  unfold lotsP
  rw [List.mem_filter, mem_lots, decide_eq_true_iff]
def Clo (ws lot : List Str) : Prop := ∀ v ∈ ws, iniS v ∈ lot → taiS v ∈ lot
instance (ws lot : List Str) : Decidable (Clo ws lot) := inferInstanceAs (Decidable (∀ v ∈ ws, iniS v ∈ lot → taiS v ∈ lot))
def closP (ws every : List Str) : List (List Str) := (lotsP every).filter fun x => decide (Clo ws x)
theorem mem_closP {ws l x : List Str} : x ∈ closP ws l ↔ x.Sublist l ∧ 0 < x.length ∧ x.length < l.length ∧ Clo ws x := by
  unfold closP
  rw [List.mem_filter, mem_lotsP, decide_eq_true_iff, and_assoc, and_assoc]
theorem asc_sub : ∀ {xs ys : List Str}, (xs.Pairwise fun a b => tl a < tl b) → (ys.Pairwise fun a b => tl a < tl b) → (∀ x ∈ xs, x ∈ ys) → xs.Sublist ys
  | [], _, _, _, _ => List.nil_sublist _
  | x :: xs, [], _, _, h => absurd (h x (List.mem_cons_self ..)) List.not_mem_nil
  | x :: xs, y :: ys, hx, hy, h => by
    obtain ⟨hx1, hx2⟩ := List.pairwise_cons.mp hx
    obtain ⟨hy1, hy2⟩ := List.pairwise_cons.mp hy
    rcases List.mem_cons.mp (h x (List.mem_cons_self ..)) with e | m
    · subst e
      refine List.Sublist.cons₂ _ (asc_sub hx2 hy2 fun z hz => ?_)
      rcases List.mem_cons.mp (h z (List.mem_cons_of_mem _ hz)) with e | m
      · exact absurd (hx1 z hz) (by rw [e]; exact List.lt_irrefl _)
      · exact m
    · refine List.Sublist.cons _ (asc_sub hx hy2 fun z hz => ?_)
      rcases List.mem_cons.mp (h z hz) with e | m'
      · subst e
        rcases List.mem_cons.mp hz with e | hz
        · subst e; exact m
        · exact absurd (List.lt_trans (hx1 _ hz) (hy1 x m)) (List.lt_irrefl _)
      · exact m'
/-- the lot that is told is one of them -/
theorem IsLot.clos {ws lot every : List Str} (h : IsLot ws lot) (up : Up every (placesL ws)) (asc : every.Pairwise fun a b => tl a < tl b) : lot ∈ closP ws every := by
  have sub := asc_sub h.asc asc fun x hx => (up.2.2.1 x).mpr (h.pl x hx)
  refine mem_closP.mpr ⟨sub, List.length_pos_iff.mpr h.ne, ?_, h.cl⟩
  obtain ⟨x, hx, n⟩ := h.out
  refine Nat.lt_of_le_of_ne sub.length_le fun e => n ?_
  rw [sub.eq_of_length e]
  exact (up.2.2.1 x).mpr hx
theorem clos_nil {ws every : List Str} (up : Up every (placesL ws)) : closP ws every = [] ↔ Joined ws := by
  constructor
  · intro h s hs t ht
    refine Classical.byContradiction fun no => ?_
    have : every.filter (fun x => @decide (Path ws s x) (Classical.propDecidable _)) ∈ closP ws every := by
      refine mem_closP.mpr ⟨List.filter_sublist, ?_, ?_, fun v hv hi => ?_⟩
      · refine List.length_pos_of_mem (a := s) (List.mem_filter.mpr ⟨(up.2.2.1 s).mpr hs, ?_⟩)
        exact @decide_eq_true _ (Classical.propDecidable _) (.here _)
      · refine Nat.lt_of_le_of_ne (List.length_filter_le _ _) fun e => no ?_
        have := List.length_filter_eq_length_iff.mp e t ((up.2.2.1 t).mpr ht)
        exact @of_decide_eq_true _ (Classical.propDecidable _) this
      · obtain ⟨_, h2⟩ := List.mem_filter.mp hi
        have h2 := @of_decide_eq_true _ (Classical.propDecidable _) h2
        exact List.mem_filter.mpr ⟨(up.2.2.1 _).mpr (tai_place hv), @decide_eq_true _ (Classical.propDecidable _) (.step h2 hv)⟩
    rw [h] at this
    cases this
  · intro j
    refine List.eq_nil_iff_forall_not_mem.mpr fun x hx => ?_
    obtain ⟨sub, h1, h2, cl⟩ := mem_closP.mp hx
    obtain ⟨s, hs⟩ := List.exists_mem_of_length_pos h1
    have all : ∀ t ∈ every, t ∈ x := fun t ht => (j s ((up.2.2.1 s).mp (sub.subset hs)) t ((up.2.2.1 t).mp ht)).closed hs cl
    have := pig every x up.2.1 all
    omega
end Tx

set_option Elab.async false
set_option linter.all false
set_option maxRecDepth 100000
set_option maxHeartbeats 4000000
namespace Tx
open PySem PySem.Spec PyProof.Rows L2
section
variable {P : Program} {w : World} {A : Around} {E : Value → Shared → Prop}
set_option maxHeartbeats 6400000 in
theorem call_setU {s : Shared} {l : Addr} {items : Array Value} {xs : List Str} {Q : Value → Shared → Prop} (hh : A.handled = none) (hl : s.heap.IsTuple l items) (hi : StrsAre items.toList xs) (hb : xs.length + 1 < scanBound)
    (h : ∀ h' tk ks, FirstOf xs xs.length ks → SetS w h' s.heap.objs.size ks → (∀ b o, s.heap.get? b = some o → h'.get? b = some o) → Q (.ref s.heap.objs.size) { s with heap := h', toks := tk }) :
    wpAny (model P w) A (call (.type "set") [.ref l]) Q E s := by
  have hsz : xs.length = items.size := by rw [← StrsAre.len_eq hi, Array.length_toList]
  obtain ⟨c, tl, hmro⟩ := F.called_set.mro
  have hmade := F.called_set.made
  have hsub := F.called_set.sub
  refine wpAny_call (codeAny_of_tree (show wpAny _ _ (callAny (.type "set") _) _ _ _ from ?_))
  refine wpAny_pure ⟨Code.quiet_builtin _ (by decide +kernel), codeAny_builtin F.entry_type_call ?_⟩
  rw [Around.under_plain (weight_type_call_type "set" [.ref l] []) rfl]
  have h1 := F.called_set.notType
  have h2 := F.called_set.canCreate
  have hct := F.typeCall_set_1 (.ref l)
  repeat (any_goals (first | assumption | wp_step))
  refine codeAny_mono (code_set_led1 (.ref l) (E := E) (Q₁ := fun obj s1 => obj = .ref s.heap.objs.size ∧ s1 = { s with heap := s.heap.push (freshSet w) }) ⟨rfl, rfl⟩) fun r s1 hr => ?_
  rcases r with e | fl
  · exact hr
  · rcases fl with obj | _ | _ | _
    all_goals first | exact hr.elim | skip
    obtain ⟨rfl, rfl⟩ := hr
    have at0 : (s.heap.push (freshSet w)).get? s.heap.objs.size = some (freshSet w) := Heap.get?_push_size _ rfl
    have hT : Shared.TypeIs { s with heap := s.heap.push (freshSet w) } (.ref s.heap.objs.size) "set" := ⟨_, at0, rfl⟩
    have hli := F.called_set.init.lookup
    have hbi := F.called_set.init.bind (.ref s.heap.objs.size)
    repeat (any_goals (first | assumption | wp_step))
    refine codeAny_mono (codeAny_call_builtin (R := wants (fun r s2 => r = .none ∧ ∃ h' tk ks, s2 = { s with heap := h', toks := tk } ∧ FirstOf xs xs.length ks ∧ SetS w h' s.heap.objs.size ks ∧
      ∀ b o, s.heap.get? b = some o → h'.get? b = some o) E) F.called_set.init.plain F.entry_set_init (check_set_init_1 hT ?_)) fun r2 s2 hr2 => ?_
    · obtain ⟨⟨oc, od, oa, os⟩, hol, hcl, nl, hdl⟩ := hl
      simp only at hcl hdl
      subst hcl; subst hdl
      have lt := Heap.lt_size hol
      have hol' : (s.heap.push (freshSet w)).get? l = some { cls := .type "tuple", dict := od, data := .seq items nl, slots := os } := Heap.get?_push_of_some _ hol
      have hl1 : (s.heap.push (freshSet w)).IsTuple l items := ⟨_, hol', rfl, nl, rfl⟩
      have f1 := F.sub_tuple_set
      have f2 := F.sub_tuple_frozenset
      have f3 : (Value.type "tuple" == Value.type "dict") = false := by decide
      unfold Builtin.«set.__init__» noKeywords Builtin.Frozenset.updateFrom
      generalize hPI : pyIter = PI
      wp_walk
      subst hPI
      refine wpAny_pyIter_tuple hl1 (wpAny_bind (wpAny_runValue ?_))
      have hh3 : A.in1.in1.in1.handled = none := by simp [hh]
      have sz : (s.heap.push (freshSet w)).objs.size = s.heap.objs.size + 1 := Heap.size_push ..
      have neI : l ≠ (s.heap.push (freshSet w)).objs.size := by rw [sz]; exact Nat.ne_of_lt (Nat.lt_succ_of_lt lt)
      have nS : s.heap.objs.size ∉ [(s.heap.push (freshSet w)).objs.size, l] := by
        rw [sz]
        simp only [List.mem_cons, List.mem_singleton, List.not_mem_nil, or_false, not_or]
        exact ⟨Nat.ne_of_lt (Nat.lt_succ_self _), Nat.ne_of_gt lt⟩
      have hv : ∀ (i : Nat) (v : Value), items[i]? = some v → ∃ x t, xs[i]? = some x ∧ v = .str x t := fun i v z => by
        have lti : i < xs.length := by rw [hsz]; exact (Array.getElem?_eq_some_iff.mp z).1
        obtain ⟨t, e⟩ := SS.strs_at hi i v (by rw [Array.getElem?_toList]; exact z)
        refine ⟨xs[i], t, List.getElem?_eq_getElem lti, ?_⟩
        rw [e, List.getD_eq_getElem?_getD, List.getElem?_eq_getElem lti] <;> rfl
      refine setS_update ((Walks.tuple hh3 _ l neI items).toS) nS hsz.symm (by rw [← hsz]; exact hb) hv items.size 0 _ [] (Nat.sub_zero _) (Nat.zero_le _)
        ⟨⟨_, Heap.get?_push_size _ rfl, rfl, rfl⟩, hl1.push _⟩ ⟨Nat.le_refl _, List.nodup_nil, fun x => by rw [List.take_zero]⟩ (fresh_ok (Heap.get?_push_of_some _ at0)) fun s3 ks mv fo hk => ?_
      obtain ⟨h3, g3, d3, t3, o3⟩ := s3
      obtain rfl : g3 = s.gens := mv.gens
      obtain rfl : d3 = s.drawn := mv.drawn
      obtain rfl : o3 = s.os := mv.os
      rw [← hsz] at fo
      refine wpAny_pure (wpAny_pure (a := Fin.done (.ret Value.none)) ⟨rfl, h3, t3, ks, rfl, fo, hk, fun b o e => ?_⟩)
      have lb := Heap.lt_size e
      refine mv.heap b o ?_ (Heap.get?_push_of_some _ (Heap.get?_push_of_some _ e))
      rw [sz]
      simp only [List.mem_cons, List.mem_singleton, List.not_mem_nil, or_false, not_or]
      exact ⟨Nat.ne_of_lt lb, Nat.ne_of_lt (Nat.lt_succ_of_lt lb)⟩
    · rcases r2 with e | fl
      · exact hr2
      · rcases fl with r | _ | _ | _
        all_goals first | exact hr2.elim | skip
        obtain ⟨rfl, h', tk, ks, rfl, fo, hk, kp⟩ := hr2
        repeat (any_goals (first | assumption | wp_step))
        exact h _ _ _ fo hk kp
end
section
variable {X : Cx} {pins : List (Addr × Obj)} {σ : L2.St} {H : Hp}
/-- set(t), a tuple of texts -/
def rSetU (K : PySem.W.Frag) (w : World) : List V → Hp → VK → Prop := fun vs H Q => ∃ (l : Addr) (xs : List Str), vs = [V.ref l] ∧ SqT K H l (xs.map V.str) ∧ xs.length < 4000 ∧
  ∀ p ks, FirstOf xs xs.length ks → H p = none → Q (.ref p) (upd H p (SetSO w p ks))
theorem cr_setU (hc : X.calm = true) : CallR X (.type "set") (rSetU X.K X.w) := by
  intro pins s σ H vs us Q I r h
  obtain ⟨l, xs, rfl, hs, hb, q⟩ := h
  rw [Vals.ref1 r]
  obtain ⟨its, rv, pl, hz⟩ := I.tuple hs
  refine call_setU (I.ok.hd hc) pl (by simpa using rv.strs) (by unfold scanBound; omega) fun h' tk ks fo hk kp => ?_
  exact ⟨.ref s.heap.objs.size, upd H s.heap.objs.size (SetSO X.w s.heap.objs.size ks), I.laid (t' := tk) kp (Nat.le_refl _) (setSO_new hk), rfl, q _ ks fo (I.hok.fresh (Nat.le_refl _))⟩
theorem setUK (K : PySem.W.Frag) (w : World) (h : X.K = K) (hw : X.w = w) (hc : X.calm = true) : CallR X (.type "set") (rSetU K w) := by subst h hw; exact cr_setU hc
end
end Tx

set_option Elab.async false
set_option linter.all false
set_option maxRecDepth 100000
set_option maxHeartbeats 4000000
namespace L2
open PySem PySem.Spec PyProof.Rows PySem.Calls
section
variable {prog : Program} {w : World} {A : Around} {E : Value → Shared → Prop} {s : Shared}
theorem sliceApplied_rev {sl : Addr} {vl vu vs : Value} {n : Nat} {Q : Int × Int × Nat → Shared → Prop} (hs : s.heap.IsSliceOf sl vl vu vs) (pl : IsPart vl none) (pu : IsPart vu none) (ps : IsPart vs (some (-1)))
    (h : Q ((n : Int) - 1, -1, n) s) : wpAny (model prog w) A (Builtin.Slice.sliceApplied (.ref sl) (pure (n : Int))) Q E s := by
  obtain ⟨os, hos, hcs, hds⟩ := id hs
  unfold Builtin.Slice.sliceApplied Builtin.Slice.sliceFields
  refine wpAny_bind (wpAny_bind (wpAny_field hos hds (x := vl) rfl (wpAny_bind (wpAny_field hos hds (x := vu) rfl (wpAny_bind (wpAny_field hos hds (x := vs) rfl (wpAny_pure ?_)))))))
  refine wpAny_bind (HT.slicePart_ ps ?_)
  show wpAny _ _ (if ((-1 : Int) == 0) = true then _ else _) _ _ s
  rw [if_neg (by decide)]
  refine wpAny_bind (HT.slicePart_ pl (wpAny_bind (HT.slicePart_ pu (wpAny_bind (wpAny_pure ?_)))))
  show wpAny _ _ (pure ((n : Int) - 1, (-1 : Int), Builtin.Slice.slicePlaces ((n : Int) - 1) (-1) (-1))) _ _ s
  have e : Builtin.Slice.slicePlaces ((n : Int) - 1) (-1) (-1) = n := by
    unfold Builtin.Slice.slicePlaces
    rw [if_neg (by decide)]
    by_cases c : (n : Int) - 1 > -1
    · rw [if_pos c, show (-(-1) : Int) = 1 by decide, Int.ediv_one]; omega
    · rw [if_neg c]; omega
  rw [e]
  exact wpAny_pure h
theorem fm_congr {α β : Type} {f g : α → Option β} : ∀ {l : List α}, (∀ x ∈ l, f x = g x) → l.filterMap f = l.filterMap g
  | [], _ => rfl
  | x :: l, h => by
    rw [List.filterMap_cons, List.filterMap_cons, h x (List.mem_cons_self ..), fm_congr fun y hy => h y (List.mem_cons_of_mem _ hy)]
theorem pick_rev (xs : Array Value) : ((List.range xs.size).filterMap fun (k : Nat) => xs[(((xs.size : Int) - 1) + (k : Int) * (-1)).toNat]?).toArray = xs.toList.reverse.toArray := by
  have e : (List.range xs.size).filterMap (fun (k : Nat) => xs[(((xs.size : Int) - 1) + (k : Int) * (-1)).toNat]?) = (List.range xs.size).filterMap fun k => xs.toList.reverse[k]? := by
    refine fm_congr fun k hk => ?_
    have hk := List.mem_range.mp hk
    rw [List.getElem?_reverse (by rw [Array.length_toList]; exact hk), Array.getElem?_toList, Array.length_toList]
    congr 1
    omega
  rw [e]
  congr 1
  have : ∀ l : List Value, (List.range l.length).filterMap (fun k => l[k]?) = l := fun l => by
    induction l with
    | nil => rfl
    | cons a l ih =>
      rw [List.length_cons, List.range_succ_eq_map, List.filterMap_cons, List.filterMap_map]
      show a :: (List.range l.length).filterMap (fun k => l[k]?) = a :: l
      rw [ih]
  have h := this xs.toList.reverse
  rwa [List.length_reverse, Array.length_toList] at h
theorem getItem_tuple_rev {t sl : Addr} {items : Array Value} {vl vu vs : Value} {Q : Value → Shared → Prop} (ht : IsTup s.heap t items) (hs : s.heap.IsSliceOf sl vl vu vs) (pl : IsPart vl none) (pu : IsPart vu none) (ps : IsPart vs (some (-1)))
    (h : Q (.ref s.heap.objs.size) { s with heap := s.heap.push { cls := .type "tuple", data := .seq items.toList.reverse.toArray } })
    (hsz : items.size ≤ sizeLine) : wpAny (model prog w) A (getItem (.ref t) (.ref sl)) Q E s := by
  have htake : sizeOk (.seq items.toList.reverse.toArray) := by
    show items.toList.reverse.toArray.size ≤ sizeLine
    rw [List.size_toArray, List.length_reverse, Array.length_toList]
    exact hsz
  obtain ⟨os, hos, hcs, hds⟩ := id hs
  have hTs : s.TypeIs (.ref sl) "slice" := ⟨os, hos, hcs⟩
  unfold getItem
  try with_reducible refine wpAny_holding ?_
  first | refine wpAny_bind (wpAny_pure ?_) | skip
  refine wpAny_bind (wpAny_sequenceKey ht.typeIs (by decide) ?_)
  refine wpAny_bind (wpAny_callSpecial?_slot (name := Str.ofString "__getitem__") ht.typeIs PyProof.Rows.slot_tuple_getitem
    (wpAny_call_entry PyProof.Rows.slot_tuple_getitem ht.typeIs entry_tuple_getitem ?_ (args_tuple_getitem _ _)))
  show wpAny _ _ (Builtin.Tuple.tupleItemsOf (.ref t) >>= _) _ _ s
  refine wpAny_bind (tupleItemsOf_ ht ?_)
  refine wpAny_bind (wpAny_typeOf hTs ?_)
  rw [if_pos (by decide)]
  refine wpAny_bind (sliceApplied_rev hs pl pu ps ?_)
  have hno : ¬ ((((items.size : Int) - 1) == 0 && (-1 : Int) == 1 && items.size == items.size) = true) := by
    intro q
    rw [Bool.and_eq_true, Bool.and_eq_true] at q
    exact absurd q.1.2 (by decide)
  show wpAny _ _ (if (((items.size : Int) - 1) == 0 && (-1 : Int) == 1 && items.size == items.size) = true then _ else _) _ _ s
  rw [if_neg hno, pick_rev]
  first
    | exact wpAny_bind (m := Builtin.Tuple.tupleExact _) (wpAny_newObj_type (wpAny_pure ⟨_, rfl, wpAny_pure h⟩) htake)
    | exact wpAny_bind (m := Builtin.Tuple.tupleExact _) (wpAny_newObj_type (wpAny_bind (wpAny_pure (wpAny_pure ⟨_, rfl, wpAny_pure h⟩))) htake)
    | exact wpAny_bind (wpAny_bind (m := Builtin.Tuple.tupleExact _) (wpAny_newObj_type (wpAny_pure (wpAny_pure ⟨_, rfl, wpAny_pure h⟩)) htake))
    | exact wpAny_bind (wpAny_bind (m := Builtin.Tuple.tupleExact _) (wpAny_newObj_type (wpAny_pure ⟨_, rfl, wpAny_pure h⟩) htake))
end
section
variable {X : Cx}
/-- t[::-1] -/
def tRevT (K : PySem.W.Frag) (te : TE) : TE := fun σ H Q => te σ H fun x H1 => ∃ a xs, x = .ref a ∧ SqT K H1 a xs ∧ ∀ p, H1 p = none → Q (.ref p) (upd H1 p (.tup xs.reverse))
theorem pe_revT {e : Expr} {te : TE} {k : Nat} {p1 p2 p3 pos : Pos} (he : PE X e te) : PE X (.Subscript e (.Slice none none (some (.UnaryOp .USub (.Constant (.int 1) k p1) p2)) p3) pos) (tRevT X.K te) := by
  refine ⟨fun pins s σ H Q I h => ?_⟩
  refine Subscript_ (thn (he.run pins s σ H _ I h) fun v s1 ⟨x, H1, I1, r1, q1⟩ => ?_)
  obtain ⟨a, xs, ex, hx, q⟩ := q1
  subst ex
  cases r1
  have hst : PO X (some (.UnaryOp .USub (.Constant (.int 1) k p1) p2)) (tPart (tUn (rU fun i => .int (-i)) (tC (.int 1)))) := po_some (pe_un un_neg pe_int)
  refine wpAny_Slice (thn (po_none.run pins s1 σ H1 (fun o H2 => o = none ∧ H2 = H1) I1 ⟨rfl, rfl⟩) fun vl s2 ⟨l, H2, I2, pl, el, e2⟩ => ?_)
  subst el e2
  refine thn (po_none.run pins s2 σ H2 (fun o H3 => o = none ∧ H3 = H2) I2 ⟨rfl, rfl⟩) fun vu s3 ⟨u, H3, I3, pu, eu, e3⟩ => ?_
  subst eu e3
  refine thn (hst.run pins s3 σ H3 (fun o H4 => o = some (-1) ∧ H4 = H3) I3 ⟨1, rfl, -1, rfl, rfl, rfl⟩) fun vs s4 ⟨o, H4, I4, ps, eo, e4⟩ => ?_
  subst eo e4
  have I5 : Inv X pins σ H4 { s4 with heap := s4.heap.push { cls := .type "slice", data := .fields #[vl, vu, vs] } } := I4.kept (t' := s4.toks) fun b ob q => Heap.get?_push_of_some _ q
  obtain ⟨its, r, ht, hz⟩ := I5.tuple hx
  have hlen := r.length
  show wpAny (model X.prog X.w) X.A (subscriptTail e (.Slice none none (some (.UnaryOp .USub (.Constant (.int 1) k p1) p2)) p3) (.ref a) (.ref s4.heap.objs.size)) (EP X pins σ Q) X.xe { s4 with heap := s4.heap.push { cls := .type "slice", data := .fields #[vl, vu, vs] } }
  refine tail_any (ops := [.ref a, .ref s4.heap.objs.size]) ht.typeIs (PyProof.Rows.slot_tuple_getitem.lookup) ?_ (by with_unfolding_all rfl)
  refine getItem_tuple_rev ht (Heap.IsSliceOf.new _ vl vu vs) pl pu ps ?_ (by rw [List.size_toArray]; omega)
  refine ⟨.ref _, _, I5.laid (t' := s4.toks) (o := .tup xs.reverse) (fun b ob q => Heap.get?_push_of_some _ q) (Nat.le_refl _) ?_, rfl, q _ (I5.hok.fresh (Nat.le_refl _))⟩
  exact ⟨by rw [List.length_reverse]; exact hz, _, r.reverse, IsTup.new _ _⟩
end
end L2

set_option Elab.async false
set_option linter.all false
set_option maxRecDepth 100000
set_option maxHeartbeats 1000000
namespace Tx
open PySem PySem.Spec PyProof.Rows L2
/-- {k: v} whose key is a tuple; the new dict stands empty while they are made -/
def tDisp1T (tk tv : TE) : TE := fun σ H Q => ∀ p, H p = none → tPairs [(tk, tv)] σ (upd H p (.dT [])) fun ps H2 => ∃ x y, ps = [(x, y)] ∧ H2 p = some (.dT []) ∧ ∃ (b : Addr) (k : List Key), x = .ref b ∧ H2 b = some (.tup (k.map kV)) ∧ Q (.ref p) (upd H2 p (.dT [(k, y)]))
theorem pe_disp1T {X : Cx} {pos : Pos} {k v : Expr} {tk tv : TE} (hu : X.A.units + 1 < cLine) (hk : PE X k tk) (hv : PE X v tv) : PE X (.Dict [some k] [v] pos) (tDisp1T tk tv) := by
  refine ⟨fun pins s σ H Q I q => ?_⟩
  have hn := I.hok.fresh (Nat.le_refl s.heap.objs.size)
  have I1 := I.laid (a := s.heap.objs.size) (o := .dT []) (h' := s.heap.push { cls := .type "dict", data := .dict #[] }) (t' := s.toks) (fun _ _ q => Heap.get?_push_of_some _ q) (Nat.le_refl _) (dt_empty s.heap I.big)
  have h := pps_cons hk hv (pps_nil (X := X) (pos := pos))
  have hl : (pairTrees [some k] [v] X.env pos).length = 1 := pairTrees_length [some k] [v] X.env pos rfl rfl
  rw [arm_eval_Dict, zip_pairTrees [some k] [v] X.env pos rfl rfl, dictDisplay_pairs (pairTrees [some k] [v] X.env pos) (by intro z; rw [z] at hl; cases hl) (by omega)]
  refine wpAny_bind (wpAny_standAt (wpAny_bind (wpAny_subDictH (knd := tupleKind (mixKind X.prog X.w)) (show X.A.units < cLine by omega) (by omega) (thn (h.run pins _ σ _ _ I1 (q _ hn)) fun ws s2 ⟨ps, H2, I2, rel, x, y, ep, e, b, kk, ex, eb, q2⟩ => ?_))))
  · subst ep ex
    cases rel with
    | @cons a1 b1 as bs r t =>
      cases t
      obtain ⟨u, r'⟩ := b1
      obtain ⟨r1, r2⟩ := r
      cases (show u = Value.ref b from r1)
      obtain ⟨z, hd, xs, rel, dd⟩ := dt_of I2.hok e
      cases rel
      refine ⟨[(kk, b, r')], ⟨rfl, rfl, key_of I2.hok eb, trivial⟩, dd, fun h' tk dd' hs => wpAny_pure ⟨.ref s.heap.objs.size, _, ?_, rfl, q2⟩⟩
      obtain ⟨q, es, ep, hq, h2, h3, h4, _, h5⟩ := dd'
      refine d_write I2 (by rw [e]; exact True.intro) hs ⟨q, hq⟩ ⟨by rw [sizeLine_eq]; show 1 ≤ _; omega, hd, _, KT.keeps (.cons ⟨rfl, eb, r2⟩ .nil) fun c ys ec => ?_, q, es, ep, hq, h2, h3, h4, h5⟩
      rw [upd_ne (ne_of ec e (fun z => nomatch z))]
      exact ec
end Tx

set_option Elab.async false
set_option linter.all false
set_option maxRecDepth 100000
set_option maxHeartbeats 4000000
namespace Tx
open PySem PySem.Spec PyProof.Rows L2
/-! the set of a long list of texts that has few unlike ones -/
section
variable {P : Program} {w : World} {A : Around} {E : Value → Shared → Prop}
theorem setS_updateM {I S : Addr} {fp wr : List Addr} {G : Array GenState → Array GenState → Prop} {n : Nat} {Pv : Nat → Value → Prop} {St : Nat → Shared → Prop} {R : Result → Shared → Prop} {xs : List Str}
    (W : WalksS P w A.in1 I fp wr G n Pv St) (hS : S ∉ fp) (hn : n = xs.length) (hb : ∀ ks : List Str, ks.Nodup → (∀ x ∈ ks, x ∈ xs) → ks.length + 2 < scanBound) (hv : ∀ i v, Pv i v → ∃ x t, xs[i]? = some x ∧ v = .str x t) :
    ∀ (m i : Nat) (s : Shared) (ks : List Str), n - i = m → i ≤ n → St i s → FirstOf xs i ks → SetS w s.heap S ks →
      (∀ s' ks', Moved (S :: wr) G s s' → FirstOf xs n ks' → SetS w s'.heap S ks' → R (.ok (.ret .none)) s') →
      codeAny (model P w) A (.builtin "set.update.loop" ⟨[.ref S, .ref I], []⟩) R s := by
  have hw : S ∉ wr := fun z => hS (W.sub _ z)
  have up : ∀ b ∈ wr, b ∈ S :: wr := fun b z => List.mem_cons_of_mem _ z
  intro m
  induction m with
  | zero =>
    intro i s ks e1 e2 st f hk q
    obtain rfl : i = n := by omega
    refine codeAny_builtin F.entry_set_update_loop ?_
    rw [Around.under_plainId F.plain_set_update_loop _]
    refine wpAny_bind (m := pyNext (.ref I)) (W.done s _ _ st fun s' mv => ?_)
    exact wpAny_pure (q s' ks (mv.mono up) f (hk.keep fun o z => mv.heap S o hw z))
  | succ m ih =>
    intro i s ks e1 e2 st f hk q
    have lt : i < n := by omega
    refine codeAny_builtin F.entry_set_update_loop ?_
    rw [Around.under_plainId F.plain_set_update_loop _]
    refine wpAny_bind (m := pyNext (.ref I)) (W.item i s _ _ lt st fun v s' pv st' mv => ?_)
    obtain ⟨x, t, hx, rfl⟩ := hv i v pv
    have hk' : SetS w s'.heap S ks := hk.keep fun o z => mv.heap S o hw z
    refine wpAny_bind (m := holding [Value.str x t] (setAdd S (.str x t))) (wpAny_holding ?_)
    unfold setAdd
    refine wpAny_holding (wpAny_bind ((PySem.strKind P w).pyHash (k := x) (strKind_is _ _ _ _) ?_))
    refine setS_add (s := { s' with toks := s'.toks + 1 }) hk' (by have := hb ks f.2.1 fun y hy => List.mem_of_mem_take ((f.2.2 y).mp hy); omega) fun h' b sb hk2 => ?_
    refine wpAny_pure ⟨plainId_quiet F.plain_set_update_loop _, ih (i + 1) _ _ (by omega) lt (W.frame _ s' _ _ st' (Nat.le_succ _) fun c hc o z => ?_) (f.next hx) hk2 fun s2 ks2 mv2 f2 hk3 => ?_⟩
    · rw [sb.2 c fun z' : c = S => hS (z' ▸ hc)]; exact z
    · refine q s2 ks2 (Moved.trans W.gtrans ((mv.mono up).then_heap (Nat.le_succ _) fun c o hc z => ?_) mv2) f2 hk3
      rw [sb.2 c fun z' : c = S => hc (by rw [z']; exact List.mem_cons_self)]; exact z

set_option maxHeartbeats 6400000 in
theorem call_setSM {s : Shared} {l : Addr} {items : Array Value} {xs : List Str} {Q : Value → Shared → Prop} (hh : A.handled = none) (hl : s.heap.IsList l items) (hi : StrsAre items.toList xs) (hb : ∀ ks : List Str, ks.Nodup → (∀ x ∈ ks, x ∈ xs) → ks.length + 2 < scanBound)
    (h : ∀ h' tk ks, FirstOf xs xs.length ks → SetS w h' s.heap.objs.size ks → (∀ b o, s.heap.get? b = some o → h'.get? b = some o) → Q (.ref s.heap.objs.size) { s with heap := h', toks := tk }) :
    wpAny (model P w) A (call (.type "set") [.ref l]) Q E s := by
  have hsz : xs.length = items.size := by rw [← StrsAre.len_eq hi, Array.length_toList]
  obtain ⟨c, tl, hmro⟩ := F.called_set.mro
  have hmade := F.called_set.made
  have hsub := F.called_set.sub
  refine wpAny_call (codeAny_of_tree (show wpAny _ _ (callAny (.type "set") _) _ _ _ from ?_))
  refine wpAny_pure ⟨Code.quiet_builtin _ (by decide +kernel), codeAny_builtin F.entry_type_call ?_⟩
  rw [Around.under_plain (weight_type_call_type "set" [.ref l] []) rfl]
  have h1 := F.called_set.notType
  have h2 := F.called_set.canCreate
  have hct := F.typeCall_set_1 (.ref l)
  repeat (any_goals (first | assumption | wp_step))
  refine codeAny_mono (code_set_led1 (.ref l) (E := E) (Q₁ := fun obj s1 => obj = .ref s.heap.objs.size ∧ s1 = { s with heap := s.heap.push (freshSet w) }) ⟨rfl, rfl⟩) fun r s1 hr => ?_
  rcases r with e | fl
  · exact hr
  · rcases fl with obj | _ | _ | _
    all_goals first | exact hr.elim | skip
    obtain ⟨rfl, rfl⟩ := hr
    have at0 : (s.heap.push (freshSet w)).get? s.heap.objs.size = some (freshSet w) := Heap.get?_push_size _ rfl
    have hT : Shared.TypeIs { s with heap := s.heap.push (freshSet w) } (.ref s.heap.objs.size) "set" := ⟨_, at0, rfl⟩
    have hli := F.called_set.init.lookup
    have hbi := F.called_set.init.bind (.ref s.heap.objs.size)
    repeat (any_goals (first | assumption | wp_step))
    refine codeAny_mono (codeAny_call_builtin (R := wants (fun r s2 => r = .none ∧ ∃ h' tk ks, s2 = { s with heap := h', toks := tk } ∧ FirstOf xs xs.length ks ∧ SetS w h' s.heap.objs.size ks ∧
      ∀ b o, s.heap.get? b = some o → h'.get? b = some o) E) F.called_set.init.plain F.entry_set_init (check_set_init_1 hT ?_)) fun r2 s2 hr2 => ?_
    · obtain ⟨⟨oc, od, oa, os⟩, hol, hcl, nl, hdl⟩ := hl
      simp only at hcl hdl
      subst hcl; subst hdl
      have lt := Heap.lt_size hol
      have hol' : (s.heap.push (freshSet w)).get? l = some { cls := .type "list", dict := od, data := .seq items nl, slots := os } := Heap.get?_push_of_some _ hol
      have hl1 : (s.heap.push (freshSet w)).IsList l items := ⟨_, hol', rfl, nl, rfl⟩
      have f1 := F.sub_list_set
      have f2 := F.sub_list_frozenset
      have f3 : (Value.type "list" == Value.type "dict") = false := by decide
      unfold Builtin.«set.__init__» noKeywords Builtin.Frozenset.updateFrom
      generalize hPI : pyIter = PI
      wp_walk
      subst hPI
      refine wpAny_pyIter_list hl1 (wpAny_bind (wpAny_runValue ?_))
      have hh3 : A.in1.in1.in1.handled = none := by simp [hh]
      have sz : (s.heap.push (freshSet w)).objs.size = s.heap.objs.size + 1 := Heap.size_push ..
      have neI : l ≠ (s.heap.push (freshSet w)).objs.size := by rw [sz]; exact Nat.ne_of_lt (Nat.lt_succ_of_lt lt)
      have nS : s.heap.objs.size ∉ [(s.heap.push (freshSet w)).objs.size, l] := by
        rw [sz]
        simp only [List.mem_cons, List.mem_singleton, List.not_mem_nil, or_false, not_or]
        exact ⟨Nat.ne_of_lt (Nat.lt_succ_self _), Nat.ne_of_gt lt⟩
      have hv : ∀ (i : Nat) (v : Value), items[i]? = some v → ∃ x t, xs[i]? = some x ∧ v = .str x t := fun i v z => by
        have lti : i < xs.length := by rw [hsz]; exact (Array.getElem?_eq_some_iff.mp z).1
        obtain ⟨t, e⟩ := SS.strs_at hi i v (by rw [Array.getElem?_toList]; exact z)
        refine ⟨xs[i], t, List.getElem?_eq_getElem lti, ?_⟩
        rw [e, List.getD_eq_getElem?_getD, List.getElem?_eq_getElem lti] <;> rfl
      refine setS_updateM ((Walks.list hh3 _ l neI items).toS) nS hsz.symm hb hv items.size 0 _ [] (Nat.sub_zero _) (Nat.zero_le _)
        ⟨⟨_, Heap.get?_push_size _ rfl, rfl, rfl⟩, hl1.push _⟩ ⟨Nat.le_refl _, List.nodup_nil, fun x => by rw [List.take_zero]⟩ (fresh_ok (Heap.get?_push_of_some _ at0)) fun s3 ks mv fo hk => ?_
      obtain ⟨h3, g3, d3, t3, o3⟩ := s3
      obtain rfl : g3 = s.gens := mv.gens
      obtain rfl : d3 = s.drawn := mv.drawn
      obtain rfl : o3 = s.os := mv.os
      rw [← hsz] at fo
      refine wpAny_pure (wpAny_pure (a := Fin.done (.ret Value.none)) ⟨rfl, h3, t3, ks, rfl, fo, hk, fun b o e => ?_⟩)
      have lb := Heap.lt_size e
      refine mv.heap b o ?_ (Heap.get?_push_of_some _ (Heap.get?_push_of_some _ e))
      rw [sz]
      simp only [List.mem_cons, List.mem_singleton, List.not_mem_nil, or_false, not_or]
      exact ⟨Nat.ne_of_lt lb, Nat.ne_of_lt (Nat.lt_succ_of_lt lb)⟩
    · rcases r2 with e | fl
      · exact hr2
      · rcases fl with r | _ | _ | _
        all_goals first | exact hr2.elim | skip
        obtain ⟨rfl, h', tk, ks, rfl, fo, hk, kp⟩ := hr2
        repeat (any_goals (first | assumption | wp_step))
        exact h _ _ _ fo hk kp
end
section
variable {X : Cx} {pins : List (Addr × Obj)} {σ : L2.St} {H : Hp}
def rSetM (K : PySem.W.Frag) (w : World) : List V → Hp → VK → Prop := fun vs H Q => ∃ (l : Addr) (xs us : List Str), vs = [V.ref l] ∧ SqL K H l (xs.map V.str) ∧ (∀ x ∈ xs, x ∈ us) ∧ us.length < 4000 ∧
  ∀ p ks, FirstOf xs xs.length ks → H p = none → Q (.ref p) (upd H p (SetSO w p ks))
theorem cr_setM (hc : X.calm = true) : CallR X (.type "set") (rSetM X.K X.w) := by
  intro pins s σ H vs us Q I r h
  obtain ⟨l, xs, zs, rfl, hs, sub, hb, q⟩ := h
  rw [Vals.ref1 r]
  obtain ⟨its, rv, pl, hz⟩ := I.list hs
  refine call_setSM (I.ok.hd hc) pl.isList (by simpa using rv.strs) (fun ks nd k => ?_) fun h' tk ks fo hk kp => ?_
  · have := pig ks zs nd fun x hx => sub x (k x hx)
    unfold scanBound; omega
  exact ⟨.ref s.heap.objs.size, upd H s.heap.objs.size (SetSO X.w s.heap.objs.size ks), I.laid (t' := tk) kp (Nat.le_refl _) (setSO_new hk), rfl, q _ ks fo (I.hok.fresh (Nat.le_refl _))⟩
theorem setMK (K : PySem.W.Frag) (w : World) (h : X.K = K) (hw : X.w = w) (hc : X.calm = true) : CallR X (.type "set") (rSetM K w) := by subst h hw; exact cr_setM hc
end
end Tx

set_option Elab.async false
set_option linter.all false
set_option maxRecDepth 100000
set_option maxHeartbeats 1000000
namespace Tx
open PySem PySem.Spec PyProof.Rows L2 TL
/-! ### how many letters of a piece were just read; pairs of a place and that number -/
def mxN (p t : List Nat) : Nat → Nat
  | 0 => 0
  | k + 1 => if (p.take (k + 1)).isSuffixOf t then k + 1 else mxN p t k
def mx (p t : List Nat) : Nat := mxN p t p.length
structure Mx (p t : List Nat) (k : Nat) : Prop where
  le : k ≤ p.length
  suf : p.take k <:+ t
  big : ∀ j, j ≤ p.length → p.take j <:+ t → j ≤ k
theorem mxN_is (p t : List Nat) : ∀ m, mxN p t m ≤ m ∧ p.take (mxN p t m) <:+ t ∧ ∀ j, j ≤ m → p.take j <:+ t → j ≤ mxN p t m
  | 0 => ⟨Nat.le_refl _, by show p.take 0 <:+ t; rw [List.take_zero]; exact List.nil_suffix, fun j hj _ => hj⟩
  | m + 1 => by
    unfold mxN
    by_cases c : (p.take (m + 1)).isSuffixOf t = true
    · rw [if_pos c]
      exact ⟨Nat.le_refl _, List.isSuffixOf_iff_suffix.mp c, fun j hj _ => hj⟩
    · rw [if_neg c]
      obtain ⟨h1, h2, h3⟩ := mxN_is p t m
      refine ⟨by omega, h2, fun j hj sj => ?_⟩
      by_cases e : j = m + 1
      · rw [e] at sj; exact absurd (List.isSuffixOf_iff_suffix.mpr sj) c
      · exact h3 j (by omega) sj
theorem mx_is (p t : List Nat) : Mx p t (mx p t) := let ⟨a, b, c⟩ := mxN_is p t p.length; ⟨a, b, c⟩
theorem Mx.eq {p t : List Nat} {k : Nat} (h : Mx p t k) : mx p t = k := by
  have g := mx_is p t
  have h1 := h.big _ g.le g.suf
  have h2 := g.big _ h.le h.suf
  omega
theorem mx_len (p t : List Nat) : mx p t ≤ t.length := by
  have g := mx_is p t
  have := g.suf.length_le
  rw [List.length_take, Nat.min_eq_left g.le] at this
  exact this
/-- behind one letter more -/
def rdN (p : List Nat) (n c : Nat) : Nat := mx p (p.take n ++ [c])
theorem take_snoc {p : List Nat} {k c : Nat} {t : List Nat} (h : k + 1 ≤ p.length) (s : p.take (k + 1) <:+ t ++ [c]) : p.take k <:+ t ∧ p[k]? = some c := by
  have lt : k < p.length := by omega
  rw [List.take_succ_eq_append_getElem lt] at s
  obtain ⟨r, e⟩ := s
  rw [← List.append_assoc] at e
  have e1 := List.append_inj_left' e rfl
  have e2 := List.append_inj_right' e rfl
  refine ⟨⟨r, e1⟩, ?_⟩
  rw [List.getElem?_eq_getElem lt]
  simpa using e2
theorem snoc_take {p : List Nat} {k c : Nat} {t : List Nat} (s : p.take k <:+ t) (e : p[k]? = some c) : p.take (k + 1) <:+ t ++ [c] := by
  obtain ⟨lt, e⟩ := List.getElem?_eq_some_iff.mp e
  rw [List.take_succ_eq_append_getElem lt, e]
  exact List.suffix_append_self_iff.mpr s
theorem mx_snoc {p t : List Nat} {c : Nat} (h : mx p t < p.length) : mx p (t ++ [c]) = rdN p (mx p t) c := by
  have g := mx_is p t
  have r := mx_is p (p.take (mx p t) ++ [c])
  unfold rdN
  refine Mx.eq ⟨r.le, r.suf.trans (List.suffix_append_self_iff.mpr g.suf), fun j hj sj => ?_⟩
  cases j with
  | zero => exact Nat.zero_le _
  | succ j =>
    obtain ⟨s1, e⟩ := take_snoc hj sj
    have j1 := g.big j (by omega) s1
    have : p.take j <:+ p.take (mx p t) := List.suffix_of_suffix_length_le s1 g.suf (by rw [List.length_take, List.length_take]; omega)
    exact r.big (j + 1) hj (snoc_take this e)
/-- the greatest one less -/
def brd (p : List Nat) (k : Nat) : Nat := mxN p (p.take k) (k - 1)
theorem rd_hit {p : List Nat} {m k c : Nat} (hk : p.take k <:+ p.take m) (e : p[k]? = some c) (big : ∀ j, j + 1 ≤ p.length → p.take j <:+ p.take m → p[j]? = some c → j ≤ k) : rdN p m c = k + 1 := by
  have lt := (List.getElem?_eq_some_iff.mp e).1
  refine Mx.eq ⟨by omega, snoc_take hk e, fun j hj sj => ?_⟩
  cases j with
  | zero => omega
  | succ j =>
    obtain ⟨s1, e1⟩ := take_snoc hj sj
    have := big j hj s1 e1
    omega
theorem rd_miss {p : List Nat} {m c : Nat} (no : ∀ j, j + 1 ≤ p.length → p.take j <:+ p.take m → p[j]? ≠ some c) : rdN p m c = 0 := by
  refine Mx.eq ⟨Nat.zero_le _, by rw [List.take_zero]; exact List.nil_suffix, fun j hj sj => ?_⟩
  cases j with
  | zero => omega
  | succ j =>
    obtain ⟨s1, e1⟩ := take_snoc hj sj
    exact absurd e1 (no j hj s1)
/-- what the loop of _law_read keeps at size k: all that may still be read has at most k letters ahead of the new one -/
structure Rd1 (p : List Nat) (m c k : Nat) : Prop where
  lt : k < p.length
  suf : p.take k <:+ p.take m
  big : ∀ j, j + 1 ≤ p.length → p.take j <:+ p.take m → p[j]? = some c → j ≤ k
theorem Rd1.start {p : List Nat} {m c : Nat} (h : m < p.length) : Rd1 p m c m := ⟨h, List.suffix_refl _, fun j hj s _ => by
  have := s.length_le
  rw [List.length_take, List.length_take] at this
  omega⟩
theorem Rd1.next {p : List Nat} {m c k : Nat} (h : Rd1 p m c k) (k0 : 0 < k) (ne : p[k]? ≠ some c) : Rd1 p m c (brd p k) ∧ brd p k < k := by
  obtain ⟨b1, b2, b3⟩ := mxN_is p (p.take k) (k - 1)
  have kl := h.lt
  have e : brd p k = mxN p (p.take k) (k - 1) := rfl
  rw [← e] at b1 b2 b3
  refine ⟨⟨by omega, b2.trans h.suf, fun j hj sj ej => ?_⟩, by omega⟩
  have jk := h.big j hj sj ej
  have : j ≠ k := fun z => ne (z ▸ ej)
  refine b3 j (by omega) (List.suffix_of_suffix_length_le sj h.suf ?_)
  rw [List.length_take, List.length_take]; omega
theorem Rd1.hit {p : List Nat} {m c k : Nat} (h : Rd1 p m c k) (e : p[k]? = some c) : rdN p m c = k + 1 := rd_hit h.suf e h.big
theorem Rd1.miss {p : List Nat} {m c : Nat} (h : Rd1 p m c 0) (e : p[0]? ≠ some c) : rdN p m c = 0 := rd_miss fun j hj sj ej => by
  have := h.big j hj sj ej
  have j0 : j = 0 := by omega
  exact e (j0 ▸ ej)
abbrev Pr := Str × Nat
def lastc (v : Str) : Nat := (lasL v).headD 0
theorem las_c {v : Str} (h : 1 ≤ v.length) : lasL v = [lastc v] := las_oneL h
/-- a pair's steps: the window, and the next pair -/
def stepsF (ws : List Str) (p : Str) (q : Pr) : List (Str × Pr) := (begW ws q.1).map fun v => (v, (taiS v, rdN (tl p) q.2 (lastc v)))
def adjF (ws : List Str) (p : Str) (q : Pr) : List (Str × Pr) := (stepsF ws p q).filter fun st => decide (st.2.2 < p.length)
theorem mem_adjF {ws : List Str} {p : Str} {q : Pr} {st : Str × Pr} : st ∈ adjF ws p q ↔ st.1 ∈ ws ∧ iniS st.1 = q.1 ∧ st.2 = (taiS st.1, rdN (tl p) q.2 (lastc st.1)) ∧ st.2.2 < p.length := by
  unfold adjF stepsF
  rw [List.mem_filter, List.mem_map, decide_eq_true_iff]
  constructor
  · rintro ⟨⟨v, hv, rfl⟩, h⟩
    obtain ⟨h1, h2⟩ := mem_begW.mp hv
    exact ⟨h1, h2, rfl, h⟩
  · rintro ⟨h1, h2, h3, h4⟩
    exact ⟨⟨st.1, mem_begW.mpr ⟨h1, h2⟩, by rw [← h3]⟩, h4⟩
def psi (n : Nat) (p s : Str) : Pr := (endS (n - 1) s, mx (tl p) (tl s))
def Norm (n : Nat) (p s : Str) : Prop := s ∈ headsL n [p] ∨ s.length = n - 1
section
variable {n : Nat} {ws : List Str} {p : Str}
theorem Norm.lt (M : Mach n ws [p]) {s : Str} (h : Norm n p s) : mx (tl p) (tl s) < p.length ∧ n - 1 ≤ s.length ∧ s.length < p.length := by
  have n2 := M.n2
  have pl := M.pcs p (List.mem_singleton.mpr rfl)
  have ml := mx_len (tl p) (tl s)
  rw [← len_tl] at ml
  rcases h with h | h
  · obtain ⟨q, hq, e, e1, e2, rfl⟩ := mem_heads.mp h
    rw [List.mem_singleton.mp hq] at ml e2 ⊢
    have : (mkS ((tl p).take e)).length = e := by rw [len_mkS, List.length_take, ← len_tl]; omega
    rw [this] at ml ⊢
    exact ⟨by omega, by omega, by omega⟩
  · exact ⟨by omega, by omega, by omega⟩
theorem Norm.kept {t y : Str} (k : Kept n (headsL n [p]) t y) : Norm n p y := k.kind
theorem mx_kept (M : Mach n ws [p]) {t y : Str} (k : Kept n (headsL n [p]) t y) (h : mx (tl p) (tl t) < p.length) : mx (tl p) (tl y) = mx (tl p) (tl t) := by
  have n2 := M.n2
  have g := mx_is (tl p) (tl t)
  generalize mx (tl p) (tl t) = m at g h
  have my : m ≤ y.length := by
    by_cases c : n ≤ m
    · have hl : (mkS ((tl p).take m)).length = m := by rw [len_mkS, List.length_take, ← len_tl]; omega
      have := k.big (mkS ((tl p).take m)) (mem_heads.mpr ⟨p, List.mem_singleton.mpr rfl, m, c, h, rfl⟩) (by rw [hl]; exact c) g.suf
      rwa [hl] at this
    · have := k.low; omega
  refine Mx.eq ⟨g.le, List.suffix_of_suffix_length_le g.suf k.suf ?_, fun j hj sj => g.big j hj (sj.trans k.suf)⟩
  rw [List.length_take, ← len_tl y]; omega
/-- a state's step, seen at the pairs -/
theorem psi_step (M : Mach n ws [p]) {s y : Str} (hs : Norm n p s) (h : y ∈ adjM n ws [p] s) : Norm n p y ∧ (winR n s y, psi n p y) ∈ adjF ws p (psi n p s) := by
  have n2 := M.n2
  obtain ⟨hm, hl, _⟩ := hs.lt M
  obtain ⟨v, hv, e, ne, k, el, w, yl⟩ := M.step hl h
  have vl := M.each v hv
  have ny : Norm n p y := k.kind
  have lv := las_c (v := v) (by omega)
  have et : tl (mkS (tl s ++ lasL v)) = tl s ++ [lastc v] := by rw [tl_mkS, lv]
  have em : mx (tl p) (tl (mkS (tl s ++ lasL v))) = rdN (tl p) (mx (tl p) (tl s)) (lastc v) := by rw [et]; exact mx_snoc (by rw [← len_tl]; exact hm)
  have lt : mx (tl p) (tl (mkS (tl s ++ lasL v))) < p.length := by
    have g := mx_is (tl p) (tl (mkS (tl s ++ lasL v)))
    have le := g.le
    rw [← len_tl] at le
    refine Nat.lt_of_le_of_ne le fun z => ne ⟨p, List.mem_singleton.mpr rfl, ?_⟩
    have := g.suf
    rwa [z, List.take_of_length_le (by rw [← len_tl]; exact Nat.le_refl _)] at this
  refine ⟨ny, mem_adjF.mpr ⟨by rw [w]; exact hv, by rw [w]; exact e, ?_, ?_⟩⟩
  · rw [w]
    unfold psi
    refine Prod.ext ?_ ((mx_kept M k lt).trans em)
    have sv : tl v <:+ tl s ++ lasL v := by
      have : tl (winR n s y) <:+ tl s ++ lasL y := endS_suf ..
      rwa [w, el] at this
    have se : tl (endS (n - 1) y) <:+ tl s ++ lasL v := (endS_suf _ _).trans k.suf
    have st : tl (taiS v) <:+ tl s ++ lasL v := (List.drop_suffix 1 (tl v)).trans sv
    have tv : (taiS v).length = n - 1 := by unfold taiS; rw [len_mkS, List.length_drop, ← len_tl, vl]
    exact ext_tl (suf_same se st (by rw [← len_tl, ← len_tl, endS_len yl, tv]))
  · show mx (tl p) (tl y) < p.length
    rw [mx_kept M k lt]; exact lt
theorem psi_back (M : Mach n ws [p]) {s : Str} (hs : Norm n p s) {st : Str × Pr} (h : st ∈ adjF ws p (psi n p s)) : ∃ y ∈ adjM n ws [p] s, winR n s y = st.1 ∧ psi n p y = st.2 ∧ Norm n p y := by
  have n2 := M.n2
  obtain ⟨hm, hl, _⟩ := hs.lt M
  obtain ⟨hv, e, e2, lt⟩ := mem_adjF.mp h
  have vl := M.each _ hv
  have lv := las_c (v := st.1) (by omega)
  have et : tl (mkS (tl s ++ lasL st.1)) = tl s ++ [lastc st.1] := by rw [tl_mkS, lv]
  have em : mx (tl p) (tl (mkS (tl s ++ lasL st.1))) = rdN (tl p) (mx (tl p) (tl s)) (lastc st.1) := by rw [et]; exact mx_snoc (by rw [← len_tl]; exact hm)
  have ne : ¬ endsP [p] (mkS (tl s ++ lasL st.1)) := by
    rintro ⟨q, hq, sq⟩
    rw [List.mem_singleton.mp hq] at sq
    have g := mx_is (tl p) (tl (mkS (tl s ++ lasL st.1)))
    have := g.big p.length (by rw [← len_tl]; exact Nat.le_refl _) (by rw [List.take_of_length_le (by rw [← len_tl]; exact Nat.le_refl _)]; exact sq)
    rw [e2] at lt
    have lt : rdN (tl p) (mx (tl p) (tl s)) (lastc st.1) < p.length := lt
    omega
  have hy : keptS n (headsL n [p]) (mkS (tl s ++ lasL st.1)) ∈ adjM n ws [p] s := mem_adjM.mpr ⟨st.1, hv, e, ne, rfl⟩
  obtain ⟨ny, hin⟩ := psi_step M hs hy
  obtain ⟨v, hv', ev, _, k, el, w, yl⟩ := M.step hl hy
  have wv : winR n s (keptS n (headsL n [p]) (mkS (tl s ++ lasL st.1))) = st.1 := by
    have el2 : lasL (keptS n (headsL n [p]) (mkS (tl s ++ lasL st.1))) = lasL st.1 := by
      have k2 := kept_is (hs := headsL n [p]) (t := mkS (tl s ++ lasL st.1)) (show 1 ≤ n by omega) (by rw [len_mkS, List.length_append, ← len_tl, lv]; show n ≤ s.length + 1; omega)
      exact (las_suf k2.suf (by have := k2.low; omega)).trans (las_app s st.1 (by omega))
    rw [w]
    refine ext_tl ?_
    rw [ini_las (v := v), ini_las (v := st.1), ev, e, ← el, el2]
    rfl
  refine ⟨_, hy, wv, ?_, ny⟩
  obtain ⟨_, _, e3, _⟩ := mem_adjF.mp hin
  have e3 : psi n p (keptS n (headsL n [p]) (mkS (tl s ++ lasL st.1))) = (taiS (winR n s (keptS n (headsL n [p]) (mkS (tl s ++ lasL st.1)))), rdN (tl p) (psi n p s).2 (lastc (winR n s (keptS n (headsL n [p]) (mkS (tl s ++ lasL st.1)))))) := e3
  rw [e3, wv, e2]
theorem psi_inj (M : Mach n ws [p]) {s y : Str} (hs : Norm n p s) (hy : Norm n p y) (e : psi n p s = psi n p y) : s = y := by
  have n2 := M.n2
  have e1 : endS (n - 1) s = endS (n - 1) y := congrArg Prod.fst e
  have e2 : mx (tl p) (tl s) = mx (tl p) (tl y) := congrArg Prod.snd e
  have hd : ∀ {x : Str}, x ∈ headsL n [p] → x = mkS ((tl p).take (mx (tl p) (tl x))) ∧ n ≤ mx (tl p) (tl x) := fun {x} hx => by
    obtain ⟨q, hq, k, k1, k2, rfl⟩ := mem_heads.mp hx
    rw [List.mem_singleton.mp hq] at k2 ⊢
    have : mx (tl p) (tl (mkS ((tl p).take k))) = k := Mx.eq ⟨by rw [← len_tl]; omega, List.suffix_refl _, fun j hj sj => by
      have := sj.length_le
      rw [tl_mkS, List.length_take, List.length_take] at this
      omega⟩
    rw [this]
    exact ⟨rfl, k1⟩
  have sh : ∀ {x : Str}, x.length = n - 1 → x = endS (n - 1) x ∧ mx (tl p) (tl x) < n := fun {x} hx => by
    have := mx_len (tl p) (tl x)
    rw [← len_tl] at this
    refine ⟨?_, by omega⟩
    refine ext_tl ?_
    show tl x = (tl x).drop _
    rw [hx, Nat.sub_self]; rfl
  rcases hs with hs | hs <;> rcases hy with hy | hy
  · rw [(hd hs).1, (hd hy).1, e2]
  · have := (hd hs).2; have := (sh hy).2; omega
  · have := (hd hy).2; have := (sh hs).2; omega
  · rw [(sh hs).1, (sh hy).1, e1]
/-- what one comes to -/
inductive RQ {A : Type} (f : A → List (Str × A)) (s : A) : A → Prop
  | here : RQ f s s
  | step {u : A} {st : Str × A} : RQ f s u → st ∈ f u → RQ f s st.2
theorem RQ.trans {A : Type} {f : A → List (Str × A)} {a b c : A} (h : RQ f a b) (k : RQ f b c) : RQ f a c := by
  induction k with
  | here => exact h
  | step _ hv ih => exact .step ih hv
theorem rt_rq (M : Mach n ws [p]) {s y : Str} (hs : Norm n p s) (h : RT (adjM n ws [p]) s y) : Norm n p y ∧ RQ (adjF ws p) (psi n p s) (psi n p y) := by
  induction h with
  | here => exact ⟨hs, .here⟩
  | step _ hv ih =>
    obtain ⟨a, b⟩ := psi_step M ih.1 hv
    exact ⟨a, .step ih.2 b⟩
theorem rq_rt (M : Mach n ws [p]) {s : Str} (hs : Norm n p s) {q : Pr} (h : RQ (adjF ws p) (psi n p s) q) : ∃ y, Norm n p y ∧ psi n p y = q ∧ RT (adjM n ws [p]) s y := by
  induction h with
  | here => exact ⟨s, hs, rfl, .here⟩
  | step _ hv ih =>
    obtain ⟨y, ny, ey, r⟩ := ih
    rw [← ey] at hv
    obtain ⟨z, hz, _, ez, nz⟩ := psi_back M ny hv
    exact ⟨z, nz, ez, .step r hz⟩
theorem place_norm (M : Mach n ws [p]) {x : Str} (h : x ∈ placesL ws) : Norm n p x := by
  refine .inr ?_
  rcases List.mem_append.mp h with h | h <;> obtain ⟨v, hv, rfl⟩ := List.mem_map.mp h <;> have := M.each v hv
  · unfold iniS; rw [len_mkS, List.length_take, ← len_tl]; omega
  · unfold taiS; rw [len_mkS, List.length_drop, ← len_tl]; omega
/-- the pairs that were found: those to which places lead -/
structure KSet (n : Nat) (ws : List Str) (p : Str) (ks : List Pr) : Prop where
  pl : ∀ x ∈ placesL ws, psi n p x ∈ ks
  cl : ∀ q ∈ ks, ∀ st ∈ adjF ws p q, st.2 ∈ ks
  rc : ∀ q ∈ ks, ∃ x ∈ placesL ws, RQ (adjF ws p) (psi n p x) q
/-- what the law looks for -/
def FreeK (ws : List Str) (p : Str) (w0 : Str) (ks : List Pr) : Prop := ∃ q ∈ ks, ∃ st ∈ adjF ws p q, st.1 = w0 ∧ RQ (adjF ws p) st.2 q ∧
  ∀ v ∈ ws, ∃ one, RQ (adjF ws p) st.2 one ∧ RQ (adjF ws p) one st.2 ∧ ∃ s2 ∈ adjF ws p one, s2.1 = v ∧ RQ (adjF ws p) s2.2 st.2
theorem KSet.rqcl {ks : List Pr} (G : KSet n ws p ks) {a b : Pr} (h : RQ (adjF ws p) a b) (ha : a ∈ ks) : b ∈ ks := by
  induction h with
  | here => exact ha
  | step _ hv ih => exact G.cl _ ih _ hv
theorem free_reads {ks : List Pr} {w0 : Str} (M : Mach n ws [p]) (G : KSet n ws p ks) (h : FreeK ws p w0 ks) : ∃ s, (∃ x ∈ placesL ws, RT (adjM n ws [p]) x s) ∧ Reads n ws [p] s := by
  obtain ⟨q, hq, st, hst, _, back, all⟩ := h
  obtain ⟨x, hx, rx⟩ := G.rc st.2 (G.cl q hq st hst)
  obtain ⟨s, ns, es, rs⟩ := rq_rt M (place_norm M hx) rx
  refine ⟨s, ⟨x, hx, rs⟩, fun v hv => ?_⟩
  obtain ⟨one, r1, r2, s2, hs2, ev, r3⟩ := all v hv
  rw [← es] at r1 r2 r3
  obtain ⟨a, na, ea, ra⟩ := rq_rt M ns r1
  rw [← ea] at r2 hs2
  obtain ⟨s', ns', es', rs'⟩ := rq_rt M na r2
  obtain ⟨y, hy, wy, ey, ny⟩ := psi_back M na hs2
  rw [← ey] at r3
  obtain ⟨s'', ns'', es'', rs''⟩ := rq_rt M ny r3
  have i1 := psi_inj M ns' ns es'
  have i2 := psi_inj M ns'' ns es''
  subst i1
  subst i2
  exact ⟨a, y, ⟨ra, rs'⟩, ⟨ra.trans (.step .here hy), rs''⟩, hy, by rw [wy, ev]⟩
theorem reads_free {ks : List Pr} {w0 s : Str} (M : Mach n ws [p]) (G : KSet n ws p ks) (h0 : w0 ∈ ws) (hx : ∃ x ∈ placesL ws, RT (adjM n ws [p]) x s) (h : Reads n ws [p] s) : FreeK ws p w0 ks := by
  obtain ⟨x, hx, rx⟩ := hx
  obtain ⟨ns, rq⟩ := rt_rq M (place_norm M hx) rx
  have ks0 := G.rqcl rq (G.pl x hx)
  obtain ⟨a, y, ka, ky, hy, ew⟩ := h w0 h0
  obtain ⟨na, ra⟩ := rt_rq M ns ka.1
  obtain ⟨ny, st⟩ := psi_step M na hy
  refine ⟨psi n p a, G.rqcl ra ks0, _, st, ew, (rt_rq M ny (ky.2.trans ka.1)).2, fun v hv => ?_⟩
  obtain ⟨b, z, kb, kz, hz, ev⟩ := h v hv
  obtain ⟨nb, rb⟩ := rt_rq M ny (ky.2.trans kb.1)
  obtain ⟨nz, sz⟩ := psi_step M nb hz
  exact ⟨psi n p b, rb, (rt_rq M nb (kb.2.trans ky.1)).2, _, sz, ev, (rt_rq M nz (kz.2.trans ky.1)).2⟩
/-- a ring text that fits and lacks the piece, and what the law looks for -/
theorem ring_free {ks : List Pr} {w0 : Str} {l : List Nat} (M : Mach n ws [p]) (G : KSet n ws p ks) (h0 : w0 ∈ ws) (R : RingIn n ws [p] l) (all : ∀ v ∈ ws, v ∈ turns n l) : FreeK ws p w0 ks := by
  classical
  have ch : ∀ q ∈ ks, ∃ s, Norm n p s ∧ psi n p s = q ∧ ∃ x ∈ placesL ws, RT (adjM n ws [p]) x s := fun q hq => by
    obtain ⟨x, hx, r⟩ := G.rc q hq
    obtain ⟨s, ns, es, rs⟩ := rq_rt M (place_norm M hx) r
    exact ⟨s, ns, es, x, hx, rs⟩
  let f : Pr → Str := fun q => if h : q ∈ ks then Classical.choose (ch q h) else q.1
  have hf : ∀ q ∈ ks, Norm n p (f q) ∧ psi n p (f q) = q ∧ ∃ x ∈ placesL ws, RT (adjM n ws [p]) x (f q) := fun q hq => by
    have : f q = Classical.choose (ch q hq) := dif_pos hq
    rw [this]
    exact Classical.choose_spec (ch q hq)
  have hp : ∀ x ∈ placesL ws, x ∈ ks.map f := fun x hx => by
    have h1 := G.pl x hx
    exact List.mem_map.mpr ⟨_, h1, psi_inj M (hf _ h1).1 (place_norm M hx) (hf _ h1).2.1⟩
  have cl : ∀ x ∈ ks.map f, ∀ y ∈ adjM n ws [p] x, y ∈ ks.map f := fun x hx y hy => by
    obtain ⟨q, hq, rfl⟩ := List.mem_map.mp hx
    obtain ⟨ny, st⟩ := psi_step M (hf q hq).1 hy
    rw [(hf q hq).2.1] at st
    have h2 := G.cl q hq _ st
    exact List.mem_map.mpr ⟨_, h2, psi_inj M (hf _ h2).1 ny (hf _ h2).2.1⟩
  obtain ⟨s, hs, rd⟩ := R.reads (ns := ks.map f) M all hp cl
  obtain ⟨q, hq, rfl⟩ := List.mem_map.mp hs
  exact reads_free M G h0 (hf q hq).2.2 rd
end
end Tx

set_option Elab.async false
set_option linter.all false
set_option maxRecDepth 100000
set_option maxHeartbeats 1000000
namespace Tx
/-! ### walks of links, and what stands in each closed walk that takes all links -/
section
variable {E Pl : Type} [DecidableEq E] [DecidableEq Pl] (s t : E → Pl)
def Wlx : Pl → List E → Pl → Prop
  | p, [], q => p = q
  | p, e :: l, q => s e = p ∧ Wlx (t e) l q
variable {s t}
theorem Wlx.app : ∀ {x y : List E} {p q : Pl}, Wlx s t p (x ++ y) q ↔ ∃ r, Wlx s t p x r ∧ Wlx s t r y q
  | [], y, p, q => ⟨fun h => ⟨p, rfl, h⟩, fun ⟨r, h1, h2⟩ => by cases (show p = r from h1); exact h2⟩
  | e :: x, y, p, q => by
    show (s e = p ∧ Wlx s t (t e) (x ++ y) q) ↔ ∃ r, (s e = p ∧ Wlx s t (t e) x r) ∧ Wlx s t r y q
    rw [Wlx.app]
    exact ⟨fun ⟨h, r, h1, h2⟩ => ⟨r, ⟨h, h1⟩, h2⟩, fun ⟨r, ⟨h, h1⟩, h2⟩ => ⟨h, r, h1, h2⟩⟩
theorem Wlx.cons {e : E} {l : List E} {p q : Pl} : Wlx s t p (e :: l) q ↔ s e = p ∧ Wlx s t (t e) l q := Iff.rfl
theorem Wlx.from : ∀ {l : List E} {p p' q : Pl}, Wlx s t p l q → Wlx s t p' l q → p = p'
  | [], _, _, _, h, k => (show _ = _ from h).trans (show _ = _ from k).symm
  | _ :: _, _, _, _, h, k => h.1.symm.trans k.1
theorem Wlx.end : ∀ {l : List E} {e : E} {p q : Pl}, Wlx s t p (l ++ [e]) q → t e = q := fun {l e p q} h => by
  obtain ⟨r, _, h2⟩ := Wlx.app.mp h
  exact h2.2
def repX (n : Nat) (l : List E) : List E := (List.replicate n l).flatten
theorem repX_succ (n : Nat) (l : List E) : repX (n + 1) l = l ++ repX n l := rfl
theorem repX_add (l : List E) : ∀ (n m : Nat), repX (n + m) l = repX n l ++ repX m l
  | 0, m => by rw [Nat.zero_add]; rfl
  | n + 1, m => by rw [show n + 1 + m = n + m + 1 by omega, repX_succ, repX_add l n m, repX_succ, List.append_assoc]
theorem repX_one (l : List E) : repX 1 l = l := by unfold repX; simp
theorem repX_len (l : List E) (n : Nat) : (repX n l).length = n * l.length := by
  unfold repX; rw [List.length_flatten, List.map_replicate, List.sum_replicate_nat]
theorem mem_repX {l : List E} {n : Nat} {x : E} (h : x ∈ repX n l) : x ∈ l := by
  obtain ⟨k, hk, hx⟩ := List.mem_flatten.mp h
  rw [List.eq_of_mem_replicate hk] at hx
  exact hx
theorem Wlx.rep {l : List E} {p : Pl} (h : Wlx s t p l p) : ∀ n, Wlx s t p (repX n l) p
  | 0 => rfl
  | n + 1 => Wlx.app.mpr ⟨p, h, Wlx.rep h n⟩
def OccX (w l : List E) : Prop := ∃ n, w <:+: repX n l
/-- a closed walk that takes all links -/
structure CovX (s t : E → Pl) (es l : List E) : Prop where
  ne : l ≠ []
  sub : ∀ e ∈ l, e ∈ es
  all : ∀ e ∈ es, e ∈ l
  cl : ∃ p, Wlx s t p l p
/-- behind each link a the links L -/
def insX (a : E) (L : List E) (l : List E) : List E := l.flatMap fun e => if e = a then a :: L else [e]
theorem insX_cons (a : E) (L : List E) (e : E) (l : List E) : insX a L (e :: l) = (if e = a then a :: L else [e]) ++ insX a L l := List.flatMap_cons ..
theorem insX_app (a : E) (L x y : List E) : insX a L (x ++ y) = insX a L x ++ insX a L y := List.flatMap_append ..
theorem insX_rep (a : E) (L l : List E) : ∀ n, insX a L (repX n l) = repX n (insX a L l)
  | 0 => rfl
  | n + 1 => by rw [repX_succ, insX_app, insX_rep a L l n, repX_succ]
theorem insX_wlx {a : E} {L : List E} (hL : Wlx s t (t a) L (t a)) : ∀ {l : List E} {p q : Pl}, Wlx s t p l q → Wlx s t p (insX a L l) q
  | [], _, _, h => h
  | e :: l, p, q, h => by
    rw [insX_cons]
    by_cases c : e = a
    · rw [if_pos c]
      refine Wlx.app.mpr ⟨t a, ⟨by rw [← c]; exact h.1, hL⟩, insX_wlx hL ?_⟩
      rw [← c]; exact h.2
    · rw [if_neg c]
      exact Wlx.app.mpr ⟨t e, ⟨h.1, rfl⟩, insX_wlx hL h.2⟩
theorem insX_mem {a : E} {L l : List E} {x : E} : x ∈ insX a L l → x ∈ l ∨ x ∈ L := fun h => by
  obtain ⟨e, he, h⟩ := List.mem_flatMap.mp h
  by_cases c : e = a
  · rw [if_pos c] at h
    rcases List.mem_cons.mp h with h | h
    · rw [h, ← c]; exact .inl he
    · exact .inr h
  · rw [if_neg c] at h
    rw [List.mem_singleton.mp h]; exact .inl he
theorem mem_insX {a : E} {L l : List E} {x : E} (h : x ∈ l) : x ∈ insX a L l := List.mem_flatMap.mpr ⟨x, h, by
  by_cases c : x = a
  · rw [if_pos c, c]; exact List.mem_cons_self ..
  · rw [if_neg c]; exact List.mem_singleton.mpr rfl⟩
/-- each a is followed by L -/
theorem insX_key {a : E} {L : List E} (hL : a ∉ L) : ∀ {x u v : List E}, insX a L x = u ++ a :: v → L <+: v
  | [], u, v, h => by
    have := congrArg List.length h
    rw [List.length_append] at this
    simp [insX] at this
  | e :: x, u, v, h => by
    rw [insX_cons] at h
    by_cases c : e = a
    · rw [if_pos c] at h
      cases u with
      | nil =>
        have h : a :: (L ++ insX a L x) = a :: v := h
        injection h with _ h
        exact ⟨_, h⟩
      | cons b u =>
        have h : a :: (L ++ insX a L x) = b :: (u ++ a :: v) := h
        injection h with _ h
        rcases List.append_eq_append_iff.mp h with ⟨as, e1, e2⟩ | ⟨bs, e1, e2⟩
        · exact insX_key hL (u := as) e2
        · cases bs with
          | nil =>
            exact insX_key hL (u := []) (show insX a L x = [] ++ a :: v from e2.symm)
          | cons b' bs =>
            have e2 : a :: v = b' :: (bs ++ insX a L x) := e2
            injection e2 with e2 _
            exact absurd (by rw [e1, e2]; exact List.mem_append_right _ (List.mem_cons_self ..)) hL
    · rw [if_neg c] at h
      cases u with
      | nil =>
        have h : e :: insX a L x = a :: v := h
        injection h with h _
        exact absurd h c
      | cons b u =>
        have h : e :: insX a L x = b :: (u ++ a :: v) := h
        injection h with _ h
        exact insX_key hL h
theorem CovX.ins {es l L : List E} {a : E} (C : CovX s t es l) (hL : Wlx s t (t a) L (t a)) (sub : ∀ e ∈ L, e ∈ es) : CovX s t es (insX a L l) := by
  obtain ⟨p, h⟩ := C.cl
  refine ⟨fun e => ?_, fun e he => (insX_mem he).elim (C.sub e) (sub e), fun e he => mem_insX (C.all e he), p, insX_wlx hL h⟩
  cases hl : l with
  | nil => exact C.ne hl
  | cons x l' =>
    have : x ∈ insX a L l := mem_insX (by rw [hl]; exact List.mem_cons_self ..)
    rw [e] at this; cases this
/-- a leaving, where a is the link ahead of the one place and c the link behind the other -/
structure LeavX (s t : E → Pl) (a c : E) (W : List E) : Prop where
  ne : W ≠ []
  wk : Wlx s t (s c) W (t a)
  hd : W.head? ≠ some c
  la : W.getLast? ≠ some a
  inn : ∀ e ∈ W.dropLast, t e ≠ t a ∧ t e ≠ s c
/-- a piece without a leaving by these links -/
def NoLeav (s t : E → Pl) (es w : List E) : Prop := ∀ A a D c B, w = A ++ a :: (D ++ c :: B) → ∀ W, (∀ e ∈ W, e ∈ es) → ¬ LeavX s t a c W
theorem NoLeav.fac {es w f A' B' : List E} (h : NoLeav s t es w) (e : w = A' ++ f ++ B') : NoLeav s t es f := fun A a D c B ef W hW L => h (A' ++ A) a D c (B ++ B') (by rw [e, ef]; simp) W hW L
theorem LeavX.notin {a c : E} {W : List E} (h : LeavX s t a c W) : a ∉ W := fun ha => by
  have e := (List.dropLast_concat_getLast h.ne).symm
  rw [e] at ha
  rcases List.mem_append.mp ha with ha | ha
  · exact (h.inn a ha).1 rfl
  · refine h.la ?_
    rw [List.getLast?_eq_some_getLast h.ne, ← List.mem_singleton.mp ha]
theorem Wlx.sub {l A f B : List E} {p q : Pl} (h : Wlx s t p l q) (e : l = A ++ f ++ B) : ∃ p' q', Wlx s t p' f q' := by
  rw [e] at h
  obtain ⟨r, h1, _⟩ := Wlx.app.mp h
  obtain ⟨r', _, h2⟩ := Wlx.app.mp h1
  exact ⟨r', r, h2⟩
/-- a leaving lets a closed walk that takes all links be without the piece -/
theorem leav_free {es l w : List E} (C : CovX s t es l) : ∀ (m : Nat) (A : List E) (a : E) (D : List E) (c : E) (B W : List E), D.length ≤ m → w = A ++ a :: (D ++ c :: B) → (∃ p q, Wlx s t p w q) → (∀ e ∈ w, e ∈ es) → (∀ e ∈ W, e ∈ es) → LeavX s t a c W → ∃ l', CovX s t es l' ∧ ¬ OccX w l'
  | m, A, a, D, c, B, W, hm, e, hw, we, We, L => by
    by_cases ha : ∃ a' ∈ D, t a' = t a ∧ W.getLast? ≠ some a'
    · obtain ⟨a', h1, h2, h3⟩ := ha
      obtain ⟨D1, D2, eD⟩ := List.append_of_mem h1
      have dl : D2.length + 1 ≤ D.length := by rw [eD, List.length_append, List.length_cons]; omega
      cases m with
      | zero => omega
      | succ m =>
        exact leav_free C m (A ++ a :: D1) a' D2 c B W (by omega) (by rw [e, eD]; simp) hw we We ⟨L.ne, by rw [h2]; exact L.wk, L.hd, h3, fun x hx => by rw [h2]; exact L.inn x hx⟩
    · have aD : a ∉ D := fun h => ha ⟨a, h, rfl, L.la⟩
      have aL : a ∉ D ++ W := fun h => (List.mem_append.mp h).elim aD L.notin
      have hD : Wlx s t (t a) D (s c) := by
        obtain ⟨p, q, hw⟩ := hw
        rw [e] at hw
        obtain ⟨r, _, h2⟩ := Wlx.app.mp hw
        obtain ⟨r', h3, h4⟩ := Wlx.app.mp h2.2
        rw [h4.1]; exact h3
      have DW : ∀ x ∈ D ++ W, x ∈ es := fun x hx => (List.mem_append.mp hx).elim (fun h => we x (by rw [e]; exact List.mem_append_right _ (List.mem_cons_of_mem _ (List.mem_append_left _ h)))) (We x)
      refine ⟨insX a (D ++ W) l, C.ins (Wlx.app.mpr ⟨_, hD, L.wk⟩) DW, ?_⟩
      rintro ⟨n, u, v, h⟩
      rw [← insX_rep] at h
      have k := insX_key aL (x := repX n l) (u := u ++ A) (v := D ++ c :: B ++ v) (by rw [← h, e]; simp)
      obtain ⟨z, ez⟩ := k
      rw [List.append_assoc, List.append_assoc] at ez
      have ez := List.append_cancel_left ez
      cases hW : W with
      | nil => exact L.ne hW
      | cons b W' =>
        rw [hW] at ez
        have ez : b :: (W' ++ z) = c :: (B ++ v) := ez
        injection ez with ez _
        exact L.hd (by rw [hW, ez]; rfl)
theorem firstX {p : E → Prop} [DecidablePred p] : ∀ {m : List E}, (∃ e ∈ m, p e) → ∃ x e y, m = x ++ e :: y ∧ p e ∧ ∀ d ∈ x, ¬ p d
  | [], ⟨e, h, _⟩ => by cases h
  | b :: m, ⟨e, h, pe⟩ => by
    by_cases c : p b
    · exact ⟨[], b, m, rfl, c, fun d hd => by cases hd⟩
    · have h := (List.mem_cons.mp h).resolve_left fun z => c (z ▸ pe)
      obtain ⟨x, e', y, h1, h2, h3⟩ := firstX ⟨e, h, pe⟩
      exact ⟨b :: x, e', y, by rw [h1]; rfl, h2, fun d hd => (List.mem_cons.mp hd).elim (fun z => z ▸ c) (h3 d)⟩
theorem lastX {p : E → Prop} [DecidablePred p] : ∀ {m : List E}, (∃ e ∈ m, p e) → ∃ x e y, m = x ++ e :: y ∧ p e ∧ ∀ d ∈ y, ¬ p d
  | [], ⟨e, h, _⟩ => by cases h
  | b :: m, ⟨e, h, pe⟩ => by
    by_cases c : ∃ e ∈ m, p e
    · obtain ⟨x, e', y, h1, h2, h3⟩ := lastX c
      exact ⟨b :: x, e', y, by rw [h1]; rfl, h2, h3⟩
    · have h := (List.mem_cons.mp h).resolve_right fun z => c ⟨e, z, pe⟩
      exact ⟨[], b, m, rfl, h ▸ pe, fun d hd pd => c ⟨d, hd, pd⟩⟩
/-- what is an end of P and of P with R behind it is made of R's links -/
theorem suf_mem {P R : List E} (hR : R ≠ []) : ∀ (n : Nat) (Q : List E), Q.length ≤ n → Q <:+ P → Q <:+ P ++ R → ∀ y ∈ Q, y ∈ R
  | n, Q, hn, h1, h2, y, hy => by
    by_cases c : Q.length ≤ R.length
    · exact (List.suffix_of_suffix_length_le h2 (List.suffix_append _ _) c).subset hy
    · obtain ⟨U, hU⟩ := h2
      obtain ⟨Q', eQ⟩ : ∃ Q', Q = Q' ++ R := by
        have : R <:+ Q := List.suffix_of_suffix_length_le (List.suffix_append P R) ⟨U, hU⟩ (by omega)
        obtain ⟨Q', e⟩ := this
        exact ⟨Q', e.symm⟩
      have s1 : Q' <:+ P := by
        rw [eQ, ← List.append_assoc] at hU
        exact ⟨U, List.append_cancel_right hU⟩
      have rl : 0 < R.length := List.length_pos_iff.mpr hR
      have ql : Q'.length + R.length = Q.length := by rw [eQ, List.length_append]
      have s2 : Q' <:+ Q := List.suffix_of_suffix_length_le s1 h1 (by omega)
      rw [eQ] at hy
      rcases List.mem_append.mp hy with hy | hy
      · cases n with
        | zero => omega
        | succ n => exact suf_mem hR n Q' (by omega) s1 (s2.trans ⟨U, hU⟩) y hy
      · exact hy
/-- a loop whose links come to places of P as P does -/
theorem loop_suf {P R : List E} {p v : Pl} (hP : Wlx s t p P v) (hR : Wlx s t v R v) (ne : R ≠ []) (la : ∀ r ∈ R, ∀ a ∈ P, t r = t a → r = a) : P <:+ P ++ R := by
  have key : ∀ Q B, P = B ++ Q → Q <:+ P ++ R := by
    intro Q
    induction Q with
    | nil => intro B _; exact List.nil_suffix
    | cons a Q ih =>
      intro B e
      obtain ⟨U, hU⟩ := ih (B ++ [a]) (by rw [e]; simp)
      have rl : 0 < R.length := List.length_pos_iff.mpr ne
      have len := congrArg List.length hU
      have lenP := congrArg List.length e
      simp only [List.length_append, List.length_cons] at len lenP
      rcases List.eq_nil_or_concat U with rfl | ⟨U', x, rfl⟩
      · simp only [List.length_nil] at len; omega
      rw [List.concat_eq_append] at hU len
      simp only [List.length_append, List.length_cons, List.length_nil] at len
      have hw : Wlx s t p (P ++ R) v := Wlx.app.mpr ⟨v, hP, hR⟩
      rw [← hU] at hw
      obtain ⟨q, w1, w2⟩ := Wlx.app.mp hw
      have ha : Wlx s t (t a) Q v := by
        rw [e] at hP
        obtain ⟨r, _, h2⟩ := Wlx.app.mp hP
        exact h2.2
      have tx : t x = t a := by rw [Wlx.end w1]; exact Wlx.from w2 ha
      have aP : a ∈ P := by rw [e]; exact List.mem_append_right _ (List.mem_cons_self ..)
      have xR : x ∈ R := by
        rw [List.append_assoc] at hU
        rcases List.append_eq_append_iff.mp hU with ⟨as, e1, e2⟩ | ⟨bs, e1, e2⟩
        · -- P = U' ++ as
          have sQ : Q <:+ P := by rw [e]; exact ⟨B ++ [a], by simp⟩
          have QR : Q <:+ P ++ R := ⟨U' ++ [x], by rw [List.append_assoc]; exact hU⟩
          cases as with
          | nil =>
            have e2 : x :: Q = R := e2
            rw [← e2]; exact List.mem_cons_self ..
          | cons x' as =>
            have e2 : x :: Q = x' :: (as ++ R) := e2
            injection e2 with e2 e3
            subst e2
            have xQ : x ∈ Q := by
              have lu : B.length + 1 ≤ U'.length := by omega
              have e4 : B ++ [a] ++ Q = U' ++ x :: as := by rw [← e1, e]; simp
              rcases List.append_eq_append_iff.mp e4 with ⟨cs, f1, f2⟩ | ⟨cs, f1, f2⟩
              · rw [f2]; exact List.mem_append_right _ (List.mem_cons_self ..)
              · have := congrArg List.length f1
                simp only [List.length_append, List.length_cons, List.length_nil] at this
                cases cs with
                | nil => have f2 : x :: as = Q := f2; rw [← f2]; exact List.mem_cons_self ..
                | cons _ _ => simp only [List.length_cons] at this; omega
            exact suf_mem ne Q.length Q (Nat.le_refl _) sQ QR x xQ
        · rw [e2]
          exact List.mem_append_right _ (List.mem_cons_self ..)
      have := la x xR a aP tx
      subst this
      exact ⟨U', by rw [← hU]; simp⟩
  exact key P [] rfl
theorem occ_end {w : List E} {l : List E} {n : Nat} {u P m v : List E} {c : E} (e : repX n l = u ++ P ++ m ++ c :: v) (ew : w = P ++ [c]) (h : P <:+ P ++ m) : OccX w l := by
  obtain ⟨z, hz⟩ := h
  refine ⟨n, u ++ z, v, ?_⟩
  rw [ew, e]
  have : u ++ P ++ m ++ c :: v = u ++ (P ++ m) ++ ([c] ++ v) := by simp
  rw [this, ← hz]
  simp
/-- a piece without a leaving stands in each closed walk that takes all links -/
theorem sure_of {es : List E} : ∀ (k : Nat) (w l : List E), w.length ≤ k → w ≠ [] → (∃ p q, Wlx s t p w q) → (∀ e ∈ w, e ∈ es) → NoLeav s t es w → CovX s t es l → OccX w l
  | 0, w, l, hk, hw, _, _, _, _ => absurd (List.length_pos_iff.mpr hw) (by omega)
  | k + 1, w, l, hk, hw, wk, we, no, C => by
    rcases List.eq_nil_or_concat w with rfl | ⟨P, c, rfl⟩
    · exact absurd rfl hw
    rw [List.concat_eq_append] at hk wk we no ⊢
    have hce : c ∈ es := we c (List.mem_append_right _ (List.mem_singleton.mpr rfl))
    have hcl := C.all c hce
    rw [List.length_append, List.length_singleton] at hk
    by_cases hP : P = []
    · subst hP
      obtain ⟨x, y, e⟩ := List.append_of_mem hcl
      exact ⟨1, x, y, by rw [repX_one, e]; simp⟩
    obtain ⟨p, q, wk⟩ := wk
    obtain ⟨v, wP, wc⟩ := Wlx.app.mp wk
    have hv : v = s c := wc.1.symm
    subst hv
    have noP : NoLeav s t es P := no.fac (A' := []) (B' := [c]) rfl
    obtain ⟨n, u, v, e⟩ := sure_of k P l (by omega) hP ⟨p, _, wP⟩ (fun x hx => we x (List.mem_append_left _ hx)) noP C
    obtain ⟨m, c', y, em, ec, hm⟩ := firstX (p := fun x => x = c) (m := v ++ l) ⟨c, List.mem_append_right _ hcl, rfl⟩
    subst ec
    have e2 : repX (n + 1) l = u ++ P ++ m ++ c' :: y := by
      rw [repX_add, repX_one, ← e, List.append_assoc, em]; simp
    refine occ_end e2 rfl ?_
    -- the walk behind the piece's beginning, to the link that it lacks
    obtain ⟨p0, hcl0⟩ := C.cl
    have wm : Wlx s t (s c') m (s c') := by
      have h := hcl0.rep (n + 1)
      rw [e2, List.append_assoc, List.append_assoc] at h
      obtain ⟨r1, _, h⟩ := Wlx.app.mp h
      obtain ⟨r2, h1, h⟩ := Wlx.app.mp h
      obtain ⟨r3, h2, h3⟩ := Wlx.app.mp h
      rw [← h3.1] at h2
      rcases List.eq_nil_or_concat P with hn | ⟨P', a, rfl⟩
      · exact absurd hn hP
      rw [List.concat_eq_append] at h1 wP
      have := Wlx.end h1
      have := Wlx.end wP
      rwa [show r2 = s c' by rw [← Wlx.end h1, ← Wlx.end wP]] at h2
    have me : ∀ x ∈ m, x ∈ es := fun x hx => C.sub x (mem_repX (n := n + 1) (by rw [e2]; simp [hx]))
    -- one loop
    have loop : ∀ R : List E, R ≠ [] → Wlx s t (s c') R (s c') → (∀ x ∈ R, x ∈ es) → c' ∉ R → (∀ d ∈ R.dropLast, t d ≠ s c') → P <:+ P ++ R := by
      intro R ne wR Re cR inn
      refine loop_suf wP wR ne fun r hr a ha tr => Classical.byContradiction fun nra => ?_
      obtain ⟨X, Y, eR⟩ := List.append_of_mem hr
      obtain ⟨A, B, eP⟩ := List.append_of_mem ha
      have eR' : R = X ++ [r] ++ Y := by rw [eR]; simp
      have Xin : ∀ d ∈ X, t d ≠ s c' := fun d hd => inn d (by rw [eR, List.dropLast_append_of_ne_nil (by simp)]; exact List.mem_append_left _ hd)
      have wXr : Wlx s t (s c') (X ++ [r]) (t r) := by
        rw [eR'] at wR
        obtain ⟨q', h1, _⟩ := Wlx.app.mp wR
        rw [Wlx.end h1]; exact h1
      have hXr : (X ++ [r]).head? ≠ some c' := fun h => cR (by rw [eR']; exact List.mem_append_left _ (List.mem_of_head? h))
      have Xre : ∀ x ∈ X ++ [r], x ∈ es := fun x hx => Re x (by rw [eR']; exact List.mem_append_left _ hx)
      have ew : P ++ [c'] = A ++ a :: (B ++ c' :: []) := by rw [eP]; simp
      by_cases back : ∃ d ∈ X, t d = t a
      · obtain ⟨X1, d, X2, eX, td, hX2⟩ := lastX back
        have tav : t a ≠ s c' := fun h => Xin d (by rw [eX]; simp) (td.trans h)
        -- the closed walk Z at a's end, that never comes to where the piece's last link begins
        have wZ : Wlx s t (t a) (X2 ++ [r]) (t a) := by
          have h := wXr
          rw [show X ++ [r] = X1 ++ [d] ++ (X2 ++ [r]) by rw [eX]; simp] at h
          obtain ⟨q', h1, h2⟩ := Wlx.app.mp h
          rw [← Wlx.end h1, td, tr] at h2; exact h2
        have aZ : a ∉ X2 ++ [r] := fun h => (List.mem_append.mp h).elim (fun h => hX2 a h rfl) fun h => nra (List.mem_singleton.mp h).symm
        have vZ : ∀ x ∈ X2 ++ [r], t x ≠ s c' := fun x hx => (List.mem_append.mp hx).elim (fun h => Xin x (by rw [eX]; simp [h])) fun h => by rw [List.mem_singleton.mp h, tr]; exact tav
        have aZN : a ∉ repX B.length (X2 ++ [r]) := fun h => aZ (mem_repX h)
        have C2 : CovX s t es (insX a (repX B.length (X2 ++ [r])) l) := C.ins (wZ.rep _) fun x hx => Xre x (by
          have := mem_repX hx
          rw [eX]
          rcases List.mem_append.mp this with h | h
          · simp [h]
          · simp [List.mem_singleton.mp h])
        have Bne : B ≠ [] := fun hB => by
          rw [eP, hB] at wP
          exact tav (Wlx.end wP)
        have pl := congrArg List.length eP
        rw [List.length_append, List.length_cons] at pl
        obtain ⟨n', u', v', e'⟩ := sure_of k (a :: B) _ (by rw [List.length_cons]; omega) (by simp) (wP.sub (A := A) (B := []) (by rw [eP]; simp)) (fun x hx => we x (by rw [ew]; simp at hx ⊢; rcases hx with h | h <;> simp [h])) (no.fac (A' := A) (B' := [c']) (by rw [ew]; simp)) C2
        rw [← insX_rep] at e'
        have kk := insX_key aZN (x := repX n' l) (u := u') (v := B ++ v') (by rw [← e']; simp)
        have rl : B.length ≤ (repX B.length (X2 ++ [r])).length := by
          rw [repX_len, List.length_append, List.length_singleton]
          exact Nat.le_mul_of_pos_right _ (by omega)
        have BZ : B <+: repX B.length (X2 ++ [r]) := List.prefix_of_prefix_length_le (List.prefix_append _ _) kk rl
        rcases List.eq_nil_or_concat B with hB | ⟨B', b, hB⟩
        · exact Bne hB
        rw [List.concat_eq_append] at hB
        have bZ : b ∈ X2 ++ [r] := mem_repX (BZ.subset (by rw [hB]; simp))
        refine vZ b bZ ?_
        rw [eP, hB, show A ++ a :: (B' ++ [b]) = (A ++ a :: B') ++ [b] by simp] at wP
        exact Wlx.end wP
      · refine no A a B c' [] ew (X ++ [r]) Xre ⟨by simp, by rw [← tr]; exact wXr, hXr, ?_, fun d hd => ?_⟩
        · rw [List.getLast?_append]; simp; exact nra
        · rw [List.dropLast_concat] at hd
          exact ⟨fun h => back ⟨d, hd, h⟩, Xin d hd⟩
    -- loop by loop
    have claim : ∀ (j : Nat) (m : List E), m.length ≤ j → Wlx s t (s c') m (s c') → (∀ x ∈ m, x ∈ es) → c' ∉ m → P <:+ P ++ m := by
      intro j
      induction j with
      | zero =>
        intro m hj _ _ _
        rw [List.length_eq_zero_iff.mp (show m.length = 0 by omega), List.append_nil]
        exact List.suffix_refl _
      | succ j ih =>
        intro m hj wm me cm
        by_cases hm0 : m = []
        · rw [hm0, List.append_nil]; exact List.suffix_refl _
        rcases List.eq_nil_or_concat m with h0 | ⟨m1, z, hz⟩
        · exact absurd h0 hm0
        rw [List.concat_eq_append] at hz
        obtain ⟨x, f, y, e3, tf, hx⟩ := firstX (p := fun d => t d = s c') (m := m) ⟨z, by rw [hz]; simp, by rw [hz] at wm; exact Wlx.end wm⟩
        have e4 : m = (x ++ [f]) ++ y := by rw [e3]; simp
        have wm' := wm
        rw [e4] at wm'
        obtain ⟨q', h1, h2⟩ := Wlx.app.mp wm'
        have hq : q' = s c' := by rw [← Wlx.end h1, tf]
        subst hq
        have s1 := loop (x ++ [f]) (by simp) h1 (fun d hd => me d (by rw [e4]; exact List.mem_append_left _ hd)) (fun h => cm (by rw [e4]; exact List.mem_append_left _ h)) (fun d hd => hx d (by rwa [List.dropLast_concat] at hd))
        have ly : y.length ≤ j := by rw [e4, List.length_append, List.length_append, List.length_singleton] at hj; omega
        have s2 := ih y ly h2 (fun d hd => me d (by rw [e4]; exact List.mem_append_right _ hd)) (fun h => cm (by rw [e4]; exact List.mem_append_right _ h))
        obtain ⟨z1, ez1⟩ := s1
        refine s2.trans ⟨z1, ?_⟩
        rw [e4, ← List.append_assoc, ez1]; simp
    exact claim m.length m (Nat.le_refl _) wm me fun h => hm c' h rfl
end
end Tx

set_option Elab.async false
set_option linter.all false
set_option maxRecDepth 100000
set_option maxHeartbeats 1000000
namespace Tx
open PySem PySem.Spec PyProof.Rows L2 TL
theorem wlx_range {f g : Nat → Str} : ∀ m, (∀ i, i < m → iniS (f i) = g i ∧ taiS (f i) = g (i + 1)) → Wlx iniS taiS (g 0) ((List.range m).map f) (g m)
  | 0, _ => rfl
  | m + 1, h => by
    rw [List.range_succ, List.map_append]
    exact Wlx.app.mpr ⟨g m, wlx_range m fun i hi => h i (by omega), (h m (by omega)).1, (h m (by omega)).2⟩
theorem seg_per (l : List Nat) (a n : Nat) : seg l (a + l.length) n = seg l a n := seg_ext fun k _ => pr_cong _ (by rw [show a + l.length + k = a + k + l.length by omega, Nat.add_mod_right])
theorem turns_wlx {l : List Nat} {n : Nat} (hn : 1 ≤ n) : Wlx iniS taiS (mkS (seg l 0 (n - 1))) (turns n l) (mkS (seg l 0 (n - 1))) := by
  have h := wlx_range (f := fun a => mkS (seg l a n)) (g := fun a => mkS (seg l a (n - 1))) l.length fun i _ => by
    refine ⟨ini_seg l i hn, ?_⟩
    obtain ⟨m, rfl⟩ : ∃ m, n = m + 1 := ⟨n - 1, by omega⟩
    exact tai_seg l i m
  have e := seg_per l 0 (n - 1)
  rw [Nat.zero_add] at e
  have h : Wlx iniS taiS (mkS (seg l 0 (n - 1))) (turns n l) (mkS (seg l l.length (n - 1))) := h
  rw [e] at h
  exact h
theorem ring_cov {n : Nat} {ws : List Str} {l : List Nat} (hn : 1 ≤ n) (R : RingIn n ws [] l) (all : ∀ v ∈ ws, v ∈ turns n l) : CovX iniS taiS ws (turns n l) := ⟨fun h => by
  have := congrArg List.length h
  unfold turns at this
  rw [List.length_map, List.length_range, List.length_nil] at this
  have := R.pos
  omega, R.inn, all, _, turns_wlx hn⟩
theorem rep_turns (n : Nat) (l : List Nat) : ∀ N, repX N (turns n l) = (List.range (N * l.length)).map fun a => mkS (seg l a n)
  | 0 => by rw [Nat.zero_mul]; rfl
  | N + 1 => by
    rw [repX_succ, rep_turns n l N, Nat.succ_mul, Nat.add_comm, List.range_add, List.map_append, List.map_map]
    congr 1
    refine List.map_congr_left fun a _ => ?_
    show mkS (seg l a n) = mkS (seg l (l.length + a) n)
    rw [Nat.add_comm, seg_per]
theorem infix_get {A : Type} {w l : List A} (h : w <:+: l) : ∃ a, a + w.length ≤ l.length ∧ ∀ k, k < w.length → l[a + k]? = w[k]? := by
  obtain ⟨u, v, e⟩ := h
  refine ⟨u.length, by rw [← e, List.length_append, List.length_append]; omega, fun k hk => ?_⟩
  rw [← e, List.append_assoc, List.getElem?_append_right (by omega), List.getElem?_append_left (by omega)]
  congr 1; omega
theorem get_infix {A : Type} {w l : List A} {a : Nat} (h : a + w.length ≤ l.length) (g : ∀ k, k < w.length → l[a + k]? = w[k]?) : w <:+: l := by
  have e : (l.drop a).take w.length = w := by
    refine List.ext_getElem? fun k => ?_
    rw [List.getElem?_take, List.getElem?_drop]
    by_cases c : k < w.length
    · rw [if_pos c, g k c]
    · rw [if_neg c, List.getElem?_eq_none (by omega)]
  exact ⟨l.take a, (l.drop a).drop w.length, by
    have := List.take_append_drop w.length (l.drop a)
    rw [e] at this
    rw [List.append_assoc, this, List.take_append_drop]⟩
theorem steps_get {n : Nat} {l : List Nat} {i : Nat} (h : i < l.length + 1 - n) : (steps n l)[i]? = some (mkS (cut l i n)) := by
  unfold steps
  rw [List.getElem?_map, List.getElem?_range h]; rfl
theorem steps_size (n : Nat) (l : List Nat) : (steps n l).length = l.length + 1 - n := by unfold steps; rw [List.length_map, List.length_range]
/-- a text whose steps are read one behind the other is read -/
theorem glue {l x : List Nat} {n a : Nat} (hn : 1 ≤ n) (hx : n ≤ x.length) (h : ∀ k, k + n ≤ x.length → cut x k n = seg l (a + k) n) : x = seg l a x.length := by
  refine List.ext_getElem? fun i => ?_
  rw [seg_get]
  by_cases c : i < x.length
  · rw [if_pos c]
    obtain ⟨k, k1, k2, k3⟩ : ∃ k, k + n ≤ x.length ∧ k ≤ i ∧ i < k + n := by
      by_cases d : i + n ≤ x.length
      · exact ⟨i, d, Nat.le_refl _, by omega⟩
      · exact ⟨x.length - n, by omega, by omega, by omega⟩
    have e := congrArg (fun z => z[i - k]?) (h k k1)
    simp only [seg_get, if_pos (show i - k < n by omega)] at e
    unfold cut at e
    rw [List.getElem?_take, if_pos (by omega), List.getElem?_drop, show k + (i - k) = i by omega] at e
    rw [e, show a + k + (i - k) = a + i by omega]
  · rw [if_neg c, List.getElem?_eq_none (by omega)]
theorem occ_stands {n : Nat} {l : List Nat} {p : Str} (hn : 1 ≤ n) (hp : n ≤ p.length) (h : OccX (steps n (tl p)) (turns n l)) : Stands l (tl p) := by
  obtain ⟨N, h⟩ := h
  rw [rep_turns] at h
  obtain ⟨a, al, g⟩ := infix_get h
  rw [List.length_map, List.length_range, steps_size] at al
  have hx : n ≤ (tl p).length := by rw [← len_tl]; exact hp
  refine ⟨a, glue hn hx fun k hk => ?_⟩
  have e := g k (by rw [steps_size]; omega)
  rw [steps_get (by omega), List.getElem?_map, List.getElem?_range (by omega)] at e
  have := Option.some.inj e
  exact (congrArg tl this).symm
/-- a closed walk through windows as a ring text -/
theorem cov_ring {n : Nat} {ws l : List Str} (hn : 1 ≤ n) (each : ∀ v ∈ ws, v.length = n) (C : CovX iniS taiS ws l) : ∃ r : List Nat, r.length = l.length ∧ (∀ k i, l[(k + n) % l.length]? = some i → mkS (seg r (k + 1) n) = i) := by
  obtain ⟨p, hw⟩ := C.cl
  have m1 : 0 < l.length := List.length_pos_iff.mpr C.ne
  let g : Nat → Str := fun k => l.getD (k % l.length) ⟨#[]⟩
  have gm : ∀ k, g k ∈ ws := fun k => by
    have lt := Nat.mod_lt k m1
    show l.getD _ _ ∈ ws
    rw [List.getD_eq_getElem?_getD, List.getElem?_eq_getElem lt]
    exact C.sub _ (List.getElem_mem lt)
  have gat : ∀ k i, l[k % l.length]? = some i → g k = i := fun k i h => by
    show l.getD _ _ = i
    rw [List.getD_eq_getElem?_getD, h]; rfl
  -- one behind the other
  have nx : ∀ k, taiS (g k) = iniS (g (k + 1)) := by
    have h2 := hw.rep 2
    have step : ∀ (x : List Str) (q r : Str), Wlx iniS taiS q x r → ∀ i a b, x[i]? = some a → x[i + 1]? = some b → taiS a = iniS b := by
      intro x
      induction x with
      | nil => intro q r _ i a b h _; cases h
      | cons e x ih =>
        intro q r h i a b ha hb
        cases i with
        | zero =>
          injection ha with ha
          subst ha
          cases x with
          | nil => cases hb
          | cons e' x =>
            injection hb with hb
            subst hb
            exact h.2.1.symm
        | succ i => exact ih _ _ h.2 i a b ha hb
    intro k
    have lt := Nat.mod_lt k m1
    have e2 : repX 2 l = l ++ l := by rw [repX_succ, repX_one]
    rw [e2] at h2
    refine step _ _ _ h2 (k % l.length) _ _ ?_ ?_
    · rw [List.getElem?_append_left lt]
      show l[k % l.length]? = some (l.getD _ _)
      rw [List.getD_eq_getElem?_getD, List.getElem?_eq_getElem lt]; rfl
    · have e3 : (k + 1) % l.length = (k % l.length + 1) % l.length := by rw [Nat.mod_add_mod]
      show (l ++ l)[k % l.length + 1]? = some (l.getD _ _)
      rw [e3]
      by_cases c : k % l.length + 1 < l.length
      · rw [List.getElem?_append_left c, Nat.mod_eq_of_lt c, List.getD_eq_getElem?_getD, List.getElem?_eq_getElem c]; rfl
      · have : k % l.length + 1 = l.length := by omega
        rw [this, List.getElem?_append_right (Nat.le_refl _), Nat.sub_self, Nat.mod_self, List.getD_eq_getElem?_getD, List.getElem?_eq_getElem m1]; rfl
  let c : Str → Nat := fun v => (lasL v).headD 0
  refine ⟨l.map c, List.length_map .., fun k i hi => ?_⟩
  have prc : ∀ k, pr (l.map c) k = c (g k) := fun k => by
    have lt := Nat.mod_lt k m1
    unfold pr
    rw [List.length_map, List.getD_eq_getElem?_getD, List.getElem?_map, List.getElem?_eq_getElem lt]
    show c _ = c (l.getD _ _)
    rw [List.getD_eq_getElem?_getD, List.getElem?_eq_getElem lt]; rfl
  have main : ∀ j, j ≤ n → (tl (g (k + j))).drop (n - j) = seg (l.map c) (k + 1) j := by
    intro j
    induction j with
    | zero =>
      intro _
      rw [Nat.sub_zero, List.drop_eq_nil_of_le (by rw [← len_tl, each _ (gm _)]; exact Nat.le_refl _)]
      rfl
    | succ j ih =>
      intro hj
      have ih := ih (by omega)
      have vl := each _ (gm (k + (j + 1)))
      have l1 := las_oneL (z := g (k + (j + 1))) (by omega)
      have e1 : tl (g (k + (j + 1))) = (tl (g (k + j))).drop 1 ++ [c (g (k + (j + 1)))] := by
        rw [ini_las (v := g (k + (j + 1))), show k + (j + 1) = k + j + 1 by omega, ← nx, show k + j + 1 = k + (j + 1) by omega]
        exact congrArg (fun z => (tl (g (k + j))).drop 1 ++ z) l1
      rw [e1, List.drop_append_of_le_length (by rw [List.length_drop, ← len_tl, each _ (gm _)]; omega), List.drop_drop, show 1 + (n - (j + 1)) = n - j by omega, ih, seg_snoc, prc, show k + 1 + j = k + (j + 1) by omega]
  have e := main n (Nat.le_refl _)
  rw [Nat.sub_self, List.drop_zero] at e
  rw [← e, mkS_tl]
  exact gat _ _ hi
/-- a piece that some closed walk through all windows leaves out, some ring text leaves out -/
theorem free_ring {n : Nat} {ws l : List Str} {p : Str} (hn : 1 ≤ n) (each : ∀ v ∈ ws, v.length = n) (hp : n ≤ p.length) (C : CovX iniS taiS ws l) (no : ¬ OccX (steps n (tl p)) l) : ∃ r, RingIn n ws [p] r ∧ ∀ v ∈ ws, v ∈ turns n r := by
  obtain ⟨r, rl, g⟩ := cov_ring hn each C
  have m1 : 0 < l.length := List.length_pos_iff.mpr C.ne
  have hl : 0 < r.length := by omega
  have at1 : ∀ a, ∃ k, mkS (seg r a n) = mkS (seg r (k + 1) n) ∧ k + 1 = a + r.length := fun a => ⟨a + r.length - 1, by rw [show a + r.length - 1 + 1 = a + r.length by omega, seg_per], by omega⟩
  have get : ∀ k, l[(k + n) % l.length]? = some (mkS (seg r (k + 1) n)) := fun k => by
    have lt := Nat.mod_lt (k + n) m1
    have h := List.getElem?_eq_getElem lt
    rw [g k _ h, h]
  refine ⟨r, ⟨hl, fun v hv => ?_, fun q hq => ?_⟩, fun v hv => ?_⟩
  · obtain ⟨a, rfl⟩ := (turns_mem hl v).mp hv
    obtain ⟨k, e, _⟩ := at1 a
    rw [e]
    exact C.sub _ (List.mem_of_getElem? (get k))
  · rw [List.mem_singleton.mp hq]
    rintro ⟨a, ea⟩
    refine no ?_
    rw [← len_tl] at ea
    -- the steps stand in the walk
    obtain ⟨b, hb⟩ : ∃ b, b = a + r.length - 1 := ⟨_, rfl⟩
    have ex : ∀ N, (repX N l).length = N * l.length := repX_len l
    have rg : ∀ N i, i < N * l.length → (repX N l)[i]? = l[i % l.length]? := by
      intro N
      induction N with
      | zero => intro i hi; omega
      | succ N ih =>
        intro i hi
        rw [repX_succ]
        by_cases c : i < l.length
        · rw [List.getElem?_append_left c, Nat.mod_eq_of_lt c]
        · rw [List.getElem?_append_right (by omega), ih _ (by rw [Nat.succ_mul] at hi; omega)]
          exact congrArg (fun z => l[z]?) (Nat.mod_eq_sub_mod (show i ≥ l.length by omega)).symm
    have big : b + n + (steps n (tl p)).length ≤ (b + n + (steps n (tl p)).length) * l.length := Nat.le_mul_of_pos_right _ m1
    refine ⟨b + n + (steps n (tl p)).length, get_infix (a := b + n) (by rw [ex]; exact big) fun k hk => ?_⟩
    rw [rg _ _ (by omega)]
    rw [steps_size] at hk
    rw [show b + n + k = b + k + n by omega, get (b + k), steps_get hk, show b + k + 1 = a + k + r.length by omega, seg_per]
    rw [← len_tl] at hk
    have := cut_seg (l := r) (x := tl p) (a := a) (i := k) (n := n) (by rw [← len_tl]; exact ea) (by rw [← len_tl]; omega)
    rw [this]
  · obtain ⟨i, hi, e⟩ := List.mem_iff_getElem.mp (C.all v hv)
    have big : n ≤ n * l.length := Nat.le_mul_of_pos_right _ m1
    have h := get (i + n * l.length - n)
    rw [show i + n * l.length - n + n = i + n * l.length by omega, Nat.add_mul_mod_self_right, Nat.mod_eq_of_lt hi, List.getElem?_eq_getElem hi, e] at h
    rw [Option.some.inj h]
    exact (turns_mem hl _).mpr ⟨_, rfl⟩
/-- a piece that stands in each ring text that fits -/
def SureR (n : Nat) (ws : List Str) (p : Str) : Prop := ∀ l, RingIn n ws [] l → (∀ v ∈ ws, v ∈ turns n l) → Stands l (tl p)
theorem steps_wlx {n : Nat} {p : Str} (hn : 1 ≤ n) (hp : n ≤ p.length) : ∃ a b, Wlx iniS taiS a (steps n (tl p)) b := by
  have h := wlx_range (f := fun a => mkS (cut (tl p) a n)) (g := fun a => mkS (cut (tl p) a (n - 1))) ((tl p).length + 1 - n) fun i hi => by
    rw [← len_tl] at hi
    constructor
    · unfold iniS cut
      rw [len_mkS, tl_mkS, List.length_take, List.length_drop, ← len_tl, List.take_take]
      congr 2; omega
    · unfold taiS cut
      rw [tl_mkS, List.drop_take, List.drop_drop]
  exact ⟨_, _, h⟩
/-- sure exactly if there is no leaving -/
theorem sure_iff {n : Nat} {ws : List Str} {p : Str} {l0 : List Nat} (hn : 1 ≤ n) (each : ∀ v ∈ ws, v.length = n) (hp : n ≤ p.length) (hs : ∀ s ∈ steps n (tl p), s ∈ ws) (R : RingIn n ws [] l0) (all : ∀ v ∈ ws, v ∈ turns n l0) :
    NoLeav iniS taiS ws (steps n (tl p)) ↔ SureR n ws p := by
  constructor
  · intro h l Rl al
    have sl : (steps n (tl p)) ≠ [] := fun e => by
      have := congrArg List.length e
      rw [steps_size, ← len_tl, List.length_nil] at this; omega
    exact occ_stands hn hp (sure_of _ _ _ (Nat.le_refl _) sl (steps_wlx hn hp) hs h (ring_cov hn Rl al))
  · intro h A a D c B e W hW L
    obtain ⟨l', C', no⟩ := leav_free (ring_cov hn R all) D.length A a D c B W (Nat.le_refl _) e (steps_wlx hn hp) hs hW L
    obtain ⟨r, Rr, ar⟩ := free_ring hn each hp C' no
    exact Rr.no p (List.mem_singleton.mpr rfl) (h r ⟨Rr.pos, Rr.inn, fun _ h => by cases h⟩ ar)
end Tx

set_option Elab.async false
set_option linter.all false
set_option maxRecDepth 100000
set_option maxHeartbeats 1000000
namespace Tx
open PySem PySem.Spec PyProof.Rows L2
/-! ### leavings looked for by links between windows -/
/-- the windows behind a window, none behind one that comes to the ends -/
def adjL (ws : List Str) (a c x : Str) : List Str := if taiS x ∈ [taiS a, iniS c] then [] else begW ws (taiS x)
def stL (ws : List Str) (c : Str) : List Str := (begW ws (iniS c)).filter fun v => decide (v ≠ c)
def LeavS (ws : List Str) (a c : Str) : Prop := ∃ W, (∀ e ∈ W, e ∈ ws) ∧ LeavX iniS taiS a c W
theorem mem_adjL {ws : List Str} {a c x y : Str} : y ∈ adjL ws a c x ↔ (taiS x ≠ taiS a ∧ taiS x ≠ iniS c) ∧ y ∈ ws ∧ iniS y = taiS x := by
  unfold adjL
  by_cases h : taiS x ∈ [taiS a, iniS c]
  · rw [if_pos h]
    refine ⟨fun h => (by cases h), fun ⟨⟨h1, h2⟩, _⟩ => ?_⟩
    simp only [List.mem_cons, List.mem_nil_iff, or_false] at h
    exact (h.elim h1 h2).elim
  · rw [if_neg h, mem_begW]
    simp only [List.mem_cons, List.mem_nil_iff, or_false, not_or] at h
    exact ⟨fun g => ⟨h, g⟩, fun g => g.2⟩
theorem mem_stL {ws : List Str} {c y : Str} : y ∈ stL ws c ↔ y ∈ ws ∧ iniS y = iniS c ∧ y ≠ c := by
  unfold stL
  rw [List.mem_filter, mem_begW, decide_eq_true_iff, and_assoc]
theorem drop_lastX {l : List Str} {u : Str} (h : l.getLast? = some u) : l.dropLast ++ [u] = l := by
  obtain ⟨ne, e⟩ := List.getLast?_eq_some_iff.mp h
  rw [e]; simp
theorem ch_walk {ws : List Str} {a c s x : Str} {l : List Str} (h : Ch (adjL ws a c) l s x) (hs : s ∈ stL ws c) : l ≠ [] ∧ Wlx iniS taiS (iniS c) l (taiS x) ∧ l.head? = some s ∧ l.getLast? = some x ∧ (∀ e ∈ l.dropLast, taiS e ≠ taiS a ∧ taiS e ≠ iniS c) ∧ ∀ e ∈ l, e ∈ ws := by
  obtain ⟨h1, h2, h3⟩ := mem_stL.mp hs
  induction h with
  | one s => exact ⟨by simp, ⟨h2, rfl⟩, rfl, rfl, fun e he => (by simp at he), fun e he => by rw [List.mem_singleton.mp he]; exact h1⟩
  | @more l s u v _ hv ih =>
    obtain ⟨i1, i2, i3, i4, i5, i6⟩ := ih hs h1 h2 h3
    obtain ⟨v1, v2, v3⟩ := mem_adjL.mp hv
    refine ⟨by simp, Wlx.app.mpr ⟨_, i2, v3, rfl⟩, ?_, by simp, fun e he => ?_, fun e he => ?_⟩
    · cases l with
      | nil => exact absurd rfl i1
      | cons b r => exact i3
    · rw [List.dropLast_concat] at he
      rw [← drop_lastX i4] at he
      rcases List.mem_append.mp he with he | he
      · exact i5 e he
      · rw [List.mem_singleton.mp he]; exact v1
    · rcases List.mem_append.mp he with he | he
      · exact i6 e he
      · rw [List.mem_singleton.mp he]; exact v2
/-- a way of links to a window that ends as it should is a leaving -/
theorem ch_leav {ws : List Str} {a c s x : Str} {l : List Str} (h : Ch (adjL ws a c) l s x) (hs : s ∈ stL ws c) (e : taiS x = taiS a) (n : x ≠ a) : LeavS ws a c := by
  obtain ⟨i1, i2, i3, i4, i5, i6⟩ := ch_walk h hs
  refine ⟨l, i6, i1, e ▸ i2, fun g => ?_, fun g => ?_, i5⟩
  · rw [i3] at g; exact (mem_stL.mp hs).2.2 (Option.some.inj g)
  · rw [i4] at g; exact n (Option.some.inj g)
theorem walk_rt {ws : List Str} {a c : Str} : ∀ (l : List Str) (e : Str) (p q : Str), Wlx iniS taiS p (e :: l) q → (∀ v ∈ e :: l, v ∈ ws) → (∀ v ∈ (e :: l).dropLast, taiS v ≠ taiS a ∧ taiS v ≠ iniS c) → ∃ x, (e :: l).getLast? = some x ∧ RT (adjL ws a c) e x ∧ taiS x = q
  | [], e, p, q, h, _, _ => ⟨e, rfl, .here, h.2⟩
  | f :: l, e, p, q, h, hw, hi => by
    obtain ⟨x, h1, h2, h3⟩ := walk_rt l f (taiS e) q h.2 (fun v hv => hw v (List.mem_cons_of_mem _ hv)) (fun v hv => hi v (List.mem_cons_of_mem _ hv))
    exact ⟨x, by rw [List.getLast?_cons_cons]; exact h1, (RT.step .here (mem_adjL.mpr ⟨hi e (List.mem_cons_self ..), hw f (List.mem_cons_of_mem _ (List.mem_cons_self ..)), h.2.1⟩)).trans h2, h3⟩
theorem leav_rt {ws : List Str} {a c : Str} (h : LeavS ws a c) : ∃ s ∈ stL ws c, ∃ x, RT (adjL ws a c) s x ∧ taiS x = taiS a ∧ x ≠ a := by
  obtain ⟨W, hw, L⟩ := h
  cases W with
  | nil => exact absurd rfl L.ne
  | cons s l =>
    obtain ⟨x, h1, h2, h3⟩ := walk_rt l s _ _ L.wk hw L.inn
    refine ⟨s, mem_stL.mpr ⟨hw s (List.mem_cons_self ..), L.wk.1, fun e => L.hd (by rw [e]; rfl)⟩, x, h2, h3, fun e => L.la (by rw [h1, e])⟩
/-- the pairs of numbers of a piece with m windows -/
def pairsN (m : Nat) : List (Nat × Nat) := (List.range (m - 1)).flatMap fun j => (List.range (j + 1)).map fun i => (i + 1, j + 1)
theorem mem_pairsN {m i j : Nat} : (i, j) ∈ pairsN m ↔ 1 ≤ i ∧ i ≤ j ∧ j < m := by
  unfold pairsN
  simp only [List.mem_flatMap, List.mem_map, List.mem_range, Prod.mk.injEq]
  constructor
  · rintro ⟨a, h1, b, h2, rfl, rfl⟩
    omega
  · rintro ⟨h1, h2, h3⟩
    exact ⟨j - 1, by omega, i - 1, by omega, by omega, by omega⟩
/-- no leaving: none of two windows that pairs of numbers name -/
theorem noleav_pairs {ws w : List Str} : NoLeav iniS taiS ws w ↔ ∀ i j a c, (i, j) ∈ pairsN w.length → w[i - 1]? = some a → w[j]? = some c → ¬ LeavS ws a c := by
  constructor
  · intro h i j a c hp ha hc ⟨W, hw, L⟩
    obtain ⟨h1, h2, h3⟩ := mem_pairsN.mp hp
    have e1 : w = w.take (i - 1) ++ a :: w.drop i := by
      have := List.take_append_drop (i - 1) w
      rw [List.drop_eq_getElem?_toList_append, ha, show i - 1 + 1 = i by omega] at this
      exact this.symm
    have e2 : w.drop i = (w.drop i).take (j - i) ++ c :: w.drop (j + 1) := by
      have := List.take_append_drop (j - i) (w.drop i)
      rw [List.drop_drop, show i + (j - i) = j by omega, List.drop_eq_getElem?_toList_append (i := j), hc] at this
      exact this.symm
    exact h (w.take (i - 1)) a ((w.drop i).take (j - i)) c (w.drop (j + 1)) (by rw [← e2]; exact e1) W hw L
  · intro h A a D c B e W hw L
    have l : w.length = A.length + (1 + (D.length + (1 + B.length))) := by rw [e]; simp; omega
    refine h (A.length + 1) (A.length + 1 + D.length) a c (mem_pairsN.mpr ⟨by omega, by omega, by omega⟩) ?_ ?_ ⟨W, hw, L⟩
    · rw [e, Nat.add_sub_cancel, List.getElem?_append_right (Nat.le_refl _), Nat.sub_self]; rfl
    · rw [e, List.getElem?_append_right (by omega), show A.length + 1 + D.length - A.length = D.length + 1 by omega, List.getElem?_cons_succ, List.getElem?_append_right (Nat.le_refl _), Nat.sub_self]; rfl
end Tx

set_option Elab.async false
set_option linter.all false
set_option maxRecDepth 100000
set_option maxHeartbeats 4000000
namespace Tx
open PySem PySem.Spec PyProof.Rows L2
theorem entry_set_ne : entryFor table "set.__ne__" = some Builtin.«frozenset.__ne__» :=
  entryFor_alias (id' := "frozenset.__ne__") (by kernel_rfl) rfl (by decide +kernel) (by kernel_rfl)
section
variable {P : Program} {w : World} {A : Around} {E : Value → Shared → Prop} {s : Shared} {a b : Addr} {ka kb : List Str}
theorem SetS.typeIs (R : SetS w s.heap a ka) : s.TypeIs (.ref a) "set" := let ⟨o, _, _, _, ho, hc, _⟩ := R; ⟨o, ho, hc.1⟩
theorem sizeOf_any {Q : Nat → Shared → Prop} (R : SetS w s.heap a ka) (h : Q ka.length s) : wpAny (model P w) A (Builtin.Frozenset.sizeOf a) Q E s := by
  obtain ⟨o, es, ep, t, ho, hex, hd, g, pk, nd, hb, hf, hr, hl⟩ := R
  have hn : es.size = ka.length := by
    have e := pk.length_eq
    rwa [List.length_map, Array.length_toList] at e
  unfold Builtin.Frozenset.sizeOf setEntries
  refine wpAny_bind (wpAny_bind (wpAny_setState_of ho hd hf (wpAny_pure (wpAny_pure ?_))))
  show Q es.size s
  rw [hn]; exact h
theorem unchanged_any {Q : Unit → Shared → Prop} {id : String} {o : Obj} {es : Array (Int × Value)} {ep : Nat} {t : SetTable} (ho : s.heap.get? a = some o) (hd : o.data = .set es ep t) (hf : t.fits es.size = true) (h : Q () s) : wpAny (model P w) A (Builtin.Frozenset.unchanged id a ep) Q E s := by
  unfold Builtin.Frozenset.unchanged
  refine wpAny_bind (wpAny_setEpoch_of ho hd hf ?_)
  simp only [bne_self_eq_false, Bool.false_eq_true, ↓reduceIte]
  exact wpAny_pure h
theorem quiet_any {Q : Bool → Shared → Prop} {x : Str} {tk : Tok} (h : Q true s) : wpAny (model P w) A (Builtin.Frozenset.quietEq (.str x tk)) Q E s := wpAny_pure h
theorem unseen_any {Q : List (Int × Value) → Shared → Prop} {o o2 : Obj} {es es2 : Array (Int × Value)} {ep ep2 : Nat} {t t2 : SetTable} (ho : s.heap.get? a = some o) (hd : o.data = .set es ep t) (hf : t.fits es.size = true) (g : ∀ e ∈ es.toList, ∃ x tk, e = (hashStr w x, Value.str x tk))
    (ho2 : s.heap.get? b = some o2) (hd2 : o2.data = .set es2 ep2 t2) (hf2 : t2.fits es2.size = true) (g2 : ∀ e ∈ es2.toList, ∃ x tk, e = (hashStr w x, Value.str x tk)) (h : Q es.toList s) : wpAny (model P w) A (Builtin.Frozenset.walkUnseen a b) Q E s := by
  unfold Builtin.Frozenset.walkUnseen setEntries
  refine wpAny_bind (wpAny_bind (wpAny_setState_of ho hd hf (wpAny_pure ?_)))
  refine wpAny_bind (wpAny_bind (wpAny_setState_of ho2 hd2 hf2 (wpAny_pure ?_)))
  refine wpAny_bind ?_
  refine wpAny_forIn_list _ (fun rest (r : Option (List (Int × Value)) × Unit) s' => s' = s ∧ r = (none, ()) ∧ ∀ e ∈ rest, ∃ x tk, e = (hashStr w x, Value.str x tk)) _ (fun e rest r s' hI => ?_) (fun r s' hI => ?_) _ _ ⟨rfl, rfl, fun e he => ?_⟩
  · obtain ⟨es', er, hr⟩ := hI
    subst es' er
    obtain ⟨x, tk, rfl⟩ := hr e (List.mem_cons_self ..)
    refine wpAny_bind (quiet_any ?_)
    simp only [Bool.not_true, Bool.false_eq_true, ↓reduceIte]
    exact wpAny_pure ⟨rfl, rfl, fun e he => hr e (List.mem_cons_of_mem _ he)⟩
  · obtain ⟨es', er, _⟩ := hI
    subst es' er
    exact wpAny_pure h
  · rcases List.mem_append.mp he with he | he
    · exact g e he
    · exact g2 e he
theorem pig0 : ∀ {xs ys : List Str}, xs.Nodup → (∀ x ∈ xs, x ∈ ys) → xs.length ≤ ys.length
  | [], _, _, _ => Nat.zero_le _
  | x :: xs, ys, nd, h => by
    obtain ⟨n1, n2⟩ := List.nodup_cons.mp nd
    have hx := h x (List.mem_cons_self ..)
    have := pig0 (ys := ys.erase x) n2 fun y hy => (List.mem_erase_of_ne fun e => n1 (by rw [← e]; exact hy)).mpr (h y (List.mem_cons_of_mem _ hy))
    rw [List.length_erase_of_mem hx] at this
    have := List.length_pos_of_mem hx
    rw [List.length_cons]; omega
theorem subset_any {Q : Bool → Shared → Prop} {id : String} (ra : SetS w s.heap a ka) (rb : SetS w s.heap b kb) (sub : ∀ x ∈ ka, x ∈ kb) (h : Q true s) : wpAny (model P w) A (Builtin.Frozenset.subsetOf id a b) Q E s := by
  have le : ka.length ≤ kb.length := by
    obtain ⟨_, _, _, _, _, _, _, _, _, nd, _⟩ := ra
    exact pig0 nd sub
  unfold Builtin.Frozenset.subsetOf
  refine wpAny_bind (sizeOf_any ra (wpAny_bind (sizeOf_any rb ?_)))
  rw [if_neg (show ¬ ka.length > kb.length by omega)]
  obtain ⟨o, es, ep, t, ho, hex, hd, g, pk, nd, hb, hf, hr, hl⟩ := ra
  obtain ⟨o2, es2, ep2, t2, ho2, hex2, hd2, g2, pk2, nd2, hb2, hf2, hr2, hl2⟩ := rb
  refine wpAny_bind (wpAny_setEpoch_of ho hd hf ?_)
  refine wpAny_bind (unseen_any ho hd hf g ho2 hd2 hf2 g2 ?_)
  refine wpAny_bind ?_
  refine wpAny_forIn_list _ (fun rest (r : Option Bool × Unit) s' => s' = s ∧ r = (none, ()) ∧ ∀ e ∈ rest, e ∈ es.toList) _ (fun e rest r s' hI => ?_) (fun r s' hI => ?_) _ _ ⟨rfl, rfl, fun e he => he⟩
  · obtain ⟨es', er, hr⟩ := hI
    subst es' er
    have hm := hr e (List.mem_cons_self ..)
    obtain ⟨x, tk, rfl⟩ := g e hm
    have xa : x ∈ ka := pk.mem_iff.mp (List.mem_map.mpr ⟨_, hm, rfl⟩)
    have xb := pk2.mem_iff.mpr (sub x xa)
    dsimp only
    refine wpAny_bind (wpAny_holding ?_)
    refine PySem.W.setFind_any (knd := PySem.strKind P w) (k := x) (S := fun y => decide (y ∈ kb)) (strKind_is P w x tk) rfl ho2 hd2 (elems_of g2) (fun y => ?_) hb2 hf2 fun r hr' => ?_
    · rw [key_there g2, pk2.mem_iff, decide_eq_true_iff]
    · rw [decide_eq_true (sub x xa)] at hr'
      cases r with
      | none => cases hr'
      | some i =>
        simp only [Option.isNone_some, Bool.false_eq_true, ↓reduceIte]
        exact wpAny_bind (unchanged_any ho hd hf (wpAny_pure ⟨rfl, rfl, fun e he => hr e (List.mem_cons_of_mem _ he)⟩))
  · obtain ⟨es', er, _⟩ := hI
    subst es' er
    exact wpAny_pure h
theorem any_set {Q : Bool → Shared → Prop} (R : SetS w s.heap a ka) (h : Q true s) : wpAny (model P w) A (Builtin.Frozenset.isAnySet (.ref a)) Q E s := by
  unfold Builtin.Frozenset.isAnySet
  refine wpAny_bind (wpAny_isInstance R.typeIs PySem.F.sub_set_set ?_)
  exact wpAny_pure h
theorem not_frozen {Q : Bool → Shared → Prop} (R : SetS w s.heap a ka) (h : Q false s) : wpAny (model P w) A (isInstance (.ref a) (.type "frozenset")) Q E s := wpAny_isInstance R.typeIs PySem.F.sub_set_frozenset h
theorem sets_ne {Q : Value → Shared → Prop} (ra : SetS w s.heap a ka) (rb : SetS w s.heap b kb) (same : ∀ x, x ∈ ka ↔ x ∈ kb) (hu : A.units < cLine) (h : Q (.bool false) s) : wpAny (model P w) A (compareOp .NotEq (.ref a) (.ref b)) Q E s := by
  refine wpAny_richCompare_same_room (op := .NotEq) ra.typeIs rb.typeIs PySem.F.slot_set_ne (wpAny_call_entry PySem.F.slot_set_ne ra.typeIs entry_set_ne ?_ (PySem.F.args_set_ne_2 _ _)) hu
  show wpAny _ _ (Builtin.Frozenset.slot1 "__ne__" ⟨[.ref a, .ref b], []⟩ >>= _) _ _ s
  unfold Builtin.Frozenset.slot1 slotArgs
  simp only [List.isEmpty_nil, Bool.not_true, Bool.false_eq_true, ↓reduceIte, List.length_cons, List.length_nil, bne_self_eq_false, pure_bind]
  have len : ka.length = kb.length := by
    obtain ⟨_, _, _, _, _, _, _, _, _, na, _⟩ := ra
    obtain ⟨_, _, _, _, _, _, _, _, _, nb, _⟩ := rb
    exact Nat.le_antisymm (pig0 na fun x h => (same x).mp h) (pig0 nb fun x h => (same x).mpr h)
  refine wpAny_bind (any_set rb ?_)
  simp only [Bool.not_true, Bool.false_eq_true, ↓reduceIte]
  refine wpAny_bind (show wpAny _ _ (pure a) _ _ _ from wpAny_pure ?_)
  refine wpAny_bind (show wpAny _ _ (pure b) _ _ _ from wpAny_pure ?_)
  refine wpAny_bind (sizeOf_any ra (wpAny_bind (sizeOf_any rb ?_)))
  rw [if_neg (by rw [len]; simp)]
  refine wpAny_bind (wpAny_bind (wpAny_bind (not_frozen ra (wpAny_pure ?_))))
  simp only [Bool.false_eq_true, ↓reduceIte]
  exact subset_any ra rb (fun x h => (same x).mp h) (wpAny_pure ⟨_, rfl, (by simp), h⟩)
end
section
open L2
variable {X : Cx} (w : World)
/-- one set of texts != another, where both hold the same ones -/
def rSetNe (w : World) : V → V → Hp → VK → Prop := fun x y H Q => ∃ a b ka kb, x = .ref a ∧ y = .ref b ∧ H a = some (SetSO w a ka) ∧ H b = some (SetSO w b kb) ∧ (∀ z, z ∈ ka ↔ z ∈ kb) ∧ Q (.bl false) H
theorem neSK (h : X.w = w) (hu : X.A.units < cLine) : OpR X (compareOp .NotEq) (rSetNe w) := by
  subst h
  intro pins s σ H x y v u Q I rx ry h
  obtain ⟨a, b, ka, kb, rfl, rfl, ea, eb, same, q⟩ := h
  cases rx
  cases ry
  exact sets_ne (setSO_get I ea) (setSO_get I eb) same hu ⟨.bl false, H, I.tok _, rfl, q⟩
end
end Tx

set_option Elab.async false
set_option linter.all false
set_option maxRecDepth 100000
set_option maxHeartbeats 1000000
namespace Tx
open PySem PySem.Spec PyProof.Rows L2 TL
/-! ### ring texts put together of stretches of one -/
def fst1 (v : Str) : Nat := (tl v).headD 0
theorem turns_sg (n : Nat) (l : List Nat) : turns n l = (List.range l.length).map fun a => mkS (seg l a n) := rfl
theorem seg_cons (l : List Nat) (a j : Nat) : seg l a (j + 1) = pr l a :: seg l (a + 1) j := by
  unfold seg
  rw [List.range_succ_eq_map, List.map_cons, List.map_map]
  refine congrArg (pr l a :: ·) (List.map_congr_left fun k _ => ?_)
  show pr l (a + (k + 1)) = pr l (a + 1 + k)
  rw [show a + (k + 1) = a + 1 + k by omega]
/-- a closed walk is what is read in the text of its first letters -/
theorem walk_turns {n : Nat} {l : List Str} (hn : 1 ≤ n) (each : ∀ v ∈ l, v.length = n) (hw : ∃ p, Wlx iniS taiS p l p) (ne : l ≠ []) : turns n (l.map fst1) = l := by
  obtain ⟨p, hw⟩ := hw
  have m1 : 0 < l.length := List.length_pos_iff.mpr ne
  let g : Nat → Str := fun k => l.getD (k % l.length) ⟨#[]⟩
  have gm : ∀ k, g k ∈ l := fun k => by
    have lt := Nat.mod_lt k m1
    show l.getD _ _ ∈ l
    rw [List.getD_eq_getElem?_getD, List.getElem?_eq_getElem lt]
    exact List.getElem_mem lt
  have nx : ∀ k, taiS (g k) = iniS (g (k + 1)) := by
    have h2 := hw.rep 2
    have step : ∀ (x : List Str) (q r : Str), Wlx iniS taiS q x r → ∀ i a b, x[i]? = some a → x[i + 1]? = some b → taiS a = iniS b := by
      intro x
      induction x with
      | nil => intro q r _ i a b h _; cases h
      | cons e x ih =>
        intro q r h i a b ha hb
        cases i with
        | zero =>
          injection ha with ha
          subst ha
          cases x with
          | nil => cases hb
          | cons e' x =>
            injection hb with hb
            subst hb
            exact h.2.1.symm
        | succ i => exact ih _ _ h.2 i a b ha hb
    intro k
    have lt := Nat.mod_lt k m1
    have e2 : repX 2 l = l ++ l := by rw [repX_succ, repX_one]
    rw [e2] at h2
    refine step _ _ _ h2 (k % l.length) _ _ ?_ ?_
    · rw [List.getElem?_append_left lt]
      show l[k % l.length]? = some (l.getD _ _)
      rw [List.getD_eq_getElem?_getD, List.getElem?_eq_getElem lt]; rfl
    · have e3 : (k + 1) % l.length = (k % l.length + 1) % l.length := by rw [Nat.mod_add_mod]
      show (l ++ l)[k % l.length + 1]? = some (l.getD _ _)
      rw [e3]
      by_cases c : k % l.length + 1 < l.length
      · rw [List.getElem?_append_left c, Nat.mod_eq_of_lt c, List.getD_eq_getElem?_getD, List.getElem?_eq_getElem c]; rfl
      · have : k % l.length + 1 = l.length := by omega
        rw [this, List.getElem?_append_right (Nat.le_refl _), Nat.sub_self, Nat.mod_self, List.getD_eq_getElem?_getD, List.getElem?_eq_getElem m1]; rfl
  have prc : ∀ k, pr (l.map fst1) k = fst1 (g k) := fun k => by
    have lt := Nat.mod_lt k m1
    unfold pr
    rw [List.length_map, List.getD_eq_getElem?_getD, List.getElem?_map, List.getElem?_eq_getElem lt]
    show fst1 _ = fst1 (l.getD _ _)
    rw [List.getD_eq_getElem?_getD, List.getElem?_eq_getElem lt]; rfl
  have main : ∀ j k, j ≤ n → (tl (g k)).take j = seg (l.map fst1) k j := by
    intro j
    induction j with
    | zero => intro k _; rw [List.take_zero]; rfl
    | succ j ih =>
      intro k hj
      have vl := each _ (gm k)
      have vl2 := each _ (gm (k + 1))
      rw [seg_cons, prc, ← ih (k + 1) (by omega)]
      have e1 : (tl (g k)).drop 1 = (tl (g (k + 1))).take (n - 1) := by
        have := congrArg tl (nx k)
        unfold taiS iniS at this
        rw [tl_mkS, tl_mkS, vl2] at this; exact this
      have ne : tl (g k) ≠ [] := fun h => by have := congrArg List.length h; rw [← len_tl, vl, List.length_nil] at this; omega
      have e2 : tl (g k) = fst1 (g k) :: (tl (g k)).drop 1 := by
        unfold fst1
        cases h : tl (g k) with
        | nil => exact absurd h ne
        | cons c r => rfl
      conv => lhs; rw [e2]
      rw [List.take_succ_cons, e1, List.take_take, Nat.min_eq_left (by omega)]
  have e : ∀ k, mkS (seg (l.map fst1) k n) = g k := fun k => by
    rw [← main n k (Nat.le_refl _), List.take_of_length_le (by rw [← len_tl, each _ (gm k)]; exact Nat.le_refl _), mkS_tl]
  refine List.ext_getElem? fun i => ?_
  rw [turns_sg]
  rw [List.getElem?_map, List.length_map]
  by_cases c : i < l.length
  · rw [List.getElem?_range c]
    show some (mkS (seg (l.map fst1) i n)) = _
    rw [e, List.getElem?_eq_getElem c]
    show some (l.getD _ _) = _
    rw [Nat.mod_eq_of_lt c, List.getD_eq_getElem?_getD, List.getElem?_eq_getElem c]; rfl
  · rw [List.getElem?_eq_none (by rw [List.length_range]; omega), List.getElem?_eq_none (by omega)]; rfl
section
variable {n : Nat} {l : List Nat}
theorem turns_size (n : Nat) (l : List Nat) : (turns n l).length = l.length := by rw [turns_sg, List.length_map, List.length_range]
theorem turns_fst (hn : 1 ≤ n) : (turns n l).map fst1 = l := by
  refine List.ext_getElem? fun i => ?_
  rw [turns_sg]
  rw [List.getElem?_map, List.getElem?_map]
  by_cases c : i < l.length
  · rw [List.getElem?_range c, pr_get c]
    show some (fst1 (mkS (seg l i n))) = _
    unfold fst1
    rw [tl_mkS, show n = n - 1 + 1 by omega, seg_cons]; rfl
  · rw [List.getElem?_eq_none (by rw [List.length_range]; omega), List.getElem?_eq_none (by omega)]; rfl
/-- the place where a turn begins -/
def plA (n : Nat) (l : List Nat) (a : Nat) : Str := mkS (seg l a (n - 1))
theorem plA_len : plA n l l.length = plA n l 0 := by
  unfold plA
  rw [← seg_mod, Nat.mod_self]
theorem turns_each (v : Str) (h : v ∈ turns n l) : v.length = n := by
  rw [turns_sg] at h
  obtain ⟨a, _, rfl⟩ := List.mem_map.mp h
  rw [len_mkS, seg_len]
theorem turns_part (hn : 1 ≤ n) {a b : Nat} (h1 : a ≤ b) (h2 : b ≤ l.length) : Wlx iniS taiS (plA n l a) (((turns n l).take b).drop a) (plA n l b) := by
  have e : ((turns n l).take b).drop a = (List.range (b - a)).map fun i => mkS (seg l (a + i) n) := by
    refine List.ext_getElem? fun i => ?_
    rw [List.getElem?_drop, List.getElem?_take, List.getElem?_map]
    rw [turns_sg]
    rw [List.getElem?_map]
    by_cases c : a + i < b
    · rw [if_pos c, List.getElem?_range (by omega), List.getElem?_range (by omega)]; rfl
    · rw [if_neg c, List.getElem?_eq_none (by rw [List.length_range]; omega)]; rfl
  rw [e]
  have := wlx_range (f := fun i => mkS (seg l (a + i) n)) (g := fun i => plA n l (a + i)) (b - a) fun i _ => ?_
  · rw [show a + (b - a) = b by omega] at this; exact this
  · unfold iniS taiS plA
    rw [tl_mkS, len_mkS, seg_len]
    refine ⟨congrArg mkS ?_, congrArg mkS ?_⟩
    · refine List.ext_getElem? fun k => ?_
      rw [List.getElem?_take, seg_get, seg_get]
      by_cases c : k < n - 1
      · rw [if_pos c, if_pos (by omega), if_pos c]
      · rw [if_neg c, if_neg c]
    · rw [show n = n - 1 + 1 by omega, seg_cons, List.drop_succ_cons, List.drop_zero]
      rw [show n - 1 + 1 - 1 = n - 1 by omega, show a + (i + 1) = a + i + 1 by omega]
theorem map_part (hn : 1 ≤ n) (a b : Nat) : (((turns n l).take b).drop a).map fst1 = (l.take b).drop a := by
  rw [List.map_drop, List.map_take, turns_fst hn]
/-- a closed walk of stretches -/
theorem turns_of (hn : 1 ≤ n) {w : List Str} {l' : List Nat} (e : w.map fst1 = l') (each : ∀ v ∈ w, v ∈ turns n l) (hw : ∃ p, Wlx iniS taiS p w p) (ne : l' ≠ []) : turns n l' = w := by
  rw [← e]
  exact walk_turns hn (fun v hv => turns_each v (each v hv)) hw fun h => ne (by rw [← e, h]; rfl)
theorem part_mem {a b : Nat} {v : Str} (h : v ∈ ((turns n l).take b).drop a) : v ∈ turns n l := List.mem_of_mem_take (List.mem_of_mem_drop h)
theorem whole_part (a : Nat) : (turns n l) = ((turns n l).take a).drop 0 ++ ((turns n l).take l.length).drop a := by
  rw [List.take_of_length_le (i := l.length) (by rw [turns_size]; exact Nat.le_refl _), List.drop_zero, List.take_append_drop]
theorem again_rot (hn : 1 ≤ n) {s : Nat} (hs : s ≤ l.length) (ne : l ≠ []) (v : Str) : v ∈ turns n (l.drop s ++ l.take s) ↔ v ∈ turns n l := by
  have h1 := turns_part (l := l) hn hs (Nat.le_refl _)
  have h2 := turns_part (l := l) hn (Nat.zero_le s) hs
  rw [plA_len] at h1
  rw [turns_of (l := l) hn (w := ((turns n l).take l.length).drop s ++ ((turns n l).take s).drop 0) (by rw [List.map_append, map_part hn, map_part hn, List.take_length, List.drop_zero])
    (fun v hv => (List.mem_append.mp hv).elim part_mem part_mem) ⟨_, Wlx.app.mpr ⟨_, h1, h2⟩⟩ fun h => ne (by
      obtain ⟨a, b⟩ := List.append_eq_nil_iff.mp h
      have := List.take_append_drop s l
      rw [a, b] at this; exact this.symm)]
  rw [List.mem_append]
  conv => rhs; rw [whole_part s, List.mem_append]
  exact or_comm
theorem again_dbl (hn : 1 ≤ n) (ne : l ≠ []) (v : Str) : v ∈ turns n (l ++ l) ↔ v ∈ turns n l := by
  have h1 := turns_part (l := l) hn (Nat.zero_le l.length) (Nat.le_refl _)
  rw [plA_len, List.drop_zero, List.take_of_length_le (by rw [turns_size]; exact Nat.le_refl _)] at h1
  rw [turns_of (l := l) hn (w := turns n l ++ turns n l) (by rw [List.map_append, turns_fst hn]) (fun v hv => (List.mem_append.mp hv).elim id id) ⟨_, Wlx.app.mpr ⟨_, h1, h1⟩⟩ (by simp [ne]), List.mem_append]
  exact or_self_iff
theorem again_ins (hn : 1 ≤ n) {b e : Nat} (h1 : b ≤ e) (h2 : e ≤ l.length) (pe : plA n l b = plA n l e) (ne : l ≠ []) (v : Str) : v ∈ turns n (l.take e ++ (l.take e).drop b ++ l.drop e) ↔ v ∈ turns n l := by
  have w1 := turns_part (l := l) hn (Nat.zero_le e) h2
  have w2 := turns_part (l := l) hn h1 h2
  have w3 := turns_part (l := l) hn h2 (Nat.le_refl _)
  rw [pe] at w2
  rw [plA_len] at w3
  rw [turns_of (l := l) hn (w := ((turns n l).take e).drop 0 ++ ((turns n l).take e).drop b ++ ((turns n l).take l.length).drop e)
    (by rw [List.map_append, List.map_append, map_part hn, map_part hn, map_part hn, List.take_length, List.drop_zero])
    (fun v hv => by
      rcases List.mem_append.mp hv with hv | hv
      · exact (List.mem_append.mp hv).elim part_mem part_mem
      · exact part_mem hv) ⟨_, Wlx.app.mpr ⟨_, Wlx.app.mpr ⟨_, w1, w2⟩, w3⟩⟩ fun h => ne (by
      obtain ⟨a, d⟩ := List.append_eq_nil_iff.mp h
      obtain ⟨a, _⟩ := List.append_eq_nil_iff.mp a
      have := List.take_append_drop e l
      rw [a, d] at this; exact this.symm)]
  rw [List.mem_append, List.mem_append]
  conv => rhs; rw [whole_part e, List.mem_append]
  constructor
  · rintro ((h | h) | h)
    · exact .inl h
    · exact .inl (by rw [List.drop_zero]; exact List.mem_of_mem_drop h)
    · exact .inr h
  · rintro (h | h)
    · exact .inl (.inl h)
    · exact .inr h
theorem again_swap (hn : 1 ≤ n) {b e c : Nat} (h1 : b ≤ e) (h2 : e ≤ c) (h3 : c ≤ l.length) (p1 : plA n l b = plA n l e) (p2 : plA n l e = plA n l c) (ne : l ≠ []) (v : Str) :
    v ∈ turns n (l.take b ++ (l.take c).drop e ++ (l.take e).drop b ++ l.drop c) ↔ v ∈ turns n l := by
  have w1 := turns_part (l := l) hn (Nat.zero_le b) (by omega)
  have w2 := turns_part (l := l) hn h2 h3
  have w3 := turns_part (l := l) hn h1 (by omega)
  have w4 := turns_part (l := l) hn h3 (Nat.le_refl _)
  rw [plA_len, ← p2, ← p1] at w4
  rw [← p2, ← p1] at w2
  rw [← p1] at w3
  have mems : ∀ v, v ∈ turns n l ↔ v ∈ ((turns n l).take b).drop 0 ∨ v ∈ ((turns n l).take e).drop b ∨ v ∈ ((turns n l).take c).drop e ∨ v ∈ ((turns n l).take l.length).drop c := fun v => by
    constructor
    · intro h
      obtain ⟨i, hi, rfl⟩ := List.mem_iff_getElem.mp h
      have hg : (turns n l)[i]? = some (turns n l)[i] := List.getElem?_eq_getElem hi
      rw [turns_size] at hi
      have key : ∀ x y, x ≤ i → i < y → (turns n l)[i] ∈ ((turns n l).take y).drop x := fun x y hx hy => by
        refine List.mem_iff_getElem?.mpr ⟨i - x, ?_⟩
        rw [List.getElem?_drop, show x + (i - x) = i by omega, List.getElem?_take, if_pos hy, hg]
      by_cases c1 : i < b
      · exact .inl (key 0 b (Nat.zero_le _) c1)
      · by_cases c2 : i < e
        · exact .inr (.inl (key b e (by omega) c2))
        · by_cases c3 : i < c
          · exact .inr (.inr (.inl (key e c (by omega) c3)))
          · exact .inr (.inr (.inr (key c l.length (by omega) hi)))
    · rintro (h | h | h | h) <;> exact part_mem h
  rw [turns_of (l := l) hn (w := ((turns n l).take b).drop 0 ++ ((turns n l).take c).drop e ++ ((turns n l).take e).drop b ++ ((turns n l).take l.length).drop c)
    (by rw [List.map_append, List.map_append, List.map_append, map_part hn, map_part hn, map_part hn, map_part hn, List.take_length, List.drop_zero])
    (fun v hv => by
      simp only [List.mem_append] at hv
      rcases hv with ((h | h) | h) | h <;> exact part_mem h) ⟨_, Wlx.app.mpr ⟨_, Wlx.app.mpr ⟨_, Wlx.app.mpr ⟨_, w1, w2⟩, w3⟩, w4⟩⟩ fun h => ne (by
      have hl := congrArg List.length h
      simp only [List.length_append, List.length_take, List.length_drop, List.length_nil] at hl
      exact List.eq_nil_of_length_eq_zero (by omega))]
  rw [mems]
  simp only [List.mem_append]
  constructor
  · rintro (((h | h) | h) | h)
    · exact .inl h
    · exact .inr (.inr (.inl h))
    · exact .inr (.inl h)
    · exact .inr (.inr (.inr h))
  · rintro (h | h | h | h)
    · exact .inl (.inl (.inl h))
    · exact .inl (.inr h)
    · exact .inl (.inl (.inr h))
    · exact .inr h
end
end Tx

set_option Elab.async false
set_option linter.all false
set_option maxRecDepth 100000
set_option maxHeartbeats 4000000
namespace Tx
open PySem PySem.Spec PyProof.Rows L2
theorem args_sum2 (a b : Value) : argsOk "sum" ⟨[a, b], []⟩ := by unfold argsOk; kernel_rfl
def accL (st : List Value) (vs : Nat → List Value) : Nat → List Value
  | 0 => st
  | i + 1 => accL st vs i ++ vs i
section
variable {prog : Program} {w : World} {A : Around} {R : Result → Shared → Prop} {I : Addr} {fp wr : List Addr} {n : Nat} {P : Nat → Value → Prop} {St : Nat → Heap → Prop}
theorem sum_loop_lists (W : Walks prog w A.in1 I fp wr n P St) (ad : Nat → Addr) (st : List Value) (vs : Nat → List Value) (hval : ∀ i v, P i v → v = .ref (ad i)) (S : Addr) (hSf : S ∉ fp) (hw : ∀ b ∈ wr, b < S) (had : ∀ i, i < n → ad i ∉ wr ∧ ad i ≠ S) (hz : ∀ i, i ≤ n → (accL st vs i).length ≤ sizeLine) :
    ∀ (k i : Nat) (s : Shared) (t : Addr) (c ct : Nat), n - i = k → i ≤ n → St i s.heap → s.heap.get? S = some { cls := .type "list", dict := none, data := .seq #[.ref t] c, slots := #[] } → t ∉ wr → t ≠ S → (i = 0 ∨ S < t) →
    s.heap.get? t = some { cls := .type "list", data := .seq (accL st vs i).toArray ct } → (∀ j, j < n → ∃ m, s.heap.get? (ad j) = some { cls := .type "list", data := .seq (vs j).toArray m }) →
    (∀ h' tk t' ct', (∀ b o, b ∉ wr → b ≠ S → s.heap.get? b = some o → h'.get? b = some o) → (n = 0 ∨ S < t') → h'.get? t' = some { cls := .type "list", data := .seq (accL st vs n).toArray ct' } → R (.ok (.ret (.ref t'))) { s with heap := h', toks := tk }) →
    codeAny (model prog w) A (.builtin "sum.loop" ⟨[.ref I, .ref S, rawInt 2, rawInt 0], []⟩) R s := by
  have hSw : S ∉ wr := fun h => hSf (W.sub _ h)
  intro k
  induction k with
  | zero =>
    intro i s t c ct hk hi hst hS tw tS hT ht hv hR
    have hin : i = n := by omega
    subst hin
    refine codeAny_builtin F.entry_sum_loop ?_
    rw [Around.under_plainId F.plain_sum_loop _]
    show wpAny _ A.in1 (seqItems? (.ref S) >>= _) _ _ s
    refine wpAny_bind (wpAny_seqItems hS rfl ?_)
    show wpAny _ A.in1 (tryCatch (pyNext (.ref I)) _ >>= _) _ _ s
    refine wpAny_bind (wpAny_tryCatch (W.done s _ _ hst fun h' tk hk' => ?_))
    exact wpAny_pure (hR h' tk t ct (fun b o hbw _ e => hk' b o hbw e) hT (hk' t _ tw ht))
  | succ k ih =>
    intro i s t c ct hk hi hst hS tw tS hT ht hv hR
    have hlt : i < n := by omega
    refine codeAny_builtin F.entry_sum_loop ?_
    rw [Around.under_plainId F.plain_sum_loop _]
    show wpAny _ A.in1 (seqItems? (.ref S) >>= _) _ _ s
    refine wpAny_bind (wpAny_seqItems hS rfl ?_)
    show wpAny _ A.in1 (tryCatch (pyNext (.ref I)) _ >>= _) _ _ s
    refine wpAny_bind (wpAny_tryCatch (W.item i s _ _ hlt hst fun v h' tk hP hst' hk' => ?_))
    obtain rfl := hval i v hP
    have hS' := hk' S _ hSw hS
    have ht' := hk' t _ tw ht
    obtain ⟨m, hm⟩ := hv i hlt
    have hm' := hk' (ad i) _ (had i hlt).1 hm
    show wpAny _ A.in1 ((holding [Value.ref (ad i)] (binaryOp .Add (.ref t) (.ref (ad i)))).attempt >>= _) _ _ _
    refine wpAny_bind (wpAny_attempt (wpAny_holding ?_))
    have hzi := hz (i + 1) (by omega)
    refine PySem.P.add_list (n := ct) (n2 := m) ht' hm' ?_ (by
      show (accL st vs i).toArray.size + (vs i).toArray.size ≤ sizeLine
      rw [List.size_toArray, List.size_toArray]
      have : (accL st vs (i + 1)).length = (accL st vs i).length + (vs i).length := List.length_append
      omega)
    have ea : (accL st vs i).toArray ++ (vs i).toArray = (accL st vs (i + 1)).toArray := by show _ = (accL st vs i ++ vs i).toArray; simp
    rw [ea]
    obtain ⟨h2, eh2⟩ : ∃ h2, h2 = h'.push { cls := .type "list", data := .seq (accL st vs (i + 1)).toArray } := ⟨_, rfl⟩
    have up : ∀ b o, h'.get? b = some o → h2.get? b = some o := fun b o e => by rw [eh2]; exact Heap.get?_push_of_some _ e
    have et2 : h2.get? h'.objs.size = some { cls := .type "list", data := .seq (accL st vs (i + 1)).toArray } := by rw [eh2]; exact Heap.get?_push_size _ rfl
    have St2 : S < h'.objs.size := Heap.lt_size hS'
    rw [← eh2]
    generalize h'.objs.size = t2 at et2 St2 ⊢
    show wpAny _ A.in1 (updateSeq S (fun _ => #[.ref t2]) >>= _) _ _ _
    have hS2 := up S _ hS'
    refine wpAny_bind ?_
    refine wpAny_updateSeq hS2 rfl ?_
    have hS3 := Heap.get?_update_self (Obj.mapSeq fun _ => #[Value.ref t2]) hS2 rfl
    refine wpAny_bind (wpAny_letGo ?_)
    refine wpAny_bind ?_
    have ot : ∀ b o, b ≠ S → h2.get? b = some o → ((h2.update S (Obj.mapSeq fun _ => #[Value.ref t2])).update S (Obj.mapSeq fun _ => #[Value.ref t2])).get? b = some o := fun b o hb e => (Heap.get?_update_other _ _ (Ne.symm hb)).trans ((Heap.get?_update_other _ _ (Ne.symm hb)).trans e)
    refine wpAny_updateSeq hS3 rfl (wpAny_pure ⟨plainId_quiet F.plain_sum_loop _, ih (i + 1) _ t2 _ 0 (by omega) hlt (W.frame _ _ _ hst' fun b hb o e => ?_) (Heap.get?_update_self _ hS3 rfl) (fun h => Nat.lt_irrefl _ (Nat.lt_trans St2 (hw _ h))) (Nat.ne_of_gt St2) (.inr St2) (ot _ _ (Nat.ne_of_gt St2) et2) (fun j hj => ?_) fun h'' tk'' t'' ct'' hk'' hT'' he'' => ?_⟩)
    · exact ot b o (fun h => hSf (by rw [← h]; exact hb)) (up b o e)
    · obtain ⟨mj, hmj⟩ := hv j hj
      exact ⟨mj, ot _ _ (had j hj).2 (up _ _ (hk' _ _ (had j hj).1 hmj))⟩
    · exact hR h'' tk'' t'' ct'' (fun b o hbw hbS e => hk'' b o hbw hbS (ot b o hbS (up b o (hk' b o hbw e)))) hT'' he''
end
section
variable {prog : Program} {w : World} {A : Around} {E : Value → Shared → Prop} {s : Shared}
theorem call_sum_lists {l b : Addr} {its : List Value} {nb nl : Nat} {st : List Value} {ad : Nat → Addr} {vs : Nat → List Value} {Q : Value → Shared → Prop} (hh : A.handled = none) (hl : s.heap.get? l = some { cls := .type "list", data := .seq its.toArray nl }) (hi : ∀ (i : Nat) (v : Value), its[i]? = some v → v = .ref (ad i)) (ne : its ≠ [])
    (hb : s.heap.get? b = some { cls := .type "list", data := .seq st.toArray nb }) (hv : ∀ j, j < its.length → ∃ m, s.heap.get? (ad j) = some { cls := .type "list", data := .seq (vs j).toArray m }) (hz : ∀ i, i ≤ its.length → (accL st vs i).length ≤ sizeLine)
    (h : ∀ h' tk t ct, (∀ b o, s.heap.get? b = some o → h'.get? b = some o) → s.heap.objs.size ≤ t → h'.get? t = some { cls := .type "list", data := .seq (accL st vs its.length).toArray ct } → Q (.ref t) { s with heap := h', toks := tk }) :
    wpAny (model prog w) A (call (.builtin "sum") [.ref l, .ref b]) Q E s := by
  refine call_function_tree F.kind_sum F.plain_sum F.entry_sum (args_sum2 _ _) ?_
  unfold Builtin.«sum»
  simp only [List.length_cons, List.length_nil]
  rw [if_neg (by decide)]
  refine wpAny_bind (wpAny_of_eq (show Builtin.Builtins.bindParams "sum" ["start"] 0 ⟨[.ref b], []⟩ = pure [some (.ref b)] from rfl) ?_)
  have hlt : l < s.heap.objs.size := Heap.lt_size hl
  have hL : s.heap.IsList l its.toArray := ⟨_, hl, rfl, nl, rfl⟩
  refine wpAny_bind (wpAny_pyIter_list hL ?_)
  have k1 : ∀ (x : Addr) (o : Obj), s.heap.get? x = some o → (s.heap.push { cls := .type "list_iterator", data := .fields #[.ref l, .int 0 0] }).get? x = some o := fun x o e => Heap.get?_push_of_some _ e
  have it1 : (s.heap.push { cls := .type "list_iterator", data := .fields #[.ref l, .int 0 0] }).IsListIter s.heap.objs.size l 0 := ⟨_, Heap.get?_push_size _ rfl, rfl, rfl⟩
  have sz1 : (s.heap.push { cls := .type "list_iterator", data := .fields #[.ref l, .int 0 0] }).objs.size = s.heap.objs.size + 1 := Heap.size_push ..
  generalize s.heap.push { cls := .type "list_iterator", data := .fields #[.ref l, .int 0 0] } = h1 at k1 it1 sz1 ⊢
  refine wpAny_bind (wpAny_pure ?_)
  simp only [List.forIn_cons, List.forIn_nil]
  have tb : ({ s with heap := h1 } : Shared).TypeIs (.ref b) "list" := ⟨_, k1 _ _ hb, rfl⟩
  refine wpAny_bind (wpAny_bind (wpAny_bind (wpAny_isInstance (T := "list") (b := false) tb PySem.F.sub_list_str ?_)))
  simp only [Bool.false_eq_true, if_false]
  refine wpAny_pure (wpAny_bind (wpAny_bind (wpAny_isInstance (T := "list") (b := false) tb PySem.F.sub_list_bytes ?_)))
  simp only [Bool.false_eq_true, if_false]
  refine wpAny_pure (wpAny_bind (wpAny_bind (wpAny_isInstance (T := "list") (b := false) tb PySem.F.sub_list_bytearray ?_)))
  simp only [Bool.false_eq_true, if_false]
  refine wpAny_pure (wpAny_pure ?_)
  refine wpAny_bind (wpAny_newObj_type ?_)
  have k2 : ∀ (x : Addr) (o : Obj), s.heap.get? x = some o → (h1.push { cls := .type "list", data := .seq #[.ref b] }).get? x = some o := fun x o e => Heap.get?_push_of_some _ (k1 x o e)
  have np : its.length ≠ 0 := fun h => ne (List.eq_nil_of_length_eq_zero h)
  have lts : ∀ x o, s.heap.get? x = some o → x ≠ s.heap.objs.size ∧ x ≠ h1.objs.size := fun x o e => by
    have := Heap.lt_size e
    rw [sz1]
    exact ⟨Nat.ne_of_lt this, Nat.ne_of_lt (Nat.lt_succ_of_lt this)⟩
  refine wpAny_pure ⟨plainId_quiet F.plain_sum_loop _, sum_loop_lists (Walks.list (A := A.in1) hh s.heap.objs.size l (Nat.ne_of_lt hlt) its.toArray) ad st vs (fun i v hv' => hi i v (by simpa using hv')) h1.objs.size ?_ ?_ ?_ ?_ _ 0 _ b 0 nb rfl (Nat.zero_le _) ⟨?_, ?_⟩ (Heap.get?_push_size _ rfl) ?_ (lts _ _ hb).2 (.inl rfl) (k2 _ _ hb) (fun j hj => ?_) fun h' tk t ct hk hT he => ?_⟩
  · intro h
    rcases List.mem_cons.mp h with h | h
    · rw [sz1] at h; exact absurd h (Nat.succ_ne_self _)
    · have := List.mem_singleton.mp h
      rw [sz1] at this
      exact absurd this (Nat.ne_of_gt (Nat.lt_succ_of_lt hlt))
  · intro x hx
    rw [List.mem_singleton.mp hx, sz1]; exact Nat.lt_succ_self _
  · intro i hi'
    obtain ⟨m, hm⟩ := hv i (by simpa using hi')
    obtain ⟨h1', h2'⟩ := lts _ _ hm
    exact ⟨fun h => h1' (List.mem_singleton.mp h), h2'⟩
  · intro i hi'
    exact hz i (by simpa using hi')
  · obtain ⟨o, ho, r⟩ := it1
    exact ⟨o, Heap.get?_push_of_some _ ho, r⟩
  · exact ⟨_, k2 _ _ hl, rfl, nl, rfl⟩
  · exact fun h => (lts _ _ hb).1 (List.mem_singleton.mp h)
  · obtain ⟨m, hm⟩ := hv j (by simpa using hj)
    exact ⟨m, k2 _ _ hm⟩
  · refine h h' tk t ct (fun x o e => hk x o (fun hx => (lts _ _ e).1 (List.mem_singleton.mp hx)) (lts _ _ e).2 (k2 _ _ e)) ?_ (by simpa using he)
    rcases hT with hT | hT
    · exact absurd (by simpa using hT) ne
    · rw [sz1] at hT
      exact Nat.le_of_lt (Nat.lt_of_succ_lt hT)
end
section
open L2
variable {X : Cx}
/-- sum(list of lists, list) -/
def rSumL : List V → Hp → VK → Prop := fun vs H Q => ∃ (l b : Addr) (as : List Addr) (bs : List V) (xss : List (List V)), vs = [V.ref l, V.ref b] ∧ H l = some (.lst (as.map V.ref)) ∧ as ≠ [] ∧ H b = some (.lst bs) ∧ as.length = xss.length ∧
  (∀ (i : Nat) (a : Addr) (xs : List V), as[i]? = some a → xss[i]? = some xs → H a = some (.lst xs)) ∧ (bs ++ xss.flatten).length ≤ sizeLine ∧ ∀ p, H p = none → Q (.ref p) (upd H p (.lst (bs ++ xss.flatten)))
theorem cr_sumL (hc : X.calm = true) : CallR X (.builtin "sum") rSumL := by
  intro pins s σ H vs us Q I r h
  obtain ⟨l, b, as, bs, xss, rfl, hl, ne, hb, len, hx, hz, q⟩ := h
  obtain ⟨_, its, n, ri, il, el⟩ := I.lstM hl
  obtain ⟨_, st, nb, rs, sl, eb⟩ := I.lstM hb
  have key : ∀ i, ∃ ws : List Value, i < as.length → (∃ m, s.heap.get? (as.getD i 0) = some { cls := .type "list", data := .seq ws.toArray m }) ∧ ∃ xs, xss[i]? = some xs ∧ Vals xs ws := fun i => by
    by_cases c : i < as.length
    · have ha : as[i]? = some as[i] := List.getElem?_eq_getElem c
      have hxs : xss[i]? = some (xss[i]'(len ▸ c)) := List.getElem?_eq_getElem (len ▸ c)
      obtain ⟨_, ws, m, rw', _, ew⟩ := I.lstM (hx i _ _ ha hxs)
      refine ⟨ws, fun _ => ⟨⟨m, ?_⟩, _, hxs, rw'⟩⟩
      rw [List.getD_eq_getElem?_getD, ha]; exact ew
    · exact ⟨[], fun h => absurd h c⟩
  obtain ⟨ws, hws⟩ : ∃ ws : Nat → List Value, ∀ i, i < as.length → (∃ m, s.heap.get? (as.getD i 0) = some { cls := .type "list", data := .seq (ws i).toArray m }) ∧ ∃ xs, xss[i]? = some xs ∧ Vals xs (ws i) := ⟨fun i => Classical.choose (key i), fun i => Classical.choose_spec (key i)⟩
  have acc : ∀ i, i ≤ as.length → Vals (bs ++ (xss.take i).flatten) (accL st ws i) := fun i => by
    induction i with
    | zero => intro _; rw [List.take_zero, List.flatten_nil, List.append_nil]; exact rs
    | succ i ih =>
      intro hi
      obtain ⟨_, xs, hxs, rv⟩ := hws i hi
      have e : xss.take (i + 1) = xss.take i ++ [xs] := by rw [List.take_add_one, hxs]; rfl
      rw [e, List.flatten_append, ← List.append_assoc]
      refine Vals.append (ih (by omega)) ?_
      rw [List.flatten_cons, List.flatten_nil, List.append_nil]; exact rv
  have all := acc as.length (Nat.le_refl _)
  rw [List.take_of_length_le (by omega)] at all
  rw [List.length_map] at il
  have il : its.length = as.length := by have := ri.length; rw [List.length_map] at this; omega
  obtain ⟨u1, u2, eu, r1, r2⟩ := Vals.two r
  subst eu
  cases r1
  cases r2
  refine call_sum_lists (ad := fun i => as.getD i 0) (vs := ws) (I.ok.hd hc) el (fun i v hv => ?_) (fun h => ne (List.eq_nil_of_length_eq_zero (by rw [← il, h]; rfl))) eb (fun j hj => (hws j (il ▸ hj)).1) (fun i hi => ?_) fun h' tk t ct hk ht he => ?_
  · have lt : i < as.length := il ▸ (List.getElem?_eq_some_iff.mp hv).1
    have ha : as[i]? = some as[i] := List.getElem?_eq_getElem lt
    obtain ⟨u, hu, ru⟩ := ri.get (i := i) (x := V.ref as[i]) (by rw [List.getElem?_map, ha]; rfl)
    rw [hv] at hu
    have := Option.some.inj hu
    subst this
    cases ru
    show Value.ref _ = Value.ref _
    rw [List.getD_eq_getElem?_getD, ha]; rfl
  · have a := acc i (il ▸ hi)
    rw [← a.length]
    refine Nat.le_trans ?_ hz
    rw [List.length_append, List.length_append]
    refine Nat.add_le_add_left ?_ _
    conv => rhs; rw [← List.take_append_drop i xss]
    rw [List.flatten_append, List.length_append]
    exact Nat.le_add_right ..
  · rw [il] at he
    exact ⟨.ref t, upd H t (.lst (bs ++ xss.flatten)), I.laid (t' := tk) hk ht ⟨hz, _, ct, all, he⟩, rfl, q t (I.hok.fresh ht)⟩
theorem sumLK (hc : X.calm = true) : CallR X (.builtin "sum") rSumL := cr_sumL hc
end
end Tx

set_option Elab.async false
set_option linter.all false
set_option maxRecDepth 100000
set_option maxHeartbeats 1000000
namespace Tx
open PySem PySem.Spec PyProof.Rows L2 TL
/-! ### the text of the last letters of a closed walk -/
def lastC (v : Str) : Nat := (lasL v).headD 0
theorem cov_last {n : Nat} {ws l : List Str} (hn : 1 ≤ n) (each : ∀ v ∈ ws, v.length = n) (C : CovX iniS taiS ws l) : ∀ k i, l[(k + n) % l.length]? = some i → mkS (seg (l.map lastC) (k + 1) n) = i := by
  obtain ⟨p, hw⟩ := C.cl
  have m1 : 0 < l.length := List.length_pos_iff.mpr C.ne
  let g : Nat → Str := fun k => l.getD (k % l.length) ⟨#[]⟩
  have gm : ∀ k, g k ∈ ws := fun k => by
    have lt := Nat.mod_lt k m1
    show l.getD _ _ ∈ ws
    rw [List.getD_eq_getElem?_getD, List.getElem?_eq_getElem lt]
    exact C.sub _ (List.getElem_mem lt)
  have gat : ∀ k i, l[k % l.length]? = some i → g k = i := fun k i h => by
    show l.getD _ _ = i
    rw [List.getD_eq_getElem?_getD, h]; rfl
  -- one behind the other
  have nx : ∀ k, taiS (g k) = iniS (g (k + 1)) := by
    have h2 := hw.rep 2
    have step : ∀ (x : List Str) (q r : Str), Wlx iniS taiS q x r → ∀ i a b, x[i]? = some a → x[i + 1]? = some b → taiS a = iniS b := by
      intro x
      induction x with
      | nil => intro q r _ i a b h _; cases h
      | cons e x ih =>
        intro q r h i a b ha hb
        cases i with
        | zero =>
          injection ha with ha
          subst ha
          cases x with
          | nil => cases hb
          | cons e' x =>
            injection hb with hb
            subst hb
            exact h.2.1.symm
        | succ i => exact ih _ _ h.2 i a b ha hb
    intro k
    have lt := Nat.mod_lt k m1
    have e2 : repX 2 l = l ++ l := by rw [repX_succ, repX_one]
    rw [e2] at h2
    refine step _ _ _ h2 (k % l.length) _ _ ?_ ?_
    · rw [List.getElem?_append_left lt]
      show l[k % l.length]? = some (l.getD _ _)
      rw [List.getD_eq_getElem?_getD, List.getElem?_eq_getElem lt]; rfl
    · have e3 : (k + 1) % l.length = (k % l.length + 1) % l.length := by rw [Nat.mod_add_mod]
      show (l ++ l)[k % l.length + 1]? = some (l.getD _ _)
      rw [e3]
      by_cases c : k % l.length + 1 < l.length
      · rw [List.getElem?_append_left c, Nat.mod_eq_of_lt c, List.getD_eq_getElem?_getD, List.getElem?_eq_getElem c]; rfl
      · have : k % l.length + 1 = l.length := by omega
        rw [this, List.getElem?_append_right (Nat.le_refl _), Nat.sub_self, Nat.mod_self, List.getD_eq_getElem?_getD, List.getElem?_eq_getElem m1]; rfl
  let c : Str → Nat := lastC
  intro k i hi
  show mkS (seg (l.map c) (k + 1) n) = i
  have prc : ∀ k, pr (l.map c) k = c (g k) := fun k => by
    have lt := Nat.mod_lt k m1
    unfold pr
    rw [List.length_map, List.getD_eq_getElem?_getD, List.getElem?_map, List.getElem?_eq_getElem lt]
    show c _ = c (l.getD _ _)
    rw [List.getD_eq_getElem?_getD, List.getElem?_eq_getElem lt]; rfl
  have main : ∀ j, j ≤ n → (tl (g (k + j))).drop (n - j) = seg (l.map c) (k + 1) j := by
    intro j
    induction j with
    | zero =>
      intro _
      rw [Nat.sub_zero, List.drop_eq_nil_of_le (by rw [← len_tl, each _ (gm _)]; exact Nat.le_refl _)]
      rfl
    | succ j ih =>
      intro hj
      have ih := ih (by omega)
      have vl := each _ (gm (k + (j + 1)))
      have l1 := las_oneL (z := g (k + (j + 1))) (by omega)
      have e1 : tl (g (k + (j + 1))) = (tl (g (k + j))).drop 1 ++ [c (g (k + (j + 1)))] := by
        rw [ini_las (v := g (k + (j + 1))), show k + (j + 1) = k + j + 1 by omega, ← nx, show k + j + 1 = k + (j + 1) by omega]
        exact congrArg (fun z => (tl (g (k + j))).drop 1 ++ z) l1
      rw [e1, List.drop_append_of_le_length (by rw [List.length_drop, ← len_tl, each _ (gm _)]; omega), List.drop_drop, show 1 + (n - (j + 1)) = n - j by omega, ih, seg_snoc, prc, show k + 1 + j = k + (j + 1) by omega]
  have e := main n (Nat.le_refl _)
  rw [Nat.sub_self, List.drop_zero] at e
  rw [← e, mkS_tl]
  exact gat _ _ hi

theorem last_turns {n : Nat} {l : List Str} {p : Str} (hn : 1 ≤ n) (each : ∀ v ∈ l, v.length = n) (ne : l ≠ []) (hw : Wlx iniS taiS p l p) : ∀ v ∈ turns n (l.map lastC), v ∈ l := fun v hv => by
  have m1 : 0 < l.length := List.length_pos_iff.mpr ne
  rw [turns_sg] at hv
  obtain ⟨a, ha, rfl⟩ := List.mem_map.mp hv
  have C : CovX iniS taiS l l := ⟨ne, fun v h => h, fun v h => h, ⟨p, hw⟩⟩
  -- the turn at a is one behind a - 1
  obtain ⟨k, ek⟩ : ∃ k, (k + 1) % l.length = a % l.length := ⟨a + (l.length - 1), by rw [show a + (l.length - 1) + 1 = a + l.length by omega, Nat.add_mod_right]⟩
  have lt := Nat.mod_lt (k + n) m1
  have hi : l[(k + n) % l.length]? = some l[(k + n) % l.length] := List.getElem?_eq_getElem lt
  have e := cov_last hn each C k _ hi
  have e2 : seg (l.map lastC) a n = seg (l.map lastC) (k + 1) n := by
    rw [← seg_mod (l.map lastC) a n, ← seg_mod (l.map lastC) (k + 1) n, List.length_map, ek]
  rw [e2, e]
  exact List.getElem_mem lt
/-- a text of m steps from a place on -/
def WTx (n : Nat) (ws : List Str) (first : Str) (m : Nat) (x : Str) : Prop := ∃ W : List Str, W.length = m ∧ (∀ v ∈ W, v ∈ ws) ∧ tl x = tl first ++ W.map lastC ∧ Wlx iniS taiS first W (endS (n - 1) x)
theorem WTx.len {n m : Nat} {ws : List Str} {first x : Str} (h : WTx n ws first m x) : x.length = first.length + m := by
  obtain ⟨W, e, _, h2, _⟩ := h
  rw [len_tl, h2, List.length_append, List.length_map, e, ← len_tl]
theorem WTx.start {n : Nat} {ws : List Str} {first : Str} (h : first.length = n - 1) : WTx n ws first 0 first := ⟨[], rfl, fun v h => (by cases h), by simp, by
  show first = endS (n - 1) first
  unfold endS
  rw [h, Nat.sub_self, List.drop_zero, mkS_tl]⟩
theorem las_cC {v : Str} (h : 1 ≤ v.length) : lasL v = [lastC v] := las_oneL h
theorem WTx.snoc {n m : Nat} {ws : List Str} {first x v : Str} (h : WTx n ws first m x) (hn : 1 ≤ n) (hv : v ∈ ws) (vl : v.length = n) (e : iniS v = endS (n - 1) x) (fl : first.length = n - 1) : WTx n ws first (m + 1) (x ++ (⟨#[lastC v]⟩ : Str)) := by
  have xl := h.len
  obtain ⟨W, el, hW, ht, hw⟩ := h
  have tlx : tl (x ++ (⟨#[lastC v]⟩ : Str)) = tl x ++ [lastC v] := by rw [tl_append]
  refine ⟨W ++ [v], by rw [List.length_append, el]; rfl, fun u hu => ?_, ?_, Wlx.app.mpr ⟨_, hw, e, ?_⟩⟩
  · rcases List.mem_append.mp hu with hu | hu
    · exact hW u hu
    · rw [List.mem_singleton.mp hu]; exact hv
  · rw [tlx, ht, List.map_append, List.append_assoc]; rfl
  · show taiS v = endS (n - 1) (x ++ (⟨#[lastC v]⟩ : Str))
    unfold endS taiS
    refine congrArg mkS ?_
    have e1 : (x ++ (⟨#[lastC v]⟩ : Str)).length = x.length + 1 := by rw [len_tl, tlx, List.length_append, ← len_tl]; rfl
    have e2 := congrArg tl e
    unfold endS at e2
    rw [tl_mkS] at e2
    rw [e1, tlx, show x.length + 1 - (n - 1) = (x.length - (n - 1)) + 1 by omega, ← List.drop_drop, List.drop_append_of_le_length (by rw [← len_tl]; omega), ← e2, ← las_cC (show 1 ≤ v.length by omega), ← ini_las]
/-- a text that comes back to its place is one of a ring text that reads windows of the book only -/
theorem WTx.ring {n m : Nat} {ws : List Str} {first x : Str} (h : WTx n ws first m x) (hn : 1 ≤ n) (hm : 1 ≤ m) (each : ∀ v ∈ ws, v.length = n) (fl : first.length = n - 1) (e : endS (n - 1) x = first) : ∀ v ∈ turns n ((tl x).drop (n - 1)), v ∈ ws := by
  obtain ⟨W, el, hW, ht, hw⟩ := h
  rw [e] at hw
  have : (tl x).drop (n - 1) = W.map lastC := by
    rw [ht, List.drop_append_of_le_length (by rw [← len_tl, fl]; exact Nat.le_refl _), List.drop_eq_nil_of_le (by rw [← len_tl, fl]; exact Nat.le_refl _), List.nil_append]
  rw [this]
  exact fun v hv => hW v (last_turns hn (fun v hv => each v (hW v hv)) (fun h => by rw [h, List.length_nil] at el; omega) hw v hv)
end Tx

set_option Elab.async false
set_option linter.all false
set_option maxRecDepth 100000
set_option maxHeartbeats 4000000
namespace Tx
open PySem PySem.Spec PyProof.Rows L2
theorem entry_set_eq : entryFor table "set.__eq__" = some Builtin.«frozenset.__eq__» :=
  entryFor_alias (id' := "frozenset.__eq__") (by kernel_rfl) rfl (by decide +kernel) (by kernel_rfl)
section
variable {P : Program} {w : World} {A : Around} {E : Value → Shared → Prop} {s : Shared} {a b : Addr} {ka kb : List Str}
theorem sets_eq {Q : Value → Shared → Prop} (ra : SetS w s.heap a ka) (rb : SetS w s.heap b kb) (same : ∀ x, x ∈ ka ↔ x ∈ kb) (hu : A.units < cLine) (h : Q (.bool true) s) : wpAny (model P w) A (compareOp .Eq (.ref a) (.ref b)) Q E s := by
  refine wpAny_richCompare_same_room (op := .Eq) ra.typeIs rb.typeIs PySem.F.slot_set_eq (wpAny_call_entry PySem.F.slot_set_eq ra.typeIs entry_set_eq ?_ (PySem.F.args_set_eq_2 _ _)) hu
  show wpAny _ _ (Builtin.Frozenset.slot1 "__eq__" ⟨[.ref a, .ref b], []⟩ >>= _) _ _ s
  unfold Builtin.Frozenset.slot1 slotArgs
  simp only [List.isEmpty_nil, Bool.not_true, Bool.false_eq_true, ↓reduceIte, List.length_cons, List.length_nil, bne_self_eq_false, pure_bind]
  have len : ka.length = kb.length := by
    obtain ⟨_, _, _, _, _, _, _, _, _, na, _⟩ := ra
    obtain ⟨_, _, _, _, _, _, _, _, _, nb, _⟩ := rb
    exact Nat.le_antisymm (pig0 na fun x h => (same x).mp h) (pig0 nb fun x h => (same x).mpr h)
  refine wpAny_bind (any_set rb ?_)
  simp only [Bool.not_true, Bool.false_eq_true, ↓reduceIte]
  refine wpAny_bind (show wpAny _ _ (pure a) _ _ _ from wpAny_pure ?_)
  refine wpAny_bind (show wpAny _ _ (pure b) _ _ _ from wpAny_pure ?_)
  refine wpAny_bind (sizeOf_any ra (wpAny_bind (sizeOf_any rb ?_)))
  rw [if_neg (by rw [len]; simp)]
  refine wpAny_bind (wpAny_bind (wpAny_bind (not_frozen ra (wpAny_pure ?_))))
  simp only [Bool.false_eq_true, ↓reduceIte]
  exact subset_any ra rb (fun x h => (same x).mp h) (wpAny_pure ⟨_, rfl, (by simp), h⟩)
end
section
open L2
variable {X : Cx} (w : World)
/-- one set of texts == another, where both hold the same ones -/
def rSetEq (w : World) : V → V → Hp → VK → Prop := fun x y H Q => ∃ a b ka kb, x = .ref a ∧ y = .ref b ∧ H a = some (SetSO w a ka) ∧ H b = some (SetSO w b kb) ∧ (∀ z, z ∈ ka ↔ z ∈ kb) ∧ Q (.bl true) H
theorem eqSK (h : X.w = w) (hu : X.A.units < cLine) : OpR X (compareOp .Eq) (rSetEq w) := by
  subst h
  intro pins s σ H x y v u Q I rx ry h
  obtain ⟨a, b, ka, kb, rfl, rfl, ea, eb, same, q⟩ := h
  cases rx
  cases ry
  exact sets_eq (setSO_get I ea) (setSO_get I eb) same hu ⟨.bl true, H, I.tok _, rfl, q⟩
/-- repr of a truth -/
def rReprB : List V → Hp → VK → Prop := fun xs H Q => ∃ b : Bool, xs = [.bl b] ∧ Q (.str (Str.ofString (if b then "True" else "False"))) H
theorem cr_reprB : CallR X (.builtin "repr") rReprB := by
  intro pins s σ H xs us Q I r h
  obtain ⟨b, rfl, q⟩ := h
  obtain ⟨u, eu, rb⟩ := Vals.one r
  subst eu
  cases rb
  refine PySem.P.repr_of_bool ?_
  cases b
  · exact ⟨.str _, H, I.tok _, ⟨_, rfl⟩, q⟩
  · exact ⟨.str _, H, I.tok _, ⟨_, rfl⟩, q⟩
end
end Tx

set_option Elab.async false
set_option linter.all false
set_option maxRecDepth 100000
set_option maxHeartbeats 1000000
namespace Tx
open PySem PySem.Spec PyProof.Rows L2 TL
/-! ### what is reached, by shortest ways -/
theorem Ch.pos {adj : Str → List Str} {l : List Str} {s v : Str} (h : Ch adj l s v) : 1 ≤ l.length := by
  cases h with
  | one => exact Nat.le_refl _
  | more => rw [List.length_append]; exact Nat.le_add_left ..
theorem Ch.last {adj : Str → List Str} {l : List Str} {s v : Str} (h : Ch adj l s v) : l.getLast? = some v := by
  cases h with
  | one => rfl
  | more => simp
theorem Ch.pre {adj : Str → List Str} {l : List Str} {s v e : Str} (h : Ch adj l s v) (he : e ∈ l) : ∃ m, Ch adj m s e ∧ m.length ≤ l.length := by
  induction h with
  | one => rw [List.mem_singleton.mp he]; exact ⟨_, .one _, Nat.le_refl _⟩
  | @more l s u v hl hv ih =>
    rcases List.mem_append.mp he with he | he
    · obtain ⟨m, hm, n⟩ := ih he
      exact ⟨m, hm, by rw [List.length_append]; omega⟩
    · rw [List.mem_singleton.mp he]; exact ⟨_, .more hl hv, Nat.le_refl _⟩
structure ShI (adj : Str → List Str) (ss : List Str) (fs : List Ent) (j d : Nat) : Prop where
  nd : (keysE fs).Nodup
  all : ∀ m s v, s ∈ ss → Ch adj m s v → m.length ≤ d + 1 → v ∈ keysE fs
  old : ∀ p ∈ fs.take j, ∃ m s, s ∈ ss ∧ Ch adj m s p.1 ∧ m.length ≤ d
  tr : ∀ v ∈ keysE fs, ∃ l s, s ∈ ss ∧ Tr fs v l ∧ Ch adj l s v ∧ l.length ≤ d + 1 ∧ l.length ≤ fs.length ∧ ∀ m s', s' ∈ ss → Ch adj m s' v → l.length ≤ m.length
theorem ShI.start {adj : Str → List Str} {ss : List Str} (nd : ss.Nodup) : ShI adj ss (ss.map fun s => (s, none)) 0 0 := by
  have k : keysE (ss.map fun s => ((s, none) : Ent)) = ss := by unfold keysE; rw [List.map_map]; exact List.map_id' ss
  refine ⟨by rw [k]; exact nd, fun m s v hs h n => ?_, fun p h => (by rw [List.take_zero] at h; cases h), fun v hv => ?_⟩
  · rw [k]
    cases h with
    | one => exact hs
    | more hl _ => have := hl.pos; rw [List.length_append, List.length_singleton] at n; omega
  · rw [k] at hv
    refine ⟨[v], v, hv, .start (List.mem_map.mpr ⟨v, hv, rfl⟩), .one v, Nat.le_refl _, ?_, fun m s' _ h => h.pos⟩
    rw [List.length_map]; exact List.length_pos_of_mem hv
theorem ShI.next {adj : Str → List Str} {ss : List Str} {fs : List Ent} {j d : Nat} (h : ShI adj ss fs j d) : ShI adj ss (roundE adj fs j) fs.length (d + 1) := by
  obtain ⟨qs, h1, h2, h3, h4, h5, _⟩ := fold_add (fun _ _ => True) (pairsE adj (keysE (fs.drop j))) fs (List.pairwise_of_forall fun _ _ => trivial)
  have er : roundE adj fs j = fs ++ qs.map fun q => (q.2, some q.1) := h1
  have kn : keysE (qs.map fun q => (q.2, some q.1)) = qs.map (·.2) := by unfold keysE; rw [List.map_map]; rfl
  have ke : keysE (roundE adj fs j) = keysE fs ++ qs.map (·.2) := by rw [er, keysE_app, kn]
  have sub : ∀ p ∈ fs, p ∈ roundE adj fs j := fun p hp => by rw [er]; exact List.mem_append_left _ hp
  refine ⟨?_, fun m s v hs c n => ?_, fun p hp => ?_, fun v hv => ?_⟩
  · rw [ke, List.nodup_append]
    refine ⟨h.nd, h3, fun a ha b hb e => ?_⟩
    obtain ⟨q, hq, rfl⟩ := List.mem_map.mp hb
    exact h4 q hq (e ▸ ha)
  · rw [ke, List.mem_append]
    by_cases c1 : m.length ≤ d + 1
    · exact .inl (h.all m s v hs c c1)
    · cases c with
      | one => rw [List.length_singleton] at c1; omega
      | @more l _ u _ hl hv =>
        rw [List.length_append, List.length_singleton] at n
        have hu := h.all l s u hs hl (by omega)
        rw [← List.take_append_drop j fs, keysE_app] at hu
        rcases List.mem_append.mp hu with hu | hu
        · obtain ⟨p, hp, rfl⟩ := List.mem_map.mp hu
          obtain ⟨m2, s2, hs2, c2, n2⟩ := h.old p hp
          exact .inl (h.all _ s2 v hs2 (.more c2 hv) (by rw [List.length_append, List.length_singleton]; omega))
        · exact h5 (u, v) (mem_pairsE.mpr ⟨hu, hv⟩)
  · rw [er, List.take_left] at hp
    obtain ⟨l, s, hs, _, c, n, _⟩ := h.tr p.1 (List.mem_map.mpr ⟨p, hp, rfl⟩)
    exact ⟨l, s, hs, c, n⟩
  · rw [ke] at hv
    rcases List.mem_append.mp hv with hv | hv
    · obtain ⟨l, s, hs, t, c, n, n2, mn⟩ := h.tr v hv
      exact ⟨l, s, hs, t.mono sub, c, by omega, by rw [er, List.length_append]; omega, mn⟩
    · obtain ⟨q, hq, rfl⟩ := List.mem_map.mp hv
      obtain ⟨m1, m2⟩ := mem_pairsE.mp (h2.subset hq)
      obtain ⟨l, s, hs, t, c, n, n2, mn⟩ := h.tr q.1 (by
        obtain ⟨p, hp, e⟩ := List.mem_map.mp m1
        rw [← e]
        exact List.mem_map.mpr ⟨p, List.mem_of_mem_drop hp, rfl⟩)
      have := List.length_pos_of_mem hq
      refine ⟨l ++ [q.2], s, hs, .more (u := q.1) (by rw [er]; exact List.mem_append_right _ (List.mem_map.mpr ⟨q, hq, rfl⟩)) (t.mono sub), .more c m2, ?_, ?_, fun m s' hs' c' => ?_⟩
      · rw [List.length_append, List.length_singleton]; omega
      · rw [er, List.length_append, List.length_append, List.length_map, List.length_singleton]; omega
      · rw [List.length_append, List.length_singleton]
        refine Nat.le_of_not_lt fun lt => h4 q hq (h.all m s' q.2 hs' c' (by omega))
theorem run_short {adj : Str → List Str} {ss : List Str} {R : List Ent} (nd : ss.Nodup) (r : Run adj (ss.map fun s => (s, none)) 0 R) :
    ∀ v ∈ keysE R, ∃ l s, s ∈ ss ∧ Tr R v l ∧ Ch adj l s v ∧ l.length ≤ R.length ∧ ∀ m s', s' ∈ ss → Ch adj m s' v → l.length ≤ m.length := by
  obtain ⟨d, h⟩ := r.inv (P := fun fs j => ∃ d, ShI adj ss fs j d) (fun fs j ⟨d, h⟩ _ => ⟨d + 1, h.next⟩) ⟨0, ShI.start nd⟩
  intro v hv
  obtain ⟨l, s, hs, t, c, _, n, mn⟩ := h.tr v hv
  exact ⟨l, s, hs, t, c, n, mn⟩
theorem short_simple {adj : Str → List Str} (ha : ∀ x y, taiS x = taiS y → adj x = adj y) {l : List Str} {s v : Str} (h : Ch adj l s v) (mn : ∀ m, Ch adj m s v → l.length ≤ m.length) : (l.dropLast.map taiS).Nodup := by
  induction h with
  | one => exact List.nodup_nil
  | @more l s u v hl hv ih =>
    rw [List.dropLast_concat]
    have ih' := ih fun m hm => by
      have := mn _ (.more hm hv)
      rw [List.length_append, List.length_append] at this
      exact Nat.le_of_add_le_add_right this
    rw [← drop_lastX hl.last, List.map_append, List.nodup_append]
    refine ⟨ih', by simp, fun a ha1 b hb e => ?_⟩
    obtain ⟨x, hx, rfl⟩ := List.mem_map.mp ha1
    rw [List.map_singleton, List.mem_singleton] at hb
    subst hb
    obtain ⟨m, hm, lt⟩ : ∃ m, Ch adj m s x ∧ m.length < l.length := by
      cases hl with
      | one => cases hx
      | more h0 _ =>
        rw [List.dropLast_concat] at hx
        obtain ⟨m, hm, n⟩ := h0.pre hx
        exact ⟨m, hm, by rw [List.length_append, List.length_singleton]; omega⟩
    have := mn _ (.more hm (by rw [ha x u e]; exact hv))
    rw [List.length_append, List.length_append] at this
    simp at this
    omega
/-! ### leavings as they are judged -/
structure CB (u v : Str) (l : List Str) : Prop where
  lv : LeavX iniS taiS u v l
  nd : (l.dropLast.map taiS).Nodup
theorem ch_cb {ws : List Str} {u v s x : Str} {l : List Str} (h : Ch (adjL ws u v) l s x) (hs : s ∈ stL ws v) (e : taiS x = taiS u) (n : x ≠ u) (mn : ∀ m s', s' ∈ stL ws v → Ch (adjL ws u v) m s' x → l.length ≤ m.length) : CB u v l := by
  obtain ⟨i1, i2, i3, i4, i5, i6⟩ := ch_walk h hs
  refine ⟨⟨i1, e ▸ i2, fun g => ?_, fun g => ?_, i5⟩, short_simple (fun x y e => by unfold adjL; rw [e]) h fun m hm => mn m s hs hm⟩
  · rw [i3] at g; exact (mem_stL.mp hs).2.2 (Option.some.inj g)
  · rw [i4] at g; exact n (Option.some.inj g)
theorem wlx_mid : ∀ {l : List Str} {p q : Str}, Wlx iniS taiS p l q → l.tail.map iniS = l.dropLast.map taiS
  | [], _, _, _ => rfl
  | [e], _, _, _ => rfl
  | e :: f :: r, p, q, h => by
    have ih := wlx_mid (l := f :: r) h.2
    show iniS f :: r.map iniS = taiS e :: (f :: r).dropLast.map taiS
    rw [show iniS f = taiS e from h.2.1, ← ih]; rfl
theorem wlx_ren {f : Nat → Nat} : ∀ {l : List Str} {p q : Str}, Wlx iniS taiS p l q → Wlx iniS taiS (ren f p) (l.map (ren f)) (ren f q)
  | [], p, q, h => by show ren f p = ren f q; rw [show p = q from h]
  | e :: l, p, q, h => ⟨by rw [ren_ini, h.1], by rw [ren_tai]; exact wlx_ren h.2⟩
theorem wlx_rev : ∀ {l : List Str} {p q : Str}, Wlx iniS taiS p l q → Wlx iniS taiS (revS q) (l.map revS).reverse (revS p)
  | [], p, q, h => by show revS q = revS p; rw [show p = q from h]
  | e :: l, p, q, h => by
    rw [List.map_cons, List.reverse_cons]
    exact Wlx.app.mpr ⟨revS (taiS e), wlx_rev h.2, rev_ini e, by show taiS (revS e) = revS p; rw [rev_tai, h.1]⟩
section
variable {f : Nat → Nat} {U : Nat → Prop} {u v : Str} {l : List Str}
theorem LeavX.ren (i : InjU U f) (hu : InU U u) (hv : InU U v) (hl : ∀ e ∈ l, InU U e) (h : LeavX iniS taiS u v l) : LeavX iniS taiS (ren f u) (ren f v) (l.map (ren f)) := by
  refine ⟨fun e => h.ne (List.map_eq_nil_iff.mp e), ?_, fun e => ?_, fun e => ?_, fun e he => ?_⟩
  · rw [ren_ini, ren_tai]; exact wlx_ren h.wk
  · rw [List.head?_map] at e
    cases eh : l.head? with
    | none => rw [eh] at e; cases e
    | some x =>
      rw [eh] at e
      have := ren_inj i (hl x (List.mem_of_head? eh)) hv (Option.some.inj e)
      exact h.hd (by rw [eh, this])
  · rw [List.getLast?_map] at e
    cases eh : l.getLast? with
    | none => rw [eh] at e; cases e
    | some x =>
      rw [eh] at e
      have := ren_inj i (hl x (List.mem_of_getLast? eh)) hu (Option.some.inj e)
      exact h.la (by rw [eh, this])
  · rw [← List.map_dropLast] at he
    obtain ⟨x, hx, rfl⟩ := List.mem_map.mp he
    obtain ⟨a, b⟩ := h.inn x hx
    have ux := hl x ((List.dropLast_sublist _).mem hx)
    rw [ren_tai, ren_tai, ren_ini]
    exact ⟨fun e => a (ren_inj i ux.tai hu.tai e), fun e => b (ren_inj i ux.tai hv.ini e)⟩
theorem CB.ren (i : InjU U f) (hu : InU U u) (hv : InU U v) (hl : ∀ e ∈ l, InU U e) (h : CB u v l) : CB (ren f u) (ren f v) (l.map (ren f)) := by
  refine ⟨h.lv.ren i hu hv hl, ?_⟩
  rw [← List.map_dropLast, List.map_map]
  have nd := h.nd
  unfold List.Nodup at nd ⊢
  rw [List.pairwise_map] at nd ⊢
  refine (List.Pairwise.and_mem.mp nd).imp fun {a b} k e => k.2.2 ?_
  have ua := hl a ((List.dropLast_sublist _).mem k.1)
  have ub := hl b ((List.dropLast_sublist _).mem k.2.1)
  have e : taiS (Tx.ren f a) = taiS (Tx.ren f b) := e
  rw [ren_tai, ren_tai] at e
  exact ren_inj i ua.tai ub.tai e
theorem LeavX.rev (h : LeavX iniS taiS u v l) : LeavX iniS taiS (revS v) (revS u) (l.map revS).reverse := by
  refine ⟨fun e => h.ne ?_, ?_, fun e => ?_, fun e => ?_, fun e he => ?_⟩
  · have := congrArg List.length e
    rw [List.length_reverse, List.length_map] at this
    exact List.eq_nil_of_length_eq_zero this
  · rw [rev_ini, rev_tai]; exact wlx_rev h.wk
  · rw [List.head?_reverse, List.getLast?_map] at e
    cases eh : l.getLast? with
    | none => rw [eh] at e; cases e
    | some x =>
      rw [eh] at e
      exact h.la (by rw [eh, rev_inj (Option.some.inj e)])
  · rw [List.getLast?_reverse, List.head?_map] at e
    cases eh : l.head? with
    | none => rw [eh] at e; cases e
    | some x =>
      rw [eh] at e
      exact h.hd (by rw [eh, rev_inj (Option.some.inj e)])
  · rw [List.dropLast_reverse, List.mem_reverse, ← List.map_tail] at he
    obtain ⟨x, hx, rfl⟩ := List.mem_map.mp he
    have : iniS x ∈ l.dropLast.map taiS := by rw [← wlx_mid h.wk]; exact List.mem_map.mpr ⟨x, hx, rfl⟩
    obtain ⟨y, hy, ey⟩ := List.mem_map.mp this
    obtain ⟨a, b⟩ := h.inn y hy
    rw [rev_tai, rev_tai, rev_ini, ← ey]
    exact ⟨fun e => b (rev_inj e), fun e => a (rev_inj e)⟩
theorem CB.rev (h : CB u v l) : CB (revS v) (revS u) (l.map revS).reverse := by
  refine ⟨h.lv.rev, ?_⟩
  have e : ((l.map revS).reverse.dropLast.map taiS) = ((l.dropLast.map taiS).map revS).reverse := by
    rw [List.dropLast_reverse, List.map_reverse, ← List.map_tail, ← wlx_mid h.lv.wk, List.map_map, List.map_map]
    congr 1
    exact List.map_congr_left fun x _ => rev_tai x
  rw [e]
  unfold List.Nodup
  rw [List.pairwise_reverse, List.pairwise_map]
  exact h.nd.imp fun {a b} k e => k (rev_inj e.symm)
end
/-- a leaving of a piece, with its numbers -/
structure LvG (ws xs : List Str) (i j : Nat) (l : List Str) : Prop where
  i1 : 1 ≤ i
  ij : i ≤ j
  jl : j < xs.length
  inn : ∀ e ∈ l, e ∈ ws
  cb : ∃ u v, xs[i - 1]? = some u ∧ xs[j]? = some v ∧ CB u v l
section
variable {f : Nat → Nat} {U : Nat → Prop} {ws ws' xs l : List Str} {i j : Nat}
theorem LvG.no (h : LvG ws xs i j l) : ¬ NoLeav iniS taiS ws xs := fun no => by
  obtain ⟨u, v, hu, hv, c⟩ := h.cb
  exact noleav_pairs.mp no i j u v (mem_pairsN.mpr ⟨h.i1, h.ij, h.jl⟩) hu hv ⟨l, h.inn, c.lv⟩
theorem LvG.ren (r : Rn U f ws ws') (hx : ∀ x ∈ xs, x ∈ ws) (h : LvG ws xs i j l) : LvG ws' (xs.map (ren f)) i j (l.map (ren f)) := by
  obtain ⟨u, v, hu, hv, c⟩ := h.cb
  refine ⟨h.i1, h.ij, by rw [List.length_map]; exact h.jl, fun e he => ?_, Tx.ren f u, Tx.ren f v, by rw [List.getElem?_map, hu]; rfl, by rw [List.getElem?_map, hv]; rfl, c.ren r.inj (r.u u (hx u (List.mem_of_getElem? hu))) (r.u v (hx v (List.mem_of_getElem? hv))) fun e he => r.u e (h.inn e he)⟩
  obtain ⟨x, hx, rfl⟩ := List.mem_map.mp he
  exact r.there (h.inn x hx)
theorem rev_at {xs : List Str} {k : Nat} {u : Str} (hu : xs[k]? = some u) : ((xs.map revS).reverse)[xs.length - 1 - k]? = some (revS u) := by
  have lt := (List.getElem?_eq_some_iff.mp hu).1
  rw [List.getElem?_reverse (by rw [List.length_map]; omega), List.length_map, show xs.length - 1 - (xs.length - 1 - k) = k by omega, List.getElem?_map, hu]; rfl
theorem LvG.rev (r : Rv ws ws') (h : LvG ws xs i j l) : LvG ws' (xs.map revS).reverse (xs.length - j) (xs.length - i) (l.map revS).reverse := by
  obtain ⟨u, v, hu, hv, c⟩ := h.cb
  have h1 := h.i1
  have h2 := h.ij
  have h3 := h.jl
  refine ⟨by omega, by omega, by rw [List.length_reverse, List.length_map]; omega, fun e he => ?_, revS v, revS u, ?_, ?_, c.rev⟩
  · rw [List.mem_reverse] at he
    obtain ⟨x, hx, rfl⟩ := List.mem_map.mp he
    exact r.there (h.inn x hx)
  · rw [show xs.length - j - 1 = xs.length - 1 - j by omega]; exact rev_at hv
  · rw [show xs.length - i = xs.length - 1 - (i - 1) by omega]; exact rev_at hu
theorem noleav_ren (r : Rn U f ws ws') (hx : ∀ x ∈ xs, x ∈ ws) (h : NoLeav iniS taiS ws' (xs.map (ren f))) : NoLeav iniS taiS ws xs := by
  refine noleav_pairs.mpr fun i j a c hp ha hc ⟨W, hW, L⟩ => ?_
  refine noleav_pairs.mp h i j (ren f a) (ren f c) (by rw [List.length_map]; exact hp) (by rw [List.getElem?_map, ha]; rfl) (by rw [List.getElem?_map, hc]; rfl) ⟨W.map (ren f), fun e he => ?_, L.ren r.inj (r.u a (hx a (List.mem_of_getElem? ha))) (r.u c (hx c (List.mem_of_getElem? hc))) fun e he => r.u e (hW e he)⟩
  obtain ⟨x, hx, rfl⟩ := List.mem_map.mp he
  exact r.there (hW x hx)
theorem noleav_rev (r : Rv ws ws') (h : NoLeav iniS taiS ws' (xs.map revS).reverse) : NoLeav iniS taiS ws xs := by
  refine noleav_pairs.mpr fun i j a c hp ha hc ⟨W, hW, L⟩ => ?_
  obtain ⟨h1, h2, h3⟩ := mem_pairsN.mp hp
  refine noleav_pairs.mp h (xs.length - j) (xs.length - i) (revS c) (revS a) (by rw [List.length_reverse, List.length_map]; exact mem_pairsN.mpr ⟨by omega, by omega, by omega⟩) ?_ ?_ ⟨(W.map revS).reverse, fun e he => ?_, L.rev⟩
  · rw [show xs.length - j - 1 = xs.length - 1 - j by omega]; exact rev_at hc
  · rw [show xs.length - i = xs.length - 1 - (i - 1) by omega]; exact rev_at ha
  · rw [List.mem_reverse] at he
    obtain ⟨x, hx, rfl⟩ := List.mem_map.mp he
    exact r.there (hW x hx)
end
theorem steps_revL {k : Nat} {l : List Nat} (hk : 1 ≤ k) : steps k l.reverse = ((steps k l).map revS).reverse := by
  refine List.ext_getElem? fun i => ?_
  have s1 := steps_size k l
  have s2 := steps_size k l.reverse
  rw [List.length_reverse] at s2
  by_cases c : i < l.length + 1 - k
  · rw [steps_get (by rw [List.length_reverse]; exact c), List.getElem?_reverse (by rw [List.length_map]; omega), List.length_map, List.getElem?_map, steps_get (by omega)]
    show _ = some (revS (mkS _))
    congr 1
    refine ext_tl ?_
    rw [tl_rev]
    show cut l.reverse i k = (cut l _ k).reverse
    unfold cut
    rw [s1, List.drop_reverse, List.take_reverse, List.drop_take, List.length_take]
    rw [show min (l.length - i) l.length - k = l.length - k - i by omega, show l.length + 1 - k - 1 - i = l.length - k - i by omega, show l.length - i - (l.length - k - i) = k by omega]
  · rw [List.getElem?_eq_none (by omega), List.getElem?_eq_none (by rw [List.length_reverse, List.length_map]; omega)]
theorem steps_wordR {f : Nat → Nat} (k : Nat) (z : Str) : steps k (tl (ren f z)) = (steps k (tl z)).map (ren f) := by rw [tl_ren, steps_map]
theorem steps_wordB {k : Nat} (hk : 1 ≤ k) (z : Str) : steps k (tl (revS z)) = ((steps k (tl z)).map revS).reverse := by rw [tl_rev, steps_revL hk]
/-! ### the text of a leaving -/
theorem wlx_wk {ws : List Str} : ∀ (l : List Str) (e q : Str), Wlx iniS taiS (iniS e) (e :: l) q → (∀ x ∈ e :: l, x ∈ ws) → ∃ x, Wk ws e (e :: l) x ∧ taiS x = q
  | [], e, q, h, _ => ⟨e, .one, h.2⟩
  | f :: l, e, q, h, hw => by
    obtain ⟨x, hx, ex⟩ := wlx_wk l f q ⟨rfl, h.2.2⟩ fun x hx => hw x (List.mem_cons_of_mem _ hx)
    have c : Wk ws e ([e] ++ [f]) f := .more .one (hw f (List.mem_cons_of_mem _ List.mem_cons_self)) h.2.1
    exact ⟨x, c.comp hx, ex⟩
theorem cb_steps {ws : List Str} {k : Nat} {u v : Str} {l : List Str} (hk : 1 ≤ k) (hw : ∀ x ∈ ws, x.length = k) (h : CB u v l) (hl : ∀ e ∈ l, e ∈ ws) : steps k (txt l) = l ∧ (txt l).length = k + (l.length - 1) := by
  cases l with
  | nil => exact absurd rfl h.lv.ne
  | cons e r =>
    have wk := h.lv.wk
    obtain ⟨x, hx, _⟩ := wlx_wk r e _ ⟨rfl, wk.2⟩ hl
    obtain ⟨a, _, b⟩ := hx.ends hk (hl e List.mem_cons_self) hw
    exact ⟨b, a⟩
/-! ### lots of papers -/
structure LotH (ws : List Str) (u v : Str) (L : List Str) : Prop where
  asc : L.Pairwise fun a b => tl a < tl b
  sub : ∀ x ∈ L, x ∈ ws
  st : ∀ x ∈ stL ws v, x ∈ L
  no : ∀ x ∈ L, taiS x = taiS u → x = u
  cl : ∀ x ∈ L, ∀ y ∈ adjL ws u v x, y ∈ L
theorem lot_of_run {ws L : List Str} {u v : Str} {R : List Ent} (nd : ws.Nodup) (no : ¬ LeavS ws u v) (r : Run (adjL ws u v) ((stL ws v).map fun s => (s, none)) 0 R) (asc : L.Pairwise fun a b => tl a < tl b) (mem : ∀ x, x ∈ L ↔ x ∈ keysE R) : LotH ws u v L := by
  have nds : (stL ws v).Nodup := (nd.sublist List.filter_sublist).sublist List.filter_sublist
  obtain ⟨_, r1, r2, r3⟩ := run_all nds r
  refine ⟨asc, fun x hx => ?_, fun x hx => (mem x).mpr ((r1 x).mpr ⟨x, hx, .here⟩), fun x hx e => ?_, fun x hx y hy => (mem y).mpr (r3 x ((mem x).mp hx) y hy)⟩
  · obtain ⟨l, s, hs, _, c, _⟩ := r2 x ((mem x).mp hx)
    obtain ⟨_, _, _, la, _, all⟩ := ch_walk c hs
    exact all x (List.mem_of_getLast? la)
  · refine Classical.byContradiction fun ne => no ?_
    obtain ⟨l, s, hs, _, c, _⟩ := r2 x ((mem x).mp hx)
    exact ch_leav c hs e ne
theorem LotH.ren {f : Nat → Nat} {U : Nat → Prop} {ws ws' L L' : List Str} {u v : Str} (r : Rn U f ws ws') (hu : u ∈ ws) (hv : v ∈ ws) (h : LotH ws u v L) (asc : L'.Pairwise fun a b => tl a < tl b) (mem : ∀ y, y ∈ L' ↔ ∃ x ∈ L, y = ren f x) : LotH ws' (ren f u) (ren f v) L' := by
  have uu := r.u u hu
  have uv := r.u v hv
  refine ⟨asc, fun y hy => ?_, fun y hy => ?_, fun y hy e => ?_, fun y hy z hz => ?_⟩
  · obtain ⟨x, hx, rfl⟩ := (mem y).mp hy
    exact r.there (h.sub x hx)
  · obtain ⟨h1, h2, h3⟩ := mem_stL.mp hy
    obtain ⟨x, hx, rfl⟩ := (r.mem y).mp h1
    rw [ren_ini, ren_ini] at h2
    have ux := r.u x hx
    exact (mem _).mpr ⟨x, h.st x (mem_stL.mpr ⟨hx, ren_inj r.inj ux.ini uv.ini h2, fun e => h3 (by rw [e])⟩), rfl⟩
  · obtain ⟨x, hx, rfl⟩ := (mem y).mp hy
    rw [ren_tai, ren_tai] at e
    rw [h.no x hx (ren_inj r.inj (r.u x (h.sub x hx)).tai uu.tai e)]
  · obtain ⟨x, hx, rfl⟩ := (mem y).mp hy
    have ux := r.u x (h.sub x hx)
    obtain ⟨⟨h1, h2⟩, h3, h4⟩ := mem_adjL.mp hz
    obtain ⟨v0, hv0, rfl⟩ := (r.mem z).mp h3
    rw [ren_ini, ren_tai] at h4
    have e4 := ren_inj r.inj (r.u v0 hv0).ini ux.tai h4
    rw [ren_tai, ren_tai] at h1
    rw [ren_tai, ren_ini] at h2
    exact (mem _).mpr ⟨v0, h.cl x hx v0 (mem_adjL.mpr ⟨⟨fun e => h1 (by rw [e]), fun e => h2 (by rw [e])⟩, hv0, e4⟩), rfl⟩
end Tx

set_option Elab.async false
set_option linter.all false
set_option maxRecDepth 100000
set_option maxHeartbeats 1000000
namespace Tx
open PySem PySem.Spec PyProof.Rows L2 TL
/-! dict(a list of pairs of texts), and dicts from letters to letters -/
section
open L2
variable {X : Cx}
def rDictS (K : PySem.W.Frag) : List V → Hp → VK → Prop := fun xs H Q => ∃ (a : Addr) (ps : List Addr) (qs : List (Str × Str)), xs = [.ref a] ∧ SqL K H a (ps.map V.ref) ∧ ps.length = qs.length ∧ (∀ (i : Nat) (p : Addr) (q : Str × Str), ps[i]? = some p → qs[i]? = some q → SqT K H p [.str q.1, .str q.2]) ∧
  ∀ p, H p = none → Q (.ref p) (upd H p (.dK (mergeK [] (qs.map fun q : Str × Str => ((Sum.inr q.1 : Key), V.str q.2)))))
theorem dictPK (K : PySem.W.Frag) (h : X.K = K) (hc : X.calm = true) : CallR X (.type "dict") (rDictS K) := by
  subst h
  intro pins s σ H vs us Q I r h
  obtain ⟨a, ps, qs, rfl, sq, len, each, q⟩ := h
  refine call_dictP hc pins s σ H _ us Q I r ⟨a, ps, qs.map fun (q : Str × Str) => ((Sum.inr q.1 : Key), V.str q.2), rfl, sq, ?_, q⟩
  clear q sq r
  induction ps generalizing qs with
  | nil =>
    cases qs with
    | nil => exact .nil
    | cons _ _ => cases len
  | cons p ps ih =>
    cases qs with
    | nil => cases len
    | cons q qs =>
      refine .cons (each 0 p q rfl rfl) (ih qs (by simpa using len) fun i p' q' h1 h2 => each (i + 1) p' q' h1 h2)
end
section
open L2
/-- a < b < c < d -/
def tChain3 (r r' r'' : R2) (ta tb tc td : TE) : TE := fun σ H Q => ta σ H fun x H1 => tb σ H1 fun y H2 => r x y H2 fun z H3 => ∃ k, z = .bl k ∧
  (if k = true then tc σ H3 fun u H4 => r' y u H4 fun z2 H5 => ∃ k2, z2 = .bl k2 ∧ (if k2 = true then td σ H5 fun t H6 => r'' u t H6 Q else Q (.bl false) H5) else Q (.bl false) H3)
theorem pe_chain3 {X : Cx} {a b c d : Expr} {ta tb tc td : TE} {pos : Pos} {op op' op'' : CmpOp} {r r' r'' : R2} (ho : OpR X (compareOp op) r) (ho' : OpR X (compareOp op') r') (ho'' : OpR X (compareOp op'') r'')
    (ha : PE X a ta) (hb : PE X b tb) (hc : PE X c tc) (hd : PE X d td) (hm : lastMarks [op, op', op''] [b, c, d] = false := by rfl) : PE X (.Compare a [op, op', op''] [b, c, d] pos) (tChain3 r r' r'' ta tb tc td) := by
  refine ⟨fun pins s σ H Q I h => Compare_chain (thn (ha.run pins s σ H _ I h) fun v s1 ⟨x, H1, I1, r1, q1⟩ => ?_) hm⟩
  refine chain_link (thn (hb.run pins s1 σ H1 _ I1 q1) fun u s2 ⟨y, H2, I2, r2, q2⟩ => ?_)
  refine thn (ho pins s2 σ H2 x y v u _ I2 r1 r2 q2) fun w s3 ⟨z, H3, I3, r3, k, e, q3⟩ => ?_
  subst e
  cases r3
  refine wpAny_truthy_bool ?_
  cases k with
  | false => exact ⟨.bl false, H3, I3, rfl, q3⟩
  | true =>
    refine ite_tt (chain_link (thn (hc.run pins s3 σ H3 _ I3 q3) fun u3 s4 ⟨y3, H4, I4, r4, q4⟩ => ?_))
    refine thn (ho' pins s4 σ H4 y y3 u u3 _ I4 r2 r4 q4) fun w4 s5 ⟨z5, H5, I5, r5, k5, e5, q5⟩ => ?_
    subst e5
    cases r5
    refine wpAny_truthy_bool ?_
    cases k5 with
    | false => exact ⟨.bl false, H5, I5, rfl, q5⟩
    | true =>
      refine ite_tt (chain_last (thn (hd.run pins s5 σ H5 _ I5 q5) fun u6 s6 ⟨y6, H6, I6, r6, q6⟩ => ?_))
      exact ho'' pins s6 σ H6 y3 y6 u3 u6 Q I6 r4 r6 q6
end
/-- entries from letters to letters -/
def kvL (l : List (Nat × Nat)) : List (Key × V) := l.map fun q => ((Sum.inr (⟨#[q.1]⟩ : Str) : Key), V.str ⟨#[q.2]⟩)
theorem one_inj {a b : Nat} (h : (⟨#[a]⟩ : Str) = ⟨#[b]⟩) : a = b := by
  have := congrArg tl h
  injection this
theorem key1_inj {a b : Nat} (h : (Sum.inr (⟨#[a]⟩ : Str) : Key) = Sum.inr ⟨#[b]⟩) : a = b := one_inj (Sum.inr.inj h)
theorem kvL_val {l : List (Nat × Nat)} (nd : (l.map (·.1)).Nodup) {c d : Nat} (h : (c, d) ∈ l) : valV (kvL l) (Sum.inr (⟨#[c]⟩ : Str) : Key) = some (.str ⟨#[d]⟩) := by
  induction l with
  | nil => cases h
  | cons q l ih =>
    rw [List.map_cons, List.nodup_cons] at nd
    rcases List.mem_cons.mp h with rfl | h
    · exact valV_pos rfl
    · have ne : q.1 ≠ c := fun e => nd.1 (e ▸ List.mem_map.mpr ⟨_, h, rfl⟩)
      have : valV (kvL (q :: l)) (Sum.inr (⟨#[c]⟩ : Str) : Key) = valV (kvL l) (Sum.inr ⟨#[c]⟩) := valV_neg (p := ((Sum.inr (⟨#[q.1]⟩ : Str) : Key), V.str ⟨#[q.2]⟩)) (fun e => ne (key1_inj e))
      rw [this]; exact ih nd.2 h
theorem kvL_put {l : List (Nat × Nat)} {c d : Nat} (h : c ∉ l.map (·.1)) : putK (kvL l) (Sum.inr (⟨#[c]⟩ : Str) : Key) (.str ⟨#[d]⟩) = kvL (l ++ [(c, d)]) := by
  have hs : (kvL l).any (fun kv => decide (kv.1 = (Sum.inr (⟨#[c]⟩ : Str) : Key))) = false := by
    rw [List.any_eq_false]
    intro kv hkv e
    obtain ⟨q, hq, rfl⟩ := List.mem_map.mp hkv
    exact h (List.mem_map.mpr ⟨q, hq, key1_inj (of_decide_eq_true e)⟩)
  unfold putK
  rw [hs, if_neg (by decide)]
  unfold kvL
  rw [List.map_append, List.map_singleton]
theorem kvL_merge (l : List (Nat × Nat)) : ∀ (acc : List (Nat × Nat)), ((acc ++ l).map (·.1)).Nodup → mergeK (kvL acc) (kvL l) = kvL (acc ++ l) := by
  induction l with
  | nil => intro acc _; rw [List.append_nil]; rfl
  | cons q l ih =>
    intro acc nd
    have e : mergeK (kvL acc) (kvL (q :: l)) = mergeK (putK (kvL acc) (Sum.inr (⟨#[q.1]⟩ : Str) : Key) (.str ⟨#[q.2]⟩)) (kvL l) := rfl
    have nq : q.1 ∉ acc.map (·.1) := fun hm => by
      rw [List.map_append, List.nodup_append] at nd
      exact nd.2.2 q.1 hm q.1 (by rw [List.map_cons]; exact List.mem_cons_self) rfl
    rw [e, kvL_put nq, show (acc ++ [(q.1, q.2)]) = acc ++ [q] from rfl, ih (acc ++ [q]) (by rw [List.append_assoc]; exact nd), List.append_assoc]; rfl
theorem kvL_of (l : List (Nat × Nat)) (nd : (l.map (·.1)).Nodup) : mergeK [] ((l.map fun q => ((⟨#[q.1]⟩ : Str), (⟨#[q.2]⟩ : Str))).map fun q => ((Sum.inr q.1 : Key), V.str q.2)) = kvL l := by
  have := kvL_merge l [] (by simpa using nd)
  rw [List.nil_append] at this
  rw [← this, List.map_map]; rfl
/-- small letters -/
def LowC (c : Nat) : Prop := 97 ≤ c ∧ c ≤ 122
/-- a dict of names: each small letter has one -/
structure NmD (H : Hp) (a : Addr) (f : Nat → Nat) : Prop where
  low : ∀ c, LowC c → LowC (f c)
  inj : InjU LowC f
  hp : ∃ l : List (Nat × Nat), H a = some (.dK (kvL l)) ∧ (l.map (·.1)).Nodup ∧ ∀ c, LowC c → (c, f c) ∈ l
theorem NmD.same {H H' : Hp} {a : Addr} {f : Nat → Nat} (h : NmD H a f) (s : Same H H') : NmD H' a f := by
  obtain ⟨l, e, r⟩ := h.hp
  exact ⟨h.low, h.inj, l, s _ _ e, r⟩
theorem NmD.lowS {H : Hp} {a : Addr} {f : Nat → Nat} (h : NmD H a f) {z : Str} (lo : Low z) : Low (ren f z) := fun c hc => by
  rw [tl_ren] at hc
  obtain ⟨d, hd, rfl⟩ := List.mem_map.mp hc
  exact h.low d (lo d hd)
/-- the alphabet with the names of its letters -/
def abcL (f : Nat → Nat) (n : Nat) : List (Nat × Nat) := (List.range n).map fun i => (97 + i, f (97 + i))
theorem abcL_keys (f : Nat → Nat) (n : Nat) : (abcL f n).map (·.1) = (List.range n).map (97 + ·) := by unfold abcL; rw [List.map_map]; rfl
theorem abcL_nodup (f : Nat → Nat) (n : Nat) : ((abcL f n).map (·.1)).Nodup := by
  rw [abcL_keys]
  exact List.pairwise_map.mpr (List.nodup_range.imp fun {a b} h e => h (by omega))
theorem abcL_mem {f : Nat → Nat} {c : Nat} (h : LowC c) : (c, f c) ∈ abcL f 26 := by
  refine List.mem_map.mpr ⟨c - 97, List.mem_range.mpr (by have := h.2; omega), ?_⟩
  have := h.1
  rw [show 97 + (c - 97) = c by omega]
/-- a naming of the small letters has one that takes it back -/
theorem back_of {f : Nat → Nat} (low : ∀ c, LowC c → LowC (f c)) (inj : InjU LowC f) : ∃ g : Nat → Nat, (∀ c, LowC c → LowC (g c)) ∧ InjU LowC g ∧ (∀ c, LowC c → g (f c) = c) ∧ (∀ c, LowC c → f (g c) = c) := by
  have onto : ∀ d, LowC d → ∃ c, LowC c ∧ f c = d := fun d hd => by
    refine Classical.byContradiction fun no => ?_
    have nd : (d :: (List.range 26).map fun i => f (97 + i)).Nodup := by
      rw [List.nodup_cons]
      refine ⟨fun h => ?_, ?_⟩
      · obtain ⟨i, hi, e⟩ := List.mem_map.mp h
        rw [List.mem_range] at hi
        exact no ⟨97 + i, ⟨by omega, by omega⟩, e⟩
      · refine List.pairwise_map.mpr ?_
        refine (List.Pairwise.and_mem.mp (List.nodup_range (n := 26))).imp fun {a b} h e => h.2.2 ?_
        have h1 := List.mem_range.mp h.1
        have h2 := List.mem_range.mp h.2.1
        have := inj _ _ (show LowC (97 + a) from ⟨by omega, by omega⟩) (show LowC (97 + b) from ⟨by omega, by omega⟩) e
        omega
    have sub : (d :: (List.range 26).map fun i => f (97 + i)).length ≤ ((List.range 26).map (97 + ·)).length := by
      refine nd.length_le_of_subset fun x hx => ?_
      have lx : LowC x := by
        rcases List.mem_cons.mp hx with rfl | hx
        · exact hd
        · obtain ⟨i, hi, rfl⟩ := List.mem_map.mp hx
          rw [List.mem_range] at hi
          exact low _ ⟨by omega, by omega⟩
      exact List.mem_map.mpr ⟨x - 97, List.mem_range.mpr (by have := lx.2; omega), by have := lx.1; show 97 + (x - 97) = x; omega⟩
    simp at sub
  have ex : ∀ d, ∃ c, LowC d → LowC c ∧ f c = d := fun d => by
    by_cases hd : LowC d
    · obtain ⟨c, hc⟩ := onto d hd
      exact ⟨c, fun _ => hc⟩
    · exact ⟨0, fun h => absurd h hd⟩
  have hg : ∀ d, LowC d → LowC (Classical.choose (ex d)) ∧ f (Classical.choose (ex d)) = d := fun d => Classical.choose_spec (ex d)
  refine ⟨fun d => Classical.choose (ex d), fun d hd => (hg d hd).1, fun a b ha hb e => ?_, fun c hc => ?_, fun c hc => (hg c hc).2⟩
  · have e : Classical.choose (ex a) = Classical.choose (ex b) := e
    rw [← (hg a ha).2, ← (hg b hb).2, e]
  · exact inj _ _ (hg (f c) (low c hc)).1 hc (hg (f c) (low c hc)).2
theorem map_back {f g : Nat → Nat} (h : ∀ c, LowC c → g (f c) = c) : ∀ {x : List Nat}, (∀ c ∈ x, LowC c) → (x.map f).map g = x
  | [], _ => rfl
  | a :: x, hx => by
    rw [List.map_cons, List.map_cons, h a (hx a List.mem_cons_self), map_back h fun c hc => hx c (List.mem_cons_of_mem _ hc)]
theorem ren_back {f g : Nat → Nat} (h : ∀ c, LowC c → g (f c) = c) {z : Str} (lo : Low z) : ren g (ren f z) = z := by
  refine ext_tl ?_
  rw [tl_ren, tl_ren, map_back h fun c hc => lo c hc]
theorem rev_ren {f : Nat → Nat} (z : Str) : revS (ren f z) = ren f (revS z) := by
  refine ext_tl ?_
  rw [tl_rev, tl_ren, tl_ren, tl_rev, List.map_reverse]
end Tx

set_option Elab.async false
set_option linter.all false
set_option maxRecDepth 100000
set_option maxHeartbeats 4000000
namespace Tx
open PySem PySem.Spec PyProof.Rows L2 TL RZ
/-! zip of a list and a tuple -/
theorem zipM_next_item {prog : Program} {w : World} {A : Around} {E : Value → Shared → Prop} {s : Shared} {z TI TO i1 i2 l1 l2 : Addr} {k1 k2 : Nat} {xs ys : Array Value} {x y a b : Value} {Q : Value → Shared → Prop}
    (D : ZipApart z TI TO i1 i2 l1 l2) (hz : IsZip s.heap z TI TO Value.none) (hTI : IsPair s.heap TI (Value.ref i1) (Value.ref i2)) (hTO : IsPair s.heap TO a b) (h1 : s.heap.IsListIter i1 l1 k1) (h2 : s.heap.IsTupleIter i2 l2 k2)
    (hl1 : s.heap.IsList l1 xs) (hl2 : s.heap.IsTuple l2 ys) (hx : xs[k1]? = some x) (hy : ys[k2]? = some y)
    (hQ : ∀ (h' : Heap), IsZip h' z TI TO (rawInt ↑s.heap.objs.size) → IsPair h' TO x y → h'.IsListIter i1 l1 (k1 + 1) → h'.IsTupleIter i2 l2 (k2 + 1) → IsPair h' s.heap.objs.size x y → h'.objs.size = s.heap.objs.size + 1 →
      (∀ (c : Addr) (o : Obj), c ≠ z → c ≠ TO → c ≠ i1 → c ≠ i2 → s.heap.get? c = some o → h'.get? c = some o) → Q (Value.ref s.heap.objs.size) { heap := h', gens := s.gens, drawn := s.drawn, toks := s.toks, os := s.os }) :
    wpAny (model prog w) A (Builtin.«zip.__next__» { pos := [Value.ref z] }) (fun fin s' => ∃ v, fin = PySem.Fin.done (Flow.ret v) ∧ Q v s') E s := by
  unfold Builtin.«zip.__next__»
  refine wpAny_bind (show wpAny _ _ (pure (Value.ref z, [])) _ _ _ from wpAny_pure ?_)
  dsimp only
  refine wpAny_bind (wpAny_field hz rfl rfl ?_)
  refine wpAny_bind (wpAny_field hz rfl rfl (wpAny_bind (wpAny_seqItems hTI rfl ?_)))
  refine wpAny_bind (wpAny_bind (wpAny_field hz rfl rfl (wpAny_pure ?_)))
  simp only [beq_self_eq_true, if_true]
  refine wpAny_bind (wpAny_rule (wpAny_bind (wpAny_field hz rfl rfl (wpAny_bind (wpAny_setField_rec hz (by simp) fun h₁ hz₁ hs₁ => ?_)))))
  refine wpAny_bind ?_
  simp only [List.zipIdx, List.forIn_cons]
  have hz₁ : IsZip h₁ z TI TO Value.ellipsis := hz₁
  refine wpAny_bind (wpAny_bind (wpAny_onRaise ?_))
  refine (show wpAny _ _ (do let r ← Builtin.SmallTypes.nextOf (Value.ref i1); pure (some r)) _ _ _ from ?_)
  refine wpAny_bind (wpAny_nextOf_list_item (h1.extBut hs₁.extBut D.i1z) (hl1.extBut hs₁.extBut D.l1z) hx fun h₂ h1₂ hs₂ => wpAny_pure ?_)
  have hTO₂ : IsPair h₂ TO a b := hs₂.extBut TO _ D.TOi1 (hs₁.extBut TO _ D.TOz hTO)
  refine wpAny_bind (wpAny_seqItems hTO₂ rfl (wpAny_bind (wpAny_updateSeq_pair hTO₂ fun h₃ hTO₃ hs₃ => wpAny_bind (wpAny_letGo (wpAny_pure ?_)))))
  have hTO₃ : IsPair h₃ TO x b := hTO₃
  dsimp only
  refine wpAny_bind (wpAny_bind (wpAny_onRaise ?_))
  refine (show wpAny _ _ (do let r ← Builtin.SmallTypes.nextOf (Value.ref i2); pure (some r)) _ _ _ from ?_)
  refine wpAny_bind (nextOf_tuple_item (((h2.extBut hs₁.extBut D.i2z).extBut hs₂.extBut D.i12.symm).extBut hs₃.extBut D.TOi2.symm) (((hl2.extBut hs₁.extBut D.l2z).extBut hs₂.extBut D.l2i1).extBut hs₃.extBut D.l2TO) hy fun h₄ h2₄ hs₄ => wpAny_pure ?_)
  have hTO₄ : IsPair h₄ TO x b := hs₄.extBut TO _ D.TOi2 hTO₃
  refine wpAny_bind (wpAny_seqItems hTO₄ rfl (wpAny_bind (wpAny_updateSeq_pair hTO₄ fun h₅ hTO₅ hs₅ => wpAny_bind (wpAny_letGo (wpAny_pure ?_)))))
  have hTO₅ : IsPair h₅ TO x y := hTO₅
  dsimp only
  simp only [List.forIn_nil]
  refine wpAny_pure ?_
  dsimp only
  refine wpAny_bind (wpAny_seqItems hTO₅ rfl ?_)
  refine wpAny_bind ?_
  refine wpAny_newTuple ?_ (by show 2 ≤ sizeLine; decide)
  have sz : h₅.objs.size = s.heap.objs.size := hs₅.1.trans (hs₄.1.trans (hs₃.1.trans (hs₂.1.trans hs₁.1)))
  have hz₅ : IsZip h₅ z TI TO Value.ellipsis := hs₅.extBut z _ D.TOz.symm (hs₄.extBut z _ D.i2z.symm (hs₃.extBut z _ D.TOz.symm (hs₂.extBut z _ D.i1z.symm hz₁)))
  have zlt := Heap.lt_size hz₅
  have pe : ∀ (c : Addr) (o' : Obj), Heap.ExtBut c h₅ (h₅.push o') := fun c o' b o _ e => Heap.get?_push_of_some _ e
  refine wpAny_bind (show wpAny _ _ (do setField (Value.ref z) 0 (rawInt ↑h₅.objs.size); setField (Value.ref z) 1 (Value.bool false)) _ _ _ from ?_)
  refine wpAny_bind (wpAny_setField_rec (Heap.get?_push_of_some _ hz₅) (by simp) fun h₇ hz₇ hs₇ => ?_)
  refine wpAny_setField_rec hz₇ (by simp) fun h₈ hz₈ hs₈ => ?_
  have f7 := hs₇.extBut
  have f8 := hs₈.extBut
  refine (show wpAny _ _ (pure (PySem.Fin.done (Flow.ret (Value.ref h₅.objs.size)))) _ _ _ from wpAny_pure ⟨_, rfl, ?_⟩)
  have res := hQ h₈ (by rw [← sz]; exact hz₈) (f8 TO _ D.TOz (f7 TO _ D.TOz (Heap.get?_push_of_some _ hTO₅)))
    ((((((h1₂.extBut hs₃.extBut D.TOi1.symm).extBut hs₄.extBut D.i12).extBut hs₅.extBut D.TOi1.symm).extBut (pe z _) D.i1z).extBut f7 D.i1z).extBut f8 D.i1z)
    ((((h2₄.extBut hs₅.extBut D.TOi2.symm).extBut (pe z _) D.i2z).extBut f7 D.i2z).extBut f8 D.i2z)
    (by
      rw [← sz]
      have ne : h₅.objs.size ≠ z := fun e => by rw [e] at zlt; exact Nat.lt_irrefl _ zlt
      exact f8 _ _ ne (f7 _ _ ne (Heap.get?_push_size h₅ rfl)))
    (by rw [← sz]; exact hs₈.1.trans (hs₇.1.trans (Heap.size_push _ _)))
    (fun c o c1 c2 c3 c4 e => f8 c o c1 (f7 c o c1 (Heap.get?_push_of_some _ (hs₅.extBut c o c2 (hs₄.extBut c o c4 (hs₃.extBut c o c2 (hs₂.extBut c o c3 (hs₁.extBut c o c1 e))))))))
  rw [sz]
  exact res
theorem zipM_next_end {prog : Program} {w : World} {A : Around} {E : Value → Shared → Prop} {s : Shared} {z TI TO i1 i2 l1 l2 : Addr} {k1 k2 : Nat} {xs ys : Array Value} {a b : Value} {Q : PySem.Fin → Shared → Prop}
    (hh : A.handled = none) (D : ZipApart z TI TO i1 i2 l1 l2) (hz : IsZip s.heap z TI TO Value.none) (hTI : IsPair s.heap TI (Value.ref i1) (Value.ref i2)) (hTO : IsPair s.heap TO a b) (h1 : s.heap.IsListIter i1 l1 k1) (h2 : s.heap.IsTupleIter i2 l2 k2)
    (hl1 : s.heap.IsList l1 xs) (hl2 : s.heap.IsTuple l2 ys) (hend : xs[k1]? = none ∨ ys[k2]? = none)
    (hE : ∀ (h' : Heap) (e : Addr), (∀ (c : Addr) (o : Obj), c ≠ z → c ≠ TO → c ≠ i1 → c ≠ i2 → s.heap.get? c = some o → h'.get? c = some o) → (∃ o, h'.get? e = some o ∧ o.cls = Value.type "StopIteration") →
      E (Value.ref e) { heap := h', gens := s.gens, drawn := s.drawn, toks := s.toks, os := s.os }) :
    wpAny (model prog w) A (Builtin.«zip.__next__» { pos := [Value.ref z] }) Q E s := by
  unfold Builtin.«zip.__next__»
  refine wpAny_bind (show wpAny _ _ (pure (Value.ref z, [])) _ _ _ from wpAny_pure ?_)
  dsimp only
  refine wpAny_bind (wpAny_field hz rfl rfl ?_)
  refine wpAny_bind (wpAny_field hz rfl rfl (wpAny_bind (wpAny_seqItems hTI rfl ?_)))
  refine wpAny_bind (wpAny_bind (wpAny_field hz rfl rfl (wpAny_pure ?_)))
  simp only [beq_self_eq_true, if_true]
  refine wpAny_bind (wpAny_rule (wpAny_bind (wpAny_field hz rfl rfl (wpAny_bind (wpAny_setField_rec hz (by simp) fun h₁ hz₁ hs₁ => ?_)))))
  refine wpAny_bind ?_
  simp only [List.zipIdx, List.forIn_cons]
  have hz₁ : IsZip h₁ z TI TO Value.ellipsis := hz₁
  refine wpAny_bind (wpAny_bind (wpAny_onRaise ?_))
  refine (show wpAny _ _ (do let r ← Builtin.SmallTypes.nextOf (Value.ref i1); pure (some r)) _ _ _ from ?_)
  have notz : ∀ {h : Heap} {e : Addr} {oe : Obj} {f0 : Value}, IsZip h z TI TO f0 → h.get? e = some oe → oe.cls = Value.type "StopIteration" → e ≠ z := fun hz he hc e => by
    rw [e, hz] at he
    rw [← Option.some.inj he] at hc
    injection hc with hc
    exact absurd hc (by decide)
  cases hx : xs[k1]? with
  | none =>
    refine wpAny_bind (wpAny_nextOf_list_end hh (h1.extBut hs₁.extBut D.i1z) (hl1.extBut hs₁.extBut D.l1z) hx fun h₂ e hs₂ ⟨oe, hoe, hce⟩ => ?_)
    have hz₂ : IsZip h₂ z TI TO Value.ellipsis := hs₂ z _ D.i1z.symm hz₁
    refine wpAny_setField_rec hz₂ (by simp) fun h₃ _ hs₃ => ?_
    exact hE h₃ e (fun c o c1 _ c3 _ e => hs₃.extBut c o c1 (hs₂ c o c3 (hs₁.extBut c o c1 e))) ⟨oe, hs₃.extBut e oe (notz hz₂ hoe hce) hoe, hce⟩
  | some x =>
    have hy : ys[k2]? = none := hend.resolve_left fun h => by rw [hx] at h; cases h
    refine wpAny_bind (wpAny_nextOf_list_item (h1.extBut hs₁.extBut D.i1z) (hl1.extBut hs₁.extBut D.l1z) hx fun h₂ h1₂ hs₂ => wpAny_pure ?_)
    have hTO₂ : IsPair h₂ TO a b := hs₂.extBut TO _ D.TOi1 (hs₁.extBut TO _ D.TOz hTO)
    refine wpAny_bind (wpAny_seqItems hTO₂ rfl (wpAny_bind (wpAny_updateSeq_pair hTO₂ fun h₃ hTO₃ hs₃ => wpAny_bind (wpAny_letGo (wpAny_pure ?_)))))
    dsimp only
    refine wpAny_bind (wpAny_bind (wpAny_onRaise ?_))
    refine (show wpAny _ _ (do let r ← Builtin.SmallTypes.nextOf (Value.ref i2); pure (some r)) _ _ _ from ?_)
    refine wpAny_bind (nextOf_tuple_end hh (((h2.extBut hs₁.extBut D.i2z).extBut hs₂.extBut D.i12.symm).extBut hs₃.extBut D.TOi2.symm) (((hl2.extBut hs₁.extBut D.l2z).extBut hs₂.extBut D.l2i1).extBut hs₃.extBut D.l2TO) hy fun h₄ e hs₄ ⟨oe, hoe, hce⟩ => ?_)
    have hz₄ : IsZip h₄ z TI TO Value.ellipsis := hs₄ z _ D.i2z.symm (hs₃.extBut z _ D.TOz.symm (hs₂.extBut z _ D.i1z.symm hz₁))
    refine wpAny_setField_rec hz₄ (by simp) fun h₅ _ hs₅ => ?_
    exact hE h₅ e (fun c o c1 c2 c3 c4 e => hs₅.extBut c o c1 (hs₄ c o c4 (hs₃.extBut c o c2 (hs₂.extBut c o c3 (hs₁.extBut c o c1 e))))) ⟨oe, hs₅.extBut e oe (notz hz₄ hoe hce) hoe, hce⟩
section
variable {prog : Program} {w : World} {A : Around} {E : Value → Shared → Prop} {s : Shared} {z TI TO i1 i2 l1 l2 : Addr} {k1 k2 : Nat} {xs ys : Array Value} {x y a b : Value} {Q : Option Value → Shared → Prop}
theorem pyNext_zipM_item (D : ZipApart z TI TO i1 i2 l1 l2) (hz : IsZip s.heap z TI TO Value.none) (hTI : IsPair s.heap TI (Value.ref i1) (Value.ref i2)) (hTO : IsPair s.heap TO a b) (h1 : s.heap.IsListIter i1 l1 k1) (h2 : s.heap.IsTupleIter i2 l2 k2)
    (hl1 : s.heap.IsList l1 xs) (hl2 : s.heap.IsTuple l2 ys) (hx : xs[k1]? = some x) (hy : ys[k2]? = some y)
    (hQ : ∀ (h' : Heap), IsZip h' z TI TO (rawInt ↑s.heap.objs.size) → IsPair h' TO x y → h'.IsListIter i1 l1 (k1 + 1) → h'.IsTupleIter i2 l2 (k2 + 1) → IsPair h' s.heap.objs.size x y → h'.objs.size = s.heap.objs.size + 1 →
      (∀ (c : Addr) (o : Obj), c ≠ z → c ≠ TO → c ≠ i1 → c ≠ i2 → s.heap.get? c = some o → h'.get? c = some o) → Q (some (Value.ref s.heap.objs.size)) { heap := h', gens := s.gens, drawn := s.drawn, toks := s.toks, os := s.os }) :
    wpAny (model prog w) A (pyNext (Value.ref z)) Q E s := by
  have hT : s.TypeIs (Value.ref z) "zip" := ⟨_, hz, rfl⟩
  unfold pyNext
  refine wpAny_bind (wpAny_attempt (wpAny_callSpecial?_slot hT F.slot_zip_next (wpAny_call_entry F.slot_zip_next hT F.entry_zip_next (zipM_next_item D hz hTI hTO h1 h2 hl1 hl2 hx hy fun h' a1 a2 a3 a4 a5 a6 a7 => ?_) (F.args_zip_next_1 (Value.ref z)))))
  exact wpAny_pure (hQ h' a1 a2 a3 a4 a5 a6 a7)
theorem pyNext_zipM_end (hh : A.handled = none) (D : ZipApart z TI TO i1 i2 l1 l2) (hz : IsZip s.heap z TI TO Value.none) (hTI : IsPair s.heap TI (Value.ref i1) (Value.ref i2)) (hTO : IsPair s.heap TO a b) (h1 : s.heap.IsListIter i1 l1 k1) (h2 : s.heap.IsTupleIter i2 l2 k2)
    (hl1 : s.heap.IsList l1 xs) (hl2 : s.heap.IsTuple l2 ys) (hend : xs[k1]? = none ∨ ys[k2]? = none)
    (hQ : ∀ (h' : Heap), (∀ (c : Addr) (o : Obj), c ≠ z → c ≠ TO → c ≠ i1 → c ≠ i2 → s.heap.get? c = some o → h'.get? c = some o) → Q none { heap := h', gens := s.gens, drawn := s.drawn, toks := s.toks, os := s.os }) :
    wpAny (model prog w) A (pyNext (Value.ref z)) Q E s := by
  have hT : s.TypeIs (Value.ref z) "zip" := ⟨_, hz, rfl⟩
  unfold pyNext
  refine wpAny_bind (wpAny_attempt (wpAny_callSpecial?_slot hT F.slot_zip_next (wpAny_call_entry F.slot_zip_next hT F.entry_zip_next (zipM_next_end hh D hz hTI hTO h1 h2 hl1 hl2 hend fun h' e hk ⟨o, ho, hc⟩ => ?_) (F.args_zip_next_1 (Value.ref z)))))
  exact wpAny_bind (wpAny_isInstance ⟨o, ho, hc⟩ isSubtype_stop (wpAny_pure (hQ h' hk)))
end
abbrev zipMH1 (h : Heap) (l1 : Addr) : Heap := h.push { cls := Value.type "list_iterator", data := Data.fields #[Value.ref l1, Value.int 0 0] }
abbrev zipMH2 (h : Heap) (l1 l2 : Addr) : Heap := (zipMH1 h l1).push { cls := Value.type "tuple_iterator", data := Data.fields #[Value.ref l2, Value.int 0 0] }
abbrev zipMH3 (h : Heap) (l1 l2 : Addr) : Heap := (zipMH2 h l1 l2).push { cls := Value.type "tuple", data := Data.seq #[Value.ref h.objs.size, Value.ref (zipMH1 h l1).objs.size] }
abbrev zipMH4 (h : Heap) (l1 l2 : Addr) : Heap := (zipMH3 h l1 l2).push { cls := Value.type "tuple", data := Data.seq #[Value.none, Value.none] }
abbrev zipMH5 (h : Heap) (l1 l2 : Addr) : Heap := (zipMH4 h l1 l2).push { cls := Value.type "zip", data := Data.fields #[Value.none, Value.bool false, Value.bool false, Value.ref (zipMH2 h l1 l2).objs.size, Value.ref (zipMH3 h l1 l2).objs.size] }
theorem meets_zipM_new (l1 l2 : Addr) (xs ys : Array Value) : Meets (Builtin.«zip.__new__» { pos := [Value.type "zip", Value.ref l1, Value.ref l2] }) fun x R s =>
    s.heap.IsList l1 xs ∧ s.heap.IsTuple l2 ys ∧ R (Except.ok (Flow.ret (Value.ref (zipMH4 s.heap l1 l2).objs.size))) { heap := zipMH5 s.heap l1 l2, gens := s.gens, drawn := s.drawn, toks := s.toks, os := s.os } := by
  refine Meets.of_wp fun prog w A R s h => ?_
  obtain ⟨hp, g, d, tk, os⟩ := s
  obtain ⟨hl1, hl2, h⟩ := h
  have hsub := sub_zip
  have hL1 := hl1
  have hL2 := Heap.IsTuple.push hl2 { cls := Value.type "list_iterator", data := Data.fields #[Value.ref l1, Value.int 0 0] }
  unfold Builtin.«zip.__new__»
  refine wpAny_bind ?_
  unfold Builtin.SmallTypes.newClass
  refine wpAny_bind ?_
  refine (wpAny_pure (wpAny_ite_false (Eq.refl _) (wpAny_bind (wpAny_of_eq hsub (wpAny_ite_false (Eq.refl _) (wpAny_pure ?_))))))
  refine wpAny_ite_false (Eq.refl _) ?_
  refine wpAny_bind ?_
  unfold Builtin.SmallTypes.iterAll
  dsimp only
  refine wpAny_bind ?_
  simp only [List.forIn_cons, List.forIn_nil]
  refine wpAny_bind (wpAny_bind (wpAny_holding (wpAny_pyIter_list hL1 (wpAny_pure ?_))))
  dsimp only
  refine wpAny_bind (wpAny_bind (wpAny_holding (wpAny_pyIter_tuple hL2 (wpAny_pure ?_))))
  dsimp only
  refine wpAny_pure ?_
  refine wpAny_pure ?_
  refine wpAny_bind (wpAny_newTuple ?_ (by show 2 ≤ sizeLine; decide))
  refine wpAny_bind (wpAny_newTuple ?_ (by show 2 ≤ sizeLine; decide))
  refine wpAny_bind ?_
  unfold Builtin.SmallTypes.newRecord newObj
  refine wpAny_ite_false (decide_eq_false (by show ¬ (5 > sizeLine + 2); decide)) ?_
  unfold newObjAsIs
  refine wpAny_bind (wpAny_alloc' ?_)
  refine (show wpAny _ _ (pure (Value.ref (zipMH4 hp l1 l2).objs.size)) _ _ _ from wpAny_pure ?_)
  exact (show wpAny _ _ (pure (PySem.Fin.done (Flow.ret (Value.ref (zipMH4 hp l1 l2).objs.size)))) _ _ _ from wpAny_pure ⟨_, rfl, h⟩)
theorem call_zipM {prog : Program} {w : World} {A : Around} {E : Value → Shared → Prop} {s : Shared} {l1 l2 : Addr} {xs ys : Array Value} {Q : Value → Shared → Prop} (hl1 : s.heap.IsList l1 xs) (hl2 : s.heap.IsTuple l2 ys)
    (h : ∀ (h' : Heap), IsZip h' (s.heap.objs.size + 4) (s.heap.objs.size + 2) (s.heap.objs.size + 3) Value.none → IsPair h' (s.heap.objs.size + 2) (Value.ref s.heap.objs.size) (Value.ref (s.heap.objs.size + 1)) → IsPair h' (s.heap.objs.size + 3) Value.none Value.none →
      h'.IsListIter s.heap.objs.size l1 0 → h'.IsTupleIter (s.heap.objs.size + 1) l2 0 → h'.objs.size = s.heap.objs.size + 5 → (∀ (c : Addr) (o : Obj), s.heap.get? c = some o → h'.get? c = some o) →
      Q (Value.ref (s.heap.objs.size + 4)) { heap := h', gens := s.gens, drawn := s.drawn, toks := s.toks, os := s.os }) : wpAny (model prog w) A (call (Value.type "zip") [Value.ref l1, Value.ref l2]) Q E s := by
  have z1 : (zipMH1 s.heap l1).objs.size = s.heap.objs.size + 1 := Heap.size_push _ _
  have z2 : (zipMH2 s.heap l1 l2).objs.size = s.heap.objs.size + 2 := (Heap.size_push _ _).trans (by rw [z1])
  have z3 : (zipMH3 s.heap l1 l2).objs.size = s.heap.objs.size + 3 := (Heap.size_push _ _).trans (by rw [z2])
  have z4 : (zipMH4 s.heap l1 l2).objs.size = s.heap.objs.size + 4 := (Heap.size_push _ _).trans (by rw [z3])
  have z5 : (zipMH5 s.heap l1 l2).objs.size = s.heap.objs.size + 5 := (Heap.size_push _ _).trans (by rw [z4])
  have g5 : (zipMH5 s.heap l1 l2).get? (zipMH4 s.heap l1 l2).objs.size = _ := Heap.get?_push_size (zipMH4 s.heap l1 l2) rfl
  have g4 : (zipMH5 s.heap l1 l2).get? (zipMH3 s.heap l1 l2).objs.size = _ := Heap.get?_push_of_some _ (Heap.get?_push_size (zipMH3 s.heap l1 l2) rfl)
  have g3 : (zipMH5 s.heap l1 l2).get? (zipMH2 s.heap l1 l2).objs.size = _ := Heap.get?_push_of_some _ (Heap.get?_push_of_some _ (Heap.get?_push_size (zipMH2 s.heap l1 l2) rfl))
  have g2 : (zipMH5 s.heap l1 l2).get? (zipMH1 s.heap l1).objs.size = _ := Heap.get?_push_of_some _ (Heap.get?_push_of_some _ (Heap.get?_push_of_some _ (Heap.get?_push_size (zipMH1 s.heap l1) rfl)))
  have g1 : (zipMH5 s.heap l1 l2).get? s.heap.objs.size = _ := Heap.get?_push_of_some _ (Heap.get?_push_of_some _ (Heap.get?_push_of_some _ (Heap.get?_push_of_some _ (Heap.get?_push_size s.heap rfl))))
  rw [z4, z2, z3] at g5
  rw [z3] at g4
  rw [z2, z1] at g3
  rw [z1] at g2
  refine callType_new F.called_zip (by decide) (F.typeCall_zip_2 (Value.ref l1) (Value.ref l2)) (F.newCall_zip_2 (Value.ref l1) (Value.ref l2)) (fun obj => F.args_object_init_3 obj (Value.ref l1) (Value.ref l2)) F.entry_zip_new (meets_zipM_new l1 l2 xs ys) ⟨hl1, hl2, ?_⟩
  show _ ∧ _
  rw [z4]
  refine ⟨⟨_, g5, rfl⟩, h (zipMH5 s.heap l1 l2) g5 g3 g4 ⟨_, g1, rfl, rfl⟩ ⟨_, g2, rfl, rfl⟩ z5 fun c o e => ?_⟩
  exact Heap.get?_push_of_some _ (Heap.get?_push_of_some _ (Heap.get?_push_of_some _ (Heap.get?_push_of_some _ (Heap.get?_push_of_some _ e))))
open L2 in
def ItzM (K : PySem.W.Frag) (a b : Addr) : It :=
  { go := fun i H => ∃ xs ys x y, SqL K H a xs ∧ SqT K H b ys ∧ xs[i]? = some x ∧ ys[i]? = some y,
    yld := fun i H v H' => ∃ T x y, v = V.ref T ∧ H T = none ∧ H' = upd H T (HO.tup [x, y]) ∧ (∀ (xs : List V), SqL K H a xs → xs[i]? = some x) ∧ ∀ (ys : List V), SqT K H b ys → ys[i]? = some y,
    stop := fun i H => ∃ xs ys, SqL K H a xs ∧ SqT K H b ys ∧ (xs.length ≤ i ∨ ys.length ≤ i) }
theorem turn_zipM {P : Program} {w : World} {K : PySem.W.Frag} {elts : List Expr} {kk : Nat} {tpos : Pos} {a b z TI TO i1 i2 : Addr} (D : ZipApart z TI TO i1 i2 a b) :
    Turn P w K (Expr.Tuple elts kk tpos) (ItzM K a b) [z, TI, TO, i1, i2] z fun i h =>
      IsZip h z TI TO Value.none ∧ IsPair h TI (Value.ref i1) (Value.ref i2) ∧ (∃ x y, IsPair h TO x y) ∧ h.IsListIter i1 a i ∧ h.IsTupleIter i2 b i := by
  refine ⟨by simp, ?obj, ?keep, ?item, ?done, fun A i s Q E st h => wpAny_pyIter_zip st.1 h⟩
  case obj =>
    rintro i h ⟨hz, hTI, ⟨x, y, hTO⟩, ⟨o1, e1, c1, d1⟩, ⟨o2, e2, c2, d2⟩⟩ c hc
    simp only [List.mem_cons, List.not_mem_nil, or_false] at hc
    rcases hc with rfl | rfl | rfl | rfl | rfl
    · exact ⟨_, hz, fun v q => by cases q⟩
    · exact ⟨_, hTI, fun v q => by cases q⟩
    · exact ⟨_, hTO, fun v q => by cases q⟩
    · exact ⟨_, e1, fun v q => by rw [d1] at q; cases q⟩
    · exact ⟨_, e2, fun v q => by rw [d2] at q; cases q⟩
  case keep =>
    rintro i h h' ⟨hz, hTI, ⟨x, y, hTO⟩, h1, h2⟩ k
    exact ⟨k z (by simp) _ hz, k TI (by simp) _ hTI, ⟨x, y, k TO (by simp) _ hTO⟩, h1.at fun o q => k i1 (by simp) o q, h2.at fun o q => k i2 (by simp) o q⟩
  case item =>
    rintro X hP hw hK hc i pins s σ H E I hf ⟨hz, hTI, ⟨x0, y0, hTO⟩, h1, h2⟩ hg
    subst hP hw hK
    obtain ⟨xs, ys, x, y, hqx, hqy, hx, hy⟩ := hg
    obtain ⟨its, rv, p, _⟩ := Inv.list I hqx
    obtain ⟨its2, rv2, p2, _⟩ := Inv.tuple I hqy
    obtain ⟨u, hu, ru⟩ := Vals.get rv hx
    obtain ⟨u2, hu2, ru2⟩ := Vals.get rv2 hy
    have hzl := Heap.lt_size hz
    refine pyNext_zipM_item D hz hTI hTO h1 h2 p.isList p2 (x := u) (y := u2) (by simpa using hu) (by simpa using hu2) fun h' z' TO' h1' h2' hT hsz hk => ?_
    refine ⟨_, rfl, wpAny_letOwnedTupleGo_zip z' fun h'' z'' sb => ?_⟩
    have hT2 := (sb.2 s.heap.objs.size (Nat.ne_of_gt hzl)).trans hT
    have new : ObjOk X.prog X.w (upd H s.heap.objs.size (HO.tup [x, y])) h'' s.heap.objs.size (HO.tup [x, y]) := ⟨by show 2 ≤ sizeLine; decide, [u, u2], .cons ru (.cons ru2 .nil), _, hT2, rfl, 0, rfl⟩
    have I1 := Inv.turnedNew (ch := [z, TI, TO, i1, i2]) (t' := s.toks) I (fun c o hb q => by
      simp only [List.mem_cons, List.not_mem_nil, or_false, not_or] at hb
      exact (sb.2 c hb.1).trans (hk c o hb.1 hb.2.2.1 hb.2.2.2.1 hb.2.2.2.2 q)) hf (Nat.le_refl _) new
    refine ⟨.ref s.heap.objs.size, upd H s.heap.objs.size (HO.tup [x, y]), I1, rfl, ⟨_, x, y, rfl, HOk.fresh I.hok (Nat.le_refl _), rfl, fun l hl => by rw [Inv.list_inj I hl hqx]; exact hx, fun l hl => by rw [Inv.tuple_inj I hl hqy]; exact hy⟩, ⟨z'', (sb.2 TI D.TIz).trans (hk TI _ D.TIz D.TITO D.TIi1 D.TIi2 hTI), ⟨u, u2, (sb.2 TO D.TOz).trans TO'⟩, h1'.at fun o q => (sb.2 i1 D.i1z).trans q, h2'.at fun o q => (sb.2 i2 D.i2z).trans q⟩, fun c hcm => ?_⟩
    have hlt : c < s.heap.objs.size := by
      have hcm' := hcm
      simp only [List.mem_cons, List.not_mem_nil, or_false] at hcm'
      rcases hcm' with rfl | rfl | rfl | rfl | rfl
      · exact hzl
      · exact Heap.lt_size hTI
      · exact Heap.lt_size hTO
      · obtain ⟨_, e1, _⟩ := h1; exact Heap.lt_size e1
      · obtain ⟨_, e2, _⟩ := h2; exact Heap.lt_size e2
    rw [upd_ne (Nat.ne_of_lt hlt)]
    exact (hf c hcm).1
  case done =>
    rintro X hP hw hK hc i pins s σ H E I hf ⟨hz, hTI, ⟨x0, y0, hTO⟩, h1, h2⟩ hg
    subst hP hw hK
    obtain ⟨xs, ys, hqx, hqy, hend⟩ := hg
    obtain ⟨its, rv, p, _⟩ := Inv.list I hqx
    obtain ⟨its2, rv2, p2, _⟩ := Inv.tuple I hqy
    have l1 := Vals.length rv
    have l2 := Vals.length rv2
    have he : its.toArray[i]? = none ∨ its2.toArray[i]? = none := by
      rcases hend with q | q
      · left; simp; omega
      · right; simp; omega
    refine pyNext_zipM_end (I.ok.hd hc) D hz hTI hTO h1 h2 p.isList p2 he fun h' hk => ⟨rfl, Inv.turnedL (ch := [z, TI, TO, i1, i2]) I (fun c o hb q => ?_) hf⟩
    simp only [List.mem_cons, List.not_mem_nil, or_false, not_or] at hb
    exact hk c o hb.1 hb.2.2.1 hb.2.2.2.1 hb.2.2.2.2 q
open L2 in
def iZipM (K : PySem.W.Frag) (ta : TA) : TI := fun σ H R => ta σ H fun vs H1 => ∃ a b xs ys, vs = [V.ref a, V.ref b] ∧ SqL K H1 a xs ∧ SqT K H1 b ys ∧ R (ItzM K a b) H1
theorem pi_zipM {X : Cx} {e e2 : Expr} {ta : TA} {p pos tpos : Pos} {elts : List Expr} {kk : Nat} (hg : Gl X (Str.ofString "zip")) (hm : X.mg (Str.ofString "zip") = none) (ha : PA X [e, e2] ta)
    (hs : starEach [e, e2] X.env = (false, eval e X.env) :: starEach [e2] X.env := by rfl) (hpl : ((backTo pos (starEach [e2] X.env)).any fun x => x.fst) = false := by rfl) :
    PI X (Expr.Tuple elts kk tpos) ((Expr.Name (Str.ofString "zip") p).Call [e, e2] [] pos) (iZipM X.K ta) := by
  refine ⟨fun pins s σ H R I h => Call_ (ld_blt I hg hm boot_zip (callWith_type1 (thn (ha.run pos pins s σ H _ I h) fun us s1 ⟨vs, H1, I1, r1, q1⟩ => ?_) hs hpl))⟩
  obtain ⟨a, b, xs, ys, rfl, qx, qy, q⟩ := q1
  cases r1 with
  | cons r rr =>
  cases rr with
  | cons r' rr2 =>
  cases rr2
  cases r
  cases r'
  obtain ⟨its, rv, p1, _⟩ := Inv.list I1 qx
  obtain ⟨its2, rv2, p2, _⟩ := Inv.tuple I1 qy
  have lt2 : b < s1.heap.objs.size := by
    obtain ⟨o2, ho2, _⟩ := id p2
    exact Heap.lt_size ho2
  refine call_zipM p1.isList p2 fun h' hz hTI hTO h1 h2 hsz hk => wpAny_pyIter_zip hz ?_
  have I2 := Inv.kept (t' := s1.toks) I1 hk
  refine ⟨s1.heap.objs.size + 4, [s1.heap.objs.size + 4, s1.heap.objs.size + 2, s1.heap.objs.size + 3, s1.heap.objs.size, s1.heap.objs.size + 1], _, ItzM X.K a b, H1, rfl, I2, turn_zipM (PySem.W.ktu_apart _ a b p1.lt lt2), ⟨hz, hTI, ⟨_, _, hTO⟩, h1, h2⟩, fun c hc => ?_, q⟩
  have ge : s1.heap.objs.size ≤ c := by
    simp only [List.mem_cons, List.not_mem_nil, or_false] at hc
    rcases hc with rfl | rfl | rfl | rfl | rfl
    · exact Nat.le_add_right _ _
    · exact Nat.le_add_right _ _
    · exact Nat.le_add_right _ _
    · exact Nat.le_refl _
    · exact Nat.le_add_right _ _
  exact I1.fpOk ge (HOk.fresh I1.hok ge)
open L2 in
theorem for_zipM {K : PySem.W.Frag} {a b : Addr} {xs ys : List V} {g : TG} {tb : TS} {D : L2.Ends} {σ : L2.St} {H : Hp} (hl : xs.length = ys.length) (Pv : Nat → L2.St → Hp → Prop) (h0 : Pv 0 σ H) (hq : ∀ (i : Nat) (σ : L2.St) (H : Hp), Pv i σ H → SqL K H a xs ∧ SqT K H b ys)
    (hs : ∀ (i : Nat) (x y : V) (T : Addr) (σ : L2.St) (H : Hp), xs[i]? = some x → ys[i]? = some y → Pv i σ H → H T = none → g (V.ref T) σ (upd H T (HO.tup [x, y])) fun σ2 H2 => tb { D with nx := Pv (i + 1), ct := Pv (i + 1), bk := D.nx } σ2 H2)
    (hd : ∀ (σ : L2.St) (H : Hp), Pv xs.length σ H → D.nx σ H) :
    ∃ W : Nat → Nat → L2.St → Hp → Prop, (∃ m, W 0 m σ H) ∧ ∀ (i m : Nat) (σ : L2.St) (H : Hp), W i m σ H → ((ItzM K a b).stop i H ∧ D.nx σ H) ∨ ((ItzM K a b).go i H ∧ ∃ N : L2.St → Hp → Prop, (∀ (σ' : L2.St) (H' : Hp), N σ' H' → ∃ m', m' < m ∧ W (i + 1) m' σ' H') ∧
      ∀ (v : V) (H' : Hp), (ItzM K a b).yld i H v H' → g v σ H' fun σ2 H2 => tb { D with nx := N, ct := N, bk := D.nx } σ2 H2) := by
  refine ⟨fun i m σ H => m + i = xs.length ∧ Pv i σ H, ⟨xs.length, rfl, h0⟩, fun i m σ H ⟨e, p⟩ => ?_⟩
  obtain ⟨qx, qy⟩ := hq i σ H p
  by_cases lt : i < xs.length
  · have gx : xs[i]? = some xs[i] := List.getElem?_eq_getElem lt
    have gy : ys[i]? = some (ys[i]'(by omega)) := List.getElem?_eq_getElem (by omega)
    refine .inr ⟨⟨xs, ys, _, _, qx, qy, gx, gy⟩, Pv (i + 1), fun σ' H' p' => ⟨m - 1, by omega, by omega, p'⟩, fun v H' y => ?_⟩
    obtain ⟨T, x', y', rfl, hT, rfl, f1, f2⟩ := y
    exact hs i x' y' T σ H (f1 xs qx) (f2 ys qy) p hT
  · obtain rfl : i = xs.length := by omega
    exact .inl ⟨⟨xs, ys, qx, qy, .inl (Nat.le_refl _)⟩, hd σ H p⟩
end Tx

set_option Elab.async false
set_option linter.all false
set_option maxRecDepth 100000
set_option maxHeartbeats 1000000
namespace Tx
open PySem PySem.Spec PyProof.Rows L2 TL RZ
/-! ### texts and their steps -/
theorem steps_snoc {n : Nat} {y : List Nat} {c : Nat} (hn : 1 ≤ n) (h : n ≤ y.length) : steps n (y ++ [c]) = steps n y ++ [mkS ((y ++ [c]).drop (y.length + 1 - n))] := by
  unfold steps
  rw [List.length_append, List.length_singleton, show y.length + 1 + 1 - n = (y.length + 1 - n) + 1 by omega, List.range_succ, List.map_append, List.map_singleton]
  congr 1
  · refine List.map_congr_left fun i hi => ?_
    have := List.mem_range.mp hi
    unfold cut
    rw [List.drop_append_of_le_length (by omega), List.take_append_of_le_length (by rw [List.length_drop]; omega)]
  · unfold cut
    rw [List.take_of_length_le (by rw [List.length_drop, List.length_append, List.length_singleton]; omega)]
theorem txt_steps {n : Nat} (hn : 1 ≤ n) : ∀ (m : Nat) (x : List Nat), x.length = n + m → txt (steps n x) = x
  | 0, x, h => by
    unfold steps
    rw [show x.length + 1 - n = 1 by omega]
    show tl (mkS (cut x 0 n)) ++ [] = x
    rw [List.append_nil, tl_mkS]
    unfold cut
    rw [List.drop_zero, List.take_of_length_le (by omega)]
  | m + 1, x, h => by
    have ne : x ≠ [] := fun e => by rw [e] at h; simp at h
    obtain ⟨y, c, rfl⟩ : ∃ y c, x = y ++ [c] := ⟨x.dropLast, x.getLast ne, (List.dropLast_concat_getLast ne).symm⟩
    have hy : y.length = n + m := by rw [List.length_append, List.length_singleton] at h; omega
    have sne : steps n y ≠ [] := fun e => by
      have := steps_size n y
      rw [e] at this
      simp at this
      omega
    rw [steps_snoc hn (by omega), txt_add sne, txt_steps hn m y hy]
    congr 1
    unfold lasL
    rw [len_mkS, tl_mkS, List.length_drop, List.length_append, List.length_singleton, List.drop_drop]
    rw [show y.length + 1 - n + (y.length + 1 - (y.length + 1 - n) - 1) = y.length by omega, List.drop_left]
/-! ### other letters, and read from behind -/
def ptS (f : Nat → Nat) (t : Bool) (z : Str) : Str := if t = true then revS (ren f z) else ren f z
theorem ptS_len (f : Nat → Nat) (t : Bool) (z : Str) : (ptS f t z).length = z.length := by
  unfold ptS; split
  · rw [rev_len, ren_len]
  · rw [ren_len]
theorem ren_low {f : Nat → Nat} (low : ∀ c, LowC c → LowC (f c)) {z : Str} (lo : Low z) : Low (ren f z) := fun c hc => by
  rw [tl_ren] at hc
  obtain ⟨d, hd, rfl⟩ := List.mem_map.mp hc
  exact low d (lo d hd)
theorem rev_low {z : Str} (lo : Low z) : Low (revS z) := fun c hc => by
  rw [tl_rev, List.mem_reverse] at hc
  exact lo c hc
theorem ptS_low {f : Nat → Nat} (low : ∀ c, LowC c → LowC (f c)) {t : Bool} {z : Str} (lo : Low z) : Low (ptS f t z) := by
  unfold ptS; split
  · exact rev_low (ren_low low lo)
  · exact ren_low low lo
theorem ptS_back {f g : Nat → Nat} (h : ∀ c, LowC c → g (f c) = c) {t : Bool} {z : Str} (lo : Low z) : ptS g t (ptS f t z) = z := by
  unfold ptS; split
  · rw [rev_ren z, ren_back h (rev_low lo), revS_revS]
  · rw [ren_back h lo]
structure Put (f : Nat → Nat) (t : Bool) (ws ys : List Str) : Prop where
  fl : ∀ c, LowC c → LowC (f c)
  fi : InjU LowC f
  low : ∀ v ∈ ws, Low v
  mem : ∀ y, y ∈ ys ↔ ∃ v ∈ ws, y = ptS f t v
section
variable {f g : Nat → Nat} {t : Bool} {ws ys : List Str} {n : Nat}
theorem Put.rn0 (p : Put f t ws ys) : Rn LowC f ws (ws.map (ren f)) := ⟨p.fi, p.low, fun x => by
  rw [List.mem_map]
  exact ⟨fun ⟨v, hv, e⟩ => ⟨v, hv, e.symm⟩, fun ⟨v, hv, e⟩ => ⟨v, hv, e.symm⟩⟩⟩
theorem Put.rn (p : Put f false ws ys) : Rn LowC f ws ys := ⟨p.fi, p.low, p.mem⟩
theorem Put.rv (p : Put f true ws ys) : Rv (ws.map (ren f)) ys := ⟨fun x => by
  rw [p.mem, List.mem_map]
  constructor
  · rintro ⟨v, hv, e⟩
    exact ⟨v, hv, by rw [e]; unfold ptS; rw [if_pos rfl, revS_revS]⟩
  · rintro ⟨v, hv, e⟩
    exact ⟨v, hv, by unfold ptS; rw [if_pos rfl, e, revS_revS]⟩⟩
theorem Put.joined (p : Put f t ws ys) (j : Joined ws) : Joined ys := by
  cases t with
  | true => exact p.rv.joined.mpr (p.rn0.joined.mpr j)
  | false => exact p.rn.joined.mpr j
theorem Put.inv (p : Put f t ws ys) (gl : ∀ c, LowC c → LowC (g c)) (gi : InjU LowC g) (h : ∀ c, LowC c → g (f c) = c) : Put g t ys ws := by
  refine ⟨gl, gi, fun y hy => ?_, fun v => ⟨fun hv => ⟨ptS f t v, (p.mem _).mpr ⟨v, hv, rfl⟩, (ptS_back h (p.low v hv)).symm⟩, fun ⟨y, hy, e⟩ => ?_⟩⟩
  · obtain ⟨v, hv, rfl⟩ := (p.mem y).mp hy
    exact ptS_low p.fl (p.low v hv)
  · obtain ⟨v', hv', rfl⟩ := (p.mem y).mp hy
    rw [e, ptS_back h (p.low v' hv')]; exact hv'
/-- the steps of what a text becomes -/
theorem steps_put (hn : 1 ≤ n) (z : Str) : steps n (tl (ptS f t z)) = if t = true then (((steps n (tl z)).map (ren f)).map revS).reverse else (steps n (tl z)).map (ren f) := by
  unfold ptS
  cases t with
  | true => rw [if_pos rfl, if_pos rfl, steps_wordB hn, steps_wordR]
  | false => rw [if_neg (by decide), if_neg (by decide), steps_wordR]
theorem Put.steps_in (p : Put f t ws ys) (hn : 1 ≤ n) {z : Str} (h : ∀ s ∈ steps n (tl z), s ∈ ws) : ∀ s ∈ steps n (tl (ptS f t z)), s ∈ ys := fun s hs => by
  rw [steps_put hn] at hs
  refine (p.mem s).mpr ?_
  cases t with
  | true =>
    rw [if_pos rfl, List.mem_reverse] at hs
    obtain ⟨x, hx, rfl⟩ := List.mem_map.mp hs
    obtain ⟨v, hv, rfl⟩ := List.mem_map.mp hx
    exact ⟨v, h v hv, rfl⟩
  | false =>
    rw [if_neg (by decide)] at hs
    obtain ⟨v, hv, rfl⟩ := List.mem_map.mp hs
    exact ⟨v, h v hv, rfl⟩
theorem Put.no (p : Put f t ws ys) (hn : 1 ≤ n) {z : Str} (h : ∀ s ∈ steps n (tl z), s ∈ ws) (no : NoLeav iniS taiS ys (steps n (tl (ptS f t z)))) : NoLeav iniS taiS ws (steps n (tl z)) := by
  rw [steps_put hn] at no
  cases t with
  | true =>
    rw [if_pos rfl] at no
    exact noleav_ren p.rn0 h (noleav_rev p.rv no)
  | false =>
    rw [if_neg (by decide)] at no
    exact noleav_ren p.rn h no
theorem Put.lv (p : Put f t ws ys) (hn : 1 ≤ n) (hw : ∀ v ∈ ws, v.length = n) {z : Str} (h : ∀ s ∈ steps n (tl z), s ∈ ws) {i j : Nat} {l : List Str} (L : LvG ws (steps n (tl z)) i j l) :
    LvG ys (steps n (tl (ptS f t z))) (if t = true then (steps n (tl z)).length - j else i) (if t = true then (steps n (tl z)).length - i else j) (steps n (tl (ptS f t (mkS (txt l))))) := by
  obtain ⟨u, v, _, _, cb⟩ := L.cb
  obtain ⟨st, _⟩ := cb_steps hn hw cb L.inn
  rw [steps_put hn, steps_put hn, tl_mkS, st]
  cases t with
  | true =>
    rw [if_pos rfl, if_pos rfl, if_pos rfl, if_pos rfl]
    have := (L.ren p.rn0 h).rev p.rv
    rwa [List.length_map] at this
  | false =>
    rw [if_neg (by decide), if_neg (by decide), if_neg (by decide), if_neg (by decide)]
    exact L.ren p.rn h
theorem Put.txt (hn : 1 ≤ n) {y : Str} (h : n ≤ y.length) : mkS (Tx.txt (steps n (tl (ptS f t y)))) = ptS f t y := by
  refine ext_tl ?_
  rw [tl_mkS]
  have e : (tl (ptS f t y)).length = y.length := by rw [← len_tl, ptS_len]
  exact txt_steps hn (y.length - n) _ (by rw [e]; omega)
theorem Put.ring (p : Put f t ws ys) {y : Str} (y1 : 1 ≤ y.length) (lo : Low y) (tm : ∀ v, v ∈ turns n (tl y) ↔ v ∈ ws) : ∀ v, v ∈ turns n (tl (ptS f t y)) ↔ v ∈ ys := fun v => by
  have hl : 0 < (tl y).length := by rw [← len_tl]; omega
  have hl2 : 0 < ((tl y).map f).length := by rw [List.length_map]; exact hl
  rw [p.mem]
  unfold ptS
  cases t with
  | true =>
    simp only [if_true]
    rw [tl_rev, tl_ren, turns_rev hl2, turns_map hl, List.mem_map]
    constructor
    · rintro ⟨x, hx, e⟩
      exact ⟨x, (tm x).mp hx, by rw [e, revS_revS]⟩
    · rintro ⟨x, hx, e⟩
      exact ⟨x, (tm x).mpr hx, by rw [e, revS_revS]⟩
  | false =>
    simp only [Bool.false_eq_true, if_false]
    rw [tl_ren, turns_map hl, List.mem_map]
    constructor
    · rintro ⟨x, hx, e⟩
      exact ⟨x, (tm x).mp hx, e.symm⟩
    · rintro ⟨x, hx, e⟩
      exact ⟨x, (tm x).mpr hx, e.symm⟩
theorem ptS_stands (fi : InjU LowC f) {y z : Str} (y1 : 1 ≤ y.length) (ly : Low y) (lz : Low z) (h : Stands (tl (ptS f t y)) (tl (ptS f t z))) : Stands (tl y) (tl z) := by
  have hl : 0 < (tl y).length := by rw [← len_tl]; omega
  have hl2 : 0 < ((tl y).map f).length := by rw [List.length_map]; exact hl
  unfold ptS at h
  cases t with
  | true =>
    simp only [if_true] at h
    rw [tl_rev, tl_rev, tl_ren, tl_ren] at h
    exact (stands_map (U := LowC) fi hl ly lz).mp ((Stands.rev hl2).mp h)
  | false =>
    simp only [Bool.false_eq_true, if_false] at h
    rw [tl_ren, tl_ren] at h
    exact (stands_map (U := LowC) fi hl ly lz).mp h
end
end Tx

set_option Elab.async false
set_option linter.all false
set_option maxRecDepth 100000
set_option maxHeartbeats 1000000
namespace Tx
open PySem PySem.Spec PyProof.Rows L2 TL RZ
/-! ### a lot that reads all windows tells a ring text -/
theorem rt_ch {adj : Str → List Str} {s v : Str} (h : RT adj s v) : ∃ l, Ch adj l s v := by
  induction h with
  | here => exact ⟨_, .one _⟩
  | step _ hv ih =>
    obtain ⟨l, hl⟩ := ih
    exact ⟨_, .more hl hv⟩
theorem wlk_on {adj : Str → List Str} {w : List Str} {s x : Str} (hw : Wlk adj w) (hl : w.getLast? = some s) (h : RT adj s x) : ∃ l, Wlk adj (w ++ l) ∧ (w ++ l).getLast? = some x := by
  obtain ⟨l, c⟩ := rt_ch h
  obtain ⟨k, e, la⟩ := c.wlk
  refine ⟨l.tail, hw.more hl (by rw [← e]; exact k), ?_⟩
  cases el : l.tail with
  | nil =>
    rw [List.append_nil, hl]
    rw [e, el] at la
    exact la
  | cons b r =>
    rw [List.getLast?_append, ← el]
    rw [e, el] at la
    rw [List.getLast?_cons_cons] at la
    rw [el, la]; rfl
theorem reads_walk {n : Nat} {ws ps : List Str} {s : Str} (h : Reads n ws ps s) : ∀ (vs : List Str), (∀ v ∈ vs, v ∈ ws) → ∃ w, Wlk (adjM n ws ps) w ∧ (∃ r, w = s :: r) ∧ w.getLast? = some s ∧ (∀ v ∈ vs, Rd2 n w v) ∧ (vs ≠ [] → 2 ≤ w.length)
  | [], _ => ⟨[s], Wlk.one _ s, ⟨[], rfl⟩, rfl, fun v h => (by cases h), fun h => absurd rfl h⟩
  | v :: vs, hv => by
    obtain ⟨w, h1, ⟨r, h2⟩, h3, h4, _⟩ := reads_walk h vs fun x hx => hv x (List.mem_cons_of_mem _ hx)
    obtain ⟨x, y, kx, ky, hy, e⟩ := h v (hv v List.mem_cons_self)
    obtain ⟨l1, a1, a2⟩ := wlk_on h1 h3 kx.1
    have b1 := a1.snoc a2 hy
    have rd := Rd2.snoc (n := n) (b := y) a2
    rw [e] at rd
    obtain ⟨l2, c1, c2⟩ := wlk_on b1 (by simp) ky.2
    refine ⟨_, c1, ⟨r ++ l1 ++ [y] ++ l2, by rw [h2]; simp⟩, c2, fun u hu => ?_, fun _ => ?_⟩
    · rcases List.mem_cons.mp hu with rfl | hu
      · exact rd.app _
      · exact ((h4 u hu).app _ |>.app _).app _
    · rw [h2]; simp only [List.length_append, List.length_cons, List.length_nil]; omega
theorem dedup (w : List Str) : ∃ K : List Str, K.Nodup ∧ ∀ x, x ∈ K ↔ x ∈ w := by
  induction w with
  | nil => exact ⟨[], List.nodup_nil, fun x => Iff.rfl⟩
  | cons a w ih =>
    obtain ⟨K, nd, h⟩ := ih
    by_cases c : a ∈ K
    · exact ⟨K, nd, fun x => by rw [h, List.mem_cons]; exact ⟨.inr, fun g => g.elim (fun e => by rw [e]; exact (h a).mp c) id⟩⟩
    · exact ⟨a :: K, List.nodup_cons.mpr ⟨c, nd⟩, fun x => by rw [List.mem_cons, List.mem_cons, h]⟩
theorem wlk_rt {adj : Str → List Str} {w : List Str} (hw : Wlk adj w) : ∀ (d i : Nat) (a b : Str), w[i]? = some a → w[i + d]? = some b → RT adj a b
  | 0, i, a, b, ha, hb => by
    rw [Nat.add_zero, ha] at hb
    rw [Option.some.inj hb]; exact .here
  | d + 1, i, a, b, ha, hb => by
    have lt := (List.getElem?_eq_some_iff.mp hb).1
    have hm : w[i + d]? = some (w[i + d]'(by omega)) := List.getElem?_eq_getElem (by omega)
    exact .step (wlk_rt hw d i a _ ha hm) (hw (i + d) _ b hm hb)
theorem reads_ring {n : Nat} {ws ps : List Str} {s : Str} (M : Mach n ws ps) (lo : ∀ v ∈ ws, Low v) (ne : ws ≠ []) (hs : n - 1 ≤ s.length) (h : Reads n ws ps s) : ∃ l, RingIn n ws ps l ∧ ∀ v ∈ ws, v ∈ turns n l := by
  obtain ⟨w, h1, ⟨r, h2⟩, h3, h4, h5⟩ := reads_walk h ws fun v hv => hv
  have w2 := h5 ne
  obtain ⟨K, nd, hK⟩ := dedup w
  have lens : ∀ (i : Nat) (x : Str), w[i]? = some x → n - 1 ≤ x.length := fun i => by
    induction i with
    | zero =>
      intro x hx
      rw [h2] at hx
      rw [← Option.some.inj hx]; exact hs
    | succ i ih =>
      intro x hx
      have lt := (List.getElem?_eq_some_iff.mp hx).1
      have hm : w[i]? = some (w[i]'(by omega)) := List.getElem?_eq_getElem (by omega)
      obtain ⟨_, _, _, _, _, _, _, l⟩ := M.step (ih _ hm) (h1 i _ x hm hx)
      exact l
  have hw : Wlk (fun x => (adjM n ws ps x).filter fun y => decide (y ∈ K)) w := fun j a b ha hb =>
    List.mem_filter.mpr ⟨h1 j a b ha hb, decide_eq_true ((hK b).mpr (List.mem_of_getElem? hb))⟩
  have at0 : w[0]? = some s := by rw [h2]; rfl
  have atl : w[w.length - 1]? = some s := by rw [← List.getLast?_eq_getElem?]; exact h3
  have G : GoodLot n ws ps K (fun x => (adjM n ws ps x).filter fun y => decide (y ∈ K)) := by
    refine ⟨fun e => ?_, nd, fun x hx y hy => ?_, fun x hx => ?_, fun x hx y hy => ?_, fun v hv => ?_⟩
    · have := (hK s).mpr (by rw [h2]; exact List.mem_cons_self)
      rw [e] at this; cases this
    · obtain ⟨a, b⟩ := List.mem_filter.mp hy
      exact ⟨of_decide_eq_true b, a⟩
    · obtain ⟨i, hi⟩ := List.mem_iff_getElem?.mp ((hK x).mp hx)
      exact lens i x hi
    · obtain ⟨i, hi⟩ := List.mem_iff_getElem?.mp ((hK x).mp hx)
      obtain ⟨j, hj⟩ := List.mem_iff_getElem?.mp ((hK y).mp hy)
      have li := (List.getElem?_eq_some_iff.mp hi).1
      refine (wlk_rt hw (w.length - 1 - i) i x s hi (by rw [show i + (w.length - 1 - i) = w.length - 1 by omega]; exact atl)).trans ?_
      exact wlk_rt hw j 0 s y at0 (by rw [Nat.zero_add]; exact hj)
    · obtain ⟨j, a, b, ha, hb, e⟩ := h4 v hv
      exact ⟨a, (hK a).mpr (List.mem_of_getElem? ha), b, hw j a b ha hb, e⟩
  obtain ⟨e1, e2, e3, e4⟩ := ring_of M G lo hw (a := s) (by rw [h2]; rfl) h3 w2 (fun x hx => (hK x).mpr hx) h4
  exact ⟨_, ⟨by rw [e1]; omega, fun v hv => (e3 v).mp hv, e4⟩, fun v hv => (e3 v).mpr hv⟩
/-- free by the rows of a piece: not sure -/
theorem free_sure {n : Nat} {ws : List Str} {p w0 : Str} {ks : List Pr} {l0 : List Nat} (M : Mach n ws [p]) (lo : ∀ v ∈ ws, Low v) (h0 : w0 ∈ ws) (G : KSet n ws p ks) (hs : ∀ s ∈ steps n (tl p), s ∈ ws) (R : RingIn n ws [] l0) (all : ∀ v ∈ ws, v ∈ turns n l0) :
    FreeK ws p w0 ks ↔ ¬ NoLeav iniS taiS ws (steps n (tl p)) := by
  have n2 := M.n2
  rw [sure_iff (by omega) M.each (M.pcs p (List.mem_singleton.mpr rfl)) hs R all]
  constructor
  · intro h su
    obtain ⟨s, ⟨x, hx, rt⟩, rd⟩ := free_reads M G h
    have xl : n - 1 ≤ x.length := by
      unfold placesL at hx
      rcases List.mem_append.mp hx with hx | hx
      · obtain ⟨v, hv, rfl⟩ := List.mem_map.mp hx
        have := M.each v hv
        unfold iniS; rw [len_mkS, List.length_take, ← len_tl]; omega
      · obtain ⟨v, hv, rfl⟩ := List.mem_map.mp hx
        have := M.each v hv
        unfold taiS; rw [len_mkS, List.length_drop, ← len_tl]; omega
    have sl : n - 1 ≤ s.length := rt.closed (S := fun u => n - 1 ≤ u.length) xl fun u hu v hv => by
      obtain ⟨_, _, _, _, _, _, _, l⟩ := M.step hu hv
      exact l
    obtain ⟨l, Rl, al⟩ := reads_ring M lo (List.ne_nil_of_mem h0) sl rd
    exact Rl.no p (List.mem_singleton.mpr rfl) (su l ⟨Rl.pos, Rl.inn, fun _ h => by cases h⟩ al)
  · intro h
    refine Classical.byContradiction fun no => h fun l Rl al => Classical.byContradiction fun ns => no ?_
    exact ring_free M G h0 ⟨Rl.pos, Rl.inn, fun q hq => by rw [List.mem_singleton.mp hq]; exact ns⟩ al
end Tx

set_option Elab.async false
set_option linter.all false
set_option maxRecDepth 100000
set_option maxHeartbeats 4000000
namespace Tx
open PySem PySem.Spec PyProof.Rows L2 TL RZ
/-! ### functions that are called with no guards held: for repr of lists and tuples -/
structure FnG (P : Program) (w : World) (K : PySem.W.Frag) (mg : Str → Option Value) (base : Heap) (CX : CXT) (k : Nat) (f : Addr) (fd : FuncData) (ps : List Str) (sp : Sp) : Prop where
  len : ∀ (vs : List V) (H : Hp) (Q : VK) (E : XK), sp vs H Q E → vs.length = ps.length
  run : ∀ (A : Around) (outer : List Env) (s : Shared) (H : Hp) (args : Args) (us : List Value) (vs : List V) (Q : VK) (E : XK), Room k A → A.guards = some [] → Env0 P w K mg base A outer s H → BindsTo s fd args (ps.zip us) → Vals vs us → sp vs H Q E →
    codeAny (model P w) A (Code.call (Value.ref f) args) (CR CX outer P w H s Q E) s
theorem FnOk.g {P : Program} {w : World} {K : PySem.W.Frag} {mg : Str → Option Value} {base : Heap} {CX : CXT} {k : Nat} {f : Addr} {fd : FuncData} {ps : List Str} {sp : Sp} (F : FnOk P w K mg base CX k f fd ps sp) : FnG P w K mg base CX k f fd ps sp :=
  ⟨F.len, fun A outer s H args us vs Q E hr _ => F.run A outer s H args us vs Q E hr⟩
theorem fn_ofG {CX : CXT} {P : Program} {w : World} {K : PySem.W.Frag} {mg : Str → Option Value} {base : Heap} {k : Nat} {f : Addr} {name qual : Str} {params : Arguments} {body : List Stmt} {scope : Scope} {dV kV doc pm cdv ct oc : Value}
    {an od : Option Addr} {osl : Array (Option Value)} {N ps : List Str} {sp : Sp} (lk : K.lookup f = some { cls := oc, dict := od, data := Data.func (PySem.W.fnOf name qual params body scope dV kV doc pm an cdv ct), slots := osl })
    (hcd : PySem.W.codeIn K cdv qual = true) (S : FnScope N ps scope) (len : ∀ (vs : List V) (H : Hp) (Q : VK) (E : XK), sp vs H Q E → vs.length = ps.length)
    (hbody : ∀ (A : Around) (outer : List Env) (s : Shared) (H : Hp) (vs : List V) (Q : VK) (E : XK), Room k (A.deeper (envOfC qual scope s.heap.objs.size f cdv)) → A.guards = some [] → sp vs H Q E →
      ∃ t, PSs (cxOf CX P w K mg base N qual scope f cdv A outer s H E) body t ∧ t { nx := fun _ H' => Q V.non H', rt := Q } (L2.start N vs) H) :
    FnG P w K mg base CX (k + 1) f (PySem.W.fnOf name qual params body scope dV kV doc pm an cdv ct) ps sp := by
  refine ⟨len, fun A outer s H args us vs Q E hr gd e0 hb r hsp => ?_⟩
  have hl := len vs H Q E hsp
  have KX := PySem.W.Frag.In.keeps e0.mod.kin fun b o e => (e0.bs b o e).1
  have lim := Heap.NoLimit.keeps e0.mod.nolimit fun b o e => (e0.bs b o e).1
  refine codeAny_call_function (Room.depth hr) (KX f _ lk) rfl S.co S.gen rfl (PySem.W.codeRec_of KX hcd) ?_
  refine hb (model P w) A.in1 _ _ ?_
  refine wpAny_newFunctionEnv_cells S.kind ?_ fun env he s1 x => ?_
  · exact fun x hy =>
      match x, hy with
      | (n, v), hy => Or.casesOn (S.par n (List.of_mem_zip hy).1) (fun q => Or.inl q) fun q => Or.inr ⟨q, PySem.W.cellsFrom_some scope.names (s.heap.objs.size + 1) [] (Or.inl q)⟩
  · subst he
    refine ⟨Heap.NoLimit.keeps lim x.toInCall.keep, codeAny_func ?_⟩
    obtain ⟨t, ht, hq⟩ := hbody A outer s H vs Q E (Room.deeper hr _) gd hsp
    have I := inv_start (CX := CX) (E := E) S hr.hd e0 hl r x
    refine wpAny_mono (ht.run [] s1 _ H _ I hq) (fun fl s' hs => ?_) fun e s' hs => hs
    have fin : ∀ {σ' : L2.St} {H' : Hp} {v : V} {u : Value}, L2.Inv (cxOf CX P w K mg base N qual scope f cdv A outer s H E) [] σ' H' s' → L2.RelV v u → Q v H' → CR CX outer P w H s Q E (Except.ok (Flow.ret u)) s' := fun {σ' H' v u} J rv q => ⟨v, H', J.os, J.bare, J.base, J.hok, rv, q⟩
    cases fl with
    | next => obtain ⟨σ', H', J, q⟩ := hs; exact fin (v := .non) J rfl q
    | brk => obtain ⟨_, _, _, q⟩ := hs; exact q.elim
    | cont => obtain ⟨_, _, _, q⟩ := hs; exact q.elim
    | ret u => obtain ⟨v, σ', H', J, rv, q⟩ := hs; exact fin J rv q
theorem okG {P : Program} {w : World} {K : PySem.W.Frag} {mg : Str → Option Value} {base : Heap} {x qual : Str} {st : Stmt} {f : Addr} {fd : FuncData} {N ps : List Str} {k : Nat} {sp : Sp} (F : Fun K x qual st f fd) (S : FnScope N ps (defScope st))
    (len : ∀ (vs : List V) (H : Hp) (Q : VK) (E : XK), sp vs H Q E → vs.length = ps.length)
    (hbody : ∀ (cdv : Value) (A : Around) (outer : List Env) (s : Shared) (H : Hp) (vs : List V) (Q : VK) (E : XK), Room k (A.deeper (envOfC qual (defScope st) s.heap.objs.size f cdv)) → A.guards = some [] → sp vs H Q E →
      ∃ t, PSs (cxOf CX0 P w K mg base N qual (defScope st) f cdv A outer s H E).nox (defBody st) t ∧ t { nx := fun _ H' => Q V.non H', rt := Q } (L2.start N vs) H) :
    FnG P w K mg base CX0 (k + 1) f fd ps sp := by
  obtain ⟨oc, od, kV, doc, pm, an, cdv, ct, osl, rfl, lk, hcd⟩ := F.ex
  refine fn_ofG lk hcd S len fun A outer s H vs Q E hr gd hsp => ?_
  obtain ⟨t, h, q⟩ := hbody cdv A outer s H vs Q E hr gd hsp
  exact ⟨t, PSs.nox h, q⟩
/-- a def that keeps its promise where no guards are held -/
structure DnG (P : Program) (w : World) (K : PySem.W.Frag) (mg : Str → Option Value) (base : Heap) (k : Nat) (x : Str) (st : Stmt) (ps : List Str) (sp : Sp) : Prop where
  ex : ∃ f fd, mg x = some (.ref f) ∧ Fun K x x st f fd ∧ FnG P w K mg base CX0 k f fd ps sp
  plain : ∀ (kV doc pm : Value) (an : Option Addr) (cdv ct : Value) (us : List Value), us.length = ps.length → bindArgs (PySem.W.fnOf x x (defArgs st) (defBody st) (defScope st) .none kV doc pm an cdv ct) ⟨us, []⟩ = pure (ps.zip us)
theorem Dn.g {P : Program} {w : World} {K : PySem.W.Frag} {mg : Str → Option Value} {base : Heap} {k : Nat} {x : Str} {st : Stmt} {ps : List Str} {sp : Sp} (D : Dn P w K mg base k x st ps sp) : DnG P w K mg base k x st ps sp := by
  obtain ⟨f, fd, hm, F, G⟩ := D.ex
  exact ⟨⟨f, fd, hm, F, FnOk.g G⟩, D.plain⟩
theorem dn_ofG {P : Program} {w : World} {K : PySem.W.Frag} {mg : Str → Option Value} {base : Heap} {x : Str} {st : Stmt} {N ps : List Str} {k : Nat} {sp : Sp} (T : Top K mg x st) (S : FnScope N ps (defScope st)) (pl : PlainB x st ps) (len : ∀ vs H Q E, sp vs H Q E → vs.length = ps.length)
    (body : ∀ (f : Addr) (cdv : Value) (A : Around) (outer : List Env) (s : Shared) (H : Hp) (vs : List V) (Q : VK) (E : XK), Room k (A.deeper (envOfC x (defScope st) s.heap.objs.size f cdv)) → (A.deeper (envOfC x (defScope st) s.heap.objs.size f cdv)).guards = some [] → sp vs H Q E →
      ∃ t, PSs (cxOf CX0 P w K mg base N x (defScope st) f cdv A outer s H E).nox (defBody st) t ∧ t { nx := fun _ H' => Q .non H', rt := Q } (start N vs) H) : DnG P w K mg base (k + 1) x st ps sp := by
  obtain ⟨f, fd, hm, F⟩ := T
  exact ⟨⟨f, fd, hm, F, okG F S len fun cdv A outer s H vs Q E hr gd h => body f cdv A outer s H vs Q E hr gd h⟩, pl⟩
section
variable {X : Cx} {k : Nat} {x : Str} {st : Stmt} {ps : List Str} {sp : Sp} {p pos : Pos} {e : Expr} {es : List Expr} {t : TA}
theorem run_fnG {CX : CXT} {f : Addr} {fd : FuncData} {dvs : List V} {ds : List Value} {E : XK} {pins : List (Addr × Obj)} {σ : L2.St} {H : Hp} {s : Shared} {Q : VK} {us : List Value} {vs : List V} (F : FnG X.prog X.w X.K X.mg X.base CX k f fd ps sp) (hr : Room k X.A) (gd : X.A.guards = some [])
    (hb : L2.Binds X.K fd ps ds) (hd : Vals dvs ds) (hx : Passes CX X E) (I : L2.Inv X pins σ H s) (r : Vals vs us) (h : sp (vs ++ dvs) H Q E) : wpAny (model X.prog X.w) X.A (call (Value.ref f) us) (EP X pins σ Q) X.xe s := by
  have r2 := Vals.append r hd
  have hl : (us ++ ds).length = ps.length := by rw [← Vals.length r2]; exact F.len _ _ _ _ h
  refine wpAny_call (codeAny_mono (F.run X.A X.stack s H { pos := us } (us ++ ds) (vs ++ dvs) Q E hr gd (Inv.env0 I) (hb s us (Inv.kIn I) hl) r2 h) fun r s' hq => ?_)
  cases r with
  | error e => exact hx pins σ H s e s' I hq
  | ok fl =>
    cases fl with
    | ret u => exact Inv.after I hq
    | next => exact hq.elim
    | brk => exact hq.elim
    | cont => exact hq.elim
theorem pe_fnG (D : DnG X.prog X.w X.K X.mg X.base k x st ps sp) (hr : Room k X.A) (gd : X.A.guards = some []) (hg : Gl X x) (ha : PA X (e :: es) t) (hdb : (x == ("__debug__" : Str)) = false := by decide)
    (he : starEach (e :: es) X.env = (false, eval e X.env) :: starEach es X.env := by rfl) (hpl : (backTo pos (starEach es X.env)).any (·.1) = false := by rfl) : PE X (.Call (.Name x p) (e :: es) [] pos) (tCall sp [] E0 t) := by
  obtain ⟨f, fd, hm, F, G⟩ := D.ex
  refine ⟨fun pins s σ H Q I h => wpAny_Call_Name_kw (ld_glob I hg hm (PySem.W.callWith_K I.ok.mod.kin F.kp (thn (ha.run pos pins s σ H _ I h) fun us s1 ⟨vs, H1, I1, r, q⟩ => ⟨Inv.kIn I1, run_fnG G hr gd (F.binds D.plain) .nil pass0 I1 r q⟩) he hpl) hdb)⟩
/-- repr of a list or tuple of plain things -/
def rReprD (K : PySem.W.Frag) : List V → Hp → VK → Prop := fun xs H Q => ∃ (a : Addr) (d : PyData), xs = [.ref a] ∧ Dp K H (.ref a) d ∧ d.showable = true ∧ d.hasDict = false ∧ d.depth ≤ 60 ∧ d.shown.length ≤ sizeLine ∧ Q (.str d.shown) H
theorem reprDK (K : PySem.W.Frag) (h : X.K = K) (gd : X.A.guards = some []) (hu : X.A.units + 64 < cLine) : CallR X (.builtin "repr") (rReprD K) := by
  subst h
  intro pins s σ H vs us Q I r hh
  obtain ⟨a, d, rfl, hd, sh, nd, dp, ln, q⟩ := hh
  rw [Vals.ref1 r]
  obtain ⟨as, rd⟩ := Dp.reads I d (.ref a) (.ref a) hd rfl
  refine repr_of_reads' rd sh (fun h => by rw [nd] at h; cases h) gd (by omega) (fun _ _ h => h) (fun h' u tk kp => ?_) ln
  exact ⟨.str d.shown, H, Inv.kept I kp, ⟨u, rfl⟩, q⟩
end
/-- the law itself, called as it is called -/
theorem law_callG {P : Program} {w : World} {K : PySem.W.Frag} {mg mb : Str → Option Value} {CX : CXT} {k : Nat} {fa a : Addr} {fd : FuncData} {x : Str} {sp : Sp} {s₁ : Shared} {vs : List Value} {ns : List Int} (KX : K.In s₁.heap) (hns : s₁.heap.Ns mainGlobals mg) (hb : s₁.heap.Ns builtinsNs mb)
    (hbb : ∀ (x : Str), x ≠ Str.ofString "__name__" → mb x = bootBuiltins x) (hlim : s₁.heap.NoLimit) (hg : s₁.gens = #[]) (ha : s₁.heap.get? a = some { cls := Value.type "list", data := Data.seq vs.toArray }) (hi : IntsAre vs ns) (hl : ns.length ≤ sizeLine) (hr : Room k callerA)
    (F : ∀ (base : Heap), K.In base → base.Ns mainGlobals mg → FnG P w K mg base CX k fa fd [x] sp) (hbind : ∀ (s : Shared) (u : Value), BindsTo s fd { pos := [u] } [(x, u)])
    (hsp : ∀ (H : Hp), Only H → SqL K H a (ns.map V.int) → sp [V.ref a] H (fun v _ => v = V.bl true) fun _ _ _ => False) (hCX : ∀ (H : Hp) (e : Value) (s' : Shared), CX [] H s₁ (fun _ _ _ => False) e s' → False) :
    codeAny (model P w) callerA (Code.call (Value.ref fa) { pos := [Value.ref a] }) (fun r s' => r = Except.ok (Flow.ret (Value.bool true)) ∧ OldK s₁.heap s'.heap ∧ s'.os = s₁.os ∧ AllBare s'.gens) s₁ := by
  have rv := vals_ints hi
  have core : ∀ H : Hp, Only H → SqL K H a (ns.map V.int) → HOk P w H s₁.heap → (∀ b, H b ≠ none → b = a) → (H a ≠ none → K.lookup a = none) →
      codeAny (model P w) callerA (Code.call (Value.ref fa) { pos := [Value.ref a] }) (fun r s' => r = Except.ok (Flow.ret (Value.bool true)) ∧ OldK s₁.heap s'.heap ∧ s'.os = s₁.os ∧ AllBare s'.gens) s₁ := fun H hO hS hok hA hK => by
    have base_of : ∀ {b : Addr} {o : Obj}, s₁.heap.get? b = some o → H b = none → (hidT s₁.heap H).get? b = some o := fun e n => hidT_get e n
    have noA : ∀ {b : Addr} {o : Obj} {es ep}, s₁.heap.get? b = some o → o.data = Data.dict es ep → H b = none := fun {b o es ep} e d => by
      cases q : H b with
      | none => rfl
      | some u =>
        have e' := hA b (by rw [q]; simp)
        rw [e', ha] at e
        rw [← Option.some.inj e] at d
        cases d
    have nsK : ∀ {b : Addr} {m : Str → Option Value}, s₁.heap.Ns b m → (hidT s₁.heap H).Ns b m := fun {b m} ⟨o, es, ep, e, d, r⟩ => ⟨o, es, ep, base_of e (noA e d), d, r⟩
    have hKb : K.In (hidT s₁.heap H) := fun b o e => base_of (KX b o e) (by
      cases q : H b with
      | none => rfl
      | some u =>
        have e' := hA b (by rw [q]; simp)
        rw [e'] at e
        rw [hK (by rw [← e', q]; simp)] at e
        cases e)
    obtain ⟨mc, l1, l2⟩ := hlim
    have hM : L2.Mod K mg (hidT s₁.heap H) := ⟨hKb, nsK hns, ⟨mb, nsK hb, hbb⟩, ⟨mc, nsK l1, l2⟩⟩
    have e0 : Env0 P w K mg (hidT s₁.heap H) callerA [] s₁ H := ⟨rfl, hM, fun b o e => of_hidT e, Nat.le_of_eq (hidT_size s₁.heap H), trivial, fun b hb => (by cases hb), hok, AllBare.of_eq hg⟩
    refine codeAny_mono ((F (hidT s₁.heap H) hKb (nsK hns)).run callerA [] s₁ H { pos := [Value.ref a] } [Value.ref a] [V.ref a] (fun v _ => v = V.bl true) (fun _ _ _ => False) hr rfl e0 (hbind s₁ (Value.ref a)) (.cons rfl .nil) (hsp H hO hS)) fun r s' h => ?_
    cases r with
    | error e => exact (hCX H e s' h).elim
    | ok fl =>
      cases fl with
      | next => exact h.elim
      | brk => exact h.elim
      | cont => exact h.elim
      | ret u =>
        obtain ⟨v, H', os, bare, un, hok', r', q⟩ := h
        have q : v = V.bl true := q
        subst q
        cases r'
        refine ⟨rfl, OldK.of_keep fun b o e => ?_, os, bare⟩
        cases q : H b with
        | none => exact un.keep b o e q (fun z => by cases z) (by simp)
        | some u =>
          rcases hO b with z | ⟨ob, xs, z⟩
          · rw [q] at z; cases z
          · have z2 := un.frzs b ob (HO.lst xs) z
            obtain ⟨e1, _⟩ := hok b _ z
            obtain ⟨e2, _⟩ := hok' b _ z2
            rw [e] at e1
            rw [Option.some.inj e1]; exact e2
  cases hk : K.lookup a with
  | none =>
    refine core (fun b => if b = a then some (HO.frz { cls := Value.type "list", data := Data.seq vs.toArray } (HO.lst (ns.map V.int))) else none) (fun b => ?_) ?_ (fun b u z => ?_) (fun b z => ?_) fun _ => hk
    · by_cases hb : b = a
      · exact .inr ⟨_, _, if_pos hb⟩
      · exact .inl (if_neg hb)
    · exact .inl (.inr ⟨_, if_pos rfl⟩)
    · by_cases hb : b = a
      · simp only [hb, if_true] at z
        have z := Option.some.inj z
        subst z hb
        exact ⟨ha, by rw [List.length_map]; exact hl, vs, 0, rv, ha⟩
      · simp only [hb, if_false] at z
        cases z
    · by_cases hb : b = a
      · exact hb
      · exact absurd (if_neg hb) z
  | some o =>
    have e := KX a o hk
    rw [ha] at e
    have e := Option.some.inj e
    subst e
    refine core (fun _ => none) (fun _ => .inl rfl) (.inr ⟨_, vs.toArray, 0, hk, rfl, rfl, rfl, ?_, rv⟩) (fun b u z => by cases z) (fun b z => absurd rfl z) fun z => absurd rfl z
    have := IntsAre.length hi
    simp only [List.size_toArray]
    omega
/-- the law walks, as it is asked -/
theorem walk_ofG {l : PySem.W.OpenLaw} {n k : Nat} {q : Program} {loose : List Str} {XP : (Str → Option Value) → Heap → Prop} {YP : World → Heap → Prop} {d : DefRec} {K : Params → PySem.W.Frag} {CX : World → CXT} {sp : World → Sp} {x : Str} (hn : l.most = some n) (hn2 : n ≤ sizeLine) (hdf : d.params.defaults = []) (hr : Room k callerA)
    (hY : ∀ (w : World) (h : Heap), YP w h → (K w.params).In h)
    (F : ∀ (w : World) (mg : Str → Option Value) (fa : Addr) (h : Heap), (K w.params).In h → h.Ns mainGlobals mg → mg d.name = some (Value.ref fa) → ∃ fd : FuncData, (∀ (s : Shared) (u : Value), BindsTo s fd { pos := [u] } [(x, u)]) ∧
      ∀ (base : Heap), (K w.params).In base → base.Ns mainGlobals mg → FnG l.prog w (K w.params) mg base (CX w) k fa fd [x] (sp w))
    (hsp : ∀ (w : World) (H : Hp) (a : Addr) (ns : List Int), ns.length ≤ n → Only H → SqL (K w.params) H a (ns.map V.int) → sp w [V.ref a] H (fun v _ => v = V.bl true) fun _ _ _ => False)
    (hCX : ∀ (w : World) (H : Hp) (s : Shared) (e : Value) (s' : Shared), CX w [] H s (fun _ _ _ => False) e s' → False) : PySem.W.WalkO q loose XP YP l.row.toRowW d [] fun f vs => call f vs := by
  refine Att.attach_call hn hdf fun w s₀ s₁ mg mb fa o pm cd doc a vs ns G Y ho hd hcd hmg hobj hints hlen hg => ?_
  have KX := hY w s₁.heap Y
  obtain ⟨fd, hb, hF⟩ := F w mg fa s₁.heap KX G.T.g hmg
  exact law_callG KX G.T.g G.T.b G.T.builtins G.T.nolimit hg hobj hints (Nat.le_trans hlen hn2) hr hF hb (fun H hO hS => hsp w H a ns hlen hO hS) fun H e s' => hCX w H s₁ e s'
end Tx

set_option Elab.async false
set_option linter.all false
set_option maxRecDepth 100000
set_option maxHeartbeats 4000000
namespace Tx
open PySem PySem.Spec PyProof.Rows L2 TL RZ
/-! list.count of texts, and dict(pairs of a text and anything) -/
section
open L2
variable {X : Cx}
def rCntS (K : PySem.W.Frag) : V → List V → Hp → VK → Prop := fun x xs H Q => ∃ (p : Addr) (ys : List Str) (y : Str), x = .ref p ∧ xs = [.str y] ∧ SqL K H p (ys.map V.str) ∧ Q (.int ((ys.count y : Nat) : Int)) H
theorem eq_tl2 (z y : Str) : (z.cps.toList == y.cps.toList) = (z == y) := by
  rw [Bool.eq_iff_iff, beq_iff_eq, beq_iff_eq]
  exact ⟨fun h => ext_tl h, fun h => by rw [h]⟩
def eqs (y : Str) : Value → Bool
  | .str z _ => z == y
  | _ => false
theorem eqs_count (y : Str) : ∀ (ys : List Str) (its : List Value), Vals (ys.map V.str) its → its.countP (eqs y) = ys.count y ∧ ∀ v ∈ its, ∃ z t, v = .str z t
  | [], _, .nil => ⟨rfl, fun v h => by cases h⟩
  | z :: ys, _, .cons r rr => by
    obtain ⟨t, rfl⟩ := r
    obtain ⟨h1, h2⟩ := eqs_count y ys _ rr
    refine ⟨?_, fun v hv => ?_⟩
    · rw [List.countP_cons, List.count_cons, h1]; rfl
    · rcases List.mem_cons.mp hv with rfl | hv
      · exact ⟨z, t, rfl⟩
      · exact h2 v hv
theorem cntS : MtR X "list.count" (rCntS X.K) := by
  intro pins s σ H x xs v us Q I rx rxs h
  obtain ⟨p, ys, y, rfl, rfl, hs, q⟩ := h
  cases rx
  obtain ⟨u, eu, ru⟩ := Vals.one rxs
  subst eu
  obtain ⟨t, rfl⟩ := ru
  obtain ⟨its, rv, ⟨⟨cls, dd, data, sl⟩, n, ho, hc, hdn, hdt⟩, hlen⟩ := Inv.list I hs
  obtain rfl : cls = Value.type "list" := hc
  obtain rfl : data = Data.seq its.toArray n := hdt
  obtain ⟨c1, c2⟩ := eqs_count y ys its rv
  refine call_meets F.slot_list_count ⟨_, ho, rfl⟩ F.entry_list_count (F.args_list_count_2 _ _) (SeqAt.list_countAt p its.toArray n dd sl (.str y t) (eqs y)) ⟨ho, fun z hz => ?_, ?_⟩
  · obtain ⟨z', t', rfl⟩ := c2 z (by simpa using hz)
    have := (SeqRoads2.EqGives.str z' y t' t).at X.A.in1 s
    rw [eq_tl2] at this
    exact this
  · exact ⟨.int ((ys.count y : Nat) : Int), H, I.tok _, ⟨_, by rw [← c1]⟩, q⟩
theorem cntSK (K : PySem.W.Frag) (h : X.K = K) : MtR X "list.count" (rCntS K) := by subst h; exact cntS
def rDictV (K : PySem.W.Frag) : List V → Hp → VK → Prop := fun xs H Q => ∃ (a : Addr) (ps : List Addr) (qs : List (Str × V)), xs = [.ref a] ∧ SqL K H a (ps.map V.ref) ∧ ps.length = qs.length ∧ (∀ (i : Nat) (p : Addr) (q : Str × V), ps[i]? = some p → qs[i]? = some q → SqT K H p [.str q.1, q.2]) ∧
  ∀ p, H p = none → Q (.ref p) (upd H p (.dK (mergeK [] (qs.map fun (q : Str × V) => ((Sum.inr q.1 : Key), q.2)))))
theorem dictVK (K : PySem.W.Frag) (h : X.K = K) (hc : X.calm = true) : CallR X (.type "dict") (rDictV K) := by
  subst h
  intro pins s σ H vs us Q I r h
  obtain ⟨a, ps, qs, rfl, sq, len, each, q⟩ := h
  refine call_dictP hc pins s σ H _ us Q I r ⟨a, ps, qs.map fun q => ((Sum.inr q.1 : Key), q.2), rfl, sq, ?_, q⟩
  clear q sq r
  induction ps generalizing qs with
  | nil =>
    cases qs with
    | nil => exact .nil
    | cons _ _ => cases len
  | cons p ps ih =>
    cases qs with
    | nil => cases len
    | cons q qs =>
      refine .cons (each 0 p q rfl rfl) (ih qs (by simpa using len) fun i p' q' h1 h2 => each (i + 1) p' q' h1 h2)
end
section
open L2
theorem pt_chain3 {X : Cx} {a b c d : Expr} {ta tb tc td : TE} {pos : Pos} {op op' op'' : CmpOp} {r r' r'' : R2} (ho : OpR X (compareOp op) r) (ho' : OpR X (compareOp op') r') (ho'' : OpR X (compareOp op'') r'')
    (ha : PE X a ta) (hb : PE X b tb) (hc : PE X c tc) (hd : PE X d td) (hm : lastMarks [op, op', op''] [b, c, d] = false := by rfl) : PT X (.Compare a [op, op', op''] [b, c, d] pos) (tTest (tChain3 r r' r'' ta tb tc td)) := by
  refine ⟨fun pins s σ H Q I h => isTrue_chain (thn (ha.run pins s σ H _ I h) fun v s1 ⟨x, H1, I1, r1, q1⟩ => ?_) hm⟩
  refine test_link (thn (hb.run pins s1 σ H1 _ I1 q1) fun u s2 ⟨y, H2, I2, r2, q2⟩ => ?_)
  refine thn (ho pins s2 σ H2 x y v u _ I2 r1 r2 q2) fun w s3 ⟨z, H3, I3, r3, k, e, q3⟩ => ?_
  subst e
  cases r3
  refine wpAny_truthy_bool ?_
  cases k with
  | false =>
    obtain ⟨k', e', q'⟩ := q3
    injection e' with e'
    subst e'
    exact ⟨H3, I3, q'⟩
  | true =>
    refine ite_tt (test_link (thn (hc.run pins s3 σ H3 _ I3 q3) fun u3 s4 ⟨y3, H4, I4, r4, q4⟩ => ?_))
    refine thn (ho' pins s4 σ H4 y y3 u u3 _ I4 r2 r4 q4) fun w4 s5 ⟨z5, H5, I5, r5, k5, e5, q5⟩ => ?_
    subst e5
    cases r5
    refine wpAny_truthy_bool ?_
    cases k5 with
    | false =>
      obtain ⟨k', e', q'⟩ := q5
      injection e' with e'
      subst e'
      exact ⟨H5, I5, q'⟩
    | true =>
      refine ite_tt (test_last (thn (hd.run pins s5 σ H5 _ I5 q5) fun u6 s6 ⟨y6, H6, I6, r6, q6⟩ => ?_))
      refine thn (ho'' pins s6 σ H6 y3 y6 u3 u6 _ I6 r4 r6 q6) fun w7 s7 ⟨z7, H7, I7, r7, k7, e7, q7⟩ => ?_
      subst e7
      cases r7
      exact wpAny_truthy_bool ⟨H7, I7, q7⟩
end
end Tx

set_option Elab.async false
set_option linter.all false
set_option maxRecDepth 100000
set_option maxHeartbeats 4000000
namespace Tx
open PySem PySem.Spec PyProof.Rows L2
section
variable {prog : Program} {w : World} {A : Around} {E : Value → Shared → Prop} {s : Shared}
theorem call_sum_lists0 {l b : Addr} {nb nl : Nat} {st : List Value} {Q : Value → Shared → Prop} (hh : A.handled = none) (hl : s.heap.get? l = some { cls := .type "list", data := .seq ([] : List Value).toArray nl })
    (hb : s.heap.get? b = some { cls := .type "list", data := .seq st.toArray nb })
    (h : ∀ h' tk, (∀ b o, s.heap.get? b = some o → h'.get? b = some o) → Q (.ref b) { s with heap := h', toks := tk }) :
    wpAny (model prog w) A (call (.builtin "sum") [.ref l, .ref b]) Q E s := by
  refine call_function_tree F.kind_sum F.plain_sum F.entry_sum (args_sum2 _ _) ?_
  unfold Builtin.«sum»
  simp only [List.length_cons, List.length_nil]
  rw [if_neg (by decide)]
  refine wpAny_bind (wpAny_of_eq (show Builtin.Builtins.bindParams "sum" ["start"] 0 ⟨[.ref b], []⟩ = pure [some (.ref b)] from rfl) ?_)
  have hlt : l < s.heap.objs.size := Heap.lt_size hl
  have hL : s.heap.IsList l ([] : List Value).toArray := ⟨_, hl, rfl, nl, rfl⟩
  refine wpAny_bind (wpAny_pyIter_list hL ?_)
  have k1 : ∀ (x : Addr) (o : Obj), s.heap.get? x = some o → (s.heap.push { cls := .type "list_iterator", data := .fields #[.ref l, .int 0 0] }).get? x = some o := fun x o e => Heap.get?_push_of_some _ e
  have it1 : (s.heap.push { cls := .type "list_iterator", data := .fields #[.ref l, .int 0 0] }).IsListIter s.heap.objs.size l 0 := ⟨_, Heap.get?_push_size _ rfl, rfl, rfl⟩
  have sz1 : (s.heap.push { cls := .type "list_iterator", data := .fields #[.ref l, .int 0 0] }).objs.size = s.heap.objs.size + 1 := Heap.size_push ..
  generalize s.heap.push { cls := .type "list_iterator", data := .fields #[.ref l, .int 0 0] } = h1 at k1 it1 sz1 ⊢
  refine wpAny_bind (wpAny_pure ?_)
  simp only [List.forIn_cons, List.forIn_nil]
  have tb : ({ s with heap := h1 } : Shared).TypeIs (.ref b) "list" := ⟨_, k1 _ _ hb, rfl⟩
  refine wpAny_bind (wpAny_bind (wpAny_bind (wpAny_isInstance (T := "list") (b := false) tb PySem.F.sub_list_str ?_)))
  simp only [Bool.false_eq_true, if_false]
  refine wpAny_pure (wpAny_bind (wpAny_bind (wpAny_isInstance (T := "list") (b := false) tb PySem.F.sub_list_bytes ?_)))
  simp only [Bool.false_eq_true, if_false]
  refine wpAny_pure (wpAny_bind (wpAny_bind (wpAny_isInstance (T := "list") (b := false) tb PySem.F.sub_list_bytearray ?_)))
  simp only [Bool.false_eq_true, if_false]
  refine wpAny_pure (wpAny_pure ?_)
  refine wpAny_bind (wpAny_newObj_type ?_)
  have k2 : ∀ (x : Addr) (o : Obj), s.heap.get? x = some o → (h1.push { cls := .type "list", data := .seq #[.ref b] }).get? x = some o := fun x o e => Heap.get?_push_of_some _ (k1 x o e)
  have lts : ∀ x o, s.heap.get? x = some o → x ≠ s.heap.objs.size ∧ x ≠ h1.objs.size := fun x o e => by
    have := Heap.lt_size e
    rw [sz1]
    exact ⟨Nat.ne_of_lt this, Nat.ne_of_lt (Nat.lt_succ_of_lt this)⟩
  have W := Walks.list (prog := prog) (w := w) (A := A.in1) hh s.heap.objs.size l (Nat.ne_of_lt hlt) ([] : List Value).toArray
  have hS : (h1.push { cls := .type "list", data := .seq #[.ref b] }).get? h1.objs.size = some { cls := .type "list", data := .seq #[.ref b] } := Heap.get?_push_size _ rfl
  have it2 : (h1.push { cls := .type "list", data := .seq #[.ref b] }).IsListIter s.heap.objs.size l 0 := by
    obtain ⟨o, ho, r⟩ := it1
    exact ⟨o, Heap.get?_push_of_some _ ho, r⟩
  have hl2 := k2 _ _ hl
  refine wpAny_pure ⟨plainId_quiet F.plain_sum_loop _, ?_⟩
  refine codeAny_builtin F.entry_sum_loop ?_
  rw [Around.under_plainId F.plain_sum_loop _]
  show wpAny _ A.in1 (seqItems? (.ref h1.objs.size) >>= _) _ _ _
  refine wpAny_bind (wpAny_seqItems hS rfl ?_)
  show wpAny _ A.in1 (tryCatch (pyNext (.ref s.heap.objs.size)) _ >>= _) _ _ _
  refine wpAny_bind (wpAny_tryCatch (W.done _ _ _ ⟨it2, ⟨_, hl2, rfl, nl, rfl⟩⟩ fun h' tk hk' => ?_))
  exact wpAny_pure (h h' tk fun x o e => hk' x o (fun hx => (lts _ _ e).1 (List.mem_singleton.mp hx)) (k2 _ _ e))
end
section
open L2
variable {X : Cx}
/-- sum(list of lists, list), also of none -/
def rSumM : List V → Hp → VK → Prop := fun vs H Q => rSumL vs H Q ∨ ∃ (l b : Addr) (bs : List V), vs = [V.ref l, V.ref b] ∧ H l = some (.lst []) ∧ H b = some (.lst bs) ∧ Q (.ref b) H
theorem cr_sumM (hc : X.calm = true) : CallR X (.builtin "sum") rSumM := by
  intro pins s σ H vs us Q I r h
  rcases h with h | ⟨l, b, bs, rfl, hl, hb, q⟩
  · exact cr_sumL hc pins s σ H vs us Q I r h
  obtain ⟨_, its, n, ri, il, el⟩ := I.lstM hl
  obtain ⟨_, st, nb, rs, sl, eb⟩ := I.lstM hb
  obtain rfl : its = [] := List.eq_nil_of_length_eq_zero ri.length.symm
  obtain ⟨u1, u2, eu, r1, r2⟩ := Vals.two r
  subst eu
  cases r1
  cases r2
  refine call_sum_lists0 (I.ok.hd hc) el eb fun h' tk hk => ?_
  exact ⟨.ref b, H, Inv.kept I hk, rfl, q⟩
end
end Tx

set_option Elab.async false
set_option linter.all false
set_option maxRecDepth 100000
set_option maxHeartbeats 1000000
namespace Tx
open PySem PySem.Spec PyProof.Rows L2 TL
/-! ### powers of great numbers, any of a list of lists, repr of a list of texts -/
def CPowW (i j : Int) : Prop := 0 ≤ j ∧ (Builtin.Int.intBits i : Int) * j ≤ 2 ^ 27
section
variable {X : Cx}
theorem op_powW : OpR X (binaryOp .Pow) (rI CPowW fun i j => .int (i ^ j.toNat)) := opI fun _ _ _ _ _ _ _ hc q => pow_int hc.1 hc.2 q
end
theorem wide_pow {i j : Int} {a : Nat} (ha : i.natAbs < 2 ^ a) (h0 : 0 < a) (ha2 : a ≤ 1000) (j0 : 0 ≤ j) (j1 : j ≤ 1000) : CPowW i j := by
  refine ⟨j0, ?_⟩
  have b : Builtin.Int.intBits i ≤ i.natAbs.log2 + 1 := by
    unfold Builtin.Int.intBits
    split <;> omega
  have x := PySem.Flt.log2_lt_of h0 ha
  have : (Builtin.Int.intBits i : Int) ≤ 1000 := by omega
  exact Int.le_trans (Int.mul_le_mul this j1 j0 (by decide)) (by decide)
/-- any(list of plain things) -/
def rAnyD (K : PySem.W.Frag) : List V → Hp → VK → Prop := fun vs H Q => ∃ (a : Addr) (ds : List PyData), vs = [V.ref a] ∧ Dp K H (.ref a) (.list ds) ∧ PyData.plainAll ds = true ∧ (∀ x ∈ ds, x.fits63) ∧ Q (.bl (ds.any PyData.truthy)) H
theorem anyDK {X : Cx} (K : PySem.W.Frag) (h : X.K = K) (hc : X.calm = true) : CallR X (.builtin "any") (rAnyD K) := by
  subst h
  intro pins s σ H vs us Q I r hh
  obtain ⟨a, ds, rfl, hd, pl, ft, q⟩ := hh
  rw [Vals.ref1 r]
  obtain ⟨as, rd⟩ := Dp.reads I (.list ds) (.ref a) (.ref a) hd rfl
  cases rd with
  | @list l o vs n xs as₁ h1 h2 h3 h4 =>
    refine PySem.W.any_list_data (I.ok.hd hc) ⟨o, h1, h2, n, h3⟩ h4 pl ft fun h' tk hk => ?_
    exact ⟨.bl _, H, I.kept fun b o e => hk b o e, rfl, q⟩
end Tx

set_option Elab.async false
set_option linter.all false
set_option maxRecDepth 100000
set_option maxHeartbeats 1000000
namespace Tx
open PySem PySem.Spec PyProof.Rows L2 TL
def topS (i : Nat) : Stmt := PySem.Challenge.pw_surepieces_k06_sure_by_a_product.main.body.getD i (.Pass ⟨0, 0, 0, 0⟩)
section
variable {P : Program} {w : World} {K : PySem.W.Frag} {mg : Str → Option Value} {base : Heap}
abbrev st_is_whole : Stmt := topS 2
theorem sc_is_whole : FnScope ["value"] ["value"] (defScope st_is_whole) := ⟨rfl, rfl, rfl, by decide +kernel, rfl, by decide +kernel, by decide +kernel⟩
theorem pl_is_whole : PlainB "is_whole" st_is_whole ["value"] := fun _ _ _ _ _ _ us hl => match us, hl with | [_], _ => rfl
/-- of an int: True -/
def spWhole : Sp := fun vs H Q _ => ∃ i, vs = [.int i] ∧ Q (.bl true) H
theorem ok_is_whole (T : Top K mg "is_whole" st_is_whole) (B : Bt mg) : Dn P w K mg base 1 "is_whole" st_is_whole ["value"] spWhole := by
  refine dn_of T sc_is_whole pl_is_whole (fun vs H Q E h => ?_) fun f cdv A outer s H vs Q E hr h => ?_
  · obtain ⟨i, rfl, _⟩ := h; rfl
  · obtain ⟨i, rfl, q⟩ := h
    refine ⟨_, (pss_one (ps_ret (pe_and (pe_callB (isiK K rfl) (by rfl) B.isi (by decide +kernel) (pa_cons (pv 0) (pa_cons (pe_bltn (v := .ty "int") (by rfl) B.int (by decide +kernel) rfl) pa_nil))) (pe_one (pe_not (pe_callB (isiK K rfl) (by rfl) B.isi (by decide +kernel) (pa_cons (pv 0) (pa_cons (pe_bltn (v := .ty "bool") (by rfl) B.bool (by decide +kernel) rfl) pa_nil)))))))), ?_⟩
    refine ⟨_, rfl, .int i, .ty "int", _, _, true, rfl, .ty _, .base (.int i), kit_ty (by decide +kernel), true, rfl, iteT ?_⟩
    exact ⟨_, rfl, .int i, .ty "bool", _, _, false, rfl, .ty _, .base (.int i), kit_ty (by decide +kernel), false, rfl, q⟩
abbrev st_is_letters : Stmt := topS 3
theorem sc_is_letters : FnScope ["value", "letter"] ["value"] (defScope st_is_letters) := ⟨rfl, rfl, rfl, by decide +kernel, rfl, by decide +kernel, by decide +kernel⟩
theorem pl_is_letters : PlainB "is_letters" st_is_letters ["value"] := fun _ _ _ _ _ _ us hl => match us, hl with | [_], _ => rfl
/-- of a text of small letters: True -/
def spLow : Sp := fun vs H Q _ => ∃ z, vs = [.str z] ∧ Low z ∧ z.length ≤ 100000 ∧ ∀ H', Same H H' → Q (.bl true) H'
theorem ok_is_letters (T : Top K mg "is_letters" st_is_letters) (B : Bt mg) : Dn P w K mg base 1 "is_letters" st_is_letters ["value"] spLow := by
  refine dn_of T sc_is_letters pl_is_letters (fun vs H Q E h => ?_) fun f cdv A outer s H vs Q E hr h => ?_
  · obtain ⟨z, rfl, _⟩ := h; rfl
  · obtain ⟨z, rfl, lo, hz, q⟩ := h
    refine ⟨_, (pss_one (ps_ret (pe_and (pe_callB (isiK K rfl) (by rfl) B.isi (by decide +kernel) (pa_cons (pv 0) (pa_cons (pe_bltn (v := .ty "str") (by rfl) B.str (by decide +kernel) rfl) pa_nil))) (pe_one (pe_callB (allK K rfl rfl) (by rfl) B.all (by decide +kernel) (pa_cons (pe_lc (own := [("letter", 1)]) (g := gName 1) rfl sc_is_letters.nd (pi_str (pv 0)) (blkOk_by (N := ["value", "letter"]) (sc := defScope st_is_letters) (by decide +kernel)) (fun _ _ _ _ _ => (pg_name (i := 1) sc_is_letters.nd rfl (.inl rfl))) (fun _ _ _ _ _ => pts_nil) (fun _ _ _ _ _ => (pe_chain op_le_str op_le_str pe_str (pv 1) pe_str))) pa_nil)))))), ?_⟩
    refine ⟨_, rfl, .str z, .ty "str", _, _, true, rfl, .ty _, .base (.str z), kit_ty (by decide +kernel), true, rfl, iteT ?_⟩
    refine ⟨_, rfl, z, rfl, fun D hD => lc_text (fun i H' => Same H H' ∧ H' D = some (.lst ((List.range i).map fun _ => V.bl true))) ⟨same_upd hD, upd_same⟩ (fun i c H' hc ⟨sm, e⟩ => ?_) fun H' ⟨sm, e⟩ => ?_⟩
    · have hl := lo c (List.mem_of_getElem? hc)
      have lt := (List.getElem?_eq_some_iff.mp hc).1
      rw [← len_tl] at lt
      refine ⟨rfl, lc_yes ?_⟩
      refine ⟨_, rfl, _, _, rfl, rfl, _, rfl, ?_⟩
      rw [low_a hl.1]
      refine iteT ?_
      refine ⟨_, _, rfl, rfl, _, e, grown_len _ lt (by omega), wr sm hD, ?_⟩
      rw [upd_same, low_z hl.2, grown (fun _ => V.bl true)]
    · refine ⟨D, List.replicate z.cps.size true, rfl, .inl (.inl ?_), ?_⟩
      · rw [e, trues]
      · rw [all_trues]
        exact q _ sm
abbrev st_steps_of : Stmt := topS 5
theorem sc_steps_of : FnScope ["size", "text", "at"] ["size", "text"] (defScope st_steps_of) := ⟨rfl, rfl, rfl, by decide +kernel, rfl, by decide +kernel, by decide +kernel⟩
theorem pl_steps_of : PlainB "steps_of" st_steps_of ["size", "text"] := fun _ _ _ _ _ _ us hl => match us, hl with | [_, _], _ => rfl
/-- the texts of n letters that stand in a text -/
def spSteps : Sp := fun vs H Q _ => ∃ (n : Nat) (z : Str), vs = [.int n, .str z] ∧ 1 ≤ n ∧ n ≤ 100000 ∧ z.length ≤ 100000 ∧ ∀ p H', H p = none → Same H H' → H' p = some (.lst ((steps n (tl z)).map V.str)) → Q (.ref p) H'
theorem ok_steps_of (T : Top K mg "steps_of" st_steps_of) (B : Bt mg) : Dn P w K mg base 1 "steps_of" st_steps_of ["size", "text"] spSteps := by
  refine dn_of T sc_steps_of pl_steps_of (fun vs H Q E h => ?_) fun f cdv A outer s H vs Q E hr h => ?_
  · obtain ⟨n, z, rfl, _⟩ := h; rfl
  · obtain ⟨n, z, rfl, n1, hn, hz, q⟩ := h
    have sl : z.length ≤ sizeLine := Nat.le_trans hz (by decide)
    refine ⟨_, (pss_one (ps_ret (pe_lc (own := [("at", 2)]) (g := gName 2) rfl sc_steps_of.nd (pi_range1 (by rfl) B.range (pa_cons (pe_op op_add (pe_op op_sub (pe_callB call_len_str (by rfl) B.len (by decide +kernel) (pa_cons (pv 1) pa_nil)) (pv 0)) pe_int) pa_nil)) (blkOk_by (N := ["size", "text", "at"]) (sc := defScope st_steps_of) (by decide +kernel)) (fun _ _ _ _ _ => (pg_name (i := 2) sc_steps_of.nd rfl (.inl rfl))) (fun _ _ _ _ _ => pts_nil) (fun _ _ _ _ _ => (pe_slice sl_str (pv 1) (po_some (pv 2)) (po_some (pe_op op_add (pv 2) (pv 0)))))))), ?_⟩
    refine ⟨_, rfl, _, rfl, sl, _, rfl, _, _, rfl, rfl, _, _, rfl, rfl, _, rfl, by omega, by omega, fun D hD => ?_⟩
    rw [show ((z.length : Int) - (n : Int) + 1).toNat = z.length + 1 - n by omega]
    refine lc_range (fun i H' => Same H H' ∧ H' D = some (.lst ((List.range i).map fun j => V.str (mkS (cut (tl z) j n))))) ⟨same_upd hD, upd_same⟩ (fun i H' hi ⟨sm, e⟩ => ?_) fun H' ⟨sm, e⟩ => ?_
    · refine ⟨rfl, lc_yes ?_⟩
      refine ⟨_, rfl, _, rfl, _, rfl, _, rfl, _, rfl, _, _, rfl, rfl, _, rfl, z, rfl, sl, _, e, grown_len _ hi (by omega), wr sm hD, ?_⟩
      rw [upd_same, show ((0 : Int) + (i : Int)) = (i : Int) by omega, cutS_mid z i n (by omega), grown fun j => V.str (mkS (cut (tl z) j n))]
    · refine q D H' hD sm ?_
      rw [e]
      unfold steps
      rw [← len_tl, List.map_map]
      rfl
abbrev st_is_size : Stmt := topS 18
theorem sc_is_size : FnScope ["value"] ["value"] (defScope st_is_size) := ⟨rfl, rfl, rfl, by decide +kernel, rfl, by decide +kernel, by decide +kernel⟩
theorem pl_is_size : PlainB "is_size" st_is_size ["value"] := fun _ _ _ _ _ _ us hl => match us, hl with | [_], _ => rfl
def spSize : Sp := fun vs H Q _ => ∃ n : Nat, vs = [.int n] ∧ 2 ≤ n ∧ n ≤ 6 ∧ Q (.bl true) H
theorem ok_is_size (T : Top K mg "is_size" st_is_size) (D_is_whole : Dn P w K mg base 1 "is_whole" st_is_whole ["value"] spWhole) : Dn P w K mg base 2 "is_size" st_is_size ["value"] spSize := by
  refine dn_of T sc_is_size pl_is_size (fun vs H Q E h => ?_) fun f cdv A outer s H vs Q E hr h => ?_
  · obtain ⟨n, rfl, _⟩ := h; rfl
  · obtain ⟨n, rfl, h2, h6, q⟩ := h
    refine ⟨_, (pss_one (ps_ret (pe_and (pe_fn D_is_whole (hr.mono (by decide)) (by rfl) (pa_cons (pv 0) pa_nil)) (pe_one (pe_chain op_le op_le pe_int (pv 0) pe_int))))), ?_⟩
    refine ⟨_, rfl, _, rfl, _, rfl, ?_⟩
    refine iteT ?_
    refine ⟨_, rfl, _, _, rfl, rfl, _, rfl, ?_⟩
    rw [decide_eq_true (show (2 : Int) ≤ (n : Int) by omega)]
    refine iteT ?_
    refine ⟨_, _, rfl, rfl, ?_⟩
    show Q (.bl (decide ((n : Int) ≤ 6))) H
    rw [decide_eq_true (show (n : Int) ≤ 6 by omega)]
    exact q
end
end Tx

set_option Elab.async false
set_option linter.all false
set_option maxRecDepth 100000
set_option maxHeartbeats 1000000
namespace Tx
open PySem PySem.Spec PyProof.Rows L2 TL
section
variable {P : Program} {w : World} {K : PySem.W.Frag} {mg : Str → Option Value} {base : Heap}
abbrev Wf (P : Program) (w : World) (K : PySem.W.Frag) (mg : Str → Option Value) (base : Heap) := True
theorem steps_len (n : Nat) (l : List Nat) : (steps n l).length = l.length + 1 - n := by
  unfold steps; rw [List.length_map, List.length_range]
theorem low_unroll {z : Str} (lo : Low z) (h : 1 ≤ z.length) (m : Nat) : Low (mkS (unroll (tl z) m)) := by
  intro c hc
  rw [tl_mkS] at hc
  obtain ⟨i, hi⟩ := List.getElem?_of_mem hc
  have hl : 0 < (tl z).length := by rw [← len_tl]; omega
  have lt : i < (tl z).length + m := by
    have := (List.getElem?_eq_some_iff.mp hi).1
    rwa [unroll_len _ hl] at this
  rw [unroll_get _ hl _ _ lt] at hi
  exact lo c (List.mem_of_getElem? hi)
end
end Tx

set_option Elab.async false
set_option linter.all false
set_option maxRecDepth 100000
set_option maxHeartbeats 1000000
namespace Tx
open PySem PySem.Spec PyProof.Rows L2 TL
/-- the draws' list at p, at most n draws from it so far -/
def Src (H : Hp) (p : Addr) (n : Nat) : Prop := ∃ a b c : Int, H p = some (.lst [.int a, .int b, .int c]) ∧ 0 ≤ b ∧ b < 10 ^ 31 ∧ 0 ≤ c ∧ c ≤ n
/-- all but p is as it was -/
def But (p : Addr) (H H' : Hp) : Prop := ∀ b o, H b = some o → b ≠ p → H' b = some o
theorem But.refl {p : Addr} {H : Hp} : But p H H := fun _ _ e _ => e
theorem But.trans {p : Addr} {H H1 H2 : Hp} (a : But p H H1) (b : But p H1 H2) : But p H H2 := fun c o e n => b c o (a c o e n) n
theorem But.same {p : Addr} {H H1 H2 : Hp} (a : But p H H1) (b : Same H1 H2) : But p H H2 := fun c o e n => b c o (a c o e n)
theorem Same.but {p : Addr} {H H1 : Hp} (a : Same H H1) : But p H H1 := fun c o e _ => a c o e
theorem But.upd {p : Addr} {H : Hp} {o : HO} : But p H (upd H p o) := fun c u e n => by rw [upd_ne n]; exact e
theorem Src.same {H H' : Hp} {p : Addr} {n : Nat} (s : Src H p n) (k : Same H H') : Src H' p n := let ⟨a, b, c, e, r⟩ := s; ⟨a, b, c, k _ _ e, r⟩
theorem Src.mono {H : Hp} {p : Addr} {n m : Nat} (s : Src H p n) (h : n ≤ m) : Src H p m := let ⟨a, b, c, e, h1, h2, h3, h4⟩ := s; ⟨a, b, c, e, h1, h2, h3, by omega⟩
theorem Src.at {H : Hp} {p : Addr} {n : Nat} (s : Src H p n) : ∃ o, H p = some o := let ⟨_, _, _, e, _⟩ := s; ⟨_, e⟩
/-- a new object is none of what was -/
theorem But.free {p q : Addr} {H H' : Hp} (k : But p H H') (hp : ∃ o, H' p = some o) (h : H' q = none) : H q = none := by
  cases e : H q with
  | none => rfl
  | some o =>
    by_cases c : q = p
    · subst c; obtain ⟨u, hu⟩ := hp; rw [hu] at h; cases h
    · rw [k q o e c] at h; cases h
theorem Src.new {H : Hp} {p q : Addr} {n : Nat} {o : HO} (s : Src H p n) (h : H q = none) : Src (upd H q o) p n := s.same (same_upd h)
section
variable {P : Program} {w : World} {K : PySem.W.Frag} {mg : Str → Option Value} {base : Heap}
theorem fmod_bd {i j : Int} (h : 0 < j) : 0 ≤ i.fmod j ∧ i.fmod j < j := ⟨Int.fmod_nonneg_of_pos _ h, Int.fmod_lt_of_pos _ h⟩
theorem nat_lt {i : Int} {k : Nat} (h0 : 0 ≤ i) (h : i < 2 ^ k) : i.natAbs < 2 ^ k := by
  have e : (i.natAbs : Int) = i := Int.natAbs_of_nonneg h0
  have e2 : ((2 ^ k : Nat) : Int) = (2 : Int) ^ k := by rw [Int.natCast_pow]; rfl
  omega
theorem at0 {x y z : V} : atI [x, y, z] 0 = some x := rfl
theorem at1 {x y z : V} : atI [x, y, z] 1 = some y := rfl
theorem at2 {x y z : V} : atI [x, y, z] 2 = some z := rfl
end
end Tx

set_option Elab.async false
set_option linter.all false
set_option maxRecDepth 100000
set_option maxHeartbeats 1000000
namespace Tx
open PySem PySem.Spec PyProof.Rows L2 TL
/-- a conditional value: whatever it is -/
theorem if_any {P : V → Prop} {t : TT} {ta tb : TE} {σ : L2.St} {H : Hp} {Q : VK} (b : Bool) (ht : ∀ R : Bool → Hp → Prop, R b H → t σ H R) (ha : b = true → ∀ Q : VK, (∀ v, P v → Q v H) → ta σ H Q)
    (hb : b = false → ∀ Q : VK, (∀ v, P v → Q v H) → tb σ H Q) (q : ∀ v, P v → Q v H) : tIf t ta tb σ H Q := by
  refine ht _ ?_
  cases b with
  | true => exact iteT (ha rfl Q q)
  | false => exact iteF (hb rfl Q q)
theorem ints_flat (ns : List Int) {i : Nat} {x : V} (h : (ns.map V.int)[i]? = some x) : ∃ z, x = V.int z := by
  rw [List.getElem?_map] at h
  cases e : ns[i]? with
  | none => rw [e] at h; cases h
  | some z => rw [e] at h; exact ⟨z, (Option.some.inj h).symm⟩
theorem str_e : Str.ofString "" = ⟨#[]⟩ := by decide +kernel
theorem joinL_nil : ∀ ps : List (List Nat), TL.joinL [] ps = ps.flatten
  | [] => rfl
  | [p] => by show p = _; simp
  | p :: q :: r => by
    show p ++ ([] ++ TL.joinL [] (q :: r)) = _
    rw [joinL_nil (q :: r), List.nil_append]
    simp
theorem join_e (ys : List Str) : Txt.join (Str.ofString "") ys = mkS (ys.map tl).flatten := by
  refine ext_tl ?_
  rw [TL.join_eq, TL.tl_join, str_e]
  exact joinL_nil _
theorem sum_one (l : List Nat) : ((l.map fun c => (⟨#[c]⟩ : Str)).map (·.length)).sum = l.length := by
  induction l with
  | nil => rfl
  | cons c l ih => rw [List.map_cons, List.map_cons, List.sum_cons, ih, List.length_cons]; show 1 + _ = _; omega
theorem flat_one (l : List Nat) : ((l.map fun c => (⟨#[c]⟩ : Str)).map tl).flatten = l := by
  induction l with
  | nil => rfl
  | cons c l ih => rw [List.map_cons, List.map_cons, List.flatten_cons, ih]; rfl
theorem atI_pos {A : Type} {xs : List A} {i : Int} {x : A} (h0 : 0 ≤ i) (h : xs[i.toNat]? = some x) : atI xs i = some x := by
  have lt := (List.getElem?_eq_some_iff.mp h).1
  unfold atI ixN
  rw [if_pos h0, if_pos (by omega)]
  exact h
/-- what a text of draws is made of -/
def Lets (L : Str) : Prop := Low L ∧ 1 ≤ L.length ∧ L.length ≤ 30
section
variable {P : Program} {w : World} {K : PySem.W.Frag} {mg : Str → Option Value} {base : Heap}
def menu : List Str := ["ab", "abc", "acgt", "zyxa", "abcdef", "abcdefghijklmnopqrstuvwxyz", "ab", "abcd", "acgt", "bz", "cab", "a"]
def letsB (L : Str) : Bool := ((tl L).all fun c => decide (97 ≤ c ∧ c ≤ 122)) && decide (1 ≤ L.length ∧ L.length ≤ 26)
theorem lets_of {L : Str} (h : letsB L = true) : Lets L ∧ L.length ≤ 26 := by
  unfold letsB at h
  rw [Bool.and_eq_true, List.all_eq_true] at h
  have h2 := of_decide_eq_true h.2
  exact ⟨⟨fun c hc => of_decide_eq_true (h.1 c hc), h2.1, Nat.le_trans h2.2 (by decide)⟩, h2.2⟩
theorem menu_ok : menu.all letsB = true := by decide +kernel
theorem But.mk {p D : Addr} {H H1 : Hp} {o : HO} (a : But p H H1) (h : H D = none) : But p H (L2.upd H1 D o) := fun b u e n => by
  rw [upd_ne (ne_of_none e h)]; exact a b u e n
end
end Tx

set_option Elab.async false
set_option linter.all false
set_option maxRecDepth 100000
set_option maxHeartbeats 1000000
namespace Tx
open PySem PySem.Spec PyProof.Rows L2 TL
theorem cutS_ij (z : Str) (i j : Nat) (h : i ≤ j) (hj : j ≤ z.length) : cutS z (some (i : Int)) (some (j : Int)) = mkS (cut (tl z) i (j - i)) := by
  have e := cutS_mid z i (j - i) (by omega)
  rw [show ((i : Int) + ((j - i : Nat) : Int)) = (j : Int) by omega] at e
  exact e
theorem low_app {x y : Str} (hx : Low x) (hy : Low y) : Low (x ++ y) := fun c hc => by
  rw [tl_append] at hc
  exact (List.mem_append.mp hc).elim (hx c) (hy c)
theorem len_app (x y : Str) : (x ++ y).length = x.length + y.length := by rw [len_tl, tl_append, List.length_append, ← len_tl, ← len_tl]
theorem low_mk {l : List Nat} {z : Str} (h : Low z) (k : ∀ c ∈ l, c ∈ tl z) : Low (mkS l) := fun c hc => h c (k c hc)
theorem low_take {z : Str} (h : Low z) (n : Nat) : Low (mkS ((tl z).take n)) := low_mk h fun _ hc => List.mem_of_mem_take hc
theorem low_cut {z : Str} (h : Low z) (i n : Nat) : Low (mkS (cut (tl z) i n)) := low_mk h fun _ hc => List.mem_of_mem_drop (List.mem_of_mem_take hc)
theorem len_take {z : Str} {n : Nat} (h : n ≤ z.length) : (mkS ((tl z).take n)).length = n := by rw [len_mkS, List.length_take, ← len_tl]; omega
theorem len_cut {z : Str} {i n : Nat} (h : i + n ≤ z.length) : (mkS (cut (tl z) i n)).length = n := by
  unfold cut
  rw [len_mkS, List.length_take, List.length_drop, ← len_tl]; omega
theorem low_one {L : Str} (h : Low L) {c : Nat} (hc : c ∈ tl L) : Low ⟨#[c]⟩ := fun d hd => by
  have e : d = c := List.mem_singleton.mp hd
  subst e; exact h d hc
theorem But.kept {p b : Addr} {o : HO} {H H' : Hp} (k : But p H H') (e : H b = some o) (n : b ≠ p) : H' b = some o := k b o e n
section
variable {P : Program} {w : World} {K : PySem.W.Frag} {mg : Str → Option Value} {base : Heap}
end
end Tx

set_option Elab.async false
set_option linter.all false
set_option maxRecDepth 100000
set_option maxHeartbeats 1000000
namespace Tx
open PySem PySem.Spec PyProof.Rows L2 TL RZ
theorem str_at {xs : List Str} {i : Nat} {x : V} (h : (xs.map V.str)[i]? = some x) : ∃ z, xs[i]? = some z ∧ x = V.str z := by
  rw [List.getElem?_map] at h
  cases e : xs[i]? with
  | none => rw [e] at h; cases h
  | some z => rw [e] at h; exact ⟨z, rfl, (Option.some.inj h).symm⟩
theorem cutV_tail (xs : List V) : cutV xs (some (1 : Int)) none = xs.drop 1 := by
  have e : (1 : Int) = ((1 : Nat) : Int) := rfl
  unfold cutV
  rw [e, HT.sIx_nat, HT.sIx_none]
  by_cases c : 1 ≤ xs.length
  · rw [Nat.min_eq_left c, List.take_of_length_le (by rw [List.length_drop]; exact Nat.le_refl _)]
  · have : xs = [] := List.eq_nil_of_length_eq_zero (by omega)
    subst this; rfl
theorem dp_strsT {K : PySem.W.Frag} {H : Hp} {a : Addr} {xs : List Str} (h : H a = some (.tup (xs.map V.str))) : Dp K H (.ref a) (.tuple (xs.map PyData.str)) := .tup (.inl (.inl h)) (dp_all xs)
theorem shaped_strsT {xs : List Str} (h : ∀ z ∈ xs, Low z) : SeqAt.shaped (.tuple (xs.map PyData.str)) = true := by
  unfold SeqAt.shaped
  simp only [PyData.canLay0, PyData.depth, (lay_strs xs h).1, (lay_strs xs h).2]
  decide
section
variable {P : Program} {w : World} {K : PySem.W.Frag} {mg : Str → Option Value} {base : Heap}
abbrev st_is_ascending : Stmt := topS 4
theorem sc_is_ascending : FnScope ["value", "one", "other", "item"] ["value"] (defScope st_is_ascending) := ⟨rfl, rfl, rfl, by decide +kernel, rfl, by decide +kernel, by decide +kernel⟩
theorem pl_is_ascending : PlainB "is_ascending" st_is_ascending ["value"] := fun _ _ _ _ _ _ us hl => match us, hl with | [_], _ => rfl
/-- of a tuple of ascending texts: True -/
def spAsc : Sp := fun vs H Q _ => ∃ (t : Addr) (ws : List Str), vs = [.ref t] ∧ H t = some (.tup (ws.map V.str)) ∧ 1 ≤ ws.length ∧ ws.length ≤ 3000 ∧ (ws.Pairwise fun a b => tl a < tl b) ∧ ∀ H', Same H H' → Q (.bl true) H'
theorem ok_is_ascending (T : Top K mg "is_ascending" st_is_ascending) (B : Bt mg) : Dn P w K mg base 1 "is_ascending" st_is_ascending ["value"] spAsc := by
  refine dn_of T sc_is_ascending pl_is_ascending (fun vs H Q E h => ?_) fun f cdv A outer s H vs Q E hr h => ?_
  · obtain ⟨t, z, rfl, _⟩ := h; rfl
  · obtain ⟨t, ws, rfl, et, w1, w2, asc, q⟩ := h
    refine ⟨_, (pss_cons (ps_if (PW.pt (pw_or (pt_not (pt_val (pe_callB (isiK K rfl) (by rfl) B.isi (by decide +kernel) (pa_cons (pv 0) (pa_cons (pe_bltn (v := .ty "tuple") (by rfl) B.tuple (by decide +kernel) rfl) pa_nil))))) (pw_or1 (pt_not (pt_val (pe_callB (allK K rfl rfl) (by rfl) B.all (by decide +kernel) (pa_cons (pe_lc (own := [("item", 3)]) (g := gName 3) rfl sc_is_ascending.nd (pi_tup (pv 0)) (blkOk_by (N := ["value", "one", "other", "item"]) (sc := defScope st_is_ascending) (by decide +kernel)) (fun _ _ _ _ _ => (pg_name (i := 3) sc_is_ascending.nd rfl (.inl rfl))) (fun _ _ _ _ _ => pts_nil) (fun _ _ _ _ _ => (pe_callB (isiK K rfl) (by rfl) B.isi (by decide +kernel) (pa_cons (pv 3) (pa_cons (pe_bltn (v := .ty "str") (by rfl) B.str (by decide +kernel) rfl) pa_nil))))) pa_nil))))))) (pss_one (ps_ret pe_bl)) pss_nil)
      (pss_one (ps_ret (pe_callB (allK K rfl rfl) (by rfl) B.all (by decide +kernel) (pa_cons (pe_lc (own := [("one", 1), ("other", 2)]) (g := gTup K 2 (gCons (gName 1) (gCons (gName 2) (gNil)))) rfl sc_is_ascending.nd (pi_zipA (by rfl) B.zip (pa_cons (pv 0) (pa_cons (pe_slice sl_tup (pv 0) (po_some pe_int) po_none) pa_nil))) (blkOk_by (N := ["value", "one", "other", "item"]) (sc := defScope st_is_ascending) (by decide +kernel)) (fun _ _ _ _ _ => (pg_tupK (n := 2) K rfl rfl (pgs_cons (pg_name (i := 1) sc_is_ascending.nd rfl (.inl rfl)) (pgs_cons (pg_name (i := 2) sc_is_ascending.nd rfl (.inl rfl)) pgs_nil)))) (fun _ _ _ _ _ => pts_nil) (fun _ _ _ _ _ => (pe_cmpR op_lt_str (pv 1) (pv 2) (nomark _)))) pa_nil))))), ?_⟩
    refine ⟨_, rfl, .ref t, .ty "tuple", _, _, true, rfl, .ty _, .base (.tup et), kit_ty (by decide +kernel), true, rfl, ?_⟩
    refine iteF ?_
    refine ⟨_, rfl, t, rfl, ⟨_, .inl (.inl et)⟩, fun D hD => ?_⟩
    refine lc_tup (a := t) (xs := ws.map V.str) (fun i H' => Same H H' ∧ H' D = some (.lst ((List.range i).map fun _ => V.bl true))) ⟨same_upd hD, upd_same⟩ (fun i H' _ h => .inl (.inl (h.1 _ _ et))) (fun i x H' hi ⟨sm, e⟩ => ?_) fun H' ⟨sm, e⟩ => ?_
    · obtain ⟨z, hz, rfl⟩ := str_at hi
      have lt := (List.getElem?_eq_some_iff.mp hz).1
      refine ⟨rfl, lc_yes ?_⟩
      refine ⟨_, rfl, .str z, .ty "str", _, _, true, rfl, .ty _, .base (.str z), kit_ty (by decide +kernel), _, e, grown_len _ lt (by omega), wr sm hD, ?_⟩
      rw [upd_same, grown fun _ => V.bl true]
    · rw [List.length_map] at e
      refine ⟨D, List.replicate ws.length true, rfl, .inl (.inl (by rw [e, trues])), _, rfl, ?_⟩
      rw [all_trues]
      refine iteF ?_
      have et' := sm _ _ et
      refine ⟨_, rfl, _, rfl, _, rfl, t, _, rfl, .inl (.inl et'), ?_, fun p np => ?_⟩
      · rintro ⟨c, _⟩
        rw [show (1 : Int) = ((1 : Nat) : Int) from rfl, HT.sIx_nat, List.length_map] at c
        omega
      rw [cutV_tail, ← List.map_drop]
      have s1 : Same H (upd H' p (.tup ((ws.drop 1).map V.str))) := sm.trans (same_upd np)
      refine ⟨t, p, _, _, rfl, .inr ⟨.inl (.inl (s1 _ _ et)), .inl (.inl upd_same), fun D2 hD2 => ?_⟩⟩
      have ep : (upd H' p (.tup ((ws.drop 1).map V.str))) p = some (.tup ((ws.drop 1).map V.str)) := upd_same
      generalize upd H' p (.tup ((ws.drop 1).map V.str)) = H1 at s1 hD2 ep ⊢
      refine lc_zipT (xs := ws.map V.str) (ys := (ws.drop 1).map V.str) (by rw [List.length_map, List.length_map, List.length_drop]; omega) (fun i H2 => Same H1 H2 ∧ H2 D2 = some (.lst ((List.range i).map fun _ => V.bl true))) ⟨same_upd hD2, upd_same⟩ (fun i H2 h => ⟨.inl (.inl (h.1 _ _ (s1 _ _ et))), .inl (.inl (h.1 _ _ ep))⟩) (fun i x y U H2 hx hy ⟨sm2, e2⟩ nU => ?_) fun H2 ⟨sm2, e2⟩ => ?_
      · obtain ⟨a, ha, rfl⟩ := str_at hx
        obtain ⟨b, hb, rfl⟩ := str_at hy
        rw [List.getElem?_drop] at hb
        obtain ⟨la, ga⟩ := List.getElem?_eq_some_iff.mp ha
        obtain ⟨lb, gb⟩ := List.getElem?_eq_some_iff.mp hb
        have ab : tl a < tl b := by
          have := List.pairwise_iff_getElem.mp asc i (1 + i) la lb (by omega)
          rwa [ga, gb] at this
        refine ⟨U, _, rfl, .inl (.inl upd_same), rfl, _, _, rfl, _, _, rfl, rfl, rfl, lc_yes ?_⟩
        have sU : Same H1 (upd H2 U (.tup [V.str a, V.str b])) := sm2.trans (same_upd nU)
        refine ⟨_, rfl, _, rfl, a, b, rfl, rfl, _, (same_upd nU) _ _ e2, grown_len _ la (by omega), wr sU hD2, ?_⟩
        rw [upd_same, show decide (a.cps.toList < b.cps.toList) = true from decide_eq_true ab, grown fun _ => V.bl true]
      · refine ⟨D2, List.replicate ((ws.drop 1).map V.str).length true, rfl, .inl (.inl (by rw [e2, trues])), ?_⟩
        rw [all_trues]
        exact q _ (s1.trans sm2)
abbrev st_is_windows : Stmt := topS 19
theorem sc_is_windows : FnScope ["size", "value", "window"] ["size", "value"] (defScope st_is_windows) := ⟨rfl, rfl, rfl, by decide +kernel, rfl, by decide +kernel, by decide +kernel⟩
theorem pl_is_windows : PlainB "is_windows" st_is_windows ["size", "value"] := fun _ _ _ _ _ _ us hl => match us, hl with | [_, _], _ => rfl
def g_kb_is_windows_value_size {A : Type} : List A → List A → List A | [], [v0, v1] => [v1, v0] | _, _ => []
theorem kb_is_windows_value_size {K : PySem.W.Frag} : ∀ fd, (∃ kV doc pm an cdv ct, fd = PySem.W.fnOf "is_windows" "is_windows" (defArgs st_is_windows) (defBody st_is_windows) (defScope st_is_windows) .none kV doc pm an cdv ct) → KBinds K fd ["size", "value"] ["value", "size"] g_kb_is_windows_value_size g_kb_is_windows_value_size := by
  rintro fd ⟨kV, doc, pm, an, cdv, ct, rfl⟩
  refine ⟨fun s us ws _ hl => ?_, fun r q => ?_⟩
  · match us, ws, hl with
    | [], [_, _], _ => exact .of_eq rfl
  · match r, q with
    | .nil, (.cons a0 (.cons a1 .nil)) => exact (.cons a1 (.cons a0 .nil))
    | .nil, .nil => exact .nil
    | .nil, (.cons _ .nil) => exact .nil
    | .nil, (.cons _ (.cons _ (.cons _ _))) => exact .nil
    | .cons _ _, _ => exact .nil
/-- of an ascending tuple of windows of n letters: True -/
def spWins : Sp := fun vs H Q _ => ∃ (n : Nat) (t : Addr) (ws : List Str), vs = [.int n, .ref t] ∧ H t = some (.tup (ws.map V.str)) ∧ Book n ws ∧ ∀ H', Same H H' → Q (.bl true) H'
theorem ok_is_windows (T : Top K mg "is_windows" st_is_windows) (B : Bt mg) (D_is_ascending : Dn P w K mg base 1 "is_ascending" st_is_ascending ["value"] spAsc)
    (D_is_letters : Dn P w K mg base 1 "is_letters" st_is_letters ["value"] spLow) : Dn P w K mg base 2 "is_windows" st_is_windows ["size", "value"] spWins := by
  refine dn_of T sc_is_windows pl_is_windows (fun vs H Q E h => ?_) fun f cdv A outer s H vs Q E hr h => ?_
  · obtain ⟨n, t, z, rfl, _⟩ := h; rfl
  · obtain ⟨n, t, ws, rfl, et, bk, q⟩ := h
    refine ⟨_, (pss_one (ps_ret (pe_and (pe_fn D_is_ascending (hr.mono (by decide)) (by rfl) (pa_cons (pv 1) pa_nil)) (pe_one (pe_callB (allK K rfl rfl) (by rfl) B.all (by decide +kernel) (pa_cons (pe_lc (own := [("window", 2)]) (g := gName 2) rfl sc_is_windows.nd (pi_tup (pv 1)) (blkOk_by (N := ["size", "value", "window"]) (sc := defScope st_is_windows) (by decide +kernel)) (fun _ _ _ _ _ => (pg_name (i := 2) sc_is_windows.nd rfl (.inl rfl))) (fun _ _ _ _ _ => pts_nil) (fun _ _ _ _ _ => (pe_and (pe_cmpR op_eq (pe_callB call_len_str (by rfl) B.len (by decide +kernel) (pa_cons (pv 2) pa_nil)) (pv 0) (nomark _)) (pe_one (pe_fn D_is_letters (hr.mono (by decide)) (by rfl) (pa_cons (pv 2) pa_nil)))))) pa_nil)))))), ?_⟩
    refine ⟨_, rfl, t, ws, rfl, et, bk.one, bk.most, bk.asc, fun H1 s1 => ⟨true, rfl, ?_⟩⟩
    refine iteT ?_
    have et1 := s1 _ _ et
    refine ⟨_, rfl, t, rfl, ⟨_, .inl (.inl et1)⟩, fun D hD => ?_⟩
    refine lc_tup (a := t) (xs := ws.map V.str) (fun i H' => Same H1 H' ∧ H' D = some (.lst ((List.range i).map fun _ => V.bl true))) ⟨same_upd hD, upd_same⟩ (fun i H' _ h => .inl (.inl (h.1 _ _ et1))) (fun i x H' hi ⟨sm, e⟩ => ?_) fun H' ⟨sm, e⟩ => ?_
    · obtain ⟨z, hz, rfl⟩ := str_at hi
      have lt := (List.getElem?_eq_some_iff.mp hz).1
      obtain ⟨lo, ln⟩ := bk.each z (List.mem_of_getElem? hz)
      have hn := bk.n6
      have hm := bk.most
      refine ⟨rfl, lc_yes ?_⟩
      refine ⟨_, rfl, z, rfl, Nat.le_trans (show z.length ≤ 100000 by omega) (by decide), _, rfl, rfl, _, rfl, ?_⟩
      rw [ln, decide_eq_true rfl]
      refine iteT ?_
      refine ⟨_, rfl, z, rfl, lo, by omega, fun H2 s2 => ⟨_, s2 _ _ e, grown_len _ lt (by omega), wr (sm.trans s2) hD, ?_⟩⟩
      rw [upd_same, grown fun _ => V.bl true]
    · rw [List.length_map] at e
      refine ⟨D, List.replicate ws.length true, rfl, .inl (.inl (by rw [e, trues])), ?_⟩
      rw [all_trues]
      exact q _ (s1.trans sm)
abbrev st_is_book : Stmt := topS 17
theorem sc_is_book : FnScope ["value", "size", "windows"] ["value"] (defScope st_is_book) := ⟨rfl, rfl, rfl, by decide +kernel, rfl, by decide +kernel, by decide +kernel⟩
theorem pl_is_book : PlainB "is_book" st_is_book ["value"] := fun _ _ _ _ _ _ us hl => match us, hl with | [_], _ => rfl
def spBook : Sp := fun vs H Q _ => ∃ (b : Addr) (n : Nat) (ws : List Str), vs = [.ref b] ∧ BookAt H b n ws ∧ Book n ws ∧ ∀ H', Same H H' → Q (.bl true) H'
theorem ok_is_book (T : Top K mg "is_book" st_is_book) (B : Bt mg) (D_is_size : Dn P w K mg base 2 "is_size" st_is_size ["value"] spSize) (D_is_windows : Dn P w K mg base 2 "is_windows" st_is_windows ["size", "value"] spWins) : Dn P w K mg base 3 "is_book" st_is_book ["value"] spBook := by
  refine dn_of T sc_is_book pl_is_book (fun vs H Q E h => ?_) fun f cdv A outer s H vs Q E hr h => ?_
  · obtain ⟨t, _, z, rfl, _⟩ := h; rfl
  · obtain ⟨b, n, ws, rfl, ⟨t, eb, et⟩, bk, q⟩ := h
    refine ⟨_, (pss_cons (ps_if (PW.pt (pw_or (pt_not (pt_val (pe_callB (isiK K rfl) (by rfl) B.isi (by decide +kernel) (pa_cons (pv 0) (pa_cons (pe_bltn (v := .ty "tuple") (by rfl) B.tuple (by decide +kernel) rfl) pa_nil))))) (pw_or1 (pt_cmpR op_ne (pe_callB (lenK K rfl) (by rfl) B.len (by decide +kernel) (pa_cons (pv 0) pa_nil)) pe_int (nomark _))))) (pss_one (ps_ret pe_bl)) pss_nil)
      (pss_cons (ps_asg (pv 0) (pg_tupK K rfl rfl (pgs_cons (pg_name (i := 1) sc_is_book.nd rfl (.inl rfl)) (pgs_cons (pg_name (i := 2) sc_is_book.nd rfl (.inl rfl)) pgs_nil))))
      (pss_one (ps_ret (pe_and (pe_fn D_is_size (hr.mono (by decide)) (by rfl) (pa_cons (pv 1) pa_nil)) (pe_and (pe_fn D_is_windows (hr.mono (by decide)) (by rfl) (pa_cons (pv 1) (pa_cons (pv 2) pa_nil))) (pe_one (pe_cmpR (neDK K rfl hr.units) (pv 2) (pe_tup pa_nil) (nomark _))))))))), ?_⟩
    refine ⟨_, rfl, .ref b, .ty "tuple", _, _, true, rfl, .ty _, .base (.tup eb), kit_ty (by decide +kernel), true, rfl, ?_⟩
    refine iteF ?_
    refine ⟨_, rfl, b, _, rfl, .inr (.inl (.inl eb)), rfl, _, rfl, ?_⟩
    refine iteNS rfl ?_
    refine ⟨_, rfl, b, _, rfl, .inl (.inl eb), rfl, _, _, rfl, _, _, rfl, rfl, ?_⟩
    refine ⟨_, rfl, n, rfl, bk.n2, bk.n6, true, rfl, ?_⟩
    refine iteT ?_
    refine ⟨_, rfl, _, rfl, n, t, ws, rfl, et, bk, fun H1 s1 => ⟨true, rfl, ?_⟩⟩
    refine iteT ?_
    have et1 := s1 _ _ et
    refine ⟨_, rfl, (by show 0 ≤ sizeLine; decide), fun u nu => ?_⟩
    have et2 : (upd H1 u (.tup [])) t = some (.tup (ws.map V.str)) := (same_upd nu) _ _ et1
    refine ⟨_, _, dp_strsT et2, .tup (.inl (.inl upd_same)) .nil, shaped_strsT fun y hy => (bk.each y hy).1, rfl, ?_⟩
    have e : PyData.eqv (.tuple (ws.map PyData.str)) (.tuple []) = false := by
      have := bk.one
      cases e : ws with
      | nil => rw [e] at this; exact absurd this (by decide)
      | cons _ _ => rfl
    first | exact q _ (s1.trans (same_upd nu)) | (rw [e]; exact q _ (s1.trans (same_upd nu)))
abbrev st_check_book : Stmt := topS 21
theorem sc_check_book : FnScope ["book"] ["book"] (defScope st_check_book) := ⟨rfl, rfl, rfl, by decide +kernel, rfl, by decide +kernel, by decide +kernel⟩
theorem pl_check_book : PlainB "check_book" st_check_book ["book"] := fun _ _ _ _ _ _ us hl => match us, hl with | [_], _ => rfl
def spCkBook : Sp := fun vs H Q _ => ∃ (b : Addr) (n : Nat) (ws : List Str), vs = [.ref b] ∧ BookAt H b n ws ∧ Book n ws ∧ ∀ H', Same H H' → Q .non H'
theorem ok_check_book (T : Top K mg "check_book" st_check_book) (D_is_book : Dn P w K mg base 3 "is_book" st_is_book ["value"] spBook) : Dn P w K mg base 4 "check_book" st_check_book ["book"] spCkBook := by
  refine dn_of T sc_check_book pl_check_book (fun vs H Q E h => ?_) fun f cdv A outer s H vs Q E hr h => ?_
  · obtain ⟨t, _, z, rfl, _⟩ := h; rfl
  · obtain ⟨b, n, ws, rfl, at', bk, q⟩ := h
    refine ⟨_, (pss_one (ps_if (pt_not (pt_val (pe_fn D_is_book (hr.mono (by decide)) (by rfl) (pa_cons (pv 0) pa_nil)))) (pss_one ps_never) pss_nil)), ?_⟩
    refine ⟨_, rfl, b, n, ws, rfl, at', bk, fun H' sm => ⟨_, rfl, ?_⟩⟩
    refine iteF ?_
    exact q _ sm
end
end Tx

set_option Elab.async false
set_option linter.all false
set_option maxRecDepth 100000
set_option maxHeartbeats 1000000
namespace Tx
open PySem PySem.Spec PyProof.Rows L2 TL RZ
theorem cut_twice {l : List Nat} {s : Nat} (h : s ≤ l.length) : cut (l ++ l) s l.length = seg l s l.length := by
  refine List.ext_getElem? fun k => ?_
  unfold cut
  rw [List.getElem?_take, List.getElem?_drop, seg_get]
  by_cases c : k < l.length
  · rw [if_pos c, if_pos c]
    by_cases d : s + k < l.length
    · rw [List.getElem?_append_left d, pr_get d]
    · rw [List.getElem?_append_right (by omega), pr_get (l := l) (i := s + k - l.length) (by omega)]
      refine congrArg some (pr_cong l ?_)
      exact (Nat.mod_eq_sub_mod (by omega)).symm
  · rw [if_neg c, if_neg c]
theorem twice_at {z : Str} {x : Nat} {a : Int} (e : a = (x : Int)) (h : x < 2 * z.length) : atI (z ++ z).cps.toList a = some (pr (tl z) x) := by
  have e1 : (z ++ z).cps.toList = tl z ++ tl z := tl_append z z
  have hl : (tl z).length = z.length := (len_tl z).symm
  rw [e1, e]
  refine atI_pos (by omega) ?_
  rw [Int.toNat_natCast]
  by_cases d : x < (tl z).length
  · rw [List.getElem?_append_left d, pr_get d]
  · rw [List.getElem?_append_right (by omega), pr_get (l := tl z) (i := x - (tl z).length) (by omega)]
    exact congrArg some (pr_cong _ (Nat.mod_eq_sub_mod (by omega)).symm)
theorem ring_at {z : Str} {x : Nat} {a : Int} (e : a = (x : Int)) (h : x < z.length) : atI z.cps.toList a = some (pr (tl z) x) := by
  rw [e]
  refine atI_pos (by omega) ?_
  rw [Int.toNat_natCast]
  exact pr_get (l := tl z) (by rw [← len_tl]; exact h)
theorem one_ne {c d : Nat} : decide (V.str ⟨#[c]⟩ = V.str ⟨#[d]⟩) = decide (c = d) := by
  by_cases h : c = d
  · subst h; rw [decide_eq_true rfl, decide_eq_true rfl]
  · rw [decide_eq_false h, decide_eq_false fun e => h ?_]
    have := congrArg tl (V.str.inj e)
    rw [tl_one, tl_one] at this
    exact List.head_eq_of_cons_eq this
theorem one_lt {c d : Nat} : decide ((⟨#[c]⟩ : Str).cps.toList < (⟨#[d]⟩ : Str).cps.toList) = decide (c < d) := by
  have : ([c] < [d]) ↔ c < d := by simp [List.cons_lt_cons_iff]
  exact decide_eq_decide.mpr this
theorem Dn.mono {P : Program} {w : World} {K : PySem.W.Frag} {mg : Str → Option Value} {base : Heap} {j k : Nat} {x : Str} {st : Stmt} {ps : List Str} {sp : Sp} (D : Dn P w K mg base j x st ps sp) (h : j ≤ k) : Dn P w K mg base k x st ps sp := by
  obtain ⟨f, fd, hm, F, G⟩ := D.ex
  exact ⟨⟨f, fd, hm, F, G.mono h⟩, D.plain⟩
theorem Dn.or {P : Program} {w : World} {K : PySem.W.Frag} {mg : Str → Option Value} {base : Heap} {k : Nat} {x : Str} {st : Stmt} {ps : List Str} {sp sp' : Sp} (D : Dn P w K mg base k x st ps sp) (D' : Dn P w K mg base k x st ps sp') :
    Dn P w K mg base k x st ps (fun vs H Q E => sp vs H Q E ∨ sp' vs H Q E) := by
  obtain ⟨f, fd, hm, F, G⟩ := D.ex
  obtain ⟨f', fd', hm', F', G'⟩ := D'.ex
  rw [hm] at hm'
  cases hm'
  have e : fd = fd' := by
    obtain ⟨_, _, _, _, _, _, _, _, _, _, l, _⟩ := F.ex
    obtain ⟨_, _, _, _, _, _, _, _, _, _, l', _⟩ := F'.ex
    rw [l] at l'
    injection l' with e
    injection e with e1 e2 e3 e4
    injection e3
  subst e
  exact ⟨⟨f, fd, hm, F, ⟨fun vs H Q E h => h.elim (G.len vs H Q E) (G'.len vs H Q E), fun A outer s H args us vs Q E r v b z h => h.elim (G.run A outer s H args us vs Q E r v b z) (G'.run A outer s H args us vs Q E r v b z)⟩⟩, D.plain⟩
section
variable {P : Program} {w : World} {K : PySem.W.Frag} {mg : Str → Option Value} {base : Heap}
end
end Tx

set_option Elab.async false
set_option linter.all false
set_option maxRecDepth 100000
set_option maxHeartbeats 1000000
namespace Tx
open PySem PySem.Spec PyProof.Rows L2 TL RZ
theorem eqvAll_ints0 (ns : List Int) : PyData.eqv (.list (ns.map PyData.int)) (.list []) = decide (ns = []) := by
  cases ns with
  | nil => rfl
  | cons n ns => simp [PyData.eqv, PyData.eqvAll]
theorem lay_ints : ∀ ns : List Int, PyData.canLayAll0 (ns.map PyData.int) = true ∧ PyData.depthAll (ns.map PyData.int) = 0
  | [] => ⟨rfl, rfl⟩
  | n :: ns => by
    have ih := lay_ints ns
    simp only [List.map_cons, PyData.canLayAll0, PyData.depthAll, PyData.canLay0, PyData.depth, ih.1, ih.2]
    simp
theorem shaped_ints (ns : List Int) : SeqAt.shaped (.list (ns.map PyData.int)) = true := by
  unfold SeqAt.shaped
  simp only [PyData.canLay0, PyData.depth, (lay_ints ns).1, (lay_ints ns).2]
  decide
theorem dp_ints {K : PySem.W.Frag} {H : Hp} : ∀ ns : List Int, DpAll K H (ns.map V.int) (ns.map PyData.int)
  | [] => .nil
  | n :: ns => .cons (.int n) (dp_ints ns)
theorem cutS_from (z : Str) (p : Nat) (h : p ≤ z.length) : cutS z (some (p : Int)) none = mkS ((tl z).drop p) := by
  refine ext_tl ?_
  unfold cutS
  rw [HT.sIx_nat, HT.sIx_none, Nat.min_eq_left h]
  show ((tl z).drop p).take (z.length - p) = _
  rw [List.take_of_length_le (by rw [List.length_drop, ← len_tl]; exact Nat.le_refl _)]
  rfl
theorem rot_str (z : Str) (p : Nat) : mkS ((tl z).drop p) ++ mkS ((tl z).take p) = mkS (rot (tl z) p) := by
  refine ext_tl ?_
  rw [tl_append]; rfl
theorem seg_of {l : List Nat} {x : Str} {a : Nat} (h : ∀ k, k < x.length → (tl x)[k]? = some (pr l (a + k))) : tl x = seg l a (tl x).length := by
  refine List.ext_getElem? fun k => ?_
  rw [seg_get, ← len_tl]
  by_cases c : k < x.length
  · rw [if_pos c, h k c]
  · rw [if_neg c, List.getElem?_eq_none (by rw [← len_tl]; omega)]
theorem of_seg {l : List Nat} {x : Str} {a : Nat} (h : tl x = seg l a (tl x).length) (k : Nat) (hk : k < x.length) : (tl x)[k]? = some (pr l (a + k)) := by
  rw [h, seg_get, if_pos (by rw [← len_tl]; exact hk)]
section
variable {P : Program} {w : World} {K : PySem.W.Frag} {mg : Str → Option Value} {base : Heap}
theorem least_of {z m : Str} {zs : List Str} (h1 : 1 ≤ z.length) (ez : zs = (List.range z.length).map fun p => mkS (rot (tl z) p)) (hm : m ∈ zs) (le : ∀ y ∈ zs, tl m ≤ tl y) : Least (tl z) (tl m) := by
  have hl : 0 < (tl z).length := by rw [← len_tl]; omega
  subst ez
  obtain ⟨p, hp, rfl⟩ := List.mem_map.mp hm
  have hp := List.mem_range.mp hp
  refine ⟨⟨p, rot_seg (by rw [← len_tl]; omega)⟩, fun r => ?_⟩
  have lt := Nat.mod_lt r hl
  have := le (mkS (rot (tl z) (r % (tl z).length))) (List.mem_map.mpr ⟨_, List.mem_range.mpr (by rw [len_tl]; exact lt), rfl⟩)
  have e1 : tl (mkS (rot (tl z) (r % (tl z).length))) = seg (tl z) (r % (tl z).length) (tl z).length := rot_seg (Nat.le_of_lt lt)
  rw [e1, seg_mod] at this
  exact this
end
end Tx

set_option Elab.async false
set_option linter.all false
set_option maxRecDepth 100000
set_option maxHeartbeats 1000000
namespace Tx
open PySem PySem.Spec PyProof.Rows L2 TL RZ
theorem if_step {S : Bool → Hp → Prop} {P : V → Hp → Prop} {t : TT} {ta tb : TE} {σ : L2.St} {H : Hp} {Q : VK} (ht : ∀ R : Bool → Hp → Prop, (∀ b H1, S b H1 → R b H1) → t σ H R) (ha : ∀ H1, S true H1 → ∀ Q : VK, (∀ v H', P v H' → Q v H') → ta σ H1 Q)
    (hb : ∀ H1, S false H1 → ∀ Q : VK, (∀ v H', P v H' → Q v H') → tb σ H1 Q) (q : ∀ v H', P v H' → Q v H') : tIf t ta tb σ H Q := by
  refine ht _ fun b H1 s => ?_
  cases b with
  | true => exact iteT (ha H1 s Q q)
  | false => exact iteF (hb H1 s Q q)
theorem seq_if {c : TT} {ta tb rest : TS} {D : Ends} {σ : L2.St} {H : Hp} (R : L2.St → Hp → Prop) (hr : ∀ σ' H', R σ' H' → rest D σ' H') (h : (∀ σ' H', R σ' H' → rest D σ' H') → tIfS c ta tb { D with nx := rest D } σ H) : tSeq (tIfS c ta tb) rest D σ H := h hr
theorem rgV0 (n : Nat) : rgV 0 (n : Int) = (List.range n).map fun k : Nat => V.int (k : Int) := by
  unfold rgV
  rw [show ((n : Int) - 0).toNat = n by omega]
  refine List.map_congr_left fun k _ => ?_
  rw [show ((0 : Int) + ((k : Nat) : Int)) = (k : Int) by omega]
theorem Src.ne {H : Hp} {p a : Addr} {n : Nat} {xs : List V} (s : Src H p n) (e : H a = some (.tup xs)) : a ≠ p := fun h => by
  subst h
  obtain ⟨_, _, _, e', _⟩ := s
  rw [e'] at e
  cases e
theorem ne_lt {H : Hp} {a F : Addr} {xs ys : List V} (e : H a = some (.tup xs)) (f : H F = some (.lst ys)) : a ≠ F := fun h => by
  subst h; rw [e] at f; cases f
/-- a turned text and how many times -/
def TurnAt (H : Hp) (a : Addr) (z : Str) : Prop := ∃ p t : Nat, H a = some (.tup [.str (mkS (rot (tl z) p)), .int t]) ∧ p ≤ z.length ∧ 1 ≤ t ∧ t ≤ 5
theorem TurnAt.but {H H' : Hp} {p a : Addr} {z : Str} {n : Nat} (k : TurnAt H a z) (bt : But p H H') (sr : Src H p n) : TurnAt H' a z := by
  obtain ⟨x, t, e, r⟩ := k
  exact ⟨x, t, bt.kept e (sr.ne e), r⟩
theorem TurnAt.set {H : Hp} {a F : Addr} {z : Str} {ys : List V} {o : HO} (k : TurnAt H a z) (f : H F = some (.lst ys)) : TurnAt (upd H F o) a z := by
  obtain ⟨x, t, e, r⟩ := k
  exact ⟨x, t, keep_ne' e (ne_lt e f), r⟩
where keep_ne' {H : Hp} {a b : Addr} {o u : HO} (e : H a = some o) (n : a ≠ b) : (upd H b u) a = some o := by rw [upd_ne n]; exact e
theorem TurnAt.same {H H' : Hp} {a : Addr} {z : Str} (k : TurnAt H a z) (s : Same H H') : TurnAt H' a z := let ⟨x, t, e, r⟩ := k; ⟨x, t, s _ _ e, r⟩
def TurnsAt (H : Hp) (q : Addr) (z : Str) : Prop := ∃ as : List Addr, H q = some (.lst (as.map V.ref)) ∧ as.length ≤ 20 ∧ ∀ a ∈ as, TurnAt H a z
theorem if_anyH {P : V → Hp → Prop} {t : TT} {ta tb : TE} {σ : L2.St} {H : Hp} {Q : VK} (b : Bool) (ht : ∀ R : Bool → Hp → Prop, R b H → t σ H R) (ha : b = true → ∀ Q : VK, (∀ v H', P v H' → Q v H') → ta σ H Q)
    (hb : b = false → ∀ Q : VK, (∀ v H', P v H' → Q v H') → tb σ H Q) (q : ∀ v H', P v H' → Q v H') : tIf t ta tb σ H Q := by
  refine ht _ ?_
  cases b with
  | true => exact iteT (ha rfl Q q)
  | false => exact iteF (hb rfl Q q)
theorem lt_line {n : Nat} (h : n ≤ 100000) : n < sizeLine := Nat.lt_of_le_of_lt h (by decide)
theorem keep_ne {H : Hp} {a b : Addr} {o u : HO} (e : H a = some o) (n : a ≠ b) : (upd H b u) a = some o := by rw [upd_ne n]; exact e
theorem Src.set {H : Hp} {p F : Addr} {n : Nat} {o : HO} (s : Src H p n) (h : F ≠ p) : Src (upd H F o) p n := by
  obtain ⟨a, b, c, e, r⟩ := s
  exact ⟨a, b, c, by rw [upd_ne h.symm]; exact e, r⟩
section
variable {P : Program} {w : World} {K : PySem.W.Frag} {mg : Str → Option Value} {base : Heap}
def Simp (v : V) : Prop := (∃ z, v = .str z) ∨ (∃ b, v = .bl b) ∨ v = .non
theorem dn_void {x : Str} {st : Stmt} {ps : List Str} (T : Top K mg x st) (pl : PlainB x st ps) : Dn P w K mg base 1 x st ps fun _ _ _ _ => False := by
  obtain ⟨f, fd, hm, F⟩ := T
  exact ⟨⟨f, fd, hm, F, fun _ _ _ _ h => h.elim, fun _ _ _ _ _ _ _ _ _ _ _ _ _ h => h.elim⟩, pl⟩
end
end Tx

set_option Elab.async false
set_option linter.all false
set_option maxRecDepth 100000
set_option maxHeartbeats 1000000
namespace Tx
open PySem PySem.Spec PyProof.Rows L2 TL RZ
theorem turns_len (n : Nat) (l : List Nat) : (turns n l).length = l.length := by unfold turns; rw [List.length_map, List.length_range]
theorem low_drop {z : Str} (h : Low z) (n : Nat) : Low (mkS ((tl z).drop n)) := low_mk h fun _ hc => List.mem_of_mem_drop hc
theorem cutS_neg (z : Str) (h : 1 ≤ z.length) : cutS z none (some (-1)) = mkS ((tl z).take (z.length - 1)) := by
  refine ext_tl ?_
  unfold cutS
  rw [HT.sIx_none]
  show ((tl z).drop 0).take (HT.sIx z.length z.length (some (-1)) - 0) = _
  have e : HT.sIx z.length z.length (some (-1)) = z.length - 1 := by
    show (if (-1 : Int) < 0 then ((-1 : Int) + (z.length : Int)).toNat else min (-1 : Int).toNat z.length) = _
    rw [if_pos (by decide)]; omega
  rw [e]; rfl
theorem cutV_to (xs : List V) (p : Nat) : cutV xs none (some (p : Int)) = xs.take p := by
  unfold cutV
  rw [HT.sIx_nat, HT.sIx_none]
  show (xs.drop 0).take (min p xs.length - 0) = xs.take p
  rw [List.drop_zero, Nat.sub_zero]
  by_cases h : p ≤ xs.length
  · rw [Nat.min_eq_left h]
  · rw [Nat.min_eq_right (by omega), List.take_of_length_le (Nat.le_refl _), List.take_of_length_le (by omega)]
theorem in_dec (x : Str) (ws : List Str) : inV (.str x) (ws.map V.str) = decide (x ∈ ws) := by
  unfold inV
  rw [List.any_map]
  by_cases c : x ∈ ws
  · rw [decide_eq_true c, List.any_eq_true]
    exact ⟨x, c, by simp [eqV]⟩
  · rw [decide_eq_false c, List.any_eq_false]
    intro y hy h
    have h : eqV (V.str y) (V.str x) = true := h
    have e : y = x := by simpa [eqV] using h
    exact c (e ▸ hy)
theorem flat_strs (ws : List Str) : (ws.map V.str).all flatV = true := by
  rw [List.all_eq_true]
  intro v hv
  obtain ⟨x, _, rfl⟩ := List.mem_map.mp hv
  rfl
theorem str_ne {x y : Str} : decide (V.str x = V.str y) = decide (x = y) := by
  by_cases h : x = y
  · subst h; rw [decide_eq_true rfl, decide_eq_true rfl]
  · rw [decide_eq_false h, decide_eq_false fun e => h (V.str.inj e)]
/-- windows of draws -/
def Wins (k : Nat) (ws : List Str) : Prop := 1 ≤ ws.length ∧ ws.length ≤ 60 ∧ ∀ z ∈ ws, Low z ∧ z.length = k
theorem Up.wins {k most : Nat} {ws ys : List Str} (u : Up ys ws) (h : Wins k ws) (k2 : 2 ≤ k) (k6 : k ≤ 6) (m1 : 1 ≤ most) : Book k (ys.take most) := by
  obtain ⟨w1, w2, w3⟩ := h
  have sub : (ys.take most).Sublist ys := List.take_sublist ..
  have yl : ys.length ≤ 60 := Nat.le_trans u.2.2.2 w2
  have y1 : 1 ≤ ys.length := by
    cases ws with
    | nil => exact absurd w1 (by decide)
    | cons v ws =>
      have := (u.2.2.1 v).mpr (List.mem_cons_self ..)
      exact List.length_pos_of_mem this
  refine ⟨k2, k6, by rw [List.length_take]; omega, by rw [List.length_take]; omega, (up_asc u).sublist sub, fun z hz => w3 z ((u.2.2.1 z).mp (sub.subset hz))⟩
theorem mem_list {xs : List Str} {i : Nat} {y : V} (h : (xs.map V.str)[i]? = some y) : ∃ x ∈ xs, y = V.str x := by
  obtain ⟨x, h1, h2⟩ := List.mem_map.mp (List.mem_of_getElem? h)
  exact ⟨x, h1, h2.symm⟩
theorem big {m : Nat} (h : m ≤ 3000) : m ≤ sizeLine := Nat.le_trans h (by decide)
section
variable {P : Program} {w : World} {K : PySem.W.Frag} {mg : Str → Option Value} {base : Heap}
def Gw (H0 H' : Hp) (p : Addr) (most k kind : Nat) (L : Str) (bd n : Nat) (σ' : L2.St) : Prop := ∃ (F : Addr) (ws : List Str) (o6 o7 o8 o9 : Option V), σ' = [some (.ref p), some (.int most), some (.int k), some (.str L), some (.int kind), some (.ref F), o6, o7, o8, o9, none, none, none] ∧
  H0 F = none ∧ H' F = some (.lst (ws.map V.str)) ∧ Wins k ws ∧ ws.length ≤ bd ∧ Src H' p n ∧ But p H0 H'
end
end Tx

set_option Elab.async false
set_option linter.all false
set_option maxRecDepth 100000
set_option maxHeartbeats 1000000
namespace Tx
open PySem PySem.Spec PyProof.Rows L2 TL RZ
theorem ini_eq {v : Str} (h : 1 ≤ v.length) : cutS v none (some (-1)) = iniS v := cutS_neg v h
theorem tai_eq {v : Str} (h : 1 ≤ v.length) : cutS v (some (1 : Int)) none = taiS v := cutS_from v 1 h
/-- what is found from s on -/
structure Fnd (ws : List Str) (s : Str) (xs : List Str) : Prop where
  nd : xs.Nodup
  me : s ∈ xs
  way : ∀ x ∈ xs, Path ws s x
  pl : ∀ x ∈ xs, x = s ∨ x ∈ ws.map taiS
  few : xs.length + togo ws xs ≤ 1 + ws.length
theorem Fnd.start (ws : List Str) (s : Str) : Fnd ws s [s] := by
  refine ⟨List.nodup_cons.mpr ⟨by simp, List.nodup_nil⟩, List.mem_singleton.mpr rfl, fun x hx => ?_, fun x hx => .inl (List.mem_singleton.mp hx), ?_⟩
  · rw [List.mem_singleton.mp hx]; exact .here s
  · have : togo ws [s] ≤ ws.length := List.countP_le_length
    show 1 + _ ≤ _
    omega
theorem mem_newT {ws xs : List Str} {x : Str} (h : x ∈ newT ws xs) : ∃ v ∈ ws, iniS v ∈ xs ∧ taiS v ∉ xs ∧ x = taiS v := by
  unfold newT at h
  obtain ⟨v, hv, rfl⟩ := List.mem_map.mp h
  obtain ⟨h1, h2⟩ := List.mem_filter.mp hv
  rw [Bool.and_eq_true] at h2
  exact ⟨v, h1, of_decide_eq_true h2.1, of_decide_eq_true h2.2, rfl⟩
theorem Fnd.more {ws : List Str} {s : Str} {xs ys : List Str} (f : Fnd ws s xs) (u : Up ys (newT ws xs)) : Fnd ws s (xs ++ ys) := by
  refine ⟨List.nodup_append.mpr ⟨f.nd, u.2.1, fun a ha b hb e => ?_⟩, List.mem_append_left _ f.me, fun x hx => ?_, fun x hx => ?_, ?_⟩
  · subst e
    obtain ⟨v, _, _, h, e⟩ := mem_newT ((u.2.2.1 a).mp hb)
    exact h (e ▸ ha)
  · rcases List.mem_append.mp hx with hx | hx
    · exact f.way x hx
    · obtain ⟨v, hv, h, _, rfl⟩ := mem_newT ((u.2.2.1 x).mp hx)
      exact .step (f.way _ h) hv
  · rcases List.mem_append.mp hx with hx | hx
    · exact f.pl x hx
    · obtain ⟨v, hv, _, _, rfl⟩ := mem_newT ((u.2.2.1 x).mp hx)
      exact .inr (List.mem_map.mpr ⟨v, hv, rfl⟩)
  · have h1 := togo_le u.2.2.1
    have h2 := u.2.2.2
    have h3 := f.few
    rw [List.length_append]
    omega
theorem newT_nil {ws xs : List Str} (h : newT ws xs = []) : ∀ v ∈ ws, iniS v ∈ xs → taiS v ∈ xs := fun v hv hi => by
  refine Classical.byContradiction fun no => ?_
  have : taiS v ∈ newT ws xs := List.mem_map.mpr ⟨v, List.mem_filter.mpr ⟨hv, by rw [Bool.and_eq_true]; exact ⟨decide_eq_true hi, decide_eq_true no⟩⟩, rfl⟩
  rw [h] at this
  cases this
section
variable {P : Program} {w : World} {K : PySem.W.Frag} {mg : Str → Option Value} {base : Heap}
theorem low_ini {v : Str} (h : Low v) : Low (iniS v) := low_take h _
theorem low_tai {v : Str} (h : Low v) : Low (taiS v) := low_drop h 1
end
end Tx

set_option Elab.async false
set_option linter.all false
set_option maxRecDepth 100000
set_option maxHeartbeats 1000000
namespace Tx
open PySem PySem.Spec PyProof.Rows L2 TL RZ
theorem any_keys {kvs : List (Key × V)} {ks : List Str} (e : kvs.map (·.1) = ks.map Sum.inr) (x : Str) : (kvs.any fun kv => decide (kv.1 = Sum.inr x)) = decide (x ∈ ks) := by
  have e1 : (kvs.any fun kv => decide (kv.1 = Sum.inr x)) = (kvs.map (·.1)).any fun k => decide (k = Sum.inr x) := by rw [List.any_map]; rfl
  rw [e1, e, List.any_map]
  by_cases c : x ∈ ks
  · rw [decide_eq_true c, List.any_eq_true]
    exact ⟨x, c, decide_eq_true rfl⟩
  · rw [decide_eq_false c, List.any_eq_false]
    intro y hy h
    have h : (Sum.inr y : Key) = Sum.inr x := of_decide_eq_true h
    exact c (Sum.inr.inj h ▸ hy)
theorem keys_put {kvs : List (Key × V)} {ks : List Str} (e : kvs.map (·.1) = ks.map Sum.inr) (x : Str) (v : V) : (putK kvs (Sum.inr x : Key) v).map (·.1) = (if x ∈ ks then ks else ks ++ [x]).map Sum.inr := by
  unfold putK
  rw [any_keys e]
  by_cases c : x ∈ ks
  · rw [if_pos c, if_pos (decide_eq_true c), List.map_map, ← e]
    refine List.map_congr_left fun kv _ => ?_
    show (if kv.1 = Sum.inr x then ((kv.1, v) : Key × V) else kv).1 = kv.1
    split <;> rfl
  · rw [if_neg c, if_neg (by rw [decide_eq_false c]; exact Bool.false_ne_true), List.map_append, List.map_append, e]; rfl
theorem val_some {kvs : List (Key × V)} {ks : List Str} (e : kvs.map (·.1) = ks.map Sum.inr) (x : Str) : (valV kvs (Sum.inr x : Key)).isSome = decide (x ∈ ks) := by
  rw [← any_keys e x]
  unfold valV
  rw [Option.isSome_map, Bool.eq_iff_iff, List.find?_isSome, List.any_eq_true]
/-- a dict of texts by texts -/
structure DT (G : Str → Str → Prop) (kvs : List (Key × V)) (ks : List Str) : Prop where
  keys : kvs.map (·.1) = ks.map Sum.inr
  each : ∀ q ∈ kvs, ∃ x y, q = (Sum.inr x, V.str y) ∧ G x y
theorem mem_put {kvs : List (Key × V)} {k : Key} {v : V} {q : Key × V} (h : q ∈ putK kvs k v) : q ∈ kvs ∨ q = (k, v) := by
  unfold putK at h
  split at h
  · obtain ⟨a, ha, e⟩ := List.mem_map.mp h
    split at e
    · rename_i c
      exact .inr (by rw [← e, ← of_decide_eq_true (p := a.1 = k) (by simpa using c)])
    · exact .inl (e ▸ ha)
  · rcases List.mem_append.mp h with h | h
    · exact .inl h
    · exact .inr (List.mem_singleton.mp h)
theorem DT.nil (G : Str → Str → Prop) : DT G [] [] := ⟨rfl, fun _ h => by cases h⟩
theorem DT.put {G : Str → Str → Prop} {kvs : List (Key × V)} {ks : List Str} (d : DT G kvs ks) {x y : Str} (g : G x y) : DT G (putK kvs (Sum.inr x : Key) (V.str y)) (if x ∈ ks then ks else ks ++ [x]) :=
  ⟨keys_put d.keys x _, fun q h => by
    rcases mem_put h with h | h
    · exact d.each q h
    · exact ⟨x, y, h, g⟩⟩
theorem DT.val {G : Str → Str → Prop} {kvs : List (Key × V)} {ks : List Str} (d : DT G kvs ks) {x : Str} {v : V} (h : valV kvs (Sum.inr x : Key) = some v) : ∃ y, v = V.str y ∧ G x y := by
  unfold valV at h
  obtain ⟨q, hq, e⟩ := Option.map_eq_some_iff.mp h
  have h1 := List.mem_of_find?_eq_some hq
  have h2 : q.1 = Sum.inr x := by simpa using List.find?_some hq
  obtain ⟨x', y, e2, g⟩ := d.each q h1
  rw [e2] at h2 e
  have : x' = x := Sum.inr.inj h2
  subst this
  exact ⟨y, e.symm, g⟩
theorem DT.there {G : Str → Str → Prop} {kvs : List (Key × V)} {ks : List Str} (d : DT G kvs ks) {x : Str} (h : x ∈ ks) : ∃ y, valV kvs (Sum.inr x : Key) = some (V.str y) ∧ G x y := by
  have := val_some d.keys x
  rw [decide_eq_true h] at this
  obtain ⟨v, hv⟩ := Option.isSome_iff_exists.mp this
  obtain ⟨y, rfl, g⟩ := d.val hv
  exact ⟨y, hv, g⟩
theorem DT.imp {G G' : Str → Str → Prop} {kvs : List (Key × V)} {ks : List Str} (d : DT G kvs ks) (h : ∀ x y, G x y → G' x y) : DT G' kvs ks :=
  ⟨d.keys, fun q hq => let ⟨x, y, e, g⟩ := d.each q hq; ⟨x, y, e, h x y g⟩⟩
theorem DT.len {G : Str → Str → Prop} {kvs : List (Key × V)} {ks : List Str} (d : DT G kvs ks) : kvs.length = ks.length := by
  have := congrArg List.length d.keys
  rwa [List.length_map, List.length_map] at this
theorem mem_ite {x y : Str} {ks : List Str} : y ∈ (if x ∈ ks then ks else ks ++ [x]) ↔ y ∈ ks ∨ y = x := by
  by_cases c : x ∈ ks
  · rw [if_pos c]
    exact ⟨.inl, fun h => h.elim id fun h => by rw [h]; exact c⟩
  · rw [if_neg c, List.mem_append, List.mem_singleton]
theorem nd_ite {x : Str} {ks : List Str} (h : ks.Nodup) : (if x ∈ ks then ks else ks ++ [x]).Nodup := by
  by_cases c : x ∈ ks
  · rw [if_pos c]; exact h
  · rw [if_neg c]
    exact List.nodup_append.mpr ⟨h, List.nodup_cons.mpr ⟨by simp, List.nodup_nil⟩, fun a ha b hb e => c (by rw [← List.mem_singleton.mp hb, ← e]; exact ha)⟩
/-- a piece that ends with the window x, of at most n steps more -/
def Way (k : Nat) (ws : List Str) (n : Nat) (x y : Str) : Prop := x ∈ ws ∧ Low y ∧ k ≤ y.length ∧ y.length ≤ k + n ∧ (tl y).drop (y.length - k) = tl x
def left (ws ks : List Str) : Nat := ws.countP fun v => decide (v ∉ ks)
theorem left_le (ws ks : List Str) : left ws ks ≤ ws.length := List.countP_le_length
theorem left_less {ws ks ks' : List Str} (sub : ∀ x ∈ ks, x ∈ ks') {v : Str} (hv : v ∈ ws) (n : v ∉ ks) (h : v ∈ ks') : left ws ks' + 1 ≤ left ws ks := by
  have k := count_two (p := fun x => decide (x ∉ ks')) (q := fun x => decide (x = v)) (r := fun x => decide (x ∉ ks)) (fun x hx => decide_eq_true fun c => of_decide_eq_true hx (sub x c)) (fun x hx => by rw [of_decide_eq_true hx]; exact decide_eq_true n) ws
    (fun x _ h1 h2 => of_decide_eq_true h1 (by rw [of_decide_eq_true h2]; exact h))
  have : 1 ≤ ws.countP fun x => decide (x = v) := List.countP_pos_iff.mpr ⟨v, hv, decide_eq_true rfl⟩
  unfold left
  omega
/-- what is known: closed but for the last layer -/
structure Known (ws : List Str) (one : Str) (ks ls : List Str) : Prop where
  me : one ∈ ks
  sub : ∀ x ∈ ls, x ∈ ks
  cl : ∀ u ∈ ks, u ∈ ls ∨ ∀ v ∈ ws, iniS v = taiS u → v ∈ ks
  nd : ks.Nodup
  inn : ∀ x ∈ ks, x ∈ ws
theorem Known.done {ws : List Str} {one other : Str} {ks : List Str} (h : Known ws one ks []) (j : Joined ws) (ho : one ∈ ws) (hr : other ∈ ws) : other ∈ ks := by
  have cl : ∀ u ∈ ks, ∀ v ∈ ws, iniS v = taiS u → v ∈ ks := fun u hu => (h.cl u hu).elim (fun z => by cases z) id
  have := (j (taiS one) (tai_place ho) (iniS other) (ini_place hr)).closed (S := fun p => ∀ v ∈ ws, iniS v = p → v ∈ ks) (cl one h.me) fun v hv s => cl v (s v hv rfl)
  exact this other hr rfl
theorem Way.more {k n : Nat} {ws : List Str} {u yu v : Str} {c : Nat} (hk : 2 ≤ k) (g : Way k ws n u yu) (hv : v ∈ ws) (lv : Low v) (vl : v.length = k) (ul : u.length = k) (e : iniS v = taiS u) (hc : (tl v)[v.length - 1]? = some c) : Way k ws (n + 1) v (yu ++ ⟨#[c]⟩) := by
  obtain ⟨_, ly, y1, y2, ye⟩ := g
  have c1 : (⟨#[c]⟩ : Str).length = 1 := rfl
  have hcl : c ∈ tl v := List.mem_of_getElem? hc
  refine ⟨hv, low_app ly (low_one lv hcl), by rw [len_app]; omega, by rw [len_app, c1]; omega, ?_⟩
  rw [len_app, c1, tl_append, List.drop_append_of_le_length (by rw [← len_tl]; omega), show yu.length + 1 - k = yu.length - k + 1 by omega, ← List.drop_drop, ye]
  have e2 : (tl v).take (v.length - 1) = (tl u).drop 1 := congrArg tl e
  rw [← e2]
  show (tl v).take (v.length - 1) ++ [c] = tl v
  rw [show [c] = (tl v)[v.length - 1]?.toList by rw [hc]; rfl, ← List.take_add_one, show v.length - 1 + 1 = (tl v).length by rw [← len_tl]; omega, List.take_length]
theorem Way.mono {k n m : Nat} {ws : List Str} {x y : Str} (g : Way k ws n x y) (h : n ≤ m) : Way k ws m x y := ⟨g.1, g.2.1, g.2.2.1, Nat.le_trans g.2.2.2.1 (by omega), g.2.2.2.2⟩
theorem left_mono {ws ks ks' : List Str} (sub : ∀ x ∈ ks, x ∈ ks') : left ws ks' ≤ left ws ks := List.countP_mono_left fun x _ h => decide_eq_true fun c => of_decide_eq_true h (sub x c)
theorem for_keys {d : Addr} {o : Obj} {kvs : List (Key × V)} {g : TG} {tb : TS} {D : Ends} {σ : L2.St} {H : Hp} (Pv : Nat → L2.St → Hp → Prop) (h0 : Pv 0 σ H) (hl : ∀ i σ H, Pv i σ H → H d = some (.frz o (.dK kvs)))
    (hs : ∀ i k v σ H, kvs[i]? = some (k, v) → Pv i σ H → g (kV k) σ H fun σ2 H2 => tb { D with nx := Pv (i + 1), ct := Pv (i + 1), bk := D.nx } σ2 H2) (hd : ∀ σ H, Pv kvs.length σ H → D.nx σ H) :
    ∃ W : Nat → Nat → L2.St → Hp → Prop, (∃ m, W 0 m σ H) ∧ ∀ i m σ H, W i m σ H →
      ((Itk d o kvs).stop i H ∧ D.nx σ H) ∨ ((Itk d o kvs).go i H ∧ ∃ N : L2.St → Hp → Prop, (∀ σ' H', N σ' H' → ∃ m', m' < m ∧ W (i + 1) m' σ' H') ∧ ∀ x H', (Itk d o kvs).yld i H x H' → g x σ H' fun σ2 H2 => tb { D with nx := N, ct := N, bk := D.nx } σ2 H2) := by
  refine ⟨fun i m σ H => m + i = kvs.length ∧ Pv i σ H, ⟨kvs.length, rfl, h0⟩, fun i m σ H ⟨e, p⟩ => ?_⟩
  have q := hl i σ H p
  by_cases lt : i < kvs.length
  · refine .inr ⟨⟨q, lt⟩, Pv (i + 1), fun σ' H' p' => ⟨m - 1, by omega, by omega, p'⟩, fun x H' y => ?_⟩
    obtain ⟨rfl, k, v, e2, rfl⟩ := y
    exact hs i k v _ _ e2 p
  · obtain rfl : i = kvs.length := by omega
    exact .inl ⟨⟨q, Nat.le_refl _⟩, hd _ _ p⟩
theorem for_start {K : PySem.W.Frag} {te : TE} {g : TG} {tb : TS} {D : Ends} {σ : L2.St} {H : Hp} (h : te σ H fun x H1 => ∃ a, x = .ref a ∧ (∃ xs, SqL K H1 a xs) ∧ ∃ W : Nat → Nat → L2.St → Hp → Prop, (∃ m, W 0 m σ H1) ∧ ∀ i m σ H, W i m σ H →
    ((Itl K a).stop i H ∧ D.nx σ H) ∨ ((Itl K a).go i H ∧ ∃ N : L2.St → Hp → Prop, (∀ σ' H', N σ' H' → ∃ m', m' < m ∧ W (i + 1) m' σ' H') ∧ ∀ x H', (Itl K a).yld i H x H' → g x σ H' fun σ2 H2 => tb { D with nx := N, ct := N, bk := D.nx } σ2 H2)) :
    tFor (iList K te) g tb D σ H := h
theorem atI_last {z : Str} {c : Nat} (h : (tl z)[z.length - 1]? = some c) (h1 : 1 ≤ z.length) : atI z.cps.toList (-1) = some c := by
  have hl : z.cps.toList.length = z.length := (len_tl z).symm
  unfold atI ixN
  rw [hl, if_neg (by decide), if_pos (by omega)]
  show z.cps.toList[((-1 : Int) + (z.length : Int)).toNat]? = some c
  rw [show ((-1 : Int) + (z.length : Int)).toNat = z.length - 1 by omega]
  exact h
theorem dget_of {H : Hp} {a : Addr} {kvs : List (Key × V)} {x : Str} {v : V} (e : Rd H a (.dK kvs)) (h : valV kvs (Sum.inr x : Key) = some v) : DGet H a (.str x) (some v) := by
  rw [← h]
  exact .inl ⟨kvs, Sum.inr x, e, rfl, rfl⟩
end Tx

set_option Elab.async false
set_option linter.all false
set_option maxRecDepth 100000
set_option maxHeartbeats 1000000
namespace Tx
open PySem PySem.Spec PyProof.Rows L2 TL RZ
theorem yes_of {X B : Hp → Prop} {σ : L2.St} {H : Hp} (h : X H) : tYes σ H (fun b H3 => if b = true then X H3 else B H3) := by
  show (if true = true then X H else B H)
  rw [if_pos rfl]; exact h
theorem dc_list {K : PySem.W.Frag} {a : Addr} {xs : List V} {g : TG} {tt : TT} {tk tv : TE} {vs : List Nat} {σ : L2.St} {H1 : Hp} {D : Addr} {Qd : Hp → Prop} (Pv : Nat → Hp → Prop) (h0 : Pv 0 (upd H1 D (.dK []))) (hl : ∀ i H, i ≤ xs.length → Pv i H → SqL K H a xs)
    (hs : ∀ i x H, xs[i]? = some x → Pv i H → g x (wipe σ vs) H fun σ2 H2 => wipe σ2 vs = wipe σ vs ∧ tt σ2 H2 fun b H3 =>
      if b = true then tk σ2 H3 fun y H4 => tv σ2 H4 fun z H5 => ∃ kvs k, y = kV k ∧ H5 D = some (.dK kvs) ∧ kvs.length < sizeLine ∧ Pv (i + 1) (upd H5 D (.dK (putK kvs k z))) else Pv (i + 1) H3) (hd : ∀ H, Pv xs.length H → Qd H) :
    ∃ W : Nat → Nat → Hp → Prop, (∃ m, W 0 m (upd H1 D (.dK []))) ∧ ∀ i m H, W i m H →
      ((Itl K a).stop i H ∧ Qd H) ∨ ((Itl K a).go i H ∧ ∃ Nx : Hp → Prop, (∀ H', Nx H' → ∃ m', m' < m ∧ W (i + 1) m' H') ∧ ∀ x H', (Itl K a).yld i H x H' → g x (wipe σ vs) H' fun σ2 H2 => wipe σ2 vs = wipe σ vs ∧ tt σ2 H2 fun b H3 =>
        if b = true then tk σ2 H3 fun y H4 => tv σ2 H4 fun z H5 => ∃ kvs k, y = kV k ∧ H5 D = some (.dK kvs) ∧ kvs.length < sizeLine ∧ Nx (upd H5 D (.dK (putK kvs k z))) else Nx H3) := by
  refine ⟨fun i m H => m = xs.length - i ∧ i ≤ xs.length ∧ Pv i H, ⟨xs.length, by simp, Nat.zero_le _, h0⟩, ?_⟩
  rintro i m H ⟨rfl, hi, p⟩
  have q := hl i H hi p
  by_cases hlt : i < xs.length
  · refine .inr ⟨⟨xs, xs[i], q, by simp [hlt]⟩, Pv (i + 1), fun H' p' => ⟨xs.length - (i + 1), by omega, rfl, hlt, p'⟩, fun x H' y => ?_⟩
    obtain ⟨e, y⟩ := y
    subst e
    exact hs i x _ (y xs q) p
  · have e : i = xs.length := by omega
    subst e
    exact .inl ⟨⟨xs, q, Nat.le_refl _⟩, hd H p⟩
/-- a dict by a function of its keys -/
def dkF (f : Str → V) (ys : List Str) : List (Key × V) := ys.map fun x => ((Sum.inr x : Key), f x)
theorem dkF_keys (f : Str → V) (ys : List Str) : (dkF f ys).map (·.1) = ys.map Sum.inr := by unfold dkF; rw [List.map_map]; rfl
theorem dkF_len (f : Str → V) (ys : List Str) : (dkF f ys).length = ys.length := List.length_map ..
theorem dkF_val (f : Str → V) {x : Str} : ∀ {ys : List Str}, x ∈ ys → valV (dkF f ys) (Sum.inr x : Key) = some (f x)
  | y :: ys, h => by
    by_cases e : y = x
    · subst e; exact valV_pos rfl
    · have : valV (dkF f (y :: ys)) (Sum.inr x : Key) = valV (dkF f ys) (Sum.inr x : Key) := valV_neg (fun h => e (Sum.inr.inj h))
      rw [this]
      exact dkF_val f ((List.mem_cons.mp h).resolve_left fun h => e h.symm)
theorem val_not {kvs : List (Key × V)} {ks : List Str} (e : kvs.map (·.1) = ks.map Sum.inr) {x : Str} (h : x ∉ ks) : valV kvs (Sum.inr x : Key) = none := by
  have := val_some e x
  rw [decide_eq_false h] at this
  exact Option.isSome_eq_false_iff.mp this |> Option.isNone_iff_eq_none.mp
theorem dkF_put {f f' : Str → V} {ys : List Str} {x : Str} {v : V} (h : x ∉ ys) (h1 : f' x = v) (h2 : ∀ z, z ≠ x → f' z = f z) : putK (dkF f ys) (Sum.inr x : Key) v = dkF f' (ys ++ [x]) := by
  rw [putK_new v (val_not (dkF_keys f ys) h)]
  unfold dkF
  rw [List.map_append]
  refine congr (congrArg _ (List.map_congr_left fun z hz => ?_)) ?_
  · have ne : z ≠ x := fun e => h (by rw [← e]; exact hz)
    rw [h2 z ne]
  · simp [h1]
/-- a dict of lists of texts -/
def DL (H : Hp) (d : Addr) (ns : List Str) (adj : Str → List Str) : Prop := ∃ f : Str → Addr, H d = some (.dK (dkF (fun x => .ref (f x)) ns)) ∧ ∀ x ∈ ns, H (f x) = some (.lst ((adj x).map V.str))
theorem DL.same {H H' : Hp} {d : Addr} {ns : List Str} {adj : Str → List Str} (h : DL H d ns adj) (s : Same H H') : DL H' d ns adj := let ⟨f, e, g⟩ := h; ⟨f, s _ _ e, fun x hx => s _ _ (g x hx)⟩
theorem take_mem {xs : List Str} {i : Nat} {x : Str} (h : xs[i]? = some x) : xs.take (i + 1) = xs.take i ++ [x] := by rw [List.take_add_one, h]; rfl
theorem not_before {xs : List Str} (nd : xs.Nodup) {i : Nat} {x : Str} (h : xs[i]? = some x) : x ∉ xs.take i := by
  intro hx
  obtain ⟨l1, l2⟩ := List.getElem?_eq_some_iff.mp h
  have : (xs.take (i + 1)).Nodup := nd.sublist (List.take_sublist ..)
  rw [take_mem h, List.nodup_append] at this
  exact this.2.2 x hx x (List.mem_singleton.mpr rfl) rfl
theorem ini_eq' {v : Str} (h : 1 ≤ v.length) : cutS v none (some (-1)) = iniS v := cutS_neg v h
theorem tai_eq' {v : Str} (h : 1 ≤ v.length) : cutS v (some (1 : Int)) none = taiS v := cutS_from v 1 h
def encE (p : Ent) : Key × V := (Sum.inr p.1, match p.2 with | none => .non | some u => .str u)
theorem encE_keys (fs : List Ent) : (fs.map encE).map (·.1) = (keysE fs).map Sum.inr := by unfold keysE; rw [List.map_map, List.map_map]; rfl
theorem encE_val : ∀ {fs : List Ent}, (keysE fs).Nodup → ∀ p ∈ fs, valV (fs.map encE) (Sum.inr p.1 : Key) = some (encE p).2
  | q :: fs, nd, p, hp => by
    obtain ⟨n1, n2⟩ := List.nodup_cons.mp nd
    rcases List.mem_cons.mp hp with rfl | hp
    · exact valV_pos rfl
    · have ne : ¬ (encE q).1 = (Sum.inr p.1 : Key) := fun e => n1 (by
        have : q.1 = p.1 := Sum.inr.inj e
        exact List.mem_map.mpr ⟨p, hp, this.symm⟩)
      have : valV ((q :: fs).map encE) (Sum.inr p.1 : Key) = valV (fs.map encE) (Sum.inr p.1 : Key) := valV_neg ne
      rw [this]
      exact encE_val n2 p hp
theorem encE_put {fs : List Ent} {u v : Str} (h : v ∉ keysE fs) : putK (fs.map encE) (Sum.inr v : Key) (.str u) = (addE fs (u, v)).map encE := by
  rw [putK_new _ (val_not (encE_keys fs) h)]
  unfold addE
  rw [if_neg h, List.map_append]; rfl
section
variable {P : Program} {w : World} {K : PySem.W.Frag} {mg : Str → Option Value} {base : Heap}
abbrev st_begun : Stmt := topS 7
theorem sc_begun : FnScope ["book", "window", "ends", "found", "place"] ["book"] (defScope st_begun) := ⟨rfl, rfl, rfl, by decide +kernel, rfl, by decide +kernel, by decide +kernel⟩
theorem pl_begun : PlainB "begun" st_begun ["book"] := fun _ _ _ _ _ _ us hl => match us, hl with | [_], _ => rfl
def spBegun : Sp := fun vs H Q _ => ∃ (b : Addr) (k : Nat) (ws : List Str), vs = [.ref b] ∧ BookAt H b k ws ∧ Book k ws ∧ ws.length ≤ 100 ∧ ∀ d ns H', H d = none → Same H H' → Up ns (placesL ws) → DL H' d ns (begW ws) → Q (.ref d) H'
theorem ok_begun (T : Top K mg "begun" st_begun) (B : Bt mg) : Dn P w K mg base 1 "begun" st_begun ["book"] spBegun := by
  refine dn_of T sc_begun pl_begun (fun vs H Q E h => ?_) fun f cdv A outer s H vs Q E hr h => ?_
  · obtain ⟨a, b, _, rfl, _⟩ := h; rfl
  · obtain ⟨b, k, ws, rfl, ⟨t, eb, et⟩, bk, wl, q⟩ := h
    have k2 := bk.n2
    have k6 := bk.n6
    refine ⟨_, (pss_cons (ps_set (i := 2) sc_begun.nd rfl (.inl rfl) (pe_op op_cat (pe_lc (own := [("window", 1)]) (g := gName 1) rfl sc_begun.nd (pi_tup (pe_ix (ixTK K rfl) (pv 0) pe_int (fun _ _ => rfl))) (blkOk_by (N := ["book", "window", "ends", "found", "place"]) (sc := defScope st_begun) (by decide +kernel)) (fun _ _ _ _ _ => (pg_name (i := 1) sc_begun.nd rfl (.inl rfl))) (fun _ _ _ _ _ => pts_nil) (fun _ _ _ _ _ => (pe_slice sl_str (pv 1) po_none (po_some (pe_un un_neg pe_int))))) (pe_lc (own := [("window", 1)]) (g := gName 1) rfl sc_begun.nd (pi_tup (pe_ix (ixTK K rfl) (pv 0) pe_int (fun _ _ => rfl))) (blkOk_by (N := ["book", "window", "ends", "found", "place"]) (sc := defScope st_begun) (by decide +kernel)) (fun _ _ _ _ _ => (pg_name (i := 1) sc_begun.nd rfl (.inl rfl))) (fun _ _ _ _ _ => pts_nil) (fun _ _ _ _ _ => (pe_slice sl_str (pv 1) (po_some pe_int) po_none)))))
      (pss_cons (ps_setDc (i := 3) (own := [("place", 4)]) (g := gName 4) rfl sc_begun.nd rfl rfl (sw_trueD rfl rfl rfl (by decide +kernel)) (pi_list (pe_callB (sortSetK w rfl rfl) (by rfl) B.sorted (by decide +kernel) (pa_cons (pe_callTy (setK K w rfl rfl rfl) (by rfl) B.set (by decide +kernel) (pa_cons (pv 2) pa_nil)) pa_nil))) (blkOk_by (N := ["book", "window", "ends", "found", "place"]) (sc := defScope st_begun) (by decide +kernel)) (fun _ _ _ _ _ => (pg_name (i := 4) sc_begun.nd rfl (.inl rfl))) (fun _ _ _ _ _ => pts_nil) (fun _ _ _ _ _ => (pv 4)) (fun _ _ _ _ _ => (pe_lst pa_nil)))
      (pss_cons (ps_for PassesOwn.never rfl (pi_tup (pe_ix (ixTK K rfl) (pv 0) pe_int (fun _ _ => rfl))) (pg_name (i := 1) sc_begun.nd rfl (.inl rfl)) (pss_one (ps_expr (pe_bm PySem.F.plainAttrs_list PySem.F.slot_list_append PySem.F.type_list_append mt_append (pe_dget (hu_of hr) (pv 3) (pe_slice sl_str (pv 1) po_none (po_some (pe_un un_neg pe_int))) (fun _ _ => rfl)) (pa_cons (pv 1) pa_nil)))))
      (pss_one (ps_ret (pv 3)))))), ?_⟩
    refine ⟨_, rfl, b, _, _, _, rfl, rfl, .inl (.inl eb), rfl, t, rfl, ⟨_, .inl (.inl et)⟩, fun D hD => ?_⟩
    refine lc_tup (a := t) (xs := ws.map V.str) (fun i H' => Same H H' ∧ H' D = some (.lst (((ws.take i).map iniS).map V.str))) ⟨same_upd hD, upd_same⟩ (fun i H' _ h => .inl (.inl (h.1 _ _ et))) (fun i y H' hi ⟨sm, e⟩ => ?_) fun H1 ⟨s1, e1⟩ => ?_
    · obtain ⟨v, hv, rfl⟩ := str_at hi
      obtain ⟨lo, vl⟩ := bk.each v (List.mem_of_getElem? hv)
      refine ⟨rfl, lc_yes ?_⟩
      refine ⟨_, rfl, _, rfl, _, rfl, v, rfl, big (by omega), ?_⟩
      rw [ini_eq' (by omega)]
      refine ⟨_, e, by rw [List.length_map, List.length_map, List.length_take]; exact lt_line (by omega), wr sm hD, ?_⟩
      rw [upd_same, List.take_add_one, hv, List.map_append, List.map_append]; rfl
    rw [List.length_map, List.take_length] at e1
    refine ⟨_, rfl, b, _, _, _, rfl, rfl, .inl (.inl (s1 _ _ eb)), rfl, t, rfl, ⟨_, .inl (.inl (s1 _ _ et))⟩, fun D2 hD2 => ?_⟩
    refine lc_tup (a := t) (xs := ws.map V.str) (fun i H' => Same H1 H' ∧ H' D2 = some (.lst (((ws.take i).map taiS).map V.str))) ⟨same_upd hD2, upd_same⟩ (fun i H' _ h => .inl (.inl (h.1 _ _ (s1 _ _ et)))) (fun i y H' hi ⟨sm, e⟩ => ?_) fun H2 ⟨s2, e2⟩ => ?_
    · obtain ⟨v, hv, rfl⟩ := str_at hi
      obtain ⟨lo, vl⟩ := bk.each v (List.mem_of_getElem? hv)
      refine ⟨rfl, lc_yes ?_⟩
      refine ⟨_, rfl, _, rfl, v, rfl, big (by omega), ?_⟩
      rw [tai_eq' (by omega)]
      refine ⟨_, e, by rw [List.length_map, List.length_map, List.length_take]; exact lt_line (by omega), wr sm hD2, ?_⟩
      rw [upd_same, List.take_add_one, hv, List.map_append, List.map_append]; rfl
    rw [List.length_map, List.take_length] at e2
    refine ⟨D, D2, _, _, rfl, rfl, s2 _ _ e1, e2, by rw [List.length_map, List.length_map, List.length_map, List.length_map]; exact big (by omega), fun g ng => ?_⟩
    have pl : (placesL ws).length ≤ 200 := by unfold placesL; rw [List.length_append, List.length_map, List.length_map]; omega
    refine ⟨_, rfl, g, placesL ws, rfl, .inl (.inl (by rw [upd_same]; unfold placesL; rw [List.map_append])), by omega, fun u ks fo nu => ⟨u, ks, rfl, upd_same, fun ys a py so na => ⟨a, rfl, ⟨_, .inl (.inl upd_same)⟩, fun d nd => ?_⟩⟩⟩
    have up : Up ys (placesL ws) := .of py so fo
    have yl : ys.length ≤ 200 := Nat.le_trans up.2.2.2 pl
    have s3 : Same H (upd (upd (upd H2 g (.lst (((ws.map iniS).map V.str) ++ ((ws.map taiS).map V.str)))) u (SetSO w u ks)) a (.lst (ys.map V.str))) := (((s1.trans s2).trans (same_upd ng)).trans (same_upd nu)).trans (same_upd na)
    have ea : (upd (upd (upd H2 g (.lst (((ws.map iniS).map V.str) ++ ((ws.map taiS).map V.str)))) u (SetSO w u ks)) a (.lst (ys.map V.str))) a = some (.lst (ys.map V.str)) := upd_same
    generalize upd (upd (upd H2 g (.lst (((ws.map iniS).map V.str) ++ ((ws.map taiS).map V.str)))) u (SetSO w u ks)) a (.lst (ys.map V.str)) = H5 at s3 ea nd ⊢
    refine dc_list (a := a) (xs := ys.map V.str) (fun i H' => Same H5 H' ∧ ∃ f : Str → Addr, H' d = some (.dK (dkF (fun x => .ref (f x)) (ys.take i))) ∧ (∀ x ∈ ys.take i, H5 (f x) = none ∧ f x ≠ d ∧ H' (f x) = some (.lst [])) ∧ ∀ x ∈ ys.take i, ∀ y ∈ ys.take i, f x = f y → x = y)
      ⟨same_upd nd, fun _ => 0, by rw [upd_same]; rfl, (fun x h => by rw [List.take_zero] at h; cases h), fun x h => by rw [List.take_zero] at h; cases h⟩ (fun i H' _ h => .inl (.inl (h.1 _ _ ea))) (fun i y H' hi ⟨sm, f, e, fx, inj⟩ => ?_) fun H6 ⟨s6, f, e6, fx, inj⟩ => ?_
    · obtain ⟨x, hx, rfl⟩ := str_at hi
      have nx := not_before up.2.1 hx
      have il : i < 200 := by
        have := (List.getElem?_eq_some_iff.mp hx).1
        omega
      refine ⟨rfl, yes_of ?_⟩
      refine ⟨_, rfl, by show 0 ≤ sizeLine; decide, fun p np => ?_⟩
      have npd : p ≠ d := (ne_of_none e np).symm
      obtain ⟨f', h1, h2⟩ : ∃ f' : Str → Addr, f' x = p ∧ ∀ z, z ≠ x → f' z = f z := ⟨fun z => if z = x then p else f z, if_pos rfl, fun z h => if_neg h⟩
      have old : ∀ {z}, z ∈ ys.take i ++ [x] → z ≠ x → z ∈ ys.take i := fun {z} hz c => (List.mem_append.mp hz).resolve_right fun h => c (List.mem_singleton.mp h)
      refine ⟨_, Sum.inr x, rfl, keep_ne e npd.symm, by rw [dkF_len, List.length_take]; exact lt_line (by omega), wr (sm.trans (same_upd np)) nd, f', ?_, fun z hz => ?_, fun z hz y hy ef => ?_⟩
      · rw [upd_same, take_mem hx, dkF_put nx (congrArg V.ref h1) fun z hz => congrArg V.ref (h2 z hz)]
      · rw [take_mem hx] at hz
        by_cases c : z = x
        · rw [c, h1]
          exact ⟨sm.free np, npd, keep_ne upd_same npd⟩
        · rw [h2 z c]
          obtain ⟨f1, f2, f3⟩ := fx z (old hz c)
          exact ⟨f1, f2, keep_ne (keep_ne f3 (ne_of_none f3 np)) f2⟩
      · rw [take_mem hx] at hz hy
        by_cases c : z = x <;> by_cases c' : y = x
        · rw [c, c']
        · rw [c, h1, h2 y c'] at ef
          exact absurd ef.symm (ne_of_none (fx y (old hy c')).2.2 np)
        · rw [c', h1, h2 z c] at ef
          exact absurd ef (ne_of_none (fx z (old hz c)).2.2 np)
        · rw [h2 z c, h2 y c'] at ef
          exact inj z (old hz c) y (old hy c') ef
    rw [List.length_map, List.take_length] at e6 fx inj
    have et6 := s6 _ _ (s3 _ _ et)
    refine ⟨_, rfl, b, _, _, _, rfl, rfl, .inl (.inl (s6 _ _ (s3 _ _ eb))), rfl, t, rfl, ⟨_, .inl (.inl et6)⟩, ?_⟩
    refine for_tup (K := K) (a := t) (xs := ws.map V.str) (fun j σ H' => ∃ o1, σ = [some (.ref b), o1, some (.ref g), some (.ref d), none] ∧ Same H5 H' ∧ H' d = some (.dK (dkF (fun x => .ref (f x)) ys)) ∧ ∀ x ∈ ys, H' (f x) = some (.lst ((begW (ws.take j) x).map V.str)))
      ⟨_, rfl, s6, e6, fun x hx => by rw [List.take_zero]; exact (fx x hx).2.2⟩ (fun _ _ _ _ ⟨_, _, h, _⟩ => .inl (.inl (h _ _ (s3 _ _ et)))) (fun j y σ H7 hj ⟨o1, eσ, s7, e7, g7⟩ => ?_) fun σ H7 ⟨o1, eσ, s7, e7, g7⟩ => ?_
    · subst eσ
      obtain ⟨v, hv, rfl⟩ := str_at hj
      have hvm := List.mem_of_getElem? hv
      obtain ⟨lv, vl⟩ := bk.each v hvm
      have iv : iniS v ∈ ys := (up.2.2.1 _).mpr (ini_place hvm)
      have jl := (List.getElem?_eq_some_iff.mp hv).1
      refine ⟨_, rfl, _, rfl, _, rfl, _, rfl, v, rfl, big (by omega), ?_⟩
      rw [ini_eq' (by omega)]
      refine ⟨d, .ref (f (iniS v)), rfl, dget_of (.inl e7) (dkF_val _ iv), .inl ⟨rfl, _, .inl (.inl (g7 _ iv))⟩, _, rfl, _, _, _, rfl, rfl, g7 _ iv, ?_, ?_⟩
      · rw [List.length_map]
        refine lt_line (Nat.le_trans (List.length_filter_le _ _) ?_)
        rw [List.length_take]; omega
      · refine ⟨_, rfl, wr s7 (fx _ iv).1, keep_ne e7 (fx _ iv).2.1.symm, fun x hx => ?_⟩
        have ht : begW (ws.take (j + 1)) x = begW (ws.take j) x ++ (if iniS v = x then [v] else []) := by
          unfold begW
          rw [take_mem hv, List.filter_append]
          refine congrArg (fun r : List Str => (ws.take j).filter (fun v => decide (iniS v = x)) ++ r) ?_
          by_cases c : iniS v = x <;> simp [c]
        by_cases c : iniS v = x
        · subst c
          rw [upd_same, ht, if_pos rfl, List.map_append]; rfl
        · rw [ht, if_neg c, List.append_nil]
          exact keep_ne (g7 x hx) fun h => c (inj _ hx _ iv h).symm
    · subst eσ
      rw [List.length_map, List.take_length] at g7
      refine ⟨_, rfl, ?_⟩
      exact q d ys H7 (s3.free nd) (s3.trans s7) up ⟨f, e7, g7⟩
end
end Tx

set_option Elab.async false
set_option linter.all false
set_option maxRecDepth 100000
set_option maxHeartbeats 1000000
namespace Tx
open PySem PySem.Spec PyProof.Rows L2 TL RZ
theorem encE_put0 {fs : List Ent} {v : Str} (h : v ∉ keysE fs) : putK (fs.map encE) (Sum.inr v : Key) .non = (fs ++ [(v, none)]).map encE := by
  rw [putK_new _ (val_not (encE_keys fs) h), List.map_append]; rfl
theorem keys_none (ss : List Str) : keysE (ss.map fun s => ((s, none) : Ent)) = ss := by unfold keysE; rw [List.map_map]; exact List.map_id' ss
theorem encE_list (fs : List Ent) : ((fs.map encE).map fun kv => kV kv.1) = (keysE fs).map V.str := by
  unfold keysE; rw [List.map_map, List.map_map]; rfl
theorem addE_new {fs : List Ent} {u v : Str} (h : v ∉ keysE fs) : addE fs (u, v) = fs ++ [(v, some u)] := if_neg h
theorem addE_old {fs : List Ent} {u v : Str} (h : v ∈ keysE fs) : addE fs (u, v) = fs := if_pos h
theorem keysE_snoc (fs : List Ent) (v : Str) (o : Option Str) : keysE (fs ++ [(v, o)]) = keysE fs ++ [v] := by rw [keysE_app]; rfl
theorem pairs_take {adj : Str → List Str} {F : List Str} {i : Nat} {u : Str} (h : F[i]? = some u) : pairsE adj (F.take (i + 1)) = pairsE adj (F.take i) ++ (adj u).map fun v => (u, v) := by
  unfold pairsE; rw [take_mem h, List.flatMap_append]; simp
theorem Tr.last {R : List Ent} {v : Str} {l : List Str} (h : Tr R v l) : l.getLast? = some v := by cases h <;> simp
theorem drop_last {l : List Str} {u : Str} (h : l.getLast? = some u) : l.dropLast ++ [u] = l := by
  obtain ⟨ne, e⟩ := List.getLast?_eq_some_iff.mp h
  rw [e]; simp
/-- within a round -/
structure RI (H H' : Hp) (d fr F : Addr) (fs ft : List Ent) (j : Nat) (ns : List Str) : Prop where
  sm : Same H H'
  efr : H' fr = some (.lst ((keysE (fs.drop j)).map V.str))
  ed : H' d = some (.dK (ft.map encE))
  eF : H' F = some (.lst ((keysE (ft.drop fs.length)).map V.str))
  nd : (keysE ft).Nodup
  inn : ∀ x ∈ keysE ft, x ∈ ns
  len : fs.length ≤ ft.length
theorem RI.few {H H' : Hp} {d fr F : Addr} {fs ft : List Ent} {j : Nat} {ns : List Str} (r : RI H H' d fr F fs ft j ns) : ft.length ≤ ns.length := by
  have := pig _ ns r.nd r.inn
  rwa [show (keysE ft).length = ft.length from List.length_map ..] at this
theorem RI.add {H H' : Hp} {d fr F : Addr} {fs ft : List Ent} {j : Nat} {ns : List Str} (r : RI H H' d fr F fs ft j ns) {u v : Str} (hv : v ∈ ns) (nv : v ∉ keysE ft) (nd : H d = none) (nF : H F = none) (n1 : fr ≠ d) (n2 : F ≠ d) (n3 : F ≠ fr) :
    RI H (upd (upd H' d (.dK (putK (ft.map encE) (Sum.inr v : Key) (.str u)))) F (.lst ((keysE (ft.drop fs.length)).map V.str ++ [.str v]))) d fr F fs (addE ft (u, v)) j ns := by
  refine ⟨wr (wr r.sm nd) nF, keep_ne (keep_ne r.efr n1) n3.symm, ?_, ?_, ?_, fun x hx => ?_, ?_⟩
  · rw [upd_ne n2.symm, upd_same, encE_put nv]
  · rw [upd_same, addE_new nv, List.drop_append_of_le_length r.len, keysE_snoc, List.map_append]; rfl
  · rw [addE_new nv, keysE_snoc, List.nodup_append]
    exact ⟨r.nd, List.nodup_cons.mpr ⟨by simp, List.nodup_nil⟩, fun a ha b hb e => nv (by rw [← List.mem_singleton.mp hb, ← e]; exact ha)⟩
  · rw [addE_new nv, keysE_snoc] at hx
    rcases List.mem_append.mp hx with hx | hx
    · exact r.inn x hx
    · rw [List.mem_singleton.mp hx]; exact hv
  · rw [addE_new nv, List.length_append]; exact Nat.le_add_right_of_le r.len
/-- what way tells is a text of small letters, not long -/
def Fine (r : V) : Prop := r = .non ∨ ∃ z, r = .str z ∧ Low z ∧ z.length ≤ 200
theorem txt_low {l : List Str} (h : ∀ v ∈ l, Low v) : Low (mkS (txt l)) := by
  cases l with
  | nil => intro c hc; cases hc
  | cons w r =>
    intro c hc
    rw [tl_mkS] at hc
    rcases List.mem_append.mp hc with hc | hc
    · exact h w (List.mem_cons_self ..) c hc
    · obtain ⟨x, hx, hc⟩ := List.mem_flatten.mp hc
      obtain ⟨v, hv, rfl⟩ := List.mem_map.mp hx
      exact h v (List.mem_cons_of_mem _ hv) c (List.mem_of_mem_drop hc)
/-- a dict of lists of texts, which a loop may stand over -/
def DLr (H : Hp) (d : Addr) (ns : List Str) (adj : Str → List Str) : Prop := ∃ f : Str → Addr, Rd H d (.dK (dkF (fun x => .ref (f x)) ns)) ∧ ∀ x ∈ ns, H (f x) = some (.lst ((adj x).map V.str))
theorem rd_same {H H' : Hp} {d : Addr} {o : HO} (s : Same H H') (h : Rd H d o) : Rd H' d o := h.imp (s _ _) fun ⟨u, e⟩ => ⟨u, s _ _ e⟩
theorem DLr.same {H H' : Hp} {d : Addr} {ns : List Str} {adj : Str → List Str} (h : DLr H d ns adj) (s : Same H H') : DLr H' d ns adj := let ⟨f, e, g⟩ := h; ⟨f, rd_same s e, fun x hx => s _ _ (g x hx)⟩
theorem DL.r {H : Hp} {d : Addr} {ns : List Str} {adj : Str → List Str} (h : DL H d ns adj) : DLr H d ns adj := let ⟨f, e, g⟩ := h; ⟨f, .inl e, g⟩
section
variable {P : Program} {w : World} {K : PySem.W.Frag} {mg : Str → Option Value} {base : Heap}
abbrev st_reached : Stmt := topS 9
theorem sc_reached : FnScope ["starts", "links", "found", "front", "further", "node", "other", "start"] ["starts", "links"] (defScope st_reached) := ⟨rfl, rfl, rfl, by decide +kernel, rfl, by decide +kernel, by decide +kernel⟩
theorem pl_reached : PlainB "reached" st_reached ["starts", "links"] := fun _ _ _ _ _ _ us hl => match us, hl with | [_, _], _ => rfl
def spReached : Sp := fun vs H Q _ => ∃ (l d0 : Addr) (ss ns : List Str) (adj : Str → List Str), vs = [.ref l, .ref d0] ∧ SqL K H l (ss.map V.str) ∧ ss.Nodup ∧ DLr H d0 ns adj ∧ ns.length ≤ 3000 ∧ (∀ x ∈ ss, x ∈ ns) ∧ (∀ x ∈ ns, ∀ y ∈ adj x, y ∈ ns) ∧
  ∀ d H' R, H d = none → Same H H' → H' d = some (.dK (R.map encE)) → (keysE R).Nodup → (∀ x ∈ keysE R, x ∈ ns) → Run adj (ss.map fun s => (s, none)) 0 R → Q (.ref d) H'
theorem ok_reached (T : Top K mg "reached" st_reached) (B : Bt mg) : Dn P w K mg base 1 "reached" st_reached ["starts", "links"] (spReached (K := K)) := by
  refine dn_of T sc_reached pl_reached (fun vs H Q E h => ?_) fun f cdv A outer s H vs Q E hr h => ?_
  · obtain ⟨a, b, _, _, _, rfl, _⟩ := h; rfl
  · obtain ⟨l, d0, ss, ns, adj, rfl, ql, nss, dl, nl, sub, clo, q⟩ := h
    have few0 : ss.length ≤ ns.length := pig ss ns nss sub
    refine ⟨_, (pss_cons (ps_setDc (i := 2) (own := [("start", 7)]) (g := gName 7) rfl sc_reached.nd rfl rfl (sw_trueD rfl rfl rfl (by decide +kernel)) (pi_list (pv 0)) (blkOk_by (N := ["starts", "links", "found", "front", "further", "node", "other", "start"]) (sc := defScope st_reached) (by decide +kernel)) (fun _ _ _ _ _ => (pg_name (i := 7) sc_reached.nd rfl (.inl rfl))) (fun _ _ _ _ _ => pts_nil) (fun _ _ _ _ _ => (pv 7)) (fun _ _ _ _ _ => pe_non))
      (pss_cons (ps_set (i := 3) sc_reached.nd rfl (.inl rfl) (pe_callTy (call_list_dK rfl) (by rfl) B.list (by decide +kernel) (pa_cons (pv 2) pa_nil)))
      (pss_cons (ps_while PassesOwn.never (pt_truth (pv 3) (by intro _; rfl)) (pss_cons (ps_set (i := 4) sc_reached.nd rfl (.inl rfl) (pe_lst pa_nil))
      (pss_cons (ps_for PassesOwn.never rfl (pi_list (pv 3)) (pg_name (i := 5) sc_reached.nd rfl (.inl rfl)) (pss_one (ps_for PassesOwn.never rfl (pi_list (pe_dget (hu_of hr) (pv 1) (pv 5) (fun _ _ => rfl))) (pg_name (i := 6) sc_reached.nd rfl (.inl rfl)) (pss_one (ps_if (pt_cmp (pc_dnotin (hu_of hr) (pv 6) (pv 2))) (pss_cons (ps_dput (hu_of hr) (pv 2) (pv 6) (pv 5) rfl)
      (pss_one (ps_expr (pe_bm PySem.F.plainAttrs_list PySem.F.slot_list_append PySem.F.type_list_append mt_append (pv 4) (pa_cons (pv 6) pa_nil))))) pss_nil)))))
      (pss_one (ps_set (i := 3) sc_reached.nd rfl (.inl rfl) (pv 4))))))
      (pss_one (ps_ret (pv 2)))))), ?_⟩
    refine ⟨_, rfl, l, rfl, ⟨_, ql⟩, fun d nd => ?_⟩
    refine dc_list (a := l) (xs := ss.map V.str) (fun i H' => Same H H' ∧ H' d = some (.dK (((ss.take i).map fun s => ((s, none) : Ent)).map encE))) ⟨same_upd nd, by rw [upd_same]; rfl⟩ (fun i H' _ h => h.1.seq ql) (fun i y H' hi ⟨sm, e⟩ => ?_) fun H1 ⟨s1, e1⟩ => ?_
    · obtain ⟨x, hx, rfl⟩ := str_at hi
      have nx := not_before nss hx
      have il := (List.getElem?_eq_some_iff.mp hx).1
      refine ⟨rfl, yes_of ?_⟩
      refine ⟨_, rfl, _, Sum.inr x, rfl, e, by rw [List.length_map, List.length_map, List.length_take]; exact lt_line (by omega), wr sm nd, ?_⟩
      rw [upd_same, encE_put0 (by rw [keys_none]; exact nx), show ((ss.take (i + 1)).map fun s => ((s, none) : Ent)) = ((ss.take i).map fun s => ((s, none) : Ent)) ++ [(x, none)] by rw [take_mem hx, List.map_append]; rfl]
    rw [List.length_map, List.take_length] at e1
    refine ⟨_, rfl, d, _, rfl, e1, fun fr nfr => ?_⟩
    rw [encE_list, keys_none]
    generalize efs0 : (ss.map fun s => ((s, none) : Ent)) = fs0 at e1 q
    have k0 : keysE fs0 = ss := by rw [← efs0, keys_none]
    have l0 : fs0.length = ss.length := by rw [← efs0, List.length_map]
    have nfd : fr ≠ d := (ne_of_none e1 nfr).symm
    refine ⟨fun m σ H' => ∃ (fr : Addr) (fs : List Ent) (j : Nat) (o4 o5 o6 : Option V), σ = [some (.ref l), some (.ref d0), some (.ref d), some (.ref fr), o4, o5, o6, none] ∧ Same H H' ∧ H fr = none ∧ fr ≠ d ∧ H' d = some (.dK (fs.map encE)) ∧ H' fr = some (.lst ((keysE (fs.drop j)).map V.str)) ∧
        j ≤ fs.length ∧ (keysE fs).Nodup ∧ (∀ x ∈ keysE fs, x ∈ ns) ∧ (∀ R, Run adj fs j R → Run adj fs0 0 R) ∧ m = (ns.length - fs.length) + (if j < fs.length then 1 else 0),
      ⟨_, fr, fs0, 0, none, none, none, rfl, s1.trans (same_upd nfr), s1.free nfr, nfd, (same_upd nfr) _ _ e1, by rw [upd_same, List.drop_zero, k0], Nat.zero_le _, by rw [k0]; exact nss, by rw [k0]; exact sub, fun _ h => h, rfl⟩, fun m σ H' ⟨fr, fs, j, o4, o5, o6, eσ, sm, nfr, nfd, ed, efr, jl, ndk, inn, rn, em⟩ => ?_⟩
    subst eσ
    have few : fs.length ≤ ns.length := by
      have := pig _ ns ndk inn
      rwa [show (keysE fs).length = fs.length from List.length_map ..] at this
    refine ⟨_, rfl, _, .inl ⟨_, .inl (.inl efr), rfl⟩, ?_⟩
    by_cases c : j < fs.length
    · have ek : (!((keysE (fs.drop j)).map V.str).isEmpty) = true := by
        have : 0 < ((keysE (fs.drop j)).map V.str).length := by rw [List.length_map]; unfold keysE; rw [List.length_map, List.length_drop]; omega
        cases e : (keysE (fs.drop j)).map V.str with
        | nil => rw [e] at this; exact absurd this (by decide)
        | cons _ _ => rfl
      rw [ek]
      refine iteT ⟨_, fun _ _ h => h, ?_⟩
      refine ⟨by show 0 ≤ sizeLine; decide, fun F nF => ?_⟩
      have nF0 := sm.free nF
      have n2 : F ≠ d := (ne_of_none ed nF).symm
      have n3 : F ≠ fr := (ne_of_none efr nF).symm
      have r0 : RI H (upd H' F (.lst [])) d fr F fs fs j ns := ⟨sm.trans (same_upd nF), keep_ne efr n3.symm, keep_ne ed n2.symm, by rw [upd_same, List.drop_length]; rfl, ndk, inn, Nat.le_refl _⟩
      refine ⟨_, rfl, fr, rfl, ⟨_, .inl (.inl r0.efr)⟩, ?_⟩
      refine for_list (K := K) (a := fr) (xs := (keysE (fs.drop j)).map V.str) (fun i σ H3 => ∃ (ft : List Ent) (o5 o6 : Option V), σ = [some (.ref l), some (.ref d0), some (.ref d), some (.ref fr), some (.ref F), o5, o6, none] ∧ RI H H3 d fr F fs ft j ns ∧ ft = (pairsE adj ((keysE (fs.drop j)).take i)).foldl addE fs)
        ⟨fs, _, _, rfl, r0, by rw [List.take_zero]; rfl⟩ (fun _ _ _ _ ⟨_, _, _, _, r, _⟩ => .inl (.inl r.efr)) (fun i y σ H3 hi ⟨ft, o5, o6, eσ, r, eft⟩ => ?_) fun σ H3 ⟨ft, o5, o6, eσ, r, eft⟩ => ?_
      · subst eσ
        obtain ⟨u, hu, rfl⟩ := str_at hi
        have hun : u ∈ ns := inn u (by
          have := List.mem_of_getElem? hu
          obtain ⟨p, hp, rfl⟩ := List.mem_map.mp this
          exact List.mem_map.mpr ⟨p, List.mem_of_mem_drop hp, rfl⟩)
        obtain ⟨fa, ed0, ga⟩ := dl
        refine ⟨_, rfl, _, rfl, d0, .ref (fa u), rfl, dget_of (rd_same r.sm ed0) (dkF_val _ hun), fa u, rfl, ⟨_, .inl (.inl (r.sm _ _ (ga u hun)))⟩, ?_⟩
        refine for_list (K := K) (a := fa u) (xs := (adj u).map V.str) (fun q σ H4 => ∃ (fu : List Ent) (o6 : Option V), σ = [some (.ref l), some (.ref d0), some (.ref d), some (.ref fr), some (.ref F), some (.str u), o6, none] ∧ RI H H4 d fr F fs fu j ns ∧ fu = (((adj u).take q).map fun v => (u, v)).foldl addE ft)
          ⟨ft, _, rfl, r, by rw [List.take_zero]; rfl⟩ (fun _ _ _ _ ⟨_, _, _, r, _⟩ => .inl (.inl (r.sm _ _ (ga u hun)))) (fun q y σ H4 hq ⟨fu, o6, eσ, r, efu⟩ => ?_) fun σ H4 ⟨fu, o6, eσ, r, efu⟩ => ?_
        · subst eσ
          obtain ⟨v, hv, rfl⟩ := str_at hq
          have hvn := clo u hun v (List.mem_of_getElem? hv)
          have fewu := r.few
          have nxt : addE fu (u, v) = (((adj u).take (q + 1)).map fun v => (u, v)).foldl addE ft := by
            rw [take_mem hv, List.map_append, List.foldl_append, ← efu]; rfl
          refine ⟨_, rfl, _, rfl, d, _, rfl, DGet.k (k := Sum.inr v) r.ed, _, rfl, ?_⟩
          rw [val_some (encE_keys fu)]
          by_cases hk : v ∈ keysE fu
          · rw [decide_eq_true hk]
            refine iteF ?_
            exact ⟨fu, _, rfl, r, by rw [← nxt, addE_old hk]⟩
          · rw [decide_eq_false hk]
            refine iteT ?_
            refine ⟨_, rfl, _, rfl, _, rfl, d, _, rfl, DPut.k (k := Sum.inr v) r.ed (by rw [List.length_map]; exact lt_line (by omega)), ?_⟩
            have eF' : (upd H4 d (.dK (putK (fu.map encE) (Sum.inr v : Key) (.str u)))) F = some (.lst ((keysE (fu.drop fs.length)).map V.str)) := keep_ne r.eF n2
            refine ⟨_, rfl, .inl ⟨rfl, _, .inl (.inl eF')⟩, _, rfl, F, _, _, rfl, rfl, eF', ?_, ?_⟩
            · rw [List.length_map]; unfold keysE; rw [List.length_map, List.length_drop]; exact lt_line (by omega)
            · exact ⟨_, _, rfl, r.add hvn hk nd nF0 nfd n2 n3, nxt⟩
        · subst eσ
          rw [List.length_map, List.take_length] at efu
          exact ⟨fu, _, _, rfl, r, by rw [pairs_take hu, List.foldl_append, ← eft]; exact efu⟩
      · subst eσ
        rw [List.length_map, List.take_length] at eft
        have fewt := r.few
        have le := r.len
        refine ⟨_, rfl, ?_⟩
        refine ⟨_, ?_, F, ft, fs.length, _, _, _, rfl, r.sm, nF0, n2, r.ed, r.eF, r.len, r.nd, r.inn, fun R hR => rn R (.step c ?_), rfl⟩
        · rw [em, if_pos c]; split <;> omega
        · rw [show roundE adj fs j = ft from eft.symm]; exact hR
    · have ej : j = fs.length := by omega
      subst ej
      have ek : (!((keysE (fs.drop fs.length)).map V.str).isEmpty) = false := by rw [List.drop_length]; rfl
      rw [ek]
      refine iteF ?_
      exact ⟨_, rfl, q d H' fs nd sm ed ndk inn (rn fs (.done fs))⟩
abbrev st_trail : Stmt := topS 10
theorem sc_trail : FnScope ["came", "end", "path"] ["came", "end"] (defScope st_trail) := ⟨rfl, rfl, rfl, by decide +kernel, rfl, by decide +kernel, by decide +kernel⟩
theorem pl_trail : PlainB "trail" st_trail ["came", "end"] := fun _ _ _ _ _ _ us hl => match us, hl with | [_, _], _ => rfl
def spTrail : Sp := fun vs H Q _ => ∃ (d : Addr) (e : Str) (R : List Ent) (l : List Str), vs = [.ref d, .str e] ∧ Rd H d (.dK (R.map encE)) ∧ (keysE R).Nodup ∧ Tr R e l ∧ l.length ≤ 3000 ∧ ∀ p H', H p = none → Same H H' → H' p = some (.lst (l.map V.str)) → Q (.ref p) H'
theorem atI_end {xs : List V} {v : V} (h : xs.getLast? = some v) : atI xs (-1) = some v := by
  rw [List.getLast?_eq_getElem?] at h
  have lt := (List.getElem?_eq_some_iff.mp h).1
  unfold atI ixN
  rw [if_neg (by decide), if_pos (by omega)]
  show xs[((-1 : Int) + (xs.length : Int)).toNat]? = some v
  rw [show ((-1 : Int) + (xs.length : Int)).toNat = xs.length - 1 by omega]
  exact h
theorem last_map {xs : List Str} {v : Str} (h : xs.getLast? = some v) : (xs.map V.str).getLast? = some (V.str v) := by
  rw [List.getLast?_map, h]; rfl
theorem ok_trail (T : Top K mg "trail" st_trail) (B : Bt mg) : Dn P w K mg base 1 "trail" st_trail ["came", "end"] spTrail := by
  refine dn_of T sc_trail pl_trail (fun vs H Q E h => ?_) fun f cdv A outer s H vs Q E hr h => ?_
  · obtain ⟨a, b, _, _, rfl, _⟩ := h; rfl
  · obtain ⟨d, e, R, l, rfl, ed, nd, tr, ll, q⟩ := h
    refine ⟨_, (pss_cons (ps_set (i := 2) sc_trail.nd rfl (.inl rfl) (pe_lst (pa_cons (pv 1) pa_nil)))
      (pss_cons (ps_while PassesOwn.never (pt_cmpR op_notN (pe_dget (hu_of hr) (pv 0) (pe_ix (ixK K rfl) (pv 2) (pe_un un_neg pe_int) (fun _ _ => rfl)) (fun _ _ => rfl)) pe_non (nomark _)) (pss_one (ps_expr (pe_bm PySem.F.plainAttrs_list PySem.F.slot_list_append PySem.F.type_list_append mt_append (pv 2) (pa_cons (pe_dget (hu_of hr) (pv 0) (pe_ix (ixK K rfl) (pv 2) (pe_un un_neg pe_int) (fun _ _ => rfl)) (fun _ _ => rfl)) pa_nil)))))
      (pss_cons (ps_expr (pe_bm0 PySem.F.plainAttrs_list PySem.F.slot_list_reverse PySem.F.type_list_reverse mt_reverse (pv 2)))
      (pss_one (ps_ret (pv 2)))))), ?_⟩
    refine ⟨_, rfl, by show 1 ≤ sizeLine; decide, fun p np => ?_⟩
    refine ⟨fun m σ H' => ∃ (c : Str) (lr pr : List Str), σ = [some (.ref d), some (.str e), some (.ref p)] ∧ Same H H' ∧ H' p = some (.lst (pr.map V.str)) ∧ Tr R c lr ∧ pr.getLast? = some c ∧ lr.dropLast ++ pr.reverse = l ∧ m = lr.length,
      ⟨_, e, l, [e], rfl, same_upd np, upd_same, tr, rfl, by simpa using drop_last tr.last, rfl⟩, fun m σ H' ⟨c, lr, pr, eσ, sm, ep, tc, lc, el, em⟩ => ?_⟩
    subst eσ
    have lens : lr.length - 1 + pr.length = l.length := by rw [← el, List.length_append, List.length_dropLast, List.length_reverse]
    cases tc with
    | start hm =>
      refine ⟨_, rfl, _, rfl, _, rfl, p, _, _, .str c, rfl, rfl, .inl (.inl ep), atI_end (last_map lc), d, .non, rfl, dget_of (rd_same sm ed) (encE_val nd _ hm), rfl, _, rfl, ?_⟩
      refine iteF ?_
      refine ⟨_, rfl, .inl ⟨rfl, _, .inl (.inl ep)⟩, p, _, rfl, rfl, ep, ?_⟩
      refine ⟨_, rfl, q p _ np (wr sm np) ?_⟩
      rw [upd_same, ← List.map_reverse, ← el]; rfl
    | @more u _ lr hm tu =>
      refine ⟨_, rfl, _, rfl, _, rfl, p, _, _, .str c, rfl, rfl, .inl (.inl ep), atI_end (last_map lc), d, .str u, rfl, dget_of (rd_same sm ed) (encE_val nd _ hm), rfl, _, rfl, ?_⟩
      refine iteT ⟨_, fun _ _ h => h, ?_⟩
      refine ⟨_, rfl, .inl ⟨rfl, _, .inl (.inl ep)⟩, _, rfl, _, rfl, _, rfl, p, _, _, .str c, rfl, rfl, .inl (.inl ep), atI_end (last_map lc), d, .str u, rfl, dget_of (rd_same sm ed) (encE_val nd _ hm), p, _, _, rfl, rfl, ep, by rw [List.length_map]; exact lt_line (by omega), ?_⟩
      refine ⟨lr.length, by rw [em, List.length_append]; exact Nat.lt_succ_self _, u, lr, pr ++ [u], rfl, wr sm np, by rw [upd_same, List.map_append]; rfl, tu, by simp, ?_, rfl⟩
      rw [List.dropLast_concat] at el
      rw [List.reverse_append, ← List.append_assoc]
      show (lr.dropLast ++ [u]) ++ pr.reverse = l
      rw [drop_last tu.last]; exact el
end
end Tx

set_option Elab.async false
set_option linter.all false
set_option maxRecDepth 100000
set_option maxHeartbeats 1000000
namespace Tx
open PySem PySem.Spec PyProof.Rows L2 TL RZ
/-- a dict comprehension over anything that is walked -/
theorem dc_it {J : It} {n : Nat} {G : Hp → Prop} {Y : Nat → Hp → V → Hp → Prop} (w : Walk J n G Y) {g : TG} {tt : TT} {tk tv : TE} {vs : List Nat} {σ : L2.St} {H1 : Hp} {D : Addr} {Qd : Hp → Prop} (Pv : Nat → Hp → Prop) (h0 : Pv 0 (upd H1 D (.dK []))) (hG : ∀ i H, i ≤ n → Pv i H → G H)
    (hs : ∀ i x H H', i < n → Pv i H → Y i H x H' → g x (wipe σ vs) H' fun σ2 H2 => wipe σ2 vs = wipe σ vs ∧ tt σ2 H2 fun b H3 =>
      if b = true then tk σ2 H3 fun y H4 => tv σ2 H4 fun z H5 => ∃ kvs k, y = kV k ∧ H5 D = some (.dK kvs) ∧ kvs.length < sizeLine ∧ Pv (i + 1) (upd H5 D (.dK (putK kvs k z))) else Pv (i + 1) H3) (hd : ∀ H, Pv n H → Qd H) :
    ∃ W : Nat → Nat → Hp → Prop, (∃ m, W 0 m (upd H1 D (.dK []))) ∧ ∀ i m H, W i m H →
      (J.stop i H ∧ Qd H) ∨ (J.go i H ∧ ∃ Nx : Hp → Prop, (∀ H', Nx H' → ∃ m', m' < m ∧ W (i + 1) m' H') ∧ ∀ x H', J.yld i H x H' → g x (wipe σ vs) H' fun σ2 H2 => wipe σ2 vs = wipe σ vs ∧ tt σ2 H2 fun b H3 =>
        if b = true then tk σ2 H3 fun y H4 => tv σ2 H4 fun z H5 => ∃ kvs k, y = kV k ∧ H5 D = some (.dK kvs) ∧ kvs.length < sizeLine ∧ Nx (upd H5 D (.dK (putK kvs k z))) else Nx H3) := by
  refine ⟨fun i m H => m = n - i ∧ i ≤ n ∧ Pv i H, ⟨n, by simp, Nat.zero_le _, h0⟩, ?_⟩
  rintro i m H ⟨rfl, hi, p⟩
  have q := hG i H hi p
  by_cases hlt : i < n
  · refine .inr ⟨w.goes i H hlt q, Pv (i + 1), fun H' p' => ⟨n - (i + 1), by omega, rfl, hlt, p'⟩, fun x H' y => hs i x H H' hlt p (w.yields i H x H' hlt q y)⟩
  · have e : i = n := by omega
    subst e
    exact .inl ⟨w.stops H q, hd H p⟩
theorem same_unlock {H H' : Hp} {d : Addr} {u f : HO} (e : H d = some u) (s : Same (upd H d f) H') : Same H (upd H' d u) := fun b o h => by
  by_cases c : b = d
  · subst c; rw [e] at h; cases h; exact upd_same
  · rw [upd_ne c]; exact s b o (by rw [upd_ne c]; exact h)
theorem free_lock {H : Hp} {d p : Addr} {f u : HO} (e : H d = some u) (h : (upd H d f) p = none) : H p = none := by
  by_cases c : p = d
  · subst c; rw [upd_same] at h; cases h
  · rw [upd_ne c] at h; exact h
theorem dkF_at {f : Str → V} {ys : List Str} {i : Nat} {k : Key} {v : V} (h : (dkF f ys)[i]? = some (k, v)) : ∃ x, ys[i]? = some x ∧ k = Sum.inr x ∧ v = f x := by
  unfold dkF at h
  rw [List.getElem?_map] at h
  cases e : ys[i]? with
  | none => rw [e] at h; cases h
  | some x =>
    rw [e] at h
    have h := Option.some.inj h
    exact ⟨x, rfl, (congrArg Prod.fst h).symm, (congrArg Prod.snd h).symm⟩
/-- of pairs those that end at y: where they begin -/
def cont (ps : List (Str × Str)) (y : Str) : List Str := (ps.filter fun p => decide (p.2 = y)).map (·.1)
theorem cont_len (ps : List (Str × Str)) (y : Str) : (cont ps y).length ≤ ps.length := by unfold cont; rw [List.length_map]; exact List.length_filter_le ..
theorem cont_snoc (ps : List (Str × Str)) (x y z : Str) : cont (ps ++ [(x, y)]) z = cont ps z ++ (if y = z then [x] else []) := by
  unfold cont
  rw [List.filter_append, List.map_append]
  refine congrArg (fun r : List Str => (ps.filter fun p => decide (p.2 = z)).map (·.1) ++ r) ?_
  by_cases c : y = z <;> simp [c]
theorem pairs_pre {adj : Str → List Str} {F : List Str} {i j : Nat} {u : Str} (h : F[i]? = some u) : (pairsE adj (F.take i) ++ ((adj u).take j).map fun v => (u, v)).length ≤ (pairsE adj F).length := by
  have e1 : pairsE adj F = pairsE adj (F.take (i + 1)) ++ pairsE adj (F.drop (i + 1)) := by
    unfold pairsE; rw [← List.flatMap_append, List.take_append_drop]
  rw [e1, pairs_take h]
  simp only [List.length_append, List.length_map, List.length_take]
  omega
theorem pairs_len (adj : Str → List Str) (F : List Str) (m : Nat) (h : ∀ x ∈ F, (adj x).length ≤ m) : (pairsE adj F).length ≤ F.length * m := by
  induction F with
  | nil => simp [pairsE]
  | cons a F ih =>
    have := ih fun x hx => h x (List.mem_cons_of_mem _ hx)
    have := h a (List.mem_cons_self ..)
    unfold pairsE at *
    rw [List.flatMap_cons, List.length_append, List.length_map, List.length_cons, Nat.succ_mul]
    omega
section
variable {P : Program} {w : World} {K : PySem.W.Frag} {mg : Str → Option Value} {base : Heap}
abbrev st_turned : Stmt := topS 8
theorem sc_turned : FnScope ["links", "node", "back", "others", "other"] ["links"] (defScope st_turned) := ⟨rfl, rfl, rfl, by decide +kernel, rfl, by decide +kernel, by decide +kernel⟩
theorem pl_turned : PlainB "turned" st_turned ["links"] := fun _ _ _ _ _ _ us hl => match us, hl with | [_], _ => rfl
def spTurned : Sp := fun vs H Q _ => ∃ (d : Addr) (ns : List Str) (adj : Str → List Str), vs = [.ref d] ∧ DL H d ns adj ∧ ns.Nodup ∧ ns.length ≤ 20000 ∧ (∀ x ∈ ns, ∀ y ∈ adj x, y ∈ ns) ∧ (pairsE adj ns).length ≤ 1000000 ∧
  ∀ d' adj' H', H d' = none → Same H H' → DL H' d' ns adj' → Rev ns adj adj' → Q (.ref d') H'
theorem ok_turned (T : Top K mg "turned" st_turned) (B : Bt mg) : Dn P w K mg base 1 "turned" st_turned ["links"] spTurned := by
  refine dn_of T sc_turned pl_turned (fun vs H Q E h => ?_) fun f cdv A outer s H vs Q E hr h => ?_
  · obtain ⟨a, _, _, rfl, _⟩ := h; rfl
  · obtain ⟨d, ns, adj, rfl, ⟨fa, ed, ga⟩, ndn, nl, clo, pl, q⟩ := h
    refine ⟨_, (pss_cons (ps_lock (ps_setDc (i := 2) (own := [("node", 1)]) (g := gName 1) rfl sc_turned.nd rfl rfl (sw_trueD rfl rfl rfl (by decide +kernel)) (pi_keys (pv 0)) (blkOk_by (N := ["links", "node", "back", "others", "other"]) (sc := defScope st_turned) (by decide +kernel)) (fun _ _ _ _ _ => (pg_name (i := 1) sc_turned.nd rfl (.inl rfl))) (fun _ _ _ _ _ => pts_nil) (fun _ _ _ _ _ => (pv 1)) (fun _ _ _ _ _ => (pe_lst pa_nil))))
      (pss_cons (ps_lock (ps_for PassesOwn.never rfl (pi_items (pv 0)) (pg_tupK K rfl rfl (pgs_cons (pg_name (i := 1) sc_turned.nd rfl (.inl rfl)) (pgs_cons (pg_name (i := 3) sc_turned.nd rfl (.inl rfl)) pgs_nil))) (pss_one (ps_for PassesOwn.never rfl (pi_list (pv 3)) (pg_name (i := 4) sc_turned.nd rfl (.inl rfl)) (pss_one (ps_expr (pe_bm PySem.F.plainAttrs_list PySem.F.slot_list_append PySem.F.type_list_append mt_append (pe_dget (hu_of hr) (pv 2) (pv 4) (fun _ _ => rfl)) (pa_cons (pv 1) pa_nil))))))))
      (pss_one (ps_ret (pv 2))))), ?_⟩
    refine ⟨d, _, ed, trivial, fun od => ?_⟩
    refine ⟨_, rfl, d, od, rfl, .inl ⟨_, upd_same, fun d2 nd2 => ?_⟩⟩
    have nd2H := free_lock ed nd2
    have ed1 : (upd H d (.frz od (.dK (dkF (fun x => .ref (fa x)) ns)))) d = some (.frz od (.dK (dkF (fun x => .ref (fa x)) ns))) := upd_same
    generalize hH1 : upd H d (.frz od (.dK (dkF (fun x => .ref (fa x)) ns))) = H1 at nd2 ed1 ⊢
    refine dc_it (walk_keys (d := d) (o := od) (kvs := dkF (fun x => .ref (fa x)) ns)) (fun i H' => Same H1 H' ∧ ∃ f : Str → Addr, H' d2 = some (.dK (dkF (fun x => .ref (f x)) (ns.take i))) ∧ (∀ x ∈ ns.take i, H1 (f x) = none ∧ f x ≠ d2 ∧ H' (f x) = some (.lst [])) ∧ ∀ x ∈ ns.take i, ∀ y ∈ ns.take i, f x = f y → x = y)
      ⟨same_upd nd2, fun _ => 0, by rw [upd_same]; rfl, (fun x h => by rw [List.take_zero] at h; cases h), fun x h => by rw [List.take_zero] at h; cases h⟩ (fun i H' _ h => h.1 _ _ ed1) (fun i x0 H' H'' hi ⟨sm, f, e, fx, inj⟩ ⟨eH, kk, vv, hkv, ex0⟩ => ?_) fun H6 ⟨s6, f, e6, fx, inj⟩ => ?_
    · subst eH ex0
      obtain ⟨x, hx, rfl, rfl⟩ := dkF_at hkv
      rw [dkF_len] at hi
      have nx := not_before ndn hx
      refine ⟨rfl, yes_of ?_⟩
      refine ⟨_, rfl, by show 0 ≤ sizeLine; decide, fun p np => ?_⟩
      have npd : p ≠ d2 := (ne_of_none e np).symm
      obtain ⟨f', h1, h2⟩ : ∃ f' : Str → Addr, f' x = p ∧ ∀ z, z ≠ x → f' z = f z := ⟨fun z => if z = x then p else f z, if_pos rfl, fun z h => if_neg h⟩
      have old : ∀ {z}, z ∈ ns.take i ++ [x] → z ≠ x → z ∈ ns.take i := fun {z} hz c => (List.mem_append.mp hz).resolve_right fun h => c (List.mem_singleton.mp h)
      refine ⟨_, Sum.inr x, rfl, keep_ne e npd.symm, by rw [dkF_len, List.length_take]; exact lt_line (by omega), wr (sm.trans (same_upd np)) nd2, f', ?_, fun z hz => ?_, fun z hz y hy ef => ?_⟩
      · rw [upd_same, take_mem hx, dkF_put nx (congrArg V.ref h1) fun z hz => congrArg V.ref (h2 z hz)]
      · rw [take_mem hx] at hz
        by_cases c : z = x
        · rw [c, h1]
          exact ⟨sm.free np, npd, keep_ne upd_same npd⟩
        · rw [h2 z c]
          obtain ⟨f1, f2, f3⟩ := fx z (old hz c)
          exact ⟨f1, f2, keep_ne (keep_ne f3 (ne_of_none f3 np)) f2⟩
      · rw [take_mem hx] at hz hy
        by_cases c : z = x <;> by_cases c' : y = x
        · rw [c, c']
        · rw [c, h1, h2 y c'] at ef
          exact absurd ef.symm (ne_of_none (fx y (old hy c')).2.2 np)
        · rw [c', h1, h2 z c] at ef
          exact absurd ef (ne_of_none (fx z (old hz c)).2.2 np)
        · rw [h2 z c, h2 y c'] at ef
          exact inj z (old hz c) y (old hy c') ef
    rw [dkF_len, List.take_length] at e6 fx inj
    have edz := s6 _ _ ed1
    refine ⟨edz, ?_⟩
    have nd2d : d2 ≠ d := fun h => by subst h; rw [ed] at nd2H; cases nd2H
    have fd : ∀ x ∈ ns, f x ≠ d := fun x hx h => by
      have := (fx x hx).1
      rw [h, ed1] at this; cases this
    have sH : Same H (upd H6 d (.dK (dkF (fun x => .ref (fa x)) ns))) := same_unlock (H' := H6) ed (by rw [hH1]; exact s6)
    have e7 : (upd H6 d (.dK (dkF (fun x => .ref (fa x)) ns))) d2 = some (.dK (dkF (fun x => .ref (f x)) ns)) := keep_ne e6 nd2d
    have f7 : ∀ x ∈ ns, H (f x) = none ∧ f x ≠ d2 ∧ f x ≠ d ∧ (upd H6 d (.dK (dkF (fun x => .ref (fa x)) ns))) (f x) = some (.lst []) := fun x hx => by
      obtain ⟨f1, f2, f3⟩ := fx x hx
      refine ⟨?_, f2, fd x hx, keep_ne f3 (fd x hx)⟩
      rw [← hH1] at f1
      exact free_lock ed f1
    generalize upd H6 d (.dK (dkF (fun x => .ref (fa x)) ns)) = H7 at sH e7 f7 ⊢
    have ed7 := sH _ _ ed
    -- the pairs, one by one
    refine ⟨d, _, ed7, trivial, fun od2 => ?_⟩
    refine ⟨_, rfl, d, od2, _, rfl, upd_same, ?_⟩
    have e8 : (upd H7 d (.frz od2 (.dK (dkF (fun x => .ref (fa x)) ns)))) d = some (.frz od2 (.dK (dkF (fun x => .ref (fa x)) ns))) := upd_same
    have s8 : ∀ b o, H b = some o → b ≠ d → (upd H7 d (.frz od2 (.dK (dkF (fun x => .ref (fa x)) ns)))) b = some o := fun b o h n => keep_ne (sH b o h) n
    have e8' : (upd H7 d (.frz od2 (.dK (dkF (fun x => .ref (fa x)) ns)))) d2 = some (.dK (dkF (fun x => .ref (f x)) ns)) := keep_ne e7 nd2d
    have f8 : ∀ x ∈ ns, (upd H7 d (.frz od2 (.dK (dkF (fun x => .ref (fa x)) ns)))) (f x) = some (.lst []) := fun x hx => keep_ne (f7 x hx).2.2.2 (f7 x hx).2.2.1
    have gad : ∀ x ∈ ns, fa x ≠ d := fun x hx h => by have := ga x hx; rw [h, ed] at this; cases this
    generalize hH8 : upd H7 d (.frz od2 (.dK (dkF (fun x => .ref (fa x)) ns))) = H8 at e8 s8 e8' f8 ⊢
    refine for_it (walk_items (d := d) (o := od2) (kvs := dkF (fun x => .ref (fa x)) ns)) (fun i σ H' => ∃ o1 o3 o4, σ = [some (.ref d), o1, some (.ref d2), o3, o4] ∧ H' d = some (.frz od2 (.dK (dkF (fun x => .ref (fa x)) ns))) ∧ H' d2 = some (.dK (dkF (fun x => .ref (f x)) ns)) ∧ (∀ b o, H b = some o → b ≠ d → H' b = some o) ∧
        ∀ y ∈ ns, H' (f y) = some (.lst ((cont (pairsE adj (ns.take i)) y).map V.str)))
      ⟨_, _, _, rfl, e8, e8', s8, fun y hy => by rw [List.take_zero]; exact f8 y hy⟩ (fun i σ H' _ ⟨_, _, _, _, h, _⟩ => h) (fun i x0 σ H' H'' hi ⟨o1, o3, o4, eσ, edz, ed2z, sz, fz⟩ yl => ?_) fun σ H' ⟨o1, o3, o4, eσ, edz, ed2z, sz, fz⟩ => ?_
    · subst eσ
      obtain ⟨T0, x1, y1, rfl, nT, rfl, hx1, hy1⟩ := yl
      obtain ⟨x, hx, ex⟩ : ∃ x, ns[i]? = some x ∧ (dkF (fun x => V.ref (fa x)) ns)[i]? = some (Sum.inr x, V.ref (fa x)) := by
        rw [dkF_len] at hi
        exact ⟨ns[i], List.getElem?_eq_getElem hi, by unfold dkF; rw [List.getElem?_map, List.getElem?_eq_getElem hi]; rfl⟩
      dsimp only at hx1 hy1
      rw [ex] at hx1 hy1
      obtain rfl : x1 = V.str x := (Option.some.inj hx1).symm
      obtain rfl : y1 = V.ref (fa x) := (Option.some.inj hy1).symm
      have hxm := List.mem_of_getElem? hx
      have eT : ∀ {b o}, H' b = some o → (upd H' T0 (.tup [V.str x, .ref (fa x)])) b = some o := fun {b o} h => (same_upd nT) b o h
      refine ⟨T0, _, rfl, .inl (.inl upd_same), rfl, _, _, rfl, _, _, rfl, rfl, ?_⟩
      have gax := ga x hxm
      refine ⟨_, rfl, fa x, rfl, ⟨_, .inl (.inl (eT (sz _ _ gax (gad x hxm))))⟩, ?_⟩
      refine for_list (K := K) (a := fa x) (xs := (adj x).map V.str) (fun j σ H' => ∃ o4, σ = [some (.ref d), some (.str x), some (.ref d2), some (.ref (fa x)), o4] ∧ H' d = some (.frz od2 (.dK (dkF (fun x => .ref (fa x)) ns))) ∧ H' d2 = some (.dK (dkF (fun x => .ref (f x)) ns)) ∧ (∀ b o, H b = some o → b ≠ d → H' b = some o) ∧
          ∀ y ∈ ns, H' (f y) = some (.lst ((cont (pairsE adj (ns.take i) ++ ((adj x).take j).map fun v => (x, v)) y).map V.str)))
        ⟨_, rfl, eT edz, eT ed2z, fun b o h n => eT (sz b o h n), fun y hy => by rw [List.take_zero, List.map_nil, List.append_nil]; exact eT (fz y hy)⟩ (fun _ _ _ _ ⟨_, _, _, _, h, _⟩ => .inl (.inl (h _ _ gax (gad x hxm)))) (fun j y σ H9 hj ⟨o4, eσ, edz, ed2z, sz, fz⟩ => ?_) fun σ H9 ⟨o4, eσ, edz, ed2z, sz, fz⟩ => ?_
      · subst eσ
        obtain ⟨v, hv, rfl⟩ := str_at hj
        have hvn := clo x hxm v (List.mem_of_getElem? hv)
        have few := pairs_pre (adj := adj) (F := ns) (i := i) (j := j) (u := x) hx
        have few2 := cont_len (pairsE adj (ns.take i) ++ ((adj x).take j).map fun v => (x, v)) v
        refine ⟨_, rfl, _, rfl, d2, .ref (f v), rfl, dget_of (.inl ed2z) (dkF_val _ hvn), .inl ⟨rfl, _, .inl (.inl (fz v hvn))⟩, _, rfl, f v, _, _, rfl, rfl, fz v hvn, by rw [List.length_map]; exact Nat.lt_of_le_of_lt (show _ ≤ 1000000 by omega) (by decide), ?_⟩
        refine ⟨_, rfl, keep_ne edz (f7 v hvn).2.2.1.symm, keep_ne ed2z (f7 v hvn).2.1.symm, fun b o h n => keep_ne (sz b o h n) (fun e => by rw [e, (f7 v hvn).1] at h; cases h), fun y hy => ?_⟩
        rw [take_mem hv, List.map_append, ← List.append_assoc]
        show _ = some (HO.lst ((cont (_ ++ [(x, v)]) y).map V.str))
        rw [cont_snoc]
        by_cases c : v = y
        · subst c
          rw [upd_same, if_pos rfl, List.map_append]; rfl
        · rw [if_neg c, List.append_nil]
          exact keep_ne (fz y hy) fun h => c (inj _ hy _ hvn h).symm
      · subst eσ
        rw [List.length_map, List.take_length] at fz
        refine ⟨_, _, _, rfl, edz, ed2z, sz, fun y hy => ?_⟩
        rw [pairs_take hx]; exact fz y hy
    · subst eσ
      rw [dkF_len, List.take_length] at fz
      refine ⟨edz, ?_⟩
      have sE : Same H (upd H' d (.dK (dkF (fun x => .ref (fa x)) ns))) := fun b o h => by
        by_cases c : b = d
        · subst c; rw [ed] at h; cases h; exact upd_same
        · rw [upd_ne c]; exact sz b o h c
      refine ⟨_, rfl, q d2 (cont (pairsE adj ns)) _ nd2H sE ⟨f, keep_ne ed2z nd2d, fun y hy => keep_ne (fz y hy) (f7 y hy).2.2.1⟩ fun y hy z => ?_⟩
      unfold cont
      rw [List.mem_map]
      constructor
      · rintro ⟨p, hp, rfl⟩
        obtain ⟨h1, h2⟩ := List.mem_filter.mp hp
        have h2 := of_decide_eq_true h2
        obtain ⟨m1, m2⟩ := mem_pairsE.mp h1
        rw [h2] at m2
        exact ⟨m1, m2⟩
      · rintro ⟨h1, h2⟩
        exact ⟨(z, y), List.mem_filter.mpr ⟨mem_pairsE.mpr ⟨h1, h2⟩, decide_eq_true rfl⟩, rfl⟩
abbrev st_closed_lot : Stmt := topS 24
theorem sc_closed_lot : FnScope ["book", "starts", "links", "first", "ahead", "behind", "place", "window"] ["book"] (defScope st_closed_lot) := ⟨rfl, rfl, rfl, by decide +kernel, rfl, by decide +kernel, by decide +kernel⟩
theorem pl_closed_lot : PlainB "closed_lot" st_closed_lot ["book"] := fun _ _ _ _ _ _ us hl => match us, hl with | [_], _ => rfl
/-- what is told of a book: None, or a lot out of which no window leads -/
def LotR (ws : List Str) (H : Hp) (r : V) : Prop := (r = .non ∧ Joined ws) ∨ ∃ a lot, r = .ref a ∧ H a = some (.tup (lot.map V.str)) ∧ IsLot ws lot
def spClosedLot : Sp := fun vs H Q _ => ∃ (b : Addr) (k : Nat) (ws : List Str), vs = [.ref b] ∧ BookAt H b k ws ∧ Book k ws ∧ ws.length ≤ 100 ∧ ∀ r H', Same H H' → LotR ws H' r → Q r H'
theorem short_of {ns ks : List Str} (nd : ks.Nodup) (sub : ∀ x ∈ ks, x ∈ ns) (lt : ks.length < ns.length) (ndn : ns.Nodup) : ∃ x ∈ ns, x ∉ ks := by
  refine Classical.byContradiction fun no => ?_
  have : ∀ x ∈ ns, x ∈ ks := fun x hx => Classical.byContradiction fun n => no ⟨x, hx, n⟩
  have := pig ns ks ndn this
  omega
theorem Path.place {ws : List Str} {a b : Str} (h : Path ws a b) (ha : a ∈ placesL ws) : b ∈ placesL ws := by
  cases h with
  | here => exact ha
  | step _ hv => exact tai_place hv
theorem ok_closed_lot (T : Top K mg "closed_lot" st_closed_lot) (B : Bt mg) (D_check_book : Dn P w K mg base 4 "check_book" st_check_book ["book"] spCkBook) (D_begun : Dn P w K mg base 1 "begun" st_begun ["book"] spBegun)
    (D_reached : Dn P w K mg base 1 "reached" st_reached ["starts", "links"] (spReached (K := K))) (D_turned : Dn P w K mg base 1 "turned" st_turned ["links"] spTurned) :
    Dn P w K mg base 5 "closed_lot" st_closed_lot ["book"] spClosedLot := by
  refine dn_of T sc_closed_lot pl_closed_lot (fun vs H Q E h => ?_) fun f cdv A outer s H vs Q E hr h => ?_
  · obtain ⟨a, _, _, rfl, _⟩ := h; rfl
  · obtain ⟨b, k, ws, rfl, bat, bk, wl, q⟩ := h
    have k2 := bk.n2
    have k6 := bk.n6
    have w1 := bk.one
    refine ⟨_, (pss_cons (ps_expr (pe_fn D_check_book (hr.mono (by decide)) (by rfl) (pa_cons (pv 0) pa_nil)))
      (pss_cons (ps_set (i := 1) sc_closed_lot.nd rfl (.inr rfl) (pe_fn D_begun (hr.mono (by decide)) (by rfl) (pa_cons (pv 0) pa_nil)))
      (pss_cons (ps_lock (ps_setDc (i := 2) (own := [("place", 6)]) (g := gName 6) rfl sc_closed_lot.nd rfl rfl (sw_trueD rfl rfl rfl (by decide +kernel)) (pi_keys (pv 1)) (blkOk_by (N := ["book", "starts", "links", "first", "ahead", "behind", "place", "window"]) (sc := defScope st_closed_lot) (by decide +kernel)) (fun _ _ _ _ _ => (pg_name (i := 6) sc_closed_lot.nd rfl (.inl rfl))) (fun _ _ _ _ _ => pts_nil) (fun _ _ _ _ _ => (pv 6)) (fun _ _ _ _ _ => (pe_lc (own := [("window", 7)]) (g := gName 7) rfl sc_closed_lot.nd (pi_listK K rfl (pe_dget (hu_of hr) (pv 1) (pv 6) (fun _ _ => rfl))) (blkOk_by (N := ["book", "starts", "links", "first", "ahead", "behind", "place", "window"]) (sc := { kind := .function, names := [(".0", .local), ("place", .local), ("starts", .cell)], isGenerator := false, isCoroutine := false }) (by decide +kernel)) (fun _ _ _ _ _ => (pg_name (i := 7) sc_closed_lot.nd rfl (.inl rfl))) (fun _ _ _ _ _ => pts_nil) (fun _ _ _ _ _ => (pe_slice sl_str (pv 7) (po_some pe_int) po_none))))))
      (pss_cons (ps_set (i := 3) sc_closed_lot.nd rfl (.inl rfl) (pe_slice sl_str (pe_ix (ixTK K rfl) (pe_ix (ixTK K rfl) (pv 0) pe_int (fun _ _ => rfl)) pe_int (fun _ _ => rfl)) po_none (po_some (pe_un un_neg pe_int))))
      (pss_cons (ps_set (i := 4) sc_closed_lot.nd rfl (.inl rfl) (pe_fn D_reached (hr.mono (by decide)) (by rfl) (pa_cons (pe_lst (pa_cons (pv 3) pa_nil)) (pa_cons (pv 2) pa_nil))))
      (pss_cons (ps_if (pt_cmpR op_lt (pe_callB call_lenD (by rfl) B.len (by decide +kernel) (pa_cons (pv 4) pa_nil)) (pe_callB call_lenD (by rfl) B.len (by decide +kernel) (pa_cons (pv 2) pa_nil)) (nomark _)) (pss_one (ps_ret (pe_callTy (tupK K rfl) (by rfl) B.tuple (by decide +kernel) (pa_cons (pe_callB (cr_sortD rfl) (by rfl) B.sorted (by decide +kernel) (pa_cons (pv 4) pa_nil)) pa_nil)))) pss_nil)
      (pss_cons (ps_set (i := 5) sc_closed_lot.nd rfl (.inr rfl) (pe_fn D_reached (hr.mono (by decide)) (by rfl) (pa_cons (pe_lst (pa_cons (pv 3) pa_nil)) (pa_cons (pe_fn D_turned (hr.mono (by decide)) (by rfl) (pa_cons (pv 2) pa_nil)) pa_nil))))
      (pss_cons (ps_if (pt_cmpR op_lt (pe_callB call_lenD (by rfl) B.len (by decide +kernel) (pa_cons (pv 5) pa_nil)) (pe_callB call_lenD (by rfl) B.len (by decide +kernel) (pa_cons (pv 2) pa_nil)) (nomark _)) (pss_one (ps_ret (pe_callTy (tupK K rfl) (by rfl) B.tuple (by decide +kernel) (pa_cons (pe_lock (pe_lc (own := [("place", 6)]) (g := gName 6) rfl sc_closed_lot.nd (pi_keys (pv 2)) (blkOk_by (N := ["book", "starts", "links", "first", "ahead", "behind", "place", "window"]) (sc := defScope st_closed_lot) (by decide +kernel)) (fun _ _ _ _ _ => (pg_name (i := 6) sc_closed_lot.nd rfl (.inl rfl))) (fun _ _ _ _ _ => (pts_one (pt_cmp (pc_dnotin (hu_of hr) (pv 6) (pv 5))))) (fun _ _ _ _ _ => (pv 6)))) pa_nil)))) pss_nil)
      (pss_one (ps_ret pe_non)))))))))), ?_⟩
    refine ⟨_, rfl, b, k, ws, rfl, bat, bk, fun H1 s1 => ?_⟩
    have bat1 := bat.same s1
    refine ⟨_, rfl, b, k, ws, rfl, bat1, bk, wl, fun d ns H2 nd s2 up dl => ?_⟩
    have pl : (placesL ws).length ≤ 200 := by unfold placesL; rw [List.length_append, List.length_map, List.length_map]; omega
    have nsl : ns.length ≤ 200 := Nat.le_trans up.2.2.2 pl
    have ndn := up.2.1
    have mem := up.2.2.1
    obtain ⟨fa, ed, ga⟩ := dl
    obtain ⟨t, eb, et⟩ := bat1.same s2
    refine ⟨d, _, ed, trivial, fun od => ?_⟩
    refine ⟨_, rfl, d, od, rfl, .inl ⟨_, upd_same, fun d2 nd2 => ?_⟩⟩
    have nd2H := free_lock ed nd2
    have nd2d : d2 ≠ d := fun h => by subst h; rw [ed] at nd2H; cases nd2H
    have ed1 : (upd H2 d (.frz od (.dK (dkF (fun x => .ref (fa x)) ns)))) d = some (.frz od (.dK (dkF (fun x => .ref (fa x)) ns))) := upd_same
    have gad : ∀ x ∈ ns, fa x ≠ d := fun x hx h => by have := ga x hx; rw [h, ed] at this; cases this
    have ga1 : ∀ x ∈ ns, (upd H2 d (.frz od (.dK (dkF (fun x => .ref (fa x)) ns)))) (fa x) = some (.lst ((begW ws x).map V.str)) := fun x hx => keep_ne (ga x hx) (gad x hx)
    generalize hH3 : upd H2 d (.frz od (.dK (dkF (fun x => .ref (fa x)) ns))) = H3 at nd2 ed1 ga1 ⊢
    refine dc_it (walk_keys (d := d) (o := od) (kvs := dkF (fun x => .ref (fa x)) ns)) (fun i H' => Same H3 H' ∧ ∃ g : Str → Addr, H' d2 = some (.dK (dkF (fun x => .ref (g x)) (ns.take i))) ∧ ∀ x ∈ ns.take i, H' (g x) = some (.lst ((adjP ws x).map V.str)))
      ⟨same_upd nd2, fun _ => 0, by rw [upd_same]; rfl, fun x h => by rw [List.take_zero] at h; cases h⟩ (fun i H' _ h => h.1 _ _ ed1) (fun i x0 H' H'' hi ⟨sm, g, e, gx⟩ ⟨eH, kk, vv, hkv, ex0⟩ => ?_) fun H6 ⟨s6, g, e6, gx⟩ => ?_
    · subst eH ex0
      obtain ⟨x, hx, rfl, rfl⟩ := dkF_at hkv
      rw [dkF_len] at hi
      have nx := not_before ndn hx
      have hxm := List.mem_of_getElem? hx
      refine ⟨rfl, yes_of ?_⟩
      refine ⟨_, rfl, _, rfl, _, rfl, d, .ref (fa x), rfl, dget_of (.inr ⟨od, sm _ _ ed1⟩) (dkF_val _ hxm), fa x, rfl, ⟨_, .inl (.inl (sm _ _ (ga1 x hxm)))⟩, fun D hD => ?_⟩
      refine lc_list (a := fa x) (xs := (begW ws x).map V.str) (fun j H2 => Same H'' H2 ∧ H2 D = some (.lst ((((begW ws x).take j).map taiS).map V.str))) ⟨same_upd hD, upd_same⟩ (fun j H2 _ h => .inl (.inl (h.1 _ _ (sm _ _ (ga1 x hxm))))) (fun j y H2 hj ⟨s3, e3⟩ => ?_) fun H4 ⟨s4, e4⟩ => ?_
      · obtain ⟨v, hv, rfl⟩ := str_at hj
        have hvm := (mem_begW.mp (List.mem_of_getElem? hv)).1
        obtain ⟨lo, vl⟩ := bk.each v hvm
        have few : (begW ws x).length ≤ 100 := Nat.le_trans (List.length_filter_le ..) wl
        refine ⟨rfl, lc_yes ?_⟩
        refine ⟨_, rfl, _, rfl, v, rfl, big (by omega), ?_⟩
        rw [tai_eq' (by omega)]
        refine ⟨_, e3, by rw [List.length_map, List.length_map, List.length_take]; exact lt_line (by omega), wr s3 hD, ?_⟩
        rw [upd_same, take_mem hv, List.map_append, List.map_append]; rfl
      · rw [List.length_map, List.take_length] at e4
        have nDd2 : D ≠ d2 := (ne_of_none e hD).symm
        obtain ⟨g', h1, h2⟩ : ∃ g' : Str → Addr, g' x = D ∧ ∀ z, z ≠ x → g' z = g z := ⟨fun z => if z = x then D else g z, if_pos rfl, fun z h => if_neg h⟩
        refine ⟨_, Sum.inr x, rfl, s4 _ _ e, by rw [dkF_len, List.length_take]; exact lt_line (by omega), wr (sm.trans s4) nd2, g', ?_, fun z hz => ?_⟩
        · rw [upd_same, take_mem hx, dkF_put nx (congrArg V.ref h1) fun z hz => congrArg V.ref (h2 z hz)]
        · rw [take_mem hx] at hz
          by_cases c : z = x
          · rw [c, h1]; exact keep_ne e4 nDd2
          · have gz := gx z ((List.mem_append.mp hz).resolve_right fun h => c (List.mem_singleton.mp h))
            have ne : g z ≠ d2 := fun h => by rw [h, e] at gz; cases gz
            rw [h2 z c]; exact keep_ne (s4 _ _ gz) ne
    rw [dkF_len, List.take_length] at e6 gx
    refine ⟨s6 _ _ ed1, ?_⟩
    have s7 : Same H2 (upd H6 d (.dK (dkF (fun x => .ref (fa x)) ns))) := same_unlock (H' := H6) ed (by rw [hH3]; exact s6)
    have dl7 : DL (upd H6 d (.dK (dkF (fun x => .ref (fa x)) ns))) d2 ns (adjP ws) := by
      refine ⟨g, keep_ne e6 nd2d, fun x hx => ?_⟩
      have gz := gx x hx
      have ne : g x ≠ d := fun h => by rw [h, s6 _ _ ed1] at gz; cases gz
      exact keep_ne gz ne
    generalize upd H6 d (.dK (dkF (fun x => .ref (fa x)) ns)) = H7 at s7 dl7 ⊢
    obtain ⟨w0, hw0⟩ : ∃ w0, ws[0]? = some w0 := ⟨ws[0], List.getElem?_eq_getElem (by omega)⟩
    have hwm := List.mem_of_getElem? hw0
    have at0 : atI (ws.map V.str) 0 = some (V.str w0) := atI_pos (by decide) (by rw [List.getElem?_map]; show (ws[0]?).map V.str = _; rw [hw0]; rfl)
    obtain ⟨lo0, wl0⟩ := bk.each w0 hwm
    refine ⟨_, rfl, b, _, _, _, rfl, rfl, .inl (.inl (s7 _ _ eb)), rfl, t, _, 0, .str w0, rfl, rfl, .inl (.inl (s7 _ _ et)), at0, _, rfl, _, rfl, w0, rfl, big (by omega), ?_⟩
    rw [ini_eq' (by omega)]
    have hfn : iniS w0 ∈ ns := (mem _).mpr (ini_place hwm)
    generalize hfirst : iniS w0 = first at hfn ⊢
    have hfp : first ∈ placesL ws := (mem _).mp hfn
    have clo : ∀ x ∈ ns, ∀ y ∈ adjP ws x, y ∈ ns := fun x _ y hy => by
      obtain ⟨v, hv, _, rfl⟩ := mem_adjP.mp hy
      exact (mem _).mpr (tai_place hv)
    have nd1 : [first].Nodup := List.nodup_cons.mpr ⟨by simp, List.nodup_nil⟩
    have sub1 : ∀ x ∈ [first], x ∈ ns := fun x hx => by rw [List.mem_singleton.mp hx]; exact hfn
    refine ⟨_, rfl, by show 1 ≤ sizeLine; decide, fun l nl => ?_⟩
    refine ⟨_, rfl, l, d2, [first], ns, adjP ws, rfl, .inl (.inl upd_same), nd1, (dl7.same (same_upd nl)).r, by omega, sub1, clo, fun d3 H8 R n8 s8 e8 ndR inR run => ?_⟩
    have s78 : Same H7 H8 := (same_upd nl).trans s8
    obtain ⟨_, r1, _, r3⟩ := run_all nd1 run
    have sm8 : Same H H8 := ((s1.trans s2).trans s7).trans s78
    have dl8 := dl7.same s78
    obtain ⟨g8, e82, gg8⟩ := id dl8
    have kl : (R.map encE).length = (keysE R).length := by unfold keysE; rw [List.length_map, List.length_map]
    refine ⟨_, rfl, d3, _, rfl, e8, _, rfl, d2, _, rfl, e82, _, _, rfl, rfl, _, rfl, ?_⟩
    rw [dkF_len, kl]
    refine ite2 (fun lt => ?_) fun ge => ?_
    · have lt := of_decide_eq_true lt
      refine ⟨_, rfl, d3, _, keysE R, rfl, .inl e8, encE_keys R, fun ys a py so na => ⟨a, ys.map V.str, rfl, .inl ⟨.inl (.inl upd_same), fun l2 nl2 => ?_⟩⟩⟩
      refine q _ _ ((sm8.trans (same_upd na)).trans (same_upd nl2)) (.inr ⟨l2, ys, rfl, upd_same, ?_⟩)
      refine ⟨asc_of (sorted_le so) (py.nodup_iff.mpr ndR), fun e => ?_, fun x hx => (mem x).mp (inR x (py.mem_iff.mp hx)), ?_, fun v hv h => ?_⟩
      · have := py.mem_iff.mpr ((r1 first).mpr ⟨first, List.mem_singleton.mpr rfl, .here⟩)
        rw [e] at this; cases this
      · obtain ⟨x, hx, n⟩ := short_of ndR inR (by omega) ndn
        exact ⟨x, (mem x).mp hx, fun h => n (py.mem_iff.mp h)⟩
      · exact py.mem_iff.mpr (r3 _ (py.mem_iff.mp h) _ (mem_adjP.mpr ⟨v, hv, rfl, rfl⟩))
    · have ge : ¬ (((keysE R).length : Int) < (ns.length : Int)) := fun h => ge (decide_eq_true h)
      have all1 : ∀ x ∈ ns, Path ws first x := fun x hx => by
        obtain ⟨s, hs, rt⟩ := (r1 x).mp (pig_all ndR inR (by omega) hx)
        rw [List.mem_singleton.mp hs] at rt
        exact rt_path.mp rt
      refine ⟨_, rfl, by show 1 ≤ sizeLine; decide, fun l2 nl2 => ?_⟩
      have few : (pairsE (adjP ws) ns).length ≤ 1000000 := by
        have := pairs_len (adjP ws) ns 100 fun x _ => by unfold adjP; rw [List.length_map]; exact Nat.le_trans (List.length_filter_le ..) wl
        omega
      refine ⟨_, rfl, d2, ns, adjP ws, rfl, dl8.same (same_upd nl2), ndn, by omega, clo, few, fun d4 adj' H9 n9 s9 dl9 rv => ?_⟩
      have clo' : ∀ x ∈ ns, ∀ y ∈ adj' x, y ∈ ns := fun x hx y hy => ((rv x hx y).mp hy).1
      refine ⟨l2, d4, [first], ns, adj', rfl, .inl (.inl (s9 _ _ upd_same)), nd1, dl9.r, by omega, sub1, clo', fun d5 H10 R2 n10 s10 e10 ndR2 inR2 run2 => ?_⟩
      obtain ⟨_, b1, _, b3⟩ := run_all nd1 run2
      have s9' : Same H8 H10 := ((same_upd nl2).trans s9).trans s10
      have sm10 : Same H H10 := sm8.trans s9'
      have e102 := s9' _ _ e82
      have kl2 : (R2.map encE).length = (keysE R2).length := by unfold keysE; rw [List.length_map, List.length_map]
      have back : ∀ x, x ∈ keysE R2 ↔ x ∈ ns ∧ Path ws x first := fun x => by
        rw [b1]
        constructor
        · rintro ⟨s, hs, rt⟩
          rw [List.mem_singleton.mp hs] at rt
          obtain ⟨h1, h2⟩ := (rt_rev rv clo hfn).mp rt
          exact ⟨h1, rt_path.mp h2⟩
        · rintro ⟨h1, h2⟩
          exact ⟨first, List.mem_singleton.mpr rfl, (rt_rev rv clo hfn).mpr ⟨h1, rt_path.mpr h2⟩⟩
      refine ⟨_, rfl, d5, _, rfl, e10, _, rfl, d2, _, rfl, e102, _, _, rfl, rfl, _, rfl, ?_⟩
      rw [dkF_len, kl2]
      refine ite2 (fun lt => ?_) fun ge2 => ?_
      · have lt := of_decide_eq_true lt
        refine ⟨d2, _, e102, trivial, fun od2 => ⟨_, rfl, d2, od2, rfl, .inl ⟨_, upd_same, fun D hD => ?_⟩⟩⟩
        have nDH := free_lock e102 hD
        have eD2 : (upd H10 d2 (.frz od2 (.dK (dkF (fun x => .ref (g8 x)) ns)))) d2 = some (.frz od2 (.dK (dkF (fun x => .ref (g8 x)) ns))) := upd_same
        have nd52 : d5 ≠ d2 := fun h => by
          rw [h] at n10
          rw [s9 _ _ ((same_upd nl2) _ _ e82)] at n10; cases n10
        have e105 : (upd H10 d2 (.frz od2 (.dK (dkF (fun x => .ref (g8 x)) ns)))) d5 = some (.dK (R2.map encE)) := keep_ne e10 nd52
        generalize hH11 : upd H10 d2 (.frz od2 (.dK (dkF (fun x => .ref (g8 x)) ns))) = H11 at hD eD2 e105 ⊢
        refine lc_it (walk_keys (d := d2) (o := od2) (kvs := dkF (fun x => .ref (g8 x)) ns)) (fun i H' => Same H11 H' ∧ H' D = some (.lst (((ns.take i).filter fun x => decide (x ∉ keysE R2)).map V.str)))
          ⟨same_upd hD, upd_same⟩ (fun i H' _ h => h.1 _ _ eD2) (fun i x0 H' H'' hi ⟨sm, e⟩ ⟨eH, kk, vv, hkv, ex0⟩ => ?_) fun H12 ⟨s12, e12⟩ => ?_
        · subst eH ex0
          obtain ⟨x, hx, rfl, rfl⟩ := dkF_at hkv
          rw [dkF_len] at hi
          refine ⟨rfl, ?_⟩
          refine ⟨_, rfl, _, rfl, d5, _, rfl, DGet.k (k := Sum.inr x) (sm _ _ e105), _, rfl, ?_⟩
          rw [val_some (encE_keys R2)]
          have ht : (ns.take (i + 1)).filter (fun x => decide (x ∉ keysE R2)) = (ns.take i).filter (fun x => decide (x ∉ keysE R2)) ++ (if x ∈ keysE R2 then [] else [x]) := by
            rw [take_mem hx, List.filter_append]
            refine congrArg (fun r : List Str => (ns.take i).filter (fun x => decide (x ∉ keysE R2)) ++ r) ?_
            by_cases c : x ∈ keysE R2 <;> simp [c]
          by_cases c : x ∈ keysE R2
          · rw [decide_eq_true c]
            refine iteF ?_
            refine ⟨sm, ?_⟩
            rw [ht, if_pos c, List.append_nil]; exact e
          · rw [decide_eq_false c]
            refine iteT ?_
            refine ⟨_, rfl, _, e, ?_, wr sm hD, ?_⟩
            · rw [List.length_map]
              exact lt_line (Nat.le_trans (List.length_filter_le ..) (by rw [List.length_take]; omega))
            · rw [upd_same, ht, if_neg c, List.map_append]; rfl
        · rw [dkF_len, List.take_length] at e12
          refine ⟨s12 _ _ eD2, ?_⟩
          have s13 : Same H10 (upd H12 d2 (.dK (dkF (fun x => .ref (g8 x)) ns))) := same_unlock (H' := H12) e102 (by rw [hH11]; exact s12)
          have nDd : D ≠ d2 := fun h => by subst h; rw [e102] at nDH; cases nDH
          have e13 : (upd H12 d2 (.dK (dkF (fun x => .ref (g8 x)) ns))) D = some (.lst ((ns.filter fun x => decide (x ∉ keysE R2)).map V.str)) := keep_ne e12 nDd
          refine ⟨D, _, rfl, .inl ⟨.inl (.inl e13), fun l3 nl3 => ?_⟩⟩
          refine q _ _ ((sm10.trans s13).trans (same_upd nl3)) (.inr ⟨l3, _, rfl, upd_same, ?_⟩)
          have memL : ∀ x, x ∈ ns.filter (fun x => decide (x ∉ keysE R2)) ↔ x ∈ ns ∧ x ∉ keysE R2 := fun x => by rw [List.mem_filter, decide_eq_true_iff]
          refine ⟨(up_asc up).sublist (List.filter_sublist ..), fun e => ?_, fun x hx => (mem x).mp ((memL x).mp hx).1, ⟨first, hfp, fun h => ((memL _).mp h).2 ((back first).mpr ⟨hfn, .here first⟩)⟩, fun v hv h => ?_⟩
          · obtain ⟨x, hx, n⟩ := short_of ndR2 inR2 (by omega) ndn
            have := (memL x).mpr ⟨hx, n⟩
            rw [e] at this; cases this
          · obtain ⟨h1, h2⟩ := (memL _).mp h
            refine (memL _).mpr ⟨(mem _).mpr (tai_place hv), fun c => h2 ?_⟩
            obtain ⟨_, p⟩ := (back _).mp c
            exact (back _).mpr ⟨h1, (Path.step (.here _) hv).trans p⟩
      · have ge2 : ¬ (((keysE R2).length : Int) < (ns.length : Int)) := fun h => ge2 (decide_eq_true h)
        refine q _ _ sm10 (.inl ⟨rfl, fun a ha c hc => ?_⟩)
        have p1 := ((back a).mp (pig_all ndR2 inR2 (by omega) ((mem a).mpr ha))).2
        exact p1.trans (all1 c ((mem c).mpr hc))
abbrev st_has_ring : Stmt := topS 23
theorem sc_has_ring : FnScope ["book"] ["book"] (defScope st_has_ring) := ⟨rfl, rfl, rfl, by decide +kernel, rfl, by decide +kernel, by decide +kernel⟩
theorem pl_has_ring : PlainB "has_ring" st_has_ring ["book"] := fun _ _ _ _ _ _ us hl => match us, hl with | [_], _ => rfl
def g_kb_has_ring_book {A : Type} : List A → List A → List A | [], [v0] => [v0] | _, _ => []
theorem kb_has_ring_book {K : PySem.W.Frag} : ∀ fd, (∃ kV doc pm an cdv ct, fd = PySem.W.fnOf "has_ring" "has_ring" (defArgs st_has_ring) (defBody st_has_ring) (defScope st_has_ring) .none kV doc pm an cdv ct) → KBinds K fd ["book"] ["book"] g_kb_has_ring_book g_kb_has_ring_book := by
  rintro fd ⟨kV, doc, pm, an, cdv, ct, rfl⟩
  refine ⟨fun s us ws _ hl => ?_, fun r q => ?_⟩
  · match us, ws, hl with
    | [], [_], _ => exact .of_eq rfl
  · match r, q with
    | .nil, (.cons a0 .nil) => exact (.cons a0 .nil)
    | .nil, .nil => exact .nil
    | .nil, (.cons _ (.cons _ _)) => exact .nil
    | .cons _ _, _ => exact .nil
def spHasRing : Sp := fun vs H Q _ => ∃ (b : Addr) (k : Nat) (ws : List Str), vs = [.ref b] ∧ BookAt H b k ws ∧ Book k ws ∧ ws.length ≤ 100 ∧ ∀ c H', Same H H' → (c = true ↔ Joined ws) → Q (.bl c) H'
theorem ok_has_ring (T : Top K mg "has_ring" st_has_ring) (D_closed_lot : Dn P w K mg base 5 "closed_lot" st_closed_lot ["book"] spClosedLot) : Dn P w K mg base 6 "has_ring" st_has_ring ["book"] spHasRing := by
  refine dn_of T sc_has_ring pl_has_ring (fun vs H Q E h => ?_) fun f cdv A outer s H vs Q E hr h => ?_
  · obtain ⟨a, _, _, rfl, _⟩ := h; rfl
  · obtain ⟨b, k, ws, rfl, bat, bk, wl, q⟩ := h
    refine ⟨_, (pss_one (ps_ret (pe_cmpR op_isN (pe_fn D_closed_lot (hr.mono (by decide)) (by rfl) (pa_cons (pv 0) pa_nil)) pe_non (nomark _)))), ?_⟩
    refine ⟨_, rfl, b, k, ws, rfl, bat, bk, wl, fun r H1 s1 lr => ⟨rfl, ?_⟩⟩
    refine q _ H1 s1 ?_
    rcases lr with ⟨rfl, j⟩ | ⟨a, lot, rfl, _, il⟩
    · exact ⟨fun _ => j, fun _ => by rfl⟩
    · exact ⟨fun h => (by cases (of_decide_eq_true h)), fun j => absurd j il.not⟩
end
end Tx

set_option Elab.async false
set_option linter.all false
set_option maxRecDepth 100000
set_option maxHeartbeats 1000000
namespace Tx
open PySem PySem.Spec PyProof.Rows L2 TL RZ
theorem big6 {m : Nat} (h : m ≤ 1000000) : m ≤ sizeLine := Nat.le_trans h (by decide)
theorem cutS_last (z : Str) (k : Nat) (hk : k ≤ z.length) (h0 : 1 ≤ k) {a : Int} (ea : a = -(k : Int)) : cutS z (some a) none = endS k z := by
  refine ext_tl ?_
  unfold cutS endS
  have e : HT.sIx z.length 0 (some (-(k : Int))) = z.length - k := by
    show (if (-(k : Int)) < 0 then (-(k : Int) + (z.length : Int)).toNat else _) = _
    rw [if_pos (by omega)]
    omega
  rw [HT.sIx_none, ea, e]
  show ((tl z).drop (z.length - k)).take (z.length - (z.length - k)) = (tl z).drop (z.length - k)
  rw [List.take_of_length_le (by rw [List.length_drop, ← len_tl]; omega)]
theorem las_at {z : Str} (h : 1 ≤ z.length) : ∃ c, atI z.cps.toList (-1) = some c ∧ lasL z = [c] := by
  refine ⟨(lasL z).headD 0, atI_last ?_ h, las_oneL h⟩
  have e := las_oneL h
  unfold lasL at e ⊢
  rw [← Nat.add_zero (z.length - 1), ← List.getElem?_drop, Nat.add_zero, e]; rfl
theorem ends_iff {t x : Str} : Txt.endswith t x = true ↔ tl x <:+ tl t := by
  unfold Txt.endswith
  rw [Bool.and_eq_true, decide_eq_true_iff, PySem.StrLaws.subAt_eq, beq_iff_eq]
  constructor
  · rintro ⟨h1, h2⟩
    refine List.suffix_iff_eq_drop.mpr ?_
    have h2 : ((tl t).drop (t.length - x.length)).take x.length = tl x := h2
    rw [List.take_of_length_le (by rw [List.length_drop, ← len_tl]; omega)] at h2
    rw [← len_tl, ← len_tl]; exact h2.symm
  · intro h
    have l := h.length_le
    rw [← len_tl, ← len_tl] at l
    refine ⟨by omega, ?_⟩
    show ((tl t).drop (t.length - x.length)).take x.length = tl x
    rw [List.take_of_length_le (by rw [List.length_drop, ← len_tl]; omega), len_tl t, len_tl x]
    exact suf_drop h
theorem kept_hit {n : Nat} {hs : List Str} {t : Str} {i : Nat} (hi : i < t.length + 1 - n) (h : mkS ((tl t).drop i) ∈ hs) (no : ∀ a, a < i → mkS ((tl t).drop a) ∉ hs) : keptS n hs t = mkS ((tl t).drop i) := by
  have e : (List.range (t.length + 1 - n)).find? (fun a => decide (mkS ((tl t).drop a) ∈ hs)) = some i := by
    refine List.find?_eq_some_iff_getElem.mpr ⟨decide_eq_true h, i, by rw [List.length_range]; exact hi, List.getElem_range .., fun j hj => ?_⟩
    rw [List.getElem_range, decide_eq_false (no j hj)]; rfl
  unfold keptS
  rw [e]
theorem kept_not {n : Nat} {hs : List Str} {t : Str} (no : ∀ a, a < t.length + 1 - n → mkS ((tl t).drop a) ∉ hs) : keptS n hs t = endS (n - 1) t := by
  have e : (List.range (t.length + 1 - n)).find? (fun a => decide (mkS ((tl t).drop a) ∈ hs)) = none := by
    refine List.find?_eq_none.mpr fun a ha => ?_
    rw [decide_eq_false (no a (List.mem_range.mp ha))]; exact Bool.false_ne_true
  unfold keptS
  rw [e]
section
variable {P : Program} {w : World} {K : PySem.W.Frag} {mg : Str → Option Value} {base : Heap}
end
end Tx

set_option Elab.async false
set_option linter.all false
set_option maxRecDepth 100000
set_option maxHeartbeats 2000000
namespace Tx
open PySem PySem.Spec PyProof.Rows L2 TL RZ
theorem heads_snoc (n : Nat) (ps : List Str) (p : Str) : headsL n (ps ++ [p]) = headsL n ps ++ (List.range (p.length - n)).map fun e => mkS ((tl p).take (n + e)) := by
  unfold headsL; rw [List.flatMap_append, List.flatMap_singleton]
/-- a dict whose keys are the heads -/
def HeadsAt (H : Hp) (d : Addr) (n : Nat) (ps : List Str) : Prop := ∃ (kvs : List (Key × V)) (ks : List Str), H d = some (.dK kvs) ∧ kvs.map (·.1) = ks.map Sum.inr ∧ ∀ x, x ∈ ks ↔ x ∈ headsL n ps
theorem adjM_ok {n : Nat} {ws ps : List Str} (M : Mach n ws ps) {s y : Str} (hs : n - 1 ≤ s.length) (h : y ∈ adjM n ws ps s) : (y ∈ placesL ws ∨ y ∈ headsL n ps) ∧ endS (n - 1) y ∈ placesL ws ∧ n - 1 ≤ y.length := by
  have n2 := M.n2
  obtain ⟨v, hv, e, ne, k, el, wr', hl⟩ := M.step hs h
  have vl := M.each v hv
  have sv : tl v <:+ tl s ++ lasL v := by
    have : tl (winR n s y) <:+ tl s ++ lasL y := endS_suf ..
    rwa [wr', el] at this
  have se : tl (endS (n - 1) y) <:+ tl s ++ lasL v := (endS_suf _ _).trans k.suf
  have st : tl (taiS v) <:+ tl s ++ lasL v := (List.drop_suffix 1 (tl v)).trans sv
  have tv : (taiS v).length = n - 1 := by unfold taiS; rw [len_mkS, List.length_drop, ← len_tl, vl]
  have ee : endS (n - 1) y = taiS v := ext_tl (suf_same se st (by rw [← len_tl, ← len_tl, endS_len hl, tv]))
  refine ⟨?_, by rw [ee]; exact tai_place hv, hl⟩
  rcases k.kind with c | c
  · exact .inr c
  · refine .inl ?_
    have : y = endS (n - 1) y := by
      refine ext_tl ?_
      show tl y = (tl y).drop _
      rw [c, Nat.sub_self]; rfl
    rw [this, ee]
    exact tai_place hv
/-- how far the web of states is laid -/
structure Laid (n : Nat) (ws ps : List Str) (ns wl : List Str) : Prop where
  nd : ns.Nodup
  pl : ∀ x ∈ placesL ws, x ∈ ns ∨ x ∈ wl
  cl : ∀ x ∈ ns, ∀ y ∈ adjM n ws ps x, y ∈ ns ∨ y ∈ wl
  ok : ∀ x, x ∈ ns ∨ x ∈ wl → (x ∈ placesL ws ∨ x ∈ headsL n ps) ∧ endS (n - 1) x ∈ placesL ws ∧ n - 1 ≤ x.length
theorem Laid.old {n : Nat} {ws ps ns wl : List Str} {x : Str} (h : Laid n ws ps ns (wl ++ [x])) (hx : x ∈ ns) : Laid n ws ps ns wl := by
  have back : ∀ z, z ∈ ns ∨ z ∈ wl ++ [x] → z ∈ ns ∨ z ∈ wl := fun z hz => by
    rcases hz with hz | hz
    · exact .inl hz
    · rcases List.mem_append.mp hz with hz | hz
      · exact .inr hz
      · rw [List.mem_singleton.mp hz]; exact .inl hx
  exact ⟨h.nd, fun z hz => back z (h.pl z hz), fun z hz y hy => back y (h.cl z hz y hy), fun z hz => h.ok z (hz.imp id fun m => List.mem_append_left _ m)⟩
theorem Laid.new {n : Nat} {ws ps ns wl : List Str} {x : Str} (M : Mach n ws ps) (h : Laid n ws ps ns (wl ++ [x])) (hx : x ∉ ns) : Laid n ws ps (ns ++ [x]) (wl ++ adjM n ws ps x) := by
  have back : ∀ z, z ∈ ns ∨ z ∈ wl ++ [x] → z ∈ ns ++ [x] ∨ z ∈ wl ++ adjM n ws ps x := fun z hz => by
    rcases hz with hz | hz
    · exact .inl (List.mem_append_left _ hz)
    · rcases List.mem_append.mp hz with hz | hz
      · exact .inr (List.mem_append_left _ hz)
      · exact .inl (List.mem_append_right _ hz)
  have hxl := (h.ok x (.inr (List.mem_append_right _ (List.mem_singleton.mpr rfl)))).2.2
  refine ⟨List.nodup_append.mpr ⟨h.nd, List.nodup_cons.mpr ⟨by simp, List.nodup_nil⟩, fun a ha b hb e => hx (by rw [← List.mem_singleton.mp hb, ← e]; exact ha)⟩, fun z hz => back z (h.pl z hz), fun z hz y hy => ?_, fun z hz => ?_⟩
  · rcases List.mem_append.mp hz with hz | hz
    · exact back y (h.cl z hz y hy)
    · rw [List.mem_singleton.mp hz] at hy
      exact .inr (List.mem_append_right _ hy)
  · rcases hz with hz | hz
    · rcases List.mem_append.mp hz with hz | hz
      · exact h.ok z (.inl hz)
      · rw [List.mem_singleton.mp hz]; exact h.ok x (.inr (List.mem_append_right _ (List.mem_singleton.mpr rfl)))
    · rcases List.mem_append.mp hz with hz | hz
      · exact h.ok z (.inr (List.mem_append_left _ hz))
      · exact adjM_ok M hxl hz
theorem filter_snoc {xs : List Str} {p : Str → Bool} {i : Nat} {x : Str} (h : xs[i]? = some x) : (xs.take (i + 1)).filter p = (xs.take i).filter p ++ (if p x = true then [x] else []) := by
  rw [take_mem h, List.filter_append]
  refine congrArg (fun r : List Str => (xs.take i).filter p ++ r) ?_
  by_cases c : p x = true <;> simp [c]
theorem dkF_list (f : Str → V) (ns : List Str) : (dkF f ns).map (fun kv => kV kv.1) = ns.map V.str := by unfold dkF; rw [List.map_map]; rfl
theorem adjM_len (n : Nat) (ws ps : List Str) (x : Str) : (adjM n ws ps x).length ≤ ws.length := by
  unfold adjM textsM begW
  rw [List.length_map]
  refine Nat.le_trans (List.length_filter_le ..) ?_
  rw [List.length_map]; exact List.length_filter_le ..
section
variable {P : Program} {w : World} {K : PySem.W.Frag} {mg : Str → Option Value} {base : Heap}
end
end Tx

set_option Elab.async false
set_option linter.all false
set_option maxRecDepth 100000
set_option maxHeartbeats 2000000
namespace Tx
open PySem PySem.Spec PyProof.Rows L2 TL RZ
section
variable {P : Program} {w : World} {K : PySem.W.Frag} {mg : Str → Option Value} {base : Heap}
end
end Tx

set_option Elab.async false
set_option linter.all false
set_option maxRecDepth 100000
set_option maxHeartbeats 2000000
namespace Tx
open PySem PySem.Spec PyProof.Rows L2 TL RZ
theorem Wlk.inn {adj : Str → List Str} {K : List Str} (cl : ∀ x ∈ K, ∀ y ∈ adj x, y ∈ K) : ∀ {l : List Str} {a : Str}, a ∈ K → Wlk adj (a :: l) → ∀ z ∈ a :: l, z ∈ K
  | [], a, ha, _, z, hz => by rw [List.mem_singleton.mp hz]; exact ha
  | b :: l, a, ha, h, z, hz => by
    rcases List.mem_cons.mp hz with rfl | hz
    · exact ha
    · exact Wlk.inn cl (cl a ha b (h 0 a b rfl rfl)) (fun j x y hx hy => h (j + 1) x y hx hy) z hz
theorem cutV_tail' (xs : List Str) : cutV (xs.map V.str) (some (1 : Int)) none = xs.tail.map V.str := by
  rw [cutV_tail, ← List.map_drop, List.drop_one]
section
variable {P : Program} {w : World} {K : PySem.W.Frag} {mg : Str → Option Value} {base : Heap}
end
end Tx

set_option Elab.async false
set_option linter.all false
set_option maxRecDepth 100000
set_option maxHeartbeats 2000000
namespace Tx
open PySem PySem.Spec PyProof.Rows L2 TL RZ
theorem lt_lineB {n : Nat} (h : n ≤ 1000000) : n < sizeLine := Nat.lt_of_le_of_lt h (by decide)
theorem head_map {xs : List Str} {v : Str} (h : xs[0]? = some v) : atI (xs.map V.str) 0 = some (V.str v) := atI_pos (by decide) (by rw [List.getElem?_map]; show (xs[0]?).map V.str = _; rw [h]; rfl)
theorem filter_inr (ls : List Str) (x : Str) : (ls.map (Sum.inr : Str → Key)).filter (fun y => decide (y ≠ (Sum.inr x : Key))) = (ls.filter fun y => decide (y ≠ x)).map Sum.inr := by
  rw [List.filter_map]
  refine congrArg (List.map (Sum.inr : Str → Key)) (List.filter_congr fun y _ => ?_)
  by_cases c : y = x
  · subst c; simp
  · have : (Sum.inr y : Key) ≠ Sum.inr x := fun h => c (Sum.inr.inj h)
    simp [c, this]
theorem len_pos_empty {A B : Type} {xs : List A} {ys : List B} (h : xs.length = ys.length) : xs.isEmpty = ys.isEmpty := by
  cases xs <;> cases ys <;> first | rfl | cases h
/-- what is walked and what is left -/
structure Onw (n : Nat) (ws ks : List Str) (adj : Str → List Str) (m0 : Str) (wk ls : List Str) (c : Str) : Prop where
  w : Wlk adj wk
  hd : wk = m0 :: wk.tail
  last : wk.getLast? = some c
  inn : ∀ z ∈ wk, z ∈ ks
  sub : ∀ v ∈ ls, v ∈ ws
  nd : ls.Nodup
  rd : ∀ v ∈ ws, v ∈ ls ∨ Rd2 n wk v
theorem Onw.go {n : Nat} {ws ks : List Str} {adj : Str → List Str} {m0 c y : Str} {wk ls : List Str} (o : Onw n ws ks adj m0 wk ls c) (hy : y ∈ adj c) (hk : y ∈ ks) : Onw n ws ks adj m0 (wk ++ [y]) (ls.filter fun v => decide (v ≠ winR n c y)) y := by
  refine ⟨o.w.snoc o.last hy, ?_, by simp, fun z hz => ?_, fun v hv => o.sub v (List.mem_filter.mp hv).1, o.nd.sublist (List.filter_sublist ..), fun v hv => ?_⟩
  · rw [o.hd]; rfl
  · rcases List.mem_append.mp hz with hz | hz
    · exact o.inn z hz
    · rw [List.mem_singleton.mp hz]; exact hk
  · by_cases c' : v = winR n c y
    · rw [c']; exact .inr (Rd2.snoc o.last)
    · rcases o.rd v hv with h | h
      · exact .inl (List.mem_filter.mpr ⟨h, decide_eq_true c'⟩)
      · exact .inr (h.app _)
section
variable {P : Program} {w : World} {K : PySem.W.Frag} {mg : Str → Option Value} {base : Heap}
end
end Tx

set_option Elab.async false
set_option linter.all false
set_option maxRecDepth 100000
set_option maxHeartbeats 2000000
namespace Tx
open PySem PySem.Spec PyProof.Rows L2 TL RZ
def mergeS (ks more : List Str) : List Str := more.foldl (fun a x => if x ∈ a then a else a ++ [x]) ks
theorem merge_keys (f : Str → V) : ∀ (more : List Str) {kvs : List (Key × V)} {ks : List Str}, kvs.map (·.1) = ks.map Sum.inr → (mergeK kvs (dkF f more)).map (·.1) = (mergeS ks more).map Sum.inr
  | [], _, _, e => e
  | x :: more, kvs, ks, e => merge_keys f more (keys_put e x (f x))
theorem mem_mergeS : ∀ (more : List Str) {ks : List Str} {y : Str}, y ∈ mergeS ks more ↔ y ∈ ks ∨ y ∈ more
  | [], ks, y => by show y ∈ ks ↔ _; simp
  | x :: more, ks, y => by
    show y ∈ mergeS (if x ∈ ks then ks else ks ++ [x]) more ↔ _
    rw [mem_mergeS more, mem_ite, List.mem_cons, or_assoc]
theorem nd_mergeS : ∀ (more : List Str) {ks : List Str}, ks.Nodup → (mergeS ks more).Nodup
  | [], _, h => h
  | x :: more, ks, h => nd_mergeS more (nd_ite h)
/-- what lot_without tells -/
def LotW (n : Nat) (ws ps : List Str) (H H' : Hp) (r : V) : Prop :=
  (r = .non ∧ ∃ ns, Laid n ws ps ns [] ∧ ∀ s ∈ ns, ¬ Reads n ws ps s) ∨ ∃ d ks adj, r = .ref d ∧ H d = none ∧ DL H' d ks adj ∧ GoodLot n ws ps ks adj ∧ ks.length ≤ 1200 ∧ ∀ x ∈ ks, x.length ≤ 199 ∧ (x ∈ placesL ws ∨ x ∈ headsL n ps)
theorem rt_in {adj : Str → List Str} {ns bs : List Str} {x a b : Str} (clo : ∀ u ∈ ns, ∀ y ∈ adj u, y ∈ ns) (bsm : ∀ z, z ∈ bs ↔ z ∈ ns ∧ RT adj z x) (ha : a ∈ ns) (h : RT adj a b) : RT adj b x → RT (fun u => (adj u).filter fun y => decide (y ∈ bs)) a b := by
  induction h with
  | here => intro _; exact .here
  | @step u v hu hv ih =>
    intro hb
    have un : u ∈ ns := hu.closed ha fun z hz y hy => clo z hz y hy
    refine .step (ih (RT.trans (.step .here hv) hb)) (List.mem_filter.mpr ⟨hv, decide_eq_true ((bsm v).mpr ⟨clo u un v hv, hb⟩)⟩)
section
variable {P : Program} {w : World} {K : PySem.W.Frag} {mg : Str → Option Value} {base : Heap}
def RingW (n : Nat) (ws ps : List Str) (r : V) : Prop :=
  (r = .non ∧ ∃ ns, Laid n ws ps ns [] ∧ ∀ s ∈ ns, ¬ Reads n ws ps s) ∨ ∃ (z : Str) (ks : List Str), r = .str z ∧ Low z ∧ 1 ≤ z.length ∧ z.length ≤ (ws.length + 1) * ks.length ∧ ks.Nodup ∧ ks.length ≤ 1200 ∧ (∀ x ∈ ks, x ∈ placesL ws ∨ x ∈ headsL n ps) ∧ (∀ v, v ∈ turns n (tl z) ↔ v ∈ ws) ∧ ∀ p ∈ ps, ¬ Stands (tl z) (tl p)
theorem no_ring {n : Nat} {ws ps ns : List Str} {l : List Nat} (M : Mach n ws ps) (la : Laid n ws ps ns []) (no : ∀ s ∈ ns, ¬ Reads n ws ps s) (R : RingIn n ws ps l) (all : ∀ v ∈ ws, v ∈ turns n l) : False := by
  obtain ⟨s', hs, rd⟩ := R.reads (ns := ns) M all (fun x hx => (la.pl x hx).resolve_right fun h => by cases h) fun x hx y hy => (la.cl x hx y hy).resolve_right fun h => by cases h
  exact no s' hs rd
theorem joined_reads {n : Nat} {ws : List Str} (bk : Book n ws) : (Joined ws ↔ ∃ s ∈ placesL ws, Reads n ws [] s) ∧ ∀ l, RingIn n ws [] l → (∀ v ∈ ws, v ∈ turns n l) → Joined ws := by
  have n2 := bk.n2
  have each : ∀ v ∈ ws, v.length = n := fun v hv => (bk.each v hv).2
  have M : Mach n ws [] := ⟨n2, each, fun _ h => by cases h⟩
  have plen : ∀ x ∈ placesL ws, x.length = n - 1 := fun x hx => by
    rcases List.mem_append.mp hx with hx | hx <;> obtain ⟨v, hv, rfl⟩ := List.mem_map.mp hx <;> have := each v hv
    · unfold iniS; rw [len_mkS, List.length_take, ← len_tl]; omega
    · unfold taiS; rw [len_mkS, List.length_drop, ← len_tl]; omega
  have adjE : ∀ x ∈ placesL ws, adjM n ws [] x = adjP ws x := fun x hx => adjM_nil n2 each (plen x hx)
  have clP : ∀ x ∈ placesL ws, ∀ y ∈ adjP ws x, y ∈ placesL ws := fun x _ y hy => by
    obtain ⟨v, hv, _, rfl⟩ := mem_adjP.mp hy
    exact tai_place hv
  have rtE : ∀ {a b : Str}, a ∈ placesL ws → (RT (adjM n ws []) a b ↔ RT (adjP ws) a b) := fun {a b} ha => by
    constructor
    · intro h
      have : RT (adjP ws) a b ∧ b ∈ placesL ws := by
        induction h with
        | here => exact ⟨.here, ha⟩
        | step _ hv ih =>
          rw [adjE _ ih.2] at hv
          exact ⟨.step ih.1 hv, clP _ ih.2 _ hv⟩
      exact this.1
    · intro h
      have : RT (adjM n ws []) a b ∧ b ∈ placesL ws := by
        induction h with
        | here => exact ⟨.here, ha⟩
        | step _ hv ih => exact ⟨.step ih.1 (by rw [adjE _ ih.2]; exact hv), clP _ ih.2 _ hv⟩
      exact this.1
  have reads : Joined ws ↔ ∃ s ∈ placesL ws, Reads n ws [] s := by
    constructor
    · intro j
      have one := bk.one
      obtain ⟨w0, hw0⟩ : ∃ w0, w0 ∈ ws := ⟨ws[0], List.getElem_mem (by omega)⟩
      refine ⟨iniS w0, ini_place hw0, fun v hv => ?_⟩
      have k : ∀ x ∈ placesL ws, Kin (adjM n ws []) (iniS w0) x := fun x hx => ⟨(rtE (ini_place hw0)).mpr (rt_path.mpr (j _ (ini_place hw0) _ hx)), (rtE hx).mpr (rt_path.mpr (j _ hx _ (ini_place hw0)))⟩
      have hm : taiS v ∈ adjM n ws [] (iniS v) := by rw [adjE _ (ini_place hv)]; exact mem_adjP.mpr ⟨v, hv, rfl, rfl⟩
      refine ⟨iniS v, taiS v, k _ (ini_place hv), k _ (tai_place hv), hm, ?_⟩
      have vl := each v hv
      have tl1 : (taiS v).length = n - 1 := plen _ (tai_place hv)
      unfold winR
      have e : mkS (tl (iniS v) ++ lasL (taiS v)) = v := by
        refine ext_tl ?_
        have : lasL (taiS v) = lasL v := las_suf (List.drop_suffix 1 (tl v)) (by omega)
        rw [tl_mkS, this, ← ini_las]
      rw [e]
      refine ext_tl ?_
      show (tl v).drop _ = tl v
      rw [vl, Nat.sub_self]; rfl
    · rintro ⟨s0, hs0, rd⟩ a ha c hc
      have kin : ∀ x ∈ placesL ws, Kin (adjM n ws []) s0 x := fun x hx => by
        have both : ∀ v ∈ ws, Kin (adjM n ws []) s0 (iniS v) ∧ Kin (adjM n ws []) s0 (taiS v) := fun v hv => by
          obtain ⟨z, y, kz, ky, hy, e⟩ := rd v hv
          have hz : z ∈ placesL ws := by
            have := (rtE hs0).mp kz.1
            exact (rt_path.mp this).place hs0
          have hy' := hy
          rw [adjE z hz] at hy'
          obtain ⟨u, hu, e1, e2⟩ := mem_adjP.mp hy'
          obtain ⟨u2, hu2, _, _, _, _, wu, _⟩ := M.step (by rw [plen z hz]; exact Nat.le_refl _) hy
          have ul := each u hu
          have wr' : winR n z y = u := by
            unfold winR
            have e : mkS (tl z ++ lasL y) = u := by
              refine ext_tl ?_
              have : lasL (taiS u) = lasL u := las_suf (List.drop_suffix 1 (tl u)) (by have := plen _ (tai_place hu); omega)
              rw [tl_mkS, ← e1, ← e2, this, ← ini_las]
            rw [e]
            refine ext_tl ?_
            show (tl u).drop _ = tl u
            rw [ul, Nat.sub_self]; rfl
          have uv : u = v := wr'.symm.trans e
          subst uv
          rw [← e1] at kz
          rw [← e2] at ky
          exact ⟨kz, ky⟩
        rcases List.mem_append.mp hx with hx | hx <;> obtain ⟨v, hv, rfl⟩ := List.mem_map.mp hx
        · exact (both v hv).1
        · exact (both v hv).2
      exact rt_path.mp ((rtE ha).mp ((kin a ha).2.trans (kin c hc).1))
  refine ⟨reads, fun l R all => reads.mpr ?_⟩
  exact R.reads M all (fun x hx => hx) fun x hx y hy => by rw [adjE x hx] at hy; exact clP x hx y hy
theorem joined_few {ws ks : List Str} (j : Joined ws) (one : 1 ≤ ws.length) (nd : ks.Nodup) (sub : ∀ x ∈ ks, x ∈ placesL ws) : ks.length ≤ ws.length := by
  have : ∀ x ∈ placesL ws, x ∈ ws.map iniS := fun x hx => by
    obtain ⟨w0, hw0⟩ : ∃ w0, w0 ∈ ws := ⟨ws[0], List.getElem_mem (by omega)⟩
    have h := j x hx (iniS w0) (ini_place hw0)
    have gen : ∀ {y : Str}, Path ws x y → x = y ∨ x ∈ ws.map iniS := fun {y} hy => by
      induction hy with
      | here => exact .inl rfl
      | @step v _ hv ih =>
        rcases ih with e | e
        · exact .inr (List.mem_map.mpr ⟨v, hv, e.symm⟩)
        · exact .inr e
    rcases gen h with e | e
    · rw [e]; exact List.mem_map.mpr ⟨w0, hw0, rfl⟩
    · exact e
  have := pig ks (ws.map iniS) nd fun x hx => this x (sub x hx)
  rwa [List.length_map] at this
def SomeR (n : Nat) (ws : List Str) (r : V) : Prop := (r = .non ∧ ¬ Joined ws) ∨ ∃ z : Str, r = .str z ∧ Joined ws ∧ Low z ∧ 1 ≤ z.length ∧ z.length ≤ (ws.length + 1) * ws.length ∧ ∀ v, v ∈ turns n (tl z) ↔ v ∈ ws
end
end Tx

set_option Elab.async false
set_option linter.all false
set_option maxRecDepth 100000
set_option maxHeartbeats 1000000
namespace Tx
open PySem PySem.Spec PyProof.Rows L2 TL
section
variable {P : Program} {w : World} {K : PySem.W.Frag} {mg : Str → Option Value} {base : Heap}
abbrev st_law_pick : Stmt := topS 35
theorem sc_law_pick : FnScope ["source", "top", "found", "mixed"] ["source", "top"] (defScope st_law_pick) := ⟨rfl, rfl, rfl, by decide +kernel, rfl, by decide +kernel, by decide +kernel⟩
theorem pl_law_pick : PlainB "_law_pick" st_law_pick ["source", "top"] := fun _ _ _ _ _ _ us hl => match us, hl with | [_, _], _ => rfl
/-- a number below top -/
def spPick : Sp := fun vs H Q _ => ∃ (p : Addr) (top : Int) (n : Nat), vs = [.ref p, .int top] ∧ Src H p n ∧ n ≤ 1000000000 ∧ 1 ≤ top ∧ top ≤ 1000000000 ∧ ∀ r H', 0 ≤ r → r < top → Src H' p (n + 1) → But p H H' → Q (.int r) H'
theorem ok_law_pick (T : Top K mg "_law_pick" st_law_pick) (B : Bt mg) : Dn P w K mg base 1 "_law_pick" st_law_pick ["source", "top"] spPick := by
  refine dn_of T sc_law_pick pl_law_pick (fun vs H Q E h => ?_) fun f cdv A outer s H vs Q E hr h => ?_
  · obtain ⟨n, z, _, rfl, _⟩ := h; rfl
  · obtain ⟨p, top, n, rfl, ⟨a, b, c, e, b0, b1, c0, c1⟩, hn, t1, t2, q⟩ := h
    have sq : SqL K H p [.int a, .int b, .int c] := .inl (.inl e)
    refine ⟨_, (pss_cons (ps_if (pt_cmpR op_gt (pe_ix (ixK K rfl) (pv 0) pe_int (fun _ _ => rfl)) pe_int (nomark _)) (pss_cons (ps_set (i := 2) sc_law_pick.nd rfl (.inl rfl) (pe_op op_modN (pe_callTy call_int1 (by rfl) B.int (by decide +kernel) (pa_cons (pe_ix (ixK K rfl) (pv 0) pe_int (fun _ _ => rfl)) pa_nil)) (pv 1)))
      (pss_cons (ps_asg (pe_op op_fdivN (pe_ix (ixK K rfl) (pv 0) pe_int (fun _ _ => rfl)) (pv 1)) (pg_sub (pv 0) pe_int set_list))
      (pss_one (ps_ret (pv 2))))) pss_nil)
      (pss_cons (ps_asg (pe_op op_add (pe_ix (ixK K rfl) (pv 0) pe_int (fun _ _ => rfl)) pe_int) (pg_sub (pv 0) pe_int set_list))
      (pss_cons (ps_set (i := 3) sc_law_pick.nd rfl (.inl rfl) (pe_op op_modN (pe_callTy call_int1 (by rfl) B.int (by decide +kernel) (pa_cons (pe_op op_add (pe_op op_add (pe_ix (ixK K rfl) (pv 0) pe_int (fun _ _ => rfl)) (pe_op op_mulW (pe_op op_mulW pe_int (pe_ix (ixK K rfl) (pv 0) pe_int (fun _ _ => rfl))) (pe_ix (ixK K rfl) (pv 0) pe_int (fun _ _ => rfl)))) (pe_op op_mulW pe_int (pe_ix (ixK K rfl) (pv 0) pe_int (fun _ _ => rfl)))) pa_nil)) (pe_op op_add (pe_op op_pow pe_int pe_int) pe_int)))
      (pss_cons (ps_set (i := 3) sc_law_pick.nd rfl (.inl rfl) (pe_op op_modN (pe_callTy call_int1 (by rfl) B.int (by decide +kernel) (pa_cons (pe_op op_add (pe_op op_mulW (pe_op op_mulW (pv 3) (pv 3)) (pv 3)) (pe_ix (ixK K rfl) (pv 0) pe_int (fun _ _ => rfl))) pa_nil)) (pe_op op_add (pe_op op_pow pe_int pe_int) pe_int)))
      (pss_one (ps_ret (pe_op op_modN (pe_op op_fdivN (pe_op op_modN (pe_callTy call_int1 (by rfl) B.int (by decide +kernel) (pa_cons (pe_op op_mulW (pv 3) (pe_op op_add (pv 3) pe_int)) pa_nil)) (pe_op op_add (pe_op op_pow pe_int pe_int) pe_int)) pe_int) (pv 1)))))))), ?_⟩
    refine ⟨_, rfl, p, _, _, _, rfl, rfl, sq, at0, _, _, rfl, rfl, _, rfl, ?_⟩
    refine ite2 (fun ha => ?_) fun ha => ?_
    · refine ⟨_, rfl, p, _, _, _, rfl, rfl, sq, at0, .inl ⟨_, rfl, _, rfl, _, _, rfl, rfl, by omega, ?_⟩⟩
      refine ⟨_, rfl, p, _, _, _, rfl, rfl, sq, at0, _, rfl, _, _, rfl, rfl, ⟨by omega, by omega⟩, _, rfl, p, _, _, 0, rfl, rfl, e, rfl, _, rfl, ?_⟩
      have m := fmod_bd (i := a) (j := top) (by omega)
      exact q _ _ m.1 m.2 ⟨_, b, c, upd_same, b0, b1, c0, by omega⟩ But.upd
    · refine ⟨_, rfl, p, _, _, _, rfl, rfl, sq, at2, _, _, rfl, rfl, _, rfl, p, _, _, 2, rfl, rfl, e, rfl, ?_⟩
      have e1 : (upd H p (.lst ([V.int a, .int b, .int c].set 2 (.int (c + 1))))) p = some (.lst [V.int a, .int b, .int (c + 1)]) := upd_same
      have sq1 : SqL K (upd H p (.lst ([V.int a, .int b, .int c].set 2 (.int (c + 1))))) p [V.int a, .int b, .int (c + 1)] := .inl (.inl e1)
      have lc : (c + 1).natAbs < 2 ^ 31 := nat_lt (by omega) (by omega)
      refine ⟨_, rfl, p, _, _, _, rfl, rfl, sq1, at1, _, rfl, p, _, _, _, rfl, rfl, sq1, at2, _, _, rfl, rfl, ?w1, _, rfl, p, _, _, _, rfl, rfl, sq1, at2, _, _, rfl, rfl, ?w2, _, _, rfl, rfl,
        _, rfl, p, _, _, _, rfl, rfl, sq1, at2, _, _, rfl, rfl, ?w3, _, _, rfl, rfl, .inl ⟨_, rfl, _, _, rfl, rfl, ⟨by decide, by decide, by decide⟩, _, _, rfl, rfl, _, _, rfl, rfl, show (10 : Int) ^ Int.toNat 30 + 57 ≠ 0 by decide, ?_⟩⟩
      case w1 => exact wide_mul (a := 40) (by decide) lc (by decide) (by decide) (by decide)
      case w2 => exact wide_mul (a := 71) (wide_lt (a := 40) (by decide) lc) lc (by decide) (by decide) (by decide)
      case w3 => exact wide_mul (a := 40) (by decide) lc (by decide) (by decide) (by decide)
      dsimp only
      generalize hx : Int.fmod _ ((10 : Int) ^ Int.toNat 30 + 57) = x
      have bx : 0 ≤ x ∧ x < 10 ^ 30 + 57 := by rw [← hx]; exact fmod_bd (by decide)
      have lx : x.natAbs < 2 ^ 100 := nat_lt bx.1 (Int.lt_trans bx.2 (by decide))
      refine ⟨_, rfl, _, rfl, _, _, rfl, rfl, wide_mul (a := 100) (b := 100) lx lx (by decide) (by decide) (by decide), _, rfl, _, _, rfl, rfl, wide_mul (a := 200) (b := 100) (wide_lt (a := 100) (b := 100) lx lx) lx (by decide) (by decide) (by decide),
        _, rfl, p, _, _, _, rfl, rfl, sq1, at2, _, _, rfl, rfl, .inl ⟨_, rfl, _, _, rfl, rfl, ⟨by decide, by decide, by decide⟩, _, _, rfl, rfl, _, _, rfl, rfl, show (10 : Int) ^ Int.toNat 31 + 33 ≠ 0 by decide, ?_⟩⟩
      dsimp only
      generalize hy : Int.fmod _ ((10 : Int) ^ Int.toNat 31 + 33) = y
      have byy : 0 ≤ y ∧ y < 10 ^ 31 + 33 := by rw [← hy]; exact fmod_bd (by decide)
      have ly : y.natAbs < 2 ^ 110 := nat_lt byy.1 (Int.lt_trans byy.2 (by decide))
      have ly2 : (y + 104729).natAbs < 2 ^ 110 := nat_lt (by omega) (Int.lt_trans (show y + 104729 < 10 ^ 31 + 33 + 104729 by omega) (by decide))
      refine ⟨_, rfl, _, rfl, _, _, rfl, rfl, _, _, rfl, rfl, wide_mul (a := 110) (b := 110) ly ly2 (by decide) (by decide) (by decide), .inl ⟨_, rfl, _, _, rfl, rfl, ⟨by decide, by decide, by decide⟩, _, _, rfl, rfl, _, _, rfl, rfl, show (10 : Int) ^ Int.toNat 32 + 49 ≠ 0 by decide,
        _, _, rfl, rfl, ⟨by decide, by decide⟩, _, rfl, _, _, rfl, rfl, by omega, ?_⟩⟩
      dsimp only
      generalize Int.fdiv _ 7919 = r
      have m := fmod_bd (i := r) (j := top) (by omega)
      exact q _ _ m.1 m.2 ⟨a, b, c + 1, upd_same, b0, b1, by omega, by omega⟩ But.upd
abbrev st_law_source : Stmt := topS 34
theorem sc_law_source : FnScope ["script", "k", "cell", "total", "other"] ["script", "k"] (defScope st_law_source) := ⟨rfl, rfl, rfl, by decide +kernel, rfl, by decide +kernel, by decide +kernel⟩
theorem pl_law_source : PlainB "_law_source" st_law_source ["script", "k"] := fun _ _ _ _ _ _ us hl => match us, hl with | [_, _], _ => rfl
def spSource (K : PySem.W.Frag) : Sp := fun vs H Q _ => ∃ (a : Addr) (ns : List Int) (k : Nat), vs = [.ref a, .int k] ∧ SqL K H a (ns.map V.int) ∧ ns.length ≤ 63 ∧ k ≤ 100 ∧ ∀ p H', H p = none → Same H H' → Src H' p 0 → Q (.ref p) H'
theorem ok_law_source (T : Top K mg "_law_source" st_law_source) (B : Bt mg) : Dn P w K mg base 1 "_law_source" st_law_source ["script", "k"] (spSource K) := by
  refine dn_of T sc_law_source pl_law_source (fun vs H Q E h => ?_) fun f cdv A outer s H vs Q E hr h => ?_
  · obtain ⟨a, ns, k, rfl, _⟩ := h; rfl
  · obtain ⟨a, ns, k, rfl, sq, hn, hk, q⟩ := h
    refine ⟨_, (pss_cons (ps_set (i := 2) sc_law_source.nd rfl (.inl rfl) (pe_op op_add (pe_op op_mul pe_int (pv 1)) pe_int))
      (pss_cons (ps_if (pt_cmpR op_lt (pv 1) (pe_callB (lenK K rfl) (by rfl) B.len (by decide +kernel) (pa_cons (pv 0) pa_nil)) (nomark _)) (pss_one (ps_set (i := 2) sc_law_source.nd rfl (.inl rfl) (pe_ix (ixK K rfl) (pv 0) (pv 1) (fun _ _ => rfl)))) pss_nil)
      (pss_cons (ps_set (i := 3) sc_law_source.nd rfl (.inl rfl) (pe_callB (lenK K rfl) (by rfl) B.len (by decide +kernel) (pa_cons (pv 0) pa_nil)))
      (pss_cons (ps_for PassesOwn.never rfl (pi_list (pv 0)) (pg_name (i := 4) sc_law_source.nd rfl (.inl rfl)) (pss_one (ps_set (i := 3) sc_law_source.nd rfl (.inl rfl) (pe_op op_modN (pe_callTy call_int1 (by rfl) B.int (by decide +kernel) (pa_cons (pe_op op_add (pe_op op_mul (pv 3) pe_int) (pe_op op_modN (pe_callTy call_int1 (by rfl) B.int (by decide +kernel) (pa_cons (pv 4) pa_nil)) (pe_op op_add (pe_op op_pow pe_int pe_int) pe_int))) pa_nil)) (pe_op op_add (pe_op op_pow pe_int pe_int) pe_int)))))
      (pss_one (ps_ret (pe_lst (pa_cons (pe_callB (call_max2 rfl) (by rfl) B.max (by decide +kernel) (pa_cons pe_int (pa_cons (pe_op op_sub (pv 2) (pe_op op_pow pe_int pe_int)) pa_nil))) (pa_cons (pe_op op_modN (pe_callTy call_int1 (by rfl) B.int (by decide +kernel) (pa_cons (pe_op op_add (pe_op op_add (pe_op op_add (pe_op op_mul (pe_callB call_abs (by rfl) B.abs (by decide +kernel) (pa_cons (pv 2) pa_nil)) pe_int) (pe_op op_mul pe_int (pv 3))) (pe_callTy call_int1 (by rfl) B.int (by decide +kernel) (pa_cons (pe_cmpR op_lt (pv 2) pe_int (nomark _)) pa_nil))) (pe_op op_mul pe_int (pv 1))) pa_nil)) (pe_op op_add (pe_op op_pow pe_int pe_int) pe_int)) (pa_cons pe_int pa_nil)))))))))), ?_⟩
    refine ⟨_, rfl, _, _, rfl, rfl, .inl ⟨by decide, by decide⟩, _, _, rfl, rfl, ?_⟩
    dsimp only [gName]
    refine seq_if (fun σ H' => H = H' ∧ ∃ x, σ = [some (.ref a), some (.int k), some (.int x), none, none]) ?rest fun kk => ?now
    case now =>
      refine ⟨_, rfl, _, rfl, a, _, rfl, .inl sq, _, _, rfl, rfl, _, rfl, ?_⟩
      refine ite2 (fun lt => ?_) fun _ => ?_
      · have lt := of_decide_eq_true lt
        rw [List.length_map] at lt
        have e : (ns.map V.int)[k]? = some (V.int (ns[k]'(by omega))) := by rw [List.getElem?_map, List.getElem?_eq_getElem (by omega)] <;> rfl
        exact ⟨_, rfl, _, rfl, a, _, _, _, rfl, rfl, sq, atI_pos (by omega) e, kk _ _ ⟨rfl, _, rfl⟩⟩
      · exact kk _ _ ⟨rfl, _, rfl⟩
    rintro σ0 H0 ⟨rfl, x, rfl⟩
    refine ⟨_, rfl, a, _, rfl, .inl sq, ?_⟩
    refine ⟨_, rfl, a, rfl, ⟨_, sq⟩, for_list (K := K) (a := a) (xs := ns.map V.int) (fun i σ H' => H' = H ∧ ∃ t o, σ = [some (.ref a), some (.int k), some (.int x), some (.int t), o]) ⟨rfl, _, none, rfl⟩ (fun _ _ _ _ h => by rw [h.1]; exact sq) (fun i y σ H' hi ⟨eH, t, o, eσ⟩ => ?_) fun σ H' ⟨eH, t, o, eσ⟩ => ?_⟩
    · subst eH eσ
      obtain ⟨z, rfl⟩ := ints_flat ns hi
      refine ⟨_, rfl, _, _, rfl, rfl, .inr ⟨by decide, by decide⟩, _, rfl, .inl ⟨_, rfl, _, _, rfl, rfl, ⟨by decide, by decide, by decide⟩, _, _, rfl, rfl, _, _, rfl, rfl, show (10 : Int) ^ Int.toNat 21 + 117 ≠ 0 by decide,
        _, _, rfl, rfl, .inl ⟨_, rfl, _, _, rfl, rfl, ⟨by decide, by decide, by decide⟩, _, _, rfl, rfl, _, _, rfl, rfl, show (10 : Int) ^ Int.toNat 27 + 103 ≠ 0 by decide, ?_⟩⟩⟩
      exact ⟨rfl, _, _, rfl⟩
    · subst eH eσ
      refine ⟨_, rfl, _, _, rfl, rfl, ⟨by decide, by decide, by decide⟩, _, _, rfl, rfl, _, _, rfl, ?_⟩
      refine ⟨_, rfl, _, rfl, _, _, rfl, rfl, .inr ⟨by decide, by decide⟩, _, rfl, _, _, rfl, rfl, .inl ⟨by decide, by decide⟩, _, _, rfl, rfl, _, rfl, _, _, rfl, rfl, .inr ⟨_, rfl, _, _, rfl, rfl,
        _, rfl, _, _, rfl, rfl, .inl ⟨by decide, by decide⟩, _, _, rfl, rfl, .inl ⟨_, rfl, _, _, rfl, rfl, ⟨by decide, by decide, by decide⟩, _, _, rfl, rfl, _, _, rfl, rfl, show (10 : Int) ^ Int.toNat 30 + 57 ≠ 0 by decide, ?_⟩⟩⟩
      refine ⟨by show 3 ≤ sizeLine; decide, fun p np => q p _ np (same_upd np) ⟨_, _, 0, upd_same, ?_, ?_, by decide, by decide⟩⟩
      · exact (fmod_bd (by decide)).1
      · exact Int.lt_trans (fmod_bd (by decide)).2 (by decide)
abbrev st_law_letters : Stmt := topS 36
theorem sc_law_letters : FnScope ["source", "letters", "size", "turn"] ["source", "letters", "size"] (defScope st_law_letters) := ⟨rfl, rfl, rfl, by decide +kernel, rfl, by decide +kernel, by decide +kernel⟩
theorem pl_law_letters : PlainB "_law_letters" st_law_letters ["source", "letters", "size"] := fun _ _ _ _ _ _ us hl => match us, hl with | [_, _, _], _ => rfl
def spLets : Sp := fun vs H Q _ => ∃ (p : Addr) (L : Str) (k n : Nat), vs = [.ref p, .str L, .int k] ∧ Src H p n ∧ Lets L ∧ k ≤ 100000 ∧ n ≤ 100000000 ∧ ∀ z H', z.length = k → Low z → Src H' p (n + k) → But p H H' → Q (.str z) H'
theorem ok_law_letters (T : Top K mg "_law_letters" st_law_letters) (B : Bt mg) (D_law_pick : Dn P w K mg base 1 "_law_pick" st_law_pick ["source", "top"] spPick) : Dn P w K mg base 2 "_law_letters" st_law_letters ["source", "letters", "size"] spLets := by
  refine dn_of T sc_law_letters pl_law_letters (fun vs H Q E h => ?_) fun f cdv A outer s H vs Q E hr h => ?_
  · obtain ⟨a, ns, _, _, rfl, _⟩ := h; rfl
  · obtain ⟨p, L, k, n, rfl, sr, ⟨lo, l1, l2⟩, hk, hn, q⟩ := h
    refine ⟨_, (pss_one (ps_ret (joinK K rfl pe_str (pe_lc (own := [("turn", 3)]) (g := gName 3) rfl sc_law_letters.nd (pi_range1 (by rfl) B.range (pa_cons (pv 2) pa_nil)) (blkOk_by (N := ["source", "letters", "size", "turn"]) (sc := defScope st_law_letters) (by decide +kernel)) (fun _ _ _ _ _ => (pg_name (i := 3) sc_law_letters.nd rfl (.inl rfl))) (fun _ _ _ _ _ => pts_nil) (fun _ _ _ _ _ => (pe_ix ix_str (pv 1) (pe_fn D_law_pick (hr.mono (by decide)) (by rfl) (pa_cons (pv 0) (pa_cons (pe_callB call_len_str (by rfl) B.len (by decide +kernel) (pa_cons (pv 1) pa_nil)) pa_nil))) (fun _ _ => rfl))))))), ?_⟩
    refine ⟨⟨_, rfl⟩, _, rfl, _, rfl, by omega, by omega, fun D hD => ?_⟩
    obtain ⟨o, eo⟩ := sr.at
    have ne : D ≠ p := (ne_of_none eo hD).symm
    rw [Int.toNat_natCast]
    refine lc_range (fun i H' => Src H' p (n + i) ∧ But p H H' ∧ ∃ l : List Nat, l.length = i ∧ (∀ c ∈ l, 97 ≤ c ∧ c ≤ 122) ∧ H' D = some (.lst ((l.map fun c => (⟨#[c]⟩ : Str)).map V.str))) ?_ (fun i H' hi ⟨sr', bt, l, el, hl, eD⟩ => ?_) fun H' ⟨sr', bt, l, el, hl, eD⟩ => ?_
    · exact ⟨sr.new hD, But.refl.mk hD, [], rfl, (fun c z => by cases z), upd_same⟩
    · refine ⟨rfl, lc_yes ?_⟩
      refine ⟨_, rfl, _, rfl, _, rfl, _, rfl, Nat.le_trans l2 (by decide), p, L.length, n + i, rfl, sr', by omega, by omega, by omega, fun r H2 r0 r1 sr2 bt2 => ?_⟩
      have lt : r.toNat < (tl L).length := by rw [← len_tl]; omega
      refine ⟨L, r, (tl L)[r.toNat], rfl, rfl, Nat.le_trans l2 (by decide), atI_pos r0 (List.getElem?_eq_getElem lt), _, bt2 _ _ eD ne, ?_, ?_⟩
      · rw [List.length_map, List.length_map, el]; exact Nat.lt_of_lt_of_le (show i < 100000 by omega) (by decide)
      · refine ⟨?_, (bt.trans bt2).mk hD, l ++ [(tl L)[r.toNat]], by rw [List.length_append, el]; rfl, fun c hc => ?_, ?_⟩
        · obtain ⟨a, b, c, e, rest⟩ := sr2
          exact ⟨a, b, c, by rw [upd_ne ne.symm]; exact e, rest⟩
        · rcases List.mem_append.mp hc with hc | hc
          · exact hl c hc
          · rw [List.mem_singleton.mp hc]; exact lo _ (List.getElem_mem lt)
        · rw [upd_same, List.map_append, List.map_append]; rfl
    · refine ⟨Str.ofString "", D, l.map fun c => (⟨#[c]⟩ : Str), rfl, rfl, .inl (.inl (.inl eD)), ?_, ?_⟩
      · rw [sum_one, el, str_e]; show k + _ * 0 ≤ _; omega
      · rw [join_e, flat_one]
        exact q (mkS l) H' (by rw [len_mkS, el]) hl sr' bt
end
end Tx

set_option Elab.async false
set_option linter.all false
set_option maxRecDepth 100000
set_option maxHeartbeats 1000000
namespace Tx
open PySem PySem.Spec PyProof.Rows L2 TL
def ones (l : List Nat) : List Str := l.map fun c => ⟨#[c]⟩
theorem erase_map {α β : Type} (f : α → β) : ∀ (l : List α) (j : Nat), (l.map f).eraseIdx j = (l.eraseIdx j).map f
  | [], _ => rfl
  | _ :: _, 0 => rfl
  | x :: l, j + 1 => by
    show f x :: (l.map f).eraseIdx j = f x :: (l.eraseIdx j).map f
    rw [erase_map f l j]
theorem ones_len (l : List Nat) : (ones l).length = l.length := List.length_map ..
theorem ones_vlen (l : List Nat) : ((ones l).map V.str).length = l.length := by rw [List.length_map, ones_len]
theorem ones_at {l : List Nat} {i c : Nat} (h : l[i]? = some c) : ((ones l).map V.str)[i]? = some (.str ⟨#[c]⟩) := by
  unfold ones; rw [List.getElem?_map, List.getElem?_map, h]; rfl
theorem abc_signs : signs (Str.ofString "abcdefghijklmnopqrstuvwxyz") = ones ((List.range 26).map (· + 97)) := by rw [abc_e]; rfl
theorem abc_low : ∀ c ∈ (List.range 26).map (· + 97), 97 ≤ c ∧ c ≤ 122 := by decide
/-- taking the one at r -/
theorem pop_one {cs : List Nat} {r : Int} (r0 : 0 ≤ r) (r1 : r < cs.length) : ∃ j c, seqIndex? r ((ones cs).map V.str).length = some j ∧ ((ones cs).map V.str)[j]? = some (.str ⟨#[c]⟩) ∧ c ∈ cs ∧ ((ones cs).map V.str).eraseIdx j = (ones (cs.eraseIdx j)).map V.str ∧ (cs.eraseIdx j).length + 1 = cs.length := by
  have lt : r.toNat < cs.length := by omega
  obtain ⟨j, h1, h2, h3, h4, h5⟩ := atI_get (atI_pos (xs := (ones cs).map V.str) r0 (ones_at (List.getElem?_eq_getElem lt)))
  rw [ones_vlen] at h3
  have e2 : V.str (⟨#[cs[r.toNat]]⟩ : Str) = .str ⟨#[cs[j]]⟩ := by
    rw [ones_at (List.getElem?_eq_getElem h3)] at h2
    injection h2 with h2
    exact h2.symm
  refine ⟨j, cs[j], h1, by rw [h2, e2], List.getElem_mem h3, ?_, by rw [List.length_eraseIdx_of_lt h3]; omega⟩
  unfold ones
  rw [erase_map, erase_map]
theorem low_snoc {z : Str} {c : Nat} (h : Low z) (hc : 97 ≤ c ∧ c ≤ 122) : Low (z ++ (⟨#[c]⟩ : Str)) := low_app h fun d hd => by
  have e : d = c := List.mem_singleton.mp hd
  rw [e]; exact hc
theorem low_e : Low (Str.ofString "") := by rw [str_e]; intro c hc; cases hc
section
variable {P : Program} {w : World} {K : PySem.W.Frag} {mg : Str → Option Value} {base : Heap}
abbrev st_law_chorded : Stmt := topS 37
theorem sc_law_chorded : FnScope ["source", "left", "found", "turn"] ["source"] (defScope st_law_chorded) := ⟨rfl, rfl, rfl, by decide +kernel, rfl, by decide +kernel, by decide +kernel⟩
theorem pl_law_chorded : PlainB "_law_chorded" st_law_chorded ["source"] := fun _ _ _ _ _ _ us hl => match us, hl with | [_], _ => rfl
/-- a text of 2 to 130 small letters -/
def spChord : Sp := fun vs H Q _ => ∃ (p : Addr) (n : Nat), vs = [.ref p] ∧ Src H p n ∧ n ≤ 100000000 ∧ ∀ z H', Low z → 1 ≤ z.length → z.length ≤ 100 → Src H' p (n + 100) → But p H H' → Q (.str z) H'
theorem ok_law_chorded (T : Top K mg "_law_chorded" st_law_chorded) (B : Bt mg) (D_law_pick : Dn P w K mg base 1 "_law_pick" st_law_pick ["source", "top"] spPick) : Dn P w K mg base 2 "_law_chorded" st_law_chorded ["source"] spChord := by
  refine dn_of T sc_law_chorded pl_law_chorded (fun vs H Q E h => ?_) fun f cdv A outer s H vs Q E hr h => ?_
  · obtain ⟨a, _, rfl, _⟩ := h; rfl
  · obtain ⟨p, n, rfl, sr, hn, q⟩ := h
    obtain ⟨o, eo⟩ := id sr.at
    refine ⟨_, (pss_cons (ps_par (i := 1) (j := 2) (by rfl) sc_law_chorded.nd rfl rfl (by decide) rfl rfl (pa_cons (pe_callTy (cr_listTK rfl) (by rfl) B.list (by decide +kernel) (pa_cons pe_str pa_nil)) (pa_cons pe_str pa_nil)) (by rfl))
      (pss_cons (ps_for PassesOwn.never rfl (pi_range1 (by rfl) B.range (pa_cons (pe_op op_add pe_int (pe_fn D_law_pick (hr.mono (by decide)) (by rfl) (pa_cons (pv 0) (pa_cons pe_int pa_nil)))) pa_nil)) (pg_name (i := 3) sc_law_chorded.nd rfl (.inl rfl)) (pss_one (ps_set (i := 2) sc_law_chorded.nd rfl (.inl rfl) (pe_op op_add_str (pv 2) (pe_bm PySem.F.plainAttrs_list PySem.F.slot_list_pop PySem.F.type_list_pop mt_popAt (pv 1) (pa_cons (pe_fn D_law_pick (hr.mono (by decide)) (by rfl) (pa_cons (pv 0) (pa_cons (pe_callB (lenK K rfl) (by rfl) B.len (by decide +kernel) (pa_cons (pv 1) pa_nil)) pa_nil))) pa_nil))))))
      (pss_one (ps_ret (pe_op op_add_str (pe_op op_add_str (pv 2) (pe_slice sl_str (pv 2) po_none (po_some (pe_op op_add pe_int (pe_fn D_law_pick (hr.mono (by decide)) (by rfl) (pa_cons (pv 0) (pa_cons (pe_callB call_len_str (by rfl) B.len (by decide +kernel) (pa_cons (pv 2) pa_nil)) pa_nil))))))) (pe_slice sl_str (pv 2) (po_some (pe_fn D_law_pick (hr.mono (by decide)) (by rfl) (pa_cons (pv 0) (pa_cons (pe_callB call_len_str (by rfl) B.len (by decide +kernel) (pa_cons (pv 2) pa_nil)) pa_nil)))) po_none)))))), ?_⟩
    refine ⟨Str.ofString "abcdefghijklmnopqrstuvwxyz", rfl, by decide +kernel, fun L nL => ?_⟩
    rw [abc_signs]
    have nLp : L ≠ p := (ne_of_none eo nL).symm
    have sr0 := sr.new (o := .lst ((ones ((List.range 26).map (· + 97))).map V.str)) nL
    have bt0 : But p H (upd H L (.lst ((ones ((List.range 26).map (· + 97))).map V.str))) := But.refl.mk nL
    have eL0 : (upd H L (.lst ((ones ((List.range 26).map (· + 97))).map V.str))) L = some (.lst ((ones ((List.range 26).map (· + 97))).map V.str)) := upd_same
    generalize upd H L (.lst ((ones ((List.range 26).map (· + 97))).map V.str)) = H0 at sr0 bt0 eL0 ⊢
    refine ⟨_, _, rfl, _, rfl, p, 24, n, rfl, sr0, by omega, by decide, by decide, fun r H1 r0 r1 sr1 bt1 => ⟨_, _, rfl, rfl, _, rfl, by omega, by omega, ?_⟩⟩
    have eL1 := bt1.kept eL0 nLp
    have bt01 := bt0.trans bt1
    refine for_range (fun i σ H' => ∃ (cs : List Nat) (z : Str) (o3 : Option V), σ = [some (.ref p), some (.ref L), some (.str z), o3] ∧ H' L = some (.lst ((ones cs).map V.str)) ∧ cs.length + i = 26 ∧ (∀ c ∈ cs, 97 ≤ c ∧ c ≤ 122) ∧ Low z ∧ z.length = i ∧ Src H' p (n + 1 + i) ∧ But p H H')
      ⟨_, _, none, rfl, eL1, rfl, abc_low, low_e, by rw [str_e]; rfl, sr1, bt01⟩ (fun i σ H' hi ⟨cs, z, o3, eσ, eL, l1, lw, lz, zl, sr', bt'⟩ => ?_) fun σ H' ⟨cs, z, o3, eσ, eL, l1, lw, lz, zl, sr', bt'⟩ => ?_
    · subst eσ
      refine ⟨_, rfl, _, rfl, .inl ⟨rfl, _, .inl (.inl eL)⟩, _, rfl, _, rfl, L, _, rfl, .inl (.inl (.inl eL)), p, (((ones cs).map V.str).length : Int), n + 1 + i, rfl, sr', by omega, by rw [ones_vlen]; omega, by rw [ones_vlen]; omega, fun r2 H2 a0 a1 sr2 bt2 => ?_⟩
      rw [ones_vlen] at a1
      obtain ⟨j, c, h1, h2, hc, h4, h5⟩ := pop_one a0 a1
      have eL2 := bt2.kept eL nLp
      refine ⟨L, _, r2, j, _, rfl, rfl, eL2, by omega, by omega, h1, h2, _, _, rfl, rfl, by show z.length + 1 ≤ sizeLine; exact big6 (by omega), ?_⟩
      rw [h4]
      refine ⟨cs.eraseIdx j, z ++ (⟨#[c]⟩ : Str), _, rfl, upd_same, by omega, fun d hd => lw d (List.mem_of_mem_eraseIdx hd), low_snoc lz (lw c hc), by rw [len_app, zl]; rfl, (sr2.set nLp).mono (by omega), fun b u e ne => ?_⟩
      have x := (bt'.trans bt2) b u e ne
      have bL : b ≠ L := fun h => by rw [h, nL] at e; cases e
      rw [upd_ne bL]; exact x
    · subst eσ
      have z1 : 3 ≤ z.length := by omega
      have z2 : z.length ≤ 26 := by omega
      have sz : z.length ≤ sizeLine := big6 (by omega)
      refine ⟨_, rfl, _, rfl, ?_⟩
      dsimp only [tNoPart]
      refine ⟨_, rfl, _, rfl, z, rfl, sz, p, (z.length : Int), _, rfl, sr', by omega, by omega, by omega, fun r2 H2 a0 a1 sr2 bt2 => ⟨_, _, rfl, rfl, _, rfl, z, rfl, sz, ?_⟩⟩
      rw [show ((1 : Int) + r2) = (((1 + r2).toNat : Nat) : Int) by omega, cutS_to z _ (by omega)]
      have e1 : (mkS ((tl z).take (1 + r2).toNat)).length = (1 + r2).toNat := len_take (by omega)
      refine ⟨_, _, rfl, rfl, by rw [e1]; exact big6 (by omega), _, rfl, _, rfl, _, rfl, z, rfl, sz, p, (z.length : Int), _, rfl, sr2, by omega, by omega, by omega, fun r3 H3 b0 b1 sr3 bt3 => ?_⟩
      dsimp only [tNoPart]
      obtain ⟨a, ea⟩ : ∃ a : Nat, r3 = (a : Int) := ⟨r3.toNat, by omega⟩
      subst ea
      refine ⟨_, rfl, z, rfl, sz, ?_⟩
      have ez : cutS z (some (a : Int)) none = mkS ((tl z).drop a) := cutS_from z a (by omega)
      rw [ez]
      have e2 : (mkS ((tl z).drop a)).length = z.length - a := by rw [len_mkS, List.length_drop, ← len_tl]
      have e3 : (z ++ mkS ((tl z).take (1 + r2).toNat)).length = z.length + (1 + r2).toNat := by rw [len_app, e1]
      refine ⟨_, _, rfl, rfl, by rw [e3, e2]; exact big6 (by omega), ?_⟩
      exact q _ H3 (low_app (low_app lz (low_take lz _)) (low_drop lz _)) (by rw [len_app, e3, e2]; omega) (by rw [len_app, e3, e2]; omega) (sr3.mono (by omega)) ((bt'.trans bt2).trans bt3)
abbrev st_law_starred : Stmt := topS 38
theorem sc_law_starred : FnScope ["source", "left", "found", "middle", "turn"] ["source"] (defScope st_law_starred) := ⟨rfl, rfl, rfl, by decide +kernel, rfl, by decide +kernel, by decide +kernel⟩
theorem pl_law_starred : PlainB "_law_starred" st_law_starred ["source"] := fun _ _ _ _ _ _ us hl => match us, hl with | [_], _ => rfl
theorem ok_law_starred (T : Top K mg "_law_starred" st_law_starred) (B : Bt mg) (D_law_pick : Dn P w K mg base 1 "_law_pick" st_law_pick ["source", "top"] spPick) : Dn P w K mg base 2 "_law_starred" st_law_starred ["source"] spChord := by
  refine dn_of T sc_law_starred pl_law_starred (fun vs H Q E h => ?_) fun f cdv A outer s H vs Q E hr h => ?_
  · obtain ⟨a, _, rfl, _⟩ := h; rfl
  · obtain ⟨p, n, rfl, sr, hn, q⟩ := h
    obtain ⟨o, eo⟩ := id sr.at
    refine ⟨_, (pss_cons (ps_par (i := 1) (j := 2) (by rfl) sc_law_starred.nd rfl rfl (by decide) rfl rfl (pa_cons (pe_callTy (cr_listTK rfl) (by rfl) B.list (by decide +kernel) (pa_cons pe_str pa_nil)) (pa_cons pe_str pa_nil)) (by rfl))
      (pss_cons (ps_set (i := 3) sc_law_starred.nd rfl (.inl rfl) (pe_bm PySem.F.plainAttrs_list PySem.F.slot_list_pop PySem.F.type_list_pop mt_popAt (pv 1) (pa_cons (pe_fn D_law_pick (hr.mono (by decide)) (by rfl) (pa_cons (pv 0) (pa_cons pe_int pa_nil))) pa_nil)))
      (pss_cons (ps_for PassesOwn.never rfl (pi_range1 (by rfl) B.range (pa_cons (pe_op op_add pe_int (pe_fn D_law_pick (hr.mono (by decide)) (by rfl) (pa_cons (pv 0) (pa_cons pe_int pa_nil)))) pa_nil)) (pg_name (i := 4) sc_law_starred.nd rfl (.inl rfl)) (pss_one (ps_set (i := 2) sc_law_starred.nd rfl (.inl rfl) (pe_op op_add_str (pe_op op_add_str (pv 2) (pv 3)) (pe_bm PySem.F.plainAttrs_list PySem.F.slot_list_pop PySem.F.type_list_pop mt_popAt (pv 1) (pa_cons (pe_fn D_law_pick (hr.mono (by decide)) (by rfl) (pa_cons (pv 0) (pa_cons (pe_callB (lenK K rfl) (by rfl) B.len (by decide +kernel) (pa_cons (pv 1) pa_nil)) pa_nil))) pa_nil))))))
      (pss_one (ps_ret (pv 2)))))), ?_⟩
    refine ⟨Str.ofString "abcdefghijklmnopqrstuvwxyz", rfl, by decide +kernel, fun L nL => ?_⟩
    rw [abc_signs]
    have nLp : L ≠ p := (ne_of_none eo nL).symm
    have sr0 := sr.new (o := .lst ((ones ((List.range 26).map (· + 97))).map V.str)) nL
    have bt0 : But p H (upd H L (.lst ((ones ((List.range 26).map (· + 97))).map V.str))) := But.refl.mk nL
    have eL0 : (upd H L (.lst ((ones ((List.range 26).map (· + 97))).map V.str))) L = some (.lst ((ones ((List.range 26).map (· + 97))).map V.str)) := upd_same
    generalize upd H L (.lst ((ones ((List.range 26).map (· + 97))).map V.str)) = H0 at sr0 bt0 eL0 ⊢
    have abl := abc_low
    have ab26 : ((List.range 26).map (· + 97)).length = 26 := rfl
    generalize (List.range 26).map (· + 97) = abc at eL0 abl ab26 ⊢
    refine ⟨_, _, rfl, _, rfl, .inl ⟨rfl, _, .inl (.inl eL0)⟩, _, rfl, p, 26, n, rfl, sr0, by omega, by decide, by decide, fun rm Hm m0 m1 srm btm => ?_⟩
    obtain ⟨jm, cm, hm1, hm2, hcm, hm4, hm5⟩ := pop_one (cs := abc) m0 (by rw [ab26]; exact m1)
    have eLm := btm.kept eL0 nLp
    refine ⟨L, _, rm, jm, _, rfl, rfl, eLm, by omega, by omega, hm1, hm2, ?_⟩
    rw [hm4]
    have eL1 : (upd Hm L (.lst ((ones (abc.eraseIdx jm)).map V.str))) L = some (.lst ((ones (abc.eraseIdx jm)).map V.str)) := upd_same
    have sr1 := srm.set (o := .lst ((ones (abc.eraseIdx jm)).map V.str)) nLp
    have bt1 : But p H (upd Hm L (.lst ((ones (abc.eraseIdx jm)).map V.str))) := fun b u e ne => by
      have x := (bt0.trans btm) b u e ne
      have bL : b ≠ L := fun h => by rw [h, nL] at e; cases e
      rw [upd_ne bL]; exact x
    generalize upd Hm L (.lst ((ones (abc.eraseIdx jm)).map V.str)) = H1 at eL1 sr1 bt1 ⊢
    refine ⟨_, rfl, p, 18, _, rfl, sr1, by omega, by decide, by decide, fun r H2 r0 r1 sr2 bt2 => ⟨_, _, rfl, rfl, _, rfl, by omega, by omega, ?_⟩⟩
    refine for_range (fun i σ H' => ∃ (cs : List Nat) (z : Str) (o4 : Option V), σ = [some (.ref p), some (.ref L), some (.str z), some (.str ⟨#[cm]⟩), o4] ∧ H' L = some (.lst ((ones cs).map V.str)) ∧ cs.length + i = 25 ∧ (∀ c ∈ cs, 97 ≤ c ∧ c ≤ 122) ∧ Low z ∧ z.length = 2 * i ∧ Src H' p (n + 2 + i) ∧ But p H H')
      ⟨_, _, none, rfl, bt2.kept eL1 nLp, by omega, fun d hd => abl d (List.mem_of_mem_eraseIdx hd), low_e, by rw [str_e]; rfl, sr2.mono (by omega), bt1.trans bt2⟩ (fun i σ H' hi ⟨cs, z, o4, eσ, eL, l1, lw, lz, zl, sr', bt'⟩ => ?_) fun σ H' ⟨cs, z, o4, eσ, eL, l1, lw, lz, zl, sr', bt'⟩ => ?_
    · subst eσ
      refine ⟨_, rfl, _, rfl, _, _, rfl, rfl, by show z.length + 1 ≤ sizeLine; exact big6 (by omega), _, rfl, .inl ⟨rfl, _, .inl (.inl eL)⟩, _, rfl, _, rfl, L, _, rfl, .inl (.inl (.inl eL)), p, (((ones cs).map V.str).length : Int), n + 2 + i, rfl, sr', by omega, by rw [ones_vlen]; omega, by rw [ones_vlen]; omega, fun r2 H3 a0 a1 sr3 bt3 => ?_⟩
      rw [ones_vlen] at a1
      obtain ⟨j, c, h1, h2, hc, h4, h5⟩ := pop_one a0 a1
      have eL3 := bt3.kept eL nLp
      have e1 : (z ++ (⟨#[cm]⟩ : Str)).length = 2 * i + 1 := by rw [len_app, zl]; rfl
      refine ⟨L, _, r2, j, _, rfl, rfl, eL3, by omega, by omega, h1, h2, _, _, rfl, rfl, by rw [e1]; exact big6 (show 2 * i + 1 + 1 ≤ 1000000 by omega), ?_⟩
      rw [h4]
      refine ⟨cs.eraseIdx j, z ++ (⟨#[cm]⟩ : Str) ++ (⟨#[c]⟩ : Str), _, rfl, upd_same, by omega, fun d hd => lw d (List.mem_of_mem_eraseIdx hd), low_snoc (low_snoc lz (abl cm hcm)) (lw c hc), by rw [len_app, e1]; rfl, (sr3.set nLp).mono (by omega), fun b u e ne => ?_⟩
      have x := (bt'.trans bt3) b u e ne
      have bL : b ≠ L := fun h => by rw [h, nL] at e; cases e
      rw [upd_ne bL]; exact x
    · subst eσ
      exact ⟨_, rfl, q _ H' lz (by omega) (by omega) (sr'.mono (by omega)) bt'⟩
abbrev st_law_size : Stmt := topS 42
theorem sc_law_size : FnScope ["source"] ["source"] (defScope st_law_size) := ⟨rfl, rfl, rfl, by decide +kernel, rfl, by decide +kernel, by decide +kernel⟩
theorem pl_law_size : PlainB "_law_size" st_law_size ["source"] := fun _ _ _ _ _ _ us hl => match us, hl with | [_], _ => rfl
def spLSize : Sp := fun vs H Q _ => ∃ (p : Addr) (n : Nat), vs = [.ref p] ∧ Src H p n ∧ n ≤ 100000000 ∧ ∀ (k : Nat) H', 2 ≤ k → k ≤ 6 → Src H' p (n + 1) → But p H H' → Q (.int k) H'
def sizesL : List Nat := [2, 2, 2, 3, 3, 4, 5, 6]
theorem sizes_ok : ∀ k ∈ sizesL, 2 ≤ k ∧ k ≤ 6 := by decide
theorem ok_law_size (T : Top K mg "_law_size" st_law_size) (D_law_pick : Dn P w K mg base 1 "_law_pick" st_law_pick ["source", "top"] spPick) : Dn P w K mg base 2 "_law_size" st_law_size ["source"] spLSize := by
  refine dn_of T sc_law_size pl_law_size (fun vs H Q E h => ?_) fun f cdv A outer s H vs Q E hr h => ?_
  · obtain ⟨a, _, rfl, _⟩ := h; rfl
  · obtain ⟨p, n, rfl, sr, hn, q⟩ := h
    refine ⟨_, (pss_one (ps_ret (pe_ix (ixK K rfl) (pe_lst (pa_cons pe_int (pa_cons pe_int (pa_cons pe_int (pa_cons pe_int (pa_cons pe_int (pa_cons pe_int (pa_cons pe_int (pa_cons pe_int pa_nil))))))))) (pe_fn D_law_pick (hr.mono (by decide)) (by rfl) (pa_cons (pv 0) (pa_cons pe_int pa_nil))) (fun _ _ => rfl)))), ?_⟩
    refine ⟨by show 8 ≤ sizeLine; decide, fun m nm => ?_⟩
    refine ⟨_, rfl, p, 8, n, rfl, sr.new nm, by omega, by decide, by decide, fun r H' r0 r1 sr' bt => ?_⟩
    obtain ⟨o, eo⟩ := sr.at
    have em : H' m = some (.lst (sizesL.map fun k => V.int (k : Nat))) := bt m _ upd_same (ne_of_none eo nm).symm
    obtain ⟨L, eL⟩ : ∃ L, sizesL[r.toNat]? = some L := ⟨_, List.getElem?_eq_getElem (show r.toNat < sizesL.length by show _ < 8; omega)⟩
    refine ⟨m, _, r, V.int L, rfl, rfl, .inl (.inl em), atI_pos r0 ?_, ?_⟩
    · rw [List.getElem?_map, eL]; rfl
    · obtain ⟨a1, a2⟩ := sizes_ok L (List.mem_of_getElem? eL)
      exact q L H' a1 a2 sr' (But.trans (Same.but (same_upd nm)) bt)
end
end Tx

set_option Elab.async false
set_option linter.all false
set_option maxRecDepth 100000
set_option maxHeartbeats 1000000
namespace Tx
open PySem PySem.Spec PyProof.Rows L2 TL RZ
theorem cut_rep {l : List Nat} {t a n : Nat} (hl : 0 < l.length) (ht : 1 ≤ t) (h : a + n ≤ t * l.length) : cut (rep t l) a n = seg l a n := by
  have e := rep_seg (l := l) ht hl
  have := cut_seg (l := l) (x := rep t l) (a := 0) (i := a) (n := n) (by rw [rep_len]; exact e) (by rw [rep_len]; exact h)
  rw [this, Nat.zero_add]
theorem dkF_rep {f f' : Str → V} {ys : List Str} {x : Str} {v : V} (h : x ∈ ys) (h1 : f' x = v) (h2 : ∀ z, z ≠ x → f' z = f z) : putK (dkF f ys) (Sum.inr x : Key) v = dkF f' ys := by
  have hs : (dkF f ys).any (fun kv => decide (kv.1 = (Sum.inr x : Key))) = true := by
    rw [List.any_eq_true]
    exact ⟨(Sum.inr x, f x), List.mem_map.mpr ⟨x, h, rfl⟩, by simp⟩
  unfold putK
  rw [if_pos hs]
  unfold dkF
  rw [List.map_map]
  refine List.map_congr_left fun z _ => ?_
  by_cases c : z = x
  · subst c; simp [h1]
  · have : ¬ ((Sum.inr z : Key) = Sum.inr x) := fun e => c (Sum.inr.inj e)
    simp [this, h2 z c, c]
theorem take_begW {ws : List Str} {i : Nat} {v : Str} (h : ws[i]? = some v) (x : Str) : begW (ws.take (i + 1)) x = begW (ws.take i) x ++ (if iniS v = x then [v] else []) := by
  unfold begW
  rw [take_mem h, List.filter_append]
  refine congrArg (fun r : List Str => (ws.take i).filter (fun v => decide (iniS v = x)) ++ r) ?_
  by_cases c : iniS v = x <;> simp [c]
section
variable {P : Program} {w : World} {K : PySem.W.Frag} {mg : Str → Option Value} {base : Heap}
abbrev st_law_round : Stmt := topS 40
theorem sc_law_round : FnScope ["size", "ring", "text", "at"] ["size", "ring"] (defScope st_law_round) := ⟨rfl, rfl, rfl, by decide +kernel, rfl, by decide +kernel, by decide +kernel⟩
theorem pl_law_round : PlainB "_law_round" st_law_round ["size", "ring"] := fun _ _ _ _ _ _ us hl => match us, hl with | [_, _], _ => rfl
def spRound : Sp := fun vs H Q _ => ∃ (n : Nat) (z : Str), vs = [.int n, .str z] ∧ n ≤ 1000 ∧ 1 ≤ z.length ∧ z.length ≤ 100000 ∧ ∀ p H', H p = none → Same H H' → H' p = some (.lst ((turns n (tl z)).map V.str)) → Q (.ref p) H'
theorem ok_law_round (T : Top K mg "_law_round" st_law_round) (B : Bt mg) : Dn P w K mg base 1 "_law_round" st_law_round ["size", "ring"] spRound := by
  refine dn_of T sc_law_round pl_law_round (fun vs H Q E h => ?_) fun f cdv A outer s H vs Q E hr h => ?_
  · obtain ⟨a, ns, rfl, _⟩ := h; rfl
  · obtain ⟨n, z, rfl, hn, z1, hz, q⟩ := h
    have sl : z.length ≤ sizeLine := Nat.le_trans hz (by decide)
    have ez : (z.length : Int) ≠ 0 := by omega
    have hl : 0 < (tl z).length := by rw [← len_tl]; omega
    refine ⟨_, (pss_cons (ps_set (i := 2) sc_law_round.nd rfl (.inr rfl) (pe_op op_mulS (pv 1) (pe_op op_add (pe_op op_fdivN (pv 0) (pe_callB call_len_str (by rfl) B.len (by decide +kernel) (pa_cons (pv 1) pa_nil))) pe_int)))
      (pss_one (ps_ret (pe_lc (own := [("at", 3)]) (g := gName 3) rfl sc_law_round.nd (pi_range1 (by rfl) B.range (pa_cons (pe_callB call_len_str (by rfl) B.len (by decide +kernel) (pa_cons (pv 1) pa_nil)) pa_nil)) (blkOk_by (N := ["size", "ring", "text", "at"]) (sc := defScope st_law_round) (by decide +kernel)) (fun _ _ _ _ _ => (pg_name (i := 3) sc_law_round.nd rfl (.inl rfl))) (fun _ _ _ _ _ => pts_nil) (fun _ _ _ _ _ => (pe_slice sl_str (pv 2) (po_some (pv 3)) (po_some (pe_op op_add (pv 3) (pv 0))))))))), ?_⟩
    obtain ⟨d, hd⟩ : ∃ d, d = n / z.length := ⟨_, rfl⟩
    have e1 : (n : Int).fdiv (z.length : Int) = (d : Int) := by
      rw [Int.fdiv_eq_ediv_of_nonneg _ (by omega), hd]; rfl
    have e3 : z.length * d ≤ n := by rw [hd]; exact Nat.mul_div_le n z.length
    have e7 := Nat.div_add_mod n z.length
    have e8 := Nat.mod_lt n (show 0 < z.length by omega)
    rw [← hd] at e7
    have e2 : ((d : Int) + 2).toNat = d + 2 := by omega
    have e5 : z.length * (d + 2) = z.length * d + z.length * 2 := Nat.mul_add _ _ _
    have e6 : (mkS (rep (d + 2) (tl z))).length = z.length * d + z.length * 2 := by
      rw [len_mkS, rep_len, ← len_tl, Nat.mul_comm, e5]
    have e9 : (mkS (rep (d + 2) (tl z))).length ≤ sizeLine := by rw [e6]; exact big6 (by omega)
    have big : ∀ a, a < z.length → a + n ≤ (d + 2) * (tl z).length := fun a ha => by
      rw [← len_tl, Nat.mul_comm, e5]; omega
    refine ⟨_, rfl, _, rfl, _, rfl, z, rfl, sl, _, _, rfl, rfl, ⟨ez, by show (z.length : Int).natAbs < _; omega⟩, _, _, rfl, rfl, ?_⟩
    rw [e1]
    have e4 : d ≤ n := by rw [hd]; exact Nat.div_le_self _ _
    refine ⟨_, _, rfl, rfl, by omega, by omega, by rw [e2, e5]; omega, ?_⟩
    rw [e2]
    refine ⟨_, rfl, z, rfl, sl, _, rfl, by omega, by omega, fun D hD => ?_⟩
    rw [Int.toNat_natCast]
    refine lc_range (fun i H' => Same H H' ∧ H' D = some (.lst ((List.range i).map fun a => V.str (mkS (seg (tl z) a n))))) ⟨same_upd hD, upd_same⟩ (fun i H' hi ⟨sm, e⟩ => ?_) fun H' ⟨sm, e⟩ => ?_
    · refine ⟨rfl, lc_yes ?_⟩
      refine ⟨_, rfl, _, rfl, _, rfl, _, rfl, _, rfl, _, _, rfl, rfl, _, rfl, mkS (rep (d + 2) (tl z)), rfl, e9, _, e, grown_len _ hi (by omega), wr sm hD, ?_⟩
      rw [upd_same, show ((0 : Int) + (i : Int)) = (i : Int) by omega, cutS_mid (mkS (rep (d + 2) (tl z))) i n (by rw [e6]; omega), tl_mkS, cut_rep hl (by omega) (big i hi), grown fun a => V.str (mkS (seg (tl z) a n))]
    · refine q D H' hD sm ?_
      rw [e]
      unfold turns
      rw [← len_tl, List.map_map]
      rfl
abbrev st_law_book : Stmt := topS 41
theorem sc_law_book : FnScope ["size", "ring"] ["size", "ring"] (defScope st_law_book) := ⟨rfl, rfl, rfl, by decide +kernel, rfl, by decide +kernel, by decide +kernel⟩
theorem pl_law_book : PlainB "_law_book" st_law_book ["size", "ring"] := fun _ _ _ _ _ _ us hl => match us, hl with | [_, _], _ => rfl
def spLBook : Sp := fun vs H Q _ => ∃ (n : Nat) (z : Str), vs = [.int n, .str z] ∧ 2 ≤ n ∧ n ≤ 6 ∧ Low z ∧ 1 ≤ z.length ∧ z.length ≤ 3000 ∧ ∀ b ws H', H b = none → Same H H' → BookAt H' b n ws → Book n ws → Up ws (turns n (tl z)) → Q (.ref b) H'
theorem ok_law_book (T : Top K mg "_law_book" st_law_book) (B : Bt mg) (D_law_round : Dn P w K mg base 1 "_law_round" st_law_round ["size", "ring"] spRound) : Dn P w K mg base 2 "_law_book" st_law_book ["size", "ring"] spLBook := by
  refine dn_of T sc_law_book pl_law_book (fun vs H Q E h => ?_) fun f cdv A outer s H vs Q E hr h => ?_
  · obtain ⟨a, ns, rfl, _⟩ := h; rfl
  · obtain ⟨n, z, rfl, n2, n6, lo, z1, hz, q⟩ := h
    refine ⟨_, (pss_one (ps_ret (pe_tup (pa_cons (pv 0) (pa_cons (pe_callTy (tupK K rfl) (by rfl) B.tuple (by decide +kernel) (pa_cons (pe_callB (sortSetK w rfl rfl) (by rfl) B.sorted (by decide +kernel) (pa_cons (pe_callTy (setK K w rfl rfl rfl) (by rfl) B.set (by decide +kernel) (pa_cons (pe_fn D_law_round (hr.mono (by decide)) (by rfl) (pa_cons (pv 0) (pa_cons (pv 1) pa_nil))) pa_nil)) pa_nil)) pa_nil)) pa_nil))))), ?_⟩
    refine ⟨_, rfl, _, rfl, _, rfl, n, z, rfl, by omega, z1, by omega, fun a H1 na s1 ea => ?_⟩
    refine ⟨a, turns n (tl z), rfl, .inl (.inl ea), ?_, fun b ks fo nb => ⟨b, ks, rfl, upd_same, fun ys p py so np => ?_⟩⟩
    · rw [turns_len, ← len_tl]; omega
    · have up : Up ys (turns n (tl z)) := .of py so fo
      have yl : ys.length ≤ z.length := by have := up.2.2.2; rwa [turns_len, ← len_tl] at this
      have s2 := (s1.trans (same_upd nb)).trans (same_upd (o := .lst (ys.map V.str)) np)
      have ep : (upd (upd H1 b (SetSO w b ks)) p (.lst (ys.map V.str))) p = some (.lst (ys.map V.str)) := upd_same
      generalize upd (upd H1 b (SetSO w b ks)) p (.lst (ys.map V.str)) = H2 at s2 ep ⊢
      refine ⟨p, ys.map V.str, rfl, .inl ⟨.inl (.inl ep), fun t nt => ⟨by show 2 ≤ sizeLine; decide, fun u nu => ?_⟩⟩⟩
      have hl : 0 < (tl z).length := by rw [← len_tl]; omega
      have y1 : 1 ≤ ys.length := by
        have : mkS (seg (tl z) 0 n) ∈ ys := (up.2.2.1 _).mpr ((turns_mem hl _).mpr ⟨0, rfl⟩)
        exact List.length_pos_of_mem this
      have s3 : Same H2 (upd H2 t (.tup (ys.map V.str))) := same_upd nt
      refine q u ys _ (s2.free (s3.free nu)) ((s2.trans s3).trans (same_upd nu)) ⟨t, upd_same, (same_upd nu) _ _ upd_same⟩ ⟨n2, n6, y1, by omega, up_asc up, fun y hy => turns_low lo z1 ((up.2.2.1 y).mp hy)⟩ up
abbrev st_law_out : Stmt := topS 43
theorem sc_law_out : FnScope ["book", "found", "window"] ["book"] (defScope st_law_out) := ⟨rfl, rfl, rfl, by decide +kernel, rfl, by decide +kernel, by decide +kernel⟩
theorem pl_law_out : PlainB "_law_out" st_law_out ["book"] := fun _ _ _ _ _ _ us hl => match us, hl with | [_], _ => rfl
def spOut : Sp := fun vs H Q _ => ∃ (b : Addr) (k : Nat) (ws : List Str), vs = [.ref b] ∧ BookAt H b k ws ∧ Book k ws ∧ ws.length ≤ 100 ∧ ∀ d ns H', H d = none → Same H H' → ns.Nodup → ns.length ≤ 100 → (∀ x, x ∈ ns ↔ x ∈ ws.map iniS) → DL H' d ns (begW ws) → Q (.ref d) H'
theorem ok_law_out (T : Top K mg "_law_out" st_law_out) (B : Bt mg) : Dn P w K mg base 1 "_law_out" st_law_out ["book"] spOut := by
  refine dn_of T sc_law_out pl_law_out (fun vs H Q E h => ?_) fun f cdv A outer s H vs Q E hr h => ?_
  · obtain ⟨a, _, _, rfl, _⟩ := h; rfl
  · obtain ⟨b, k, ws, rfl, ⟨t, eb, et⟩, bk, wl, q⟩ := h
    have k6 := bk.n6
    have k2 := bk.n2
    refine ⟨_, (pss_cons (ps_set (i := 1) sc_law_out.nd rfl (.inl rfl) pe_dnewK)
      (pss_cons (ps_for PassesOwn.never rfl (pi_tup (pe_ix (ixTK K rfl) (pv 0) pe_int (fun _ _ => rfl))) (pg_name (i := 2) sc_law_out.nd rfl (.inl rfl)) (pss_one (ps_dput (hu_of hr) (pv 1) (pe_slice sl_str (pv 2) po_none (po_some (pe_un un_neg pe_int))) (pe_op op_cat (pe_dget2 (hu_of hr) (pv 1) (pe_slice sl_str (pv 2) po_none (po_some (pe_un un_neg pe_int))) (pe_lst pa_nil) ⟨by rfl, by rfl, by rfl, by rfl⟩) (pe_lst (pa_cons (pv 2) pa_nil))) rfl)))
      (pss_one (ps_ret (pv 1))))), ?_⟩
    refine fun d nd => ?_
    have et0 := (same_upd (o := .dK []) nd) _ _ et
    have eb0 := (same_upd (o := .dK []) nd) _ _ eb
    refine ⟨_, rfl, b, _, _, _, rfl, rfl, .inl (.inl eb0), rfl, t, rfl, ⟨_, .inl (.inl et0)⟩, ?_⟩
    refine for_tup (K := K) (a := t) (xs := ws.map V.str) (fun j σ H' => ∃ (o2 : Option V) (ns : List Str) (f : Str → Addr), σ = [some (.ref b), some (.ref d), o2] ∧ Same H H' ∧ H' d = some (.dK (dkF (fun x => .ref (f x)) ns)) ∧ ns.Nodup ∧ ns.length ≤ j ∧ (∀ x, x ∈ ns ↔ x ∈ (ws.take j).map iniS) ∧ ∀ x ∈ ns, f x ≠ d ∧ H' (f x) = some (.lst ((begW (ws.take j) x).map V.str)))
      ⟨none, [], fun _ => 0, rfl, same_upd nd, upd_same, List.nodup_nil, Nat.le_refl _, fun x => by rw [List.take_zero]; exact Iff.rfl, fun x h => by cases h⟩ (fun _ _ _ _ ⟨_, _, _, _, h, _⟩ => .inl (.inl (h _ _ et))) (fun j y σ H1 hj ⟨o2, ns, f, eσ, s1, ed, nn, nl, mem, g⟩ => ?_) fun σ H1 ⟨o2, ns, f, eσ, s1, ed, nn, nl, mem, g⟩ => ?_
    · subst eσ
      obtain ⟨v, hv, rfl⟩ := str_at hj
      have hvm := List.mem_of_getElem? hv
      obtain ⟨lv, vl⟩ := bk.each v hvm
      have jl := (List.getElem?_eq_some_iff.mp hv).1
      refine ⟨_, rfl, d, rfl, .inl ⟨_, .inl ed⟩, _, rfl, _, rfl, _, rfl, v, rfl, big (by omega), ?_⟩
      rw [ini_eq' (by omega)]
      refine ⟨by show 0 ≤ sizeLine; decide, fun l0 nl0 => ?_⟩
      have nl0d : l0 ≠ d := (ne_of_none ed nl0).symm
      have ed1 : (upd H1 l0 (.lst [])) d = some (.dK (dkF (fun x => .ref (f x)) ns)) := (same_upd nl0) _ _ ed
      have e0 : (upd H1 l0 (.lst [])) l0 = some (.lst []) := upd_same
      have g1 : ∀ x ∈ ns, (upd H1 l0 (.lst [])) (f x) = some (.lst ((begW (ws.take j) x).map V.str)) := fun x hx => (same_upd nl0) _ _ (g x hx).2
      have s1' : Same H1 (upd H1 l0 (.lst [])) := same_upd nl0
      generalize upd H1 l0 (.lst []) = H2 at ed1 e0 g1 s1' ⊢
      have bt : begW (ws.take j) (iniS v) = [] ∨ iniS v ∈ ns := by
        by_cases c : iniS v ∈ ns
        · exact .inr c
        · refine .inl (List.filter_eq_nil_iff.mpr fun z hz e => c ?_)
          rw [mem, ← of_decide_eq_true e]
          exact List.mem_map.mpr ⟨z, hz, rfl⟩
      have bwl : (begW (ws.take j) (iniS v)).length ≤ 100 := Nat.le_trans (List.length_filter_le ..) (by rw [List.length_take]; omega)
      have fin : ∀ a, H2 a = some (.lst ((begW (ws.take j) (iniS v)).map V.str)) → ∀ l1, H2 l1 = none → ∀ l2, (upd H2 l1 (.lst [V.str v])) l2 = none → ∃ (o2 : Option V) (ns' : List Str) (f' : Str → Addr), [some (V.ref b), some (.ref d), some (.str v)] = [some (.ref b), some (.ref d), o2] ∧ Same H (upd (upd (upd H2 l1 (.lst [V.str v])) l2 (.lst ((begW (ws.take j) (iniS v)).map V.str ++ [V.str v]))) d (.dK (putK (dkF (fun x => .ref (f x)) ns) (Sum.inr (iniS v)) (.ref l2)))) ∧ (upd (upd (upd H2 l1 (.lst [V.str v])) l2 (.lst ((begW (ws.take j) (iniS v)).map V.str ++ [V.str v]))) d (.dK (putK (dkF (fun x => .ref (f x)) ns) (Sum.inr (iniS v)) (.ref l2)))) d = some (.dK (dkF (fun x => .ref (f' x)) ns')) ∧ ns'.Nodup ∧ ns'.length ≤ j + 1 ∧ (∀ x, x ∈ ns' ↔ x ∈ (ws.take (j + 1)).map iniS) ∧ ∀ x ∈ ns', f' x ≠ d ∧ (upd (upd (upd H2 l1 (.lst [V.str v])) l2 (.lst ((begW (ws.take j) (iniS v)).map V.str ++ [V.str v]))) d (.dK (putK (dkF (fun x => .ref (f x)) ns) (Sum.inr (iniS v)) (.ref l2)))) (f' x) = some (.lst ((begW (ws.take (j + 1)) x).map V.str)) := by
        intro a ea l1 n1 l2 n2
        have s3 : Same H2 (upd (upd H2 l1 (.lst [V.str v])) l2 (.lst ((begW (ws.take j) (iniS v)).map V.str ++ [V.str v]))) := (same_upd n1).trans (same_upd n2)
        have e2 : (upd (upd H2 l1 (.lst [V.str v])) l2 (.lst ((begW (ws.take j) (iniS v)).map V.str ++ [V.str v]))) l2 = some (.lst ((begW (ws.take j) (iniS v)).map V.str ++ [V.str v])) := upd_same
        have n2' : H2 l2 = none := (same_upd n1).free n2
        generalize upd (upd H2 l1 (.lst [V.str v])) l2 (.lst ((begW (ws.take j) (iniS v)).map V.str ++ [V.str v])) = H3 at s3 e2 ⊢
        have l2d : l2 ≠ d := (ne_of_none ed1 n2').symm
        obtain ⟨f', h1, h2⟩ : ∃ f' : Str → Addr, f' (iniS v) = l2 ∧ ∀ z, z ≠ iniS v → f' z = f z := ⟨fun z => if z = iniS v then l2 else f z, if_pos rfl, fun z h => if_neg h⟩
        have hm : ∀ x, x ∈ (ws.take (j + 1)).map iniS ↔ x ∈ (ws.take j).map iniS ∨ x = iniS v := fun x => by
          rw [take_mem hv, List.map_append, List.mem_append]
          exact or_congr Iff.rfl ⟨fun h => List.mem_singleton.mp h, fun h => List.mem_singleton.mpr h⟩
        have hg : ∀ x, x ∈ ns ∨ x = iniS v → f' x ≠ d ∧ H3 (f' x) = some (.lst ((begW (ws.take (j + 1)) x).map V.str)) := fun x hx => by
          by_cases c : x = iniS v
          · subst c
            rw [h1, take_begW hv, if_pos rfl, List.map_append]
            exact ⟨l2d, e2⟩
          · have hx := hx.resolve_right c
            rw [h2 x c, take_begW hv, if_neg fun e => c e.symm, List.append_nil]
            exact ⟨(g x hx).1, s3 _ _ (g1 x hx)⟩
        have sm : ∀ kvs, Same H (upd H3 d (.dK kvs)) := fun kvs => wr ((s1.trans s1').trans s3) nd
        by_cases c : iniS v ∈ ns
        · refine ⟨_, ns, f', rfl, sm _, by rw [upd_same, dkF_rep c (congrArg V.ref h1) fun z hz => congrArg V.ref (h2 z hz)], nn, by omega, fun x => ?_, fun x hx => ?_⟩
          · rw [hm, ← mem]
            exact ⟨.inl, fun h => h.elim id fun e => e ▸ c⟩
          · obtain ⟨a1, a2⟩ := hg x (.inl hx)
            exact ⟨a1, keep_ne a2 a1⟩
        · refine ⟨_, ns ++ [iniS v], f', rfl, sm _, by rw [upd_same, dkF_put c (congrArg V.ref h1) fun z hz => congrArg V.ref (h2 z hz)], List.nodup_append.mpr ⟨nn, List.nodup_cons.mpr ⟨by simp, List.nodup_nil⟩, fun a ha b hb e => c (by rw [← List.mem_singleton.mp hb, ← e]; exact ha)⟩, by rw [List.length_append]; exact Nat.add_le_add_right nl 1, fun x => ?_, fun x hx => ?_⟩
          · rw [hm, ← mem, List.mem_append, List.mem_singleton]
          · obtain ⟨a1, a2⟩ := hg x ((List.mem_append.mp hx).imp id fun h => List.mem_singleton.mp h)
            exact ⟨a1, keep_ne a2 a1⟩
      have nsl : ns.length ≤ 100 := by omega
      by_cases c : iniS v ∈ ns
      · refine ⟨_, dget_of (.inl ed1) (dkF_val _ c), ?_⟩
        refine ⟨_, rfl, by show 1 ≤ sizeLine; decide, fun l1 n1 => ⟨f (iniS v), l1, _, _, rfl, rfl, (same_upd n1) _ _ (g1 _ c), upd_same, by rw [List.length_map]; exact big (by show _ + 1 ≤ 3000; omega), fun l2 n2 => ?_⟩⟩
        refine ⟨_, rfl, _, rfl, _, rfl, _, rfl, v, rfl, big (by omega), ?_⟩
        rw [ini_eq' (by omega)]
        refine ⟨d, _, rfl, DPut.k (k := Sum.inr (iniS v)) ((same_upd n2) _ _ ((same_upd n1) _ _ ed1)) (by rw [dkF_len]; exact lt_line (by omega)), ?_⟩
        exact fin _ (g1 _ c) l1 n1 l2 n2
      · have hb := bt.resolve_right c
        have hv0 : valV (dkF (fun x => V.ref (f x)) ns) (Sum.inr (iniS v) : Key) = none := by
          have := val_some (dkF_keys (fun x => V.ref (f x)) ns) (iniS v)
          rw [decide_eq_false c] at this
          cases hh : valV (dkF (fun x => V.ref (f x)) ns) (Sum.inr (iniS v) : Key) with
          | none => rfl
          | some y => rw [hh] at this; cases this
        have g0 : H2 l0 = some (.lst ((begW (ws.take j) (iniS v)).map V.str)) := by rw [hb]; exact e0
        refine ⟨_, DGet.k (k := Sum.inr (iniS v)) ed1, ?_⟩
        rw [hv0]
        refine ⟨_, rfl, by show 1 ≤ sizeLine; decide, fun l1 n1 => ⟨l0, l1, _, _, rfl, rfl, (same_upd n1) _ _ g0, upd_same, by rw [List.length_map]; exact big (by show _ + 1 ≤ 3000; omega), fun l2 n2 => ?_⟩⟩
        refine ⟨_, rfl, _, rfl, _, rfl, _, rfl, v, rfl, big (by omega), ?_⟩
        rw [ini_eq' (by omega)]
        refine ⟨d, _, rfl, DPut.k (k := Sum.inr (iniS v)) ((same_upd n2) _ _ ((same_upd n1) _ _ ed1)) (by rw [dkF_len]; exact lt_line (by omega)), ?_⟩
        exact fin _ g0 l1 n1 l2 n2
    · subst eσ
      rw [List.length_map, List.take_length] at mem g
      refine ⟨_, rfl, q d ns H1 nd s1 nn ?_ mem ⟨f, ed, fun x hx => (g x hx).2⟩⟩
      rw [List.length_map] at nl; omega
end
end Tx

set_option Elab.async false
set_option linter.all false
set_option maxRecDepth 100000
set_option maxHeartbeats 1000000
namespace Tx
open PySem PySem.Spec PyProof.Rows L2 TL RZ
theorem cutS_any {z : Str} {i j : Nat} (lo : Low z) (hi : i < z.length) (hj : i < j) : Low (cutS z (some (i : Int)) (some (j : Int))) ∧ 1 ≤ (cutS z (some (i : Int)) (some (j : Int))).length ∧ (cutS z (some (i : Int)) (some (j : Int))).length ≤ z.length := by
  have e : cutS z (some (i : Int)) (some (j : Int)) = mkS (((tl z).drop i).take (min j z.length - i)) := by
    refine ext_tl ?_
    unfold cutS
    rw [HT.sIx_nat, HT.sIx_nat, Nat.min_eq_left (Nat.le_of_lt hi)]
    rfl
  rw [e]
  refine ⟨low_mk lo fun _ hc => List.mem_of_mem_drop (List.mem_of_mem_take hc), ?_, ?_⟩
  · rw [len_mkS, List.length_take, List.length_drop, ← len_tl]; omega
  · rw [len_mkS, List.length_take, List.length_drop, ← len_tl]; omega
theorem sum_le {ws : List Str} {m : Nat} (h : ∀ z ∈ ws, z.length ≤ m) : (ws.map (·.length)).sum ≤ ws.length * m := by
  induction ws with
  | nil => simp
  | cons a ws ih =>
    have h1 := h a (List.mem_cons_self ..)
    have h2 := ih fun z hz => h z (List.mem_cons_of_mem _ hz)
    rw [List.map_cons, List.sum_cons, List.length_cons, Nat.succ_mul]; omega
theorem sum_ge {ws : List Str} (h : ∀ z ∈ ws, 1 ≤ z.length) : ws.length ≤ (ws.map (·.length)).sum := by
  induction ws with
  | nil => simp
  | cons a ws ih =>
    have h1 := h a (List.mem_cons_self ..)
    have h2 := ih fun z hz => h z (List.mem_cons_of_mem _ hz)
    rw [List.map_cons, List.sum_cons, List.length_cons]; omega
theorem flat_len (ws : List Str) : (mkS (ws.map tl).flatten).length = (ws.map (·.length)).sum := by
  rw [len_mkS, List.length_flatten, List.map_map]
  refine congrArg List.sum (List.map_congr_left fun z _ => ?_)
  exact (len_tl z).symm
theorem flat_low {ws : List Str} (h : ∀ z ∈ ws, Low z) : Low (mkS (ws.map tl).flatten) := fun c hc => by
  rw [tl_mkS] at hc
  obtain ⟨l, hl, hc⟩ := List.mem_flatten.mp hc
  obtain ⟨z, hz, rfl⟩ := List.mem_map.mp hl
  exact h z hz c hc
def ns10 : List Nat := [1, 2, 2, 3, 3, 4, 5, 7, 9, 26]
def ns3 : List Nat := [6, 12, 40]
def ns3b : List Nat := [8, 8, 30]
theorem ns10_ok : ∀ k ∈ ns10, 1 ≤ k ∧ k ≤ 26 := by decide
theorem ns3_ok : ∀ k ∈ ns3, 1 ≤ k ∧ k ≤ 40 := by decide
theorem ns3b_ok : ∀ k ∈ ns3b, 1 ≤ k ∧ k ≤ 30 := by decide
/-- an item of a list of numbers -/
theorem num_at {l : List Nat} {r : Int} (r0 : 0 ≤ r) (r1 : r < l.length) : ∃ k ∈ l, atI (l.map fun k => V.int (k : Nat)) r = some (.int k) := by
  have lt : r.toNat < l.length := by omega
  exact ⟨_, List.getElem_mem lt, atI_pos r0 (by rw [List.getElem?_map, List.getElem?_eq_getElem lt]; rfl)⟩
theorem abc_lo : Low (Str.ofString "abcdefghijklmnopqrstuvwxyz") ∧ (Str.ofString "abcdefghijklmnopqrstuvwxyz").length = 26 := by
  rw [abc_e]; exact ⟨fun c hc => abc_low c hc, rfl⟩
section
variable {P : Program} {w : World} {K : PySem.W.Frag} {mg : Str → Option Value} {base : Heap}
abbrev st_law_ring : Stmt := topS 39
theorem sc_law_ring : FnScope ["source", "size", "first", "way_of", "letters", "text", "parts", "turns", "turn"] ["source", "size"] (defScope st_law_ring) := ⟨rfl, rfl, rfl, by decide +kernel, rfl, by decide +kernel, by decide +kernel⟩
theorem pl_law_ring : PlainB "_law_ring" st_law_ring ["source", "size"] := fun _ _ _ _ _ _ us hl => match us, hl with | [_, _], _ => rfl
def spLRing : Sp := fun vs H Q _ => ∃ (p : Addr) (k n : Nat), vs = [.ref p, .int k] ∧ Src H p n ∧ n ≤ 10000000 ∧ 2 ≤ k ∧ k ≤ 6 ∧
  ∀ z H', Low z → 1 ≤ z.length → z.length ≤ 200 → (∀ ys, Up ys (turns k (tl z)) → ys.length ≤ 40) → Src H' p (n + 1000) → But p H H' → Q (.str z) H'
theorem ok_law_ring (T : Top K mg "_law_ring" st_law_ring) (B : Bt mg) (D_law_pick : Dn P w K mg base 1 "_law_pick" st_law_pick ["source", "top"] spPick)
    (D_law_letters : Dn P w K mg base 2 "_law_letters" st_law_letters ["source", "letters", "size"] spLets) (D_law_chorded : Dn P w K mg base 2 "_law_chorded" st_law_chorded ["source"] spChord) (D_law_starred : Dn P w K mg base 2 "_law_starred" st_law_starred ["source"] spChord)
    (D_law_round : Dn P w K mg base 1 "_law_round" st_law_round ["size", "ring"] spRound) : Dn P w K mg base 3 "_law_ring" st_law_ring ["source", "size"] spLRing := by
  refine dn_of T sc_law_ring pl_law_ring (fun vs H Q E h => ?_) fun f cdv A outer s H vs Q E hr h => ?_
  · obtain ⟨a, ns, _, rfl, _⟩ := h; rfl
  · obtain ⟨p, k, n, rfl, sr, hn, k2, k6, q⟩ := h
    obtain ⟨o, eo⟩ := id sr.at
    refine ⟨_, (pss_cons (ps_par (i := 2) (j := 3) (by rfl) sc_law_ring.nd rfl rfl (by decide) rfl rfl (pa_cons (pe_fn D_law_pick (hr.mono (by decide)) (by rfl) (pa_cons (pv 0) (pa_cons pe_int pa_nil))) (pa_cons (pe_fn D_law_pick (hr.mono (by decide)) (by rfl) (pa_cons (pv 0) (pa_cons pe_int pa_nil))) pa_nil)) (by rfl))
      (pss_cons (ps_set (i := 4) sc_law_ring.nd rfl (.inr rfl) (pe_slice sl_str pe_str (po_some (pv 2)) (po_some (pe_op op_add (pv 2) (pe_ix (ixK K rfl) (pe_lst (pa_cons pe_int (pa_cons pe_int (pa_cons pe_int (pa_cons pe_int (pa_cons pe_int (pa_cons pe_int (pa_cons pe_int (pa_cons pe_int (pa_cons pe_int (pa_cons pe_int pa_nil))))))))))) (pe_fn D_law_pick (hr.mono (by decide)) (by rfl) (pa_cons (pv 0) (pa_cons pe_int pa_nil))) (fun _ _ => rfl))))))
      (pss_cons (ps_if (pt_cmpR op_lt (pv 3) pe_int (nomark _)) (pss_one (ps_set (i := 5) sc_law_ring.nd rfl (.inl rfl) (pe_fn D_law_letters (hr.mono (by decide)) (by rfl) (pa_cons (pv 0) (pa_cons (pv 4) (pa_cons (pe_op op_add pe_int (pe_fn D_law_pick (hr.mono (by decide)) (by rfl) (pa_cons (pv 0) (pa_cons (pe_ix (ixK K rfl) (pe_lst (pa_cons pe_int (pa_cons pe_int (pa_cons pe_int pa_nil)))) (pe_fn D_law_pick (hr.mono (by decide)) (by rfl) (pa_cons (pv 0) (pa_cons pe_int pa_nil))) (fun _ _ => rfl)) pa_nil)))) pa_nil)))))) (pss_one (ps_if (pt_cmpR op_eq (pv 3) pe_int (nomark _)) (pss_one (ps_set (i := 5) sc_law_ring.nd rfl (.inl rfl) (pe_fn D_law_letters (hr.mono (by decide)) (by rfl) (pa_cons (pv 0) (pa_cons (pv 4) (pa_cons pe_int pa_nil)))))) (pss_one (ps_if (pt_cmpR op_lt (pv 3) pe_int (nomark _)) (pss_one (ps_set (i := 5) sc_law_ring.nd rfl (.inl rfl) (pe_ifExp (pt_cmpR op_eq (pv 3) pe_int (nomark _)) (pe_fn D_law_chorded (hr.mono (by decide)) (by rfl) (pa_cons (pv 0) pa_nil)) (pe_fn D_law_starred (hr.mono (by decide)) (by rfl) (pa_cons (pv 0) pa_nil))))) (pss_cons (ps_set (i := 6) sc_law_ring.nd rfl (.inr rfl) (pe_lc (own := [("turn", 8)]) (g := gName 8) rfl sc_law_ring.nd (pi_range1 (by rfl) B.range (pa_cons (pe_op op_add pe_int (pe_fn D_law_pick (hr.mono (by decide)) (by rfl) (pa_cons (pv 0) (pa_cons pe_int pa_nil)))) pa_nil)) (blkOk_by (N := ["source", "size", "first", "way_of", "letters", "text", "parts", "turns", "turn"]) (sc := defScope st_law_ring) (by decide +kernel)) (fun _ _ _ _ _ => (pg_name (i := 8) sc_law_ring.nd rfl (.inl rfl))) (fun _ _ _ _ _ => pts_nil) (fun _ _ _ _ _ => (pe_fn D_law_letters (hr.mono (by decide)) (by rfl) (pa_cons (pv 0) (pa_cons (pv 4) (pa_cons (pe_op op_add pe_int (pe_fn D_law_pick (hr.mono (by decide)) (by rfl) (pa_cons (pv 0) (pa_cons pe_int pa_nil)))) pa_nil)))))))
      (pss_cons (ps_set (i := 7) sc_law_ring.nd rfl (.inl rfl) (pe_op op_add pe_int (pe_fn D_law_pick (hr.mono (by decide)) (by rfl) (pa_cons (pv 0) (pa_cons (pe_ix (ixK K rfl) (pe_lst (pa_cons pe_int (pa_cons pe_int (pa_cons pe_int pa_nil)))) (pe_op op_sub (pv 3) pe_int) (fun _ _ => rfl)) pa_nil)))))
      (pss_one (ps_set (i := 5) sc_law_ring.nd rfl (.inl rfl) (joinK K rfl pe_str (pe_lc (own := [("turn", 8)]) (g := gName 8) rfl sc_law_ring.nd (pi_range1 (by rfl) B.range (pa_cons (pv 7) pa_nil)) (blkOk_by (N := ["source", "size", "first", "way_of", "letters", "text", "parts", "turns", "turn"]) (sc := defScope st_law_ring) (by decide +kernel)) (fun _ _ _ _ _ => (pg_name (i := 8) sc_law_ring.nd rfl (.inl rfl))) (fun _ _ _ _ _ => pts_nil) (fun _ _ _ _ _ => (pe_ix (ixK K rfl) (pv 6) (pe_fn D_law_pick (hr.mono (by decide)) (by rfl) (pa_cons (pv 0) (pa_cons (pe_callB (lenK K rfl) (by rfl) B.len (by decide +kernel) (pa_cons (pv 6) pa_nil)) pa_nil))) (fun _ _ => rfl))))))))))))))
      (pss_cons (ps_while PassesOwn.never (pt_cmpR op_gt (pe_callB (lenSK w rfl) (by rfl) B.len (by decide +kernel) (pa_cons (pe_callTy (setK K w rfl rfl rfl) (by rfl) B.set (by decide +kernel) (pa_cons (pe_fn D_law_round (hr.mono (by decide)) (by rfl) (pa_cons (pv 1) (pa_cons (pv 5) pa_nil))) pa_nil)) pa_nil)) pe_int (nomark _)) (pss_one (ps_set (i := 5) sc_law_ring.nd rfl (.inl rfl) (pe_slice sl_str (pv 5) po_none (po_some (pe_op op_fdivN (pe_op op_mul (pe_callB call_len_str (by rfl) B.len (by decide +kernel) (pa_cons (pv 5) pa_nil)) pe_int) pe_int))))))
      (pss_one (ps_ret (pv 5))))))), ?_⟩
    refine ⟨_, rfl, p, 19, n, rfl, sr, by omega, by decide, by decide, fun r1 H1 a0 a1 sr1 bt1 => ⟨_, rfl, p, 8, n + 1, rfl, sr1, by omega, by decide, by decide, fun r2 H2 b0 b1 sr2 bt2 => ⟨_, _, rfl, ?_⟩⟩⟩
    obtain ⟨i, ei⟩ : ∃ i : Nat, r1 = (i : Int) := ⟨r1.toNat, by omega⟩
    obtain ⟨way, ew⟩ : ∃ i : Nat, r2 = (i : Int) := ⟨r2.toNat, by omega⟩
    subst ei ew
    have bt12 := bt1.trans bt2
    refine ⟨_, rfl, _, rfl, _, rfl, by show 10 ≤ sizeLine; decide, fun m nm => ⟨_, rfl, p, 10, n + 2, rfl, sr2.new nm, by omega, by decide, by decide, fun r3 H3 c0 c1 sr3 bt3 => ?_⟩⟩
    obtain ⟨o2, eo2⟩ := id sr2.at
    have em := bt3.kept (upd_same (H := H2) (a := m) (o := .lst (ns10.map fun k => V.int (k : Nat)))) (ne_of_none eo2 nm).symm
    obtain ⟨x, hx, ex⟩ := num_at (l := ns10) c0 c1
    obtain ⟨x1, x2⟩ := ns10_ok x hx
    refine ⟨m, _, r3, _, rfl, rfl, .inl (.inl em), ex, _, _, rfl, rfl, _, rfl, _, rfl, by rw [abc_lo.2]; exact big6 (by omega), ?_⟩
    obtain ⟨lo, l1, l2⟩ := cutS_any (i := i) (j := i + x) abc_lo.1 (by rw [abc_lo.2]; omega) (by omega)
    have eij : ((i : Int) + (x : Int)) = ((i + x : Nat) : Int) := by omega
    dsimp only
    rw [eij]
    rw [abc_lo.2] at l2
    generalize cutS (Str.ofString "abcdefghijklmnopqrstuvwxyz") (some (i : Int)) (some ((i + x : Nat) : Int)) = L at lo l1 l2 ⊢
    have LL : Lets L := ⟨lo, l1, by omega⟩
    have sL : L.length ≤ sizeLine := big6 (by omega)
    have b3 : But p H H3 := (bt12.same (same_upd nm)).trans bt3
    have sr3' := sr3.mono (m := n + 3) (by omega)
    clear sr1 sr2 bt1 bt2 bt3 bt12 em sr3
    dsimp only [gName]
    refine seq_if (fun σ H' => ∃ (z : Str) (o6 o7 : Option V), σ = [some (.ref p), some (.int k), some (.int i), some (.int way), some (.str L), some (.str z), o6, o7, none] ∧ Low z ∧ 1 ≤ z.length ∧ z.length ≤ 200 ∧ Src H' p (n + 1000) ∧ But p H H') ?rest fun kk => ?now
    case now =>
      refine ⟨_, rfl, _, _, rfl, rfl, _, rfl, ?_⟩
      refine ite2 (fun _ => ?_) fun _ => ?_
      · refine ⟨_, rfl, _, rfl, _, rfl, by show 3 ≤ sizeLine; decide, fun m nm => ⟨_, rfl, p, 3, n + 3, rfl, sr3'.new nm, by omega, by decide, by decide, fun r4 H4 d0 d1 sr4 bt4 => ?_⟩⟩
        obtain ⟨o3, eo3⟩ := id sr3'.at
        have em := bt4.kept (upd_same (H := H3) (a := m) (o := .lst (ns3.map fun k => V.int (k : Nat)))) (ne_of_none eo3 nm).symm
        obtain ⟨x, hx, ex⟩ := num_at (l := ns3) d0 d1
        obtain ⟨x1, x2⟩ := ns3_ok x hx
        refine ⟨m, _, r4, _, rfl, rfl, .inl (.inl em), ex, p, x, _, rfl, sr4, by omega, by omega, by omega, fun r5 H5 f0 f1 sr5 bt5 => ⟨_, _, rfl, rfl, p, L, (1 + r5).toNat, n + 3 + 1 + 1, ?_, sr5, LL, by omega, by omega, fun z H6 lz loz sr6 bt6 => ?_⟩⟩
        · show [V.ref p, V.str L, V.int (1 + r5)] = _
          rw [show (((1 + r5).toNat : Nat) : Int) = 1 + r5 by omega]
        · exact kk _ _ ⟨z, _, _, rfl, loz, by omega, by omega, sr6.mono (by omega), ((b3.same (same_upd nm)).trans (bt4.trans bt5)).trans bt6⟩
      · refine ⟨_, rfl, rfl, _, rfl, ?_⟩
        refine ite2 (fun _ => ?_) fun _ => ?_
        · refine ⟨_, rfl, _, rfl, p, L, 40, n + 3, rfl, sr3', LL, by omega, by omega, fun z H6 lz loz sr6 bt6 => ?_⟩
          exact kk _ _ ⟨z, _, _, rfl, loz, by omega, by omega, sr6.mono (by omega), b3.trans bt6⟩
        · refine ⟨_, rfl, _, _, rfl, rfl, _, rfl, ?_⟩
          refine ite2 (fun _ => ?_) fun w5 => ?_
          · refine ⟨_, rfl, rfl, _, rfl, ?_⟩
            refine ite2 (fun _ => ?_) fun _ => ?_
            · refine ⟨_, rfl, p, n + 3, rfl, sr3', by omega, fun z H4 loz z1 z2 sr4 bt4 => ?_⟩
              exact kk _ _ ⟨z, _, _, rfl, loz, z1, by omega, sr4.mono (by omega), b3.trans bt4⟩
            · refine ⟨_, rfl, p, n + 3, rfl, sr3', by omega, fun z H4 loz z1 z2 sr4 bt4 => ?_⟩
              exact kk _ _ ⟨z, _, _, rfl, loz, z1, by omega, sr4.mono (by omega), b3.trans bt4⟩
          · have w5 : 5 ≤ way := by
              have := of_decide_eq_false (Bool.eq_false_iff.mpr w5)
              omega
            refine ⟨_, rfl, p, 4, n + 3, rfl, sr3', by omega, by decide, by decide, fun r4 H4 d0 d1 sr4 bt4 => ⟨_, _, rfl, rfl, _, rfl, by omega, by omega, fun D hD => ?_⟩⟩
            obtain ⟨o4, eo4⟩ := id sr4.at
            have ne : D ≠ p := (ne_of_none eo4 hD).symm
            refine lc_range (fun j H' => Src H' p (n + 4 + 10 * j) ∧ But p H4 H' ∧ ∃ ws : List Str, ws.length = j ∧ (∀ z ∈ ws, Low z ∧ 1 ≤ z.length ∧ z.length ≤ 6) ∧ H' D = some (.lst (ws.map V.str))) ?_ (fun j H' hj ⟨sr', bt', ws, ews, hws, eD⟩ => ?_) fun H5 ⟨sr5, bt5, ws, ews, hws, eD⟩ => ?_
            · exact ⟨sr4.new hD, But.refl.mk hD, [], rfl, (fun c z => by cases z), upd_same⟩
            · refine ⟨rfl, lc_yes ?_⟩
              refine ⟨_, rfl, _, rfl, _, rfl, p, 6, _, rfl, sr', by omega, by decide, by decide, fun r5 H5 f0 f1 sr5 bt5 => ?_⟩
              refine ⟨_, _, rfl, rfl, p, L, (1 + r5).toNat, n + 4 + 10 * j + 1, ?_, sr5, LL, by omega, by omega, fun z H6 lz loz sr6 bt6 => ?_⟩
              · show [V.ref p, V.str L, V.int (1 + r5)] = _
                rw [show (((1 + r5).toNat : Nat) : Int) = 1 + r5 by omega]
              · refine ⟨_, bt6.kept (bt5.kept eD ne) ne, ?_, (sr6.mono (m := n + 4 + 10 * (j + 1)) (by omega)).set ne, ((bt'.trans bt5).trans bt6).mk hD, ws ++ [z], by rw [List.length_append, ews]; rfl, fun y hy => ?_, ?_⟩
                · rw [List.length_map, ews]; exact lt_line (by omega)
                · rcases List.mem_append.mp hy with hy | hy
                  · exact hws y hy
                  · rw [List.mem_singleton.mp hy]; exact ⟨loz, by omega, by omega⟩
                · rw [upd_same, List.map_append]; rfl
            · have w1 : 1 ≤ ws.length := by omega
              have w2 : ws.length ≤ 5 := by omega
              refine ⟨_, rfl, by show 3 ≤ sizeLine; decide, fun m nm => ⟨_, rfl, _, _, rfl, rfl, ?_⟩⟩
              obtain ⟨o5, eo5⟩ := id sr5.at
              have nmp : m ≠ p := (ne_of_none eo5 nm).symm
              obtain ⟨x, hx, ex⟩ := num_at (l := ns3b) (r := (way : Int) - 5) (by omega) (by show _ < (3 : Int); omega)
              obtain ⟨x1, x2⟩ := ns3b_ok x hx
              have s5 : Same H5 (upd H5 m (.lst [V.int 8, V.int 8, V.int 30])) := same_upd nm
              have em : (upd H5 m (.lst [V.int 8, V.int 8, V.int 30])) m = some (.lst [V.int 8, V.int 8, V.int 30]) := upd_same
              have b5 : But p H (upd H5 m (.lst [V.int 8, V.int 8, V.int 30])) := ((b3.trans bt4).trans bt5).same s5
              have sr6 := sr5.same s5
              have eD6 := s5 _ _ eD
              clear eD s5
              generalize upd H5 m (.lst [V.int 8, V.int 8, V.int 30]) = H6 at em b5 sr6 eD6 ⊢
              refine ⟨m, _, _, _, rfl, rfl, .inl (.inl em), ex, p, x, _, rfl, sr6, by omega, by omega, by omega, fun r6 H7 g0 g1 sr7 bt7 => ⟨_, _, rfl, rfl, ?_⟩⟩
              obtain ⟨tn, et⟩ : ∃ tn : Nat, (2 : Int) + r6 = (tn : Int) := ⟨(2 + r6).toNat, by omega⟩
              dsimp only
              rw [et]
              have eD7 := bt7.kept eD6 ne
              have b7 := b5.trans bt7
              refine ⟨⟨_, rfl⟩, _, rfl, _, rfl, by omega, by omega, fun E hE => ?_⟩
              obtain ⟨o7, eo7⟩ := id sr7.at
              have nEp : E ≠ p := (ne_of_none eo7 hE).symm
              have nED : E ≠ D := (ne_of_none eD7 hE).symm
              rw [Int.toNat_natCast]
              refine lc_range (fun j H' => Src H' p (n + 100 + j) ∧ But p H7 H' ∧ ∃ ys : List Str, ys.length = j ∧ (∀ z ∈ ys, Low z ∧ 1 ≤ z.length ∧ z.length ≤ 6) ∧ H' E = some (.lst (ys.map V.str))) ?_ (fun j H' hj ⟨sr', bt', ys, eys, hys, eE⟩ => ?_) fun H8 ⟨sr8, bt8, ys, eys, hys, eE⟩ => ?_
              · exact ⟨(sr7.new hE).mono (by omega), But.refl.mk hE, [], rfl, (fun c z => by cases z), upd_same⟩
              · refine ⟨rfl, lc_yes ?_⟩
                have eD' := bt'.kept eD7 ne
                refine ⟨_, rfl, _, rfl, _, rfl, D, _, rfl, .inl (.inl (.inl eD')), p, ((ws.map V.str).length : Int), _, rfl, sr', by omega, by rw [List.length_map]; omega, by rw [List.length_map]; omega, fun r9 H9 h0 h1 sr9 bt9 => ?_⟩
                rw [List.length_map] at h1
                have lt : r9.toNat < ws.length := by omega
                refine ⟨D, _, r9, V.str ws[r9.toNat], rfl, rfl, .inl (.inl (bt9.kept eD' ne)), atI_pos h0 (by rw [List.getElem?_map, List.getElem?_eq_getElem lt]; rfl), _, bt9.kept eE nEp, by rw [List.length_map, eys]; exact lt_line (by omega), (sr9.mono (m := n + 100 + (j + 1)) (by omega)).set nEp, (bt'.trans bt9).mk hE, ys ++ [ws[r9.toNat]], by rw [List.length_append, eys]; rfl, fun y hy => ?_, ?_⟩
                · rcases List.mem_append.mp hy with hy | hy
                  · exact hys y hy
                  · rw [List.mem_singleton.mp hy]; exact hws _ (List.getElem_mem lt)
                · rw [upd_same, List.map_append]; rfl
              · have sm := sum_le (fun z hz => (hys z hz).2.2) 
                have s1 := sum_ge (fun z hz => (hys z hz).2.1)
                have yl : ys.length ≤ 31 := by omega
                refine ⟨Str.ofString "", E, ys, rfl, rfl, .inl (.inl (.inl eE)), ?_, ?_⟩
                · rw [str_e]; show _ + _ * 0 ≤ _; exact big6 (by omega)
                · rw [join_e]
                  have fl := flat_len ys
                  exact kk _ _ ⟨_, _, _, rfl, flat_low fun z hz => (hys z hz).1, by rw [fl]; omega, by rw [fl]; omega, sr8.mono (by omega), b7.trans bt8⟩
    case rest =>
      rintro σ0 H4 ⟨z0, o6, o7, rfl, lz0, z01, z02, sr4, b4⟩
      refine ⟨fun mm σ H' => ∃ (z : Str) (o6 o7 : Option V), σ = [some (.ref p), some (.int k), some (.int i), some (.int way), some (.str L), some (.str z), o6, o7, none] ∧ Low z ∧ 1 ≤ z.length ∧ z.length ≤ 200 ∧ Src H' p (n + 1000) ∧ But p H H' ∧ mm = z.length, ⟨_, z0, o6, o7, rfl, lz0, z01, z02, sr4, b4, rfl⟩, fun mm σ H' ⟨z, o6, o7, eσ, lz, z1, z2, sr', bt', em⟩ => ?_⟩
      subst eσ
      refine ⟨_, rfl, _, rfl, k, z, rfl, by omega, z1, by omega, fun a H5 na s5 ea => ?_⟩
      refine ⟨a, turns k (tl z), rfl, .inl (.inl ea), by rw [turns_len, ← len_tl]; omega, fun b ks fo nb => ⟨b, ks, rfl, upd_same, ?_⟩⟩
      have s6 : Same H' (upd H5 b (SetSO w b ks)) := s5.trans (same_upd nb)
      generalize upd H5 b (SetSO w b ks) = H6 at s6 ⊢
      refine ⟨_, _, rfl, rfl, _, rfl, ?_⟩
      refine ite2 (fun g => ?_) fun g => ?_
      · have g := of_decide_eq_true g
        have kl : ks.length ≤ z.length := by have := fo.1; rwa [turns_len, ← len_tl] at this
        refine ⟨_, fun _ _ h => h, ?_⟩
        refine ⟨_, rfl, ?_⟩
        dsimp only [tNoPart]
        refine ⟨_, rfl, z, rfl, big6 (by omega), _, _, rfl, rfl, .inl ⟨by omega, by omega⟩, _, _, rfl, rfl, ⟨by decide, by decide⟩, _, rfl, z, rfl, big6 (by omega), ?_⟩
        have e1 : ((z.length : Int) * 4).fdiv 5 = ((z.length * 4 / 5 : Nat) : Int) := by
          rw [Int.fdiv_eq_ediv_of_nonneg _ (by omega)]; omega
        rw [e1, cutS_to z _ (by omega)]
        have e2 : (mkS ((tl z).take (z.length * 4 / 5))).length = z.length * 4 / 5 := len_take (by omega)
        exact ⟨z.length * 4 / 5, by omega, _, _, _, rfl, low_take lz _, by omega, by omega, sr'.same s6, bt'.same s6, e2.symm⟩
      · have g : ks.length ≤ 40 := by
          have := of_decide_eq_false (Bool.eq_false_iff.mpr g)
          omega
        refine ⟨_, rfl, q z H6 lz z1 z2 (fun ys up => ?_) (sr'.same s6) (bt'.same s6)⟩
        refine Nat.le_trans (pig ys ks up.2.1 fun y hy => ?_) g
        rw [fo.2.2 y, List.take_length]
        exact (up.2.2.1 y).mp hy
end
end Tx

set_option Elab.async false
set_option linter.all false
set_option maxRecDepth 100000
set_option maxHeartbeats 1000000
namespace Tx
open PySem PySem.Spec PyProof.Rows L2 TL RZ
theorem Book.nodup {k : Nat} {ws : List Str} (bk : Book k ws) : ws.Nodup := bk.asc.imp fun {a b} h e => by
  rw [e] at h; exact List.lt_irrefl _ h
/-- a dict of texts, by what is known of each -/
structure KD (G : Str → List Nat → Prop) (kvs : List (Key × V)) (ks : List Str) : Prop where
  keys : kvs.map (·.1) = ks.map Sum.inr
  each : ∀ x ∈ ks, ∃ y, valV kvs (Sum.inr x : Key) = some (.str (mkS y)) ∧ G x y
/-- whether a text is a piece -/
def Pc (k : Nat) (ws : List Str) (z : Str) : Prop := k ≤ z.length ∧ ∀ s ∈ steps k (tl z), s ∈ ws
section
variable {P : Program} {w : World} {K : PySem.W.Frag} {mg : Str → Option Value} {base : Heap}
abbrev st_is_piece_of : Stmt := topS 20
theorem sc_is_piece_of : FnScope ["book", "value", "size", "windows", "known", "window", "step"] ["book", "value"] (defScope st_is_piece_of) := ⟨rfl, rfl, rfl, by decide +kernel, rfl, by decide +kernel, by decide +kernel⟩
theorem pl_is_piece_of : PlainB "is_piece_of" st_is_piece_of ["book", "value"] := fun _ _ _ _ _ _ us hl => match us, hl with | [_, _], _ => rfl
def spPcOf : Sp := fun vs H Q _ => ∃ (b : Addr) (k : Nat) (ws : List Str) (z : Str), vs = [.ref b, .str z] ∧ BookAt H b k ws ∧ Book k ws ∧ ws.length ≤ 3000 ∧ z.length ≤ 3000 ∧ ∀ c H', Same H H' → (c = true ↔ Pc k ws z) → Q (.bl c) H'
theorem ok_is_piece_of (T : Top K mg "is_piece_of" st_is_piece_of) (B : Bt mg) (D_steps_of : Dn P w K mg base 1 "steps_of" st_steps_of ["size", "text"] spSteps) : Dn P w K mg base 2 "is_piece_of" st_is_piece_of ["book", "value"] spPcOf := by
  refine dn_of T sc_is_piece_of pl_is_piece_of (fun vs H Q E h => ?_) fun f cdv A outer s H vs Q E hr h => ?_
  · obtain ⟨a, b, _, _, rfl, _⟩ := h; rfl
  · obtain ⟨b, k, ws, z, rfl, ⟨t, eb, et⟩, bk, wl, zl, q⟩ := h
    have k2 := bk.n2
    have k6 := bk.n6
    have sz : z.length ≤ sizeLine := big zl
    refine ⟨_, (pss_cons (ps_asg (pv 0) (pg_tupK K rfl rfl (pgs_cons (pg_name (i := 2) sc_is_piece_of.nd rfl (.inl rfl)) (pgs_cons (pg_name (i := 3) sc_is_piece_of.nd rfl (.inl rfl)) pgs_nil))))
      (pss_cons (ps_if (PW.pt (pw_or (pt_not (pt_val (pe_callB (isiK K rfl) (by rfl) B.isi (by decide +kernel) (pa_cons (pv 1) (pa_cons (pe_bltn (v := .ty "str") (by rfl) B.str (by decide +kernel) rfl) pa_nil))))) (pw_or1 (pt_cmpR op_lt (pe_callB call_len_str (by rfl) B.len (by decide +kernel) (pa_cons (pv 1) pa_nil)) (pv 2) (nomark _))))) (pss_one (ps_ret pe_bl)) pss_nil)
      (pss_cons (ps_set (i := 4) sc_is_piece_of.nd rfl (.inr rfl) (pe_dc (own := [("window", 5)]) (g := gName 5) rfl sc_is_piece_of.nd (pi_tup (pv 3)) (blkOk_by (N := ["book", "value", "size", "windows", "known", "window", "step"]) (sc := defScope st_is_piece_of) (by decide +kernel)) (fun _ _ _ _ _ => (pg_name (i := 5) sc_is_piece_of.nd rfl (.inl rfl))) (fun _ _ _ _ _ => pts_nil) (fun _ _ _ _ _ => (pv 5)) (fun _ _ _ _ _ => pe_bl)))
      (pss_one (ps_ret (pe_callB (allK K rfl rfl) (by rfl) B.all (by decide +kernel) (pa_cons (pe_lc (own := [("step", 6)]) (g := gName 6) rfl sc_is_piece_of.nd (pi_list (pe_fn D_steps_of (hr.mono (by decide)) (by rfl) (pa_cons (pv 2) (pa_cons (pv 1) pa_nil)))) (blkOk_by (N := ["book", "value", "size", "windows", "known", "window", "step"]) (sc := defScope st_is_piece_of) (by decide +kernel)) (fun _ _ _ _ _ => (pg_name (i := 6) sc_is_piece_of.nd rfl (.inl rfl))) (fun _ _ _ _ _ => pts_nil) (fun _ _ _ _ _ => (pe_cmp (pc_din (hu_of hr) (pv 6) (pv 4)) rfl))) pa_nil))))))), ?_⟩
    refine ⟨_, rfl, b, _, rfl, .inl (.inl eb), rfl, _, _, rfl, _, _, rfl, rfl, ?_⟩
    refine ⟨_, rfl, .str z, .ty "str", _, _, true, rfl, .ty _, .base (.str z), kit_ty (by decide +kernel), true, rfl, ?_⟩
    refine iteF ?_
    refine ⟨_, rfl, z, rfl, sz, _, rfl, _, _, rfl, rfl, _, rfl, ?_⟩
    refine ite2 (fun lt => ?_) fun ge => ?_
    · have lt := of_decide_eq_true lt
      exact q false H (Same.refl _) ⟨fun h => (by cases h), fun h => (by have := h.1; omega)⟩
    · have ge : ¬ ((z.length : Int) < (k : Int)) := fun h => ge (decide_eq_true h)
      refine ⟨_, rfl, t, rfl, ⟨_, .inl (.inl et)⟩, fun d nd => ?_⟩
      refine dc_tup (a := t) (xs := ws.map V.str) (fun i H' => Same H H' ∧ H' d = some (.dK (dkF (fun _ => .bl true) (ws.take i)))) ⟨same_upd nd, by rw [upd_same]; rfl⟩ (fun i H' _ h => .inl (.inl (h.1 _ _ et))) (fun i y H' hi ⟨sm, e⟩ => ?_) fun H1 ⟨s1, e1⟩ => ?_
      · obtain ⟨v, hv, rfl⟩ := str_at hi
        refine ⟨rfl, yes_of ?_⟩
        refine ⟨_, rfl, _, Sum.inr v, rfl, e, by rw [dkF_len, List.length_take]; exact lt_line (by omega), wr sm nd, ?_⟩
        rw [upd_same, dkF_put (not_before bk.nodup hv) rfl fun _ _ => rfl, ← take_mem hv]
      rw [List.length_map, List.take_length] at e1
      refine ⟨_, rfl, _, rfl, k, z, rfl, by omega, by omega, by omega, fun p H2 np s2 e2 => ⟨p, rfl, ⟨_, .inl (.inl e2)⟩, fun D hD => ?_⟩⟩
      refine lc_list (a := p) (xs := (steps k (tl z)).map V.str) (fun i H' => Same H2 H' ∧ H' D = some (.lst (((steps k (tl z)).take i).map fun s => V.bl (decide (s ∈ ws))))) ⟨same_upd hD, upd_same⟩ (fun i H' _ h => .inl (.inl (h.1 _ _ e2))) (fun i y H' hi ⟨sm, e⟩ => ?_) fun H3 ⟨s3, e3⟩ => ?_
      · obtain ⟨v, hv, rfl⟩ := str_at hi
        have il := (List.getElem?_eq_some_iff.mp hv).1
        have sl : (steps k (tl z)).length ≤ 3001 := by unfold steps; rw [List.length_map, List.length_range, ← len_tl]; omega
        refine ⟨rfl, lc_yes ?_⟩
        refine ⟨_, rfl, _, rfl, d, _, rfl, DGet.k (k := Sum.inr v) (sm _ _ (s2 _ _ e1)), ?_⟩
        rw [val_some (dkF_keys _ ws)]
        refine ⟨_, e, by rw [List.length_map, List.length_take]; exact lt_line (by omega), wr sm hD, ?_⟩
        rw [upd_same, take_mem hv, List.map_append]; rfl
      · rw [List.length_map, List.take_length] at e3
        refine ⟨D, (steps k (tl z)).map fun s => decide (s ∈ ws), rfl, .inl (.inl (by rw [e3, List.map_map]; rfl)), ?_⟩
        refine q _ H3 ((s1.trans s2).trans s3) ?_
        rw [List.all_map, List.all_eq_true]
        constructor
        · intro h
          exact ⟨by omega, fun s hs => of_decide_eq_true (h s hs)⟩
        · intro h s hs
          exact decide_eq_true (h.2 s hs)
end
theorem Pc.wk {k : Nat} {ws : List Str} (bk : Book k ws) {one v : Str} {l : List Str} (ho : one ∈ ws) (h : Wk ws one l v) : Pc k ws (mkS (txt l)) := by
  have hk := bk.n2
  obtain ⟨a, _, c⟩ := h.ends (by omega) ho fun x hx => (bk.each x hx).2
  refine ⟨by rw [len_mkS, a]; omega, fun s hs => ?_⟩
  rw [tl_mkS, c] at hs
  exact h.all ho s hs
end Tx

set_option Elab.async false
set_option linter.all false
set_option maxRecDepth 100000
set_option maxHeartbeats 1000000
namespace Tx
open PySem PySem.Spec PyProof.Rows L2 TL RZ
theorem BookAt.but {H H' : Hp} {p a : Addr} {n m : Nat} {ws : List Str} (k : BookAt H a n ws) (bt : But p H H') (sr : Src H p m) : BookAt H' a n ws := by
  obtain ⟨t, e1, e2⟩ := k
  exact ⟨t, bt.kept e1 (sr.ne e1), bt.kept e2 (sr.ne e2)⟩
theorem mem_stepsA {k : Nat} {l : List Nat} {s : Str} : s ∈ steps k l ↔ ∃ a, a + k ≤ l.length ∧ s = mkS (cut l a k) ∧ a < l.length + 1 - k := by
  unfold steps
  rw [List.mem_map]
  constructor
  · rintro ⟨a, ha, rfl⟩
    rw [List.mem_range] at ha
    exact ⟨a, by omega, rfl, ha⟩
  · rintro ⟨a, _, rfl, h⟩
    exact ⟨a, List.mem_range.mpr h, rfl⟩
theorem pc_of {k : Nat} {ws : List Str} {z : Str} (h : k ≤ z.length) (g : ∀ a, a + k ≤ z.length → mkS (cut (tl z) a k) ∈ ws) : Pc k ws z := ⟨h, fun s hs => by
  obtain ⟨a, ha, rfl, _⟩ := mem_stepsA.mp hs
  exact g a (by rw [← len_tl] at ha; exact ha)⟩
theorem Pc.at {k : Nat} {ws : List Str} {z : Str} (h : Pc k ws z) (k1 : 1 ≤ k) {a : Nat} (ha : a + k ≤ z.length) : mkS (cut (tl z) a k) ∈ ws := h.2 _ (mem_stepsA.mpr ⟨a, by rw [← len_tl]; exact ha, rfl, by rw [← len_tl]; omega⟩)
theorem Pc.last {k : Nat} {ws : List Str} {z : Str} (h : Pc k ws z) (k1 : 1 ≤ k) : endS k z ∈ ws := by
  have := h.at k1 (a := z.length - k) (by have := h.1; omega)
  have e : mkS (cut (tl z) (z.length - k) k) = endS k z := by
    unfold cut endS
    rw [List.take_of_length_le (by rw [List.length_drop, ← len_tl]; have := h.1; omega)]
  rwa [e] at this
theorem end_tai {k : Nat} {z : Str} (k1 : 1 ≤ k) (h : k ≤ z.length) : taiS (endS k z) = endS (k - 1) z := by
  refine ext_tl ?_
  unfold taiS endS
  rw [tl_mkS, tl_mkS, tl_mkS, List.drop_drop, show z.length - k + 1 = z.length - (k - 1) by omega]
theorem Pc.snoc {k : Nat} {ws : List Str} {z v : Str} (h : Pc k ws z) (k1 : 1 ≤ k) (hv : v ∈ ws) (vl : v.length = k) (e : iniS v = endS (k - 1) z) : Pc k ws (mkS (tl z ++ lasL v)) := by
  have l1 : (lasL v).length = 1 := las_len (by omega)
  have zl := h.1
  have ll : (mkS (tl z ++ lasL v)).length = z.length + 1 := by rw [len_mkS, List.length_append, l1, ← len_tl]
  refine pc_of (by omega) fun a ha => ?_
  rw [ll] at ha
  by_cases c : a + k ≤ z.length
  · have : cut (tl (mkS (tl z ++ lasL v))) a k = cut (tl z) a k := by
      unfold cut
      rw [tl_mkS, List.drop_append_of_le_length (by rw [← len_tl]; omega), List.take_append_of_le_length (by rw [List.length_drop, ← len_tl]; omega)]
    rw [this]
    exact h.at k1 c
  · have e1 : cut (tl (mkS (tl z ++ lasL v))) a k = tl v := by
      have : a = z.length - (k - 1) := by omega
      unfold cut
      rw [tl_mkS, this, List.drop_append_of_le_length (by rw [← len_tl]; omega), List.take_of_length_le (by rw [List.length_append, List.length_drop, ← len_tl, l1]; omega)]
      have e2 : tl (iniS v) = (tl z).drop (z.length - (k - 1)) := congrArg tl e
      rw [← e2, ← ini_las]
    rw [e1, mkS_tl]; exact hv
theorem Pc.cut {k : Nat} {ws : List Str} {z : Str} (h : Pc k ws z) (k1 : 1 ≤ k) {i m : Nat} (hm : k ≤ m) (hi : i + m ≤ z.length) : Pc k ws (mkS (Tx.cut (tl z) i m)) := by
  have lc := len_cut hi
  refine pc_of (by omega) fun a ha => ?_
  rw [lc] at ha
  have : Tx.cut (tl (mkS (Tx.cut (tl z) i m))) a k = Tx.cut (tl z) (i + a) k := by
    unfold Tx.cut
    rw [tl_mkS, List.drop_take, List.take_take, List.drop_drop, Nat.min_eq_left (by omega)]
  rw [this]
  exact h.at k1 (by omega)
theorem Pc.take {k : Nat} {ws : List Str} {z : Str} (h : Pc k ws z) (k1 : 1 ≤ k) {m : Nat} (hm : k ≤ m) (hi : m ≤ z.length) : Pc k ws (mkS ((tl z).take m)) := h.cut k1 (i := 0) hm (by omega)
theorem Pc.cons {k : Nat} {ws : List Str} {z v : Str} (h : Pc k ws z) (k1 : 1 ≤ k) (hv : v ∈ ws) (vl : v.length = k) (e : taiS v = mkS ((tl z).take (k - 1))) {c : Nat} (hc : (tl v)[0]? = some c) : Pc k ws ((⟨#[c]⟩ : Str) ++ z) := by
  have zl := h.1
  have et : tl ((⟨#[c]⟩ : Str) ++ z) = c :: tl z := by rw [tl_append]; rfl
  have ll : ((⟨#[c]⟩ : Str) ++ z).length = z.length + 1 := by rw [len_tl, et, List.length_cons, ← len_tl]
  refine pc_of (by omega) fun a ha => ?_
  rw [ll] at ha
  rw [et]
  cases a with
  | zero =>
    have : Tx.cut (c :: tl z) 0 k = tl v := by
      unfold Tx.cut
      rw [List.drop_zero, show k = (k - 1) + 1 by omega, List.take_succ_cons]
      have e2 : (tl v).drop 1 = (tl z).take (k - 1) := congrArg tl e
      rw [← e2]
      have lt : 0 < (tl v).length := by rw [← len_tl]; omega
      have e3 : c = (tl v)[0] := by rw [List.getElem?_eq_getElem lt] at hc; exact (Option.some.inj hc).symm
      rw [e3]
      have := List.drop_eq_getElem_cons (l := tl v) (i := 0) lt
      rw [List.drop_zero] at this
      exact this.symm
    rw [this, mkS_tl]; exact hv
  | succ a =>
    have : Tx.cut (c :: tl z) (a + 1) k = Tx.cut (tl z) a k := by unfold Tx.cut; rw [List.drop_succ_cons]
    rw [this]
    exact h.at k1 (by omega)
theorem pc_seg {k : Nat} {ws : List Str} {l : List Nat} (hl : 0 < l.length) (all : ∀ v ∈ turns k l, v ∈ ws) {a m : Nat} (hm : k ≤ m) : Pc k ws (mkS (seg l a m)) := by
  have ls : (mkS (seg l a m)).length = m := by rw [len_mkS, seg_len]
  refine pc_of (by omega) fun i hi => ?_
  rw [ls] at hi
  have := cut_seg (l := l) (x := seg l a m) (a := a) (i := i) (n := k) (by rw [seg_len]) (by rw [seg_len]; exact hi)
  rw [tl_mkS, this]
  exact all _ ((turns_mem hl _).mpr ⟨_, rfl⟩)
theorem Path.first {ws : List Str} {a b : Str} (h : Path ws a b) : a = b ∨ ∃ v ∈ ws, iniS v = a := by
  induction h with
  | here => exact .inl rfl
  | @step v _ hv ih =>
    rcases ih with e | e
    · exact .inr ⟨v, hv, e.symm⟩
    · exact .inr e
theorem Joined.next {ws : List Str} (j : Joined ws) {u : Str} (h : u ∈ ws) : ∃ v ∈ ws, iniS v = taiS u := by
  rcases (j (taiS u) (tai_place h) (iniS u) (ini_place h)).first with e | e
  · exact ⟨u, h, e.symm⟩
  · exact e
theorem Src.neL {H : Hp} {p a : Addr} {n : Nat} {xs : List Str} (s : Src H p n) (e : H a = some (.lst (xs.map V.str))) : a ≠ p := fun h => by
  obtain ⟨x, y, z, e', _⟩ := s
  rw [h, e'] at e
  cases xs with
  | nil => cases e
  | cons u xs => injection e with e; injection e with e; injection e with e _; cases e
theorem DL.but {H H' : Hp} {p d : Addr} {n : Nat} {ns : List Str} {adj : Str → List Str} (h : DL H d ns adj) (sr : Src H p n) (bt : But p H H') : DL H' d ns adj := by
  obtain ⟨f, e, g⟩ := h
  refine ⟨f, bt.kept e fun h => ?_, fun x hx => bt.kept (g x hx) (sr.neL (g x hx))⟩
  obtain ⟨x, y, z, e', _⟩ := sr
  rw [h, e'] at e; cases e
/-- the item at a drawn place -/
theorem pick_at {ws : List Str} {r : Int} (r0 : 0 ≤ r) (r1 : r < ((ws.map V.str).length : Int)) : ∃ v ∈ ws, atI (ws.map V.str) r = some (.str v) := by
  rw [List.length_map] at r1
  have lt : r.toNat < ws.length := by omega
  exact ⟨_, List.getElem_mem lt, atI_pos r0 (by rw [List.getElem?_map, List.getElem?_eq_getElem lt]; rfl)⟩
section
variable {P : Program} {w : World} {K : PySem.W.Frag} {mg : Str → Option Value} {base : Heap}
abbrev st_law_walked : Stmt := topS 44
theorem sc_law_walked : FnScope ["source", "book", "text", "size", "out", "row"] ["source", "book", "text", "size"] (defScope st_law_walked) := ⟨rfl, rfl, rfl, by decide +kernel, rfl, by decide +kernel, by decide +kernel⟩
theorem pl_law_walked : PlainB "_law_walked" st_law_walked ["source", "book", "text", "size"] := fun _ _ _ _ _ _ us hl => match us, hl with | [_, _, _, _], _ => rfl
def spWalked : Sp := fun vs H Q _ => ∃ (p b : Addr) (k size n : Nat) (ws : List Str) (z : Str), vs = [.ref p, .ref b, .str z, .int size] ∧ Src H p n ∧ n ≤ 100000000 ∧ BookAt H b k ws ∧ Book k ws ∧ ws.length ≤ 100 ∧ Joined ws ∧ Pc k ws z ∧ z.length ≤ 200 ∧ size ≤ 200 ∧
  ∀ y H', Pc k ws y → z.length ≤ y.length → (y.length ≤ size ∨ y = z) → Src H' p (n + 200) → But p H H' → Q (.str y) H'
theorem ok_law_walked (T : Top K mg "_law_walked" st_law_walked) (B : Bt mg) (D_law_out : Dn P w K mg base 1 "_law_out" st_law_out ["book"] spOut) (D_law_pick : Dn P w K mg base 1 "_law_pick" st_law_pick ["source", "top"] spPick) :
    Dn P w K mg base 2 "_law_walked" st_law_walked ["source", "book", "text", "size"] spWalked := by
  refine dn_of T sc_law_walked pl_law_walked (fun vs H Q E h => ?_) fun f cdv A outer s H vs Q E hr h => ?_
  · obtain ⟨a, b, _, _, _, _, _, rfl, _⟩ := h; rfl
  · obtain ⟨p, b, k, size, n, ws, z, rfl, sr, hn, bat, bk, wl, jn, pc, zl, hs, q⟩ := h
    have k2 := bk.n2
    have k6 := bk.n6
    have hw : ∀ x ∈ ws, x.length = k := fun x hx => (bk.each x hx).2
    refine ⟨_, (pss_cons (ps_set (i := 4) sc_law_walked.nd rfl (.inl rfl) (pe_fn D_law_out (hr.mono (by decide)) (by rfl) (pa_cons (pv 1) pa_nil)))
      (pss_cons (ps_while PassesOwn.never (pt_cmpR op_lt (pe_callB call_len_str (by rfl) B.len (by decide +kernel) (pa_cons (pv 2) pa_nil)) (pv 3) (nomark _)) (pss_cons (ps_set (i := 5) sc_law_walked.nd rfl (.inl rfl) (pe_dget (hu_of hr) (pv 4) (pe_slice sl_str (pv 2) (po_some (pe_op op_sub (pe_op op_add (pe_callB call_len_str (by rfl) B.len (by decide +kernel) (pa_cons (pv 2) pa_nil)) pe_int) (pe_ix (ixTK K rfl) (pv 1) pe_int (fun _ _ => rfl)))) po_none) (fun _ _ => rfl)))
      (pss_one (ps_set (i := 2) sc_law_walked.nd rfl (.inl rfl) (pe_op op_add_str (pv 2) (pe_ix ix_str (pe_ix (ixK K rfl) (pv 5) (pe_fn D_law_pick (hr.mono (by decide)) (by rfl) (pa_cons (pv 0) (pa_cons (pe_callB (lenK K rfl) (by rfl) B.len (by decide +kernel) (pa_cons (pv 5) pa_nil)) pa_nil))) (fun _ _ => rfl)) (pe_un un_neg pe_int) (fun _ _ => rfl)))))))
      (pss_one (ps_ret (pv 2))))), ?_⟩
    refine ⟨_, rfl, b, k, ws, rfl, bat, bk, wl, fun d ns H1 nd s1 nn nl mem dl => ?_⟩
    have sr1 := sr.same s1
    have bat1 := bat.same s1
    refine ⟨fun m σ H' => ∃ (y : Str) (o5 : Option V), σ = [some (.ref p), some (.ref b), some (.str y), some (.int size), some (.ref d), o5] ∧ Pc k ws y ∧ z.length ≤ y.length ∧ (y.length ≤ size ∨ y = z) ∧ Src H' p (n + (y.length - z.length)) ∧ But p H1 H' ∧ m = size - y.length,
      ⟨_, z, none, rfl, pc, Nat.le_refl _, .inr rfl, sr1.mono (by omega), But.refl, rfl⟩, fun m σ H' ⟨y, o5, eσ, py, zy, yl, sr', bt', em⟩ => ?_⟩
    subst eσ
    have y200 : y.length ≤ 200 := by
      rcases yl with h | h
      · omega
      · rw [h]; exact zl
    have sy : y.length ≤ sizeLine := big6 (by omega)
    refine ⟨_, rfl, y, rfl, sy, _, rfl, _, _, rfl, rfl, _, rfl, ?_⟩
    refine ite2 (fun lt => ?_) fun ge => ?_
    · have lt := of_decide_eq_true lt
      have yk := py.1
      obtain ⟨fa, ed, ga⟩ := dl.but sr1 bt'
      obtain ⟨t', eb', et'⟩ := bat1.but bt' sr1
      have lm := py.last (by omega)
      obtain ⟨v0, hv0, ev0⟩ := jn.next lm
      rw [end_tai (by omega) yk] at ev0
      have pn : endS (k - 1) y ∈ ns := (mem _).mpr (List.mem_map.mpr ⟨v0, hv0, ev0⟩)
      refine ⟨_, fun _ _ h => h, ?_⟩
      refine ⟨_, rfl, _, rfl, _, rfl, y, rfl, sy, _, _, rfl, rfl, _, rfl, b, _, _, _, rfl, rfl, .inl (.inl eb'), rfl, _, _, rfl, rfl, _, rfl, y, rfl, sy, ?_⟩
      rw [show ((y.length : Int) + 1 - (k : Int)) = ((y.length - (k - 1) : Nat) : Int) by omega, cutS_from y _ (by omega)]
      change ∃ _ _, _ ∧ DGet _ _ (.str (endS (k - 1) y)) _ ∧ _
      refine ⟨d, .ref (fa (endS (k - 1) y)), rfl, dget_of (.inl ed) (dkF_val _ pn), ?_⟩
      have er := ga _ pn
      have b0 : 1 ≤ (begW ws (endS (k - 1) y)).length := List.length_pos_of_mem (mem_begW.mpr ⟨hv0, ev0⟩)
      have b1 : (begW ws (endS (k - 1) y)).length ≤ 100 := Nat.le_trans (List.length_filter_le ..) wl
      refine ⟨_, rfl, _, rfl, _, rfl, _, rfl, fa (endS (k - 1) y), _, rfl, .inl (.inl (.inl er)), p, (((begW ws (endS (k - 1) y)).map V.str).length : Int), _, rfl, sr', by omega, by rw [List.length_map]; omega, by rw [List.length_map]; omega, fun r5 H5 d0 d1 sr5 bt5 => ?_⟩
      obtain ⟨v, hv, ev⟩ := pick_at d0 d1
      obtain ⟨hvm, hve⟩ := mem_begW.mp hv
      have vl := hw v hvm
      obtain ⟨c, hc, ec⟩ := las_at (z := v) (by omega)
      refine ⟨fa (endS (k - 1) y), _, r5, _, rfl, rfl, .inl (.inl (bt5.kept er (sr'.neL er))), ev, _, rfl, v, _, _, rfl, rfl, big (by omega), hc, _, _, rfl, rfl, by show y.length + 1 ≤ sizeLine; exact big6 (by omega), ?_⟩
      have ex : y ++ (⟨#[c]⟩ : Str) = mkS (tl y ++ lasL v) := by refine ext_tl ?_; rw [tl_append, ec]; rfl
      have el : (y ++ (⟨#[c]⟩ : Str)).length = y.length + 1 := by rw [len_app]; rfl
      exact ⟨size - (y ++ (⟨#[c]⟩ : Str)).length, by rw [el]; omega, _, _, rfl, by rw [ex]; exact py.snoc (by omega) hvm vl hve, by omega, .inl (by omega), sr5.mono (by rw [el]; omega), bt'.trans bt5, rfl⟩
    · refine ⟨_, rfl, q y H' py zy yl (sr'.mono (by omega)) ((Same.but s1).trans bt')⟩
abbrev st_law_piece : Stmt := topS 45
theorem sc_law_piece : FnScope ["source", "book", "ring", "size", "start"] ["source", "book", "ring"] (defScope st_law_piece) := ⟨rfl, rfl, rfl, by decide +kernel, rfl, by decide +kernel, by decide +kernel⟩
theorem pl_law_piece : PlainB "_law_piece" st_law_piece ["source", "book", "ring"] := fun _ _ _ _ _ _ us hl => match us, hl with | [_, _, _], _ => rfl
def spPiece : Sp := fun vs H Q _ => ∃ (p b : Addr) (k n : Nat) (ws : List Str) (z : Str), vs = [.ref p, .ref b, .str z] ∧ Src H p n ∧ n ≤ 10000000 ∧ BookAt H b k ws ∧ Book k ws ∧ ws.length ≤ 100 ∧ Joined ws ∧ 1 ≤ z.length ∧ z.length ≤ 200 ∧ (∀ v ∈ turns k (tl z), v ∈ ws) ∧
  ∀ y H', Pc k ws y → y.length ≤ 120 → Src H' p (n + 300) → But p H H' → Q (.str y) H'
/-- what is read in a ring text, in the law's words -/
theorem read_ring {z : Str} {a m : Nat} {d : Nat} (z1 : 1 ≤ z.length) (ha : a < z.length) (hd : d = m / z.length) :
    (mkS (rep (d + 2) (tl z))).length = z.length * d + z.length * 2 ∧ cutS (mkS (rep (d + 2) (tl z))) (some (a : Int)) (some ((a : Int) + (m : Int))) = mkS (seg (tl z) a m) := by
  have hl : 0 < (tl z).length := by rw [← len_tl]; omega
  have e5 : z.length * (d + 2) = z.length * d + z.length * 2 := Nat.mul_add _ _ _
  have e6 : (mkS (rep (d + 2) (tl z))).length = z.length * d + z.length * 2 := by
    rw [len_mkS, rep_len, ← len_tl, Nat.mul_comm, e5]
  have e7 := Nat.div_add_mod m z.length
  have e8 := Nat.mod_lt m (show 0 < z.length by omega)
  rw [← hd] at e7
  refine ⟨e6, ?_⟩
  rw [cutS_mid (mkS (rep (d + 2) (tl z))) a m (by rw [e6]; omega), tl_mkS, cut_rep hl (by omega) (by rw [← len_tl, Nat.mul_comm, e5]; omega)]
theorem ok_law_piece (T : Top K mg "_law_piece" st_law_piece) (B : Bt mg) (D_law_pick : Dn P w K mg base 1 "_law_pick" st_law_pick ["source", "top"] spPick) (D_law_walked : Dn P w K mg base 2 "_law_walked" st_law_walked ["source", "book", "text", "size"] spWalked) :
    Dn P w K mg base 3 "_law_piece" st_law_piece ["source", "book", "ring"] spPiece := by
  refine dn_of T sc_law_piece pl_law_piece (fun vs H Q E h => ?_) fun f cdv A outer s H vs Q E hr h => ?_
  · obtain ⟨a, b, _, _, _, _, rfl, _⟩ := h; rfl
  · obtain ⟨p, b, k, n, ws, z, rfl, sr, hn, bat, bk, wl, jn, z1, zl, all, q⟩ := h
    have k2 := bk.n2
    have k6 := bk.n6
    obtain ⟨t, eb, et⟩ := id bat
    obtain ⟨o, eo⟩ := id sr.at
    refine ⟨_, (pss_cons (ps_set (i := 3) sc_law_piece.nd rfl (.inl rfl) (pe_op op_add (pe_ix (ixTK K rfl) (pv 1) pe_int (fun _ _ => rfl)) (pe_fn D_law_pick (hr.mono (by decide)) (by rfl) (pa_cons (pv 0) (pa_cons (pe_ix (ixK K rfl) (pe_lst (pa_cons pe_int (pa_cons pe_int (pa_cons pe_int (pa_cons (pe_op op_sub pe_int (pe_ix (ixTK K rfl) (pv 1) pe_int (fun _ _ => rfl))) pa_nil))))) (pe_fn D_law_pick (hr.mono (by decide)) (by rfl) (pa_cons (pv 0) (pa_cons pe_int pa_nil))) (fun _ _ => rfl)) pa_nil)))))
      (pss_cons (ps_if (pt_cmpR op_eq (pe_fn D_law_pick (hr.mono (by decide)) (by rfl) (pa_cons (pv 0) (pa_cons pe_int pa_nil))) pe_int (nomark _)) (pss_cons (ps_set (i := 4) sc_law_piece.nd rfl (.inl rfl) (pe_fn D_law_pick (hr.mono (by decide)) (by rfl) (pa_cons (pv 0) (pa_cons (pe_callB call_len_str (by rfl) B.len (by decide +kernel) (pa_cons (pv 2) pa_nil)) pa_nil))))
      (pss_one (ps_ret (pe_slice sl_str (pe_op op_mulS (pv 2) (pe_op op_add (pe_op op_fdivN (pv 3) (pe_callB call_len_str (by rfl) B.len (by decide +kernel) (pa_cons (pv 2) pa_nil))) pe_int)) (po_some (pv 4)) (po_some (pe_op op_add (pv 4) (pv 3))))))) pss_nil)
      (pss_one (ps_ret (pe_fn D_law_walked (hr.mono (by decide)) (by rfl) (pa_cons (pv 0) (pa_cons (pv 1) (pa_cons (pe_ix (ixTK K rfl) (pe_ix (ixTK K rfl) (pv 1) pe_int (fun _ _ => rfl)) (pe_fn D_law_pick (hr.mono (by decide)) (by rfl) (pa_cons (pv 0) (pa_cons (pe_callB (lenK K rfl) (by rfl) B.len (by decide +kernel) (pa_cons (pe_ix (ixTK K rfl) (pv 1) pe_int (fun _ _ => rfl)) pa_nil)) pa_nil))) (fun _ _ => rfl)) (pa_cons (pv 3) pa_nil))))))))), ?_⟩
    refine ⟨_, rfl, b, _, _, _, rfl, rfl, .inl (.inl eb), rfl, _, rfl, _, rfl, b, _, _, _, rfl, rfl, .inl (.inl eb), rfl, _, _, rfl, rfl, by show 4 ≤ sizeLine; decide, fun m nm => ?_⟩
    refine ⟨_, rfl, p, 4, n, rfl, sr.new nm, by omega, by decide, by decide, fun r1 H1 a0 a1 sr1 bt1 => ?_⟩
    have em := bt1.kept (upd_same (H := H) (a := m) (o := .lst [V.int 3, V.int 6, V.int 12, V.int (61 - (k : Int))])) (ne_of_none eo nm).symm
    obtain ⟨x, x1, x2, ex⟩ : ∃ x : Nat, 1 ≤ x ∧ x + k ≤ 61 ∧ atI [V.int 3, V.int 6, V.int 12, V.int (61 - (k : Int))] r1 = some (.int x) := by
      rcases (show r1 = 0 ∨ r1 = 1 ∨ r1 = 2 ∨ r1 = 3 by omega) with h | h | h | h <;> subst h
      · exact ⟨3, by omega, by omega, rfl⟩
      · exact ⟨6, by omega, by omega, rfl⟩
      · exact ⟨12, by omega, by omega, rfl⟩
      · refine ⟨61 - k, by omega, by omega, ?_⟩
        rw [show ((61 - k : Nat) : Int) = 61 - (k : Int) by omega]
        rfl
    refine ⟨m, _, r1, _, rfl, rfl, .inl (.inl em), ex, p, x, _, rfl, sr1, by omega, by omega, by omega, fun r2 H2 b0 b1 sr2 bt2 => ⟨_, _, rfl, rfl, ?_⟩⟩
    obtain ⟨size, es⟩ : ∃ i : Nat, (k : Int) + r2 = (i : Int) := ⟨((k : Int) + r2).toNat, by omega⟩
    have B2 : But p H H2 := ((Same.but (same_upd nm)).trans bt1).trans bt2
    have bat2 := bat.but B2 sr
    dsimp only
    rw [es]
    refine ⟨_, rfl, p, 3, _, rfl, sr2, by omega, by decide, by decide, fun r3 H3 c0 c1 sr3 bt3 => ⟨rfl, _, rfl, ?_⟩⟩
    refine ite2 (fun _ => ?_) fun _ => ?_
    · refine ⟨_, rfl, _, rfl, z, rfl, big6 (by omega), p, (z.length : Int), _, rfl, sr3, by omega, by omega, by omega, fun r4 H4 d0 d1 sr4 bt4 => ?_⟩
      obtain ⟨a, ea⟩ : ∃ i : Nat, r4 = (i : Int) := ⟨r4.toNat, by omega⟩
      subst ea
      obtain ⟨d, hd⟩ : ∃ d, d = size / z.length := ⟨_, rfl⟩
      have e1 : (size : Int).fdiv (z.length : Int) = (d : Int) := by
        rw [Int.fdiv_eq_ediv_of_nonneg _ (by omega), hd]; rfl
      have e2 : ((d : Int) + 2).toNat = d + 2 := by omega
      have e3 : z.length * d ≤ size := by rw [hd]; exact Nat.mul_div_le size z.length
      have e4 : d ≤ size := by rw [hd]; exact Nat.div_le_self _ _
      have e5 : z.length * (d + 2) = z.length * d + z.length * 2 := Nat.mul_add _ _ _
      obtain ⟨r1', r2'⟩ := read_ring (z := z) (a := a) (m := size) z1 (by omega) hd
      refine ⟨_, rfl, _, rfl, _, rfl, z, rfl, big6 (by omega), _, _, rfl, rfl, ⟨by omega, by show (z.length : Int).natAbs < _; omega⟩, _, _, rfl, rfl, ?_⟩
      rw [e1]
      refine ⟨_, _, rfl, rfl, by omega, by omega, by rw [e2, e5]; omega, ?_⟩
      rw [e2]
      refine ⟨_, rfl, _, rfl, _, rfl, _, rfl, _, _, rfl, rfl, _, rfl, mkS (rep (d + 2) (tl z)), rfl, by rw [r1']; exact big6 (by omega), ?_⟩
      rw [r2']
      have hl : 0 < (tl z).length := by rw [← len_tl]; omega
      exact q _ H4 (pc_seg hl all (by omega)) (by rw [len_mkS, seg_len]; omega) (sr4.mono (by omega)) ((B2.trans bt3).trans bt4)
    · have bat3 := bat2.but bt3 sr2
      obtain ⟨t3, eb3, et3⟩ := id bat3
      refine ⟨_, rfl, _, rfl, _, rfl, b, _, _, _, rfl, rfl, .inl (.inl eb3), rfl, _, rfl, _, rfl, b, _, _, _, rfl, rfl, .inl (.inl eb3), rfl, t3, _, rfl, .inr (.inl (.inl et3)), p, ((ws.map V.str).length : Int), _, rfl, sr3, by omega, by have := bk.one; rw [List.length_map]; omega, by rw [List.length_map]; omega, fun r4 H4 d0 d1 sr4 bt4 => ?_⟩
      obtain ⟨v, hv, ev⟩ := pick_at d0 d1
      have vl := (bk.each v hv).2
      refine ⟨t3, _, r4, _, rfl, rfl, .inl (.inl (bt4.kept et3 (sr3.ne et3))), ev, _, rfl, p, b, k, size, _, ws, v, rfl, sr4, by omega, bat3.but bt4 sr3, bk, wl, jn, ?_, by omega, by omega, fun y H5 py _ yl sr5 bt5 => ?_⟩
      · refine pc_of (by omega) fun a ha => ?_
        have : cut (tl v) a k = tl v := by
          unfold cut
          rw [show a = 0 by omega, List.drop_zero, List.take_of_length_le (by rw [← len_tl]; omega)]
        rw [this, mkS_tl]; exact hv
      · refine q y H5 py ?_ (sr5.mono (by omega)) (((B2.trans bt3).trans bt4).trans bt5)
        rcases yl with h | h
        · omega
        · rw [h]; omega
abbrev st_law_long : Stmt := topS 52
theorem sc_law_long : FnScope ["source", "book", "ring", "start", "letters"] ["source", "book", "ring"] (defScope st_law_long) := ⟨rfl, rfl, rfl, by decide +kernel, rfl, by decide +kernel, by decide +kernel⟩
theorem pl_law_long : PlainB "_law_long" st_law_long ["source", "book", "ring"] := fun _ _ _ _ _ _ us hl => match us, hl with | [_, _, _], _ => rfl
theorem ok_law_long (T : Top K mg "_law_long" st_law_long) (B : Bt mg) (D_law_pick : Dn P w K mg base 1 "_law_pick" st_law_pick ["source", "top"] spPick) (D_law_walked : Dn P w K mg base 2 "_law_walked" st_law_walked ["source", "book", "text", "size"] spWalked) :
    Dn P w K mg base 3 "_law_long" st_law_long ["source", "book", "ring"] spPiece := by
  refine dn_of T sc_law_long pl_law_long (fun vs H Q E h => ?_) fun f cdv A outer s H vs Q E hr h => ?_
  · obtain ⟨a, b, _, _, _, _, rfl, _⟩ := h; rfl
  · obtain ⟨p, b, k, n, ws, z, rfl, sr, hn, bat, bk, wl, jn, z1, zl, all, q⟩ := h
    have k2 := bk.n2
    have k6 := bk.n6
    refine ⟨_, (pss_cons (ps_par (i := 3) (j := 4) (by rfl) sc_law_long.nd rfl rfl (by decide) rfl rfl (pa_cons (pe_fn D_law_pick (hr.mono (by decide)) (by rfl) (pa_cons (pv 0) (pa_cons (pe_callB call_len_str (by rfl) B.len (by decide +kernel) (pa_cons (pv 2) pa_nil)) pa_nil))) (pa_cons (pe_op op_add pe_int (pe_fn D_law_pick (hr.mono (by decide)) (by rfl) (pa_cons (pv 0) (pa_cons pe_int pa_nil)))) pa_nil)) (by rfl))
      (pss_cons (ps_if (pt_cmpR op_eq (pe_fn D_law_pick (hr.mono (by decide)) (by rfl) (pa_cons (pv 0) (pa_cons pe_int pa_nil))) pe_int (nomark _)) (pss_one (ps_ret (pe_slice sl_str (pe_op op_mulS (pv 2) (pe_op op_add (pe_op op_fdivN (pv 4) (pe_callB call_len_str (by rfl) B.len (by decide +kernel) (pa_cons (pv 2) pa_nil))) pe_int)) (po_some (pv 3)) (po_some (pe_op op_add (pv 3) (pv 4)))))) pss_nil)
      (pss_one (ps_ret (pe_fn D_law_walked (hr.mono (by decide)) (by rfl) (pa_cons (pv 0) (pa_cons (pv 1) (pa_cons (pe_ix (ixTK K rfl) (pe_ix (ixTK K rfl) (pv 1) pe_int (fun _ _ => rfl)) (pe_fn D_law_pick (hr.mono (by decide)) (by rfl) (pa_cons (pv 0) (pa_cons (pe_callB (lenK K rfl) (by rfl) B.len (by decide +kernel) (pa_cons (pe_ix (ixTK K rfl) (pv 1) pe_int (fun _ _ => rfl)) pa_nil)) pa_nil))) (fun _ _ => rfl)) (pa_cons (pv 4) pa_nil))))))))), ?_⟩
    refine ⟨_, rfl, _, rfl, z, rfl, big6 (by omega), p, (z.length : Int), n, rfl, sr, by omega, by omega, by omega, fun r1 H1 a0 a1 sr1 bt1 => ⟨_, rfl, p, 60, n + 1, rfl, sr1, by omega, by decide, by decide, fun r2 H2 b0 b1 sr2 bt2 => ⟨_, _, rfl, rfl, _, _, rfl, ?_⟩⟩⟩
    obtain ⟨a, ea⟩ : ∃ i : Nat, r1 = (i : Int) := ⟨r1.toNat, by omega⟩
    subst ea
    obtain ⟨size, es⟩ : ∃ i : Nat, (61 : Int) + r2 = (i : Int) := ⟨((61 : Int) + r2).toNat, by omega⟩
    have B2 : But p H H2 := bt1.trans bt2
    have bat2 := bat.but B2 sr
    dsimp only
    rw [es]
    refine ⟨_, rfl, p, 2, _, rfl, sr2, by omega, by decide, by decide, fun r3 H3 c0 c1 sr3 bt3 => ⟨rfl, _, rfl, ?_⟩⟩
    refine ite2 (fun _ => ?_) fun _ => ?_
    · obtain ⟨d, hd⟩ : ∃ d, d = size / z.length := ⟨_, rfl⟩
      have e1 : (size : Int).fdiv (z.length : Int) = (d : Int) := by
        rw [Int.fdiv_eq_ediv_of_nonneg _ (by omega), hd]; rfl
      have e2 : ((d : Int) + 2).toNat = d + 2 := by omega
      have e3 : z.length * d ≤ size := by rw [hd]; exact Nat.mul_div_le size z.length
      have e4 : d ≤ size := by rw [hd]; exact Nat.div_le_self _ _
      have e5 : z.length * (d + 2) = z.length * d + z.length * 2 := Nat.mul_add _ _ _
      obtain ⟨r1', r2'⟩ := read_ring (z := z) (a := a) (m := size) z1 (by omega) hd
      refine ⟨_, rfl, _, rfl, _, rfl, z, rfl, big6 (by omega), _, _, rfl, rfl, ⟨by omega, by show (z.length : Int).natAbs < _; omega⟩, _, _, rfl, rfl, ?_⟩
      rw [e1]
      refine ⟨_, _, rfl, rfl, by omega, by omega, by rw [e2, e5]; omega, ?_⟩
      rw [e2]
      refine ⟨_, rfl, _, rfl, _, rfl, _, rfl, _, _, rfl, rfl, _, rfl, mkS (rep (d + 2) (tl z)), rfl, by rw [r1']; exact big6 (by omega), ?_⟩
      rw [r2']
      have hl : 0 < (tl z).length := by rw [← len_tl]; omega
      exact q _ H3 (pc_seg hl all (by omega)) (by rw [len_mkS, seg_len]; omega) (sr3.mono (by omega)) (B2.trans bt3)
    · have bat3 := bat2.but bt3 sr2
      obtain ⟨t3, eb3, et3⟩ := id bat3
      refine ⟨_, rfl, _, rfl, _, rfl, b, _, _, _, rfl, rfl, .inl (.inl eb3), rfl, _, rfl, _, rfl, b, _, _, _, rfl, rfl, .inl (.inl eb3), rfl, t3, _, rfl, .inr (.inl (.inl et3)), p, ((ws.map V.str).length : Int), _, rfl, sr3, by omega, by have := bk.one; rw [List.length_map]; omega, by rw [List.length_map]; omega, fun r4 H4 d0 d1 sr4 bt4 => ?_⟩
      obtain ⟨v, hv, ev⟩ := pick_at d0 d1
      have vl := (bk.each v hv).2
      refine ⟨t3, _, r4, _, rfl, rfl, .inl (.inl (bt4.kept et3 (sr3.ne et3))), ev, _, rfl, p, b, k, size, _, ws, v, rfl, sr4, by omega, bat3.but bt4 sr3, bk, wl, jn, ?_, by omega, by omega, fun y H5 py _ yl sr5 bt5 => ?_⟩
      · refine pc_of (by omega) fun a ha => ?_
        have : cut (tl v) a k = tl v := by
          unfold cut
          rw [show a = 0 by omega, List.drop_zero, List.take_of_length_le (by rw [← len_tl]; omega)]
        rw [this, mkS_tl]; exact hv
      · refine q y H5 py ?_ (sr5.mono (by omega)) (((B2.trans bt3).trans bt4).trans bt5)
        rcases yl with h | h
        · omega
        · rw [h]; omega
end
end Tx

set_option Elab.async false
set_option linter.all false
set_option maxRecDepth 100000
set_option maxHeartbeats 2000000
namespace Tx
open PySem PySem.Spec PyProof.Rows L2 TL RZ
theorem flat_beg_nodup {ws : List Str} (nd : ws.Nodup) : ∀ {ns : List Str}, ns.Nodup → (ns.flatMap (begW ws)).Nodup
  | [], _ => List.nodup_nil
  | x :: ns, h => by
    obtain ⟨h1, h2⟩ := List.nodup_cons.mp h
    rw [List.flatMap_cons, List.nodup_append]
    refine ⟨nd.sublist List.filter_sublist, flat_beg_nodup nd h2, fun a ha b hb e => ?_⟩
    obtain ⟨y, hy, hb⟩ := List.mem_flatMap.mp hb
    rw [← e] at hb
    exact h1 (by rw [← (mem_begW.mp ha).2, (mem_begW.mp hb).2]; exact hy)
theorem mem_flat_beg {ws ns : List Str} (h : ∀ x, x ∈ ns ↔ x ∈ placesL ws) {v : Str} : v ∈ ns.flatMap (begW ws) ↔ v ∈ ws := by
  rw [List.mem_flatMap]
  constructor
  · rintro ⟨x, _, hv⟩; exact (mem_begW.mp hv).1
  · intro hv; exact ⟨iniS v, (h _).mpr (ini_place hv), mem_begW.mpr ⟨hv, rfl⟩⟩
section
variable {P : Program} {w : World} {K : PySem.W.Frag} {mg : Str → Option Value} {base : Heap}
abbrev st_text_of : Stmt := topS 6
theorem sc_text_of : FnScope ["steps", "step"] ["steps"] (defScope st_text_of) := ⟨rfl, rfl, rfl, by decide +kernel, rfl, by decide +kernel, by decide +kernel⟩
theorem pl_text_of : PlainB "text_of" st_text_of ["steps"] := fun _ _ _ _ _ _ us hl => match us, hl with | [_], _ => rfl
def spTextOf : Sp := fun vs H Q _ => ∃ (p : Addr) (xs : List Str), vs = [.ref p] ∧ H p = some (.lst (xs.map V.str)) ∧ 1 ≤ xs.length ∧ xs.length ≤ 3000 ∧ (∀ x ∈ xs, 1 ≤ x.length ∧ x.length ≤ 6) ∧ ∀ H', Same H H' → Q (.str (mkS (txt xs))) H'
theorem las_one {v : Str} {c : Nat} (h1 : 1 ≤ v.length) (hc : (tl v)[v.length - 1]? = some c) : lasL v = [c] := by
  have l := las_len h1
  unfold lasL at l ⊢
  have e : ((tl v).drop (v.length - 1))[0]? = some c := by rw [List.getElem?_drop]; exact hc
  match (tl v).drop (v.length - 1), l, e with
  | [a], _, e => simp at e; rw [e]
theorem ok_text_of (T : Top K mg "text_of" st_text_of) (B : Bt mg) : Dn P w K mg base 1 "text_of" st_text_of ["steps"] spTextOf := by
  refine dn_of T sc_text_of pl_text_of (fun vs H Q E h => ?_) fun f cdv A outer s H vs Q E hr h => ?_
  · obtain ⟨a, b, rfl, _⟩ := h; rfl
  · obtain ⟨p, xs, rfl, ep, x1, x2, hx, q⟩ := h
    obtain ⟨x0, xr, exs⟩ : ∃ x0 xr, xs = x0 :: xr := by
      cases xs with
      | nil => exact absurd x1 (by decide)
      | cons a r => exact ⟨a, r, rfl⟩
    refine ⟨_, (pss_one (ps_ret (pe_op op_add_str (pe_ix (ixK K rfl) (pv 0) pe_int (fun _ _ => rfl)) (joinK K rfl pe_str (pe_lc (own := [("step", 1)]) (g := gName 1) rfl sc_text_of.nd (pi_list (pe_slice (slK K rfl) (pv 0) (po_some pe_int) po_none)) (blkOk_by (N := ["steps", "step"]) (sc := defScope st_text_of) (by decide +kernel)) (fun _ _ _ _ _ => (pg_name (i := 1) sc_text_of.nd rfl (.inl rfl))) (fun _ _ _ _ _ => pts_nil) (fun _ _ _ _ _ => (pe_ix ix_str (pv 1) (pe_un un_neg pe_int) (fun _ _ => rfl)))))))), ?_⟩
    refine ⟨_, rfl, p, _, 0, .str x0, rfl, rfl, .inl (.inl ep), atI_pos (by decide) (by rw [exs]; rfl), ?_⟩
    refine ⟨⟨_, rfl⟩, _, rfl, _, rfl, p, _, rfl, .inl (.inl ep), fun g ng => ?_⟩
    rw [cutV_tail, ← List.map_drop]
    refine ⟨g, rfl, ⟨_, .inl (.inl upd_same)⟩, fun D hD => ?_⟩
    have er : xs.drop 1 = xr := by rw [exs]; rfl
    rw [er] at hD ⊢
    have eg : (upd H g (.lst (xr.map V.str))) g = some (.lst (xr.map V.str)) := upd_same
    have sg : Same H (upd H g (.lst (xr.map V.str))) := same_upd ng
    generalize upd H g (.lst (xr.map V.str)) = H1 at eg sg hD ⊢
    have lr : xr.length ≤ 3000 := by rw [exs, List.length_cons] at x2; omega
    refine lc_list (a := g) (xs := xr.map V.str) (fun i H' => Same H1 H' ∧ H' D = some (.lst (((xr.take i).map fun v => mkS (lasL v)).map V.str))) ⟨same_upd hD, upd_same⟩ (fun i H' _ h => .inl (.inl (h.1 _ _ eg))) (fun i y H' hi ⟨sm, e⟩ => ?_) fun H' ⟨sm, e⟩ => ?_
    · obtain ⟨v, hv, rfl⟩ := str_at hi
      obtain ⟨v1, v6⟩ := hx v (by rw [exs]; exact List.mem_cons_of_mem _ (List.mem_of_getElem? hv))
      have il := (List.getElem?_eq_some_iff.mp hv).1
      have ltv : v.length - 1 < (tl v).length := by rw [← len_tl]; omega
      have hc : (tl v)[v.length - 1]? = some (tl v)[v.length - 1] := List.getElem?_eq_getElem ltv
      refine ⟨rfl, lc_yes ?_⟩
      refine ⟨_, rfl, _, rfl, v, _, _, rfl, rfl, big (by omega), atI_last hc (by omega), _, e, by rw [List.length_map, List.length_map, List.length_take]; exact lt_line (by omega), wr sm hD, ?_⟩
      rw [upd_same, take_mem hv, List.map_append, List.map_append]
      show some (HO.lst (_ ++ [V.str (mkS [_])])) = some (HO.lst (_ ++ [V.str (mkS (lasL v))]))
      rw [las_one v1 hc]
    · rw [List.length_map, List.take_length] at e
      have one : ∀ y ∈ xr.map fun v => mkS (lasL v), y.length = 1 := fun y hy => by
        obtain ⟨v, hv, rfl⟩ := List.mem_map.mp hy
        rw [len_mkS]
        exact las_len (hx v (by rw [exs]; exact List.mem_cons_of_mem _ hv)).1
      have sum : (((xr.map fun v => mkS (lasL v)).map (·.length)).sum) = xr.length := by
        rw [show ((xr.map fun v => mkS (lasL v)).map (·.length)) = List.replicate xr.length 1 from List.eq_replicate_iff.mpr ⟨by simp, fun b hb => by
          obtain ⟨y, hy, rfl⟩ := List.mem_map.mp hb
          exact one y hy⟩]
        simp
      have ej : Txt.join (Str.ofString "") (xr.map fun v => mkS (lasL v)) = mkS (xr.map lasL).flatten := by
        rw [join_e, List.map_map]; rfl
      have x06 := (hx x0 (by rw [exs]; exact List.mem_cons_self ..)).2
      refine ⟨Str.ofString "", D, xr.map fun v => mkS (lasL v), rfl, rfl, .inl (.inl (.inl e)), ?_, ?_⟩
      · rw [sum, str_e]; show xr.length + _ * 0 ≤ _; omega
      · rw [ej]
        have lj : (mkS (xr.map lasL).flatten).length = xr.length := by
          rw [len_mkS, List.length_flatten, ← sum, List.map_map, List.map_map]; rfl
        refine ⟨_, _, rfl, rfl, by rw [lj]; exact Nat.le_trans (show _ ≤ 100000 by omega) (by decide), ?_⟩
        have et : x0 ++ mkS (xr.map lasL).flatten = mkS (txt xs) := by
          refine ext_tl ?_
          rw [tl_append, exs]; rfl
        rw [et]
        exact q H' (sg.trans sm)
abbrev st_lot_between : Stmt := topS 30
theorem sc_lot_between : FnScope ["starts", "into", "out", "ends", "windows", "links", "place", "window"] ["starts", "into", "out"] (defScope st_lot_between) := ⟨rfl, rfl, rfl, by decide +kernel, rfl, by decide +kernel, by decide +kernel⟩
theorem pl_lot_between : PlainB "lot_between" st_lot_between ["starts", "into", "out"] := fun _ _ _ _ _ _ us hl => match us, hl with | [_, _, _], _ => rfl
def spBetween : Sp := fun vs H Q _ => ∃ (d : Addr) (k : Nat) (a c : Str) (ns ws : List Str), vs = [.ref d, .str a, .str c] ∧ DL H d ns (begW ws) ∧ Up ns (placesL ws) ∧ Book k ws ∧ ws.length ≤ 100 ∧ a ∈ ws ∧ c ∈ ws ∧
  ∀ p H' R, H p = none → Same H H' → H' p = some (.dK (R.map encE)) → (keysE R).Nodup → (∀ x ∈ keysE R, x ∈ ws) → Run (adjL ws a c) ((stL ws c).map fun s => (s, none)) 0 R → Q (.ref p) H'
theorem ok_lot_between (T : Top K mg "lot_between" st_lot_between) (B : Bt mg) (D_reached : Dn P w K mg base 1 "reached" st_reached ["starts", "links"] (spReached (K := K))) : Dn P w K mg base 2 "lot_between" st_lot_between ["starts", "into", "out"] spBetween := by
  refine dn_of T sc_lot_between pl_lot_between (fun vs H Q E h => ?_) fun f cdv A outer s H vs Q E hr h => ?_
  · obtain ⟨_, _, _, _, _, _, rfl, _⟩ := h; rfl
  · obtain ⟨d, k, a, c, ns, ws, rfl, ⟨fa, ed, ga⟩, up, bk, wl, ha, hc, q⟩ := h
    have k2 := bk.n2
    have k6 := bk.n6
    obtain ⟨la, al⟩ := bk.each a ha
    obtain ⟨lc, cl⟩ := bk.each c hc
    refine ⟨_, (pss_cons (ps_set (i := 3) sc_lot_between.nd rfl (.inr rfl) (pe_tup (pa_cons (pe_slice sl_str (pv 1) (po_some pe_int) po_none) (pa_cons (pe_slice sl_str (pv 2) po_none (po_some (pe_un un_neg pe_int))) pa_nil))))
      (pss_cons (ps_lock (ps_setLc2 (i := 4) (own := [("place", 6), ("window", 7)]) (vs1 := [7]) (g := gName 6) (g1 := gName 7) rfl sc_lot_between.nd rfl rfl (sw_true rfl rfl rfl (by decide +kernel)) (pi_keys (pv 0)) (blkOk_by (N := ["starts", "into", "out", "ends", "windows", "links", "place", "window"]) (sc := defScope st_lot_between) (by decide +kernel)) (by decide) (fun _ _ _ _ _ => (pg_name (i := 6) sc_lot_between.nd rfl (.inl rfl))) (fun _ _ _ _ _ => pts_nil) (fun _ _ _ _ _ => (pi_listK K rfl (pe_dget (hu_of hr) (pv 0) (pv 6) (fun _ _ => rfl)))) (fun _ _ _ _ _ => (pg_name (i := 7) sc_lot_between.nd rfl (.inl rfl))) (fun _ _ _ _ _ => pts_nil) (fun _ _ _ _ _ => (pv 7))))
      (pss_cons (ps_setDc (i := 5) (own := [("window", 7)]) (g := gName 7) rfl sc_lot_between.nd rfl rfl (sw_trueD rfl rfl rfl (by decide +kernel)) (pi_list (pv 4)) (blkOk_by (N := ["starts", "into", "out", "ends", "windows", "links", "place", "window"]) (sc := defScope st_lot_between) (by decide +kernel)) (fun _ _ _ _ _ => (pg_name (i := 7) sc_lot_between.nd rfl (.inl rfl))) (fun _ _ _ _ _ => pts_nil) (fun _ _ _ _ _ => (pv 7)) (fun _ _ _ _ _ => (pe_ifExp (pt_cmpR (inK K rfl) (pe_slice sl_str (pv 7) (po_some pe_int) po_none) (pv 3) (by rfl)) (pe_lst pa_nil) (pe_dget (hu_of hr) (pv 0) (pe_slice sl_str (pv 7) (po_some pe_int) po_none) (fun _ _ => rfl)))))
      (pss_one (ps_ret (pe_fn D_reached (hr.mono (by decide)) (by rfl) (pa_cons (pe_lc (own := [("window", 7)]) (g := gName 7) rfl sc_lot_between.nd (pi_list (pe_dget (hu_of hr) (pv 0) (pe_slice sl_str (pv 2) po_none (po_some (pe_un un_neg pe_int))) (fun _ _ => rfl))) (blkOk_by (N := ["starts", "into", "out", "ends", "windows", "links", "place", "window"]) (sc := defScope st_lot_between) (by decide +kernel)) (fun _ _ _ _ _ => (pg_name (i := 7) sc_lot_between.nd rfl (.inl rfl))) (fun _ _ _ _ _ => (pts_one (pt_cmpR op_ne (pv 7) (pv 2) (nomark _)))) (fun _ _ _ _ _ => (pv 7))) (pa_cons (pv 5) pa_nil)))))))), ?_⟩
    refine ⟨_, rfl, _, rfl, a, rfl, big (by omega), ?_⟩
    rw [tai_eq' (by omega)]
    refine ⟨_, rfl, _, rfl, _, rfl, c, rfl, big (by omega), ?_⟩
    rw [ini_eq' (by omega)]
    dsimp only [tNil]
    refine ⟨by show 2 ≤ sizeLine; decide, fun t0 nt0 => ?_⟩
    have s1 : Same H (upd H t0 (.tup [V.str (taiS a), V.str (iniS c)])) := same_upd nt0
    have et1 : (upd H t0 (.tup [V.str (taiS a), V.str (iniS c)])) t0 = some (.tup ([taiS a, iniS c].map V.str)) := upd_same
    generalize upd H t0 (.tup [V.str (taiS a), V.str (iniS c)]) = H1 at s1 et1 ⊢
    have ed1 := s1 _ _ ed
    have ga1 : ∀ x ∈ ns, H1 (fa x) = some (.lst ((begW ws x).map V.str)) := fun x hx => s1 _ _ (ga x hx)
    obtain ⟨wz, ewz⟩ : ∃ wz, wz = ns.flatMap (begW ws) := ⟨_, rfl⟩
    have ndw : wz.Nodup := by rw [ewz]; exact flat_beg_nodup bk.nodup up.2.1
    have mw : ∀ v, v ∈ wz ↔ v ∈ ws := fun v => by rw [ewz]; exact mem_flat_beg up.2.2.1
    have wzl : wz.length ≤ ws.length := pig _ _ ndw fun v hv => (mw v).mp hv
    refine ⟨d, _, ed1, trivial, fun od => ?_⟩
    have gad : ∀ x ∈ ns, fa x ≠ d := fun x hx h => by have := ga1 x hx; rw [h, ed1] at this; cases this
    have ed2 : (upd H1 d (.frz od (.dK (dkF (fun x => .ref (fa x)) ns)))) d = some (.frz od (.dK (dkF (fun x => .ref (fa x)) ns))) := upd_same
    have ga2 : ∀ x ∈ ns, (upd H1 d (.frz od (.dK (dkF (fun x => .ref (fa x)) ns)))) (fa x) = some (.lst ((begW ws x).map V.str)) := fun x hx => keep_ne (ga1 x hx) (gad x hx)
    refine ⟨_, rfl, d, od, rfl, .inl ⟨_, upd_same, fun D nD => ?_⟩⟩
    have nDH := free_lock ed1 nD
    generalize hH2 : upd H1 d (.frz od (.dK (dkF (fun x => .ref (fa x)) ns))) = H2 at nD ed2 ga2 ⊢
    refine it_all (walk_keys (d := d) (o := od) (kvs := dkF (fun x => .ref (fa x)) ns)) (fun i H' => Same H2 H' ∧ H' D = some (.lst (((ns.take i).flatMap (begW ws)).map V.str)))
      ⟨same_upd nD, upd_same⟩ (fun i H' _ h => h.1 _ _ ed2) (fun i x0 H' H'' hi ⟨sm, e⟩ ⟨eH, kk, vv, hkv, ex0⟩ => ?_) fun H3 ⟨s3, e3⟩ => ?_
    · subst eH ex0
      obtain ⟨x, hx', rfl, rfl⟩ := dkF_at hkv
      have hxm := List.mem_of_getElem? hx'
      have ht : ns.take (i + 1) = ns.take i ++ [x] := take_mem hx'
      have less : ((ns.take i).flatMap (begW ws)).length + (begW ws x).length ≤ wz.length := by
        have : ns = ns.take i ++ x :: ns.drop (i + 1) := by
          have := List.take_append_drop i ns
          rw [List.drop_eq_getElem?_toList_append, hx'] at this
          exact this.symm
        rw [ewz]
        conv => rhs; rw [this]
        rw [List.flatMap_append, List.flatMap_cons, List.length_append, List.length_append]
        omega
      refine ⟨rfl, yes_of ?_⟩
      refine ⟨_, rfl, _, rfl, d, .ref (fa x), rfl, dget_of (.inr ⟨od, sm _ _ ed2⟩) (dkF_val _ hxm), fa x, rfl, ⟨_, .inl (.inl (sm _ _ (ga2 x hxm)))⟩, ?_⟩
      refine it_all (walk_list (K := K) (a := fa x) (xs := (begW ws x).map V.str)) (fun j H' => Same H2 H' ∧ H' D = some (.lst (((ns.take i).flatMap (begW ws) ++ (begW ws x).take j).map V.str)))
        ⟨sm, by rw [List.take_zero, List.append_nil]; exact e⟩ (fun j H' _ h => .inl (.inl (h.1 _ _ (ga2 x hxm)))) (fun j y0 H4 H5 hj ⟨sm2, e2⟩ ⟨eH2, hy0⟩ => ?_) fun H4 ⟨sm2, e2⟩ => ?_
      · subst eH2
        obtain ⟨y, hy1, rfl⟩ := str_at hy0
        have jl := (List.getElem?_eq_some_iff.mp hy1).1
        refine ⟨rfl, lc_yes ?_⟩
        refine ⟨_, rfl, _, e2, by rw [List.length_map, List.length_append, List.length_take]; exact lt_line (by omega), wr sm2 nD, ?_⟩
        rw [upd_same, take_mem hy1, ← List.append_assoc, List.map_append (l₂ := [y])]; rfl
      · refine ⟨sm2, ?_⟩
        rw [List.length_map, List.take_length] at e2
        rw [e2, ht, List.flatMap_append]
        simp
    rw [dkF_len, List.take_length, ← ewz] at e3
    refine ⟨s3 _ _ ed2, ?_⟩
    have s4 : Same H1 (upd H3 d (.dK (dkF (fun x => .ref (fa x)) ns))) := same_unlock (H' := H3) ed1 (by rw [hH2]; exact s3)
    have nDd : D ≠ d := fun h => by subst h; rw [ed1] at nDH; cases nDH
    have e4 : (upd H3 d (.dK (dkF (fun x => .ref (fa x)) ns))) D = some (.lst (wz.map V.str)) := keep_ne e3 nDd
    generalize upd H3 d (.dK (dkF (fun x => .ref (fa x)) ns)) = H4 at s4 e4 ⊢
    have ed4 := s4 _ _ ed1
    have et4 := s4 _ _ et1
    have ga4 : ∀ x ∈ ns, H4 (fa x) = some (.lst ((begW ws x).map V.str)) := fun x hx => s4 _ _ (ga1 x hx)
    refine ⟨_, rfl, D, rfl, ⟨_, .inl (.inl e4)⟩, fun L nL => ?_⟩
    refine dc_list (a := D) (xs := wz.map V.str) (fun i H' => Same H4 H' ∧ ∃ g : Str → Addr, H' L = some (.dK (dkF (fun x => .ref (g x)) (wz.take i))) ∧ ∀ x ∈ wz.take i, H' (g x) = some (.lst ((adjL ws a c x).map V.str)))
      ⟨same_upd nL, fun _ => 0, by rw [upd_same]; rfl, fun x h => by rw [List.take_zero] at h; cases h⟩ (fun i H' _ h => .inl (.inl (h.1 _ _ e4))) (fun i y H' hi ⟨sm, g, e, hg⟩ => ?_) fun H5 ⟨s5, g, e5, hg⟩ => ?_
    · obtain ⟨x, hx, rfl⟩ := str_at hi
      have nx := not_before ndw hx
      have il := (List.getElem?_eq_some_iff.mp hx).1
      have hxw := (mw x).mp (List.mem_of_getElem? hx)
      obtain ⟨lx, xl⟩ := bk.each x hxw
      have txn : taiS x ∈ ns := (up.2.2.1 _).mpr (tai_place hxw)
      refine ⟨rfl, yes_of ?_⟩
      refine ⟨_, rfl, ?_⟩
      refine ⟨_, rfl, _, rfl, x, rfl, big (by omega), ?_⟩
      rw [tai_eq' (by omega)]
      refine ⟨_, rfl, t0, _, rfl, .inr (.inl (.inl (sm _ _ et4))), rfl, flat_strs _, ?_⟩
      rw [in_dec]
      have fin : ∀ (z : Addr) (H6 : Hp), Same H' H6 → H6 z = some (.lst ((adjL ws a c x).map V.str)) → ∃ kvs k, V.str x = kV k ∧ H6 L = some (HO.dK kvs) ∧ kvs.length < sizeLine ∧ Same H4 (upd H6 L (HO.dK (putK kvs k (.ref z)))) ∧
          ∃ g : Str → Addr, upd H6 L (HO.dK (putK kvs k (.ref z))) L = some (HO.dK (dkF (fun x => V.ref (g x)) (List.take (i + 1) wz))) ∧ ∀ (x : Str), x ∈ List.take (i + 1) wz → upd H6 L (HO.dK (putK kvs k (.ref z))) (g x) = some (HO.lst (List.map V.str (adjL ws a c x))) := fun z H6 s6 ez => by
        have e6 := s6 _ _ e
        have zL : z ≠ L := fun h => by rw [h, e6] at ez; cases ez
        have gL : ∀ y ∈ wz.take i, g y ≠ L := fun y hy h => by have := hg y hy; rw [h, e] at this; cases this
        refine ⟨_, Sum.inr x, rfl, e6, by rw [dkF_len, List.length_take]; exact lt_line (by omega), wr (sm.trans s6) nL, fun y => if y = x then z else g y, ?_, fun y hy => ?_⟩
        · rw [upd_same, dkF_put (f' := fun y => V.ref (if y = x then z else g y)) nx (by rw [if_pos rfl]) fun y hy => by rw [if_neg hy], ← take_mem hx]
        · rw [take_mem hx] at hy
          by_cases cy : y = x
          · subst cy; dsimp only; rw [if_pos rfl]; exact keep_ne ez zL
          · dsimp only; rw [if_neg cy]
            have hy := (List.mem_append.mp hy).resolve_right fun h => cy (List.mem_singleton.mp h)
            exact keep_ne (s6 _ _ (hg y hy)) (gL y hy)
      refine ⟨_, rfl, ?_⟩
      by_cases ci : taiS x ∈ [taiS a, iniS c]
      · rw [decide_eq_true ci]
        refine iteT ?_
        exact ⟨by show 0 ≤ sizeLine; decide, fun F nF => fin F _ (same_upd nF) (by rw [upd_same]; unfold adjL; rw [if_pos ci]; rfl)⟩
      · rw [decide_eq_false ci]
        refine iteF ?_
        refine ⟨_, rfl, _, rfl, _, rfl, x, rfl, big (by omega), ?_⟩
        rw [tai_eq' (by omega)]
        exact ⟨d, .ref (fa (taiS x)), rfl, dget_of (.inl (sm _ _ ed4)) (dkF_val _ txn), fin (fa (taiS x)) _ (fun _ _ h => h) (by unfold adjL; rw [if_neg ci]; exact sm _ _ (ga4 _ txn))⟩
    rw [List.length_map, List.take_length] at e5 hg
    have icn : iniS c ∈ ns := (up.2.2.1 _).mpr (ini_place hc)
    refine ⟨_, rfl, ?_⟩
    refine ⟨_, rfl, _, rfl, _, rfl, c, rfl, big (by omega), ?_⟩
    rw [ini_eq' (by omega)]
    refine ⟨d, .ref (fa (iniS c)), rfl, dget_of (.inl (s5 _ _ ed4)) (dkF_val _ icn), fa (iniS c), rfl, ⟨_, .inl (.inl (s5 _ _ (ga4 _ icn)))⟩, fun M nM => ?_⟩
    have bl : (begW ws (iniS c)).length ≤ 100 := Nat.le_trans (List.length_filter_le ..) wl
    refine it_all (walk_list (K := K) (a := fa (iniS c)) (xs := (begW ws (iniS c)).map V.str)) (fun i H' => Same H5 H' ∧ H' M = some (.lst ((((begW ws (iniS c)).take i).filter fun v => decide (v ≠ c)).map V.str)))
      ⟨same_upd nM, upd_same⟩ (fun i H' _ h => .inl (.inl (h.1 _ _ (s5 _ _ (ga4 _ icn))))) (fun i y0 H6 H7 hj ⟨sm2, e2⟩ ⟨eH2, hy0⟩ => ?_) fun H6 ⟨s6, e6⟩ => ?_
    · subst eH2
      obtain ⟨y, hy1, rfl⟩ := str_at hy0
      have jl := (List.getElem?_eq_some_iff.mp hy1).1
      refine ⟨rfl, ?_⟩
      have ht : (begW ws (iniS c)).take (i + 1) = (begW ws (iniS c)).take i ++ [y] := take_mem hy1
      have fl : (((begW ws (iniS c)).take i).filter fun v => decide (v ≠ c)).length ≤ 100 := Nat.le_trans (List.length_filter_le ..) (by rw [List.length_take]; omega)
      refine ⟨_, rfl, _, rfl, rfl, _, rfl, ?_⟩
      rw [str_ne]
      by_cases cy : y = c
      · rw [decide_eq_true cy]
        refine iteF ?_
        refine ⟨sm2, ?_⟩
        rw [e2, ht, List.filter_append, show [y].filter (fun v => decide (v ≠ c)) = [] by simp [cy], List.append_nil]
      · rw [decide_eq_false cy]
        refine iteT ?_
        refine ⟨_, rfl, _, e2, by rw [List.length_map]; exact lt_line (by omega), wr sm2 nM, ?_⟩
        rw [upd_same, ht, List.filter_append, show [y].filter (fun v => decide (v ≠ c)) = [y] by simp [cy], List.map_append]; rfl
    rw [List.length_map, List.take_length] at e6
    have s16 : Same H H6 := ((s1.trans s4).trans s5).trans s6
    refine ⟨_, rfl, M, L, stL ws c, wz, adjL ws a c, rfl, .inl (.inl e6), (bk.nodup.sublist List.filter_sublist).sublist List.filter_sublist, DL.r ⟨g, s6 _ _ e5, fun x hx => s6 _ _ (hg x hx)⟩, by omega, fun x hx => (mw x).mpr (mem_stL.mp hx).1, fun x _ y hy => (mw y).mpr (mem_adjL.mp hy).2.1, fun p H7 R np s7 ep ndR inR run => ?_⟩
    exact q p H7 R (s16.free np) (s16.trans s7) ep ndR (fun x hx => (mw x).mp (inR x hx)) run
abbrev st_way_back : Stmt := topS 32
theorem sc_way_back : FnScope ["starts", "into", "out", "came", "window"] ["starts", "into", "out"] (defScope st_way_back) := ⟨rfl, rfl, rfl, by decide +kernel, rfl, by decide +kernel, by decide +kernel⟩
theorem pl_way_back : PlainB "way_back" st_way_back ["starts", "into", "out"] := fun _ _ _ _ _ _ us hl => match us, hl with | [_, _, _], _ => rfl
def spBack : Sp := fun vs H Q _ => ∃ (d : Addr) (k : Nat) (a c : Str) (ns ws : List Str), vs = [.ref d, .str a, .str c] ∧ DL H d ns (begW ws) ∧ Up ns (placesL ws) ∧ Book k ws ∧ ws.length ≤ 100 ∧ a ∈ ws ∧ c ∈ ws ∧
  ∀ p H' l, H p = none → Same H H' → H' p = some (.lst (l.map V.str)) → (∀ x ∈ l, x ∈ ws) → l.length ≤ 100 → (l ≠ [] ↔ LeavS ws a c) → (l ≠ [] → CB a c l) → Q (.ref p) H'
theorem ok_way_back (T : Top K mg "way_back" st_way_back) (D_lot_between : Dn P w K mg base 2 "lot_between" st_lot_between ["starts", "into", "out"] spBetween) (D_trail : Dn P w K mg base 1 "trail" st_trail ["came", "end"] spTrail) :
    Dn P w K mg base 3 "way_back" st_way_back ["starts", "into", "out"] spBack := by
  refine dn_of T sc_way_back pl_way_back (fun vs H Q E h => ?_) fun f cdv A outer s H vs Q E hr h => ?_
  · obtain ⟨_, _, _, _, _, _, rfl, _⟩ := h; rfl
  · obtain ⟨d, k, a, c, ns, ws, rfl, dl, up, bk, wl, ha, hc, q⟩ := h
    have k2 := bk.n2
    have k6 := bk.n6
    obtain ⟨la, al⟩ := bk.each a ha
    have nds : (stL ws c).Nodup := (bk.nodup.sublist List.filter_sublist).sublist List.filter_sublist
    refine ⟨_, (pss_cons (ps_set (i := 3) sc_way_back.nd rfl (.inl rfl) (pe_fn D_lot_between (hr.mono (by decide)) (by rfl) (pa_cons (pv 0) (pa_cons (pv 1) (pa_cons (pv 2) pa_nil)))))
      (pss_cons (ps_lock (ps_for PassesOwn.never rfl (pi_keys (pv 3)) (pg_name (i := 4) sc_way_back.nd rfl (.inl rfl)) (pss_one (ps_if (PW.pt (pw_and (pt_cmpR op_eq (pe_slice sl_str (pv 4) (po_some pe_int) po_none) (pe_slice sl_str (pv 1) (po_some pe_int) po_none) (nomark _)) (pw_and1 (pt_cmpR op_ne (pv 4) (pv 1) (nomark _))))) (pss_one (ps_ret (pe_fn D_trail (hr.mono (by decide)) (by rfl) (pa_cons (pv 3) (pa_cons (pv 4) pa_nil))))) pss_nil))))
      (pss_one (ps_ret (pe_lst pa_nil))))), ?_⟩
    refine ⟨_, rfl, _, rfl, _, rfl, d, k, a, c, ns, ws, rfl, dl, up, bk, wl, ha, hc, fun d1 H1 R n1 s1 e1 ndR inR run => ?_⟩
    obtain ⟨_, r1, _, _⟩ := run_all nds run
    have r2 := run_short nds run
    have RL : R.length ≤ ws.length := by
      have := pig _ ws ndR inR
      rwa [show (keysE R).length = R.length from List.length_map ..] at this
    refine ⟨d1, _, e1, trivial, fun od => ?_⟩
    have ed2 : (upd H1 d1 (.frz od (.dK (R.map encE)))) d1 = some (.frz od (.dK (R.map encE))) := upd_same
    refine ⟨_, rfl, d1, od, rfl, .inl ⟨_, upd_same, ?_⟩⟩
    generalize hH2 : upd H1 d1 (.frz od (.dK (R.map encE))) = H2 at ed2 ⊢
    refine for_keys (fun i σ H' => H' = H2 ∧ (∃ o4, σ = [some (.ref d), some (.str a), some (.str c), some (.ref d1), o4]) ∧ ∀ x ∈ (keysE R).take i, ¬ (taiS x = taiS a ∧ x ≠ a))
      ⟨rfl, ⟨_, rfl⟩, fun x h => by rw [List.take_zero] at h; cases h⟩ (fun _ _ _ ⟨e, _⟩ => by rw [e]; exact ed2) (fun i kk vv σ H' hi ⟨eH, ⟨o4, eσ⟩, no⟩ => ?_) fun σ H' ⟨eH, ⟨o4, eσ⟩, no⟩ => ?_
    · subst eσ eH
      obtain ⟨x, hxi, rfl⟩ : ∃ x, (keysE R)[i]? = some x ∧ kk = Sum.inr x := by
        rw [List.getElem?_map] at hi
        cases e : R[i]? with
        | none => rw [e] at hi; cases hi
        | some p =>
          rw [e] at hi
          have hi := Option.some.inj hi
          exact ⟨p.1, by unfold keysE; rw [List.getElem?_map, e]; rfl, (congrArg Prod.fst hi).symm⟩
      have hxm := List.mem_of_getElem? hxi
      obtain ⟨lx, xl⟩ := bk.each x (inR x hxm)
      have goon : ¬ (taiS x = taiS a ∧ x ≠ a) → ∀ z ∈ (keysE R).take (i + 1), ¬ (taiS z = taiS a ∧ z ≠ a) := fun h z hz => by
        rw [take_mem hxi] at hz
        rcases List.mem_append.mp hz with hz | hz
        · exact no z hz
        · rw [List.mem_singleton.mp hz]; exact h
      refine ⟨_, rfl, _, rfl, x, rfl, big (by omega), ?_⟩
      rw [tai_eq' (by omega)]
      refine ⟨_, rfl, ?_⟩
      refine ⟨_, rfl, a, rfl, big (by omega), ?_⟩
      rw [tai_eq' (by omega)]
      refine ⟨rfl, _, rfl, ?_⟩
      rw [str_ne]
      by_cases c1 : taiS x = taiS a
      · rw [decide_eq_true c1]
        refine iteT ?_
        refine ⟨_, rfl, _, rfl, rfl, _, rfl, ?_⟩
        show (if (!decide (V.str x = V.str a)) = true then _ else _)
        rw [str_ne]
        by_cases c2 : x = a
        · rw [decide_eq_true c2]
          refine iteF ?_
          exact ⟨rfl, ⟨_, rfl⟩, goon fun h => h.2 c2⟩
        · rw [decide_eq_false c2]
          refine iteT ?_
          obtain ⟨lw, sx, hsx, tr, ch, lwl, mn⟩ := r2 x hxm
          obtain ⟨_, _, _, _, _, lws⟩ := ch_walk ch hsx
          refine ⟨_, rfl, _, rfl, d1, x, R, lw, rfl, .inr ⟨od, ed2⟩, ndR, tr, by omega, fun p H3 np s3 ep => ?_⟩
          refine ⟨s3 _ _ ed2, ?_⟩
          have npd : p ≠ d1 := fun h => by rw [h, ed2] at np; cases np
          have npH : H1 p = none := free_lock e1 (by rw [hH2]; exact np)
          refine q p _ lw (s1.free npH) (s1.trans (same_unlock (H' := H3) e1 (by rw [hH2]; exact s3))) (keep_ne ep npd) lws (by omega) ⟨fun _ => ch_leav ch hsx c1 c2, fun _ h => ?_⟩ fun _ => ch_cb ch hsx c1 c2 mn
          exact (ch_walk ch hsx).1 h
      · rw [decide_eq_false c1]
        refine iteF ?_
        refine iteF ?_
        exact ⟨rfl, ⟨_, rfl⟩, goon fun h => c1 h.1⟩
    · have lk : (R.map encE).length = (keysE R).length := by unfold keysE; rw [List.length_map, List.length_map]
      rw [lk, List.take_length] at no
      subst eσ eH
      refine ⟨ed2, ?_⟩
      refine ⟨by show 0 ≤ sizeLine; decide, fun p np => ?_⟩
      have s5 : Same H1 (upd H' d1 (.dK (R.map encE))) := same_unlock (H' := H') e1 (by rw [hH2]; exact fun _ _ h => h)
      have s15 := s1.trans s5
      refine q p _ [] (s15.free np) (s15.trans (same_upd np)) upd_same (fun x h => by cases h) (Nat.zero_le _) ⟨fun h => absurd rfl h, fun h => ?_⟩ fun h => absurd rfl h
      obtain ⟨s0, hs0, x, rt, e, nx⟩ := leav_rt h
      exact absurd ⟨e, nx⟩ (no x ((r1 x).mpr ⟨s0, hs0, rt⟩))
end
end Tx

set_option Elab.async false
set_option linter.all false
set_option maxRecDepth 100000
set_option maxHeartbeats 2000000
namespace Tx
open PySem PySem.Spec PyProof.Rows L2 TL RZ
/-! ### pairs of numbers and of windows -/
def NPs (H : Hp) (as : List Addr) (qs : List (Nat × Nat)) : Prop := as.length = qs.length ∧ ∀ (i : Nat) (a : Addr) (q : Nat × Nat), as[i]? = some a → qs[i]? = some q → H a = some (.tup [.int (q.1 : Nat), .int (q.2 : Nat)])
theorem NPs.same {H H' : Hp} {as : List Addr} {qs : List (Nat × Nat)} (h : NPs H as qs) (s : Same H H') : NPs H' as qs := ⟨h.1, fun i a q ha hq => s _ _ (h.2 i a q ha hq)⟩
theorem NPs.nil {H : Hp} : NPs H [] [] := ⟨rfl, fun i a q h => by cases h⟩
theorem NPs.snoc {H : Hp} {as : List Addr} {qs : List (Nat × Nat)} (h : NPs H as qs) {t : Addr} {i j : Nat} (e : H t = some (.tup [.int (i : Nat), .int (j : Nat)])) : NPs H (as ++ [t]) (qs ++ [(i, j)]) := by
  refine ⟨by rw [List.length_append, List.length_append, h.1]; rfl, fun k a q ha hq => ?_⟩
  by_cases c : k < as.length
  · rw [List.getElem?_append_left c] at ha
    rw [List.getElem?_append_left (h.1 ▸ c)] at hq
    exact h.2 k a q ha hq
  · rw [List.getElem?_append_right (by omega)] at ha
    rw [List.getElem?_append_right (by have := h.1; omega), ← h.1] at hq
    obtain rfl := List.mem_singleton.mp (List.mem_of_getElem? ha)
    obtain rfl := List.mem_singleton.mp (List.mem_of_getElem? hq)
    exact e
theorem NPs.put {H : Hp} {as : List Addr} {qs : List (Nat × Nat)} (h : NPs H as qs) {x : Addr} {o : HO} (n : ∀ ys, H x ≠ some (.tup ys)) : NPs (upd H x o) as qs := ⟨h.1, fun i a q ha hq => keep_ne (h.2 i a q ha hq) fun e => n _ (e ▸ h.2 i a q ha hq)⟩
theorem NPs.at {H : Hp} {as : List Addr} {qs : List (Nat × Nat)} (h : NPs H as qs) {i : Nat} {a : Addr} (ha : as[i]? = some a) : ∃ q, qs[i]? = some q ∧ H a = some (.tup [.int (q.1 : Nat), .int (q.2 : Nat)]) := by
  have il := (List.getElem?_eq_some_iff.mp ha).1
  exact ⟨_, List.getElem?_eq_getElem (h.1 ▸ il), h.2 i a _ ha (List.getElem?_eq_getElem (h.1 ▸ il))⟩
def pairsK (k : Nat) : List (Nat × Nat) := (List.range k).flatMap fun j => (List.range (j + 1)).map fun i => (i + 1, j + 1)
theorem pairsK_succ (k : Nat) : pairsK (k + 1) = pairsK k ++ (List.range (k + 1)).map fun i => (i + 1, k + 1) := by
  unfold pairsK
  rw [List.range_succ, List.flatMap_append]
  simp only [List.flatMap_cons, List.flatMap_nil, List.append_nil]
  rw [← List.range_succ]
theorem pairsK_small (k : Nat) : (pairsK k).length ≤ k * k := by
  induction k with
  | zero => simp [pairsK]
  | succ k ih =>
    rw [pairsK_succ, List.length_append, List.length_map, List.length_range, Nat.succ_mul, Nat.mul_succ]
    omega
theorem pairs_small (m : Nat) : (pairsN m).length ≤ m * m := Nat.le_trans (pairsK_small (m - 1)) (Nat.mul_le_mul (by omega) (by omega))
def kP (q : Str × Str) : List Key := [Sum.inr q.1, Sum.inr q.2]
theorem kP_inj {q r : Str × Str} (h : kP q = kP r) : q = r := by
  injection h with h1 h2
  injection h1 with h1
  injection h2 with h2
  injection h2 with h2
  exact Prod.ext h1 h2
def sdT (qs : List (Str × Str)) : List (List Key × V) := qs.map fun q => (kP q, V.bl true)
theorem sdT_some (q : Str × Str) : ∀ (ns : List (Str × Str)), (valV (sdT ns) (kP q)).isSome = decide (q ∈ ns)
  | [] => rfl
  | r :: ns => by
    by_cases c : r = q
    · subst c
      rw [show valV (sdT (r :: ns)) (kP r) = some (V.bl true) from valV_pos rfl, decide_eq_true (List.mem_cons_self ..)]; rfl
    · have : valV (sdT (r :: ns)) (kP q) = valV (sdT ns) (kP q) := valV_neg (p := (kP r, V.bl true)) (fun e => c (kP_inj e))
      rw [this, sdT_some q ns]
      congr 1
      exact propext ⟨fun h => List.mem_cons_of_mem _ h, fun h => (List.mem_cons.mp h).resolve_left fun e => c e.symm⟩
theorem sdT_put {ns : List (Str × Str)} {q : Str × Str} (h : q ∉ ns) : putK (sdT ns) (kP q) (V.bl true) = sdT (ns ++ [q]) := by
  have hs : (sdT ns).any (fun kv => decide (kv.1 = kP q)) = false := by
    rw [List.any_eq_false]
    intro kv hkv e
    obtain ⟨z, hz, rfl⟩ := List.mem_map.mp hkv
    exact h (kP_inj (of_decide_eq_true e) ▸ hz)
  unfold putK
  rw [hs, if_neg (by decide)]
  unfold sdT
  rw [List.map_append, List.map_singleton]
section
variable {P : Program} {w : World} {K : PySem.W.Frag} {mg : Str → Option Value} {base : Heap}
abbrev st_numbers_of_pairs : Stmt := topS 29
theorem sc_numbers_of_pairs : FnScope ["steps", "j", "i"] ["steps"] (defScope st_numbers_of_pairs) := ⟨rfl, rfl, rfl, by decide +kernel, rfl, by decide +kernel, by decide +kernel⟩
theorem pl_numbers_of_pairs : PlainB "numbers_of_pairs" st_numbers_of_pairs ["steps"] := fun _ _ _ _ _ _ us hl => match us, hl with | [_], _ => rfl
def spPairs : Sp := fun vs H Q _ => ∃ (p : Addr) (xs : List Str), vs = [.ref p] ∧ H p = some (.lst (xs.map V.str)) ∧ 1 ≤ xs.length ∧ xs.length ≤ 140 ∧ ∀ a as H', H a = none → Same H H' → H' a = some (.lst (as.map V.ref)) → NPs H' as (pairsN xs.length) → Q (.ref a) H'
theorem ok_numbers_of_pairs (T : Top K mg "numbers_of_pairs" st_numbers_of_pairs) (B : Bt mg) : Dn P w K mg base 1 "numbers_of_pairs" st_numbers_of_pairs ["steps"] spPairs := by
  refine dn_of T sc_numbers_of_pairs pl_numbers_of_pairs (fun vs H Q E h => ?_) fun f cdv A outer s H vs Q E hr h => ?_
  · obtain ⟨_, _, rfl, _⟩ := h; rfl
  · obtain ⟨p, xs, rfl, ep, x1, xl, q⟩ := h
    refine ⟨_, (pss_one (ps_ret (pe_lc2 (own := [("j", 1), ("i", 2)]) (vs1 := [2]) (g := gName 1) (g1 := gName 2) rfl sc_numbers_of_pairs.nd (pi_range2 (by rfl) B.range (pa_cons pe_int (pa_cons (pe_callB (lenK K rfl) (by rfl) B.len (by decide +kernel) (pa_cons (pv 0) pa_nil)) pa_nil))) (blkOk_by (N := ["steps", "j", "i"]) (sc := defScope st_numbers_of_pairs) (by decide +kernel)) (by decide) (fun _ _ _ _ _ => (pg_name (i := 1) sc_numbers_of_pairs.nd rfl (.inl rfl))) (fun _ _ _ _ _ => pts_nil) (fun _ _ _ _ _ => (pi_range2 (by rfl) B.range (pa_cons pe_int (pa_cons (pe_op op_add (pv 1) pe_int) pa_nil)))) (fun _ _ _ _ _ => (pg_name (i := 2) sc_numbers_of_pairs.nd rfl (.inl rfl))) (fun _ _ _ _ _ => pts_nil) (fun _ _ _ _ _ => (pe_tup (pa_cons (pv 2) (pa_cons (pv 1) pa_nil))))))), ?_⟩
    refine ⟨_, rfl, p, _, rfl, .inl (.inl (.inl ep)), ?_⟩
    rw [List.length_map]
    refine ⟨_, _, rfl, ⟨by omega, by omega, by omega, by omega⟩, fun D hD => ?_⟩
    rw [show ((xs.length : Int) - 1).toNat = xs.length - 1 by omega]
    refine it_all (walk_range (lo := 1) (n := xs.length - 1)) (fun i H' => Same H H' ∧ ∃ as : List Addr, H' D = some (.lst (as.map V.ref)) ∧ NPs H' as (pairsK i))
      ⟨same_upd hD, [], upd_same, NPs.nil⟩ (fun _ _ _ _ => trivial) (fun j y0 H2 H3 hj ⟨sm2, as, e2, n2⟩ ⟨eH2, ey⟩ => ?_) fun H2 ⟨sm2, as, e2, n2⟩ => ?_
    · subst eH2 ey
      refine ⟨rfl, yes_of ?_⟩
      refine ⟨_, rfl, _, _, rfl, rfl, _, _, rfl, ⟨by omega, by omega, by omega, by omega⟩, ?_⟩
      rw [show ((1 + (j : Int)) + 1 - 1).toNat = j + 1 by omega]
      have small : (pairsK j).length ≤ 19600 := Nat.le_trans (pairsK_small j) (Nat.le_trans (Nat.mul_le_mul (show j ≤ 140 by omega) (show j ≤ 140 by omega)) (by decide))
      refine it_all (walk_range (lo := 1) (n := j + 1)) (fun i H' => Same H H' ∧ ∃ as : List Addr, H' D = some (.lst (as.map V.ref)) ∧ NPs H' as (pairsK j ++ (List.range i).map fun i => (i + 1, j + 1)))
        ⟨sm2, as, e2, by rw [List.range_zero, List.map_nil, List.append_nil]; exact n2⟩ (fun _ _ _ _ => trivial) (fun i y0 H4 H5 hi ⟨sm4, as4, e4, n4⟩ ⟨eH4, ey⟩ => ?_) fun H4 ⟨sm4, as4, e4, n4⟩ => ?_
      · subst eH4 ey
        refine ⟨rfl, lc_yes ?_⟩
        refine ⟨_, rfl, _, rfl, by show 2 ≤ sizeLine; decide, fun t nt => ?_⟩
        have al := n4.1
        rw [List.length_append, List.length_map, List.length_range] at al
        have tD : t ≠ D := (ne_of_none e4 nt).symm
        have st : Same H5 (upd H5 t (.tup [.int (1 + (i : Nat)), .int (1 + (j : Nat))])) := same_upd nt
        have et : (upd H5 t (.tup [.int (1 + (i : Nat)), .int (1 + (j : Nat))])) t = some (.tup [.int ((i + 1 : Nat) : Int), .int ((j + 1 : Nat) : Int)]) := by
          rw [upd_same, show (1 + (i : Int)) = ((i + 1 : Nat) : Int) by omega, show (1 + (j : Int)) = ((j + 1 : Nat) : Int) by omega]
        refine ⟨_, st _ _ e4, by rw [List.length_map]; exact lt_line (by omega), wr (sm4.trans st) hD, as4 ++ [t], by rw [upd_same, List.map_append]; rfl, ?_⟩
        rw [List.range_succ, List.map_append, ← List.append_assoc]
        exact NPs.snoc ((n4.same st).put fun ys h => by rw [st _ _ e4] at h; cases h) (keep_ne et tD)
      · exact ⟨sm4, as4, e4, by rw [pairsK_succ]; exact n4⟩
    exact q D as H2 hD sm2 e2 n2
end
end Tx

set_option Elab.async false
set_option linter.all false
set_option maxRecDepth 100000
set_option maxHeartbeats 2000000
namespace Tx
open PySem PySem.Spec PyProof.Rows L2 TL RZ
theorem set_any {P : V → Hp → Prop} {t : TE} {g : TG} {rest : TS} {D : L2.Ends} {σ : L2.St} {H : Hp} (h : ∀ Q : VK, (∀ v H', P v H' → Q v H') → t σ H Q) (q : ∀ v H', P v H' → g v σ H' fun σ' H2 => rest D σ' H2) : tSeq (tAsg t g) rest D σ H := h _ q
theorem name_go {i : Nat} {v : V} {σ : L2.St} {H : Hp} {k : L2.St → Hp → Prop} (h : k (σ.set i (some v)) H) : gName i v σ H k := h
/-- a text within a text that is read so many times round -/
theorem found_rep {l : List Nat} {x : Str} {t : Nat} (hl : 0 < l.length) (h1 : 1 ≤ x.length) (t1 : 1 ≤ t) (ht : l.length + (x.length - 1) ≤ t * l.length) :
    (!(Builtin.Str.occurrences (mkS (rep t l)) x 0 (mkS (rep t l)).length 1).isEmpty) = true ↔ Stands l (tl x) := by
  rw [PySem.StrLaws.found_iff, len_mkS, rep_len]
  have key : ∀ i, i + x.length ≤ t * l.length → (Builtin.Str.subAt (mkS (rep t l)) x i = true ↔ tl x = seg l i x.length) := fun i hi => by
    rw [PySem.StrLaws.subAt_eq, beq_iff_eq]
    have e : ((rep t l).drop i).take x.length = seg l i x.length := cut_rep hl t1 hi
    exact ⟨fun h => by rw [← e]; exact h.symm, fun h => by show ((rep t l).drop i).take x.length = tl x; rw [e, h]⟩
  constructor
  · rintro ⟨i, hi, h⟩
    exact ⟨i, by rw [← len_tl]; exact (key i hi).mp h⟩
  · rintro ⟨a, e⟩
    have lt := Nat.mod_lt a hl
    refine ⟨a % l.length, by omega, (key _ (by omega)).mpr ?_⟩
    rw [← len_tl] at e
    rw [seg_mod]
    exact e
section
variable {P : Program} {w : World} {K : PySem.W.Frag} {mg : Str → Option Value} {base : Heap}
abbrev st_check_ringed : Stmt := topS 28
theorem sc_check_ringed : FnScope ["book"] ["book"] (defScope st_check_ringed) := ⟨rfl, rfl, rfl, by decide +kernel, rfl, by decide +kernel, by decide +kernel⟩
theorem pl_check_ringed : PlainB "check_ringed" st_check_ringed ["book"] := fun _ _ _ _ _ _ us hl => match us, hl with | [_], _ => rfl
def spCkRinged : Sp := fun vs H Q _ => ∃ (b : Addr) (n : Nat) (ws : List Str), vs = [.ref b] ∧ BookAt H b n ws ∧ Book n ws ∧ ws.length ≤ 100 ∧ Joined ws ∧ ∀ H', Same H H' → Q .non H'
theorem ok_check_ringed (T : Top K mg "check_ringed" st_check_ringed) (D_has_ring : Dn P w K mg base 6 "has_ring" st_has_ring ["book"] spHasRing) : Dn P w K mg base 7 "check_ringed" st_check_ringed ["book"] spCkRinged := by
  refine dn_of T sc_check_ringed pl_check_ringed (fun vs H Q E h => ?_) fun f cdv A outer s H vs Q E hr h => ?_
  · obtain ⟨t, _, z, rfl, _⟩ := h; rfl
  · obtain ⟨b, n, ws, rfl, bat, bk, wl, jn, q⟩ := h
    refine ⟨_, (pss_one (ps_if (pt_not (pt_val (pe_fn D_has_ring (hr.mono (by decide)) (by rfl) (pa_cons (pv 0) pa_nil)))) (pss_one ps_never) pss_nil)), ?_⟩
    refine ⟨_, rfl, b, n, ws, rfl, bat, bk, wl, fun c H' sm hc => ?_⟩
    rw [hc.mpr jn]
    refine ⟨_, rfl, ?_⟩
    refine iteF ?_
    exact q _ sm
abbrev st_check_piece : Stmt := topS 22
theorem sc_check_piece : FnScope ["book", "piece"] ["book", "piece"] (defScope st_check_piece) := ⟨rfl, rfl, rfl, by decide +kernel, rfl, by decide +kernel, by decide +kernel⟩
theorem pl_check_piece : PlainB "check_piece" st_check_piece ["book", "piece"] := fun _ _ _ _ _ _ us hl => match us, hl with | [_, _], _ => rfl
def spCkPiece : Sp := fun vs H Q _ => ∃ (b : Addr) (n : Nat) (ws : List Str) (z : Str), vs = [.ref b, .str z] ∧ BookAt H b n ws ∧ Book n ws ∧ ws.length ≤ 100 ∧ Pc n ws z ∧ z.length ≤ 3000 ∧ ∀ H', Same H H' → Q .non H'
theorem ok_check_piece (T : Top K mg "check_piece" st_check_piece) (D_is_piece_of : Dn P w K mg base 2 "is_piece_of" st_is_piece_of ["book", "value"] spPcOf) : Dn P w K mg base 3 "check_piece" st_check_piece ["book", "piece"] spCkPiece := by
  refine dn_of T sc_check_piece pl_check_piece (fun vs H Q E h => ?_) fun f cdv A outer s H vs Q E hr h => ?_
  · obtain ⟨t, _, _, z, rfl, _⟩ := h; rfl
  · obtain ⟨b, n, ws, z, rfl, bat, bk, wl, pc, zl, q⟩ := h
    refine ⟨_, (pss_one (ps_if (pt_not (pt_val (pe_fn D_is_piece_of (hr.mono (by decide)) (by rfl) (pa_cons (pv 0) (pa_cons (pv 1) pa_nil))))) (pss_one ps_never) pss_nil)), ?_⟩
    refine ⟨_, rfl, _, rfl, b, n, ws, z, rfl, bat, bk, by omega, zl, fun c H' sm hc => ?_⟩
    rw [hc.mpr pc]
    refine ⟨_, rfl, ?_⟩
    refine iteF ?_
    exact q _ sm
theorem heads_one (n : Nat) (z : Str) : (headsL n [z]).length = z.length - n := by
  unfold headsL
  rw [List.flatMap_cons, List.flatMap_nil, List.append_nil, List.length_map, List.length_range]
end
end Tx

set_option Elab.async false
set_option linter.all false
set_option maxRecDepth 100000
set_option maxHeartbeats 2000000
namespace Tx
open PySem PySem.Spec PyProof.Rows L2 TL RZ
/-- what is told of leavings: none, or one -/
def FoundL (ws xs : List Str) (H : Hp) (v : V) : Prop := (v = .non ∧ NoLeav iniS taiS ws xs) ∨ ∃ (t : Addr) (i j : Nat) (l : List Str), v = .ref t ∧ H t = some (.tup [.int i, .int j, .str (mkS (txt l))]) ∧ LvG ws xs i j l ∧ l.length ≤ 100
theorem FoundL.same {ws xs : List Str} {H H' : Hp} {v : V} (h : FoundL ws xs H v) (s : Same H H') : FoundL ws xs H' v := by
  rcases h with h | ⟨t, i, j, l, e, et, g, n⟩
  · exact .inl h
  · exact .inr ⟨t, i, j, l, e, s _ _ et, g, n⟩
theorem FoundL.iff {ws xs : List Str} {H : Hp} {v : V} (h : FoundL ws xs H v) : (v = .non ↔ NoLeav iniS taiS ws xs) ∧ (v = .non ∨ ∃ t, v = .ref t) := by
  rcases h with ⟨rfl, h⟩ | ⟨t, i, j, l, rfl, et, g, n⟩
  · exact ⟨⟨fun _ => h, fun _ => rfl⟩, .inl rfl⟩
  · exact ⟨⟨fun e => (by cases e), fun no => absurd no g.no⟩, .inr ⟨t, rfl⟩⟩
theorem iteT' {b : Bool} {X Y : Prop} (e : b = true) (h : X) : if b = true then X else Y := by rw [if_pos e]; exact h
theorem ref_at' {as : List Addr} {i : Nat} {y : V} (h : (as.map V.ref)[i]? = some y) : ∃ a, as[i]? = some a ∧ y = .ref a := by
  rw [List.getElem?_map] at h
  cases e : as[i]? with
  | none => rw [e] at h; cases h
  | some a => rw [e] at h; exact ⟨a, rfl, (Option.some.inj h).symm⟩
theorem name_go' {i : Nat} {v : V} {σ : L2.St} {H : Hp} {k : L2.St → Hp → Prop} (h : k (σ.set i (some v)) H) : gName i v σ H k := h
section
variable {P : Program} {w : World} {K : PySem.W.Frag} {mg : Str → Option Value} {base : Heap}
abbrev st_first_leaving : Stmt := topS 31
theorem sc_first_leaving : FnScope ["book", "steps", "starts", "seen", "i", "j", "into", "out", "back"] ["book", "steps"] (defScope st_first_leaving) := ⟨rfl, rfl, rfl, by decide +kernel, rfl, by decide +kernel, by decide +kernel⟩
theorem pl_first_leaving : PlainB "first_leaving" st_first_leaving ["book", "steps"] := fun _ _ _ _ _ _ us hl => match us, hl with | [_, _], _ => rfl
def spFirstL : Sp := fun vs H Q _ => ∃ (b p : Addr) (k : Nat) (ws xs : List Str), vs = [.ref b, .ref p] ∧ BookAt H b k ws ∧ Book k ws ∧ ws.length ≤ 100 ∧ H p = some (.lst (xs.map V.str)) ∧ 1 ≤ xs.length ∧ xs.length ≤ 140 ∧ (∀ x ∈ xs, x ∈ ws) ∧
  ∀ v H', Same H H' → FoundL ws xs H' v → Q v H'
theorem ok_first_leaving (T : Top K mg "first_leaving" st_first_leaving) (D_begun : Dn P w K mg base 1 "begun" st_begun ["book"] spBegun) (D_numbers_of_pairs : Dn P w K mg base 1 "numbers_of_pairs" st_numbers_of_pairs ["steps"] spPairs)
    (D_way_back : Dn P w K mg base 3 "way_back" st_way_back ["starts", "into", "out"] spBack) (D_text_of : Dn P w K mg base 1 "text_of" st_text_of ["steps"] spTextOf) :
    Dn P w K mg base 4 "first_leaving" st_first_leaving ["book", "steps"] spFirstL := by
  refine dn_of T sc_first_leaving pl_first_leaving (fun vs H Q E h => ?_) fun f cdv A outer s H vs Q E hr h => ?_
  · obtain ⟨_, _, _, _, _, rfl, _⟩ := h; rfl
  · obtain ⟨b, p, k, ws, xs, rfl, bat, bk, wl, ep, x1, xl, hx, q⟩ := h
    have k2 := bk.n2
    have k6 := bk.n6
    refine ⟨_, (pss_cons (ps_set (i := 2) sc_first_leaving.nd rfl (.inl rfl) (pe_fn D_begun (hr.mono (by decide)) (by rfl) (pa_cons (pv 0) pa_nil)))
      (pss_cons (ps_set (i := 3) sc_first_leaving.nd rfl (.inl rfl) pe_dnewT)
      (pss_cons (ps_for PassesOwn.never rfl (pi_list (pe_fn D_numbers_of_pairs (hr.mono (by decide)) (by rfl) (pa_cons (pv 1) pa_nil))) (pg_tupK K rfl rfl (pgs_cons (pg_name (i := 4) sc_first_leaving.nd rfl (.inl rfl)) (pgs_cons (pg_name (i := 5) sc_first_leaving.nd rfl (.inl rfl)) pgs_nil))) (pss_cons (ps_par (i := 6) (j := 7) (by rfl) sc_first_leaving.nd rfl rfl (by decide) rfl rfl (pa_cons (pe_ix (ixK K rfl) (pv 1) (pe_op op_sub (pv 4) pe_int) (fun _ _ => rfl)) (pa_cons (pe_ix (ixK K rfl) (pv 1) (pv 5) (fun _ _ => rfl)) pa_nil)) (by rfl))
      (pss_one (ps_if (pt_cmp (pc_dnotin (hu_of hr) (pe_tup (pa_cons (pv 6) (pa_cons (pv 7) pa_nil))) (pv 3))) (pss_cons (ps_dput (hu_of hr) (pv 3) (pe_tup (pa_cons (pv 6) (pa_cons (pv 7) pa_nil))) pe_bl rfl)
      (pss_cons (ps_set (i := 8) sc_first_leaving.nd rfl (.inl rfl) (pe_fn D_way_back (hr.mono (by decide)) (by rfl) (pa_cons (pv 2) (pa_cons (pv 6) (pa_cons (pv 7) pa_nil)))))
      (pss_one (ps_if (pt_truth (pv 8) (by intro _; rfl)) (pss_one (ps_ret (pe_tup (pa_cons (pv 4) (pa_cons (pv 5) (pa_cons (pe_fn D_text_of (hr.mono (by decide)) (by rfl) (pa_cons (pv 8) pa_nil)) pa_nil)))))) pss_nil)))) pss_nil))))
      (pss_one (ps_ret pe_non))))), ?_⟩
    refine ⟨_, rfl, b, k, ws, rfl, bat, bk, wl, fun d ns H1 nd s1 up dl => ?_⟩
    refine fun S nS => ?_
    have s2 : Same H1 (upd H1 S (.dT [])) := same_upd nS
    have eS2 : (upd H1 S (.dT [])) S = some (.dT (sdT [])) := upd_same
    generalize upd H1 S (.dT []) = H2 at s2 eS2 ⊢
    refine ⟨_, rfl, p, xs, rfl, (s1.trans s2) _ _ ep, x1, xl, fun a as H3 na s3 ea nps => ?_⟩
    have s03 := (s1.trans s2).trans s3
    have dl3 := (dl.same s2).same s3
    have nSH : H S = none := s1.free nS
    have eS3 := s3 _ _ eS2
    refine ⟨a, rfl, ⟨_, .inl (.inl ea)⟩, ?_⟩
    refine for_list (K := K) (a := a) (xs := as.map V.ref) (fun i σ H' => ∃ (o4 o5 o6 o7 o8 : Option V) (qs : List (Str × Str)), σ = [some (.ref b), some (.ref p), some (.ref d), some (.ref S), o4, o5, o6, o7, o8] ∧ Same H H' ∧ H' S = some (.dT (sdT qs)) ∧ (∀ x o, x ≠ S → H3 x = some o → H' x = some o) ∧ qs.length ≤ i ∧ (∀ q ∈ qs, ¬ LeavS ws q.1 q.2) ∧
        ∀ i' j' u v, (i', j') ∈ (pairsN xs.length).take i → xs[i' - 1]? = some u → xs[j']? = some v → ¬ LeavS ws u v)
      ⟨_, _, _, _, _, [], rfl, s03, eS3, fun _ _ _ h => h, Nat.le_refl _, (fun q h => by cases h), fun i' j' u v h => by rw [List.take_zero] at h; cases h⟩ (fun _ _ _ _ ⟨_, _, _, _, _, _, _, _, _, h, _⟩ => .inl (.inl (h _ _ (fun e => by rw [e, eS3] at ea; cases ea) ea))) (fun i y σ H' hi ⟨o4, o5, o6, o7, o8, qs, eσ, sm, eS, kp, ql, hq, hp⟩ => ?_) fun σ H' ⟨o4, o5, o6, o7, o8, qs, eσ, sm, eS, kp, ql, hq, hp⟩ => ?_
    · subst eσ
      obtain ⟨t, ht, rfl⟩ := ref_at' hi
      obtain ⟨⟨i', j'⟩, hq', et⟩ := nps.at ht
      have il := (List.getElem?_eq_some_iff.mp hq').1
      have et : H3 t = some (.tup [.int i', .int j']) := et
      have tS : t ≠ S := fun e => by rw [e, eS3] at et; cases et
      have et' := kp _ _ tS et
      obtain ⟨h1, h2, h3⟩ := mem_pairsN.mp (List.mem_of_getElem? hq')
      have sml := pairs_small xs.length
      have sml2 : (pairsN xs.length).length ≤ 20000 := Nat.le_trans sml (Nat.le_trans (Nat.mul_le_mul xl xl) (by decide))
      obtain ⟨u, hu⟩ : ∃ u, xs[i' - 1]? = some u := ⟨_, List.getElem?_eq_getElem (by omega)⟩
      obtain ⟨v, hv⟩ : ∃ v, xs[j']? = some v := ⟨_, List.getElem?_eq_getElem h3⟩
      have huw := hx u (List.mem_of_getElem? hu)
      have hvw := hx v (List.mem_of_getElem? hv)
      refine ⟨t, _, rfl, .inl (.inl et'), rfl, _, _, rfl, _, _, rfl, rfl, ?_⟩
      refine ⟨_, rfl, _, rfl, _, _, rfl, rfl, p, _, _, .str u, rfl, rfl, .inl (.inl (sm _ _ ep)), atI_pos (by omega) (by rw [show ((i' : Int) - 1).toNat = i' - 1 by omega, List.getElem?_map, hu]; rfl), ?_⟩
      refine ⟨_, rfl, _, rfl, p, _, _, .str v, rfl, rfl, .inl (.inl (sm _ _ ep)), atI_pos (by omega) (by rw [Int.toNat_natCast, List.getElem?_map, hv]; rfl), ?_⟩
      refine ⟨_, _, rfl, ?_⟩
      refine ⟨_, rfl, _, rfl, by show 2 ≤ sizeLine; decide, fun y1 ny1 => ?_⟩
      have nyH := sm.free ny1
      have sy : Same H' (upd H' y1 (.tup [V.str u, V.str v])) := same_upd ny1
      have ey : (upd H' y1 (.tup [V.str u, V.str v])) y1 = some (.tup [V.str u, V.str v]) := upd_same
      generalize upd H' y1 (.tup [V.str u, V.str v]) = H5 at sy ey ⊢
      have sm5 := sm.trans sy
      have eS5 := sy _ _ eS
      have kp5 : ∀ x o, x ≠ S → H3 x = some o → H5 x = some o := fun x o h e => sy _ _ (kp x o h e)
      have tk : (pairsN xs.length).take (i + 1) = (pairsN xs.length).take i ++ [(i', j')] := by rw [List.take_add_one, hq']; rfl
      have next : ¬ LeavS ws u v → ∀ i2 j2 u2 v2, (i2, j2) ∈ (pairsN xs.length).take (i + 1) → xs[i2 - 1]? = some u2 → xs[j2]? = some v2 → ¬ LeavS ws u2 v2 := fun no i2 j2 u2 v2 h hu2 hv2 => by
        rw [tk] at h
        rcases List.mem_append.mp h with h | h
        · exact hp i2 j2 u2 v2 h hu2 hv2
        · have h := List.mem_singleton.mp h
          injection h with e1 e2
          subst e1 e2
          rw [hu] at hu2
          rw [hv] at hv2
          rw [← Option.some.inj hu2, ← Option.some.inj hv2]; exact no
      refine ⟨_, rfl, S, _, rfl, .inr ⟨_, kP (u, v), y1, .inl eS5, rfl, ey, rfl⟩, _, rfl, ?_⟩
      rw [sdT_some]
      by_cases c : (u, v) ∈ qs
      · rw [decide_eq_true c]
        refine iteF ?_
        exact ⟨_, _, _, _, _, qs, rfl, sm5, eS5, kp5, by omega, hq, next (hq _ c)⟩
      · rw [decide_eq_false c]
        refine iteT ?_
        refine ⟨_, rfl, _, rfl, _, rfl, by show 2 ≤ sizeLine; decide, fun y2 ny2 => ?_⟩
        refine ⟨S, _, rfl, DPut.t (k := kP (u, v)) ((same_upd ny2) _ _ eS5) upd_same (by unfold sdT; rw [List.length_map]; exact lt_line (by omega)), ?_⟩
        rw [sdT_put c]
        have s6 : Same H5 (upd H5 y2 (.tup [V.str u, V.str v])) := same_upd ny2
        have e6 : (upd (upd H5 y2 (.tup [V.str u, V.str v])) S (.dT (sdT (qs ++ [(u, v)])))) S = some (.dT (sdT (qs ++ [(u, v)]))) := upd_same
        have sm6 : Same H (upd (upd H5 y2 (.tup [V.str u, V.str v])) S (.dT (sdT (qs ++ [(u, v)])))) := wr (sm5.trans s6) nSH
        have kp6 : ∀ x o, x ≠ S → H3 x = some o → (upd (upd H5 y2 (.tup [V.str u, V.str v])) S (.dT (sdT (qs ++ [(u, v)])))) x = some o := fun x o h e => keep_ne (s6 _ _ (kp5 x o h e)) h
        generalize upd (upd H5 y2 (.tup [V.str u, V.str v])) S (.dT (sdT (qs ++ [(u, v)]))) = H6 at e6 sm6 kp6 ⊢
        obtain ⟨fa, ed, ga⟩ := dl3
        have dl6 : DL H6 d ns (begW ws) := ⟨fa, kp6 _ _ (fun e => by rw [e, eS3] at ed; cases ed) ed, fun x hx => kp6 _ _ (fun e => by have := ga x hx; rw [e, eS3] at this; cases this) (ga x hx)⟩
        refine ⟨_, rfl, _, rfl, _, rfl, d, k, u, v, ns, ws, rfl, dl6, up, bk, wl, huw, hvw, fun r H7 l nr s7 er hl ll leav cb => ?_⟩
        have nrS : S ≠ r := ne_of_none e6 nr
        refine ⟨_, rfl, _, .inl ⟨_, .inl (.inl er), rfl⟩, ?_⟩
        cases el : l with
        | nil =>
          refine iteF ?_
          have no : ¬ LeavS ws u v := fun h => leav.mpr h el
          exact ⟨_, _, _, _, _, _, rfl, sm6.trans s7, s7 _ _ e6, fun x o h e => s7 _ _ (kp6 x o h e), by rw [List.length_append, List.length_singleton]; omega, fun z hz => (List.mem_append.mp hz).elim (hq z) fun hz => by rw [List.mem_singleton.mp hz]; exact no, next no⟩
        | cons x0 lr =>
          have is := leav.mp (by rw [el]; simp)
          rw [← el]
          refine iteT' (by rw [el]; rfl) ?_
          refine ⟨_, rfl, _, rfl, _, rfl, r, l, rfl, er, by rw [el, List.length_cons]; omega, by omega, fun z hz => ?_, fun H8 s8 => ?_⟩
          · have := (bk.each z (hl z hz)).2; omega
          refine ⟨by show 3 ≤ sizeLine; decide, fun z nz => ?_⟩
          exact q (.ref z) _ (((sm6.trans s7).trans s8).trans (same_upd nz)) (.inr ⟨z, i', j', l, rfl, upd_same, ⟨h1, h2, h3, hl, u, v, hu, hv, cb (by rw [el]; simp)⟩, ll⟩)
    · rw [List.length_map, nps.1, List.take_length] at hp
      subst eσ
      exact q .non H' sm (.inl ⟨rfl, noleav_pairs.mpr hp⟩)
abbrev st_leaving : Stmt := topS 27
theorem sc_leaving : FnScope ["book", "piece"] ["book", "piece"] (defScope st_leaving) := ⟨rfl, rfl, rfl, by decide +kernel, rfl, by decide +kernel, by decide +kernel⟩
theorem pl_leaving : PlainB "leaving" st_leaving ["book", "piece"] := fun _ _ _ _ _ _ us hl => match us, hl with | [_, _], _ => rfl
def spLeaving : Sp := fun vs H Q _ => ∃ (b : Addr) (n : Nat) (ws : List Str) (z : Str), vs = [.ref b, .str z] ∧ BookAt H b n ws ∧ Book n ws ∧ ws.length ≤ 100 ∧ Joined ws ∧ Pc n ws z ∧ z.length ≤ 130 ∧
  ∀ v H', Same H H' → FoundL ws (steps n (tl z)) H' v → Q v H'
theorem ok_leaving (T : Top K mg "leaving" st_leaving) (D_check_ringed : Dn P w K mg base 7 "check_ringed" st_check_ringed ["book"] spCkRinged) (D_check_piece : Dn P w K mg base 3 "check_piece" st_check_piece ["book", "piece"] spCkPiece)
    (D_first_leaving : Dn P w K mg base 4 "first_leaving" st_first_leaving ["book", "steps"] spFirstL) (D_steps_of : Dn P w K mg base 1 "steps_of" st_steps_of ["size", "text"] spSteps) : Dn P w K mg base 8 "leaving" st_leaving ["book", "piece"] spLeaving := by
  refine dn_of T sc_leaving pl_leaving (fun vs H Q E h => ?_) fun f cdv A outer s H vs Q E hr h => ?_
  · obtain ⟨_, _, _, _, rfl, _⟩ := h; rfl
  · obtain ⟨b, n, ws, z, rfl, bat, bk, wl, jn, pc, zl, q⟩ := h
    have n2 := bk.n2
    have n6 := bk.n6
    have nz := pc.1
    refine ⟨_, (pss_cons (ps_expr (pe_fn D_check_ringed (hr.mono (by decide)) (by rfl) (pa_cons (pv 0) pa_nil)))
      (pss_cons (ps_expr (pe_fn D_check_piece (hr.mono (by decide)) (by rfl) (pa_cons (pv 0) (pa_cons (pv 1) pa_nil))))
      (pss_one (ps_ret (pe_fn D_first_leaving (hr.mono (by decide)) (by rfl) (pa_cons (pv 0) (pa_cons (pe_fn D_steps_of (hr.mono (by decide)) (by rfl) (pa_cons (pe_ix (ixTK K rfl) (pv 0) pe_int (fun _ _ => rfl)) (pa_cons (pv 1) pa_nil))) pa_nil))))))), ?_⟩
    refine ⟨_, rfl, b, n, ws, rfl, bat, bk, wl, jn, fun H1 s1 => ?_⟩
    refine ⟨_, rfl, _, rfl, b, n, ws, z, rfl, bat.same s1, bk, wl, pc, by omega, fun H2 s2 => ?_⟩
    have s12 := s1.trans s2
    obtain ⟨t, eb, et⟩ := bat.same s12
    refine ⟨_, rfl, ?_⟩
    refine ⟨_, rfl, b, _, _, _, rfl, rfl, .inl (.inl eb), rfl, ?_⟩
    refine ⟨_, rfl, n, z, rfl, by omega, by omega, by omega, fun p H3 np s3 ep => ?_⟩
    have sl := steps_size n (tl z)
    rw [← len_tl] at sl
    refine ⟨b, p, n, ws, steps n (tl z), rfl, (bat.same s12).same s3, bk, wl, ep, by omega, by omega, fun x hx => pc.2 x hx, fun v H4 s4 fo => ?_⟩
    exact q v H4 ((s12.trans s3).trans s4) fo
abbrev st_is_sure : Stmt := topS 26
theorem sc_is_sure : FnScope ["book", "piece"] ["book", "piece"] (defScope st_is_sure) := ⟨rfl, rfl, rfl, by decide +kernel, rfl, by decide +kernel, by decide +kernel⟩
theorem pl_is_sure : PlainB "is_sure" st_is_sure ["book", "piece"] := fun _ _ _ _ _ _ us hl => match us, hl with | [_, _], _ => rfl
def spSure : Sp := fun vs H Q _ => ∃ (b : Addr) (n : Nat) (ws : List Str) (z : Str), vs = [.ref b, .str z] ∧ BookAt H b n ws ∧ Book n ws ∧ ws.length ≤ 100 ∧ Joined ws ∧ Pc n ws z ∧ z.length ≤ 130 ∧
  ∀ c H', Same H H' → (c = true ↔ NoLeav iniS taiS ws (steps n (tl z))) → Q (.bl c) H'
theorem ok_is_sure (T : Top K mg "is_sure" st_is_sure) (D_leaving : Dn P w K mg base 8 "leaving" st_leaving ["book", "piece"] spLeaving) : Dn P w K mg base 9 "is_sure" st_is_sure ["book", "piece"] spSure := by
  refine dn_of T sc_is_sure pl_is_sure (fun vs H Q E h => ?_) fun f cdv A outer s H vs Q E hr h => ?_
  · obtain ⟨_, _, _, _, rfl, _⟩ := h; rfl
  · obtain ⟨b, n, ws, z, rfl, bat, bk, wl, jn, pc, zl, q⟩ := h
    refine ⟨_, (pss_one (ps_ret (pe_cmpR op_isN (pe_fn D_leaving (hr.mono (by decide)) (by rfl) (pa_cons (pv 0) (pa_cons (pv 1) pa_nil))) pe_non (nomark _)))), ?_⟩
    refine ⟨_, rfl, _, rfl, b, n, ws, z, rfl, bat, bk, wl, jn, pc, zl, fun v H1 s1 fo => ?_⟩
    obtain ⟨iff, how⟩ := fo.iff
    rcases how with rfl | ⟨t, rfl⟩
    · exact ⟨rfl, q true H1 s1 ⟨fun _ => iff.mp rfl, fun _ => rfl⟩⟩
    · exact ⟨rfl, q false H1 s1 ⟨fun h => (by cases h), fun h => (by cases iff.mpr h)⟩⟩
end
end Tx

set_option Elab.async false
set_option linter.all false
set_option maxRecDepth 100000
set_option maxHeartbeats 1000000
namespace Tx
open PySem PySem.Spec PyProof.Rows L2 TL RZ
/-- a piece's borders, one for each number of its letters -/
def brdL (z : Str) : List V := (List.range (z.length + 1)).map fun i => V.int (brd (tl z) i : Nat)
theorem brdL_at {z : Str} {k : Nat} (h : k ≤ z.length) : (brdL z)[k]? = some (.int (brd (tl z) k)) := by
  unfold brdL
  rw [List.getElem?_map, List.getElem?_range (by omega)]; rfl
section
variable {P : Program} {w : World} {K : PySem.W.Frag} {mg : Str → Option Value} {base : Heap}
abbrev st_law_borders : Stmt := topS 46
theorem sc_law_borders : FnScope ["piece", "found", "size", "less"] ["piece"] (defScope st_law_borders) := ⟨rfl, rfl, rfl, by decide +kernel, rfl, by decide +kernel, by decide +kernel⟩
theorem pl_law_borders : PlainB "_law_borders" st_law_borders ["piece"] := fun _ _ _ _ _ _ us hl => match us, hl with | [_], _ => rfl
def spBorders : Sp := fun vs H Q _ => ∃ (z : Str), vs = [.str z] ∧ z.length ≤ 200 ∧ ∀ a H', H a = none → Same H H' → H' a = some (.lst (brdL z)) → Q (.ref a) H'
theorem ok_law_borders (T : Top K mg "_law_borders" st_law_borders) (B : Bt mg) : Dn P w K mg base 1 "_law_borders" st_law_borders ["piece"] spBorders := by
  refine dn_of T sc_law_borders pl_law_borders (fun vs H Q E h => ?_) fun f cdv A outer s H vs Q E hr h => ?_
  · obtain ⟨a, rfl, _⟩ := h; rfl
  · obtain ⟨z, rfl, zl, q⟩ := h
    have sz : z.length ≤ sizeLine := big6 (by omega)
    refine ⟨_, (pss_cons (ps_set (i := 1) sc_law_borders.nd rfl (.inl rfl) (pe_lst (pa_cons pe_int pa_nil)))
      (pss_cons (ps_for PassesOwn.never rfl (pi_range2 (by rfl) B.range (pa_cons pe_int (pa_cons (pe_op op_add (pe_callB call_len_str (by rfl) B.len (by decide +kernel) (pa_cons (pv 0) pa_nil)) pe_int) pa_nil))) (pg_name (i := 2) sc_law_borders.nd rfl (.inr rfl)) (pss_one (ps_expr (pe_bm PySem.F.plainAttrs_list PySem.F.slot_list_append PySem.F.type_list_append mt_append (pv 1) (pa_cons (pe_ix (ixK K rfl) (pe_lc (own := [("less", 3)]) (g := gName 3) rfl sc_law_borders.nd (pi_range3 (by rfl) B.range (pa_cons (pe_op op_sub (pv 2) pe_int) (pa_cons (pe_un un_neg pe_int) (pa_cons (pe_un un_neg pe_int) pa_nil)))) (blkOk_by (N := ["piece", "found", "size", "less"]) (sc := defScope st_law_borders) (by decide +kernel)) (fun _ _ _ _ _ => (pg_name (i := 3) sc_law_borders.nd rfl (.inl rfl))) (fun _ _ _ _ _ => (pts_one (pt_val (pe_bmK K rfl PySem.F.plainAttrs_str PySem.F.slot_str_endswith PySem.F.type_str_endswith mt_endswith (pe_slice sl_str (pv 0) po_none (po_some (pv 2))) (pa_cons (pe_slice sl_str (pv 0) po_none (po_some (pv 3))) pa_nil))))) (fun _ _ _ _ _ => (pv 3))) pe_int (fun _ _ => rfl)) pa_nil)))))
      (pss_one (ps_ret (pv 1))))), ?_⟩
    refine ⟨by show 1 ≤ sizeLine; decide, fun F nF => ?_⟩
    refine ⟨_, rfl, z, rfl, sz, _, _, rfl, rfl, _, _, rfl, ⟨by omega, by omega, by omega, by omega⟩, ?_⟩
    rw [show ((z.length : Int) + 1 - 1).toNat = z.length by omega]
    have f0 : (upd H F (.lst [V.int 0])) F = some (.lst ((List.range 1).map fun i => V.int (brd (tl z) i : Nat))) := by rw [upd_same]; rfl
    refine for_range (n := z.length) (fun i σ H' => ∃ o2, σ = [some (.str z), some (.ref F), o2, none] ∧ Same H H' ∧ H' F = some (.lst ((List.range (i + 1)).map fun i => V.int (brd (tl z) i : Nat)))) ⟨none, rfl, same_upd nF, f0⟩ (fun i σ H1 hi ⟨o2, eσ, s1, e1⟩ => ?_) fun σ H1 ⟨o2, eσ, s1, e1⟩ => ?_
    · subst eσ
      refine ⟨_, rfl, .inl ⟨rfl, _, .inl (.inl e1)⟩, ?_⟩
      refine ⟨_, rfl, _, _, rfl, rfl, _, rfl, _, rfl, _, _, _, ((1 : Int) + (i : Int) - 1 - (-1)).toNat, rfl, RgC.neg (i := (1 : Int) + (i : Int) - 1) (j := -1) (by omega) (by omega) (by decide) (by decide), ?_⟩
      rw [show ((1 : Int) + (i : Int) - 1 - (-1)).toNat = i + 1 by omega]
      refine fun D nD => ?_
      have nFD : F ≠ D := ne_of_none e1 nD
      have sz2 : ((1 : Int) + (i : Int)) = ((i + 1 : Nat) : Int) := by omega
      refine it_all (walk_rangeC (n := i + 1)) (fun j H' => Same H1 H' ∧ ∃ fs : List Nat, H' D = some (.lst (fs.map fun k => V.int (k : Nat))) ∧ fs.length ≤ j ∧ (fs = [] → ∀ l, l ≤ i → i - l < j → ¬ (tl z).take l <:+ (tl z).take (i + 1)) ∧ ∀ b, fs.head? = some b → b = brd (tl z) (i + 1))
        ⟨same_upd nD, [], upd_same, Nat.le_refl _, fun _ l _ h => absurd h (Nat.not_lt_zero _), fun b h => by cases h⟩ (fun _ _ _ _ => trivial) (fun j y H2 H3 hj ⟨sm, fs, ef, fl, f1, f2⟩ ⟨eH, ey⟩ => ?_) fun H2 ⟨sm, fs, ef, fl, f1, f2⟩ => ?_
      · subst eH ey
        obtain ⟨l, el⟩ : ∃ l : Nat, ((1 : Int) + (i : Int) - 1 + (j : Int) * -1) = (l : Int) := ⟨i - j, by omega⟩
        show gName 3 (V.int (1 + ↑i - 1 + ↑j * -1)) _ _ _
        rw [el]
        refine ⟨rfl, ?_⟩
        refine ⟨_, rfl, ?_⟩
        dsimp only [tNoPart]
        refine ⟨_, rfl, _, rfl, z, rfl, sz, ?_⟩
        rw [sz2, cutS_to z (i + 1) (by omega)]
        refine ⟨rfl, _, rfl, ?_⟩
        dsimp only [tNoPart]
        refine ⟨_, rfl, _, rfl, z, rfl, sz, ?_⟩
        have li : l = i - j := by omega
        rw [cutS_to z l (by omega)]
        refine ⟨_, _, rfl, rfl, _, rfl, ?_⟩
        obtain ⟨m1, m2, m3⟩ := mxN_is (tl z) ((tl z).take (i + 1)) (i + 1 - 1)
        have eb : brd (tl z) (i + 1) = mxN (tl z) ((tl z).take (i + 1)) (i + 1 - 1) := rfl
        rw [← eb] at m1 m2 m3
        refine ite2 (fun c => ?_) fun c => ?_
        · have c : (tl z).take l <:+ (tl z).take (i + 1) := ends_iff.mp c
          refine ⟨_, rfl, _, ef, by rw [List.length_map]; exact lt_line (by omega), wr sm nD, fs ++ [l], by rw [upd_same, List.map_append]; rfl, by rw [List.length_append]; exact Nat.add_le_add_right fl 1, fun h => by simp at h, fun b hb => ?_⟩
          cases fs with
          | cons a as => exact f2 b hb
          | nil =>
            injection hb with hb
            subst hb
            have h1 := m3 l (by omega) c
            refine Nat.le_antisymm h1 (Nat.le_of_not_lt fun h => ?_)
            exact f1 rfl _ (by omega) (by omega) m2
        · have c : ¬ (tl z).take l <:+ (tl z).take (i + 1) := fun h => c (ends_iff.mpr h)
          refine ⟨sm, fs, ef, by omega, fun h l' h1 h2 => ?_, f2⟩
          by_cases e : i - l' = j
          · rw [show l' = l by omega]; exact c
          · exact f1 h l' h1 (by omega)
      · cases fs with
        | nil => exact absurd (by rw [List.take_zero]; exact List.nil_suffix) (f1 rfl 0 (Nat.zero_le _) (by omega))
        | cons b fs =>
          have hb := f2 b rfl
          subst hb
          refine ⟨D, _, 0, V.int (brd (tl z) (i + 1) : Nat), rfl, rfl, .inl (.inl ef), atI_pos (by decide) rfl, F, _, _, rfl, rfl, sm _ _ e1, ?_, ?_⟩
          · rw [List.length_map, List.length_range]; exact lt_line (by omega)
          · exact ⟨_, rfl, wr (s1.trans sm) nF, by rw [upd_same, List.range_succ (n := i + 1), List.map_append]; rfl⟩
    · subst eσ
      refine ⟨_, rfl, q F H1 nF s1 ?_⟩
      rw [e1]; rfl
abbrev st_law_read : Stmt := topS 47
theorem sc_law_read : FnScope ["piece", "borders", "size", "letter"] ["piece", "borders", "size", "letter"] (defScope st_law_read) := ⟨rfl, rfl, rfl, by decide +kernel, rfl, by decide +kernel, by decide +kernel⟩
theorem pl_law_read : PlainB "_law_read" st_law_read ["piece", "borders", "size", "letter"] := fun _ _ _ _ _ _ us hl => match us, hl with | [_, _, _, _], _ => rfl
def spRead : Sp := fun vs H Q _ => ∃ (z : Str) (a : Addr) (m c : Nat), vs = [.str z, .ref a, .int m, .str ⟨#[c]⟩] ∧ z.length ≤ 200 ∧ H a = some (.lst (brdL z)) ∧ m < z.length ∧ Q (.int (rdN (tl z) m c : Nat)) H
theorem one_eq (a b : Nat) : decide (V.str ⟨#[a]⟩ = V.str ⟨#[b]⟩) = decide (a = b) := by
  by_cases h : a = b
  · subst h; simp
  · simp [h]
theorem one_neq (a b : Nat) : (!decide (V.str ⟨#[a]⟩ = V.str ⟨#[b]⟩)) = !decide (a = b) := by
  by_cases h : a = b
  · subst h; simp
  · simp [h]
theorem ok_law_read (T : Top K mg "_law_read" st_law_read) (B : Bt mg) : Dn P w K mg base 1 "_law_read" st_law_read ["piece", "borders", "size", "letter"] spRead := by
  refine dn_of T sc_law_read pl_law_read (fun vs H Q E h => ?_) fun f cdv A outer s H vs Q E hr h => ?_
  · obtain ⟨a, _, _, _, rfl, _⟩ := h; rfl
  · obtain ⟨z, a, m, c, rfl, zl, ea, ml, q⟩ := h
    have sz : z.length ≤ sizeLine := big6 (by omega)
    refine ⟨_, (pss_cons (ps_while PassesOwn.never (PW.pt (pw_and (pt_cmpR op_gt (pv 2) pe_int (nomark _)) (pw_and1 (pt_cmpR op_ne (pe_ix ix_str (pv 0) (pv 2) (fun _ _ => rfl)) (pv 3) (nomark _))))) (pss_one (ps_set (i := 2) sc_law_read.nd rfl (.inl rfl) (pe_ix (ixK K rfl) (pv 1) (pv 2) (fun _ _ => rfl)))))
      (pss_one (ps_ret (pe_op op_add (pv 2) (pe_callTy call_int1 (by rfl) B.int (by decide +kernel) (pa_cons (pe_cmpR op_eq (pe_ix ix_str (pv 0) (pv 2) (fun _ _ => rfl)) (pv 3) (nomark _)) pa_nil)))))), ?_⟩
    refine ⟨fun mm σ H' => H = H' ∧ ∃ k : Nat, σ = [some (.str z), some (.ref a), some (.int k), some (.str ⟨#[c]⟩)] ∧ Rd1 (tl z) m c k ∧ mm = k, ⟨_, rfl, m, rfl, Rd1.start (by rw [← len_tl]; exact ml), rfl⟩, fun mm σ H' ⟨eH, k, eσ, r, em⟩ => ?_⟩
    subst eH eσ
    have kl := r.lt
    obtain ⟨x, pk⟩ : ∃ x, (tl z)[k]? = some x := ⟨_, List.getElem?_eq_getElem kl⟩
    have kz : k < z.length := by rw [len_tl]; exact kl
    have ax : atI (tl z) (k : Int) = some x := atI_pos (by omega) (by rw [Int.toNat_natCast]; exact pk)
    have out : ∀ (_ : k = 0 ∨ x = c), ∀ i : Int, i = (if x = c then 1 else 0) → Q (.int ((k : Int) + i)) H := fun h i ei => by
      subst ei
      by_cases e : x = c
      · rw [if_pos e]
        have := r.hit (by rw [pk, e])
        rw [this] at q
        exact q
      · rw [if_neg e]
        have k0 := h.resolve_right e
        subst k0
        have := r.miss (fun h => e (Option.some.inj (pk.symm.trans h)))
        rw [this] at q
        exact q
    have out2 : (k = 0 ∨ x = c) → tRet (tOp (rI0 fun i j => V.int (i + j)) (tVar 2) (tCB (fun xs H Q => (∃ i, xs = [V.int i] ∧ Q (V.int i) H) ∨ ∃ k, xs = [V.bl k] ∧ Q (V.int (if k = true then 1 else 0)) H) (tCons (tOp rEq (tOp rIxS (tVar 0) (tVar 2)) (tVar 3)) tNil))) { nx := fun x H' => Q V.non H', rt := Q } [some (V.str z), some (V.ref a), some (V.int ↑k), some (V.str { cps := #[c] })] H := fun h => by
      refine ⟨_, rfl, _, rfl, _, rfl, z, _, x, rfl, rfl, sz, ax, _, rfl, rfl, .inr ⟨_, rfl, _, _, rfl, rfl, out h _ ?_⟩⟩
      rw [one_eq]
      by_cases e : x = c
      · rw [if_pos e, decide_eq_true e, if_pos rfl]
      · rw [if_neg e, decide_eq_false e, if_neg (by decide)]
    refine ⟨_, rfl, _, _, rfl, rfl, _, rfl, ?_⟩
    refine ite2 (fun k0 => ?_) fun k0 => ?_
    · have k0 := of_decide_eq_true k0
      refine ⟨_, rfl, _, rfl, z, _, x, rfl, rfl, sz, ax, _, rfl, rfl, _, rfl, ?_⟩
      rw [one_neq]
      by_cases e : x = c
      · rw [decide_eq_true e]
        refine iteF ?_
        exact out2 (.inr e)
      · rw [decide_eq_false e]
        refine iteT ?_
        obtain ⟨r2, lt⟩ := r.next (by omega) fun h => e (Option.some.inj (pk.symm.trans h))
        refine ⟨_, fun _ _ h => h, ?_⟩
        refine ⟨_, rfl, _, rfl, a, _, _, _, rfl, rfl, .inl (.inl ea), atI_pos (by omega) (by rw [Int.toNat_natCast]; exact brdL_at (by omega)), ?_⟩
        exact ⟨brd (tl z) k, by omega, rfl, _, rfl, r2, rfl⟩
    · refine iteF ?_
      have k0 : k = 0 := by
        have := of_decide_eq_false (Bool.eq_false_iff.mpr k0)
        omega
      exact out2 (.inl k0)
end
end Tx

set_option Elab.async false
set_option linter.all false
set_option maxRecDepth 100000
set_option maxHeartbeats 1000000
namespace Tx
open PySem PySem.Spec PyProof.Rows L2 TL RZ
/-! ### pairs, steps and rows in the heap -/
def prV (q : Pr) : List V := [.str q.1, .int (q.2 : Nat)]
def keyP (q : Pr) : List Key := [Sum.inr q.1, Sum.inl (q.2 : Nat)]
theorem keyP_kV (q : Pr) : (keyP q).map kV = prV q := rfl
theorem keyP_inj {q r : Pr} (h : keyP q = keyP r) : q = r := by
  injection h with h1 h2
  injection h1 with h1
  injection h2 with h2
  injection h2 with h2
  exact Prod.ext h1 (Int.ofNat.inj h2)
/-- lists whose items belong together -/
def Rl {A : Type} (R : Addr → A → Prop) : List Addr → List A → Prop
  | [], [] => True
  | a :: as, x :: xs => R a x ∧ Rl R as xs
  | _, _ => False
section
variable {A : Type} {R R' : Addr → A → Prop}
theorem Rl.len : ∀ {as : List Addr} {xs : List A}, Rl R as xs → as.length = xs.length
  | [], [], _ => rfl
  | _ :: _, _ :: _, h => by rw [List.length_cons, List.length_cons, Rl.len h.2]
  | [], _ :: _, h => h.elim
  | _ :: _, [], h => h.elim
theorem Rl.imp : ∀ {as : List Addr} {xs : List A}, Rl R as xs → (∀ a x, R a x → R' a x) → Rl R' as xs
  | [], [], _, _ => trivial
  | _ :: _, _ :: _, h, f => ⟨f _ _ h.1, Rl.imp h.2 f⟩
  | [], _ :: _, h, _ => h.elim
  | _ :: _, [], h, _ => h.elim
theorem Rl.app {bs : List Addr} {ys : List A} (k : Rl R bs ys) : ∀ {as : List Addr} {xs : List A}, Rl R as xs → Rl R (as ++ bs) (xs ++ ys)
  | [], [], _ => k
  | _ :: _, _ :: _, h => ⟨h.1, Rl.app k h.2⟩
  | [], _ :: _, h => h.elim
  | _ :: _, [], h => h.elim
theorem Rl.snoc {a : Addr} {x : A} {as : List Addr} {xs : List A} (h : Rl R as xs) (r : R a x) : Rl R (as ++ [a]) (xs ++ [x]) := Rl.app (bs := [a]) (ys := [x]) ⟨r, trivial⟩ h
theorem Rl.at : ∀ {as : List Addr} {xs : List A}, Rl R as xs → ∀ {i : Nat} {a : Addr}, as[i]? = some a → ∃ x, xs[i]? = some x ∧ R a x
  | _ :: _, x :: _, h, 0, a, e => by injection e with e; subst e; exact ⟨x, rfl, h.1⟩
  | _ :: _, _ :: _, h, i + 1, a, e => Rl.at h.2 (i := i) e
  | [], [], _, _, _, e => by cases e
  | [], _ :: _, h, _, _, _ => h.elim
  | _ :: _, [], h, _, _, _ => h.elim
theorem Rl.last {as : List Addr} {a : Addr} : ∀ {xs : List A}, Rl R (as ++ [a]) xs → ∃ ys y, xs = ys ++ [y] ∧ Rl R as ys ∧ R a y := by
  induction as with
  | nil =>
    intro xs h
    cases xs with
    | nil => exact h.elim
    | cons x xs =>
      cases xs with
      | nil => exact ⟨[], x, rfl, trivial, h.1⟩
      | cons _ _ => exact h.2.elim
  | cons b as ih =>
    intro xs h
    cases xs with
    | nil => exact h.elim
    | cons x xs =>
      obtain ⟨ys, y, e, r1, r2⟩ := ih h.2
      exact ⟨x :: ys, y, by rw [e]; rfl, ⟨h.1, r1⟩, r2⟩
end
theorem ref_at {as : List Addr} {i : Nat} {y : V} (h : (as.map V.ref)[i]? = some y) : ∃ a, as[i]? = some a ∧ y = .ref a := by
  rw [List.getElem?_map] at h
  cases e : as[i]? with
  | none => rw [e] at h; cases h
  | some a => rw [e] at h; exact ⟨a, rfl, (Option.some.inj h).symm⟩
def PrAt (H : Hp) (a : Addr) (q : Pr) : Prop := H a = some (.tup (prV q))
def StAt (H : Hp) (a : Addr) (st : Str × Pr) : Prop := ∃ b, H a = some (.tup [.str st.1, .ref b]) ∧ PrAt H b st.2
def RowAt (H : Hp) (l : Addr) (sts : List (Str × Pr)) : Prop := ∃ as : List Addr, H l = some (.lst (as.map V.ref)) ∧ Rl (StAt H) as sts
theorem PrAt.same {H H' : Hp} (s : Same H H') {a : Addr} {q : Pr} (h : PrAt H a q) : PrAt H' a q := s _ _ h
theorem StAt.same {H H' : Hp} (s : Same H H') {a : Addr} {st : Str × Pr} (h : StAt H a st) : StAt H' a st := let ⟨b, e1, e2⟩ := h; ⟨b, s _ _ e1, s _ _ e2⟩
theorem RowAt.same {H H' : Hp} (s : Same H H') {l : Addr} {sts : List (Str × Pr)} (h : RowAt H l sts) : RowAt H' l sts := let ⟨as, e, r⟩ := h; ⟨as, s _ _ e, r.imp fun _ _ => StAt.same s⟩
/-- no tuple -/
def NT (H : Hp) (x : Addr) : Prop := ∀ ys, H x ≠ some (.tup ys)
theorem nt_lst {H : Hp} {x : Addr} {xs : List V} (e : H x = some (.lst xs)) : NT H x := fun ys h => by rw [e] at h; cases h
theorem nt_dT {H : Hp} {x : Addr} {xs : List (List Key × V)} (e : H x = some (.dT xs)) : NT H x := fun ys h => by rw [e] at h; cases h
theorem nt_dK {H : Hp} {x : Addr} {xs : List (Key × V)} (e : H x = some (.dK xs)) : NT H x := fun ys h => by rw [e] at h; cases h
theorem nt_none {H : Hp} {x : Addr} (e : H x = none) : NT H x := fun ys h => by rw [e] at h; cases h
theorem PrAt.put {H : Hp} {x a : Addr} {o : HO} {q : Pr} (h : PrAt H a q) (n : NT H x) : PrAt (upd H x o) a q := keep_ne h fun e => n _ (e ▸ h)
theorem StAt.put {H : Hp} {x a : Addr} {o : HO} {st : Str × Pr} (h : StAt H a st) (n : NT H x) : StAt (upd H x o) a st := by
  obtain ⟨b, e1, e2⟩ := h
  exact ⟨b, keep_ne e1 fun e => n _ (e ▸ e1), e2.put n⟩
theorem RowAt.put {H : Hp} {x l : Addr} {o : HO} {sts : List (Str × Pr)} (h : RowAt H l sts) (n : NT H x) (ne : l ≠ x) : RowAt (upd H x o) l sts := by
  obtain ⟨as, e, r⟩ := h
  exact ⟨as, keep_ne e ne, r.imp fun _ _ h => StAt.put h n⟩
/-- a dict by pairs -/
def dtF (f : Pr → V) (ns : List Pr) : List (List Key × V) := ns.map fun q => (keyP q, f q)
theorem dtF_len (f : Pr → V) (ns : List Pr) : (dtF f ns).length = ns.length := List.length_map ..
theorem dtF_val (f : Pr → V) {q : Pr} : ∀ {ns : List Pr}, q ∈ ns → valV (dtF f ns) (keyP q) = some (f q)
  | [], h => by cases h
  | r :: ns, h => by
    by_cases c : r = q
    · subst c; exact valV_pos rfl
    · have h' := (List.mem_cons.mp h).resolve_left fun e => c e.symm
      have : valV (dtF f (r :: ns)) (keyP q) = valV (dtF f ns) (keyP q) := valV_neg (p := (keyP r, f r)) (fun e => c (keyP_inj e))
      rw [this]; exact dtF_val f h'
theorem dtF_none (f : Pr → V) {q : Pr} : ∀ {ns : List Pr}, q ∉ ns → valV (dtF f ns) (keyP q) = none
  | [], _ => rfl
  | r :: ns, h => by
    have c : r ≠ q := fun e => h (by rw [e]; exact List.mem_cons_self ..)
    have : valV (dtF f (r :: ns)) (keyP q) = valV (dtF f ns) (keyP q) := valV_neg (p := (keyP r, f r)) (fun e => c (keyP_inj e))
    rw [this]; exact dtF_none f fun h' => h (List.mem_cons_of_mem _ h')
theorem dtF_some (f : Pr → V) (q : Pr) (ns : List Pr) : (valV (dtF f ns) (keyP q)).isSome = decide (q ∈ ns) := by
  by_cases c : q ∈ ns
  · rw [dtF_val f c, decide_eq_true c]; rfl
  · rw [dtF_none f c, decide_eq_false c]; rfl
theorem dtF_put {f f' : Pr → V} {ns : List Pr} {q : Pr} {v : V} (h : q ∉ ns) (h1 : f' q = v) (h2 : ∀ z, z ≠ q → f' z = f z) : putK (dtF f ns) (keyP q) v = dtF f' (ns ++ [q]) := by
  have hs : (dtF f ns).any (fun kv => decide (kv.1 = keyP q)) = false := by
    rw [List.any_eq_false]
    intro kv hkv e
    obtain ⟨z, hz, rfl⟩ := List.mem_map.mp hkv
    exact h (keyP_inj (of_decide_eq_true e) ▸ hz)
  unfold putK
  rw [hs, if_neg (by decide)]
  unfold dtF
  rw [List.map_append, List.map_singleton, h1]
  congr 1
  refine List.map_congr_left fun z hz => ?_
  rw [h2 z fun e => h (e ▸ hz)]
theorem dtF_rep {f f' : Pr → V} {ns : List Pr} {q : Pr} {v : V} (h : q ∈ ns) (h1 : f' q = v) (h2 : ∀ z, z ≠ q → f' z = f z) : putK (dtF f ns) (keyP q) v = dtF f' ns := by
  have hs : (dtF f ns).any (fun kv => decide (kv.1 = keyP q)) = true := by
    rw [List.any_eq_true]
    exact ⟨(keyP q, f q), List.mem_map.mpr ⟨q, h, rfl⟩, by simp⟩
  unfold putK
  rw [if_pos hs]
  unfold dtF
  rw [List.map_map]
  refine List.map_congr_left fun z _ => ?_
  by_cases c : z = q
  · subst c; simp [h1]
  · have : ¬ (keyP z = keyP q) := fun e => c (keyP_inj e)
    simp [this, h2 z c]
theorem dgetT {H : Hp} {d b : Addr} {f : Pr → V} {ns : List Pr} {q : Pr} (e : Rd H d (.dT (dtF f ns))) (eb : PrAt H b q) : DGet H d (.ref b) (valV (dtF f ns) (keyP q)) := .inr ⟨_, keyP q, b, e, rfl, eb, rfl⟩
theorem dgetT' {H : Hp} {d b : Addr} {f : Pr → V} {ns : List Pr} {q : Pr} (e : Rd H d (.dT (dtF f ns))) (eb : PrAt H b q) (h : q ∈ ns) : DGet H d (.ref b) (some (f q)) := by
  have := dgetT e eb
  rwa [dtF_val f h] at this
/-! ### lists of pairs as data -/
def prData (qs : List Pr) : List PyData := qs.map fun q => .tuple [.str q.1, .int (q.2 : Nat)]
theorem dp_prs {K : PySem.W.Frag} {H : Hp} : ∀ {as : List Addr} {qs : List Pr}, Rl (PrAt H) as qs → DpAll K H (as.map V.ref) (prData qs)
  | [], [], _ => .nil
  | _ :: _, _ :: _, h => .cons (.tup (.inl (.inl h.1)) (.cons (.str _) (.cons (.int _) .nil))) (dp_prs h.2)
  | [], _ :: _, h => h.elim
  | _ :: _, [], h => h.elim
theorem lay_prs : ∀ qs : List Pr, (∀ q ∈ qs, Low q.1) → PyData.canLayAll0 (prData qs) = true ∧ PyData.depthAll (prData qs) ≤ 1
  | [], _ => ⟨rfl, Nat.zero_le _⟩
  | q :: qs, h => by
    have ih := lay_prs qs fun ys hy => h ys (List.mem_cons_of_mem _ hy)
    have l := lay_strs [q.1] (fun z hz => by rw [List.mem_singleton.mp hz]; exact h q (List.mem_cons_self ..))
    unfold prData at ih ⊢
    simp only [List.map_cons, List.map_nil, PyData.canLayAll0, PyData.depthAll, PyData.canLay0, PyData.depth, ih.1] at l ⊢
    have := ih.2
    simp at l ⊢
    refine ⟨?_, ?_⟩
    · exact l
    · omega
theorem shaped_prs {qs : List Pr} (h : ∀ q ∈ qs, Low q.1) : SeqAt.shaped (.list (prData qs)) = true := by
  have l := lay_prs qs h
  unfold SeqAt.shaped
  obtain ⟨a, b⟩ := l
  simp only [PyData.canLay0, PyData.depth, a, Bool.true_and]
  exact decide_eq_true (by omega)
theorem eqv_prs0 (qs : List Pr) : PyData.eqv (.list (prData qs)) (.list []) = decide (qs = []) := by
  cases qs with
  | nil => simp [prData, PyData.eqv, PyData.eqvAll]
  | cons x xs => simp [prData, PyData.eqv, PyData.eqvAll]
end Tx

set_option Elab.async false
set_option linter.all false
set_option maxRecDepth 100000
set_option maxHeartbeats 2000000
namespace Tx
open PySem PySem.Spec PyProof.Rows L2 TL RZ
theorem pigA {A : Type} [DecidableEq A] : ∀ (xs ys : List A), xs.Nodup → (∀ x ∈ xs, x ∈ ys) → xs.length ≤ ys.length
  | [], _, _, _ => Nat.zero_le _
  | x :: xs, ys, nd, sub => by
    obtain ⟨nx, nd'⟩ := List.nodup_cons.mp nd
    have hx := sub x (List.mem_cons_self ..)
    have k := pigA xs (ys.erase x) nd' fun y hy => (List.mem_erase_of_ne fun e => nx (by rw [← e]; exact hy)).mpr (sub y (List.mem_cons_of_mem _ hy))
    rw [List.length_erase_of_mem hx] at k
    have : 0 < ys.length := List.length_pos_of_mem hx
    rw [List.length_cons]
    omega
/-- all pairs that may come -/
def allPr (ns0 : List Str) (m : Nat) : List Pr := ns0.flatMap fun x => (List.range m).map fun k => (x, k)
theorem mem_allPr {ns0 : List Str} {m : Nat} {q : Pr} : q ∈ allPr ns0 m ↔ q.1 ∈ ns0 ∧ q.2 < m := by
  unfold allPr
  rw [List.mem_flatMap]
  constructor
  · rintro ⟨x, hx, h⟩
    obtain ⟨k, hk, rfl⟩ := List.mem_map.mp h
    exact ⟨hx, List.mem_range.mp hk⟩
  · rintro ⟨h1, h2⟩
    exact ⟨q.1, h1, List.mem_map.mpr ⟨q.2, List.mem_range.mpr h2, rfl⟩⟩
theorem len_allPr (ns0 : List Str) (m : Nat) : (allPr ns0 m).length = ns0.length * m := by
  unfold allPr
  induction ns0 with
  | nil => simp
  | cons a l ih => rw [List.flatMap_cons, List.length_append, ih, List.length_map, List.length_range, List.length_cons, Nat.succ_mul]; omega
structure LaidF (n : Nat) (ws : List Str) (z : Str) (ns wl : List Pr) : Prop where
  nd : ns.Nodup
  pl : ∀ x ∈ ws.map iniS, psi n z x ∈ ns ∨ psi n z x ∈ wl
  cl : ∀ q ∈ ns, ∀ st ∈ adjF ws z q, st.2 ∈ ns ∨ st.2 ∈ wl
  ok : ∀ q, q ∈ ns ∨ q ∈ wl → q.1 ∈ ws.map iniS ∧ q.2 < z.length ∧ ∃ x ∈ ws.map iniS, RQ (adjF ws z) (psi n z x) q
section
variable {n : Nat} {ws : List Str} {z : Str}
theorem LaidF.old {ns wl : List Pr} {x : Pr} (h : LaidF n ws z ns (wl ++ [x])) (hx : x ∈ ns) : LaidF n ws z ns wl := by
  have back : ∀ y, y ∈ ns ∨ y ∈ wl ++ [x] → y ∈ ns ∨ y ∈ wl := fun y hy => by
    rcases hy with hy | hy
    · exact .inl hy
    · rcases List.mem_append.mp hy with hy | hy
      · exact .inr hy
      · rw [List.mem_singleton.mp hy]; exact .inl hx
  exact ⟨h.nd, fun y hy => back _ (h.pl y hy), fun y hy st hst => back _ (h.cl y hy st hst), fun y hy => h.ok y (hy.imp id fun m => List.mem_append_left _ m)⟩
theorem LaidF.new {ns wl : List Pr} {x : Pr} (jn : ∀ v ∈ ws, taiS v ∈ ws.map iniS) (h : LaidF n ws z ns (wl ++ [x])) (hx : x ∉ ns) : LaidF n ws z (ns ++ [x]) (wl ++ (adjF ws z x).map (·.2)) := by
  have back : ∀ y, y ∈ ns ∨ y ∈ wl ++ [x] → y ∈ ns ++ [x] ∨ y ∈ wl ++ (adjF ws z x).map (·.2) := fun y hy => by
    rcases hy with hy | hy
    · exact .inl (List.mem_append_left _ hy)
    · rcases List.mem_append.mp hy with hy | hy
      · exact .inr (List.mem_append_left _ hy)
      · exact .inl (List.mem_append_right _ hy)
  obtain ⟨o1, o2, x0, o3, o4⟩ := h.ok x (.inr (List.mem_append_right _ (List.mem_singleton.mpr rfl)))
  refine ⟨List.nodup_append.mpr ⟨h.nd, List.nodup_cons.mpr ⟨by simp, List.nodup_nil⟩, fun a ha b hb e => hx (by rw [← List.mem_singleton.mp hb, ← e]; exact ha)⟩, fun y hy => back _ (h.pl y hy), fun y hy st hst => ?_, fun y hy => ?_⟩
  · rcases List.mem_append.mp hy with hy | hy
    · exact back _ (h.cl y hy st hst)
    · rw [List.mem_singleton.mp hy] at hst
      exact .inr (List.mem_append_right _ (List.mem_map.mpr ⟨st, hst, rfl⟩))
  · have new : ∀ st ∈ adjF ws z x, st.2.1 ∈ ws.map iniS ∧ st.2.2 < z.length ∧ ∃ x0 ∈ ws.map iniS, RQ (adjF ws z) (psi n z x0) st.2 := fun st hst => by
      obtain ⟨a1, a2, a3, a4⟩ := mem_adjF.mp hst
      exact ⟨by rw [a3]; exact jn _ a1, a4, x0, o3, .step o4 hst⟩
    rcases hy with hy | hy
    · rcases List.mem_append.mp hy with hy | hy
      · exact h.ok y (.inl hy)
      · rw [List.mem_singleton.mp hy]; exact ⟨o1, o2, x0, o3, o4⟩
    · rcases List.mem_append.mp hy with hy | hy
      · exact h.ok y (.inr (List.mem_append_left _ hy))
      · obtain ⟨st, hst, rfl⟩ := List.mem_map.mp hy
        exact new st hst
theorem LaidF.kset {ns : List Pr} (jn : ∀ v ∈ ws, taiS v ∈ ws.map iniS) (h : LaidF n ws z ns []) : KSet n ws z ns := by
  have pl : ∀ x ∈ placesL ws, x ∈ ws.map iniS := fun x hx => by
    rcases List.mem_append.mp hx with hx | hx
    · exact hx
    · obtain ⟨v, hv, rfl⟩ := List.mem_map.mp hx
      exact jn v hv
  refine ⟨fun x hx => (h.pl x (pl x hx)).resolve_right fun e => (by cases e), fun q hq st hst => (h.cl q hq st hst).resolve_right fun e => (by cases e), fun q hq => ?_⟩
  obtain ⟨_, _, x, hx, r⟩ := h.ok q (.inl hq)
  exact ⟨x, List.mem_append_left _ hx, r⟩
theorem adjF_len (ws : List Str) (z : Str) (q : Pr) : (stepsF ws z q).length ≤ ws.length ∧ (adjF ws z q).length ≤ ws.length := by
  have : (stepsF ws z q).length ≤ ws.length := by unfold stepsF begW; rw [List.length_map]; exact List.length_filter_le ..
  exact ⟨this, Nat.le_trans (List.length_filter_le ..) this⟩
end
/-- all rows -/
def GR (H : Hp) (L : Addr) (ns : List Pr) (adj : Pr → List (Str × Pr)) : Prop := ∃ f : Pr → Addr, H L = some (.dT (dtF (fun q => .ref (f q)) ns)) ∧ ∀ q ∈ ns, RowAt H (f q) (adj q)
section
variable {P : Program} {w : World} {K : PySem.W.Frag} {mg : Str → Option Value} {base : Heap}
abbrev st_law_rows : Stmt := topS 48
theorem sc_law_rows : FnScope ["book", "piece", "borders", "out", "found", "waiting", "spot", "size", "letter", "row", "window", "step"] ["book", "piece"] (defScope st_law_rows) := ⟨rfl, rfl, rfl, by decide +kernel, rfl, by decide +kernel, by decide +kernel⟩
theorem pl_law_rows : PlainB "_law_rows" st_law_rows ["book", "piece"] := fun _ _ _ _ _ _ us hl => match us, hl with | [_, _], _ => rfl
def spRows : Sp := fun vs H Q _ => ∃ (b : Addr) (n : Nat) (ws : List Str) (z : Str), vs = [.ref b, .str z] ∧ BookAt H b n ws ∧ Book n ws ∧ ws.length ≤ 100 ∧ n ≤ z.length ∧ z.length ≤ 200 ∧ (∀ v ∈ ws, taiS v ∈ ws.map iniS) ∧
  ∀ L ns H', H L = none → Same H H' → GR H' L ns (adjF ws z) → LaidF n ws z ns [] → ns.length ≤ 20000 → Q (.ref L) H'
theorem ok_law_rows (T : Top K mg "_law_rows" st_law_rows) (B : Bt mg) (D_law_out : Dn P w K mg base 1 "_law_out" st_law_out ["book"] spOut) (D_law_borders : Dn P w K mg base 1 "_law_borders" st_law_borders ["piece"] spBorders)
    (D_law_read : Dn P w K mg base 1 "_law_read" st_law_read ["piece", "borders", "size", "letter"] spRead) : Dn P w K mg base 2 "_law_rows" st_law_rows ["book", "piece"] spRows := by
  refine dn_of T sc_law_rows pl_law_rows (fun vs H Q E h => ?_) fun f cdv A outer s H vs Q E hr h => ?_
  · obtain ⟨_, _, _, _, rfl, _⟩ := h; rfl
  · obtain ⟨b, n, ws, z, rfl, bat, bk, wsl, nz, zl, jn, q⟩ := h
    have n2 := bk.n2
    have n6 := bk.n6
    have M : Mach n ws [z] := ⟨n2, fun v hv => (bk.each v hv).2, fun p hp => by rw [List.mem_singleton.mp hp]; exact nz⟩
    refine ⟨_, (pss_cons (ps_asg (pe_tup (pa_cons (pe_fn D_law_borders (hr.mono (by decide)) (by rfl) (pa_cons (pv 1) pa_nil)) (pa_cons (pe_fn D_law_out (hr.mono (by decide)) (by rfl) (pa_cons (pv 0) pa_nil)) (pa_cons pe_dnewT (pa_cons (pe_lst pa_nil) pa_nil))))) (pg_tupK K rfl rfl (pgs_cons (pg_name (i := 2) sc_law_rows.nd rfl (.inr rfl)) (pgs_cons (pg_name (i := 3) sc_law_rows.nd rfl (.inl rfl)) (pgs_cons (pg_name (i := 4) sc_law_rows.nd rfl (.inl rfl)) (pgs_cons (pg_name (i := 5) sc_law_rows.nd rfl (.inl rfl)) pgs_nil))))))
      (pss_cons (ps_for PassesOwn.never rfl (pi_list (pe_callB (cr_sortD rfl) (by rfl) B.sorted (by decide +kernel) (pa_cons (pv 3) pa_nil))) (pg_name (i := 6) sc_law_rows.nd rfl (.inl rfl)) (pss_cons (ps_set (i := 7) sc_law_rows.nd rfl (.inr rfl) pe_int)
      (pss_cons (ps_for PassesOwn.never rfl (pi_str (pv 6)) (pg_name (i := 8) sc_law_rows.nd rfl (.inl rfl)) (pss_one (ps_set (i := 7) sc_law_rows.nd rfl (.inr rfl) (pe_fn D_law_read (hr.mono (by decide)) (by rfl) (pa_cons (pv 1) (pa_cons (pv 2) (pa_cons (pv 7) (pa_cons (pv 8) pa_nil))))))))
      (pss_one (ps_expr (pe_bm PySem.F.plainAttrs_list PySem.F.slot_list_append PySem.F.type_list_append mt_append (pv 5) (pa_cons (pe_tup (pa_cons (pv 6) (pa_cons (pv 7) pa_nil))) pa_nil)))))))
      (pss_cons (ps_while PassesOwn.never (pt_cmpR (neDK K rfl hr.units) (pv 5) (pe_lst pa_nil) (nomark _)) (pss_cons (ps_asg (pe_bm0 PySem.F.plainAttrs_list PySem.F.slot_list_pop PySem.F.type_list_pop mt_pop (pv 5)) (pg_tupK K rfl rfl (pgs_cons (pg_name (i := 6) sc_law_rows.nd rfl (.inl rfl)) (pgs_cons (pg_name (i := 7) sc_law_rows.nd rfl (.inr rfl)) pgs_nil))))
      (pss_one (ps_if (pt_cmp (pc_dnotin (hu_of hr) (pe_tup (pa_cons (pv 6) (pa_cons (pv 7) pa_nil))) (pv 4))) (pss_cons (ps_setLc (i := 9) (own := [("window", 10)]) (g := gName 10) rfl sc_law_rows.nd rfl rfl (sw_true rfl rfl rfl (by decide +kernel)) (pi_list (pe_dget (hu_of hr) (pv 3) (pv 6) (fun _ _ => rfl))) (blkOk_by (N := ["book", "piece", "borders", "out", "found", "waiting", "spot", "size", "letter", "row", "window", "step"]) (sc := defScope st_law_rows) (by decide +kernel)) (fun _ _ _ _ _ => (pg_name (i := 10) sc_law_rows.nd rfl (.inl rfl))) (fun _ _ _ _ _ => pts_nil) (fun _ _ _ _ _ => (pe_tup (pa_cons (pv 10) (pa_cons (pe_tup (pa_cons (pe_slice sl_str (pv 10) (po_some pe_int) po_none) (pa_cons (pe_fn D_law_read (hr.mono (by decide)) (by rfl) (pa_cons (pv 1) (pa_cons (pv 2) (pa_cons (pv 7) (pa_cons (pe_ix ix_str (pv 10) (pe_un un_neg pe_int) (fun _ _ => rfl)) pa_nil))))) pa_nil))) pa_nil)))))
      (pss_cons (ps_dput (hu_of hr) (pv 4) (pe_tup (pa_cons (pv 6) (pa_cons (pv 7) pa_nil))) (pe_lc (own := [("step", 11)]) (g := gName 11) rfl sc_law_rows.nd (pi_list (pv 9)) (blkOk_by (N := ["book", "piece", "borders", "out", "found", "waiting", "spot", "size", "letter", "row", "window", "step"]) (sc := defScope st_law_rows) (by decide +kernel)) (fun _ _ _ _ _ => (pg_name (i := 11) sc_law_rows.nd rfl (.inl rfl))) (fun _ _ _ _ _ => (pts_one (pt_cmpR op_lt (pe_ix (ixTK K rfl) (pe_ix (ixTK K rfl) (pv 11) pe_int (fun _ _ => rfl)) pe_int (fun _ _ => rfl)) (pe_callB call_len_str (by rfl) B.len (by decide +kernel) (pa_cons (pv 1) pa_nil)) (nomark _)))) (fun _ _ _ _ _ => (pv 11))) rfl)
      (pss_one (ps_expr (pe_bm PySem.F.plainAttrs_list PySem.F.slot_list_extend PySem.F.type_list_extend mt_extend (pv 5) (pa_cons (pe_lc (own := [("step", 11)]) (g := gName 11) rfl sc_law_rows.nd (pi_list (pe_dget (hu_of hr) (pv 4) (pe_tup (pa_cons (pv 6) (pa_cons (pv 7) pa_nil))) (fun _ _ => rfl))) (blkOk_by (N := ["book", "piece", "borders", "out", "found", "waiting", "spot", "size", "letter", "row", "window", "step"]) (sc := defScope st_law_rows) (by decide +kernel)) (fun _ _ _ _ _ => (pg_name (i := 11) sc_law_rows.nd rfl (.inl rfl))) (fun _ _ _ _ _ => pts_nil) (fun _ _ _ _ _ => (pe_ix (ixTK K rfl) (pv 11) pe_int (fun _ _ => rfl)))) pa_nil)))))) pss_nil))))
      (pss_one (ps_ret (pv 4)))))), ?_⟩
    refine ⟨_, rfl, z, rfl, zl, fun a H1 na s1 ea => ?_⟩
    refine ⟨_, rfl, b, n, ws, rfl, bat.same s1, bk, wsl, fun d ns0 H2 nd s2 nn0 nl0 mem0 dl0 => ?_⟩
    refine fun L nL => ⟨by show 0 ≤ sizeLine; decide, fun W nW => ⟨by show 4 ≤ sizeLine; decide, fun t nt => ?_⟩⟩
    refine ⟨t, _, rfl, .inl (.inl upd_same), rfl, _, _, rfl, _, _, rfl, _, _, rfl, _, _, rfl, rfl, ?_⟩
    have nL2 := nL
    have s3 : Same H2 (upd (upd (upd H2 L (.dT [])) W (.lst [])) t (.tup [V.ref a, .ref d, .ref L, .ref W])) := ((same_upd nL).trans (same_upd nW)).trans (same_upd nt)
    have eL3 : (upd (upd (upd H2 L (.dT [])) W (.lst [])) t (.tup [V.ref a, .ref d, .ref L, .ref W])) L = some (.dT []) := ((same_upd nW).trans (same_upd nt)) _ _ upd_same
    have eW3 : (upd (upd (upd H2 L (.dT [])) W (.lst [])) t (.tup [V.ref a, .ref d, .ref L, .ref W])) W = some (.lst []) := (same_upd nt) _ _ upd_same
    have nW2 : H2 W = none := (same_upd nL).free nW
    generalize upd (upd (upd H2 L (.dT [])) W (.lst [])) t (.tup [V.ref a, .ref d, .ref L, .ref W]) = H3 at s3 eL3 eW3 ⊢
    obtain ⟨fd, ed2, gd2⟩ := id dl0
    refine ⟨_, rfl, d, _, ns0, rfl, .inl (s3 _ _ ed2), dkF_keys _ _, fun ys S py so nS => ?_⟩
    have s4 : Same H3 (upd H3 S (.lst (ys.map V.str))) := same_upd nS
    have eS4 : (upd H3 S (.lst (ys.map V.str))) S = some (.lst (ys.map V.str)) := upd_same
    have nSW : S ≠ W := (ne_of_none eW3 nS).symm
    have nS2 : H2 S = none := s3.free nS
    generalize upd H3 S (.lst (ys.map V.str)) = H4 at s4 eS4 ⊢
    refine ⟨S, rfl, ⟨_, .inl (.inl eS4)⟩, ?_⟩
    have ymem : ∀ x, x ∈ ys ↔ x ∈ ws.map iniS := fun x => by rw [py.mem_iff, mem0]
    have yln : ys.length ≤ 100 := by rw [py.length_eq]; exact nl0
    refine for_list (K := K) (a := S) (xs := ys.map V.str) (fun i σ H' => ∃ (as : List Addr) (o6 o7 o8 : Option V), σ = [some (.ref b), some (.str z), some (.ref a), some (.ref d), some (.ref L), some (.ref W), o6, o7, o8, none, none, none] ∧ Same H2 H' ∧ H' S = some (.lst (ys.map V.str)) ∧ H' L = some (.dT []) ∧ H' W = some (.lst (as.map V.ref)) ∧ Rl (PrAt H') as ((ys.take i).map (psi n z)))
      ⟨[], none, none, none, rfl, s3.trans s4, eS4, s4 _ _ eL3, s4 _ _ eW3, trivial⟩ (fun _ _ _ _ ⟨_, _, _, _, _, _, h, _⟩ => .inl (.inl h)) (fun i y σ H5 hi ⟨as, o6, o7, o8, eσ, s5, eS5, eL5, eW5, rl⟩ => ?_) fun σ H5 ⟨as, o6, o7, o8, eσ, s5, eS5, eL5, eW5, rl⟩ => ?_
    · subst eσ
      obtain ⟨x, hx, rfl⟩ := str_at hi
      have il := (List.getElem?_eq_some_iff.mp hx).1
      obtain ⟨v, hv, ev⟩ := List.mem_map.mp ((ymem x).mp (List.mem_of_getElem? hx))
      have vl := (bk.each v hv).2
      have xl : x.length = n - 1 := by rw [← ev]; unfold iniS; rw [len_mkS, List.length_take, ← len_tl]; omega
      have hx5 : H5 a = some (.lst (brdL z)) := s5 _ _ (s2 _ _ ea)
      refine ⟨_, rfl, x, rfl, ?_⟩
      refine for_it (walk_str (z := x)) (fun j σ H' => H5 = H' ∧ ∃ o8, σ = [some (.ref b), some (.str z), some (.ref a), some (.ref d), some (.ref L), some (.ref W), some (.str x), some (.int (mx (tl z) ((tl x).take j) : Nat)), o8, none, none, none]) ⟨rfl, o8, ?_⟩ (fun _ _ _ _ _ => trivial) (fun j y σ H' H'' hj ⟨eH, o8', eσ⟩ ⟨eH2, c, hc, ey⟩ => ?_) fun σ H' ⟨eH, o8', eσ⟩ => ?_
      · have : mx (tl z) ((tl x).take 0) = 0 := by have := mx_len (tl z) ((tl x).take 0); rw [List.length_take] at this; omega
        rw [this]; rfl
      · subst eH2 eH eσ ey
        have hc : (tl x)[j]? = some c := by simpa [tl] using hc
        have jl := (List.getElem?_eq_some_iff.mp hc).1
        rw [← len_tl] at jl
        have ml := mx_len (tl z) ((tl x).take j)
        rw [List.length_take, ← len_tl] at ml
        have mz : mx (tl z) ((tl x).take j) < z.length := by omega
        refine ⟨_, rfl, _, rfl, _, rfl, _, rfl, z, a, _, c, rfl, zl, hx5, mz, ?_⟩
        refine ⟨rfl, some (.str ⟨#[c]⟩), ?_⟩
        rw [← mx_snoc (by rw [← len_tl]; exact mz), List.take_add_one, hc]
        rfl
      · subst eH eσ
        have et : (tl x).take x.cps.size = tl x := List.take_of_length_le (by rw [← len_tl]; exact Nat.le_refl _)
        rw [et]
        have exy : endS (n - 1) x = x := by refine ext_tl ?_; show (tl x).drop _ = tl x; rw [xl, Nat.sub_self]; rfl
        have ep : psi n z x = (x, mx (tl z) (tl x)) := by unfold psi; rw [exy]
        refine ⟨_, rfl, .inl ⟨rfl, _, .inl (.inl eW5)⟩, _, rfl, _, rfl, by show 2 ≤ sizeLine; decide, fun u nu => ?_⟩
        have eW6 := (same_upd (o := .tup [V.str x, V.int (mx (tl z) (tl x) : Nat)]) nu) _ _ eW5
        have rl6 : Rl (PrAt (upd H5 u (.tup [V.str x, V.int (mx (tl z) (tl x) : Nat)]))) (as ++ [u]) ((ys.take (i + 1)).map (psi n z)) := by
          rw [take_mem hx, List.map_append, List.map_singleton, ep]
          exact (rl.imp fun _ _ => PrAt.same (same_upd nu)).snoc upd_same
        have asl : as.length ≤ 100 := by have := rl.len; rw [List.length_map, List.length_take] at this; omega
        have uW : u ≠ W := (ne_of_none eW5 nu).symm
        have s6 := s5.trans (same_upd (o := .tup [V.str x, V.int (mx (tl z) (tl x) : Nat)]) nu)
        have eS6 := (same_upd (o := .tup [V.str x, V.int (mx (tl z) (tl x) : Nat)]) nu) _ _ eS5
        have eL6 := (same_upd (o := .tup [V.str x, V.int (mx (tl z) (tl x) : Nat)]) nu) _ _ eL5
        generalize upd H5 u (.tup [V.str x, V.int (mx (tl z) (tl x) : Nat)]) = H6 at eW6 rl6 s6 eS6 eL6 ⊢
        refine ⟨W, _, _, rfl, rfl, eW6, by rw [List.length_map]; exact lt_line (by omega), ?_⟩
        have LW : L ≠ W := fun e => by rw [e, eW6] at eL6; cases eL6
        refine ⟨as ++ [u], _, _, _, rfl, wr s6 nW2, keep_ne eS6 nSW, keep_ne eL6 LW, by rw [upd_same, List.map_append]; rfl, rl6.imp fun _ _ h => PrAt.put h (nt_lst eW6)⟩
    · subst eσ
      rw [List.length_map, List.take_length] at rl
      have lowP : ∀ q : Pr, q.1 ∈ ws.map iniS → Low q.1 ∧ q.1.length ≤ 6 := fun q hq => by
        obtain ⟨v, hv, e⟩ := List.mem_map.mp hq
        rw [← e]
        have := (bk.each v hv).2
        exact ⟨low_take (bk.each v hv).1 _, by unfold iniS; rw [len_mkS, List.length_take, ← len_tl]; omega⟩
      have few : ∀ ns wl, LaidF n ws z ns wl → ns.length ≤ 20000 := fun ns wl h => by
        have h1 := pigA ns (allPr ns0 z.length) h.nd fun x hx => mem_allPr.mpr ⟨(mem0 _).mpr (h.ok x (.inl hx)).1, (h.ok x (.inl hx)).2.1⟩
        rw [len_allPr] at h1
        have h2 : ns0.length * z.length ≤ 100 * 200 := Nat.mul_le_mul nl0 zl
        omega
      have la0 : LaidF n ws z [] (ys.map (psi n z)) := ⟨List.nodup_nil, fun x hx => .inr (List.mem_map.mpr ⟨x, (ymem x).mpr hx, rfl⟩), fun q h => (by cases h), fun q hq => by
        obtain ⟨x, hx, rfl⟩ := List.mem_map.mp (hq.resolve_left fun h => by cases h)
        have hx := (ymem x).mp hx
        have pn := place_norm M (List.mem_append_left (ws.map taiS) hx)
        have xl : x.length = n - 1 := by
          obtain ⟨v, hv, e⟩ := List.mem_map.mp hx
          have := (bk.each v hv).2
          rw [← e]; unfold iniS; rw [len_mkS, List.length_take, ← len_tl]; omega
        have exy : endS (n - 1) x = x := by refine ext_tl ?_; show (tl x).drop _ = tl x; rw [xl, Nat.sub_self]; rfl
        refine ⟨?_, (pn.lt M).1, x, hx, .here⟩
        show endS (n - 1) x ∈ _
        rw [exy]; exact hx⟩
      refine ⟨fun m σ H' => ∃ (ns wl : List Pr) (as : List Addr) (f : Pr → Addr) (o6 o7 o8 o9 : Option V), σ = [some (.ref b), some (.str z), some (.ref a), some (.ref d), some (.ref L), some (.ref W), o6, o7, o8, o9, none, none] ∧ Same H2 H' ∧ H' L = some (.dT (dtF (fun q => .ref (f q)) ns)) ∧
          (∀ q ∈ ns, RowAt H' (f q) (adjF ws z q) ∧ f q ≠ W) ∧ H' W = some (.lst (as.map V.ref)) ∧ Rl (PrAt H') as wl ∧ LaidF n ws z ns wl ∧ m = (20000 - ns.length) * 101 + wl.length ∧ m ≤ 2100000,
        ⟨_, [], _, as, fun _ => 0, o6, o7, o8, none, rfl, s5, eL5, (fun q h => by cases h), eW5, rl, la0, rfl, by rw [List.length_map]; show (20000 - 0) * 101 + _ ≤ _; omega⟩, fun m σ H' ⟨ns, wl', as', g, o6, o7, o8, o9, eσ, sm, eL, hg, eW, rlw, la, em, mb⟩ => ?_⟩
      subst eσ
      have fewn := few _ _ la
      have WL : W ≠ L := fun e => by rw [e, eL] at eW; cases eW
      refine ⟨_, rfl, by show 0 ≤ sizeLine; decide, fun l nl => ⟨.list (prData wl'), .list [], .lst (.inl (.inl ((same_upd nl) _ _ eW))) (dp_prs (rlw.imp fun _ _ => PrAt.same (same_upd nl))), .lst (.inl (.inl upd_same)) .nil, shaped_prs fun q hq => (lowP q (la.ok q (.inr hq)).1).1, by decide, _, rfl, ?_⟩⟩
      rw [eqv_prs0]
      have sm := sm.trans (same_upd (o := .lst []) nl)
      have eL := (same_upd (o := .lst []) nl) _ _ eL
      have eW := (same_upd (o := .lst []) nl) _ _ eW
      have hg : ∀ q ∈ ns, RowAt (upd H' l (.lst [])) (g q) (adjF ws z q) ∧ g q ≠ W := fun q hq => ⟨(hg q hq).1.same (same_upd nl), (hg q hq).2⟩
      have rlw := rlw.imp fun _ _ => PrAt.same (same_upd (o := .lst []) nl)
      generalize upd H' l (.lst []) = H6 at sm eL eW hg rlw ⊢
      clear nl
      rcases List.eq_nil_or_concat as' with rfl | ⟨as2, ax, rfl⟩
      · have : wl' = [] := by
          cases wl' with
          | nil => rfl
          | cons _ _ => exact rlw.elim
        subst this
        rw [decide_eq_true rfl]
        refine iteF ?_
        exact ⟨_, rfl, q L ns H6 ((s1.trans s2).free nL) ((s1.trans s2).trans sm) ⟨g, eL, fun q hq => (hg q hq).1⟩ la fewn⟩
      · rw [List.concat_eq_append] at eW rlw
        obtain ⟨wl, x, rfl, rlw, rx⟩ := rlw.last
        rw [decide_eq_false (by simp)]
        rw [List.map_append] at eW
        rw [List.length_append, List.length_singleton] at em
        refine iteT ⟨_, fun _ _ h => h, ?_⟩
        refine ⟨_, rfl, .inl ⟨rfl, _, .inl (.inl eW)⟩, W, _, .ref ax, rfl, rfl, eW, by simp, ?_⟩
        rw [show ([ax].map V.ref) = [V.ref ax] from rfl, List.dropLast_concat]
        have ntW := nt_lst eW
        have s7 : Same H2 (upd H6 W (.lst (as2.map V.ref))) := wr sm nW2
        have eL7 : (upd H6 W (.lst (as2.map V.ref))) L = some (.dT (dtF (fun q => .ref (g q)) ns)) := keep_ne eL WL.symm
        have hg7 : ∀ q ∈ ns, RowAt (upd H6 W (.lst (as2.map V.ref))) (g q) (adjF ws z q) ∧ g q ≠ W := fun q hq => ⟨(hg q hq).1.put ntW (hg q hq).2, (hg q hq).2⟩
        have eW7 : (upd H6 W (.lst (as2.map V.ref))) W = some (.lst (as2.map V.ref)) := upd_same
        have rl7 := rlw.imp fun _ _ h => PrAt.put (o := .lst (as2.map V.ref)) h ntW
        have rx7 := rx.put (o := .lst (as2.map V.ref)) ntW
        generalize upd H6 W (.lst (as2.map V.ref)) = H7 at s7 eL7 hg7 eW7 rl7 rx7 ⊢
        obtain ⟨ok1, ok2, ok3⟩ := la.ok x (.inr (List.mem_append_right _ (List.mem_singleton.mpr rfl)))
        refine ⟨ax, _, rfl, .inl (.inl rx7), rfl, _, _, rfl, _, _, rfl, rfl, ?_⟩
        refine ⟨_, rfl, _, rfl, by show 2 ≤ sizeLine; decide, fun u nu => ⟨_, rfl, L, _, rfl, dgetT (q := x) (.inl ((same_upd nu) _ _ eL7)) upd_same, _, rfl, ?_⟩⟩
        rw [dtF_some]
        have s8 := s7.trans (same_upd (o := .tup [V.str x.1, V.int (x.2 : Nat)]) nu)
        have eL8 := (same_upd (o := .tup [V.str x.1, V.int (x.2 : Nat)]) nu) _ _ eL7
        have eW8 := (same_upd (o := .tup [V.str x.1, V.int (x.2 : Nat)]) nu) _ _ eW7
        have hg8 : ∀ q ∈ ns, RowAt (upd H7 u (.tup [V.str x.1, V.int (x.2 : Nat)])) (g q) (adjF ws z q) ∧ g q ≠ W := fun q hq => ⟨(hg7 q hq).1.same (same_upd nu), (hg7 q hq).2⟩
        have rl8 := rl7.imp fun _ _ => PrAt.same (same_upd (o := .tup [V.str x.1, V.int (x.2 : Nat)]) nu)
        generalize upd H7 u (.tup [V.str x.1, V.int (x.2 : Nat)]) = H8 at s8 eL8 eW8 hg8 rl8 ⊢
        clear nu rx7 rl7 hg7 eW7 eL7 s7 rlw hg eW eL sm
        by_cases hx : x ∈ ns
        · rw [decide_eq_true hx]
          refine iteF ?_
          exact ⟨_, by omega, ns, wl, as2, g, _, _, _, _, rfl, s8, eL8, hg8, eW8, rl8, la.old hx, rfl, by omega⟩
        · rw [decide_eq_false hx]
          refine iteT ?_
          have pn : x.1 ∈ ns0 := (mem0 _).mpr ok1
          have eb8 := s8 _ _ (gd2 x.1 pn)
          have ea8 : H8 a = some (.lst (brdL z)) := s8 _ _ (s2 _ _ ea)
          have bwl : (begW ws x.1).length ≤ 100 := Nat.le_trans (List.length_filter_le ..) wsl
          refine ⟨_, rfl, _, rfl, d, .ref (fd x.1), rfl, dget_of (.inl (s8 _ _ ed2)) (dkF_val _ pn), fd x.1, rfl, ⟨_, .inl (.inl eb8)⟩, fun T nT => ?_⟩
          refine lc_list (a := fd x.1) (xs := (begW ws x.1).map V.str) (fun i H' => Same H8 H' ∧ ∃ ts : List Addr, H' T = some (.lst (ts.map V.ref)) ∧ Rl (StAt H') ts (((begW ws x.1).take i).map fun v => (v, (taiS v, rdN (tl z) x.2 (lastc v))))) ⟨same_upd nT, [], upd_same, trivial⟩ (fun i H' _ h => .inl (.inl (h.1 _ _ eb8))) (fun i y H' hi ⟨sm, ts, e, r⟩ => ?_) fun H9 ⟨s9, ts, e9, r9⟩ => ?_
          · obtain ⟨v, hv, rfl⟩ := str_at hi
            have il := (List.getElem?_eq_some_iff.mp hv).1
            have hvm := (mem_begW.mp (List.mem_of_getElem? hv)).1
            have vl := (bk.each v hvm).2
            obtain ⟨c, hc, ec⟩ := las_at (z := v) (by omega)
            have lc : lastc v = c := by unfold lastc; rw [ec]; rfl
            refine ⟨rfl, lc_yes ?_⟩
            refine ⟨_, rfl, _, rfl, _, rfl, v, rfl, big6 (by omega), ?_⟩
            rw [tai_eq' (by omega)]
            refine ⟨_, rfl, _, rfl, _, rfl, _, rfl, _, rfl, v, _, _, rfl, rfl, big6 (by omega), hc, z, a, x.2, c, rfl, zl, sm _ _ ea8, ok2, by show 2 ≤ sizeLine; decide, fun u1 nu1 => ⟨by show 2 ≤ sizeLine; decide, fun u2 nu2 => ?_⟩⟩
            have tsl : ts.length ≤ 100 := by have := r.len; rw [List.length_map, List.length_take] at this; omega
            have st : StAt (upd (upd H' u1 (.tup [V.str (taiS v), V.int (rdN (tl z) x.2 c : Nat)])) u2 (.tup [V.str v, .ref u1])) u2 (v, (taiS v, rdN (tl z) x.2 (lastc v))) := ⟨u1, upd_same, (same_upd nu2) _ _ (by rw [lc]; exact upd_same)⟩
            have s2' := (same_upd (o := .tup [V.str (taiS v), V.int (rdN (tl z) x.2 c : Nat)]) nu1).trans (same_upd (o := .tup [V.str v, .ref u1]) nu2)
            have sm2 := sm.trans s2'
            have e2 := s2' _ _ e
            have r2 := (r.imp fun _ _ => StAt.same s2').snoc st
            generalize upd (upd H' u1 (.tup [V.str (taiS v), V.int (rdN (tl z) x.2 c : Nat)])) u2 (.tup [V.str v, .ref u1]) = H'' at sm2 e2 r2 ⊢
            refine ⟨_, e2, by rw [List.length_map]; exact lt_line (by omega), wr sm2 nT, ts ++ [u2], by rw [upd_same, List.map_append]; rfl, ?_⟩
            rw [take_mem hv, List.map_append]
            exact r2.imp fun _ _ h => StAt.put h (nt_lst e2)
          · rw [List.length_map, List.take_length] at r9
            have r9 : Rl (StAt H9) ts (stepsF ws z x) := r9
            obtain ⟨stl, adl⟩ := adjF_len ws z x
            have tsl := r9.len
            refine ⟨_, rfl, T, rfl, ⟨_, .inl (.inl e9)⟩, fun U nU => ?_⟩
            refine lc_list (a := T) (xs := ts.map V.ref) (fun i H' => Same H9 H' ∧ ∃ us : List Addr, H' U = some (.lst (us.map V.ref)) ∧ us.length ≤ i ∧ Rl (StAt H') us (((stepsF ws z x).take i).filter fun st => decide (st.2.2 < z.length))) ⟨same_upd nU, [], upd_same, Nat.le_refl _, trivial⟩ (fun i H' _ h => .inl (.inl (h.1 _ _ e9))) (fun i y H' hi ⟨sm, us, e, ul, r⟩ => ?_) fun H10 ⟨s10, us, e10, ul, r10⟩ => ?_
            · obtain ⟨ay, hay, rfl⟩ := ref_at hi
              have il := (List.getElem?_eq_some_iff.mp hay).1
              obtain ⟨st, hst, b1, e1, e2⟩ := r9.at hay
              have e1' := sm _ _ e1
              have e2' : H' b1 = _ := sm _ _ e2
              have ft : ((stepsF ws z x).take (i + 1)).filter (fun st => decide (st.2.2 < z.length)) = ((stepsF ws z x).take i).filter (fun st => decide (st.2.2 < z.length)) ++ (if st.2.2 < z.length then [st] else []) := by
                rw [List.take_add_one, hst, List.filter_append]
                congr 1
                by_cases c : st.2.2 < z.length <;> simp [c]
              refine ⟨rfl, ?_⟩
              refine ⟨_, rfl, ay, _, _, _, rfl, rfl, .inl (.inl e1'), rfl, b1, _, _, _, rfl, rfl, .inl (.inl e2'), rfl, _, rfl, z, rfl, big6 (by omega), _, _, rfl, rfl, _, rfl, ?_⟩
              refine ite2 (fun c => ?_) fun c => ?_
              · have c : st.2.2 < z.length := by have := of_decide_eq_true c; omega
                rw [if_pos c] at ft
                refine ⟨_, rfl, _, e, by rw [List.length_map]; exact lt_line (by omega), wr sm nU, us ++ [ay], by rw [upd_same, List.map_append]; rfl, by rw [List.length_append]; exact Nat.add_le_add_right ul 1, ?_⟩
                rw [ft]
                exact (r.snoc (show StAt H' ay st from ⟨b1, e1', e2'⟩)).imp fun _ _ h => StAt.put h (nt_lst e)
              · have c : ¬ st.2.2 < z.length := fun h => c (decide_eq_true (by omega))
                rw [if_neg c, List.append_nil] at ft
                refine ⟨sm, us, e, by omega, ?_⟩
                rw [ft]; exact r
            · rw [List.length_map, tsl, List.take_length] at r10
              have r10 : Rl (StAt H10) us (adjF ws z x) := r10
              have usl := r10.len
              have nU8 : H8 U = none := s9.free nU
              have UL : U ≠ L := (ne_of_none eL8 nU8).symm
              have UW : U ≠ W := (ne_of_none eW8 nU8).symm
              have s810 := s9.trans s10
              have eL10 := s810 _ _ eL8
              have eW10 := s810 _ _ eW8
              have ntL := nt_dT eL10
              refine ⟨_, rfl, _, rfl, _, rfl, by show 2 ≤ sizeLine; decide, fun u1 nu1 => ⟨L, _, rfl, DPut.t (k := keyP x) ((same_upd nu1) _ _ eL10) upd_same (by rw [dtF_len]; exact lt_line (by omega)), ?_⟩⟩
              obtain ⟨g', g1, g2⟩ : ∃ g' : Pr → Addr, g' x = U ∧ ∀ y, y ≠ x → g' y = g y := ⟨fun y => if y = x then U else g y, if_pos rfl, fun y h => if_neg h⟩
              rw [dtF_put hx (congrArg V.ref g1) fun y hy => congrArg V.ref (g2 y hy)]
              have ntL1 : NT (upd H10 u1 (.tup [V.str x.1, V.int (x.2 : Nat)])) L := nt_dT ((same_upd nu1) _ _ eL10)
              have sU := same_upd (o := .tup [V.str x.1, V.int (x.2 : Nat)]) nu1
              have eL11 : (upd (upd H10 u1 (.tup [V.str x.1, V.int (x.2 : Nat)])) L (.dT (dtF (fun q => .ref (g' q)) (ns ++ [x])))) L = some (.dT (dtF (fun q => .ref (g' q)) (ns ++ [x]))) := upd_same
              have eW11 : (upd (upd H10 u1 (.tup [V.str x.1, V.int (x.2 : Nat)])) L (.dT (dtF (fun q => .ref (g' q)) (ns ++ [x])))) W = some (.lst (as2.map V.ref)) := keep_ne (sU _ _ eW10) WL
              have rowU : RowAt (upd (upd H10 u1 (.tup [V.str x.1, V.int (x.2 : Nat)])) L (.dT (dtF (fun q => .ref (g' q)) (ns ++ [x])))) U (adjF ws z x) := (RowAt.same sU ⟨us, e10, r10⟩).put ntL1 UL
              have hg11 : ∀ q ∈ ns ++ [x], RowAt (upd (upd H10 u1 (.tup [V.str x.1, V.int (x.2 : Nat)])) L (.dT (dtF (fun q => .ref (g' q)) (ns ++ [x])))) (g' q) (adjF ws z q) ∧ g' q ≠ W := fun q hq => by
                by_cases c : q = x
                · rw [c, g1]; exact ⟨rowU, UW⟩
                · have hq' := (List.mem_append.mp hq).resolve_right fun h => c (List.mem_singleton.mp h)
                  rw [g2 q c]
                  obtain ⟨h5, h6⟩ := hg8 q hq'
                  have ne : g q ≠ L := fun h => by
                    obtain ⟨_, e, _⟩ := h5
                    rw [h, eL8] at e; cases e
                  exact ⟨((h5.same s810).same sU).put ntL1 ne, h6⟩
              have rl11 := (rl8.imp fun _ _ h => PrAt.put (o := .dT (dtF (fun q => .ref (g' q)) (ns ++ [x]))) (PrAt.same sU (PrAt.same s810 h)) ntL1)
              have s11 : Same H2 (upd (upd H10 u1 (.tup [V.str x.1, V.int (x.2 : Nat)])) L (.dT (dtF (fun q => .ref (g' q)) (ns ++ [x])))) := wr ((s8.trans s810).trans sU) nL
              generalize upd (upd H10 u1 (.tup [V.str x.1, V.int (x.2 : Nat)])) L (.dT (dtF (fun q => .ref (g' q)) (ns ++ [x]))) = H11 at eL11 eW11 rowU hg11 rl11 s11 ⊢
              have la' := la.new jn hx
              have few' := few _ _ la'
              rw [List.length_append, List.length_singleton] at few'
              refine ⟨_, rfl, .inl ⟨rfl, _, .inl (.inl eW11)⟩, _, rfl, _, rfl, _, rfl, by show 2 ≤ sizeLine; decide, fun u2 nu2 => ⟨L, .ref U, rfl, ?_, ?_⟩⟩
              · have := dgetT' (H := upd H11 u2 (.tup [V.str x.1, V.int (x.2 : Nat)])) (q := x) (.inl ((same_upd nu2) _ _ eL11)) (show PrAt _ u2 x from upd_same) (List.mem_append_right _ (List.mem_singleton.mpr rfl))
                rwa [g1] at this
              have sV := same_upd (o := .tup [V.str x.1, V.int (x.2 : Nat)]) nu2
              obtain ⟨us', eU12, r12⟩ := rowU.same sV
              have eL12 := sV _ _ eL11
              have eW12 := sV _ _ eW11
              have hg12 : ∀ q ∈ ns ++ [x], RowAt (upd H11 u2 (.tup [V.str x.1, V.int (x.2 : Nat)])) (g' q) (adjF ws z q) ∧ g' q ≠ W := fun q hq => ⟨(hg11 q hq).1.same sV, (hg11 q hq).2⟩
              have rl12 := rl11.imp fun _ _ => PrAt.same sV
              have s12 := s11.trans sV
              generalize upd H11 u2 (.tup [V.str x.1, V.int (x.2 : Nat)]) = H12 at eU12 r12 eL12 eW12 hg12 rl12 s12 ⊢
              have usl' := r12.len
              refine ⟨U, rfl, ⟨_, .inl (.inl eU12)⟩, fun X nX => ?_⟩
              refine lc_list (a := U) (xs := us'.map V.ref) (fun i H' => Same H12 H' ∧ ∃ cs : List Addr, H' X = some (.lst (cs.map V.ref)) ∧ Rl (PrAt H') cs (((adjF ws z x).take i).map (·.2))) ⟨same_upd nX, [], upd_same, trivial⟩ (fun i H' _ h => .inl (.inl (h.1 _ _ eU12))) (fun i y H' hi ⟨sm, cs, e, r⟩ => ?_) fun H13 ⟨s13, cs, e13, r13⟩ => ?_
              · obtain ⟨ay, hay, rfl⟩ := ref_at hi
                have il := (List.getElem?_eq_some_iff.mp hay).1
                obtain ⟨st, hst, b1, e1, e2⟩ := r12.at hay
                have e1' := sm _ _ e1
                have e2' : PrAt H' b1 st.2 := sm _ _ e2
                have csl := r.len
                rw [List.length_map, List.length_take] at csl
                refine ⟨rfl, lc_yes ?_⟩
                refine ⟨_, rfl, ay, _, _, _, rfl, rfl, .inl (.inl e1'), rfl, _, e, by rw [List.length_map]; exact lt_line (by omega), wr sm nX, cs ++ [b1], by rw [upd_same, List.map_append]; rfl, ?_⟩
                rw [List.take_add_one, hst, List.map_append]
                exact (r.snoc e2').imp fun _ _ h => PrAt.put h (nt_lst e)
              · rw [List.length_map, usl', List.take_length] at r13
                have csl := r13.len
                rw [List.length_map] at csl
                have asl := rl12.len
                have eW13 := s13 _ _ eW12
                have ntW13 := nt_lst eW13
                refine ⟨W, X, _, _, rfl, rfl, eW13, e13, by rw [List.length_map, List.length_map]; exact Nat.le_trans (show as2.length + cs.length ≤ 2200000 by omega) (by decide), ?_⟩
                refine ⟨_, ?_, ns ++ [x], wl ++ (adjF ws z x).map (·.2), as2 ++ cs, g', _, _, _, _, rfl, wr (s12.trans s13) nW2, keep_ne (s13 _ _ eL12) WL.symm, fun q hq => ⟨((hg12 q hq).1.same s13).put ntW13 (hg12 q hq).2, (hg12 q hq).2⟩, by rw [upd_same, List.map_append], ?_, la', rfl, ?_⟩
                · rw [em, List.length_append, List.length_append, List.length_singleton, List.length_map]; omega
                · exact (Rl.app r13 (rl12.imp fun _ _ => PrAt.same s13)).imp fun _ _ h => PrAt.put h ntW13
                · rw [List.length_append, List.length_append, List.length_singleton, List.length_map]; omega
end
end Tx
set_option Elab.async false
set_option linter.all false
set_option maxRecDepth 100000
set_option maxHeartbeats 2000000
namespace Tx
open PySem PySem.Spec PyProof.Rows L2 TL RZ
/-- all rows, of a dict that may be locked -/
def GRr (H : Hp) (L : Addr) (ns : List Pr) (adj : Pr → List (Str × Pr)) : Prop := ∃ f : Pr → Addr, Rd H L (.dT (dtF (fun q => .ref (f q)) ns)) ∧ ∀ q ∈ ns, RowAt H (f q) (adj q)
theorem GR.r {H : Hp} {L : Addr} {ns : List Pr} {adj : Pr → List (Str × Pr)} (h : GR H L ns adj) : GRr H L ns adj := let ⟨f, e, g⟩ := h; ⟨f, .inl e, g⟩
theorem Rd.same' {H H' : Hp} {a : Addr} {u : HO} (s : Same H H') (h : Rd H a u) : Rd H' a u := by
  rcases h with h | ⟨o, h⟩
  · exact .inl (s _ _ h)
  · exact .inr ⟨o, s _ _ h⟩
theorem GRr.same {H H' : Hp} {L : Addr} {ns : List Pr} {adj : Pr → List (Str × Pr)} (s : Same H H') (h : GRr H L ns adj) : GRr H' L ns adj := let ⟨f, e, g⟩ := h; ⟨f, Rd.same' s e, fun q hq => (g q hq).same s⟩
/-- how far one came -/
structure Flo (adj : Pr → List (Str × Pr)) (start : Pr) (ks wl : List Pr) (x : Option Pr) : Prop where
  nd : ks.Nodup
  st : start ∈ ks
  rq : ∀ q ∈ ks, RQ adj start q
  wk : ∀ q ∈ wl, q ∈ ks
  cl : ∀ q ∈ ks, q ∈ wl ∨ x = some q ∨ ∀ s ∈ adj q, s.2 ∈ ks
theorem Flo.all {adj : Pr → List (Str × Pr)} {start : Pr} {ks : List Pr} (h : Flo adj start ks [] none) (q : Pr) : q ∈ ks ↔ RQ adj start q := by
  refine ⟨h.rq q, fun r => ?_⟩
  induction r with
  | here => exact h.st
  | step _ hv ih =>
    rcases h.cl _ ih with c | c | c
    · cases c
    · cases c
    · exact c _ hv
section
variable {P : Program} {w : World} {K : PySem.W.Frag} {mg : Str → Option Value} {base : Heap}
abbrev st_law_from : Stmt := topS 49
theorem sc_law_from : FnScope ["rows", "start", "found", "waiting", "window", "pair"] ["rows", "start"] (defScope st_law_from) := ⟨rfl, rfl, rfl, by decide +kernel, rfl, by decide +kernel, by decide +kernel⟩
theorem pl_law_from : PlainB "_law_from" st_law_from ["rows", "start"] := fun _ _ _ _ _ _ us hl => match us, hl with | [_, _], _ => rfl
def spFrom : Sp := fun vs H Q _ => ∃ (R s : Addr) (ns : List Pr) (adj : Pr → List (Str × Pr)) (start : Pr), vs = [.ref R, .ref s] ∧ GRr H R ns adj ∧ PrAt H s start ∧ start ∈ ns ∧ (∀ q ∈ ns, ∀ st ∈ adj q, st.2 ∈ ns) ∧ ns.length ≤ 20000 ∧ (∀ q ∈ ns, Low q.1) ∧
  ∀ D ks H', H D = none → Same H H' → H' D = some (.dT (dtF (fun _ => .bl true) ks)) → ks.Nodup → (∀ q, q ∈ ks ↔ RQ adj start q) → Q (.ref D) H'
theorem ok_law_from (T : Top K mg "_law_from" st_law_from) (B : Bt mg) : Dn P w K mg base 1 "_law_from" st_law_from ["rows", "start"] spFrom := by
  refine dn_of T sc_law_from pl_law_from (fun vs H Q E h => ?_) fun f cdv A outer s H vs Q E hr h => ?_
  · obtain ⟨_, _, _, _, _, rfl, _⟩ := h; rfl
  · obtain ⟨R, s0, ns, adj, start, rfl, gr, es, hs, clo, nsl, low, q⟩ := h
    refine ⟨_, (pss_cons (ps_par (i := 2) (j := 3) (by rfl) sc_law_from.nd rfl rfl (by decide) rfl rfl (pa_cons (pe_disp1T (hu_of hr) (pv 1) pe_bl) (pa_cons (pe_lst (pa_cons (pv 1) pa_nil)) pa_nil)) (by rfl))
      (pss_cons (ps_while PassesOwn.never (pt_cmpR (neDK K rfl hr.units) (pv 3) (pe_lst pa_nil) (nomark _)) (pss_one (ps_for PassesOwn.never rfl (pi_list (pe_dget (hu_of hr) (pv 0) (pe_bm0 PySem.F.plainAttrs_list PySem.F.slot_list_pop PySem.F.type_list_pop mt_pop (pv 3)) (fun _ _ => rfl))) (pg_tupK K rfl rfl (pgs_cons (pg_name (i := 4) sc_law_from.nd rfl (.inl rfl)) (pgs_cons (pg_name (i := 5) sc_law_from.nd rfl (.inl rfl)) pgs_nil))) (pss_one (ps_if (pt_cmp (pc_dnotin (hu_of hr) (pv 5) (pv 2))) (pss_cons (ps_dput (hu_of hr) (pv 2) (pv 5) pe_bl rfl)
      (pss_one (ps_expr (pe_bm PySem.F.plainAttrs_list PySem.F.slot_list_append PySem.F.type_list_append mt_append (pv 3) (pa_cons (pv 5) pa_nil))))) pss_nil)))))
      (pss_one (ps_ret (pv 2))))), ?_⟩
    refine fun D nD => ⟨_, rfl, _, _, rfl, upd_same, s0, keyP start, rfl, es.same (same_upd nD), ?_⟩
    refine ⟨_, rfl, by show 1 ≤ sizeLine; decide, fun W nW => ⟨_, _, rfl, ?_⟩⟩
    have s1 : Same H (upd (upd (upd H D (.dT [])) D (.dT [(keyP start, V.bl true)])) W (.lst [.ref s0])) := (wr (same_upd nD) nD).trans (same_upd nW)
    have eD1 : (upd (upd (upd H D (.dT [])) D (.dT [(keyP start, V.bl true)])) W (.lst [.ref s0])) D = some (.dT (dtF (fun _ => .bl true) [start])) := (same_upd nW) _ _ upd_same
    have eW1 : (upd (upd (upd H D (.dT [])) D (.dT [(keyP start, V.bl true)])) W (.lst [.ref s0])) W = some (.lst ([s0].map V.ref)) := upd_same
    have nWH : H W = none := (wr (o := .dT [(keyP start, V.bl true)]) (same_upd (o := .dT []) nD) nD).free nW
    generalize upd (upd (upd H D (.dT [])) D (.dT [(keyP start, V.bl true)])) W (.lst [.ref s0]) = H1 at s1 eD1 eW1 ⊢
    have WD : W ≠ D := fun e => by rw [e, eD1] at eW1; cases eW1
    have inN : ∀ q, RQ adj start q → q ∈ ns := fun q r => by
      induction r with
      | here => exact hs
      | step _ hv ih => exact clo _ ih _ hv
    have few : ∀ ks wl x, Flo adj start ks wl x → ks.length ≤ ns.length := fun ks wl x h => pigA ks ns h.nd fun q hq => inN q (h.rq q hq)
    obtain ⟨g, eR0, hg0⟩ := gr
    refine ⟨fun m σ H' => ∃ (ks wl : List Pr) (as : List Addr) (o4 o5 : Option V), σ = [some (.ref R), some (.ref s0), some (.ref D), some (.ref W), o4, o5] ∧ Same H H' ∧ H' D = some (.dT (dtF (fun _ => .bl true) ks)) ∧ H' W = some (.lst (as.map V.ref)) ∧ Rl (PrAt H') as wl ∧ Flo adj start ks wl none ∧ m = (20000 - ks.length) * 2 + wl.length ∧ m ≤ 40000,
      ⟨_, [start], [start], [s0], none, none, rfl, s1, eD1, eW1, ⟨es.same s1, trivial⟩, ⟨List.nodup_cons.mpr ⟨by simp, List.nodup_nil⟩, List.mem_singleton.mpr rfl, fun q hq => by rw [List.mem_singleton.mp hq]; exact .here, fun q hq => hq, fun q hq => .inl hq⟩, rfl, by show (20000 - 1) * 2 + 1 ≤ _; omega⟩, fun m σ H' ⟨ks, wl', as', o4, o5, eσ, sm, eD, eW, rlw, la, em, mb⟩ => ?_⟩
    subst eσ
    have fewn := few _ _ _ la
    have inNs : ∀ q ∈ ks, q ∈ ns := fun q hq => inN q (la.rq q hq)
    refine ⟨_, rfl, by show 0 ≤ sizeLine; decide, fun l nl => ⟨.list (prData wl'), .list [], .lst (.inl (.inl ((same_upd nl) _ _ eW))) (dp_prs (rlw.imp fun _ _ => PrAt.same (same_upd nl))), .lst (.inl (.inl upd_same)) .nil, shaped_prs fun q hq => low q (inNs q (la.wk q hq)), by decide, _, rfl, ?_⟩⟩
    rw [eqv_prs0]
    have sm := sm.trans (same_upd (o := .lst []) nl)
    have eD := (same_upd (o := .lst []) nl) _ _ eD
    have eW := (same_upd (o := .lst []) nl) _ _ eW
    have rlw := rlw.imp fun _ _ => PrAt.same (same_upd (o := .lst []) nl)
    generalize upd H' l (.lst []) = H6 at sm eD eW rlw ⊢
    clear nl
    rcases List.eq_nil_or_concat as' with rfl | ⟨as2, ax, rfl⟩
    · have : wl' = [] := by
        cases wl' with
        | nil => rfl
        | cons _ _ => exact rlw.elim
      subst this
      rw [decide_eq_true rfl]
      refine iteF ?_
      exact ⟨_, rfl, q D ks H6 nD sm eD la.nd la.all⟩
    · rw [List.concat_eq_append] at eW rlw
      obtain ⟨wl, x, rfl, rlw, rx⟩ := rlw.last
      rw [decide_eq_false (by simp)]
      rw [List.map_append] at eW
      rw [List.length_append, List.length_singleton] at em
      refine iteT ⟨_, fun _ _ h => h, ?_⟩
      refine ⟨_, rfl, _, rfl, .inl ⟨rfl, _, .inl (.inl eW)⟩, W, _, .ref ax, rfl, rfl, eW, by simp, ?_⟩
      rw [show ([ax].map V.ref) = [V.ref ax] from rfl, List.dropLast_concat]
      have ntW := nt_lst eW
      have s7 : Same H (upd H6 W (.lst (as2.map V.ref))) := wr sm nWH
      have eD7 : (upd H6 W (.lst (as2.map V.ref))) D = some (.dT (dtF (fun _ => .bl true) ks)) := keep_ne eD WD.symm
      have eW7 : (upd H6 W (.lst (as2.map V.ref))) W = some (.lst (as2.map V.ref)) := upd_same
      have rl7 := rlw.imp fun _ _ h => PrAt.put (o := .lst (as2.map V.ref)) h ntW
      have rx7 := rx.put (o := .lst (as2.map V.ref)) ntW
      generalize upd H6 W (.lst (as2.map V.ref)) = H7 at s7 eD7 eW7 rl7 rx7 ⊢
      have hxk : x ∈ ks := la.wk x (List.mem_append_right _ (List.mem_singleton.mpr rfl))
      have hxn := inNs x hxk
      obtain ⟨bs, ebs, rbs⟩ := hg0 x hxn
      have bsl := rbs.len
      refine ⟨R, .ref (g x), rfl, dgetT' (Rd.same' s7 eR0) rx7 hxn, g x, rfl, ⟨_, .inl (.inl (s7 _ _ ebs))⟩, ?_⟩
      have la0 : Flo adj start ks wl (some x) := ⟨la.nd, la.st, la.rq, fun q hq => la.wk q (List.mem_append_left _ hq), fun q hq => by
        rcases la.cl q hq with c | c | c
        · rcases List.mem_append.mp c with c | c
          · exact .inl c
          · rw [List.mem_singleton.mp c]; exact .inr (.inl rfl)
        · cases c
        · exact .inr (.inr c)⟩
      refine for_list (K := K) (a := g x) (xs := bs.map V.ref) (fun i σ H' => ∃ (ks wl : List Pr) (as : List Addr) (o4 o5 : Option V), σ = [some (.ref R), some (.ref s0), some (.ref D), some (.ref W), o4, o5] ∧ Same H H' ∧ H' D = some (.dT (dtF (fun _ => .bl true) ks)) ∧ H' W = some (.lst (as.map V.ref)) ∧ Rl (PrAt H') as wl ∧ Flo adj start ks wl (some x) ∧ (∀ st ∈ (adj x).take i, st.2 ∈ ks) ∧ (20000 - ks.length) * 2 + wl.length < m)
        ⟨ks, wl, as2, o4, o5, rfl, s7, eD7, eW7, rl7, la0, (fun st h => by rw [List.take_zero] at h; cases h), by omega⟩ (fun _ _ _ _ ⟨_, _, _, _, _, _, h, _⟩ => .inl (.inl (h _ _ ebs))) (fun i y σ H8 hi ⟨ks8, wl8, as8, o4, o5, eσ, s8, eD8, eW8, rl8, la8, tk8, ms8⟩ => ?_) fun σ H8 ⟨ks8, wl8, as8, o4, o5, eσ, s8, eD8, eW8, rl8, la8, tk8, ms8⟩ => ?_
      · subst eσ
        obtain ⟨ay, hay, rfl⟩ := ref_at hi
        obtain ⟨st, hst, b1, e1, e2⟩ := rbs.at hay
        have e1' := s8 _ _ e1
        have e2' : PrAt H8 b1 st.2 := s8 _ _ e2
        have stm := List.mem_of_getElem? hst
        have f8 := few _ _ _ la8
        refine ⟨ay, _, rfl, .inl (.inl e1'), rfl, _, _, rfl, _, _, rfl, rfl, ?_⟩
        refine ⟨_, rfl, _, rfl, D, _, rfl, dgetT (.inl eD8) e2', _, rfl, ?_⟩
        rw [dtF_some]
        have tkn : ∀ (ks' : List Pr), (∀ q ∈ ks8, q ∈ ks') → st.2 ∈ ks' → ∀ s ∈ (adj x).take (i + 1), s.2 ∈ ks' := fun ks' h1 h2 s hs => by
          rw [List.take_add_one, hst] at hs
          rcases List.mem_append.mp hs with hs | hs
          · exact h1 _ (tk8 s hs)
          · rw [List.mem_singleton.mp hs]; exact h2
        by_cases c : st.2 ∈ ks8
        · rw [decide_eq_true c]
          refine iteF ?_
          exact ⟨ks8, wl8, as8, _, _, rfl, s8, eD8, eW8, rl8, la8, tkn ks8 (fun q h => h) c, ms8⟩
        · rw [decide_eq_false c]
          refine iteT ?_
          refine ⟨_, rfl, _, rfl, D, _, rfl, DPut.t (k := keyP st.2) eD8 e2' (by rw [dtF_len]; exact lt_line (by omega)), ?_⟩
          rw [dtF_put (f' := fun _ => .bl true) c rfl fun _ _ => rfl]
          have ntD := nt_dT eD8
          have eD9 : (upd H8 D (.dT (dtF (fun _ => .bl true) (ks8 ++ [st.2])))) D = some (.dT (dtF (fun _ => .bl true) (ks8 ++ [st.2]))) := upd_same
          have eW9 : (upd H8 D (.dT (dtF (fun _ => .bl true) (ks8 ++ [st.2])))) W = some (.lst (as8.map V.ref)) := keep_ne eW8 WD
          have e29 := e2'.put (o := .dT (dtF (fun _ => .bl true) (ks8 ++ [st.2]))) ntD
          have rl9 := rl8.imp fun _ _ h => PrAt.put (o := .dT (dtF (fun _ => .bl true) (ks8 ++ [st.2]))) h ntD
          have s9 : Same H (upd H8 D (.dT (dtF (fun _ => .bl true) (ks8 ++ [st.2])))) := wr s8 nD
          generalize upd H8 D (.dT (dtF (fun _ => .bl true) (ks8 ++ [st.2]))) = H9 at eD9 eW9 e29 rl9 s9 ⊢
          have asl := rl9.len
          have la9 : Flo adj start (ks8 ++ [st.2]) (wl8 ++ [st.2]) (some x) := ⟨List.nodup_append.mpr ⟨la8.nd, List.nodup_cons.mpr ⟨by simp, List.nodup_nil⟩, fun a ha b hb e => c (by rw [← List.mem_singleton.mp hb, ← e]; exact ha)⟩, List.mem_append_left _ la8.st, fun q hq => by
            rcases List.mem_append.mp hq with hq | hq
            · exact la8.rq q hq
            · rw [List.mem_singleton.mp hq]; exact .step (la.rq x hxk) stm, fun q hq => by
            rcases List.mem_append.mp hq with hq | hq
            · exact List.mem_append_left _ (la8.wk q hq)
            · exact List.mem_append_right _ hq, fun q hq => by
            rcases List.mem_append.mp hq with hq | hq
            · rcases la8.cl q hq with c | c | c
              · exact .inl (List.mem_append_left _ c)
              · exact .inr (.inl c)
              · exact .inr (.inr fun s hs => List.mem_append_left _ (c s hs))
            · exact .inl (List.mem_append_right _ hq)⟩
          have f9 := few _ _ _ la9
          rw [List.length_append, List.length_singleton] at f9
          refine ⟨_, rfl, .inl ⟨rfl, _, .inl (.inl eW9)⟩, _, rfl, W, _, _, rfl, rfl, eW9, by rw [List.length_map]; exact lt_line (by omega), ?_⟩
          refine ⟨ks8 ++ [st.2], wl8 ++ [st.2], as8 ++ [b1], _, _, rfl, wr s9 nWH, keep_ne eD9 WD.symm, by rw [upd_same, List.map_append]; rfl, (rl9.snoc e29).imp fun _ _ h => PrAt.put h (nt_lst eW9), la9, tkn _ (fun q h => List.mem_append_left _ h) (List.mem_append_right _ (List.mem_singleton.mpr rfl)), ?_⟩
          rw [List.length_append, List.length_append, List.length_singleton]; first | omega | (rw [List.length_singleton]; omega)
      · subst eσ
        rw [List.length_map, bsl, List.take_length] at tk8
        refine ⟨_, ms8, ks8, wl8, as8, _, _, rfl, s8, eD8, eW8, rl8, ⟨la8.nd, la8.st, la8.rq, la8.wk, fun q hq => ?_⟩, rfl, by omega⟩
        rcases la8.cl q hq with c | c | c
        · exact .inl c
        · injection c with c
          subst c
          exact .inr (.inr tk8)
        · exact .inr (.inr c)
end
end Tx

set_option Elab.async false
set_option linter.all false
set_option maxRecDepth 100000
set_option maxHeartbeats 4000000
namespace Tx
open PySem PySem.Spec PyProof.Rows L2 TL RZ
theorem lock_same {H H' : Hp} {R : Addr} {u w : HO} (e : H R = some u) (s : Same (upd H R w) H') : Same H (upd H' R u) := fun a o h => by
  by_cases c : a = R
  · subst c
    rw [e] at h
    rw [upd_same, ← h]
  · rw [upd_ne c]; exact s a o (by rw [upd_ne c]; exact h)
theorem lock_up {H H' : Hp} {R : Addr} {w : HO} (s : Same H H') : Same (upd H R w) (upd H' R w) := fun a o h => by
  by_cases c : a = R
  · subst c; rw [upd_same] at h ⊢; exact h
  · rw [upd_ne c] at h ⊢; exact s a o h
theorem RowAt.lock {H : Hp} {R l : Addr} {sts : List (Str × Pr)} {u : List (List Key × V)} {w : HO} (e : H R = some (.dT u)) (h : RowAt H l sts) : RowAt (upd H R w) l sts := h.put (nt_dT e) fun c => by
  obtain ⟨_, e', _⟩ := h
  rw [c, e] at e'; cases e'
theorem GRr.lock {H : Hp} {R : Addr} {ns : List Pr} {adj : Pr → List (Str × Pr)} {od : Obj} {f : Pr → Addr} (e : H R = some (.dT (dtF (fun q => .ref (f q)) ns))) (g : ∀ q ∈ ns, RowAt H (f q) (adj q)) : GRr (upd H R (.frz od (.dT (dtF (fun q => .ref (f q)) ns)))) R ns adj :=
  ⟨f, .inr ⟨od, upd_same⟩, fun q hq => (g q hq).lock e⟩
theorem take_mem' {A : Type} {xs : List A} {i : Nat} {x : A} (h : xs[i]? = some x) : xs.take (i + 1) = xs.take i ++ [x] := by rw [List.take_add_one, h]; rfl
/-! ### the links read the other way -/
def edgesF (adj : Pr → List (Str × Pr)) (ns : List Pr) : List (Pr × (Str × Pr)) := ns.flatMap fun p => (adj p).map fun st => (p, st)
def contF (es : List (Pr × (Str × Pr))) (q : Pr) : List (Str × Pr) := (es.filter fun e => decide (e.2.2 = q)).map fun e => (e.2.1, e.1)
theorem contF_snoc (es : List (Pr × (Str × Pr))) (p : Pr) (st : Str × Pr) (q : Pr) : contF (es ++ [(p, st)]) q = contF es q ++ (if st.2 = q then [(st.1, p)] else []) := by
  unfold contF
  rw [List.filter_append, List.map_append]
  congr 1
  by_cases c : st.2 = q <;> simp [c]
theorem mem_contF {adj : Pr → List (Str × Pr)} {ns : List Pr} {q : Pr} {st : Str × Pr} : st ∈ contF (edgesF adj ns) q ↔ st.2 ∈ ns ∧ (st.1, q) ∈ adj st.2 := by
  unfold contF edgesF
  rw [List.mem_map]
  constructor
  · rintro ⟨e, he, rfl⟩
    obtain ⟨h1, h2⟩ := List.mem_filter.mp he
    obtain ⟨p, hp, h3⟩ := List.mem_flatMap.mp h1
    obtain ⟨s, hs, rfl⟩ := List.mem_map.mp h3
    have h2 : s.2 = q := of_decide_eq_true h2
    refine ⟨hp, ?_⟩
    show (s.1, q) ∈ adj p
    rw [← h2]; exact hs
  · rintro ⟨h1, h2⟩
    exact ⟨(st.2, (st.1, q)), List.mem_filter.mpr ⟨List.mem_flatMap.mpr ⟨st.2, h1, List.mem_map.mpr ⟨_, h2, rfl⟩⟩, by simp⟩, rfl⟩
theorem edges_take {adj : Pr → List (Str × Pr)} {ns : List Pr} {i : Nat} {p : Pr} (h : ns[i]? = some p) : edgesF adj (ns.take (i + 1)) = edgesF adj (ns.take i) ++ (adj p).map fun st => (p, st) := by
  unfold edgesF
  rw [List.take_add_one, h, List.flatMap_append]
  simp
theorem rq_back {adj : Pr → List (Str × Pr)} {ns : List Pr} {s q : Pr} (clo : ∀ x ∈ ns, ∀ st ∈ adj x, st.2 ∈ ns) (hs : s ∈ ns) : RQ (contF (edgesF adj ns)) s q ↔ q ∈ ns ∧ RQ adj q s := by
  constructor
  · intro h
    induction h with
    | here => exact ⟨hs, .here⟩
    | @step u st _ hv ih =>
      obtain ⟨h1, h2⟩ := mem_contF.mp hv
      exact ⟨h1, (RQ.step (st := (st.1, u)) .here h2).trans ih.2⟩
  · rintro ⟨hq, h⟩
    induction h with
    | here => exact .here
    | @step u st r hv ih =>
      have hu : u ∈ ns := by
        clear ih hs hv
        induction r with
        | here => exact hq
        | step _ hv ih => exact clo _ ih _ hv
      have h2 : (st.1, u) ∈ contF (edgesF adj ns) st.2 := mem_contF.mpr ⟨hu, hv⟩
      exact (RQ.step (st := (st.1, u)) .here h2).trans (ih hu)
/-- what the law finds from one pair and the start behind it -/
def FreeAt (adj : Pr → List (Str × Pr)) (ws : List Str) (q s : Pr) : Prop := RQ adj s q ∧ ∀ v ∈ ws, ∃ one, RQ adj s one ∧ RQ adj one s ∧ ∃ s2 ∈ adj one, s2.1 = v ∧ RQ adj s2.2 s
/-- the starts of a row -/
def startsF (w0 : Str) (sts : List (Str × Pr)) : List Pr := (sts.filter fun st => decide (st.1 = w0)).map (·.2)
theorem free_iff {ws : List Str} {z w0 : Str} {ns : List Pr} : FreeK ws z w0 ns ↔ ∃ q ∈ ns, ∃ s ∈ startsF w0 (adjF ws z q), FreeAt (adjF ws z) ws q s := by
  constructor
  · rintro ⟨q, hq, st, hst, e, r, a⟩
    exact ⟨q, hq, st.2, List.mem_map.mpr ⟨st, List.mem_filter.mpr ⟨hst, decide_eq_true e⟩, rfl⟩, r, a⟩
  · rintro ⟨q, hq, s, hs, r, a⟩
    obtain ⟨st, h1, rfl⟩ := List.mem_map.mp hs
    obtain ⟨h2, h3⟩ := List.mem_filter.mp h1
    exact ⟨q, hq, st, h2, of_decide_eq_true h3, r, a⟩
theorem dtAt {f : Pr → V} {ks : List Pr} {i : Nat} {k : List Key} {v : V} (h : (dtF f ks)[i]? = some (k, v)) : ∃ q, ks[i]? = some q ∧ k = keyP q ∧ v = f q := by
  unfold dtF at h
  rw [List.getElem?_map] at h
  cases e : ks[i]? with
  | none => rw [e] at h; cases h
  | some q => rw [e] at h; injection h with h; exact ⟨q, rfl, (congrArg Prod.fst h).symm, (congrArg Prod.snd h).symm⟩
theorem edges_len {adj : Pr → List (Str × Pr)} {m : Nat} : ∀ {ns : List Pr}, (∀ q ∈ ns, (adj q).length ≤ m) → (edgesF adj ns).length ≤ ns.length * m
  | [], _ => Nat.zero_le _
  | a :: ns, h => by
    have ih := edges_len (ns := ns) fun q hq => h q (List.mem_cons_of_mem _ hq)
    have := h a (List.mem_cons_self ..)
    unfold edgesF at ih ⊢
    rw [List.flatMap_cons, List.length_append, List.length_map, List.length_cons, Nat.succ_mul]; omega
theorem contF_len (es : List (Pr × (Str × Pr))) (q : Pr) : (contF es q).length ≤ es.length := by unfold contF; rw [List.length_map]; exact List.length_filter_le ..
section
variable {P : Program} {w : World} {K : PySem.W.Frag} {mg : Str → Option Value} {base : Heap}
abbrev st_law_is_free : Stmt := topS 50
theorem sc_law_is_free : FnScope ["book", "piece", "rows", "back", "pair", "window", "other", "start", "there", "here", "found", "one"] ["book", "piece"] (defScope st_law_is_free) := ⟨rfl, rfl, rfl, by decide +kernel, rfl, by decide +kernel, by decide +kernel⟩
theorem pl_law_is_free : PlainB "_law_is_free" st_law_is_free ["book", "piece"] := fun _ _ _ _ _ _ us hl => match us, hl with | [_, _], _ => rfl
def spFree : Sp := fun vs H Q _ => ∃ (b : Addr) (n : Nat) (ws : List Str) (z w0 : Str), vs = [.ref b, .str z] ∧ BookAt H b n ws ∧ Book n ws ∧ ws.length ≤ 100 ∧ n ≤ z.length ∧ z.length ≤ 200 ∧ (∀ v ∈ ws, taiS v ∈ ws.map iniS) ∧ ws[0]? = some w0 ∧
  ∀ c ns H', Same H H' → LaidF n ws z ns [] → (c = true ↔ FreeK ws z w0 ns) → Q (.bl c) H'
theorem ok_law_is_free (T : Top K mg "_law_is_free" st_law_is_free) (B : Bt mg) (D_law_rows : Dn P w K mg base 2 "_law_rows" st_law_rows ["book", "piece"] spRows) (D_law_from : Dn P w K mg base 1 "_law_from" st_law_from ["rows", "start"] spFrom) :
    Dn P w K mg base 3 "_law_is_free" st_law_is_free ["book", "piece"] spFree := by
  refine dn_of T sc_law_is_free pl_law_is_free (fun vs H Q E h => ?_) fun f cdv A outer s H vs Q E hr h => ?_
  · obtain ⟨_, _, _, _, _, rfl, _⟩ := h; rfl
  · obtain ⟨b, n, ws, z, w0, rfl, bat, bk, wsl, nz, zl, jn, h0, q⟩ := h
    refine ⟨_, (pss_cons (ps_par (i := 2) (j := 3) (by rfl) sc_law_is_free.nd rfl rfl (by decide) rfl rfl (pa_cons (pe_fn D_law_rows (hr.mono (by decide)) (by rfl) (pa_cons (pv 0) (pa_cons (pv 1) pa_nil))) (pa_cons pe_dnewT pa_nil)) (by rfl))
      (pss_cons (ps_lock (ps_for PassesOwn.never rfl (pi_keys (pv 2)) (pg_name (i := 4) sc_law_is_free.nd rfl (.inl rfl)) (pss_one (ps_dput (hu_of hr) (pv 3) (pv 4) (pe_lst pa_nil) rfl))))
      (pss_cons (ps_lock (ps_for PassesOwn.never rfl (pi_keys (pv 2)) (pg_name (i := 4) sc_law_is_free.nd rfl (.inl rfl)) (pss_one (ps_for PassesOwn.never rfl (pi_list (pe_dget (hu_of hr) (pv 2) (pv 4) (fun _ _ => rfl))) (pg_tupK K rfl rfl (pgs_cons (pg_name (i := 5) sc_law_is_free.nd rfl (.inl rfl)) (pgs_cons (pg_name (i := 6) sc_law_is_free.nd rfl (.inl rfl)) pgs_nil))) (pss_one (ps_dput (hu_of hr) (pv 3) (pv 6) (pe_op op_cat (pe_dget (hu_of hr) (pv 3) (pv 6) (fun _ _ => rfl)) (pe_lst (pa_cons (pe_tup (pa_cons (pv 5) (pa_cons (pv 4) pa_nil))) pa_nil))) rfl))))))
      (pss_cons (ps_lock (ps_for PassesOwn.never rfl (pi_keys (pv 2)) (pg_name (i := 4) sc_law_is_free.nd rfl (.inl rfl)) (pss_one (ps_for PassesOwn.never rfl (pi_list (pe_lc (own := [("window", 5), ("other", 6)]) (g := gTup K 2 (gCons (gName 5) (gCons (gName 6) (gNil)))) rfl sc_law_is_free.nd (pi_list (pe_dget (hu_of hr) (pv 2) (pv 4) (fun _ _ => rfl))) (blkOk_by (N := ["book", "piece", "rows", "back", "pair", "window", "other", "start", "there", "here", "found", "one"]) (sc := defScope st_law_is_free) (by decide +kernel)) (fun _ _ _ _ _ => (pg_tupK (n := 2) K rfl rfl (pgs_cons (pg_name (i := 5) sc_law_is_free.nd rfl (.inl rfl)) (pgs_cons (pg_name (i := 6) sc_law_is_free.nd rfl (.inl rfl)) pgs_nil)))) (fun _ _ _ _ _ => (pts_one (pt_cmpR op_eq (pv 5) (pe_ix (ixTK K rfl) (pe_ix (ixTK K rfl) (pv 0) pe_int (fun _ _ => rfl)) pe_int (fun _ _ => rfl)) (nomark _)))) (fun _ _ _ _ _ => (pv 6)))) (pg_name (i := 7) sc_law_is_free.nd rfl (.inl rfl)) (pss_cons (ps_set (i := 8) sc_law_is_free.nd rfl (.inl rfl) (pe_fn D_law_from (hr.mono (by decide)) (by rfl) (pa_cons (pv 2) (pa_cons (pv 7) pa_nil))))
      (pss_one (ps_if (pt_cmp (pc_din (hu_of hr) (pv 4) (pv 8))) (pss_cons (ps_asg (pe_tup (pa_cons (pe_fn D_law_from (hr.mono (by decide)) (by rfl) (pa_cons (pv 3) (pa_cons (pv 7) pa_nil))) (pa_cons pe_dnewK pa_nil))) (pg_tupK K rfl rfl (pgs_cons (pg_name (i := 9) sc_law_is_free.nd rfl (.inr rfl)) (pgs_cons (pg_name (i := 10) sc_law_is_free.nd rfl (.inl rfl)) pgs_nil))))
      (pss_cons (ps_for PassesOwn.never rfl (pi_list (pe_lock (pe_lc (own := [("one", 11)]) (g := gName 11) rfl sc_law_is_free.nd (pi_keys (pv 8)) (blkOk_by (N := ["book", "piece", "rows", "back", "pair", "window", "other", "start", "there", "here", "found", "one"]) (sc := defScope st_law_is_free) (by decide +kernel)) (fun _ _ _ _ _ => (pg_name (i := 11) sc_law_is_free.nd rfl (.inl rfl))) (fun _ _ _ _ _ => (pts_one (pt_cmp (pc_din (hu_of hr) (pv 11) (pv 9))))) (fun _ _ _ _ _ => (pv 11))))) (pg_name (i := 11) sc_law_is_free.nd rfl (.inl rfl)) (pss_one (ps_for PassesOwn.never rfl (pi_list (pe_dget (hu_of hr) (pv 2) (pv 11) (fun _ _ => rfl))) (pg_tupK K rfl rfl (pgs_cons (pg_name (i := 5) sc_law_is_free.nd rfl (.inl rfl)) (pgs_cons (pg_name (i := 6) sc_law_is_free.nd rfl (.inl rfl)) pgs_nil))) (pss_one (ps_if (pt_cmp (pc_din (hu_of hr) (pv 6) (pv 9))) (pss_one (ps_dput (hu_of hr) (pv 10) (pv 5) pe_bl rfl)) pss_nil)))))
      (pss_one (ps_if (pt_cmpR op_eq (pe_callB call_lenD (by rfl) B.len (by decide +kernel) (pa_cons (pv 10) pa_nil)) (pe_callB (lenK K rfl) (by rfl) B.len (by decide +kernel) (pa_cons (pe_ix (ixTK K rfl) (pv 0) pe_int (fun _ _ => rfl)) pa_nil)) (nomark _)) (pss_one (ps_ret pe_bl)) pss_nil)))) pss_nil)))))))
      (pss_one (ps_ret pe_bl)))))), ?_⟩
    refine ⟨_, rfl, _, rfl, b, n, ws, z, rfl, bat, bk, wsl, nz, zl, jn, fun R ns H1 nR s1 gr la nsl => ?_⟩
    refine fun Bk nB => ⟨_, _, rfl, ?_⟩
    obtain ⟨fr, eR1, gr1⟩ := gr
    obtain ⟨U, eU⟩ : ∃ U, U = dtF (fun q => V.ref (fr q)) ns := ⟨_, rfl⟩
    have BR : Bk ≠ R := (ne_of_none eR1 nB).symm
    have eR2 := (same_upd (o := .dT []) nB) _ _ eR1
    refine ⟨R, _, eR2, trivial, fun od => ?_⟩
    refine ⟨_, rfl, R, od, rfl, .inr ⟨_, upd_same, ?_⟩⟩
    have b0 : ∀ od', (upd H1 R (.frz od' (.dT (dtF (fun q => V.ref (fr q)) ns)))) Bk = none := fun od' => by rw [upd_ne BR]; exact nB
    have ndn := la.nd
    have clo : ∀ q ∈ ns, ∀ st ∈ adjF ws z q, st.2 ∈ ns := fun q hq st hst => (la.cl q hq st hst).resolve_right fun h => by cases h
    have lows : ∀ q ∈ ns, Low q.1 := fun q hq => by
      obtain ⟨v, hv, e⟩ := List.mem_map.mp (la.ok q (.inl hq)).1
      rw [← e]
      exact low_take (bk.each v hv).1 _
    refine for_it walk_keysT (fun i σ H' => ∃ (o4 : Option V) (g : Pr → Addr), σ = [some (.ref b), some (.str z), some (.ref R), some (.ref Bk), o4, none, none, none, none, none, none, none] ∧ Same (upd H1 R (.frz od (.dT (dtF (fun q => V.ref (fr q)) ns)))) H' ∧ H' Bk = some (.dT (dtF (fun q => .ref (g q)) (ns.take i))) ∧ ∀ q ∈ ns.take i, RowAt H' (g q) [] ∧ g q ≠ Bk)
      ⟨none, fun _ => 0, rfl, lock_up (same_upd nB), by rw [upd_ne BR, upd_same]; rfl, fun q h => by rw [List.take_zero] at h; cases h⟩ (fun _ _ _ _ ⟨_, _, _, h, _⟩ => h _ _ upd_same) (fun i y σ H0 H' hi ⟨o4, g, eσ, sm, eB, hg⟩ ⟨eH, k, v, qa, hk, ey, eq⟩ => ?_) fun σ H' ⟨o4, g, eσ, sm, eB, hg⟩ => ?_
    · subst eH eσ ey
      obtain ⟨p, hp, rfl, rfl⟩ := dtAt hk
      have eq : PrAt H' qa p := eq
      have il := (List.getElem?_eq_some_iff.mp hp).1
      have hpn : p ∉ ns.take i := fun h => by
        have := List.nodup_append.mp (by rw [← take_mem' hp]; exact ndn.sublist (List.take_sublist ..) : (ns.take i ++ [p]).Nodup)
        exact this.2.2 p h p (List.mem_singleton.mpr rfl) rfl
      refine ⟨by show 0 ≤ sizeLine; decide, fun l nl => ?_⟩
      have lB : l ≠ Bk := (ne_of_none eB nl).symm
      refine ⟨_, rfl, _, rfl, Bk, _, rfl, DPut.t (k := keyP p) ((same_upd nl) _ _ eB) (eq.same (same_upd nl)) (by rw [dtF_len, List.length_take]; exact lt_line (by omega)), ?_⟩
      obtain ⟨g', g1, g2⟩ : ∃ g' : Pr → Addr, g' p = l ∧ ∀ y, y ≠ p → g' y = g y := ⟨fun y => if y = p then l else g y, if_pos rfl, fun y h => if_neg h⟩
      rw [dtF_put hpn (congrArg V.ref g1) fun y hy => congrArg V.ref (g2 y hy), ← take_mem' hp]
      refine ⟨_, g', rfl, wr (sm.trans (same_upd nl)) (b0 od), upd_same, fun q hq => ?_⟩
      have ntB := nt_dT ((same_upd (o := .lst []) nl) _ _ eB)
      by_cases c : q = p
      · rw [c, g1]
        exact ⟨RowAt.put ⟨[], upd_same, trivial⟩ ntB lB, lB⟩
      · rw [g2 q c]
        rw [take_mem' hp] at hq
        have hq := (List.mem_append.mp hq).resolve_right fun h => c (List.mem_singleton.mp h)
        exact ⟨((hg q hq).1.same (same_upd nl)).put ntB (hg q hq).2, (hg q hq).2⟩
    rw [dtF_len, List.take_length] at eB hg
    subst eσ
    refine ⟨sm _ _ upd_same, ?_⟩
    have s5 : Same H1 (upd H' R (.dT (dtF (fun q => V.ref (fr q)) ns))) := lock_same eR1 sm
    have eB5 : (upd H' R (.dT (dtF (fun q => V.ref (fr q)) ns))) Bk = some (.dT (dtF (fun q => .ref (g q)) ns)) := keep_ne eB BR
    have hg5 : ∀ q ∈ ns, RowAt (upd H' R (.dT (dtF (fun q => V.ref (fr q)) ns))) (g q) [] ∧ g q ≠ Bk := fun q hq => by
      obtain ⟨⟨as, e, r⟩, h2⟩ := hg q hq
      have hR := sm R _ upd_same
      refine ⟨RowAt.put ⟨as, e, r⟩ (fun ys h => by rw [hR] at h; cases h) (fun h => by rw [h, hR] at e; cases e), h2⟩
    generalize upd H' R (.dT (dtF (fun q => V.ref (fr q)) ns)) = H5 at s5 eB5 hg5 ⊢
    clear hg eB sm
    have eR5 := s5 _ _ eR1
    refine ⟨R, _, eR5, trivial, fun od2 => ?_⟩
    refine ⟨_, rfl, R, od2, rfl, .inr ⟨_, upd_same, ?_⟩⟩
    have al : ∀ q ∈ ns, (adjF ws z q).length ≤ 100 := fun q _ => Nat.le_trans (adjF_len ws z q).2 wsl
    refine for_it walk_keysT (fun i σ H' => ∃ (o4 o5 o6 : Option V) (g : Pr → Addr), σ = [some (.ref b), some (.str z), some (.ref R), some (.ref Bk), o4, o5, o6, none, none, none, none, none] ∧ Same (upd H1 R (.frz od2 (.dT (dtF (fun q => V.ref (fr q)) ns)))) H' ∧ H' Bk = some (.dT (dtF (fun q => .ref (g q)) ns)) ∧ ∀ q ∈ ns, RowAt H' (g q) (contF (edgesF (adjF ws z) (ns.take i)) q) ∧ g q ≠ Bk)
      ⟨o4, none, none, g, rfl, lock_up s5, by rw [upd_ne BR]; exact eB5, fun q hq => ⟨(hg5 q hq).1.lock eR5, (hg5 q hq).2⟩⟩ (fun _ _ _ _ ⟨_, _, _, _, _, h, _⟩ => h _ _ upd_same) (fun i y σ H0 H' hi ⟨o4, o5, o6, g, eσ, sm, eB, hg⟩ ⟨eH, k, v, qa, hk, ey, eq⟩ => ?_) fun σ H' ⟨o4, o5, o6, g, eσ, sm, eB, hg⟩ => ?_
    · subst eH eσ ey
      obtain ⟨p, hp, rfl, rfl⟩ := dtAt hk
      have eq : PrAt H' qa p := eq
      have hpm := List.mem_of_getElem? hp
      have il := (List.getElem?_eq_some_iff.mp hp).1
      obtain ⟨as, ea, ra⟩ := (gr1 p hpm).lock (w := .frz od2 (.dT (dtF (fun q => V.ref (fr q)) ns))) eR1
      have asl := ra.len
      refine ⟨_, rfl, _, rfl, R, .ref (fr p), rfl, dgetT' (.inr ⟨od2, sm _ _ upd_same⟩) eq hpm, fr p, rfl, ⟨_, .inl (.inl (sm _ _ ea))⟩, ?_⟩
      refine for_list (K := K) (a := fr p) (xs := as.map V.ref) (fun j σ H8 => ∃ (o5 o6 : Option V) (g : Pr → Addr), σ = [some (.ref b), some (.str z), some (.ref R), some (.ref Bk), some (.ref qa), o5, o6, none, none, none, none, none] ∧ Same (upd H1 R (.frz od2 (.dT (dtF (fun q => V.ref (fr q)) ns)))) H8 ∧ PrAt H8 qa p ∧ H8 Bk = some (.dT (dtF (fun q => .ref (g q)) ns)) ∧ ∀ q ∈ ns, RowAt H8 (g q) (contF (edgesF (adjF ws z) (ns.take i) ++ ((adjF ws z p).take j).map fun st => (p, st)) q) ∧ g q ≠ Bk)
        ⟨o5, o6, g, rfl, sm, eq, eB, fun q hq => by rw [List.take_zero, List.map_nil, List.append_nil]; exact hg q hq⟩ (fun _ _ _ _ ⟨_, _, _, _, h, _⟩ => .inl (.inl (h _ _ ea))) (fun j y σ H8 hj ⟨o5, o6, g, eσ, s8, eq8, eB8, hg8⟩ => ?_) fun σ H8 ⟨o5, o6, g, eσ, s8, eq8, eB8, hg8⟩ => ?_
      · subst eσ
        obtain ⟨ay, hay, rfl⟩ := ref_at hj
        obtain ⟨st, hst, b1, e1, e2⟩ := ra.at hay
        have jl := (List.getElem?_eq_some_iff.mp hay).1
        have e1' := s8 _ _ e1
        have e2' : PrAt H8 b1 st.2 := s8 _ _ e2
        have hst2 := clo p hpm st (List.mem_of_getElem? hst)
        obtain ⟨⟨cs, ecs, rcs⟩, gB⟩ := hg8 st.2 hst2
        have csl := rcs.len
        have cl1 := contF_len (edgesF (adjF ws z) (ns.take i) ++ ((adjF ws z p).take j).map fun st => (p, st)) st.2
        have cl2 := edges_len (ns := ns.take i) fun q hq => al q (List.mem_of_mem_take hq)
        have cl3 : (ns.take i).length * 100 ≤ 20000 * 100 := Nat.mul_le_mul_right 100 (by rw [List.length_take]; omega)
        rw [List.length_append, List.length_map, List.length_take] at cl1
        have al1 := al p hpm
        refine ⟨ay, _, rfl, .inl (.inl e1'), rfl, _, _, rfl, _, _, rfl, rfl, ?_⟩
        refine ⟨_, rfl, _, rfl, Bk, .ref (g st.2), rfl, dgetT' (.inl eB8) e2' hst2, _, rfl, _, rfl, by show 2 ≤ sizeLine; decide, fun u nu => ⟨by show 1 ≤ sizeLine; decide, fun l1 nl1 => ⟨g st.2, l1, _, _, rfl, rfl, (same_upd nl1) _ _ ((same_upd nu) _ _ ecs), upd_same, by rw [List.length_map]; exact Nat.le_trans (show cs.length + 1 ≤ 2100000 by omega) (by decide), fun l2 nl2 => ?_⟩⟩⟩
        have s89 : Same H8 (upd (upd (upd H8 u (.tup [V.str st.1, .ref qa])) l1 (.lst [.ref u])) l2 (.lst (cs.map V.ref ++ [.ref u]))) := ((same_upd nu).trans (same_upd nl1)).trans (same_upd nl2)
        have eu9 : (upd (upd (upd H8 u (.tup [V.str st.1, .ref qa])) l1 (.lst [.ref u])) l2 (.lst (cs.map V.ref ++ [.ref u]))) u = some (.tup [V.str st.1, .ref qa]) := ((same_upd nl1).trans (same_upd nl2)) _ _ upd_same
        have el9 : (upd (upd (upd H8 u (.tup [V.str st.1, .ref qa])) l1 (.lst [.ref u])) l2 (.lst (cs.map V.ref ++ [.ref u]))) l2 = some (.lst (cs.map V.ref ++ [.ref u])) := upd_same
        have nl8 : H8 l2 = none := (same_upd nu).free ((same_upd nl1).free nl2)
        generalize upd (upd (upd H8 u (.tup [V.str st.1, .ref qa])) l1 (.lst [.ref u])) l2 (.lst (cs.map V.ref ++ [.ref u])) = H9 at s89 eu9 el9 ⊢
        have eB9 := s89 _ _ eB8
        have l2B : l2 ≠ Bk := (ne_of_none eB8 nl8).symm
        refine ⟨_, rfl, _, rfl, Bk, _, rfl, DPut.t (k := keyP st.2) eB9 (e2'.same s89) (by rw [dtF_len]; exact lt_line (by omega)), ?_⟩
        obtain ⟨g', g1, g2⟩ : ∃ g' : Pr → Addr, g' st.2 = l2 ∧ ∀ y, y ≠ st.2 → g' y = g y := ⟨fun y => if y = st.2 then l2 else g y, if_pos rfl, fun y h => if_neg h⟩
        rw [dtF_rep hst2 (congrArg V.ref g1) fun y hy => congrArg V.ref (g2 y hy)]
        have ntB := nt_dT eB9
        refine ⟨_, _, g', rfl, wr (s8.trans s89) (b0 od2), (eq8.same s89).put ntB, upd_same, fun q hq => ?_⟩
        have et : (((adjF ws z p).take (j + 1)).map fun st => (p, st)) = (((adjF ws z p).take j).map fun st => (p, st)) ++ [(p, st)] := by rw [take_mem' hst, List.map_append]; rfl
        rw [et, ← List.append_assoc, contF_snoc]
        by_cases c : q = st.2
        · rw [c, g1, if_pos rfl]
          refine ⟨RowAt.put ⟨cs ++ [u], by rw [el9, List.map_append]; rfl, (rcs.imp fun _ _ => StAt.same s89).snoc ⟨qa, eu9, eq8.same s89⟩⟩ ntB l2B, l2B⟩
        · rw [g2 q c, if_neg fun e => c e.symm, List.append_nil]
          exact ⟨((hg8 q hq).1.same s89).put ntB (hg8 q hq).2, (hg8 q hq).2⟩
      · subst eσ
        rw [List.length_map, asl, List.take_length] at hg8
        refine ⟨_, _, _, g, rfl, s8, eB8, fun q hq => ?_⟩
        rw [edges_take hp]
        exact hg8 q hq
    rw [dtF_len, List.take_length] at hg
    subst eσ
    refine ⟨sm _ _ upd_same, ?_⟩
    have s6 : Same H1 (upd H' R (.dT (dtF (fun q => V.ref (fr q)) ns))) := lock_same eR1 sm
    have eB6 : (upd H' R (.dT (dtF (fun q => V.ref (fr q)) ns))) Bk = some (.dT (dtF (fun q => .ref (g q)) ns)) := keep_ne eB BR
    have hg6 : ∀ q ∈ ns, RowAt (upd H' R (.dT (dtF (fun q => V.ref (fr q)) ns))) (g q) (contF (edgesF (adjF ws z) ns) q) := fun q hq => by
      obtain ⟨⟨as, e, r⟩, h2⟩ := hg q hq
      have hR := sm R _ upd_same
      exact RowAt.put ⟨as, e, r⟩ (fun ys h => by rw [hR] at h; cases h) (fun h => by rw [h, hR] at e; cases e)
    generalize upd H' R (.dT (dtF (fun q => V.ref (fr q)) ns)) = H6 at s6 eB6 hg6 ⊢
    clear hg eB sm hg5 eB5 s5
    have eR6 := s6 _ _ eR1
    refine ⟨R, _, eR6, trivial, fun od3 => ?_⟩
    refine ⟨_, rfl, R, od3, rfl, .inr ⟨_, upd_same, ?_⟩⟩
    have gR : GRr (upd H6 R (.frz od3 (.dT (dtF (fun q => V.ref (fr q)) ns)))) R ns (adjF ws z) := GRr.lock eR6 fun q hq => (gr1 q hq).same s6
    have gB : GRr (upd H6 R (.frz od3 (.dT (dtF (fun q => V.ref (fr q)) ns)))) Bk ns (contF (edgesF (adjF ws z) ns)) := ⟨g, .inl (keep_ne eB6 BR), fun q hq => (hg6 q hq).lock eR6⟩
    have bat7 : BookAt (upd H6 R (.frz od3 (.dT (dtF (fun q => V.ref (fr q)) ns)))) b n ws := by
      obtain ⟨t, e1, e2⟩ := bat
      exact ⟨t, keep_ne (s6 _ _ (s1 _ _ e1)) fun h => (by rw [h, nR] at e1; cases e1), keep_ne (s6 _ _ (s1 _ _ e2)) fun h => (by rw [h, nR] at e2; cases e2)⟩
    have eR7 : (upd H6 R (.frz od3 (.dT (dtF (fun q => V.ref (fr q)) ns)))) R = some (.frz od3 (.dT (dtF (fun q => V.ref (fr q)) ns))) := upd_same
    have done : ∀ H', Same (upd H6 R (.frz od3 (.dT (dtF (fun q => V.ref (fr q)) ns)))) H' → Same H (upd H' R (.dT (dtF (fun q => V.ref (fr q)) ns))) := fun H' sm => s1.trans (s6.trans (lock_same eR6 sm))
    generalize upd H6 R (.frz od3 (.dT (dtF (fun q => V.ref (fr q)) ns))) = H7 at gR gB bat7 eR7 done ⊢
    clear s6 eB6 hg6 eR6 eR1 gr1
    obtain ⟨fr', eR7', gr7⟩ := gR
    obtain ⟨t, eb7, et7⟩ := bat7
    refine for_it walk_keysT (fun i σ H' => ∃ (o4 o5 o6 o7 o8 o9 o10 o11 : Option V), σ = [some (.ref b), some (.str z), some (.ref R), some (.ref Bk), o4, o5, o6, o7, o8, o9, o10, o11] ∧ Same H7 H' ∧ ∀ q ∈ ns.take i, ∀ s ∈ startsF w0 (adjF ws z q), ¬ FreeAt (adjF ws z) ws q s)
      ⟨o4, o5, o6, none, none, none, none, none, rfl, Same.refl _, fun q h => by rw [List.take_zero] at h; cases h⟩ (fun _ _ _ _ ⟨_, _, _, _, _, _, _, _, _, h, _⟩ => h _ _ eR7) (fun i y σ H0 H' hi ⟨o4, o5, o6, o7, o8, o9, o10, o11, eσ, sm, no⟩ ⟨eH, k, v, qa, hk, ey, eq⟩ => ?_) fun σ H' ⟨o4, o5, o6, o7, o8, o9, o10, o11, eσ, sm, no⟩ => ?_
    · subst eH eσ ey
      obtain ⟨p, hp, rfl, rfl⟩ := dtAt hk
      have eq : PrAt H' qa p := eq
      have hpm := List.mem_of_getElem? hp
      have il := (List.getElem?_eq_some_iff.mp hp).1
      obtain ⟨as, ea, ra⟩ := gr7 p hpm
      have asl := ra.len
      refine ⟨_, rfl, _, rfl, R, .ref (fr' p), rfl, dgetT' (Rd.same' sm eR7') eq hpm, fr' p, rfl, ⟨_, .inl (.inl (sm _ _ ea))⟩, fun T nT => ?_⟩
      refine lc_list (a := fr' p) (xs := as.map V.ref) (fun j H8 => Same H' H8 ∧ ∃ ts : List Addr, H8 T = some (.lst (ts.map V.ref)) ∧ ts.length ≤ j ∧ Rl (PrAt H8) ts (startsF w0 ((adjF ws z p).take j))) ⟨same_upd nT, [], upd_same, Nat.le_refl _, trivial⟩ (fun j H8 _ h => .inl (.inl (h.1 _ _ (sm _ _ ea)))) (fun j y H8 hj ⟨s8, ts, e8, tl8, r8⟩ => ?_) fun H8 ⟨s8, ts, e8, tl8, r8⟩ => ?_
      · obtain ⟨ay, hay, rfl⟩ := ref_at hj
        obtain ⟨st, hst, b1, e1, e2⟩ := ra.at hay
        have jl := (List.getElem?_eq_some_iff.mp hay).1
        have e1' := s8 _ _ (sm _ _ e1)
        have e2' : PrAt H8 b1 st.2 := s8 _ _ (sm _ _ e2)
        have al1 := al p hpm
        have es : startsF w0 ((adjF ws z p).take (j + 1)) = startsF w0 ((adjF ws z p).take j) ++ (if st.1 = w0 then [st.2] else []) := by
          unfold startsF
          rw [take_mem' hst, List.filter_append, List.map_append]
          congr 1
          by_cases c : st.1 = w0 <;> simp [c]
        refine ⟨ay, _, rfl, .inl (.inl e1'), rfl, _, _, rfl, _, _, rfl, rfl, rfl, ?_⟩
        refine ⟨_, rfl, _, rfl, b, _, _, _, rfl, rfl, .inl (.inl (s8 _ _ (sm _ _ eb7))), rfl, t, _, _, V.str w0, rfl, rfl, .inl (.inl (s8 _ _ (sm _ _ et7))), atI_pos (by decide) (by show (ws.map V.str)[0]? = _; rw [List.getElem?_map, h0]; rfl), rfl, _, rfl, ?_⟩
        rw [str_ne]
        refine ite2 (fun c => ?_) fun c => ?_
        · have c := of_decide_eq_true c
          rw [if_pos c] at es
          refine ⟨_, rfl, _, e8, by rw [List.length_map]; exact lt_line (by omega), wr s8 nT, ts ++ [b1], by rw [upd_same, List.map_append]; rfl, by rw [List.length_append]; exact Nat.add_le_add_right tl8 1, ?_⟩
          rw [es]
          exact (r8.snoc e2').imp fun _ _ h => PrAt.put h (nt_lst e8)
        · have c : ¬ st.1 = w0 := fun h => c (decide_eq_true h)
          rw [if_neg c, List.append_nil] at es
          exact ⟨s8, ts, e8, by omega, by rw [es]; exact r8⟩
      rw [List.length_map, asl, List.take_length] at r8
      have tsl := r8.len
      have sm8 := sm.trans s8
      refine ⟨T, rfl, ⟨_, .inl (.inl e8)⟩, ?_⟩
      refine for_list (K := K) (a := T) (xs := ts.map V.ref) (fun j σ H9 => ∃ (o5 o6 o7 o8 o9 o10 o11 : Option V), σ = [some (.ref b), some (.str z), some (.ref R), some (.ref Bk), some (.ref qa), o5, o6, o7, o8, o9, o10, o11] ∧ Same H8 H9 ∧ ∀ s ∈ (startsF w0 (adjF ws z p)).take j, ¬ FreeAt (adjF ws z) ws p s)
        ⟨o5, o6, o7, o8, o9, o10, o11, rfl, Same.refl _, fun q h => by rw [List.take_zero] at h; cases h⟩ (fun _ _ _ _ ⟨_, _, _, _, _, _, _, _, h, _⟩ => .inl (.inl (h _ _ e8))) (fun j y σ H9 hj ⟨o5, o6, o7, o8, o9, o10, o11, eσ, s9, no9⟩ => ?_) fun σ H9 ⟨o5, o6, o7, o8, o9, o10, o11, eσ, s9, no9⟩ => ?_
      · subst eσ
        obtain ⟨ay, hay, rfl⟩ := ref_at hj
        obtain ⟨s0, hs0, es0⟩ := r8.at hay
        have es9 := es0.same s9
        have s79 := sm8.trans s9
        have hs0m := List.mem_of_getElem? hs0
        have s0ns : s0 ∈ ns := by
          obtain ⟨st, h1, rfl⟩ := List.mem_map.mp hs0m
          exact clo p hpm st (List.mem_filter.mp h1).1
        have nos : (¬ FreeAt (adjF ws z) ws p s0) → ∀ s ∈ (startsF w0 (adjF ws z p)).take (j + 1), ¬ FreeAt (adjF ws z) ws p s := fun h s hs => by
          rw [take_mem' hs0] at hs
          rcases List.mem_append.mp hs with hs | hs
          · exact no9 s hs
          · rw [List.mem_singleton.mp hs]; exact h
        refine ⟨_, rfl, _, rfl, R, ay, ns, adjF ws z, s0, rfl, ⟨fr', Rd.same' s79 eR7', fun q hq => (gr7 q hq).same s79⟩, es9, s0ns, clo, nsl, lows, fun D1 ks1 H10 n1 s10 e10 nd1 k1 => ?_⟩
        have eq10 : PrAt H10 qa p := PrAt.same s10 (PrAt.same s9 (PrAt.same s8 eq))
        have s710 := s79.trans s10
        refine ⟨_, rfl, _, rfl, D1, _, rfl, dgetT (.inl e10) eq10, _, rfl, ?_⟩
        rw [dtF_some]
        by_cases c1 : p ∈ ks1
        · rw [decide_eq_true c1]
          refine iteT ?_
          have clb : ∀ q ∈ ns, ∀ st ∈ contF (edgesF (adjF ws z) ns) q, st.2 ∈ ns := fun q _ st hst => (mem_contF.mp hst).1
          refine ⟨_, rfl, _, rfl, Bk, ay, ns, contF (edgesF (adjF ws z) ns), s0, rfl, gB.same s710, es9.same s10, s0ns, clb, nsl, lows, fun D2 ks2 H11 n2 s11 e11 nd2 k2 => fun F nF => ⟨by show 2 ≤ sizeLine; decide, fun u nu => ⟨u, _, rfl, .inl (.inl upd_same), rfl, _, _, rfl, _, _, rfl, rfl, ?_⟩⟩⟩
          have s1112 : Same H11 (upd (upd H11 F (.dK [])) u (.tup [V.ref D2, .ref F])) := (same_upd nF).trans (same_upd nu)
          have eF12 : (upd (upd H11 F (.dK [])) u (.tup [V.ref D2, .ref F])) F = some (.dK (dkF (fun _ => V.bl true) [])) := (same_upd nu) _ _ upd_same
          generalize upd (upd H11 F (.dK [])) u (.tup [V.ref D2, .ref F]) = H12 at s1112 eF12 ⊢
          clear nu
          have e1012 := s1112 _ _ (s11 _ _ e10)
          have FD1 : F ≠ D1 := fun h => by rw [h, e1012] at eF12; cases eF12
          refine ⟨D1, _, e1012, trivial, fun od4 => ?_⟩
          refine ⟨_, rfl, D1, od4, rfl, .inr ⟨_, upd_same, fun X nX => ?_⟩⟩
          have s712 := (s710.trans s11).trans s1112
          have e212 := s1112 _ _ e11
          have D21 : D2 ≠ D1 := fun h => by rw [h, s11 _ _ e10] at e11; rw [h] at n2; rw [e10] at n2; cases n2
          refine it_all walk_keysT (fun i H' => Same (upd H12 D1 (.frz od4 (.dT (dtF (fun _ => V.bl true) ks1)))) H' ∧ ∃ xs : List Addr, H' X = some (.lst (xs.map V.ref)) ∧ xs.length ≤ i ∧ Rl (PrAt H') xs ((ks1.take i).filter fun q => decide (q ∈ ks2)))
            ⟨same_upd nX, [], upd_same, Nat.le_refl _, trivial⟩ (fun i H' _ h => h.1 _ _ upd_same) (fun i y H' H'' hi ⟨sm, xs, e, xl, r⟩ ⟨eH, kk, vv, qb, hk, ey, eqb⟩ => ?_) fun H13 ⟨s13, xs, e13, xl, r13⟩ => ?_
          · subst eH ey
            obtain ⟨x, hx, rfl, rfl⟩ := dtAt hk
            have eqb : PrAt H'' qb x := eqb
            have il := (List.getElem?_eq_some_iff.mp hx).1
            have kl := pigA ks1 ns nd1 fun q hq => by
              have r := (k1 q).mp hq
              clear hq
              induction r with
              | here => exact s0ns
              | step _ hv ih => exact clo _ ih _ hv
            have ft : (ks1.take (i + 1)).filter (fun q => decide (q ∈ ks2)) = (ks1.take i).filter (fun q => decide (q ∈ ks2)) ++ (if x ∈ ks2 then [x] else []) := by
              rw [take_mem' hx, List.filter_append]
              congr 1
              by_cases c : x ∈ ks2 <;> simp [c]
            refine ⟨rfl, ?_⟩
            refine ⟨_, rfl, _, rfl, D2, _, rfl, dgetT (.inl (sm _ _ (by rw [upd_ne D21]; exact e212))) eqb, _, rfl, ?_⟩
            rw [dtF_some]
            by_cases c : x ∈ ks2
            · rw [decide_eq_true c]
              refine iteT ?_
              rw [if_pos c] at ft
              refine ⟨_, rfl, _, e, by rw [List.length_map]; exact lt_line (by omega), wr sm nX, xs ++ [qb], by rw [upd_same, List.map_append]; rfl, by rw [List.length_append]; exact Nat.add_le_add_right xl 1, ?_⟩
              rw [ft]
              exact (r.snoc eqb).imp fun _ _ h => PrAt.put h (nt_lst e)
            · rw [decide_eq_false c]
              refine iteF ?_
              rw [if_neg c, List.append_nil] at ft
              exact ⟨sm, xs, e, by omega, by rw [ft]; exact r⟩
          rw [dtF_len, List.take_length] at r13
          have eD13 := s13 D1 _ upd_same
          refine ⟨eD13, ?_⟩
          have XD1 : X ≠ D1 := fun h => by rw [h, eD13] at e13; cases e13
          have s1213 : Same H12 (upd H13 D1 (.dT (dtF (fun _ => V.bl true) ks1))) := lock_same e1012 s13
          have eX : (upd H13 D1 (.dT (dtF (fun _ => V.bl true) ks1))) X = some (.lst (xs.map V.ref)) := keep_ne e13 XD1
          have rX : Rl (PrAt (upd H13 D1 (.dT (dtF (fun _ => V.bl true) ks1)))) xs (ks1.filter fun q => decide (q ∈ ks2)) := r13.imp fun _ _ h => PrAt.put h fun ys hh => by rw [eD13] at hh; cases hh
          generalize upd H13 D1 (.dT (dtF (fun _ => V.bl true) ks1)) = H14 at s1213 eX rX ⊢
          have s1114 := s1112.trans s1213
          have eF14 := s1213 _ _ eF12
          have XF : X ≠ F := fun h => by rw [h, eF14] at eX; cases eX
          have nF7 : H7 F = none := (s710.trans s11).free nF
          have xsl := rX.len
          obtain ⟨Lq, eLq⟩ : ∃ Lq, Lq = ks1.filter fun q => decide (q ∈ ks2) := ⟨_, rfl⟩
          rw [← eLq] at rX xsl
          have hL : ∀ q, q ∈ Lq ↔ RQ (adjF ws z) s0 q ∧ RQ (adjF ws z) q s0 ∧ q ∈ ns := fun q => by
            rw [eLq, List.mem_filter, k1, decide_eq_true_iff, k2, rq_back clo s0ns]
            exact ⟨fun h => ⟨h.1, h.2.2, h.2.1⟩, fun h => ⟨h.1, h.2.2, h.2.1⟩⟩
          have h2 : ∀ q, q ∈ ks2 ↔ q ∈ ns ∧ RQ (adjF ws z) q s0 := fun q => by rw [k2, rq_back clo s0ns]
          refine ⟨X, rfl, ⟨_, .inl (.inl eX)⟩, ?_⟩
          refine for_list (K := K) (a := X) (xs := xs.map V.ref) (fun l σ H' => ∃ (o5 o6 o11 : Option V) (fs : List Str), σ = [some (.ref b), some (.str z), some (.ref R), some (.ref Bk), some (.ref qa), o5, o6, some (.ref ay), some (.ref D1), some (.ref D2), some (.ref F), o11] ∧ Same H11 H' ∧ H' X = some (.lst (xs.map V.ref)) ∧ Rl (PrAt H') xs Lq ∧ H' F = some (.dK (dkF (fun _ => V.bl true) fs)) ∧ fs.Nodup ∧ ∀ x, x ∈ fs ↔ ∃ one ∈ Lq.take l, ∃ s2 ∈ adjF ws z one, s2.1 = x ∧ s2.2 ∈ ks2)
            ⟨_, _, _, [], rfl, s1114, eX, rX, eF14, List.nodup_nil, fun x => ⟨fun h => (by cases h), fun ⟨one, h, _⟩ => by rw [List.take_zero] at h; cases h⟩⟩ (fun _ _ _ _ ⟨_, _, _, _, _, _, h, _⟩ => .inl (.inl h)) (fun l y σ H15 hl ⟨o5, o6, o11, fs, eσ, s15, eX15, rX15, eF15, ndf, mf⟩ => ?_) fun σ H15 ⟨o5, o6, o11, fs, eσ, s15, eX15, rX15, eF15, ndf, mf⟩ => ?_
          · subst eσ
            obtain ⟨ab, hab, rfl⟩ := ref_at hl
            obtain ⟨one, hone, eone⟩ := rX15.at hab
            have honeL := List.mem_of_getElem? hone
            obtain ⟨o1, o2, o3⟩ := (hL one).mp honeL
            obtain ⟨bs, ebs, rbs⟩ := gr7 one o3
            have bsl := rbs.len
            have s715 := (s710.trans s11).trans s15
            refine ⟨_, rfl, _, rfl, R, .ref (fr' one), rfl, dgetT' (Rd.same' s715 eR7') eone o3, fr' one, rfl, ⟨_, .inl (.inl (s715 _ _ ebs))⟩, ?_⟩
            refine for_list (K := K) (a := fr' one) (xs := bs.map V.ref) (fun m σ H' => ∃ (o5 o6 : Option V) (fs : List Str), σ = [some (.ref b), some (.str z), some (.ref R), some (.ref Bk), some (.ref qa), o5, o6, some (.ref ay), some (.ref D1), some (.ref D2), some (.ref F), some (.ref ab)] ∧ Same H11 H' ∧ H' X = some (.lst (xs.map V.ref)) ∧ Rl (PrAt H') xs Lq ∧ H' F = some (.dK (dkF (fun _ => V.bl true) fs)) ∧ fs.Nodup ∧ ∀ x, x ∈ fs ↔ (∃ one ∈ Lq.take l, ∃ s2 ∈ adjF ws z one, s2.1 = x ∧ s2.2 ∈ ks2) ∨ ∃ s2 ∈ (adjF ws z one).take m, s2.1 = x ∧ s2.2 ∈ ks2)
              ⟨_, _, fs, rfl, s15, eX15, rX15, eF15, ndf, fun x => (mf x).trans ⟨.inl, fun h => h.resolve_right fun ⟨s2, h, _⟩ => by rw [List.take_zero] at h; cases h⟩⟩ (fun _ _ _ _ ⟨_, _, _, _, h, _⟩ => .inl (.inl ((s710.trans s11).trans h _ _ ebs))) (fun m y σ H16 hm ⟨o5, o6, fs, eσ, s16, eX16, rX16, eF16, ndf, mf⟩ => ?_) fun σ H16 ⟨o5, o6, fs, eσ, s16, eX16, rX16, eF16, ndf, mf⟩ => ?_
            · subst eσ
              obtain ⟨ac, hac, rfl⟩ := ref_at hm
              obtain ⟨st, hst, b1, e1, e2⟩ := rbs.at hac
              have stm := List.mem_of_getElem? hst
              have s716 := (s710.trans s11).trans s16
              have e2' : PrAt H16 b1 st.2 := s716 _ _ e2
              have mem' : ∀ x, x ∈ (adjF ws z one).take (m + 1) ↔ x ∈ (adjF ws z one).take m ∨ x = st := fun x => by rw [take_mem' hst, List.mem_append, List.mem_singleton]
              have fsw : ∀ x ∈ fs, x ∈ ws := fun x hx => by
                rcases (mf x).mp hx with ⟨o, _, s2, h, rfl, _⟩ | ⟨s2, h, rfl, _⟩
                · exact (mem_adjF.mp h).1
                · exact (mem_adjF.mp (List.mem_of_mem_take h)).1
              have fsl := pig fs ws ndf fsw
              refine ⟨ac, _, rfl, .inl (.inl (s716 _ _ e1)), rfl, _, _, rfl, _, _, rfl, rfl, ?_⟩
              refine ⟨_, rfl, _, rfl, D2, _, rfl, dgetT (.inl (s16 _ _ e11)) e2', _, rfl, ?_⟩
              rw [dtF_some]
              by_cases c : st.2 ∈ ks2
              · rw [decide_eq_true c]
                refine iteT ?_
                refine ⟨_, rfl, _, rfl, F, _, rfl, DPut.k (k := Sum.inr st.1) eF16 (by rw [dkF_len]; exact lt_line (by omega)), ?_⟩
                have ntF := nt_dK eF16
                have mfn : ∀ x, ((∃ one ∈ Lq.take l, ∃ s2 ∈ adjF ws z one, s2.1 = x ∧ s2.2 ∈ ks2) ∨ ∃ s2 ∈ (adjF ws z one).take (m + 1), s2.1 = x ∧ s2.2 ∈ ks2) ↔ x ∈ fs ∨ x = st.1 := fun x => by
                  rw [mf x]
                  constructor
                  · rintro (h | ⟨s2, h, e, k⟩)
                    · exact .inl (.inl h)
                    · rcases (mem' s2).mp h with h | h
                      · exact .inl (.inr ⟨s2, h, e, k⟩)
                      · rw [← e, h]; exact .inr rfl
                  · rintro ((h | ⟨s2, h, e, k⟩) | h)
                    · exact .inl h
                    · exact .inr ⟨s2, (mem' s2).mpr (.inl h), e, k⟩
                    · exact .inr ⟨st, (mem' st).mpr (.inr rfl), h.symm, c⟩
                by_cases d : st.1 ∈ fs
                · rw [dkF_rep (f' := fun _ => V.bl true) d rfl fun _ _ => rfl]
                  refine ⟨_, _, fs, rfl, wr s16 nF, keep_ne eX16 XF, rX16.imp fun _ _ h => PrAt.put h ntF, upd_same, ndf, fun x => ?_⟩
                  rw [mfn]
                  exact ⟨.inl, fun h => h.elim id fun e => e ▸ d⟩
                · rw [dkF_put (f' := fun _ => V.bl true) d rfl fun _ _ => rfl]
                  refine ⟨_, _, fs ++ [st.1], rfl, wr s16 nF, keep_ne eX16 XF, rX16.imp fun _ _ h => PrAt.put h ntF, upd_same, List.nodup_append.mpr ⟨ndf, List.nodup_cons.mpr ⟨by simp, List.nodup_nil⟩, fun a ha b hb e => d (by rw [← List.mem_singleton.mp hb, ← e]; exact ha)⟩, fun x => ?_⟩
                  rw [mfn, List.mem_append, List.mem_singleton]
              · rw [decide_eq_false c]
                refine iteF ?_
                refine ⟨_, _, fs, rfl, s16, eX16, rX16, eF16, ndf, fun x => (mf x).trans (or_congr Iff.rfl ⟨fun ⟨s2, h, k⟩ => ⟨s2, (mem' s2).mpr (.inl h), k⟩, fun ⟨s2, h, e, k⟩ => ?_⟩)⟩
                rcases (mem' s2).mp h with h | h
                · exact ⟨s2, h, e, k⟩
                · rw [h] at k; exact absurd k c
            · subst eσ
              rw [List.length_map, bsl, List.take_length] at mf
              refine ⟨_, _, _, fs, rfl, s16, eX16, rX16, eF16, ndf, fun x => (mf x).trans ?_⟩
              rw [take_mem' hone]
              constructor
              · rintro (⟨o, h, k⟩ | h)
                · exact ⟨o, List.mem_append_left _ h, k⟩
                · exact ⟨one, List.mem_append_right _ (List.mem_singleton.mpr rfl), h⟩
              · rintro ⟨o, h, k⟩
                rcases List.mem_append.mp h with h | h
                · exact .inl ⟨o, h, k⟩
                · rw [List.mem_singleton.mp h] at k; exact .inr k
          · subst eσ
            rw [List.length_map, xsl, List.take_length] at mf
            have s715 := (s710.trans s11).trans s15
            have fsw : ∀ x ∈ fs, x ∈ ws := fun x hx => by
              obtain ⟨o, _, s2, h, rfl, _⟩ := (mf x).mp hx
              exact (mem_adjF.mp h).1
            have key : FreeAt (adjF ws z) ws p s0 ↔ fs.length = ws.length := by
              constructor
              · intro fr
                refine Nat.le_antisymm (pig fs ws ndf fsw) (pig ws fs bk.nodup fun v hv => ?_)
                obtain ⟨one, r1, r2, s2, h, e, r3⟩ := fr.2 v hv
                have hn : ∀ {q}, RQ (adjF ws z) s0 q → q ∈ ns := fun {q} r => by
                  induction r with
                  | here => exact s0ns
                  | step _ hv ih => exact clo _ ih _ hv
                exact (mf v).mpr ⟨one, (hL one).mpr ⟨r1, r2, hn r1⟩, s2, h, e, (h2 _).mpr ⟨clo _ (hn r1) _ h, r3⟩⟩
              · intro e
                refine ⟨(k1 p).mp c1, fun v hv => ?_⟩
                obtain ⟨one, h1, s2, h, ev, k⟩ := (mf v).mp (pig_all ndf fsw (by omega) hv)
                obtain ⟨r1, r2, _⟩ := (hL one).mp h1
                exact ⟨one, r1, r2, s2, h, ev, ((h2 _).mp k).2⟩
            refine ⟨_, rfl, F, _, rfl, eF15, _, rfl, b, _, _, _, rfl, rfl, .inl (.inl (s715 _ _ eb7)), rfl, t, _, rfl, .inr (.inl (.inl (s715 _ _ et7))), rfl, _, rfl, ?_⟩
            refine ite2 (fun e => ?_) fun e => ?_
            · have e := of_decide_eq_true e
              injection e with e
              rw [dkF_len, List.length_map] at e
              have fr := key.mpr (Int.ofNat.inj e)
              exact ⟨s715 _ _ eR7, q true ns _ (done _ s715) la ⟨fun _ => free_iff.mpr ⟨p, hpm, s0, hs0m, fr⟩, fun _ => rfl⟩⟩
            · have nf : ¬ FreeAt (adjF ws z) ws p s0 := fun fr => e (decide_eq_true (by rw [dkF_len, List.length_map, key.mp fr]))
              exact ⟨_, _, _, _, _, _, _, rfl, (s9.trans s10).trans (s11.trans s15), nos nf⟩
        · rw [decide_eq_false c1]
          refine iteF ?_
          exact ⟨_, _, _, _, _, _, _, rfl, s9.trans s10, nos fun h => c1 ((k1 p).mpr h.1)⟩
      · subst eσ
        rw [List.length_map, tsl, List.take_length] at no9
        refine ⟨_, _, _, _, _, _, _, _, rfl, sm8.trans s9, fun q hq => ?_⟩
        rw [take_mem' hp] at hq
        rcases List.mem_append.mp hq with hq | hq
        · exact no q hq
        · rw [List.mem_singleton.mp hq]; exact no9
    · subst eσ
      rw [dtF_len, List.take_length] at no
      refine ⟨sm _ _ eR7, q false ns _ (done _ sm) la ⟨fun h => (by cases h), fun h => ?_⟩⟩
      obtain ⟨p, hp, s, hs, fr⟩ := free_iff.mp h
      exact absurd fr (no p hp s hs)
end
end Tx
set_option Elab.async false
set_option linter.all false
set_option maxRecDepth 100000
set_option maxHeartbeats 4000000
namespace Tx
open PySem PySem.Spec PyProof.Rows L2 TL RZ
theorem cutV_from' (xs : List V) (p : Nat) (h : p ≤ xs.length) : cutV xs (some (p : Int)) none = xs.drop p := by
  unfold cutV
  rw [HT.sIx_nat, HT.sIx_none, Nat.min_eq_left h]
  exact List.take_of_length_le (by rw [List.length_drop]; exact Nat.le_refl _)
theorem Pc.low {k : Nat} {ws : List Str} {z : Str} (bk : Book k ws) (h : Pc k ws z) : Low z := fun c hc => by
  obtain ⟨i, hi, rfl⟩ := List.mem_iff_getElem.mp hc
  have k2 := bk.n2
  have zl := h.1
  rw [← len_tl] at hi
  obtain ⟨a, a1, a2, a3⟩ : ∃ a, a + k ≤ z.length ∧ a ≤ i ∧ i < a + k := by
    by_cases c : i + k ≤ z.length
    · exact ⟨i, c, Nat.le_refl _, by omega⟩
    · exact ⟨z.length - k, by omega, by omega, by omega⟩
  have m := h.at (by omega) a1
  refine (bk.each _ m).1 _ ?_
  rw [tl_mkS]
  refine List.mem_iff_getElem?.mpr ⟨i - a, ?_⟩
  unfold Tx.cut
  rw [List.getElem?_take, if_pos (by omega), List.getElem?_drop, show a + (i - a) = i by omega, List.getElem?_eq_getElem]
theorem pc_win {k : Nat} {ws : List Str} {v : Str} (hv : v ∈ ws) (vl : v.length = k) : Pc k ws v := pc_of (by omega) fun a ha => by
  have : cut (tl v) a k = tl v := by
    unfold cut
    rw [show a = 0 by omega, List.drop_zero, List.take_of_length_le (by rw [← len_tl]; omega)]
  rw [this, mkS_tl]; exact hv
theorem joined_tai {ws : List Str} (jn : Joined ws) : ∀ v ∈ ws, taiS v ∈ ws.map iniS := fun v hv => by
  obtain ⟨u, hu, e⟩ := jn.next hv
  exact List.mem_map.mpr ⟨u, hu, e⟩
section
variable {P : Program} {w : World} {K : PySem.W.Frag} {mg : Str → Option Value} {base : Heap}
abbrev st_law_grown : Stmt := topS 51
theorem sc_law_grown : FnScope ["source", "book", "turns", "text", "out", "turn", "row", "start", "some", "good", "window", "one"] ["source", "book", "turns"] (defScope st_law_grown) := ⟨rfl, rfl, rfl, by decide +kernel, rfl, by decide +kernel, by decide +kernel⟩
theorem pl_law_grown : PlainB "_law_grown" st_law_grown ["source", "book", "turns"] := fun _ _ _ _ _ _ us hl => match us, hl with | [_, _, _], _ => rfl
def spGrown : Sp := fun vs H Q _ => ∃ (p b : Addr) (k n m : Nat) (ws : List Str), vs = [.ref p, .ref b, .int m] ∧ Src H p n ∧ n ≤ 10000000 ∧ BookAt H b k ws ∧ Book k ws ∧ ws.length ≤ 100 ∧ Joined ws ∧ m ≤ 120 ∧
  ∀ a t1 t2 H', H a = none → H' a = some (.lst ([t1, t2].map V.str)) → Pc k ws t1 → Pc k ws t2 → t1.length ≤ 120 → t2.length ≤ 120 → Src H' p (n + 400) → But p H H' → Q (.ref a) H'
theorem ok_law_grown (T : Top K mg "_law_grown" st_law_grown) (B : Bt mg) (D_law_out : Dn P w K mg base 1 "_law_out" st_law_out ["book"] spOut) (D_law_pick : Dn P w K mg base 1 "_law_pick" st_law_pick ["source", "top"] spPick)
    (D_law_is_free : Dn P w K mg base 3 "_law_is_free" st_law_is_free ["book", "piece"] spFree) (D_law_walked : Dn P w K mg base 2 "_law_walked" st_law_walked ["source", "book", "text", "size"] spWalked) :
    Dn P w K mg base 4 "_law_grown" st_law_grown ["source", "book", "turns"] spGrown := by
  refine dn_of T sc_law_grown pl_law_grown (fun vs H Q E h => ?_) fun f cdv A outer s H vs Q E hr h => ?_
  · obtain ⟨a, b, _, _, _, _, rfl, _⟩ := h; rfl
  · obtain ⟨p, b, k, n, m, ws, rfl, sr, hn, bat, bk, wl, jn, hm, q⟩ := h
    have k2 := bk.n2
    have k6 := bk.n6
    have w1 := bk.one
    have hw : ∀ x ∈ ws, x.length = k := fun x hx => (bk.each x hx).2
    obtain ⟨t, eb, et⟩ := id bat
    refine ⟨_, (pss_cons (ps_asg (pe_tup (pa_cons (pe_ix (ixTK K rfl) (pe_ix (ixTK K rfl) (pv 1) pe_int (fun _ _ => rfl)) (pe_fn D_law_pick (hr.mono (by decide)) (by rfl) (pa_cons (pv 0) (pa_cons (pe_callB (lenK K rfl) (by rfl) B.len (by decide +kernel) (pa_cons (pe_ix (ixTK K rfl) (pv 1) pe_int (fun _ _ => rfl)) pa_nil)) pa_nil))) (fun _ _ => rfl)) (pa_cons (pe_fn D_law_out (hr.mono (by decide)) (by rfl) (pa_cons (pv 1) pa_nil)) pa_nil))) (pg_tupK K rfl rfl (pgs_cons (pg_name (i := 3) sc_law_grown.nd rfl (.inr rfl)) (pgs_cons (pg_name (i := 4) sc_law_grown.nd rfl (.inl rfl)) pgs_nil))))
      (pss_cons (ps_for PassesOwn.never rfl (pi_range1 (by rfl) B.range (pa_cons (pv 2) pa_nil)) (pg_name (i := 5) sc_law_grown.nd rfl (.inl rfl)) (pss_cons (ps_setLc (i := 6) (own := [("window", 10)]) (g := gName 10) rfl sc_law_grown.nd rfl rfl (sw_true rfl rfl rfl (by decide +kernel)) (pi_list (pe_dget (hu_of hr) (pv 4) (pe_slice sl_str (pv 3) (po_some (pe_op op_sub (pe_op op_add (pe_callB call_len_str (by rfl) B.len (by decide +kernel) (pa_cons (pv 3) pa_nil)) pe_int) (pe_ix (ixTK K rfl) (pv 1) pe_int (fun _ _ => rfl)))) po_none) (fun _ _ => rfl))) (blkOk_by (N := ["source", "book", "turns", "text", "out", "turn", "row", "start", "some", "good", "window", "one"]) (sc := defScope st_law_grown) (by decide +kernel)) (fun _ _ _ _ _ => (pg_name (i := 10) sc_law_grown.nd rfl (.inl rfl))) (fun _ _ _ _ _ => pts_nil) (fun _ _ _ _ _ => (pe_op op_add_str (pv 3) (pe_ix ix_str (pv 10) (pe_un un_neg pe_int) (fun _ _ => rfl)))))
      (pss_cons (ps_set (i := 6) sc_law_grown.nd rfl (.inl rfl) (pe_op op_cat (pv 6) (pe_lc (own := [("window", 10)]) (g := gName 10) rfl sc_law_grown.nd (pi_tup (pe_ix (ixTK K rfl) (pv 1) pe_int (fun _ _ => rfl))) (blkOk_by (N := ["source", "book", "turns", "text", "out", "turn", "row", "start", "some", "good", "window", "one"]) (sc := defScope st_law_grown) (by decide +kernel)) (fun _ _ _ _ _ => (pg_name (i := 10) sc_law_grown.nd rfl (.inl rfl))) (fun _ _ _ _ _ => (pts_one (pt_cmpR op_eq (pe_slice sl_str (pv 10) (po_some pe_int) po_none) (pe_slice sl_str (pv 3) po_none (po_some (pe_op op_sub (pe_ix (ixTK K rfl) (pv 1) pe_int (fun _ _ => rfl)) pe_int))) (nomark _)))) (fun _ _ _ _ _ => (pe_op op_add_str (pe_ix ix_str (pv 10) pe_int (fun _ _ => rfl)) (pv 3))))))
      (pss_cons (ps_set (i := 7) sc_law_grown.nd rfl (.inl rfl) (pe_fn D_law_pick (hr.mono (by decide)) (by rfl) (pa_cons (pv 0) (pa_cons (pe_callB (lenK K rfl) (by rfl) B.len (by decide +kernel) (pa_cons (pv 6) pa_nil)) pa_nil))))
      (pss_cons (ps_set (i := 8) sc_law_grown.nd rfl (.inl rfl) (pe_slice (slK K rfl) (pe_op op_cat (pe_slice (slK K rfl) (pv 6) (po_some (pv 7)) po_none) (pe_slice (slK K rfl) (pv 6) po_none (po_some (pv 7)))) po_none (po_some pe_int)))
      (pss_cons (ps_setLc (i := 9) (own := [("one", 11)]) (g := gName 11) rfl sc_law_grown.nd rfl rfl (sw_true rfl rfl rfl (by decide +kernel)) (pi_list (pv 8)) (blkOk_by (N := ["source", "book", "turns", "text", "out", "turn", "row", "start", "some", "good", "window", "one"]) (sc := defScope st_law_grown) (by decide +kernel)) (fun _ _ _ _ _ => (pg_name (i := 11) sc_law_grown.nd rfl (.inl rfl))) (fun _ _ _ _ _ => (pts_one (PW.pt (pw_and (pt_cmpR op_le (pe_callB call_len_str (by rfl) B.len (by decide +kernel) (pa_cons (pv 11) pa_nil)) pe_int (nomark _)) (pw_and1 (pt_not (pt_val (pe_fn D_law_is_free (hr.mono (by decide)) (by rfl) (pa_cons (pv 1) (pa_cons (pv 11) pa_nil)))))))))) (fun _ _ _ _ _ => (pv 11)))
      (pss_cons (ps_if (pt_cmpR (eqDK K rfl hr.units) (pv 9) (pe_lst pa_nil) (nomark _)) (pss_one (ps_ret (pe_lst (pa_cons (pv 3) (pa_cons (pe_slice sl_str (pe_ix (ixK K rfl) (pv 8) pe_int (fun _ _ => rfl)) po_none (po_some pe_int)) pa_nil))))) pss_nil)
      (pss_one (ps_set (i := 3) sc_law_grown.nd rfl (.inr rfl) (pe_ix (ixK K rfl) (pv 9) pe_int (fun _ _ => rfl)))))))))))
      (pss_one (ps_ret (pe_lst (pa_cons (pv 3) (pa_cons (pe_fn D_law_walked (hr.mono (by decide)) (by rfl) (pa_cons (pv 0) (pa_cons (pv 1) (pa_cons (pv 3) (pa_cons (pe_callB (call_min2 rfl) (by rfl) B.min (by decide +kernel) (pa_cons pe_int (pa_cons (pe_op op_add (pe_callB call_len_str (by rfl) B.len (by decide +kernel) (pa_cons (pv 3) pa_nil)) pe_int) pa_nil))) pa_nil))))) pa_nil))))))), ?_⟩
    refine ⟨_, rfl, b, _, _, _, rfl, rfl, .inl (.inl eb), rfl, _, rfl, _, rfl, b, _, _, _, rfl, rfl, .inl (.inl eb), rfl, t, _, rfl, .inr (.inl (.inl et)), p, ((ws.map V.str).length : Int), n, rfl, sr, by omega, by rw [List.length_map]; omega, by rw [List.length_map]; omega, fun r1 H1 a0 a1 sr1 bt1 => ?_⟩
    obtain ⟨v0, hv0, ev0⟩ := pick_at a0 a1
    have bat1 := bat.but bt1 sr
    refine ⟨t, _, r1, _, rfl, rfl, .inl (.inl (bt1.kept et (sr.ne et))), ev0, ?_⟩
    refine ⟨_, rfl, b, k, ws, rfl, bat1, bk, wl, fun d ns H2 nd s2 nn nl mem dl => ⟨by show 2 ≤ sizeLine; decide, fun u nu => ⟨u, _, rfl, .inl (.inl upd_same), rfl, _, _, rfl, _, _, rfl, rfl, ?_⟩⟩⟩
    have s3 := s2.trans (same_upd (o := .tup [V.str v0, .ref d]) nu)
    have dl3 := dl.same (same_upd (o := .tup [V.str v0, .ref d]) nu)
    generalize upd H2 u (.tup [V.str v0, .ref d]) = H3 at s3 dl3 ⊢
    have sr3 := sr1.same s3
    have bat3 := bat1.same s3
    have B3 : But p H H3 := bt1.same s3
    refine ⟨_, rfl, m, rfl, by omega, by omega, ?_⟩
    rw [Int.toNat_natCast]
    refine for_range (n := m) (fun i σ H' => ∃ (y : Str) (o5 o6 o7 o8 o9 : Option V), σ = [some (.ref p), some (.ref b), some (.int m), some (.str y), some (.ref d), o5, o6, o7, o8, o9, none, none] ∧ Pc k ws y ∧ y.length ≤ 120 ∧ Src H' p (n + 1 + i) ∧ But p H3 H')
      ⟨v0, none, none, none, none, none, rfl, pc_win hv0 (hw _ hv0), by rw [hw _ hv0]; omega, sr3, But.refl⟩ (fun i σ H' hi ⟨y, o5, o6, o7, o8, o9, eσ, py, yl, sr', bt'⟩ => ?_) fun σ H' ⟨y, o5, o6, o7, o8, o9, eσ, py, yl, sr', bt'⟩ => ?_
    · subst eσ
      have sy : y.length ≤ sizeLine := big6 (by omega)
      have yk := py.1
      obtain ⟨fa, ed, ga⟩ := dl3.but sr3 bt'
      have bat' := bat3.but bt' sr3
      obtain ⟨t', eb', et'⟩ := id bat'
      have lm := py.last (by omega)
      obtain ⟨v1, hv1, ev1⟩ := jn.next lm
      rw [end_tai (by omega) yk] at ev1
      have pn : endS (k - 1) y ∈ ns := (mem _).mpr (List.mem_map.mpr ⟨v1, hv1, ev1⟩)
      refine ⟨_, rfl, _, rfl, _, rfl, y, rfl, sy, _, _, rfl, rfl, _, rfl, b, _, _, _, rfl, rfl, .inl (.inl eb'), rfl, _, _, rfl, rfl, _, rfl, y, rfl, sy, ?_⟩
      rw [show ((y.length : Int) + 1 - (k : Int)) = ((y.length - (k - 1) : Nat) : Int) by omega, cutS_from y _ (by omega)]
      change ∃ _ _, _ ∧ DGet _ _ (.str (endS (k - 1) y)) _ ∧ _
      have er := ga _ pn
      have b0 : 1 ≤ (begW ws (endS (k - 1) y)).length := List.length_pos_of_mem (mem_begW.mpr ⟨hv1, ev1⟩)
      have b1 : (begW ws (endS (k - 1) y)).length ≤ 100 := Nat.le_trans (List.length_filter_le ..) wl
      refine ⟨d, .ref (fa (endS (k - 1) y)), rfl, dget_of (.inl ed) (dkF_val _ pn), fa (endS (k - 1) y), rfl, ⟨_, .inl (.inl er)⟩, fun T nT => ?_⟩
      refine lc_list (a := fa (endS (k - 1) y)) (xs := (begW ws (endS (k - 1) y)).map V.str) (fun j H8 => Same H' H8 ∧ ∃ rs : List Str, H8 T = some (.lst (rs.map V.str)) ∧ rs.length = j ∧ ∀ x ∈ rs, Pc k ws x ∧ x.length = y.length + 1) ⟨same_upd nT, [], upd_same, rfl, fun x h => by cases h⟩ (fun j H8 _ h => .inl (.inl (h.1 _ _ er))) (fun j y' H8 hj ⟨s8, rs, e8, rl, r8⟩ => ?_) fun H8 ⟨s8, rs, e8, rl, r8⟩ => ?_
      · obtain ⟨v, hv, rfl⟩ := str_at hj
        have jl := (List.getElem?_eq_some_iff.mp hv).1
        obtain ⟨hvm, hve⟩ := mem_begW.mp (List.mem_of_getElem? hv)
        have vl := hw v hvm
        obtain ⟨c, hc, ec⟩ := las_at (z := v) (by omega)
        have ex : y ++ (⟨#[c]⟩ : Str) = mkS (tl y ++ lasL v) := by refine ext_tl ?_; rw [tl_append, ec]; rfl
        refine ⟨rfl, lc_yes ?_⟩
        refine ⟨_, rfl, _, rfl, _, rfl, v, _, _, rfl, rfl, big (by omega), hc, _, _, rfl, rfl, by show y.length + 1 ≤ sizeLine; exact big6 (by omega), ?_⟩
        refine ⟨_, e8, by rw [List.length_map]; exact lt_line (by omega), wr s8 nT, rs ++ [y ++ (⟨#[c]⟩ : Str)], by rw [upd_same, List.map_append]; rfl, by rw [List.length_append, rl]; rfl, fun x hx => ?_⟩
        rcases List.mem_append.mp hx with hx | hx
        · exact r8 x hx
        · rw [List.mem_singleton.mp hx]
          exact ⟨by rw [ex]; exact py.snoc (by omega) hvm vl hve, by rw [len_app]; rfl⟩
      rw [List.length_map] at rl
      have eb8 := s8 _ _ eb'
      have et8 := s8 _ _ et'
      refine ⟨_, rfl, _, rfl, b, _, _, _, rfl, rfl, .inl (.inl eb8), rfl, t', rfl, ⟨_, .inl (.inl et8)⟩, fun T2 nT2 => ?_⟩
      refine lc_tup (a := t') (xs := ws.map V.str) (fun j H9 => Same H8 H9 ∧ ∃ rs : List Str, H9 T2 = some (.lst (rs.map V.str)) ∧ rs.length ≤ j ∧ ∀ x ∈ rs, Pc k ws x ∧ x.length = y.length + 1) ⟨same_upd nT2, [], upd_same, Nat.le_refl _, fun x h => by cases h⟩ (fun j H9 _ h => .inl (.inl (h.1 _ _ et8))) (fun j y' H9 hj ⟨s9, rs, e9, rl, r9⟩ => ?_) fun H9 ⟨s9, rs2, e9, rl2, r9⟩ => ?_
      · obtain ⟨v, hv, rfl⟩ := str_at hj
        have jl := (List.getElem?_eq_some_iff.mp hv).1
        have hvm := List.mem_of_getElem? hv
        have vl := hw v hvm
        have lt0 : 0 < (tl v).length := by rw [← len_tl]; omega
        have hc : (tl v)[0]? = some (tl v)[0] := List.getElem?_eq_getElem lt0
        refine ⟨rfl, ?_⟩
        refine ⟨_, rfl, _, rfl, v, rfl, big (by omega), ?_⟩
        rw [tai_eq' (by omega)]
        refine ⟨_, rfl, ?_⟩
        dsimp only [tNoPart]
        refine ⟨_, rfl, b, _, _, _, rfl, rfl, .inl (.inl (s9 _ _ eb8)), rfl, _, _, rfl, rfl, _, rfl, y, rfl, sy, ?_⟩
        rw [show ((k : Int) - 1) = ((k - 1 : Nat) : Int) by omega, cutS_to y _ (by omega)]
        refine ⟨rfl, _, rfl, ?_⟩
        rw [str_ne]
        refine ite2 (fun c => ?_) fun c => ?_
        · have c := of_decide_eq_true c
          refine ⟨_, rfl, v, _, _, rfl, rfl, big (by omega), atI_pos (by decide) hc, _, rfl, _, _, rfl, rfl, by show 1 + y.length ≤ sizeLine; exact big6 (by omega), ?_⟩
          refine ⟨_, e9, by rw [List.length_map]; exact lt_line (by omega), wr s9 nT2, rs ++ [(⟨#[(tl v)[0]]⟩ : Str) ++ y], by rw [upd_same, List.map_append]; rfl, by rw [List.length_append]; exact Nat.add_le_add_right rl 1, fun x hx => ?_⟩
          rcases List.mem_append.mp hx with hx | hx
          · exact r9 x hx
          · rw [List.mem_singleton.mp hx]
            exact ⟨py.cons (by omega) hvm vl c hc, by rw [len_app]; show 1 + _ = _; omega⟩
        · exact ⟨s9, rs, e9, by omega, r9⟩
      rw [List.length_map] at rl2
      refine ⟨T, T2, _, _, rfl, rfl, s9 _ _ e8, e9, by rw [List.length_map, List.length_map]; exact big (by omega), fun G nG => ?_⟩
      rw [← List.map_append]
      have r10 : ∀ x ∈ rs ++ rs2, Pc k ws x ∧ x.length = y.length + 1 := fun x hx => (List.mem_append.mp hx).elim (r8 x) (r9 x)
      have rs1 : 1 ≤ (rs ++ rs2).length := by rw [List.length_append]; omega
      have rs200 : (rs ++ rs2).length ≤ 200 := by rw [List.length_append]; omega
      have s10 : Same H' (upd H9 G (.lst ((rs ++ rs2).map V.str))) := (s8.trans s9).trans (same_upd nG)
      have eG : (upd H9 G (.lst ((rs ++ rs2).map V.str))) G = some (.lst ((rs ++ rs2).map V.str)) := upd_same
      generalize rs ++ rs2 = row at r10 rs1 rs200 s10 eG ⊢
      generalize upd H9 G (.lst (row.map V.str)) = H10 at s10 eG ⊢
      clear e8 e9 r8 r9 s8 s9 et8 eb8
      have sr10 := sr'.same s10
      refine ⟨_, rfl, _, rfl, G, _, rfl, .inl (.inl (.inl eG)), p, ((row.map V.str).length : Int), _, rfl, sr10, by omega, by rw [List.length_map]; omega, by rw [List.length_map]; omega, fun r5 H11 d0 d1 sr11 bt11 => ?_⟩
      rw [List.length_map] at d1
      obtain ⟨st, est⟩ : ∃ a : Nat, r5 = (a : Int) := ⟨r5.toNat, by omega⟩
      subst est
      have eG11 := bt11.kept eG (sr10.neL eG)
      refine ⟨_, rfl, _, rfl, ?_⟩
      dsimp only [tNoPart]
      refine ⟨_, rfl, G, _, rfl, .inl (.inl eG11), fun A1 nA1 => ?_⟩
      rw [cutV_from' _ _ (by rw [List.length_map]; omega), ← List.map_drop]
      have eG12 := (same_upd (o := .lst ((row.drop st).map V.str)) nA1) _ _ eG11
      refine ⟨_, rfl, ?_⟩
      dsimp only [tNoPart]
      refine ⟨_, rfl, _, rfl, G, _, rfl, .inl (.inl eG12), fun A2 nA2 => ?_⟩
      rw [cutV_to, ← List.map_take]
      refine ⟨A1, A2, _, _, rfl, rfl, (same_upd nA2) _ _ upd_same, upd_same, by rw [List.length_map, List.length_map, List.length_drop, List.length_take]; exact big (by omega), fun A3 nA3 => ?_⟩
      rw [← List.map_append]
      have s1213 : Same H11 (upd (upd (upd H11 A1 (.lst ((row.drop st).map V.str))) A2 (.lst ((row.take st).map V.str))) A3 (.lst ((row.drop st ++ row.take st).map V.str))) := ((same_upd nA1).trans (same_upd nA2)).trans (same_upd nA3)
      have eA3 : (upd (upd (upd H11 A1 (.lst ((row.drop st).map V.str))) A2 (.lst ((row.take st).map V.str))) A3 (.lst ((row.drop st ++ row.take st).map V.str))) A3 = some (.lst ((row.drop st ++ row.take st).map V.str)) := upd_same
      have r13 : ∀ x ∈ row.drop st ++ row.take st, x ∈ row := fun x hx => (List.mem_append.mp hx).elim (fun h => List.mem_of_mem_drop h) fun h => List.mem_of_mem_take h
      have l13 : (row.drop st ++ row.take st).length = row.length := by rw [List.length_append, List.length_drop, List.length_take]; omega
      generalize row.drop st ++ row.take st = row2 at eA3 r13 l13 s1213 ⊢
      generalize upd (upd (upd H11 A1 (.lst ((row.drop st).map V.str))) A2 (.lst ((row.take st).map V.str))) A3 (.lst (row2.map V.str)) = H13 at s1213 eA3 ⊢
      dsimp only [tNoPart]
      refine ⟨_, rfl, A3, _, rfl, .inl (.inl eA3), fun S nS => ?_⟩
      rw [show cutV (row2.map V.str) none (some (3 : Int)) = (row2.map V.str).take 3 from cutV_to _ 3, ← List.map_take]
      have s14 := s1213.trans (same_upd (o := .lst ((row2.take 3).map V.str)) nS)
      have eS : (upd H13 S (.lst ((row2.take 3).map V.str))) S = some (.lst ((row2.take 3).map V.str)) := upd_same
      have r14 : ∀ x ∈ row2.take 3, Pc k ws x ∧ x.length = y.length + 1 := fun x hx => r10 x (r13 x (List.mem_of_mem_take hx))
      have l14 : 1 ≤ (row2.take 3).length ∧ (row2.take 3).length ≤ 3 := by rw [List.length_take]; omega
      generalize row2.take 3 = some3 at eS r14 l14 s14 ⊢
      generalize upd H13 S (.lst (some3.map V.str)) = H14 at s14 eS ⊢
      have sr14 := sr11.same s14
      have b14 : But p H' H14 := ((Same.but s10).trans bt11).same s14
      have bat14 := bat'.but b14 sr'
      obtain ⟨w0, hw0⟩ : ∃ w0, ws[0]? = some w0 := ⟨_, List.getElem?_eq_getElem (by omega)⟩
      refine ⟨_, rfl, S, rfl, ⟨_, .inl (.inl eS)⟩, fun Gd nGd => ?_⟩
      refine lc_list (a := S) (xs := some3.map V.str) (fun j H15 => Same H14 H15 ∧ ∃ gs : List Str, H15 Gd = some (.lst (gs.map V.str)) ∧ gs.length ≤ j ∧ ∀ x ∈ gs, Pc k ws x ∧ x.length ≤ 120) ⟨same_upd nGd, [], upd_same, Nat.le_refl _, fun x h => by cases h⟩ (fun j H15 _ h => .inl (.inl (h.1 _ _ eS))) (fun j y' H15 hj ⟨s15, gs, e15, gl, g15⟩ => ?_) fun H15 ⟨s15, gs, e15, gl, g15⟩ => ?_
      · obtain ⟨x, hx, rfl⟩ := str_at hj
        have jl := (List.getElem?_eq_some_iff.mp hx).1
        obtain ⟨px, xl⟩ := r14 x (List.mem_of_getElem? hx)
        refine ⟨rfl, ?_⟩
        refine ⟨_, rfl, x, rfl, big6 (by omega), _, _, rfl, rfl, _, rfl, ?_⟩
        refine ite2 (fun c => ?_) fun c => ?_
        · have c := of_decide_eq_true c
          refine ⟨_, rfl, _, rfl, b, k, ws, x, w0, rfl, bat14.same s15, bk, wl, px.1, by omega, joined_tai jn, hw0, fun cf ns' H16 s16 la' hcf => ⟨_, rfl, ?_⟩⟩
          cases cf with
          | true =>
            refine iteF ?_
            exact ⟨s15.trans s16, gs, s16 _ _ e15, by omega, g15⟩
          | false =>
            refine iteT ?_
            refine ⟨_, rfl, _, s16 _ _ e15, by rw [List.length_map]; exact lt_line (by omega), wr (s15.trans s16) nGd, gs ++ [x], by rw [upd_same, List.map_append]; rfl, by rw [List.length_append]; exact Nat.add_le_add_right gl 1, fun z hz => ?_⟩
            rcases List.mem_append.mp hz with hz | hz
            · exact g15 z hz
            · rw [List.mem_singleton.mp hz]; exact ⟨px, by omega⟩
        · refine iteF ?_
          exact ⟨s15, gs, e15, by omega, g15⟩
      rw [List.length_map] at gl
      have sr15 := sr14.same s15
      have b15 : But p H' H15 := b14.same s15
      have eS15 := s15 _ _ eS
      obtain ⟨s0, hs0⟩ : ∃ s0, some3[0]? = some s0 := ⟨_, List.getElem?_eq_getElem (by omega)⟩
      obtain ⟨ps0, s0l⟩ := r14 s0 (List.mem_of_getElem? hs0)
      refine ⟨_, rfl, by show 0 ≤ sizeLine; decide, fun l nl' => ⟨.list (gs.map PyData.str), .list [], dp_strs ((same_upd nl') _ _ e15), .lst (.inl (.inl upd_same)) .nil, shaped_strs fun x hx => (g15 x hx).1.low bk, by decide, _, rfl, ?_⟩⟩
      rw [show PyData.eqv (.list (gs.map PyData.str)) (.list []) = decide (gs = []) from eqv_strs gs []]
      have sr16 := sr15.new (o := .lst []) nl'
      have b16 := b15.same (same_upd (o := .lst []) nl')
      have eS16 := (same_upd (o := .lst []) nl') _ _ eS15
      have e16 := (same_upd (o := .lst []) nl') _ _ e15
      generalize upd H15 l (.lst []) = H16 at sr16 b16 eS16 e16 ⊢
      refine ite2 (fun c => ?_) fun c => ?_
      · refine ⟨_, rfl, _, rfl, S, _, 0, V.str s0, rfl, rfl, .inl (.inl eS16), atI_pos (by decide) (by show (some3.map V.str)[0]? = _; rw [List.getElem?_map, hs0]; rfl), ?_⟩
        dsimp only [tNoPart]
        refine ⟨_, rfl, s0, rfl, big6 (by omega), by show 2 ≤ sizeLine; decide, fun a na => ?_⟩
        have e60 : cutS s0 none (some (120 : Int)) = mkS ((tl s0).take (min 120 s0.length)) := by
          by_cases c60 : 120 ≤ s0.length
          · rw [Nat.min_eq_left c60]; exact cutS_to s0 120 c60
          · refine ext_tl ?_
            unfold cutS
            rw [HT.sIx_none]
            have : HT.sIx s0.length s0.length (some (120 : Int)) = s0.length := by
              have := HT.sIx_nat s0.length s0.length 120
              rw [show (some ((120 : Nat) : Int)) = some (120 : Int) from rfl] at this
              rw [this]; omega
            rw [this, Nat.min_eq_right (by omega)]
            rfl
        rw [e60]
        have e61 : (mkS ((tl s0).take (min 120 s0.length))).length = min 120 s0.length := len_take (by omega)
        refine q a y _ _ ?_ upd_same py (ps0.take (by omega) (by have := ps0.1; omega) (by omega)) (by omega) (by rw [e61]; omega) ((sr16.mono (by omega)).new na) ((B3.trans (bt'.trans b16)).mk ?_)
        · exact (B3.trans (bt'.trans b16)).free sr16.at na
        · exact (B3.trans (bt'.trans b16)).free sr16.at na
      · cases gs with
        | nil => exact absurd (decide_eq_true rfl) c
        | cons g0 gs =>
          obtain ⟨pg0, g0l⟩ := g15 g0 (List.mem_cons_self ..)
          refine ⟨_, rfl, Gd, _, 0, V.str g0, rfl, rfl, .inl (.inl e16), atI_pos (by decide) rfl, ?_⟩
          exact ⟨g0, _, _, _, _, _, rfl, pg0, g0l, sr16.mono (by omega), bt'.trans b16⟩
    · subst eσ
      have bat' := bat3.but bt' sr3
      have sy : y.length ≤ sizeLine := big6 (by omega)
      obtain ⟨sz, esz, sz2⟩ : ∃ sz : Nat, (if (y.length : Int) + 1 < 120 then (y.length : Int) + 1 else 120) = (sz : Int) ∧ sz ≤ 120 := by
        by_cases c : (y.length : Int) + 1 < 120
        · exact ⟨y.length + 1, by rw [if_pos c]; omega, by omega⟩
        · exact ⟨120, by rw [if_neg c]; rfl, by omega⟩
      refine ⟨_, rfl, _, rfl, _, rfl, _, rfl, _, rfl, y, rfl, sy, _, _, rfl, rfl, _, _, rfl, ?_⟩
      rw [esz]
      refine ⟨p, b, k, sz, _, ws, y, rfl, sr', by omega, bat', bk, wl, jn, py, by omega, by omega, fun y2 H4 py2 _ yl2 sr4 bt4 => ⟨by show 2 ≤ sizeLine; decide, fun a na => ?_⟩⟩
      have nb := (B3.trans (bt'.trans bt4)).free sr4.at na
      exact q a y y2 _ nb upd_same py py2 (by omega) (yl2.elim (fun h => by omega) fun h => by rw [h]; omega) ((sr4.mono (by omega)).new na) ((B3.trans (bt'.trans bt4)).mk nb)
end
end Tx
set_option Elab.async false
set_option linter.all false
set_option maxRecDepth 100000
set_option maxHeartbeats 4000000
namespace Tx
open PySem PySem.Spec PyProof.Rows L2 TL RZ
/-- a piece and whether it is sure -/
def DueAt (k : Nat) (ws : List Str) (H : Hp) (a : Addr) (x : Str × Bool) : Prop := H a = some (.tup [.str x.1, .bl x.2]) ∧ Pc k ws x.1 ∧ x.1.length ≤ 120 ∧ (x.2 = true ↔ NoLeav iniS taiS ws (steps k (tl x.1)))
theorem Src.neRq {H : Hp} {p a : Addr} {n : Nat} {as : List Addr} (s : Src H p n) (e : H a = some (.lst (as.map V.ref))) : a ≠ p := fun h => by
  subst h
  obtain ⟨_, _, _, e', _⟩ := s
  rw [e] at e'
  cases as with
  | nil => cases e'
  | cons a r => have := HO.lst.inj (Option.some.inj e'); cases this
def LoopL (K : PySem.W.Frag) (a : Addr) (g : TG) (tb : TS) (D : L2.Ends) (σ : L2.St) (H1 : Hp) : Prop := ∃ W : Nat → Nat → L2.St → Hp → Prop, (∃ m, W 0 m σ H1) ∧ ∀ i m σ H, W i m σ H →
    ((Itl K a).stop i H ∧ D.nx σ H) ∨ ((Itl K a).go i H ∧ ∃ N : L2.St → Hp → Prop, (∀ σ' H', N σ' H' → ∃ m', m' < m ∧ W (i + 1) m' σ' H') ∧ ∀ x H', (Itl K a).yld i H x H' → g x σ H' fun σ2 H2 => tb { D with nx := N, ct := N, bk := D.nx } σ2 H2)
theorem for_begin {K : PySem.W.Frag} {te : TE} {g : TG} {tb : TS} {D : L2.Ends} {σ : L2.St} {H : Hp} (h : te σ H fun x H1 => ∃ a, x = .ref a ∧ (∃ xs, SqL K H1 a xs) ∧ LoopL K a g tb D σ H1) : tFor (iList K te) g tb D σ H := h
theorem if_keyB {c : Bool} {ta tb : TE} {σ : L2.St} {H1 : Hp} {Q : VK} (R : VK) (key : ∀ v H, R v H → Q v H) (h1 : c = true → (∀ v H, R v H → Q v H) → ta σ H1 Q) (h2 : c = false → (∀ v H, R v H → Q v H) → tb σ H1 Q) : if c = true then ta σ H1 Q else tb σ H1 Q := by
  cases c with
  | true => exact h1 rfl key
  | false => exact h2 rfl key
section
variable {P : Program} {w : World} {K : PySem.W.Frag} {mg : Str → Option Value} {base : Heap}
abbrev st_law_same : Stmt := topS 53
theorem sc_law_same : FnScope ["told", "due"] ["told", "due"] (defScope st_law_same) := ⟨rfl, rfl, rfl, by decide +kernel, rfl, by decide +kernel, by decide +kernel⟩
theorem pl_law_same : PlainB "_law_same" st_law_same ["told", "due"] := fun _ _ _ _ _ _ us hl => match us, hl with | [_, _], _ => rfl
def spSameB : Sp := fun vs H Q _ => ∃ (c : Bool), vs = [.bl c, .bl c] ∧ Q (.bl true) H
theorem ok_law_same (T : Top K mg "_law_same" st_law_same) (B : Bt mg) : Dn P w K mg base 1 "_law_same" st_law_same ["told", "due"] spSameB := by
  refine dn_of T sc_law_same pl_law_same (fun vs H Q E h => ?_) fun f cdv A outer s H vs Q E hr h => ?_
  · obtain ⟨_, rfl, _⟩ := h; rfl
  · obtain ⟨c, rfl, q⟩ := h
    refine ⟨_, (pss_one (ps_ret (pe_cmpR op_eq (pe_callB cr_reprB (by rfl) B.repr (by decide +kernel) (pa_cons (pv 0) pa_nil)) (pe_callB cr_reprB (by rfl) B.repr (by decide +kernel) (pa_cons (pv 1) pa_nil)) (nomark _)))), ?_⟩
    refine ⟨_, rfl, c, rfl, ?_⟩
    refine ⟨_, rfl, c, rfl, rfl, ?_⟩
    rw [decide_eq_true rfl]
    exact q
abbrev st_law : Stmt := topS 54
theorem sc_law : FnScope ["script", "k", "source", "size", "ring", "book", "asked", "pieces", "piece", "due", "told", "turn"] ["script"] (defScope st_law) := ⟨rfl, rfl, rfl, by decide +kernel, rfl, by decide +kernel, by decide +kernel⟩
theorem pl_law : PlainB "law" st_law ["script"] := fun _ _ _ _ _ _ us hl => match us, hl with | [_], _ => rfl
def g_kb_is_sure_piece_book {A : Type} : List A → List A → List A | [], [v0, v1] => [v1, v0] | _, _ => []
theorem kb_is_sure_piece_book {K : PySem.W.Frag} : ∀ fd, (∃ kV doc pm an cdv ct, fd = PySem.W.fnOf "is_sure" "is_sure" (defArgs st_is_sure) (defBody st_is_sure) (defScope st_is_sure) .none kV doc pm an cdv ct) → KBinds K fd ["book", "piece"] ["piece", "book"] g_kb_is_sure_piece_book g_kb_is_sure_piece_book := by
  rintro fd ⟨kV, doc, pm, an, cdv, ct, rfl⟩
  refine ⟨fun s us ws _ hl => ?_, fun r q => ?_⟩
  · match us, ws, hl with
    | [], [_, _], _ => exact .of_eq rfl
  · match r, q with
    | .nil, (.cons a0 (.cons a1 .nil)) => exact (.cons a1 (.cons a0 .nil))
    | .nil, .nil => exact .nil
    | .nil, (.cons _ .nil) => exact .nil
    | .nil, (.cons _ (.cons _ (.cons _ _))) => exact .nil
    | .cons _ _, _ => exact .nil
def spLaw (K : PySem.W.Frag) : Sp := fun vs H Q _ => ∃ (a : Addr) (ns : List Int), vs = [.ref a] ∧ SqL K H a (ns.map V.int) ∧ ns.length ≤ 63 ∧ ∀ H', Q (.bl true) H'
theorem ok_law (T : Top K mg "law" st_law) (B : Bt mg) (D_law_source : Dn P w K mg base 1 "_law_source" st_law_source ["script", "k"] (spSource K)) (D_law_size : Dn P w K mg base 2 "_law_size" st_law_size ["source"] spLSize)
    (D_law_ring : Dn P w K mg base 3 "_law_ring" st_law_ring ["source", "size"] spLRing) (D_law_book : Dn P w K mg base 2 "_law_book" st_law_book ["size", "ring"] spLBook) (D_law_pick : Dn P w K mg base 1 "_law_pick" st_law_pick ["source", "top"] spPick)
    (D_law_piece : Dn P w K mg base 3 "_law_piece" st_law_piece ["source", "book", "ring"] spPiece) (D_law_long : Dn P w K mg base 3 "_law_long" st_law_long ["source", "book", "ring"] spPiece) (D_law_grown : Dn P w K mg base 4 "_law_grown" st_law_grown ["source", "book", "turns"] spGrown)
    (D_law_is_free : Dn P w K mg base 3 "_law_is_free" st_law_is_free ["book", "piece"] spFree) (D_is_sure : Dn P w K mg base 9 "is_sure" st_is_sure ["book", "piece"] spSure) (D_law_same : Dn P w K mg base 1 "_law_same" st_law_same ["told", "due"] spSameB) :
    Dn P w K mg base 10 "law" st_law ["script"] (spLaw K) := by
  refine dn_of T sc_law pl_law (fun vs H Q E h => ?_) fun f cdv A outer s H vs Q E hr h => ?_
  · obtain ⟨a, _, rfl, _⟩ := h; rfl
  · obtain ⟨a, ns, rfl, sq, hn, q⟩ := h
    refine ⟨_, (pss_cons (ps_for PassesOwn.never rfl (pi_range1 (by rfl) B.range (pa_cons (pe_callB (call_max2 rfl) (by rfl) B.max (by decide +kernel) (pa_cons pe_int (pa_cons (pe_callB (call_min2 rfl) (by rfl) B.min (by decide +kernel) (pa_cons pe_int (pa_cons (pe_callB (lenK K rfl) (by rfl) B.len (by decide +kernel) (pa_cons (pv 0) pa_nil)) pa_nil))) pa_nil))) pa_nil)) (pg_name (i := 1) sc_law.nd rfl (.inl rfl)) (pss_cons (ps_set (i := 2) sc_law.nd rfl (.inr rfl) (pe_fn D_law_source (hr.mono (by decide)) (by rfl) (pa_cons (pv 0) (pa_cons (pv 1) pa_nil))))
      (pss_cons (ps_set (i := 3) sc_law.nd rfl (.inl rfl) (pe_fn D_law_size (hr.mono (by decide)) (by rfl) (pa_cons (pv 2) pa_nil)))
      (pss_cons (ps_set (i := 4) sc_law.nd rfl (.inr rfl) (pe_fn D_law_ring (hr.mono (by decide)) (by rfl) (pa_cons (pv 2) (pa_cons (pv 3) pa_nil))))
      (pss_cons (ps_asg (pe_tup (pa_cons (pe_fn D_law_book (hr.mono (by decide)) (by rfl) (pa_cons (pv 3) (pa_cons (pv 4) pa_nil))) (pa_cons (pe_lst pa_nil) pa_nil))) (pg_tupK K rfl rfl (pgs_cons (pg_name (i := 5) sc_law.nd rfl (.inr rfl)) (pgs_cons (pg_name (i := 6) sc_law.nd rfl (.inl rfl)) pgs_nil))))
      (pss_cons (ps_setLc (i := 7) (own := [("turn", 11)]) (g := gName 11) rfl sc_law.nd rfl rfl (sw_true rfl rfl rfl (by decide +kernel)) (pi_range1 (by rfl) B.range (pa_cons (pe_op op_add pe_int (pe_fn D_law_pick (hr.mono (by decide)) (by rfl) (pa_cons (pv 2) (pa_cons pe_int pa_nil)))) pa_nil)) (blkOk_by (N := ["script", "k", "source", "size", "ring", "book", "asked", "pieces", "piece", "due", "told", "turn"]) (sc := defScope st_law) (by decide +kernel)) (fun _ _ _ _ _ => (pg_name (i := 11) sc_law.nd rfl (.inl rfl))) (fun _ _ _ _ _ => pts_nil) (fun _ _ _ _ _ => (pe_fn D_law_piece (hr.mono (by decide)) (by rfl) (pa_cons (pv 2) (pa_cons (pv 5) (pa_cons (pv 4) pa_nil))))))
      (pss_cons (ps_if (pt_cmpR op_eq (pe_fn D_law_pick (hr.mono (by decide)) (by rfl) (pa_cons (pv 2) (pa_cons pe_int pa_nil))) pe_int (nomark _)) (pss_one (ps_set (i := 7) sc_law.nd rfl (.inl rfl) (pe_op op_cat (pv 7) (pe_lst (pa_cons (pe_fn D_law_long (hr.mono (by decide)) (by rfl) (pa_cons (pv 2) (pa_cons (pv 5) (pa_cons (pv 4) pa_nil)))) (pa_cons (pe_fn D_law_long (hr.mono (by decide)) (by rfl) (pa_cons (pv 2) (pa_cons (pv 5) (pa_cons (pv 4) pa_nil)))) pa_nil)))))) pss_nil)
      (pss_cons (ps_for PassesOwn.never rfl (pi_list (pe_op op_cat (pv 7) (pe_fn D_law_grown (hr.mono (by decide)) (by rfl) (pa_cons (pv 2) (pa_cons (pv 5) (pa_cons (pe_ix (ixK K rfl) (pe_lst (pa_cons pe_int (pa_cons pe_int (pa_cons pe_int (pa_cons pe_int (pa_cons pe_int (pa_cons pe_int (pa_cons pe_int (pa_cons pe_int pa_nil))))))))) (pe_fn D_law_pick (hr.mono (by decide)) (by rfl) (pa_cons (pv 2) (pa_cons pe_int pa_nil))) (fun _ _ => rfl)) pa_nil)))))) (pg_name (i := 8) sc_law.nd rfl (.inl rfl)) (pss_cons (ps_set (i := 9) sc_law.nd rfl (.inl rfl) (pe_not (pe_fn D_law_is_free (hr.mono (by decide)) (by rfl) (pa_cons (pv 5) (pa_cons (pv 8) pa_nil)))))
      (pss_cons (ps_set (i := 10) sc_law.nd rfl (.inl rfl) (pe_ifExp (pt_cmpR op_eq (pe_fn D_law_pick (hr.mono (by decide)) (by rfl) (pa_cons (pv 2) (pa_cons pe_int pa_nil))) pe_int (nomark _)) (pe_fnK D_is_sure (hr.mono (by decide)) (by rfl) (pk_cons (pv 8) (pk_cons (pv 5) pk_nil)) kb_is_sure_piece_book) (pe_fn D_is_sure (hr.mono (by decide)) (by rfl) (pa_cons (pv 5) (pa_cons (pv 8) pa_nil)))))
      (pss_cons (ps_if (pt_not (pt_val (pe_fn D_law_same (hr.mono (by decide)) (by rfl) (pa_cons (pv 10) (pa_cons (pv 9) pa_nil))))) (pss_one (ps_ret pe_bl)) pss_nil)
      (pss_one (ps_expr (pe_bm PySem.F.plainAttrs_list PySem.F.slot_list_append PySem.F.type_list_append mt_append (pv 6) (pa_cons (pe_tup (pa_cons (pv 8) (pa_cons (pv 9) pa_nil))) pa_nil))))))))
      (pss_one (ps_for PassesOwn.never rfl (pi_list (pe_revL (pv 6))) (pg_tupK K rfl rfl (pgs_cons (pg_name (i := 8) sc_law.nd rfl (.inl rfl)) (pgs_cons (pg_name (i := 9) sc_law.nd rfl (.inl rfl)) pgs_nil))) (pss_one (ps_if (pt_not (pt_val (pe_fn D_law_same (hr.mono (by decide)) (by rfl) (pa_cons (pe_fn D_is_sure (hr.mono (by decide)) (by rfl) (pa_cons (pv 5) (pa_cons (pv 8) pa_nil))) (pa_cons (pv 9) pa_nil))))) (pss_one (ps_ret pe_bl)) pss_nil))))))))))))
      (pss_one (ps_ret pe_bl))), ?_⟩
    refine ⟨_, rfl, a, _, rfl, .inl sq, _, _, rfl, _, _, rfl, ?_⟩
    obtain ⟨n, en, hn3⟩ : ∃ n : Nat, (if (if ((ns.map V.int).length : Int) < 3 then ((ns.map V.int).length : Int) else 3) > 1 then (if ((ns.map V.int).length : Int) < 3 then ((ns.map V.int).length : Int) else 3) else 1) = (n : Int) ∧ n ≤ 3 := by
      rw [List.length_map]
      refine ⟨(if (if (ns.length : Int) < 3 then (ns.length : Int) else 3) > 1 then (if (ns.length : Int) < 3 then (ns.length : Int) else 3) else 1).toNat, ?_, ?_⟩ <;> split <;> split <;> omega
    refine ⟨(n : Int), congrArg (fun x => [V.int x]) en, by omega, by omega, ?_⟩
    rw [Int.toNat_natCast]
    refine for_range (fun i σ H' => Same H H' ∧ ∃ (o1 o2 o3 o4 o5 o6 o7 o8 o9 o10 : Option V), σ = [some (.ref a), o1, o2, o3, o4, o5, o6, o7, o8, o9, o10, none]) ⟨Same.refl _, _, _, _, _, _, _, _, _, _, _, rfl⟩ (fun i σ H' hi ⟨sm, o1, o2, o3, o4, o5, o6, o7, o8, o9, o10, eσ⟩ => ?_) fun σ H' ⟨sm, _, _, _, _, _, _, _, _, _, _, eσ⟩ => ?_
    · subst eσ
      refine ⟨_, rfl, _, rfl, a, ns, i, ?_, sm.seq sq, hn, by omega, fun p H1 np1 s1 sr1 => ?_⟩
      · show [V.ref a, V.int (0 + (i : Int))] = [V.ref a, V.int (i : Int)]
        rw [show ((0 : Int) + (i : Int)) = (i : Int) by omega]
      have np : H p = none := sm.free np1
      have sm1 := sm.trans s1
      have keep : ∀ {Ha Hb : Hp}, Same H Ha → But p Ha Hb → Same H Hb := fun sa bt b o e => bt b o (sa b o e) (ne_of_none e np)
      refine ⟨_, rfl, p, 0, rfl, sr1, by omega, fun k H2 k2 k6 sr2 bt2 => ?_⟩
      have sm2 := keep sm1 bt2
      refine ⟨_, rfl, _, rfl, p, k, _, rfl, sr2, by omega, k2, k6, fun z H3 lz z1 z2 few sr3 bt3 => ?_⟩
      have sm3 := keep sm2 bt3
      refine ⟨_, rfl, _, rfl, k, z, rfl, k2, k6, lz, z1, by omega, fun b ws H4 nb s4 bat bk up => ⟨by show 0 ≤ sizeLine; decide, fun A nA => ⟨by show 2 ≤ sizeLine; decide, fun u nu => ⟨u, _, rfl, .inl (.inl upd_same), rfl, _, _, rfl, _, _, rfl, rfl, ?_⟩⟩⟩⟩
      have hl : 0 < (tl z).length := by rw [← len_tl]; omega
      have wl : ws.length ≤ 40 := few ws up
      have all : ∀ v ∈ turns k (tl z), v ∈ ws := fun v hv => (up.2.2.1 v).mpr hv
      have all' : ∀ v ∈ ws, v ∈ turns k (tl z) := fun v hv => (up.2.2.1 v).mp hv
      have R0 : RingIn k ws [] (tl z) := ⟨hl, all, fun _ h => by cases h⟩
      have jn : Joined ws := (joined_reads bk).2 (tl z) R0 all'
      have nAH : H A = none := (sm3.trans s4).free nA
      have s5 := (same_upd (o := .lst []) nA).trans (same_upd (o := .tup [V.ref b, .ref A]) nu)
      have sm5 := (sm3.trans s4).trans s5
      have sr5 := (sr3.same s4).same s5
      have bat5 := bat.same s5
      have eA5 : (upd (upd H4 A (.lst [])) u (.tup [V.ref b, .ref A])) A = some (.lst []) := (same_upd nu) _ _ upd_same
      generalize upd (upd H4 A (.lst [])) u (.tup [V.ref b, .ref A]) = H5 at sm5 sr5 bat5 eA5 ⊢
      clear s5 nu nA s4 bt2 bt3 sr2 sr3 sr1 s1
      have Ap : A ≠ p := sr5.neRq (as := []) eA5
      refine ⟨_, rfl, p, 5, _, rfl, sr5, by omega, by decide, by decide, fun r5 H6 a0 a1 sr6 bt6 => ⟨_, _, rfl, rfl, _, rfl, by omega, by omega, fun D hD => ?_⟩⟩
      have bat6 := bat5.but bt6 sr5
      have eA6 := bt6.kept eA5 Ap
      have sm6 := keep sm5 bt6
      obtain ⟨oo, eoo⟩ := id sr6.at
      have Dp : D ≠ p := (ne_of_none eoo hD).symm
      have DA : D ≠ A := (ne_of_none eA6 hD).symm
      refine lc_range (fun j H' => Src H' p (2000 + 400 * j) ∧ But p H6 H' ∧ ∃ ps : List Str, H' D = some (.lst (ps.map V.str)) ∧ ps.length = j ∧ ∀ x ∈ ps, Pc k ws x ∧ x.length ≤ 120) ⟨(sr6.new hD).mono (by omega), But.refl.mk hD, [], upd_same, rfl, fun x h => by cases h⟩ (fun j H' hj ⟨sr', bt', ps, eD, pl, hps⟩ => ?_) fun H7 ⟨sr7, bt7, ps, eD7, pl7, hps7⟩ => ?_
      · refine ⟨rfl, lc_yes ?_⟩
        refine ⟨_, rfl, _, rfl, _, rfl, p, b, k, _, ws, z, rfl, sr', by omega, bat6.but bt' sr6, bk, by omega, jn, z1, z2, all, fun y H'' py yl sr'' bt'' => ?_⟩
        refine ⟨_, bt''.kept eD Dp, by rw [List.length_map]; exact lt_line (by omega), (sr''.mono (by omega)).set Dp, (bt'.trans bt'').mk hD, ps ++ [y], by rw [upd_same, List.map_append]; rfl, by rw [List.length_append, pl]; rfl, fun x hx => ?_⟩
        rcases List.mem_append.mp hx with hx | hx
        · exact hps x hx
        · rw [List.mem_singleton.mp hx]; exact ⟨py, yl⟩
      have bat7 := bat6.but bt7 sr6
      have eA7 := bt7.kept eA6 Ap
      have sm7 := keep sm6 bt7
      dsimp only [gName]
      refine seq_if (fun σ H' => ∃ (D : Addr) (ps : List Str), σ = [some (.ref a), some (.int (0 + (i : Int))), some (.ref p), some (.int k), some (.str z), some (.ref b), some (.ref A), some (.ref D), o8, o9, o10, none] ∧ Same H H' ∧ Src H' p 6000 ∧ BookAt H' b k ws ∧ H' A = some (.lst []) ∧ H' D = some (.lst (ps.map V.str)) ∧ D ≠ p ∧ ps.length ≤ 7 ∧ ∀ x ∈ ps, Pc k ws x ∧ x.length ≤ 120) ?rest fun kk => ?now
      case now =>
        refine ⟨_, rfl, p, 4, _, rfl, sr7, by omega, by decide, by decide, fun r8 H8 c0 c1 sr8 bt8 => ⟨rfl, _, rfl, ?_⟩⟩
        have bat8 := bat7.but bt8 sr7
        have eA8 := bt8.kept eA7 Ap
        have eD8 := bt8.kept eD7 Dp
        have sm8 := keep sm7 bt8
        refine ite2 (fun _ => ?_) fun _ => ?_
        · refine ⟨_, rfl, _, rfl, _, rfl, _, rfl, p, b, k, _, ws, z, rfl, sr8, by omega, bat8, bk, by omega, jn, z1, z2, all, fun y H9 py yl sr9 bt9 => ?_⟩
          have sm9 := keep sm8 bt9
          have bat9 := bat8.but bt9 sr8
          refine ⟨_, rfl, _, rfl, _, rfl, p, b, k, _, ws, z, rfl, sr9, by omega, bat9, bk, by omega, jn, z1, z2, all, fun y2 H10 py2 yl2 sr10 bt10 => ⟨by show 2 ≤ sizeLine; decide, fun L nL => ?_⟩⟩
          have sm10 := keep sm9 bt10
          have bat10 := bat9.but bt10 sr9
          have eD10 := bt10.kept (bt9.kept eD8 Dp) Dp
          have eA10 := bt10.kept (bt9.kept eA8 Ap) Ap
          have sL : Same H10 (upd H10 L (.lst [V.str y, V.str y2])) := same_upd nL
          have eL : (upd H10 L (.lst [V.str y, V.str y2])) L = some (.lst ([y, y2].map V.str)) := upd_same
          generalize upd H10 L (.lst [V.str y, V.str y2]) = H11 at sL eL ⊢
          refine ⟨D, L, _, _, rfl, rfl, sL _ _ eD10, eL, by rw [List.length_map]; exact big6 (by show ps.length + 2 ≤ _; omega), fun G nG => ?_⟩
          have sG : Same H11 (upd H11 G (.lst (ps.map V.str ++ [y, y2].map V.str))) := same_upd nG
          have eG : (upd H11 G (.lst (ps.map V.str ++ [y, y2].map V.str))) G = some (.lst ((ps ++ [y, y2]).map V.str)) := by rw [upd_same, List.map_append]
          have sLG := sL.trans sG
          obtain ⟨o11, eo11⟩ := id (sr10.same sL).at
          have Gp : G ≠ p := (ne_of_none eo11 nG).symm
          generalize upd H11 G (.lst (ps.map V.str ++ [y, y2].map V.str)) = H12 at sG eG sLG ⊢
          refine kk _ _ ⟨G, ps ++ [y, y2], rfl, sm10.trans sLG, (sr10.same sLG).mono (by omega), bat10.same sLG, sLG _ _ eA10, eG, Gp, by rw [List.length_append]; show ps.length + 2 ≤ 7; omega, fun x hx => ?_⟩
          rcases List.mem_append.mp hx with hx | hx
          · exact hps7 x hx
          · rcases List.mem_cons.mp hx with hx | hx
            · rw [hx]; exact ⟨py, yl⟩
            · rw [List.mem_singleton.mp hx]; exact ⟨py2, yl2⟩
        · exact kk _ _ ⟨D, ps, rfl, sm8, sr8.mono (by omega), bat8, eA8, eD8, Dp, by omega, hps7⟩
      case rest =>
      clear hps7 pl7 eD7 sr7 bt7 bat7 eA7 sm7 ps
      rintro σ7 H7' ⟨D, ps, rfl, sm7, sr7, bat7, eA7, eD7, Dp, pl7, hps7⟩
      refine for_begin ?_
      refine ⟨_, rfl, _, rfl, _, rfl, by show 8 ≤ sizeLine; decide, fun m nm => ⟨_, rfl, p, 8, _, rfl, sr7.new nm, by omega, by decide, by decide, fun r8 H8 c0 c1 sr8 bt8 => ?_⟩⟩
      obtain ⟨oo7, eoo7⟩ := id sr7.at
      have mp : m ≠ p := (ne_of_none eoo7 nm).symm
      have em := bt8.kept (upd_same (H := H7') (a := m) (o := .lst ([3, 3, 8, 8, 20, 20, 60, 110].map fun k => V.int (k : Nat)))) mp
      obtain ⟨x, hx, ex⟩ := num_at (l := [3, 3, 8, 8, 20, 20, 60, 110]) c0 c1
      have x20 : x ≤ 110 := (by decide : ∀ k ∈ [3, 3, 8, 8, 20, 20, 60, 110], k ≤ 110) x hx
      have sm8 := keep (sm7.trans (same_upd nm)) bt8
      have bat8 := (bat7.same (same_upd nm)).but bt8 (sr7.new nm)
      have eA8 := bt8.kept ((same_upd nm) _ _ eA7) Ap
      have eD8 := bt8.kept ((same_upd nm) _ _ eD7) Dp
      refine ⟨m, _, r8, _, rfl, rfl, .inl (.inl em), ex, p, b, k, _, x, ws, rfl, sr8, by omega, bat8, bk, by omega, jn, by omega, fun g t1 t2 H9 ng eg p1 p2 l1 l2 sr9 bt9 => ?_⟩
      refine ⟨D, g, _, _, rfl, rfl, bt9.kept eD8 Dp, eg, by rw [List.length_map, List.length_map]; exact big (by show ps.length + 2 ≤ 3000; omega), fun L nL => ?_⟩
      rw [← List.map_append]
      have hqs : ∀ x ∈ ps ++ [t1, t2], Pc k ws x ∧ x.length ≤ 120 := fun x hx => by
        rcases List.mem_append.mp hx with hx | hx
        · exact hps7 x hx
        · rcases List.mem_cons.mp hx with hx | hx
          · rw [hx]; exact ⟨p1, l1⟩
          · rw [List.mem_singleton.mp hx]; exact ⟨p2, l2⟩
      have ql : (ps ++ [t1, t2]).length ≤ 9 := by rw [List.length_append]; show ps.length + 2 ≤ 9; omega
      generalize ps ++ [t1, t2] = qs at hqs ql ⊢
      have eL : (upd H9 L (.lst (qs.map V.str))) L = some (.lst (qs.map V.str)) := upd_same
      have eA9 := (same_upd (o := .lst (qs.map V.str)) nL) _ _ (bt9.kept eA8 Ap)
      have sm9 := (keep sm8 bt9).trans (same_upd (o := .lst (qs.map V.str)) nL)
      have bat9 := (bat8.but bt9 sr8).same (same_upd (o := .lst (qs.map V.str)) nL)
      have sr9' := sr9.new (o := .lst (qs.map V.str)) nL
      have LA : L ≠ A := (ne_of_none (bt9.kept eA8 Ap) nL).symm
      obtain ⟨oo9, eoo9⟩ := id sr9.at
      have Lp : L ≠ p := (ne_of_none eoo9 nL).symm
      generalize upd H9 L (.lst (qs.map V.str)) = H10 at eL eA9 sm9 bat9 sr9' ⊢
      obtain ⟨w0, hw0⟩ : ∃ w0, ws[0]? = some w0 := ⟨_, List.getElem?_eq_getElem bk.one⟩
      refine ⟨L, rfl, ⟨_, .inl (.inl eL)⟩, ?_⟩
      refine for_list (K := K) (a := L) (xs := qs.map V.str) (fun j σ H' => ∃ (as : List Addr) (o8 o9 o10 : Option V), σ = [some (.ref a), some (.int (0 + (i : Int))), some (.ref p), some (.int k), some (.str z), some (.ref b), some (.ref A), some (.ref D), o8, o9, o10, none] ∧ Same H H' ∧ Src H' p (9000 + j) ∧ BookAt H' b k ws ∧ H' L = some (.lst (qs.map V.str)) ∧ H' A = some (.lst (as.map V.ref)) ∧ (∀ u ∈ as, ∃ x, DueAt k ws H' u x) ∧ as.length ≤ j)
        ⟨[], _, _, _, rfl, sm9, sr9'.mono (by omega), bat9, eL, eA9, (fun _ h => by cases h), Nat.le_refl _⟩ (fun _ _ _ _ ⟨_, _, _, _, _, _, _, _, h, _⟩ => .inl (.inl h)) (fun j y σ H11 hj ⟨as, o8, o9, o10, eσ, sm11, sr11, bat11, eL11, eA11, rl, al⟩ => ?_) fun σ H11 ⟨as, o8, o9, o10, eσ, sm11, sr11, bat11, eL11, eA11, rl, al⟩ => ?_
      · subst eσ
        obtain ⟨x, hx, rfl⟩ := str_at hj
        obtain ⟨px, xl⟩ := hqs x (List.mem_of_getElem? hx)
        have jl := (List.getElem?_eq_some_iff.mp hx).1
        dsimp only [gName]
        refine ⟨_, rfl, _, rfl, b, k, ws, x, w0, rfl, bat11, bk, by omega, px.1, by omega, joined_tai jn, hw0, fun c ns' H12 s12 la hc => ⟨c, rfl, ?_⟩⟩
        have M : Mach k ws [x] := ⟨bk.n2, fun v hv => (bk.each v hv).2, fun q hq => by rw [List.mem_singleton.mp hq]; exact px.1⟩
        have fs' := free_sure M (fun v hv => (bk.each v hv).1) (List.mem_of_getElem? hw0) (la.kset (joined_tai jn)) px.2 R0 all'
        have due : (!c) = true ↔ NoLeav iniS taiS ws (steps k (tl x)) := by
          have := hc.trans fs'
          cases c with
          | true => exact ⟨fun h => (by cases h), fun h => absurd h (this.mp rfl)⟩
          | false => exact ⟨fun _ => Classical.byContradiction fun no => (by cases this.mpr no), fun _ => rfl⟩
        generalize (!c) = d at due ⊢
        dsimp only [gName]
        refine ⟨_, rfl, p, 2, _, rfl, sr11.same s12, by omega, by decide, by decide, fun r9 H13 d0 d1 sr13 bt13 => ⟨rfl, _, rfl, ?_⟩⟩
        have bat13 := (bat11.same s12).but bt13 (sr11.same s12)
        refine if_keyB (fun v H' => v = .bl d ∧ Same H13 H') (fun v H14 ⟨ev, s14⟩ => ?_)
          (fun _ key => ⟨_, rfl, _, rfl, b, k, ws, x, rfl, bat13, bk, by omega, jn, px, by omega, fun c1 H14 s14 hc1 => key _ _ ⟨congrArg V.bl (Bool.eq_iff_iff.mpr (hc1.trans due.symm)), s14⟩⟩)
          fun _ key => ⟨_, rfl, _, rfl, b, k, ws, x, rfl, bat13, bk, by omega, jn, px, by omega, fun c1 H14 s14 hc1 => key _ _ ⟨congrArg V.bl (Bool.eq_iff_iff.mpr (hc1.trans due.symm)), s14⟩⟩
        subst ev
        dsimp only [gName]
        refine ⟨_, rfl, _, rfl, d, rfl, true, rfl, ?_⟩
        refine iteF ?_
        dsimp only [tNext]
        have eA14 := s14 _ _ (bt13.kept (s12 _ _ eA11) Ap)
        refine ⟨_, rfl, .inl ⟨rfl, _, .inl (.inl eA14)⟩, _, rfl, _, rfl, by show 2 ≤ sizeLine; decide, fun u nu => ?_⟩
        have su : Same H14 (upd H14 u (.tup [V.str x, .bl d])) := same_upd nu
        have eu : (upd H14 u (.tup [V.str x, .bl d])) u = some (.tup [V.str x, .bl d]) := upd_same
        generalize upd H14 u (.tup [V.str x, .bl d]) = H15 at su eu ⊢
        have s15 := s14.trans su
        have eA15 := su _ _ eA14
        refine ⟨A, _, _, rfl, rfl, eA15, by rw [List.length_map]; exact lt_line (by omega), ?_⟩
        have ntA := nt_lst eA15
        have sm15 := (keep (sm11.trans s12) bt13).trans s15
        refine ⟨as ++ [u], _, _, _, rfl, wr sm15 nAH, ((sr13.same s15).mono (by omega)).set Ap, ?_, keep_ne (s15 _ _ (bt13.kept (s12 _ _ eL11) Lp)) LA, by rw [upd_same, List.map_append]; rfl, fun v hv => ?_, by rw [List.length_append]; exact Nat.add_le_add_right al 1⟩
        · obtain ⟨t, e1, e2⟩ := bat13.same s15
          exact ⟨t, keep_ne e1 fun e => ntA _ (e ▸ e1), keep_ne e2 fun e => ntA _ (e ▸ e2)⟩
        · rcases List.mem_append.mp hv with hv | hv
          · obtain ⟨y, e1, r⟩ := rl v hv
            have e2 := s15 _ _ (bt13.kept (s12 _ _ e1) (sr11.ne e1))
            exact ⟨y, keep_ne e2 fun e => ntA _ (e ▸ e2), r⟩
          · rw [List.mem_singleton.mp hv]
            exact ⟨(x, d), keep_ne eu fun e => ntA _ (e ▸ eu), px, xl, due⟩
      · subst eσ
        rw [List.length_map] at al
        dsimp only
        refine for_begin ?_
        refine ⟨_, rfl, A, _, rfl, .inl (.inl eA11), fun R nR => ?_⟩
        have s12 : Same H11 (upd H11 R (.lst (as.map V.ref).reverse)) := same_upd nR
        have eR : (upd H11 R (.lst (as.map V.ref).reverse)) R = some (.lst (as.reverse.map V.ref)) := by rw [upd_same, List.map_reverse]
        generalize upd H11 R (.lst (as.map V.ref).reverse) = H12 at s12 eR ⊢
        have bat12 := bat11.same s12
        have sm12 := sm11.trans s12
        refine ⟨R, rfl, ⟨_, .inl (.inl eR)⟩, ?_⟩
        refine for_list (K := K) (a := R) (xs := as.reverse.map V.ref) (fun j σ H' => ∃ (o8 o9 : Option V), σ = [some (.ref a), some (.int (0 + (i : Int))), some (.ref p), some (.int k), some (.str z), some (.ref b), some (.ref A), some (.ref D), o8, o9, o10, none] ∧ Same H12 H')
          ⟨_, _, rfl, .refl _⟩ (fun _ _ _ _ ⟨_, _, _, h⟩ => .inl (.inl (h _ _ eR))) (fun j y σ H13 hj ⟨o8, o9, eσ, s13⟩ => ?_) fun σ H13 ⟨o8, o9, eσ, s13⟩ => ?_
        · subst eσ
          obtain ⟨ay, hay, rfl⟩ := ref_at hj
          obtain ⟨x, e1, px, xl, due⟩ := rl ay (List.mem_reverse.mp (List.mem_of_getElem? hay))
          refine ⟨ay, _, rfl, .inl (.inl (s13 _ _ (s12 _ _ e1))), rfl, _, _, rfl, _, _, rfl, rfl, ?_⟩
          refine ⟨_, rfl, _, rfl, b, k, ws, x.1, rfl, bat12.same s13, bk, by omega, jn, px, by omega, fun c1 H14 s14 hc1 => ?_⟩
          obtain rfl : c1 = x.2 := Bool.eq_iff_iff.mpr (hc1.trans due.symm)
          refine ⟨_, rfl, x.2, rfl, true, rfl, ?_⟩
          refine iteF ?_
          exact ⟨_, _, rfl, s13.trans s14⟩
        · subst eσ
          exact ⟨sm12.trans s13, _, _, _, _, _, _, _, _, _, _, rfl⟩
    · subst eσ
      exact q H'
end
end Tx

set_option Elab.async false
set_option linter.all false
set_option maxRecDepth 100000
namespace Tx
open PySem PySem.Spec PyProof.Rows L2 TL
theorem fun_one {K : PySem.W.Frag} {x q : Str} {st : Stmt} {f : Addr} {fd fd' : FuncData} (F : Fun K x q st f fd) (F' : Fun K x q st f fd') : fd = fd' := by
  obtain ⟨_, _, _, _, _, _, _, _, _, _, l, _⟩ := F.ex
  obtain ⟨_, _, _, _, _, _, _, _, _, _, l', _⟩ := F'.ex
  rw [l] at l'
  injection l' with e
  injection e with e1 e2 e3 e4
  injection e3
theorem all_ok {l : PySem.W.OpenLaw} {w : World} {K : PySem.W.Frag} {h : Heap} {mg : Str → Option Value} {fa : Addr} (X : K.In h) (G : h.Ns mainGlobals mg) (hfa : mg "law" = some (.ref fa)) (B : Bt mg)
    (T_is_whole : Top K mg "is_whole" st_is_whole) (T_is_letters : Top K mg "is_letters" st_is_letters) (T_steps_of : Top K mg "steps_of" st_steps_of) (T_is_size : Top K mg "is_size" st_is_size) (T_is_ascending : Top K mg "is_ascending" st_is_ascending) (T_is_windows : Top K mg "is_windows" st_is_windows) (T_is_book : Top K mg "is_book" st_is_book) (T_check_book : Top K mg "check_book" st_check_book) (T_begun : Top K mg "begun" st_begun) (T_reached : Top K mg "reached" st_reached) (T_trail : Top K mg "trail" st_trail) (T_turned : Top K mg "turned" st_turned) (T_closed_lot : Top K mg "closed_lot" st_closed_lot) (T_has_ring : Top K mg "has_ring" st_has_ring) (T_law_pick : Top K mg "_law_pick" st_law_pick) (T_law_source : Top K mg "_law_source" st_law_source) (T_law_letters : Top K mg "_law_letters" st_law_letters) (T_law_chorded : Top K mg "_law_chorded" st_law_chorded) (T_law_starred : Top K mg "_law_starred" st_law_starred) (T_law_size : Top K mg "_law_size" st_law_size) (T_law_round : Top K mg "_law_round" st_law_round) (T_law_book : Top K mg "_law_book" st_law_book) (T_law_out : Top K mg "_law_out" st_law_out) (T_law_ring : Top K mg "_law_ring" st_law_ring) (T_is_piece_of : Top K mg "is_piece_of" st_is_piece_of) (T_law_walked : Top K mg "_law_walked" st_law_walked) (T_law_piece : Top K mg "_law_piece" st_law_piece) (T_law_long : Top K mg "_law_long" st_law_long) (T_text_of : Top K mg "text_of" st_text_of) (T_lot_between : Top K mg "lot_between" st_lot_between) (T_way_back : Top K mg "way_back" st_way_back) (T_numbers_of_pairs : Top K mg "numbers_of_pairs" st_numbers_of_pairs) (T_check_ringed : Top K mg "check_ringed" st_check_ringed) (T_check_piece : Top K mg "check_piece" st_check_piece) (T_first_leaving : Top K mg "first_leaving" st_first_leaving) (T_leaving : Top K mg "leaving" st_leaving) (T_is_sure : Top K mg "is_sure" st_is_sure) (T_law_borders : Top K mg "_law_borders" st_law_borders) (T_law_read : Top K mg "_law_read" st_law_read) (T_law_rows : Top K mg "_law_rows" st_law_rows) (T_law_from : Top K mg "_law_from" st_law_from) (T_law_is_free : Top K mg "_law_is_free" st_law_is_free) (T_law_grown : Top K mg "_law_grown" st_law_grown) (T_law_same : Top K mg "_law_same" st_law_same) (T_law : Top K mg "law" st_law) :
    ∃ fd : FuncData, (∀ (s : Shared) (v : Value), BindsTo s fd ⟨[v], []⟩ [("script", v)]) ∧ ∀ base : Heap, K.In base → base.Ns mainGlobals mg → FnOk l.prog w K mg base CX0 10 fa fd ["script"] (spLaw K) := by
  obtain ⟨f, fd, hm, F⟩ := id T_law
  rw [hfa] at hm
  cases hm
  refine ⟨fd, fun s v => ?_, fun base _ _ => ?_⟩
  · obtain ⟨oc, od, kV, doc, pm, an, cdv, ct, osl, rfl, lk, hcd⟩ := F.ex
    exact .of_eq (pl_law kV doc pm an cdv ct [v] rfl)
  · skip
    have d_is_whole := ok_is_whole (P := l.prog) (w := w) (base := base) T_is_whole B
    have d_is_letters := ok_is_letters (P := l.prog) (w := w) (base := base) T_is_letters B
    have d_steps_of := ok_steps_of (P := l.prog) (w := w) (base := base) T_steps_of B
    have d_is_size := ok_is_size (P := l.prog) (w := w) (base := base) T_is_size d_is_whole
    have d_is_ascending := ok_is_ascending (P := l.prog) (w := w) (base := base) T_is_ascending B
    have d_is_windows := ok_is_windows (P := l.prog) (w := w) (base := base) T_is_windows B d_is_ascending d_is_letters
    have d_is_book := ok_is_book (P := l.prog) (w := w) (base := base) T_is_book B d_is_size d_is_windows
    have d_check_book := ok_check_book (P := l.prog) (w := w) (base := base) T_check_book d_is_book
    have d_begun := ok_begun (P := l.prog) (w := w) (base := base) T_begun B
    have d_reached := ok_reached (P := l.prog) (w := w) (base := base) T_reached B
    have d_trail := ok_trail (P := l.prog) (w := w) (base := base) T_trail B
    have d_turned := ok_turned (P := l.prog) (w := w) (base := base) T_turned B
    have d_closed_lot := ok_closed_lot (P := l.prog) (w := w) (base := base) T_closed_lot B d_check_book d_begun d_reached d_turned
    have d_has_ring := ok_has_ring (P := l.prog) (w := w) (base := base) T_has_ring d_closed_lot
    have d_law_pick := ok_law_pick (P := l.prog) (w := w) (base := base) T_law_pick B
    have d_law_source := ok_law_source (P := l.prog) (w := w) (base := base) T_law_source B
    have d_law_letters := ok_law_letters (P := l.prog) (w := w) (base := base) T_law_letters B d_law_pick
    have d_law_chorded := ok_law_chorded (P := l.prog) (w := w) (base := base) T_law_chorded B d_law_pick
    have d_law_starred := ok_law_starred (P := l.prog) (w := w) (base := base) T_law_starred B d_law_pick
    have d_law_size := ok_law_size (P := l.prog) (w := w) (base := base) T_law_size d_law_pick
    have d_law_round := ok_law_round (P := l.prog) (w := w) (base := base) T_law_round B
    have d_law_book := ok_law_book (P := l.prog) (w := w) (base := base) T_law_book B d_law_round
    have d_law_out := ok_law_out (P := l.prog) (w := w) (base := base) T_law_out B
    have d_law_ring := ok_law_ring (P := l.prog) (w := w) (base := base) T_law_ring B d_law_pick d_law_letters d_law_chorded d_law_starred d_law_round
    have d_is_piece_of := ok_is_piece_of (P := l.prog) (w := w) (base := base) T_is_piece_of B d_steps_of
    have d_law_walked := ok_law_walked (P := l.prog) (w := w) (base := base) T_law_walked B d_law_out d_law_pick
    have d_law_piece := ok_law_piece (P := l.prog) (w := w) (base := base) T_law_piece B d_law_pick d_law_walked
    have d_law_long := ok_law_long (P := l.prog) (w := w) (base := base) T_law_long B d_law_pick d_law_walked
    have d_text_of := ok_text_of (P := l.prog) (w := w) (base := base) T_text_of B
    have d_lot_between := ok_lot_between (P := l.prog) (w := w) (base := base) T_lot_between B d_reached
    have d_way_back := ok_way_back (P := l.prog) (w := w) (base := base) T_way_back d_lot_between d_trail
    have d_numbers_of_pairs := ok_numbers_of_pairs (P := l.prog) (w := w) (base := base) T_numbers_of_pairs B
    have d_check_ringed := ok_check_ringed (P := l.prog) (w := w) (base := base) T_check_ringed d_has_ring
    have d_check_piece := ok_check_piece (P := l.prog) (w := w) (base := base) T_check_piece d_is_piece_of
    have d_first_leaving := ok_first_leaving (P := l.prog) (w := w) (base := base) T_first_leaving d_begun d_numbers_of_pairs d_way_back d_text_of
    have d_leaving := ok_leaving (P := l.prog) (w := w) (base := base) T_leaving d_check_ringed d_check_piece d_first_leaving d_steps_of
    have d_is_sure := ok_is_sure (P := l.prog) (w := w) (base := base) T_is_sure d_leaving
    have d_law_borders := ok_law_borders (P := l.prog) (w := w) (base := base) T_law_borders B
    have d_law_read := ok_law_read (P := l.prog) (w := w) (base := base) T_law_read B
    have d_law_rows := ok_law_rows (P := l.prog) (w := w) (base := base) T_law_rows B d_law_out d_law_borders d_law_read
    have d_law_from := ok_law_from (P := l.prog) (w := w) (base := base) T_law_from B
    have d_law_is_free := ok_law_is_free (P := l.prog) (w := w) (base := base) T_law_is_free B d_law_rows d_law_from
    have d_law_grown := ok_law_grown (P := l.prog) (w := w) (base := base) T_law_grown B d_law_out d_law_pick d_law_is_free d_law_walked
    have d_law_same := ok_law_same (P := l.prog) (w := w) (base := base) T_law_same B
    have d_law := ok_law (P := l.prog) (w := w) (base := base) T_law B d_law_source d_law_size d_law_ring d_law_book d_law_pick d_law_piece d_law_long d_law_grown d_law_is_free d_is_sure d_law_same
    obtain ⟨f', fd', hm', F', G'⟩ := d_law.ex
    rw [hfa] at hm'
    cases hm'
    cases fun_one F F'
    exact G'
end Tx
open PySem PySem.W PyProof.Rows
set_option maxRecDepth 100000 in
set_option maxHeartbeats 0 in
theorem PySem.Challenge.cw_surepieces_k06_sure_by_a_product_holds : PySem.Challenge.rw_surepieces_k06_sure_by_a_product.Holds := by
  w_on; o_law; k_head; (case hw => w_witness2)
  k_fill
  refine L2.walk_of (l := PySem.Challenge.rw_surepieces_k06_sure_by_a_product) (n := 63) (k := 10) (x := "script") (CX := fun _ => L2.CX0) (sp := fun w => Tx.spLaw _) rfl (by decide) rfl ⟨rfl, by decide, by decide⟩ (fun w h Y => PySem.W.kIn_of Y) ?F (fun _ _ a ns hl _ hS => ⟨a, ns, rfl, hS, hl, fun _ => rfl⟩) (fun _ _ _ _ _ h => h)
  case F =>
    intro w mg fa h KX G hmg
    refine' Tx.all_ok KX G hmg ⟨PySem.W.mg_none_of KX G ?b0, PySem.W.mg_none_of KX G ?b1, PySem.W.mg_none_of KX G ?b2, PySem.W.mg_none_of KX G ?b3, PySem.W.mg_none_of KX G ?b4, PySem.W.mg_none_of KX G ?b5, PySem.W.mg_none_of KX G ?b6, PySem.W.mg_none_of KX G ?b7, PySem.W.mg_none_of KX G ?b8, PySem.W.mg_none_of KX G ?b9, PySem.W.mg_none_of KX G ?b10, PySem.W.mg_none_of KX G ?b11, PySem.W.mg_none_of KX G ?b12, PySem.W.mg_none_of KX G ?b13, PySem.W.mg_none_of KX G ?b14, PySem.W.mg_none_of KX G ?b15, PySem.W.mg_none_of KX G ?b16, PySem.W.mg_none_of KX G ?b17, PySem.W.mg_none_of KX G ?b18, PySem.W.mg_none_of KX G ?b19⟩ ?t0 ?t1 ?t2 ?t3 ?t4 ?t5 ?t6 ?t7 ?t8 ?t9 ?t10 ?t11 ?t12 ?t13 ?t14 ?t15 ?t16 ?t17 ?t18 ?t19 ?t20 ?t21 ?t22 ?t23 ?t24 ?t25 ?t26 ?t27 ?t28 ?t29 ?t30 ?t31 ?t32 ?t33 ?t34 ?t35 ?t36 ?t37 ?t38 ?t39 ?t40 ?t41 ?t42 ?t43 ?t44
    (case b0 => k_is)
    (case b1 => k_is)
    (case b2 => k_is)
    (case b3 => k_is)
    (case b4 => k_is)
    (case b5 => k_is)
    (case b6 => k_is)
    (case b7 => k_is)
    (case b8 => k_is)
    (case b9 => k_is)
    (case b10 => k_is)
    (case b11 => k_is)
    (case b12 => k_is)
    (case b13 => k_is)
    (case b14 => k_is)
    (case b15 => k_is)
    (case b16 => k_is)
    (case b17 => k_is)
    (case b18 => k_is)
    (case b19 => k_is)
    (case t0 => refine' Tx.top_mk KX G ?a ?l ?c ?k; (case a => k_is); (case l => k_is); (case c => k_is); (case k => k_is))
    (case t1 => refine' Tx.top_mk KX G ?a ?l ?c ?k; (case a => k_is); (case l => k_is); (case c => k_is); (case k => k_is))
    (case t2 => refine' Tx.top_mk KX G ?a ?l ?c ?k; (case a => k_is); (case l => k_is); (case c => k_is); (case k => k_is))
    (case t3 => refine' Tx.top_mk KX G ?a ?l ?c ?k; (case a => k_is); (case l => k_is); (case c => k_is); (case k => k_is))
    (case t4 => refine' Tx.top_mk KX G ?a ?l ?c ?k; (case a => k_is); (case l => k_is); (case c => k_is); (case k => k_is))
    (case t5 => refine' Tx.top_mk KX G ?a ?l ?c ?k; (case a => k_is); (case l => k_is); (case c => k_is); (case k => k_is))
    (case t6 => refine' Tx.top_mk KX G ?a ?l ?c ?k; (case a => k_is); (case l => k_is); (case c => k_is); (case k => k_is))
    (case t7 => refine' Tx.top_mk KX G ?a ?l ?c ?k; (case a => k_is); (case l => k_is); (case c => k_is); (case k => k_is))
    (case t8 => refine' Tx.top_mk KX G ?a ?l ?c ?k; (case a => k_is); (case l => k_is); (case c => k_is); (case k => k_is))
    (case t9 => refine' Tx.top_mk KX G ?a ?l ?c ?k; (case a => k_is); (case l => k_is); (case c => k_is); (case k => k_is))
    (case t10 => refine' Tx.top_mk KX G ?a ?l ?c ?k; (case a => k_is); (case l => k_is); (case c => k_is); (case k => k_is))
    (case t11 => refine' Tx.top_mk KX G ?a ?l ?c ?k; (case a => k_is); (case l => k_is); (case c => k_is); (case k => k_is))
    (case t12 => refine' Tx.top_mk KX G ?a ?l ?c ?k; (case a => k_is); (case l => k_is); (case c => k_is); (case k => k_is))
    (case t13 => refine' Tx.top_mk KX G ?a ?l ?c ?k; (case a => k_is); (case l => k_is); (case c => k_is); (case k => k_is))
    (case t14 => refine' Tx.top_mk KX G ?a ?l ?c ?k; (case a => k_is); (case l => k_is); (case c => k_is); (case k => k_is))
    (case t15 => refine' Tx.top_mk KX G ?a ?l ?c ?k; (case a => k_is); (case l => k_is); (case c => k_is); (case k => k_is))
    (case t16 => refine' Tx.top_mk KX G ?a ?l ?c ?k; (case a => k_is); (case l => k_is); (case c => k_is); (case k => k_is))
    (case t17 => refine' Tx.top_mk KX G ?a ?l ?c ?k; (case a => k_is); (case l => k_is); (case c => k_is); (case k => k_is))
    (case t18 => refine' Tx.top_mk KX G ?a ?l ?c ?k; (case a => k_is); (case l => k_is); (case c => k_is); (case k => k_is))
    (case t19 => refine' Tx.top_mk KX G ?a ?l ?c ?k; (case a => k_is); (case l => k_is); (case c => k_is); (case k => k_is))
    (case t20 => refine' Tx.top_mk KX G ?a ?l ?c ?k; (case a => k_is); (case l => k_is); (case c => k_is); (case k => k_is))
    (case t21 => refine' Tx.top_mk KX G ?a ?l ?c ?k; (case a => k_is); (case l => k_is); (case c => k_is); (case k => k_is))
    (case t22 => refine' Tx.top_mk KX G ?a ?l ?c ?k; (case a => k_is); (case l => k_is); (case c => k_is); (case k => k_is))
    (case t23 => refine' Tx.top_mk KX G ?a ?l ?c ?k; (case a => k_is); (case l => k_is); (case c => k_is); (case k => k_is))
    (case t24 => refine' Tx.top_mk KX G ?a ?l ?c ?k; (case a => k_is); (case l => k_is); (case c => k_is); (case k => k_is))
    (case t25 => refine' Tx.top_mk KX G ?a ?l ?c ?k; (case a => k_is); (case l => k_is); (case c => k_is); (case k => k_is))
    (case t26 => refine' Tx.top_mk KX G ?a ?l ?c ?k; (case a => k_is); (case l => k_is); (case c => k_is); (case k => k_is))
    (case t27 => refine' Tx.top_mk KX G ?a ?l ?c ?k; (case a => k_is); (case l => k_is); (case c => k_is); (case k => k_is))
    (case t28 => refine' Tx.top_mk KX G ?a ?l ?c ?k; (case a => k_is); (case l => k_is); (case c => k_is); (case k => k_is))
    (case t29 => refine' Tx.top_mk KX G ?a ?l ?c ?k; (case a => k_is); (case l => k_is); (case c => k_is); (case k => k_is))
    (case t30 => refine' Tx.top_mk KX G ?a ?l ?c ?k; (case a => k_is); (case l => k_is); (case c => k_is); (case k => k_is))
    (case t31 => refine' Tx.top_mk KX G ?a ?l ?c ?k; (case a => k_is); (case l => k_is); (case c => k_is); (case k => k_is))
    (case t32 => refine' Tx.top_mk KX G ?a ?l ?c ?k; (case a => k_is); (case l => k_is); (case c => k_is); (case k => k_is))
    (case t33 => refine' Tx.top_mk KX G ?a ?l ?c ?k; (case a => k_is); (case l => k_is); (case c => k_is); (case k => k_is))
    (case t34 => refine' Tx.top_mk KX G ?a ?l ?c ?k; (case a => k_is); (case l => k_is); (case c => k_is); (case k => k_is))
    (case t35 => refine' Tx.top_mk KX G ?a ?l ?c ?k; (case a => k_is); (case l => k_is); (case c => k_is); (case k => k_is))
    (case t36 => refine' Tx.top_mk KX G ?a ?l ?c ?k; (case a => k_is); (case l => k_is); (case c => k_is); (case k => k_is))
    (case t37 => refine' Tx.top_mk KX G ?a ?l ?c ?k; (case a => k_is); (case l => k_is); (case c => k_is); (case k => k_is))
    (case t38 => refine' Tx.top_mk KX G ?a ?l ?c ?k; (case a => k_is); (case l => k_is); (case c => k_is); (case k => k_is))
    (case t39 => refine' Tx.top_mk KX G ?a ?l ?c ?k; (case a => k_is); (case l => k_is); (case c => k_is); (case k => k_is))
    (case t40 => refine' Tx.top_mk KX G ?a ?l ?c ?k; (case a => k_is); (case l => k_is); (case c => k_is); (case k => k_is))
    (case t41 => refine' Tx.top_mk KX G ?a ?l ?c ?k; (case a => k_is); (case l => k_is); (case c => k_is); (case k => k_is))
    (case t42 => refine' Tx.top_mk KX G ?a ?l ?c ?k; (case a => k_is); (case l => k_is); (case c => k_is); (case k => k_is))
    (case t43 => refine' Tx.top_mk KX G ?a ?l ?c ?k; (case a => k_is); (case l => k_is); (case c => k_is); (case k => k_is))
    (case t44 => refine' Tx.top_mk KX G ?a ?l ?c ?k; (case a => k_is); (case l => k_is); (case c => k_is); (case k => k_is))
