import PyProof.Rows.All
import Wide.All
import OpenK.AllK
import Wide.FinOn
import PyProof.EqAt
import PyProof.EqKinds
import PyProof.TupleCall
import HandS.ForMost
import HandS.TupAny
import HandS.TupMul
import HandS.TupLe
import HandS.IsInst
import KE.GoesMore
import KE.KRevSl
import KE.LtSeq
import KE.LtData
import KE.SortCalls
import KE.SortData
import KE.DataEq
import HandS.NoneIn
import KE.KDictLaw
import HandS.Flow
import HandS.Walk
import HandS.SetFor
import HandS.SortInts
import HandS.Conv
import PyProof.ListMulRoad
import PyProof.FactsAll.tuple_2
import KE.KStateDown
import HandS.Base
import HandS.Call
import HandS.Ends
import HandS.More
import HandS.Words
import HandS.WordsExc
import HandS.Defaults
import HandS.Head0
import HandS.Head1
import HandS.Head2
import HandS.HeadEnd
import HandS.HeadHook1
import HandS.HeadHook2
import HandS.HeadHook3
import HandS.HeadHook4
import PySem.Challenge.RW_playsense_k22_steps_that_go_on_legally
set_option Elab.async false
set_option linter.all false
set_option maxRecDepth 100000
set_option maxHeartbeats 4000000
/-! Rules of our own: list.extend of a tuple, xs[::-1], enumerate of a tuple, () * k. -/
namespace Pk
open PySem PySem.Spec PyProof.Rows L2

/-! ### list.extend(tuple) -/
theorem list_extend_tupW (l : Addr) (items : Array Value) (n : Nat) (b : Addr) (items2 : Array Value) (n2 : Nat) (dd : Option Addr) (sl : Array (Option Value))
    (hs0 : ¬(!items.isEmpty && Builtin.List.listTooLong (items.size + items2.size)) = true) (hs1 : items.size ≤ sizeLine) (hs2 : items.size + items2.size ≤ sizeLine + 1) :
    Meets (Builtin.«list.extend» ⟨[.ref l, .ref b], []⟩) (fun _ R s => s.heap.get? l = some { cls := .type "list", dict := none, data := .seq items n, slots := #[] } ∧ s.heap.get? b = some { cls := .type "tuple", dict := dd, data := .seq items2 n2, slots := sl } ∧
      R (.ok (.ret Value.none)) { s with heap := s.heap.update l (Obj.mapSeq fun x => x ++ items2), toks := s.toks }) :=
  .of_wp fun prog w A R s h => by
    obtain ⟨hp, g, d, tk, os⟩ := s
    obtain ⟨hl, hb, h⟩ := h
    have f1 := AutoSeq1.idx_int
    have f2 := AutoSeq1.sub_tuple_tuple
    have f3 := AutoSeq1.sub_list_list
    have f4 := AutoSeq1.sub_tuple_list
    have f5 := AutoSeq1.sub_list_tuple
    have hz' : (items ++ items2).size ≤ sizeLine + 1 := by rw [Array.size_append]; exact hs2
    wp_walk using (wpAny_updateSeq hl rfl (hz := hs1) (_hz' := hz')), AutoSeq1.wpAny_loadPart' hl, AutoSeq1.wpAny_loadPart' hb
    exact ⟨_, rfl, h⟩
def rExtendT (K : PySem.W.Frag) : V → List V → Hp → VK → Prop := fun x vs H Q => ∃ l b xs zs, x = .ref l ∧ vs = [.ref b] ∧ H l = some (.lst xs) ∧ SqT K H b zs ∧ xs.length + zs.length ≤ sizeLine ∧ Q .non (upd H l (.lst (xs ++ zs)))
section
variable {X : Cx}
theorem mt_extendT : MtM X "list.extend" (rExtendT X.K) := by
  intro pins s σ H x vs v us Q I rx rv h
  obtain ⟨l, b, xs, zs, rfl, rfl, hH, hB, hz, q⟩ := h
  cases rx
  obtain ⟨u, rfl, ru⟩ := rv.one
  cases ru
  obtain ⟨z, its, n, r, hl, e⟩ := I.lstM hH
  obtain ⟨its2, r2, ⟨⟨cls, dd, data, sl⟩, ho, hc, n2, hd⟩, hz2⟩ := I.tuple hB
  simp only at hc hd
  subst hc hd
  have hl2 := r2.length
  have hsz : its.toArray.size + its2.toArray.size ≤ sizeLine := by rw [List.size_toArray, List.size_toArray]; omega
  have hlong : ¬ (!its.toArray.isEmpty && Builtin.List.listTooLong (its.toArray.size + its2.toArray.size)) = true := by
    rw [notLongL hsz, Bool.and_false]
    exact Bool.false_ne_true
  refine call_meets F.slot_list_extend ⟨_, e, rfl⟩ F.entry_list_extend (F.args_list_extend_2 _ _)
    (list_extend_tupW l its.toArray n b its2.toArray n2 dd sl hlong (by rw [List.size_toArray]; omega) (by omega)) ⟨e, ho, ?_⟩
  refine ⟨.non, _, I.lset (its' := its ++ its2) hH e (by simp) (r.append r2) ?_, rfl, q⟩
  rw [List.length_append]
  omega

/-! ### xs[::-1] -/
def tRevL (K : PySem.W.Frag) (te : TE) : TE := fun σ H Q => te σ H fun x H1 => ∃ a xs, x = .ref a ∧ SqL K H1 a xs ∧ ∀ p, H1 p = none → Q (.ref p) (upd H1 p (.lst xs.reverse))
theorem pe_revL {e : Expr} {te : TE} {j : Nat} {p2 p3 p4 pos : Pos} (he : PE X e te) : PE X (.Subscript e (.Slice none none (some (.UnaryOp .USub (.Constant (.int 1) j p4) p3)) p2) pos) (tRevL X.K te) := by
  refine ⟨fun pins s σ H Q I h => ?_⟩
  refine Subscript_ (thn (he.run pins s σ H _ I h) fun v s1 ⟨x, H1, I1, r1, q1⟩ => ?_)
  have hst := po_some (X := X) (pe_un (pos := p3) un_neg (pe_int (i := 1) (j := j) (pos := p4)))
  refine wpAny_Slice ?_
  rw [evalPart_none]
  refine wpAny_pure ?_
  refine wpAny_pure ?_
  refine thn (hst.run pins s1 σ H1 (fun o H' => o = some (-1) ∧ H' = H1) I1 ?_) fun vs s3 ⟨o, H3, I3, ps, q3⟩ => ?_
  · exact ⟨1, rfl, -1, rfl, rfl, rfl⟩
  obtain ⟨rfl, rfl⟩ := q3
  obtain ⟨a, xs, rfl, hx, q⟩ := q1
  cases r1
  have I4 : Inv X pins σ H3 { s3 with heap := s3.heap.push { cls := .type "slice", data := .fields #[.none, .none, vs] } } := I3.kept (t' := s3.toks) fun b ob q => Heap.get?_push_of_some _ q
  obtain ⟨its, r, ht, hz⟩ := I4.list hx
  have hlen := r.length
  show wpAny (model X.prog X.w) X.A (subscriptTail e (.Slice none none (some (.UnaryOp .USub (.Constant (.int 1) j p4) p3)) p2) (.ref a) (.ref s3.heap.objs.size)) (EP X pins σ Q) X.xe { s3 with heap := s3.heap.push { cls := .type "slice", data := .fields #[.none, .none, vs] } }
  refine tail_any (ops := _) ht.isList.typeIs slot_list_getitem.lookup ?_ (by with_unfolding_all rfl)
  refine wpAny_getItem_list_slice ht.isList (Heap.IsSliceOf.new ..) .none .none ps (by decide) ?_ (by rw [List.size_toArray]; omega)
  have ep : slicePick its.toArray none none (some (-1)) = its.reverse.toArray := PySem.W.krv_pick _
  rw [ep]
  refine ⟨.ref _, _, I4.laid (t' := s3.toks) (o := .lst xs.reverse) (fun b ob q => Heap.get?_push_of_some _ q) (Nat.le_refl _) ?_, rfl, q _ (I4.hok.fresh (Nat.le_refl _))⟩
  exact ⟨by rw [List.length_reverse]; exact hz, _, 0, r.reverse, Heap.get?_push_size _ rfl⟩

/-! ### () * k -/
theorem tuple_mul0 (l : Addr) (items : Array Value) (n : Nat) (dd : Option Addr) (sl : Array (Option Value)) (x : Int) (u : Tok) (c0 : (decide (x < -(2 ^ 63)) || decide (x ≥ 2 ^ 63)) = false) (c1 : (items.isEmpty || x == 1) = true) :
    Meets (Builtin.«tuple.__mul__» ⟨[.ref l, .int x u], []⟩) (fun _ R s => s.heap.get? l = some { cls := .type "tuple", dict := dd, data := .seq items n, slots := sl } ∧ R (.ok (.ret (Value.ref l))) s) :=
  .of_wp fun prog w A R s h => by
    obtain ⟨hp, g, d, tk, os⟩ := s
    obtain ⟨hl, h⟩ := h
    have f1 := AutoSeq1.idx_int
    wp_walk using AutoSeq1.wpAny_loadPart' hl
    repeat (first
      | (refine wpAny_ite_false (decide_eq_false (by rw [c0]; exact Bool.false_ne_true)) ?_; wp_walk using AutoSeq1.wpAny_loadPart' hl)
      | (refine wpAny_ite_true (decide_eq_true (by rw [c1])) ?_; wp_walk using AutoSeq1.wpAny_loadPart' hl))
    exact ⟨_, rfl, h⟩
def rRep0 (K : PySem.W.Frag) : R2 := fun x y H Q => ∃ l k, x = .ref l ∧ y = .int k ∧ SqT K H l [] ∧ 2 ≤ k ∧ k ≤ 1000 ∧ Q (.ref l) H
theorem op_rep0 : OpR X (binaryOp .Mult) (rRep0 X.K) := by
  intro pins s σ H x y v u Q I rx ry h
  obtain ⟨l, k, rfl, rfl, hT, h1, h2, q⟩ := h
  cases rx
  obtain ⟨t, rfl⟩ := ry
  obtain ⟨its, r, ⟨⟨cls, dd, data, sl⟩, ho, hc, n, hd⟩, hs⟩ := I.tuple hT
  simp only at hc hd
  subst hc hd
  cases r
  have c0 : (decide (k < -(2 ^ 63)) || decide (k ≥ 2 ^ 63)) = false := by
    rw [decide_eq_false (by omega), decide_eq_false (by omega)] <;> rfl
  refine wpAny_binaryOp_repeat_ref (T := "tuple") (U := "int") (by decide) ⟨_, ho, rfl⟩ (fun s' => typeIs_int s' k t) noFill_tuple_mul F.fills_int_mul F.slot_int_rmul repeat_tuple F.slot_int_index.lookup
    (call_meets F.slot_int_rmul (typeIs_int s k t) F.entry_int_rmul (F.args_int_rmul_2 _ _) (int_rmul_tuple k t l _ n dd sl)
      ⟨ho, rfl, ⟨_, ho, rfl⟩, call_meets F.slot_tuple_mul ⟨_, ho, rfl⟩ F.entry_tuple_mul (F.args_tuple_mul_2 _ _) (tuple_mul0 l _ n dd sl k t c0 rfl) ⟨ho, ?_⟩⟩)
  exact ⟨.ref l, H, I, rfl, q⟩
end

/-! ### t + u of tracked tuples, one way on -/
section
variable {X : Cx}
def rCatR : R2 := fun x y H Q => ∃ a b xs ys, x = .ref a ∧ y = .ref b ∧ H a = some (.tup xs) ∧ H b = some (.tup ys) ∧ xs.length + ys.length ≤ sizeLine ∧ ∀ (c : Addr) (H' : Hp), Same H H' → H' c = some (.tup (xs ++ ys)) → Q (.ref c) H'
theorem op_catR : OpR X (binaryOp .Add) rCatR := by
  intro pins s σ H x y v u Q I rx ry h
  obtain ⟨a, b, xs, ys, rfl, rfl, ha, hb, hz, q⟩ := h
  refine op_catA pins s σ H _ _ v u Q I rx ry ⟨a, b, xs, ys, rfl, rfl, SqT.of ha, SqT.of hb, hz, fun e => ?_, fun _ e => ?_, fun _ _ p np => ?_⟩
  · subst e
    exact q b H (Same.refl H) hb
  · subst e
    exact q a H (Same.refl H) (by rw [List.append_nil]; exact ha)
  · exact q p _ (fun c o e => by rw [upd_ne (ne_of_none e np)]; exact e) upd_same
end

/-! ### t[lo:hi] of a tracked tuple, one way on -/
theorem cutV_whole {xs : List V} {lo hi : Option Int} (h : HT.sIx xs.length 0 lo = 0 ∧ HT.sIx xs.length xs.length hi = xs.length) : cutV xs lo hi = xs := by
  unfold cutV
  rw [h.1, h.2, List.drop_zero, Nat.sub_zero, List.take_length]
theorem cutV_to (xs : List V) (k : Nat) : cutV xs none (some (k : Int)) = xs.take k := by
  unfold cutV
  rw [HT.sIx_none, HT.sIx_nat, List.drop_zero, Nat.sub_zero]
  by_cases h : k ≤ xs.length
  · rw [Nat.min_eq_left h]
  · rw [Nat.min_eq_right (by omega), List.take_length, List.take_of_length_le (by omega)]
theorem cutV_from (xs : List V) (k : Nat) : cutV xs (some (k : Int)) none = xs.drop k := by
  unfold cutV
  rw [HT.sIx_none, HT.sIx_nat]
  by_cases h : k ≤ xs.length
  · rw [Nat.min_eq_left h]
    exact List.take_of_length_le (by rw [List.length_drop]; exact Nat.le_refl _)
  · rw [Nat.min_eq_right (by omega), List.drop_length, List.drop_of_length_le (by omega)]
    exact List.take_nil
section
variable {X : Cx}
def rSlR : V → Option Int → Option Int → Hp → VK → Prop := fun x lo hi H Q => ∃ a xs, x = .ref a ∧ H a = some (.tup xs) ∧ ∀ (c : Addr) (H' : Hp), Same H H' → H' c = some (.tup (cutV xs lo hi)) → Q (.ref c) H'
theorem sl_tupR : SlR X rSlR := by
  intro pins s σ H x v vl vu lo hi sl Q I rx hs pl pu h
  obtain ⟨a, xs, rfl, hx, q⟩ := h
  refine sl_tupA pins s σ H _ v vl vu lo hi sl Q I rx hs pl pu ⟨a, xs, rfl, SqT.of hx, fun z => ?_, fun _ p np => ?_⟩
  · exact q a H (Same.refl H) (by rw [cutV_whole z]; exact hx)
  · exact q p _ (fun c o e => by rw [upd_ne (ne_of_none e np)]; exact e) upd_same
end

/-! ### t * k of a tracked tuple, one way on -/
section
variable {X : Cx}
theorem rep_nil {α : Type} : ∀ k : Nat, (List.replicate k ([] : List α)).flatten = []
  | 0 => rfl
  | k + 1 => by
    rw [List.replicate_succ, List.flatten_cons, rep_nil k]
    rfl
def rRepR : R2 := fun x y H Q => ∃ l k xs, x = .ref l ∧ y = .int k ∧ H l = some (.tup xs) ∧ 2 ≤ k ∧ k ≤ 1000 ∧ xs.length ≤ 1000 ∧ ∀ (c : Addr) (H' : Hp), Same H H' → H' c = some (.tup (List.replicate k.toNat xs).flatten) → Q (.ref c) H'
theorem op_repR : OpR X (binaryOp .Mult) rRepR := by
  intro pins s σ H x y v u Q I rx ry h
  obtain ⟨l, k, xs, rfl, rfl, hx, h1, h2, hz, q⟩ := h
  by_cases e : xs = []
  · subst e
    exact op_rep0 pins s σ H _ _ v u Q I rx ry ⟨l, k, rfl, rfl, SqT.of hx, h1, h2, q l H (Same.refl H) (by rw [rep_nil]; exact hx)⟩
  · exact op_repT pins s σ H _ _ v u Q I rx ry ⟨l, k, xs, rfl, rfl, SqT.of hx, e, h1, h2, hz, fun p np => q p _ (fun c o z => by rw [upd_ne (ne_of_none z np)]; exact z) upd_same⟩
end

/-! ### xs == [] -/
section
variable {X : Cx}
def rEqNil (K : PySem.W.Frag) : R2 := fun x y H Q => ∃ a b xs, x = .ref a ∧ y = .ref b ∧ SqL K H a xs ∧ SqL K H b [] ∧ Q (.bl xs.isEmpty) H
theorem op_eqNil (hu : X.A.units + 64 < cLine) : OpR X (compareOp .Eq) (rEqNil X.K) := by
  intro pins s σ H x y v u Q I rx ry h
  obtain ⟨a, b, xs, rfl, rfl, ha, hb, q⟩ := h
  cases rx
  cases ry
  obtain ⟨its, r1, p1, _⟩ := I.list ha
  obtain ⟨its2, r2, p2, _⟩ := I.list hb
  cases r2
  have hu' : X.A.units < cLine := by omega
  cases r1 with
  | nil => exact SeqAt.eq_listAt (e := fun _ => true) p1.isList p2.isList rfl hu' (fun j h1 h2 => by simp at h1) ⟨.bl true, H, I, rfl, q⟩
  | cons r t => exact SeqAt.eq_list_lengthsAt p1.isList p2.isList rfl hu' ⟨.bl false, H, I, rfl, q⟩
end

/-! ### enumerate(tuple) -/
theorem meets_enumerate_newT (l : Addr) (items : Array Value) (n : Nat) (dct : Option Addr) (sl : Array (Option Value)) :
    Meets (Builtin.«enumerate.__new__» ⟨[.type "enumerate", .ref l], []⟩) (fun _ R s => s.heap.get? l = some { cls := .type "tuple", dict := dct, data := .seq items n, slots := sl } ∧
      R (.ok (.ret (.ref (s.heap.push { cls := .type "tuple_iterator", data := .fields #[.ref l, .int 0 0] }).objs.size)))
        { s with heap := (s.heap.push { cls := .type "tuple_iterator", data := .fields #[.ref l, .int 0 0] }).push { cls := .type "enumerate", data := .fields #[.none, .bool false, .ref s.heap.objs.size, rawInt 0, .none, .none] } }) :=
  .of_wp fun prog w A R s h => by
    obtain ⟨hp, g, d, tk, os⟩ := s; obtain ⟨hl, h⟩ := h
    have hsub := sub_enumerate
    have hL : Heap.IsTuple (Shared.heap ⟨hp, g, d, tk, os⟩) l items := ⟨_, hl, rfl, n, rfl⟩
    wp_walk using AutoSeq1.wpAny_loadPart' hl
    refine wpAny_stack_any fun st => wpAny_pure ?_
    split
    · rename_i c _ _ _ _ _
      cases (c == Value.type "enumerate")
      · wp_walk using AutoSeq1.wpAny_loadPart' hl, wpAny_pyIter_tuple hL
        exact ⟨_, rfl, h⟩
      · wp_walk using AutoSeq1.wpAny_loadPart' hl, wpAny_pyIter_tuple hL
        exact ⟨_, rfl, h⟩
    · wp_walk using AutoSeq1.wpAny_loadPart' hl, wpAny_pyIter_tuple hL
      exact ⟨_, rfl, h⟩
section
variable {prog : Program} {w : World} {A : Around} {E : Value → Shared → Prop} {s : Shared}
theorem call_enumerate_tup {l : Addr} {items : Array Value} {Q : Value → Shared → Prop} (hL : IsTup s.heap l items)
    (h : ∀ h', IsEnum h' (s.heap.objs.size + 1) s.heap.objs.size 0 .none → h'.IsTupleIter s.heap.objs.size l 0 → h'.objs.size = s.heap.objs.size + 2 →
      (∀ b o, s.heap.get? b = some o → h'.get? b = some o) → Q (.ref (s.heap.objs.size + 1)) { s with heap := h' }) :
    wpAny (model prog w) A (call (.type "enumerate") [.ref l]) Q E s := by
  obtain ⟨⟨c, dct, dt, sl⟩, hl, hc, n, hd⟩ := hL
  replace hc : c = .type "tuple" := hc
  replace hd : dt = .seq items n := hd
  subst hc hd
  refine callType_new F.called_enumerate (by decide) (F.typeCall_enumerate_1 _) (F.newCall_enumerate_1 _) (fun obj => F.args_object_init_2 obj _) F.entry_enumerate_new
    (meets_enumerate_newT l items n dct sl) ⟨hl, ?_⟩
  have hz : (s.heap.push { cls := .type "tuple_iterator", data := .fields #[.ref l, .int 0 0] }).objs.size = s.heap.objs.size + 1 := Heap.size_push ..
  show _ ∧ _
  rw [hz]
  have he : IsEnum ((s.heap.push { cls := .type "tuple_iterator", data := .fields #[.ref l, .int 0 0] }).push
      { cls := .type "enumerate", data := .fields #[.none, .bool false, .ref s.heap.objs.size, rawInt 0, .none, .none] }) (s.heap.objs.size + 1) s.heap.objs.size 0 .none := by
    have := Heap.get?_push_size (s.heap.push { cls := .type "tuple_iterator", data := .fields #[.ref l, .int 0 0] })
      (o := { cls := .type "enumerate", data := .fields #[.none, .bool false, .ref s.heap.objs.size, rawInt 0, .none, .none] }) rfl
    rw [hz] at this; exact this
  refine ⟨⟨_, he, rfl⟩, h _ he ⟨_, Heap.get?_push_of_some _ (Heap.get?_push_size _ rfl), rfl, rfl⟩ (by rw [Heap.size_push, hz]) fun b o x => Heap.get?_push_of_some _ (Heap.get?_push_of_some _ x)⟩
theorem wpAny_pyNext_enumT_end {e it l : Addr} {i : Nat} {items : Array Value} {old : Value} {Q : Option Value → Shared → Prop} (hh : A.handled = none)
    (he : IsEnum s.heap e it i old) (hit : s.heap.IsTupleIter it l i) (hl : IsTup s.heap l items) (hx : items[i]? = none)
    (hQ : ∀ h', Heap.ExtBut it s.heap h' → Q none { s with heap := h' }) : wpAny (model prog w) A (pyNext (.ref e)) Q E s := by
  have hTy : s.TypeIs (.ref e) "enumerate" := ⟨_, he, rfl⟩
  unfold pyNext
  refine wpAny_bind (wpAny_attempt (wpAny_callSpecial?_slot (name := Str.ofString "__next__") hTy F.slot_enumerate_next
    (wpAny_call_entry F.slot_enumerate_next hTy F.entry_enumerate_next ?_ (F.args_enumerate_next_1 _))))
  show wpAny _ _ (field (.ref e) 2 >>= _) _ _ _
  refine wpAny_bind (wpAny_field he rfl (x := .ref it) rfl ?_)
  refine wpAny_bind (wpAny_nextOf_tuple_end hh hit hl hx fun h' x he' hx' => ?_)
  obtain ⟨o, ho, hc⟩ := hx'
  refine wpAny_bind (wpAny_isInstance (T := "StopIteration") (b := true) ⟨o, ho, hc⟩ isSubtype_stop ?_)
  exact wpAny_pure (hQ _ he')
end
def Itet (K : PySem.W.Frag) (a : Addr) : It :=
  ⟨fun i H => ∃ (xs : List V) (x : V), SqT K H a xs ∧ xs[i]? = some x, fun i H v H' => ∃ T x, v = .ref T ∧ H T = none ∧ H' = upd H T (.tup [.int (i : Nat), x]) ∧ ∀ xs, SqT K H a xs → xs[i]? = some x, fun i H => ∃ xs : List V, SqT K H a xs ∧ xs.length ≤ i⟩
theorem turn_enumT {P : Program} {w : World} {K : PySem.W.Frag} {elts : List Expr} {kk : Nat} {tpos : Pos} (a e it : Addr) (hai : a ≠ it) :
    Turn P w K (.Tuple elts kk tpos) (Itet K a) [e, it] e (fun i h => (∃ old, IsEnum h e it ((i : Nat) : Int) old) ∧ h.IsTupleIter it a i ∧ e ≠ it ∧ e ≠ a) where
  mem := by simp
  obj := fun i h st b hb => by
    obtain ⟨⟨old, he⟩, ⟨o, ho, hc, hd⟩, _⟩ := st
    have e' : b = e ∨ b = it := by simpa using hb
    rcases e' with z | z
    · rw [z]; exact ⟨_, he, fun v q => nomatch q⟩
    · rw [z]; exact ⟨o, ho, fun v q => by rw [hd] at q; cases q⟩
  keep := fun i h h' st k => let ⟨⟨old, he⟩, hi, hne⟩ := st; ⟨⟨old, k e (by simp) _ he⟩, hi.at fun o q => k it (by simp) o q, hne⟩
  item := by
    intro X hP hw hK hc i pins s σ H E I hf st hg
    subst hP hw hK
    obtain ⟨⟨old, he⟩, hit, hne, hea⟩ := st
    obtain ⟨xs, x, hq, hx⟩ := hg
    obtain ⟨its, rv, p, hz⟩ := I.tuple hq
    obtain ⟨u, hu, ru⟩ := rv.get hx
    have hel : e < s.heap.objs.size := Heap.lt_size he
    have hil : it < s.heap.objs.size := by obtain ⟨_, q, _⟩ := hit; exact Heap.lt_size q
    have hlt : i < its.toArray.size := by
      have z1 := (List.getElem?_eq_some_iff.mp hu).1
      rw [List.size_toArray]
      exact z1
    refine wpAny_pyNext_enum_itemD (Draws.tuple (prog := X.prog) (w := X.w) (A := X.A.in1) (I.ok.hd hc) it a hai its.toArray) he ⟨hit, p⟩ hlt hne (by simp; exact ⟨hne, hea⟩) fun x' h' tk hP' ho' st' hT hsz hk => ?_
    have ex : x' = u := by
      have z1 : its.toArray[i]? = some u := by simpa using hu
      rw [z1] at hP'
      exact (Option.some.inj hP').symm
    subst ex
    refine ⟨_, rfl, wpAny_letOwnedTupleGo_enum (s := { s with heap := h', toks := tk + 1 }) ho' fun h'' he' sb => ?_⟩
    have hT2 : h''.get? s.heap.objs.size = some { cls := .type "tuple", data := .seq #[.int i tk, x'] } := (sb.2 _ (Nat.ne_of_gt hel)).trans hT
    have new : ObjOk X.prog X.w (upd H s.heap.objs.size (.tup [.int (i : Nat), x])) h'' s.heap.objs.size (.tup [.int (i : Nat), x]) :=
      ⟨by show 2 ≤ sizeLine; decide, [.int i tk, x'], .cons ⟨_, rfl⟩ (.cons ru .nil), ⟨_, hT2, rfl, _, rfl⟩⟩
    have I1 : Inv X pins σ (upd H s.heap.objs.size (.tup [.int (i : Nat), x])) { s with heap := h'', toks := tk + 1 } :=
      I.turnedNew (ch := [e, it]) (fun b ob hb q => (sb.2 b (fun z => hb (by simp [z]))).trans (hk b ob (fun z => hb (by simp [z])) (fun z => hb (by simp [z])) q)) hf (Nat.le_refl _) new
    refine ⟨.ref s.heap.objs.size, _, I1, rfl, ⟨_, x, rfl, I.hok.fresh (Nat.le_refl _), rfl, fun ys hy => by rw [I.tuple_inj hy hq]; exact hx⟩, ⟨⟨x', ?_⟩, st'.1.at fun o q => (sb.2 it (Ne.symm hne)).trans q, hne, hea⟩, fun b hb => ?_⟩
    · have e1 : ((i + 1 : Nat) : Int) = (i : Int) + 1 := by omega
      rw [e1]; exact he'
    · have hb' : b < s.heap.objs.size := by
        have e' : b = e ∨ b = it := by simpa using hb
        rcases e' with z | z
        · rw [z]; exact hel
        · rw [z]; exact hil
      rw [upd_ne (Nat.ne_of_lt hb')]
      exact (hf b hb).1
  done := by
    intro X hP hw hK hc i pins s σ H E I hf st hg
    subst hP hw hK
    obtain ⟨⟨old, he⟩, hit, hne, hea⟩ := st
    obtain ⟨xs, hq, hx⟩ := hg
    obtain ⟨its, rv, p, hz⟩ := I.tuple hq
    obtain ⟨f0, f1, f2, f3, f4, f5⟩ := hf it (by simp)
    have hl := rv.length
    exact wpAny_pyNext_enumT_end (I.ok.hd hc) he hit p (by simp; omega) fun h' eb => ⟨rfl, I.turned (t' := s.toks) (fun b o hb q => eb b o hb q) f0 f1 f3 f4 f5⟩
  self := fun A i s Q E st h => let ⟨⟨_, he⟩, _⟩ := st; wpAny_pyIter_enum he h
def iEnumT (K : PySem.W.Frag) (ta : TA) : TI := fun σ H R => ta σ H fun vs H1 => ∃ a xs, vs = [.ref a] ∧ SqT K H1 a xs ∧ R (Itet K a) H1
theorem pi_enumT {X : Cx} {e : Expr} {ta : TA} {p pos tpos : Pos} {elts : List Expr} {kk : Nat} (hg : Gl X "enumerate") (hm : X.mg "enumerate" = none) (ha : PA X [e] ta) (hs : starEach [e] X.env = [(false, eval e X.env)] := by rfl) :
    PI X (.Tuple elts kk tpos) (.Call (.Name "enumerate" p) [e] [] pos) (iEnumT X.K ta) := by
  refine ⟨fun pins s σ H R I h => ?_⟩
  refine Call_ (ld_blt I hg hm boot_enumerate (PyProof.Rows.callWith_type1 (thn (ha.run pos pins s σ H _ I h) fun us s1 ⟨vs, H1, I1, r1, q1⟩ => ?_) hs rfl))
  obtain ⟨a, xs, ex, hq, q⟩ := q1
  subst ex
  cases r1 with
  | cons r rr =>
    cases rr
    cases r
    obtain ⟨its, rv, p', hz⟩ := I1.tuple hq
    have hal : a < s1.heap.objs.size := p'.lt
    refine call_enumerate_tup p' fun h' he hit hsz hk => wpAny_pyIter_enum he ?_
    have I2 : Inv X pins σ H1 { s1 with heap := h' } := I1.kept (t' := s1.toks) hk
    refine ⟨s1.heap.objs.size + 1, [s1.heap.objs.size + 1, s1.heap.objs.size], _, _, H1, rfl, I2, turn_enumT a (s1.heap.objs.size + 1) s1.heap.objs.size (Nat.ne_of_lt hal), ⟨⟨.none, he⟩, hit, Nat.succ_ne_self _, Nat.ne_of_gt (Nat.lt_succ_of_lt hal)⟩, fun b hb => ?_, q⟩
    have e' : b = s1.heap.objs.size + 1 ∨ b = s1.heap.objs.size := by simpa using hb
    have hle : s1.heap.objs.size ≤ b := by
      rcases e' with z | z
      · rw [z]; exact Nat.le_add_right _ _
      · rw [z]; exact Nat.le_refl _
    exact I1.fpOk hle (I1.hok.fresh hle)
theorem lc_enumT {K : PySem.W.Frag} {a : Addr} {xs : List V} {g : TG} {tt : TT} {te : TE} {vs : List Nat} {σ : L2.St} {H1 : Hp} {D : Addr} {Qd : Hp → Prop} (Pv : Nat → Hp → Prop) (h0 : Pv 0 (upd H1 D (.lst []))) (hl : ∀ i H, i ≤ xs.length → Pv i H → SqT K H a xs)
    (hs : ∀ i x T H, xs[i]? = some x → Pv i H → H T = none → g (.ref T) (wipe σ vs) (upd H T (.tup [.int (i : Nat), x])) fun σ2 H2 => wipe σ2 vs = wipe σ vs ∧ tt σ2 H2 fun b H3 =>
      if b = true then te σ2 H3 fun y H4 => ∃ acc, H4 D = some (.lst acc) ∧ acc.length < sizeLine ∧ Pv (i + 1) (upd H4 D (.lst (acc ++ [y]))) else Pv (i + 1) H3) (hd : ∀ H, Pv xs.length H → Qd H) :
    ∃ W : Nat → Nat → Hp → Prop, (∃ m, W 0 m (upd H1 D (.lst []))) ∧ ∀ i m H, W i m H →
      ((Itet K a).stop i H ∧ Qd H) ∨ ((Itet K a).go i H ∧ ∃ Nx : Hp → Prop, (∀ H', Nx H' → ∃ m', m' < m ∧ W (i + 1) m' H') ∧ ∀ x H', (Itet K a).yld i H x H' → g x (wipe σ vs) H' fun σ2 H2 => wipe σ2 vs = wipe σ vs ∧ tt σ2 H2 fun b H3 =>
        if b = true then te σ2 H3 fun y H4 => ∃ acc, H4 D = some (.lst acc) ∧ acc.length < sizeLine ∧ Nx (upd H4 D (.lst (acc ++ [y]))) else Nx H3) := by
  refine ⟨fun i m H => m = xs.length - i ∧ i ≤ xs.length ∧ Pv i H, ⟨xs.length, by simp, Nat.zero_le _, h0⟩, ?_⟩
  rintro i m H ⟨rfl, hi, p⟩
  have q := hl i H hi p
  by_cases hlt : i < xs.length
  · refine .inr ⟨⟨xs, xs[i], q, by simp [hlt]⟩, Pv (i + 1), fun H' p' => ⟨xs.length - (i + 1), by omega, rfl, hlt, p'⟩, fun x H' y => ?_⟩
    obtain ⟨T, x', rfl, nT, rfl, y⟩ := y
    exact hs i x' T H (y xs q) p nT
  · have e : i = xs.length := by omega
    subst e
    exact .inl ⟨⟨xs, q, Nat.le_refl _⟩, hd H p⟩
end Pk

set_option maxRecDepth 100000
set_option maxHeartbeats 1000000
namespace Pk
open PySem PySem.Spec PyProof.Rows L2

/-! ### data: an atom, some list, a tuple of data -/
inductive D where
  | at (v : V)
  | lst
  | tup (l : List D)
def flat4 : V → Bool
  | .non => true
  | .bl _ => true
  | .int _ => true
  | .str _ => true
  | _ => false
/-- a tuple that stands: tracked, or of the written part -/
def TupAt (K : PySem.W.Frag) (H : Hp) (a : Addr) (xs : List V) : Prop :=
  H a = some (.tup xs) ∨ ∃ (o : Obj) (its : Array Value) (n : Nat), K.lookup a = some o ∧ o.cls = .type "tuple" ∧ o.data = .seq its n ∧ its.size ≤ sizeLine ∧ Vals xs its.toList
theorem TupAt.sq {K : PySem.W.Frag} {H : Hp} {a : Addr} {xs : List V} (h : TupAt K H a xs) : SqT K H a xs := by
  rcases h with h | h
  · exact .inl (.inl h)
  · exact .inr h
theorem TupAt.same {K : PySem.W.Frag} {H H' : Hp} {a : Addr} {xs : List V} (h : TupAt K H a xs) (s : Same H H') : TupAt K H' a xs := by
  rcases h with h | h
  · exact .inl (s _ _ h)
  · exact .inr h
mutual
inductive Rep (K : PySem.W.Frag) (H : Hp) : V → D → Prop where
  | at {v : V} (h : flat4 v = true) : Rep K H v (.at v)
  | lst {a : Addr} {xs : List V} (h : H a = some (.lst xs)) : Rep K H (.ref a) .lst
  | tup {a : Addr} {xs : List V} {ts : List D} (h : TupAt K H a xs) (r : Reps K H xs ts) : Rep K H (.ref a) (.tup ts)
inductive Reps (K : PySem.W.Frag) (H : Hp) : List V → List D → Prop where
  | nil : Reps K H [] []
  | cons {x : V} {t : D} {xs : List V} {ts : List D} (h : Rep K H x t) (r : Reps K H xs ts) : Reps K H (x :: xs) (t :: ts)
end
theorem Rep.tup' {K : PySem.W.Frag} {H : Hp} {a : Addr} {xs : List V} {ts : List D} (h : H a = some (.tup xs)) (r : Reps K H xs ts) : Rep K H (.ref a) (.tup ts) := .tup (.inl h) r
/-- tuples stand as they are, lists stay lists -/
structure Kx (H H' : Hp) : Prop where
  t : ∀ a xs, H a = some (.tup xs) → H' a = some (.tup xs)
  l : ∀ a xs, H a = some (.lst xs) → ∃ ys, H' a = some (.lst ys)
theorem Kx.refl (H : Hp) : Kx H H := ⟨fun _ _ h => h, fun _ xs h => ⟨xs, h⟩⟩
theorem Kx.trans {H H1 H2 : Hp} (a : Kx H H1) (b : Kx H1 H2) : Kx H H2 := ⟨fun q xs h => b.t q xs (a.t q xs h), fun q xs h => let ⟨ys, h1⟩ := a.l q xs h; b.l q ys h1⟩
theorem kx_same {H H' : Hp} (s : Same H H') : Kx H H' := ⟨fun a xs h => s _ _ h, fun a xs h => ⟨xs, s _ _ h⟩⟩
theorem same_new {H : Hp} {p : Addr} (h : H p = none) (o : HO) : Same H (upd H p o) := fun b u q => by rw [upd_ne (ne_of_none q h)]; exact q
theorem kx_new {H : Hp} {p : Addr} (h : H p = none) (o : HO) : Kx H (upd H p o) := kx_same (same_new h o)
theorem kx_list {H : Hp} {p : Addr} {xs : List V} (h : H p = some (.lst xs)) (ys : List V) : Kx H (upd H p (.lst ys)) := by
  refine ⟨fun a zs e => ?_, fun a zs e => ?_⟩
  · rw [upd_ne (ne_of e h (by intro q; cases q))]
    exact e
  · by_cases ha : a = p
    · subst ha
      exact ⟨ys, upd_same⟩
    · rw [upd_ne ha]
      exact ⟨zs, e⟩
/-- all but what stands at b is as it was -/
def SB (b : Addr) (H H' : Hp) : Prop := ∀ q o, q ≠ b → H q = some o → H' q = some o
theorem SB.refl (b : Addr) (H : Hp) : SB b H H := fun _ _ _ h => h
theorem SB.trans {b : Addr} {H H1 H2 : Hp} (x : SB b H H1) (y : SB b H1 H2) : SB b H H2 := fun q o n h => y q o n (x q o n h)
theorem sb_same {b : Addr} {H H' : Hp} (s : Same H H') : SB b H H' := fun q o _ h => s q o h
theorem sb_upd {b : Addr} {H : Hp} (o : HO) : SB b H (upd H b o) := fun q u n h => by rw [upd_ne n]; exact h
theorem sb_new {b : Addr} {H H' : Hp} (n : H b = none) (s : SB b H H') : Same H H' := fun q o h => s q o (ne_of_none h n) h
theorem sb_kx {b : Addr} {H H' : Hp} {xs ys : List V} (s : SB b H H') (h : H b = some (.lst xs)) (h' : H' b = some (.lst ys)) : Kx H H' := by
  refine ⟨fun a zs e => s _ _ (ne_of e h (by intro q; cases q)) e, fun a zs e => ?_⟩
  by_cases ha : a = b
  · subst ha
    exact ⟨ys, h'⟩
  · exact ⟨zs, s _ _ ha e⟩
theorem TupAt.kx {K : PySem.W.Frag} {H H' : Hp} {a : Addr} {xs : List V} (h : TupAt K H a xs) (k : Kx H H') : TupAt K H' a xs := by
  rcases h with h | h
  · exact .inl (k.t _ _ h)
  · exact .inr h
mutual
theorem Rep.mono {K : PySem.W.Frag} {H H' : Hp} (k : Kx H H') : ∀ {v : V} {d : D}, Rep K H v d → Rep K H' v d
  | _, _, .at h => .at h
  | _, _, .lst h => let ⟨_, h'⟩ := k.l _ _ h; .lst h'
  | _, _, .tup h r => .tup (h.kx k) (Reps.mono k r)
theorem Reps.mono {K : PySem.W.Frag} {H H' : Hp} (k : Kx H H') : ∀ {xs : List V} {ds : List D}, Reps K H xs ds → Reps K H' xs ds
  | _, _, .nil => .nil
  | _, _, .cons h r => .cons (Rep.mono k h) (Reps.mono k r)
end
section
variable {K : PySem.W.Frag} {H : Hp}
theorem Rep.inv {v : V} {ts : List D} (r : Rep K H v (.tup ts)) : ∃ a xs, v = .ref a ∧ TupAt K H a xs ∧ Reps K H xs ts := by
  cases r with
  | tup h r => exact ⟨_, _, rfl, h, r⟩
theorem Rep.inva {v w : V} (r : Rep K H v (.at w)) : v = w ∧ flat4 v = true := by
  cases r with
  | «at» h => exact ⟨rfl, h⟩
theorem Reps.length : ∀ {xs : List V} {ds : List D}, Reps K H xs ds → xs.length = ds.length
  | _, _, .nil => rfl
  | _, _, .cons _ r => congrArg Nat.succ r.length
theorem Reps.get : ∀ {xs : List V} {ds : List D} {i : Nat} {x : V}, Reps K H xs ds → xs[i]? = some x → ∃ d, ds[i]? = some d ∧ Rep K H x d
  | _, _, _, _, .nil, e => by simp at e
  | _, _, 0, _, .cons h _, e => by simp at e; subst e; exact ⟨_, rfl, h⟩
  | _, _, i + 1, x, .cons _ r, e => by
    obtain ⟨d, h1, h2⟩ := Reps.get (i := i) (x := x) r (by simpa using e)
    exact ⟨d, by simpa using h1, h2⟩
theorem Reps.getD : ∀ {xs : List V} {ds : List D} {i : Nat} {d : D}, Reps K H xs ds → ds[i]? = some d → ∃ x, xs[i]? = some x ∧ Rep K H x d := fun {xs ds i d} r e => by
  have hl := r.length
  have hi : i < ds.length := (List.getElem?_eq_some_iff.mp e).1
  obtain ⟨d', h1, h2⟩ := r.get (i := i) (x := xs[i]'(by omega)) (by first | (simp; done) | (simp; omega))
  rw [e] at h1
  cases h1
  exact ⟨_, by first | (simp; done) | (simp; omega), h2⟩
theorem Reps.append : ∀ {xs ys : List V} {ds es : List D}, Reps K H xs ds → Reps K H ys es → Reps K H (xs ++ ys) (ds ++ es)
  | _, _, _, _, .nil, s => s
  | _, _, _, _, .cons h r, s => .cons h (Reps.append r s)
theorem Reps.one {x : V} {d : D} (h : Rep K H x d) : Reps K H [x] [d] := .cons h .nil
theorem Reps.take : ∀ {xs : List V} {ds : List D} (n : Nat), Reps K H xs ds → Reps K H (xs.take n) (ds.take n)
  | _, _, 0, _ => .nil
  | _, _, _ + 1, .nil => .nil
  | _, _, n + 1, .cons h r => .cons h (Reps.take n r)
theorem Reps.drop : ∀ {xs : List V} {ds : List D} (n : Nat), Reps K H xs ds → Reps K H (xs.drop n) (ds.drop n)
  | _, _, 0, r => r
  | _, _, _ + 1, .nil => .nil
  | _, _, n + 1, .cons _ r => Reps.drop n r
theorem Reps.reverse : ∀ {xs : List V} {ds : List D}, Reps K H xs ds → Reps K H xs.reverse ds.reverse
  | _, _, .nil => .nil
  | _, _, .cons h r => by
    rw [List.reverse_cons, List.reverse_cons]
    exact Reps.append (Reps.reverse r) (.one h)
/-- the last one, and those before it -/
theorem Reps.last {xs : List V} {ds : List D} (r : Reps K H xs ds) (h : xs ≠ []) : ∃ x d es, xs[xs.length - 1]? = some x ∧ ds = es ++ [d] ∧ Rep K H x d ∧ Reps K H xs.dropLast es := by
  have hl := r.length
  have hp : 0 < xs.length := List.length_pos_iff.mpr h
  obtain ⟨d, h1, h2⟩ := r.get (i := xs.length - 1) (x := xs[xs.length - 1]'(by omega)) (by first | (simp; done) | (simp; omega))
  refine ⟨_, d, ds.dropLast, by first | (simp; done) | (simp; omega), ?_, h2, ?_⟩
  · have hd : ds ≠ [] := fun e => by
      rw [e] at hl
      simp at hl
      exact h hl
    have q : ds.getLast hd = d := by
      rw [List.getLast_eq_getElem]
      rw [hl, List.getElem?_eq_getElem (by omega)] at h1
      exact Option.some.inj h1
    rw [← q]
    exact (List.dropLast_concat_getLast hd).symm
  · rw [List.dropLast_eq_take, List.dropLast_eq_take, hl]
    exact r.take _
end
/-! ### kinds, sizes, depths -/
mutual
def isK : D → Bool
  | .tup ts => isKs ts
  | _ => false
def isKs : List D → Bool
  | [] => true
  | t :: r => isK t && isKs r
end
mutual
def sz : D → Nat
  | .tup ts => szs ts + 1
  | _ => 1
def szs : List D → Nat
  | [] => 0
  | t :: r => sz t + szs r
end
mutual
def dep : D → Nat
  | .tup ts => deps ts
  | _ => 0
def deps : List D → Nat
  | [] => 0
  | t :: r => max (dep t + 1) (deps r)
end
theorem isKs_append : ∀ (a b : List D), isKs (a ++ b) = (isKs a && isKs b)
  | [], b => by simp [isKs]
  | t :: r, b => by
    show (isK t && isKs (r ++ b)) = ((isK t && isKs r) && isKs b)
    rw [isKs_append r b, Bool.and_assoc]
theorem szs_append : ∀ (a b : List D), szs (a ++ b) = szs a + szs b
  | [], b => by simp [szs]
  | t :: r, b => by
    show sz t + szs (r ++ b) = (sz t + szs r) + szs b
    rw [szs_append r b]
    omega
theorem deps_append : ∀ (a b : List D), deps (a ++ b) = max (deps a) (deps b)
  | [], b => by simp [deps]
  | t :: r, b => by
    show max (dep t + 1) (deps (r ++ b)) = max (max (dep t + 1) (deps r)) (deps b)
    rw [deps_append r b]
    omega
theorem sz_pos : ∀ d : D, 0 < sz d
  | .tup _ => Nat.succ_pos _
  | .at _ => Nat.one_pos
  | .lst => Nat.one_pos
theorem len_szs : ∀ l : List D, l.length ≤ szs l
  | [] => Nat.le_refl _
  | t :: r => by
    have h1 := sz_pos t
    have h2 := len_szs r
    show r.length + 1 ≤ sz t + szs r
    omega
theorem sz_mem : ∀ {l : List D} {d : D}, d ∈ l → sz d ≤ szs l
  | t :: r, d, h => by
    show sz d ≤ sz t + szs r
    rcases List.mem_cons.mp h with e | h
    · rw [e]
      omega
    · have := sz_mem h
      omega
theorem dep_mem : ∀ {l : List D} {d : D}, d ∈ l → dep d + 1 ≤ deps l
  | t :: r, d, h => by
    show dep d + 1 ≤ max (dep t + 1) (deps r)
    rcases List.mem_cons.mp h with e | h
    · rw [e]
      omega
    · have := dep_mem h
      omega
theorem isK_mem : ∀ {l : List D}, isKs l = true → ∀ {d : D}, d ∈ l → isK d = true
  | t :: r, hk, d, h => by
    have hk' : (isK t && isKs r) = true := hk
    rw [Bool.and_eq_true] at hk'
    rcases List.mem_cons.mp h with e | h
    · rw [e]
      exact hk'.1
    · exact isK_mem hk'.2 h
theorem isK_inv {d : D} (h : isK d = true) : ∃ ts, d = .tup ts ∧ isKs ts = true := by
  cases d with
  | tup ts => exact ⟨ts, rfl, h⟩
  | «at» v => cases h
  | lst => cases h
theorem isKs_all : ∀ (l : List D), isKs l = l.all isK
  | [] => rfl
  | t :: r => by
    show (isK t && isKs r) = (isK t && r.all isK)
    rw [isKs_all r]
theorem dep_lt_sz : ∀ d : D, dep d < sz d := by
  have key : ∀ n : Nat, (∀ d : D, sz d ≤ n → dep d < sz d) := by
    intro n
    induction n with
    | zero => intro d h; have := sz_pos d; omega
    | succ n ih =>
      intro d h
      cases d with
      | «at» v => exact Nat.one_pos
      | lst => exact Nat.one_pos
      | tup ts =>
        show deps ts < szs ts + 1
        have h' : szs ts + 1 ≤ n + 1 := h
        have gen : ∀ l : List D, szs l ≤ n → deps l ≤ szs l := by
          intro l
          induction l with
          | nil => intro _; exact Nat.le_refl _
          | cons t r ih2 =>
            intro hl
            have hl' : sz t + szs r ≤ n := hl
            have a1 := ih t (by omega)
            have a2 := ih2 (by omega)
            show max (dep t + 1) (deps r) ≤ sz t + szs r
            omega
        have := gen ts (by omega)
        omega
  exact fun d => key (sz d) d (Nat.le_refl _)
/-! ### data as the library's == reads it -/
mutual
def toPy : D → PyData
  | .at .non => .none
  | .at (.bl b) => .bool b
  | .at (.int i) => .int i
  | .at (.str x) => .str x
  | .at _ => .none
  | .lst => .none
  | .tup ts => .tuple (toPys ts)
def toPys : List D → List PyData
  | [] => []
  | t :: r => toPy t :: toPys r
end
mutual
theorem dp_kind {K : PySem.W.Frag} {H : Hp} : ∀ {v : V} {d : D}, Rep K H v d → isK d = true → Dp K H v (toPy d)
  | _, _, .at _, k => by cases k
  | _, _, .lst _, k => by cases k
  | _, _, .tup h r, k => .tup h.sq (dp_kinds r k)
theorem dp_kinds {K : PySem.W.Frag} {H : Hp} : ∀ {xs : List V} {ds : List D}, Reps K H xs ds → isKs ds = true → DpAll K H xs (toPys ds)
  | _, _, .nil, _ => .nil
  | _, _, .cons h r, k => by
    have k' := Bool.and_eq_true_iff.mp k
    exact .cons (dp_kind h k'.1) (dp_kinds r k'.2)
end
mutual
theorem lay_kind : ∀ {d : D}, isK d = true → PyData.canLay0 (toPy d) = true
  | .at _, k => by cases k
  | .lst, k => by cases k
  | .tup ts, k => lay_kinds (l := ts) k
theorem lay_kinds : ∀ {l : List D}, isKs l = true → PyData.canLayAll0 (toPys l) = true
  | [], _ => rfl
  | t :: r, k => by
    have k' := Bool.and_eq_true_iff.mp k
    show (PyData.canLay0 (toPy t) && PyData.canLayAll0 (toPys r)) = true
    rw [lay_kind k'.1, lay_kinds k'.2]
    rfl
end
mutual
theorem depth_kind : ∀ {d : D}, isK d = true → PyData.depth (toPy d) ≤ dep d + 1
  | .at _, k => by cases k
  | .lst, k => by cases k
  | .tup ts, k => by
    have := depth_kinds (l := ts) k
    show PyData.depthAll (toPys ts) + 1 ≤ deps ts + 1
    omega
theorem depth_kinds : ∀ {l : List D}, isKs l = true → PyData.depthAll (toPys l) ≤ deps l
  | [], _ => Nat.le_refl _
  | t :: r, k => by
    have k' := Bool.and_eq_true_iff.mp k
    have h1 := depth_kind k'.1
    have h2 := depth_kinds k'.2
    show max (PyData.depth (toPy t)) (PyData.depthAll (toPys r)) ≤ max (dep t + 1) (deps r)
    omega
end
theorem shaped_kind {d : D} (k : isK d = true) (h : dep d ≤ 60) : SeqAt.shaped (toPy d) = true := by
  unfold SeqAt.shaped
  have := depth_kind k
  rw [lay_kind k, decide_eq_true (by omega)]
  rfl
/-! ### operators on tuples that stand, one way on -/
section
variable {X : Cx}
def rCatP (K : PySem.W.Frag) : R2 := fun x y H Q => ∃ a b xs ys, x = .ref a ∧ y = .ref b ∧ TupAt K H a xs ∧ TupAt K H b ys ∧ xs.length + ys.length ≤ sizeLine ∧ ∀ (c : Addr) (H' : Hp), Same H H' → TupAt K H' c (xs ++ ys) → Q (.ref c) H'
theorem op_catP : OpR X (binaryOp .Add) (rCatP X.K) := by
  intro pins s σ H x y v u Q I rx ry h
  obtain ⟨a, b, xs, ys, rfl, rfl, ha, hb, hz, q⟩ := h
  refine op_catA pins s σ H _ _ v u Q I rx ry ⟨a, b, xs, ys, rfl, rfl, ha.sq, hb.sq, hz, fun e => ?_, fun _ e => ?_, fun _ _ p np => ?_⟩
  · subst e
    exact q b H (Same.refl H) hb
  · subst e
    exact q a H (Same.refl H) (by rw [List.append_nil]; exact ha)
  · exact q p _ (fun c o e => by rw [upd_ne (ne_of_none e np)]; exact e) (.inl upd_same)
def rSlP (K : PySem.W.Frag) : V → Option Int → Option Int → Hp → VK → Prop := fun x lo hi H Q => ∃ a xs, x = .ref a ∧ TupAt K H a xs ∧ ∀ (c : Addr) (H' : Hp), Same H H' → TupAt K H' c (cutV xs lo hi) → Q (.ref c) H'
theorem sl_tupP : SlR X (rSlP X.K) := by
  intro pins s σ H x v vl vu lo hi sl Q I rx hs pl pu h
  obtain ⟨a, xs, rfl, hx, q⟩ := h
  refine sl_tupA pins s σ H _ v vl vu lo hi sl Q I rx hs pl pu ⟨a, xs, rfl, hx.sq, fun z => ?_, fun _ p np => ?_⟩
  · exact q a H (Same.refl H) (by rw [cutV_whole z]; exact hx)
  · exact q p _ (fun c o e => by rw [upd_ne (ne_of_none e np)]; exact e) (.inl upd_same)
end
end Pk

set_option maxRecDepth 100000
set_option maxHeartbeats 1000000
/-! a list of data whose items compare, place by place, as far as they are asked: sorted -/
namespace Pk
open PySem PySem.Spec PyProof.Rows L2 PySem.SeqAt

/-! ### a < b of two tuples: what stands behind the first place that differs is never asked -/
section
open AutoSeq1 (wpAny_loadPart')
open MeetsSeq MeetsSeq2 MeetsSeq3 SeqRoads2
theorem tupLt_first (p q : Addr) (us ws : Array Value) (np nq : Nat) (dp dq : Option Addr) (sp sq : Array (Option Value)) (same less : Nat → Bool) :
    Meets (Builtin.«tuple.__lt__» ⟨[.ref p, .ref q], []⟩) (fun A R s =>
      s.heap.get? p = some { cls := .type "tuple", dict := dp, data := .seq us np, slots := sp } ∧
      s.heap.get? q = some { cls := .type "tuple", dict := dq, data := .seq ws nq, slots := sq } ∧
      (∀ j (a1 : j < us.size) (a2 : j < ws.size), EqAt A.in1 s us[j] ws[j] (same j)) ∧
      (∀ j (a1 : j < us.size) (a2 : j < ws.size), (∀ m, m < j → same m = true) → same j = false → RcLt A.in1 s us[j] ws[j] (less j)) ∧
      R (.ok (.ret (.bool (firstLt same less (decide (us.size < ws.size)) (List.range (min us.size ws.size)))))) s) :=
  .of_wp fun prog w A R s all => by
    obtain ⟨h0, g0, d0, t0, o0⟩ := s
    obtain ⟨gp, gq, heq, hlt, hR⟩ := all
    have tt := AutoSeq1.sub_tuple_tuple
    have lz : (us.toList.zip ws.toList).length = min us.size ws.size := by simp
    wp_walk using wpAny_loadPart' gp, wpAny_loadPart' gq, wpAny_forIn_list _ (fun rest c s' => c.1 = none ∧ s' = ⟨h0, g0, d0, t0, o0⟩ ∧ ∃ k, rest = (us.toList.zip ws.toList).drop k ∧ (∀ m, m < k → same m = true) ∧
      R (.ok (.ret (.bool (firstLt same less (decide (us.size < ws.size)) ((List.range (min us.size ws.size)).drop k))))) ⟨h0, g0, d0, t0, o0⟩) _
    case turn =>
      rintro ⟨u, v⟩ rest c s' ⟨hc, rfl, k, hk, hs, hR'⟩
      have kz : k < (us.toList.zip ws.toList).length := by
        rcases Nat.lt_or_ge k (us.toList.zip ws.toList).length with z | z
        · exact z
        · rw [List.drop_of_length_le z] at hk
          cases hk
      have km : k < min us.size ws.size := by omega
      have k1 : k < us.size := by omega
      have k2 : k < ws.size := by omega
      rw [List.drop_eq_getElem_cons kz] at hk
      obtain ⟨huv, hrest⟩ := List.cons.inj hk
      obtain rfl : u = us[k] := by simpa using congrArg Prod.fst huv
      obtain rfl : v = ws[k] := by simpa using congrArg Prod.snd huv
      have hr : (List.range (min us.size ws.size)).drop k = k :: (List.range (min us.size ws.size)).drop (k + 1) := by
        rw [List.drop_eq_getElem_cons (by simpa using km)]
        simp
      rw [hr] at hR'
      refine wpAny_bind (heq k k1 k2 prog w _ _ ?_)
      cases sk : same k with
      | true =>
        rw [firstLt_yes sk] at hR'
        wp_walk
        refine ⟨rfl, rfl, k + 1, hrest, fun m hm => ?_, hR'⟩
        by_cases e : m = k
        · rw [e]
          exact sk
        · exact hs m (by omega)
      | false =>
        rw [firstLt_no sk] at hR'
        rw [if_pos (show (!false) = true from rfl)]
        refine wpAny_bind (wpAny_rule ?_)
        refine wpAny_bind (hlt k k1 k2 hs sk prog w _ _ ?_)
        wp_walk
        exact ⟨_, rfl, hR'⟩
    case fin =>
      rintro ⟨c1, c2⟩ s' ⟨hc, rfl, k, hk, hs, hR'⟩
      simp only at hc
      subst hc
      have kz : min us.size ws.size ≤ k := by
        rcases Nat.lt_or_ge k (us.toList.zip ws.toList).length with z | z
        · rw [List.drop_eq_getElem_cons z] at hk
          cases hk
        · omega
      rw [List.drop_of_length_le (by simpa using kz)] at hR'
      wp_walk
      exact ⟨_, rfl, by simpa [Builtin.Tuple.tupleCompareSizes, firstLt] using hR'⟩
    case h =>
      exact ⟨rfl, rfl, 0, rfl, fun m hm => absurd hm (Nat.not_lt_zero m), by simpa using hR⟩
end
theorem rcLt_first {A : Around} {s : Shared} {p q : Addr} {us ws : Array Value} {same less : Nat → Bool} (hp : s.heap.IsTuple p us) (hq : s.heap.IsTuple q ws) (hu : A.units < cLine)
    (heq : ∀ j (a1 : j < us.size) (a2 : j < ws.size), EqAt A.in1 s us[j] ws[j] (same j)) (hlt : ∀ j (a1 : j < us.size) (a2 : j < ws.size), (∀ m, m < j → same m = true) → same j = false → RcLt A.in1 s us[j] ws[j] (less j)) :
    RcLt A s (.ref p) (.ref q) (firstLt same less (decide (us.size < ws.size)) (List.range (min us.size ws.size))) := by
  intro prog w E Q hQ
  obtain ⟨⟨c1, d1, x1, l1⟩, g1, e1, n1, y1⟩ := id hp
  obtain ⟨⟨c2, d2, x2, l2⟩, g2, e2, n2, y2⟩ := id hq
  simp only at e1 y1 e2 y2
  subst e1 y1 e2 y2
  refine richCompare_meets_room (op := .Lt) ⟨_, g1, rfl⟩ ⟨_, g2, rfl⟩ F.slot_tuple_lt F.entry_tuple_lt (F.args_tuple_lt_2 _ _) (tupLt_first p q us ws n1 n2 d1 d2 l1 l2 same less) ⟨g1, g2, heq, hlt, ?_⟩ hu
  show Value.bool _ ≠ Value.notImplemented ∧ Q _ s
  exact ⟨(fun z => nomatch z), hQ⟩

/-! ### data that compare as far as they are asked -/
mutual
def cpb : PyData → PyData → Bool
  | .none, .none => true
  | .bool _, .bool _ => true
  | .int _, .int _ => true
  | .str _, .str _ => true
  | .tuple xs, .tuple ys => cpbs xs ys
  | _, _ => false
def cpbs : List PyData → List PyData → Bool
  | x :: xs, y :: ys => cpb x y && (PyData.eqv x y == false || cpbs xs ys)
  | [], _ => true
  | _ :: _, [] => true
end
mutual
def dlt : PyData → PyData → Bool
  | .bool x, .bool y => decide (b2i x < b2i y)
  | .int x, .int y => decide (x < y)
  | .str x, .str y => decide (x.cps.toList < y.cps.toList)
  | .tuple xs, .tuple ys => dlts xs ys
  | _, _ => false
def dlts : List PyData → List PyData → Bool
  | x :: xs, y :: ys => if PyData.eqv x y = true then dlts xs ys else dlt x y
  | [], [] => false
  | [], _ :: _ => true
  | _ :: _, [] => false
end
theorem cpbs_cons {x y : PyData} {xs ys : List PyData} (h : cpbs (x :: xs) (y :: ys) = true) : cpb x y = true ∧ (PyData.eqv x y = true → cpbs xs ys = true) := by
  rw [cpbs] at h
  have k := Bool.and_eq_true_iff.mp h
  refine ⟨k.1, fun e => ?_⟩
  have k2 := k.2
  rw [e] at k2
  exact k2
theorem cpb_none {x y : PyData} (h : cpb x y = true) (e : PyData.eqv x y = false) : x ≠ .none := by
  rintro rfl
  cases y with
  | none => exact absurd e (by simp [PyData.eqv])
  | _ => exact absurd h (by simp [cpb])
theorem firstLt_dlts : ∀ (xs ys : List PyData),
    firstLt (pairEq xs ys) (fun j => dlt (xs.getD j .none) (ys.getD j .none)) (decide (xs.length < ys.length)) (List.range (min xs.length ys.length)) = dlts xs ys
  | [], [] => by simp [firstLt, dlts]
  | [], y :: ys => by simp [firstLt, dlts]
  | x :: xs, [] => by simp [firstLt, dlts]
  | x :: xs, y :: ys => by
    have more := firstLt_dlts xs ys
    have lm : min (x :: xs).length (y :: ys).length = min xs.length ys.length + 1 := by
      simp only [List.length_cons]
      omega
    have ld : decide ((x :: xs).length < (y :: ys).length) = decide (xs.length < ys.length) := by
      simp only [List.length_cons]
      exact decide_eq_decide.mpr (by omega)
    rw [lm, ld, List.range_succ_eq_map, dlts]
    cases hxy : PyData.eqv x y with
    | true =>
      rw [firstLt_yes (show pairEq (x :: xs) (y :: ys) 0 = true from hxy), PySem.W.firstLt_map, if_pos rfl, ← more]
      rfl
    | false =>
      rw [firstLt_no (show pairEq (x :: xs) (y :: ys) 0 = false from hxy), if_neg Bool.false_ne_true]
      rfl
mutual
theorem rcLt_cpb : ∀ (da db : PyData) (A : Around) (s : Shared) (a b : Value) (as bs : List Addr), Reads s.heap a da as → Reads s.heap b db bs → da.plain = true → db.plain = true → cpb da db = true → da ≠ .none →
    A.units + min da.depth db.depth < cLine → RcLt A s a b (dlt da db)
  | .none, _, _, _, _, _, _, _, _, _, _, _, _, no, _ => absurd rfl no
  | .bool x, db, _, _, _, _, _, _, ra, rb, _, _, h, _, _ => by
    cases db with
    | bool y =>
      cases ra
      cases rb
      exact fun prog w E Q q => lt_bool q
    | _ => cases h
  | .int x, db, _, _, _, _, _, _, ra, rb, _, _, h, _, _ => by
    cases db with
    | int y =>
      cases ra
      cases rb
      exact fun prog w E Q q => PyProof.Rows.lt_int q
    | _ => cases h
  | .str x, db, _, _, _, _, _, _, ra, rb, _, _, h, _, _ => by
    cases db with
    | str y =>
      cases ra
      cases rb
      exact fun prog w E Q q => PyProof.Rows.lt_str q
    | _ => cases h
  | .tuple xs, db, A, s, a, b, as, bs, ra, rb, pa, pb, h, _, hu => by
    cases db with
    | tuple ys =>
      have hc : cpbs xs ys = true := h
      cases ra with
      | @tuple l o vs n _ _ e1 e2 e3 e4 =>
        cases rb with
        | @tuple l' o' vs' n' _ _ f1 f2 f3 f4 =>
          have n1 : vs.size = xs.length := by simpa using ReadsAll.length _ _ _ e4
          have n2 : vs'.size = ys.length := by simpa using ReadsAll.length _ _ _ f4
          show RcLt A s (.ref l) (.ref l') (dlts xs ys)
          rw [← firstLt_dlts xs ys, ← n1, ← n2]
          refine rcLt_first ⟨_, e1, e2, _, e3⟩ ⟨_, f1, f2, _, f3⟩ (room_here hu) (fun j j1 j2 => ?_) (fun j j1 j2 hm hj => ?_)
          · have z := eqAt_plainAll xs ys A.in1 s vs.toList vs'.toList _ _ e4 f4 pa pb (room_in hu) j (by simpa using j1) (by simpa using j2)
            simpa using z
          · have z := rcLt_cpbs xs ys A.in1 s vs.toList vs'.toList _ _ e4 f4 pa pb hc (room_in hu) j (by simpa using j1) (by simpa using j2) hm hj
            simpa using z
    | _ => cases h
  | .list _, db, _, _, _, _, _, _, _, _, _, _, h, _, _ => by cases db <;> cases h
  | .dict _, db, _, _, _, _, _, _, _, _, _, _, h, _, _ => by cases db <;> cases h
theorem rcLt_cpbs : ∀ (xs ys : List PyData) (A : Around) (s : Shared) (vs ws : List Value) (as bs : List Addr), ReadsAll s.heap vs xs as → ReadsAll s.heap ws ys bs → PyData.plainAll xs = true → PyData.plainAll ys = true → cpbs xs ys = true →
    A.units + min (PyData.depthAll xs) (PyData.depthAll ys) < cLine → ∀ j (h1 : j < vs.length) (h2 : j < ws.length), (∀ m, m < j → pairEq xs ys m = true) → pairEq xs ys j = false → RcLt A s vs[j] ws[j] (dlt (xs.getD j .none) (ys.getD j .none))
  | [], _, _, _, _, _, _, _, ra, _, _, _, _, _, j, h1, _, _, _ => by
    cases ra
    exact absurd h1 (Nat.not_lt_zero j)
  | _ :: _, [], _, _, _, _, _, _, _, rb, _, _, _, _, j, _, h2, _, _ => by
    cases rb
    exact absurd h2 (Nat.not_lt_zero j)
  | x :: xs, y :: ys, A, s, _, _, _, _, ra, rb, pa, pb, hc, hu, j, h1, h2, hm, hj => by
    have pa' : x.plain = true ∧ PyData.plainAll xs = true := by simpa [PyData.plainAll] using pa
    have pb' : y.plain = true ∧ PyData.plainAll ys = true := by simpa [PyData.plainAll] using pb
    obtain ⟨c1, c2⟩ := cpbs_cons hc
    cases ra with
    | cons r rs =>
      cases rb with
      | cons t ts =>
        cases j with
        | zero => exact rcLt_cpb x y A s _ _ _ _ r t pa'.1 pb'.1 c1 (cpb_none c1 hj) (room_head hu)
        | succ j => exact rcLt_cpbs xs ys A s _ _ _ _ rs ts pa'.2 pb'.2 (c2 (hm 0 (Nat.succ_pos j))) (room_tail hu) j (Nat.lt_of_succ_lt_succ h1) (Nat.lt_of_succ_lt_succ h2) (fun m hmj => hm (m + 1) (Nat.succ_lt_succ hmj)) hj
end
/-! ### sorting them -/
section
variable {prog : Program} {w : World} {A : Around} {E : Value → Shared → Prop} {s : Shared}
theorem kat_cpbs {fin : Bool} {Q : Bool → Shared → Prop} : ∀ (xs ys : List PyData) (i : Nat) (vs ws : List Value) (as bs : List Addr), ReadsAll s.heap vs xs as → ReadsAll s.heap ws ys bs → PyData.plainAll xs = true → PyData.plainAll ys = true → cpbs xs ys = true →
    A.units + min (PyData.depthAll xs) (PyData.depthAll ys) < cLine → fin = decide (xs.length < ys.length) → Q (dlts xs ys) s → PySem.W.KatLex prog w A false fin Q (vs.zip ws) i s
  | [], [], i, _, _, _, _, ra, rb, _, _, _, _, hf, hq => by
    cases ra
    cases rb
    rw [show fin = false from hf]
    exact PySem.W.kat_nil hq
  | [], y :: ys, i, _, _, _, _, ra, rb, _, _, _, _, hf, hq => by
    cases ra
    rw [List.zip_nil_left, show fin = true from hf.trans (decide_eq_true (Nat.succ_pos _))]
    exact PySem.W.kat_nil hq
  | x :: xs, [], i, _, _, _, _, ra, rb, _, _, _, _, hf, hq => by
    cases rb
    rw [List.zip_nil_right, show fin = false from hf.trans (decide_eq_false (Nat.not_lt_zero _))]
    exact PySem.W.kat_nil hq
  | x :: xs, y :: ys, i, _, _, _, _, ra, rb, pa, pb, hc, hu, hf, hq => by
    have pa' : x.plain = true ∧ PyData.plainAll xs = true := by simpa [PyData.plainAll] using pa
    have pb' : y.plain = true ∧ PyData.plainAll ys = true := by simpa [PyData.plainAll] using pb
    obtain ⟨c1, c2⟩ := cpbs_cons hc
    cases ra with
    | cons r rs =>
      cases rb with
      | cons t ts =>
        refine PySem.W.kat_cons (eqAt_plain x y A s _ _ _ _ r t pa'.1 pb'.1 (room_head hu) prog w _ _ ?_)
        rw [dlts] at hq
        cases e : PyData.eqv x y with
        | true =>
          rw [e, if_pos rfl] at hq
          exact PySem.W.kat_yes (kat_cpbs xs ys (i + 1) _ _ _ _ rs ts pa'.2 pb'.2 (c2 e) (room_tail hu) (hf.trans (decide_eq_decide.mpr (by simp only [List.length_cons]; omega))) hq)
        | false =>
          rw [e, if_neg Bool.false_ne_true] at hq
          refine PySem.W.kat_no ?_
          rw [Bool.false_and]
          exact PySem.W.kat_one _ _ (rcLt_cpb x y A s _ _ _ _ r t pa'.1 pb'.1 c1 (cpb_none c1 e) (room_head hu) prog w _ _ hq)
/-- items that stand as data by enc, ordered by tok -/
noncomputable def encKind {β : Type} (h : Heap) (bs : List β) (enc : β → PyData) (tok : β → List (Int ⊕ List Nat)) : PyProof.Rows.KeyKind where
  toKeyOrd := listOrd itemOrd
  keyOf v := open Classical in if q : ∃ b, b ∈ bs ∧ ∃ as, Reads h v (enc b) as then some (tok q.choose) else none
  dflt := ([] : List (Int ⊕ List Nat))
variable {β : Type} {enc : β → PyData} {tok : β → List (Int ⊕ List Nat)} {bs : List β}
theorem encKind_some {h : Heap} (pl : ∀ b ∈ bs, (enc b).plain = true) (inj : ∀ b ∈ bs, ∀ c ∈ bs, enc b = enc c → tok b = tok c) {v : Value} {b : β} {as : List Addr} (hb : b ∈ bs) (r : Reads h v (enc b) as) : (encKind h bs enc tok).keyOf v = some (tok b) := by
  have q : ∃ b, b ∈ bs ∧ ∃ as, Reads h v (enc b) as := ⟨b, hb, as, r⟩
  have e : (encKind h bs enc tok).keyOf v = some (tok q.choose) := dif_pos q
  obtain ⟨h1, as', h2⟩ := q.choose_spec
  rw [e, inj _ h1 _ hb (SeqAt.plain_unique _ _ _ _ _ (pl _ h1) h2 r)]
theorem encKind_inv {h : Heap} {v : Value} {k : List (Int ⊕ List Nat)} (e : (encKind h bs enc tok).keyOf v = some k) : ∃ b as, b ∈ bs ∧ Reads h v (enc b) as ∧ k = tok b := by
  by_cases q : ∃ b, b ∈ bs ∧ ∃ as, Reads h v (enc b) as
  · have e' : (encKind h bs enc tok).keyOf v = some (tok q.choose) := dif_pos q
    obtain ⟨h1, as', h2⟩ := q.choose_spec
    rw [e'] at e
    exact ⟨_, as', h1, h2, (Option.some.inj e).symm⟩
  · have e' : (encKind h bs enc tok).keyOf v = none := dif_neg q
    rw [e'] at e
    cases e
theorem sortsAt_enc {vs : List Value} (e : PySem.W.EachIs (fun v b => ∃ as, Reads s.heap v (enc b) as) vs bs) (pl : ∀ b ∈ bs, (enc b).plain = true) (inj : ∀ b ∈ bs, ∀ c ∈ bs, enc b = enc c → tok b = tok c)
    (tt : ∀ b ∈ bs, ∃ x r, enc b = .tuple (.tuple x :: r)) (cmp : ∀ b ∈ bs, ∀ c ∈ bs, cpb (enc b) (enc c) = true ∧ dlt (enc b) (enc c) = PyProof.Rows.lexLt itemOrd (tok b) (tok c)) (hu : ∀ b ∈ bs, A.units + (enc b).depth < cLine) :
    PySem.W.SortsAt prog w A s (encKind s.heap bs enc tok) vs := by
  refine ⟨fun v hv => ?_, tuples' false, ?_, fun h2 E Q hq => ?_⟩
  · obtain ⟨b, hb, as, r⟩ := e.left v hv
    exact ⟨_, encKind_some pl inj hb r⟩
  · intro E x y a b Q ha hb hq
    obtain ⟨d, as, hd, ra, rfl⟩ := encKind_inv ha
    obtain ⟨c, cs, hc, rb, rfl⟩ := encKind_inv hb
    obtain ⟨c1, c2⟩ := cmp d hd c hc
    have hq' : Q (dlt (enc d) (enc c)) s := by
      rw [c2]
      exact hq
    have p1 := pl d hd
    have p2 := pl c hc
    have room : A.units + min (enc d).depth (enc c).depth < cLine := Nat.lt_of_le_of_lt (Nat.add_le_add_left (Nat.min_le_left _ _) _) (hu d hd)
    obtain ⟨x1, r1, e1⟩ := tt d hd
    obtain ⟨x2, r2, e2⟩ := tt c hc
    rw [e1] at ra hq' c1 p1 room
    rw [e2] at rb hq' c1 p2 room
    cases ra with
    | @tuple l o us n _ _ g1 g2 g3 g4 =>
      cases rb with
      | @tuple l' o' us' n' _ _ k1 k2 k3 k4 =>
        have n1 : us.size = (PyData.tuple x1 :: r1).length := by simpa using ReadsAll.length _ _ _ g4
        have n2 : us'.size = (PyData.tuple x2 :: r2).length := by simpa using ReadsAll.length _ _ _ k4
        exact PySem.W.kat_lt g1 g3 k1 k3 (kat_cpbs _ _ 0 _ _ _ _ g4 k4 p1 p2 c1 (by have z := room_in room; omega) (by rw [n1, n2]) hq')
  · have e3 : PySem.W.EachIs (fun v d => ∃ as, Reads s.heap v d as) vs (bs.map enc) := PySem.W.each_map (R := fun v d => ∃ as, Reads s.heap v d as) enc e
    obtain ⟨fs, t1, t2, t3⟩ := PySem.W.each_katTups e3 (fun d hd => by
      obtain ⟨b, hb, rfl⟩ := List.mem_map.mp hd
      obtain ⟨x, r, e⟩ := tt b hb
      exact ⟨_, _, e⟩)
    refine PySem.W.kat_kind (T := .type "tuple") t1 (by omega) (fun f hf => ?_) (beq_self_eq_true _) ?_
    · obtain ⟨x, r, as, m1, m2⟩ := t3 f hf
      obtain ⟨b, hb, e1⟩ := List.mem_map.mp m1
      obtain ⟨x', r', e2⟩ := tt b hb
      rw [e2] at e1
      injection e1 with e1
      obtain ⟨rfl, _⟩ := List.cons.inj e1
      exact PySem.W.looks_reads m2
    · have z : (Value.type "tuple" != Value.type "tuple") = false := by first | decide +kernel | rfl
      rw [z]
      exact hq
end

/-! ### as a rule of the layer: sorted of a list of data -/
mutual
def noLd : D → Bool
  | .tup ts => noLds ts
  | .at _ => true
  | .lst => false
def noLds : List D → Bool
  | [] => true
  | t :: r => noLd t && noLds r
end
mutual
theorem dp_noL {K : PySem.W.Frag} {H : Hp} : ∀ {v : V} {d : D}, Rep K H v d → noLd d = true → Dp K H v (toPy d)
  | v, _, .at h, _ => by
    cases v with
    | non => exact .non
    | bl b => exact .bl b
    | int i => exact .int i
    | str x => exact .str x
    | byt _ => cases h
    | flt _ => cases h
    | ref _ => cases h
    | ty _ => cases h
  | _, _, .lst _, k => by cases k
  | _, _, .tup h r, k => .tup h.sq (dp_noLs r k)
theorem dp_noLs {K : PySem.W.Frag} {H : Hp} : ∀ {xs : List V} {ds : List D}, Reps K H xs ds → noLds ds = true → DpAll K H xs (toPys ds)
  | _, _, .nil, _ => .nil
  | _, _, .cons h r, k => by
    have k' := Bool.and_eq_true_iff.mp k
    exact .cons (dp_noL h k'.1) (dp_noLs r k'.2)
end
mutual
theorem plain_noL : ∀ d : D, noLd d = true → (toPy d).plain = true
  | .at v, _ => by cases v <;> rfl
  | .lst, k => by cases k
  | .tup ts, k => plain_noLs ts k
theorem plain_noLs : ∀ l : List D, noLds l = true → PyData.plainAll (toPys l) = true
  | [], _ => rfl
  | t :: r, k => by
    have k' := Bool.and_eq_true_iff.mp k
    show ((toPy t).plain && PyData.plainAll (toPys r)) = true
    rw [plain_noL t k'.1, plain_noLs r k'.2]
    rfl
end
mutual
theorem depth_noL : ∀ d : D, (toPy d).depth ≤ dep d + 1
  | .at v => by cases v <;> exact Nat.zero_le _
  | .lst => Nat.zero_le _
  | .tup ts => Nat.succ_le_succ (depth_noLs ts)
theorem depth_noLs : ∀ l : List D, PyData.depthAll (toPys l) ≤ deps l
  | [] => Nat.zero_le _
  | t :: r => by
    have h1 := depth_noL t
    have h2 := depth_noLs r
    show max (toPy t).depth (PyData.depthAll (toPys r)) ≤ max (dep t + 1) (deps r)
    omega
end
section
variable {β : Type} {R : Value → β → Prop}
/-- the items sorted -/
def sortE (tok : β → List (Int ⊕ List Nat)) (bs : List β) : List β := bs.mergeSort (PySem.W.sortLe (listOrd itemOrd) false tok)
theorem sortE_perm (tok : β → List (Int ⊕ List Nat)) (bs : List β) : (sortE tok bs).Perm bs := List.mergeSort_perm _ _
/-- what is to be known of an encoding -/
structure Enc (dat : β → D) (tok : β → List (Int ⊕ List Nat)) (ok : β → Prop) : Prop where
  nol : ∀ b, ok b → noLd (dat b) = true
  dep : ∀ b, ok b → dep (dat b) ≤ 30
  inj : ∀ b c, ok b → ok c → toPy (dat b) = toPy (dat c) → tok b = tok c
  tup : ∀ b, ok b → ∃ x r, dat b = .tup (.tup x :: r)
  cmp : ∀ b c, ok b → ok c → cpb (toPy (dat b)) (toPy (dat c)) = true ∧ dlt (toPy (dat b)) (toPy (dat c)) = PyProof.Rows.lexLt itemOrd (tok b) (tok c)
def rSortE (K : PySem.W.Frag) (dat : β → D) (tok : β → List (Int ⊕ List Nat)) (ok : β → Prop) : List V → Hp → VK → Prop := fun vs H Q => ∃ (a : Addr) (xs : List V) (bs : List β), vs = [V.ref a] ∧ SqL K H a xs ∧ Reps K H xs (bs.map dat) ∧ (∀ b ∈ bs, ok b) ∧
  ∀ (ys : List V) (p : Addr), Reps K H ys ((sortE tok bs).map dat) → H p = none → Q (.ref p) (upd H p (.lst ys))
theorem reps_each {X : Cx} {pins : List (Addr × Obj)} {σ : L2.St} {H : Hp} {s : Shared} (I : Inv X pins σ H s) {dat : β → D} : ∀ {xs : List V} {us : List Value} {bs : List β}, Reps X.K H xs (bs.map dat) → Vals xs us → (∀ b ∈ bs, noLd (dat b) = true) →
    PySem.W.EachIs (fun v b => (∃ as, Reads s.heap v (toPy (dat b)) as) ∧ ∃ x, RelV x v ∧ Rep X.K H x (dat b)) us bs
  | [], us, bs, r, rv, hk => by
    cases rv
    cases bs with
    | nil => exact .nil
    | cons b bs => cases r
  | x :: xs, us, bs, r, rv, hk => by
    cases bs with
    | nil => cases r
    | cons b bs =>
      cases rv with
      | cons rv0 rvs =>
        cases r with
        | cons r0 rs =>
          obtain ⟨as, z⟩ := Dp.reads I (toPy (dat b)) x _ (dp_noL r0 (hk b (List.mem_cons_self ..))) rv0
          exact .cons ⟨⟨as, z⟩, x, rv0, r0⟩ (reps_each I rs rvs fun c hc => hk c (List.mem_cons_of_mem _ hc))
theorem each_back {K : PySem.W.Frag} {H : Hp} {dat : β → D} : ∀ {us : List Value} {bs : List β}, PySem.W.EachIs (fun v b => ∃ x, RelV x v ∧ Rep K H x (dat b)) us bs → ∃ xs, Vals xs us ∧ Reps K H xs (bs.map dat)
  | _, _, .nil => ⟨[], .nil, .nil⟩
  | _, _, .cons ⟨x, h1, h2⟩ t => by
    obtain ⟨xs, r1, r2⟩ := each_back t
    exact ⟨x :: xs, .cons h1 r1, .cons h2 r2⟩
theorem cr_sortE {X : Cx} {dat : β → D} {tok : β → List (Int ⊕ List Nat)} {ok : β → Prop} (hu : X.A.units + 64 < cLine) (N : Enc dat tok ok) : CallR X (.builtin "sorted") (rSortE X.K dat tok ok) := by
  intro pins s σ H vs us Q I r h
  obtain ⟨a, xs, bs, rfl, hs, hr, hok, q⟩ := h
  obtain ⟨its, rv, hl, hz⟩ := I.list hs
  obtain ⟨u, rfl, ru⟩ := vals1 r
  obtain rfl : u = Value.ref a := ru
  have each := reps_each I hr rv fun b hb => N.nol b (hok b hb)
  have hlen : its.length ≤ sizeLine := by
    rw [← rv.length]
    exact hz
  have keep : ∀ b o, s.heap.get? b = some o → (PySem.W.sortingHeap (PySem.W.copyHeap s.heap its) (s.heap.objs.size + 1) its).get? b = some o := fun b o e => PySem.W.sorting_copy_old e
  have S : PySem.W.SortsAt X.prog X.w X.A.in1.in1 { s with heap := PySem.W.sortingHeap (PySem.W.copyHeap s.heap its) (s.heap.objs.size + 1) its } (encKind (PySem.W.sortingHeap (PySem.W.copyHeap s.heap its) (s.heap.objs.size + 1) its) bs (fun b => toPy (dat b)) tok) its := by
    refine sortsAt_enc (each.mono fun v b z => ?_) (fun b hb => plain_noL _ (N.nol b (hok b hb))) (fun b hb c hc => N.inj b c (hok b hb) (hok c hc)) (fun b hb => ?_) (fun b hb c hc => N.cmp b c (hok b hb) (hok c hc)) (fun b hb => ?_)
    · obtain ⟨⟨as, r⟩, _⟩ := z
      exact ⟨as, Reads.keeps keep r⟩
    · obtain ⟨x, r, e⟩ := N.tup b (hok b hb)
      rw [e]
      exact ⟨_, _, rfl⟩
    · have h1 := depth_noL (dat b)
      have h2 := N.dep b (hok b hb)
      show X.A.units + 1 + 1 + (toPy (dat b)).depth < cLine
      omega
  refine PySem.W.sorted_vals hl.isList S hlen ?_
  have out : PySem.W.EachIs (fun v b => ∃ x, RelV x v ∧ Rep X.K H x (dat b)) (PySem.W.sortVals (encKind (PySem.W.sortingHeap (PySem.W.copyHeap s.heap its) (s.heap.objs.size + 1) its) bs (fun b => toPy (dat b)) tok) false its its) (sortE tok bs) := by
    refine PySem.W.sortVals_each (κ := encKind (PySem.W.sortingHeap (PySem.W.copyHeap s.heap its) (s.heap.objs.size + 1) its) bs (fun b => toPy (dat b)) tok) tok (each.mono fun v b z => z.2) ?_
    refine (PySem.W.each_mem each).mono fun v b z => ?_
    obtain ⟨⟨⟨as, r⟩, _⟩, hb⟩ := z
    exact encKind_some (fun b hb => plain_noL _ (N.nol b (hok b hb))) (fun b hb c hc => N.inj b c (hok b hb) (hok c hc)) hb (Reads.keeps keep r)
  obtain ⟨ys, v1, r1⟩ := each_back out
  have hl2 := v1.length
  rw [PySem.W.sortVals_length _ rfl] at hl2
  obtain ⟨n, hn⟩ := PyProof.Rows.sortedAll_at s.heap its (PySem.W.sortVals (encKind (PySem.W.sortingHeap (PySem.W.copyHeap s.heap its) (s.heap.objs.size + 1) its) bs (fun b => toPy (dat b)) tok) false its its).toArray
  refine ⟨.ref _, _, I.laid (t' := s.toks) (o := .lst ys) (fun b o e => PyProof.Rows.sortedAll_old e) (Nat.le_succ _) ⟨?_, _, n, v1, hn⟩, rfl, q ys _ r1 (I.hok.fresh (Nat.le_succ _))⟩
  omega
end
end Pk

set_option maxRecDepth 100000
set_option maxHeartbeats 1000000
/-! a dict whose keys are None, ints and texts, by what it answers -/
namespace Pk
open PySem PySem.Spec PyProof.Rows L2
/-- a key as a value -/
def kVN : Option L2.Key → V
  | none => .non
  | some k => kV k
theorem kVN_is {P : Program} {w : World} {k : Option L2.Key} {u : Value} (r : RelV (kVN k) u) : (noneKind P w).is k u = true := by
  cases k with
  | none =>
    cases r
    rfl
  | some k => exact kV_is (P := P) (w := w) r
/-- at a: a dict of at most n pairs, g what it answers -/
def NkR (P : Program) (w : World) (a : Addr) (g : Option L2.Key → Option V) (n : Nat) (h : Heap) : Prop :=
  (a == sysModules) = false ∧ ∃ vs : List (Option L2.Key × Value), vs.length ≤ n ∧ (∀ k, RelO (g k) (valueAt vs k)) ∧ h.DictOf (noneKind P w) a vs
theorem NkR.at {P : Program} {w : World} {a : Addr} {g : Option L2.Key → Option V} {n : Nat} {h h' : Heap} (r : NkR P w a g n h) (k : ∀ o, h.get? a = some o → h'.get? a = some o) : NkR P w a g n h' := by
  obtain ⟨h1, vs, h2, h3, o, es, ep, h4, h5⟩ := r
  exact ⟨h1, vs, h2, h3, o, es, ep, k _ h4, h5⟩
def NkO (P : Program) (w : World) (a : Addr) (g : Option L2.Key → Option V) (n : Nat) : HO := .ext (NkR P w a g n)
def putN (g : Option L2.Key → Option V) (k : Option L2.Key) (v : V) : Option L2.Key → Option V := fun j => if j = k then some v else g j
theorem nk_ok {P : Program} {w : World} {H : Hp} {h : Heap} {a : Addr} {g : Option L2.Key → Option V} {n : Nat} (r : NkR P w a g n h) : ObjOk P w H h a (NkO P w a g n) := by
  have r' := r
  obtain ⟨h1, vs, h2, h3, o, es, ep, h4, h5⟩ := r
  exact ⟨r', ⟨o, h4⟩, fun x y p k => p.at k⟩
theorem nk_get {X : Cx} {pins : List (Addr × Obj)} {σ : L2.St} {H : Hp} {s : Shared} {a : Addr} {g : Option L2.Key → Option V} {n : Nat} (I : Inv X pins σ H s) (ha : H a = some (NkO X.prog X.w a g n)) : NkR X.prog X.w a g n s.heap := (I.hok a _ ha).1
section
variable {X : Cx}
/-- {None: None} -/
def tNkNew (P : Program) (w : World) : TE := fun σ H Q => ∀ p, H p = none → Q (.ref p) (upd H p (NkO P w p (putN (fun _ => none) none .non) 1))
theorem pe_nkNew {pos p1 p2 : Pos} {i j : Nat} : PE X (.Dict [some (.Constant .none i p1)] [.Constant .none j p2] pos) (tNkNew X.prog X.w) := by
  refine ⟨fun pins s σ H Q I q => ?_⟩
  have hn := I.hok.fresh (Nat.le_refl s.heap.objs.size)
  refine wpAny_Dict_walk (knd := noneKind X.prog X.w) (by rfl) rfl (by simp) (by show 1 ≤ 15; omega) ?_
  refine pairTrees_cons_walk (PyProof.Rows.Constant_none (PyProof.Rows.Constant_none (pairTrees_nil_walk ?_)))
  refine ⟨[(none, .none)], ⟨rfl, rfl, True.intro⟩, Heap.DictOf.new _, fun h' dd hs => ?_⟩
  refine ⟨.ref s.heap.objs.size, upd H s.heap.objs.size (NkO X.prog X.w s.heap.objs.size (putN (fun _ => none) none .non) 1), I.laid (fun b o e => ?_) (Nat.le_refl _) (nk_ok ⟨beq_eq_false_iff_ne.mpr (Ne.symm (Nat.ne_of_lt I.big)), _, ?_, fun k => ?_, dd⟩), rfl, q _ hn⟩
  · rw [hs.2 b (Nat.ne_of_lt (Heap.lt_size e))]
    exact Heap.get?_push_of_some _ e
  · exact Nat.le_refl 1
  · cases k with
    | none => exact rfl
    | some k => exact True.intro
/-- d[i] = v -/
def tNkPut (P : Program) (w : World) (td ty tv : TE) : TS := fun D σ H => tv σ H fun v H1 => td σ H1 fun x H2 => ty σ H2 fun y H3 => ∃ (a : Addr) (g : Option L2.Key → Option V) (n : Nat) (k : Option L2.Key), x = .ref a ∧ y = kVN k ∧ H3 a = some (NkO P w a g n) ∧ n < 1000000 ∧ D.nx σ (upd H3 a (NkO P w a (putN g k v) (n + 1)))
variable {o i value : Expr} {td ty tv : TE} {pos pos' : Pos}
theorem ps_nkPut (ho : PE X o td) (hi : PE X i ty) (hv : PE X value tv) (hs : swapsWith value (some (.Subscript o i pos')) pos.line X.env = pure false) : PS X (.Assign [.Subscript o i pos'] value pos) (tNkPut X.prog X.w td ty tv) := by
  refine ⟨fun pins s σ H D I h => ?_⟩
  refine wpAny_Assign_Subscript (thn (hv.run pins s σ H _ I h) fun r s1 ⟨v, H1, I1, rv, q1⟩ => thn (ho.run pins s1 σ H1 _ I1 q1) fun u s2 ⟨x, H2, I2, rx, q2⟩ => thn (hi.run pins s2 σ H2 _ I2 q2) fun iv s3 ⟨y, H3, I3, ry, a, g, n, k, ex, ey, ha, hn, q3⟩ => ?_) hs
  subst ex ey
  obtain rfl : u = Value.ref a := rx
  have R := nk_get I3 ha
  obtain ⟨h1, vs, h2, h3, dd⟩ := R
  have hz : vs.length ≤ sizeLine := by
    rw [sizeLine_eq]
    omega
  refine wpAny_setItem_pairs (hsz := hz) (kVN_is ry) dd fun h' dd' hs' => ?_
  have he : ∃ q, h'.get? a = some q := let ⟨q, _, _, hq, _⟩ := dd'; ⟨q, hq⟩
  refine ⟨σ, _, I3.write (e := a) (by rw [ha]; trivial) (.inl rfl) (fun b w hb z => (hs'.2 b hb).trans z) he (nk_ok ⟨h1, _, ?_, fun j => ?_, dd'⟩), q3⟩
  · have := stored_length_le vs k r
    omega
  · rw [valueAt_stored]
    unfold putN
    by_cases e : j = k
    · rw [if_pos e, if_pos e]
      exact rv
    · rw [if_neg e, if_neg e]
      exact h3 j
/-- d[i], which is there -/
def tNkGet (P : Program) (w : World) (td ty : TE) : TE := fun σ H Q => td σ H fun x H1 => ty σ H1 fun y H2 => ∃ (a : Addr) (g : Option L2.Key → Option V) (n : Nat) (k : Option L2.Key) (v : V), x = .ref a ∧ y = kVN k ∧ H2 a = some (NkO P w a g n) ∧ g k = some v ∧ Q v H2
theorem pe_nkGet (ho : PE X o td) (hi : PE X i ty) (hs : NoSl i) : PE X (.Subscript o i pos) (tNkGet X.prog X.w td ty) := by
  refine ⟨fun pins s σ H Q I h => ?_⟩
  refine subD_of PySem.F.slot_dict_getitem.lookup hs (thn (ho.run pins s σ H _ I h) fun u s1 ⟨x, H1, I1, rx, q1⟩ => thn (hi.run pins s1 σ H1 _ I1 q1) fun iv s2 ⟨y, H2, I2, ry, a, g, n, k, v, ex, ey, ha, hg, q2⟩ => ?_)
  subst ex ey
  obtain rfl : u = Value.ref a := rx
  obtain ⟨h1, vs, h2, h3, dd⟩ := nk_get I2 ha
  have z := h3 k
  rw [hg] at z
  obtain ⟨w', hw, rw'⟩ := RelO.some_of (v := v) (o := valueAt vs k) z
  exact ⟨dd.typeIs, wpAny_getItem_of (kVN_is ry) dd.mapOf hw ⟨v, H2, I2.tok _, rw', q2⟩⟩
end
end Pk

set_option maxRecDepth 100000
set_option maxHeartbeats 1000000
/-! plays as data -/
namespace Pk
open PySem PySem.Spec PyProof.Rows L2
inductive Mv where
  | ask (p : List Nat)
  | say (v : Nat)
  deriving DecidableEq
structure Stp where
  mv : Mv
  back : Option Nat
  deriving DecidableEq
def numD' (k : Nat) : D := .at (.int (k : Nat))
def plD (p : List Nat) : D := .tup (p.map numD')
def mvD : Mv → D
  | .ask p => .tup [.at (.str "ask"), plD p]
  | .say v => .tup [.at (.str "say"), numD' v]
def bkD : Option Nat → D
  | none => .at .non
  | some j => numD' j
def stD (s : Stp) : D := .tup [mvD s.mv, bkD s.back]
def playD (pl : List Stp) : D := .tup (pl.map stD)
/-! ### steps in order -/
def bkN (s : Stp) : Int := ((s.back.getD 0 : Nat) : Int)
def tokS (s : Stp) : List (Int ⊕ List Nat) := match s.mv with
  | .ask p => .inl 0 :: (p.map (fun k => Sum.inl ((k : Nat) : Int)) ++ [.inl (-1), .inl (bkN s)])
  | .say v => [.inl 1, .inl ((v : Nat) : Int), .inl (bkN s)]
def okS (s : Stp) : Prop := s.back ≠ none
theorem deps_nums : ∀ p : List Nat, deps (p.map numD') ≤ 1
  | [] => Nat.zero_le _
  | k :: r => by
    have := deps_nums r
    show max (0 + 1) (deps (r.map numD')) ≤ 1
    omega
theorem noLd_nums : ∀ p : List Nat, noLds (p.map numD') = true
  | [] => rfl
  | k :: r => noLd_nums r
theorem toPys_inj : ∀ p q : List Nat, toPys (p.map numD') = toPys (q.map numD') → p = q
  | [], [], _ => rfl
  | [], _ :: _, h => by cases h
  | _ :: _, [], h => by cases h
  | a :: p, b :: q, h => by
    injection h with h1 h2
    injection h1 with h1
    rw [toPys_inj p q h2, show a = b by omega]
theorem eqv_nums : ∀ p q : List Nat, PyData.eqvAll (toPys (p.map numD')) (toPys (q.map numD')) = decide (p = q)
  | [], [] => by simp [toPys, PyData.eqvAll]
  | [], _ :: _ => by simp [toPys, PyData.eqvAll]
  | _ :: _, [] => by simp [toPys, PyData.eqvAll]
  | a :: p, b :: q => by
    have := eqv_nums p q
    show PyData.eqvAll (.int (a : Nat) :: toPys (p.map numD')) (.int (b : Nat) :: toPys (q.map numD')) = _
    rw [PyData.eqvAll, this, PyData.eqv]
    by_cases h : a = b
    · subst h
      by_cases h2 : p = q
      · subst h2
        simp
      · rw [decide_eq_false h2, decide_eq_false (fun z => h2 (List.cons.inj z).2), Bool.and_false]
    · rw [decide_eq_false (fun z => h (List.cons.inj z).1)]
      have : ((a : Int) == (b : Int)) = false := by
        rw [beq_eq_false_iff_ne]
        omega
      rw [this, Bool.false_and]
theorem cpb_nums : ∀ p q : List Nat, cpbs (toPys (p.map numD')) (toPys (q.map numD')) = true
  | [], _ => by simp [toPys, cpbs]
  | _ :: _, [] => by simp [toPys, cpbs]
  | a :: p, b :: q => by
    have := cpb_nums p q
    show cpbs (.int (a : Nat) :: toPys (p.map numD')) (.int (b : Nat) :: toPys (q.map numD')) = true
    rw [cpbs, this, cpb, Bool.or_true]
    rfl
theorem dlt_nums (j j' : Int) : ∀ p q : List Nat, PyProof.Rows.lexLt itemOrd (p.map (fun k => Sum.inl ((k : Nat) : Int)) ++ [.inl (-1), .inl j]) (q.map (fun k => Sum.inl ((k : Nat) : Int)) ++ [.inl (-1), .inl j']) = if p = q then decide (j < j') else dlts (toPys (p.map numD')) (toPys (q.map numD'))
  | [], [] => by
    rw [if_pos rfl]
    show PyProof.Rows.lexLt itemOrd [.inl (-1), .inl j] [.inl (-1), .inl j'] = _
    rw [lex_self]
    exact PySem.W.lex_one _ _
  | [], b :: q => by
    rw [if_neg (fun z => by cases z)]
    show PyProof.Rows.lexLt itemOrd (.inl (-1) :: _) (.inl (b : Int) :: _) = dlts [] (_ :: _)
    rw [lex_diff (O := itemOrd) (by intro z; injection z with z; omega), dlts]
    exact decide_eq_true (p := (-1 : Int) < (b : Int)) (by omega)
  | a :: p, [] => by
    rw [if_neg (fun z => by cases z)]
    show PyProof.Rows.lexLt itemOrd (.inl (a : Int) :: _) (.inl (-1) :: _) = dlts (_ :: _) []
    rw [lex_diff (O := itemOrd) (by intro z; injection z with z; omega), dlts]
    exact decide_eq_false (p := (a : Int) < -1) (by omega)
  | a :: p, b :: q => by
    have ih := dlt_nums j j' p q
    show PyProof.Rows.lexLt itemOrd (.inl (a : Int) :: (p.map _ ++ _)) (.inl (b : Int) :: (q.map _ ++ _)) = if a :: p = b :: q then _ else dlts (.int (a : Nat) :: toPys (p.map numD')) (.int (b : Nat) :: toPys (q.map numD'))
    by_cases h : a = b
    · subst h
      rw [lex_self, ih, dlts, PyData.eqv, show ((a : Int) == (a : Int)) = true from beq_self_eq_true _, if_pos rfl]
      by_cases h2 : p = q
      · subst h2
        rw [if_pos rfl, if_pos rfl]
      · rw [if_neg h2, if_neg (fun z => h2 (List.cons.inj z).2)]
    · have hb : ((a : Int) == (b : Int)) = false := by
        rw [beq_eq_false_iff_ne]
        omega
      rw [lex_diff (O := itemOrd) (by intro z; injection z with z; omega), if_neg (fun z => h (List.cons.inj z).1), dlts, PyData.eqv, hb, if_neg Bool.false_ne_true, dlt]
      rfl
theorem str_askSay : PyData.eqv (.str "ask") (.str "say") = false := by decide +kernel
theorem str_sayAsk : PyData.eqv (.str "say") (.str "ask") = false := by decide +kernel
theorem lt_askSay : dlt (.str "ask") (.str "say") = true := by decide +kernel
theorem lt_sayAsk : dlt (.str "say") (.str "ask") = false := by decide +kernel
theorem str_self (x : Str) : PyData.eqv (.str x) (.str x) = true := by
  rw [PyData.eqv]
  exact beq_self_eq_true _
theorem int_eqv (i j : Int) : PyData.eqv (.int i) (.int j) = decide (i = j) := by
  rw [PyData.eqv]
  by_cases h : i = j
  · rw [h, decide_eq_true rfl]
    exact beq_self_eq_true _
  · rw [decide_eq_false h]
    exact beq_eq_false_iff_ne.mpr h
/-- two steps, their moves compared as they must -/
theorem step_cmp {A B : PyData} {j j' : Int} {e l : Bool} (he : PyData.eqv A B = e) (hc : cpb A B = true) (hl : dlt A B = l) :
    cpb (.tuple [A, .int j]) (.tuple [B, .int j']) = true ∧ dlt (.tuple [A, .int j]) (.tuple [B, .int j']) = if e = true then decide (j < j') else l := by
  constructor
  · show cpbs [A, .int j] [B, .int j'] = true
    rw [cpbs, hc, Bool.true_and, he]
    cases e with
    | false => rfl
    | true =>
      show cpbs [.int j] [.int j'] = true
      rw [cpbs, cpb, Bool.true_and]
      show (_ || cpbs [] []) = true
      rw [cpbs, Bool.or_true]
  · show dlts [A, .int j] [B, .int j'] = _
    rw [dlts, he, hl]
    cases e with
    | false => rfl
    | true =>
      rw [if_pos rfl, if_pos rfl, dlts, int_eqv]
      by_cases h : j = j'
      · rw [if_pos (decide_eq_true h), dlts, decide_eq_false (by omega)]
      · rw [if_neg (by rw [decide_eq_false h]; exact Bool.false_ne_true), dlt]
theorem encS : Enc stD tokS okS where
  nol b hb := by
    obtain ⟨m, k⟩ := b
    cases k with
    | none => exact absurd rfl hb
    | some j =>
      cases m with
      | say v => rfl
      | ask p =>
        show ((true && (noLds (p.map numD') && true)) && (true && true)) = true
        rw [noLd_nums]
        rfl
  dep b hb := by
    obtain ⟨m, k⟩ := b
    have hk : dep (bkD k) = 0 := by cases k <;> rfl
    cases m with
    | say v =>
      show max (dep (mvD (.say v)) + 1) (max (dep (bkD k) + 1) 0) ≤ 30
      rw [hk]
      show max (max (0 + 1) (max (0 + 1) 0) + 1) (max (0 + 1) 0) ≤ 30
      omega
    | ask p =>
      have := deps_nums p
      show max (max (0 + 1) (max (deps (p.map numD') + 1) 0) + 1) (max (dep (bkD k) + 1) 0) ≤ 30
      omega
  inj b c hb hc h := by
    obtain ⟨m, k⟩ := b
    obtain ⟨n, l⟩ := c
    cases k with
    | none => exact absurd rfl hb
    | some j =>
      cases l with
      | none => exact absurd rfl hc
      | some i =>
        injection h with h
        injection h with h1 h2
        injection h2 with h2 _
        injection h2 with h2
        have eji : j = i := by omega
        subst eji
        cases m with
        | say v =>
          cases n with
          | say u =>
            injection h1 with h1
            injection h1 with _ h1
            injection h1 with h1 _
            injection h1 with h1
            rw [show v = u by omega]
          | ask q =>
            injection h1 with h1
            injection h1 with _ h1
            injection h1 with h1 _
            cases h1
        | ask p =>
          cases n with
          | say u =>
            injection h1 with h1
            injection h1 with _ h1
            injection h1 with h1 _
            cases h1
          | ask q =>
            injection h1 with h1
            injection h1 with _ h1
            injection h1 with h1 _
            injection h1 with h1
            rw [toPys_inj p q h1]
  tup b hb := by
    obtain ⟨m, k⟩ := b
    cases m <;> exact ⟨_, _, rfl⟩
  cmp b c hb hc := by
    obtain ⟨m, k⟩ := b
    obtain ⟨n, l⟩ := c
    cases k with
    | none => exact absurd rfl hb
    | some j =>
    cases l with
    | none => exact absurd rfl hc
    | some i =>
    cases m with
    | say v =>
      cases n with
      | say u =>
        have h1 : PyData.eqv (toPy (mvD (.say v))) (toPy (mvD (.say u))) = decide ((v : Int) = (u : Int)) := by
          show PyData.eqvAll [.str "say", .int (v : Nat)] [.str "say", .int (u : Nat)] = _
          rw [PyData.eqvAll, str_self, PyData.eqvAll, int_eqv, PyData.eqvAll, Bool.true_and, Bool.and_true]
        have h2 : cpb (toPy (mvD (.say v))) (toPy (mvD (.say u))) = true := by
          show cpbs [.str "say", .int (v : Nat)] [.str "say", .int (u : Nat)] = true
          rw [cpbs, cpb, str_self, cpbs, cpb, cpbs, Bool.or_true]
          rfl
        have h3 : dlt (toPy (mvD (.say v))) (toPy (mvD (.say u))) = if (v : Int) = (u : Int) then false else decide ((v : Int) < (u : Int)) := by
          show dlts [.str "say", .int (v : Nat)] [.str "say", .int (u : Nat)] = _
          rw [dlts, str_self, if_pos rfl, dlts, int_eqv]
          by_cases h : (v : Int) = (u : Int)
          · rw [if_pos (decide_eq_true h), if_pos h, dlts]
          · rw [if_neg (by rw [decide_eq_false h]; exact Bool.false_ne_true), if_neg h, dlt]
        have z := step_cmp (j := (j : Int)) (j' := (i : Int)) h1 h2 h3
        refine ⟨z.1, z.2.trans ?_⟩
        show _ = PyProof.Rows.lexLt itemOrd [.inl 1, .inl (v : Int), .inl (j : Int)] [.inl 1, .inl (u : Int), .inl (i : Int)]
        rw [lex_self]
        by_cases h : (v : Int) = (u : Int)
        · rw [if_pos (decide_eq_true h), h, lex_self, PySem.W.lex_one]
          rfl
        · rw [if_neg (by rw [decide_eq_false h]; exact Bool.false_ne_true), if_neg h, lex_diff (O := itemOrd) (by intro y; injection y with y; exact h y)]
          rfl
      | ask q =>
        have h1 : PyData.eqv (toPy (mvD (.say v))) (toPy (mvD (.ask q))) = false := by
          show PyData.eqvAll [.str "say", .int (v : Nat)] [.str "ask", toPy (plD q)] = _
          rw [PyData.eqvAll, str_sayAsk, Bool.false_and]
        have h2 : cpb (toPy (mvD (.say v))) (toPy (mvD (.ask q))) = true := by
          show cpbs [.str "say", .int (v : Nat)] [.str "ask", toPy (plD q)] = true
          rw [cpbs, cpb, str_sayAsk]
          rfl
        have h3 : dlt (toPy (mvD (.say v))) (toPy (mvD (.ask q))) = false := by
          show dlts [.str "say", .int (v : Nat)] [.str "ask", toPy (plD q)] = _
          rw [dlts, str_sayAsk, if_neg Bool.false_ne_true, lt_sayAsk]
        have z := step_cmp (j := (j : Int)) (j' := (i : Int)) h1 h2 h3
        refine ⟨z.1, z.2.trans ?_⟩
        show false = PyProof.Rows.lexLt itemOrd (.inl 1 :: _) (.inl 0 :: _)
        rw [lex_diff (O := itemOrd) (by intro y; injection y with y; omega)]
        rfl
    | ask p =>
      cases n with
      | say u =>
        have h1 : PyData.eqv (toPy (mvD (.ask p))) (toPy (mvD (.say u))) = false := by
          show PyData.eqvAll [.str "ask", toPy (plD p)] [.str "say", .int (u : Nat)] = _
          rw [PyData.eqvAll, str_askSay, Bool.false_and]
        have h2 : cpb (toPy (mvD (.ask p))) (toPy (mvD (.say u))) = true := by
          show cpbs [.str "ask", toPy (plD p)] [.str "say", .int (u : Nat)] = true
          rw [cpbs, cpb, str_askSay]
          rfl
        have h3 : dlt (toPy (mvD (.ask p))) (toPy (mvD (.say u))) = true := by
          show dlts [.str "ask", toPy (plD p)] [.str "say", .int (u : Nat)] = _
          rw [dlts, str_askSay, if_neg Bool.false_ne_true, lt_askSay]
        have z := step_cmp (j := (j : Int)) (j' := (i : Int)) h1 h2 h3
        refine ⟨z.1, z.2.trans ?_⟩
        show true = PyProof.Rows.lexLt itemOrd (.inl 0 :: _) (.inl 1 :: _)
        rw [lex_diff (O := itemOrd) (by intro y; injection y with y; omega)]
        rfl
      | ask q =>
        have h1 : PyData.eqv (toPy (mvD (.ask p))) (toPy (mvD (.ask q))) = decide (p = q) := by
          show PyData.eqvAll [.str "ask", toPy (plD p)] [.str "ask", toPy (plD q)] = _
          rw [PyData.eqvAll, str_self, PyData.eqvAll, PyData.eqvAll, Bool.true_and, Bool.and_true]
          exact eqv_nums p q
        have h2 : cpb (toPy (mvD (.ask p))) (toPy (mvD (.ask q))) = true := by
          show cpbs [.str "ask", toPy (plD p)] [.str "ask", toPy (plD q)] = true
          rw [cpbs, cpb, str_self, cpbs, cpbs, Bool.or_true, show cpb (toPy (plD p)) (toPy (plD q)) = true from cpb_nums p q]
          rfl
        have h3 : dlt (toPy (mvD (.ask p))) (toPy (mvD (.ask q))) = if p = q then false else dlts (toPys (p.map numD')) (toPys (q.map numD')) := by
          show dlts [.str "ask", toPy (plD p)] [.str "ask", toPy (plD q)] = _
          rw [dlts, str_self, if_pos rfl, dlts, show PyData.eqv (toPy (plD p)) (toPy (plD q)) = decide (p = q) from eqv_nums p q]
          by_cases h : p = q
          · rw [if_pos (decide_eq_true h), if_pos h, dlts]
          · rw [if_neg (by rw [decide_eq_false h]; exact Bool.false_ne_true), if_neg h]
            rfl
        have z := step_cmp (j := (j : Int)) (j' := (i : Int)) h1 h2 h3
        refine ⟨z.1, z.2.trans ?_⟩
        show _ = PyProof.Rows.lexLt itemOrd (.inl 0 :: _) (.inl 0 :: _)
        rw [lex_self]
        refine Eq.trans ?_ (dlt_nums (j : Int) (i : Int) p q).symm
        by_cases h : p = q
        · rw [if_pos (decide_eq_true h), if_pos h]
        · rw [if_neg (by rw [decide_eq_false h]; exact Bool.false_ne_true), if_neg h, if_neg h]
end Pk

set_option maxRecDepth 100000
set_option maxHeartbeats 1000000
/-! open asks, sights, and what stands alone -/
namespace Pk
open PySem PySem.Spec PyProof.Rows L2
/-! ### asks that are open -/
def opnS (rows : List Nat) (n : Nat) (s : Stp) : List Nat := match s.mv with
  | .ask _ => rows ++ [n]
  | .say _ => rows.filter fun j => decide (some j ≠ s.back)
def opens (pl : List Stp) : Nat → List Nat
  | 0 => []
  | m + 1 => match pl[m]? with
    | some s => opnS (opens pl m) m s
    | none => opens pl m
theorem opens_succ {pl : List Stp} {m : Nat} {s : Stp} (h : pl[m]? = some s) : opens pl (m + 1) = opnS (opens pl m) m s := by
  show (match pl[m]? with | some s => opnS (opens pl m) m s | none => opens pl m) = _
  rw [h]
theorem opens_lt (pl : List Stp) : ∀ m, ∀ j ∈ opens pl m, j < m
  | 0, j, h => by cases h
  | m + 1, j, h => by
    have ih := opens_lt pl m
    cases hs : pl[m]? with
    | none =>
      have e : opens pl (m + 1) = opens pl m := by
        show (match pl[m]? with | some s => opnS (opens pl m) m s | none => opens pl m) = _
        rw [hs]
      rw [e] at h
      have := ih j h
      omega
    | some s =>
      rw [opens_succ hs] at h
      unfold opnS at h
      split at h
      · rcases List.mem_append.mp h with h | h
        · have := ih j h
          omega
        · rw [List.mem_singleton.mp h]
          omega
      · have := ih j (List.mem_filter.mp h).1
        omega
theorem opens_up (pl : List Stp) : ∀ m, (opens pl m).Pairwise (· < ·)
  | 0 => List.Pairwise.nil
  | m + 1 => by
    have ih := opens_up pl m
    cases hs : pl[m]? with
    | none =>
      have e : opens pl (m + 1) = opens pl m := by
        show (match pl[m]? with | some s => opnS (opens pl m) m s | none => opens pl m) = _
        rw [hs]
      rw [e]
      exact ih
    | some s =>
      rw [opens_succ hs]
      unfold opnS
      split
      · refine List.pairwise_append.mpr ⟨ih, List.pairwise_singleton _ _, fun a ha b hb => ?_⟩
        rw [List.mem_singleton.mp hb]
        exact opens_lt pl m a ha
      · exact ih.filter _
theorem opens_take (pl : List Stp) (k : Nat) : ∀ m, m ≤ k → opens (pl.take k) m = opens pl m
  | 0, _ => rfl
  | m + 1, h => by
    show (match (pl.take k)[m]? with | some s => opnS (opens (pl.take k) m) m s | none => opens (pl.take k) m) = (match pl[m]? with | some s => opnS (opens pl m) m s | none => opens pl m)
    rw [List.getElem?_take_of_lt (by omega), opens_take pl k m (by omega)]
theorem opens_ask (pl : List Stp) : ∀ m, ∀ j ∈ opens pl m, ∃ p b, pl[j]? = some ⟨.ask p, b⟩
  | 0, j, h => by cases h
  | m + 1, j, h => by
    have ih := opens_ask pl m
    cases hs : pl[m]? with
    | none =>
      have e : opens pl (m + 1) = opens pl m := by
        show (match pl[m]? with | some s => opnS (opens pl m) m s | none => opens pl m) = _
        rw [hs]
      rw [e] at h
      exact ih j h
    | some s =>
      rw [opens_succ hs] at h
      obtain ⟨mv, b⟩ := s
      cases mv with
      | ask p =>
        rcases List.mem_append.mp h with h | h
        · exact ih j h
        · rw [List.mem_singleton.mp h]
          exact ⟨p, b, hs⟩
      | say v => exact ih j (List.mem_filter.mp h).1
/-! ### sights -/
def bk (pl : List Stp) (n : Nat) : Nat := (((pl[n]?).bind Stp.back).getD 0)
def sgt (pl : List Stp) : Nat → Nat → List Nat
  | 0, _ => []
  | f + 1, n => if n = 0 then [0] else if bk pl n = 0 then [0, n] else sgt pl f (bk pl n - 1) ++ [bk pl n, n]
/-- backs go back -/
structure WB (pl : List Stp) : Prop where
  first : ∀ s, pl[0]? = some s → s = ⟨.ask [], none⟩
  later : ∀ n s, 0 < n → pl[n]? = some s → ∃ j, s.back = some j ∧ j < n
theorem WB.bk_lt {pl : List Stp} (h : WB pl) {n : Nat} (h0 : 0 < n) (hn : n < pl.length) : bk pl n < n := by
  obtain ⟨j, e, hj⟩ := h.later n _ h0 (List.getElem?_eq_getElem hn)
  unfold bk
  rw [List.getElem?_eq_getElem hn]
  show (pl[n].back).getD 0 < n
  rw [e]
  exact hj
theorem sgt_fuel {pl : List Stp} (h : WB pl) : ∀ (n f g : Nat), n < pl.length → n < f → n < g → sgt pl f n = sgt pl g n := by
  intro n
  induction n using Nat.strongRecOn with
  | ind n ih =>
    intro f g hn hf hg
    cases f with
    | zero => omega
    | succ f =>
      cases g with
      | zero => omega
      | succ g =>
        unfold sgt
        by_cases h0 : n = 0
        · rw [if_pos h0, if_pos h0]
        · rw [if_neg h0, if_neg h0]
          by_cases h1 : bk pl n = 0
          · rw [if_pos h1, if_pos h1]
          · have hb := h.bk_lt (Nat.pos_of_ne_zero h0) hn
            rw [if_neg h1, if_neg h1, ih (bk pl n - 1) (by omega) f g (by omega) (by omega) (by omega)]
def sight (pl : List Stp) (n : Nat) : List Nat := sgt pl (n + 1) n
theorem sight_zero (pl : List Stp) : sight pl 0 = [0] := rfl
theorem sight_one {pl : List Stp} {n : Nat} (h0 : 0 < n) (hb : bk pl n = 0) : sight pl n = [0, n] := by
  unfold sight sgt
  rw [if_neg (by omega), if_pos hb]
theorem sight_more {pl : List Stp} (h : WB pl) {n : Nat} (h0 : 0 < n) (hn : n < pl.length) (hb : bk pl n ≠ 0) : sight pl n = sight pl (bk pl n - 1) ++ [bk pl n, n] := by
  have hl := h.bk_lt h0 hn
  have e : sight pl n = sgt pl n (bk pl n - 1) ++ [bk pl n, n] := by
    show (if n = 0 then [0] else if bk pl n = 0 then [0, n] else sgt pl n (bk pl n - 1) ++ [bk pl n, n]) = _
    rw [if_neg (by omega), if_neg hb]
  rw [e, sgt_fuel h (bk pl n - 1) n (bk pl n - 1 + 1) (by omega) (by omega) (by omega)]
  rfl
theorem bk_take (pl : List Stp) {k n : Nat} (h : n < k) : bk (pl.take k) n = bk pl n := by
  unfold bk
  rw [List.getElem?_take_of_lt h]
theorem WB.take {pl : List Stp} (h : WB pl) (k : Nat) : WB (pl.take k) :=
  ⟨fun s e => h.first s (by
    have hk : 0 < k := by
      cases k with
      | zero =>
        rw [List.take_zero] at e
        cases e
      | succ k => omega
    rw [List.getElem?_take_of_lt hk] at e
    exact e), fun n s h0 e => h.later n s h0 (by
    by_cases hk : n < k
    · rw [List.getElem?_take_of_lt hk] at e
      exact e
    · rw [List.getElem?_eq_none (by rw [List.length_take]; omega)] at e
      cases e)⟩
theorem sgt_take {pl : List Stp} (h : WB pl) (k : Nat) : ∀ (f n : Nat), n < k → n < pl.length → sgt (pl.take k) f n = sgt pl f n
  | 0, _, _, _ => rfl
  | f + 1, n, hk, hn => by
    unfold sgt
    rw [bk_take pl hk]
    by_cases h0 : n = 0
    · rw [if_pos h0, if_pos h0]
    · rw [if_neg h0, if_neg h0]
      have hb := h.bk_lt (Nat.pos_of_ne_zero h0) hn
      by_cases h1 : bk pl n = 0
      · rw [if_pos h1, if_pos h1]
      · rw [if_neg h1, if_neg h1, sgt_take h k f (bk pl n - 1) (by omega) (by omega)]
theorem sight_take {pl : List Stp} (h : WB pl) {k n : Nat} (hk : n < k) (hn : n < pl.length) : sight (pl.take k) n = sight pl n := sgt_take h k (n + 1) n hk hn
theorem sight_up {pl : List Stp} (h : WB pl) : ∀ n, n < pl.length → (sight pl n).Pairwise (· < ·) ∧ ∀ j ∈ sight pl n, j ≤ n := by
  intro n
  induction n using Nat.strongRecOn with
  | ind n ih =>
    intro hn
    by_cases h0 : n = 0
    · subst h0
      rw [sight_zero]
      exact ⟨List.pairwise_singleton _ _, fun j hj => by rw [List.mem_singleton.mp hj]; exact Nat.le_refl 0⟩
    · have hp := Nat.pos_of_ne_zero h0
      have hb := h.bk_lt hp hn
      by_cases h1 : bk pl n = 0
      · rw [sight_one hp h1]
        refine ⟨List.pairwise_cons.mpr ⟨fun a ha => by rw [List.mem_singleton.mp ha]; exact hp, List.pairwise_singleton _ _⟩, fun j hj => ?_⟩
        simp only [List.mem_cons, List.not_mem_nil, or_false] at hj
        omega
      · obtain ⟨i1, i2⟩ := ih (bk pl n - 1) (by omega) (by omega)
        rw [sight_more h hp hn h1]
        refine ⟨List.pairwise_append.mpr ⟨i1, List.pairwise_cons.mpr ⟨fun a ha => by rw [List.mem_singleton.mp ha]; exact hb, List.pairwise_singleton _ _⟩, fun a ha b hb' => ?_⟩, fun j hj => ?_⟩
        · have := i2 a ha
          simp only [List.mem_cons, List.not_mem_nil, or_false] at hb'
          omega
        · rcases List.mem_append.mp hj with hj | hj
          · have := i2 j hj
            omega
          · simp only [List.mem_cons, List.not_mem_nil, or_false] at hj
            omega
theorem sight_len {pl : List Stp} (h : WB pl) (n : Nat) (hn : n < pl.length) : (sight pl n).length ≤ n + 1 := by
  induction n using Nat.strongRecOn with
  | ind n ih =>
    by_cases h0 : n = 0
    · subst h0
      exact Nat.le_refl 1
    · have hp := Nat.pos_of_ne_zero h0
      have hb := h.bk_lt hp hn
      by_cases h1 : bk pl n = 0
      · rw [sight_one hp h1]
        show 2 ≤ n + 1
        omega
      · have := ih (bk pl n - 1) (by omega) (by omega)
        rw [sight_more h hp hn h1, List.length_append]
        show _ + 2 ≤ n + 1
        omega
/-- each back is in sight -/
def WS (pl : List Stp) : Prop := ∀ n, 0 < n → n < pl.length → bk pl n ∈ sight pl (n - 1)
/-- closed under backs -/
def Cl (pl : List Stp) (ns : List Nat) : Prop := ∀ n ∈ ns, n < pl.length ∧ (n = 0 ∨ bk pl n ∈ ns)
theorem sight_cl {pl : List Stp} (h : WB pl) (w : WS pl) : ∀ n, n < pl.length → Cl pl (sight pl n) := by
  intro n
  induction n using Nat.strongRecOn with
  | ind n ih =>
    intro hn
    by_cases h0 : n = 0
    · subst h0
      intro m hm
      rw [List.mem_singleton.mp hm]
      exact ⟨hn, .inl rfl⟩
    · have hp := Nat.pos_of_ne_zero h0
      have hb := h.bk_lt hp hn
      by_cases h1 : bk pl n = 0
      · rw [sight_one hp h1]
        intro m hm
        simp only [List.mem_cons, List.not_mem_nil, or_false] at hm
        rcases hm with rfl | rfl
        · exact ⟨by omega, .inl rfl⟩
        · exact ⟨hn, .inr (by rw [h1]; exact List.mem_cons_self ..)⟩
      · have i := ih (bk pl n - 1) (by omega) (by omega)
        rw [sight_more h hp hn h1]
        intro m hm
        rcases List.mem_append.mp hm with hm | hm
        · obtain ⟨i1, i2⟩ := i m hm
          exact ⟨i1, i2.imp id (List.mem_append_left _)⟩
        · simp only [List.mem_cons, List.not_mem_nil, or_false] at hm
          rcases hm with rfl | rfl
          · exact ⟨by omega, .inr (List.mem_append_left _ (w _ (Nat.pos_of_ne_zero h1) (by omega)))⟩
          · exact ⟨hn, .inr (List.mem_append_right _ (List.mem_cons_self ..))⟩
/-! ### alone -/
def apS (pl : List Stp) (ns : List Nat) (n : Nat) : Stp := ⟨((pl[n]?).map Stp.mv).getD (.say 0), ((pl[n]?).bind Stp.back).map fun j => ns.idxOf j⟩
def apart (pl : List Stp) (ns : List Nat) : List Stp := ns.map (apS pl ns)
end Pk

set_option maxRecDepth 100000
set_option maxHeartbeats 4000000
namespace Pk
open PySem PySem.Spec PyProof.Rows L2
def top (i : Nat) : Stmt := PySem.Challenge.pw_playsense_k22_steps_that_go_on_legally.main.body.getD i (.Pass ⟨0, 0, 0, 0⟩)
abbrev s_kind_at : Stmt := top 1
abbrev s_is_whole : Stmt := top 3
abbrev s_is_answer : Stmt := top 4
abbrev s_is_tuple_of : Stmt := top 5
abbrev s__is_move : Stmt := top 8
abbrev s__is_later_step : Stmt := top 9
abbrev s__is_placed : Stmt := top 10
abbrev s__reason_against : Stmt := top 11
abbrev s__note_open : Stmt := top 12
abbrev s_fault_of : Stmt := top 13
abbrev s__sight_behind : Stmt := top 14
abbrev s_open_asks : Stmt := top 15
abbrev s_steps_to : Stmt := top 16
abbrev s_steps_after : Stmt := top 17
abbrev s__law_cell : Stmt := top 19
abbrev s__law_digits : Stmt := top 20
abbrev s__law_draw : Stmt := top 21
abbrev s__law_box : Stmt := top 22
abbrev s__law_same : Stmt := top 23
abbrev s__law_at : Stmt := top 24
abbrev s__law_kind_deep : Stmt := top 25
abbrev s__law_sight_at : Stmt := top 26
abbrev s__law_opens : Stmt := top 27
abbrev s__law_steps : Stmt := top 28
abbrev s__law_legal_play : Stmt := top 29
abbrev s__law_play_kind : Stmt := top 30
abbrev s__law_near_step : Stmt := top 31
abbrev s_law : Stmt := top 32
-- kind_at: slots 0 kind, 1 place, 2 number; cells []
theorem c_kind_at : FnScope ["kind", "place", "number"] ["kind", "place"] (defScope s_kind_at) := ⟨rfl, rfl, rfl, by decide +kernel, rfl, by decide +kernel, by decide +kernel⟩
-- is_whole: slots 0 value; cells []
theorem c_is_whole : FnScope ["value"] ["value"] (defScope s_is_whole) := ⟨rfl, rfl, rfl, by decide +kernel, rfl, by decide +kernel, by decide +kernel⟩
-- is_answer: slots 0 value; cells []
theorem c_is_answer : FnScope ["value"] ["value"] (defScope s_is_answer) := ⟨rfl, rfl, rfl, by decide +kernel, rfl, by decide +kernel, by decide +kernel⟩
-- is_tuple_of: slots 0 value, 1 many; cells []
theorem c_is_tuple_of : FnScope ["value", "many"] ["value", "many"] (defScope s_is_tuple_of) := ⟨rfl, rfl, rfl, by decide +kernel, rfl, by decide +kernel, by decide +kernel⟩
-- _is_move: slots 0 value, 1 word, 2 told, 3 number; cells []
theorem c__is_move : FnScope ["value", "word", "told", "number"] ["value"] (defScope s__is_move) := ⟨rfl, rfl, rfl, by decide +kernel, rfl, by decide +kernel, by decide +kernel⟩
-- _is_later_step: slots 0 value, 1 number; cells []
theorem c__is_later_step : FnScope ["value", "number"] ["value", "number"] (defScope s__is_later_step) := ⟨rfl, rfl, rfl, by decide +kernel, rfl, by decide +kernel, by decide +kernel⟩
-- _is_placed: slots 0 kind, 1 move, 2 answered, 3 place; cells []
theorem c__is_placed : FnScope ["kind", "move", "answered", "place"] ["kind", "move", "answered"] (defScope s__is_placed) := ⟨rfl, rfl, rfl, by decide +kernel, rfl, by decide +kernel, by decide +kernel⟩
-- _reason_against: slots 0 kind, 1 play, 2 waiting, 3 step, 4 number, 5 move, 6 back; cells []
theorem c__reason_against : FnScope ["kind", "play", "waiting", "step", "number", "move", "back"] ["kind", "play", "waiting", "step"] (defScope s__reason_against) := ⟨rfl, rfl, rfl, by decide +kernel, rfl, by decide +kernel, by decide +kernel⟩
-- _note_open: slots 0 waiting, 1 number, 2 step, 3 move, 4 back; cells []
theorem c__note_open : FnScope ["waiting", "number", "step", "move", "back"] ["waiting", "number", "step"] (defScope s__note_open) := ⟨rfl, rfl, rfl, by decide +kernel, rfl, by decide +kernel, by decide +kernel⟩
-- fault_of: slots 0 kind, 1 play, 2 waiting, 3 number, 4 step, 5 reason; cells []
theorem c_fault_of : FnScope ["kind", "play", "waiting", "number", "step", "reason"] ["kind", "play"] (defScope s_fault_of) := ⟨rfl, rfl, rfl, by decide +kernel, rfl, by decide +kernel, by decide +kernel⟩
-- _sight_behind: slots 0 play, 1 found, 2 number, 3 back; cells []
theorem c__sight_behind : FnScope ["play", "found", "number", "back"] ["play"] (defScope s__sight_behind) := ⟨rfl, rfl, rfl, by decide +kernel, rfl, by decide +kernel, by decide +kernel⟩
-- open_asks: slots 0 play, 1 waiting, 2 number, 3 step; cells []
theorem c_open_asks : FnScope ["play", "waiting", "number", "step"] ["play"] (defScope s_open_asks) := ⟨rfl, rfl, rfl, by decide +kernel, rfl, by decide +kernel, by decide +kernel⟩
-- steps_to: slots 0 kind, 1 play, 2 back, 3 word, 4 place, 5 found, 6 k; cells ['back', 'place']
theorem c_steps_to : FnScope ["kind", "play", "back", "word", "place", "found", "k"] ["kind", "play", "back"] (defScope s_steps_to) := ⟨rfl, rfl, rfl, by decide +kernel, rfl, by decide +kernel, by decide +kernel⟩
-- steps_after: slots 0 kind, 1 play, 2 waiting, 3 steps, 4 back, 5 step; cells ['kind', 'play', 'waiting']
theorem c_steps_after : FnScope ["kind", "play", "waiting", "steps", "back", "step"] ["kind", "play"] (defScope s_steps_after) := ⟨rfl, rfl, rfl, by decide +kernel, rfl, by decide +kernel, by decide +kernel⟩
-- _law_cell: slots 0 script, 1 k; cells []
theorem c__law_cell : FnScope ["script", "k"] ["script", "k"] (defScope s__law_cell) := ⟨rfl, rfl, rfl, by decide +kernel, rfl, by decide +kernel, by decide +kernel⟩
-- _law_digits: slots 0 script, 1 first, 2 last, 3 digits, 4 k, 5 cell, 6 turn, 7 seed; cells []
theorem c__law_digits : FnScope ["script", "first", "last", "digits", "k", "cell", "turn", "seed"] ["script", "first", "last"] (defScope s__law_digits) := ⟨rfl, rfl, rfl, by decide +kernel, rfl, by decide +kernel, by decide +kernel⟩
-- _law_draw: slots 0 box, 1 many, 2 at; cells []
theorem c__law_draw : FnScope ["box", "many", "at"] ["box", "many"] (defScope s__law_draw) := ⟨rfl, rfl, rfl, by decide +kernel, rfl, by decide +kernel, by decide +kernel⟩
-- _law_box: slots 0 script, 1 first, 2 last; cells []
theorem c__law_box : FnScope ["script", "first", "last"] ["script", "first", "last"] (defScope s__law_box) := ⟨rfl, rfl, rfl, by decide +kernel, rfl, by decide +kernel, by decide +kernel⟩
-- _law_same: slots 0 actual, 1 expected, 2 k; cells []
theorem c__law_same : FnScope ["actual", "expected", "k"] ["actual", "expected"] (defScope s__law_same) := ⟨rfl, rfl, rfl, by decide +kernel, rfl, by decide +kernel, by decide +kernel⟩
-- _law_at: slots 0 kind, 1 place, 2 k; cells []
theorem c__law_at : FnScope ["kind", "place", "k"] ["kind", "place"] (defScope s__law_at) := ⟨rfl, rfl, rfl, by decide +kernel, rfl, by decide +kernel, by decide +kernel⟩
-- _law_kind_deep: slots 0 box, 1 deep, 2 budget, 3 parts, 4 k; cells []
theorem c__law_kind_deep : FnScope ["box", "deep", "budget", "parts", "k"] ["box", "deep", "budget"] (defScope s__law_kind_deep) := ⟨rfl, rfl, rfl, by decide +kernel, rfl, by decide +kernel, by decide +kernel⟩
-- _law_sight_at: slots 0 play, 1 n, 2 j; cells []
theorem c__law_sight_at : FnScope ["play", "n", "j"] ["play", "n"] (defScope s__law_sight_at) := ⟨rfl, rfl, rfl, by decide +kernel, rfl, by decide +kernel, by decide +kernel⟩
-- _law_opens: slots 0 play, 1 rows, 2 n, 3 move, 4 back, 5 j; cells ['back']
theorem c__law_opens : FnScope ["play", "rows", "n", "move", "back", "j"] ["play"] (defScope s__law_opens) := ⟨rfl, rfl, rfl, by decide +kernel, rfl, by decide +kernel, by decide +kernel⟩
-- _law_steps: slots 0 kind, 1 play, 2 n, 3 view, 4 rows, 5 j, 6 move, 7 many, 8 k; cells ['j', 'move']
theorem c__law_steps : FnScope ["kind", "play", "n", "view", "rows", "j", "move", "many", "k"] ["kind", "play"] (defScope s__law_steps) := ⟨rfl, rfl, rfl, by decide +kernel, rfl, by decide +kernel, by decide +kernel⟩
-- _law_legal_play: slots 0 box, 1 kind, 2 most, 3 play, 4 turn, 5 rows, 6 bold, 7 row; cells []
theorem c__law_legal_play : FnScope ["box", "kind", "most", "play", "turn", "rows", "bold", "row"] ["box", "kind", "most"] (defScope s__law_legal_play) := ⟨rfl, rfl, rfl, by decide +kernel, rfl, by decide +kernel, by decide +kernel⟩
-- _law_play_kind: slots 0 box, 1 kind; cells []
theorem c__law_play_kind : FnScope ["box", "kind"] ["box"] (defScope s__law_play_kind) := ⟨rfl, rfl, rfl, by decide +kernel, rfl, by decide +kernel, by decide +kernel⟩
-- _law_near_step: slots 0 box, 1 play, 2 n, 3 found, 4 other, 5 back, 6 place, 7 pick, 8 k; cells ['play', 'n']
theorem c__law_near_step : FnScope ["box", "play", "n", "found", "other", "back", "place", "pick", "k"] ["box", "play"] (defScope s__law_near_step) := ⟨rfl, rfl, rfl, by decide +kernel, rfl, by decide +kernel, by decide +kernel⟩
-- law: slots 0 script, 1 box, 2 turn, 3 kind, 4 play, 5 many, 6 part, 7 rows, 8 row, 9 step, 10 told; cells []
theorem c_law : FnScope ["script", "box", "turn", "kind", "play", "many", "part", "rows", "row", "step", "told"] ["script"] (defScope s_law) := ⟨rfl, rfl, rfl, by decide +kernel, rfl, by decide +kernel, by decide +kernel⟩
structure Bt (mg : Str → Option Value) : Prop where
  b_len : mg "len" = none
  b_isinstance : mg "isinstance" = none
  b_int : mg "int" = none
  b_bool : mg "bool" = none
  b_tuple : mg "tuple" = none
  b_all : mg "all" = none
  b_enumerate : mg "enumerate" = none
  b_range : mg "range" = none
  b_sorted : mg "sorted" = none
  b_str : mg "str" = none
/-- a def of the text: its object, how it is bound, its name -/
structure Df (K : PySem.W.Frag) (mg : Str → Option Value) (x : Str) (st : Stmt) (ps : List Str) (f : Addr) (fd : FuncData) : Prop where
  F : FunD K x x (defArgs st) (defBody st) (defScope st) [] [] f fd
  b : Binds K fd ps []
  m : mg x = some (.ref f)
theorem Df.kp {K : PySem.W.Frag} {mg : Str → Option Value} {x : Str} {st : Stmt} {ps : List Str} {f : Addr} {fd : FuncData} (D : Df K mg x st ps f fd) : PySem.W.keepIn K (.ref f) = true := D.F.kp
theorem Df.ok {P : Program} {w : World} {K : PySem.W.Frag} {mg : Str → Option Value} {base : Heap} {x : Str} {st : Stmt} {ps : List Str} {f : Addr} {fd : FuncData} {N : List Str} {k : Nat} {sp : Sp} (D : Df K mg x st ps f fd) (S : FnScope N ps (defScope st)) (len : ∀ vs H Q E, sp vs H Q E → vs.length = ps.length)
    (hbody : ∀ (cdv : Value) (A : Around) (outer : List Env) (s : Shared) (H : Hp) (vs : List V) (Q : VK) (E : XK), Room k (A.deeper (envOfC x (defScope st) s.heap.objs.size f cdv)) → sp vs H Q E →
      ∃ t, PSs (cxOf CX0 P w K mg base N x (defScope st) f cdv A outer s H E).nox (defBody st) t ∧ t { nx := fun _ H' => Q .non H', rt := Q } (start N vs) H) : FnOk P w K mg base CX0 (k + 1) f fd ps sp :=
  D.F.ok S len fun cdv A outer s H vs Q E hr hsp => let ⟨t, h, q⟩ := hbody cdv A outer s H vs Q E hr hsp; ⟨t, h.nox, q⟩
/-- what stood stands, a new list at p besides -/
structure Nw (p : Addr) (H0 H : Hp) (xs : List V) : Prop where
  s : Same H0 H
  n : H0 p = none
  h : H p = some (.lst xs)
theorem Nw.put {p : Addr} {H0 H : Hp} {xs : List V} (w : Nw p H0 H xs) (ys : List V) : Nw p H0 (upd H p (.lst ys)) ys :=
  ⟨fun b o e => by rw [upd_ne (ne_of_none e w.n)]; exact w.s b o e, w.n, upd_same⟩
theorem Nw.app {p : Addr} {H0 H : Hp} {ds : List Int} {x : Int} (w : Nw p H0 H (ds.map V.int)) : Nw p H0 (upd H p (.lst (ds.map V.int ++ [V.int x]))) ((ds ++ [x]).map V.int) := by
  have e : (ds ++ [x]).map V.int = ds.map V.int ++ [V.int x] := by rw [List.map_append] <;> rfl
  rw [e]
  exact w.put _
theorem Nw.new {p : Addr} {H : Hp} (n : H p = none) (xs : List V) : Nw p H (upd H p (.lst xs)) xs := ⟨same_new n _, n, upd_same⟩
theorem Nw.step {p : Addr} {H0 H H1 : Hp} {xs : List V} (w : Nw p H0 H xs) (s : Same H H1) : Nw p H0 H1 xs := ⟨w.s.trans s, w.n, s _ _ w.h⟩
theorem Same.tup {K : PySem.W.Frag} {H H' : Hp} {a : Addr} {xs : List V} (e : Same H H') (h : SqT K H a xs) : SqT K H' a xs := by
  rcases h with (h | ⟨o, h⟩) | h
  · exact .inl (.inl (e _ _ h))
  · exact .inl (.inr ⟨o, e _ _ h⟩)
  · exact .inr h
theorem small6 {n : Nat} (h : n ≤ 1000000) : n < sizeLine := by rw [sizeLine_eq]; omega
theorem small6' {n : Nat} (h : n ≤ 1000000) : n ≤ sizeLine := by rw [sizeLine_eq]; omega
theorem yes_go {σ : L2.St} {H : Hp} {A B : Hp → Prop} (h : A H) : tYes σ H fun b H3 => if b = true then A H3 else B H3 := by
  show (if true = true then A H else B H)
  exact iteT h
section
variable {P : Program} {w : World} {K : PySem.W.Frag} {mg : Str → Option Value} {base : Heap}
/-! ### _law_cell -/
def spCell (K : PySem.W.Frag) : Sp := fun vs H Q _ => ∃ (a : Addr) (ns : List Int) (k : Int), vs = [.ref a, .int k] ∧ SqL K H a (ns.map V.int) ∧ 0 ≤ k ∧ ∀ i : Int, Q (.int i) H
theorem ok_cell {f : Addr} {fd : FuncData} (D : Df K mg "_law_cell" s__law_cell ["script", "k"] f fd) (B : Bt mg) : FnOk P w K mg base CX0 1 f fd ["script", "k"] (spCell K) := by
  refine D.ok c__law_cell (fun vs H Q E h => ?_) (fun cdv A outer s H vs Q E hr h => ?_)
  · obtain ⟨a, ns, k, rfl, _⟩ := h
    rfl
  obtain ⟨a, ns, k, rfl, hS, h0, q⟩ := h
  have nd := c__law_cell.nd
  refine ⟨_, (pss_cons (ps_if (pt_cmpR op_lt (pv 1) (pe_callB call_len_seq (by rfl) B.b_len PySem.boot_len (pa_cons (pv 0) pa_nil)) (nomark _)) (pss_one (ps_ret (pe_ix ix_list (pv 0) (pv 1) (fun _ _ => rfl)))) pss_nil)
  (pss_one (ps_ret pe_int))), ?_⟩
  have hl : (ns.map V.int).length = ns.length := List.length_map _
  refine ⟨_, rfl, _, rfl, a, _, rfl, .inl hS, _, _, rfl, rfl, _, rfl, ?_⟩
  refine ite2 (fun c => ?_) (fun c => ?_)
  · have c' : k < (((ns.map V.int).length : Nat) : Int) := of_decide_eq_true c
    rw [hl] at c'
    have hk : k.toNat < ns.length := by omega
    have ek : k = ((k.toNat : Nat) : Int) := by omega
    have q1 : atI (ns.map V.int) ((k.toNat : Nat) : Int) = some (.int ns[k.toNat]) := atI_nat (by rw [List.getElem?_map, List.getElem?_eq_getElem hk] <;> rfl)
    rw [← ek] at q1
    exact ⟨_, rfl, _, rfl, a, _, _, _, rfl, rfl, hS, q1, q _⟩
  · exact q _
/-! ### _law_digits -/
def spDigits (K : PySem.W.Frag) : Sp := fun vs H Q _ => ∃ (a : Addr) (ns : List Int) (lo n : Nat), vs = [.ref a, .int lo, .int ((lo : Int) + n)] ∧ SqL K H a (ns.map V.int) ∧ lo ≤ 100 ∧ n ≤ 100 ∧
  ∀ (p : Addr) (H' : Hp) (ds : List Int), Nw p H H' (ds.map V.int) → Q (.ref p) H'
theorem ok_digits {f g : Addr} {fd gd : FuncData} (D : Df K mg "_law_digits" s__law_digits ["script", "first", "last"] f fd) (B : Bt mg)
    (D__law_cell : Df K mg "_law_cell" s__law_cell ["script", "k"] g gd) : FnOk P w K mg base CX0 2 f fd ["script", "first", "last"] (spDigits K) := by
  have G__law_cell : FnOk P w K mg base CX0 1 g gd ["script", "k"] (spCell K) := ok_cell D__law_cell B
  refine D.ok c__law_digits (fun vs H Q E h => ?_) (fun cdv A outer s H vs Q E hr h => ?_)
  · obtain ⟨a, ns, lo, n, rfl, _⟩ := h
    rfl
  obtain ⟨a, ns, lo, n, rfl, hS, hlo, hn, q⟩ := h
  have nd := c__law_digits.nd
  refine ⟨_, (pss_cons (ps_set (i := 3) nd rfl (Or.inl rfl) (pe_lst pa_nil))
  (pss_cons (ps_for PassesOwn.never rfl (pi_range2 (by rfl) B.b_range (pa_cons (pv 1) (pa_cons (pv 2) pa_nil))) (pg_name (i := 4) nd rfl (Or.inl rfl)) (pss_cons (ps_set (i := 5) nd rfl (Or.inl rfl) (pe_call G__law_cell (hr.mono (by first | decide | omega)) (by rfl) D__law_cell.m D__law_cell.kp D__law_cell.b .nil pass0 (pa_cons (pv 0) (pa_cons (pv 4) pa_nil))))
  (pss_cons (ps_if (pt_cmpR op_lt (pv 5) pe_int (nomark _)) (pss_one (ps_set (i := 5) nd rfl (Or.inl rfl) (pe_op op_sub pe_int (pe_op op_mul pe_int (pv 5))))) pss_nil)
  (pss_one (ps_if (pt_cmpR op_ge (pv 5) (pe_op op_pow pe_int pe_int) (nomark _)) (pss_one (ps_for PassesOwn.never rfl (pi_range1 (by rfl) B.b_range (pa_cons pe_int pa_nil)) (pg_name (i := 6) nd rfl (Or.inl rfl)) (pss_one (ps_if (pt_cmpR op_gt (pv 5) pe_int (nomark _)) (pss_cons (ps_expr (pe_bm PySem.F.plainAttrs_list PySem.F.slot_list_append PySem.F.type_list_append mt_append (pv 3) (pa_cons (pe_op op_mod (pe_callTy call_int1 (by rfl) B.b_int (by decide +kernel) (pa_cons (pv 5) pa_nil)) pe_int) pa_nil)))
  (pss_one (ps_set (i := 5) nd rfl (Or.inl rfl) (pe_op op_fdiv (pv 5) pe_int)))) pss_nil)))) (pss_cons (ps_set (i := 7) nd rfl (Or.inl rfl) (pe_op op_mod (pe_callTy call_int1 (by rfl) B.b_int (by decide +kernel) (pa_cons (pe_op op_add (pe_op op_add (pe_op op_mul (pv 5) pe_int) (pe_op op_mul (pv 4) pe_int)) pe_int) pa_nil)) pe_int))
  (pss_one (ps_for PassesOwn.never rfl (pi_range1 (by rfl) B.b_range (pa_cons pe_int pa_nil)) (pg_name (i := 6) nd rfl (Or.inl rfl)) (pss_cons (ps_set (i := 7) nd rfl (Or.inl rfl) (pe_op op_mod (pe_callTy call_int1 (by rfl) B.b_int (by decide +kernel) (pa_cons (pe_op op_add (pe_op op_add (pe_op op_mul (pv 7) pe_int) (pe_op op_mul pe_int (pv 6))) pe_int) pa_nil)) pe_int))
  (pss_one (ps_expr (pe_bm PySem.F.plainAttrs_list PySem.F.slot_list_append PySem.F.type_list_append mt_append (pv 3) (pa_cons (pe_op op_mod (pe_callTy call_int1 (by rfl) B.b_int (by decide +kernel) (pa_cons (pe_op op_fdiv (pv 7) pe_int) pa_nil)) pe_int) pa_nil)))))))))))))
  (pss_one (ps_ret (pv 3))))), ?_⟩
  refine ⟨Nat.zero_le _, fun p np => ?_⟩
  refine ⟨_, rfl, _, rfl, _, _, rfl, ⟨by omega, by omega, by omega, by omega⟩, ?_⟩
  refine for_range (lo := (lo : Int)) (n := ((lo : Int) + n - lo).toNat) (fun i σ H' => ∃ (ds : List Int) (y4 y5 y6 y7 : Option V), σ = [some (.ref a), some (.int lo), some (.int ((lo : Int) + n)), some (.ref p), y4, y5, y6, y7] ∧ Nw p H H' (ds.map V.int) ∧ ds.length ≤ 60 * i)
    ⟨[], none, none, none, none, rfl, Nw.new np _, Nat.zero_le _⟩ ?_ ?_
  · rintro i σ H1 hi ⟨ds, y4, y5, y6, y7, rfl, hw, hd⟩
    have hi2 : i < n := by omega
    refine ⟨_, rfl, _, rfl, a, ns, (lo : Int) + i, rfl, hw.s.seq hS, by omega, fun c => ?_⟩
    refine ⟨_, rfl, _, _, rfl, rfl, _, rfl, ite2 (fun e1 => ⟨_, rfl, _, _, rfl, rfl, .inl ⟨by decide, by decide⟩, _, _, rfl, rfl, ?_⟩) (fun e1 => ?_)⟩
    all_goals
      refine ⟨_, rfl, _, _, rfl, rfl, ⟨by decide, by decide, by decide⟩, _, _, rfl, rfl, _, rfl, ite2 (fun e2 => ?_) (fun e2 => ?_)⟩
      · refine ⟨60, rfl, by decide, by decide, for_range (n := 60) (fun j σ H' => ∃ (es : List Int) (c' : Int) (y6 y7 : Option V), σ = [some (.ref a), some (.int lo), some (.int ((lo : Int) + n)), some (.ref p), some (.int ((lo : Int) + i)), some (.int c'), y6, y7] ∧ Nw p H H' (es.map V.int) ∧ es.length ≤ 60 * i + j)
          ⟨ds, _, _, _, rfl, hw, hd⟩ ?_ ?_⟩
        · rintro j σ H2 hj ⟨es, c', y6, y7, rfl, hw2, he⟩
          refine ⟨_, rfl, _, _, rfl, rfl, _, rfl, ite2 (fun e3 => ?_) (fun e3 => ⟨es, c', _, _, rfl, hw2, by omega⟩)⟩
          refine ⟨_, rfl, .inl ⟨rfl, _, SqL.of hw2.h⟩, _, rfl, .inl ⟨_, rfl, _, _, rfl, rfl, (by show (0 : Int) < 1000; decide), _, _, _, rfl, rfl, hw2.h, small6 (by rw [List.length_map]; omega), ?_⟩⟩
          refine ⟨_, rfl, _, _, rfl, rfl, ⟨by decide, by decide⟩, es ++ [_], _, _, _, rfl, hw2.app, ?_⟩
          rw [List.length_append, List.length_singleton]
          omega
        · rintro σ H2 ⟨es, c', y6, y7, rfl, hw2, he⟩
          exact ⟨es, _, _, _, _, rfl, hw2, by omega⟩
      · refine ⟨_, rfl, _, _, rfl, rfl, .inr ⟨by decide, by decide⟩, _, rfl, _, _, rfl, rfl, .inr ⟨by decide, by decide⟩, _, _, rfl, rfl, _, _, rfl, rfl, .inl ⟨_, rfl, _, _, rfl, rfl, (by show (0 : Int) < 2147483647; decide), ?_⟩⟩
        refine ⟨12, rfl, by decide, by decide, for_range (n := 12) (fun j σ H' => ∃ (es : List Int) (c' z : Int) (y6 : Option V), σ = [some (.ref a), some (.int lo), some (.int ((lo : Int) + n)), some (.ref p), some (.int ((lo : Int) + i)), some (.int c'), y6, some (.int z)] ∧ Nw p H H' (es.map V.int) ∧ es.length ≤ 60 * i + j)
          ⟨ds, _, _, _, rfl, hw, hd⟩ ?_ ?_⟩
        · rintro j σ H2 hj ⟨es, c', z, y6, rfl, hw2, he⟩
          refine ⟨_, rfl, _, _, rfl, rfl, .inr ⟨by decide, by decide⟩, _, rfl, _, _, rfl, rfl, .inl ⟨by decide, by decide⟩, _, _, rfl, rfl, _, _, rfl, rfl, .inl ⟨_, rfl, _, _, rfl, rfl, (by show (0 : Int) < 2147483647; decide), ?_⟩⟩
          refine ⟨_, rfl, .inl ⟨rfl, _, SqL.of hw2.h⟩, _, rfl, _, _, rfl, rfl, ⟨by decide, by decide⟩, .inl ⟨_, rfl, _, _, rfl, rfl, (by show (0 : Int) < 1000; decide), _, _, _, rfl, rfl, hw2.h, small6 (by rw [List.length_map]; omega), ?_⟩⟩
          refine ⟨es ++ [_], _, _, _, rfl, hw2.app, ?_⟩
          rw [List.length_append, List.length_singleton]
          omega
        · rintro σ H2 ⟨es, c', z, y6, rfl, hw2, he⟩
          exact ⟨es, _, _, _, _, rfl, hw2, by omega⟩
  · rintro σ H1 ⟨ds, y4, y5, y6, y7, rfl, hw, hd⟩
    exact ⟨_, rfl, q p H1 ds hw⟩
end

/-! ### the box -/
def BoxAt (H : Hp) (b d : Addr) : Prop := ∃ (ds : List Int) (n : Int), H b = some (.lst [.ref d, .int n]) ∧ H d = some (.lst (ds.map V.int)) ∧ d ≠ b ∧ 0 ≤ n
theorem BoxAt.lst {H : Hp} {b d : Addr} (x : BoxAt H b d) : ∃ xs, H b = some (.lst xs) := let ⟨_, _, h, _⟩ := x; ⟨_, h⟩
theorem BoxAt.dst {H : Hp} {b d : Addr} (x : BoxAt H b d) : ∃ xs, H d = some (.lst xs) := let ⟨_, _, _, h, _⟩ := x; ⟨_, h⟩
theorem BoxAt.keep {H H' : Hp} {b d : Addr} (x : BoxAt H b d) (h1 : ∀ o, H b = some o → H' b = some o) (h2 : ∀ o, H d = some o → H' d = some o) : BoxAt H' b d := let ⟨ds, n, a1, a2, a3, a4⟩ := x; ⟨ds, n, h1 _ a1, h2 _ a2, a3, a4⟩
theorem BoxAt.same {H H' : Hp} {b d : Addr} (x : BoxAt H b d) (s : Same H H') : BoxAt H' b d := x.keep (fun _ => s _ _) (fun _ => s _ _)
theorem BoxAt.other {H : Hp} {b d u : Addr} (o : HO) (x : BoxAt H b d) (hb : u ≠ b) (hd : u ≠ d) : BoxAt (upd H u o) b d := x.keep (fun _ h => by rw [upd_ne hb.symm]; exact h) (fun _ h => by rw [upd_ne hd.symm]; exact h)
theorem box_kx {H H' : Hp} {b d : Addr} (x : BoxAt H b d) (y : BoxAt H' b d) (s : SB b H H') : Kx H H' := let ⟨_, h⟩ := x.lst; let ⟨_, h'⟩ := y.lst; sb_kx s h h'
section
variable {P : Program} {w : World} {K : PySem.W.Frag} {mg : Str → Option Value} {base : Heap}
def spDraw : Sp := fun vs H Q _ => ∃ (b d : Addr) (m : Int), vs = [.ref b, .int m] ∧ BoxAt H b d ∧ 0 < m ∧ ∀ (r : Int) (H' : Hp), 0 ≤ r → r < m → BoxAt H' b d → SB b H H' → Q (.int r) H'
theorem ok_draw {f : Addr} {fd : FuncData} (D : Df K mg "_law_draw" s__law_draw ["box", "many"] f fd) (B : Bt mg) : FnOk P w K mg base CX0 1 f fd ["box", "many"] spDraw := by
  refine D.ok c__law_draw (fun vs H Q E h => ?_) (fun cdv A outer s H vs Q E hr h => ?_)
  · obtain ⟨b, d, m, rfl, _⟩ := h
    rfl
  obtain ⟨b, d, m, rfl, ⟨ds, n, hb, hd, hdb, hn⟩, hm, q⟩ := h
  have nd := c__law_draw.nd
  refine ⟨_, (pss_cons (ps_set (i := 2) nd rfl (Or.inl rfl) (pe_ix ix_list (pv 0) pe_int (fun _ _ => rfl)))
  (pss_cons (ps_asg (pe_op op_add (pv 2) pe_int) (pg_sub (pv 0) pe_int set_list))
  (pss_cons (ps_if (pt_cmpR op_lt (pv 2) (pe_callB call_len_seq (by rfl) B.b_len PySem.boot_len (pa_cons (pe_ix ix_list (pv 0) pe_int (fun _ _ => rfl)) pa_nil)) (nomark _)) (pss_one (ps_ret (pe_op op_mod (pe_callTy call_int1 (by rfl) B.b_int (by decide +kernel) (pa_cons (pe_ix ix_list (pe_ix ix_list (pv 0) pe_int (fun _ _ => rfl)) (pv 2) (fun _ _ => rfl)) pa_nil)) (pv 1)))) pss_nil)
  (pss_one (ps_ret pe_int))))), ?_⟩
  refine ⟨_, rfl, b, _, 1, _, rfl, rfl, SqL.of hb, rfl, ?_⟩
  refine ⟨_, rfl, _, _, rfl, rfl, _, rfl, b, _, 1, 1, rfl, rfl, hb, rfl, ?_⟩
  have hb' : (upd H b (.lst [.ref d, .int (n + 1)])) b = some (.lst [.ref d, .int (n + 1)]) := upd_same
  have hd' : (upd H b (.lst [.ref d, .int (n + 1)])) d = some (.lst (ds.map V.int)) := by rw [upd_ne hdb]; exact hd
  have hB : BoxAt (upd H b (.lst [.ref d, .int (n + 1)])) b d := ⟨ds, n + 1, hb', hd', hdb, by omega⟩
  refine ⟨_, rfl, _, rfl, b, _, 0, _, rfl, rfl, SqL.of hb', rfl, d, _, rfl, .inl (SqL.of hd'), _, _, rfl, rfl, _, rfl, ite2 (fun c => ?_) (fun c => ?_)⟩
  · have c' : n < (((ds.map V.int).length : Nat) : Int) := of_decide_eq_true c
    rw [List.length_map] at c'
    have hk : n.toNat < ds.length := by omega
    have q1 : atI (ds.map V.int) ((n.toNat : Nat) : Int) = some (.int ds[n.toNat]) := atI_nat (by rw [List.getElem?_map, List.getElem?_eq_getElem hk] <;> rfl)
    have ek : ((n.toNat : Nat) : Int) = n := by omega
    rw [ek] at q1
    refine ⟨_, rfl, b, _, 0, _, rfl, rfl, SqL.of hb', rfl, _, rfl, d, _, _, _, rfl, rfl, SqL.of hd', q1, .inl ⟨_, rfl, _, rfl, _, _, rfl, rfl, hm, ?_⟩⟩
    exact q _ _ (Int.emod_nonneg _ (by omega)) (Int.emod_lt_of_pos _ hm) hB (sb_upd _)
  · exact q 0 _ (Int.le_refl _) hm hB (sb_upd _)
def spBox (K : PySem.W.Frag) : Sp := fun vs H Q _ => ∃ (a : Addr) (ns : List Int) (lo n : Nat), vs = [.ref a, .int lo, .int ((lo : Int) + n)] ∧ SqL K H a (ns.map V.int) ∧ lo ≤ 100 ∧ n ≤ 100 ∧
  ∀ (p d : Addr) (H' : Hp), Same H H' → H p = none → H d = none → BoxAt H' p d → Q (.ref p) H'
theorem ok_box {f g e : Addr} {fd gd ed : FuncData} (D : Df K mg "_law_box" s__law_box ["script", "first", "last"] f fd) (D__law_digits : Df K mg "_law_digits" s__law_digits ["script", "first", "last"] g gd) (D__law_cell : Df K mg "_law_cell" s__law_cell ["script", "k"] e ed) (B : Bt mg) :
    FnOk P w K mg base CX0 3 f fd ["script", "first", "last"] (spBox K) := by
  have G__law_digits : FnOk P w K mg base CX0 2 g gd ["script", "first", "last"] (spDigits K) := ok_digits D__law_digits B D__law_cell
  refine D.ok c__law_box (fun vs H Q E h => ?_) (fun cdv A outer s H vs Q E hr h => ?_)
  · obtain ⟨a, ns, lo, n, rfl, _⟩ := h
    rfl
  obtain ⟨a, ns, lo, n, rfl, hS, hlo, hn, q⟩ := h
  have nd := c__law_box.nd
  refine ⟨_, (pss_one (ps_ret (pe_lst (pa_cons (pe_call G__law_digits (hr.mono (by first | decide | omega)) (by rfl) D__law_digits.m D__law_digits.kp D__law_digits.b .nil pass0 (pa_cons (pv 0) (pa_cons (pv 1) (pa_cons (pv 2) pa_nil)))) (pa_cons pe_int pa_nil))))), ?_⟩
  refine ⟨_, rfl, _, rfl, _, rfl, a, ns, lo, n, rfl, hS, hlo, hn, fun p H1 ds hw => ⟨(by show 2 ≤ sizeLine; decide), fun r hr' => ?_⟩⟩
  have hne : p ≠ r := ne_of_none hw.h hr'
  have s1 : Same H1 (upd H1 r (.lst [.ref p, .int 0])) := same_new hr' _
  exact q r p _ (hw.s.trans s1) (hw.s.free hr') hw.n ⟨ds, 0, upd_same, s1 _ _ hw.h, hne, Int.le_refl _⟩
end
/-! ### isinstance -/
def tyD : D → String
  | .at .non => "NoneType"
  | .at (.bl _) => "bool"
  | .at (.int _) => "int"
  | .at _ => "str"
  | .lst => "list"
  | .tup _ => "tuple"
def isTup : D → Bool
  | .tup _ => true
  | _ => false
def isBool : D → Bool
  | .at (.bl _) => true
  | _ => false
def isInt : D → Bool
  | .at (.int _) => true
  | .at (.bl _) => true
  | _ => false
def isStr : D → Bool
  | .at .non => false
  | .at (.bl _) => false
  | .at (.int _) => false
  | .at _ => true
  | _ => false
theorem tup_ty {K : PySem.W.Frag} {H : Hp} {a : Addr} {xs : List V} (h : TupAt K H a xs) : TyX K H (.ref a) (.type "tuple") := by
  rcases h with h | ⟨o, its, n, h, c, _⟩
  · exact .base (.tup h)
  · exact .kTuple h c
theorem rep_ty {K : PySem.W.Frag} {H : Hp} {x : V} {d : D} (r : Rep K H x d) : TyX K H x (.type (tyD d)) := by
  cases r with
  | lst h => exact .base (.lst h)
  | tup h _ => exact tup_ty h
  | «at» h =>
    cases x with
    | non => exact .base .non
    | bl b => exact .base (.bl b)
    | int i => exact .base (.int i)
    | str s => exact .base (.str s)
    | byt _ => cases h
    | flt _ => cases h
    | ref _ => cases h
    | ty _ => cases h
theorem kit_tup (d : D) : kitB (tyD d) "tuple" = some (isTup d) := by
  have h_NoneType : kitB "NoneType" "tuple" = some false := by decide +kernel
  have h_bool : kitB "bool" "tuple" = some false := by decide +kernel
  have h_int : kitB "int" "tuple" = some false := by decide +kernel
  have h_str : kitB "str" "tuple" = some false := by decide +kernel
  have h_list : kitB "list" "tuple" = some false := by decide +kernel
  have h_tuple : kitB "tuple" "tuple" = some true := by decide +kernel
  cases d with
  | tup _ => exact h_tuple
  | lst => exact h_list
  | «at» v =>
    cases v with
    | non => exact h_NoneType
    | bl _ => exact h_bool
    | int _ => exact h_int
    | _ => exact h_str
theorem kit_bool (d : D) : kitB (tyD d) "bool" = some (isBool d) := by
  have h_NoneType : kitB "NoneType" "bool" = some false := by decide +kernel
  have h_bool : kitB "bool" "bool" = some true := by decide +kernel
  have h_int : kitB "int" "bool" = some false := by decide +kernel
  have h_str : kitB "str" "bool" = some false := by decide +kernel
  have h_list : kitB "list" "bool" = some false := by decide +kernel
  have h_tuple : kitB "tuple" "bool" = some false := by decide +kernel
  cases d with
  | tup _ => exact h_tuple
  | lst => exact h_list
  | «at» v =>
    cases v with
    | non => exact h_NoneType
    | bl _ => exact h_bool
    | int _ => exact h_int
    | _ => exact h_str
theorem kit_int (d : D) : kitB (tyD d) "int" = some (isInt d) := by
  have h_NoneType : kitB "NoneType" "int" = some false := by decide +kernel
  have h_bool : kitB "bool" "int" = some true := by decide +kernel
  have h_int : kitB "int" "int" = some true := by decide +kernel
  have h_str : kitB "str" "int" = some false := by decide +kernel
  have h_list : kitB "list" "int" = some false := by decide +kernel
  have h_tuple : kitB "tuple" "int" = some false := by decide +kernel
  cases d with
  | tup _ => exact h_tuple
  | lst => exact h_list
  | «at» v =>
    cases v with
    | non => exact h_NoneType
    | bl _ => exact h_bool
    | int _ => exact h_int
    | _ => exact h_str
theorem kit_str (d : D) : kitB (tyD d) "str" = some (isStr d) := by
  have h_NoneType : kitB "NoneType" "str" = some false := by decide +kernel
  have h_bool : kitB "bool" "str" = some false := by decide +kernel
  have h_int : kitB "int" "str" = some false := by decide +kernel
  have h_str : kitB "str" "str" = some true := by decide +kernel
  have h_list : kitB "list" "str" = some false := by decide +kernel
  have h_tuple : kitB "tuple" "str" = some false := by decide +kernel
  cases d with
  | tup _ => exact h_tuple
  | lst => exact h_list
  | «at» v =>
    cases v with
    | non => exact h_NoneType
    | bl _ => exact h_bool
    | int _ => exact h_int
    | _ => exact h_str
theorem isi {K : PySem.W.Frag} {H : Hp} {x : V} {d : D} {T : String} {b : Bool} {Q : VK} (r : Rep K H x d) (h : kitB (tyD d) T = some b) (q : Q (.bl b) H) : rIsi K [x, .ty T] H Q :=
  ⟨x, .ty T, .type (tyD d), .type T, b, rfl, .ty T, rep_ty r, kit_ty h, q⟩
/-! ### data without lists -/
mutual
def noL : D → Bool
  | .tup ts => noLs ts
  | .lst => false
  | .at _ => true
def noLs : List D → Bool
  | [] => true
  | t :: r => noL t && noLs r
end
theorem noL_mem : ∀ {l : List D}, noLs l = true → ∀ {d : D}, d ∈ l → noL d = true
  | t :: r, hk, d, h => by
    have hk' : (noL t && noLs r) = true := hk
    rw [Bool.and_eq_true] at hk'
    rcases List.mem_cons.mp h with e | h
    · rw [e]
      exact hk'.1
    · exact noL_mem hk'.2 h
/-! ### _law_same -/
section
variable {P : Program} {w : World} {K : PySem.W.Frag} {mg : Str → Option Value} {base : Heap}
def spSame (K : PySem.W.Frag) (n : Nat) : Sp := fun vs H Q _ => ∃ (x y : V) (d e : D), vs = [x, y] ∧ Rep K H x d ∧ Rep K H y e ∧ noL e = true ∧ dep e < n ∧ szs [e] ≤ 1000000 ∧ ∀ r : Bool, (r = true ↔ d = e) → Q (.bl r) H
theorem ok_same0 {f : Addr} {fd : FuncData} : FnOk P w K mg base CX0 0 f fd ["actual", "expected"] (spSame K 0) := by
  have no : ∀ vs H Q E, ¬ spSame K 0 vs H Q E := fun vs H Q E h => by
    obtain ⟨x, y, d, e, _, _, _, _, h1, _⟩ := h
    omega
  exact ⟨fun vs H Q E h => absurd h (no vs H Q E), fun A outer s H args us vs Q E _ _ _ _ h => absurd h (no vs H Q E)⟩
theorem ok_same {f : Addr} {fd : FuncData} (D__law_same : Df K mg "_law_same" s__law_same ["actual", "expected"] f fd) (B : Bt mg) : ∀ n : Nat, FnOk P w K mg base CX0 n f fd ["actual", "expected"] (spSame K n)
  | 0 => ok_same0
  | n + 1 => by
    have G__law_same := ok_same D__law_same B n
    refine D__law_same.ok c__law_same (fun vs H Q E h => ?_) (fun cdv A outer s H vs Q E hr h => ?_)
    · obtain ⟨x, y, d, e, rfl, _⟩ := h
      rfl
    obtain ⟨x, y, d, e, rfl, rx, ry, hnl, hdp, hsz, q⟩ := h
    have nd := c__law_same.nd
    refine ⟨_, (pss_cons (ps_if (pt_val (pe_callB call_isi (by rfl) B.b_isinstance (by decide +kernel) (pa_cons (pv 1) (pa_cons (pe_bltn (v := .ty "tuple") (by rfl) B.b_tuple (by decide +kernel) rfl) pa_nil)))) (pss_cons (ps_if (PW.pt (pw_or (pt_not (pt_val (pe_callB call_isi (by rfl) B.b_isinstance (by decide +kernel) (pa_cons (pv 0) (pa_cons (pe_bltn (v := .ty "tuple") (by rfl) B.b_tuple (by decide +kernel) rfl) pa_nil))))) (pw_or1 (pt_cmpR op_ne (pe_callB call_len_seq (by rfl) B.b_len PySem.boot_len (pa_cons (pv 0) pa_nil)) (pe_callB call_len_seq (by rfl) B.b_len PySem.boot_len (pa_cons (pv 1) pa_nil)) (nomark _))))) (pss_one (ps_ret pe_bl)) pss_nil)
  (pss_cons (ps_for PassesOwn.never rfl (pi_range1 (by rfl) B.b_range (pa_cons (pe_callB call_len_seq (by rfl) B.b_len PySem.boot_len (pa_cons (pv 1) pa_nil)) pa_nil)) (pg_name (i := 2) nd rfl (Or.inl rfl)) (pss_one (ps_if (pt_not (pt_val (pe_call G__law_same hr (by rfl) D__law_same.m D__law_same.kp D__law_same.b .nil pass0 (pa_cons (pe_ix ix_tup (pv 0) (pv 2) (fun _ _ => rfl)) (pa_cons (pe_ix ix_tup (pv 1) (pv 2) (fun _ _ => rfl)) pa_nil))))) (pss_one (ps_ret pe_bl)) pss_nil)))
  (pss_one (ps_ret pe_bl)))) pss_nil)
  (pss_cons (ps_if (pt_cmpR op_isN (pv 1) pe_non (nomark _)) (pss_one (ps_ret (pe_cmpR op_isN (pv 0) pe_non (nomark _)))) pss_nil)
  (pss_cons (ps_if (pt_val (pe_callB call_isi (by rfl) B.b_isinstance (by decide +kernel) (pa_cons (pv 1) (pa_cons (pe_bltn (v := .ty "bool") (by rfl) B.b_bool (by decide +kernel) rfl) pa_nil)))) (pss_one (ps_ret (pe_and (pe_callB call_isi (by rfl) B.b_isinstance (by decide +kernel) (pa_cons (pv 0) (pa_cons (pe_bltn (v := .ty "bool") (by rfl) B.b_bool (by decide +kernel) rfl) pa_nil))) (pe_one (pe_cmpR op_eq (pv 0) (pv 1) (nomark _)))))) pss_nil)
  (pss_cons (ps_if (pt_val (pe_callB call_isi (by rfl) B.b_isinstance (by decide +kernel) (pa_cons (pv 1) (pa_cons (pe_bltn (v := .ty "int") (by rfl) B.b_int (by decide +kernel) rfl) pa_nil)))) (pss_one (ps_ret (pe_and (pe_callB call_isi (by rfl) B.b_isinstance (by decide +kernel) (pa_cons (pv 0) (pa_cons (pe_bltn (v := .ty "int") (by rfl) B.b_int (by decide +kernel) rfl) pa_nil))) (pe_and (pe_not (pe_callB call_isi (by rfl) B.b_isinstance (by decide +kernel) (pa_cons (pv 0) (pa_cons (pe_bltn (v := .ty "bool") (by rfl) B.b_bool (by decide +kernel) rfl) pa_nil)))) (pe_one (pe_cmpR op_eq (pv 0) (pv 1) (nomark _))))))) pss_nil)
  (pss_one (ps_ret (pe_and (pe_callB call_isi (by rfl) B.b_isinstance (by decide +kernel) (pa_cons (pv 0) (pa_cons (pe_bltn (v := .ty "str") (by rfl) B.b_str (by decide +kernel) rfl) pa_nil))) (pe_one (pe_cmpR op_eq (pv 0) (pv 1) (nomark _)))))))))), ?_⟩
    refine ⟨y, rfl, _, _, _, _, _, rfl, .ty _, rep_ty ry, kit_ty (kit_tup _), ⟨_, rfl, ?_⟩⟩
    cases e with
    | lst => cases hnl
    | tup ts =>
      refine iteT ?_
      refine ⟨x, rfl, _, _, _, _, _, rfl, .ty _, rep_ty rx, kit_ty (kit_tup _), ⟨_, rfl, ?_⟩⟩
      obtain ⟨b, ys, rfl, hy, ry'⟩ := ry.inv
      have hts : ts.length ≤ 1000000 := by
        have h1 := len_szs ts
        have h2 : szs ts + 1 + 0 ≤ 1000000 := hsz
        omega
      have lts : (ts.length : Int) ≤ 1000000 := by omega
      cases d with
      | lst => exact iteT (q false ⟨fun z => (nomatch z), fun z => (nomatch z)⟩)
      | «at» v => exact iteT (q false ⟨fun z => (nomatch z), fun z => (nomatch z)⟩)
      | tup us =>
        obtain ⟨a, xs, rfl, hx, rx'⟩ := rx.inv
        have lx := rx'.length
        have ly := ry'.length
        refine iteF ?_
        refine ⟨_, rfl, a, xs, rfl, .inr (hx.sq), _, rfl, b, ys, rfl, .inr (hy.sq), rfl, _, rfl, ite2 (fun c => ?_) (fun c => ?_)⟩
        · refine q false ⟨fun z => (nomatch z), fun z => ?_⟩
          cases z
          rw [lx, ly, decide_eq_true rfl] at c
          cases c
        · have el : xs.length = ys.length := by
            by_cases z : V.int ((xs.length : Nat) : Int) = V.int ((ys.length : Nat) : Int)
            · exact Int.ofNat.inj (V.int.inj z)
            · rw [decide_eq_false z] at c
              exact absurd rfl c
          refine ⟨_, rfl, b, ys, rfl, .inr (hy.sq), _, rfl, by omega, by omega, for_range (n := ((ys.length : Nat) : Int).toNat) (fun i σ H' => H' = H ∧ us.take i = ts.take i ∧ ∃ y2, σ = [some (.ref a), some (.ref b), y2])
            ⟨rfl, rfl, _, rfl⟩ ?_ ?_⟩
          · rintro i σ H' hi ⟨rfl, ht, y2, rfl⟩
            have hi' : i < ys.length := by omega
            have iy : ys[i]? = some ys[i] := List.getElem?_eq_getElem hi'
            have ix : xs[i]? = some (xs[i]'(by omega)) := List.getElem?_eq_getElem (by omega)
            obtain ⟨du, hdu, ru⟩ := rx'.get ix
            obtain ⟨dt, hdt, rt⟩ := ry'.get iy
            have mt : dt ∈ ts := List.mem_of_getElem? hdt
            have ez : (0 : Int) + (i : Nat) = ((i : Nat) : Int) := by omega
            have ax : atI xs ((0 : Int) + (i : Nat)) = some (xs[i]'(by omega)) := by rw [ez]; exact atI_nat ix
            have ay : atI ys ((0 : Int) + (i : Nat)) = some ys[i] := by rw [ez]; exact atI_nat iy
            have z1 := dep_mem mt
            have z2 := sz_mem mt
            have z3 : deps ts < n + 1 := hdp
            have z4 : szs ts + 1 + 0 ≤ 1000000 := hsz
            refine ⟨_, rfl, _, rfl, a, xs, _, _, rfl, rfl, hx.sq, ax, _, rfl, _, rfl, b, ys, _, _, rfl, rfl, hy.sq, ay, _, _, du, dt, rfl, ru, rt, noL_mem hnl mt, by omega, by show sz dt + 0 ≤ 1000000; omega, fun r hr => ⟨_, rfl, ?_⟩⟩
            cases r with
            | true =>
              refine iteF ⟨rfl, ?_, _, rfl⟩
              rw [List.take_add_one, List.take_add_one, hdu, hdt, ht, hr.mp rfl]
            | false =>
              refine iteT (q false ⟨fun z => (nomatch z), fun z => ?_⟩)
              cases z
              rw [hdu] at hdt
              cases hdt
              exact hr.mpr rfl
          · rintro σ H' ⟨rfl, ht, y2, rfl⟩
            refine q true ⟨fun _ => ?_, fun _ => rfl⟩
            have e1 : us.take ((ys.length : Nat) : Int).toNat = us := List.take_of_length_le (by omega)
            have e2 : ts.take ((ys.length : Nat) : Int).toNat = ts := List.take_of_length_le (by omega)
            rw [← e1, ← e2, ht]
    | «at» v =>
      obtain ⟨rfl, hf⟩ := ry.inva
      refine iteF ?_
      refine ⟨_, rfl, rfl, _, rfl, ite2 (fun c => ?_) (fun c => ?_)⟩
      · have ev : y = .non := of_decide_eq_true c
        subst ev
        refine ⟨_, rfl, rfl, ?_⟩
        refine q _ ⟨fun z => ?_, fun z => ?_⟩
        · have ex : x = .non := of_decide_eq_true z
          subst ex
          cases rx
          rfl
        · subst z
          obtain ⟨rfl, _⟩ := rx.inva
          exact decide_eq_true rfl
      have hv : y ≠ .non := fun z => c (decide_eq_true z)
      refine ⟨y, rfl, _, _, _, _, _, rfl, .ty _, rep_ty ry, kit_ty (kit_bool _), ⟨_, rfl, ?_⟩⟩
      cases y with
      | non => exact absurd rfl hv
      | byt _ => cases hf
      | flt _ => cases hf
      | ref _ => cases hf
      | ty _ => cases hf
      | bl b =>
        refine iteT ⟨x, rfl, _, _, _, _, _, rfl, .ty _, rep_ty rx, kit_ty (kit_bool _), ⟨_, rfl, ?_⟩⟩
        cases d with
        | tup _ => exact iteF (q false ⟨fun z => (nomatch z), fun z => (nomatch z)⟩)
        | lst => exact iteF (q false ⟨fun z => (nomatch z), fun z => (nomatch z)⟩)
        | «at» v =>
          obtain ⟨rfl, _⟩ := rx.inva
          cases x with
          | bl b2 =>
            refine iteT ⟨_, rfl, _, rfl, rfl, q _ ⟨fun z => ?_, fun z => ?_⟩⟩
            · rw [of_decide_eq_true z]
            · cases z
              exact decide_eq_true rfl
          | _ => exact iteF (q false ⟨fun z => (nomatch z), fun z => (nomatch z)⟩)
      | int i =>
        refine iteF ⟨_, rfl, _, _, _, _, _, rfl, .ty _, rep_ty ry, kit_ty (kit_int _), ⟨_, rfl, iteT ⟨x, rfl, _, _, _, _, _, rfl, .ty _, rep_ty rx, kit_ty (kit_int _), ⟨_, rfl, ?_⟩⟩⟩⟩
        cases d with
        | tup _ => exact iteF (q false ⟨fun z => (nomatch z), fun z => (nomatch z)⟩)
        | lst => exact iteF (q false ⟨fun z => (nomatch z), fun z => (nomatch z)⟩)
        | «at» v =>
          obtain ⟨rfl, _⟩ := rx.inva
          cases x with
          | bl b2 => exact iteT ⟨_, rfl, _, _, _, _, _, rfl, .ty _, rep_ty rx, kit_ty (kit_bool _), ⟨_, rfl, ⟨_, rfl, iteF (q false ⟨fun z => (nomatch z), fun z => (nomatch z)⟩)⟩⟩⟩
          | int i2 =>
            refine iteT ⟨_, rfl, _, _, _, _, _, rfl, .ty _, rep_ty rx, kit_ty (kit_bool _), ⟨_, rfl, ⟨_, rfl, iteT ?_⟩⟩⟩
            refine ⟨_, rfl, _, rfl, rfl, q _ ⟨fun z => ?_, fun z => ?_⟩⟩
            · rw [of_decide_eq_true z]
            · cases z
              exact decide_eq_true rfl
          | _ => exact iteF (q false ⟨fun z => (nomatch z), fun z => (nomatch z)⟩)
      | str z =>
        refine iteF ⟨_, rfl, _, _, _, _, _, rfl, .ty _, rep_ty ry, kit_ty (kit_int _), ⟨_, rfl, iteF ⟨x, rfl, _, _, _, _, _, rfl, .ty _, rep_ty rx, kit_ty (kit_str _), ⟨_, rfl, ?_⟩⟩⟩⟩
        cases d with
        | tup _ => exact iteF (q false ⟨fun z => (nomatch z), fun z => (nomatch z)⟩)
        | lst => exact iteF (q false ⟨fun z => (nomatch z), fun z => (nomatch z)⟩)
        | «at» v =>
          obtain ⟨rfl, _⟩ := rx.inva
          cases x with
          | str b2 =>
            refine iteT ⟨_, rfl, _, rfl, rfl, q _ ⟨fun z => ?_, fun z => ?_⟩⟩
            · rw [of_decide_eq_true z]
            · cases z
              exact decide_eq_true rfl
          | byt _ => cases rx with | «at» hh => cases hh
          | flt _ => cases rx with | «at» hh => cases hh
          | ref _ => cases rx with | «at» hh => cases hh
          | ty _ => cases rx with | «at» hh => cases hh
          | _ => exact iteF (q false ⟨fun z => (nomatch z), fun z => (nomatch z)⟩)
end
end Pk

set_option maxRecDepth 100000
set_option maxHeartbeats 1000000
namespace Pk
open PySem PySem.Spec PyProof.Rows L2
theorem walk_enumT {K : PySem.W.Frag} {a : Addr} {xs : List V} : Walk (Itet K a) xs.length (fun H => SqT K H a xs) (YPair (fun i => some (.int (i : Nat))) (fun i => xs[i]?)) := by
  refine ⟨fun i H hi q => ⟨xs, xs[i], q, List.getElem?_eq_getElem hi⟩, fun H q => ⟨xs, q, Nat.le_refl _⟩, fun i H v H' hi q y => ?_⟩
  obtain ⟨T, x, h1, h2, h3, h4⟩ := y
  exact ⟨T, .int (i : Nat), x, h1, h2, h3, rfl, h4 xs q⟩
def nats (ns : List Nat) : List V := ns.map fun k => V.int (k : Nat)
theorem nats_len (ns : List Nat) : (nats ns).length = ns.length := List.length_map _
theorem nats_snoc (ns : List Nat) (k : Nat) : nats ns ++ [V.int (k : Nat)] = nats (ns ++ [k]) := by
  unfold nats
  rw [List.map_append]
  rfl
theorem reps_nats {K : PySem.W.Frag} {H : Hp} : ∀ ns : List Nat, Reps K H (nats ns) (ns.map numD')
  | [] => .nil
  | k :: r => .cons (.at rfl) (reps_nats r)
theorem rep_nats_inv {K : PySem.W.Frag} {H : Hp} : ∀ {ns : List Nat} {xs : List V}, Reps K H xs (ns.map numD') → xs = nats ns
  | [], xs, r => by
    cases r
    rfl
  | k :: ns, xs, r => by
    cases r with
    | cons r0 rs =>
      obtain ⟨e, _⟩ := Rep.inva r0
      rw [e, rep_nats_inv rs]
      rfl
section
variable {K : PySem.W.Frag} {H : Hp}
/-- a step as it stands -/
theorem step_inv {v : V} {s : Stp} (r : Rep K H v (stD s)) : ∃ a m b, v = .ref a ∧ TupAt K H a [m, b] ∧ Rep K H m (mvD s.mv) ∧ Rep K H b (bkD s.back) := by
  obtain ⟨a, xs, rfl, h, rs⟩ := Rep.inv (ts := [mvD s.mv, bkD s.back]) r
  cases rs with
  | @cons m _ _ _ r0 rs =>
    cases rs with
    | @cons b _ _ _ r1 rs =>
      cases rs
      exact ⟨a, m, b, rfl, h, r0, r1⟩
theorem ask_inv {m : V} {p : List Nat} (r : Rep K H m (mvD (.ask p))) : ∃ a q, m = .ref a ∧ TupAt K H a [.str "ask", q] ∧ Rep K H q (plD p) := by
  obtain ⟨a, xs, rfl, h, rs⟩ := Rep.inv (ts := [.at (.str "ask"), plD p]) r
  cases rs with
  | cons r0 rs =>
    cases rs with
    | cons r1 rs =>
      cases rs
      obtain ⟨rfl, _⟩ := r0.inva
      exact ⟨a, _, rfl, h, r1⟩
theorem say_inv {m : V} {v : Nat} (r : Rep K H m (mvD (.say v))) : ∃ a, m = .ref a ∧ TupAt K H a [.str "say", .int (v : Nat)] := by
  obtain ⟨a, xs, rfl, h, rs⟩ := Rep.inv (ts := [.at (.str "say"), numD' v]) r
  cases rs with
  | cons r0 rs =>
    cases rs with
    | cons r1 rs =>
      cases rs
      obtain ⟨rfl, _⟩ := r0.inva
      obtain ⟨rfl, _⟩ := Rep.inva r1
      exact ⟨a, rfl, h⟩
theorem play_inv {v : V} {pl : List Stp} (r : Rep K H v (playD pl)) : ∃ a xs, v = .ref a ∧ TupAt K H a xs ∧ Reps K H xs (pl.map stD) ∧ xs.length = pl.length := by
  obtain ⟨a, xs, e, h, rs⟩ := Rep.inv (ts := pl.map stD) r
  have := rs.length
  rw [List.length_map] at this
  exact ⟨a, xs, e, h, rs, this⟩
theorem play_at {xs : List V} {pl : List Stp} {n : Nat} {s : Stp} (r : Reps K H xs (pl.map stD)) (e : pl[n]? = some s) : ∃ x, xs[n]? = some x ∧ Rep K H x (stD s) := by
  have e2 : (pl.map stD)[n]? = some (stD s) := by rw [List.getElem?_map, e]; rfl
  exact r.getD e2
end
section
variable {P : Program} {w : World} {K : PySem.W.Frag} {mg : Str → Option Value} {base : Heap}
/-! ### _note_open -/
def spNO (K : PySem.W.Frag) : Sp := fun vs H Q _ => ∃ (l : Addr) (ns : List Nat) (n : Nat) (v : V) (s : Stp), vs = [.ref l, .int (n : Nat), v] ∧ H l = some (.lst (nats ns)) ∧ Rep K H v (stD s) ∧ ns.Pairwise (· < ·) ∧ ns.length ≤ 1000 ∧
  (∀ u, s.mv = .say u → ∃ j, s.back = some j ∧ j ∈ ns) ∧ Q .non (upd H l (.lst (nats (opnS ns n s))))
theorem erase_eq {ns : List Nat} (h : ns.Pairwise (· < ·)) {j : Nat} (hj : j ∈ ns) : ∃ i, ns[i]? = some j ∧ (∀ m, m < i → ns[m]? ≠ some j) ∧ ns.eraseIdx i = ns.filter fun k => decide (some k ≠ some j) := by
  induction ns with
  | nil => cases hj
  | cons a r ih =>
    have h2 := List.pairwise_cons.mp h
    by_cases e : a = j
    · subst e
      refine ⟨0, rfl, fun m hm => absurd hm (Nat.not_lt_zero m), ?_⟩
      show r = _
      rw [List.filter_cons_of_neg (by simp), List.filter_eq_self.mpr]
      intro k hk
      have := h2.1 k hk
      refine decide_eq_true fun z => ?_
      have := Option.some.inj z
      omega
    · obtain ⟨i, i1, i2, i3⟩ := ih h2.2 ((List.mem_cons.mp hj).resolve_left fun z => e z.symm)
      refine ⟨i + 1, i1, fun m hm => ?_, ?_⟩
      · cases m with
        | zero => exact fun z => e (Option.some.inj z)
        | succ m => exact i2 m (by omega)
      · show a :: r.eraseIdx i = _
        have z : decide (some a ≠ some j) = true := decide_eq_true fun z => e (Option.some.inj z)
        rw [i3, List.filter_cons]
        exact (if_pos z).symm
theorem nats_erase : ∀ (ns : List Nat) (i : Nat), (((ns.map fun k : Nat => ((k : Nat) : Int))).eraseIdx i).map V.int = nats (ns.eraseIdx i)
  | [], _ => rfl
  | a :: r, 0 => by
    show (r.map fun k : Nat => ((k : Nat) : Int)).map V.int = nats r
    rw [List.map_map]
    rfl
  | a :: r, i + 1 => by
    have := nats_erase r i
    show V.int _ :: _ = V.int _ :: _
    rw [this]
    rfl
theorem nats_int (ns : List Nat) : (ns.map fun k : Nat => ((k : Nat) : Int)).map V.int = nats ns := by
  rw [List.map_map]
  rfl
theorem ok_no {f : Addr} {fd : FuncData} (D__note_open : Df K mg "_note_open" s__note_open ["waiting", "number", "step"] f fd) (B : Bt mg) : FnOk P w K mg base CX0 1 f fd ["waiting", "number", "step"] (spNO K) := by
  refine D__note_open.ok c__note_open (fun vs H Q E h => ?_) (fun cdv A outer s H vs Q E hr h => ?_)
  · obtain ⟨l, ns, n, v, s, rfl, _⟩ := h
    rfl
  obtain ⟨l, ns, n, v, s, rfl, hl, rv, hup, hlen, hsay, q⟩ := h
  have nd := c__note_open.nd
  refine ⟨_, (pss_cons (ps_asg (pv 2) (pg_tup rfl (pgs_cons (pg_name (i := 3) nd rfl (Or.inl rfl)) (pgs_cons (pg_name (i := 4) nd rfl (Or.inl rfl)) pgs_nil))))
  (pss_one (ps_if (pt_cmpR op_eq (pe_ix ix_tup (pv 3) pe_int (fun _ _ => rfl)) pe_str (nomark _)) (pss_one (ps_expr (pe_bm PySem.F.plainAttrs_list PySem.F.slot_list_append PySem.F.type_list_append mt_append (pv 0) (pa_cons (pv 1) pa_nil)))) (pss_one (ps_expr (pe_bm PySem.F.plainAttrs_list PySem.F.slot_list_remove PySem.F.type_list_remove mt_remove (pv 0) (pa_cons (pv 4) pa_nil))))))), ?_⟩
  obtain ⟨a, m, b, rfl, ha, rm, rb⟩ := step_inv rv
  refine ⟨_, rfl, a, _, rfl, ha.sq, rfl, _, _, rfl, _, _, rfl, rfl, ?_⟩
  obtain ⟨mv, bck⟩ := s
  cases mv with
  | ask p =>
    obtain ⟨a2, x, rfl, ha2, _⟩ := ask_inv rm
    refine ⟨_, rfl, a2, _, 0, _, rfl, rfl, ha2.sq, atI_nat (j := 0) rfl, rfl, _, rfl, iteT ⟨_, rfl, .inl ⟨rfl, _, SqL.of hl⟩, _, rfl, l, _, _, rfl, rfl, hl, small6 (by rw [nats_len]; omega), ?_⟩⟩
    rw [nats_snoc]
    exact q
  | say u =>
    obtain ⟨a2, rfl, ha2⟩ := say_inv rm
    obtain ⟨j, ej, hj⟩ := hsay u rfl
    have ej' : bck = some j := ej
    subst ej'
    obtain ⟨rfl, _⟩ := Rep.inva rb
    obtain ⟨i, i1, i2, i3⟩ := erase_eq hup hj
    refine ⟨_, rfl, a2, _, 0, _, rfl, rfl, ha2.sq, atI_nat (j := 0) rfl, rfl, _, rfl, iteF ⟨_, rfl, .inl ⟨rfl, _, SqL.of hl⟩, _, rfl, l, ns.map (fun k : Nat => ((k : Nat) : Int)), (j : Int), i, rfl, rfl, ?_, ?_, fun m hm => ?_, ?_⟩⟩
    · rw [nats_int]
      exact hl
    · rw [List.getElem?_map, i1]
      rfl
    · rw [List.getElem?_map]
      cases e : ns[m]? with
      | none => exact fun z => by cases z
      | some k =>
        intro z
        have z2 : (k : Int) = (j : Int) := Option.some.inj z
        refine i2 m hm ?_
        rw [e, show k = j by omega]
    · rw [nats_erase, i3]
      exact q
/-! ### open_asks -/
/-- each say closes what is open -/
def OpOk (pl : List Stp) : Prop := ∀ n u b, pl[n]? = some ⟨.say u, b⟩ → ∃ j, b = some j ∧ j ∈ opens pl n
def spOA (K : PySem.W.Frag) : Sp := fun vs H Q _ => ∃ (v : V) (pl : List Stp), vs = [v] ∧ Rep K H v (playD pl) ∧ OpOk pl ∧ pl.length ≤ 500 ∧ ∀ z H', Same H H' → Rep K H' z (plD (opens pl pl.length)) → Q z H'
theorem opens_len (pl : List Stp) (m : Nat) : (opens pl m).length ≤ m := by
  induction m with
  | zero => exact Nat.le_refl 0
  | succ m ih =>
    cases hs : pl[m]? with
    | none =>
      have e : opens pl (m + 1) = opens pl m := by
        show (match pl[m]? with | some s => opnS (opens pl m) m s | none => opens pl m) = _
        rw [hs]
      rw [e]
      omega
    | some s =>
      rw [opens_succ hs]
      unfold opnS
      split
      · rw [List.length_append, List.length_singleton]
        omega
      · have := List.length_filter_le (fun j => decide (some j ≠ s.back)) (opens pl m)
        omega
theorem ok_oa {f g : Addr} {fd gd : FuncData} (D_open_asks : Df K mg "open_asks" s_open_asks ["play"] f fd) (D__note_open : Df K mg "_note_open" s__note_open ["waiting", "number", "step"] g gd) (B : Bt mg) : FnOk P w K mg base CX0 2 f fd ["play"] (spOA K) := by
  have G__note_open : FnOk P w K mg base CX0 1 g gd ["waiting", "number", "step"] (spNO K) := ok_no D__note_open B
  refine D_open_asks.ok c_open_asks (fun vs H Q E h => ?_) (fun cdv A outer s H vs Q E hr h => ?_)
  · obtain ⟨v, pl, rfl, _⟩ := h
    rfl
  obtain ⟨v, pl, rfl, rv, hop, hlen, q⟩ := h
  have nd := c_open_asks.nd
  refine ⟨_, (pss_cons (ps_set (i := 1) nd rfl (Or.inl rfl) (pe_lst pa_nil))
  (pss_cons (ps_for PassesOwn.never rfl (pi_enumT (by rfl) B.b_enumerate (pa_cons (pv 0) pa_nil)) (pg_tup rfl (pgs_cons (pg_name (i := 2) nd rfl (Or.inl rfl)) (pgs_cons (pg_name (i := 3) nd rfl (Or.inl rfl)) pgs_nil))) (pss_one (ps_expr (pe_call G__note_open (hr.mono (by first | decide | omega)) (by rfl) D__note_open.m D__note_open.kp D__note_open.b .nil pass0 (pa_cons (pv 1) (pa_cons (pv 2) (pa_cons (pv 3) pa_nil)))))))
  (pss_one (ps_ret (pe_callTy call_tuple_of (by rfl) B.b_tuple (by decide +kernel) (pa_cons (pv 1) pa_nil)))))), ?_⟩
  obtain ⟨a, xs, rfl, ha, rxs, lx⟩ := play_inv rv
  refine ⟨(by show 0 ≤ sizeLine; decide), fun l nl => ?_⟩
  refine ⟨_, rfl, a, xs, rfl, (ha.same (same_new nl _)).sq, for_it walk_enumT (fun i σ H' => Nw l H H' (nats (opens pl i)) ∧ ∃ (y2 y3 : Option V), σ = [some (.ref a), some (.ref l), y2, y3])
    ⟨⟨same_new nl _, nl, upd_same⟩, none, none, rfl⟩ (fun i σ H' _ h => (ha.same h.1.s).sq) ?_ ?_⟩
  · rintro i x σ H1 H1' hi ⟨hn, y2, y3, rfl⟩ ⟨T, x1, y1, rfl, nT, rfl, hx1, hy1⟩
    have hx1' : V.int (i : Nat) = x1 := Option.some.inj hx1
    subst hx1'
    have hip : i < pl.length := by omega
    obtain ⟨y1', hy', ry⟩ := play_at rxs (List.getElem?_eq_getElem hip)
    have hy2 : xs[i]? = some y1 := hy1
    rw [hy2] at hy'
    cases hy'
    have sT := same_new nT (.tup [.int (i : Nat), y1])
    have hn2 := hn.step sT
    refine ⟨T, _, rfl, SqT.of upd_same, rfl, _, _, rfl, _, _, rfl, rfl, ?_⟩
    have hol := opens_len pl i
    refine ⟨_, rfl, _, rfl, _, rfl, l, opens pl i, i, y1, pl[i], rfl, hn2.h, ry.mono (kx_same hn2.s), opens_up pl i, by omega, fun u hu => ?_, ?_⟩
    · have e : pl[i]? = some ⟨.say u, pl[i].back⟩ := by
        rw [List.getElem?_eq_getElem hip, ← hu]
      obtain ⟨j, e1, e2⟩ := hop i u _ e
      exact ⟨j, e1, e2⟩
    · rw [← opens_succ (List.getElem?_eq_getElem hip)]
      exact ⟨hn2.put _, _, _, rfl⟩
  · rintro σ H1 ⟨hn, y2, y3, rfl⟩
    refine ⟨_, rfl, l, _, rfl, .inl ⟨SqL.of hn.h, fun t nt => ?_⟩⟩
    have s1 := hn.s.trans (same_new nt (.tup (nats (opens pl xs.length))))
    rw [lx] at *
    exact q _ _ s1 (.tup' upd_same (reps_nats _))
end
end Pk

set_option maxRecDepth 100000
set_option maxHeartbeats 1000000
namespace Pk
open PySem PySem.Spec PyProof.Rows L2
section
variable {P : Program} {w : World} {K : PySem.W.Frag} {mg : Str → Option Value} {base : Heap}
/-! ### _sight_behind -/
def spSB (K : PySem.W.Frag) : Sp := fun vs H Q _ => ∃ (v : V) (pl : List Stp), vs = [v] ∧ Rep K H v (playD pl) ∧ WB pl ∧ 0 < pl.length ∧ pl.length ≤ 500 ∧ ∀ z H', Same H H' → Rep K H' z (plD (sight pl (pl.length - 1))) → Q z H'
/-- the sight as far as it is not yet found -/
def rest (pl : List Stp) (n : Int) : List Nat := if n < 0 then [] else sight pl n.toNat
theorem rest_step {pl : List Stp} (h : WB pl) {n : Nat} (h0 : 0 < n) (hn : n < pl.length) : sight pl n = rest pl ((bk pl n : Int) - 1) ++ [bk pl n, n] := by
  unfold rest
  by_cases hb : bk pl n = 0
  · rw [sight_one h0 hb, hb, if_pos (by decide)]
    rfl
  · rw [sight_more h h0 hn hb, if_neg (by omega)]
    rw [show ((bk pl n : Int) - 1).toNat = bk pl n - 1 by omega]
theorem nats_rev (ns : List Nat) : (nats ns).reverse = nats ns.reverse := by
  unfold nats
  rw [List.map_reverse]
theorem WB.at {pl : List Stp} (h : WB pl) {n : Nat} (h0 : 0 < n) (hn : n < pl.length) : ∃ m, pl[n]? = some ⟨m, some (bk pl n)⟩ := by
  obtain ⟨j, e, hj⟩ := h.later n _ h0 (List.getElem?_eq_getElem hn)
  refine ⟨pl[n].mv, ?_⟩
  have e2 : bk pl n = j := by
    unfold bk
    rw [List.getElem?_eq_getElem hn]
    show (pl[n].back).getD 0 = j
    rw [e]
    rfl
  rw [List.getElem?_eq_getElem hn, e2, ← e]
theorem ok_sb {f : Addr} {fd : FuncData} (D__sight_behind : Df K mg "_sight_behind" s__sight_behind ["play"] f fd) (B : Bt mg) : FnOk P w K mg base CX0 1 f fd ["play"] (spSB K) := by
  refine D__sight_behind.ok c__sight_behind (fun vs H Q E h => ?_) (fun cdv A outer s H vs Q E hr h => ?_)
  · obtain ⟨v, pl, rfl, _⟩ := h
    rfl
  obtain ⟨v, pl, rfl, rv, hwb, hp, hlen, q⟩ := h
  have nd := c__sight_behind.nd
  refine ⟨_, (pss_cons (ps_set (i := 1) nd rfl (Or.inl rfl) (pe_lst pa_nil))
  (pss_cons (ps_set (i := 2) nd rfl (Or.inl rfl) (pe_op op_sub (pe_callB call_len_seq (by rfl) B.b_len PySem.boot_len (pa_cons (pv 0) pa_nil)) pe_int))
  (pss_cons (ps_while PassesOwn.never (pt_cmpR op_gt (pv 2) pe_int (nomark _)) (pss_cons (ps_set (i := 3) nd rfl (Or.inl rfl) (pe_ix ix_tup (pe_ix ix_tup (pv 0) (pv 2) (fun _ _ => rfl)) pe_int (fun _ _ => rfl)))
  (pss_cons (ps_expr (pe_bm PySem.F.plainAttrs_list PySem.F.slot_list_extend PySem.F.type_list_extend mt_extend (pv 1) (pa_cons (pe_lst (pa_cons (pv 2) (pa_cons (pv 3) pa_nil))) pa_nil)))
  (pss_one (ps_set (i := 2) nd rfl (Or.inl rfl) (pe_op op_sub (pv 3) pe_int))))))
  (pss_cons (ps_if (pt_cmpR op_eq (pv 2) pe_int (nomark _)) (pss_one (ps_expr (pe_bm PySem.F.plainAttrs_list PySem.F.slot_list_append PySem.F.type_list_append mt_append (pv 1) (pa_cons pe_int pa_nil)))) pss_nil)
  (pss_one (ps_ret (pe_callTy call_tuple_of (by rfl) B.b_tuple (by decide +kernel) (pa_cons (pe_revL (pv 1)) pa_nil)))))))), ?_⟩
  obtain ⟨a, xs, rfl, ha, rxs, lx⟩ := play_inv rv
  refine ⟨(by show 0 ≤ sizeLine; decide), fun l nl => ⟨_, rfl, a, xs, rfl, .inr (ha.same (same_new nl _)).sq, _, _, rfl, rfl, ?_⟩⟩
  obtain ⟨W, hW⟩ : ∃ W : Nat → L2.St → Hp → Prop, ∀ m σ H', W m σ H' ↔ (∃ (F : List Nat) (n : Int) (y3 : Option V), σ = [some (.ref a), some (.ref l), some (.int n), y3] ∧ Nw l H H' (nats F) ∧ sight pl (pl.length - 1) = rest pl n ++ F.reverse ∧ -1 ≤ n ∧ n < pl.length ∧ m = (n + 1).toNat ∧ F.length + m ≤ pl.length) := ⟨_, fun _ _ _ => Iff.rfl⟩
  refine ⟨W, ⟨pl.length, (hW _ _ _).mpr ⟨[], ((xs.length : Nat) : Int) - 1, none, rfl, ⟨same_new nl _, nl, upd_same⟩, ?_, by omega, by omega, by omega, by show 0 + pl.length ≤ pl.length; omega⟩⟩, ?_⟩
  · unfold rest
    rw [if_neg (by omega), show (((xs.length : Nat) : Int) - 1).toNat = pl.length - 1 by omega]
    exact (List.append_nil _).symm
  intro m σ H1 hw
  obtain ⟨F, n, y3, rfl, hn, hs, hn1, hn2, rfl, hF⟩ := (hW _ _ _).mp hw
  refine ⟨_, rfl, _, _, rfl, rfl, _, rfl, ite2 (fun z => ⟨fun σ' H' => ∃ m', m' < (n + 1).toNat ∧ W m' σ' H', fun _ _ h => h, ?_⟩) (fun z => ?_)⟩
  · have z' : (0 : Int) < n := of_decide_eq_true z
    obtain ⟨k, rfl⟩ : ∃ k : Nat, n = (k : Int) := ⟨n.toNat, by omega⟩
    have hk0 : 0 < k := by omega
    have hkl : k < pl.length := by omega
    obtain ⟨mv, ek⟩ := hwb.at hk0 hkl
    obtain ⟨x, hx, rx⟩ := play_at rxs ek
    obtain ⟨a2, m2, b2, rfl, ha2, rm2, rb2⟩ := step_inv rx
    obtain ⟨rfl, _⟩ := Rep.inva (w := V.int (bk pl k : Nat)) rb2
    refine ⟨_, rfl, _, rfl, a, xs, _, _, rfl, rfl, (ha.same hn.s).sq, atI_nat hx, a2, _, 1, _, rfl, rfl, (ha2.same hn.s).sq, atI_nat (j := 1) rfl, ?_⟩
    refine ⟨_, rfl, .inl ⟨rfl, _, SqL.of hn.h⟩, _, rfl, _, rfl, (by show 2 ≤ sizeLine; decide), fun l2 nl2 => ?_⟩
    have s2 := same_new nl2 (.lst [.int (k : Nat), .int (bk pl k : Nat)])
    have hn3 := hn.step s2
    refine ⟨l, l2, _, _, rfl, rfl, hn3.h, upd_same, small6' (by rw [nats_len]; show F.length + 2 ≤ 1000000; omega), ?_⟩
    have hn4 := hn3.put (nats F ++ [.int (k : Nat), .int (bk pl k : Nat)])
    have hb := hwb.bk_lt hk0 hkl
    refine ⟨_, rfl, _, _, rfl, rfl, ?_⟩
    have eF : nats F ++ [.int (k : Nat), .int (bk pl k : Nat)] = nats (F ++ [k, bk pl k]) := by
      unfold nats
      rw [List.map_append]
      rfl
    rw [eF] at hn4 ⊢
    refine ⟨_, ?_, (hW _ _ _).mpr ⟨F ++ [k, bk pl k], (bk pl k : Int) - 1, _, rfl, hn4, ?_, by omega, by omega, rfl, ?_⟩⟩
    · omega
    · rw [hs]
      have e1 : rest pl (k : Int) = sight pl k := by
        unfold rest
        rw [if_neg (by omega)]
        rfl
      rw [e1, rest_step hwb hk0 hkl, List.reverse_append, List.append_assoc]
      rfl
    · rw [List.length_append]
      show F.length + 2 + _ ≤ _
      omega
  · have z' : ¬ (0 : Int) < n := fun e => z (decide_eq_true e)
    have fin : ∀ (G : List Nat) (H2 : Hp), Nw l H H2 (nats G) → sight pl (pl.length - 1) = G.reverse → G.length ≤ pl.length → ∃ a1 ys, V.ref l = .ref a1 ∧ SqL K H2 a1 ys ∧ ∀ p, H2 p = none → ∃ p2 zs, [V.ref p] = [.ref p2] ∧ ((SqL K (upd H2 p (.lst ys.reverse)) p2 zs ∧ ∀ t, (upd H2 p (.lst ys.reverse)) t = none → Q (.ref t) (upd (upd H2 p (.lst ys.reverse)) t (.tup zs))) ∨ (SqT K (upd H2 p (.lst ys.reverse)) p2 zs ∧ Q (.ref p2) (upd H2 p (.lst ys.reverse)))) := by
      intro G H2 hG eG lG
      refine ⟨l, _, rfl, SqL.of hG.h, fun p np => ⟨p, _, rfl, .inl ⟨SqL.of upd_same, fun t nt => ?_⟩⟩⟩
      rw [nats_rev, ← eG] at *
      have s1 := hG.s.trans ((same_new np (.lst (nats (sight pl (pl.length - 1))))).trans (same_new nt (.tup (nats (sight pl (pl.length - 1))))))
      exact q _ _ s1 (.tup' upd_same (reps_nats _))
    refine ⟨_, rfl, rfl, _, rfl, ite2 (fun y => ?_) (fun y => ?_)⟩
    · have y' : n = 0 := V.int.inj (of_decide_eq_true y)
      subst y'
      refine ⟨_, rfl, .inl ⟨rfl, _, SqL.of hn.h⟩, l, _, _, rfl, rfl, hn.h, small6 (by rw [nats_len]; omega), ?_⟩
      have e0 : V.int 0 = V.int ((0 : Nat) : Int) := rfl
      rw [e0, nats_snoc]
      have hn3 := hn.put (nats (F ++ [0]))
      refine ⟨_, rfl, fin (F ++ [0]) _ hn3 ?_ ?_⟩
      · rw [hs, List.reverse_append]
        rfl
      · rw [List.length_append, List.length_singleton]
        have : ((0 : Int) + 1).toNat = 1 := rfl
        omega
    · have y' : n < 0 := by
        have : n ≠ 0 := fun e => y (decide_eq_true (by rw [e]))
        omega
      refine ⟨_, rfl, fin F H1 hn ?_ (by omega)⟩
      rw [hs]
      unfold rest
      rw [if_pos y']
      rfl
end
end Pk

set_option maxRecDepth 100000
set_option maxHeartbeats 1000000
namespace Pk
open PySem PySem.Spec PyProof.Rows L2
section
variable {X : Cx}
def rNeNil (K : PySem.W.Frag) : R2 := fun x y H Q => ∃ a b xs, x = .ref a ∧ y = .ref b ∧ SqL K H a xs ∧ SqL K H b [] ∧ Q (.bl (!xs.isEmpty)) H
theorem op_neNil (hu : X.A.units + 64 < cLine) : OpR X (compareOp .NotEq) (rNeNil X.K) := by
  intro pins s σ H x y v u Q I rx ry h
  obtain ⟨a, b, xs, rfl, rfl, ha, hb, q⟩ := h
  cases rx
  cases ry
  obtain ⟨its, r1, p1, _⟩ := I.list ha
  obtain ⟨its2, r2, p2, _⟩ := I.list hb
  cases r2
  have hu' : X.A.units < cLine := by omega
  cases r1 with
  | nil => exact SeqAt.RcNeAt.lists (e := fun _ => true) p1.isList p2.isList rfl hu' (fun j h1 h2 => by simp at h1) _ _ _ _ ⟨.bl false, H, I, rfl, q⟩
  | cons r t => exact SeqAt.RcNeAt.lists_lengths p1.isList p2.isList rfl hu' _ _ _ _ ⟨.bl true, H, I, rfl, q⟩
end
/-- what follows a statement, shown once for all the ways to it -/
theorem seq_rest {t u : TS} {D : Ends} {σ : L2.St} {H : Hp} (F : L2.St → Hp → Prop) (main : (∀ σ' H', F σ' H' → u D σ' H') → tSeq t u D σ H) (rest : ∀ σ' H', F σ' H' → u D σ' H') : tSeq t u D σ H := main rest
section
variable {X : Cx}
def rEqNilT (K : PySem.W.Frag) : R2 := fun x y H Q => ∃ a b xs, x = .ref a ∧ y = .ref b ∧ SqT K H a xs ∧ SqT K H b [] ∧ Q (.bl xs.isEmpty) H
theorem tup_isTuple {h : Heap} {a : Addr} {items : Array Value} (x : IsTup h a items) : h.IsTuple a items := x
theorem op_eqNilT (hu : X.A.units + 64 < cLine) : OpR X (compareOp .Eq) (rEqNilT X.K) := by
  intro pins s σ H x y v u Q I rx ry h
  obtain ⟨a, b, xs, rfl, rfl, ha, hb, q⟩ := h
  cases rx
  cases ry
  obtain ⟨its, r1, p1, _⟩ := I.tuple ha
  obtain ⟨its2, r2, p2, _⟩ := I.tuple hb
  cases r2
  have hu' : X.A.units < cLine := by omega
  refine SeqAt.eq_tupleAt (e := fun _ => true) p1 p2 hu' (fun j h1 h2 => by simp at h2) ⟨.bl xs.isEmpty, H, I, ?_, q⟩
  cases r1 <;> rfl
def rNeNilT (K : PySem.W.Frag) : R2 := fun x y H Q => ∃ a b xs, x = .ref a ∧ y = .ref b ∧ SqT K H a xs ∧ SqT K H b [] ∧ Q (.bl (!xs.isEmpty)) H
theorem op_neNilT (hu : X.A.units + 64 < cLine) : OpR X (compareOp .NotEq) (rNeNilT X.K) := by
  intro pins s σ H x y v u Q I rx ry h
  obtain ⟨a, b, xs, rfl, rfl, ha, hb, q⟩ := h
  cases rx
  cases ry
  obtain ⟨its, r1, p1, _⟩ := I.tuple ha
  obtain ⟨its2, r2, p2, _⟩ := I.tuple hb
  cases r2
  have hu' : X.A.units < cLine := by omega
  refine SeqAt.RcNeAt.tuples (e := fun _ => true) p1 p2 hu' (fun j h1 h2 => by simp at h2) _ _ _ _ ⟨.bl (!xs.isEmpty), H, I, ?_, q⟩
  cases r1 <;> rfl
end
section
variable {P : Program} {w : World} {K : PySem.W.Frag} {mg : Str → Option Value} {base : Heap}
theorem at_one1 {xs : List V} {v : V} (h : xs[1]? = some v) : atI xs (1 : Int) = some v := atI_nat (j := 1) h
/-! ### the kind at a place -/
def atD : D → List Nat → Option D
  | d, [] => some d
  | .tup ts, k :: p => match ts[k]? with
    | some t => atD t p
    | none => none
  | _, _ :: _ => none
theorem atD_cons {d e : D} {k : Nat} {p : List Nat} (h : atD d (k :: p) = some e) : ∃ ts t, d = .tup ts ∧ ts[k]? = some t ∧ atD t p = some e := by
  cases d with
  | «at» _ => cases h
  | lst => cases h
  | tup ts =>
    have h' : (match ts[k]? with | some t => atD t p | none => none) = some e := h
    cases ht : ts[k]? with
    | none =>
      rw [ht] at h'
      cases h'
    | some t =>
      rw [ht] at h'
      exact ⟨ts, t, rfl, ht, h'⟩
theorem atD_snoc : ∀ (p : List Nat) (d : D) (ts : List D) (k : Nat) (t : D), atD d p = some (.tup ts) → ts[k]? = some t → atD d (p ++ [k]) = some t
  | [], d, ts, k, t, h, hk => by
    have e : d = .tup ts := by
      cases d <;> exact Option.some.inj h
    subst e
    show (match ts[k]? with | some t => atD t [] | none => none) = some t
    rw [hk]
    cases t <;> rfl
  | j :: p, d, ts, k, t, h, hk => by
    obtain ⟨us, u, rfl, hu, h'⟩ := atD_cons h
    show (match us[j]? with | some t => atD t (p ++ [k]) | none => none) = some t
    rw [hu]
    exact atD_snoc p u ts k t h' hk
theorem atD_kind : ∀ (p : List Nat) (d e : D), isK d = true → atD d p = some e → isK e = true ∧ sz e ≤ sz d
  | [], d, e, hk, h => by
    have e0 : d = e := by cases d <;> exact Option.some.inj h
    subst e0
    exact ⟨hk, Nat.le_refl _⟩
  | k :: p, d, e, hk, h => by
    obtain ⟨ts, t, rfl, ht, h'⟩ := atD_cons h
    have m := List.mem_of_getElem? ht
    obtain ⟨i1, i2⟩ := atD_kind p t e (isK_mem hk m) h'
    have := sz_mem m
    exact ⟨i1, by show sz e ≤ szs ts + 1; omega⟩
def spAt (K : PySem.W.Frag) : Sp := fun vs H Q _ => ∃ (v x : V) (d e : D) (p : List Nat), vs = [v, x] ∧ Rep K H v d ∧ isK d = true ∧ Rep K H x (plD p) ∧ atD d p = some e ∧ ∀ z, Rep K H z e → Q z H
theorem ok_lat {f : Addr} {fd : FuncData} (D__law_at : Df K mg "_law_at" s__law_at ["kind", "place"] f fd) (B : Bt mg) : FnOk P w K mg base CX0 1 f fd ["kind", "place"] (spAt K) := by
  refine D__law_at.ok c__law_at (fun vs H Q E h => ?_) (fun cdv A outer s H vs Q E hr h => ?_)
  · obtain ⟨v, x, d, e, p, rfl, _⟩ := h
    rfl
  obtain ⟨v, x, d, e, p, rfl, rv, hk, rx, he, q⟩ := h
  have nd := c__law_at.nd
  refine ⟨_, (pss_cons (ps_for PassesOwn.never rfl (pi_tup (pv 1)) (pg_name (i := 2) nd rfl (Or.inl rfl)) (pss_cons (ps_if (pt_cmpR op_ge (pv 2) (pe_callB call_len_seq (by rfl) B.b_len PySem.boot_len (pa_cons (pv 0) pa_nil)) (nomark _)) (pss_one (ps_ret pe_non)) pss_nil)
  (pss_one (ps_set (i := 0) nd rfl (Or.inl rfl) (pe_ix ix_tup (pv 0) (pv 2) (fun _ _ => rfl))))))
  (pss_one (ps_ret (pv 0)))), ?_⟩
  obtain ⟨a, xs, rfl, hx, rxs⟩ := Rep.inv (ts := p.map numD') rx
  have ex := rep_nats_inv rxs
  subst ex
  refine ⟨_, rfl, a, rfl, ⟨_, hx.sq⟩, for_tup (K := K) (a := a) (xs := nats p) (fun i σ H' => H' = H ∧ ∃ (v' : V) (d' : D) (y2 : Option V), σ = [some v', some (.ref a), y2] ∧ Rep K H v' d' ∧ isK d' = true ∧ atD d' (p.drop i) = some e)
    ⟨rfl, v, d, none, rfl, rv, hk, he⟩ (fun i σ H' _ h => by rw [h.1]; exact hx.sq) ?_ ?_⟩
  · rintro i x σ H' hi ⟨rfl, v', d', y2, rfl, rv', hk', e'⟩
    have hil : i < p.length := by
      have := (List.getElem?_eq_some_iff.mp hi).1
      rw [nats_len] at this
      exact this
    have hxi : x = V.int (p[i] : Nat) := by
      unfold nats at hi
      rw [List.getElem?_map, List.getElem?_eq_getElem hil] at hi
      exact (Option.some.inj hi).symm
    subst hxi
    rw [List.drop_eq_getElem_cons hil] at e'
    obtain ⟨ts, t, rfl, ht, e2⟩ := atD_cons e'
    obtain ⟨b, ys, rfl, hy, ry⟩ := rv'.inv
    have ly := ry.length
    have hlt := (List.getElem?_eq_some_iff.mp ht).1
    obtain ⟨y, hy2, ry2⟩ := ry.getD ht
    refine ⟨_, rfl, _, rfl, b, ys, rfl, .inr hy.sq, _, _, rfl, rfl, _, rfl, ite2 (fun c => ?_) (fun c => ?_)⟩
    · have c' : ((ys.length : Nat) : Int) ≤ ((p[i] : Nat) : Int) := of_decide_eq_true c
      omega
    · exact ⟨_, rfl, _, rfl, b, ys, _, _, rfl, rfl, hy.sq, atI_nat hy2, rfl, _, t, _, rfl, ry2, isK_mem hk' (List.mem_of_getElem? ht), e2⟩
  · rintro σ H' ⟨rfl, v', d', y2, rfl, rv', hk', e'⟩
    rw [nats_len, List.drop_length] at e'
    have e0 : d' = e := by cases d' <;> exact Option.some.inj e'
    subst e0
    exact ⟨_, rfl, q _ rv'⟩
/-! ### _law_sight_at -/
def spSA (K : PySem.W.Frag) (n : Nat) : Sp := fun vs H Q _ => ∃ (v : V) (pl : List Stp) (m : Nat), vs = [v, .int (m : Nat)] ∧ Rep K H v (playD pl) ∧ WB pl ∧ m < pl.length ∧ m < n ∧ pl.length ≤ 500 ∧ ∀ z H', Same H H' → Rep K H' z (plD (sight pl m)) → Q z H'
theorem fn_none {f : Addr} {fd : FuncData} {ps : List Str} {sp : Sp} (no : ∀ vs H Q E, ¬ sp vs H Q E) : FnOk P w K mg base CX0 0 f fd ps sp :=
  ⟨fun vs H Q E h => absurd h (no vs H Q E), fun A outer s H args us vs Q E _ _ _ _ h => absurd h (no vs H Q E)⟩
theorem ok_lsa {f : Addr} {fd : FuncData} (D__law_sight_at : Df K mg "_law_sight_at" s__law_sight_at ["play", "n"] f fd) (B : Bt mg) : ∀ n : Nat, FnOk P w K mg base CX0 n f fd ["play", "n"] (spSA K n)
  | 0 => fn_none fun vs H Q E h => by
    obtain ⟨v, pl, m, _, _, _, _, h, _⟩ := h
    omega
  | n + 1 => by
    have G__law_sight_at := ok_lsa D__law_sight_at B n
    refine D__law_sight_at.ok c__law_sight_at (fun vs H Q E h => ?_) (fun cdv A outer s H vs Q E hr h => ?_)
    · obtain ⟨v, pl, m, rfl, _⟩ := h
      rfl
    obtain ⟨v, pl, m, rfl, rv, hwb, hm, hmn, hlen, q⟩ := h
    have nd := c__law_sight_at.nd
    refine ⟨_, (pss_cons (ps_if (pt_cmpR op_eq (pv 1) pe_int (nomark _)) (pss_one (ps_ret (pe_tup (pa_cons pe_int pa_nil)))) pss_nil)
  (pss_cons (ps_set (i := 2) nd rfl (Or.inl rfl) (pe_ix ix_tup (pe_ix ix_tup (pv 0) (pv 1) (fun _ _ => rfl)) pe_int (fun _ _ => rfl)))
  (pss_cons (ps_if (pt_cmpR op_eq (pv 2) pe_int (nomark _)) (pss_one (ps_ret (pe_tup (pa_cons pe_int (pa_cons (pv 1) pa_nil))))) pss_nil)
  (pss_one (ps_ret (pe_op op_catP (pe_call G__law_sight_at hr (by rfl) D__law_sight_at.m D__law_sight_at.kp D__law_sight_at.b .nil pass0 (pa_cons (pv 0) (pa_cons (pe_op op_sub (pv 2) pe_int) pa_nil))) (pe_tup (pa_cons (pv 2) (pa_cons (pv 1) pa_nil))))))))), ?_⟩
    obtain ⟨a, xs, rfl, ha, rxs, lx⟩ := play_inv rv
    refine ⟨_, rfl, rfl, _, rfl, ite2 (fun z => ?_) (fun z => ?_)⟩
    · have z' : (m : Int) = 0 := V.int.inj (of_decide_eq_true z)
      have z2 : m = 0 := by omega
      subst z2
      refine ⟨(by show 1 ≤ sizeLine; decide), fun t nt => q _ _ (same_new nt _) ?_⟩
      rw [sight_zero]
      exact .tup' upd_same (.one (.at rfl))
    have hm0 : 0 < m := by
      have : ¬ ((m : Int) = 0) := fun e => z (decide_eq_true (by rw [e]))
      omega
    obtain ⟨mv, em⟩ := hwb.at hm0 hm
    obtain ⟨x, hx, rx⟩ := play_at rxs em
    obtain ⟨a2, m2, b2, rfl, ha2, rm2, rb2⟩ := step_inv rx
    obtain ⟨rfl, _⟩ := Rep.inva (w := V.int (bk pl m : Nat)) rb2
    have hb := hwb.bk_lt hm0 hm
    refine ⟨_, rfl, _, rfl, a, xs, _, _, rfl, rfl, ha.sq, atI_nat hx, a2, _, 1, _, rfl, rfl, ha2.sq, atI_nat (j := 1) rfl, ?_⟩
    refine ⟨_, rfl, rfl, _, rfl, ite2 (fun y => ?_) (fun y => ?_)⟩
    · have y' : (bk pl m : Int) = 0 := V.int.inj (of_decide_eq_true y)
      have y2 : bk pl m = 0 := by omega
      refine ⟨_, rfl, (by show 2 ≤ sizeLine; decide), fun t nt => q _ _ (same_new nt _) ?_⟩
      rw [sight_one hm0 y2]
      exact .tup' upd_same (.cons (.at rfl) (.one (.at rfl)))
    · have y2 : bk pl m ≠ 0 := fun e => y (decide_eq_true (by rw [e]; rfl))
      have ej : (bk pl m : Int) - 1 = ((bk pl m - 1 : Nat) : Int) := by omega
      refine ⟨_, rfl, _, rfl, _, _, rfl, rfl, .ref a, pl, bk pl m - 1, ?_, rv, hwb, by omega, by omega, hlen, fun z1 H1 s1 rz1 => ?_⟩
      · rw [← ej]
        rfl
      · obtain ⟨a3, x3, rfl, hx3, rx3⟩ := Rep.inv (ts := (sight pl (bk pl m - 1)).map numD') rz1
        have e3 := rep_nats_inv rx3
        subst e3
        have hl := sight_len hwb (bk pl m - 1) (by omega)
        refine ⟨_, rfl, _, rfl, (by show 2 ≤ sizeLine; decide), fun t nt => ?_⟩
        have st := same_new nt (.tup [.int (bk pl m : Nat), .int (m : Nat)])
        refine ⟨a3, t, _, _, rfl, rfl, hx3.same st, .inl upd_same, small6' (by rw [nats_len]; show _ + 2 ≤ 1000000; omega), fun c H3 s3 hc => ?_⟩
        refine q _ _ (s1.trans (st.trans s3)) ?_
        rw [sight_more hwb hm0 hm y2]
        show Rep K H3 (.ref c) (.tup ((sight pl (bk pl m - 1) ++ [bk pl m, m]).map numD'))
        rw [List.map_append]
        exact .tup hc ((reps_nats _).append (.cons (.at rfl) (.one (.at rfl))))
end
end Pk

set_option maxRecDepth 100000
set_option maxHeartbeats 1000000
namespace Pk
open PySem PySem.Spec PyProof.Rows L2
section
variable {P : Program} {w : World} {K : PySem.W.Frag} {mg : Str → Option Value} {base : Heap}
/-! ### _law_opens -/
def spLO (K : PySem.W.Frag) : Sp := fun vs H Q _ => ∃ (v : V) (pl : List Stp), vs = [v] ∧ Rep K H v (playD pl) ∧ WB pl ∧ pl.length ≤ 500 ∧ ∀ l H', Nw l H H' (nats (opens pl pl.length)) → Q (.ref l) H'
theorem nats_at {ns : List Nat} {i : Nat} {x : V} (h : (nats ns)[i]? = some x) : ∃ k, ns[i]? = some k ∧ x = V.int (k : Nat) := by
  unfold nats at h
  rw [List.getElem?_map] at h
  obtain ⟨k, hk, e⟩ := Option.map_eq_some_iff.mp h
  exact ⟨k, hk, e.symm⟩
theorem ok_lo {f : Addr} {fd : FuncData} (D__law_opens : Df K mg "_law_opens" s__law_opens ["play"] f fd) (B : Bt mg) : FnOk P w K mg base CX0 1 f fd ["play"] (spLO K) := by
  refine D__law_opens.ok c__law_opens (fun vs H Q E h => ?_) (fun cdv A outer s H vs Q E hr h => ?_)
  · obtain ⟨v, pl, rfl, _⟩ := h
    rfl
  obtain ⟨v, pl, rfl, rv, hwb, hlen, q⟩ := h
  have nd := c__law_opens.nd
  refine ⟨_, (pss_cons (ps_set (i := 1) nd rfl (Or.inl rfl) (pe_lst pa_nil))
  (pss_cons (ps_for PassesOwn.never rfl (pi_range1 (by rfl) B.b_range (pa_cons (pe_callB call_len_seq (by rfl) B.b_len PySem.boot_len (pa_cons (pv 0) pa_nil)) pa_nil)) (pg_name (i := 2) nd rfl (Or.inl rfl)) (pss_cons (ps_asg (pe_ix ix_tup (pv 0) (pv 2) (fun _ _ => rfl)) (pg_tup rfl (pgs_cons (pg_name (i := 3) nd rfl (Or.inl rfl)) (pgs_cons (pg_name (i := 4) nd rfl (Or.inr rfl)) pgs_nil))))
  (pss_one (ps_if (pt_cmpR op_eq (pe_ix ix_tup (pv 3) pe_int (fun _ _ => rfl)) pe_str (nomark _)) (pss_one (ps_expr (pe_bm PySem.F.plainAttrs_list PySem.F.slot_list_append PySem.F.type_list_append mt_append (pv 1) (pa_cons (pv 2) pa_nil)))) (pss_one (ps_setLc (i := 1) (own := [("j", 5)]) (g := (gName 5)) (tt := _) rfl nd rfl rfl (sw_true rfl rfl rfl (by decide +kernel)) (pi_list (pv 1)) (blkOk_by (own := [("j", 5)]) (N := ["play", "rows", "n", "move", "back", "j"]) (sc := defScope s__law_opens) (by decide +kernel)) (fun _ _ _ _ _ => (pg_name (i := 5) nd rfl (Or.inl rfl))) (fun _ _ _ _ _ => (pts_one (pt_cmpR op_ne (pv 5) (pv 4) (nomark _)))) (fun _ _ _ _ _ => (pv 5))))))))
  (pss_one (ps_ret (pv 1))))), ?_⟩
  obtain ⟨a, xs, rfl, ha, rxs, lx⟩ := play_inv rv
  refine ⟨(by show 0 ≤ sizeLine; decide), fun l nl => ?_⟩
  refine ⟨_, rfl, a, xs, rfl, .inr (ha.same (same_new nl _)).sq, _, rfl, by omega, by omega, ?_⟩
  refine for_range (n := xs.length) (fun i σ H' => ∃ (l : Addr) (y2 y3 y4 y5 : Option V), σ = [some (.ref a), some (.ref l), y2, y3, y4, y5] ∧ Nw l H H' (nats (opens pl i)))
    ⟨l, none, none, none, none, rfl, same_new nl _, nl, upd_same⟩ ?_ ?_
  · rintro i σ H1 hi ⟨l, y2, y3, y4, y5, rfl, hn⟩
    have hip : i < pl.length := by omega
    have ep : pl[i]? = some pl[i] := List.getElem?_eq_getElem hip
    obtain ⟨x, hx, rx⟩ := play_at rxs ep
    obtain ⟨a2, m, b, rfl, ha2, rm, rb⟩ := step_inv rx
    have hol := opens_len pl i
    have ez : (0 : Int) + (i : Nat) = ((i : Nat) : Int) := Int.zero_add _
    refine ⟨_, rfl, _, rfl, a, xs, _, _, rfl, rfl, (ha.same hn.s).sq, by rw [ez]; exact atI_nat hx, a2, _, rfl, (ha2.same hn.s).sq, rfl, _, _, rfl, _, _, rfl, rfl, ?_⟩
    cases hmv : pl[i].mv with
    | ask p =>
      rw [hmv] at rm
      obtain ⟨a3, y, rfl, ha3, _⟩ := ask_inv rm
      refine ⟨_, rfl, a3, _, 0, _, rfl, rfl, (ha3.same hn.s).sq, atI_nat (j := 0) rfl, rfl, _, rfl, iteT ⟨_, rfl, .inl ⟨rfl, _, SqL.of hn.h⟩, _, rfl, l, _, _, rfl, rfl, hn.h, small6 (by rw [nats_len]; omega), l, _, _, _, _, rfl, ?_⟩⟩
      rw [ez, nats_snoc, opens_succ ep]
      have eo : opnS (opens pl i) i pl[i] = opens pl i ++ [i] := by
        unfold opnS
        rw [hmv]
      rw [eo]
      exact hn.put _
    | say u =>
      rw [hmv] at rm
      obtain ⟨a3, rfl, ha3⟩ := say_inv rm
      have hi0 : 0 < i := by
        rcases Nat.eq_zero_or_pos i with e | e
        · subst e
          have := hwb.first _ ep
          rw [this] at hmv
          cases hmv
        · exact e
      obtain ⟨mv, em⟩ := hwb.at hi0 hip
      rw [ep] at em
      have eb : pl[i].back = some (bk pl i) := by rw [Option.some.inj em]
      rw [eb] at rb
      obtain ⟨rfl, _⟩ := Rep.inva (w := V.int (bk pl i : Nat)) rb
      refine ⟨_, rfl, a3, _, 0, _, rfl, rfl, (ha3.same hn.s).sq, atI_nat (j := 0) rfl, rfl, _, rfl, iteF ⟨_, rfl, l, rfl, ⟨_, SqL.of hn.h⟩, fun d hd => ?_⟩⟩
      have hdH : H d = none := hn.s.free hd
      refine lc_list (xs := nats (opens pl i)) (fun k H' => Same H1 H' ∧ H' d = some (.lst (nats (((opens pl i).take k).filter fun j => decide (some j ≠ some (bk pl i))))))
        ⟨same_new hd _, upd_same⟩ (fun k H' _ h => SqL.of (h.1 _ _ hn.h)) ?_ ?_
      · rintro k x H3 hk ⟨s3, hd3⟩
        obtain ⟨j, hj, rfl⟩ := nats_at hk
        have ek : (opens pl i).take (k + 1) = (opens pl i).take k ++ [j] := by
          rw [List.take_add_one, hj]
          rfl
        have lk := List.length_filter_le (fun j => decide (some j ≠ some (bk pl i))) ((opens pl i).take k)
        rw [List.length_take] at lk
        refine ⟨rfl, _, rfl, _, rfl, rfl, _, rfl, ?_⟩
        by_cases hjb : j = bk pl i
        · subst hjb
          refine ite2 (fun z => ?_) (fun _ => ⟨s3, ?_⟩)
          · simp at z
          · rw [ek, List.filter_append]
            have e0 : [bk pl i].filter (fun j => decide (some j ≠ some (bk pl i))) = [] := by
              rw [List.filter_cons]
              exact if_neg (by simp)
            rw [e0, List.append_nil]
            exact hd3
        · have ez2 : (!decide (V.int (j : Nat) = V.int (bk pl i : Nat))) = true := by
            rw [decide_eq_false (fun z => hjb (by have := V.int.inj z; omega))]
            rfl
          refine ite2 (fun _ => ?_) (fun z => absurd ez2 z)
          refine ⟨_, rfl, _, hd3, small6 (by rw [nats_len]; omega), fun z o e => ?_, ?_⟩
          · rw [upd_ne (ne_of_none e hd)]
            exact s3 _ _ e
          · rw [nats_snoc, upd_same, ek, List.filter_append]
            have e0 : [j].filter (fun j => decide (some j ≠ some (bk pl i))) = [j] := by
              rw [List.filter_cons]
              exact if_pos (show decide (some j ≠ some (bk pl i)) = true from decide_eq_true fun z => hjb (Option.some.inj z))
            rw [e0]
      · rintro H3 ⟨s3, hd3⟩
        rw [nats_len, List.take_length] at hd3
        refine ⟨d, _, _, _, _, rfl, hn.s.trans s3, hdH, ?_⟩
        rw [opens_succ ep]
        have eo : opnS (opens pl i) i pl[i] = (opens pl i).filter fun j => decide (some j ≠ some (bk pl i)) := by
          unfold opnS
          rw [hmv, eb]
        rw [eo]
        exact hd3
  · rintro σ H1 ⟨l, y2, y3, y4, y5, rfl, hn⟩
    rw [lx] at hn
    exact ⟨_, rfl, q _ _ hn⟩
end
end Pk

set_option maxRecDepth 100000
set_option maxHeartbeats 1000000
namespace Pk
open PySem PySem.Spec PyProof.Rows L2
section
variable {P : Program} {w : World} {K : PySem.W.Frag} {mg : Str → Option Value} {base : Heap}
/-! ### plays that go on legally -/
structure LP (kd : D) (pl : List Stp) : Prop where
  wb : WB pl
  ws : WS pl
  op : OpOk pl
  pa : ∀ (n : Nat) (p : List Nat) (b : Option Nat), pl[n]? = some (Stp.mk (.ask p) b) → ∃ e, atD kd p = some e
  len : pl.length ≤ 40
def Nxt (kd : D) (pl : List Stp) (s : Stp) : Prop := (pl = [] ∧ s = ⟨.ask [], none⟩) ∨ (pl ≠ [] ∧ ∃ j, s.back = some j ∧ j ∈ sight pl (pl.length - 1) ∧ ((∃ p e, s.mv = .ask p ∧ atD kd p = some e) ∨ ∃ v, s.mv = .say v ∧ j ∈ opens pl pl.length))
theorem LP.nil (kd : D) : LP kd [] := by
  refine ⟨⟨fun s e => ?_, fun n s _ e => ?_⟩, fun n _ h => absurd h (Nat.not_lt_zero n), fun n u b e => ?_, fun n p b e => ?_, Nat.zero_le _⟩
  all_goals simp at e
theorem LP.snoc {kd : D} {pl : List Stp} {s : Stp} (h : LP kd pl) (n : Nxt kd pl s) (hl : pl.length < 40) : LP kd (pl ++ [s]) := by
  have old : ∀ {m : Nat}, m < pl.length → (pl ++ [s])[m]? = pl[m]? := fun hm => List.getElem?_append_left hm
  have new : (pl ++ [s])[pl.length]? = some s := by
    rw [List.getElem?_append_right (Nat.le_refl _), Nat.sub_self]
    rfl
  have none_ : ∀ {m : Nat}, pl.length < m → (pl ++ [s])[m]? = none := fun hm => List.getElem?_eq_none (by rw [List.length_append, List.length_singleton]; omega)
  have back : pl ≠ [] → ∃ j, s.back = some j ∧ j ∈ sight pl (pl.length - 1) ∧ j < pl.length := fun hne => by
    rcases n with ⟨e, _⟩ | ⟨_, j, e1, e2, _⟩
    · exact absurd e hne
    · have hp : 0 < pl.length := List.length_pos_iff.mpr hne
      have := (sight_up h.wb (pl.length - 1) (by omega)).2 j e2
      exact ⟨j, e1, e2, by omega⟩
  have w : WB (pl ++ [s]) := by
    refine ⟨fun t e => ?_, fun m t h0 e => ?_⟩
    · by_cases hne : pl = []
      · subst hne
        rcases n with ⟨_, e2⟩ | ⟨e2, _⟩
        · have : some s = some t := e
          rw [← Option.some.inj this]
          exact e2
        · exact absurd rfl e2
      · rw [old (List.length_pos_iff.mpr hne)] at e
        exact h.wb.first t e
    · rcases Nat.lt_trichotomy m pl.length with hm | hm | hm
      · rw [old hm] at e
        exact h.wb.later m t h0 e
      · subst hm
        rw [new] at e
        obtain ⟨j, e1, _, e3⟩ := back (List.length_pos_iff.mp h0)
        rw [← Option.some.inj e]
        exact ⟨j, e1, e3⟩
      · rw [none_ hm] at e
        cases e
  have et : (pl ++ [s]).take pl.length = pl := by
    rw [List.take_append_of_le_length (Nat.le_refl _), List.take_length]
  have sg : ∀ m, m < pl.length → sight (pl ++ [s]) m = sight pl m := fun m hm => by
    have := sight_take w (k := pl.length) hm (by rw [List.length_append]; omega)
    rw [et] at this
    exact this.symm
  have so : ∀ m, m ≤ pl.length → opens (pl ++ [s]) m = opens pl m := fun m hm => by
    have := opens_take (pl ++ [s]) pl.length m hm
    rw [et] at this
    exact this.symm
  have sb : ∀ m, m < pl.length → bk (pl ++ [s]) m = bk pl m := fun m hm => by
    unfold bk
    rw [old hm]
  refine ⟨w, fun m h0 hm => ?_, fun m u b e => ?_, fun m p b e => ?_, by rw [List.length_append, List.length_singleton]; omega⟩
  · rw [List.length_append, List.length_singleton] at hm
    by_cases hlt : m < pl.length
    · rw [sb m hlt, sg (m - 1) (by omega)]
      exact h.ws m h0 hlt
    · have em : m = pl.length := by omega
      subst em
      obtain ⟨j, e1, e2, e3⟩ := back (List.length_pos_iff.mp h0)
      have eb : bk (pl ++ [s]) pl.length = j := by
        unfold bk
        rw [new]
        show (s.back).getD 0 = j
        rw [e1]
        rfl
      rw [eb, sg (pl.length - 1) (by omega)]
      exact e2
  · rcases Nat.lt_trichotomy m pl.length with hm | hm | hm
    · rw [old hm] at e
      rw [so m (by omega)]
      exact h.op m u b e
    · subst hm
      rw [new] at e
      have es := Option.some.inj e
      rw [so pl.length (Nat.le_refl _)]
      rcases n with ⟨_, e2⟩ | ⟨_, j, e1, _, ⟨p, _, e3, _⟩ | ⟨v, e3, e4⟩⟩
      · rw [es] at e2
        cases e2
      · rw [es] at e3
        cases e3
      · rw [es] at e1
        exact ⟨j, e1, e4⟩
    · rw [none_ hm] at e
      cases e
  · rcases Nat.lt_trichotomy m pl.length with hm | hm | hm
    · rw [old hm] at e
      exact h.pa m p b e
    · subst hm
      rw [new] at e
      have es := Option.some.inj e
      rcases n with ⟨_, e2⟩ | ⟨_, j, e1, _, ⟨q, e', e3, e4⟩ | ⟨v, e3, e4⟩⟩
      · rw [es] at e2
        injection e2 with e2 _
        injection e2 with e2
        subst e2
        exact ⟨kd, by cases kd <;> rfl⟩
      · rw [es] at e3
        injection e3 with e3
        subst e3
        exact ⟨e', e4⟩
      · rw [es] at e3
        cases e3
    · rw [none_ hm] at e
      cases e
theorem LP.take {kd : D} {pl : List Stp} (h : LP kd pl) (k : Nat) : LP kd (pl.take k) := by
  have old : ∀ {m : Nat}, m < k → (pl.take k)[m]? = pl[m]? := fun hm => List.getElem?_take_of_lt hm
  have lk : (pl.take k).length ≤ pl.length := by rw [List.length_take]; omega
  have hk : ∀ {m : Nat} {s : Stp}, (pl.take k)[m]? = some s → m < k := fun e => by
    have := (List.getElem?_eq_some_iff.mp e).1
    rw [List.length_take] at this
    omega
  refine ⟨h.wb.take k, fun m h0 hm => ?_, fun m u b e => ?_, fun m p b e => ?_, Nat.le_trans lk h.len⟩
  · rw [List.length_take] at hm
    rw [bk_take pl (by omega), sight_take h.wb (by omega) (by omega)]
    exact h.ws m h0 (by omega)
  · have hm := hk e
    rw [old hm] at e
    rw [opens_take pl k m (by omega)]
    exact h.op m u b e
  · have hm := hk e
    rw [old hm] at e
    exact h.pa m p b e
/-! ### the rows that go on legally, as they are made -/
def lastL (ns : List Nat) : List Nat := ns.drop (ns.length - 1)
theorem lastL_mem {ns : List Nat} {j : Nat} : j ∈ lastL ns ↔ ns.getLast? = some j := by
  unfold lastL
  rcases List.eq_nil_or_concat ns with rfl | ⟨r, a, rfl⟩
  · simp
  · rw [List.concat_eq_append, List.length_append, List.length_singleton, Nat.add_sub_cancel, List.drop_left, List.getLast?_append]
    simp [eq_comm]
theorem lastL_nodup (ns : List Nat) : (lastL ns).Nodup := by
  unfold lastL
  rcases List.eq_nil_or_concat ns with rfl | ⟨r, a, rfl⟩
  · simp
  · rw [List.concat_eq_append, List.length_append, List.length_singleton, Nat.add_sub_cancel, List.drop_left]
    simp
def kids (kd : D) (p : List Nat) : Nat := match atD kd p with
  | some (.tup ts) => ts.length
  | _ => 0
def askPl (pl : List Stp) (j : Nat) : Option (List Nat) := match pl[j]? with
  | some ⟨.ask p, _⟩ => some p
  | _ => none
def kidsOf (kd : D) (p : List Nat) (j : Nat) (k : Nat) : List Stp := (List.range k).map fun k => ⟨.ask (p ++ [k]), some j⟩
def says (j : Nat) : List Stp := [⟨.say 0, some j⟩, ⟨.say 1, some j⟩]
def asksAt (kd : D) (pl : List Stp) (j : Nat) : List Stp := match askPl pl j with
  | some p => kidsOf kd p j (kids kd p)
  | none => []
def stepsTo (kd : D) (pl : List Stp) (j : Nat) : List Stp := match askPl pl j with
  | some p => kidsOf kd p j (kids kd p) ++ says j
  | none => []
def askRows (kd : D) (pl : List Stp) (j : Nat) : List Stp := if (pl.length - j) % 2 = 1 then asksAt kd pl j else []
def sayRows (pl : List Stp) (j : Nat) : List Stp := if j ∈ sight pl (pl.length - 1) ∧ (pl.length - j) % 2 = 1 then says j else []
def rows (kd : D) (pl : List Stp) : List Stp := (sight pl (pl.length - 1)).flatMap (askRows kd pl) ++ (lastL (opens pl pl.length)).flatMap (sayRows pl)
def BEG : Stp := ⟨.ask [], none⟩
def lawR (kd : D) (pl : List Stp) : List Stp := if pl = [] then [BEG] else sortE tokS (rows kd pl)
def plB (kd : D) (pl : List Stp) (j : Nat) (m : Mv) : Bool := match askPl pl j with
  | none => false
  | some q => match m with
    | .say _ => true
    | .ask p => decide (p ≠ []) && (decide (p.dropLast = q) && (atD kd p).isSome)
def lgB (kd : D) (pl : List Stp) (ns : List Nat) (s : Stp) : Bool := match s.back with
  | none => false
  | some j => decide ((pl.length - j) % 2 = 1) && (plB kd pl j s.mv && ((match s.mv with
    | .ask _ => true
    | .say _ => decide (ns.getLast? = some j)) && decide (j ∈ sight pl (pl.length - 1))))
/-- a say says 0 or 1 -/
def ShS (s : Stp) : Prop := ∀ u, s.mv = .say u → u ≤ 1
theorem mem_kids {kd : D} {p : List Nat} {j n : Nat} {s : Stp} : s ∈ kidsOf kd p j n ↔ ∃ k, k < n ∧ s = ⟨.ask (p ++ [k]), some j⟩ := by
  unfold kidsOf
  rw [List.mem_map]
  exact ⟨fun ⟨k, h, e⟩ => ⟨k, List.mem_range.mp h, e.symm⟩, fun ⟨k, h, e⟩ => ⟨k, List.mem_range.mpr h, e.symm⟩⟩
theorem mem_says {j : Nat} {s : Stp} : s ∈ says j ↔ ∃ u, u ≤ 1 ∧ s = ⟨.say u, some j⟩ := by
  unfold says
  rw [List.mem_cons, List.mem_singleton]
  constructor
  · rintro (rfl | rfl)
    · exact ⟨0, by omega, rfl⟩
    · exact ⟨1, by omega, rfl⟩
  · rintro ⟨u, h, rfl⟩
    have : u = 0 ∨ u = 1 := by omega
    rcases this with rfl | rfl
    · exact .inl rfl
    · exact .inr rfl
theorem askPl_some {pl : List Stp} {j : Nat} {p : List Nat} (h : askPl pl j = some p) : ∃ b, pl[j]? = some ⟨.ask p, b⟩ := by
  unfold askPl at h
  split at h
  · next q b e =>
    cases h
    exact ⟨b, e⟩
  · cases h
theorem askPl_of {pl : List Stp} {j : Nat} {p : List Nat} {b : Option Nat} (h : pl[j]? = some ⟨.ask p, b⟩) : askPl pl j = some p := by
  unfold askPl
  rw [h]
theorem askPl_say {pl : List Stp} {j v : Nat} {b : Option Nat} (h : pl[j]? = some ⟨.say v, b⟩) : askPl pl j = none := by
  unfold askPl
  rw [h]
/-- an ask's kid stands in the kind, as many as there are -/
theorem kids_at {kd : D} (hk : isK kd = true) {p : List Nat} {k : Nat} : k < kids kd p ↔ (atD kd (p ++ [k])).isSome = true := by
  constructor
  · intro h
    unfold kids at h
    split at h
    · next ts e =>
      rw [atD_snoc p kd ts k _ e (List.getElem?_eq_getElem h)]
      rfl
    · omega
  · intro h
    obtain ⟨e, he⟩ := Option.isSome_iff_exists.mp h
    have key : ∀ (p : List Nat) (d : D), atD d (p ++ [k]) = some e → ∃ ts, atD d p = some (.tup ts) ∧ k < ts.length := by
      intro p
      induction p with
      | nil =>
        intro d h
        obtain ⟨ts, t, rfl, ht, _⟩ := atD_cons h
        exact ⟨ts, rfl, (List.getElem?_eq_some_iff.mp ht).1⟩
      | cons i p ih =>
        intro d h
        obtain ⟨ts, t, rfl, ht, h'⟩ := atD_cons (k := i) (p := p ++ [k]) h
        obtain ⟨us, h1, h2⟩ := ih t h'
        refine ⟨us, ?_, h2⟩
        show (match ts[i]? with | some t => atD t p | none => none) = some (.tup us)
        rw [ht]
        exact h1
    obtain ⟨ts, h1, h2⟩ := key p kd he
    unfold kids
    rw [h1]
    exact h2
theorem dl_snoc {p q : List Nat} (h : p ≠ []) (e : p.dropLast = q) : ∃ k, p = q ++ [k] := by
  rcases List.eq_nil_or_concat p with rfl | ⟨r, a, rfl⟩
  · exact absurd rfl h
  · rw [List.concat_eq_append, List.dropLast_concat] at e
    exact ⟨a, by rw [List.concat_eq_append, e]⟩
theorem plB_ask {kd : D} (hk : isK kd = true) {pl : List Stp} {j : Nat} {p : List Nat} : plB kd pl j (.ask p) = true ↔ ∃ q k, askPl pl j = some q ∧ k < kids kd q ∧ p = q ++ [k] := by
  unfold plB
  cases hq : askPl pl j with
  | none => exact ⟨fun h => (by cases h), fun ⟨_, _, h, _⟩ => (by cases h)⟩
  | some q =>
    show (decide (p ≠ []) && (decide (p.dropLast = q) && (atD kd p).isSome)) = true ↔ _
    constructor
    · intro h
      obtain ⟨h1, h2⟩ := Bool.and_eq_true_iff.mp h
      obtain ⟨h2, h3⟩ := Bool.and_eq_true_iff.mp h2
      obtain ⟨k, rfl⟩ := dl_snoc (of_decide_eq_true h1) (of_decide_eq_true h2)
      exact ⟨q, k, rfl, (kids_at hk).mpr h3, rfl⟩
    · rintro ⟨q', k, e, h, rfl⟩
      cases e
      rw [(kids_at hk).mp h, List.dropLast_concat, decide_eq_true rfl, decide_eq_true (by simp)]
      rfl
theorem plB_say {kd : D} {pl : List Stp} {j v : Nat} : plB kd pl j (.say v) = true ↔ ∃ q, askPl pl j = some q := by
  unfold plB
  cases hq : askPl pl j with
  | none => exact ⟨fun h => (by cases h), fun ⟨_, h⟩ => (by cases h)⟩
  | some q => exact ⟨fun _ => ⟨q, rfl⟩, fun _ => rfl⟩
theorem lg_ask {kd : D} (hk : isK kd = true) {pl : List Stp} {ns : List Nat} {p : List Nat} {b : Option Nat} :
    lgB kd pl ns ⟨.ask p, b⟩ = true ↔ ∃ j q k, b = some j ∧ (pl.length - j) % 2 = 1 ∧ askPl pl j = some q ∧ k < kids kd q ∧ p = q ++ [k] ∧ j ∈ sight pl (pl.length - 1) := by
  cases b with
  | none => exact ⟨fun h => (by cases h), fun ⟨_, _, _, h, _⟩ => (by cases h)⟩
  | some j =>
    show (decide ((pl.length - j) % 2 = 1) && (plB kd pl j (.ask p) && (true && decide (j ∈ sight pl (pl.length - 1))))) = true ↔ _
    simp only [Bool.and_eq_true, decide_eq_true_eq, Bool.true_and, plB_ask hk]
    constructor
    · rintro ⟨h1, ⟨q, k, h2, h3, h4⟩, h5⟩
      exact ⟨j, q, k, rfl, h1, h2, h3, h4, h5⟩
    · rintro ⟨j', q, k, e, h1, h2, h3, h4, h5⟩
      cases e
      exact ⟨h1, ⟨q, k, h2, h3, h4⟩, h5⟩
theorem lg_say {kd : D} {pl : List Stp} {ns : List Nat} {v : Nat} {b : Option Nat} :
    lgB kd pl ns ⟨.say v, b⟩ = true ↔ ∃ j q, b = some j ∧ (pl.length - j) % 2 = 1 ∧ askPl pl j = some q ∧ ns.getLast? = some j ∧ j ∈ sight pl (pl.length - 1) := by
  cases b with
  | none => exact ⟨fun h => (by cases h), fun ⟨_, _, h, _⟩ => (by cases h)⟩
  | some j =>
    show (decide ((pl.length - j) % 2 = 1) && (plB kd pl j (.say v) && (decide (ns.getLast? = some j) && decide (j ∈ sight pl (pl.length - 1))))) = true ↔ _
    simp only [Bool.and_eq_true, decide_eq_true_eq, plB_say]
    constructor
    · rintro ⟨h1, ⟨q, h2⟩, h3, h5⟩
      exact ⟨j, q, rfl, h1, h2, h3, h5⟩
    · rintro ⟨j', q, e, h1, h2, h3, h5⟩
      cases e
      exact ⟨h1, ⟨q, h2⟩, h3, h5⟩
theorem mem_rows {kd : D} (hk : isK kd = true) {pl : List Stp} {s : Stp} : s ∈ rows kd pl ↔ lgB kd pl (opens pl pl.length) s = true ∧ ShS s := by
  unfold rows
  rw [List.mem_append, List.mem_flatMap, List.mem_flatMap]
  obtain ⟨m, b⟩ := s
  cases m with
  | ask p =>
    rw [lg_ask hk]
    constructor
    · rintro (⟨j, hj, h⟩ | ⟨j, hj, h⟩)
      · unfold askRows at h
        split at h
        · next ho =>
          unfold asksAt at h
          split at h
          · next q hq =>
            obtain ⟨k, hk2, e⟩ := mem_kids.mp h
            cases e
            exact ⟨⟨j, q, k, rfl, ho, hq, hk2, rfl, hj⟩, fun u e => by cases e⟩
          · cases h
        · cases h
      · unfold sayRows at h
        split at h
        · obtain ⟨u, _, e⟩ := mem_says.mp h
          cases e
        · cases h
    · rintro ⟨⟨j, q, k, rfl, ho, hq, hk2, rfl, hj⟩, _⟩
      refine .inl ⟨j, hj, ?_⟩
      unfold askRows asksAt
      rw [if_pos ho, hq]
      exact mem_kids.mpr ⟨k, hk2, rfl⟩
  | say v =>
    rw [lg_say]
    constructor
    · rintro (⟨j, hj, h⟩ | ⟨j, hj, h⟩)
      · unfold askRows at h
        split at h
        · unfold asksAt at h
          split at h
          · obtain ⟨k, _, e⟩ := mem_kids.mp h
            cases e
          · cases h
        · cases h
      · unfold sayRows at h
        split at h
        · next hs =>
          obtain ⟨u, hu, e⟩ := mem_says.mp h
          cases e
          have hl := lastL_mem.mp hj
          obtain ⟨q, b, hq⟩ := opens_ask pl pl.length j (List.mem_of_getLast? hl)
          exact ⟨⟨j, q, rfl, hs.2, askPl_of hq, hl, hs.1⟩, fun u e => by cases e; exact hu⟩
        · cases h
    · rintro ⟨⟨j, q, rfl, ho, hq, hl, hj⟩, hs⟩
      refine .inr ⟨j, lastL_mem.mpr hl, ?_⟩
      unfold sayRows
      rw [if_pos ⟨hj, ho⟩]
      exact mem_says.mpr ⟨v, hs v rfl, rfl⟩
/-! ### no row twice -/
theorem kids_nodup (kd : D) (p : List Nat) (j n : Nat) : (kidsOf kd p j n).Nodup := by
  unfold kidsOf
  refine List.pairwise_map.mpr (List.nodup_range.imp fun {a b} h e => h ?_)
  injection e with e _
  injection e with e
  have := List.append_cancel_left e
  injection this
theorem says_nodup (j : Nat) : (says j).Nodup := by
  unfold says
  refine List.pairwise_cons.mpr ⟨fun a ha e => ?_, List.pairwise_singleton _ _⟩
  rw [List.mem_singleton.mp ha] at e
  injection e with e _
  injection e with e
  cases e
theorem stepsTo_back {kd : D} {pl : List Stp} {j : Nat} {s : Stp} (h : s ∈ stepsTo kd pl j) : s.back = some j := by
  unfold stepsTo at h
  split at h
  · rcases List.mem_append.mp h with h | h
    · obtain ⟨k, _, rfl⟩ := mem_kids.mp h
      rfl
    · obtain ⟨u, _, rfl⟩ := mem_says.mp h
      rfl
  · cases h
theorem stepsTo_nodup (kd : D) (pl : List Stp) (j : Nat) : (stepsTo kd pl j).Nodup := by
  unfold stepsTo
  split
  · refine List.nodup_append.mpr ⟨kids_nodup _ _ _ _, says_nodup _, fun a ha b hb e => ?_⟩
    subst e
    obtain ⟨k, _, rfl⟩ := mem_kids.mp ha
    obtain ⟨u, _, e⟩ := mem_says.mp hb
    cases e
  · exact List.nodup_nil
theorem flat_nodup {f : Nat → List Stp} {ns : List Nat} (hn : ns.Nodup) (h1 : ∀ j, (f j).Nodup) (h2 : ∀ j s, s ∈ f j → s.back = some j) : (ns.flatMap f).Nodup := by
  refine List.pairwise_flatMap.mpr ⟨fun j _ => h1 j, hn.imp fun {a b} hab x hx y hy e => hab ?_⟩
  subst e
  have := (h2 a x hx).symm.trans (h2 b x hy)
  exact Option.some.inj this
theorem askRows_sub {kd : D} {pl : List Stp} {j : Nat} {s : Stp} (h : s ∈ askRows kd pl j) : ∃ p k, s = ⟨.ask (p ++ [k]), some j⟩ := by
  unfold askRows at h
  split at h
  · unfold asksAt at h
    split at h
    · next q _ =>
      obtain ⟨k, _, e⟩ := mem_kids.mp h
      exact ⟨q, k, e⟩
    · cases h
  · cases h
theorem sayRows_sub {pl : List Stp} {j : Nat} {s : Stp} (h : s ∈ sayRows pl j) : ∃ u, s = ⟨.say u, some j⟩ := by
  unfold sayRows at h
  split at h
  · obtain ⟨u, _, e⟩ := mem_says.mp h
    exact ⟨u, e⟩
  · cases h
theorem rows_nodup (kd : D) {pl : List Stp} (hn : (sight pl (pl.length - 1)).Nodup) : (rows kd pl).Nodup := by
  refine List.nodup_append.mpr ⟨flat_nodup hn (fun j => ?_) (fun j s h => ?_), flat_nodup (lastL_nodup _) (fun j => ?_) (fun j s h => ?_), fun a ha b hb e => ?_⟩
  · unfold askRows asksAt
    split
    · split
      · exact kids_nodup _ _ _ _
      · exact List.nodup_nil
    · exact List.nodup_nil
  · obtain ⟨_, _, rfl⟩ := askRows_sub h
    rfl
  · unfold sayRows
    split
    · exact says_nodup _
    · exact List.nodup_nil
  · obtain ⟨_, rfl⟩ := sayRows_sub h
    rfl
  · subst e
    obtain ⟨_, _, h1⟩ := List.mem_flatMap.mp ha
    obtain ⟨_, _, h2⟩ := List.mem_flatMap.mp hb
    obtain ⟨_, _, rfl⟩ := askRows_sub h1
    obtain ⟨_, e⟩ := sayRows_sub h2
    cases e
/-- the program's way to the rows -/
def progR (kd : D) (pl : List Stp) : List Stp := ((sight pl (pl.length - 1)).flatMap (stepsTo kd pl)).filter (lgB kd pl (opens pl pl.length))
theorem mem_progR {kd : D} (hk : isK kd = true) {pl : List Stp} {s : Stp} : s ∈ progR kd pl ↔ lgB kd pl (opens pl pl.length) s = true ∧ ShS s := by
  unfold progR
  rw [List.mem_filter, List.mem_flatMap]
  constructor
  · rintro ⟨⟨j, hj, h⟩, hl⟩
    refine ⟨hl, fun u e => ?_⟩
    unfold stepsTo at h
    split at h
    · rcases List.mem_append.mp h with h | h
      · obtain ⟨k, _, rfl⟩ := mem_kids.mp h
        cases e
      · obtain ⟨v, hv, rfl⟩ := mem_says.mp h
        cases e
        exact hv
    · cases h
  · rintro ⟨hl, hs⟩
    refine ⟨?_, hl⟩
    obtain ⟨m, b⟩ := s
    cases m with
    | ask p =>
      obtain ⟨j, q, k, rfl, ho, hq, hk2, rfl, hj⟩ := (lg_ask hk).mp hl
      refine ⟨j, hj, ?_⟩
      unfold stepsTo
      rw [hq]
      exact List.mem_append_left _ (mem_kids.mpr ⟨k, hk2, rfl⟩)
    | say v =>
      obtain ⟨j, q, rfl, ho, hq, hl, hj⟩ := lg_say.mp hl
      refine ⟨j, hj, ?_⟩
      unfold stepsTo
      rw [hq]
      exact List.mem_append_right _ (mem_says.mpr ⟨v, hs v rfl, rfl⟩)
theorem progR_perm {kd : D} (hk : isK kd = true) {pl : List Stp} (hn : (sight pl (pl.length - 1)).Nodup) : (progR kd pl).Perm (rows kd pl) := by
  refine (List.perm_ext_iff_of_nodup ?_ (rows_nodup kd hn)).mpr fun s => by rw [mem_progR hk, mem_rows hk]
  exact (flat_nodup hn (fun j => stepsTo_nodup kd pl j) (fun j s h => stepsTo_back h)).filter _
/-! ### sorted in one way -/
theorem sortE_eq {bs cs : List Stp} (h : bs.Perm cs) (hi : ∀ b ∈ bs, ∀ c ∈ bs, tokS b = tokS c → b = c) : sortE tokS bs = sortE tokS cs := by
  have T := PySem.W.sortLe_total (listOrd itemOrd) false tokS
  have tot : ∀ a b : Stp, (PySem.W.sortLe (listOrd itemOrd) false tokS a b || PySem.W.sortLe (listOrd itemOrd) false tokS b a) = true := fun a b => by
    rw [Bool.or_eq_true]
    exact T.total a b
  refine List.Perm.eq_of_pairwise (le := fun a b => PySem.W.sortLe (listOrd itemOrd) false tokS a b = true) (fun a b ha hb h1 h2 => ?_) (List.pairwise_mergeSort T.trans tot bs) (List.pairwise_mergeSort T.trans tot cs)
    ((sortE_perm tokS bs).trans (h.trans (sortE_perm tokS cs).symm))
  have ha' := (sortE_perm tokS bs).mem_iff.mp ha
  have hb' := h.mem_iff.mpr ((sortE_perm tokS cs).mem_iff.mp hb)
  refine hi a ha' b hb' ((listOrd itemOrd).total _ _ ?_ ?_)
  · have h2' : (!(listOrd itemOrd).blt (tokS a) (tokS b)) = true := h2
    rw [Bool.not_eq_true'] at h2'
    exact h2'
  · have h1' : (!(listOrd itemOrd).blt (tokS b) (tokS a)) = true := h1
    rw [Bool.not_eq_true'] at h1'
    exact h1'
theorem inl_nums : ∀ p q : List Nat, p.map (fun k => (Sum.inl ((k : Nat) : Int) : Int ⊕ List Nat)) = q.map (fun k => Sum.inl ((k : Nat) : Int)) → p = q
  | [], [], _ => rfl
  | [], _ :: _, h => by cases h
  | _ :: _, [], h => by cases h
  | a :: p, b :: q, h => by
    injection h with h1 h2
    injection h1 with h1
    rw [inl_nums p q h2, show a = b by omega]
theorem tokS_inj {b c : Stp} (hb : okS b) (hc : okS c) (h : tokS b = tokS c) : b = c := by
  obtain ⟨m, k⟩ := b
  obtain ⟨n, l⟩ := c
  cases k with
  | none => exact absurd rfl hb
  | some j =>
    cases l with
    | none => exact absurd rfl hc
    | some i =>
      cases m with
      | ask p =>
        cases n with
        | ask q =>
          injection h with _ h
          have h' : p.map (fun k => (Sum.inl ((k : Nat) : Int) : Int ⊕ List Nat)) ++ [Sum.inl (-1), Sum.inl ((j : Nat) : Int)] = q.map (fun k => Sum.inl ((k : Nat) : Int)) ++ [Sum.inl (-1), Sum.inl ((i : Nat) : Int)] := h
          obtain ⟨h1, h2⟩ := List.append_inj' h' rfl
          have := inl_nums p q h1
          injection h2 with _ h2
          injection h2 with h2 _
          injection h2 with h2
          rw [this, show j = i by omega]
        | say v =>
          injection h with h _
          injection h with h
          cases h
      | say v =>
        cases n with
        | ask q =>
          injection h with h _
          injection h with h
          cases h
        | say u =>
          injection h with _ h
          injection h with h1 h
          injection h with h2 _
          injection h1 with h1
          injection h2 with h2
          have e1 : (j : Int) = (i : Int) := h2
          rw [show v = u by omega, show j = i by omega]
theorem rows_ok {kd : D} (hk : isK kd = true) {pl : List Stp} {s : Stp} (h : s ∈ rows kd pl) : okS s := by
  obtain ⟨h1, _⟩ := (mem_rows hk).mp h
  intro e
  unfold lgB at h1
  rw [e] at h1
  cases h1
theorem progR_sort {kd : D} (hk : isK kd = true) {pl : List Stp} (hn : (sight pl (pl.length - 1)).Nodup) : sortE tokS (progR kd pl) = sortE tokS (rows kd pl) := by
  have pm := progR_perm (kd := kd) hk hn
  exact sortE_eq pm fun b hb c hc e => tokS_inj (rows_ok hk (pm.mem_iff.mp hb)) (rows_ok hk (pm.mem_iff.mp hc)) e
/-! ### legal plays -/
structure LQ (kd : D) (pl : List Stp) : Prop where
  lp : LP kd pl
  rs : ∀ n s, pl[n]? = some s → s ∈ lawR kd (pl.take n)
def NxR (kd : D) (pl : List Stp) (s : Stp) : Prop := s ∈ lawR kd pl
theorem lawR_mem {kd : D} {pl : List Stp} (hp : pl ≠ []) {s : Stp} : s ∈ lawR kd pl ↔ s ∈ rows kd pl := by
  unfold lawR
  rw [if_neg hp]
  exact (sortE_perm tokS (rows kd pl)).mem_iff
theorem lawR_nil (kd : D) : lawR kd [] = [BEG] := rfl
theorem nxt_of {kd : D} (hk : isK kd = true) {pl : List Stp} {s : Stp} (h : NxR kd pl s) : Nxt kd pl s := by
  by_cases hp : pl = []
  · subst hp
    exact .inl ⟨rfl, List.mem_singleton.mp h⟩
  · obtain ⟨h1, h2⟩ := (mem_rows hk).mp ((lawR_mem hp).mp h)
    obtain ⟨m, b⟩ := s
    cases m with
    | ask p =>
      obtain ⟨j, q, k, rfl, ho, hq, hk2, rfl, hj⟩ := (lg_ask hk).mp h1
      obtain ⟨e, he⟩ := Option.isSome_iff_exists.mp ((kids_at hk).mp hk2)
      exact .inr ⟨hp, j, rfl, hj, .inl ⟨_, e, rfl, he⟩⟩
    | say v =>
      obtain ⟨j, q, rfl, ho, hq, hl, hj⟩ := lg_say.mp h1
      exact .inr ⟨hp, j, rfl, hj, .inr ⟨v, rfl, List.mem_of_getLast? hl⟩⟩
theorem LQ.nil (kd : D) : LQ kd [] := ⟨LP.nil kd, fun n s e => by simp at e⟩
theorem LQ.snoc {kd : D} {pl : List Stp} {s : Stp} (hk : isK kd = true) (h : LQ kd pl) (n : NxR kd pl s) (hl : pl.length < 40) : LQ kd (pl ++ [s]) := by
  refine ⟨h.lp.snoc (nxt_of hk n) hl, fun m t e => ?_⟩
  rcases Nat.lt_trichotomy m pl.length with hm | hm | hm
  · rw [List.getElem?_append_left hm] at e
    rw [List.take_append_of_le_length (by omega)]
    exact h.rs m t e
  · subst hm
    rw [List.getElem?_append_right (Nat.le_refl _), Nat.sub_self] at e
    cases e
    rw [List.take_left]
    exact n
  · rw [List.getElem?_eq_none (by rw [List.length_append, List.length_singleton]; omega)] at e
    cases e
theorem LQ.take {kd : D} {pl : List Stp} (h : LQ kd pl) (k : Nat) : LQ kd (pl.take k) := by
  refine ⟨h.lp.take k, fun n s e => ?_⟩
  have hn := (List.getElem?_eq_some_iff.mp e).1
  rw [List.length_take] at hn
  rw [List.getElem?_take_of_lt (by omega)] at e
  rw [List.take_take, Nat.min_eq_left (by omega)]
  exact h.rs n s e
end
end Pk

set_option maxRecDepth 100000
set_option maxHeartbeats 1000000
set_option pp.maxSteps 300
namespace Pk
open PySem PySem.Spec PyProof.Rows L2
section
variable {P : Program} {w : World} {K : PySem.W.Frag} {mg : Str → Option Value} {base : Heap}
/-! ### _law_steps -/
theorem nx_rest {t u : TS} {D : Ends} {σ : L2.St} {H : Hp} (F : L2.St → Hp → Prop) (main : (∀ σ' H', F σ' H' → u D σ' H') → tSeq t u D σ H) (rest : ∀ σ' H', F σ' H' → u D σ' H') : tNext { D with nx := tSeq t u D } σ H := main rest
/-- a list of steps that stands -/
def RxAt (K : PySem.W.Frag) (H : Hp) (l : Addr) (bs : List Stp) (c : Nat) : Prop := ∃ (xs : List V), H l = some (.lst xs) ∧ Reps K H xs (bs.map stD) ∧ bs.length ≤ c
theorem RxAt.same {H H' : Hp} {l : Addr} {bs : List Stp} {c : Nat} (h : RxAt K H l bs c) (s : Same H H') : RxAt K H' l bs c := by
  obtain ⟨xs, h1, h2, h4⟩ := h
  exact ⟨xs, s _ _ h1, h2.mono (kx_same s), h4⟩
theorem RxAt.le {H : Hp} {l : Addr} {bs : List Stp} {c d : Nat} (h : RxAt K H l bs c) (e : c ≤ d) : RxAt K H l bs d := by
  obtain ⟨xs, h1, h2, h4⟩ := h
  exact ⟨xs, h1, h2, Nat.le_trans h4 e⟩
theorem flat_snoc {f : Nat → List Stp} {ns : List Nat} {i j : Nat} (h : ns[i]? = some j) : (ns.take (i + 1)).flatMap f = (ns.take i).flatMap f ++ f j := by
  rw [List.take_add_one, h, List.flatMap_append]
  exact congrArg _ (List.append_nil _)
theorem cut_last (ns : List Nat) : cutV (nats ns) (some (-1)) none = nats (lastL ns) := by
  unfold cutV lastL
  rw [nats_len]
  have e1 : HT.sIx ns.length 0 (some (-1)) = ns.length - 1 := by
    unfold HT.sIx
    first | (simp; omega) | (split <;> omega) | (simp only; split <;> omega)
  have e2 : HT.sIx ns.length ns.length none = ns.length := rfl
  rw [e1, e2]
  unfold nats
  rw [← List.map_drop, List.take_of_length_le (by rw [List.length_map, List.length_drop]; omega)]
def spLS (K : PySem.W.Frag) : Sp := fun vs H Q _ => ∃ (kv v : V) (kd : D) (pl : List Stp), vs = [kv, v] ∧ Rep K H kv kd ∧ isK kd = true ∧ sz kd ≤ 60 ∧ Rep K H v (playD pl) ∧ LP kd pl ∧ ∀ l H', Same H H' → H l = none → RxAt K H' l (lawR kd pl) 3000 → Q (.ref l) H'
theorem inV_nats {ns : List Nat} {j : Nat} (h : inV (.int (j : Nat)) (nats ns) = true) : j ∈ ns := by
  unfold inV at h
  obtain ⟨x, hx, e⟩ := List.any_eq_true.mp h
  obtain ⟨k, hk, rfl⟩ := List.mem_map.mp hx
  have e2 : ((k : Int) == (j : Int)) = true := e
  rw [beq_iff_eq] at e2
  rw [show j = k by omega]
  exact hk
theorem flat_nats (ns : List Nat) : (nats ns).all flatV = true := List.all_eq_true.mpr fun x hx => by
  obtain ⟨j, _, rfl⟩ := List.mem_map.mp hx
  rfl
theorem cut_mem {xs : List V} {lo hi : Option Int} {x : V} (h : x ∈ cutV xs lo hi) : x ∈ xs := by
  unfold cutV at h
  exact List.mem_of_mem_drop (List.mem_of_mem_take h)
theorem inV_of {ns : List Nat} {j : Nat} (h : j ∈ ns) : inV (.int (j : Nat)) (nats ns) = true := by
  unfold inV
  refine List.any_eq_true.mpr ⟨_, List.mem_map.mpr ⟨j, h, rfl⟩, ?_⟩
  show ((j : Int) == (j : Int)) = true
  exact beq_self_eq_true _
theorem kids_snoc (kd : D) (p : List Nat) (j k : Nat) : kidsOf kd p j (k + 1) = kidsOf kd p j k ++ [⟨.ask (p ++ [k]), some j⟩] := by
  unfold kidsOf
  rw [List.range_succ, List.map_append]
  rfl
theorem ok_ls {f f1 f2 f3 : Addr} {fd d1 d2 d3 : FuncData} (D__law_steps : Df K mg "_law_steps" s__law_steps ["kind", "play"] f fd) (D__law_sight_at : Df K mg "_law_sight_at" s__law_sight_at ["play", "n"] f1 d1) (D__law_at : Df K mg "_law_at" s__law_at ["kind", "place"] f2 d2)
    (D__law_opens : Df K mg "_law_opens" s__law_opens ["play"] f3 d3) (B : Bt mg) : FnOk P w K mg base CX0 51 f fd ["kind", "play"] (spLS K) := by
  have G__law_sight_at : FnOk P w K mg base CX0 50 f1 d1 ["play", "n"] (spSA K 50) := ok_lsa D__law_sight_at B 50
  have G__law_at : FnOk P w K mg base CX0 1 f2 d2 ["kind", "place"] (spAt K) := ok_lat D__law_at B
  have G__law_opens : FnOk P w K mg base CX0 1 f3 d3 ["play"] (spLO K) := ok_lo D__law_opens B
  refine D__law_steps.ok c__law_steps (fun vs H Q E h => ?_) (fun cdv A outer s H vs Q E hr h => ?_)
  · obtain ⟨kv, v, kd, pl, rfl, _⟩ := h
    rfl
  obtain ⟨kv, v, kd, pl, rfl, rk, hkd, hkz, rv, hLP, q⟩ := h
  have nd := c__law_steps.nd
  refine ⟨_, (pss_cons (ps_set (i := 2) nd rfl (Or.inl rfl) (pe_callB call_len_seq (by rfl) B.b_len PySem.boot_len (pa_cons (pv 1) pa_nil)))
  (pss_cons (ps_if (pt_cmpR op_eq (pv 2) pe_int (nomark _)) (pss_one (ps_ret (pe_lst (pa_cons (pe_tup (pa_cons (pe_tup (pa_cons pe_str (pa_cons (pe_tup pa_nil) pa_nil))) (pa_cons pe_non pa_nil))) pa_nil)))) pss_nil)
  (pss_cons (ps_set (i := 3) nd rfl (Or.inl rfl) (pe_call G__law_sight_at (hr.mono (by first | decide | omega)) (by rfl) D__law_sight_at.m D__law_sight_at.kp D__law_sight_at.b .nil pass0 (pa_cons (pv 1) (pa_cons (pe_op op_sub (pv 2) pe_int) pa_nil))))
  (pss_cons (ps_set (i := 4) nd rfl (Or.inl rfl) (pe_lst pa_nil))
  (pss_cons (ps_for PassesOwn.never rfl (pi_tup (pv 3)) (pg_name (i := 5) nd rfl (Or.inr rfl)) (pss_cons (ps_set (i := 6) nd rfl (Or.inr rfl) (pe_ix ix_tup (pe_ix ix_tup (pv 1) (pv 5) (fun _ _ => rfl)) pe_int (fun _ _ => rfl)))
  (pss_one (ps_if (PW.pt (pw_and (pt_cmpR op_eq (pe_op op_mod (pe_callTy call_int1 (by rfl) B.b_int (by decide +kernel) (pa_cons (pe_op op_sub (pv 2) (pv 5)) pa_nil)) pe_int) pe_int (nomark _)) (pw_and1 (pt_cmpR op_eq (pe_ix ix_tup (pv 6) pe_int (fun _ _ => rfl)) pe_str (nomark _))))) (pss_cons (ps_set (i := 7) nd rfl (Or.inl rfl) (pe_callB call_len_seq (by rfl) B.b_len PySem.boot_len (pa_cons (pe_call G__law_at (hr.mono (by first | decide | omega)) (by rfl) D__law_at.m D__law_at.kp D__law_at.b .nil pass0 (pa_cons (pv 0) (pa_cons (pe_ix ix_tup (pv 6) pe_int (fun _ _ => rfl)) pa_nil))) pa_nil)))
  (pss_one (ps_set (i := 4) nd rfl (Or.inl rfl) (pe_op op_cat (pv 4) (pe_lc (own := [("k", 8)]) (g := (gName 8)) (tt := tYes) rfl nd (pi_range1 (by rfl) B.b_range (pa_cons (pv 7) pa_nil)) (blkOk_by (own := [("k", 8)]) (N := ["kind", "play", "n", "view", "rows", "j", "move", "many", "k"]) (sc := defScope s__law_steps) (by decide +kernel)) (fun _ _ _ _ _ => (pg_name (i := 8) nd rfl (Or.inl rfl))) (fun _ _ _ _ _ => pts_nil) (fun _ _ _ _ _ => (pe_tup (pa_cons (pe_tup (pa_cons pe_str (pa_cons (pe_op (show OpR _ (binaryOp .Add) (rCatP K) from op_catP) (pe_ix (show IxR _ (rIxT K) from ix_tup) (pv 6) pe_int (fun _ _ => rfl)) (pe_tup (pa_cons (pv 8) pa_nil))) pa_nil))) (pa_cons (pv 5) pa_nil))))))))) pss_nil))))
  (pss_cons (ps_for PassesOwn.never rfl (pi_list (pe_slice sl_list (pe_call G__law_opens (hr.mono (by first | decide | omega)) (by rfl) D__law_opens.m D__law_opens.kp D__law_opens.b .nil pass0 (pa_cons (pv 1) pa_nil)) (po_some (pe_un un_neg pe_int)) po_none)) (pg_name (i := 5) nd rfl (Or.inr rfl)) (pss_one (ps_if (PW.pt (pw_and (pt_cmpR op_in_seq (pv 5) (pv 3) rfl) (pw_and1 (pt_cmpR op_eq (pe_op op_mod (pe_callTy call_int1 (by rfl) B.b_int (by decide +kernel) (pa_cons (pe_op op_sub (pv 2) (pv 5)) pa_nil)) pe_int) pe_int (nomark _))))) (pss_one (ps_set (i := 4) nd rfl (Or.inl rfl) (pe_op op_cat (pv 4) (pe_lst (pa_cons (pe_tup (pa_cons (pe_tup (pa_cons pe_str (pa_cons pe_int pa_nil))) (pa_cons (pv 5) pa_nil))) (pa_cons (pe_tup (pa_cons (pe_tup (pa_cons pe_str (pa_cons pe_int pa_nil))) (pa_cons (pv 5) pa_nil))) pa_nil)))))) pss_nil)))
  (pss_one (ps_ret (pe_callB (cr_sortE hr.units encS) (by rfl) B.b_sorted (by decide +kernel) (pa_cons (pv 4) pa_nil)))))))))), ?_⟩
  obtain ⟨a, xs, rfl, ha, rxs, lx⟩ := play_inv rv
  have hlen := hLP.len
  refine ⟨_, rfl, a, xs, rfl, .inr ha.sq, ?_⟩
  refine ⟨_, rfl, rfl, _, rfl, ite2 (fun z => ?_) (fun z => ?_)⟩
  · have z' : ((xs.length : Nat) : Int) = 0 := V.int.inj (of_decide_eq_true z)
    have z2 : pl = [] := List.eq_nil_of_length_eq_zero (by omega)
    refine ⟨(by show 0 ≤ sizeLine; decide), fun t1 n1 => ⟨(by show 2 ≤ sizeLine; decide), fun t2 n2 => ⟨(by show 2 ≤ sizeLine; decide), fun t3 n3 => ⟨(by show 1 ≤ sizeLine; decide), fun l nl => ?_⟩⟩⟩⟩
    have u4 := same_new nl (.lst [.ref t3])
    have u3 := (same_new n3 (.tup [.ref t2, .non])).trans u4
    have u2 := (same_new n2 (.tup [.str "ask", .ref t1])).trans u3
    have u1 := (same_new n1 (.tup [])).trans u2
    have hnone : H l = none := ((same_new n1 (.tup [])).trans ((same_new n2 (.tup [.str "ask", .ref t1])).trans (same_new n3 (.tup [.ref t2, .non])))).free nl
    subst z2
    refine q _ _ u1 hnone ⟨[.ref t3], upd_same, .one (.tup' (u4 _ _ upd_same) (.cons (.tup' (u3 _ _ upd_same) (.cons (.at rfl) (.one (.tup' (u2 _ _ upd_same) .nil)))) (.one (.at rfl)))), by show 1 ≤ 3000; omega⟩
  have hp : 0 < pl.length := by
    have : ¬ ((xs.length : Nat) : Int) = 0 := fun e => z (decide_eq_true (by rw [e]))
    omega
  have hne : pl ≠ [] := List.length_pos_iff.mp hp
  have en : ((xs.length : Nat) : Int) - 1 = ((pl.length - 1 : Nat) : Int) := by omega
  refine ⟨_, rfl, _, rfl, _, _, rfl, rfl, .ref a, pl, pl.length - 1, by rw [← en]; rfl, rv, hLP.wb, by omega, by omega, by omega, fun vz H1 s1 rvz => ?_⟩
  obtain ⟨vw, vxs, rfl, hvw, rvx⟩ := Rep.inv (ts := (sight pl (pl.length - 1)).map numD') rvz
  have evx := rep_nats_inv rvx
  subst evx
  have hsl := sight_len hLP.wb (pl.length - 1) (by omega)
  refine ⟨(by show 0 ≤ sizeLine; decide), fun l0 nl0 => ?_⟩
  have sl0 := same_new nl0 (.lst [])
  refine nx_rest (fun σ' H' => ∃ (l : Addr) (y5 y6 y7 y8 : Option V), σ' = [some kv, some (.ref a), some (.int ((xs.length : Nat) : Int)), some (.ref vw), some (.ref l), y5, y6, y7, y8] ∧ Same H1 H' ∧ RxAt K H' l ((sight pl (pl.length - 1)).flatMap (askRows kd pl)) 2500) (fun rest => ?_) ?_
  · refine ⟨_, rfl, vw, rfl, ⟨_, (hvw.same sl0).sq⟩, for_tup (K := K) (a := vw) (xs := nats (sight pl (pl.length - 1))) (fun i σ H' => ∃ (l : Addr) (y5 y6 y7 y8 : Option V), σ = [some kv, some (.ref a), some (.int ((xs.length : Nat) : Int)), some (.ref vw), some (.ref l), y5, y6, y7, y8] ∧ Same H1 H' ∧ RxAt K H' l (((sight pl (pl.length - 1)).take i).flatMap (askRows kd pl)) (60 * i))
      ⟨l0, none, none, none, none, rfl, sl0, [], upd_same, .nil, Nat.le_refl _⟩ (fun i σ H' _ h => by
        obtain ⟨l, y5, y6, y7, y8, _, s, _⟩ := h
        exact (hvw.same s).sq) ?_ ?_⟩
    · rintro i x σ H2 hi ⟨l, y5, y6, y7, y8, rfl, s2, hrw⟩
      obtain ⟨j, hj, rfl⟩ := nats_at hi
      have hjm := List.mem_of_getElem? hj
      have hjl : j < pl.length := by
        have := (sight_up hLP.wb (pl.length - 1) (by omega)).2 j hjm
        omega
      have hil := (List.getElem?_eq_some_iff.mp hj).1
      have ep : pl[j]? = some pl[j] := List.getElem?_eq_getElem hjl
      obtain ⟨y, hy, ry⟩ := play_at rxs ep
      obtain ⟨a2, m2, b2, rfl, ha2, rm2, rb2⟩ := step_inv ry
      have s12 := s1.trans s2
      refine ⟨_, rfl, _, rfl, a, xs, _, _, rfl, rfl, (ha.same s12).sq, atI_nat hy, a2, _, 0, _, rfl, rfl, (ha2.same s12).sq, atI_nat (j := 0) rfl, ?_⟩
      refine ⟨_, rfl, _, rfl, _, _, rfl, rfl, .inl ⟨_, rfl, _, _, rfl, rfl, (by show (0 : Int) < 2; decide), rfl, _, rfl, ite2 (fun c1 => ?_) (fun c1 => ?_)⟩⟩
      · have hodd : (pl.length - j) % 2 = 1 := by
          have := V.int.inj (of_decide_eq_true c1)
          omega
        have ear : askRows kd pl j = asksAt kd pl j := by
          unfold askRows
          exact if_pos hodd
        rw [flat_snoc hj, ear]
        cases hmv : pl[j].mv with
        | say u =>
          rw [hmv] at rm2
          obtain ⟨a3, rfl, ha3⟩ := say_inv rm2
          exact ⟨_, rfl, a3, _, 0, _, rfl, rfl, (ha3.same s12).sq, atI_nat (j := 0) rfl, rfl, _, rfl, iteF ⟨l, _, _, _, _, rfl, s2, by
            have e0 : asksAt kd pl j = [] := by
              unfold asksAt
              rw [askPl_say (v := u) (b := pl[j].back) (by rw [ep, ← hmv])]
            rw [e0, List.append_nil]
            exact hrw.le (by omega)⟩⟩
        | ask p =>
          rw [hmv] at rm2
          obtain ⟨a3, qv, rfl, ha3, rq⟩ := ask_inv rm2
          obtain ⟨e, he⟩ := hLP.pa j p pl[j].back (by rw [ep, ← hmv])
          refine ⟨_, rfl, a3, _, 0, _, rfl, rfl, (ha3.same s12).sq, atI_nat (j := 0) rfl, rfl, _, rfl, iteT ?_⟩
          obtain ⟨ke, ze⟩ := atD_kind p kd e hkd he
          obtain ⟨ts, rfl, hts⟩ := isK_inv ke
          refine ⟨_, rfl, _, rfl, a3, _, 1, _, rfl, rfl, (ha3.same s12).sq, atI_nat (j := 1) rfl, kv, qv, kd, .tup ts, p, rfl, rk.mono (kx_same s12), hkd, rq.mono (kx_same s12), he, fun z4 rz4 => ?_⟩
          obtain ⟨a4, x4, rfl, ha4, rx4⟩ := rz4.inv
          have l4 := rx4.length
          have lz := len_szs ts
          have ze' : szs ts + 1 ≤ sz kd := ze
          refine ⟨a4, x4, rfl, .inr ha4.sq, ?_⟩
          obtain ⟨qa, qx, rfl, hqa, rqx⟩ := Rep.inv (ts := p.map numD') rq
          have eqx := rep_nats_inv rqx
          subst eqx
          have lp : p.length ≤ 1000000 - 1 := by
            have key : ∀ (p : List Nat) (d e : D), atD d p = some e → p.length ≤ sz d := by
              intro p
              induction p with
              | nil => intro d e _; exact Nat.zero_le _
              | cons k p ih =>
                intro d e h
                obtain ⟨us, u, rfl, hu, h'⟩ := atD_cons h
                have := ih u e h'
                have := sz_mem (List.mem_of_getElem? hu)
                show p.length + 1 ≤ szs us + 1
                omega
            have := key p kd _ he
            omega
          have ek : kids kd p = ts.length := by
            unfold kids
            rw [he]
          have ea : asksAt kd pl j = kidsOf kd p j ts.length := by
            unfold asksAt
            rw [askPl_of (p := p) (b := pl[j].back) (by rw [ep, ← hmv])]
            show kidsOf kd p j (kids kd p) = _
            rw [ek]
          rw [ea]
          obtain ⟨rx0, hl, hrs, hbl⟩ := hrw
          have lrs := hrs.length
          rw [List.length_map] at lrs
          refine ⟨_, rfl, _, rfl, _, rfl, by omega, by omega, fun d hd => ?_⟩
          refine lc_range (n := x4.length) (fun k H' => Same H2 H' ∧ RxAt K H' d (kidsOf kd p j k) k ∧ True) ⟨same_new hd _, ⟨[], upd_same, .nil, Nat.le_refl _⟩, trivial⟩ ?_ ?_
          · rintro k H3 hk ⟨s3, ⟨acc, hd3, rcs, hcl⟩, _⟩
            have ez : (0 : Int) + (k : Nat) = ((k : Nat) : Int) := Int.zero_add _
            have s23 := s12.trans s3
            refine ⟨rfl, yes_go ⟨_, rfl, a3, _, 1, _, rfl, rfl, (ha3.same s23).sq, at_one1 rfl, _, rfl, (by show 1 ≤ sizeLine; decide), fun t1 n1 => ?_⟩⟩
            have u1 := same_new n1 (.tup [.int ((0 : Int) + (k : Nat))])
            refine ⟨qa, t1, nats p, _, rfl, rfl, (hqa.same s23).same u1, .inl upd_same, small6' (by rw [nats_len]; show p.length + 1 ≤ 1000000; omega), fun c H4 s4 hc => ⟨(by show 2 ≤ sizeLine; decide), fun t2 n2 => ⟨_, rfl, (by show 2 ≤ sizeLine; decide), fun t3 n3 => ?_⟩⟩⟩
            have u2 := same_new n2 (.tup [.str "ask", .ref c])
            have u3 := same_new n3 (.tup [.ref t2, .int (j : Nat)])
            have s35 := u1.trans (s4.trans (u2.trans u3))
            have hd5 := s35 _ _ hd3
            have kl := kx_list hd5 (acc ++ [.ref t3])
            have lcs := rcs.length
            rw [List.length_map] at lcs
            refine ⟨acc, hd5, small6 (by omega), fun o x e => ?_, ⟨acc ++ [.ref t3], upd_same, ?_, by rw [kids_snoc, List.length_append, List.length_singleton]; omega⟩, trivial⟩
            · rw [upd_ne (ne_of_none e hd)]
              exact s35 _ _ (s3 _ _ e)
            · rw [kids_snoc, List.map_append]
              refine (rcs.mono ((kx_same s35).trans kl)).append (.one (.tup (xs := [.ref t2, .int (j : Nat)]) (.inl (kl.t _ _ upd_same)) (.cons (.tup (xs := [.str "ask", .ref c]) (.inl (kl.t _ _ (u3 _ _ upd_same))) (.cons (.at rfl) (.one (.tup (xs := nats p ++ [.int ((0 : Int) + (k : Nat))]) ?_ ?_)))) (.one (.at rfl)))))
              · exact (hc.same (u2.trans u3)).kx kl
              · rw [ez, nats_snoc]
                exact reps_nats _
          · rintro H3 ⟨s3, ⟨acc, hd3, rcs, hcl⟩, _⟩
            rw [l4] at rcs hcl
            have lcs := rcs.length
            rw [List.length_map] at lcs
            refine ⟨l, d, _, _, rfl, rfl, s3 _ _ hl, hd3, small6' (by omega), fun p3 np3 => ?_⟩
            have u3 := same_new np3 (.lst (rx0 ++ acc))
            refine ⟨p3, _, _, _, _, rfl, s2.trans (s3.trans u3), rx0 ++ acc, upd_same, ?_, by rw [List.length_append]; omega⟩
            rw [List.map_append]
            exact (hrs.mono (kx_same (s3.trans u3))).append (rcs.mono (kx_same u3))
      · have hodd : ¬ (pl.length - j) % 2 = 1 := fun z => c1 (decide_eq_true (congrArg V.int (by omega)))
        have e0 : askRows kd pl j = [] := by
          unfold askRows
          exact if_neg hodd
        rw [flat_snoc hj, e0, List.append_nil]
        exact ⟨l, _, _, _, _, rfl, s2, hrw.le (by omega)⟩
    · rintro σ H2 ⟨l, y5, y6, y7, y8, rfl, s2, hrw⟩
      rw [nats_len, List.take_length] at hrw
      exact rest _ _ ⟨l, y5, y6, y7, y8, rfl, s2, hrw.le (by omega)⟩
  rintro σ H2 ⟨l, y5, y6, y7, y8, rfl, s2, hrw⟩
  refine seq_rest (fun σ' H' => ∃ (l : Addr) (y5 y6 y7 y8 : Option V), σ' = [some kv, some (.ref a), some (.int ((xs.length : Nat) : Int)), some (.ref vw), some (.ref l), y5, y6, y7, y8] ∧ Same H1 H' ∧ RxAt K H' l (rows kd pl) 2900) (fun rest => ?_) ?_
  · refine ⟨_, rfl, .ref a, pl, rfl, rv.mono (kx_same (s1.trans s2)), hLP.wb, by omega, fun lo H3 hno => ⟨1, rfl, -1, rfl, lo, _, rfl, SqL.of hno.h, fun pc npc => ?_⟩⟩
    rw [cut_last]
    have u4 := same_new npc (.lst (nats (lastL (opens pl pl.length))))
    have s4 := hno.s.trans u4
    have hcl : (lastL (opens pl pl.length)).length ≤ 1 := by
      unfold lastL
      rw [List.length_drop]
      omega
    have hol := opens_len pl pl.length
    refine ⟨pc, rfl, ⟨_, SqL.of upd_same⟩, for_list (K := K) (a := pc) (xs := nats (lastL (opens pl pl.length))) (fun i σ H' => ∃ (l : Addr) (y5 y6 y7 y8 : Option V), σ = [some kv, some (.ref a), some (.int ((xs.length : Nat) : Int)), some (.ref vw), some (.ref l), y5, y6, y7, y8] ∧ Same (upd H3 pc (.lst (nats (lastL (opens pl pl.length))))) H' ∧ RxAt K H' l ((sight pl (pl.length - 1)).flatMap (askRows kd pl) ++ ((lastL (opens pl pl.length)).take i).flatMap (sayRows pl)) (2500 + 2 * i))
      ⟨l, y5, y6, y7, y8, rfl, Same.refl _, by rw [List.take_zero, List.flatMap_nil, List.append_nil]; exact (hrw.same s4).le (by omega)⟩ (fun i σ H' _ h => by
        obtain ⟨l, y5, y6, y7, y8, _, s, _⟩ := h
        exact SqL.of (s _ _ upd_same)) ?_ ?_⟩
    · rintro i x σ H5 hi ⟨l, y5, y6, y7, y8, rfl, s5, hrw⟩
      have hil := (List.getElem?_eq_some_iff.mp hi).1
      obtain ⟨j, hj, rfl⟩ := nats_at hi
      rw [nats_len] at hil
      rw [flat_snoc hj, ← List.append_assoc]
      have s25 := s2.trans (s4.trans s5)
      refine ⟨_, rfl, _, rfl, vw, _, rfl, .inr (hvw.same s25).sq, rfl, flat_nats _, _, rfl, ite2 (fun c1 => ?_) (fun c1 => ⟨l, _, _, _, _, rfl, s5, by
        have e0 : sayRows pl j = [] := by
          unfold sayRows
          exact if_neg fun z => c1 (inV_of z.1)
        rw [e0, List.append_nil]
        exact hrw.le (by omega)⟩)⟩
      have hjm : j ∈ sight pl (pl.length - 1) := inV_nats c1
      have hjl : j < pl.length := by
        have := (sight_up hLP.wb (pl.length - 1) (by omega)).2 j hjm
        omega
      refine ⟨_, rfl, _, rfl, _, _, rfl, rfl, .inl ⟨_, rfl, _, _, rfl, rfl, (by show (0 : Int) < 2; decide), rfl, _, rfl, ite2 (fun c2 => ?_) (fun c2 => ⟨l, _, _, _, _, rfl, s5, by
        have e0 : sayRows pl j = [] := by
          unfold sayRows
          exact if_neg fun z => c2 (decide_eq_true (congrArg V.int (by omega)))
        rw [e0, List.append_nil]
        exact hrw.le (by omega)⟩)⟩⟩
      have hodd : (pl.length - j) % 2 = 1 := by
        have := V.int.inj (of_decide_eq_true c2)
        omega
      have es : sayRows pl j = says j := by
        unfold sayRows
        exact if_pos ⟨hjm, hodd⟩
      rw [es]
      obtain ⟨rx0, hl, hrs, hbl⟩ := hrw
      have lrs := hrs.length
      rw [List.length_map] at lrs
      refine ⟨_, rfl, (by show 2 ≤ sizeLine; decide), fun t1 n1 => ⟨_, rfl, (by show 2 ≤ sizeLine; decide), fun t2 n2 => ⟨(by show 2 ≤ sizeLine; decide), fun t3 n3 => ⟨_, rfl, (by show 2 ≤ sizeLine; decide), fun t4 n4 => ⟨(by show 2 ≤ sizeLine; decide), fun l2 nl2 => ?_⟩⟩⟩⟩⟩
      have w5 := same_new nl2 (.lst [.ref t2, .ref t4])
      have w4 := (same_new n4 (.tup [.ref t3, .int (j : Nat)])).trans w5
      have w3 := (same_new n3 (.tup [.str "say", .int 1])).trans w4
      have w2 := (same_new n2 (.tup [.ref t1, .int (j : Nat)])).trans w3
      have w1 := (same_new n1 (.tup [.str "say", .int 0])).trans w2
      refine ⟨l, l2, _, _, rfl, rfl, w1 _ _ hl, upd_same, small6' (by show _ + 2 ≤ 1000000; omega), fun p3 np3 => ?_⟩
      have w6 := same_new np3 (.lst (rx0 ++ [.ref t2, .ref t4]))
      refine ⟨p3, _, _, _, _, rfl, s5.trans (w1.trans w6), rx0 ++ [.ref t2, .ref t4], upd_same, ?_, by rw [List.length_append]; show _ + 2 ≤ 2500 + 2 * (i + 1); omega⟩
      · rw [List.map_append]
        exact (hrs.mono (kx_same (w1.trans w6))).append (.cons (.tup' ((w3.trans w6) _ _ upd_same) (.cons (.tup' ((w2.trans w6) _ _ upd_same) (.cons (.at rfl) (.one (.at rfl)))) (.one (.at rfl))))
          (.one (.tup' ((w5.trans w6) _ _ upd_same) (.cons (.tup' ((w4.trans w6) _ _ upd_same) (.cons (.at rfl) (.one (.at rfl)))) (.one (.at rfl))))))
    · rintro σ H5 ⟨l, y5, y6, y7, y8, rfl, s5, hrw⟩
      rw [nats_len, List.take_length] at hrw
      exact rest _ _ ⟨l, y5, y6, y7, y8, rfl, s2.trans (s4.trans s5), hrw.le (by omega)⟩
  rintro σ H3 ⟨l, y5, y6, y7, y8, rfl, s3, rx0, hl, hrs, hbl⟩
  refine ⟨_, rfl, l, rx0, rows kd pl, rfl, SqL.of hl, hrs, fun b hb => rows_ok hkd hb, fun ys p3 rys np3 => ?_⟩
  have u3 := same_new np3 (.lst ys)
  have pm := sortE_perm tokS (rows kd pl)
  refine q _ _ (s1.trans (s3.trans u3)) ((s1.trans s3).free np3) ⟨ys, upd_same, ?_, ?_⟩
  · unfold lawR
    rw [if_neg hne]
    exact rys.mono (kx_same u3)
  · unfold lawR
    rw [if_neg hne, pm.length_eq]
    omega
end
end Pk

set_option maxRecDepth 100000
set_option maxHeartbeats 1000000
set_option pp.maxSteps 300
namespace Pk
open PySem PySem.Spec PyProof.Rows L2
section
variable {P : Program} {w : World} {K : PySem.W.Frag} {mg : Str → Option Value} {base : Heap}
/-! ### _law_legal_play -/
def RwAt (K : PySem.W.Frag) (H : Hp) (l : Addr) (G : Stp → Prop) (c : Nat) : Prop := ∃ (xs : List V) (bs : List Stp), H l = some (.lst xs) ∧ Reps K H xs (bs.map stD) ∧ (∀ b ∈ bs, G b) ∧ bs.length ≤ c
theorem RxAt.rw {H : Hp} {l : Addr} {kd : D} {pl : List Stp} {c : Nat} (h : RxAt K H l (lawR kd pl) c) : ∃ (xs : List V) (bs : List Stp), H l = some (.lst xs) ∧ Reps K H xs (bs.map stD) ∧ (∀ b ∈ bs, NxR kd pl b) ∧ bs.length ≤ c ∧ bs = lawR kd pl := by
  obtain ⟨xs, h1, h2, h3⟩ := h
  exact ⟨xs, _, h1, h2, fun b h => h, h3, rfl⟩
/-- a legal play, begun behind the first turn -/
structure LN (kd : D) (i : Nat) (pl : List Stp) : Prop where
  lq : LQ kd pl
  ne : 0 < i → pl ≠ []
def spLeg (K : PySem.W.Frag) : Sp := fun vs H Q _ => ∃ (b c : Addr) (kv : V) (kd : D) (m : Nat), vs = [.ref b, kv, .int (m : Nat)] ∧ BoxAt H b c ∧ Rep K H kv kd ∧ isK kd = true ∧ sz kd ≤ 60 ∧ m ≤ 20 ∧
  ∀ (z : V) (H' : Hp) (pl : List Stp), Rep K H' z (playD pl) → LN kd m pl → pl.length ≤ m → BoxAt H' b c → SB b H H' → Q z H'
theorem ok_leg {f f0 f1 f2 f3 f4 : Addr} {fd d0 d1 d2 d3 d4 : FuncData} (D__law_legal_play : Df K mg "_law_legal_play" s__law_legal_play ["box", "kind", "most"] f fd) (D__law_steps : Df K mg "_law_steps" s__law_steps ["kind", "play"] f0 d0) (D__law_sight_at : Df K mg "_law_sight_at" s__law_sight_at ["play", "n"] f1 d1) (D__law_at : Df K mg "_law_at" s__law_at ["kind", "place"] f2 d2)
    (D__law_opens : Df K mg "_law_opens" s__law_opens ["play"] f3 d3) (D__law_draw : Df K mg "_law_draw" s__law_draw ["box", "many"] f4 d4) (B : Bt mg) : FnOk P w K mg base CX0 52 f fd ["box", "kind", "most"] (spLeg K) := by
  have G__law_steps : FnOk P w K mg base CX0 51 f0 d0 ["kind", "play"] (spLS K) := ok_ls D__law_steps D__law_sight_at D__law_at D__law_opens B
  have G__law_draw : FnOk P w K mg base CX0 1 f4 d4 ["box", "many"] spDraw := ok_draw D__law_draw B
  refine D__law_legal_play.ok c__law_legal_play (fun vs H Q E h => ?_) (fun cdv A outer s H vs Q E hr h => ?_)
  · obtain ⟨b, c, kv, kd, m, rfl, _⟩ := h
    rfl
  obtain ⟨b, c, kv, kd, m, rfl, hB, rk, hkd, hkz, hm, q⟩ := h
  have nd := c__law_legal_play.nd
  refine ⟨_, (pss_cons (ps_set (i := 3) nd rfl (Or.inl rfl) (pe_tup pa_nil))
  (pss_cons (ps_for PassesOwn.never rfl (pi_range1 (by rfl) B.b_range (pa_cons (pv 2) pa_nil)) (pg_name (i := 4) nd rfl (Or.inl rfl)) (pss_cons (ps_set (i := 5) nd rfl (Or.inl rfl) (pe_call G__law_steps (hr.mono (by first | decide | omega)) (by rfl) D__law_steps.m D__law_steps.kp D__law_steps.b .nil pass0 (pa_cons (pv 1) (pa_cons (pv 3) pa_nil))))
  (pss_cons (ps_if (pt_cmpR (op_eqNil hr.units) (pv 5) (pe_lst pa_nil) (nomark _)) (pss_one ps_break) pss_nil)
  (pss_cons (ps_setLc (i := 6) (own := [("row", 7)]) (g := (gName 7)) (tt := _) rfl nd rfl rfl (sw_true rfl rfl rfl (by decide +kernel)) (pi_list (pv 5)) (blkOk_by (own := [("row", 7)]) (N := ["box", "kind", "most", "play", "turn", "rows", "bold", "row"]) (sc := defScope s__law_legal_play) (by decide +kernel)) (fun _ _ _ _ _ => (pg_name (i := 7) nd rfl (Or.inl rfl))) (fun _ _ _ _ _ => (pts_one (pt_cmpR op_eq (pe_ix (show IxR _ (rIxT K) from ix_tup) (pe_ix (show IxR _ (rIxT K) from ix_tup) (pv 7) pe_int (fun _ _ => rfl)) pe_int (fun _ _ => rfl)) pe_str (nomark _)))) (fun _ _ _ _ _ => (pv 7)))
  (pss_cons (ps_if (PW.pt (pw_and (pt_cmpR (op_neNil hr.units) (pv 6) (pe_lst pa_nil) (nomark _)) (pw_and1 (pt_cmpR op_gt (pe_call G__law_draw (hr.mono (by first | decide | omega)) (by rfl) D__law_draw.m D__law_draw.kp D__law_draw.b .nil pass0 (pa_cons (pv 0) (pa_cons pe_int pa_nil))) pe_int (nomark _))))) (pss_one (ps_set (i := 5) nd rfl (Or.inl rfl) (pv 6))) pss_nil)
  (pss_one (ps_set (i := 3) nd rfl (Or.inl rfl) (pe_op op_catP (pv 3) (pe_tup (pa_cons (pe_ix ix_list (pv 5) (pe_call G__law_draw (hr.mono (by first | decide | omega)) (by rfl) D__law_draw.m D__law_draw.kp D__law_draw.b .nil pass0 (pa_cons (pv 0) (pa_cons (pe_callB call_len_seq (by rfl) B.b_len PySem.boot_len (pa_cons (pv 5) pa_nil)) pa_nil))) (fun _ _ => rfl)) pa_nil))))))))))
  (pss_one (ps_ret (pv 3))))), ?_⟩
  refine ⟨(by show 0 ≤ sizeLine; decide), fun t0 nt0 => ?_⟩
  have s0 := same_new nt0 (.tup [])
  obtain ⟨bs0, hbs0⟩ := hB.lst
  have k0 := kx_same s0
  refine ⟨_, rfl, m, rfl, by omega, by omega, ?_⟩
  refine for_range (n := m) (fun i σ H' => ∃ (pv : V) (pl : List Stp) (y4 y5 y6 y7 : Option V), σ = [some (.ref b), some kv, some (.int (m : Nat)), some pv, y4, y5, y6, y7] ∧ Rep K H' pv (playD pl) ∧ LN kd i pl ∧ pl.length ≤ i ∧ BoxAt H' b c ∧ SB b H H')
    ⟨.ref t0, [], none, none, none, none, rfl, .tup' upd_same .nil, ⟨LQ.nil kd, fun h => absurd h (Nat.lt_irrefl 0)⟩, Nat.le_refl _, hB.same s0, sb_same s0⟩ ?_ ?_
  · rintro i σ H1 hi ⟨pv, pl, y4, y5, y6, y7, rfl, rp, hLP, hpl, hB1, sb1⟩
    have rk1 := rk.mono (box_kx hB hB1 sb1)
    refine ⟨_, rfl, _, rfl, kv, pv, kd, pl, rfl, rk1, hkd, hkz, rp, hLP.lq.lp, fun l H2 s2 hl0 hrw => ?_⟩
    obtain ⟨xs, cs, hl, hrs, hcs, hcl, hce⟩ := hrw.rw
    have lrs := hrs.length
    rw [List.length_map] at lrs
    refine ⟨_, rfl, (by show 0 ≤ sizeLine; decide), fun t1 nt1 => ?_⟩
    have s3 := same_new nt1 (.lst [])
    have s23 := s2.trans s3
    refine ⟨l, t1, xs, rfl, rfl, SqL.of (s3 _ _ hl), SqL.of upd_same, _, rfl, ite2 (fun z => ?_) (fun z => ?_)⟩
    · have hB3 := hB1.same s23
      exact ⟨_, rfl, q pv _ pl (rp.mono (kx_same s23)) ⟨hLP.lq, fun _ e => by
      subst e
      rw [hce, lawR_nil] at lrs
      have lz : xs.length = 1 := lrs
      have z' : xs.isEmpty = true := z
      rw [List.isEmpty_iff.mp z'] at lz
      cases lz⟩ (by omega) hB3 (sb1.trans (sb_same s23))⟩
    have hxs : xs ≠ [] := fun e => by
      subst e
      exact z rfl
    have hl3 := s3 _ _ hl
    have hrs3 := hrs.mono (kx_same s3)
    have rp3 := rp.mono (kx_same s23)
    have hB3 := hB1.same s23
    have sb3 := sb1.trans (sb_same s23)
    have hlb : l ≠ b := fun e => by
      obtain ⟨bs, hbs⟩ := hB1.lst
      rw [e, hbs] at hl0
      cases hl0
    generalize upd H2 t1 (.lst []) = H3 at *
    refine ⟨_, rfl, l, rfl, ⟨_, SqL.of hl3⟩, fun d hd => ?_⟩
    have hdb : d ≠ b := fun e => by
      obtain ⟨bs, hbs⟩ := hB3.lst
      rw [e, hbs] at hd
      cases hd
    have hdc : d ≠ c := fun e => by
      obtain ⟨bs, hbs⟩ := hB3.dst
      rw [e, hbs] at hd
      cases hd
    refine lc_list (xs := xs) (fun k H' => Same H3 H' ∧ RwAt K H' d (NxR kd pl) k) ⟨same_new hd _, [], [], upd_same, .nil, (fun b hb => by cases hb), Nat.le_refl _⟩ (fun k H' _ h => SqL.of (h.1 _ _ hl3)) ?_ ?_
    · rintro k x H4 hk ⟨s4, acc, es, hd4, res, hes, hel⟩
      obtain ⟨dd, hdd, rdd⟩ := hrs3.get hk
      rw [List.getElem?_map] at hdd
      obtain ⟨cc, hcc, rfl⟩ := Option.map_eq_some_iff.mp hdd
      obtain ⟨a2, m2, b2, rfl, ha2, rm2, rb2⟩ := step_inv rdd
      have les := res.length
      rw [List.length_map] at les
      have hkl := (List.getElem?_eq_some_iff.mp hk).1
      cases hmv : cc.mv with
      | say u =>
        rw [hmv] at rm2
        obtain ⟨a3, rfl, ha3⟩ := say_inv rm2
        exact ⟨rfl, _, rfl, a2, _, 0, _, rfl, rfl, (ha2.same s4).sq, atI_nat (j := 0) rfl, a3, _, 0, _, rfl, rfl, (ha3.same s4).sq, atI_nat (j := 0) rfl, rfl, _, rfl, iteF ⟨s4, acc, es, hd4, res, hes, by omega⟩⟩
      | ask p =>
        rw [hmv] at rm2
        obtain ⟨a3, qv, rfl, ha3, rq⟩ := ask_inv rm2
        have kl := kx_list hd4 (acc ++ [.ref a2])
        refine ⟨rfl, _, rfl, a2, _, 0, _, rfl, rfl, (ha2.same s4).sq, atI_nat (j := 0) rfl, a3, _, 0, _, rfl, rfl, (ha3.same s4).sq, atI_nat (j := 0) rfl, rfl, _, rfl, iteT ⟨_, rfl, acc, hd4, small6 (by omega), fun o x e => ?_, acc ++ [.ref a2], es ++ [cc], upd_same, ?_, fun b hb => ?_, by rw [List.length_append, List.length_singleton]; omega⟩⟩
        · rw [upd_ne (ne_of_none e hd)]
          exact s4 _ _ e
        · rw [List.map_append]
          exact (res.mono kl).append (.one ((rdd.mono (kx_same s4)).mono kl))
        · rcases List.mem_append.mp hb with hb | hb
          · exact hes b hb
          · rw [List.mem_singleton.mp hb]
            exact hcs cc (List.mem_of_getElem? hcc)
    · rintro H4 ⟨s4, acc, es, hd4, res, hes, hel⟩
      have hB4 := hB3.same s4
      have sb4 := sb3.trans (sb_same s4)
      have rp4 := rp3.mono (kx_same s4)
      have hl4 := s4 _ _ hl3
      have hrs4 := hrs3.mono (kx_same s4)
      have les := res.length
      rw [List.length_map] at les
      refine nx_rest (fun σ' H' => ∃ (l : Addr) (y6 y7 : Option V), σ' = [some (.ref b), some kv, some (.int (m : Nat)), some pv, some (.int ((0 : Int) + (i : Nat))), some (.ref l), y6, y7] ∧ Rep K H' pv (playD pl) ∧ BoxAt H' b c ∧ SB b H H' ∧ l ≠ b ∧ ∃ (xs : List V) (bs : List Stp), H' l = some (.lst xs) ∧ Reps K H' xs (bs.map stD) ∧ (∀ b ∈ bs, NxR kd pl b) ∧ xs ≠ []) (fun rest => ?_) ?_
      · have same_ : ∀ H', BoxAt H' b c → SB b H4 H' → ∀ y7 : Option V, ∃ (l' : Addr) (y6 y7' : Option V), [some (.ref b), some kv, some (.int (m : Nat)), some pv, some (.int ((0 : Int) + (i : Nat))), some (.ref l), some (.ref d), y7] = [some (.ref b), some kv, some (.int (m : Nat)), some pv, some (.int ((0 : Int) + (i : Nat))), some (.ref l'), y6, y7'] ∧ Rep K H' pv (playD pl) ∧ BoxAt H' b c ∧ SB b H H' ∧ l' ≠ b ∧ ∃ (xs : List V) (bs : List Stp), H' l' = some (.lst xs) ∧ Reps K H' xs (bs.map stD) ∧ (∀ b ∈ bs, NxR kd pl b) ∧ xs ≠ [] :=
          fun H' hB' sb' y7 => ⟨l, _, _, rfl, rp4.mono (box_kx hB4 hB' sb'), hB', sb4.trans sb', hlb, xs, cs, sb' _ _ hlb hl4, hrs4.mono (box_kx hB4 hB' sb'), hcs, hxs⟩
        refine ⟨_, rfl, (by show 0 ≤ sizeLine; decide), fun t2 nt2 => ?_⟩
        have s5 := same_new nt2 (.lst [])
        refine ⟨d, t2, acc, rfl, rfl, SqL.of (s5 _ _ hd4), SqL.of upd_same, _, rfl, ite2 (fun z1 => ?_) (fun _ => rest _ _ (same_ _ (hB4.same s5) (sb_same s5) _))⟩
        have hacc : acc ≠ [] := fun e => by
          subst e
          exact absurd z1 (by decide)
        refine ⟨_, rfl, b, c, 4, rfl, hB4.same s5, by decide, fun r H6 _ _ hB6 sb6 => ⟨_, _, rfl, rfl, _, rfl, ite2 (fun _ => ?_) (fun _ => rest _ _ (same_ _ hB6 ((sb_same s5).trans sb6) _))⟩⟩
        have k46 := box_kx hB4 hB6 ((sb_same s5).trans sb6)
        exact ⟨_, rfl, rest _ _ ⟨d, _, _, rfl, rp4.mono k46, hB6, sb4.trans ((sb_same s5).trans sb6), hdb, acc, es, sb6 _ _ hdb (s5 _ _ hd4), res.mono k46, hes, hacc⟩⟩
      clear hl4 hrs4 hd4 res hB4 sb4 rp4
      rintro σ H5 ⟨l, y6, y7, rfl, rp5, hB5, sb5, hlb, xs, bs, hl5, hrs5, hbs, hne⟩
      have lrs5 := hrs5.length
      rw [List.length_map] at lrs5
      have hxp : 0 < xs.length := List.length_pos_iff.mpr hne
      refine ⟨_, rfl, _, rfl, _, rfl, _, rfl, l, xs, rfl, .inl (SqL.of hl5), b, c, ((xs.length : Nat) : Int), rfl, hB5, by omega, fun r H6 r0 r1 hB6 sb6 => ?_⟩
      have k56 := box_kx hB5 hB6 sb6
      obtain ⟨g, rfl⟩ : ∃ g : Nat, r = (g : Int) := ⟨r.toNat, by omega⟩
      have hg : g < xs.length := by omega
      have hxg : xs[g]? = some xs[g] := List.getElem?_eq_getElem hg
      obtain ⟨dd, hdd, rdd⟩ := hrs5.get hxg
      rw [List.getElem?_map] at hdd
      obtain ⟨cc, hcc, rfl⟩ := Option.map_eq_some_iff.mp hdd
      obtain ⟨pa, pxs, rfl, hpa, rpx, lpx⟩ := play_inv rp5
      have hl6 := sb6 _ _ hlb hl5
      refine ⟨l, xs, _, _, rfl, rfl, SqL.of hl6, atI_nat hxg, (by show 1 ≤ sizeLine; decide), fun t nt => ?_⟩
      have st := same_new nt (.tup [xs[g]])
      refine ⟨pa, t, pxs, [xs[g]], rfl, rfl, (hpa.kx k56).same st, .inl upd_same, small6' (by rw [List.length_singleton]; omega), fun cn H7 s7 hc => ?_⟩
      have s67 := st.trans s7
      refine ⟨.ref cn, pl ++ [cc], _, _, _, _, rfl, ?_, ⟨hLP.lq.snoc hkd (hbs cc (List.mem_of_getElem? hcc)) (by omega), fun _ e => by simp at e⟩, by rw [List.length_append, List.length_singleton]; omega, hB6.same s67, sb5.trans (sb6.trans (sb_same s67))⟩
      show Rep K H7 (.ref cn) (.tup ((pl ++ [cc]).map stD))
      rw [List.map_append]
      exact .tup hc (((rpx.mono k56).mono (kx_same s67)).append (.one ((rdd.mono k56).mono (kx_same s67))))
  · rintro σ H1 ⟨pv, pl, y4, y5, y6, y7, rfl, rp, hLP, hpl, hB1, sb1⟩
    exact ⟨_, rfl, q pv _ pl rp hLP hpl hB1 sb1⟩
end
end Pk

set_option maxRecDepth 100000
set_option maxHeartbeats 1000000
namespace Pk
open PySem PySem.Spec PyProof.Rows L2
mutual
def wd : D → Nat
  | .tup ts => max ts.length (wds ts)
  | _ => 0
def wds : List D → Nat
  | [] => 0
  | t :: r => max (wd t) (wds r)
end
theorem wds_append : ∀ a b : List D, wds (a ++ b) = max (wds a) (wds b)
  | [], b => by show wds b = max 0 (wds b); omega
  | t :: r, b => by
    show max (wd t) (wds (r ++ b)) = max (max (wd t) (wds r)) (wds b)
    rw [wds_append r b]
    omega
/-! ### _law_kind_deep -/
section
variable {P : Program} {w : World} {K : PySem.W.Frag} {mg : Str → Option Value} {base : Heap}
/-- all but what stands at b and at u is as it was -/
def SB2 (b u : Addr) (H H' : Hp) : Prop := ∀ q o, q ≠ b → q ≠ u → H q = some o → H' q = some o
def spDeep (K : PySem.W.Frag) (n : Nat) : Sp := fun vs H Q _ => ∃ (b c u : Addr) (dp : Int) (g : Nat), vs = [.ref b, .int dp, .ref u] ∧ BoxAt H b c ∧ H u = some (.lst [.int g]) ∧ 0 ≤ dp ∧ dp < n ∧ g ≤ 100 ∧ b ≠ u ∧ c ≠ u ∧
  ∀ (v : V) (H' : Hp) (d : D) (g' : Nat), Rep K H' v d → isK d = true → wd d ≤ 4 → (dep d : Int) ≤ dp → sz d + g' ≤ g + 1 → H' u = some (.lst [.int g']) → BoxAt H' b c → SB2 b u H H' → Q v H'
theorem ok_deep0 {f : Addr} {fd : FuncData} : FnOk P w K mg base CX0 0 f fd ["box", "deep", "budget"] (spDeep K 0) := by
  have no : ∀ vs H Q E, ¬ spDeep K 0 vs H Q E := fun vs H Q E h => by
    obtain ⟨b, c, u, dp, g, _, _, _, h0, h1, _⟩ := h
    omega
  exact ⟨fun vs H Q E h => absurd h (no vs H Q E), fun A outer s H args us vs Q E _ _ _ _ h => absurd h (no vs H Q E)⟩
theorem sb2_kx {b u d : Addr} {H H' : Hp} (x : BoxAt H b d) (y : BoxAt H' b d) {us vs : List V} (hu : H u = some (.lst us)) (hu' : H' u = some (.lst vs)) (s : SB2 b u H H') : Kx H H' := by
  obtain ⟨bs, hb⟩ := x.lst
  obtain ⟨bs', hb'⟩ := y.lst
  refine ⟨fun a zs e => s _ _ (ne_of e hb (by intro q; cases q)) (ne_of e hu (by intro q; cases q)) e, fun a zs e => ?_⟩
  by_cases ha : a = b
  · subst ha
    exact ⟨bs', hb'⟩
  · by_cases ha' : a = u
    · subst ha'
      exact ⟨vs, hu'⟩
    · exact ⟨zs, s _ _ ha ha' e⟩
theorem ok_deep {f e : Addr} {fd ed : FuncData} (D__law_kind_deep : Df K mg "_law_kind_deep" s__law_kind_deep ["box", "deep", "budget"] f fd) (D__law_draw : Df K mg "_law_draw" s__law_draw ["box", "many"] e ed) (B : Bt mg) :
    ∀ n : Nat, FnOk P w K mg base CX0 (n + 1) f fd ["box", "deep", "budget"] (spDeep K n)
  | 0 => (ok_deep0 (f := f) (fd := fd)).mono (by omega)
  | n + 1 => by
    have G__law_kind_deep := ok_deep D__law_kind_deep D__law_draw B n
    have G__law_draw : FnOk P w K mg base CX0 1 e ed ["box", "many"] spDraw := ok_draw D__law_draw B
    refine D__law_kind_deep.ok c__law_kind_deep (fun vs H Q E h => ?_) (fun cdv A outer s H vs Q E hr h => ?_)
    · obtain ⟨b, c, u, dp, g, rfl, _⟩ := h
      rfl
    obtain ⟨b, c, u, dp, g, rfl, hB, hu, h0, h1, hg, hbu, hcu, q⟩ := h
    have nd := c__law_kind_deep.nd
    refine ⟨_, (pss_cons (ps_set (i := 3) nd rfl (Or.inl rfl) (pe_lst pa_nil))
  (pss_cons (ps_if (pt_cmpR op_gt (pv 1) pe_int (nomark _)) (pss_one (ps_for PassesOwn.never rfl (pi_range1 (by rfl) B.b_range (pa_cons (pe_call G__law_draw (hr.mono (by first | decide | omega)) (by rfl) D__law_draw.m D__law_draw.kp D__law_draw.b .nil pass0 (pa_cons (pv 0) (pa_cons pe_int pa_nil))) pa_nil)) (pg_name (i := 4) nd rfl (Or.inl rfl)) (pss_one (ps_if (pt_cmpR op_gt (pe_ix ix_list (pv 2) pe_int (fun _ _ => rfl)) pe_int (nomark _)) (pss_cons (ps_asg (pe_op op_sub (pe_ix ix_list (pv 2) pe_int (fun _ _ => rfl)) pe_int) (pg_sub (pv 2) pe_int set_list))
  (pss_one (ps_expr (pe_bm PySem.F.plainAttrs_list PySem.F.slot_list_append PySem.F.type_list_append mt_append (pv 3) (pa_cons (pe_call G__law_kind_deep hr (by rfl) D__law_kind_deep.m D__law_kind_deep.kp D__law_kind_deep.b .nil pass0 (pa_cons (pv 0) (pa_cons (pe_op op_sub (pv 1) pe_int) (pa_cons (pv 2) pa_nil)))) pa_nil))))) pss_nil)))) pss_nil)
  (pss_one (ps_ret (pe_callTy call_tuple_of (by rfl) B.b_tuple (by decide +kernel) (pa_cons (pv 3) pa_nil)))))), ?_⟩
    refine ⟨Nat.zero_le _, fun p np => ?_⟩
    have hbl := hB.lst
    obtain ⟨bs, hbs⟩ := hbl
    have npb : b ≠ p := ne_of_none hbs np
    have npu : u ≠ p := ne_of_none hu np
    have s1 : Same H (upd H p (.lst [])) := same_new np _
    obtain ⟨cs, hcs⟩ := hB.dst
    have npc : c ≠ p := ne_of_none hcs np
    have fin : ∀ (y4 : Option V) (xs : List V) (ds : List D) (g' : Nat) (H1 : Hp), H1 p = some (.lst xs) → Reps K H1 xs ds → isKs ds = true → ds.length ≤ 4 → wds ds ≤ 4 → (deps ds : Int) ≤ dp → szs ds + g' ≤ g → H1 u = some (.lst [.int g']) → BoxAt H1 b c → SB2 b u H H1 →
        ∃ a ys, [V.ref p] = [.ref a] ∧ ((SqL K H1 a ys ∧ ∀ l, H1 l = none → Q (.ref l) (upd H1 l (.tup ys))) ∨ (SqT K H1 a ys ∧ Q (.ref a) H1)) := by
      intro y4 xs ds g' H1 hp hr' hk hl4 hw4 hd hs hu1 hb1 hsb
      refine ⟨p, xs, rfl, .inl ⟨SqL.of hp, fun l hl => ?_⟩⟩
      have sl : Same H1 (upd H1 l (.tup xs)) := same_new hl _
      refine q _ _ (.tup ds) g' (.tup' upd_same (hr'.mono (kx_same sl))) hk (by show max ds.length (wds ds) ≤ 4; omega) hd (by show szs ds + 1 + g' ≤ g + 1; omega) (sl _ _ hu1) (hb1.same sl) (fun z o n1 n2 e => sl _ _ (hsb z o n1 n2 e))
    refine ⟨_, rfl, _, _, rfl, rfl, _, rfl, ite2 (fun z => ?_) (fun z => ?_)⟩
    · have c' : (0 : Int) < dp := of_decide_eq_true z
      refine ⟨_, rfl, b, c, 5, rfl, hB.same s1, by decide, fun r H1 hr0 hr5 hB1 hs1 => ⟨r, rfl, by omega, by omega, ?_⟩⟩
      refine for_range (n := r.toNat) (fun i σ H' => ∃ (xs : List V) (ds : List D) (g' : Nat) (y4 : Option V), σ = [some (.ref b), some (.int dp), some (.ref u), some (.ref p), y4] ∧ H' p = some (.lst xs) ∧ Reps K H' xs ds ∧ isKs ds = true ∧ ds.length ≤ i ∧ wds ds ≤ 4 ∧ (deps ds : Int) ≤ dp ∧ szs ds + g' ≤ g ∧ H' u = some (.lst [.int g']) ∧ BoxAt H' b c ∧ SB2 b u H H')
        ⟨[], [], g, none, rfl, hs1 _ _ npb.symm upd_same, .nil, rfl, Nat.le_refl _, Nat.zero_le _, h0, by show 0 + g ≤ g; omega, hs1 _ _ hbu.symm (s1 _ _ hu), hB1, fun z o n1 n2 e => hs1 _ _ n1 (s1 _ _ e)⟩ ?_ ?_
      · rintro i σ H2 hi ⟨xs, ds, g', y4, rfl, hp, hrs, hk, hl4, hw4, hd, hs, hu2, hb2, hsb⟩
        refine ⟨_, rfl, u, _, 0, _, rfl, rfl, SqL.of hu2, rfl, _, _, rfl, rfl, _, rfl, ite2 (fun e => ?_) (fun e => ⟨xs, ds, g', _, rfl, hp, hrs, hk, by omega, hw4, hd, hs, hu2, hb2, hsb⟩)⟩
        have e' : (0 : Int) < (g' : Int) := of_decide_eq_true e
        have eg : (g' : Int) - 1 = ((g' - 1 : Nat) : Int) := by omega
        refine ⟨_, rfl, u, _, 0, _, rfl, rfl, SqL.of hu2, rfl, _, _, rfl, rfl, _, rfl, u, _, 0, 0, rfl, rfl, hu2, rfl, ?_⟩
        have hu3 : (upd H2 u (.lst [.int ((g' : Int) - 1)])) u = some (.lst [.int ((g' - 1 : Nat) : Int)]) := by rw [upd_same, eg]
        have hp3 : (upd H2 u (.lst [.int ((g' : Int) - 1)])) p = some (.lst xs) := by rw [upd_ne npu.symm]; exact hp
        have hb3 : BoxAt (upd H2 u (.lst [.int ((g' : Int) - 1)])) b c := hb2.other _ hbu.symm hcu.symm
        have k3 : Kx H2 (upd H2 u (.lst [.int ((g' : Int) - 1)])) := kx_list hu2 _
        refine ⟨_, rfl, .inl ⟨rfl, _, SqL.of hp3⟩, _, rfl, _, rfl, _, _, rfl, rfl, _, rfl, b, c, u, dp - 1, g' - 1, rfl, hb3, hu3, by omega, by omega, by omega, hbu, hcu, fun v H4 d g4 rv kv wv dv sv hu4 hb4 hsb4 => ?_⟩
        have hp4 : H4 p = some (.lst xs) := hsb4 _ _ npb.symm npu.symm hp3
        have k4 := sb2_kx hb3 hb4 hu3 hu4 hsb4
        have hrs4 := hrs.mono (k3.trans k4)
        have hlen := hrs.length
        have hlz := len_szs ds
        refine ⟨p, xs, v, rfl, rfl, hp4, small6 (by omega), ?_⟩
        have k5 : Kx H4 (upd H4 p (.lst (xs ++ [v]))) := kx_list hp4 _
        refine ⟨xs ++ [v], ds ++ [d], g4, _, rfl, upd_same, (hrs4.append (.one rv)).mono k5, ?_, by rw [List.length_append, List.length_singleton]; omega, by rw [wds_append]; show max (wds ds) (max (wd d) 0) ≤ 4; omega, ?_, ?_, by rw [upd_ne npu]; exact hu4, ?_, ?_⟩
        · rw [isKs_append, hk]
          show (true && (isK d && true)) = true
          rw [kv]
          rfl
        · rw [deps_append]
          show ((max (deps ds) (max (dep d + 1) 0) : Nat) : Int) ≤ dp
          omega
        · rw [szs_append]
          show szs ds + (sz d + 0) + g4 ≤ g
          omega
        · exact hb4.other _ npb.symm npc.symm
        · intro z o n1 n2 e1
          rw [upd_ne (ne_of_none e1 np)]
          refine hsb4 _ _ n1 n2 ?_
          rw [upd_ne n2]
          exact hsb z o n1 n2 e1
      · rintro σ H2 ⟨xs, ds, g', y4, rfl, hp, hrs, hk, hl4, hw4, hd, hs, hu2, hb2, hsb⟩
        exact ⟨_, rfl, fin y4 xs ds g' H2 hp hrs hk (by omega) hw4 hd hs hu2 hb2 hsb⟩
    · exact ⟨_, rfl, fin none [] [] g _ upd_same .nil rfl (Nat.zero_le _) (Nat.zero_le _) h0 (by show 0 + g ≤ g; omega) (s1 _ _ hu) (hB.same s1) (fun z o _ _ e => s1 _ _ e)⟩
end
section
variable {P : Program} {w : World} {K : PySem.W.Frag} {mg : Str → Option Value} {base : Heap}
/-! ### _law_play_kind -/
def spPK (K : PySem.W.Frag) : Sp := fun vs H Q _ => ∃ (b c : Addr), vs = [.ref b] ∧ BoxAt H b c ∧ ∀ (z : V) (H' : Hp) (d : D), Rep K H' z d → isK d = true → sz d ≤ 40 → BoxAt H' b c → SB b H H' → Q z H'
theorem szs_take_le : ∀ (l : List D) (n : Nat), szs (l.take n) ≤ szs l
  | [], n => by rw [List.take_nil]; exact Nat.le_refl _
  | t :: r, 0 => Nat.zero_le _
  | t :: r, n + 1 => by
    have := szs_take_le r n
    show sz t + szs (r.take n) ≤ sz t + szs r
    omega
theorem isKs_take' : ∀ (l : List D) (n : Nat), isKs l = true → isKs (l.take n) = true
  | [], n, _ => by rw [List.take_nil]; rfl
  | t :: r, 0, _ => rfl
  | t :: r, n + 1, h => by
    have h' := Bool.and_eq_true_iff.mp (show (isK t && isKs r) = true from h)
    show (isK t && isKs (r.take n)) = true
    rw [h'.1, isKs_take' r n h'.2]
    rfl
def menuD : List D := [.tup [.tup [.tup [.tup []]]], .tup [.tup [.tup []], .tup []], .tup [.tup [.tup [], .tup [.tup []]]]]
theorem menu_small : ∀ d ∈ menuD, isK d = true ∧ sz d ≤ 8 := by
  intro d hd
  simp only [menuD, List.mem_cons, List.not_mem_nil, or_false] at hd
  rcases hd with rfl | rfl | rfl <;> exact ⟨rfl, by decide⟩
section
variable {H : Hp} {t1 t2 t3 t4 t5 t6 t7 t8 t9 t10 t11 t12 t13 l : Addr}
theorem menu_pre (n1 : H t1 = none) (n2 : (upd H t1 (.tup [])) t2 = none) (n3 : (upd (upd H t1 (.tup [])) t2 (.tup [.ref t1])) t3 = none) (n4 : (upd (upd (upd H t1 (.tup [])) t2 (.tup [.ref t1])) t3 (.tup [.ref t2])) t4 = none) (n5 : (upd (upd (upd (upd H t1 (.tup [])) t2 (.tup [.ref t1])) t3 (.tup [.ref t2])) t4 (.tup [.ref t3])) t5 = none) (n6 : (upd (upd (upd (upd (upd H t1 (.tup [])) t2 (.tup [.ref t1])) t3 (.tup [.ref t2])) t4 (.tup [.ref t3])) t5 (.tup [])) t6 = none) (n7 : (upd (upd (upd (upd (upd (upd H t1 (.tup [])) t2 (.tup [.ref t1])) t3 (.tup [.ref t2])) t4 (.tup [.ref t3])) t5 (.tup [])) t6 (.tup [.ref t5])) t7 = none) (n8 : (upd (upd (upd (upd (upd (upd (upd H t1 (.tup [])) t2 (.tup [.ref t1])) t3 (.tup [.ref t2])) t4 (.tup [.ref t3])) t5 (.tup [])) t6 (.tup [.ref t5])) t7 (.tup [])) t8 = none) (n9 : (upd (upd (upd (upd (upd (upd (upd (upd H t1 (.tup [])) t2 (.tup [.ref t1])) t3 (.tup [.ref t2])) t4 (.tup [.ref t3])) t5 (.tup [])) t6 (.tup [.ref t5])) t7 (.tup [])) t8 (.tup [.ref t6, .ref t7])) t9 = none) (n10 : (upd (upd (upd (upd (upd (upd (upd (upd (upd H t1 (.tup [])) t2 (.tup [.ref t1])) t3 (.tup [.ref t2])) t4 (.tup [.ref t3])) t5 (.tup [])) t6 (.tup [.ref t5])) t7 (.tup [])) t8 (.tup [.ref t6, .ref t7])) t9 (.tup [])) t10 = none) (n11 : (upd (upd (upd (upd (upd (upd (upd (upd (upd (upd H t1 (.tup [])) t2 (.tup [.ref t1])) t3 (.tup [.ref t2])) t4 (.tup [.ref t3])) t5 (.tup [])) t6 (.tup [.ref t5])) t7 (.tup [])) t8 (.tup [.ref t6, .ref t7])) t9 (.tup [])) t10 (.tup [])) t11 = none) (n12 : (upd (upd (upd (upd (upd (upd (upd (upd (upd (upd (upd H t1 (.tup [])) t2 (.tup [.ref t1])) t3 (.tup [.ref t2])) t4 (.tup [.ref t3])) t5 (.tup [])) t6 (.tup [.ref t5])) t7 (.tup [])) t8 (.tup [.ref t6, .ref t7])) t9 (.tup [])) t10 (.tup [])) t11 (.tup [.ref t10])) t12 = none) (n13 : (upd (upd (upd (upd (upd (upd (upd (upd (upd (upd (upd (upd H t1 (.tup [])) t2 (.tup [.ref t1])) t3 (.tup [.ref t2])) t4 (.tup [.ref t3])) t5 (.tup [])) t6 (.tup [.ref t5])) t7 (.tup [])) t8 (.tup [.ref t6, .ref t7])) t9 (.tup [])) t10 (.tup [])) t11 (.tup [.ref t10])) t12 (.tup [.ref t9, .ref t11])) t13 = none) : Same H (upd (upd (upd (upd (upd (upd (upd (upd (upd (upd (upd (upd (upd H t1 (.tup [])) t2 (.tup [.ref t1])) t3 (.tup [.ref t2])) t4 (.tup [.ref t3])) t5 (.tup [])) t6 (.tup [.ref t5])) t7 (.tup [])) t8 (.tup [.ref t6, .ref t7])) t9 (.tup [])) t10 (.tup [])) t11 (.tup [.ref t10])) t12 (.tup [.ref t9, .ref t11])) t13 (.tup [.ref t12])) :=
  (same_new n1 _).trans ((same_new n2 _).trans ((same_new n3 _).trans ((same_new n4 _).trans ((same_new n5 _).trans ((same_new n6 _).trans ((same_new n7 _).trans ((same_new n8 _).trans ((same_new n9 _).trans ((same_new n10 _).trans ((same_new n11 _).trans ((same_new n12 _).trans (same_new n13 _))))))))))))
theorem menu_at {K : PySem.W.Frag} (n1 : H t1 = none) (n2 : (upd H t1 (.tup [])) t2 = none) (n3 : (upd (upd H t1 (.tup [])) t2 (.tup [.ref t1])) t3 = none) (n4 : (upd (upd (upd H t1 (.tup [])) t2 (.tup [.ref t1])) t3 (.tup [.ref t2])) t4 = none) (n5 : (upd (upd (upd (upd H t1 (.tup [])) t2 (.tup [.ref t1])) t3 (.tup [.ref t2])) t4 (.tup [.ref t3])) t5 = none) (n6 : (upd (upd (upd (upd (upd H t1 (.tup [])) t2 (.tup [.ref t1])) t3 (.tup [.ref t2])) t4 (.tup [.ref t3])) t5 (.tup [])) t6 = none) (n7 : (upd (upd (upd (upd (upd (upd H t1 (.tup [])) t2 (.tup [.ref t1])) t3 (.tup [.ref t2])) t4 (.tup [.ref t3])) t5 (.tup [])) t6 (.tup [.ref t5])) t7 = none) (n8 : (upd (upd (upd (upd (upd (upd (upd H t1 (.tup [])) t2 (.tup [.ref t1])) t3 (.tup [.ref t2])) t4 (.tup [.ref t3])) t5 (.tup [])) t6 (.tup [.ref t5])) t7 (.tup [])) t8 = none) (n9 : (upd (upd (upd (upd (upd (upd (upd (upd H t1 (.tup [])) t2 (.tup [.ref t1])) t3 (.tup [.ref t2])) t4 (.tup [.ref t3])) t5 (.tup [])) t6 (.tup [.ref t5])) t7 (.tup [])) t8 (.tup [.ref t6, .ref t7])) t9 = none) (n10 : (upd (upd (upd (upd (upd (upd (upd (upd (upd H t1 (.tup [])) t2 (.tup [.ref t1])) t3 (.tup [.ref t2])) t4 (.tup [.ref t3])) t5 (.tup [])) t6 (.tup [.ref t5])) t7 (.tup [])) t8 (.tup [.ref t6, .ref t7])) t9 (.tup [])) t10 = none) (n11 : (upd (upd (upd (upd (upd (upd (upd (upd (upd (upd H t1 (.tup [])) t2 (.tup [.ref t1])) t3 (.tup [.ref t2])) t4 (.tup [.ref t3])) t5 (.tup [])) t6 (.tup [.ref t5])) t7 (.tup [])) t8 (.tup [.ref t6, .ref t7])) t9 (.tup [])) t10 (.tup [])) t11 = none) (n12 : (upd (upd (upd (upd (upd (upd (upd (upd (upd (upd (upd H t1 (.tup [])) t2 (.tup [.ref t1])) t3 (.tup [.ref t2])) t4 (.tup [.ref t3])) t5 (.tup [])) t6 (.tup [.ref t5])) t7 (.tup [])) t8 (.tup [.ref t6, .ref t7])) t9 (.tup [])) t10 (.tup [])) t11 (.tup [.ref t10])) t12 = none) (n13 : (upd (upd (upd (upd (upd (upd (upd (upd (upd (upd (upd (upd H t1 (.tup [])) t2 (.tup [.ref t1])) t3 (.tup [.ref t2])) t4 (.tup [.ref t3])) t5 (.tup [])) t6 (.tup [.ref t5])) t7 (.tup [])) t8 (.tup [.ref t6, .ref t7])) t9 (.tup [])) t10 (.tup [])) t11 (.tup [.ref t10])) t12 (.tup [.ref t9, .ref t11])) t13 = none) (nl : (upd (upd (upd (upd (upd (upd (upd (upd (upd (upd (upd (upd (upd H t1 (.tup [])) t2 (.tup [.ref t1])) t3 (.tup [.ref t2])) t4 (.tup [.ref t3])) t5 (.tup [])) t6 (.tup [.ref t5])) t7 (.tup [])) t8 (.tup [.ref t6, .ref t7])) t9 (.tup [])) t10 (.tup [])) t11 (.tup [.ref t10])) t12 (.tup [.ref t9, .ref t11])) t13 (.tup [.ref t12])) l = none) : Same H (upd (upd (upd (upd (upd (upd (upd (upd (upd (upd (upd (upd (upd (upd H t1 (.tup [])) t2 (.tup [.ref t1])) t3 (.tup [.ref t2])) t4 (.tup [.ref t3])) t5 (.tup [])) t6 (.tup [.ref t5])) t7 (.tup [])) t8 (.tup [.ref t6, .ref t7])) t9 (.tup [])) t10 (.tup [])) t11 (.tup [.ref t10])) t12 (.tup [.ref t9, .ref t11])) t13 (.tup [.ref t12])) l (.lst [.ref t4, .ref t8, .ref t13])) ∧ (upd (upd (upd (upd (upd (upd (upd (upd (upd (upd (upd (upd (upd (upd H t1 (.tup [])) t2 (.tup [.ref t1])) t3 (.tup [.ref t2])) t4 (.tup [.ref t3])) t5 (.tup [])) t6 (.tup [.ref t5])) t7 (.tup [])) t8 (.tup [.ref t6, .ref t7])) t9 (.tup [])) t10 (.tup [])) t11 (.tup [.ref t10])) t12 (.tup [.ref t9, .ref t11])) t13 (.tup [.ref t12])) l (.lst [.ref t4, .ref t8, .ref t13])) l = some (.lst [.ref t4, .ref t8, .ref t13]) ∧ Reps K (upd (upd (upd (upd (upd (upd (upd (upd (upd (upd (upd (upd (upd (upd H t1 (.tup [])) t2 (.tup [.ref t1])) t3 (.tup [.ref t2])) t4 (.tup [.ref t3])) t5 (.tup [])) t6 (.tup [.ref t5])) t7 (.tup [])) t8 (.tup [.ref t6, .ref t7])) t9 (.tup [])) t10 (.tup [])) t11 (.tup [.ref t10])) t12 (.tup [.ref t9, .ref t11])) t13 (.tup [.ref t12])) l (.lst [.ref t4, .ref t8, .ref t13])) [.ref t4, .ref t8, .ref t13] menuD := by
  have w14 := same_new nl (.lst [.ref t4, .ref t8, .ref t13])
  have w13 := (same_new n13 (.tup [.ref t12])).trans w14
  have w12 := (same_new n12 (.tup [.ref t9, .ref t11])).trans w13
  have w11 := (same_new n11 (.tup [.ref t10])).trans w12
  have w10 := (same_new n10 (.tup [])).trans w11
  have w9 := (same_new n9 (.tup [])).trans w10
  have w8 := (same_new n8 (.tup [.ref t6, .ref t7])).trans w9
  have w7 := (same_new n7 (.tup [])).trans w8
  have w6 := (same_new n6 (.tup [.ref t5])).trans w7
  have w5 := (same_new n5 (.tup [])).trans w6
  have w4 := (same_new n4 (.tup [.ref t3])).trans w5
  have w3 := (same_new n3 (.tup [.ref t2])).trans w4
  have w2 := (same_new n2 (.tup [.ref t1])).trans w3
  have w1 := (same_new n1 (.tup [])).trans w2
  have h1 := w2 _ _ (upd_same (a := t1))
  have h2 := w3 _ _ (upd_same (a := t2))
  have h3 := w4 _ _ (upd_same (a := t3))
  have h4 := w5 _ _ (upd_same (a := t4))
  have h5 := w6 _ _ (upd_same (a := t5))
  have h6 := w7 _ _ (upd_same (a := t6))
  have h7 := w8 _ _ (upd_same (a := t7))
  have h8 := w9 _ _ (upd_same (a := t8))
  have h9 := w10 _ _ (upd_same (a := t9))
  have h10 := w11 _ _ (upd_same (a := t10))
  have h11 := w12 _ _ (upd_same (a := t11))
  have h12 := w13 _ _ (upd_same (a := t12))
  have h13 := w14 _ _ (upd_same (a := t13))
  exact ⟨w1, upd_same, .cons (.tup' h4 (.one (.tup' h3 (.one (.tup' h2 (.one (.tup' h1 .nil))))))) (.cons (.tup' h8 (.cons (.tup' h6 (.one (.tup' h5 .nil))) (.one (.tup' h7 .nil)))) (.one (.tup' h13 (.one (.tup' h12 (.cons (.tup' h9 .nil) (.one (.tup' h11 (.one (.tup' h10 .nil)))))))))) ⟩
end
theorem ok_pk {f f1 f4 : Addr} {fd d1 d4 : FuncData} (D__law_play_kind : Df K mg "_law_play_kind" s__law_play_kind ["box"] f fd) (D__law_kind_deep : Df K mg "_law_kind_deep" s__law_kind_deep ["box", "deep", "budget"] f1 d1) (D__law_draw : Df K mg "_law_draw" s__law_draw ["box", "many"] f4 d4) (B : Bt mg) : FnOk P w K mg base CX0 6 f fd ["box"] (spPK K) := by
  have G__law_kind_deep : FnOk P w K mg base CX0 5 f1 d1 ["box", "deep", "budget"] (spDeep K 4) := ok_deep D__law_kind_deep D__law_draw B 4
  have G__law_draw : FnOk P w K mg base CX0 1 f4 d4 ["box", "many"] spDraw := ok_draw D__law_draw B
  refine D__law_play_kind.ok c__law_play_kind (fun vs H Q E h => ?_) (fun cdv A outer s H vs Q E hr h => ?_)
  · obtain ⟨b, c, rfl, _⟩ := h
    rfl
  obtain ⟨b, c, rfl, hB, q⟩ := h
  have nd := c__law_play_kind.nd
  refine ⟨_, (pss_cons (ps_set (i := 1) nd rfl (Or.inl rfl) (pe_call G__law_kind_deep (hr.mono (by first | decide | omega)) (by rfl) D__law_kind_deep.m D__law_kind_deep.kp D__law_kind_deep.b .nil pass0 (pa_cons (pv 0) (pa_cons pe_int (pa_cons (pe_lst (pa_cons (pe_op op_add pe_int (pe_call G__law_draw (hr.mono (by first | decide | omega)) (by rfl) D__law_draw.m D__law_draw.kp D__law_draw.b .nil pass0 (pa_cons (pv 0) (pa_cons pe_int pa_nil)))) pa_nil)) pa_nil)))))
  (pss_cons (ps_if (PW.pt (pw_or (pt_cmpR (op_eqNilT hr.units) (pv 1) (pe_tup pa_nil) (nomark _)) (pw_or1 (pt_cmpR op_eq (pe_call G__law_draw (hr.mono (by first | decide | omega)) (by rfl) D__law_draw.m D__law_draw.kp D__law_draw.b .nil pass0 (pa_cons (pv 0) (pa_cons pe_int pa_nil))) pe_int (nomark _))))) (pss_one (ps_set (i := 1) nd rfl (Or.inl rfl) (pe_op op_catP (pv 1) (pe_ix ix_list (pe_lst (pa_cons (pe_tup (pa_cons (pe_tup (pa_cons (pe_tup (pa_cons (pe_tup pa_nil) pa_nil)) pa_nil)) pa_nil)) (pa_cons (pe_tup (pa_cons (pe_tup (pa_cons (pe_tup pa_nil) pa_nil)) (pa_cons (pe_tup pa_nil) pa_nil))) (pa_cons (pe_tup (pa_cons (pe_tup (pa_cons (pe_tup pa_nil) (pa_cons (pe_tup (pa_cons (pe_tup pa_nil) pa_nil)) pa_nil))) pa_nil)) pa_nil)))) (pe_call G__law_draw (hr.mono (by first | decide | omega)) (by rfl) D__law_draw.m D__law_draw.kp D__law_draw.b .nil pass0 (pa_cons (pv 0) (pa_cons pe_int pa_nil))) (fun _ _ => rfl))))) pss_nil)
  (pss_one (ps_ret (pe_slice sl_tupP (pv 1) po_none (po_some pe_int)))))), ?_⟩
  refine ⟨_, rfl, _, rfl, b, c, 7, rfl, hB, by decide, fun r H1 r0 r7 hB1 sb1 => ⟨_, _, rfl, rfl, (by show 1 ≤ sizeLine; decide), fun u nu => ?_⟩⟩
  obtain ⟨g, rfl⟩ : ∃ g : Nat, r = (g : Int) := ⟨r.toNat, by omega⟩
  have s2 := same_new nu (.lst [.int (1 + (g : Int))])
  have hu : (upd H1 u (.lst [.int (1 + (g : Int))])) u = some (.lst [.int ((1 + g : Nat) : Int)]) := by
    rw [upd_same]
    congr 4
  obtain ⟨bs1, hbs1⟩ := hB1.lst
  obtain ⟨cs1, hcs1⟩ := hB1.dst
  have nbu : b ≠ u := ne_of_none hbs1 nu
  have ncu : c ≠ u := ne_of_none hcs1 nu
  refine ⟨b, c, u, 3, 1 + g, rfl, hB1.same s2, hu, by decide, by decide, by omega, nbu, ncu, fun kv H3 kd g' rk hk _ _ hsz hu3 hB3 sb3 => ?_⟩
  have sbA : SB b H H3 := fun o x n e => by
    have e1 := sb1 _ _ n e
    exact sb3 _ _ n (ne_of_none e1 nu) (s2 _ _ e1)
  obtain ⟨ts, rfl, hts⟩ := isK_inv hk
  obtain ⟨ka, kxs, rfl, hka, rkx⟩ := rk.inv
  have hz : szs ts + 1 + g' ≤ 1 + g + 1 := hsz
  have lk := rkx.length
  have lz := len_szs ts
  clear hbs1 hcs1 hu hu3 sb3 sb1 rk hB1
  refine nx_rest (fun σ' H' => ∃ (ka : Addr) (kxs : List V) (ts : List D), σ' = [some (.ref b), some (.ref ka)] ∧ TupAt K H' ka kxs ∧ Reps K H' kxs ts ∧ isKs ts = true ∧ szs ts ≤ 30 ∧ BoxAt H' b c ∧ SB b H H') (fun rest => ?_) ?_
  · have same_ : ∀ H', BoxAt H' b c → SB b H3 H' → ∃ (ka' : Addr) (kxs : List V) (ts : List D), [some (V.ref b), some (V.ref ka)] = [some (.ref b), some (.ref ka')] ∧ TupAt K H' ka' kxs ∧ Reps K H' kxs ts ∧ isKs ts = true ∧ szs ts ≤ 30 ∧ BoxAt H' b c ∧ SB b H H' :=
      fun H' hB' sb' => ⟨ka, kxs, ts, rfl, hka.kx (box_kx hB3 hB' sb'), rkx.mono (box_kx hB3 hB' sb'), hts, by omega, hB', sbA.trans sb'⟩
    refine ⟨_, rfl, (by show 0 ≤ sizeLine; decide), fun t0 n0 => ?_⟩
    have s4 := same_new n0 (.tup [])
    have hB4 := hB3.same s4
    have sb4 := sb_same (b := b) s4
    refine ⟨ka, t0, kxs, rfl, rfl, (hka.same s4).sq, SqT.of upd_same, _, rfl, ite2 (fun _ => ?_) (fun _ => ⟨_, rfl, b, c, 3, rfl, hB4, by decide, fun r5 H5 _ _ hB5 sb5' => ⟨rfl, _, rfl, ite2 (fun _ => ?_) (fun _ => rest _ _ (same_ _ hB5 (sb4.trans sb5')))⟩⟩)⟩
    · have hB5 := hB4
      have sb5 := sb4
      generalize upd H3 t0 (.tup []) = H5 at *
      refine ⟨_, rfl, (by show 0 ≤ sizeLine; decide), fun t1 n1 => ⟨(by show 1 ≤ sizeLine; decide), fun t2 n2 => ⟨(by show 1 ≤ sizeLine; decide), fun t3 n3 => ⟨(by show 1 ≤ sizeLine; decide), fun t4 n4 => ⟨(by show 0 ≤ sizeLine; decide), fun t5 n5 => ⟨(by show 1 ≤ sizeLine; decide), fun t6 n6 => ⟨(by show 0 ≤ sizeLine; decide), fun t7 n7 => ⟨(by show 2 ≤ sizeLine; decide), fun t8 n8 =>
        ⟨(by show 0 ≤ sizeLine; decide), fun t9 n9 => ⟨(by show 0 ≤ sizeLine; decide), fun t10 n10 => ⟨(by show 1 ≤ sizeLine; decide), fun t11 n11 => ⟨(by show 2 ≤ sizeLine; decide), fun t12 n12 => ⟨(by show 1 ≤ sizeLine; decide), fun t13 n13 => ⟨(by show 3 ≤ sizeLine; decide), fun l nl => ?_⟩⟩⟩⟩⟩⟩⟩⟩⟩⟩⟩⟩⟩⟩
      obtain ⟨w1, hl, rm⟩ := menu_at (K := K) n1 n2 n3 n4 n5 n6 n7 n8 n9 n10 n11 n12 n13 nl
      have hlb : l ≠ b := fun e => by
        obtain ⟨bs, hbs⟩ := (hB5.same (menu_pre n1 n2 n3 n4 n5 n6 n7 n8 n9 n10 n11 n12 n13)).lst
        rw [e, hbs] at nl
        cases nl
      have hB6 := hB5.same w1
      have sb6 := sb5.trans (sb_same w1)
      clear nl n1 n2 n3 n4 n5 n6 n7 n8 n9 n10 n11 n12 n13 w1
      generalize upd _ l (.lst [.ref t4, .ref t8, .ref t13]) = H6 at *
      refine ⟨_, rfl, b, c, 3, rfl, hB6, by decide, fun r7 H7 r70 r73 hB7 sb7 => ?_⟩
      have k67 := box_kx hB6 hB7 sb7
      have sb37 := sb6.trans sb7
      have k37 := box_kx hB3 hB7 sb37
      obtain ⟨g7, rfl⟩ : ∃ g : Nat, r7 = (g : Int) := ⟨r7.toNat, by omega⟩
      have hg7 : g7 < menuD.length := by
        show g7 < 3
        omega
      have hm : menuD[g7]? = some menuD[g7] := List.getElem?_eq_getElem hg7
      obtain ⟨x, hx, rx⟩ := rm.getD hm
      obtain ⟨m1, m2⟩ := menu_small _ (List.mem_of_getElem? hm)
      obtain ⟨us, eus, hus⟩ := isK_inv m1
      rw [eus] at rx m2
      obtain ⟨ma, mxs, rfl, hma, rmx⟩ := rx.inv
      have lm := rmx.length
      have lus := len_szs us
      have m2' : szs us + 1 ≤ 8 := m2
      refine ⟨l, _, _, _, rfl, rfl, SqL.of (sb7 _ _ hlb hl), atI_nat hx, ka, ma, kxs, mxs, rfl, rfl, hka.kx k37, hma.kx k67, small6' (by omega), fun cn H8 s8 hc => ?_⟩
      refine rest _ _ ⟨cn, kxs ++ mxs, ts ++ us, rfl, hc, ((rkx.mono k37).append (rmx.mono k67)).mono (kx_same s8), ?_, ?_, hB7.same s8, sbA.trans (sb37.trans (sb_same s8))⟩
      · rw [isKs_append, hts, hus]
        rfl
      · rw [szs_append]
        omega
    · have sb5 := sb4.trans sb5'
      refine ⟨_, rfl, (by show 0 ≤ sizeLine; decide), fun t1 n1 => ⟨(by show 1 ≤ sizeLine; decide), fun t2 n2 => ⟨(by show 1 ≤ sizeLine; decide), fun t3 n3 => ⟨(by show 1 ≤ sizeLine; decide), fun t4 n4 => ⟨(by show 0 ≤ sizeLine; decide), fun t5 n5 => ⟨(by show 1 ≤ sizeLine; decide), fun t6 n6 => ⟨(by show 0 ≤ sizeLine; decide), fun t7 n7 => ⟨(by show 2 ≤ sizeLine; decide), fun t8 n8 =>
        ⟨(by show 0 ≤ sizeLine; decide), fun t9 n9 => ⟨(by show 0 ≤ sizeLine; decide), fun t10 n10 => ⟨(by show 1 ≤ sizeLine; decide), fun t11 n11 => ⟨(by show 2 ≤ sizeLine; decide), fun t12 n12 => ⟨(by show 1 ≤ sizeLine; decide), fun t13 n13 => ⟨(by show 3 ≤ sizeLine; decide), fun l nl => ?_⟩⟩⟩⟩⟩⟩⟩⟩⟩⟩⟩⟩⟩⟩
      obtain ⟨w1, hl, rm⟩ := menu_at (K := K) n1 n2 n3 n4 n5 n6 n7 n8 n9 n10 n11 n12 n13 nl
      have hlb : l ≠ b := fun e => by
        obtain ⟨bs, hbs⟩ := (hB5.same (menu_pre n1 n2 n3 n4 n5 n6 n7 n8 n9 n10 n11 n12 n13)).lst
        rw [e, hbs] at nl
        cases nl
      have hB6 := hB5.same w1
      have sb6 := sb5.trans (sb_same w1)
      clear nl n1 n2 n3 n4 n5 n6 n7 n8 n9 n10 n11 n12 n13 w1
      generalize upd _ l (.lst [.ref t4, .ref t8, .ref t13]) = H6 at *
      refine ⟨_, rfl, b, c, 3, rfl, hB6, by decide, fun r7 H7 r70 r73 hB7 sb7 => ?_⟩
      have k67 := box_kx hB6 hB7 sb7
      have sb37 := sb6.trans sb7
      have k37 := box_kx hB3 hB7 sb37
      obtain ⟨g7, rfl⟩ : ∃ g : Nat, r7 = (g : Int) := ⟨r7.toNat, by omega⟩
      have hg7 : g7 < menuD.length := by
        show g7 < 3
        omega
      have hm : menuD[g7]? = some menuD[g7] := List.getElem?_eq_getElem hg7
      obtain ⟨x, hx, rx⟩ := rm.getD hm
      obtain ⟨m1, m2⟩ := menu_small _ (List.mem_of_getElem? hm)
      obtain ⟨us, eus, hus⟩ := isK_inv m1
      rw [eus] at rx m2
      obtain ⟨ma, mxs, rfl, hma, rmx⟩ := rx.inv
      have lm := rmx.length
      have lus := len_szs us
      have m2' : szs us + 1 ≤ 8 := m2
      refine ⟨l, _, _, _, rfl, rfl, SqL.of (sb7 _ _ hlb hl), atI_nat hx, ka, ma, kxs, mxs, rfl, rfl, hka.kx k37, hma.kx k67, small6' (by omega), fun cn H8 s8 hc => ?_⟩
      refine rest _ _ ⟨cn, kxs ++ mxs, ts ++ us, rfl, hc, ((rkx.mono k37).append (rmx.mono k67)).mono (kx_same s8), ?_, ?_, hB7.same s8, sbA.trans (sb37.trans (sb_same s8))⟩
      · rw [isKs_append, hts, hus]
        rfl
      · rw [szs_append]
        omega
  rintro σ H4 ⟨ka, kxs, ts, rfl, hka, rkx, hts, hz, hB4, sb4⟩
  refine ⟨_, rfl, 4, rfl, ka, kxs, rfl, hka, fun cn H5 s5 hc => ?_⟩
  have ecut : cutV kxs none (some 4) = kxs.take 4 := cutV_to kxs 4
  rw [ecut] at hc
  exact q _ _ (.tup (ts.take 4)) (.tup hc ((rkx.mono (kx_same s5)).take 4)) (isKs_take' ts 4 hts) (by have := szs_take_le ts 4; show szs (ts.take 4) + 1 ≤ 40; omega) (hB4.same s5) (sb4.trans (sb_same s5))
end
end Pk

set_option maxRecDepth 100000
set_option maxHeartbeats 1000000
set_option pp.maxSteps 300
namespace Pk
open PySem PySem.Spec PyProof.Rows L2
section
variable {P : Program} {w : World} {K : PySem.W.Frag} {mg : Str → Option Value} {base : Heap}
theorem rel_ref (a : Addr) : RelV (V.ref a) (Value.ref a) := rfl
section
variable {X : Cx}
def rInT (K : PySem.W.Frag) : R2 := fun x y H Q => ∃ d ds, Dp K H x d ∧ Dp K H y (.tuple ds) ∧ SeqAt.shaped d = true ∧ SeqAt.shaped (.tuple ds) = true ∧ Q (.bl (ds.any fun z => PyData.eqv z d)) H
theorem op_inT (hu : X.A.units + 66 < cLine) : OpR X (compareOp .In) (rInT X.K) := by
  intro pins s σ H x y v u Q I rx ry h
  obtain ⟨d, ds, hd, he, sd, se, q⟩ := h
  obtain ⟨as, r1⟩ := Dp.reads I d x v hd rx
  obtain ⟨bs, r2⟩ := Dp.reads I (.tuple ds) y u he ry
  have := SeqAt.depth_of_shaped sd
  exact SeqAt.in_tuple_reads r2 r1 (SeqAt.canLay_of_shaped se) (SeqAt.canLay_of_shaped sd) (by omega) ⟨.bl _, H, I, rfl, q⟩
end
/-! ### data of plays may be laid -/
theorem lay_nums : ∀ p : List Nat, PyData.canLayAll0 (toPys (p.map numD')) = true
  | [] => rfl
  | k :: p => lay_nums p
theorem lay_bk (k : Option Nat) : PyData.canLay0 (toPy (bkD k)) = true := by cases k <;> rfl
theorem lay_mv (m : Mv) : PyData.canLay0 (toPy (mvD m)) = true := by
  cases m with
  | say v =>
    show (PyData.canLay0 (.str "say") && (true && true)) = true
    decide +kernel
  | ask p =>
    show (PyData.canLay0 (.str "ask") && (PyData.canLayAll0 (toPys (p.map numD')) && true)) = true
    rw [lay_nums]
    decide +kernel
theorem lay_st (s : Stp) : PyData.canLay0 (toPy (stD s)) = true := by
  show (PyData.canLay0 (toPy (mvD s.mv)) && (PyData.canLay0 (toPy (bkD s.back)) && true)) = true
  rw [lay_mv, lay_bk]
  rfl
theorem lay_sts : ∀ l : List Stp, PyData.canLayAll0 (toPys (l.map stD)) = true
  | [] => rfl
  | s :: r => by
    show (PyData.canLay0 (toPy (stD s)) && PyData.canLayAll0 (toPys (r.map stD))) = true
    rw [lay_st, lay_sts r]
    rfl
theorem dep_st (s : Stp) : dep (stD s) ≤ 3 := by
  obtain ⟨m, k⟩ := s
  have hk : dep (bkD k) = 0 := by cases k <;> rfl
  cases m with
  | say v =>
    show max (dep (mvD (.say v)) + 1) (max (dep (bkD k) + 1) 0) ≤ 3
    rw [hk]
    show max (max (0 + 1) (max (0 + 1) 0) + 1) (max (0 + 1) 0) ≤ 3
    omega
  | ask p =>
    have := deps_nums p
    show max (max (0 + 1) (max (deps (p.map numD') + 1) 0) + 1) (max (dep (bkD k) + 1) 0) ≤ 3
    omega
theorem deps_st : ∀ l : List Stp, deps (l.map stD) ≤ 4
  | [] => Nat.zero_le _
  | s :: r => by
    have h1 := dep_st s
    have h2 := deps_st r
    show max (dep (stD s) + 1) (deps (r.map stD)) ≤ 4
    omega
theorem noL_st (s : Stp) : noLd (stD s) = true := by
  obtain ⟨m, k⟩ := s
  have hk : noLd (bkD k) = true := by cases k <;> rfl
  cases m with
  | say v =>
    show ((true && (true && true)) && (noLd (bkD k) && true)) = true
    rw [hk]
    rfl
  | ask p =>
    show ((true && (noLds (p.map numD') && true)) && (noLd (bkD k) && true)) = true
    rw [hk, noLd_nums]
    rfl
theorem noL_sts : ∀ l : List Stp, noLds (l.map stD) = true
  | [] => rfl
  | s :: r => by
    show (noLd (stD s) && noLds (r.map stD)) = true
    rw [noL_st, noL_sts r]
    rfl
theorem shaped_of {d : D} (h : PyData.canLay0 (toPy d) = true) (hd : dep d ≤ 60) : SeqAt.shaped (toPy d) = true := by
  unfold SeqAt.shaped
  have := depth_noL d
  rw [h, decide_eq_true (by omega)]
  rfl
theorem shaped_pl (p : List Nat) : SeqAt.shaped (toPy (plD p)) = true := shaped_of (lay_nums p) (by have := deps_nums p; show deps (p.map numD') ≤ 60; omega)
theorem shaped_st (s : Stp) : SeqAt.shaped (toPy (stD s)) = true := shaped_of (lay_st s) (by have := dep_st s; omega)
theorem shaped_play (l : List Stp) : SeqAt.shaped (toPy (playD l)) = true := shaped_of (lay_sts l) (by have := deps_st l; show deps (l.map stD) ≤ 60; omega)
theorem eqv_pl (p q : List Nat) : PyData.eqv (toPy (plD p)) (toPy (plD q)) = decide (p = q) := eqv_nums p q
section
variable {P : Program} {w : World} {K : PySem.W.Frag} {mg : Str → Option Value} {base : Heap}
/-! ### the program's small tests -/
def spWh : Sp := fun vs H Q _ => ∃ (n : Nat), vs = [.int (n : Nat)] ∧ Q (.bl true) H
theorem ok_wh {f : Addr} {fd : FuncData} (D_is_whole : Df K mg "is_whole" s_is_whole ["value"] f fd) (B : Bt mg) : FnOk P w K mg base CX0 1 f fd ["value"] spWh := by
  refine D_is_whole.ok c_is_whole (fun vs H Q E h => ?_) (fun cdv A outer s H vs Q E hr h => ?_)
  · obtain ⟨n, rfl, _⟩ := h
    rfl
  obtain ⟨n, rfl, q⟩ := h
  have nd := c_is_whole.nd
  have rv : Rep K H (.int (n : Nat)) (.at (.int (n : Nat))) := .at rfl
  refine ⟨_, (pss_one (ps_ret (pe_and (pe_callB call_isi (by rfl) B.b_isinstance (by decide +kernel) (pa_cons (pv 0) (pa_cons (pe_bltn (v := .ty "int") (by rfl) B.b_int (by decide +kernel) rfl) pa_nil))) (pe_and (pe_not (pe_callB call_isi (by rfl) B.b_isinstance (by decide +kernel) (pa_cons (pv 0) (pa_cons (pe_bltn (v := .ty "bool") (by rfl) B.b_bool (by decide +kernel) rfl) pa_nil)))) (pe_one (pe_cmpR op_ge (pv 0) pe_int (nomark _))))))), ?_⟩
  refine ⟨_, rfl, _, _, _, _, _, rfl, .ty _, rep_ty rv, kit_ty (kit_int _), ⟨_, rfl, ?_⟩⟩
  refine iteT ⟨_, rfl, _, _, _, _, _, rfl, .ty _, rep_ty rv, kit_ty (kit_bool _), ⟨_, rfl, ⟨_, rfl, iteT ⟨_, rfl, _, _, rfl, rfl, ?_⟩⟩⟩⟩
  show Q (.bl (decide ((0 : Int) ≤ (n : Int)))) H
  rw [decide_eq_true (by omega)]
  exact q
def spAn : Sp := fun vs H Q _ => ∃ (n : Nat), vs = [.int (n : Nat)] ∧ n ≤ 1 ∧ Q (.bl true) H
theorem ok_an {f g : Addr} {fd gd : FuncData} (D_is_answer : Df K mg "is_answer" s_is_answer ["value"] f fd) (D_is_whole : Df K mg "is_whole" s_is_whole ["value"] g gd) (B : Bt mg) : FnOk P w K mg base CX0 2 f fd ["value"] spAn := by
  have G_is_whole : FnOk P w K mg base CX0 1 g gd ["value"] spWh := ok_wh D_is_whole B
  refine D_is_answer.ok c_is_answer (fun vs H Q E h => ?_) (fun cdv A outer s H vs Q E hr h => ?_)
  · obtain ⟨n, rfl, _⟩ := h
    rfl
  obtain ⟨n, rfl, hn, q⟩ := h
  have nd := c_is_answer.nd
  refine ⟨_, (pss_one (ps_ret (pe_and (pe_call G_is_whole (hr.mono (by first | decide | omega)) (by rfl) D_is_whole.m D_is_whole.kp D_is_whole.b .nil pass0 (pa_cons (pv 0) pa_nil)) (pe_one (pe_cmpR op_le (pv 0) pe_int (nomark _)))))), ?_⟩
  refine ⟨_, rfl, n, rfl, ⟨_, rfl, iteT ⟨_, rfl, _, _, rfl, rfl, ?_⟩⟩⟩
  show Q (.bl (decide ((n : Int) ≤ 1))) H
  rw [decide_eq_true (by omega)]
  exact q
def spTu (K : PySem.W.Frag) : Sp := fun vs H Q _ => ∃ (v : V) (ts : List D), vs = [v, .int 2] ∧ Rep K H v (.tup ts) ∧ ts.length = 2 ∧ Q (.bl true) H
theorem ok_tu {f : Addr} {fd : FuncData} (D_is_tuple_of : Df K mg "is_tuple_of" s_is_tuple_of ["value", "many"] f fd) (B : Bt mg) : FnOk P w K mg base CX0 1 f fd ["value", "many"] (spTu K) := by
  refine D_is_tuple_of.ok c_is_tuple_of (fun vs H Q E h => ?_) (fun cdv A outer s H vs Q E hr h => ?_)
  · obtain ⟨v, ts, rfl, _⟩ := h
    rfl
  obtain ⟨v, ts, rfl, rv, hl, q⟩ := h
  have nd := c_is_tuple_of.nd
  refine ⟨_, (pss_one (ps_ret (pe_and (pe_callB call_isi (by rfl) B.b_isinstance (by decide +kernel) (pa_cons (pv 0) (pa_cons (pe_bltn (v := .ty "tuple") (by rfl) B.b_tuple (by decide +kernel) rfl) pa_nil))) (pe_one (pe_cmpR op_eq (pe_callB call_len_seq (by rfl) B.b_len PySem.boot_len (pa_cons (pv 0) pa_nil)) (pv 1) (nomark _)))))), ?_⟩
  refine ⟨_, rfl, _, _, _, _, _, rfl, .ty _, rep_ty rv, kit_ty (kit_tup _), ⟨_, rfl, ?_⟩⟩
  obtain ⟨a, xs, rfl, hx, rx⟩ := rv.inv
  have lx := rx.length
  refine iteT ⟨_, rfl, a, xs, rfl, .inr hx.sq, _, rfl, rfl, ?_⟩
  rw [decide_eq_true (congrArg V.int (by omega))]
  exact q
/-! ### kind_at -/
def spKA (K : PySem.W.Frag) : Sp := fun vs H Q _ => ∃ (v x : V) (d : D) (p : List Nat), vs = [v, x] ∧ Rep K H v d ∧ isK d = true ∧ Rep K H x (plD p) ∧ (atD d p = none → Q .non H) ∧ ∀ z e, atD d p = some e → Rep K H z e → Q z H
theorem ok_ka {f : Addr} {fd : FuncData} (D_kind_at : Df K mg "kind_at" s_kind_at ["kind", "place"] f fd) (B : Bt mg) : FnOk P w K mg base CX0 1 f fd ["kind", "place"] (spKA K) := by
  refine D_kind_at.ok c_kind_at (fun vs H Q E h => ?_) (fun cdv A outer s H vs Q E hr h => ?_)
  · obtain ⟨v, x, d, p, rfl, _⟩ := h
    rfl
  obtain ⟨v, x, d, p, rfl, rv, hk, rx, q0, q⟩ := h
  have nd := c_kind_at.nd
  refine ⟨_, (pss_cons (ps_for PassesOwn.never rfl (pi_tup (pv 1)) (pg_name (i := 2) nd rfl (Or.inl rfl)) (pss_cons (ps_if (pt_not (pt_chain op_le op_lt pe_int (pv 2) (pe_callB call_len_seq (by rfl) B.b_len PySem.boot_len (pa_cons (pv 0) pa_nil)))) (pss_one (ps_ret pe_non)) pss_nil)
  (pss_one (ps_set (i := 0) nd rfl (Or.inl rfl) (pe_ix ix_tup (pv 0) (pv 2) (fun _ _ => rfl))))))
  (pss_one (ps_ret (pv 0)))), ?_⟩
  obtain ⟨a, xs, rfl, hx, rxs⟩ := Rep.inv (ts := p.map numD') rx
  have ex := rep_nats_inv rxs
  subst ex
  refine ⟨_, rfl, a, rfl, ⟨_, hx.sq⟩, for_tup (K := K) (a := a) (xs := nats p) (fun i σ H' => H' = H ∧ ∃ (v' : V) (d' : D) (y2 : Option V), σ = [some v', some (.ref a), y2] ∧ Rep K H v' d' ∧ isK d' = true ∧ atD d' (p.drop i) = atD d p)
    ⟨rfl, v, d, none, rfl, rv, hk, rfl⟩ (fun i σ H' _ h => by rw [h.1]; exact hx.sq) ?_ ?_⟩
  · rintro i x σ H' hi ⟨rfl, v', d', y2, rfl, rv', hk', e'⟩
    obtain ⟨k, hk2, rfl⟩ := nats_at hi
    have hil := (List.getElem?_eq_some_iff.mp hk2).1
    have ek : p[i] = k := by
      have := List.getElem?_eq_getElem hil
      rw [hk2] at this
      exact (Option.some.inj this).symm
    rw [List.drop_eq_getElem_cons hil, ek] at e'
    obtain ⟨ts, rfl, hts⟩ := isK_inv hk'
    obtain ⟨b, ys, rfl, hy, ry⟩ := rv'.inv
    have ly := ry.length
    refine ⟨_, rfl, _, _, rfl, rfl, _, rfl, ite2 (fun _ => ?_) (fun z => absurd (decide_eq_true (by omega)) z)⟩
    refine ⟨_, rfl, b, ys, rfl, .inr hy.sq, _, _, rfl, rfl, _, rfl, ?_⟩
    by_cases hlt : k < ts.length
    · have ht : ts[k]? = some ts[k] := List.getElem?_eq_getElem hlt
      obtain ⟨y, hy2, ry2⟩ := ry.getD ht
      have e2 : atD ts[k] (p.drop (i + 1)) = atD d p := by
        rw [← e']
        show _ = (match ts[k]? with | some t => atD t (p.drop (i + 1)) | none => none)
        rw [ht]
      rw [decide_eq_true (show ((k : Nat) : Int) < ((ys.length : Nat) : Int) by omega)]
      exact iteF ⟨_, rfl, _, rfl, b, ys, _, _, rfl, rfl, hy.sq, atI_nat hy2, rfl, _, ts[k], _, rfl, ry2, isK_mem hts (List.mem_of_getElem? ht), e2⟩
    · have e2 : atD d p = none := by
        rw [← e']
        show (match ts[k]? with | some t => atD t (p.drop (i + 1)) | none => none) = none
        rw [List.getElem?_eq_none (by omega)]
      rw [decide_eq_false (show ¬ ((k : Nat) : Int) < ((ys.length : Nat) : Int) by omega)]
      exact iteT (q0 e2)
  · rintro σ H' ⟨rfl, v', d', y2, rfl, rv', hk', e'⟩
    rw [nats_len, List.drop_length] at e'
    have e0 : some d' = atD d p := by rw [← e']; cases d' <;> rfl
    exact ⟨_, rfl, q _ _ e0.symm rv'⟩
/-! ### _is_move -/
def spIM (K : PySem.W.Frag) : Sp := fun vs H Q _ => ∃ (v : V) (m : Mv), vs = [v] ∧ Rep K H v (mvD m) ∧ (∀ u, m = .say u → u ≤ 1) ∧ (∀ p, m = .ask p → p.length ≤ 1000) ∧ ∀ H', Same H H' → Q (.bl true) H'
theorem ok_im {f f1 f2 f3 : Addr} {fd d1 d2 d3 : FuncData} (D__is_move : Df K mg "_is_move" s__is_move ["value"] f fd) (D_is_tuple_of : Df K mg "is_tuple_of" s_is_tuple_of ["value", "many"] f1 d1) (D_is_whole : Df K mg "is_whole" s_is_whole ["value"] f2 d2) (D_is_answer : Df K mg "is_answer" s_is_answer ["value"] f3 d3) (B : Bt mg) :
    FnOk P w K mg base CX0 3 f fd ["value"] (spIM K) := by
  have G_is_tuple_of : FnOk P w K mg base CX0 1 f1 d1 ["value", "many"] (spTu K) := ok_tu D_is_tuple_of B
  have G_is_whole : FnOk P w K mg base CX0 1 f2 d2 ["value"] spWh := ok_wh D_is_whole B
  have G_is_answer : FnOk P w K mg base CX0 2 f3 d3 ["value"] spAn := ok_an D_is_answer D_is_whole B
  refine D__is_move.ok c__is_move (fun vs H Q E h => ?_) (fun cdv A outer s H vs Q E hr h => ?_)
  · obtain ⟨v, m, rfl, _⟩ := h
    rfl
  obtain ⟨v, m, rfl, rv, hs, hp, q⟩ := h
  have nd := c__is_move.nd
  refine ⟨_, (pss_cons (ps_if (pt_not (pt_val (pe_call G_is_tuple_of (hr.mono (by first | decide | omega)) (by rfl) D_is_tuple_of.m D_is_tuple_of.kp D_is_tuple_of.b .nil pass0 (pa_cons (pv 0) (pa_cons pe_int pa_nil))))) (pss_one (ps_ret pe_bl)) pss_nil)
  (pss_cons (ps_asg (pv 0) (pg_tup rfl (pgs_cons (pg_name (i := 1) nd rfl (Or.inl rfl)) (pgs_cons (pg_name (i := 2) nd rfl (Or.inl rfl)) pgs_nil))))
  (pss_cons (ps_if (pt_cmpR op_eq (pv 1) pe_str (nomark _)) (pss_one (ps_ret (pe_and (pe_callB call_isi (by rfl) B.b_isinstance (by decide +kernel) (pa_cons (pv 2) (pa_cons (pe_bltn (v := .ty "tuple") (by rfl) B.b_tuple (by decide +kernel) rfl) pa_nil))) (pe_one (pe_callB (cr_all rfl) (by rfl) B.b_all (by decide +kernel) (pa_cons (pe_lc (own := [("number", 3)]) (g := (gName 3)) (tt := tYes) rfl nd (pi_tup (pv 2)) (blkOk_by (own := [("number", 3)]) (N := ["value", "word", "told", "number"]) (sc := defScope s__is_move) (by decide +kernel)) (fun _ _ _ _ _ => (pg_name (i := 3) nd rfl (Or.inl rfl))) (fun _ _ _ _ _ => pts_nil) (fun _ _ _ _ _ => (pe_call G_is_whole (hr.mono (by first | decide | omega)) (by rfl) D_is_whole.m D_is_whole.kp D_is_whole.b .nil pass0 (pa_cons (pv 3) pa_nil)))) pa_nil)))))) pss_nil)
  (pss_one (ps_ret (pe_and (pe_cmpR op_eq (pv 1) pe_str (nomark _)) (pe_one (pe_call G_is_answer (hr.mono (by first | decide | omega)) (by rfl) D_is_answer.m D_is_answer.kp D_is_answer.b .nil pass0 (pa_cons (pv 2) pa_nil))))))))), ?_⟩
  cases m with
  | say u =>
    obtain ⟨a, rfl, ha⟩ := say_inv rv
    refine ⟨_, rfl, .ref a, _, rfl, rv, rfl, _, rfl, iteF ⟨_, rfl, a, _, rfl, ha.sq, rfl, _, _, rfl, _, _, rfl, rfl, ?_⟩⟩
    exact ⟨_, rfl, rfl, _, rfl, iteF ⟨_, rfl, rfl, ⟨_, rfl, iteT ⟨_, rfl, u, rfl, hs u rfl, q _ (Same.refl _)⟩⟩⟩⟩
  | ask p =>
    obtain ⟨a, x, rfl, ha, rx⟩ := ask_inv rv
    refine ⟨_, rfl, .ref a, _, rfl, rv, rfl, _, rfl, iteF ⟨_, rfl, a, _, rfl, ha.sq, rfl, _, _, rfl, _, _, rfl, rfl, ?_⟩⟩
    refine ⟨_, rfl, rfl, _, rfl, iteT ⟨_, rfl, _, _, _, _, _, rfl, .ty _, rep_ty rx, kit_ty (kit_tup _), ⟨_, rfl, iteT ?_⟩⟩⟩
    obtain ⟨b, xs, rfl, hb, rxs⟩ := Rep.inv (ts := p.map numD') rx
    have ex := rep_nats_inv rxs
    subst ex
    have hpl := hp p rfl
    refine ⟨_, rfl, b, rfl, ⟨_, hb.sq⟩, fun d hd => ?_⟩
    refine lc_tup (K := K) (a := b) (xs := nats p) (fun i H' => Same H H' ∧ H' d = some (.lst ((List.replicate i true).map V.bl))) ⟨same_new hd _, upd_same⟩ (fun i H' _ h => (hb.same h.1).sq) ?_ ?_
    · rintro i x H1 hi ⟨s1, hd1⟩
      obtain ⟨k, hk, rfl⟩ := nats_at hi
      have hil := (List.getElem?_eq_some_iff.mp hk).1
      refine ⟨rfl, yes_go ⟨_, rfl, k, rfl, _, hd1, small6 (by rw [List.length_map, List.length_replicate]; omega), fun z o e => ?_, ?_⟩⟩
      · rw [upd_ne (ne_of_none e hd)]
        exact s1 _ _ e
      · rw [upd_same, List.replicate_succ', List.map_append]
        rfl
    · rintro H1 ⟨s1, hd1⟩
      refine ⟨d, _, rfl, SqL.of hd1, ?_⟩
      have e : (List.replicate (nats p).length true).all id = true := List.all_eq_true.mpr fun b hb => (List.mem_replicate.mp hb).2
      rw [e]
      exact q _ s1
/-! ### _is_later_step -/
def spIL (K : PySem.W.Frag) : Sp := fun vs H Q _ => ∃ (v : V) (n j : Nat) (s : Stp), vs = [v, .int (n : Nat)] ∧ Rep K H v (stD s) ∧ s.back = some j ∧ j < n ∧ ShS s ∧ (∀ p, s.mv = .ask p → p.length ≤ 1000) ∧ ∀ H', Same H H' → Q (.bl true) H'
theorem ok_il {f f0 f1 f2 f3 : Addr} {fd d0 d1 d2 d3 : FuncData} (D__is_later_step : Df K mg "_is_later_step" s__is_later_step ["value", "number"] f fd) (D__is_move : Df K mg "_is_move" s__is_move ["value"] f0 d0) (D_is_tuple_of : Df K mg "is_tuple_of" s_is_tuple_of ["value", "many"] f1 d1)
    (D_is_whole : Df K mg "is_whole" s_is_whole ["value"] f2 d2) (D_is_answer : Df K mg "is_answer" s_is_answer ["value"] f3 d3) (B : Bt mg) : FnOk P w K mg base CX0 4 f fd ["value", "number"] (spIL K) := by
  have G_is_tuple_of : FnOk P w K mg base CX0 1 f1 d1 ["value", "many"] (spTu K) := ok_tu D_is_tuple_of B
  have G_is_whole : FnOk P w K mg base CX0 1 f2 d2 ["value"] spWh := ok_wh D_is_whole B
  have G__is_move : FnOk P w K mg base CX0 3 f0 d0 ["value"] (spIM K) := ok_im D__is_move D_is_tuple_of D_is_whole D_is_answer B
  refine D__is_later_step.ok c__is_later_step (fun vs H Q E h => ?_) (fun cdv A outer s H vs Q E hr h => ?_)
  · obtain ⟨v, n, j, s, rfl, _⟩ := h
    rfl
  obtain ⟨v, n, j, st, rfl, rv, hb, hj, hs, hp, q⟩ := h
  have nd := c__is_later_step.nd
  refine ⟨_, (pss_one (ps_ret (pe_and (pe_call G_is_tuple_of (hr.mono (by first | decide | omega)) (by rfl) D_is_tuple_of.m D_is_tuple_of.kp D_is_tuple_of.b .nil pass0 (pa_cons (pv 0) (pa_cons pe_int pa_nil))) (pe_and (pe_call G__is_move (hr.mono (by first | decide | omega)) (by rfl) D__is_move.m D__is_move.kp D__is_move.b .nil pass0 (pa_cons (pe_ix ix_tup (pv 0) pe_int (fun _ _ => rfl)) pa_nil)) (pe_and (pe_call G_is_whole (hr.mono (by first | decide | omega)) (by rfl) D_is_whole.m D_is_whole.kp D_is_whole.b .nil pass0 (pa_cons (pe_ix ix_tup (pv 0) pe_int (fun _ _ => rfl)) pa_nil)) (pe_one (pe_cmpR op_lt (pe_ix ix_tup (pv 0) pe_int (fun _ _ => rfl)) (pv 1) (nomark _)))))))), ?_⟩
  obtain ⟨a, m, b, rfl, ha, rm, rb⟩ := step_inv rv
  rw [hb] at rb
  obtain ⟨rfl, _⟩ := Rep.inva (w := V.int (j : Nat)) rb
  refine ⟨_, rfl, .ref a, _, rfl, rv, rfl, ⟨_, rfl, iteT ?_⟩⟩
  refine ⟨_, rfl, a, _, 0, _, rfl, rfl, ha.sq, atI_nat (j := 0) rfl, m, st.mv, rfl, rm, hs, hp, fun H1 s1 => ⟨_, rfl, iteT ?_⟩⟩
  refine ⟨_, rfl, a, _, 1, _, rfl, rfl, (ha.same s1).sq, atI_nat (j := 1) rfl, j, rfl, ⟨_, rfl, iteT ?_⟩⟩
  refine ⟨_, rfl, a, _, 1, _, rfl, rfl, (ha.same s1).sq, atI_nat (j := 1) rfl, _, rfl, _, _, rfl, rfl, ?_⟩
  show Q (.bl (decide ((j : Int) < (n : Int)))) H1
  rw [decide_eq_true (by omega)]
  exact q _ s1
theorem cut_init (p : List Nat) : cutV (nats p) none (some (-1)) = nats p.dropLast := by
  unfold cutV
  rw [nats_len]
  have e1 : HT.sIx p.length 0 none = 0 := rfl
  have e2 : HT.sIx p.length p.length (some (-1)) = p.length - 1 := by
    unfold HT.sIx
    first | (simp; omega) | (split <;> omega) | (simp only; split <;> omega)
  rw [e1, e2, List.drop_zero, Nat.sub_zero, List.dropLast_eq_take]
  unfold nats
  rw [List.map_take]
/-! ### _is_placed -/
def spPl (K : PySem.W.Frag) : Sp := fun vs H Q _ => ∃ (kv mv av : V) (kd : D) (m am : Mv) (pl : List Stp) (j : Nat) (b : Option Nat), vs = [kv, mv, av] ∧ Rep K H kv kd ∧ isK kd = true ∧ Rep K H mv (mvD m) ∧ Rep K H av (mvD am) ∧ pl[j]? = some ⟨am, b⟩ ∧ ∀ H', Same H H' → Q (.bl (plB kd pl j m)) H'
theorem ok_plc {f f1 : Addr} {fd d1 : FuncData} (D__is_placed : Df K mg "_is_placed" s__is_placed ["kind", "move", "answered"] f fd) (D_kind_at : Df K mg "kind_at" s_kind_at ["kind", "place"] f1 d1) (B : Bt mg) : FnOk P w K mg base CX0 2 f fd ["kind", "move", "answered"] (spPl K) := by
  have G_kind_at : FnOk P w K mg base CX0 1 f1 d1 ["kind", "place"] (spKA K) := ok_ka D_kind_at B
  refine D__is_placed.ok c__is_placed (fun vs H Q E h => ?_) (fun cdv A outer s H vs Q E hr h => ?_)
  · obtain ⟨kv, mv, av, kd, m, am, pl, j, b, rfl, _⟩ := h
    rfl
  obtain ⟨kv, mv, av, kd, m, am, pl, j, b, rfl, rk, hk, rm, ra, hj, q⟩ := h
  have nd := c__is_placed.nd
  refine ⟨_, (pss_cons (ps_if (pt_cmpR op_ne (pe_ix ix_tup (pv 2) pe_int (fun _ _ => rfl)) pe_str (nomark _)) (pss_one (ps_ret pe_bl)) pss_nil)
  (pss_cons (ps_if (pt_cmpR op_eq (pe_ix ix_tup (pv 1) pe_int (fun _ _ => rfl)) pe_str (nomark _)) (pss_one (ps_ret pe_bl)) pss_nil)
  (pss_cons (ps_set (i := 3) nd rfl (Or.inl rfl) (pe_ix ix_tup (pv 1) pe_int (fun _ _ => rfl)))
  (pss_one (ps_ret (pe_and (pe_cmpR (op_neNilT hr.units) (pv 3) (pe_tup pa_nil) (nomark _)) (pe_and (pe_cmpR (op_eqD hr.units) (pe_slice sl_tupP (pv 3) po_none (po_some (pe_un un_neg pe_int))) (pe_ix ix_tup (pv 2) pe_int (fun _ _ => rfl)) (nomark _)) (pe_one (pe_cmpR op_notN (pe_call G_kind_at (hr.mono (by first | decide | omega)) (by rfl) D_kind_at.m D_kind_at.kp D_kind_at.b .nil pass0 (pa_cons (pv 0) (pa_cons (pv 3) pa_nil))) pe_non (nomark _)))))))))), ?_⟩
  cases am with
  | say u =>
    obtain ⟨a, rfl, ha⟩ := say_inv ra
    have e : plB kd pl j m = false := by
      unfold plB
      rw [askPl_say hj]
    rw [e] at q
    exact ⟨_, rfl, a, _, 0, _, rfl, rfl, ha.sq, atI_nat (j := 0) rfl, rfl, _, rfl, iteT (q _ (Same.refl _))⟩
  | ask r =>
    obtain ⟨a, x, rfl, ha, rx⟩ := ask_inv ra
    refine ⟨_, rfl, a, _, 0, _, rfl, rfl, ha.sq, atI_nat (j := 0) rfl, rfl, _, rfl, iteF ?_⟩
    cases m with
    | say u =>
      obtain ⟨c, rfl, hc⟩ := say_inv rm
      have e : plB kd pl j (.say u) = true := by
        unfold plB
        rw [askPl_of hj]
      rw [e] at q
      exact ⟨_, rfl, c, _, 0, _, rfl, rfl, hc.sq, atI_nat (j := 0) rfl, rfl, _, rfl, iteT (q _ (Same.refl _))⟩
    | ask p =>
      obtain ⟨c, y, rfl, hc, ry⟩ := ask_inv rm
      have e : plB kd pl j (.ask p) = (decide (p ≠ []) && (decide (p.dropLast = r) && (atD kd p).isSome)) := by
        unfold plB
        rw [askPl_of hj]
      rw [e] at q
      refine ⟨_, rfl, c, _, 0, _, rfl, rfl, hc.sq, atI_nat (j := 0) rfl, rfl, _, rfl, iteF ?_⟩
      refine ⟨_, rfl, c, _, 1, _, rfl, rfl, hc.sq, atI_nat (j := 1) rfl, ?_⟩
      obtain ⟨yb, ys, rfl, hy, rys⟩ := Rep.inv (ts := p.map numD') ry
      have ey := rep_nats_inv rys
      subst ey
      refine ⟨_, rfl, (by show 0 ≤ sizeLine; decide), fun t nt => ⟨yb, t, nats p, rfl, rfl, ((hy.same (same_new nt _)).sq), .inl (.inl upd_same), ?_⟩⟩
      have st := same_new nt (.tup [])
      by_cases h0 : p = []
      · subst h0
        exact ⟨_, rfl, iteF (q _ st)⟩
      · have hne : (!(nats p).isEmpty) = true := by
          cases p with
          | nil => exact absurd rfl h0
          | cons _ _ => rfl
        rw [hne]
        refine ⟨_, rfl, iteT ?_⟩
        rw [decide_eq_true h0, Bool.true_and] at q
        refine ⟨_, rfl, 1, rfl, -1, rfl, yb, nats p, rfl, hy.same st, fun z H1 s1 hz => ?_⟩
        have s2 := st.trans s1
        have ec : cutV (nats p) none (some (-1)) = nats p.dropLast := cut_init p
        rw [ec] at hz
        refine ⟨_, rfl, a, _, 1, _, rfl, rfl, (ha.same s2).sq, atI_nat (j := 1) rfl, _, _, dp_noL (.tup hz (reps_nats p.dropLast) : Rep K H1 (.ref z) (plD p.dropLast)) (noLd_nums _), dp_noL (rx.mono (kx_same s2)) (noLd_nums _), shaped_pl _, shaped_pl _, ?_⟩
        rw [show PyData.eqv (toPy (D.tup (p.dropLast.map numD'))) (toPy (plD r)) = decide (p.dropLast = r) from eqv_pl _ _]
        by_cases h1 : p.dropLast = r
        · rw [decide_eq_true h1] at q ⊢
          refine ⟨_, rfl, iteT ?_⟩
          rw [Bool.true_and] at q
          refine ⟨_, rfl, _, rfl, kv, .ref yb, kd, p, rfl, rk.mono (kx_same s2), hk, ry.mono (kx_same s2), fun h2 => ?_, fun w2 e2 h2 rw2 => ?_⟩
          · rw [h2] at q
            exact ⟨rfl, q _ s2⟩
          · rw [h2] at q
            refine ⟨rfl, ?_⟩
            obtain ⟨ke, _⟩ := atD_kind p kd e2 hk h2
            obtain ⟨ts, rfl, _⟩ := isK_inv ke
            obtain ⟨a4, x4, rfl, _⟩ := rw2.inv
            exact q _ s2
        · rw [decide_eq_false h1] at q ⊢
          exact ⟨_, rfl, iteF (q _ s2)⟩
end
end
end Pk

set_option maxRecDepth 100000
set_option maxHeartbeats 1000000
set_option pp.maxSteps 300
namespace Pk
open PySem PySem.Spec PyProof.Rows L2
section
variable {P : Program} {w : World} {K : PySem.W.Frag} {mg : Str → Option Value} {base : Heap}
/-! ### _reason_against -/
def WtAt (K : PySem.W.Frag) (H : Hp) (l : Addr) (ns : List Nat) : Prop := SqL K H l (nats ns) ∨ SqT K H l (nats ns)
def spRA (K : PySem.W.Frag) : Sp := fun vs H Q _ => ∃ (kv v sv : V) (l : Addr) (kd : D) (pl : List Stp) (ns : List Nat) (s : Stp), vs = [kv, v, .ref l, sv] ∧ Rep K H kv kd ∧ isK kd = true ∧ Rep K H v (playD pl) ∧ WtAt K H l ns ∧ (∀ H', Same H H' → WtAt K H' l ns) ∧ Rep K H sv (stD s) ∧ WB pl ∧ pl.length ≤ 500 ∧
  ((pl = [] ∧ s = BEG ∧ ∀ H', Same H H' → Q .non H') ∨ (pl ≠ [] ∧ ∃ j, s.back = some j ∧ j < pl.length ∧ ShS s ∧ (∀ p, s.mv = .ask p → p.length ≤ 1000) ∧ (∀ H', Same H H' → lgB kd pl ns s = true → Q .non H') ∧ ∀ x H', Same H H' → lgB kd pl ns s = false → Q (.str x) H'))
theorem inV_iff {ns : List Nat} {j : Nat} : inV (.int (j : Nat)) (nats ns) = decide (j ∈ ns) := by
  cases h : inV (.int (j : Nat)) (nats ns) with
  | true => exact (decide_eq_true (inV_nats h)).symm
  | false => exact (decide_eq_false fun z => by rw [inV_of z] at h; cases h).symm
theorem last_at {ns : List Nat} {k : Nat} (h : ns.getLast? = some k) : atI (nats ns) (-1) = some (V.int (k : Nat)) := by
  have hl : 0 < (nats ns).length := by
    rw [nats_len]
    cases ns with
    | nil => cases h
    | cons _ _ => exact Nat.succ_pos _
  unfold atI ixN
  rw [if_neg (by omega), if_pos (by omega)]
  show (nats ns)[(-1 + ((nats ns).length : Int)).toNat]? = _
  rw [show (-1 + ((nats ns).length : Int)).toNat = (nats ns).length - 1 by omega, nats_len]
  unfold nats
  rw [List.getElem?_map, ← List.getLast?_eq_getElem?, h]
  rfl
theorem ok_ra {bg f f0 f1 f2 f3 f4 f5 f6 f7 : Addr} {fd d0 d1 d2 d3 d4 d5 d6 d7 : FuncData} (hBG : mg "BEGINNING" = some (.ref bg)) (hKB : ∀ H, Rep K H (.ref bg) (stD BEG)) (D__reason_against : Df K mg "_reason_against" s__reason_against ["kind", "play", "waiting", "step"] f fd)
    (D__is_later_step : Df K mg "_is_later_step" s__is_later_step ["value", "number"] f0 d0) (D__is_move : Df K mg "_is_move" s__is_move ["value"] f1 d1) (D_is_tuple_of : Df K mg "is_tuple_of" s_is_tuple_of ["value", "many"] f2 d2)
    (D_is_whole : Df K mg "is_whole" s_is_whole ["value"] f3 d3) (D_is_answer : Df K mg "is_answer" s_is_answer ["value"] f4 d4) (D__is_placed : Df K mg "_is_placed" s__is_placed ["kind", "move", "answered"] f5 d5) (D_kind_at : Df K mg "kind_at" s_kind_at ["kind", "place"] f6 d6)
    (D__sight_behind : Df K mg "_sight_behind" s__sight_behind ["play"] f7 d7) (B : Bt mg) : FnOk P w K mg base CX0 5 f fd ["kind", "play", "waiting", "step"] (spRA K) := by
  have G__is_later_step : FnOk P w K mg base CX0 4 f0 d0 ["value", "number"] (spIL K) := ok_il D__is_later_step D__is_move D_is_tuple_of D_is_whole D_is_answer B
  have G__is_placed : FnOk P w K mg base CX0 2 f5 d5 ["kind", "move", "answered"] (spPl K) := ok_plc D__is_placed D_kind_at B
  have G__sight_behind : FnOk P w K mg base CX0 1 f7 d7 ["play"] (spSB K) := ok_sb D__sight_behind B
  refine D__reason_against.ok c__reason_against (fun vs H Q E h => ?_) (fun cdv A outer s H vs Q E hr h => ?_)
  · obtain ⟨kv, v, sv, l, kd, pl, ns, s, rfl, _⟩ := h
    rfl
  obtain ⟨kv, v, sv, l, kd, pl, ns, st, rfl, rk, hk, rv, hw, hws, rs, hwb, hlen, h⟩ := h
  have nd := c__reason_against.nd
  refine ⟨_, (pss_cons (ps_set (i := 4) nd rfl (Or.inl rfl) (pe_callB call_len_seq (by rfl) B.b_len PySem.boot_len (pa_cons (pv 1) pa_nil)))
  (pss_cons (ps_if (pt_cmpR op_eq (pv 4) pe_int (nomark _)) (pss_one (ps_ret (pe_ifExp (pt_cmpR (op_eqD hr.units) (pv 3) (pe_glob rfl hBG (rel_ref _)) (nomark _)) pe_non pe_str))) pss_nil)
  (pss_cons (ps_if (pt_not (pt_val (pe_call G__is_later_step (hr.mono (by first | decide | omega)) (by rfl) D__is_later_step.m D__is_later_step.kp D__is_later_step.b .nil pass0 (pa_cons (pv 3) (pa_cons (pv 4) pa_nil))))) (pss_one (ps_ret pe_str)) pss_nil)
  (pss_cons (ps_asg (pv 3) (pg_tup rfl (pgs_cons (pg_name (i := 5) nd rfl (Or.inl rfl)) (pgs_cons (pg_name (i := 6) nd rfl (Or.inl rfl)) pgs_nil))))
  (pss_cons (ps_if (pt_cmpR op_eq (pe_op op_mod (pe_op op_sub (pv 4) (pv 6)) pe_int) pe_int (nomark _)) (pss_one (ps_ret pe_str)) pss_nil)
  (pss_cons (ps_if (pt_not (pt_val (pe_call G__is_placed (hr.mono (by first | decide | omega)) (by rfl) D__is_placed.m D__is_placed.kp D__is_placed.b .nil pass0 (pa_cons (pv 0) (pa_cons (pv 5) (pa_cons (pe_ix ix_tup (pe_ix ix_tup (pv 1) (pv 6) (fun _ _ => rfl)) pe_int (fun _ _ => rfl)) pa_nil)))))) (pss_one (ps_ret pe_str)) pss_nil)
  (pss_cons (ps_if (PW.pt (pw_and (pt_cmpR op_eq (pe_ix ix_tup (pv 5) pe_int (fun _ _ => rfl)) pe_str (nomark _)) (pw_and1 (pt_cmpR op_notIn_seq (pv 6) (pv 2) rfl)))) (pss_one (ps_ret pe_str)) pss_nil)
  (pss_cons (ps_if (PW.pt (pw_and (pt_cmpR op_eq (pe_ix ix_tup (pv 5) pe_int (fun _ _ => rfl)) pe_str (nomark _)) (pw_and1 (pt_cmpR op_ne (pv 6) (pe_ix (IxR.or ix_list ix_tup) (pv 2) (pe_un un_neg pe_int) (fun _ _ => rfl)) (nomark _))))) (pss_one (ps_ret pe_str)) pss_nil)
  (pss_cons (ps_if (pt_cmpR op_notIn_seq (pv 6) (pe_call G__sight_behind (hr.mono (by first | decide | omega)) (by rfl) D__sight_behind.m D__sight_behind.kp D__sight_behind.b .nil pass0 (pa_cons (pv 1) pa_nil)) rfl) (pss_one (ps_ret pe_str)) pss_nil)
  (pss_one (ps_ret pe_non))))))))))), ?_⟩
  obtain ⟨a, xs, rfl, ha, rxs, lx⟩ := play_inv rv
  refine ⟨_, rfl, a, xs, rfl, .inr ha.sq, ?_⟩
  rcases h with ⟨e0, rfl, q⟩ | ⟨hne, j, hb, hj, hsh, hsl, q1, q2⟩
  · subst e0
    have lz : xs.length = 0 := lx
    refine ⟨_, rfl, rfl, _, rfl, ite2 (fun z => ?_) (fun z => absurd (decide_eq_true (by rw [lz]; rfl)) z)⟩
    refine ⟨_, rfl, _, _, dp_noL rs (noL_st _), dp_noL (hKB H) (noL_st _), shaped_st _, shaped_st _, _, rfl, ?_⟩
    rw [show PyData.eqv (toPy (stD BEG)) (toPy (stD BEG)) = true by decide +kernel]
    exact iteT (q _ (Same.refl _))
  have hp : 0 < pl.length := List.length_pos_iff.mpr hne
  refine ⟨_, rfl, rfl, _, rfl, ite2 (fun z => ?_) (fun _ => ?_)⟩
  · have := V.int.inj (of_decide_eq_true z)
    omega
  have eln : V.int ((xs.length : Nat) : Int) = V.int ((pl.length : Nat) : Int) := by rw [lx]
  refine ⟨_, rfl, _, rfl, sv, pl.length, j, st, by rw [lx]; rfl, rs, hb, hj, hsh, hsl, fun H1 s1 => ⟨_, rfl, iteF ?_⟩⟩
  obtain ⟨b, m, bv, rfl, hbs, rm, rb⟩ := step_inv rs
  rw [hb] at rb
  obtain ⟨rfl, _⟩ := Rep.inva (w := V.int (j : Nat)) rb
  refine ⟨_, rfl, b, _, rfl, (hbs.same s1).sq, rfl, _, _, rfl, _, _, rfl, rfl, ?_⟩
  have el : lgB kd pl ns st = (decide ((pl.length - j) % 2 = 1) && (plB kd pl j st.mv && ((match st.mv with
    | .ask _ => true
    | .say _ => decide (ns.getLast? = some j)) && decide (j ∈ sight pl (pl.length - 1))))) := by
    unfold lgB
    rw [hb] <;> rfl
  rw [el] at q1 q2
  refine ⟨_, rfl, _, rfl, _, _, rfl, rfl, _, _, rfl, rfl, (by show (0 : Int) < 2; decide), rfl, _, rfl, ite2 (fun z => ?_) (fun z => ?_)⟩
  · have h0 : (((xs.length : Nat) : Int) - (j : Int)) % 2 = 0 := V.int.inj (of_decide_eq_true z)
    refine q2 _ _ s1 ?_
    rw [decide_eq_false (by omega), Bool.false_and]
  have hodd : (pl.length - j) % 2 = 1 := by
    have h0 : ¬ (((xs.length : Nat) : Int) - (j : Int)) % 2 = 0 := fun e => z (decide_eq_true (congrArg V.int e))
    omega
  rw [decide_eq_true hodd, Bool.true_and] at q1 q2
  have ep : pl[j]? = some pl[j] := List.getElem?_eq_getElem hj
  obtain ⟨x, hx, rx⟩ := play_at rxs ep
  obtain ⟨a2, m2, b2, rfl, ha2, rm2, rb2⟩ := step_inv rx
  refine ⟨_, rfl, _, rfl, _, rfl, _, rfl, a, xs, _, _, rfl, rfl, (ha.same s1).sq, atI_nat hx, a2, _, 0, _, rfl, rfl, (ha2.same s1).sq, atI_nat (j := 0) rfl, ?_⟩
  refine ⟨kv, m, m2, kd, st.mv, pl[j].mv, pl, j, pl[j].back, rfl, rk.mono (kx_same s1), hk, rm.mono (kx_same s1), rm2.mono (kx_same s1), ep, fun H2 s2 => ⟨_, rfl, ?_⟩⟩
  have s12 := s1.trans s2
  cases hpl : plB kd pl j st.mv with
  | false =>
    rw [hpl] at q2
    exact iteT (q2 _ _ s12 rfl)
  | true =>
    rw [hpl, Bool.true_and] at q1 q2
    refine iteF ?_
    -- the word of the move
    have hword : ∃ c y, m = .ref c ∧ ∀ H', Same H H' → SqT K H' c [.str (match st.mv with | .ask _ => "ask" | .say _ => "say"), y] := by
      cases hmv : st.mv with
      | ask p =>
        rw [hmv] at rm
        obtain ⟨c, y, rfl, hc, ry⟩ := ask_inv rm
        exact ⟨c, y, rfl, fun H' e => (hc.same e).sq⟩
      | say u =>
        rw [hmv] at rm
        obtain ⟨c, rfl, hc⟩ := say_inv rm
        exact ⟨c, _, rfl, fun H' e => (hc.same e).sq⟩
    obtain ⟨c, y, rfl, hc⟩ := hword
    refine nx_rest (fun σ' H' => Same H H' ∧ σ' = [some kv, some (.ref a), some (.ref l), some (.ref b), some (.int ((xs.length : Nat) : Int)), some (.ref c), some (.int (j : Nat))] ∧ ∀ u, st.mv = .say u → j ∈ ns) (fun rest => ?_) ?_
    · cases hmv : st.mv with
      | ask p =>
        rw [hmv] at hc
        exact ⟨_, rfl, c, _, 0, _, rfl, rfl, hc _ s12, atI_nat (j := 0) rfl, rfl, _, rfl, iteF (rest _ _ ⟨s12, rfl, fun u e => by rw [hmv] at e; cases e⟩)⟩
      | say u =>
        rw [hmv] at hc q2
        refine ⟨_, rfl, c, _, 0, _, rfl, rfl, hc _ s12, atI_nat (j := 0) rfl, rfl, _, rfl, iteT ⟨_, rfl, _, rfl, l, _, rfl, hws _ s12, rfl, flat_nats _, _, rfl, ?_⟩⟩
        by_cases hjn : j ∈ ns
        · rw [show (!inV (.int (j : Nat)) (nats ns)) = false by rw [inV_of hjn]; rfl]
          exact iteF (rest _ _ ⟨s12, rfl, fun _ _ => hjn⟩)
        · rw [show (!inV (.int (j : Nat)) (nats ns)) = true by rw [inV_iff, decide_eq_false hjn]; rfl]
          refine iteT (q2 _ _ s12 ?_)
          rw [decide_eq_false (fun e => hjn (List.mem_of_getLast? e)), Bool.false_and]
    rintro σ H3 ⟨s3, rfl, hm⟩
    refine seq_rest (fun σ' H' => Same H H' ∧ σ' = [some kv, some (.ref a), some (.ref l), some (.ref b), some (.int ((xs.length : Nat) : Int)), some (.ref c), some (.int (j : Nat))] ∧ (match st.mv with
      | .ask _ => true
      | .say _ => decide (ns.getLast? = some j)) = true) (fun rest => ?_) ?_
    · cases hmv : st.mv with
      | ask p =>
        rw [hmv] at hc
        exact ⟨_, rfl, c, _, 0, _, rfl, rfl, hc _ s3, atI_nat (j := 0) rfl, rfl, _, rfl, iteF (rest _ _ ⟨s3, rfl, by rw [hmv]⟩)⟩
      | say u =>
        rw [hmv] at hc q2
        have hjn := hm u hmv
        obtain ⟨k, hk2⟩ : ∃ k, ns.getLast? = some k := by
          cases e : ns.getLast? with
          | none =>
            rw [List.getLast?_eq_none_iff.mp e] at hjn
            cases hjn
          | some k => exact ⟨k, rfl⟩
        refine ⟨_, rfl, c, _, 0, _, rfl, rfl, hc _ s3, atI_nat (j := 0) rfl, rfl, _, rfl, iteT ⟨_, rfl, _, rfl, 1, rfl, ?_⟩⟩
        have hat := last_at hk2
        refine (hws _ s3).imp (fun h => ⟨l, _, -1, _, rfl, rfl, h, hat, ?_⟩) (fun h => ⟨l, _, -1, _, rfl, rfl, h, hat, ?_⟩)
        all_goals
          refine ⟨rfl, _, rfl, ?_⟩
          by_cases hjk : k = j
          · subst hjk
            rw [show (!decide (V.int (k : Nat) = V.int (k : Nat))) = false by rw [decide_eq_true rfl]; rfl]
            exact iteF (rest _ _ ⟨s3, rfl, by rw [hmv]; exact decide_eq_true hk2⟩)
          · rw [show (!decide (V.int (j : Nat) = V.int (k : Nat))) = true by rw [decide_eq_false (fun e => hjk (by have := V.int.inj e; omega))]; rfl]
            refine iteT (q2 _ _ s3 ?_)
            rw [hk2, decide_eq_false (fun e => hjk (Option.some.inj e)), Bool.false_and]
    rintro σ H4 ⟨s4, rfl, hm2⟩
    rw [hm2, Bool.true_and] at q1 q2
    refine ⟨_, rfl, _, rfl, .ref a, pl, rfl, rv.mono (kx_same s4), hwb, hp, hlen, fun z H5 s5 rz => ?_⟩
    obtain ⟨za, zx, rfl, hza, rzx⟩ := Rep.inv (ts := (sight pl (pl.length - 1)).map numD') rz
    have ezx := rep_nats_inv rzx
    subst ezx
    have s45 := s4.trans s5
    refine ⟨za, _, rfl, .inr hza.sq, rfl, flat_nats _, _, rfl, ?_⟩
    by_cases hs : j ∈ sight pl (pl.length - 1)
    · rw [show (!inV (.int (j : Nat)) (nats (sight pl (pl.length - 1)))) = false by rw [inV_of hs]; rfl]
      exact iteF (q1 _ s45 (decide_eq_true hs))
    · rw [show (!inV (.int (j : Nat)) (nats (sight pl (pl.length - 1)))) = true by rw [inV_iff, decide_eq_false hs]; rfl]
      exact iteT (q2 _ _ s45 (decide_eq_false hs))
end
end Pk

set_option maxRecDepth 100000
set_option maxHeartbeats 1000000
set_option pp.maxSteps 300
namespace Pk
open PySem PySem.Spec PyProof.Rows L2
/-! ### a comprehension of two clauses -/
def InL (g1 : TG) (tt1 : TT) (te : TE) (vs1 : List Nat) (σ2 : L2.St) (D : Addr) (Nx : Hp → Prop) (J1 : It) (H4 : Hp) : Prop := ∃ W1 : Nat → Nat → Hp → Prop, (∃ m, W1 0 m H4) ∧ ∀ j k H, W1 j k H →
  (J1.stop j H ∧ Nx H) ∨ (J1.go j H ∧ ∃ Nx1 : Hp → Prop, (∀ H', Nx1 H' → ∃ k', k' < k ∧ W1 (j + 1) k' H') ∧ ∀ x H', J1.yld j H x H' → g1 x (wipe σ2 vs1) H' fun σ3 H5 => wipe σ3 vs1 = wipe σ2 vs1 ∧ tt1 σ3 H5 fun b H6 =>
    if b = true then te σ3 H6 fun y H7 => ∃ acc, H7 D = some (.lst acc) ∧ acc.length < sizeLine ∧ Nx1 (upd H7 D (.lst (acc ++ [y]))) else Nx1 H6)
theorem inl_list {K : PySem.W.Frag} {a : Addr} {xs : List V} {g1 : TG} {tt1 : TT} {te : TE} {vs1 : List Nat} {σ2 : L2.St} {D : Addr} {Nx : Hp → Prop} {H4 : Hp} (Pv : Nat → Hp → Prop) (h0 : Pv 0 H4) (hl : ∀ i H, i ≤ xs.length → Pv i H → SqL K H a xs)
    (hs : ∀ i x H, xs[i]? = some x → Pv i H → g1 x (wipe σ2 vs1) H fun σ3 H2 => wipe σ3 vs1 = wipe σ2 vs1 ∧ tt1 σ3 H2 fun b H3 =>
      if b = true then te σ3 H3 fun y H4 => ∃ acc, H4 D = some (.lst acc) ∧ acc.length < sizeLine ∧ Pv (i + 1) (upd H4 D (.lst (acc ++ [y]))) else Pv (i + 1) H3) (hd : ∀ H, Pv xs.length H → Nx H) : InL g1 tt1 te vs1 σ2 D Nx (Itl K a) H4 := by
  refine ⟨fun i m H => m = xs.length - i ∧ i ≤ xs.length ∧ Pv i H, ⟨xs.length, by simp, Nat.zero_le _, h0⟩, ?_⟩
  rintro i m H ⟨rfl, hi, p⟩
  have q := hl i H hi p
  by_cases hlt : i < xs.length
  · refine .inr ⟨⟨xs, xs[i], q, by simp [hlt]⟩, Pv (i + 1), fun H' p' => ⟨xs.length - (i + 1), by omega, rfl, hlt, p'⟩, fun x H' y => ?_⟩
    obtain ⟨e, y⟩ := y
    subst e
    exact hs i x _ (y xs q) p
  · have e : i = xs.length := by omega
    subst e
    exact .inl ⟨⟨xs, q, Nat.le_refl _⟩, hd H p⟩
theorem lc2_tup {K : PySem.W.Frag} {a : Addr} {xs : List V} {g : TG} {tt : TT} {wi1 : TI} {g1 : TG} {tt1 : TT} {te : TE} {vs vs1 : List Nat} {σ : L2.St} {H1 : Hp} {D : Addr} {Qd : Hp → Prop} (Pv : Nat → Hp → Prop) (h0 : Pv 0 (upd H1 D (.lst []))) (hl : ∀ i H, i ≤ xs.length → Pv i H → SqT K H a xs)
    (hs : ∀ i x H, xs[i]? = some x → Pv i H → g x (wipe σ vs) H fun σ2 H2 => wipe σ2 vs = wipe σ vs ∧ tt σ2 H2 fun b H3 =>
      if b = true then wi1 σ2 H3 (InL g1 tt1 te vs1 σ2 D (Pv (i + 1))) else Pv (i + 1) H3) (hd : ∀ H, Pv xs.length H → Qd H) :
    ∃ W : Nat → Nat → Hp → Prop, (∃ m, W 0 m (upd H1 D (.lst []))) ∧ ∀ i m H, W i m H →
      ((Itt K a).stop i H ∧ Qd H) ∨ ((Itt K a).go i H ∧ ∃ Nx : Hp → Prop, (∀ H', Nx H' → ∃ m', m' < m ∧ W (i + 1) m' H') ∧ ∀ x H', (Itt K a).yld i H x H' → g x (wipe σ vs) H' fun σ2 H2 => wipe σ2 vs = wipe σ vs ∧ tt σ2 H2 fun b H3 =>
        if b = true then wi1 σ2 H3 (InL g1 tt1 te vs1 σ2 D Nx) else Nx H3) := by
  refine ⟨fun i m H => m = xs.length - i ∧ i ≤ xs.length ∧ Pv i H, ⟨xs.length, by simp, Nat.zero_le _, h0⟩, ?_⟩
  rintro i m H ⟨rfl, hi, p⟩
  have q := hl i H hi p
  by_cases hlt : i < xs.length
  · refine .inr ⟨⟨xs, xs[i], q, by simp [hlt]⟩, Pv (i + 1), fun H' p' => ⟨xs.length - (i + 1), by omega, rfl, hlt, p'⟩, fun x H' y => ?_⟩
    obtain ⟨e, y⟩ := y
    subst e
    exact hs i x _ (y xs q) p
  · have e : i = xs.length := by omega
    subst e
    exact .inl ⟨⟨xs, q, Nat.le_refl _⟩, hd H p⟩
section
variable {P : Program} {w : World} {K : PySem.W.Frag} {mg : Str → Option Value} {base : Heap}
theorem atD_len : ∀ (p : List Nat) (d e : D), atD d p = some e → p.length ≤ sz d
  | [], _, _, _ => Nat.zero_le _
  | k :: p, d, e, h => by
    obtain ⟨us, u, rfl, hu, h'⟩ := atD_cons h
    have := atD_len p u e h'
    have := sz_mem (List.mem_of_getElem? hu)
    show p.length + 1 ≤ szs us + 1
    omega
theorem LP.at {kd : D} {pl : List Stp} (h : LP kd pl) {j : Nat} {p : List Nat} (e : askPl pl j = some p) : ∃ e, atD kd p = some e := by
  obtain ⟨b, hb⟩ := askPl_some e
  exact h.pa j p b hb
theorem kids_le {kd : D} (hk : isK kd = true) (p : List Nat) : kids kd p ≤ sz kd := by
  unfold kids
  split
  · next ts e =>
    have := (atD_kind p kd _ hk e).2
    have h2 := len_szs ts
    have : szs ts + 1 ≤ sz kd := this
    omega
  · exact Nat.zero_le _
/-! ### steps_to -/
def spST (K : PySem.W.Frag) : Sp := fun vs H Q _ => ∃ (kv v : V) (kd : D) (pl : List Stp) (j : Nat), vs = [kv, v, .int (j : Nat)] ∧ Rep K H kv kd ∧ isK kd = true ∧ sz kd ≤ 60 ∧ Rep K H v (playD pl) ∧ LP kd pl ∧ j < pl.length ∧
  ∀ l H', Same H H' → H l = none → RxAt K H' l (stepsTo kd pl j) 62 → Q (.ref l) H'
theorem ok_sto {f f1 : Addr} {fd d1 : FuncData} (D_steps_to : Df K mg "steps_to" s_steps_to ["kind", "play", "back"] f fd) (D_kind_at : Df K mg "kind_at" s_kind_at ["kind", "place"] f1 d1) (B : Bt mg) : FnOk P w K mg base CX0 2 f fd ["kind", "play", "back"] (spST K) := by
  have G_kind_at : FnOk P w K mg base CX0 1 f1 d1 ["kind", "place"] (spKA K) := ok_ka D_kind_at B
  refine D_steps_to.ok c_steps_to (fun vs H Q E h => ?_) (fun cdv A outer s H vs Q E hr h => ?_)
  · obtain ⟨kv, v, kd, pl, j, rfl, _⟩ := h
    rfl
  obtain ⟨kv, v, kd, pl, j, rfl, rk, hk, hkz, rv, hLP, hj, q⟩ := h
  have nd := c_steps_to.nd
  refine ⟨_, (pss_cons (ps_asg (pe_ix ix_tup (pe_ix ix_tup (pv 1) (pv 2) (fun _ _ => rfl)) pe_int (fun _ _ => rfl)) (pg_tup rfl (pgs_cons (pg_name (i := 3) nd rfl (Or.inl rfl)) (pgs_cons (pg_name (i := 4) nd rfl (Or.inr rfl)) pgs_nil))))
  (pss_cons (ps_if (pt_cmpR op_ne (pv 3) pe_str (nomark _)) (pss_one (ps_ret (pe_lst pa_nil))) pss_nil)
  (pss_cons (ps_setLc (i := 5) (own := [("k", 6)]) (g := (gName 6)) (tt := tYes) rfl nd rfl rfl (sw_true rfl rfl rfl (by decide +kernel)) (pi_range1 (by rfl) B.b_range (pa_cons (pe_callB call_len_seq (by rfl) B.b_len PySem.boot_len (pa_cons (pe_call G_kind_at (hr.mono (by first | decide | omega)) (by rfl) D_kind_at.m D_kind_at.kp D_kind_at.b .nil pass0 (pa_cons (pv 0) (pa_cons (pv 4) pa_nil))) pa_nil)) pa_nil)) (blkOk_by (own := [("k", 6)]) (N := ["kind", "play", "back", "word", "place", "found", "k"]) (sc := defScope s_steps_to) (by decide +kernel)) (fun _ _ _ _ _ => (pg_name (i := 6) nd rfl (Or.inl rfl))) (fun _ _ _ _ _ => pts_nil) (fun _ _ _ _ _ => (pe_tup (pa_cons (pe_tup (pa_cons pe_str (pa_cons (pe_op (show OpR _ (binaryOp .Add) (rCatP K) from op_catP) (pv 4) (pe_tup (pa_cons (pv 6) pa_nil))) pa_nil))) (pa_cons (pv 2) pa_nil)))))
  (pss_one (ps_ret (pe_op op_cat (pv 5) (pe_lst (pa_cons (pe_tup (pa_cons (pe_tup (pa_cons pe_str (pa_cons pe_int pa_nil))) (pa_cons (pv 2) pa_nil))) (pa_cons (pe_tup (pa_cons (pe_tup (pa_cons pe_str (pa_cons pe_int pa_nil))) (pa_cons (pv 2) pa_nil))) pa_nil))))))))), ?_⟩
  obtain ⟨a, xs, rfl, ha, rxs, lx⟩ := play_inv rv
  have ep : pl[j]? = some pl[j] := List.getElem?_eq_getElem hj
  obtain ⟨x, hx, rx⟩ := play_at rxs ep
  obtain ⟨a2, m2, b2, rfl, ha2, rm2, rb2⟩ := step_inv rx
  refine ⟨_, rfl, _, rfl, a, xs, _, _, rfl, rfl, ha.sq, atI_nat hx, a2, _, 0, _, rfl, rfl, ha2.sq, atI_nat (j := 0) rfl, ?_⟩
  cases hmv : pl[j].mv with
  | say u =>
    rw [hmv] at rm2
    obtain ⟨c, rfl, hc⟩ := say_inv rm2
    have e0 : stepsTo kd pl j = [] := by
      unfold stepsTo
      rw [askPl_say (v := u) (b := pl[j].back) (by rw [ep, ← hmv])]
    rw [e0] at q
    refine ⟨c, _, rfl, hc.sq, rfl, _, _, rfl, _, _, rfl, rfl, ?_⟩
    exact ⟨_, rfl, rfl, _, rfl, iteT ⟨(by show 0 ≤ sizeLine; decide), fun l nl => q _ _ (same_new nl _) nl ⟨[], upd_same, .nil, Nat.zero_le _⟩⟩⟩
  | ask p =>
    rw [hmv] at rm2
    obtain ⟨c, y, rfl, hc, ry⟩ := ask_inv rm2
    have eap : askPl pl j = some p := askPl_of (b := pl[j].back) (by rw [ep, ← hmv])
    obtain ⟨e, he⟩ := hLP.at eap
    obtain ⟨ke, ze⟩ := atD_kind p kd e hk he
    obtain ⟨ts, rfl, hts⟩ := isK_inv ke
    have ek : kids kd p = ts.length := by
      unfold kids
      rw [he]
    have e0 : stepsTo kd pl j = kidsOf kd p j ts.length ++ says j := by
      unfold stepsTo
      rw [eap, ← ek]
    rw [e0] at q
    have hpl := atD_len p kd _ he
    have hkl := kids_le hk p
    rw [ek] at hkl
    refine ⟨c, _, rfl, hc.sq, rfl, _, _, rfl, _, _, rfl, rfl, ?_⟩
    refine ⟨_, rfl, rfl, _, rfl, iteF ?_⟩
    refine ⟨_, rfl, _, rfl, kv, y, kd, p, rfl, rk, hk, ry, fun z => (by rw [he] at z; cases z), fun z e2 h2 rz => ?_⟩
    rw [he] at h2
    cases h2
    obtain ⟨a4, x4, rfl, ha4, rx4⟩ := rz.inv
    have l4 := rx4.length
    obtain ⟨qa, qx, rfl, hqa, rqx⟩ := Rep.inv (ts := p.map numD') ry
    have eqx := rep_nats_inv rqx
    subst eqx
    refine ⟨a4, x4, rfl, .inr ha4.sq, _, rfl, by omega, by omega, fun d hd => ?_⟩
    refine lc_range (n := x4.length) (fun k H' => Same H H' ∧ RxAt K H' d (kidsOf kd p j k) k ∧ True) ⟨same_new hd _, ⟨[], upd_same, .nil, Nat.le_refl _⟩, trivial⟩ ?_ ?_
    · rintro k H3 hk3 ⟨s3, ⟨acc, hd3, rcs, hcl⟩, _⟩
      have ez : (0 : Int) + (k : Nat) = ((k : Nat) : Int) := Int.zero_add _
      refine ⟨rfl, yes_go ⟨_, rfl, _, rfl, (by show 1 ≤ sizeLine; decide), fun t1 n1 => ?_⟩⟩
      have u1 := same_new n1 (.tup [.int ((0 : Int) + (k : Nat))])
      refine ⟨qa, t1, nats p, _, rfl, rfl, (hqa.same s3).same u1, .inl upd_same, small6' (by rw [nats_len]; show p.length + 1 ≤ 1000000; omega), fun cc H4 s4 hcc => ⟨(by show 2 ≤ sizeLine; decide), fun t2 n2 => ⟨_, rfl, (by show 2 ≤ sizeLine; decide), fun t3 n3 => ?_⟩⟩⟩
      have u2 := same_new n2 (.tup [.str "ask", .ref cc])
      have u3 := same_new n3 (.tup [.ref t2, .int (j : Nat)])
      have s35 := u1.trans (s4.trans (u2.trans u3))
      have hd5 := s35 _ _ hd3
      have kl := kx_list hd5 (acc ++ [.ref t3])
      have lcs := rcs.length
      rw [List.length_map] at lcs
      refine ⟨acc, hd5, small6 (by omega), fun o x e => ?_, ⟨acc ++ [.ref t3], upd_same, ?_, by rw [kids_snoc, List.length_append, List.length_singleton]; omega⟩, trivial⟩
      · rw [upd_ne (ne_of_none e hd)]
        exact s35 _ _ (s3 _ _ e)
      · rw [kids_snoc, List.map_append]
        refine (rcs.mono ((kx_same s35).trans kl)).append (.one (.tup (xs := [.ref t2, .int (j : Nat)]) (.inl (kl.t _ _ upd_same)) (.cons (.tup (xs := [.str "ask", .ref cc]) (.inl (kl.t _ _ (u3 _ _ upd_same))) (.cons (.at rfl) (.one (.tup (xs := nats p ++ [.int ((0 : Int) + (k : Nat))]) ?_ ?_)))) (.one (.at rfl)))))
        · exact (hcc.same (u2.trans u3)).kx kl
        · rw [ez, nats_snoc]
          exact reps_nats _
    · rintro H3 ⟨s3, ⟨acc, hd3, rcs, hcl⟩, _⟩
      rw [l4] at rcs hcl
      have lcs := rcs.length
      rw [List.length_map] at lcs
      refine ⟨_, rfl, (by show 2 ≤ sizeLine; decide), fun t1 n1 => ⟨_, rfl, (by show 2 ≤ sizeLine; decide), fun t2 n2 => ⟨(by show 2 ≤ sizeLine; decide), fun t3 n3 => ⟨_, rfl, (by show 2 ≤ sizeLine; decide), fun t4 n4 => ⟨(by show 2 ≤ sizeLine; decide), fun l2 nl2 => ?_⟩⟩⟩⟩⟩
      have w5 := same_new nl2 (.lst [.ref t2, .ref t4])
      have w4 := (same_new n4 (.tup [.ref t3, .int (j : Nat)])).trans w5
      have w3 := (same_new n3 (.tup [.str "say", .int 1])).trans w4
      have w2 := (same_new n2 (.tup [.ref t1, .int (j : Nat)])).trans w3
      have w1 := (same_new n1 (.tup [.str "say", .int 0])).trans w2
      refine ⟨d, l2, _, _, rfl, rfl, w1 _ _ hd3, upd_same, small6' (by show _ + 2 ≤ 1000000; omega), fun p3 np3 => ?_⟩
      have w6 := same_new np3 (.lst (acc ++ [.ref t2, .ref t4]))
      refine q _ _ (s3.trans (w1.trans w6)) ((s3.trans w1).free np3) ⟨acc ++ [.ref t2, .ref t4], upd_same, ?_, by rw [List.length_append]; show _ + 2 ≤ 62; omega⟩
      rw [List.map_append]
      exact (rcs.mono (kx_same (w1.trans w6))).append (.cons (.tup' ((w3.trans w6) _ _ upd_same) (.cons (.tup' ((w2.trans w6) _ _ upd_same) (.cons (.at rfl) (.one (.at rfl)))) (.one (.at rfl))))
        (.one (.tup' ((w5.trans w6) _ _ upd_same) (.cons (.tup' ((w4.trans w6) _ _ upd_same) (.cons (.at rfl) (.one (.at rfl)))) (.one (.at rfl))))))
end
end Pk

set_option maxRecDepth 100000
set_option maxHeartbeats 1000000
set_option pp.maxSteps 300
namespace Pk
open PySem PySem.Spec PyProof.Rows L2
section
variable {P : Program} {w : World} {K : PySem.W.Frag} {mg : Str → Option Value} {base : Heap}
/-! ### steps_after -/
theorem sight_nodup {pl : List Stp} (h : WB pl) (hp : 0 < pl.length) : (sight pl (pl.length - 1)).Nodup := (sight_up h (pl.length - 1) (by omega)).1.imp fun h => Nat.ne_of_lt h
def spAf (K : PySem.W.Frag) : Sp := fun vs H Q _ => ∃ (kv v : V) (kd : D) (pl : List Stp), vs = [kv, v] ∧ Rep K H kv kd ∧ isK kd = true ∧ sz kd ≤ 60 ∧ Rep K H v (playD pl) ∧ LP kd pl ∧ ∀ z H', Same H H' → Rep K H' z (playD (lawR kd pl)) → Q z H'
theorem st_ask {kd : D} (hk : isK kd = true) {pl : List Stp} (h : LP kd pl) (hz : sz kd ≤ 60) {j : Nat} {s : Stp} (hs : s ∈ stepsTo kd pl j) : ShS s ∧ s.back = some j ∧ ∀ p, s.mv = .ask p → p.length ≤ 1000 := by
  refine ⟨?_, stepsTo_back hs, ?_⟩
  · intro u e
    unfold stepsTo at hs
    split at hs
    · rcases List.mem_append.mp hs with hs | hs
      · obtain ⟨k, _, rfl⟩ := mem_kids.mp hs
        cases e
      · obtain ⟨v, hv, rfl⟩ := mem_says.mp hs
        cases e
        exact hv
    · cases hs
  · intro p e
    unfold stepsTo at hs
    split at hs
    · next q hq =>
      obtain ⟨e2, he2⟩ := h.at hq
      have := atD_len q kd _ he2
      rcases List.mem_append.mp hs with hs | hs
      · obtain ⟨k, _, rfl⟩ := mem_kids.mp hs
        cases e
        rw [List.length_append, List.length_singleton]
        omega
      · obtain ⟨v, hv, rfl⟩ := mem_says.mp hs
        cases e
    · cases hs
theorem ok_af {bg f f0 f1 f2 f3 f4 f5 f6 f7 f8 f9 f10 f11 : Addr} {fd d0 d1 d2 d3 d4 d5 d6 d7 d8 d9 d10 d11 : FuncData} (hBG : mg "BEGINNING" = some (.ref bg)) (hKB : ∀ H, Rep K H (.ref bg) (stD BEG)) (D_steps_after : Df K mg "steps_after" s_steps_after ["kind", "play"] f fd)
    (D__is_later_step : Df K mg "_is_later_step" s__is_later_step ["value", "number"] f0 d0) (D__is_move : Df K mg "_is_move" s__is_move ["value"] f1 d1) (D_is_tuple_of : Df K mg "is_tuple_of" s_is_tuple_of ["value", "many"] f2 d2)
    (D_is_whole : Df K mg "is_whole" s_is_whole ["value"] f3 d3) (D_is_answer : Df K mg "is_answer" s_is_answer ["value"] f4 d4) (D__is_placed : Df K mg "_is_placed" s__is_placed ["kind", "move", "answered"] f5 d5) (D_kind_at : Df K mg "kind_at" s_kind_at ["kind", "place"] f6 d6)
    (D__sight_behind : Df K mg "_sight_behind" s__sight_behind ["play"] f7 d7) (D__reason_against : Df K mg "_reason_against" s__reason_against ["kind", "play", "waiting", "step"] f8 d8) (D__note_open : Df K mg "_note_open" s__note_open ["waiting", "number", "step"] f9 d9)
    (D_open_asks : Df K mg "open_asks" s_open_asks ["play"] f10 d10) (D_steps_to : Df K mg "steps_to" s_steps_to ["kind", "play", "back"] f11 d11) (B : Bt mg) : FnOk P w K mg base CX0 6 f fd ["kind", "play"] (spAf K) := by
  have G__reason_against : FnOk P w K mg base CX0 5 f8 d8 ["kind", "play", "waiting", "step"] (spRA K) := ok_ra hBG hKB D__reason_against D__is_later_step D__is_move D_is_tuple_of D_is_whole D_is_answer D__is_placed D_kind_at D__sight_behind B
  have G__sight_behind : FnOk P w K mg base CX0 1 f7 d7 ["play"] (spSB K) := ok_sb D__sight_behind B
  have G_open_asks : FnOk P w K mg base CX0 2 f10 d10 ["play"] (spOA K) := ok_oa D_open_asks D__note_open B
  have G_steps_to : FnOk P w K mg base CX0 2 f11 d11 ["kind", "play", "back"] (spST K) := ok_sto D_steps_to D_kind_at B
  refine D_steps_after.ok c_steps_after (fun vs H Q E h => ?_) (fun cdv A outer s H vs Q E hr h => ?_)
  · obtain ⟨kv, v, kd, pl, rfl, _⟩ := h
    rfl
  obtain ⟨kv, v, kd, pl, rfl, rk, hk, hkz, rv, hLP, q⟩ := h
  have nd := c_steps_after.nd
  refine ⟨_, (pss_cons (ps_if (pt_cmpR op_eq (pe_callB call_len_seq (by rfl) B.b_len PySem.boot_len (pa_cons (pv 1) pa_nil)) pe_int (nomark _)) (pss_one (ps_ret (pe_tup (pa_cons (pe_glob rfl hBG (rel_ref _)) pa_nil)))) pss_nil)
  (pss_cons (ps_set (i := 2) nd rfl (Or.inr rfl) (pe_call G_open_asks (hr.mono (by first | decide | omega)) (by rfl) D_open_asks.m D_open_asks.kp D_open_asks.b .nil pass0 (pa_cons (pv 1) pa_nil)))
  (pss_cons (ps_setLc2 (i := 3) (own := [("back", 4), ("step", 5)]) (vs1 := [5]) (g := (gName 4)) (g1 := (gName 5)) (tt := tYes) (tt1 := tYes) rfl nd rfl rfl (sw_true rfl rfl rfl (by decide +kernel)) (pi_tup (pe_call G__sight_behind (hr.mono (by first | decide | omega)) (by rfl) D__sight_behind.m D__sight_behind.kp D__sight_behind.b .nil pass0 (pa_cons (pv 1) pa_nil))) (blkOk_by (own := [("back", 4), ("step", 5)]) (N := ["kind", "play", "waiting", "steps", "back", "step"]) (sc := defScope s_steps_after) (by decide +kernel)) (by decide) (fun _ _ _ _ _ => (pg_name (i := 4) nd rfl (Or.inl rfl))) (fun _ _ _ _ _ => pts_nil) (fun _ _ _ _ _ => (show PI _ _ _ (iList K _) from pi_list (pe_call G_steps_to (hr.mono (by first | decide | omega)) (by rfl) D_steps_to.m D_steps_to.kp D_steps_to.b .nil pass0 (pa_cons (pv 0) (pa_cons (pv 1) (pa_cons (pv 4) pa_nil)))))) (fun _ _ _ _ _ => (pg_name (i := 5) nd rfl (Or.inl rfl))) (fun _ _ _ _ _ => pts_nil) (fun _ _ _ _ _ => (pv 5)))
  (pss_one (ps_ret (pe_callTy call_tuple_of (by rfl) B.b_tuple (by decide +kernel) (pa_cons (pe_callB (cr_sortE hr.units encS) (by rfl) B.b_sorted (by decide +kernel) (pa_cons (pe_lc (own := [("step", 5)]) (g := (gName 5)) (tt := _) rfl nd (pi_list (pv 3)) (blkOk_by (own := [("step", 5)]) (N := ["kind", "play", "waiting", "steps", "back", "step"]) (sc := defScope s_steps_after) (by decide +kernel)) (fun _ _ _ _ _ => (pg_name (i := 5) nd rfl (Or.inl rfl))) (fun _ _ _ _ _ => (pts_one (pt_cmpR op_isN (pe_call G__reason_against (hr.mono (by first | decide | omega)) (by rfl) D__reason_against.m D__reason_against.kp D__reason_against.b .nil pass0 (pa_cons (pv 0) (pa_cons (pv 1) (pa_cons (pv 2) (pa_cons (pv 5) pa_nil))))) pe_non (nomark _)))) (fun _ _ _ _ _ => (pv 5))) pa_nil)) pa_nil))))))), ?_⟩
  obtain ⟨a, xs, rfl, ha, rxs, lx⟩ := play_inv rv
  have hlen := hLP.len
  refine ⟨_, rfl, a, xs, rfl, .inr ha.sq, rfl, _, rfl, ite2 (fun z => ?_) (fun z => ?_)⟩
  · have z' : ((xs.length : Nat) : Int) = 0 := V.int.inj (of_decide_eq_true z)
    have z2 : pl = [] := List.eq_nil_of_length_eq_zero (by omega)
    subst z2
    refine ⟨(by show 1 ≤ sizeLine; decide), fun t nt => q _ _ (same_new nt _) ?_⟩
    exact .tup' (ts := [stD BEG]) upd_same (.one (hKB _))
  have hp : 0 < pl.length := by
    have : ¬ ((xs.length : Nat) : Int) = 0 := fun e => z (decide_eq_true (by rw [e]))
    omega
  have hne : pl ≠ [] := List.length_pos_iff.mp hp
  refine ⟨_, rfl, .ref a, pl, rfl, rv, hLP.op, by omega, fun wv H1 s1 rw1 => ?_⟩
  obtain ⟨wl, wxs, rfl, hwl, rwx⟩ := Rep.inv (ts := (opens pl pl.length).map numD') rw1
  have ewx := rep_nats_inv rwx
  subst ewx
  refine ⟨_, rfl, .ref a, pl, rfl, rv.mono (kx_same s1), hLP.wb, hp, by omega, fun zv H2 s2 rz => ?_⟩
  obtain ⟨za, zxs, rfl, hza, rzx⟩ := Rep.inv (ts := (sight pl (pl.length - 1)).map numD') rz
  have ezx := rep_nats_inv rzx
  subst ezx
  have hsl := sight_len hLP.wb (pl.length - 1) (by omega)
  have s12 := s1.trans s2
  refine ⟨za, rfl, ⟨_, hza.sq⟩, fun d hd => ?_⟩
  have hl62 : ∀ j, (stepsTo kd pl j).length ≤ 62 := fun j => by
    unfold stepsTo
    split
    · next q hq =>
      have := kids_le hk q
      rw [List.length_append]
      unfold kidsOf
      rw [List.length_map, List.length_range]
      show _ + 2 ≤ 62
      omega
    · exact Nat.zero_le _
  refine lc2_tup (K := K) (a := za) (xs := nats (sight pl (pl.length - 1))) (fun i H' => Same H2 H' ∧ RxAt K H' d (((sight pl (pl.length - 1)).take i).flatMap (stepsTo kd pl)) (62 * i)) ⟨same_new hd _, [], upd_same, .nil, Nat.le_refl _⟩ (fun i H' _ h => (hza.same h.1).sq) ?_ ?_
  · rintro i x H3 hi ⟨s3, hrx⟩
    obtain ⟨j, hj, rfl⟩ := nats_at hi
    have hjm := List.mem_of_getElem? hj
    have hjl : j < pl.length := by
      have := (sight_up hLP.wb (pl.length - 1) (by omega)).2 j hjm
      omega
    have hil := (List.getElem?_eq_some_iff.mp hj).1
    have s13 := s12.trans s3
    refine ⟨rfl, yes_go ⟨_, rfl, _, rfl, _, rfl, kv, .ref a, kd, pl, j, rfl, rk.mono (kx_same s13), hk, hkz, rv.mono (kx_same s13), hLP, hjl, fun l H4 s4 hl0 hl4 => ?_⟩⟩
    obtain ⟨ys, hly, rys, lys⟩ := hl4
    have lyl := rys.length
    rw [List.length_map] at lyl
    refine ⟨l, rfl, ⟨_, SqL.of hly⟩, ?_⟩
    rw [flat_snoc hj]
    obtain ⟨bx, hb, rbx, lbx⟩ := hrx
    have lbl := rbx.length
    rw [List.length_map] at lbl
    refine inl_list (xs := ys) (fun k H' => SB d H4 H' ∧ Same H2 H' ∧ RxAt K H' d (((sight pl (pl.length - 1)).take i).flatMap (stepsTo kd pl) ++ (stepsTo kd pl j).take k) (62 * i + k)) ⟨SB.refl _ _, s3.trans s4, bx, s4 _ _ hb, ?_, ?_⟩ (fun k H' _ h => SqL.of (h.1 _ _ (fun e => ?_) hly)) ?_ ?_
    · rw [List.take_zero, List.append_nil]
      exact rbx.mono (kx_same s4)
    · rw [List.take_zero, List.append_nil]
      omega
    · rw [e, hb] at hl0
      cases hl0
    · rintro k x H5 hkk ⟨sb5, s25, acc, hd5, racc, lacc⟩
      obtain ⟨dd, hdd, rdd⟩ := rys.get hkk
      rw [List.getElem?_map] at hdd
      obtain ⟨cc, hcc, rfl⟩ := Option.map_eq_some_iff.mp hdd
      have hkl := (List.getElem?_eq_some_iff.mp hcc).1
      have lal := racc.length
      rw [List.length_map] at lal
      have k45 := sb_kx sb5 (s4 _ _ hb) hd5
      have kl := kx_list hd5 (acc ++ [x])
      have hl62j := hl62 j
      refine ⟨rfl, yes_go ⟨_, rfl, acc, hd5, small6 (by omega), fun o oo no e => ?_, fun o oo e => ?_, acc ++ [x], upd_same, ?_, ?_⟩⟩
      · rw [upd_ne no]
        exact sb5 _ _ no e
      · rw [upd_ne (ne_of_none e hd)]
        exact s25 _ _ e
      · rw [List.take_add_one, hcc, ← List.append_assoc, List.map_append]
        exact (racc.mono kl).append (.one ((rdd.mono k45).mono kl))
      · rw [List.take_add_one, hcc, ← List.append_assoc, List.length_append]
        show _ + 1 ≤ _
        omega
    · rintro H5 ⟨sb5, s25, hrx5⟩
      rw [lyl, List.take_length] at hrx5
      have := hl62 j
      exact ⟨s25, hrx5.le (by omega)⟩
  rintro H3 ⟨s3, bx, hb, rbx, lbx⟩
  rw [nats_len, List.take_length] at rbx lbx
  have s13 := s12.trans s3
  have lbl := rbx.length
  rw [List.length_map] at lbl
  have lp0 : LP kd pl := hLP
  refine ⟨_, rfl, d, rfl, ⟨_, SqL.of hb⟩, fun d2 hd2 => ?_⟩
  refine lc_list (xs := bx) (fun k H' => Same H3 H' ∧ RxAt K H' d2 ((((sight pl (pl.length - 1)).flatMap (stepsTo kd pl)).take k).filter (lgB kd pl (opens pl pl.length))) k) ⟨same_new hd2 _, [], upd_same, .nil, Nat.le_refl _⟩ (fun k H' _ h => SqL.of (h.1 _ _ hb)) ?_ ?_
  · rintro k x H4 hkx ⟨s4, acc, hd4, racc, lacc⟩
    obtain ⟨dd, hdd, rdd⟩ := rbx.get hkx
    rw [List.getElem?_map] at hdd
    obtain ⟨cc, hcc, rfl⟩ := Option.map_eq_some_iff.mp hdd
    have hkl := (List.getElem?_eq_some_iff.mp hcc).1
    obtain ⟨j, hj, hst⟩ := List.mem_flatMap.mp (List.mem_of_getElem? hcc)
    have hjl : j < pl.length := by
      have := (sight_up hLP.wb (pl.length - 1) (by omega)).2 j hj
      omega
    obtain ⟨c1, c2, c3⟩ := st_ask hk hLP hkz hst
    have s14 := s13.trans s4
    have lal := racc.length
    rw [List.length_map] at lal
    have hwt : ∀ H', Same H4 H' → WtAt K H' wl (opens pl pl.length) := fun H' e => .inr (hwl.same ((s2.trans (s3.trans s4)).trans e)).sq
    have et : ∀ b, (lgB kd pl (opens pl pl.length) cc) = b → ((((sight pl (pl.length - 1)).flatMap (stepsTo kd pl)).take (k + 1)).filter (lgB kd pl (opens pl pl.length))) = ((((sight pl (pl.length - 1)).flatMap (stepsTo kd pl)).take k).filter (lgB kd pl (opens pl pl.length))) ++ (if b = true then [cc] else []) := fun b e => by
      rw [List.take_add_one, hcc, List.filter_append]
      congr 1
      show List.filter _ [cc] = _
      rw [List.filter_cons, e]
      cases b <;> rfl
    refine ⟨rfl, _, rfl, _, rfl, _, rfl, _, rfl, kv, .ref a, x, wl, kd, pl, opens pl pl.length, cc, rfl, rk.mono (kx_same s14), hk, rv.mono (kx_same s14), hwt _ (Same.refl _), hwt, rdd.mono (kx_same s4), hLP.wb, by omega, .inr ⟨hne, j, c2, hjl, c1, c3, fun H5 s5 hb5 => ?_, fun x5 H5 s5 hb5 => ?_⟩⟩
    · rw [et _ hb5]
      have hd5 := s5 _ _ hd4
      have kl := kx_list hd5 (acc ++ [x])
      refine ⟨rfl, _, rfl, iteT ⟨_, rfl, acc, hd5, small6 (by omega), fun o oo e => ?_, acc ++ [x], upd_same, ?_, by rw [if_pos rfl, List.length_append]; show _ + 1 ≤ _; omega⟩⟩
      · rw [upd_ne (ne_of_none e hd2)]
        exact s5 _ _ (s4 _ _ e)
      · rw [if_pos rfl, List.map_append]
        exact ((racc.mono (kx_same s5)).mono kl).append (.one (((rdd.mono (kx_same s4)).mono (kx_same s5)).mono kl))
    · rw [et _ hb5]
      refine ⟨rfl, _, rfl, iteF ⟨s4.trans s5, acc, s5 _ _ hd4, ?_, ?_⟩⟩
      · rw [if_neg Bool.false_ne_true, List.append_nil]
        exact racc.mono (kx_same s5)
      · rw [if_neg Bool.false_ne_true, List.append_nil]
        omega
  · rintro H4 ⟨s4, acc, hd4, racc, lacc⟩
    rw [lbl, List.take_length] at racc lacc
    have pm := progR_perm (kd := kd) hk (sight_nodup hLP.wb hp)
    refine ⟨d2, acc, progR kd pl, rfl, SqL.of hd4, racc, fun b hb => rows_ok hk (pm.mem_iff.mp hb), fun ys p3 rys np3 => ?_⟩
    have u3 := same_new np3 (.lst ys)
    refine ⟨p3, ys, rfl, .inl ⟨SqL.of upd_same, fun t nt => ?_⟩⟩
    have u4 := same_new nt (.tup ys)
    have el : lawR kd pl = sortE tokS (progR kd pl) := by
      unfold lawR
      rw [if_neg hne, progR_sort hk (sight_nodup hLP.wb hp)]
    refine q _ _ (s13.trans (s4.trans (u3.trans u4))) ?_
    rw [el]
    exact .tup' upd_same (rys.mono (kx_same (u3.trans u4)))
end
end Pk

set_option maxRecDepth 100000
set_option maxHeartbeats 1000000
set_option pp.maxSteps 300
namespace Pk
open PySem PySem.Spec PyProof.Rows L2
section
variable {P : Program} {w : World} {K : PySem.W.Frag} {mg : Str → Option Value} {base : Heap}
/-! ### fault_of -/
def spFo (K : PySem.W.Frag) : Sp := fun vs H Q _ => ∃ (kv v : V) (kd : D) (pl : List Stp) (s : Stp) (j : Nat), vs = [kv, v] ∧ Rep K H kv kd ∧ isK kd = true ∧ sz kd ≤ 60 ∧ Rep K H v (playD (pl ++ [s])) ∧ LQ kd pl ∧ pl ≠ [] ∧ s.back = some j ∧ j < pl.length ∧ ShS s ∧ (∀ p, s.mv = .ask p → p.length ≤ 1000) ∧
  (∀ H', Same H H' → lgB kd pl (opens pl pl.length) s = true → Q .non H') ∧ ∀ z x H', Same H H' → lgB kd pl (opens pl pl.length) s = false → Rep K H' z (.tup [numD' pl.length, .at (.str x)]) → Q z H'
theorem opens_app (pl : List Stp) (s : Stp) {i : Nat} (h : i ≤ pl.length) : opens (pl ++ [s]) i = opens pl i := by
  have := opens_take (pl ++ [s]) pl.length i h
  rw [List.take_left] at this
  exact this.symm
theorem ok_fo {bg f f0 f1 f2 f3 f4 f5 f6 f7 f8 f9 : Addr} {fd d0 d1 d2 d3 d4 d5 d6 d7 d8 d9 : FuncData} (hBG : mg "BEGINNING" = some (.ref bg)) (hKB : ∀ H, Rep K H (.ref bg) (stD BEG)) (D_fault_of : Df K mg "fault_of" s_fault_of ["kind", "play"] f fd)
    (D__is_later_step : Df K mg "_is_later_step" s__is_later_step ["value", "number"] f0 d0) (D__is_move : Df K mg "_is_move" s__is_move ["value"] f1 d1) (D_is_tuple_of : Df K mg "is_tuple_of" s_is_tuple_of ["value", "many"] f2 d2)
    (D_is_whole : Df K mg "is_whole" s_is_whole ["value"] f3 d3) (D_is_answer : Df K mg "is_answer" s_is_answer ["value"] f4 d4) (D__is_placed : Df K mg "_is_placed" s__is_placed ["kind", "move", "answered"] f5 d5) (D_kind_at : Df K mg "kind_at" s_kind_at ["kind", "place"] f6 d6)
    (D__sight_behind : Df K mg "_sight_behind" s__sight_behind ["play"] f7 d7) (D__reason_against : Df K mg "_reason_against" s__reason_against ["kind", "play", "waiting", "step"] f8 d8) (D__note_open : Df K mg "_note_open" s__note_open ["waiting", "number", "step"] f9 d9)
    (B : Bt mg) : FnOk P w K mg base CX0 6 f fd ["kind", "play"] (spFo K) := by
  have G__reason_against : FnOk P w K mg base CX0 5 f8 d8 ["kind", "play", "waiting", "step"] (spRA K) := ok_ra hBG hKB D__reason_against D__is_later_step D__is_move D_is_tuple_of D_is_whole D_is_answer D__is_placed D_kind_at D__sight_behind B
  have G__note_open : FnOk P w K mg base CX0 1 f9 d9 ["waiting", "number", "step"] (spNO K) := ok_no D__note_open B
  refine D_fault_of.ok c_fault_of (fun vs H Q E h => ?_) (fun cdv A outer s H vs Q E hr h => ?_)
  · obtain ⟨kv, v, kd, pl, s, j, rfl, _⟩ := h
    rfl
  obtain ⟨kv, v, kd, pl, st, j, rfl, rk, hk, hkz, rv, hLQ, hne, hb, hj, hsh, hsl, q1, q2⟩ := h
  have nd := c_fault_of.nd
  refine ⟨_, (pss_cons (ps_set (i := 2) nd rfl (Or.inl rfl) (pe_lst pa_nil))
  (pss_cons (ps_for PassesOwn.never rfl (pi_enumT (by rfl) B.b_enumerate (pa_cons (pv 1) pa_nil)) (pg_tup rfl (pgs_cons (pg_name (i := 3) nd rfl (Or.inl rfl)) (pgs_cons (pg_name (i := 4) nd rfl (Or.inl rfl)) pgs_nil))) (pss_cons (ps_set (i := 5) nd rfl (Or.inl rfl) (pe_call G__reason_against (hr.mono (by first | decide | omega)) (by rfl) D__reason_against.m D__reason_against.kp D__reason_against.b .nil pass0 (pa_cons (pv 0) (pa_cons (pe_slice sl_tupP (pv 1) po_none (po_some (pv 3))) (pa_cons (pv 2) (pa_cons (pv 4) pa_nil))))))
  (pss_cons (ps_if (pt_cmpR op_notN (pv 5) pe_non (nomark _)) (pss_one (ps_ret (pe_tup (pa_cons (pv 3) (pa_cons (pv 5) pa_nil))))) pss_nil)
  (pss_one (ps_expr (pe_call G__note_open (hr.mono (by first | decide | omega)) (by rfl) D__note_open.m D__note_open.kp D__note_open.b .nil pass0 (pa_cons (pv 2) (pa_cons (pv 3) (pa_cons (pv 4) pa_nil)))))))))
  (pss_one (ps_ret pe_non)))), ?_⟩
  obtain ⟨a, xs, rfl, ha, rxs, lx⟩ := play_inv rv
  rw [List.length_append, List.length_singleton] at lx
  have hLP := hLQ.lp
  have hlen := hLP.len
  have hp : 0 < pl.length := List.length_pos_iff.mpr hne
  -- the step at each turn
  have hat : ∀ i, i < xs.length → ∃ t, (pl ++ [st])[i]? = some t ∧ ((i < pl.length ∧ pl[i]? = some t) ∨ (i = pl.length ∧ t = st)) := fun i hi => by
    by_cases h : i < pl.length
    · exact ⟨pl[i], by rw [List.getElem?_append_left h, List.getElem?_eq_getElem h], .inl ⟨h, List.getElem?_eq_getElem h⟩⟩
    · have e : i = pl.length := by omega
      subst e
      exact ⟨st, by rw [List.getElem?_append_right (Nat.le_refl _), Nat.sub_self]; rfl, .inr ⟨rfl, rfl⟩⟩
  refine ⟨(by show 0 ≤ sizeLine; decide), fun l nl => ?_⟩
  refine ⟨_, rfl, a, xs, rfl, (ha.same (same_new nl _)).sq, for_it walk_enumT (fun i σ H' => Nw l H H' (nats (opens (pl ++ [st]) i)) ∧ (i = xs.length → lgB kd pl (opens pl pl.length) st = true) ∧ ∃ (y3 y4 y5 : Option V), σ = [some kv, some (.ref a), some (.ref l), y3, y4, y5])
    ⟨⟨same_new nl _, nl, upd_same⟩, fun e => by omega, none, none, none, rfl⟩ (fun i σ H' _ h => (ha.same h.1.s).sq) ?_ ?_⟩
  · rintro i x σ H1 H1' hi ⟨hn, _, y3, y4, y5, rfl⟩ ⟨T, x1, y1, rfl, nT, rfl, hx1, hy1⟩
    have hx1' : V.int (i : Nat) = x1 := Option.some.inj hx1
    subst hx1'
    obtain ⟨t, ht, hcase⟩ := hat i hi
    obtain ⟨y1', hy', ry⟩ := play_at rxs ht
    have hy2 : xs[i]? = some y1 := hy1
    rw [hy2] at hy'
    cases hy'
    have hil : i ≤ pl.length := by omega
    have eo : opens (pl ++ [st]) i = opens pl i := opens_app pl st hil
    rw [eo] at hn
    have sT := same_new nT (.tup [.int (i : Nat), y1])
    have hn2 := hn.step sT
    refine ⟨T, _, rfl, SqT.of upd_same, rfl, _, _, rfl, _, _, rfl, rfl, ?_⟩
    -- what stands ahead of it
    refine ⟨_, rfl, _, rfl, _, rfl, _, rfl, a, xs, rfl, ha.same hn2.s, fun cp H2 s2 hcp => ?_⟩
    rw [cutV_to] at hcp
    have rpart : Rep K H2 (.ref cp) (playD (pl.take i)) := by
      show Rep K H2 (.ref cp) (.tup ((pl.take i).map stD))
      have e : (pl.take i).map stD = ((pl ++ [st]).map stD).take i := by
        rw [← List.map_take, List.take_append_of_le_length hil]
      rw [e]
      exact .tup hcp ((rxs.mono (kx_same (hn2.s.trans s2))).take i)
    have hn3 := hn2.step s2
    have s03 := hn3.s
    have eti : (pl.take i).length = i := by
      rw [List.length_take]
      omega
    have eot : opens (pl.take i) (pl.take i).length = opens pl i := by
      rw [eti]
      exact opens_take pl i i (Nat.le_refl _)
    have hLt := hLP.take i
    have ry2 := ry.mono (kx_same s03)
    have hol := opens_len pl i
    -- behind a legal step
    have go : ∀ (H5 : Hp), Same H2 H5 → (∀ u, t.mv = .say u → ∃ k, t.back = some k ∧ k ∈ opens pl i) → (i + 1 = xs.length → lgB kd pl (opens pl pl.length) st = true) →
        Nw l H (upd H5 l (.lst (nats (opnS (opens pl i) i t)))) (nats (opens (pl ++ [st]) (i + 1))) ∧ (i + 1 = xs.length → lgB kd pl (opens pl pl.length) st = true) := fun H5 s5 hs hg => by
      refine ⟨?_, hg⟩
      rw [opens_succ ht, eo]
      exact (hn3.step s5).put _
    refine ⟨_, rfl, _, rfl, kv, .ref cp, y1, l, kd, pl.take i, opens pl i, t, rfl, rk.mono (kx_same s03), hk, rpart, .inl (SqL.of hn3.h), fun H' e => .inl (SqL.of (e _ _ hn3.h)), ry2, hLt.wb, by omega, ?_⟩
    rcases hcase with ⟨hlt, hpt⟩ | ⟨rfl, rfl⟩
    · -- a step of the legal play
      have hmem := hLQ.rs i t hpt
      by_cases h0 : i = 0
      · subst h0
        have et : t = BEG := List.mem_singleton.mp hmem
        subst et
        refine .inl ⟨rfl, rfl, fun H5 s5 => ?_⟩
        refine ⟨_, rfl, rfl, _, rfl, iteF ⟨_, rfl, _, rfl, _, rfl, l, opens pl 0, 0, y1, BEG, rfl, (hn3.step s5).h, ry2.mono (kx_same s5), opens_up pl 0, by omega, fun u e => (by cases e), ?_⟩⟩
        obtain ⟨g1, g2⟩ := go H5 s5 (fun u e => by cases e) (fun e => by omega)
        exact ⟨g1, g2, _, _, _, rfl⟩
      · have hti : pl.take i ≠ [] := fun e => by
          have := congrArg List.length e
          rw [eti] at this
          exact h0 this
        obtain ⟨hlg, hshT⟩ := (mem_rows hk).mp ((lawR_mem hti).mp hmem)
        rw [eot] at hlg
        obtain ⟨k, hk1, hk2⟩ := hLP.wb.later i t (Nat.pos_of_ne_zero h0) hpt
        have hsay : ∀ u, t.mv = .say u → ∃ k, t.back = some k ∧ k ∈ opens pl i := fun u e => by
          obtain ⟨m, b⟩ := t
          have e' : m = .say u := e
          subst e'
          exact hLP.op i u b hpt
        refine .inr ⟨hti, k, hk1, by omega, hshT, fun p e => ?_, fun H5 s5 _ => ?_, fun x5 H5 s5 hf => ?_⟩
        · obtain ⟨m, b⟩ := t
          have e' : m = .ask p := e
          subst e'
          obtain ⟨e2, he2⟩ := hLP.pa i p b hpt
          have := atD_len p kd _ he2
          omega
        · refine ⟨_, rfl, rfl, _, rfl, iteF ⟨_, rfl, _, rfl, _, rfl, l, opens pl i, i, y1, t, rfl, (hn3.step s5).h, ry2.mono (kx_same s5), opens_up pl i, by omega, hsay, ?_⟩⟩
          obtain ⟨g1, g2⟩ := go H5 s5 hsay (fun e => by omega)
          exact ⟨g1, g2, _, _, _, rfl⟩
        · rw [hlg] at hf
          cases hf
    · -- the last one
      rw [List.take_length] at rpart ⊢
      refine .inr ⟨hne, j, hb, hj, hsh, hsl, fun H5 s5 hlg => ?_, fun x5 H5 s5 hf => ?_⟩
      · have hsay : ∀ u, t.mv = .say u → ∃ k, t.back = some k ∧ k ∈ opens pl pl.length := fun u e => by
          obtain ⟨m, b⟩ := t
          have e' : m = .say u := e
          subst e'
          obtain ⟨k, q, e1, _, _, e2, _⟩ := lg_say.mp hlg
          exact ⟨k, e1, List.mem_of_getLast? e2⟩
        refine ⟨_, rfl, rfl, _, rfl, iteF ⟨_, rfl, _, rfl, _, rfl, l, opens pl pl.length, pl.length, y1, t, rfl, (hn3.step s5).h, ry2.mono (kx_same s5), opens_up pl _, by omega, hsay, ?_⟩⟩
        obtain ⟨g1, g2⟩ := go H5 s5 hsay (fun _ => hlg)
        exact ⟨g1, g2, _, _, _, rfl⟩
      · refine ⟨_, rfl, rfl, _, rfl, iteT ⟨_, rfl, _, rfl, (by show 2 ≤ sizeLine; decide), fun tt ntt => ?_⟩⟩
        have st2 := same_new ntt (.tup [.int (pl.length : Nat), .str x5])
        exact q2 _ x5 _ (s03.trans (s5.trans st2)) hf (.tup' upd_same (.cons (.at rfl) (.one (.at rfl))))
  · rintro σ H1 ⟨hn, hg, y3, y4, y5, rfl⟩
    exact q1 _ hn.s (hg rfl)
end
end Pk

set_option maxRecDepth 100000
set_option maxHeartbeats 1000000
set_option pp.maxSteps 300
namespace Pk
open PySem PySem.Spec PyProof.Rows L2
theorem tuple_mul1 (l : Addr) (items : Array Value) (n : Nat) (dd : Option Addr) (sl : Array (Option Value)) (u : Tok) :
    Meets (Builtin.«tuple.__mul__» ⟨[.ref l, .int 1 u], []⟩) (fun _ R s => s.heap.get? l = some { cls := .type "tuple", dict := dd, data := .seq items n, slots := sl } ∧ R (.ok (.ret (Value.ref l))) s) :=
  .of_wp fun prog w A R s h => by
    obtain ⟨hp, g, d, tk, os⟩ := s
    obtain ⟨hl, h⟩ := h
    have f1 := AutoSeq1.idx_int
    wp_walk using wpAny_loadPart' hl
    repeat (first
      | (refine wpAny_ite_false (by decide) ?_; wp_walk using wpAny_loadPart' hl)
      | (refine wpAny_ite_true (by simp) ?_; wp_walk using wpAny_loadPart' hl))
    exact ⟨_, rfl, h⟩
section
variable {X : Cx}
def rRepN (K : PySem.W.Frag) : R2 := fun x y H Q => ∃ l k xs, x = .ref l ∧ y = .int k ∧ SqT K H l xs ∧ xs ≠ [] ∧ 1 ≤ k ∧ k ≤ 1000 ∧ xs.length ≤ 1000 ∧ (k = 1 → Q (.ref l) H) ∧ (2 ≤ k → ∀ p, H p = none → Q (.ref p) (upd H p (.tup (List.replicate k.toNat xs).flatten)))
theorem op_repN : OpR X (binaryOp .Mult) (rRepN X.K) := by
  intro pins s σ H x y v u Q I rx ry h
  obtain ⟨l, k, xs, rfl, rfl, hT, hne, h1, h2, hz, q1, q2⟩ := h
  by_cases hk : k = 1
  · subst hk
    cases rx
    obtain ⟨t, rfl⟩ := ry
    obtain ⟨its, r, ⟨⟨cls, dd, data, sl⟩, ho, hc, n, hd⟩, hs⟩ := I.tuple hT
    simp only at hc hd
    subst hc hd
    refine wpAny_binaryOp_repeat_ref (T := "tuple") (U := "int") (by decide) ⟨_, ho, rfl⟩ (fun s' => typeIs_int s' 1 t) noFill_tuple_mul F.fills_int_mul F.slot_int_rmul repeat_tuple F.slot_int_index.lookup
      (call_meets F.slot_int_rmul (typeIs_int s 1 t) F.entry_int_rmul (F.args_int_rmul_2 _ _) (int_rmul_tuple 1 t l its.toArray n dd sl)
        ⟨ho, rfl, ⟨_, ho, rfl⟩, call_meets F.slot_tuple_mul ⟨_, ho, rfl⟩ F.entry_tuple_mul (F.args_tuple_mul_2 _ _) (tuple_mul1 l its.toArray n dd sl t) ⟨ho, ?_⟩⟩)
    exact ⟨.ref l, H, I, rfl, q1 rfl⟩
  · exact op_repT pins s σ H _ _ v u Q I rx ry ⟨l, k, xs, rfl, rfl, hT, hne, by omega, h2, hz, q2 (by omega)⟩
end
end Pk

set_option maxRecDepth 100000
set_option maxHeartbeats 1000000
set_option pp.maxSteps 300
namespace Pk
open PySem PySem.Spec PyProof.Rows L2
section
variable {P : Program} {w : World} {K : PySem.W.Frag} {mg : Str → Option Value} {base : Heap}
/-! ### _law_near_step -/
def FOk (pl : List Stp) (F : List Nat) : Prop := ∀ k ∈ F, k < pl.length ∧ ∃ p, askPl pl k = some p
def spNe (K : PySem.W.Frag) : Sp := fun vs H Q _ => ∃ (b c : Addr) (v : V) (kd : D) (pl : List Stp), vs = [.ref b, v] ∧ BoxAt H b c ∧ Rep K H v (playD pl) ∧ LP kd pl ∧ sz kd ≤ 60 ∧ pl ≠ [] ∧
  ∀ (z : V) (H' : Hp) (s : Stp) (j : Nat), Rep K H' z (stD s) → s.back = some j → j < pl.length → ShS s → (∀ p, s.mv = .ask p → p.length ≤ 1000) → BoxAt H' b c → SB b H H' → Q z H'
theorem ok_ne {f f4 : Addr} {fd d4 : FuncData} (D__law_near_step : Df K mg "_law_near_step" s__law_near_step ["box", "play"] f fd) (D__law_draw : Df K mg "_law_draw" s__law_draw ["box", "many"] f4 d4) (B : Bt mg) : FnOk P w K mg base CX0 2 f fd ["box", "play"] (spNe K) := by
  have G__law_draw : FnOk P w K mg base CX0 1 f4 d4 ["box", "many"] spDraw := ok_draw D__law_draw B
  refine D__law_near_step.ok c__law_near_step (fun vs H Q E h => ?_) (fun cdv A outer s H vs Q E hr h => ?_)
  · obtain ⟨b, c, v, kd, pl, rfl, _⟩ := h
    rfl
  obtain ⟨b, c, v, kd, pl, rfl, hB, rv, hLP, hkz, hne, q⟩ := h
  have nd := c__law_near_step.nd
  refine ⟨_, (pss_cons (ps_set (i := 2) nd rfl (Or.inr rfl) (pe_callB call_len_seq (by rfl) B.b_len PySem.boot_len (pa_cons (pv 1) pa_nil)))
  (pss_cons (ps_if (pt_cmpR op_eq (pv 2) pe_int (nomark _)) (pss_one (ps_ret (pe_tup (pa_cons (pe_tup (pa_cons pe_str (pa_cons (pe_tup (pa_cons (pe_call G__law_draw (hr.mono (by first | decide | omega)) (by rfl) D__law_draw.m D__law_draw.kp D__law_draw.b .nil pass0 (pa_cons (pv 0) (pa_cons pe_int pa_nil))) pa_nil)) pa_nil))) (pa_cons pe_non pa_nil))))) pss_nil)
  (pss_cons (ps_setLc (i := 3) (own := [("k", 8)]) (g := (gName 8)) (tt := _) rfl nd rfl rfl (sw_true rfl rfl rfl (by decide +kernel)) (pi_range1 (by rfl) B.b_range (pa_cons (pv 2) pa_nil)) (blkOk_by (own := [("k", 8)]) (N := ["box", "play", "n", "found", "other", "back", "place", "pick", "k"]) (sc := defScope s__law_near_step) (by decide +kernel)) (fun _ _ _ _ _ => (pg_name (i := 8) nd rfl (Or.inl rfl))) (fun _ _ _ _ _ => (pts_one (pt_cmpR op_eq (pe_ix (show IxR _ (rIxT K) from ix_tup) (pe_ix (show IxR _ (rIxT K) from ix_tup) (pe_ix (show IxR _ (rIxT K) from ix_tup) (pv 1) (pv 8) (fun _ _ => rfl)) pe_int (fun _ _ => rfl)) pe_int (fun _ _ => rfl)) pe_str (nomark _)))) (fun _ _ _ _ _ => (pv 8)))
  (pss_cons (ps_setLc (i := 4) (own := [("k", 8)]) (g := (gName 8)) (tt := _) rfl nd rfl rfl (sw_true rfl rfl rfl (by decide +kernel)) (pi_list (pv 3)) (blkOk_by (own := [("k", 8)]) (N := ["box", "play", "n", "found", "other", "back", "place", "pick", "k"]) (sc := defScope s__law_near_step) (by decide +kernel)) (fun _ _ _ _ _ => (pg_name (i := 8) nd rfl (Or.inl rfl))) (fun _ _ _ _ _ => (pts_one (pt_cmpR op_eq (pe_op op_mod (pe_callTy call_int1 (by rfl) B.b_int (by decide +kernel) (pa_cons (pe_op op_sub (pv 2) (pv 8)) pa_nil)) pe_int) pe_int (nomark _)))) (fun _ _ _ _ _ => (pv 8)))
  (pss_cons (ps_if (PW.pt (pw_and (pt_cmpR (op_neNil hr.units) (pv 4) (pe_lst pa_nil) (nomark _)) (pw_and1 (pt_cmpR op_gt (pe_call G__law_draw (hr.mono (by first | decide | omega)) (by rfl) D__law_draw.m D__law_draw.kp D__law_draw.b .nil pass0 (pa_cons (pv 0) (pa_cons pe_int pa_nil))) pe_int (nomark _))))) (pss_one (ps_set (i := 3) nd rfl (Or.inl rfl) (pv 4))) pss_nil)
  (pss_cons (ps_set (i := 5) nd rfl (Or.inl rfl) (pe_ix ix_list (pv 3) (pe_call G__law_draw (hr.mono (by first | decide | omega)) (by rfl) D__law_draw.m D__law_draw.kp D__law_draw.b .nil pass0 (pa_cons (pv 0) (pa_cons (pe_callB call_len_seq (by rfl) B.b_len PySem.boot_len (pa_cons (pv 3) pa_nil)) pa_nil))) (fun _ _ => rfl)))
  (pss_cons (ps_set (i := 6) nd rfl (Or.inl rfl) (pe_ix ix_tup (pe_ix ix_tup (pe_ix ix_tup (pv 1) (pv 5) (fun _ _ => rfl)) pe_int (fun _ _ => rfl)) pe_int (fun _ _ => rfl)))
  (pss_cons (ps_set (i := 7) nd rfl (Or.inl rfl) (pe_call G__law_draw (hr.mono (by first | decide | omega)) (by rfl) D__law_draw.m D__law_draw.kp D__law_draw.b .nil pass0 (pa_cons (pv 0) (pa_cons pe_int pa_nil))))
  (pss_cons (ps_if (pt_cmpR op_le (pv 7) pe_int (nomark _)) (pss_one (ps_ret (pe_tup (pa_cons (pe_tup (pa_cons pe_str (pa_cons (pe_call G__law_draw (hr.mono (by first | decide | omega)) (by rfl) D__law_draw.m D__law_draw.kp D__law_draw.b .nil pass0 (pa_cons (pv 0) (pa_cons pe_int pa_nil))) pa_nil))) (pa_cons (pv 5) pa_nil))))) pss_nil)
  (pss_cons (ps_if (pt_cmpR op_eq (pv 7) pe_int (nomark _)) (pss_one (ps_ret (pe_tup (pa_cons (pe_tup (pa_cons pe_str (pa_cons (pv 6) pa_nil))) (pa_cons (pv 5) pa_nil))))) pss_nil)
  (pss_cons (ps_if (pt_cmpR op_eq (pv 7) pe_int (nomark _)) (pss_one (ps_ret (pe_tup (pa_cons (pe_tup (pa_cons pe_str (pa_cons (pe_op op_repN (pe_tup (pa_cons (pe_call G__law_draw (hr.mono (by first | decide | omega)) (by rfl) D__law_draw.m D__law_draw.kp D__law_draw.b .nil pass0 (pa_cons (pv 0) (pa_cons pe_int pa_nil))) pa_nil)) (pe_op op_add pe_int (pe_call G__law_draw (hr.mono (by first | decide | omega)) (by rfl) D__law_draw.m D__law_draw.kp D__law_draw.b .nil pass0 (pa_cons (pv 0) (pa_cons pe_int pa_nil))))) pa_nil))) (pa_cons (pv 5) pa_nil))))) pss_nil)
  (pss_cons (ps_if (pt_cmpR op_eq (pv 7) pe_int (nomark _)) (pss_one (ps_ret (pe_tup (pa_cons (pe_tup (pa_cons pe_str (pa_cons (pe_call G__law_draw (hr.mono (by first | decide | omega)) (by rfl) D__law_draw.m D__law_draw.kp D__law_draw.b .nil pass0 (pa_cons (pv 0) (pa_cons pe_int pa_nil))) pa_nil))) (pa_cons (pe_call G__law_draw (hr.mono (by first | decide | omega)) (by rfl) D__law_draw.m D__law_draw.kp D__law_draw.b .nil pass0 (pa_cons (pv 0) (pa_cons (pv 2) pa_nil))) pa_nil))))) pss_nil)
  (pss_one (ps_ret (pe_tup (pa_cons (pe_tup (pa_cons pe_str (pa_cons (pe_op op_catP (pv 6) (pe_tup (pa_cons (pe_call G__law_draw (hr.mono (by first | decide | omega)) (by rfl) D__law_draw.m D__law_draw.kp D__law_draw.b .nil pass0 (pa_cons (pv 0) (pa_cons pe_int pa_nil))) pa_nil))) pa_nil))) (pa_cons (pv 5) pa_nil))))))))))))))))), ?_⟩
  obtain ⟨a, xs, rfl, ha, rxs, lx⟩ := play_inv rv
  have hlen := hLP.len
  have hp : 0 < pl.length := List.length_pos_iff.mpr hne
  obtain ⟨bs0, hbs0⟩ := hB.lst
  obtain ⟨cs0, hcs0⟩ := hB.dst
  refine ⟨_, rfl, a, xs, rfl, .inr ha.sq, ?_⟩
  refine ⟨_, rfl, rfl, _, rfl, ite2 (fun z => ?_) (fun _ => ?_)⟩
  · have := V.int.inj (of_decide_eq_true z)
    omega
  -- the asks
  refine ⟨_, rfl, _, rfl, by omega, by omega, fun d hd => ?_⟩
  refine lc_range (n := xs.length) (fun k H' => Same H H' ∧ ∃ F, H' d = some (.lst (nats F)) ∧ FOk pl F ∧ F.length ≤ k ∧ (0 < k → F ≠ [])) ⟨same_new hd _, [], upd_same, (fun k h => by cases h), Nat.le_refl _, fun h => absurd h (Nat.lt_irrefl 0)⟩ ?_ ?_
  · rintro k H1 hk ⟨s1, F, hd1, hF, lF, nF⟩
    have ez : (0 : Int) + (k : Nat) = ((k : Nat) : Int) := Int.zero_add _
    have hkl : k < pl.length := by omega
    have ep : pl[k]? = some pl[k] := List.getElem?_eq_getElem hkl
    obtain ⟨x, hx, rx⟩ := play_at rxs ep
    obtain ⟨a2, m2, b2, rfl, ha2, rm2, rb2⟩ := step_inv rx
    rw [ez]
    cases hmv : pl[k].mv with
    | say u =>
      rw [hmv] at rm2
      obtain ⟨a3, rfl, ha3⟩ := say_inv rm2
      refine ⟨rfl, _, rfl, _, rfl, a, xs, _, _, rfl, rfl, (ha.same s1).sq, atI_nat hx, a2, _, 0, _, rfl, rfl, (ha2.same s1).sq, atI_nat (j := 0) rfl, a3, _, 0, _, rfl, rfl, (ha3.same s1).sq, atI_nat (j := 0) rfl, rfl, _, rfl, iteF ⟨s1, F, hd1, hF, by omega, fun _ => ?_⟩⟩
      by_cases h0 : k = 0
      · have := hLP.wb.first pl[k] (by rw [← h0, ep])
        rw [this] at hmv
        cases hmv
      · exact nF (by omega)
    | ask p =>
      rw [hmv] at rm2
      obtain ⟨a3, qv, rfl, ha3, rq⟩ := ask_inv rm2
      refine ⟨rfl, _, rfl, _, rfl, a, xs, _, _, rfl, rfl, (ha.same s1).sq, atI_nat hx, a2, _, 0, _, rfl, rfl, (ha2.same s1).sq, atI_nat (j := 0) rfl, a3, _, 0, _, rfl, rfl, (ha3.same s1).sq, atI_nat (j := 0) rfl, rfl, _, rfl, iteT ⟨_, rfl, _, hd1, small6 (by rw [nats_len]; omega), fun o x e => ?_, F ++ [k], ?_, fun j hj => ?_, ?_, fun _ e => by simp at e⟩⟩
      · rw [upd_ne (ne_of_none e hd)]
        exact s1 _ _ e
      · rw [nats_snoc]
        exact upd_same
      · rcases List.mem_append.mp hj with hj | hj
        · exact hF j hj
        · rw [List.mem_singleton.mp hj]
          exact ⟨hkl, p, askPl_of (b := pl[k].back) (by rw [ep, ← hmv])⟩
      · rw [List.length_append, List.length_singleton]
        omega
  rintro H1 ⟨s1, F, hd1, hF, lF, nF⟩
  have hFne := nF (by omega)
  have hdb : d ≠ b := fun e => by rw [e, hbs0] at hd; cases hd
  -- those of the other side
  refine ⟨_, rfl, d, rfl, ⟨_, SqL.of hd1⟩, fun d2 hd2 => ?_⟩
  have hd2H : H d2 = none := s1.free hd2
  have hd2b : d2 ≠ b := fun e => by rw [e, hbs0] at hd2H; cases hd2H
  refine lc_list (xs := nats F) (fun k H' => Same H1 H' ∧ ∃ G, H' d2 = some (.lst (nats G)) ∧ FOk pl G ∧ G.length ≤ k) ⟨same_new hd2 _, [], upd_same, (fun k h => by cases h), Nat.le_refl _⟩ (fun k H' _ h => SqL.of (h.1 _ _ hd1)) ?_ ?_
  · rintro i x H2 hi ⟨s2, G, hd3, hG, lG⟩
    obtain ⟨k, hk, rfl⟩ := nats_at hi
    have hil := (List.getElem?_eq_some_iff.mp hk).1
    refine ⟨rfl, _, rfl, _, rfl, _, _, rfl, rfl, .inl ⟨_, rfl, _, _, rfl, rfl, (by show (0 : Int) < 2; decide), rfl, _, rfl, ite2 (fun _ => ?_) (fun _ => ⟨s2, G, hd3, hG, by omega⟩)⟩⟩
    refine ⟨_, rfl, _, hd3, small6 (by rw [nats_len]; omega), fun o x e => ?_, G ++ [k], ?_, fun j hj => ?_, ?_⟩
    · rw [upd_ne (ne_of_none e hd2)]
      exact s2 _ _ e
    · rw [nats_snoc]
      exact upd_same
    · rcases List.mem_append.mp hj with hj | hj
      · exact hG j hj
      · rw [List.mem_singleton.mp hj]
        exact hF k (List.mem_of_getElem? hk)
    · rw [List.length_append, List.length_singleton]
      omega
  rintro H2 ⟨s2, G, hd3, hG, lG⟩
  rw [nats_len] at lG
  have s12 := s1.trans s2
  have hB2 := hB.same s12
  refine nx_rest (fun σ' H' => ∃ (l : Addr) (L : List Nat) (y4 y5 y6 y7 y8 : Option V), σ' = [some (.ref b), some (.ref a), some (.int ((xs.length : Nat) : Int)), some (.ref l), y4, y5, y6, y7, y8] ∧ l ≠ b ∧ H' l = some (.lst (nats L)) ∧ FOk pl L ∧ L ≠ [] ∧ L.length ≤ 40 ∧ BoxAt H' b c ∧ SB b H H') (fun rest => ?_) ?_
  · refine ⟨_, rfl, (by show 0 ≤ sizeLine; decide), fun t nt => ?_⟩
    have st := same_new nt (.lst [])
    refine ⟨d2, t, _, rfl, rfl, SqL.of (st _ _ hd3), SqL.of upd_same, _, rfl, ite2 (fun z => ?_) (fun _ => rest _ _ ⟨d, F, _, _, _, _, _, rfl, hdb, st _ _ (s2 _ _ hd1), hF, hFne, by omega, hB2.same st, sb_same (s12.trans st)⟩)⟩
    have hGne : G ≠ [] := fun e => by
      subst e
      exact absurd z (by decide)
    refine ⟨_, rfl, b, c, 4, rfl, hB2.same st, by decide, fun r H3 _ _ hB3 sb3 => ⟨_, _, rfl, rfl, _, rfl, ite2 (fun _ => ?_) (fun _ => ?_)⟩⟩
    · exact ⟨_, rfl, rest _ _ ⟨d2, G, _, _, _, _, _, rfl, hd2b, sb3 _ _ hd2b (st _ _ hd3), hG, hGne, by omega, hB3, (sb_same (s12.trans st)).trans sb3⟩⟩
    · exact rest _ _ ⟨d, F, _, _, _, _, _, rfl, hdb, sb3 _ _ hdb (st _ _ (s2 _ _ hd1)), hF, hFne, by omega, hB3, (sb_same (s12.trans st)).trans sb3⟩
  clear hd1 hd3 hF hG hFne
  rintro σ H3 ⟨l, L, y4, y5, y6, y7, y8, rfl, hlb, hl, hL, hLne, lL, hB3, sb3⟩
  have hLp : 0 < L.length := List.length_pos_iff.mpr hLne
  refine ⟨_, rfl, _, rfl, _, rfl, l, _, rfl, .inl (SqL.of hl), b, c, (((nats L).length : Nat) : Int), rfl, hB3, by rw [nats_len]; omega, fun r H4 r0 r1 hB4 sb4 => ?_⟩
  rw [nats_len] at r1
  obtain ⟨g, rfl⟩ : ∃ g : Nat, r = (g : Int) := ⟨r.toNat, by omega⟩
  have hg : g < L.length := by omega
  have hgL : (nats L)[g]? = some (V.int (L[g] : Nat)) := by
    unfold nats
    rw [List.getElem?_map, List.getElem?_eq_getElem hg]
    rfl
  obtain ⟨hj, p, hap⟩ := hL L[g] (List.getElem_mem hg)
  generalize L[g] = j at hgL hj hap
  refine ⟨l, _, _, _, rfl, rfl, SqL.of (sb4 _ _ hlb hl), atI_nat hgL, ?_⟩
  have sb04 := sb3.trans sb4
  have k4 := box_kx hB hB4 sb04
  obtain ⟨bb, hbb⟩ := askPl_some hap
  obtain ⟨x, hx, rx⟩ := play_at rxs hbb
  obtain ⟨a2, m2, b2, rfl, ha2, rm2, rb2⟩ := step_inv rx
  obtain ⟨a3, qv, rfl, ha3, rq⟩ := ask_inv rm2
  obtain ⟨e, he⟩ := hLP.at hap
  have hpl := atD_len p kd e he
  refine ⟨_, rfl, _, rfl, a, xs, _, _, rfl, rfl, (ha.kx k4).sq, atI_nat hx, a2, _, 0, _, rfl, rfl, (ha2.kx k4).sq, atI_nat (j := 0) rfl, a3, _, 1, _, rfl, rfl, (ha3.kx k4).sq, atI_nat (j := 1) rfl, ?_⟩
  refine ⟨_, rfl, b, c, 8, rfl, hB4, by decide, fun r H5 r0 r8 hB5 sb5 => ?_⟩
  have sb05 := sb04.trans sb5
  have k5 := box_kx hB hB5 sb05
  have rq5 := rq.mono k5
  clear ha2 ha3 rm2 rb2 rx k4 hB4
  -- a say
  have sayc : ∀ (u : Nat) (H' : Hp) (bv : V) (jb : Nat), u ≤ 1 → bv = .int (jb : Nat) → jb < pl.length → BoxAt H' b c → SB b H H' → ∀ t, H' t = none → ∀ t2, upd H' t (.tup [.str "say", .int (u : Nat)]) t2 = none → Q (.ref t2) (upd (upd H' t (.tup [.str "say", .int (u : Nat)])) t2 (.tup [.ref t, bv])) := fun u H' bv jb hu eb hjb hB' sb' t nt t2 nt2 => by
    subst eb
    have u1 := same_new nt (.tup [.str "say", .int (u : Nat)])
    have u2 := same_new nt2 (.tup [.ref t, .int (jb : Nat)])
    refine q _ _ ⟨.say u, some jb⟩ jb ?_ rfl hjb (fun v e => by cases e; exact hu) (fun p e => by cases e) (hB'.same (u1.trans u2)) (sb'.trans (sb_same (u1.trans u2)))
    exact .tup' upd_same (.cons (.tup' (u2 _ _ upd_same) (.cons (.at rfl) (.one (.at rfl)))) (.one (.at rfl)))
  -- an ask
  have askc : ∀ (p' : List Nat) (H' : Hp) (pv : V), p'.length ≤ 1000 → Rep K H' pv (plD p') → BoxAt H' b c → SB b H H' → ∀ t, H' t = none → ∀ t2, upd H' t (.tup [.str "ask", pv]) t2 = none → Q (.ref t2) (upd (upd H' t (.tup [.str "ask", pv])) t2 (.tup [.ref t, .int (j : Nat)])) := fun p' H' pv hl' rp' hB' sb' t nt t2 nt2 => by
    have u1 := same_new nt (.tup [.str "ask", pv])
    have u2 := same_new nt2 (.tup [.ref t, .int (j : Nat)])
    refine q _ _ ⟨.ask p', some j⟩ j ?_ rfl hj (fun v e => by cases e) (fun p e => by cases e; exact hl') (hB'.same (u1.trans u2)) (sb'.trans (sb_same (u1.trans u2)))
    exact .tup' upd_same (.cons (.tup' (u2 _ _ upd_same) (.cons (.at rfl) (.one (rp'.mono (kx_same (u1.trans u2)))))) (.one (.at rfl)))
  refine ⟨_, rfl, _, _, rfl, rfl, _, rfl, ite2 (fun _ => ?_) (fun _ => ?_)⟩
  · refine ⟨_, rfl, b, c, 2, rfl, hB5, by decide, fun r H6 r0 r2 hB6 sb6 => ⟨(by show 2 ≤ sizeLine; decide), fun t nt => ⟨_, rfl, (by show 2 ≤ sizeLine; decide), fun t2 nt2 => ?_⟩⟩⟩
    obtain ⟨u, rfl⟩ : ∃ u : Nat, r = (u : Int) := ⟨r.toNat, by omega⟩
    exact sayc u H6 _ j (by omega) rfl hj hB6 (sb05.trans sb6) t nt t2 nt2
  refine ⟨_, rfl, rfl, _, rfl, ite2 (fun _ => ?_) (fun _ => ?_)⟩
  · exact ⟨_, rfl, (by show 2 ≤ sizeLine; decide), fun t nt => ⟨_, rfl, (by show 2 ≤ sizeLine; decide), fun t2 nt2 => askc p H5 _ (by omega) rq5 hB5 sb05 t nt t2 nt2⟩⟩
  refine ⟨_, rfl, rfl, _, rfl, ite2 (fun _ => ?_) (fun _ => ?_)⟩
  · refine ⟨_, rfl, b, c, 4, rfl, hB5, by decide, fun r H6 r0 r4 hB6 sb6 => ⟨(by show 1 ≤ sizeLine; decide), fun t1 nt1 => ?_⟩⟩
    obtain ⟨g1, rfl⟩ : ∃ u : Nat, r = (u : Int) := ⟨r.toNat, by omega⟩
    have u1 := same_new nt1 (.tup [.int (g1 : Nat)])
    have hB6' := hB6.same u1
    refine ⟨_, rfl, b, c, 4, rfl, hB6', by decide, fun r2 H7 r20 r24 hB7 sb7 => ⟨_, _, rfl, rfl, ?_⟩⟩
    obtain ⟨g2, rfl⟩ : ∃ u : Nat, r2 = (u : Int) := ⟨r2.toNat, by omega⟩
    have ht1b : t1 ≠ b := fun e => by
      obtain ⟨z, hz⟩ := hB6.lst
      rw [e, hz] at nt1
      cases nt1
    have h7 := sb7 _ _ ht1b upd_same
    have sb07 := sb05.trans (sb6.trans ((sb_same u1).trans sb7))
    refine ⟨t1, _, [.int (g1 : Nat)], rfl, rfl, .inl (.inl h7), (fun e => by cases e), by omega, by omega, (by show 1 ≤ 1000; decide), fun _ => ⟨(by show 2 ≤ sizeLine; decide), fun t nt => ⟨_, rfl, (by show 2 ≤ sizeLine; decide), fun t2 nt2 => ?_⟩⟩, fun _ p3 np3 => ⟨(by show 2 ≤ sizeLine; decide), fun t nt => ⟨_, rfl, (by show 2 ≤ sizeLine; decide), fun t2 nt2 => ?_⟩⟩⟩
    · exact askc [g1] H7 _ (by show 1 ≤ 1000; decide) (.tup' h7 (.one (.at rfl))) hB7 sb07 t nt t2 nt2
    · have u3 := same_new np3 (.tup (List.replicate ((1 : Int) + (g2 : Int)).toNat [V.int (g1 : Nat)]).flatten)
      have ef : (List.replicate ((1 : Int) + (g2 : Int)).toNat [V.int (g1 : Nat)]).flatten = nats (List.replicate ((1 : Int) + (g2 : Int)).toNat g1) := by
        generalize ((1 : Int) + (g2 : Int)).toNat = n
        induction n with
        | zero => rfl
        | succ n ih =>
          rw [List.replicate_succ, List.flatten_cons, ih, List.replicate_succ]
          rfl
      rw [ef] at u3 nt nt2 ⊢
      refine askc (List.replicate ((1 : Int) + (g2 : Int)).toNat g1) _ _ ?_ ?_ (hB7.same u3) (sb07.trans (sb_same u3)) t nt t2 nt2
      · rw [List.length_replicate]
        omega
      · exact .tup' upd_same (reps_nats _)
  refine ⟨_, rfl, rfl, _, rfl, ite2 (fun _ => ?_) (fun _ => ?_)⟩
  · refine ⟨_, rfl, b, c, 2, rfl, hB5, by decide, fun r H6 r0 r2 hB6 sb6 => ⟨(by show 2 ≤ sizeLine; decide), fun t nt => ?_⟩⟩
    obtain ⟨u, rfl⟩ : ∃ u : Nat, r = (u : Int) := ⟨r.toNat, by omega⟩
    have u1 := same_new nt (.tup [.str "say", .int (u : Nat)])
    refine ⟨_, rfl, _, rfl, b, c, ((xs.length : Nat) : Int), rfl, hB6.same u1, by omega, fun r3 H7 r30 r3n hB7 sb7 => ⟨(by show 2 ≤ sizeLine; decide), fun t2 nt2 => ?_⟩⟩
    obtain ⟨j2, rfl⟩ : ∃ u : Nat, r3 = (u : Int) := ⟨r3.toNat, by omega⟩
    have htb : t ≠ b := fun e => by
      obtain ⟨z, hz⟩ := hB6.lst
      rw [e, hz] at nt
      cases nt
    have h7 := sb7 _ _ htb upd_same
    have u2 := same_new nt2 (.tup [.ref t, .int (j2 : Nat)])
    refine q _ _ ⟨.say u, some j2⟩ j2 ?_ rfl (by omega) (fun v e => by cases e; omega) (fun p e => by cases e) (hB7.same u2) (sb05.trans (sb6.trans ((sb_same u1).trans (sb7.trans (sb_same u2)))))
    exact .tup' upd_same (.cons (.tup' (u2 _ _ h7) (.cons (.at rfl) (.one (.at rfl)))) (.one (.at rfl)))
  · refine ⟨_, rfl, _, rfl, b, c, 4, rfl, hB5, by decide, fun r H6 r0 r4 hB6 sb6 => ⟨(by show 1 ≤ sizeLine; decide), fun t1 nt1 => ?_⟩⟩
    obtain ⟨g1, rfl⟩ : ∃ u : Nat, r = (u : Int) := ⟨r.toNat, by omega⟩
    have u1 := same_new nt1 (.tup [.int (g1 : Nat)])
    have sb06 := sb05.trans sb6
    have k6 := box_kx hB hB6 sb06
    obtain ⟨qa, qx, rfl, hqa, rqx⟩ := Rep.inv (ts := p.map numD') rq
    have eqx := rep_nats_inv rqx
    subst eqx
    refine ⟨qa, t1, nats p, [.int (g1 : Nat)], rfl, rfl, (hqa.kx k6).same u1, .inl upd_same, small6' (by rw [nats_len]; show p.length + 1 ≤ 1000000; omega), fun cc H7 s7 hcc => ⟨(by show 2 ≤ sizeLine; decide), fun t nt => ⟨_, rfl, (by show 2 ≤ sizeLine; decide), fun t2 nt2 => ?_⟩⟩⟩
    rw [nats_snoc] at hcc
    exact askc (p ++ [g1]) H7 _ (by rw [List.length_append, List.length_singleton]; omega) (.tup hcc (reps_nats _)) (hB6.same (u1.trans s7)) (sb06.trans (sb_same (u1.trans s7))) t nt t2 nt2
end
end Pk

set_option maxRecDepth 100000
set_option maxHeartbeats 1000000
set_option pp.maxSteps 300
namespace Pk
open PySem PySem.Spec PyProof.Rows L2
section
variable {P : Program} {w : World} {K : PySem.W.Frag} {mg : Str → Option Value} {base : Heap}
theorem room66 {k : Nat} {A : Around} (r : Room k A) : A.units + 66 < cLine := by
  have := r.un
  omega
theorem eqv_bk (k l : Option Nat) : PyData.eqv (toPy (bkD k)) (toPy (bkD l)) = decide (k = l) := by
  cases k with
  | none => cases l with
    | none => rfl
    | some j => rfl
  | some i => cases l with
    | none => rfl
    | some j =>
      show PyData.eqv (.int (i : Nat)) (.int (j : Nat)) = _
      rw [int_eqv]
      exact decide_eq_decide.mpr ⟨fun h => by rw [show i = j by omega], fun h => by have := Option.some.inj h; omega⟩
theorem eqv_two (a b c d : PyData) : PyData.eqv (.tuple [a, b]) (.tuple [c, d]) = (PyData.eqv a c && PyData.eqv b d) := by
  rw [PyData.eqv, PyData.eqvAll, PyData.eqvAll, PyData.eqvAll, Bool.and_true]
theorem eqv_mv (m n : Mv) : PyData.eqv (toPy (mvD m)) (toPy (mvD n)) = decide (m = n) := by
  cases m with
  | ask p => cases n with
    | ask q =>
      show PyData.eqv (.tuple [.str "ask", toPy (plD p)]) (.tuple [.str "ask", toPy (plD q)]) = _
      rw [eqv_two, str_self, Bool.true_and, eqv_pl]
      exact decide_eq_decide.mpr ⟨fun h => by rw [h], fun h => by injection h⟩
    | say v =>
      show PyData.eqv (.tuple [.str "ask", toPy (plD p)]) (.tuple [.str "say", .int (v : Nat)]) = _
      rw [eqv_two, str_askSay, Bool.false_and]
      rfl
  | say u => cases n with
    | ask q =>
      show PyData.eqv (.tuple [.str "say", .int (u : Nat)]) (.tuple [.str "ask", toPy (plD q)]) = _
      rw [eqv_two, str_sayAsk, Bool.false_and]
      rfl
    | say v =>
      show PyData.eqv (.tuple [.str "say", .int (u : Nat)]) (.tuple [.str "say", .int (v : Nat)]) = _
      rw [eqv_two, str_self, Bool.true_and, int_eqv]
      exact decide_eq_decide.mpr ⟨fun h => by rw [show u = v by omega], fun h => by injection h; omega⟩
theorem eqv_st (s t : Stp) : PyData.eqv (toPy (stD s)) (toPy (stD t)) = decide (s = t) := by
  obtain ⟨m, k⟩ := s
  obtain ⟨n, l⟩ := t
  show PyData.eqv (.tuple [toPy (mvD m), toPy (bkD k)]) (.tuple [toPy (mvD n), toPy (bkD l)]) = _
  rw [eqv_two, eqv_mv, eqv_bk]
  by_cases h1 : m = n
  · subst h1
    by_cases h2 : k = l
    · subst h2
      rw [decide_eq_true rfl, decide_eq_true rfl, decide_eq_true rfl]
      rfl
    · rw [decide_eq_false h2, Bool.and_false]
      exact (decide_eq_false fun e => h2 (by injection e)).symm
  · rw [decide_eq_false h1, Bool.false_and]
    exact (decide_eq_false fun e => h1 (by injection e)).symm
theorem any_st (s : Stp) : ∀ l : List Stp, ((toPys (l.map stD)).any fun z => PyData.eqv z (toPy (stD s))) = decide (s ∈ l)
  | [] => by
    rw [decide_eq_false List.not_mem_nil]
    rfl
  | t :: r => by
    show (PyData.eqv (toPy (stD t)) (toPy (stD s)) || (toPys (r.map stD)).any fun z => PyData.eqv z (toPy (stD s))) = _
    rw [eqv_st, any_st s r]
    by_cases h : t = s
    · subst h
      rw [decide_eq_true rfl, Bool.true_or, decide_eq_true (List.mem_cons_self ..)]
    · rw [decide_eq_false h, Bool.false_or]
      refine decide_eq_decide.mpr ⟨List.mem_cons_of_mem _, fun e => ?_⟩
      rcases List.mem_cons.mp e with e | e
      · exact absurd e.symm h
      · exact e
/-! ### sizes -/
theorem szs_nums : ∀ p : List Nat, szs (p.map numD') = p.length
  | [] => rfl
  | k :: r => by
    show 1 + szs (r.map numD') = r.length + 1
    rw [szs_nums r]
    omega
theorem noLs_nums : ∀ p : List Nat, noLs (p.map numD') = true
  | [] => rfl
  | k :: r => noLs_nums r
theorem bk_sz (k : Option Nat) : sz (bkD k) = 1 ∧ dep (bkD k) = 0 ∧ noL (bkD k) = true := by cases k <;> exact ⟨rfl, rfl, rfl⟩
def Sh (s : Stp) : Prop := ∀ p, s.mv = .ask p → p.length ≤ 100
theorem step_small {s : Stp} (h : Sh s) : sz (stD s) ≤ 110 ∧ dep (stD s) ≤ 3 ∧ noL (stD s) = true := by
  obtain ⟨m, k⟩ := s
  obtain ⟨b1, b2, b3⟩ := bk_sz k
  cases m with
  | say v =>
    refine ⟨?_, ?_, ?_⟩
    · show (1 + (1 + 0)) + 1 + (sz (bkD k) + 0) + 1 ≤ 110
      omega
    · show max (max (0 + 1) (max (0 + 1) 0) + 1) (max (dep (bkD k) + 1) 0) ≤ 3
      omega
    · show (true && (noL (bkD k) && true)) = true
      rw [b3]
      rfl
  | ask p =>
    have hp := h p rfl
    have e1 := szs_nums p
    have e2 := deps_nums p
    refine ⟨?_, ?_, ?_⟩
    · show (1 + (szs (p.map numD') + 1 + 0)) + 1 + (sz (bkD k) + 0) + 1 ≤ 110
      omega
    · show max (max (0 + 1) (max (deps (p.map numD') + 1) 0) + 1) (max (dep (bkD k) + 1) 0) ≤ 3
      omega
    · show ((true && (noLs (p.map numD') && true)) && (noL (bkD k) && true)) = true
      rw [b3, noLs_nums]
      rfl
theorem play_small : ∀ pl : List Stp, (∀ s ∈ pl, Sh s) → szs (pl.map stD) ≤ 110 * pl.length ∧ deps (pl.map stD) ≤ 4 ∧ noLs (pl.map stD) = true
  | [], _ => ⟨Nat.le_refl _, Nat.zero_le _, rfl⟩
  | s :: r, h => by
    obtain ⟨a1, a2, a3⟩ := step_small (h s (List.mem_cons_self ..))
    obtain ⟨b1, b2, b3⟩ := play_small r fun t ht => h t (List.mem_cons_of_mem _ ht)
    refine ⟨?_, ?_, ?_⟩
    · show sz (stD s) + szs (r.map stD) ≤ 110 * (r.length + 1)
      omega
    · show max (dep (stD s) + 1) (deps (r.map stD)) ≤ 4
      omega
    · show (noL (stD s) && noLs (r.map stD)) = true
      rw [a3, b3]
      rfl
theorem row_facts {kd : D} (hk : isK kd = true) (hz : sz kd ≤ 60) {pl : List Stp} (h : LP kd pl) (hne : pl ≠ []) {s : Stp} (hs : s ∈ lawR kd pl) : lgB kd pl (opens pl pl.length) s = true ∧ ShS s ∧ (∃ j, s.back = some j ∧ j < pl.length) ∧ ∀ p, s.mv = .ask p → p.length ≤ 100 := by
  obtain ⟨h1, h2⟩ := (mem_rows hk).mp ((lawR_mem hne).mp hs)
  have hp : 0 < pl.length := List.length_pos_iff.mpr hne
  have hin : ∀ j, j ∈ sight pl (pl.length - 1) → j < pl.length := fun j hj => by
    have := (sight_up h.wb (pl.length - 1) (by omega)).2 j hj
    omega
  refine ⟨h1, h2, ?_⟩
  obtain ⟨m, b⟩ := s
  cases m with
  | ask p =>
    obtain ⟨j, q, k, rfl, _, hq, _, rfl, hj⟩ := (lg_ask hk).mp h1
    obtain ⟨e, he⟩ := h.at hq
    have := atD_len q kd e he
    refine ⟨⟨j, rfl, hin j hj⟩, fun p e => ?_⟩
    cases e
    rw [List.length_append, List.length_singleton]
    omega
  | say v =>
    obtain ⟨j, q, rfl, _, _, _, hj⟩ := lg_say.mp h1
    exact ⟨⟨j, rfl, hin j hj⟩, fun p e => by cases e⟩
theorem rows_small {kd : D} (hk : isK kd = true) (hz : sz kd ≤ 60) {pl : List Stp} (h : LP kd pl) : ∀ s ∈ lawR kd pl, Sh s := fun s hs p e => by
  by_cases hne : pl = []
  · subst hne
    rw [List.mem_singleton.mp hs] at e
    cases e
    exact Nat.zero_le _
  · exact (row_facts hk hz h hne hs).2.2.2 p e
/-! ### the law -/
def spLaw (K : PySem.W.Frag) : Sp := fun vs H Q _ => ∃ (a : Addr) (ns : List Int), vs = [.ref a] ∧ SqL K H a (ns.map V.int) ∧ ns.length ≤ 63 ∧ ∀ H', Q (.bl true) H'
theorem ok_law {bg f : Addr} {fd : FuncData} {f0 f1 f2 f3 f4 f5 f6 f7 f8 f9 f10 f11 f12 f13 f14 f15 f16 f17 f18 f19 f20 f21 f22 f23 f24 f25 f26 : Addr} {d0 d1 d2 d3 d4 d5 d6 d7 d8 d9 d10 d11 d12 d13 d14 d15 d16 d17 d18 d19 d20 d21 d22 d23 d24 d25 d26 : FuncData} (hBG : mg "BEGINNING" = some (.ref bg)) (hKB : ∀ H, Rep K H (.ref bg) (stD BEG)) (D_law : Df K mg "law" s_law ["script"] f fd) (B : Bt mg)
    (D_kind_at : Df K mg "kind_at" s_kind_at ["kind", "place"] f0 d0)
    (D_is_whole : Df K mg "is_whole" s_is_whole ["value"] f1 d1)
    (D_is_answer : Df K mg "is_answer" s_is_answer ["value"] f2 d2)
    (D_is_tuple_of : Df K mg "is_tuple_of" s_is_tuple_of ["value", "many"] f3 d3)
    (D__is_move : Df K mg "_is_move" s__is_move ["value"] f4 d4)
    (D__is_later_step : Df K mg "_is_later_step" s__is_later_step ["value", "number"] f5 d5)
    (D__is_placed : Df K mg "_is_placed" s__is_placed ["kind", "move", "answered"] f6 d6)
    (D__reason_against : Df K mg "_reason_against" s__reason_against ["kind", "play", "waiting", "step"] f7 d7)
    (D__note_open : Df K mg "_note_open" s__note_open ["waiting", "number", "step"] f8 d8)
    (D_fault_of : Df K mg "fault_of" s_fault_of ["kind", "play"] f9 d9)
    (D__sight_behind : Df K mg "_sight_behind" s__sight_behind ["play"] f10 d10)
    (D_open_asks : Df K mg "open_asks" s_open_asks ["play"] f11 d11)
    (D_steps_to : Df K mg "steps_to" s_steps_to ["kind", "play", "back"] f12 d12)
    (D_steps_after : Df K mg "steps_after" s_steps_after ["kind", "play"] f13 d13)
    (D__law_cell : Df K mg "_law_cell" s__law_cell ["script", "k"] f14 d14)
    (D__law_digits : Df K mg "_law_digits" s__law_digits ["script", "first", "last"] f15 d15)
    (D__law_draw : Df K mg "_law_draw" s__law_draw ["box", "many"] f16 d16)
    (D__law_box : Df K mg "_law_box" s__law_box ["script", "first", "last"] f17 d17)
    (D__law_same : Df K mg "_law_same" s__law_same ["actual", "expected"] f18 d18)
    (D__law_at : Df K mg "_law_at" s__law_at ["kind", "place"] f19 d19)
    (D__law_kind_deep : Df K mg "_law_kind_deep" s__law_kind_deep ["box", "deep", "budget"] f20 d20)
    (D__law_sight_at : Df K mg "_law_sight_at" s__law_sight_at ["play", "n"] f21 d21)
    (D__law_opens : Df K mg "_law_opens" s__law_opens ["play"] f22 d22)
    (D__law_steps : Df K mg "_law_steps" s__law_steps ["kind", "play"] f23 d23)
    (D__law_legal_play : Df K mg "_law_legal_play" s__law_legal_play ["box", "kind", "most"] f24 d24)
    (D__law_play_kind : Df K mg "_law_play_kind" s__law_play_kind ["box"] f25 d25)
    (D__law_near_step : Df K mg "_law_near_step" s__law_near_step ["box", "play"] f26 d26) : FnOk P w K mg base CX0 121 f fd ["script"] (spLaw K) := by
  have G_steps_after : FnOk P w K mg base CX0 6 f13 d13 ["kind", "play"] (spAf K) := ok_af hBG hKB D_steps_after D__is_later_step D__is_move D_is_tuple_of D_is_whole D_is_answer D__is_placed D_kind_at D__sight_behind D__reason_against D__note_open D_open_asks D_steps_to B
  have G_fault_of : FnOk P w K mg base CX0 6 f9 d9 ["kind", "play"] (spFo K) := ok_fo hBG hKB D_fault_of D__is_later_step D__is_move D_is_tuple_of D_is_whole D_is_answer D__is_placed D_kind_at D__sight_behind D__reason_against D__note_open B
  have G__law_draw : FnOk P w K mg base CX0 1 f16 d16 ["box", "many"] spDraw := ok_draw D__law_draw B
  have G__law_box : FnOk P w K mg base CX0 3 f17 d17 ["script", "first", "last"] (spBox K) := ok_box D__law_box D__law_digits D__law_cell B
  have G__law_same : FnOk P w K mg base CX0 5 f18 d18 ["actual", "expected"] (spSame K 5) := ok_same D__law_same B 5
  have G__law_steps : FnOk P w K mg base CX0 51 f23 d23 ["kind", "play"] (spLS K) := ok_ls D__law_steps D__law_sight_at D__law_at D__law_opens B
  have G__law_legal_play : FnOk P w K mg base CX0 52 f24 d24 ["box", "kind", "most"] (spLeg K) := ok_leg D__law_legal_play D__law_steps D__law_sight_at D__law_at D__law_opens D__law_draw B
  have G__law_play_kind : FnOk P w K mg base CX0 6 f25 d25 ["box"] (spPK K) := ok_pk D__law_play_kind D__law_kind_deep D__law_draw B
  have G__law_near_step : FnOk P w K mg base CX0 2 f26 d26 ["box", "play"] (spNe K) := ok_ne D__law_near_step D__law_draw B
  refine D_law.ok c_law (fun vs H Q E h => ?_) (fun cdv A outer s H vs Q E hr h => ?_)
  · obtain ⟨a, ns, rfl, _⟩ := h
    rfl
  obtain ⟨sa, ns, rfl, hS, hns, q⟩ := h
  have nd := c_law.nd
  refine ⟨_, (pss_cons (ps_set (i := 1) nd rfl (Or.inl rfl) (pe_call G__law_box (hr.mono (by first | decide | omega)) (by rfl) D__law_box.m D__law_box.kp D__law_box.b .nil pass0 (pa_cons (pv 0) (pa_cons pe_int (pa_cons pe_int pa_nil)))))
  (pss_cons (ps_for PassesOwn.never rfl (pi_range1 (by rfl) B.b_range (pa_cons pe_int pa_nil)) (pg_name (i := 2) nd rfl (Or.inl rfl)) (pss_cons (ps_set (i := 3) nd rfl (Or.inl rfl) (pe_call G__law_play_kind (hr.mono (by first | decide | omega)) (by rfl) D__law_play_kind.m D__law_play_kind.kp D__law_play_kind.b .nil pass0 (pa_cons (pv 1) pa_nil)))
  (pss_cons (ps_set (i := 4) nd rfl (Or.inl rfl) (pe_call G__law_legal_play (hr.mono (by first | decide | omega)) (by rfl) D__law_legal_play.m D__law_legal_play.kp D__law_legal_play.b .nil pass0 (pa_cons (pv 1) (pa_cons (pv 3) (pa_cons (pe_op op_add pe_int (pe_call G__law_draw (hr.mono (by first | decide | omega)) (by rfl) D__law_draw.m D__law_draw.kp D__law_draw.b .nil pass0 (pa_cons (pv 1) (pa_cons pe_int pa_nil)))) pa_nil)))))
  (pss_cons (ps_for PassesOwn.never rfl (pi_range1 (by rfl) B.b_range (pa_cons (pe_op op_add (pe_callB call_len_seq (by rfl) B.b_len PySem.boot_len (pa_cons (pv 4) pa_nil)) pe_int) pa_nil)) (pg_name (i := 5) nd rfl (Or.inl rfl)) (pss_cons (ps_set (i := 6) nd rfl (Or.inl rfl) (pe_slice sl_tupP (pv 4) po_none (po_some (pv 5))))
  (pss_cons (ps_set (i := 7) nd rfl (Or.inl rfl) (pe_call G__law_steps (hr.mono (by first | decide | omega)) (by rfl) D__law_steps.m D__law_steps.kp D__law_steps.b .nil pass0 (pa_cons (pv 3) (pa_cons (pv 6) pa_nil))))
  (pss_one (ps_if (pt_not (pt_val (pe_call G__law_same (hr.mono (by first | decide | omega)) (by rfl) D__law_same.m D__law_same.kp D__law_same.b .nil pass0 (pa_cons (pe_call G_steps_after (hr.mono (by first | decide | omega)) (by rfl) D_steps_after.m D_steps_after.kp D_steps_after.b .nil pass0 (pa_cons (pv 3) (pa_cons (pv 6) pa_nil))) (pa_cons (pe_callTy call_tuple_of (by rfl) B.b_tuple (by decide +kernel) (pa_cons (pv 7) pa_nil)) pa_nil))))) (pss_one (ps_ret pe_bl)) pss_nil)))))
  (pss_cons (ps_for PassesOwn.never rfl (pi_list (pv 7)) (pg_name (i := 8) nd rfl (Or.inl rfl)) (pss_one (ps_if (pt_cmpR op_notN (pe_call G_fault_of (hr.mono (by first | decide | omega)) (by rfl) D_fault_of.m D_fault_of.kp D_fault_of.b .nil pass0 (pa_cons (pv 3) (pa_cons (pe_op op_catP (pv 4) (pe_tup (pa_cons (pv 8) pa_nil))) pa_nil))) pe_non (nomark _)) (pss_one (ps_ret pe_bl)) pss_nil)))
  (pss_one (ps_for PassesOwn.never rfl (pi_range1 (by rfl) B.b_range (pa_cons pe_int pa_nil)) (pg_name (i := 9) nd rfl (Or.inl rfl)) (pss_cons (ps_set (i := 6) nd rfl (Or.inl rfl) (pe_slice sl_tupP (pv 4) po_none (po_some (pe_op op_add pe_int (pe_call G__law_draw (hr.mono (by first | decide | omega)) (by rfl) D__law_draw.m D__law_draw.kp D__law_draw.b .nil pass0 (pa_cons (pv 1) (pa_cons (pe_callB call_len_seq (by rfl) B.b_len PySem.boot_len (pa_cons (pv 4) pa_nil)) pa_nil)))))))
  (pss_cons (ps_set (i := 8) nd rfl (Or.inl rfl) (pe_call G__law_near_step (hr.mono (by first | decide | omega)) (by rfl) D__law_near_step.m D__law_near_step.kp D__law_near_step.b .nil pass0 (pa_cons (pv 1) (pa_cons (pv 6) pa_nil))))
  (pss_cons (ps_set (i := 10) nd rfl (Or.inl rfl) (pe_call G_fault_of (hr.mono (by first | decide | omega)) (by rfl) D_fault_of.m D_fault_of.kp D_fault_of.b .nil pass0 (pa_cons (pv 3) (pa_cons (pe_op op_catP (pv 6) (pe_tup (pa_cons (pv 8) pa_nil))) pa_nil))))
  (pss_one (ps_if (pt_cmpR (op_inT (room66 hr)) (pv 8) (pe_call G_steps_after (hr.mono (by first | decide | omega)) (by rfl) D_steps_after.m D_steps_after.kp D_steps_after.b .nil pass0 (pa_cons (pv 3) (pa_cons (pv 6) pa_nil))) rfl) (pss_one (ps_if (pt_cmpR op_notN (pv 10) pe_non (nomark _)) (pss_one (ps_ret pe_bl)) pss_nil)) (pss_one (ps_if (PW.pt (pw_or (pt_not (pt_val (pe_callB call_isi (by rfl) B.b_isinstance (by decide +kernel) (pa_cons (pv 10) (pa_cons (pe_bltn (v := .ty "tuple") (by rfl) B.b_tuple (by decide +kernel) rfl) pa_nil))))) (pw_or (pt_cmpR op_ne (pe_callB call_len_seq (by rfl) B.b_len PySem.boot_len (pa_cons (pv 10) pa_nil)) pe_int (nomark _)) (pw_or1 (pt_not (pt_val (pe_call G__law_same (hr.mono (by first | decide | omega)) (by rfl) D__law_same.m D__law_same.kp D__law_same.b .nil pass0 (pa_cons (pe_ix ix_tup (pv 10) pe_int (fun _ _ => rfl)) (pa_cons (pe_callB call_len_seq (by rfl) B.b_len PySem.boot_len (pa_cons (pv 6) pa_nil)) pa_nil))))))))) (pss_one (ps_ret pe_bl)) pss_nil))))))))))))))
  (pss_one (ps_ret (pe_call G__law_same (hr.mono (by first | decide | omega)) (by rfl) D__law_same.m D__law_same.kp D__law_same.b .nil pass0 (pa_cons (pe_call G_steps_after (hr.mono (by first | decide | omega)) (by rfl) D_steps_after.m D_steps_after.kp D_steps_after.b .nil pass0 (pa_cons (pe_tup pa_nil) (pa_cons (pe_tup pa_nil) pa_nil))) (pa_cons (pe_tup (pa_cons (pe_tup (pa_cons (pe_tup (pa_cons pe_str (pa_cons (pe_tup pa_nil) pa_nil))) (pa_cons pe_non pa_nil))) pa_nil)) pa_nil))))))), ?_⟩
  refine ⟨_, rfl, sa, ns, 0, 62, rfl, hS, by omega, by omega, fun b c H1 _ _ _ hB1 => ?_⟩
  refine ⟨4, rfl, by decide, by decide, for_range (n := 4) (fun i σ H' => ∃ (y2 y3 y4 y5 y6 y7 y8 y9 y10 : Option V), σ = [some (.ref sa), some (.ref b), y2, y3, y4, y5, y6, y7, y8, y9, y10] ∧ BoxAt H' b c)
    ⟨none, none, none, none, none, none, none, none, none, rfl, hB1⟩ ?_ ?_⟩
  · rintro i σ H2 hi ⟨y2, y3, y4, y5, y6, y7, y8, y9, y10, rfl, hB2⟩
    refine ⟨_, rfl, b, c, rfl, hB2, fun kv H3 kd rk hk hz hB3 sb3 => ?_⟩
    refine ⟨_, rfl, _, rfl, _, rfl, b, c, 16, rfl, hB3, by decide, fun r H4 r0 r16 hB4 sb4 => ⟨_, _, rfl, rfl, ?_⟩⟩
    obtain ⟨g, rfl⟩ : ∃ g : Nat, r = (g : Int) := ⟨r.toNat, by omega⟩
    have e3 : (3 : Int) + (g : Nat) = ((3 + g : Nat) : Int) := by omega
    refine ⟨b, c, kv, kd, 3 + g, by rw [← e3]; rfl, hB4, rk.mono (box_kx hB3 hB4 sb4), hk, by omega, by omega, fun pv H5 pl rp hLN hpl hB5 sb5 => ?_⟩
    have hLQ := hLN.lq
    have hLP := hLQ.lp
    have hwb := hLP.wb
    have hpne : pl ≠ [] := hLN.ne (by omega)
    have hpp : 0 < pl.length := List.length_pos_iff.mpr hpne
    have hz60 : sz kd ≤ 60 := by omega
    have k35 := box_kx hB3 hB5 (sb4.trans sb5)
    have rk5 := rk.mono k35
    clear rk hB3 sb3 hB4 sb4 hB2 sb5 k35
    obtain ⟨a, xs, rfl, ha, rxs, lx⟩ := play_inv rp
    -- all beginnings of the play
    refine nx_rest (fun σ' H' => ∃ (l : Addr) (y5 y6 y8 y9 y10 : Option V), σ' = [some (.ref sa), some (.ref b), some (.int ((0 : Int) + (i : Nat))), some kv, some (.ref a), y5, y6, some (.ref l), y8, y9, y10] ∧ Same H5 H' ∧ RxAt K H' l (lawR kd pl) 3000) (fun rest => ?_) ?_
    · refine ⟨_, rfl, a, xs, rfl, .inr ha.sq, _, _, rfl, rfl, _, rfl, by omega, by omega, ?_⟩
      refine for_range (n := xs.length + 1) (fun k σ H' => ∃ (y5 y6 y7 y8 y9 y10 : Option V), σ = [some (.ref sa), some (.ref b), some (.int ((0 : Int) + (i : Nat))), some kv, some (.ref a), y5, y6, y7, y8, y9, y10] ∧ Same H5 H' ∧ (0 < k → ∃ l, y7 = some (.ref l) ∧ RxAt K H' l (lawR kd (pl.take (k - 1))) 3000))
        ⟨y5, y6, y7, y8, y9, y10, rfl, Same.refl _, fun h => absurd h (Nat.lt_irrefl 0)⟩ ?_ (fun σ H6 h => by
          obtain ⟨y5, y6, y7, y8, y9, y10, rfl, s6, h7⟩ := h
          obtain ⟨l, rfl, hl⟩ := h7 (by omega)
          rw [Nat.add_sub_cancel, lx, List.take_length] at hl
          exact rest _ _ ⟨l, y5, y6, y8, y9, y10, rfl, s6, hl⟩)
      rintro k σ H6 hkn ⟨y5, y6, y7, y8, y9, y10, rfl, s6, _⟩
      have ez : (0 : Int) + (k : Nat) = ((k : Nat) : Int) := Int.zero_add _
      have hkl : k ≤ pl.length := by omega
      refine ⟨_, rfl, _, rfl, _, rfl, a, xs, rfl, ha.same s6, fun cp H7 s7 hcp => ?_⟩
      rw [ez, cutV_to] at hcp
      have hLt := hLP.take k
      have rpart : Rep K H7 (.ref cp) (playD (pl.take k)) := by
        show Rep K H7 (.ref cp) (.tup ((pl.take k).map stD))
        rw [List.map_take]
        exact .tup hcp ((rxs.mono (kx_same (s6.trans s7))).take k)
      have s57 := s6.trans s7
      refine ⟨_, rfl, _, rfl, kv, .ref cp, kd, pl.take k, rfl, rk5.mono (kx_same s57), hk, hz60, rpart, hLt, fun l H8 s8 _ hl => ?_⟩
      have s58 := s57.trans s8
      refine ⟨_, rfl, _, rfl, kv, .ref cp, kd, pl.take k, rfl, rk5.mono (kx_same s58), hk, hz60, rpart.mono (kx_same s8), hLt, fun z H9 s9 rz => ?_⟩
      have hl9 := hl.same s9
      obtain ⟨zs, hzs, rzs, lzs⟩ := hl9
      refine ⟨_, rfl, l, zs, rfl, .inl ⟨SqL.of hzs, fun t nt => ?_⟩⟩
      have st := same_new nt (.tup zs)
      obtain ⟨p1, p2, p3⟩ := play_small _ (rows_small hk hz60 hLt)
      have s59 := s58.trans (s9.trans st)
      refine ⟨z, .ref t, playD (lawR kd (pl.take k)), playD (lawR kd (pl.take k)), rfl, rz.mono (kx_same st), .tup' upd_same (rzs.mono (kx_same st)), p3, by show deps _ < 5; omega, by show szs _ + 1 + 0 ≤ 1000000; omega, fun b2 hb2 => ?_⟩
      rw [hb2.mpr rfl]
      exact ⟨_, rfl, iteF ⟨_, _, _, _, _, _, rfl, s59, fun _ => ⟨l, rfl, by rw [Nat.add_sub_cancel]; exact hl.same (s9.trans st)⟩⟩⟩
    rintro σ H6 ⟨l, y5, y6, y8, y9, y10, rfl, s6, hl⟩
    obtain ⟨zs, hzs, rzs, lzs⟩ := hl
    -- each row goes on
    refine seq_rest (fun σ' H' => ∃ (l : Addr) (y5 y6 y8 y9 y10 : Option V), σ' = [some (.ref sa), some (.ref b), some (.int ((0 : Int) + (i : Nat))), some kv, some (.ref a), y5, y6, some (.ref l), y8, y9, y10] ∧ Same H5 H') (fun rest => ?_) ?_
    · refine ⟨_, rfl, l, rfl, ⟨_, SqL.of hzs⟩, for_list (K := K) (a := l) (xs := zs) (fun k σ H' => ∃ (y8 : Option V), σ = [some (.ref sa), some (.ref b), some (.int ((0 : Int) + (i : Nat))), some kv, some (.ref a), y5, y6, some (.ref l), y8, y9, y10] ∧ Same H6 H')
        ⟨y8, rfl, Same.refl _⟩ (fun k σ H' _ h => by
          obtain ⟨y8, _, s⟩ := h
          exact SqL.of (s _ _ hzs)) ?_ (fun σ H7 h => by
          obtain ⟨y8, rfl, s⟩ := h
          exact rest _ _ ⟨l, _, _, _, _, _, rfl, s6.trans s⟩)⟩
      rintro k x σ H7 hkx ⟨y8, rfl, s7⟩
      obtain ⟨dd, hdd, rdd⟩ := rzs.get hkx
      rw [List.getElem?_map] at hdd
      obtain ⟨cc, hcc, rfl⟩ := Option.map_eq_some_iff.mp hdd
      obtain ⟨f1, f2, ⟨j, f3, f4⟩, f5⟩ := row_facts hk hz60 hLP hpne (List.mem_of_getElem? hcc)
      have s57 := s6.trans s7
      refine ⟨_, rfl, _, rfl, _, rfl, (by show 1 ≤ sizeLine; decide), fun t nt => ?_⟩
      have st := same_new nt (.tup [x])
      refine ⟨a, t, xs, [x], rfl, rfl, (ha.same s57).same st, .inl upd_same, small6' (by rw [List.length_singleton]; omega), fun cn H8 s8 hc => ?_⟩
      have s58 := s57.trans (st.trans s8)
      have rnew : Rep K H8 (.ref cn) (playD (pl ++ [cc])) := by
        show Rep K H8 (.ref cn) (.tup ((pl ++ [cc]).map stD))
        rw [List.map_append]
        exact .tup hc ((rxs.mono (kx_same s58)).append (.one (rdd.mono (kx_same (s7.trans (st.trans s8))))))
      refine ⟨kv, .ref cn, kd, pl, cc, j, rfl, rk5.mono (kx_same s58), hk, hz60, rnew, hLQ, hpne, f3, f4, f2, fun p e => Nat.le_trans (f5 p e) (by decide), fun H9 s9 _ => ?_, fun z x9 H9 s9 hf => ?_⟩
      · exact ⟨rfl, _, rfl, iteF ⟨_, rfl, s7.trans (st.trans (s8.trans s9))⟩⟩
      · rw [f1] at hf
        cases hf
    clear hzs rzs lzs s6
    rintro σ H7 ⟨l, y5, y6, y8, y9, y10, rfl, s7⟩
    have hB7 := hB5.same s7
    -- a step near
    refine ⟨4, rfl, by decide, by decide, for_range (n := 4) (fun k σ H' => ∃ (y5 y6 y8 y9 y10 : Option V), σ = [some (.ref sa), some (.ref b), some (.int ((0 : Int) + (i : Nat))), some kv, some (.ref a), y5, y6, some (.ref l), y8, y9, y10] ∧ BoxAt H' b c ∧ Kx H5 H')
      ⟨y5, y6, y8, y9, y10, rfl, hB7, kx_same s7⟩ ?_ (fun σ H8 h => by
        obtain ⟨y5, y6, y8, y9, y10, rfl, hB8, _⟩ := h
        exact ⟨_, _, _, _, _, _, _, _, _, rfl, hB8⟩)⟩
    rintro k σ H8 hk4 ⟨y5, y6, y8, y9, y10, rfl, hB8, k58⟩
    have ha8 := ha.kx k58
    refine ⟨_, rfl, _, rfl, _, rfl, a, xs, rfl, .inr ha8.sq, b, c, ((xs.length : Nat) : Int), rfl, hB8, by omega, fun r H9 r0 rn hB9 sb9 => ?_⟩
    obtain ⟨g9, rfl⟩ : ∃ u : Nat, r = (u : Int) := ⟨r.toNat, by omega⟩
    have k59 := k58.trans (box_kx hB8 hB9 sb9)
    have e1 : (1 : Int) + (g9 : Nat) = ((1 + g9 : Nat) : Int) := by omega
    refine ⟨_, _, rfl, rfl, _, rfl, a, xs, rfl, ha.kx k59, fun cp H10 s10 hcp => ?_⟩
    rw [e1, cutV_to] at hcp
    have hLt := hLQ.take (1 + g9)
    have tl : (pl.take (1 + g9)).length = 1 + g9 := by
      rw [List.length_take]
      omega
    have hPne : pl.take (1 + g9) ≠ [] := fun e => by
      rw [e] at tl
      have : 0 = 1 + g9 := tl
      omega
    have rpart : Rep K H10 (.ref cp) (playD (pl.take (1 + g9))) := by
      show Rep K H10 (.ref cp) (.tup ((pl.take (1 + g9)).map stD))
      rw [List.map_take]
      exact .tup hcp (((rxs.mono k59).mono (kx_same s10)).take (1 + g9))
    have hB10 := hB9.same s10
    have k510 := k59.trans (kx_same s10)
    generalize pl.take (1 + g9) = part at rpart hLt hPne tl
    refine ⟨_, rfl, _, rfl, b, c, .ref cp, kd, part, rfl, hB10, rpart, hLt.lp, hz60, hPne, fun z H11 st j rz hb hj hsh hsl hB11 sb11 => ?_⟩
    have k1011 := box_kx hB10 hB11 sb11
    have k511 := k510.trans k1011
    have rpart11 := rpart.mono k1011
    obtain ⟨pa, pxs, hpa0, hpa, rpx, lpx⟩ := play_inv rpart11
    cases hpa0
    have hplen := hLt.lp.len
    refine ⟨_, rfl, _, rfl, _, rfl, (by show 1 ≤ sizeLine; decide), fun t nt => ?_⟩
    have s12 := same_new nt (.tup [z])
    refine ⟨cp, t, pxs, [z], rfl, rfl, hpa.same s12, .inl upd_same, small6' (by rw [List.length_singleton]; omega), fun cn H12 s13 hc => ?_⟩
    have s1112 := s12.trans s13
    have k512 := k511.trans (kx_same s1112)
    have rnew : Rep K H12 (.ref cn) (playD (part ++ [st])) := by
      show Rep K H12 (.ref cn) (.tup ((part ++ [st]).map stD))
      rw [List.map_append]
      exact .tup hc ((rpx.mono (kx_same s1112)).append (.one (rz.mono (kx_same s1112))))
    have hB12 := hB11.same s1112
    have rpart12 := rpart11.mono (kx_same s1112)
    have rz12 := rz.mono (kx_same s1112)
    have hmem : lgB kd part (opens part part.length) st = true ↔ st ∈ lawR kd part := by
      rw [lawR_mem hPne, mem_rows hk]
      exact ⟨fun h => ⟨h, hsh⟩, fun h => h.1⟩
    refine ⟨kv, .ref cn, kd, part, st, j, rfl, rk5.mono k512, hk, hz60, rnew, hLt, hPne, hb, hj, hsh, hsl, fun H13 s14 hlg => ?_, fun z2 x13 H13 s14 hf rz2 => ?_⟩
    · -- it goes on
      have k513 := k512.trans (kx_same s14)
      refine ⟨_, rfl, _, rfl, _, rfl, kv, .ref cp, kd, part, rfl, rk5.mono k513, hk, hz60, rpart12.mono (kx_same s14), hLt.lp, fun z3 H14 s15 rz3 => ?_⟩
      refine ⟨_, _, dp_noL (rz12.mono (kx_same (s14.trans s15))) (noL_st _), dp_noL rz3 (noL_sts _), shaped_st _, shaped_play _, _, rfl, ?_⟩
      rw [any_st, decide_eq_true (hmem.mp hlg)]
      refine iteT ⟨_, rfl, rfl, _, rfl, iteF ⟨_, _, _, _, _, rfl, hB12.same (s14.trans s15), k513.trans (kx_same s15)⟩⟩
    · have k513 := k512.trans (kx_same s14)
      refine ⟨_, rfl, _, rfl, _, rfl, kv, .ref cp, kd, part, rfl, rk5.mono k513, hk, hz60, rpart12.mono (kx_same s14), hLt.lp, fun z3 H14 s15 rz3 => ?_⟩
      refine ⟨_, _, dp_noL (rz12.mono (kx_same (s14.trans s15))) (noL_st _), dp_noL rz3 (noL_sts _), shaped_st _, shaped_play _, _, rfl, ?_⟩
      have hnm : ¬ st ∈ lawR kd part := fun e => by
        rw [hmem.mpr e] at hf
        cases hf
      rw [any_st, decide_eq_false hnm]
      have rz4 := rz2.mono (kx_same s15)
      refine iteF ?_
      obtain ⟨ta, txs, rfl, hta, rtx⟩ := rz4.inv
      cases rtx with
      | cons rt0 rtx =>
        cases rtx with
        | cons rt1 rtx =>
          cases rtx
          obtain ⟨rfl, _⟩ := Rep.inva rt0
          have hpa14 := hpa.same (s1112.trans (s14.trans s15))
          refine ⟨_, rfl, _, _, _, _, _, rfl, .ty _, rep_ty rz4, kit_ty (kit_tup _), ⟨_, rfl, iteF ?_⟩⟩
          refine ⟨_, rfl, ta, _, rfl, .inr hta.sq, rfl, _, rfl, iteF ?_⟩
          refine ⟨_, rfl, ta, _, 0, _, rfl, rfl, hta.sq, atI_nat (j := 0) rfl, _, rfl, cp, pxs, rfl, .inr hpa14.sq, _, _, numD' part.length, numD' pxs.length, rfl, .at rfl, .at rfl, rfl, by show 0 < 5; decide, by show 1 + 0 ≤ 1000000; decide, fun b4 hb4 => ?_⟩
          rw [hb4.mpr (by rw [lpx])]
          exact ⟨_, rfl, iteF ⟨_, _, _, _, _, rfl, hB12.same (s14.trans s15), k513.trans (kx_same s15)⟩⟩
  · rintro σ H2 ⟨y2, y3, y4, y5, y6, y7, y8, y9, y10, rfl, hB2⟩
    refine ⟨(by show 0 ≤ sizeLine; decide), fun t1 n1 => ⟨(by show 0 ≤ sizeLine; decide), fun t2 n2 => ?_⟩⟩
    have v1 := same_new n1 (.tup [])
    have v2 := same_new n2 (.tup [])
    refine ⟨.ref t1, .ref t2, .tup [], [], rfl, .tup' (v2 _ _ upd_same) .nil, rfl, by decide, .tup' upd_same .nil, LP.nil _, fun z H3 s3 rz => ?_⟩
    refine ⟨(by show 0 ≤ sizeLine; decide), fun u1 m1 => ⟨(by show 2 ≤ sizeLine; decide), fun u2 m2 => ⟨(by show 2 ≤ sizeLine; decide), fun u3 m3 => ⟨(by show 1 ≤ sizeLine; decide), fun u4 m4 => ?_⟩⟩⟩⟩
    have w4 := same_new m4 (.tup [.ref u3])
    have w3 := (same_new m3 (.tup [.ref u2, .non])).trans w4
    have w2 := (same_new m2 (.tup [.str "ask", .ref u1])).trans w3
    have w1 := (same_new m1 (.tup [])).trans w2
    refine ⟨z, .ref u4, playD [BEG], playD [BEG], rfl, rz.mono (kx_same w1), ?_, rfl, by decide, by decide, fun b5 hb5 => ?_⟩
    · exact .tup' (ts := [stD BEG]) upd_same (.one (.tup' (w4 _ _ upd_same) (.cons (.tup' (w3 _ _ upd_same) (.cons (.at rfl) (.one (.tup' (w2 _ _ upd_same) .nil)))) (.one (.at rfl)))))
    · rw [hb5.mpr rfl]
      exact q _
end
end Pk

namespace Pk
open PySem PySem.Spec PyProof.Rows L2
set_option maxHeartbeats 0

def d_kind_at : He.DefD := ⟨("kind_at", none), "kind_at", "kind_at", defArgs s_kind_at, defBody s_kind_at, defScope s_kind_at, [], []⟩
def d_is_whole : He.DefD := ⟨("is_whole", none), "is_whole", "is_whole", defArgs s_is_whole, defBody s_is_whole, defScope s_is_whole, [], []⟩
def d_is_answer : He.DefD := ⟨("is_answer", none), "is_answer", "is_answer", defArgs s_is_answer, defBody s_is_answer, defScope s_is_answer, [], []⟩
def d_is_tuple_of : He.DefD := ⟨("is_tuple_of", none), "is_tuple_of", "is_tuple_of", defArgs s_is_tuple_of, defBody s_is_tuple_of, defScope s_is_tuple_of, [], []⟩
def d__is_move : He.DefD := ⟨("_is_move", none), "_is_move", "_is_move", defArgs s__is_move, defBody s__is_move, defScope s__is_move, [], []⟩
def d__is_later_step : He.DefD := ⟨("_is_later_step", none), "_is_later_step", "_is_later_step", defArgs s__is_later_step, defBody s__is_later_step, defScope s__is_later_step, [], []⟩
def d__is_placed : He.DefD := ⟨("_is_placed", none), "_is_placed", "_is_placed", defArgs s__is_placed, defBody s__is_placed, defScope s__is_placed, [], []⟩
def d__reason_against : He.DefD := ⟨("_reason_against", none), "_reason_against", "_reason_against", defArgs s__reason_against, defBody s__reason_against, defScope s__reason_against, [], []⟩
def d__note_open : He.DefD := ⟨("_note_open", none), "_note_open", "_note_open", defArgs s__note_open, defBody s__note_open, defScope s__note_open, [], []⟩
def d_fault_of : He.DefD := ⟨("fault_of", none), "fault_of", "fault_of", defArgs s_fault_of, defBody s_fault_of, defScope s_fault_of, [], []⟩
def d__sight_behind : He.DefD := ⟨("_sight_behind", none), "_sight_behind", "_sight_behind", defArgs s__sight_behind, defBody s__sight_behind, defScope s__sight_behind, [], []⟩
def d_open_asks : He.DefD := ⟨("open_asks", none), "open_asks", "open_asks", defArgs s_open_asks, defBody s_open_asks, defScope s_open_asks, [], []⟩
def d_steps_to : He.DefD := ⟨("steps_to", none), "steps_to", "steps_to", defArgs s_steps_to, defBody s_steps_to, defScope s_steps_to, [], []⟩
def d_steps_after : He.DefD := ⟨("steps_after", none), "steps_after", "steps_after", defArgs s_steps_after, defBody s_steps_after, defScope s_steps_after, [], []⟩
def d__law_cell : He.DefD := ⟨("_law_cell", none), "_law_cell", "_law_cell", defArgs s__law_cell, defBody s__law_cell, defScope s__law_cell, [], []⟩
def d__law_digits : He.DefD := ⟨("_law_digits", none), "_law_digits", "_law_digits", defArgs s__law_digits, defBody s__law_digits, defScope s__law_digits, [], []⟩
def d__law_draw : He.DefD := ⟨("_law_draw", none), "_law_draw", "_law_draw", defArgs s__law_draw, defBody s__law_draw, defScope s__law_draw, [], []⟩
def d__law_box : He.DefD := ⟨("_law_box", none), "_law_box", "_law_box", defArgs s__law_box, defBody s__law_box, defScope s__law_box, [], []⟩
def d__law_same : He.DefD := ⟨("_law_same", none), "_law_same", "_law_same", defArgs s__law_same, defBody s__law_same, defScope s__law_same, [], []⟩
def d__law_at : He.DefD := ⟨("_law_at", none), "_law_at", "_law_at", defArgs s__law_at, defBody s__law_at, defScope s__law_at, [], []⟩
def d__law_kind_deep : He.DefD := ⟨("_law_kind_deep", none), "_law_kind_deep", "_law_kind_deep", defArgs s__law_kind_deep, defBody s__law_kind_deep, defScope s__law_kind_deep, [], []⟩
def d__law_sight_at : He.DefD := ⟨("_law_sight_at", none), "_law_sight_at", "_law_sight_at", defArgs s__law_sight_at, defBody s__law_sight_at, defScope s__law_sight_at, [], []⟩
def d__law_opens : He.DefD := ⟨("_law_opens", none), "_law_opens", "_law_opens", defArgs s__law_opens, defBody s__law_opens, defScope s__law_opens, [], []⟩
def d__law_steps : He.DefD := ⟨("_law_steps", none), "_law_steps", "_law_steps", defArgs s__law_steps, defBody s__law_steps, defScope s__law_steps, [], []⟩
def d__law_legal_play : He.DefD := ⟨("_law_legal_play", none), "_law_legal_play", "_law_legal_play", defArgs s__law_legal_play, defBody s__law_legal_play, defScope s__law_legal_play, [], []⟩
def d__law_play_kind : He.DefD := ⟨("_law_play_kind", none), "_law_play_kind", "_law_play_kind", defArgs s__law_play_kind, defBody s__law_play_kind, defScope s__law_play_kind, [], []⟩
def d__law_near_step : He.DefD := ⟨("_law_near_step", none), "_law_near_step", "_law_near_step", defArgs s__law_near_step, defBody s__law_near_step, defScope s__law_near_step, [], []⟩
def d_law : He.DefD := ⟨("law", none), "law", "law", defArgs s_law, defBody s_law, defScope s_law, [], []⟩
def fn : List He.DefD := [d_kind_at, d_is_whole, d_is_answer, d_is_tuple_of, d__is_move, d__is_later_step, d__is_placed, d__reason_against, d__note_open, d_fault_of, d__sight_behind, d_open_asks, d_steps_to, d_steps_after, d__law_cell, d__law_digits, d__law_draw, d__law_box, d__law_same, d__law_at, d__law_kind_deep, d__law_sight_at, d__law_opens, d__law_steps, d__law_legal_play, d__law_play_kind, d__law_near_step, d_law]
def fa : List He.Fa := [.glo "kind_at", .glo "is_whole", .glo "is_answer", .glo "is_tuple_of", .glo "_is_move", .glo "_is_later_step", .glo "_is_placed", .glo "_reason_against", .glo "_note_open", .glo "fault_of", .glo "_sight_behind", .glo "open_asks", .glo "steps_to", .glo "steps_after", .glo "_law_cell", .glo "_law_digits", .glo "_law_draw", .glo "_law_box", .glo "_law_same", .glo "_law_at", .glo "_law_kind_deep", .glo "_law_sight_at", .glo "_law_opens", .glo "_law_steps", .glo "_law_legal_play", .glo "_law_play_kind", .glo "_law_near_step", .glo "law", .free "len", .free "isinstance", .free "int", .free "bool", .free "tuple", .free "all", .free "enumerate", .free "range", .free "sorted", .free "str", .glo "BEGINNING"]
abbrev R : PySem.W.OpenRow := PySem.W.OpenLaw.row PySem.Challenge.rw_playsense_k22_steps_that_go_on_legally
def adK (K : PySem.W.Frag) (a : Addr) (i : Nat) : Addr := match K.lookup a with
  | some ⟨_, _, .seq its _, _⟩ => (match its[i]? with
    | some (.ref b) => b
    | _ => 0)
  | _ => 0
def tupK (K : PySem.W.Frag) (a : Addr) (vs : List V) : Bool := match K.lookup a with
  | some ⟨.type c, _, .seq its _, _⟩ => decide (c = "tuple") && (decide (its.size ≤ sizeLine) && He.relAll vs its.toList)
  | _ => false
theorem tupK_ok {K : PySem.W.Frag} {a : Addr} {vs : List V} (h : tupK K a vs = true) (H : Hp) : TupAt K H a vs := by
  unfold tupK at h
  split at h
  · next c d its n sl e =>
    obtain ⟨h1, h2⟩ := Bool.and_eq_true_iff.mp h
    obtain ⟨h2, h3⟩ := Bool.and_eq_true_iff.mp h2
    have ec := of_decide_eq_true h1
    subst ec
    exact .inr ⟨_, its, n, e, rfl, rfl, of_decide_eq_true h2, He.relAll_ok h3⟩
  · cases h
def bg0 (K : PySem.W.Frag) : Addr := He.ga K "BEGINNING"
def bg1 (K : PySem.W.Frag) : Addr := adK K (bg0 K) 0
def bg2 (K : PySem.W.Frag) : Addr := adK K (bg1 K) 1
def exB (K : PySem.W.Frag) : Bool := tupK K (bg0 K) [.ref (bg1 K), .non] && (tupK K (bg1 K) [.str "ask", .ref (bg2 K)] && tupK K (bg2 K) [])
theorem beg_ok {K : PySem.W.Frag} (h : exB K = true) (H : Hp) : Rep K H (.ref (bg0 K)) (stD BEG) := by
  obtain ⟨h1, h2⟩ := Bool.and_eq_true_iff.mp h
  obtain ⟨h2, h3⟩ := Bool.and_eq_true_iff.mp h2
  exact .tup (tupK_ok h1 H) (.cons (.tup (tupK_ok h2 H) (.cons (.at rfl) (.one (.tup (tupK_ok h3 H) .nil)))) (.one (.at rfl)))
abbrev hk : PySem.W.Hook := He.hookX 4 fa fn [] [] exB
def ob (s : PySem.W.SharedT) : He.AlX := He.obsX 4 fa fn [] [] exB (HandSHeadRun.getT s)
theorem ob_eq (s : PySem.W.SharedT) : ob s = hk.obs s.abs := He.obsX_eq (HandSHeadRun.getT_eq s)
def names0 : List PySem.Str := ["__name__", "kind_at", "is_whole", "is_answer", "is_tuple_of", "BEGINNING", "_is_move", "_is_later_step", "_is_placed", "_reason_against", "_note_open", "fault_of", "_sight_behind", "open_asks", "steps_to", "steps_after", "_law_cell", "_law_digits", "_law_draw", "_law_box", "_law_same", "_law_at", "_law_kind_deep", "_law_sight_at", "_law_opens", "_law_steps", "_law_legal_play", "_law_play_kind", "_law_near_step"]
abbrev names : List PySem.Str := names0
theorem run (w : World) : HandSHeadRun.RunEq R (PySem.W.view R.prog [32]) hk ob 4000 names w := by
  intro os
  kernel_rfl

theorem facts {P : Program} {w : World} {K : PySem.W.Frag} {h : Heap} {mg : Str → Option Value} {f : Addr} (X : K.In h) (G : h.Ns mainGlobals mg) (hfa : mg ("law" : Str) = some (.ref f)) (cX : He.SaysX fa fn [] [] exB w h K) :
    ∃ fd : FuncData, (∀ (s : Shared) (v : Value), BindsTo s fd ⟨[v], []⟩ [("script", v)]) ∧ ∀ base : Heap, K.In base → base.Ns mainGlobals mg → FnOk P w K mg base CX0 121 f fd ["script"] (spLaw K) := by
  have c := cX.t.d
  have hBG : mg "BEGINNING" = some (.ref (bg0 K)) := He.glo_ok X G (c.fact 38 (f := .glo "BEGINNING") rfl)
  have hKB : ∀ H, Rep K H (.ref (bg0 K)) (stD BEG) := beg_ok cX.more
  obtain ⟨fd_kind_at, F_kind_at⟩ := c.def_ 0 (d := d_kind_at) rfl
  have D_kind_at : Df K mg "kind_at" s_kind_at ["kind", "place"] _ fd_kind_at := ⟨F_kind_at, F_kind_at.bindsN fun _ _ _ _ _ _ us hl => match us, hl with | [_, _], _ => rfl, He.glo_ok X G (c.fact 0 (f := .glo "kind_at") rfl)⟩
  obtain ⟨fd_is_whole, F_is_whole⟩ := c.def_ 1 (d := d_is_whole) rfl
  have D_is_whole : Df K mg "is_whole" s_is_whole ["value"] _ fd_is_whole := ⟨F_is_whole, F_is_whole.bindsN fun _ _ _ _ _ _ us hl => match us, hl with | [_], _ => rfl, He.glo_ok X G (c.fact 1 (f := .glo "is_whole") rfl)⟩
  obtain ⟨fd_is_answer, F_is_answer⟩ := c.def_ 2 (d := d_is_answer) rfl
  have D_is_answer : Df K mg "is_answer" s_is_answer ["value"] _ fd_is_answer := ⟨F_is_answer, F_is_answer.bindsN fun _ _ _ _ _ _ us hl => match us, hl with | [_], _ => rfl, He.glo_ok X G (c.fact 2 (f := .glo "is_answer") rfl)⟩
  obtain ⟨fd_is_tuple_of, F_is_tuple_of⟩ := c.def_ 3 (d := d_is_tuple_of) rfl
  have D_is_tuple_of : Df K mg "is_tuple_of" s_is_tuple_of ["value", "many"] _ fd_is_tuple_of := ⟨F_is_tuple_of, F_is_tuple_of.bindsN fun _ _ _ _ _ _ us hl => match us, hl with | [_, _], _ => rfl, He.glo_ok X G (c.fact 3 (f := .glo "is_tuple_of") rfl)⟩
  obtain ⟨fd__is_move, F__is_move⟩ := c.def_ 4 (d := d__is_move) rfl
  have D__is_move : Df K mg "_is_move" s__is_move ["value"] _ fd__is_move := ⟨F__is_move, F__is_move.bindsN fun _ _ _ _ _ _ us hl => match us, hl with | [_], _ => rfl, He.glo_ok X G (c.fact 4 (f := .glo "_is_move") rfl)⟩
  obtain ⟨fd__is_later_step, F__is_later_step⟩ := c.def_ 5 (d := d__is_later_step) rfl
  have D__is_later_step : Df K mg "_is_later_step" s__is_later_step ["value", "number"] _ fd__is_later_step := ⟨F__is_later_step, F__is_later_step.bindsN fun _ _ _ _ _ _ us hl => match us, hl with | [_, _], _ => rfl, He.glo_ok X G (c.fact 5 (f := .glo "_is_later_step") rfl)⟩
  obtain ⟨fd__is_placed, F__is_placed⟩ := c.def_ 6 (d := d__is_placed) rfl
  have D__is_placed : Df K mg "_is_placed" s__is_placed ["kind", "move", "answered"] _ fd__is_placed := ⟨F__is_placed, F__is_placed.bindsN fun _ _ _ _ _ _ us hl => match us, hl with | [_, _, _], _ => rfl, He.glo_ok X G (c.fact 6 (f := .glo "_is_placed") rfl)⟩
  obtain ⟨fd__reason_against, F__reason_against⟩ := c.def_ 7 (d := d__reason_against) rfl
  have D__reason_against : Df K mg "_reason_against" s__reason_against ["kind", "play", "waiting", "step"] _ fd__reason_against := ⟨F__reason_against, F__reason_against.bindsN fun _ _ _ _ _ _ us hl => match us, hl with | [_, _, _, _], _ => rfl, He.glo_ok X G (c.fact 7 (f := .glo "_reason_against") rfl)⟩
  obtain ⟨fd__note_open, F__note_open⟩ := c.def_ 8 (d := d__note_open) rfl
  have D__note_open : Df K mg "_note_open" s__note_open ["waiting", "number", "step"] _ fd__note_open := ⟨F__note_open, F__note_open.bindsN fun _ _ _ _ _ _ us hl => match us, hl with | [_, _, _], _ => rfl, He.glo_ok X G (c.fact 8 (f := .glo "_note_open") rfl)⟩
  obtain ⟨fd_fault_of, F_fault_of⟩ := c.def_ 9 (d := d_fault_of) rfl
  have D_fault_of : Df K mg "fault_of" s_fault_of ["kind", "play"] _ fd_fault_of := ⟨F_fault_of, F_fault_of.bindsN fun _ _ _ _ _ _ us hl => match us, hl with | [_, _], _ => rfl, He.glo_ok X G (c.fact 9 (f := .glo "fault_of") rfl)⟩
  obtain ⟨fd__sight_behind, F__sight_behind⟩ := c.def_ 10 (d := d__sight_behind) rfl
  have D__sight_behind : Df K mg "_sight_behind" s__sight_behind ["play"] _ fd__sight_behind := ⟨F__sight_behind, F__sight_behind.bindsN fun _ _ _ _ _ _ us hl => match us, hl with | [_], _ => rfl, He.glo_ok X G (c.fact 10 (f := .glo "_sight_behind") rfl)⟩
  obtain ⟨fd_open_asks, F_open_asks⟩ := c.def_ 11 (d := d_open_asks) rfl
  have D_open_asks : Df K mg "open_asks" s_open_asks ["play"] _ fd_open_asks := ⟨F_open_asks, F_open_asks.bindsN fun _ _ _ _ _ _ us hl => match us, hl with | [_], _ => rfl, He.glo_ok X G (c.fact 11 (f := .glo "open_asks") rfl)⟩
  obtain ⟨fd_steps_to, F_steps_to⟩ := c.def_ 12 (d := d_steps_to) rfl
  have D_steps_to : Df K mg "steps_to" s_steps_to ["kind", "play", "back"] _ fd_steps_to := ⟨F_steps_to, F_steps_to.bindsN fun _ _ _ _ _ _ us hl => match us, hl with | [_, _, _], _ => rfl, He.glo_ok X G (c.fact 12 (f := .glo "steps_to") rfl)⟩
  obtain ⟨fd_steps_after, F_steps_after⟩ := c.def_ 13 (d := d_steps_after) rfl
  have D_steps_after : Df K mg "steps_after" s_steps_after ["kind", "play"] _ fd_steps_after := ⟨F_steps_after, F_steps_after.bindsN fun _ _ _ _ _ _ us hl => match us, hl with | [_, _], _ => rfl, He.glo_ok X G (c.fact 13 (f := .glo "steps_after") rfl)⟩
  obtain ⟨fd__law_cell, F__law_cell⟩ := c.def_ 14 (d := d__law_cell) rfl
  have D__law_cell : Df K mg "_law_cell" s__law_cell ["script", "k"] _ fd__law_cell := ⟨F__law_cell, F__law_cell.bindsN fun _ _ _ _ _ _ us hl => match us, hl with | [_, _], _ => rfl, He.glo_ok X G (c.fact 14 (f := .glo "_law_cell") rfl)⟩
  obtain ⟨fd__law_digits, F__law_digits⟩ := c.def_ 15 (d := d__law_digits) rfl
  have D__law_digits : Df K mg "_law_digits" s__law_digits ["script", "first", "last"] _ fd__law_digits := ⟨F__law_digits, F__law_digits.bindsN fun _ _ _ _ _ _ us hl => match us, hl with | [_, _, _], _ => rfl, He.glo_ok X G (c.fact 15 (f := .glo "_law_digits") rfl)⟩
  obtain ⟨fd__law_draw, F__law_draw⟩ := c.def_ 16 (d := d__law_draw) rfl
  have D__law_draw : Df K mg "_law_draw" s__law_draw ["box", "many"] _ fd__law_draw := ⟨F__law_draw, F__law_draw.bindsN fun _ _ _ _ _ _ us hl => match us, hl with | [_, _], _ => rfl, He.glo_ok X G (c.fact 16 (f := .glo "_law_draw") rfl)⟩
  obtain ⟨fd__law_box, F__law_box⟩ := c.def_ 17 (d := d__law_box) rfl
  have D__law_box : Df K mg "_law_box" s__law_box ["script", "first", "last"] _ fd__law_box := ⟨F__law_box, F__law_box.bindsN fun _ _ _ _ _ _ us hl => match us, hl with | [_, _, _], _ => rfl, He.glo_ok X G (c.fact 17 (f := .glo "_law_box") rfl)⟩
  obtain ⟨fd__law_same, F__law_same⟩ := c.def_ 18 (d := d__law_same) rfl
  have D__law_same : Df K mg "_law_same" s__law_same ["actual", "expected"] _ fd__law_same := ⟨F__law_same, F__law_same.bindsN fun _ _ _ _ _ _ us hl => match us, hl with | [_, _], _ => rfl, He.glo_ok X G (c.fact 18 (f := .glo "_law_same") rfl)⟩
  obtain ⟨fd__law_at, F__law_at⟩ := c.def_ 19 (d := d__law_at) rfl
  have D__law_at : Df K mg "_law_at" s__law_at ["kind", "place"] _ fd__law_at := ⟨F__law_at, F__law_at.bindsN fun _ _ _ _ _ _ us hl => match us, hl with | [_, _], _ => rfl, He.glo_ok X G (c.fact 19 (f := .glo "_law_at") rfl)⟩
  obtain ⟨fd__law_kind_deep, F__law_kind_deep⟩ := c.def_ 20 (d := d__law_kind_deep) rfl
  have D__law_kind_deep : Df K mg "_law_kind_deep" s__law_kind_deep ["box", "deep", "budget"] _ fd__law_kind_deep := ⟨F__law_kind_deep, F__law_kind_deep.bindsN fun _ _ _ _ _ _ us hl => match us, hl with | [_, _, _], _ => rfl, He.glo_ok X G (c.fact 20 (f := .glo "_law_kind_deep") rfl)⟩
  obtain ⟨fd__law_sight_at, F__law_sight_at⟩ := c.def_ 21 (d := d__law_sight_at) rfl
  have D__law_sight_at : Df K mg "_law_sight_at" s__law_sight_at ["play", "n"] _ fd__law_sight_at := ⟨F__law_sight_at, F__law_sight_at.bindsN fun _ _ _ _ _ _ us hl => match us, hl with | [_, _], _ => rfl, He.glo_ok X G (c.fact 21 (f := .glo "_law_sight_at") rfl)⟩
  obtain ⟨fd__law_opens, F__law_opens⟩ := c.def_ 22 (d := d__law_opens) rfl
  have D__law_opens : Df K mg "_law_opens" s__law_opens ["play"] _ fd__law_opens := ⟨F__law_opens, F__law_opens.bindsN fun _ _ _ _ _ _ us hl => match us, hl with | [_], _ => rfl, He.glo_ok X G (c.fact 22 (f := .glo "_law_opens") rfl)⟩
  obtain ⟨fd__law_steps, F__law_steps⟩ := c.def_ 23 (d := d__law_steps) rfl
  have D__law_steps : Df K mg "_law_steps" s__law_steps ["kind", "play"] _ fd__law_steps := ⟨F__law_steps, F__law_steps.bindsN fun _ _ _ _ _ _ us hl => match us, hl with | [_, _], _ => rfl, He.glo_ok X G (c.fact 23 (f := .glo "_law_steps") rfl)⟩
  obtain ⟨fd__law_legal_play, F__law_legal_play⟩ := c.def_ 24 (d := d__law_legal_play) rfl
  have D__law_legal_play : Df K mg "_law_legal_play" s__law_legal_play ["box", "kind", "most"] _ fd__law_legal_play := ⟨F__law_legal_play, F__law_legal_play.bindsN fun _ _ _ _ _ _ us hl => match us, hl with | [_, _, _], _ => rfl, He.glo_ok X G (c.fact 24 (f := .glo "_law_legal_play") rfl)⟩
  obtain ⟨fd__law_play_kind, F__law_play_kind⟩ := c.def_ 25 (d := d__law_play_kind) rfl
  have D__law_play_kind : Df K mg "_law_play_kind" s__law_play_kind ["box"] _ fd__law_play_kind := ⟨F__law_play_kind, F__law_play_kind.bindsN fun _ _ _ _ _ _ us hl => match us, hl with | [_], _ => rfl, He.glo_ok X G (c.fact 25 (f := .glo "_law_play_kind") rfl)⟩
  obtain ⟨fd__law_near_step, F__law_near_step⟩ := c.def_ 26 (d := d__law_near_step) rfl
  have D__law_near_step : Df K mg "_law_near_step" s__law_near_step ["box", "play"] _ fd__law_near_step := ⟨F__law_near_step, F__law_near_step.bindsN fun _ _ _ _ _ _ us hl => match us, hl with | [_, _], _ => rfl, He.glo_ok X G (c.fact 26 (f := .glo "_law_near_step") rfl)⟩
  obtain ⟨fd_law, F_law⟩ := c.def_ 27 (d := d_law) rfl
  have e := hfa.symm.trans (He.glo_ok X G (c.fact 27 (f := .glo "law") rfl))
  cases e
  have D_law : Df K mg "law" s_law ["script"] _ fd_law := ⟨F_law, F_law.bindsN fun _ _ _ _ _ _ us hl => match us, hl with | [_], _ => rfl, hfa⟩
  have B : Bt mg := ⟨He.free_ok X G (c.fact 28 (f := .free "len") rfl), He.free_ok X G (c.fact 29 (f := .free "isinstance") rfl), He.free_ok X G (c.fact 30 (f := .free "int") rfl), He.free_ok X G (c.fact 31 (f := .free "bool") rfl), He.free_ok X G (c.fact 32 (f := .free "tuple") rfl), He.free_ok X G (c.fact 33 (f := .free "all") rfl), He.free_ok X G (c.fact 34 (f := .free "enumerate") rfl), He.free_ok X G (c.fact 35 (f := .free "range") rfl), He.free_ok X G (c.fact 36 (f := .free "sorted") rfl), He.free_ok X G (c.fact 37 (f := .free "str") rfl)⟩
  have b := FunD.bindsA (ps := ["script"]) F_law fun _ _ _ _ _ _ us hl => match us, hl with | [_], _ => rfl
  exact ⟨fd_law, fun s v => b s [v] rfl, fun base _ _ => ok_law hBG hKB D_law B D_kind_at D_is_whole D_is_answer D_is_tuple_of D__is_move D__is_later_step D__is_placed D__reason_against D__note_open D_fault_of D__sight_behind D_open_asks D_steps_to D_steps_after D__law_cell D__law_digits D__law_draw D__law_box D__law_same D__law_at D__law_kind_deep D__law_sight_at D__law_opens D__law_steps D__law_legal_play D__law_play_kind D__law_near_step⟩
end Pk
open PySem PySem.W PySem.Calls PyProof.Rows
set_option maxHeartbeats 0
theorem PySem.Challenge.cw_playsense_k22_steps_that_go_on_legally_holds : PySem.Challenge.rw_playsense_k22_steps_that_go_on_legally.Holds := by
  w_on; o_law
  refine HandSHeadRun.head_any (r := OpenLaw.row PySem.Challenge.rw_playsense_k22_steps_that_go_on_legally) (q := view (OpenLaw.row PySem.Challenge.rw_playsense_k22_steps_that_go_on_legally).prog [32]) (H := Pk.hk) (ob := Pk.ob) (M := 4000) (loose := Pk.names) (d := HandSHeadRun.topDef (OpenLaw.row PySem.Challenge.rw_playsense_k22_steps_that_go_on_legally).prog 32) (kwd := []) Pk.ob_eq
    (by kernel_rfl) (fun s => by kernel_rfl) Pk.run (by kernel_rfl) (by kernel_rfl) (by kernel_rfl) (by rfl) (by first | assumption | decide +kernel) (by decide +kernel) ⟨rfl, rfl, rfl, rfl, rfl, by decide +kernel⟩ ?hw ?hc
  case hw => w_witness2
  case hc =>
    refine L2.walk_ofE (l := PySem.Challenge.rw_playsense_k22_steps_that_go_on_legally) (n := 63) (k := 121) (x := "script") (CX := L2.CX0) rfl (by decide) (by kernel_rfl) ⟨rfl, by decide, by decide⟩ ?F (fun _ _ _ _ z => z)
    intro w mg fa h Y G hmg0
    obtain ⟨K, KX, c⟩ := Y
    have hmg : mg ("law" : PySem.Str) = some (.ref fa) := by
      have e : (HandSHeadRun.topDef (OpenLaw.row PySem.Challenge.rw_playsense_k22_steps_that_go_on_legally).prog 32).name = ("law" : PySem.Str) := by kernel_rfl
      rw [← e]
      exact hmg0
    obtain ⟨fd, hb, hF⟩ := Pk.facts (P := (PySem.Challenge.rw_playsense_k22_steps_that_go_on_legally).prog) (w := w) KX G hmg c
    exact ⟨K, fd, Pk.spLaw K, KX, hb, fun H a ns hl _ hS => ⟨a, ns, rfl, hS, hl, fun _ => rfl⟩, hF⟩
