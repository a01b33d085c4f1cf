import PyProof.Rows.All
import Wide.All
import OpenK.AllK
import Wide.FinOn
import PyProof.EqAt
import PyProof.EqKinds
import PyProof.TupleCall
import HandS.ForMost
import HandS.TupAny
import HandS.TupMul
import HandS.TupLe
import HandS.IsInst
import KE.GoesMore
import KE.KRevSl
import HandS.Flow
import HandS.CallLocal
import HandS.Walk
import HandS.Zip
import KE.KStateDown
import HandS.Base
import HandS.Call
import HandS.Ends
import HandS.More
import HandS.Words
import HandS.WordsExc
import HandS.Defaults
import HandS.Head0
import HandS.Head1
import HandS.Head2
import HandS.HeadEnd
import HandS.HeadHook1
import HandS.HeadHook2
import PySem.Challenge.RW_playsense_k10_what_is_a_program
set_option Elab.async false
set_option linter.all false
set_option maxRecDepth 100000
set_option maxHeartbeats 4000000
/-! Rules of our own: list.extend of a tuple, xs[::-1], enumerate of a tuple, () * k. -/
namespace Pk
open PySem PySem.Spec PyProof.Rows L2

/-! ### list.extend(tuple) -/
theorem list_extend_tupW (l : Addr) (items : Array Value) (n : Nat) (b : Addr) (items2 : Array Value) (n2 : Nat) (dd : Option Addr) (sl : Array (Option Value))
    (hs0 : ¬(!items.isEmpty && Builtin.List.listTooLong (items.size + items2.size)) = true) (hs1 : items.size ≤ sizeLine) (hs2 : items.size + items2.size ≤ sizeLine + 1) :
    Meets (Builtin.«list.extend» ⟨[.ref l, .ref b], []⟩) (fun _ R s => s.heap.get? l = some { cls := .type "list", dict := none, data := .seq items n, slots := #[] } ∧ s.heap.get? b = some { cls := .type "tuple", dict := dd, data := .seq items2 n2, slots := sl } ∧
      R (.ok (.ret Value.none)) { s with heap := s.heap.update l (Obj.mapSeq fun x => x ++ items2), toks := s.toks }) :=
  .of_wp fun prog w A R s h => by
    obtain ⟨hp, g, d, tk, os⟩ := s
    obtain ⟨hl, hb, h⟩ := h
    have f1 := AutoSeq1.idx_int
    have f2 := AutoSeq1.sub_tuple_tuple
    have f3 := AutoSeq1.sub_list_list
    have f4 := AutoSeq1.sub_tuple_list
    have f5 := AutoSeq1.sub_list_tuple
    have hz' : (items ++ items2).size ≤ sizeLine + 1 := by rw [Array.size_append]; exact hs2
    wp_walk using (wpAny_updateSeq hl rfl (hz := hs1) (_hz' := hz')), AutoSeq1.wpAny_loadPart' hl, AutoSeq1.wpAny_loadPart' hb
    exact ⟨_, rfl, h⟩
def rExtendT (K : PySem.W.Frag) : V → List V → Hp → VK → Prop := fun x vs H Q => ∃ l b xs zs, x = .ref l ∧ vs = [.ref b] ∧ H l = some (.lst xs) ∧ SqT K H b zs ∧ xs.length + zs.length ≤ sizeLine ∧ Q .non (upd H l (.lst (xs ++ zs)))
section
variable {X : Cx}
theorem mt_extendT : MtM X "list.extend" (rExtendT X.K) := by
  intro pins s σ H x vs v us Q I rx rv h
  obtain ⟨l, b, xs, zs, rfl, rfl, hH, hB, hz, q⟩ := h
  cases rx
  obtain ⟨u, rfl, ru⟩ := rv.one
  cases ru
  obtain ⟨z, its, n, r, hl, e⟩ := I.lstM hH
  obtain ⟨its2, r2, ⟨⟨cls, dd, data, sl⟩, ho, hc, n2, hd⟩, hz2⟩ := I.tuple hB
  simp only at hc hd
  subst hc hd
  have hl2 := r2.length
  have hsz : its.toArray.size + its2.toArray.size ≤ sizeLine := by rw [List.size_toArray, List.size_toArray]; omega
  have hlong : ¬ (!its.toArray.isEmpty && Builtin.List.listTooLong (its.toArray.size + its2.toArray.size)) = true := by
    rw [notLongL hsz, Bool.and_false]
    exact Bool.false_ne_true
  refine call_meets F.slot_list_extend ⟨_, e, rfl⟩ F.entry_list_extend (F.args_list_extend_2 _ _)
    (list_extend_tupW l its.toArray n b its2.toArray n2 dd sl hlong (by rw [List.size_toArray]; omega) (by omega)) ⟨e, ho, ?_⟩
  refine ⟨.non, _, I.lset (its' := its ++ its2) hH e (by simp) (r.append r2) ?_, rfl, q⟩
  rw [List.length_append]
  omega

/-! ### xs[::-1] -/
def tRevL (K : PySem.W.Frag) (te : TE) : TE := fun σ H Q => te σ H fun x H1 => ∃ a xs, x = .ref a ∧ SqL K H1 a xs ∧ ∀ p, H1 p = none → Q (.ref p) (upd H1 p (.lst xs.reverse))
theorem pe_revL {e : Expr} {te : TE} {j : Nat} {p2 p3 p4 pos : Pos} (he : PE X e te) : PE X (.Subscript e (.Slice none none (some (.UnaryOp .USub (.Constant (.int 1) j p4) p3)) p2) pos) (tRevL X.K te) := by
  refine ⟨fun pins s σ H Q I h => ?_⟩
  refine Subscript_ (thn (he.run pins s σ H _ I h) fun v s1 ⟨x, H1, I1, r1, q1⟩ => ?_)
  have hst := po_some (X := X) (pe_un (pos := p3) un_neg (pe_int (i := 1) (j := j) (pos := p4)))
  refine wpAny_Slice ?_
  rw [evalPart_none]
  refine wpAny_pure ?_
  refine wpAny_pure ?_
  refine thn (hst.run pins s1 σ H1 (fun o H' => o = some (-1) ∧ H' = H1) I1 ?_) fun vs s3 ⟨o, H3, I3, ps, q3⟩ => ?_
  · exact ⟨1, rfl, -1, rfl, rfl, rfl⟩
  obtain ⟨rfl, rfl⟩ := q3
  obtain ⟨a, xs, rfl, hx, q⟩ := q1
  cases r1
  have I4 : Inv X pins σ H3 { s3 with heap := s3.heap.push { cls := .type "slice", data := .fields #[.none, .none, vs] } } := I3.kept (t' := s3.toks) fun b ob q => Heap.get?_push_of_some _ q
  obtain ⟨its, r, ht, hz⟩ := I4.list hx
  have hlen := r.length
  show wpAny (model X.prog X.w) X.A (subscriptTail e (.Slice none none (some (.UnaryOp .USub (.Constant (.int 1) j p4) p3)) p2) (.ref a) (.ref s3.heap.objs.size)) (EP X pins σ Q) X.xe { s3 with heap := s3.heap.push { cls := .type "slice", data := .fields #[.none, .none, vs] } }
  refine tail_any (ops := _) ht.isList.typeIs slot_list_getitem.lookup ?_ (by with_unfolding_all rfl)
  refine wpAny_getItem_list_slice ht.isList (Heap.IsSliceOf.new ..) .none .none ps (by decide) ?_ (by rw [List.size_toArray]; omega)
  have ep : slicePick its.toArray none none (some (-1)) = its.reverse.toArray := PySem.W.krv_pick _
  rw [ep]
  refine ⟨.ref _, _, I4.laid (t' := s3.toks) (o := .lst xs.reverse) (fun b ob q => Heap.get?_push_of_some _ q) (Nat.le_refl _) ?_, rfl, q _ (I4.hok.fresh (Nat.le_refl _))⟩
  exact ⟨by rw [List.length_reverse]; exact hz, _, 0, r.reverse, Heap.get?_push_size _ rfl⟩

/-! ### () * k -/
theorem tuple_mul0 (l : Addr) (items : Array Value) (n : Nat) (dd : Option Addr) (sl : Array (Option Value)) (x : Int) (u : Tok) (c0 : (decide (x < -(2 ^ 63)) || decide (x ≥ 2 ^ 63)) = false) (c1 : (items.isEmpty || x == 1) = true) :
    Meets (Builtin.«tuple.__mul__» ⟨[.ref l, .int x u], []⟩) (fun _ R s => s.heap.get? l = some { cls := .type "tuple", dict := dd, data := .seq items n, slots := sl } ∧ R (.ok (.ret (Value.ref l))) s) :=
  .of_wp fun prog w A R s h => by
    obtain ⟨hp, g, d, tk, os⟩ := s
    obtain ⟨hl, h⟩ := h
    have f1 := AutoSeq1.idx_int
    wp_walk using AutoSeq1.wpAny_loadPart' hl
    repeat (first
      | (refine wpAny_ite_false (decide_eq_false (by rw [c0]; exact Bool.false_ne_true)) ?_; wp_walk using AutoSeq1.wpAny_loadPart' hl)
      | (refine wpAny_ite_true (decide_eq_true (by rw [c1])) ?_; wp_walk using AutoSeq1.wpAny_loadPart' hl))
    exact ⟨_, rfl, h⟩
def rRep0 (K : PySem.W.Frag) : R2 := fun x y H Q => ∃ l k, x = .ref l ∧ y = .int k ∧ SqT K H l [] ∧ 2 ≤ k ∧ k ≤ 1000 ∧ Q (.ref l) H
theorem op_rep0 : OpR X (binaryOp .Mult) (rRep0 X.K) := by
  intro pins s σ H x y v u Q I rx ry h
  obtain ⟨l, k, rfl, rfl, hT, h1, h2, q⟩ := h
  cases rx
  obtain ⟨t, rfl⟩ := ry
  obtain ⟨its, r, ⟨⟨cls, dd, data, sl⟩, ho, hc, n, hd⟩, hs⟩ := I.tuple hT
  simp only at hc hd
  subst hc hd
  cases r
  have c0 : (decide (k < -(2 ^ 63)) || decide (k ≥ 2 ^ 63)) = false := by
    rw [decide_eq_false (by omega), decide_eq_false (by omega)] <;> rfl
  refine wpAny_binaryOp_repeat_ref (T := "tuple") (U := "int") (by decide) ⟨_, ho, rfl⟩ (fun s' => typeIs_int s' k t) noFill_tuple_mul F.fills_int_mul F.slot_int_rmul repeat_tuple F.slot_int_index.lookup
    (call_meets F.slot_int_rmul (typeIs_int s k t) F.entry_int_rmul (F.args_int_rmul_2 _ _) (int_rmul_tuple k t l _ n dd sl)
      ⟨ho, rfl, ⟨_, ho, rfl⟩, call_meets F.slot_tuple_mul ⟨_, ho, rfl⟩ F.entry_tuple_mul (F.args_tuple_mul_2 _ _) (tuple_mul0 l _ n dd sl k t c0 rfl) ⟨ho, ?_⟩⟩)
  exact ⟨.ref l, H, I, rfl, q⟩
end

/-! ### t + u of tracked tuples, one way on -/
section
variable {X : Cx}
def rCatR : R2 := fun x y H Q => ∃ a b xs ys, x = .ref a ∧ y = .ref b ∧ H a = some (.tup xs) ∧ H b = some (.tup ys) ∧ xs.length + ys.length ≤ sizeLine ∧ ∀ (c : Addr) (H' : Hp), Same H H' → H' c = some (.tup (xs ++ ys)) → Q (.ref c) H'
theorem op_catR : OpR X (binaryOp .Add) rCatR := by
  intro pins s σ H x y v u Q I rx ry h
  obtain ⟨a, b, xs, ys, rfl, rfl, ha, hb, hz, q⟩ := h
  refine op_catA pins s σ H _ _ v u Q I rx ry ⟨a, b, xs, ys, rfl, rfl, SqT.of ha, SqT.of hb, hz, fun e => ?_, fun _ e => ?_, fun _ _ p np => ?_⟩
  · subst e
    exact q b H (Same.refl H) hb
  · subst e
    exact q a H (Same.refl H) (by rw [List.append_nil]; exact ha)
  · exact q p _ (fun c o e => by rw [upd_ne (ne_of_none e np)]; exact e) upd_same
end

/-! ### t[lo:hi] of a tracked tuple, one way on -/
theorem cutV_whole {xs : List V} {lo hi : Option Int} (h : HT.sIx xs.length 0 lo = 0 ∧ HT.sIx xs.length xs.length hi = xs.length) : cutV xs lo hi = xs := by
  unfold cutV
  rw [h.1, h.2, List.drop_zero, Nat.sub_zero, List.take_length]
theorem cutV_to (xs : List V) (k : Nat) : cutV xs none (some (k : Int)) = xs.take k := by
  unfold cutV
  rw [HT.sIx_none, HT.sIx_nat, List.drop_zero, Nat.sub_zero]
  by_cases h : k ≤ xs.length
  · rw [Nat.min_eq_left h]
  · rw [Nat.min_eq_right (by omega), List.take_length, List.take_of_length_le (by omega)]
theorem cutV_from (xs : List V) (k : Nat) : cutV xs (some (k : Int)) none = xs.drop k := by
  unfold cutV
  rw [HT.sIx_none, HT.sIx_nat]
  by_cases h : k ≤ xs.length
  · rw [Nat.min_eq_left h]
    exact List.take_of_length_le (by rw [List.length_drop]; exact Nat.le_refl _)
  · rw [Nat.min_eq_right (by omega), List.drop_length, List.drop_of_length_le (by omega)]
    exact List.take_nil
section
variable {X : Cx}
def rSlR : V → Option Int → Option Int → Hp → VK → Prop := fun x lo hi H Q => ∃ a xs, x = .ref a ∧ H a = some (.tup xs) ∧ ∀ (c : Addr) (H' : Hp), Same H H' → H' c = some (.tup (cutV xs lo hi)) → Q (.ref c) H'
theorem sl_tupR : SlR X rSlR := by
  intro pins s σ H x v vl vu lo hi sl Q I rx hs pl pu h
  obtain ⟨a, xs, rfl, hx, q⟩ := h
  refine sl_tupA pins s σ H _ v vl vu lo hi sl Q I rx hs pl pu ⟨a, xs, rfl, SqT.of hx, fun z => ?_, fun _ p np => ?_⟩
  · exact q a H (Same.refl H) (by rw [cutV_whole z]; exact hx)
  · exact q p _ (fun c o e => by rw [upd_ne (ne_of_none e np)]; exact e) upd_same
end

/-! ### t * k of a tracked tuple, one way on -/
section
variable {X : Cx}
theorem rep_nil {α : Type} : ∀ k : Nat, (List.replicate k ([] : List α)).flatten = []
  | 0 => rfl
  | k + 1 => by
    rw [List.replicate_succ, List.flatten_cons, rep_nil k]
    rfl
def rRepR : R2 := fun x y H Q => ∃ l k xs, x = .ref l ∧ y = .int k ∧ H l = some (.tup xs) ∧ 2 ≤ k ∧ k ≤ 1000 ∧ xs.length ≤ 1000 ∧ ∀ (c : Addr) (H' : Hp), Same H H' → H' c = some (.tup (List.replicate k.toNat xs).flatten) → Q (.ref c) H'
theorem op_repR : OpR X (binaryOp .Mult) rRepR := by
  intro pins s σ H x y v u Q I rx ry h
  obtain ⟨l, k, xs, rfl, rfl, hx, h1, h2, hz, q⟩ := h
  by_cases e : xs = []
  · subst e
    exact op_rep0 pins s σ H _ _ v u Q I rx ry ⟨l, k, rfl, rfl, SqT.of hx, h1, h2, q l H (Same.refl H) (by rw [rep_nil]; exact hx)⟩
  · exact op_repT pins s σ H _ _ v u Q I rx ry ⟨l, k, xs, rfl, rfl, SqT.of hx, e, h1, h2, hz, fun p np => q p _ (fun c o z => by rw [upd_ne (ne_of_none z np)]; exact z) upd_same⟩
end

/-! ### xs == [] -/
section
variable {X : Cx}
def rEqNil (K : PySem.W.Frag) : R2 := fun x y H Q => ∃ a b xs, x = .ref a ∧ y = .ref b ∧ SqL K H a xs ∧ SqL K H b [] ∧ Q (.bl xs.isEmpty) H
theorem op_eqNil (hu : X.A.units + 64 < cLine) : OpR X (compareOp .Eq) (rEqNil X.K) := by
  intro pins s σ H x y v u Q I rx ry h
  obtain ⟨a, b, xs, rfl, rfl, ha, hb, q⟩ := h
  cases rx
  cases ry
  obtain ⟨its, r1, p1, _⟩ := I.list ha
  obtain ⟨its2, r2, p2, _⟩ := I.list hb
  cases r2
  have hu' : X.A.units < cLine := by omega
  cases r1 with
  | nil => exact SeqAt.eq_listAt (e := fun _ => true) p1.isList p2.isList rfl hu' (fun j h1 h2 => by simp at h1) ⟨.bl true, H, I, rfl, q⟩
  | cons r t => exact SeqAt.eq_list_lengthsAt p1.isList p2.isList rfl hu' ⟨.bl false, H, I, rfl, q⟩
end

/-! ### enumerate(tuple) -/
theorem meets_enumerate_newT (l : Addr) (items : Array Value) (n : Nat) (dct : Option Addr) (sl : Array (Option Value)) :
    Meets (Builtin.«enumerate.__new__» ⟨[.type "enumerate", .ref l], []⟩) (fun _ R s => s.heap.get? l = some { cls := .type "tuple", dict := dct, data := .seq items n, slots := sl } ∧
      R (.ok (.ret (.ref (s.heap.push { cls := .type "tuple_iterator", data := .fields #[.ref l, .int 0 0] }).objs.size)))
        { s with heap := (s.heap.push { cls := .type "tuple_iterator", data := .fields #[.ref l, .int 0 0] }).push { cls := .type "enumerate", data := .fields #[.none, .bool false, .ref s.heap.objs.size, rawInt 0, .none, .none] } }) :=
  .of_wp fun prog w A R s h => by
    obtain ⟨hp, g, d, tk, os⟩ := s; obtain ⟨hl, h⟩ := h
    have hsub := sub_enumerate
    have hL : Heap.IsTuple (Shared.heap ⟨hp, g, d, tk, os⟩) l items := ⟨_, hl, rfl, n, rfl⟩
    wp_walk using AutoSeq1.wpAny_loadPart' hl
    refine wpAny_stack_any fun st => wpAny_pure ?_
    split
    · rename_i c _ _ _ _ _
      cases (c == Value.type "enumerate")
      · wp_walk using AutoSeq1.wpAny_loadPart' hl, wpAny_pyIter_tuple hL
        exact ⟨_, rfl, h⟩
      · wp_walk using AutoSeq1.wpAny_loadPart' hl, wpAny_pyIter_tuple hL
        exact ⟨_, rfl, h⟩
    · wp_walk using AutoSeq1.wpAny_loadPart' hl, wpAny_pyIter_tuple hL
      exact ⟨_, rfl, h⟩
section
variable {prog : Program} {w : World} {A : Around} {E : Value → Shared → Prop} {s : Shared}
theorem call_enumerate_tup {l : Addr} {items : Array Value} {Q : Value → Shared → Prop} (hL : IsTup s.heap l items)
    (h : ∀ h', IsEnum h' (s.heap.objs.size + 1) s.heap.objs.size 0 .none → h'.IsTupleIter s.heap.objs.size l 0 → h'.objs.size = s.heap.objs.size + 2 →
      (∀ b o, s.heap.get? b = some o → h'.get? b = some o) → Q (.ref (s.heap.objs.size + 1)) { s with heap := h' }) :
    wpAny (model prog w) A (call (.type "enumerate") [.ref l]) Q E s := by
  obtain ⟨⟨c, dct, dt, sl⟩, hl, hc, n, hd⟩ := hL
  replace hc : c = .type "tuple" := hc
  replace hd : dt = .seq items n := hd
  subst hc hd
  refine callType_new F.called_enumerate (by decide) (F.typeCall_enumerate_1 _) (F.newCall_enumerate_1 _) (fun obj => F.args_object_init_2 obj _) F.entry_enumerate_new
    (meets_enumerate_newT l items n dct sl) ⟨hl, ?_⟩
  have hz : (s.heap.push { cls := .type "tuple_iterator", data := .fields #[.ref l, .int 0 0] }).objs.size = s.heap.objs.size + 1 := Heap.size_push ..
  show _ ∧ _
  rw [hz]
  have he : IsEnum ((s.heap.push { cls := .type "tuple_iterator", data := .fields #[.ref l, .int 0 0] }).push
      { cls := .type "enumerate", data := .fields #[.none, .bool false, .ref s.heap.objs.size, rawInt 0, .none, .none] }) (s.heap.objs.size + 1) s.heap.objs.size 0 .none := by
    have := Heap.get?_push_size (s.heap.push { cls := .type "tuple_iterator", data := .fields #[.ref l, .int 0 0] })
      (o := { cls := .type "enumerate", data := .fields #[.none, .bool false, .ref s.heap.objs.size, rawInt 0, .none, .none] }) rfl
    rw [hz] at this; exact this
  refine ⟨⟨_, he, rfl⟩, h _ he ⟨_, Heap.get?_push_of_some _ (Heap.get?_push_size _ rfl), rfl, rfl⟩ (by rw [Heap.size_push, hz]) fun b o x => Heap.get?_push_of_some _ (Heap.get?_push_of_some _ x)⟩
theorem wpAny_pyNext_enumT_end {e it l : Addr} {i : Nat} {items : Array Value} {old : Value} {Q : Option Value → Shared → Prop} (hh : A.handled = none)
    (he : IsEnum s.heap e it i old) (hit : s.heap.IsTupleIter it l i) (hl : IsTup s.heap l items) (hx : items[i]? = none)
    (hQ : ∀ h', Heap.ExtBut it s.heap h' → Q none { s with heap := h' }) : wpAny (model prog w) A (pyNext (.ref e)) Q E s := by
  have hTy : s.TypeIs (.ref e) "enumerate" := ⟨_, he, rfl⟩
  unfold pyNext
  refine wpAny_bind (wpAny_attempt (wpAny_callSpecial?_slot (name := Str.ofString "__next__") hTy F.slot_enumerate_next
    (wpAny_call_entry F.slot_enumerate_next hTy F.entry_enumerate_next ?_ (F.args_enumerate_next_1 _))))
  show wpAny _ _ (field (.ref e) 2 >>= _) _ _ _
  refine wpAny_bind (wpAny_field he rfl (x := .ref it) rfl ?_)
  refine wpAny_bind (wpAny_nextOf_tuple_end hh hit hl hx fun h' x he' hx' => ?_)
  obtain ⟨o, ho, hc⟩ := hx'
  refine wpAny_bind (wpAny_isInstance (T := "StopIteration") (b := true) ⟨o, ho, hc⟩ isSubtype_stop ?_)
  exact wpAny_pure (hQ _ he')
end
def Itet (K : PySem.W.Frag) (a : Addr) : It :=
  ⟨fun i H => ∃ (xs : List V) (x : V), SqT K H a xs ∧ xs[i]? = some x, fun i H v H' => ∃ T x, v = .ref T ∧ H T = none ∧ H' = upd H T (.tup [.int (i : Nat), x]) ∧ ∀ xs, SqT K H a xs → xs[i]? = some x, fun i H => ∃ xs : List V, SqT K H a xs ∧ xs.length ≤ i⟩
theorem turn_enumT {P : Program} {w : World} {K : PySem.W.Frag} {elts : List Expr} {kk : Nat} {tpos : Pos} (a e it : Addr) (hai : a ≠ it) :
    Turn P w K (.Tuple elts kk tpos) (Itet K a) [e, it] e (fun i h => (∃ old, IsEnum h e it ((i : Nat) : Int) old) ∧ h.IsTupleIter it a i ∧ e ≠ it ∧ e ≠ a) where
  mem := by simp
  obj := fun i h st b hb => by
    obtain ⟨⟨old, he⟩, ⟨o, ho, hc, hd⟩, _⟩ := st
    have e' : b = e ∨ b = it := by simpa using hb
    rcases e' with z | z
    · rw [z]; exact ⟨_, he, fun v q => nomatch q⟩
    · rw [z]; exact ⟨o, ho, fun v q => by rw [hd] at q; cases q⟩
  keep := fun i h h' st k => let ⟨⟨old, he⟩, hi, hne⟩ := st; ⟨⟨old, k e (by simp) _ he⟩, hi.at fun o q => k it (by simp) o q, hne⟩
  item := by
    intro X hP hw hK hc i pins s σ H E I hf st hg
    subst hP hw hK
    obtain ⟨⟨old, he⟩, hit, hne, hea⟩ := st
    obtain ⟨xs, x, hq, hx⟩ := hg
    obtain ⟨its, rv, p, hz⟩ := I.tuple hq
    obtain ⟨u, hu, ru⟩ := rv.get hx
    have hel : e < s.heap.objs.size := Heap.lt_size he
    have hil : it < s.heap.objs.size := by obtain ⟨_, q, _⟩ := hit; exact Heap.lt_size q
    have hlt : i < its.toArray.size := by
      have z1 := (List.getElem?_eq_some_iff.mp hu).1
      rw [List.size_toArray]
      exact z1
    refine wpAny_pyNext_enum_itemD (Draws.tuple (prog := X.prog) (w := X.w) (A := X.A.in1) (I.ok.hd hc) it a hai its.toArray) he ⟨hit, p⟩ hlt hne (by simp; exact ⟨hne, hea⟩) fun x' h' tk hP' ho' st' hT hsz hk => ?_
    have ex : x' = u := by
      have z1 : its.toArray[i]? = some u := by simpa using hu
      rw [z1] at hP'
      exact (Option.some.inj hP').symm
    subst ex
    refine ⟨_, rfl, wpAny_letOwnedTupleGo_enum (s := { s with heap := h', toks := tk + 1 }) ho' fun h'' he' sb => ?_⟩
    have hT2 : h''.get? s.heap.objs.size = some { cls := .type "tuple", data := .seq #[.int i tk, x'] } := (sb.2 _ (Nat.ne_of_gt hel)).trans hT
    have new : ObjOk X.prog X.w (upd H s.heap.objs.size (.tup [.int (i : Nat), x])) h'' s.heap.objs.size (.tup [.int (i : Nat), x]) :=
      ⟨by show 2 ≤ sizeLine; decide, [.int i tk, x'], .cons ⟨_, rfl⟩ (.cons ru .nil), ⟨_, hT2, rfl, _, rfl⟩⟩
    have I1 : Inv X pins σ (upd H s.heap.objs.size (.tup [.int (i : Nat), x])) { s with heap := h'', toks := tk + 1 } :=
      I.turnedNew (ch := [e, it]) (fun b ob hb q => (sb.2 b (fun z => hb (by simp [z]))).trans (hk b ob (fun z => hb (by simp [z])) (fun z => hb (by simp [z])) q)) hf (Nat.le_refl _) new
    refine ⟨.ref s.heap.objs.size, _, I1, rfl, ⟨_, x, rfl, I.hok.fresh (Nat.le_refl _), rfl, fun ys hy => by rw [I.tuple_inj hy hq]; exact hx⟩, ⟨⟨x', ?_⟩, st'.1.at fun o q => (sb.2 it (Ne.symm hne)).trans q, hne, hea⟩, fun b hb => ?_⟩
    · have e1 : ((i + 1 : Nat) : Int) = (i : Int) + 1 := by omega
      rw [e1]; exact he'
    · have hb' : b < s.heap.objs.size := by
        have e' : b = e ∨ b = it := by simpa using hb
        rcases e' with z | z
        · rw [z]; exact hel
        · rw [z]; exact hil
      rw [upd_ne (Nat.ne_of_lt hb')]
      exact (hf b hb).1
  done := by
    intro X hP hw hK hc i pins s σ H E I hf st hg
    subst hP hw hK
    obtain ⟨⟨old, he⟩, hit, hne, hea⟩ := st
    obtain ⟨xs, hq, hx⟩ := hg
    obtain ⟨its, rv, p, hz⟩ := I.tuple hq
    obtain ⟨f0, f1, f2, f3, f4, f5⟩ := hf it (by simp)
    have hl := rv.length
    exact wpAny_pyNext_enumT_end (I.ok.hd hc) he hit p (by simp; omega) fun h' eb => ⟨rfl, I.turned (t' := s.toks) (fun b o hb q => eb b o hb q) f0 f1 f3 f4 f5⟩
  self := fun A i s Q E st h => let ⟨⟨_, he⟩, _⟩ := st; wpAny_pyIter_enum he h
def iEnumT (K : PySem.W.Frag) (ta : TA) : TI := fun σ H R => ta σ H fun vs H1 => ∃ a xs, vs = [.ref a] ∧ SqT K H1 a xs ∧ R (Itet K a) H1
theorem pi_enumT {X : Cx} {e : Expr} {ta : TA} {p pos tpos : Pos} {elts : List Expr} {kk : Nat} (hg : Gl X "enumerate") (hm : X.mg "enumerate" = none) (ha : PA X [e] ta) (hs : starEach [e] X.env = [(false, eval e X.env)] := by rfl) :
    PI X (.Tuple elts kk tpos) (.Call (.Name "enumerate" p) [e] [] pos) (iEnumT X.K ta) := by
  refine ⟨fun pins s σ H R I h => ?_⟩
  refine Call_ (ld_blt I hg hm boot_enumerate (PyProof.Rows.callWith_type1 (thn (ha.run pos pins s σ H _ I h) fun us s1 ⟨vs, H1, I1, r1, q1⟩ => ?_) hs rfl))
  obtain ⟨a, xs, ex, hq, q⟩ := q1
  subst ex
  cases r1 with
  | cons r rr =>
    cases rr
    cases r
    obtain ⟨its, rv, p', hz⟩ := I1.tuple hq
    have hal : a < s1.heap.objs.size := p'.lt
    refine call_enumerate_tup p' fun h' he hit hsz hk => wpAny_pyIter_enum he ?_
    have I2 : Inv X pins σ H1 { s1 with heap := h' } := I1.kept (t' := s1.toks) hk
    refine ⟨s1.heap.objs.size + 1, [s1.heap.objs.size + 1, s1.heap.objs.size], _, _, H1, rfl, I2, turn_enumT a (s1.heap.objs.size + 1) s1.heap.objs.size (Nat.ne_of_lt hal), ⟨⟨.none, he⟩, hit, Nat.succ_ne_self _, Nat.ne_of_gt (Nat.lt_succ_of_lt hal)⟩, fun b hb => ?_, q⟩
    have e' : b = s1.heap.objs.size + 1 ∨ b = s1.heap.objs.size := by simpa using hb
    have hle : s1.heap.objs.size ≤ b := by
      rcases e' with z | z
      · rw [z]; exact Nat.le_add_right _ _
      · rw [z]; exact Nat.le_refl _
    exact I1.fpOk hle (I1.hok.fresh hle)
theorem lc_enumT {K : PySem.W.Frag} {a : Addr} {xs : List V} {g : TG} {tt : TT} {te : TE} {vs : List Nat} {σ : L2.St} {H1 : Hp} {D : Addr} {Qd : Hp → Prop} (Pv : Nat → Hp → Prop) (h0 : Pv 0 (upd H1 D (.lst []))) (hl : ∀ i H, i ≤ xs.length → Pv i H → SqT K H a xs)
    (hs : ∀ i x T H, xs[i]? = some x → Pv i H → H T = none → g (.ref T) (wipe σ vs) (upd H T (.tup [.int (i : Nat), x])) fun σ2 H2 => wipe σ2 vs = wipe σ vs ∧ tt σ2 H2 fun b H3 =>
      if b = true then te σ2 H3 fun y H4 => ∃ acc, H4 D = some (.lst acc) ∧ acc.length < sizeLine ∧ Pv (i + 1) (upd H4 D (.lst (acc ++ [y]))) else Pv (i + 1) H3) (hd : ∀ H, Pv xs.length H → Qd H) :
    ∃ W : Nat → Nat → Hp → Prop, (∃ m, W 0 m (upd H1 D (.lst []))) ∧ ∀ i m H, W i m H →
      ((Itet K a).stop i H ∧ Qd H) ∨ ((Itet K a).go i H ∧ ∃ Nx : Hp → Prop, (∀ H', Nx H' → ∃ m', m' < m ∧ W (i + 1) m' H') ∧ ∀ x H', (Itet K a).yld i H x H' → g x (wipe σ vs) H' fun σ2 H2 => wipe σ2 vs = wipe σ vs ∧ tt σ2 H2 fun b H3 =>
        if b = true then te σ2 H3 fun y H4 => ∃ acc, H4 D = some (.lst acc) ∧ acc.length < sizeLine ∧ Nx (upd H4 D (.lst (acc ++ [y]))) else Nx H3) := by
  refine ⟨fun i m H => m = xs.length - i ∧ i ≤ xs.length ∧ Pv i H, ⟨xs.length, by simp, Nat.zero_le _, h0⟩, ?_⟩
  rintro i m H ⟨rfl, hi, p⟩
  have q := hl i H hi p
  by_cases hlt : i < xs.length
  · refine .inr ⟨⟨xs, xs[i], q, by simp [hlt]⟩, Pv (i + 1), fun H' p' => ⟨xs.length - (i + 1), by omega, rfl, hlt, p'⟩, fun x H' y => ?_⟩
    obtain ⟨T, x', rfl, nT, rfl, y⟩ := y
    exact hs i x' T H (y xs q) p nT
  · have e : i = xs.length := by omega
    subst e
    exact .inl ⟨⟨xs, q, Nat.le_refl _⟩, hd H p⟩
end Pk

set_option maxRecDepth 100000
set_option maxHeartbeats 1000000
namespace Pk
open PySem PySem.Spec PyProof.Rows L2

/-! ### data: an atom, some list, a tuple of data -/
inductive D where
  | at (v : V)
  | lst
  | tup (l : List D)
def flat4 : V → Bool
  | .non => true
  | .bl _ => true
  | .int _ => true
  | .str _ => true
  | _ => false
/-- a tuple that stands: tracked, or of the written part -/
def TupAt (K : PySem.W.Frag) (H : Hp) (a : Addr) (xs : List V) : Prop :=
  H a = some (.tup xs) ∨ ∃ (o : Obj) (its : Array Value) (n : Nat), K.lookup a = some o ∧ o.cls = .type "tuple" ∧ o.data = .seq its n ∧ its.size ≤ sizeLine ∧ Vals xs its.toList
theorem TupAt.sq {K : PySem.W.Frag} {H : Hp} {a : Addr} {xs : List V} (h : TupAt K H a xs) : SqT K H a xs := by
  rcases h with h | h
  · exact .inl (.inl h)
  · exact .inr h
theorem TupAt.same {K : PySem.W.Frag} {H H' : Hp} {a : Addr} {xs : List V} (h : TupAt K H a xs) (s : Same H H') : TupAt K H' a xs := by
  rcases h with h | h
  · exact .inl (s _ _ h)
  · exact .inr h
mutual
inductive Rep (K : PySem.W.Frag) (H : Hp) : V → D → Prop where
  | at {v : V} (h : flat4 v = true) : Rep K H v (.at v)
  | lst {a : Addr} {xs : List V} (h : H a = some (.lst xs)) : Rep K H (.ref a) .lst
  | tup {a : Addr} {xs : List V} {ts : List D} (h : TupAt K H a xs) (r : Reps K H xs ts) : Rep K H (.ref a) (.tup ts)
inductive Reps (K : PySem.W.Frag) (H : Hp) : List V → List D → Prop where
  | nil : Reps K H [] []
  | cons {x : V} {t : D} {xs : List V} {ts : List D} (h : Rep K H x t) (r : Reps K H xs ts) : Reps K H (x :: xs) (t :: ts)
end
theorem Rep.tup' {K : PySem.W.Frag} {H : Hp} {a : Addr} {xs : List V} {ts : List D} (h : H a = some (.tup xs)) (r : Reps K H xs ts) : Rep K H (.ref a) (.tup ts) := .tup (.inl h) r
/-- tuples stand as they are, lists stay lists -/
structure Kx (H H' : Hp) : Prop where
  t : ∀ a xs, H a = some (.tup xs) → H' a = some (.tup xs)
  l : ∀ a xs, H a = some (.lst xs) → ∃ ys, H' a = some (.lst ys)
theorem Kx.refl (H : Hp) : Kx H H := ⟨fun _ _ h => h, fun _ xs h => ⟨xs, h⟩⟩
theorem Kx.trans {H H1 H2 : Hp} (a : Kx H H1) (b : Kx H1 H2) : Kx H H2 := ⟨fun q xs h => b.t q xs (a.t q xs h), fun q xs h => let ⟨ys, h1⟩ := a.l q xs h; b.l q ys h1⟩
theorem kx_same {H H' : Hp} (s : Same H H') : Kx H H' := ⟨fun a xs h => s _ _ h, fun a xs h => ⟨xs, s _ _ h⟩⟩
theorem same_new {H : Hp} {p : Addr} (h : H p = none) (o : HO) : Same H (upd H p o) := fun b u q => by rw [upd_ne (ne_of_none q h)]; exact q
theorem kx_new {H : Hp} {p : Addr} (h : H p = none) (o : HO) : Kx H (upd H p o) := kx_same (same_new h o)
theorem kx_list {H : Hp} {p : Addr} {xs : List V} (h : H p = some (.lst xs)) (ys : List V) : Kx H (upd H p (.lst ys)) := by
  refine ⟨fun a zs e => ?_, fun a zs e => ?_⟩
  · rw [upd_ne (ne_of e h (by intro q; cases q))]
    exact e
  · by_cases ha : a = p
    · subst ha
      exact ⟨ys, upd_same⟩
    · rw [upd_ne ha]
      exact ⟨zs, e⟩
/-- all but what stands at b is as it was -/
def SB (b : Addr) (H H' : Hp) : Prop := ∀ q o, q ≠ b → H q = some o → H' q = some o
theorem SB.refl (b : Addr) (H : Hp) : SB b H H := fun _ _ _ h => h
theorem SB.trans {b : Addr} {H H1 H2 : Hp} (x : SB b H H1) (y : SB b H1 H2) : SB b H H2 := fun q o n h => y q o n (x q o n h)
theorem sb_same {b : Addr} {H H' : Hp} (s : Same H H') : SB b H H' := fun q o _ h => s q o h
theorem sb_upd {b : Addr} {H : Hp} (o : HO) : SB b H (upd H b o) := fun q u n h => by rw [upd_ne n]; exact h
theorem sb_new {b : Addr} {H H' : Hp} (n : H b = none) (s : SB b H H') : Same H H' := fun q o h => s q o (ne_of_none h n) h
theorem sb_kx {b : Addr} {H H' : Hp} {xs ys : List V} (s : SB b H H') (h : H b = some (.lst xs)) (h' : H' b = some (.lst ys)) : Kx H H' := by
  refine ⟨fun a zs e => s _ _ (ne_of e h (by intro q; cases q)) e, fun a zs e => ?_⟩
  by_cases ha : a = b
  · subst ha
    exact ⟨ys, h'⟩
  · exact ⟨zs, s _ _ ha e⟩
theorem TupAt.kx {K : PySem.W.Frag} {H H' : Hp} {a : Addr} {xs : List V} (h : TupAt K H a xs) (k : Kx H H') : TupAt K H' a xs := by
  rcases h with h | h
  · exact .inl (k.t _ _ h)
  · exact .inr h
mutual
theorem Rep.mono {K : PySem.W.Frag} {H H' : Hp} (k : Kx H H') : ∀ {v : V} {d : D}, Rep K H v d → Rep K H' v d
  | _, _, .at h => .at h
  | _, _, .lst h => let ⟨_, h'⟩ := k.l _ _ h; .lst h'
  | _, _, .tup h r => .tup (h.kx k) (Reps.mono k r)
theorem Reps.mono {K : PySem.W.Frag} {H H' : Hp} (k : Kx H H') : ∀ {xs : List V} {ds : List D}, Reps K H xs ds → Reps K H' xs ds
  | _, _, .nil => .nil
  | _, _, .cons h r => .cons (Rep.mono k h) (Reps.mono k r)
end
section
variable {K : PySem.W.Frag} {H : Hp}
theorem Rep.inv {v : V} {ts : List D} (r : Rep K H v (.tup ts)) : ∃ a xs, v = .ref a ∧ TupAt K H a xs ∧ Reps K H xs ts := by
  cases r with
  | tup h r => exact ⟨_, _, rfl, h, r⟩
theorem Rep.inva {v w : V} (r : Rep K H v (.at w)) : v = w ∧ flat4 v = true := by
  cases r with
  | «at» h => exact ⟨rfl, h⟩
theorem Reps.length : ∀ {xs : List V} {ds : List D}, Reps K H xs ds → xs.length = ds.length
  | _, _, .nil => rfl
  | _, _, .cons _ r => congrArg Nat.succ r.length
theorem Reps.get : ∀ {xs : List V} {ds : List D} {i : Nat} {x : V}, Reps K H xs ds → xs[i]? = some x → ∃ d, ds[i]? = some d ∧ Rep K H x d
  | _, _, _, _, .nil, e => by simp at e
  | _, _, 0, _, .cons h _, e => by simp at e; subst e; exact ⟨_, rfl, h⟩
  | _, _, i + 1, x, .cons _ r, e => by
    obtain ⟨d, h1, h2⟩ := Reps.get (i := i) (x := x) r (by simpa using e)
    exact ⟨d, by simpa using h1, h2⟩
theorem Reps.getD : ∀ {xs : List V} {ds : List D} {i : Nat} {d : D}, Reps K H xs ds → ds[i]? = some d → ∃ x, xs[i]? = some x ∧ Rep K H x d := fun {xs ds i d} r e => by
  have hl := r.length
  have hi : i < ds.length := (List.getElem?_eq_some_iff.mp e).1
  obtain ⟨d', h1, h2⟩ := r.get (i := i) (x := xs[i]'(by omega)) (by first | (simp; done) | (simp; omega))
  rw [e] at h1
  cases h1
  exact ⟨_, by first | (simp; done) | (simp; omega), h2⟩
theorem Reps.append : ∀ {xs ys : List V} {ds es : List D}, Reps K H xs ds → Reps K H ys es → Reps K H (xs ++ ys) (ds ++ es)
  | _, _, _, _, .nil, s => s
  | _, _, _, _, .cons h r, s => .cons h (Reps.append r s)
theorem Reps.one {x : V} {d : D} (h : Rep K H x d) : Reps K H [x] [d] := .cons h .nil
theorem Reps.take : ∀ {xs : List V} {ds : List D} (n : Nat), Reps K H xs ds → Reps K H (xs.take n) (ds.take n)
  | _, _, 0, _ => .nil
  | _, _, _ + 1, .nil => .nil
  | _, _, n + 1, .cons h r => .cons h (Reps.take n r)
theorem Reps.drop : ∀ {xs : List V} {ds : List D} (n : Nat), Reps K H xs ds → Reps K H (xs.drop n) (ds.drop n)
  | _, _, 0, r => r
  | _, _, _ + 1, .nil => .nil
  | _, _, n + 1, .cons _ r => Reps.drop n r
theorem Reps.reverse : ∀ {xs : List V} {ds : List D}, Reps K H xs ds → Reps K H xs.reverse ds.reverse
  | _, _, .nil => .nil
  | _, _, .cons h r => by
    rw [List.reverse_cons, List.reverse_cons]
    exact Reps.append (Reps.reverse r) (.one h)
/-- the last one, and those before it -/
theorem Reps.last {xs : List V} {ds : List D} (r : Reps K H xs ds) (h : xs ≠ []) : ∃ x d es, xs[xs.length - 1]? = some x ∧ ds = es ++ [d] ∧ Rep K H x d ∧ Reps K H xs.dropLast es := by
  have hl := r.length
  have hp : 0 < xs.length := List.length_pos_iff.mpr h
  obtain ⟨d, h1, h2⟩ := r.get (i := xs.length - 1) (x := xs[xs.length - 1]'(by omega)) (by first | (simp; done) | (simp; omega))
  refine ⟨_, d, ds.dropLast, by first | (simp; done) | (simp; omega), ?_, h2, ?_⟩
  · have hd : ds ≠ [] := fun e => by
      rw [e] at hl
      simp at hl
      exact h hl
    have q : ds.getLast hd = d := by
      rw [List.getLast_eq_getElem]
      rw [hl, List.getElem?_eq_getElem (by omega)] at h1
      exact Option.some.inj h1
    rw [← q]
    exact (List.dropLast_concat_getLast hd).symm
  · rw [List.dropLast_eq_take, List.dropLast_eq_take, hl]
    exact r.take _
end
/-! ### kinds, sizes, depths -/
mutual
def isK : D → Bool
  | .tup ts => isKs ts
  | _ => false
def isKs : List D → Bool
  | [] => true
  | t :: r => isK t && isKs r
end
mutual
def sz : D → Nat
  | .tup ts => szs ts + 1
  | _ => 1
def szs : List D → Nat
  | [] => 0
  | t :: r => sz t + szs r
end
mutual
def dep : D → Nat
  | .tup ts => deps ts
  | _ => 0
def deps : List D → Nat
  | [] => 0
  | t :: r => max (dep t + 1) (deps r)
end
theorem isKs_append : ∀ (a b : List D), isKs (a ++ b) = (isKs a && isKs b)
  | [], b => by simp [isKs]
  | t :: r, b => by
    show (isK t && isKs (r ++ b)) = ((isK t && isKs r) && isKs b)
    rw [isKs_append r b, Bool.and_assoc]
theorem szs_append : ∀ (a b : List D), szs (a ++ b) = szs a + szs b
  | [], b => by simp [szs]
  | t :: r, b => by
    show sz t + szs (r ++ b) = (sz t + szs r) + szs b
    rw [szs_append r b]
    omega
theorem deps_append : ∀ (a b : List D), deps (a ++ b) = max (deps a) (deps b)
  | [], b => by simp [deps]
  | t :: r, b => by
    show max (dep t + 1) (deps (r ++ b)) = max (max (dep t + 1) (deps r)) (deps b)
    rw [deps_append r b]
    omega
theorem sz_pos : ∀ d : D, 0 < sz d
  | .tup _ => Nat.succ_pos _
  | .at _ => Nat.one_pos
  | .lst => Nat.one_pos
theorem len_szs : ∀ l : List D, l.length ≤ szs l
  | [] => Nat.le_refl _
  | t :: r => by
    have h1 := sz_pos t
    have h2 := len_szs r
    show r.length + 1 ≤ sz t + szs r
    omega
theorem sz_mem : ∀ {l : List D} {d : D}, d ∈ l → sz d ≤ szs l
  | t :: r, d, h => by
    show sz d ≤ sz t + szs r
    rcases List.mem_cons.mp h with e | h
    · rw [e]
      omega
    · have := sz_mem h
      omega
theorem dep_mem : ∀ {l : List D} {d : D}, d ∈ l → dep d + 1 ≤ deps l
  | t :: r, d, h => by
    show dep d + 1 ≤ max (dep t + 1) (deps r)
    rcases List.mem_cons.mp h with e | h
    · rw [e]
      omega
    · have := dep_mem h
      omega
theorem isK_mem : ∀ {l : List D}, isKs l = true → ∀ {d : D}, d ∈ l → isK d = true
  | t :: r, hk, d, h => by
    have hk' : (isK t && isKs r) = true := hk
    rw [Bool.and_eq_true] at hk'
    rcases List.mem_cons.mp h with e | h
    · rw [e]
      exact hk'.1
    · exact isK_mem hk'.2 h
theorem isK_inv {d : D} (h : isK d = true) : ∃ ts, d = .tup ts ∧ isKs ts = true := by
  cases d with
  | tup ts => exact ⟨ts, rfl, h⟩
  | «at» v => cases h
  | lst => cases h
theorem isKs_all : ∀ (l : List D), isKs l = l.all isK
  | [] => rfl
  | t :: r => by
    show (isK t && isKs r) = (isK t && r.all isK)
    rw [isKs_all r]
theorem dep_lt_sz : ∀ d : D, dep d < sz d := by
  have key : ∀ n : Nat, (∀ d : D, sz d ≤ n → dep d < sz d) := by
    intro n
    induction n with
    | zero => intro d h; have := sz_pos d; omega
    | succ n ih =>
      intro d h
      cases d with
      | «at» v => exact Nat.one_pos
      | lst => exact Nat.one_pos
      | tup ts =>
        show deps ts < szs ts + 1
        have h' : szs ts + 1 ≤ n + 1 := h
        have gen : ∀ l : List D, szs l ≤ n → deps l ≤ szs l := by
          intro l
          induction l with
          | nil => intro _; exact Nat.le_refl _
          | cons t r ih2 =>
            intro hl
            have hl' : sz t + szs r ≤ n := hl
            have a1 := ih t (by omega)
            have a2 := ih2 (by omega)
            show max (dep t + 1) (deps r) ≤ sz t + szs r
            omega
        have := gen ts (by omega)
        omega
  exact fun d => key (sz d) d (Nat.le_refl _)
/-! ### data as the library's == reads it -/
mutual
def toPy : D → PyData
  | .at .non => .none
  | .at (.bl b) => .bool b
  | .at (.int i) => .int i
  | .at (.str x) => .str x
  | .at _ => .none
  | .lst => .none
  | .tup ts => .tuple (toPys ts)
def toPys : List D → List PyData
  | [] => []
  | t :: r => toPy t :: toPys r
end
mutual
theorem dp_kind {K : PySem.W.Frag} {H : Hp} : ∀ {v : V} {d : D}, Rep K H v d → isK d = true → Dp K H v (toPy d)
  | _, _, .at _, k => by cases k
  | _, _, .lst _, k => by cases k
  | _, _, .tup h r, k => .tup h.sq (dp_kinds r k)
theorem dp_kinds {K : PySem.W.Frag} {H : Hp} : ∀ {xs : List V} {ds : List D}, Reps K H xs ds → isKs ds = true → DpAll K H xs (toPys ds)
  | _, _, .nil, _ => .nil
  | _, _, .cons h r, k => by
    have k' := Bool.and_eq_true_iff.mp k
    exact .cons (dp_kind h k'.1) (dp_kinds r k'.2)
end
mutual
theorem lay_kind : ∀ {d : D}, isK d = true → PyData.canLay0 (toPy d) = true
  | .at _, k => by cases k
  | .lst, k => by cases k
  | .tup ts, k => lay_kinds (l := ts) k
theorem lay_kinds : ∀ {l : List D}, isKs l = true → PyData.canLayAll0 (toPys l) = true
  | [], _ => rfl
  | t :: r, k => by
    have k' := Bool.and_eq_true_iff.mp k
    show (PyData.canLay0 (toPy t) && PyData.canLayAll0 (toPys r)) = true
    rw [lay_kind k'.1, lay_kinds k'.2]
    rfl
end
mutual
theorem depth_kind : ∀ {d : D}, isK d = true → PyData.depth (toPy d) ≤ dep d + 1
  | .at _, k => by cases k
  | .lst, k => by cases k
  | .tup ts, k => by
    have := depth_kinds (l := ts) k
    show PyData.depthAll (toPys ts) + 1 ≤ deps ts + 1
    omega
theorem depth_kinds : ∀ {l : List D}, isKs l = true → PyData.depthAll (toPys l) ≤ deps l
  | [], _ => Nat.le_refl _
  | t :: r, k => by
    have k' := Bool.and_eq_true_iff.mp k
    have h1 := depth_kind k'.1
    have h2 := depth_kinds k'.2
    show max (PyData.depth (toPy t)) (PyData.depthAll (toPys r)) ≤ max (dep t + 1) (deps r)
    omega
end
theorem shaped_kind {d : D} (k : isK d = true) (h : dep d ≤ 60) : SeqAt.shaped (toPy d) = true := by
  unfold SeqAt.shaped
  have := depth_kind k
  rw [lay_kind k, decide_eq_true (by omega)]
  rfl
/-! ### operators on tuples that stand, one way on -/
section
variable {X : Cx}
def rCatP (K : PySem.W.Frag) : R2 := fun x y H Q => ∃ a b xs ys, x = .ref a ∧ y = .ref b ∧ TupAt K H a xs ∧ TupAt K H b ys ∧ xs.length + ys.length ≤ sizeLine ∧ ∀ (c : Addr) (H' : Hp), Same H H' → TupAt K H' c (xs ++ ys) → Q (.ref c) H'
theorem op_catP : OpR X (binaryOp .Add) (rCatP X.K) := by
  intro pins s σ H x y v u Q I rx ry h
  obtain ⟨a, b, xs, ys, rfl, rfl, ha, hb, hz, q⟩ := h
  refine op_catA pins s σ H _ _ v u Q I rx ry ⟨a, b, xs, ys, rfl, rfl, ha.sq, hb.sq, hz, fun e => ?_, fun _ e => ?_, fun _ _ p np => ?_⟩
  · subst e
    exact q b H (Same.refl H) hb
  · subst e
    exact q a H (Same.refl H) (by rw [List.append_nil]; exact ha)
  · exact q p _ (fun c o e => by rw [upd_ne (ne_of_none e np)]; exact e) (.inl upd_same)
def rSlP (K : PySem.W.Frag) : V → Option Int → Option Int → Hp → VK → Prop := fun x lo hi H Q => ∃ a xs, x = .ref a ∧ TupAt K H a xs ∧ ∀ (c : Addr) (H' : Hp), Same H H' → TupAt K H' c (cutV xs lo hi) → Q (.ref c) H'
theorem sl_tupP : SlR X (rSlP X.K) := by
  intro pins s σ H x v vl vu lo hi sl Q I rx hs pl pu h
  obtain ⟨a, xs, rfl, hx, q⟩ := h
  refine sl_tupA pins s σ H _ v vl vu lo hi sl Q I rx hs pl pu ⟨a, xs, rfl, hx.sq, fun z => ?_, fun _ p np => ?_⟩
  · exact q a H (Same.refl H) (by rw [cutV_whole z]; exact hx)
  · exact q p _ (fun c o e => by rw [upd_ne (ne_of_none e np)]; exact e) (.inl upd_same)
end
end Pk

set_option maxRecDepth 100000
set_option maxHeartbeats 4000000
namespace Pk
open PySem PySem.Spec PyProof.Rows L2
def top (i : Nat) : Stmt := PySem.Challenge.pw_playsense_k10_what_is_a_program.main.body.getD i (.Pass ⟨0, 0, 0, 0⟩)
abbrev s_is_whole : Stmt := top 1
abbrev s_is_answer : Stmt := top 2
abbrev s_is_tuple_of : Stmt := top 3
abbrev s__check_program : Stmt := top 5
abbrev s__check_body : Stmt := top 6
abbrev s__check_ask : Stmt := top 7
abbrev s__asked_kind : Stmt := top 8
abbrev s_is_program : Stmt := top 9
abbrev s_asks : Stmt := top 10
abbrev s__law_cell : Stmt := top 12
abbrev s__law_digits : Stmt := top 13
abbrev s__law_draw : Stmt := top 14
abbrev s__law_box : Stmt := top 15
abbrev s__law_same : Stmt := top 16
abbrev s__law_kind : Stmt := top 17
abbrev s__law_body : Stmt := top 18
abbrev s__law_program : Stmt := top 19
abbrev s__law_is_whole : Stmt := top 20
abbrev s__law_is_program : Stmt := top 21
abbrev s__law_is_body : Stmt := top 22
abbrev s__law_is_ask : Stmt := top 23
abbrev s__law_asks_of : Stmt := top 24
abbrev s__law_other_value : Stmt := top 25
abbrev s__law_nudged : Stmt := top 26
abbrev s_law : Stmt := top 27
-- is_whole: slots 0 value; cells []
theorem c_is_whole : FnScope ["value"] ["value"] (defScope s_is_whole) := ⟨rfl, rfl, rfl, by decide +kernel, rfl, by decide +kernel, by decide +kernel⟩
-- is_answer: slots 0 value; cells []
theorem c_is_answer : FnScope ["value"] ["value"] (defScope s_is_answer) := ⟨rfl, rfl, rfl, by decide +kernel, rfl, by decide +kernel, by decide +kernel⟩
-- is_tuple_of: slots 0 value, 1 many; cells []
theorem c_is_tuple_of : FnScope ["value", "many"] ["value", "many"] (defScope s_is_tuple_of) := ⟨rfl, rfl, rfl, by decide +kernel, rfl, by decide +kernel, by decide +kernel⟩
-- _check_program: slots 0 value, 1 kinds, 2 word, 3 many, 4 body; cells []
theorem c__check_program : FnScope ["value", "kinds", "word", "many", "body"] ["value", "kinds"] (defScope s__check_program) := ⟨rfl, rfl, rfl, by decide +kernel, rfl, by decide +kernel, by decide +kernel⟩
-- _check_body: slots 0 value, 1 kinds; cells []
theorem c__check_body : FnScope ["value", "kinds"] ["value", "kinds"] (defScope s__check_body) := ⟨rfl, rfl, rfl, by decide +kernel, rfl, by decide +kernel, by decide +kernel⟩
-- _check_ask: slots 0 value, 1 kinds, 2 _, 3 up, 4 k, 5 arguments, 6 zero, 7 one, 8 asked, 9 found, 10 argument, 11 kind; cells ['kinds']
theorem c__check_ask : FnScope ["value", "kinds", "_", "up", "k", "arguments", "zero", "one", "asked", "found", "argument", "kind"] ["value", "kinds"] (defScope s__check_ask) := ⟨rfl, rfl, rfl, by decide +kernel, rfl, by decide +kernel, by decide +kernel⟩
-- _asked_kind: slots 0 up, 1 k, 2 kinds, 3 around; cells []
theorem c__asked_kind : FnScope ["up", "k", "kinds", "around"] ["up", "k", "kinds"] (defScope s__asked_kind) := ⟨rfl, rfl, rfl, by decide +kernel, rfl, by decide +kernel, by decide +kernel⟩
-- is_program: slots 0 kind, 1 value, 2 pending, 3 check, 4 part, 5 kinds, 6 inner; cells []
theorem c_is_program : FnScope ["kind", "value", "pending", "check", "part", "kinds", "inner"] ["kind", "value"] (defScope s_is_program) := ⟨rfl, rfl, rfl, by decide +kernel, rfl, by decide +kernel, by decide +kernel⟩
-- asks: slots 0 program, 1 many, 2 pending, 3 body, 4 _, 5 arguments, 6 zero, 7 one, 8 argument; cells []
theorem c_asks : FnScope ["program", "many", "pending", "body", "_", "arguments", "zero", "one", "argument"] ["program"] (defScope s_asks) := ⟨rfl, rfl, rfl, by decide +kernel, rfl, by decide +kernel, by decide +kernel⟩
-- _law_cell: slots 0 script, 1 k; cells []
theorem c__law_cell : FnScope ["script", "k"] ["script", "k"] (defScope s__law_cell) := ⟨rfl, rfl, rfl, by decide +kernel, rfl, by decide +kernel, by decide +kernel⟩
-- _law_digits: slots 0 script, 1 first, 2 last, 3 digits, 4 k, 5 cell, 6 turn, 7 seed; cells []
theorem c__law_digits : FnScope ["script", "first", "last", "digits", "k", "cell", "turn", "seed"] ["script", "first", "last"] (defScope s__law_digits) := ⟨rfl, rfl, rfl, by decide +kernel, rfl, by decide +kernel, by decide +kernel⟩
-- _law_draw: slots 0 box, 1 many, 2 at; cells []
theorem c__law_draw : FnScope ["box", "many", "at"] ["box", "many"] (defScope s__law_draw) := ⟨rfl, rfl, rfl, by decide +kernel, rfl, by decide +kernel, by decide +kernel⟩
-- _law_box: slots 0 script, 1 first, 2 last; cells []
theorem c__law_box : FnScope ["script", "first", "last"] ["script", "first", "last"] (defScope s__law_box) := ⟨rfl, rfl, rfl, by decide +kernel, rfl, by decide +kernel, by decide +kernel⟩
-- _law_same: slots 0 actual, 1 expected, 2 k; cells []
theorem c__law_same : FnScope ["actual", "expected", "k"] ["actual", "expected"] (defScope s__law_same) := ⟨rfl, rfl, rfl, by decide +kernel, rfl, by decide +kernel, by decide +kernel⟩
-- _law_kind: slots 0 box, 1 depth, 2 budget, 3 parts, 4 k; cells []
theorem c__law_kind : FnScope ["box", "depth", "budget", "parts", "k"] ["box", "depth", "budget"] (defScope s__law_kind) := ⟨rfl, rfl, rfl, by decide +kernel, rfl, by decide +kernel, by decide +kernel⟩
-- _law_body: slots 0 box, 1 kinds, 2 budget, 3 around, 4 up, 5 number, 6 kind, 7 arguments, 8 part, 9 zero, 10 one; cells []
theorem c__law_body : FnScope ["box", "kinds", "budget", "around", "up", "number", "kind", "arguments", "part", "zero", "one"] ["box", "kinds", "budget"] (defScope s__law_body) := ⟨rfl, rfl, rfl, by decide +kernel, rfl, by decide +kernel, by decide +kernel⟩
-- _law_program: slots 0 box, 1 kind, 2 most; cells []
theorem c__law_program : FnScope ["box", "kind", "most"] ["box", "kind", "most"] (defScope s__law_program) := ⟨rfl, rfl, rfl, by decide +kernel, rfl, by decide +kernel, by decide +kernel⟩
-- _law_is_whole: slots 0 value, 1 most; cells []
theorem c__law_is_whole : FnScope ["value", "most"] ["value", "most"] (defScope s__law_is_whole) := ⟨rfl, rfl, rfl, by decide +kernel, rfl, by decide +kernel, by decide +kernel⟩
-- _law_is_program: slots 0 kinds, 1 value; cells []
theorem c__law_is_program : FnScope ["kinds", "value"] ["kinds", "value"] (defScope s__law_is_program) := ⟨rfl, rfl, rfl, by decide +kernel, rfl, by decide +kernel, by decide +kernel⟩
-- _law_is_body: slots 0 kinds, 1 value; cells []
theorem c__law_is_body : FnScope ["kinds", "value"] ["kinds", "value"] (defScope s__law_is_body) := ⟨rfl, rfl, rfl, by decide +kernel, rfl, by decide +kernel, by decide +kernel⟩
-- _law_is_ask: slots 0 kinds, 1 value, 2 outer, 3 wanted, 4 k; cells []
theorem c__law_is_ask : FnScope ["kinds", "value", "outer", "wanted", "k"] ["kinds", "value"] (defScope s__law_is_ask) := ⟨rfl, rfl, rfl, by decide +kernel, rfl, by decide +kernel, by decide +kernel⟩
-- _law_asks_of: slots 0 value, 1 part; cells []
theorem c__law_asks_of : FnScope ["value", "part"] ["value"] (defScope s__law_asks_of) := ⟨rfl, rfl, rfl, by decide +kernel, rfl, by decide +kernel, by decide +kernel⟩
-- _law_other_value: slots 0 box, 1 value, 2 k, 3 menu; cells []
theorem c__law_other_value : FnScope ["box", "value", "k", "menu"] ["box", "value"] (defScope s__law_other_value) := ⟨rfl, rfl, rfl, by decide +kernel, rfl, by decide +kernel, by decide +kernel⟩
-- _law_nudged: slots 0 box, 1 value, 2 k; cells []
theorem c__law_nudged : FnScope ["box", "value", "k"] ["box", "value"] (defScope s__law_nudged) := ⟨rfl, rfl, rfl, by decide +kernel, rfl, by decide +kernel, by decide +kernel⟩
-- law: slots 0 script, 1 box, 2 elder, 3 turn, 4 kind, 5 program, 6 rows, 7 value, 8 k; cells ['box', 'program']
theorem c_law : FnScope ["script", "box", "elder", "turn", "kind", "program", "rows", "value", "k"] ["script"] (defScope s_law) := ⟨rfl, rfl, rfl, by decide +kernel, rfl, by decide +kernel, by decide +kernel⟩
structure Bt (mg : Str → Option Value) : Prop where
  b_isinstance : mg "isinstance" = none
  b_int : mg "int" = none
  b_bool : mg "bool" = none
  b_tuple : mg "tuple" = none
  b_len : mg "len" = none
  b_zip : mg "zip" = none
  b_range : mg "range" = none
  b_str : mg "str" = none
  b_sum : mg "sum" = none
  b_list : mg "list" = none
/-- a def of the text: its object, how it is bound, its name -/
structure Df (K : PySem.W.Frag) (mg : Str → Option Value) (x : Str) (st : Stmt) (ps : List Str) (f : Addr) (fd : FuncData) : Prop where
  F : FunD K x x (defArgs st) (defBody st) (defScope st) [] [] f fd
  b : Binds K fd ps []
  m : mg x = some (.ref f)
theorem Df.kp {K : PySem.W.Frag} {mg : Str → Option Value} {x : Str} {st : Stmt} {ps : List Str} {f : Addr} {fd : FuncData} (D : Df K mg x st ps f fd) : PySem.W.keepIn K (.ref f) = true := D.F.kp
theorem Df.ok {P : Program} {w : World} {K : PySem.W.Frag} {mg : Str → Option Value} {base : Heap} {x : Str} {st : Stmt} {ps : List Str} {f : Addr} {fd : FuncData} {N : List Str} {k : Nat} {sp : Sp} (D : Df K mg x st ps f fd) (S : FnScope N ps (defScope st)) (len : ∀ vs H Q E, sp vs H Q E → vs.length = ps.length)
    (hbody : ∀ (cdv : Value) (A : Around) (outer : List Env) (s : Shared) (H : Hp) (vs : List V) (Q : VK) (E : XK), Room k (A.deeper (envOfC x (defScope st) s.heap.objs.size f cdv)) → sp vs H Q E →
      ∃ t, PSs (cxOf CX0 P w K mg base N x (defScope st) f cdv A outer s H E).nox (defBody st) t ∧ t { nx := fun _ H' => Q .non H', rt := Q } (start N vs) H) : FnOk P w K mg base CX0 (k + 1) f fd ps sp :=
  D.F.ok S len fun cdv A outer s H vs Q E hr hsp => let ⟨t, h, q⟩ := hbody cdv A outer s H vs Q E hr hsp; ⟨t, h.nox, q⟩
/-- what stood stands, a new list at p besides -/
structure Nw (p : Addr) (H0 H : Hp) (xs : List V) : Prop where
  s : Same H0 H
  n : H0 p = none
  h : H p = some (.lst xs)
theorem Nw.put {p : Addr} {H0 H : Hp} {xs : List V} (w : Nw p H0 H xs) (ys : List V) : Nw p H0 (upd H p (.lst ys)) ys :=
  ⟨fun b o e => by rw [upd_ne (ne_of_none e w.n)]; exact w.s b o e, w.n, upd_same⟩
theorem Nw.app {p : Addr} {H0 H : Hp} {ds : List Int} {x : Int} (w : Nw p H0 H (ds.map V.int)) : Nw p H0 (upd H p (.lst (ds.map V.int ++ [V.int x]))) ((ds ++ [x]).map V.int) := by
  have e : (ds ++ [x]).map V.int = ds.map V.int ++ [V.int x] := by rw [List.map_append] <;> rfl
  rw [e]
  exact w.put _
theorem Nw.new {p : Addr} {H : Hp} (n : H p = none) (xs : List V) : Nw p H (upd H p (.lst xs)) xs := ⟨same_new n _, n, upd_same⟩
theorem Nw.step {p : Addr} {H0 H H1 : Hp} {xs : List V} (w : Nw p H0 H xs) (s : Same H H1) : Nw p H0 H1 xs := ⟨w.s.trans s, w.n, s _ _ w.h⟩
theorem Same.tup {K : PySem.W.Frag} {H H' : Hp} {a : Addr} {xs : List V} (e : Same H H') (h : SqT K H a xs) : SqT K H' a xs := by
  rcases h with (h | ⟨o, h⟩) | h
  · exact .inl (.inl (e _ _ h))
  · exact .inl (.inr ⟨o, e _ _ h⟩)
  · exact .inr h
theorem small6 {n : Nat} (h : n ≤ 1000000) : n < sizeLine := by rw [sizeLine_eq]; omega
theorem small6' {n : Nat} (h : n ≤ 1000000) : n ≤ sizeLine := by rw [sizeLine_eq]; omega
theorem yes_go {σ : L2.St} {H : Hp} {A B : Hp → Prop} (h : A H) : tYes σ H fun b H3 => if b = true then A H3 else B H3 := by
  show (if true = true then A H else B H)
  exact iteT h
section
variable {P : Program} {w : World} {K : PySem.W.Frag} {mg : Str → Option Value} {base : Heap}
/-! ### _law_cell -/
def spCell (K : PySem.W.Frag) : Sp := fun vs H Q _ => ∃ (a : Addr) (ns : List Int) (k : Int), vs = [.ref a, .int k] ∧ SqL K H a (ns.map V.int) ∧ 0 ≤ k ∧ ∀ i : Int, Q (.int i) H
theorem ok_cell {f : Addr} {fd : FuncData} (D : Df K mg "_law_cell" s__law_cell ["script", "k"] f fd) (B : Bt mg) : FnOk P w K mg base CX0 1 f fd ["script", "k"] (spCell K) := by
  refine D.ok c__law_cell (fun vs H Q E h => ?_) (fun cdv A outer s H vs Q E hr h => ?_)
  · obtain ⟨a, ns, k, rfl, _⟩ := h
    rfl
  obtain ⟨a, ns, k, rfl, hS, h0, q⟩ := h
  have nd := c__law_cell.nd
  refine ⟨_, (pss_cons (ps_if (pt_cmpR op_lt (pv 1) (pe_callB call_len_seq (by rfl) B.b_len PySem.boot_len (pa_cons (pv 0) pa_nil)) (nomark _)) (pss_one (ps_ret (pe_ix ix_list (pv 0) (pv 1) (fun _ _ => rfl)))) pss_nil)
  (pss_one (ps_ret pe_int))), ?_⟩
  have hl : (ns.map V.int).length = ns.length := List.length_map _
  refine ⟨_, rfl, _, rfl, a, _, rfl, .inl hS, _, _, rfl, rfl, _, rfl, ?_⟩
  refine ite2 (fun c => ?_) (fun c => ?_)
  · have c' : k < (((ns.map V.int).length : Nat) : Int) := of_decide_eq_true c
    rw [hl] at c'
    have hk : k.toNat < ns.length := by omega
    have ek : k = ((k.toNat : Nat) : Int) := by omega
    have q1 : atI (ns.map V.int) ((k.toNat : Nat) : Int) = some (.int ns[k.toNat]) := atI_nat (by rw [List.getElem?_map, List.getElem?_eq_getElem hk] <;> rfl)
    rw [← ek] at q1
    exact ⟨_, rfl, _, rfl, a, _, _, _, rfl, rfl, hS, q1, q _⟩
  · exact q _
/-! ### _law_digits -/
def spDigits (K : PySem.W.Frag) : Sp := fun vs H Q _ => ∃ (a : Addr) (ns : List Int) (lo n : Nat), vs = [.ref a, .int lo, .int ((lo : Int) + n)] ∧ SqL K H a (ns.map V.int) ∧ lo ≤ 100 ∧ n ≤ 100 ∧
  ∀ (p : Addr) (H' : Hp) (ds : List Int), Nw p H H' (ds.map V.int) → Q (.ref p) H'
theorem ok_digits {f g : Addr} {fd gd : FuncData} (D : Df K mg "_law_digits" s__law_digits ["script", "first", "last"] f fd) (B : Bt mg)
    (D__law_cell : Df K mg "_law_cell" s__law_cell ["script", "k"] g gd) : FnOk P w K mg base CX0 2 f fd ["script", "first", "last"] (spDigits K) := by
  have G__law_cell : FnOk P w K mg base CX0 1 g gd ["script", "k"] (spCell K) := ok_cell D__law_cell B
  refine D.ok c__law_digits (fun vs H Q E h => ?_) (fun cdv A outer s H vs Q E hr h => ?_)
  · obtain ⟨a, ns, lo, n, rfl, _⟩ := h
    rfl
  obtain ⟨a, ns, lo, n, rfl, hS, hlo, hn, q⟩ := h
  have nd := c__law_digits.nd
  refine ⟨_, (pss_cons (ps_set (i := 3) nd rfl (Or.inl rfl) (pe_lst pa_nil))
  (pss_cons (ps_for PassesOwn.never rfl (pi_range2 (by rfl) B.b_range (pa_cons (pv 1) (pa_cons (pv 2) pa_nil))) (pg_name (i := 4) nd rfl (Or.inl rfl)) (pss_cons (ps_set (i := 5) nd rfl (Or.inl rfl) (pe_call G__law_cell (hr.mono (by first | decide | omega)) (by rfl) D__law_cell.m D__law_cell.kp D__law_cell.b .nil pass0 (pa_cons (pv 0) (pa_cons (pv 4) pa_nil))))
  (pss_cons (ps_if (pt_cmpR op_lt (pv 5) pe_int (nomark _)) (pss_one (ps_set (i := 5) nd rfl (Or.inl rfl) (pe_op op_sub pe_int (pe_op op_mul pe_int (pv 5))))) pss_nil)
  (pss_one (ps_if (pt_cmpR op_ge (pv 5) (pe_op op_pow pe_int pe_int) (nomark _)) (pss_one (ps_for PassesOwn.never rfl (pi_range1 (by rfl) B.b_range (pa_cons pe_int pa_nil)) (pg_name (i := 6) nd rfl (Or.inl rfl)) (pss_one (ps_if (pt_cmpR op_gt (pv 5) pe_int (nomark _)) (pss_cons (ps_expr (pe_bm PySem.F.plainAttrs_list PySem.F.slot_list_append PySem.F.type_list_append mt_append (pv 3) (pa_cons (pe_op op_mod (pe_callTy call_int1 (by rfl) B.b_int (by decide +kernel) (pa_cons (pv 5) pa_nil)) pe_int) pa_nil)))
  (pss_one (ps_set (i := 5) nd rfl (Or.inl rfl) (pe_op op_fdiv (pv 5) pe_int)))) pss_nil)))) (pss_cons (ps_set (i := 7) nd rfl (Or.inl rfl) (pe_op op_mod (pe_callTy call_int1 (by rfl) B.b_int (by decide +kernel) (pa_cons (pe_op op_add (pe_op op_add (pe_op op_mul (pv 5) pe_int) (pe_op op_mul (pv 4) pe_int)) pe_int) pa_nil)) pe_int))
  (pss_one (ps_for PassesOwn.never rfl (pi_range1 (by rfl) B.b_range (pa_cons pe_int pa_nil)) (pg_name (i := 6) nd rfl (Or.inl rfl)) (pss_cons (ps_set (i := 7) nd rfl (Or.inl rfl) (pe_op op_mod (pe_callTy call_int1 (by rfl) B.b_int (by decide +kernel) (pa_cons (pe_op op_add (pe_op op_add (pe_op op_mul (pv 7) pe_int) (pe_op op_mul pe_int (pv 6))) pe_int) pa_nil)) pe_int))
  (pss_one (ps_expr (pe_bm PySem.F.plainAttrs_list PySem.F.slot_list_append PySem.F.type_list_append mt_append (pv 3) (pa_cons (pe_op op_mod (pe_callTy call_int1 (by rfl) B.b_int (by decide +kernel) (pa_cons (pe_op op_fdiv (pv 7) pe_int) pa_nil)) pe_int) pa_nil)))))))))))))
  (pss_one (ps_ret (pv 3))))), ?_⟩
  refine ⟨Nat.zero_le _, fun p np => ?_⟩
  refine ⟨_, rfl, _, rfl, _, _, rfl, ⟨by omega, by omega, by omega, by omega⟩, ?_⟩
  refine for_range (lo := (lo : Int)) (n := ((lo : Int) + n - lo).toNat) (fun i σ H' => ∃ (ds : List Int) (y4 y5 y6 y7 : Option V), σ = [some (.ref a), some (.int lo), some (.int ((lo : Int) + n)), some (.ref p), y4, y5, y6, y7] ∧ Nw p H H' (ds.map V.int) ∧ ds.length ≤ 60 * i)
    ⟨[], none, none, none, none, rfl, Nw.new np _, Nat.zero_le _⟩ ?_ ?_
  · rintro i σ H1 hi ⟨ds, y4, y5, y6, y7, rfl, hw, hd⟩
    have hi2 : i < n := by omega
    refine ⟨_, rfl, _, rfl, a, ns, (lo : Int) + i, rfl, hw.s.seq hS, by omega, fun c => ?_⟩
    refine ⟨_, rfl, _, _, rfl, rfl, _, rfl, ite2 (fun e1 => ⟨_, rfl, _, _, rfl, rfl, .inl ⟨by decide, by decide⟩, _, _, rfl, rfl, ?_⟩) (fun e1 => ?_)⟩
    all_goals
      refine ⟨_, rfl, _, _, rfl, rfl, ⟨by decide, by decide, by decide⟩, _, _, rfl, rfl, _, rfl, ite2 (fun e2 => ?_) (fun e2 => ?_)⟩
      · refine ⟨60, rfl, by decide, by decide, for_range (n := 60) (fun j σ H' => ∃ (es : List Int) (c' : Int) (y6 y7 : Option V), σ = [some (.ref a), some (.int lo), some (.int ((lo : Int) + n)), some (.ref p), some (.int ((lo : Int) + i)), some (.int c'), y6, y7] ∧ Nw p H H' (es.map V.int) ∧ es.length ≤ 60 * i + j)
          ⟨ds, _, _, _, rfl, hw, hd⟩ ?_ ?_⟩
        · rintro j σ H2 hj ⟨es, c', y6, y7, rfl, hw2, he⟩
          refine ⟨_, rfl, _, _, rfl, rfl, _, rfl, ite2 (fun e3 => ?_) (fun e3 => ⟨es, c', _, _, rfl, hw2, by omega⟩)⟩
          refine ⟨_, rfl, .inl ⟨rfl, _, SqL.of hw2.h⟩, _, rfl, .inl ⟨_, rfl, _, _, rfl, rfl, (by show (0 : Int) < 1000; decide), _, _, _, rfl, rfl, hw2.h, small6 (by rw [List.length_map]; omega), ?_⟩⟩
          refine ⟨_, rfl, _, _, rfl, rfl, ⟨by decide, by decide⟩, es ++ [_], _, _, _, rfl, hw2.app, ?_⟩
          rw [List.length_append, List.length_singleton]
          omega
        · rintro σ H2 ⟨es, c', y6, y7, rfl, hw2, he⟩
          exact ⟨es, _, _, _, _, rfl, hw2, by omega⟩
      · refine ⟨_, rfl, _, _, rfl, rfl, .inr ⟨by decide, by decide⟩, _, rfl, _, _, rfl, rfl, .inr ⟨by decide, by decide⟩, _, _, rfl, rfl, _, _, rfl, rfl, .inl ⟨_, rfl, _, _, rfl, rfl, (by show (0 : Int) < 2147483647; decide), ?_⟩⟩
        refine ⟨12, rfl, by decide, by decide, for_range (n := 12) (fun j σ H' => ∃ (es : List Int) (c' z : Int) (y6 : Option V), σ = [some (.ref a), some (.int lo), some (.int ((lo : Int) + n)), some (.ref p), some (.int ((lo : Int) + i)), some (.int c'), y6, some (.int z)] ∧ Nw p H H' (es.map V.int) ∧ es.length ≤ 60 * i + j)
          ⟨ds, _, _, _, rfl, hw, hd⟩ ?_ ?_⟩
        · rintro j σ H2 hj ⟨es, c', z, y6, rfl, hw2, he⟩
          refine ⟨_, rfl, _, _, rfl, rfl, .inr ⟨by decide, by decide⟩, _, rfl, _, _, rfl, rfl, .inl ⟨by decide, by decide⟩, _, _, rfl, rfl, _, _, rfl, rfl, .inl ⟨_, rfl, _, _, rfl, rfl, (by show (0 : Int) < 2147483647; decide), ?_⟩⟩
          refine ⟨_, rfl, .inl ⟨rfl, _, SqL.of hw2.h⟩, _, rfl, _, _, rfl, rfl, ⟨by decide, by decide⟩, .inl ⟨_, rfl, _, _, rfl, rfl, (by show (0 : Int) < 1000; decide), _, _, _, rfl, rfl, hw2.h, small6 (by rw [List.length_map]; omega), ?_⟩⟩
          refine ⟨es ++ [_], _, _, _, rfl, hw2.app, ?_⟩
          rw [List.length_append, List.length_singleton]
          omega
        · rintro σ H2 ⟨es, c', z, y6, rfl, hw2, he⟩
          exact ⟨es, _, _, _, _, rfl, hw2, by omega⟩
  · rintro σ H1 ⟨ds, y4, y5, y6, y7, rfl, hw, hd⟩
    exact ⟨_, rfl, q p H1 ds hw⟩
end

/-! ### the box -/
def BoxAt (H : Hp) (b d : Addr) : Prop := ∃ (ds : List Int) (n : Int), H b = some (.lst [.ref d, .int n]) ∧ H d = some (.lst (ds.map V.int)) ∧ d ≠ b ∧ 0 ≤ n
theorem BoxAt.lst {H : Hp} {b d : Addr} (x : BoxAt H b d) : ∃ xs, H b = some (.lst xs) := let ⟨_, _, h, _⟩ := x; ⟨_, h⟩
theorem BoxAt.dst {H : Hp} {b d : Addr} (x : BoxAt H b d) : ∃ xs, H d = some (.lst xs) := let ⟨_, _, _, h, _⟩ := x; ⟨_, h⟩
theorem BoxAt.keep {H H' : Hp} {b d : Addr} (x : BoxAt H b d) (h1 : ∀ o, H b = some o → H' b = some o) (h2 : ∀ o, H d = some o → H' d = some o) : BoxAt H' b d := let ⟨ds, n, a1, a2, a3, a4⟩ := x; ⟨ds, n, h1 _ a1, h2 _ a2, a3, a4⟩
theorem BoxAt.same {H H' : Hp} {b d : Addr} (x : BoxAt H b d) (s : Same H H') : BoxAt H' b d := x.keep (fun _ => s _ _) (fun _ => s _ _)
theorem BoxAt.other {H : Hp} {b d u : Addr} (o : HO) (x : BoxAt H b d) (hb : u ≠ b) (hd : u ≠ d) : BoxAt (upd H u o) b d := x.keep (fun _ h => by rw [upd_ne hb.symm]; exact h) (fun _ h => by rw [upd_ne hd.symm]; exact h)
theorem box_kx {H H' : Hp} {b d : Addr} (x : BoxAt H b d) (y : BoxAt H' b d) (s : SB b H H') : Kx H H' := let ⟨_, h⟩ := x.lst; let ⟨_, h'⟩ := y.lst; sb_kx s h h'
section
variable {P : Program} {w : World} {K : PySem.W.Frag} {mg : Str → Option Value} {base : Heap}
def spDraw : Sp := fun vs H Q _ => ∃ (b d : Addr) (m : Int), vs = [.ref b, .int m] ∧ BoxAt H b d ∧ 0 < m ∧ ∀ (r : Int) (H' : Hp), 0 ≤ r → r < m → BoxAt H' b d → SB b H H' → Q (.int r) H'
theorem ok_draw {f : Addr} {fd : FuncData} (D : Df K mg "_law_draw" s__law_draw ["box", "many"] f fd) (B : Bt mg) : FnOk P w K mg base CX0 1 f fd ["box", "many"] spDraw := by
  refine D.ok c__law_draw (fun vs H Q E h => ?_) (fun cdv A outer s H vs Q E hr h => ?_)
  · obtain ⟨b, d, m, rfl, _⟩ := h
    rfl
  obtain ⟨b, d, m, rfl, ⟨ds, n, hb, hd, hdb, hn⟩, hm, q⟩ := h
  have nd := c__law_draw.nd
  refine ⟨_, (pss_cons (ps_set (i := 2) nd rfl (Or.inl rfl) (pe_ix ix_list (pv 0) pe_int (fun _ _ => rfl)))
  (pss_cons (ps_asg (pe_op op_add (pv 2) pe_int) (pg_sub (pv 0) pe_int set_list))
  (pss_cons (ps_if (pt_cmpR op_lt (pv 2) (pe_callB call_len_seq (by rfl) B.b_len PySem.boot_len (pa_cons (pe_ix ix_list (pv 0) pe_int (fun _ _ => rfl)) pa_nil)) (nomark _)) (pss_one (ps_ret (pe_op op_mod (pe_callTy call_int1 (by rfl) B.b_int (by decide +kernel) (pa_cons (pe_ix ix_list (pe_ix ix_list (pv 0) pe_int (fun _ _ => rfl)) (pv 2) (fun _ _ => rfl)) pa_nil)) (pv 1)))) pss_nil)
  (pss_one (ps_ret pe_int))))), ?_⟩
  refine ⟨_, rfl, b, _, 1, _, rfl, rfl, SqL.of hb, rfl, ?_⟩
  refine ⟨_, rfl, _, _, rfl, rfl, _, rfl, b, _, 1, 1, rfl, rfl, hb, rfl, ?_⟩
  have hb' : (upd H b (.lst [.ref d, .int (n + 1)])) b = some (.lst [.ref d, .int (n + 1)]) := upd_same
  have hd' : (upd H b (.lst [.ref d, .int (n + 1)])) d = some (.lst (ds.map V.int)) := by rw [upd_ne hdb]; exact hd
  have hB : BoxAt (upd H b (.lst [.ref d, .int (n + 1)])) b d := ⟨ds, n + 1, hb', hd', hdb, by omega⟩
  refine ⟨_, rfl, _, rfl, b, _, 0, _, rfl, rfl, SqL.of hb', rfl, d, _, rfl, .inl (SqL.of hd'), _, _, rfl, rfl, _, rfl, ite2 (fun c => ?_) (fun c => ?_)⟩
  · have c' : n < (((ds.map V.int).length : Nat) : Int) := of_decide_eq_true c
    rw [List.length_map] at c'
    have hk : n.toNat < ds.length := by omega
    have q1 : atI (ds.map V.int) ((n.toNat : Nat) : Int) = some (.int ds[n.toNat]) := atI_nat (by rw [List.getElem?_map, List.getElem?_eq_getElem hk] <;> rfl)
    have ek : ((n.toNat : Nat) : Int) = n := by omega
    rw [ek] at q1
    refine ⟨_, rfl, b, _, 0, _, rfl, rfl, SqL.of hb', rfl, _, rfl, d, _, _, _, rfl, rfl, SqL.of hd', q1, .inl ⟨_, rfl, _, rfl, _, _, rfl, rfl, hm, ?_⟩⟩
    exact q _ _ (Int.emod_nonneg _ (by omega)) (Int.emod_lt_of_pos _ hm) hB (sb_upd _)
  · exact q 0 _ (Int.le_refl _) hm hB (sb_upd _)
def spBox (K : PySem.W.Frag) : Sp := fun vs H Q _ => ∃ (a : Addr) (ns : List Int) (lo n : Nat), vs = [.ref a, .int lo, .int ((lo : Int) + n)] ∧ SqL K H a (ns.map V.int) ∧ lo ≤ 100 ∧ n ≤ 100 ∧
  ∀ (p d : Addr) (H' : Hp), Same H H' → H p = none → H d = none → BoxAt H' p d → Q (.ref p) H'
theorem ok_box {f g e : Addr} {fd gd ed : FuncData} (D : Df K mg "_law_box" s__law_box ["script", "first", "last"] f fd) (D__law_digits : Df K mg "_law_digits" s__law_digits ["script", "first", "last"] g gd) (D__law_cell : Df K mg "_law_cell" s__law_cell ["script", "k"] e ed) (B : Bt mg) :
    FnOk P w K mg base CX0 3 f fd ["script", "first", "last"] (spBox K) := by
  have G__law_digits : FnOk P w K mg base CX0 2 g gd ["script", "first", "last"] (spDigits K) := ok_digits D__law_digits B D__law_cell
  refine D.ok c__law_box (fun vs H Q E h => ?_) (fun cdv A outer s H vs Q E hr h => ?_)
  · obtain ⟨a, ns, lo, n, rfl, _⟩ := h
    rfl
  obtain ⟨a, ns, lo, n, rfl, hS, hlo, hn, q⟩ := h
  have nd := c__law_box.nd
  refine ⟨_, (pss_one (ps_ret (pe_lst (pa_cons (pe_call G__law_digits (hr.mono (by first | decide | omega)) (by rfl) D__law_digits.m D__law_digits.kp D__law_digits.b .nil pass0 (pa_cons (pv 0) (pa_cons (pv 1) (pa_cons (pv 2) pa_nil)))) (pa_cons pe_int pa_nil))))), ?_⟩
  refine ⟨_, rfl, _, rfl, _, rfl, a, ns, lo, n, rfl, hS, hlo, hn, fun p H1 ds hw => ⟨(by show 2 ≤ sizeLine; decide), fun r hr' => ?_⟩⟩
  have hne : p ≠ r := ne_of_none hw.h hr'
  have s1 : Same H1 (upd H1 r (.lst [.ref p, .int 0])) := same_new hr' _
  exact q r p _ (hw.s.trans s1) (hw.s.free hr') hw.n ⟨ds, 0, upd_same, s1 _ _ hw.h, hne, Int.le_refl _⟩
end
/-! ### isinstance -/
def tyD : D → String
  | .at .non => "NoneType"
  | .at (.bl _) => "bool"
  | .at (.int _) => "int"
  | .at _ => "str"
  | .lst => "list"
  | .tup _ => "tuple"
def isTup : D → Bool
  | .tup _ => true
  | _ => false
def isBool : D → Bool
  | .at (.bl _) => true
  | _ => false
def isInt : D → Bool
  | .at (.int _) => true
  | .at (.bl _) => true
  | _ => false
def isStr : D → Bool
  | .at .non => false
  | .at (.bl _) => false
  | .at (.int _) => false
  | .at _ => true
  | _ => false
theorem tup_ty {K : PySem.W.Frag} {H : Hp} {a : Addr} {xs : List V} (h : TupAt K H a xs) : TyX K H (.ref a) (.type "tuple") := by
  rcases h with h | ⟨o, its, n, h, c, _⟩
  · exact .base (.tup h)
  · exact .kTuple h c
theorem rep_ty {K : PySem.W.Frag} {H : Hp} {x : V} {d : D} (r : Rep K H x d) : TyX K H x (.type (tyD d)) := by
  cases r with
  | lst h => exact .base (.lst h)
  | tup h _ => exact tup_ty h
  | «at» h =>
    cases x with
    | non => exact .base .non
    | bl b => exact .base (.bl b)
    | int i => exact .base (.int i)
    | str s => exact .base (.str s)
    | byt _ => cases h
    | flt _ => cases h
    | ref _ => cases h
    | ty _ => cases h
theorem kit_tup (d : D) : kitB (tyD d) "tuple" = some (isTup d) := by
  have h_NoneType : kitB "NoneType" "tuple" = some false := by decide +kernel
  have h_bool : kitB "bool" "tuple" = some false := by decide +kernel
  have h_int : kitB "int" "tuple" = some false := by decide +kernel
  have h_str : kitB "str" "tuple" = some false := by decide +kernel
  have h_list : kitB "list" "tuple" = some false := by decide +kernel
  have h_tuple : kitB "tuple" "tuple" = some true := by decide +kernel
  cases d with
  | tup _ => exact h_tuple
  | lst => exact h_list
  | «at» v =>
    cases v with
    | non => exact h_NoneType
    | bl _ => exact h_bool
    | int _ => exact h_int
    | _ => exact h_str
theorem kit_bool (d : D) : kitB (tyD d) "bool" = some (isBool d) := by
  have h_NoneType : kitB "NoneType" "bool" = some false := by decide +kernel
  have h_bool : kitB "bool" "bool" = some true := by decide +kernel
  have h_int : kitB "int" "bool" = some false := by decide +kernel
  have h_str : kitB "str" "bool" = some false := by decide +kernel
  have h_list : kitB "list" "bool" = some false := by decide +kernel
  have h_tuple : kitB "tuple" "bool" = some false := by decide +kernel
  cases d with
  | tup _ => exact h_tuple
  | lst => exact h_list
  | «at» v =>
    cases v with
    | non => exact h_NoneType
    | bl _ => exact h_bool
    | int _ => exact h_int
    | _ => exact h_str
theorem kit_int (d : D) : kitB (tyD d) "int" = some (isInt d) := by
  have h_NoneType : kitB "NoneType" "int" = some false := by decide +kernel
  have h_bool : kitB "bool" "int" = some true := by decide +kernel
  have h_int : kitB "int" "int" = some true := by decide +kernel
  have h_str : kitB "str" "int" = some false := by decide +kernel
  have h_list : kitB "list" "int" = some false := by decide +kernel
  have h_tuple : kitB "tuple" "int" = some false := by decide +kernel
  cases d with
  | tup _ => exact h_tuple
  | lst => exact h_list
  | «at» v =>
    cases v with
    | non => exact h_NoneType
    | bl _ => exact h_bool
    | int _ => exact h_int
    | _ => exact h_str
theorem kit_str (d : D) : kitB (tyD d) "str" = some (isStr d) := by
  have h_NoneType : kitB "NoneType" "str" = some false := by decide +kernel
  have h_bool : kitB "bool" "str" = some false := by decide +kernel
  have h_int : kitB "int" "str" = some false := by decide +kernel
  have h_str : kitB "str" "str" = some true := by decide +kernel
  have h_list : kitB "list" "str" = some false := by decide +kernel
  have h_tuple : kitB "tuple" "str" = some false := by decide +kernel
  cases d with
  | tup _ => exact h_tuple
  | lst => exact h_list
  | «at» v =>
    cases v with
    | non => exact h_NoneType
    | bl _ => exact h_bool
    | int _ => exact h_int
    | _ => exact h_str
theorem isi {K : PySem.W.Frag} {H : Hp} {x : V} {d : D} {T : String} {b : Bool} {Q : VK} (r : Rep K H x d) (h : kitB (tyD d) T = some b) (q : Q (.bl b) H) : rIsi K [x, .ty T] H Q :=
  ⟨x, .ty T, .type (tyD d), .type T, b, rfl, .ty T, rep_ty r, kit_ty h, q⟩
/-! ### data without lists -/
mutual
def noL : D → Bool
  | .tup ts => noLs ts
  | .lst => false
  | .at _ => true
def noLs : List D → Bool
  | [] => true
  | t :: r => noL t && noLs r
end
theorem noL_mem : ∀ {l : List D}, noLs l = true → ∀ {d : D}, d ∈ l → noL d = true
  | t :: r, hk, d, h => by
    have hk' : (noL t && noLs r) = true := hk
    rw [Bool.and_eq_true] at hk'
    rcases List.mem_cons.mp h with e | h
    · rw [e]
      exact hk'.1
    · exact noL_mem hk'.2 h
/-! ### _law_same -/
section
variable {P : Program} {w : World} {K : PySem.W.Frag} {mg : Str → Option Value} {base : Heap}
def spSame (K : PySem.W.Frag) (n : Nat) : Sp := fun vs H Q _ => ∃ (x y : V) (d e : D), vs = [x, y] ∧ Rep K H x d ∧ Rep K H y e ∧ noL e = true ∧ dep e < n ∧ szs [e] ≤ 1000000 ∧ ∀ r : Bool, (r = true ↔ d = e) → Q (.bl r) H
theorem ok_same0 {f : Addr} {fd : FuncData} : FnOk P w K mg base CX0 0 f fd ["actual", "expected"] (spSame K 0) := by
  have no : ∀ vs H Q E, ¬ spSame K 0 vs H Q E := fun vs H Q E h => by
    obtain ⟨x, y, d, e, _, _, _, _, h1, _⟩ := h
    omega
  exact ⟨fun vs H Q E h => absurd h (no vs H Q E), fun A outer s H args us vs Q E _ _ _ _ h => absurd h (no vs H Q E)⟩
theorem ok_same {f : Addr} {fd : FuncData} (D__law_same : Df K mg "_law_same" s__law_same ["actual", "expected"] f fd) (B : Bt mg) : ∀ n : Nat, FnOk P w K mg base CX0 n f fd ["actual", "expected"] (spSame K n)
  | 0 => ok_same0
  | n + 1 => by
    have G__law_same := ok_same D__law_same B n
    refine D__law_same.ok c__law_same (fun vs H Q E h => ?_) (fun cdv A outer s H vs Q E hr h => ?_)
    · obtain ⟨x, y, d, e, rfl, _⟩ := h
      rfl
    obtain ⟨x, y, d, e, rfl, rx, ry, hnl, hdp, hsz, q⟩ := h
    have nd := c__law_same.nd
    refine ⟨_, (pss_cons (ps_if (pt_val (pe_callB call_isi (by rfl) B.b_isinstance (by decide +kernel) (pa_cons (pv 1) (pa_cons (pe_bltn (v := .ty "tuple") (by rfl) B.b_tuple (by decide +kernel) rfl) pa_nil)))) (pss_cons (ps_if (PW.pt (pw_or (pt_not (pt_val (pe_callB call_isi (by rfl) B.b_isinstance (by decide +kernel) (pa_cons (pv 0) (pa_cons (pe_bltn (v := .ty "tuple") (by rfl) B.b_tuple (by decide +kernel) rfl) pa_nil))))) (pw_or1 (pt_cmpR op_ne (pe_callB call_len_seq (by rfl) B.b_len PySem.boot_len (pa_cons (pv 0) pa_nil)) (pe_callB call_len_seq (by rfl) B.b_len PySem.boot_len (pa_cons (pv 1) pa_nil)) (nomark _))))) (pss_one (ps_ret pe_bl)) pss_nil)
  (pss_cons (ps_for PassesOwn.never rfl (pi_range1 (by rfl) B.b_range (pa_cons (pe_callB call_len_seq (by rfl) B.b_len PySem.boot_len (pa_cons (pv 1) pa_nil)) pa_nil)) (pg_name (i := 2) nd rfl (Or.inl rfl)) (pss_one (ps_if (pt_not (pt_val (pe_call G__law_same hr (by rfl) D__law_same.m D__law_same.kp D__law_same.b .nil pass0 (pa_cons (pe_ix ix_tup (pv 0) (pv 2) (fun _ _ => rfl)) (pa_cons (pe_ix ix_tup (pv 1) (pv 2) (fun _ _ => rfl)) pa_nil))))) (pss_one (ps_ret pe_bl)) pss_nil)))
  (pss_one (ps_ret pe_bl)))) pss_nil)
  (pss_cons (ps_if (pt_cmpR op_isN (pv 1) pe_non (nomark _)) (pss_one (ps_ret (pe_cmpR op_isN (pv 0) pe_non (nomark _)))) pss_nil)
  (pss_cons (ps_if (pt_val (pe_callB call_isi (by rfl) B.b_isinstance (by decide +kernel) (pa_cons (pv 1) (pa_cons (pe_bltn (v := .ty "bool") (by rfl) B.b_bool (by decide +kernel) rfl) pa_nil)))) (pss_one (ps_ret (pe_and (pe_callB call_isi (by rfl) B.b_isinstance (by decide +kernel) (pa_cons (pv 0) (pa_cons (pe_bltn (v := .ty "bool") (by rfl) B.b_bool (by decide +kernel) rfl) pa_nil))) (pe_one (pe_cmpR op_eq (pv 0) (pv 1) (nomark _)))))) pss_nil)
  (pss_cons (ps_if (pt_val (pe_callB call_isi (by rfl) B.b_isinstance (by decide +kernel) (pa_cons (pv 1) (pa_cons (pe_bltn (v := .ty "int") (by rfl) B.b_int (by decide +kernel) rfl) pa_nil)))) (pss_one (ps_ret (pe_and (pe_callB call_isi (by rfl) B.b_isinstance (by decide +kernel) (pa_cons (pv 0) (pa_cons (pe_bltn (v := .ty "int") (by rfl) B.b_int (by decide +kernel) rfl) pa_nil))) (pe_and (pe_not (pe_callB call_isi (by rfl) B.b_isinstance (by decide +kernel) (pa_cons (pv 0) (pa_cons (pe_bltn (v := .ty "bool") (by rfl) B.b_bool (by decide +kernel) rfl) pa_nil)))) (pe_one (pe_cmpR op_eq (pv 0) (pv 1) (nomark _))))))) pss_nil)
  (pss_one (ps_ret (pe_and (pe_callB call_isi (by rfl) B.b_isinstance (by decide +kernel) (pa_cons (pv 0) (pa_cons (pe_bltn (v := .ty "str") (by rfl) B.b_str (by decide +kernel) rfl) pa_nil))) (pe_one (pe_cmpR op_eq (pv 0) (pv 1) (nomark _)))))))))), ?_⟩
    refine ⟨y, rfl, _, _, _, _, _, rfl, .ty _, rep_ty ry, kit_ty (kit_tup _), ⟨_, rfl, ?_⟩⟩
    cases e with
    | lst => cases hnl
    | tup ts =>
      refine iteT ?_
      refine ⟨x, rfl, _, _, _, _, _, rfl, .ty _, rep_ty rx, kit_ty (kit_tup _), ⟨_, rfl, ?_⟩⟩
      obtain ⟨b, ys, rfl, hy, ry'⟩ := ry.inv
      have hts : ts.length ≤ 1000000 := by
        have h1 := len_szs ts
        have h2 : szs ts + 1 + 0 ≤ 1000000 := hsz
        omega
      have lts : (ts.length : Int) ≤ 1000000 := by omega
      cases d with
      | lst => exact iteT (q false ⟨fun z => (nomatch z), fun z => (nomatch z)⟩)
      | «at» v => exact iteT (q false ⟨fun z => (nomatch z), fun z => (nomatch z)⟩)
      | tup us =>
        obtain ⟨a, xs, rfl, hx, rx'⟩ := rx.inv
        have lx := rx'.length
        have ly := ry'.length
        refine iteF ?_
        refine ⟨_, rfl, a, xs, rfl, .inr (hx.sq), _, rfl, b, ys, rfl, .inr (hy.sq), rfl, _, rfl, ite2 (fun c => ?_) (fun c => ?_)⟩
        · refine q false ⟨fun z => (nomatch z), fun z => ?_⟩
          cases z
          rw [lx, ly, decide_eq_true rfl] at c
          cases c
        · have el : xs.length = ys.length := by
            by_cases z : V.int ((xs.length : Nat) : Int) = V.int ((ys.length : Nat) : Int)
            · exact Int.ofNat.inj (V.int.inj z)
            · rw [decide_eq_false z] at c
              exact absurd rfl c
          refine ⟨_, rfl, b, ys, rfl, .inr (hy.sq), _, rfl, by omega, by omega, for_range (n := ((ys.length : Nat) : Int).toNat) (fun i σ H' => H' = H ∧ us.take i = ts.take i ∧ ∃ y2, σ = [some (.ref a), some (.ref b), y2])
            ⟨rfl, rfl, _, rfl⟩ ?_ ?_⟩
          · rintro i σ H' hi ⟨rfl, ht, y2, rfl⟩
            have hi' : i < ys.length := by omega
            have iy : ys[i]? = some ys[i] := List.getElem?_eq_getElem hi'
            have ix : xs[i]? = some (xs[i]'(by omega)) := List.getElem?_eq_getElem (by omega)
            obtain ⟨du, hdu, ru⟩ := rx'.get ix
            obtain ⟨dt, hdt, rt⟩ := ry'.get iy
            have mt : dt ∈ ts := List.mem_of_getElem? hdt
            have ez : (0 : Int) + (i : Nat) = ((i : Nat) : Int) := by omega
            have ax : atI xs ((0 : Int) + (i : Nat)) = some (xs[i]'(by omega)) := by rw [ez]; exact atI_nat ix
            have ay : atI ys ((0 : Int) + (i : Nat)) = some ys[i] := by rw [ez]; exact atI_nat iy
            have z1 := dep_mem mt
            have z2 := sz_mem mt
            have z3 : deps ts < n + 1 := hdp
            have z4 : szs ts + 1 + 0 ≤ 1000000 := hsz
            refine ⟨_, rfl, _, rfl, a, xs, _, _, rfl, rfl, hx.sq, ax, _, rfl, _, rfl, b, ys, _, _, rfl, rfl, hy.sq, ay, _, _, du, dt, rfl, ru, rt, noL_mem hnl mt, by omega, by show sz dt + 0 ≤ 1000000; omega, fun r hr => ⟨_, rfl, ?_⟩⟩
            cases r with
            | true =>
              refine iteF ⟨rfl, ?_, _, rfl⟩
              rw [List.take_add_one, List.take_add_one, hdu, hdt, ht, hr.mp rfl]
            | false =>
              refine iteT (q false ⟨fun z => (nomatch z), fun z => ?_⟩)
              cases z
              rw [hdu] at hdt
              cases hdt
              exact hr.mpr rfl
          · rintro σ H' ⟨rfl, ht, y2, rfl⟩
            refine q true ⟨fun _ => ?_, fun _ => rfl⟩
            have e1 : us.take ((ys.length : Nat) : Int).toNat = us := List.take_of_length_le (by omega)
            have e2 : ts.take ((ys.length : Nat) : Int).toNat = ts := List.take_of_length_le (by omega)
            rw [← e1, ← e2, ht]
    | «at» v =>
      obtain ⟨rfl, hf⟩ := ry.inva
      refine iteF ?_
      refine ⟨_, rfl, rfl, _, rfl, ite2 (fun c => ?_) (fun c => ?_)⟩
      · have ev : y = .non := of_decide_eq_true c
        subst ev
        refine ⟨_, rfl, rfl, ?_⟩
        refine q _ ⟨fun z => ?_, fun z => ?_⟩
        · have ex : x = .non := of_decide_eq_true z
          subst ex
          cases rx
          rfl
        · subst z
          obtain ⟨rfl, _⟩ := rx.inva
          exact decide_eq_true rfl
      have hv : y ≠ .non := fun z => c (decide_eq_true z)
      refine ⟨y, rfl, _, _, _, _, _, rfl, .ty _, rep_ty ry, kit_ty (kit_bool _), ⟨_, rfl, ?_⟩⟩
      cases y with
      | non => exact absurd rfl hv
      | byt _ => cases hf
      | flt _ => cases hf
      | ref _ => cases hf
      | ty _ => cases hf
      | bl b =>
        refine iteT ⟨x, rfl, _, _, _, _, _, rfl, .ty _, rep_ty rx, kit_ty (kit_bool _), ⟨_, rfl, ?_⟩⟩
        cases d with
        | tup _ => exact iteF (q false ⟨fun z => (nomatch z), fun z => (nomatch z)⟩)
        | lst => exact iteF (q false ⟨fun z => (nomatch z), fun z => (nomatch z)⟩)
        | «at» v =>
          obtain ⟨rfl, _⟩ := rx.inva
          cases x with
          | bl b2 =>
            refine iteT ⟨_, rfl, _, rfl, rfl, q _ ⟨fun z => ?_, fun z => ?_⟩⟩
            · rw [of_decide_eq_true z]
            · cases z
              exact decide_eq_true rfl
          | _ => exact iteF (q false ⟨fun z => (nomatch z), fun z => (nomatch z)⟩)
      | int i =>
        refine iteF ⟨_, rfl, _, _, _, _, _, rfl, .ty _, rep_ty ry, kit_ty (kit_int _), ⟨_, rfl, iteT ⟨x, rfl, _, _, _, _, _, rfl, .ty _, rep_ty rx, kit_ty (kit_int _), ⟨_, rfl, ?_⟩⟩⟩⟩
        cases d with
        | tup _ => exact iteF (q false ⟨fun z => (nomatch z), fun z => (nomatch z)⟩)
        | lst => exact iteF (q false ⟨fun z => (nomatch z), fun z => (nomatch z)⟩)
        | «at» v =>
          obtain ⟨rfl, _⟩ := rx.inva
          cases x with
          | bl b2 => exact iteT ⟨_, rfl, _, _, _, _, _, rfl, .ty _, rep_ty rx, kit_ty (kit_bool _), ⟨_, rfl, ⟨_, rfl, iteF (q false ⟨fun z => (nomatch z), fun z => (nomatch z)⟩)⟩⟩⟩
          | int i2 =>
            refine iteT ⟨_, rfl, _, _, _, _, _, rfl, .ty _, rep_ty rx, kit_ty (kit_bool _), ⟨_, rfl, ⟨_, rfl, iteT ?_⟩⟩⟩
            refine ⟨_, rfl, _, rfl, rfl, q _ ⟨fun z => ?_, fun z => ?_⟩⟩
            · rw [of_decide_eq_true z]
            · cases z
              exact decide_eq_true rfl
          | _ => exact iteF (q false ⟨fun z => (nomatch z), fun z => (nomatch z)⟩)
      | str z =>
        refine iteF ⟨_, rfl, _, _, _, _, _, rfl, .ty _, rep_ty ry, kit_ty (kit_int _), ⟨_, rfl, iteF ⟨x, rfl, _, _, _, _, _, rfl, .ty _, rep_ty rx, kit_ty (kit_str _), ⟨_, rfl, ?_⟩⟩⟩⟩
        cases d with
        | tup _ => exact iteF (q false ⟨fun z => (nomatch z), fun z => (nomatch z)⟩)
        | lst => exact iteF (q false ⟨fun z => (nomatch z), fun z => (nomatch z)⟩)
        | «at» v =>
          obtain ⟨rfl, _⟩ := rx.inva
          cases x with
          | str b2 =>
            refine iteT ⟨_, rfl, _, rfl, rfl, q _ ⟨fun z => ?_, fun z => ?_⟩⟩
            · rw [of_decide_eq_true z]
            · cases z
              exact decide_eq_true rfl
          | byt _ => cases rx with | «at» hh => cases hh
          | flt _ => cases rx with | «at» hh => cases hh
          | ref _ => cases rx with | «at» hh => cases hh
          | ty _ => cases rx with | «at» hh => cases hh
          | _ => exact iteF (q false ⟨fun z => (nomatch z), fun z => (nomatch z)⟩)
end
end Pk

set_option maxRecDepth 100000
set_option maxHeartbeats 4000000
namespace Pk
open PySem PySem.Spec PyProof.Rows L2
theorem fn_none {P : Program} {w : World} {K : PySem.W.Frag} {mg : Str → Option Value} {base : Heap} {f : Addr} {fd : FuncData} {ps : List Str} {sp : Sp} (no : ∀ vs H Q E, ¬ sp vs H Q E) : FnOk P w K mg base CX0 0 f fd ps sp :=
  ⟨fun vs H Q E h => absurd h (no vs H Q E), fun A outer s H args us vs Q E _ _ _ _ h => absurd h (no vs H Q E)⟩
/-! ### _law_kind -/
section
variable {P : Program} {w : World} {K : PySem.W.Frag} {mg : Str → Option Value} {base : Heap}
/-- all but what stands at b and at u is as it was -/
def SB2 (b u : Addr) (H H' : Hp) : Prop := ∀ q o, q ≠ b → q ≠ u → H q = some o → H' q = some o
def spKind (K : PySem.W.Frag) (n : Nat) : Sp := fun vs H Q _ => ∃ (b c u : Addr) (dp : Int) (g : Nat), vs = [.ref b, .int dp, .ref u] ∧ BoxAt H b c ∧ H u = some (.lst [.int g]) ∧ 0 ≤ dp ∧ dp < n ∧ g ≤ 100 ∧ b ≠ u ∧ c ≠ u ∧
  ∀ (v : V) (H' : Hp) (d : D) (g' : Nat), Rep K H' v d → isK d = true → (dep d : Int) ≤ dp → sz d + g' ≤ g + 1 → H' u = some (.lst [.int g']) → BoxAt H' b c → SB2 b u H H' → Q v H'
theorem ok_kind0 {f : Addr} {fd : FuncData} : FnOk P w K mg base CX0 0 f fd ["box", "depth", "budget"] (spKind K 0) := by
  have no : ∀ vs H Q E, ¬ spKind K 0 vs H Q E := fun vs H Q E h => by
    obtain ⟨b, c, u, dp, g, _, _, _, h0, h1, _⟩ := h
    omega
  exact ⟨fun vs H Q E h => absurd h (no vs H Q E), fun A outer s H args us vs Q E _ _ _ _ h => absurd h (no vs H Q E)⟩
theorem sb2_kx {b u d : Addr} {H H' : Hp} (x : BoxAt H b d) (y : BoxAt H' b d) {us vs : List V} (hu : H u = some (.lst us)) (hu' : H' u = some (.lst vs)) (s : SB2 b u H H') : Kx H H' := by
  obtain ⟨bs, hb⟩ := x.lst
  obtain ⟨bs', hb'⟩ := y.lst
  refine ⟨fun a zs e => s _ _ (ne_of e hb (by intro q; cases q)) (ne_of e hu (by intro q; cases q)) e, fun a zs e => ?_⟩
  by_cases ha : a = b
  · subst ha
    exact ⟨bs', hb'⟩
  · by_cases ha' : a = u
    · subst ha'
      exact ⟨vs, hu'⟩
    · exact ⟨zs, s _ _ ha ha' e⟩
theorem ok_kind {f e : Addr} {fd ed : FuncData} (D__law_kind : Df K mg "_law_kind" s__law_kind ["box", "depth", "budget"] f fd) (D__law_draw : Df K mg "_law_draw" s__law_draw ["box", "many"] e ed) (B : Bt mg) :
    ∀ n : Nat, FnOk P w K mg base CX0 (n + 1) f fd ["box", "depth", "budget"] (spKind K n)
  | 0 => (ok_kind0 (f := f) (fd := fd)).mono (by omega)
  | n + 1 => by
    have G__law_kind := ok_kind D__law_kind D__law_draw B n
    have G__law_draw : FnOk P w K mg base CX0 1 e ed ["box", "many"] spDraw := ok_draw D__law_draw B
    refine D__law_kind.ok c__law_kind (fun vs H Q E h => ?_) (fun cdv A outer s H vs Q E hr h => ?_)
    · obtain ⟨b, c, u, dp, g, rfl, _⟩ := h
      rfl
    obtain ⟨b, c, u, dp, g, rfl, hB, hu, h0, h1, hg, hbu, hcu, q⟩ := h
    have nd := c__law_kind.nd
    refine ⟨_, (pss_cons (ps_set (i := 3) nd rfl (Or.inl rfl) (pe_lst pa_nil))
  (pss_cons (ps_if (pt_cmpR op_gt (pv 1) pe_int (nomark _)) (pss_one (ps_for PassesOwn.never rfl (pi_range1 (by rfl) B.b_range (pa_cons (pe_call G__law_draw (hr.mono (by first | decide | omega)) (by rfl) D__law_draw.m D__law_draw.kp D__law_draw.b .nil pass0 (pa_cons (pv 0) (pa_cons pe_int pa_nil))) pa_nil)) (pg_name (i := 4) nd rfl (Or.inl rfl)) (pss_one (ps_if (pt_cmpR op_gt (pe_ix ix_list (pv 2) pe_int (fun _ _ => rfl)) pe_int (nomark _)) (pss_cons (ps_asg (pe_op op_sub (pe_ix ix_list (pv 2) pe_int (fun _ _ => rfl)) pe_int) (pg_sub (pv 2) pe_int set_list))
  (pss_one (ps_expr (pe_bm PySem.F.plainAttrs_list PySem.F.slot_list_append PySem.F.type_list_append mt_append (pv 3) (pa_cons (pe_call G__law_kind hr (by rfl) D__law_kind.m D__law_kind.kp D__law_kind.b .nil pass0 (pa_cons (pv 0) (pa_cons (pe_op op_sub (pv 1) pe_int) (pa_cons (pv 2) pa_nil)))) pa_nil))))) pss_nil)))) pss_nil)
  (pss_one (ps_ret (pe_callTy call_tuple_of (by rfl) B.b_tuple (by decide +kernel) (pa_cons (pv 3) pa_nil)))))), ?_⟩
    refine ⟨Nat.zero_le _, fun p np => ?_⟩
    have hbl := hB.lst
    obtain ⟨bs, hbs⟩ := hbl
    have npb : b ≠ p := ne_of_none hbs np
    have npu : u ≠ p := ne_of_none hu np
    have s1 : Same H (upd H p (.lst [])) := same_new np _
    obtain ⟨cs, hcs⟩ := hB.dst
    have npc : c ≠ p := ne_of_none hcs np
    have fin : ∀ (y4 : Option V) (xs : List V) (ds : List D) (g' : Nat) (H1 : Hp), H1 p = some (.lst xs) → Reps K H1 xs ds → isKs ds = true → (deps ds : Int) ≤ dp → szs ds + g' ≤ g → H1 u = some (.lst [.int g']) → BoxAt H1 b c → SB2 b u H H1 →
        ∃ a ys, [V.ref p] = [.ref a] ∧ ((SqL K H1 a ys ∧ ∀ l, H1 l = none → Q (.ref l) (upd H1 l (.tup ys))) ∨ (SqT K H1 a ys ∧ Q (.ref a) H1)) := by
      intro y4 xs ds g' H1 hp hr' hk hd hs hu1 hb1 hsb
      refine ⟨p, xs, rfl, .inl ⟨SqL.of hp, fun l hl => ?_⟩⟩
      have sl : Same H1 (upd H1 l (.tup xs)) := same_new hl _
      refine q _ _ (.tup ds) g' (.tup' upd_same (hr'.mono (kx_same sl))) hk hd (by show szs ds + 1 + g' ≤ g + 1; omega) (sl _ _ hu1) (hb1.same sl) (fun z o n1 n2 e => sl _ _ (hsb z o n1 n2 e))
    refine ⟨_, rfl, _, _, rfl, rfl, _, rfl, ite2 (fun z => ?_) (fun z => ?_)⟩
    · have c' : (0 : Int) < dp := of_decide_eq_true z
      refine ⟨_, rfl, b, c, 4, rfl, hB.same s1, by decide, fun r H1 hr0 hr5 hB1 hs1 => ⟨r, rfl, by omega, by omega, ?_⟩⟩
      refine for_range (n := r.toNat) (fun i σ H' => ∃ (xs : List V) (ds : List D) (g' : Nat) (y4 : Option V), σ = [some (.ref b), some (.int dp), some (.ref u), some (.ref p), y4] ∧ H' p = some (.lst xs) ∧ Reps K H' xs ds ∧ isKs ds = true ∧ (deps ds : Int) ≤ dp ∧ szs ds + g' ≤ g ∧ H' u = some (.lst [.int g']) ∧ BoxAt H' b c ∧ SB2 b u H H')
        ⟨[], [], g, none, rfl, hs1 _ _ npb.symm upd_same, .nil, rfl, h0, by show 0 + g ≤ g; omega, hs1 _ _ hbu.symm (s1 _ _ hu), hB1, fun z o n1 n2 e => hs1 _ _ n1 (s1 _ _ e)⟩ ?_ ?_
      · rintro i σ H2 hi ⟨xs, ds, g', y4, rfl, hp, hrs, hk, hd, hs, hu2, hb2, hsb⟩
        refine ⟨_, rfl, u, _, 0, _, rfl, rfl, SqL.of hu2, rfl, _, _, rfl, rfl, _, rfl, ite2 (fun e => ?_) (fun e => ⟨xs, ds, g', _, rfl, hp, hrs, hk, hd, hs, hu2, hb2, hsb⟩)⟩
        have e' : (0 : Int) < (g' : Int) := of_decide_eq_true e
        have eg : (g' : Int) - 1 = ((g' - 1 : Nat) : Int) := by omega
        refine ⟨_, rfl, u, _, 0, _, rfl, rfl, SqL.of hu2, rfl, _, _, rfl, rfl, _, rfl, u, _, 0, 0, rfl, rfl, hu2, rfl, ?_⟩
        have hu3 : (upd H2 u (.lst [.int ((g' : Int) - 1)])) u = some (.lst [.int ((g' - 1 : Nat) : Int)]) := by rw [upd_same, eg]
        have hp3 : (upd H2 u (.lst [.int ((g' : Int) - 1)])) p = some (.lst xs) := by rw [upd_ne npu.symm]; exact hp
        have hb3 : BoxAt (upd H2 u (.lst [.int ((g' : Int) - 1)])) b c := hb2.other _ hbu.symm hcu.symm
        have k3 : Kx H2 (upd H2 u (.lst [.int ((g' : Int) - 1)])) := kx_list hu2 _
        refine ⟨_, rfl, .inl ⟨rfl, _, SqL.of hp3⟩, _, rfl, _, rfl, _, _, rfl, rfl, _, rfl, b, c, u, dp - 1, g' - 1, rfl, hb3, hu3, by omega, by omega, by omega, hbu, hcu, fun v H4 d g4 rv kv dv sv hu4 hb4 hsb4 => ?_⟩
        have hp4 : H4 p = some (.lst xs) := hsb4 _ _ npb.symm npu.symm hp3
        have k4 := sb2_kx hb3 hb4 hu3 hu4 hsb4
        have hrs4 := hrs.mono (k3.trans k4)
        have hlen := hrs.length
        have hlz := len_szs ds
        refine ⟨p, xs, v, rfl, rfl, hp4, small6 (by omega), ?_⟩
        have k5 : Kx H4 (upd H4 p (.lst (xs ++ [v]))) := kx_list hp4 _
        refine ⟨xs ++ [v], ds ++ [d], g4, _, rfl, upd_same, (hrs4.append (.one rv)).mono k5, ?_, ?_, ?_, by rw [upd_ne npu]; exact hu4, ?_, ?_⟩
        · rw [isKs_append, hk]
          show (true && (isK d && true)) = true
          rw [kv]
          rfl
        · rw [deps_append]
          show ((max (deps ds) (max (dep d + 1) 0) : Nat) : Int) ≤ dp
          omega
        · rw [szs_append]
          show szs ds + (sz d + 0) + g4 ≤ g
          omega
        · exact hb4.other _ npb.symm npc.symm
        · intro z o n1 n2 e1
          rw [upd_ne (ne_of_none e1 np)]
          refine hsb4 _ _ n1 n2 ?_
          rw [upd_ne n2]
          exact hsb z o n1 n2 e1
      · rintro σ H2 ⟨xs, ds, g', y4, rfl, hp, hrs, hk, hd, hs, hu2, hb2, hsb⟩
        exact ⟨_, rfl, fin y4 xs ds g' H2 hp hrs hk hd hs hu2 hb2 hsb⟩
    · exact ⟨_, rfl, fin none [] [] g _ upd_same .nil rfl h0 (by show 0 + g ≤ g; omega) (s1 _ _ hu) (hB.same s1) (fun z o _ _ e => s1 _ _ e)⟩
end
/-! ### programs as the laws write them -/
inductive T where
  | say (v : Nat)
  | stop
  | ask (up k : Nat) (as : List T) (zero one : T)
  | prog (many : Nat) (b : T)
mutual
def toD : T → D
  | .say v => .tup [.at (.str "say"), .at (.int (v : Nat))]
  | .stop => .tup [.at (.str "stop")]
  | .ask up k as z o => .tup [.at (.str "ask"), .at (.int (up : Nat)), .at (.int (k : Nat)), .tup (toDs as), toD z, toD o]
  | .prog m b => .tup [.at (.str "program"), .at (.int (m : Nat)), toD b]
def toDs : List T → List D
  | [] => []
  | t :: r => toD t :: toDs r
end
def args : D → List D
  | .tup ts => ts
  | _ => []
mutual
/-- a body, the kinds of the programs around it from the innermost on -/
def wfB : List D → T → Bool
  | _, .say v => decide (v < 2)
  | _, .stop => true
  | ks, .ask up k as z o => (match ks[up]? with
    | some kd => (match (args kd)[k]? with
      | some a => wfPs ks (args a) as
      | none => false)
    | none => false) && (wfB ks z && wfB ks o)
  | _, .prog _ _ => false
def wfP : List D → D → T → Bool
  | ks, kd, .prog m b => decide (m = (args kd).length) && wfB (kd :: ks) b
  | _, _, _ => false
def wfPs : List D → List D → List T → Bool
  | _, [], [] => true
  | ks, d :: ds, t :: ts => wfP ks d t && wfPs ks ds ts
  | _, _, _ => false
end
mutual
def nasks : T → Nat
  | .say _ => 0
  | .stop => 0
  | .ask _ _ as z o => 1 + (nasksL as + (nasks z + nasks o))
  | .prog _ b => nasks b
def nasksL : List T → Nat
  | [] => 0
  | t :: r => nasks t + nasksL r
end
/-! ### _law_body -/
theorem toDs_append : ∀ a b : List T, toDs (a ++ b) = toDs a ++ toDs b
  | [], b => rfl
  | t :: r, b => by
    show toD t :: toDs (r ++ b) = toD t :: (toDs r ++ toDs b)
    rw [toDs_append r b]
theorem toDs_len : ∀ a : List T, (toDs a).length = a.length
  | [] => rfl
  | t :: r => congrArg Nat.succ (toDs_len r)
theorem nasksL_append : ∀ a b : List T, nasksL (a ++ b) = nasksL a + nasksL b
  | [], b => by show nasksL b = 0 + nasksL b; omega
  | t :: r, b => by
    show nasks t + nasksL (r ++ b) = (nasks t + nasksL r) + nasksL b
    rw [nasksL_append r b]
    omega
theorem wfPs_snoc {ks : List D} : ∀ {ds : List D} {ts : List T} {d : D} {t : T}, wfPs ks ds ts = true → wfP ks d t = true → wfPs ks (ds ++ [d]) (ts ++ [t]) = true
  | [], [], d, t, _, h => by
    show (wfP ks d t && wfPs ks [] []) = true
    rw [h]
    rfl
  | a :: ds, b :: ts, d, t, h1, h2 => by
    have k := Bool.and_eq_true_iff.mp h1
    show (wfP ks a b && wfPs ks (ds ++ [d]) (ts ++ [t])) = true
    rw [k.1, wfPs_snoc k.2 h2]
    rfl
  | [], _ :: _, _, _, h, _ => by cases h
  | _ :: _, [], _, _, h, _ => by cases h
def upkD (x : Nat × Nat) : D := .tup [.at (.int (x.1 : Nat)), .at (.int (x.2 : Nat))]
/-- a kind of the laws: its size is bounded -/
def Kd (d : D) : Prop := isK d = true ∧ sz d ≤ 1000
theorem Kd.sub {d a : D} {k : Nat} (h : Kd d) (e : (args d)[k]? = some a) : Kd a := by
  obtain ⟨ts, rfl, hks⟩ := isK_inv h.1
  have m : a ∈ ts := List.mem_of_getElem? e
  have := sz_mem m
  have h2 : szs ts + 1 ≤ 1000 := h.2
  exact ⟨isK_mem hks m, by omega⟩
theorem rev_at {α : Type} (l : List α) (i : Nat) (h : i < l.length) : l.reverse[l.length - 1 - i]? = l[i]? := by
  rw [List.getElem?_reverse (by omega)]
  congr 1
  omega
theorem up_at {K : PySem.W.Frag} {H : Hp} {xs : List V} {ks : List D} (rx : Reps K H xs ks.reverse) {i : Nat} (hi : i < ks.length) {z : Int} (hz : z = ((xs.length : Nat) : Int) - 1 - (i : Nat)) :
    ∃ x kd, atI xs z = some x ∧ ks[i]? = some kd ∧ Rep K H x kd := by
  have lx := rx.length
  rw [List.length_reverse] at lx
  have hk : xs.length - 1 - i < xs.length := by omega
  obtain ⟨kd, h1, h2⟩ := rx.get (List.getElem?_eq_getElem hk)
  have q := atI_nat (List.getElem?_eq_getElem hk)
  rw [show ((xs.length - 1 - i : Nat) : Int) = z by omega] at q
  rw [lx, rev_at ks i hi] at h1
  exact ⟨_, kd, q, h1, h2⟩
theorem pickP {K : PySem.W.Frag} {H : Hp} {xs : List V} {ds : List D} {r : Int} (h : Reps K H xs ds) (h0 : 0 ≤ r) (h1 : r < (xs.length : Nat)) : ∃ (v : V) (e : D) (i : Nat), atI xs r = some v ∧ ds[i]? = some e ∧ Rep K H v e := by
  have hk : r.toNat < xs.length := by omega
  obtain ⟨e, he, re⟩ := h.get (List.getElem?_eq_getElem hk)
  have q := atI_nat (List.getElem?_eq_getElem hk)
  rw [show ((r.toNat : Nat) : Int) = r by omega] at q
  exact ⟨_, e, r.toNat, q, he, re⟩
theorem toDs_at : ∀ {l : List T} {i : Nat} {e : D}, (toDs l)[i]? = some e → ∃ t, l[i]? = some t ∧ e = toD t
  | [], _, _, h => by simp [toDs] at h
  | t :: r, 0, e, h => ⟨t, rfl, (Option.some.inj h).symm⟩
  | t :: r, i + 1, e, h => toDs_at (l := r) (i := i) h
theorem say_reps {K : PySem.W.Frag} {M : Hp} {t1 t2 t3 t4 t5 : Addr} (h1 : M t1 = some (.tup [.str "say", .int 0])) (h2 : M t2 = some (.tup [.str "say", .int 1])) (h3 : M t3 = some (.tup [.str "say", .int 0])) (h4 : M t4 = some (.tup [.str "say", .int 1])) (h5 : M t5 = some (.tup [.str "stop"])) :
    Reps K M [.ref t1, .ref t2, .ref t3, .ref t4, .ref t5] (toDs [.say 0, .say 1, .say 0, .say 1, .stop]) :=
  .cons (.tup' h1 (.cons (.at rfl) (.one (.at rfl)))) (.cons (.tup' h2 (.cons (.at rfl) (.one (.at rfl)))) (.cons (.tup' h3 (.cons (.at rfl) (.one (.at rfl)))) (.cons (.tup' h4 (.cons (.at rfl) (.one (.at rfl)))) (.one (.tup' h5 (.one (.at rfl)))))))
theorem say_ok {ks : List D} {i : Nat} {t : T} (h : ([.say 0, .say 1, .say 0, .say 1, .stop] : List T)[i]? = some t) : wfB ks t = true ∧ nasks t = 0 := by
  have m : t ∈ ([.say 0, .say 1, .say 0, .say 1, .stop] : List T) := List.mem_of_getElem? h
  simp only [List.mem_cons, List.not_mem_nil, or_false] at m
  rcases m with rfl | rfl | rfl | rfl | rfl <;> exact ⟨by simp [wfB], rfl⟩
section
variable {P : Program} {w : World} {K : PySem.W.Frag} {mg : Str → Option Value} {base : Heap}
def spBody (K : PySem.W.Frag) (n : Nat) : Sp := fun vs H Q _ => ∃ (b c u : Addr) (v : V) (ks : List D) (g : Nat), vs = [.ref b, v, .ref u] ∧ BoxAt H b c ∧ H u = some (.lst [.int g]) ∧ Rep K H v (.tup ks.reverse) ∧ (∀ k ∈ ks, Kd k) ∧ ks.length + g ≤ 200 ∧ g < n ∧ b ≠ u ∧ c ≠ u ∧
  ∀ (z : V) (H' : Hp) (t : T) (g' : Nat), Rep K H' z (toD t) → wfB ks t = true → nasks t + g' ≤ g → H' u = some (.lst [.int g']) → BoxAt H' b c → SB2 b u H H' → Q z H'
theorem SB2.refl (b u : Addr) (H : Hp) : SB2 b u H H := fun _ _ _ _ h => h
theorem SB2.trans {b u : Addr} {H H1 H2 : Hp} (x : SB2 b u H H1) (y : SB2 b u H1 H2) : SB2 b u H H2 := fun q o n1 n2 h => y q o n1 n2 (x q o n1 n2 h)
theorem sb2_same {b u : Addr} {H H' : Hp} (s : Same H H') : SB2 b u H H' := fun q o _ _ h => s q o h
theorem sb2_sb {b u : Addr} {H H' : Hp} (s : SB b H H') : SB2 b u H H' := fun q o n _ h => s q o n h
theorem ok_body {f e : Addr} {fd ed : FuncData} (D__law_body : Df K mg "_law_body" s__law_body ["box", "kinds", "budget"] f fd) (D__law_draw : Df K mg "_law_draw" s__law_draw ["box", "many"] e ed) (B : Bt mg) :
    ∀ n : Nat, FnOk P w K mg base CX0 (n + 1) f fd ["box", "kinds", "budget"] (spBody K n)
  | 0 => (fn_none (f := f) (fd := fd) fun vs H Q E h => by
    obtain ⟨b, c, u, v, ks, g, _, _, _, _, _, _, h1, _⟩ := h
    omega).mono (by omega)
  | n + 1 => by
    have G__law_body := ok_body D__law_body D__law_draw B n
    have G__law_draw : FnOk P w K mg base CX0 1 e ed ["box", "many"] spDraw := ok_draw D__law_draw B
    refine D__law_body.ok c__law_body (fun vs H Q E h => ?_) (fun cdv A outer s H vs Q E hr h => ?_)
    · obtain ⟨b, c, u, v, ks, g, rfl, _⟩ := h
      rfl
    obtain ⟨b, c, u, v, ks, g, rfl, hB, hu, rv, hks, hlen, hg, hbu, hcu, q⟩ := h
    have nd := c__law_body.nd
    refine ⟨_, (pss_cons (ps_set (i := 3) nd rfl (Or.inl rfl) (pe_lst pa_nil))
  (pss_cons (ps_for PassesOwn.never rfl (pi_range1 (by rfl) B.b_range (pa_cons (pe_callB call_len_seq (by rfl) B.b_len PySem.boot_len (pa_cons (pv 1) pa_nil)) pa_nil)) (pg_name (i := 4) nd rfl (Or.inl rfl)) (pss_one (ps_for PassesOwn.never rfl (pi_range1 (by rfl) B.b_range (pa_cons (pe_callB call_len_seq (by rfl) B.b_len PySem.boot_len (pa_cons (pe_ix ix_tup (pv 1) (pe_op op_sub (pe_op op_sub (pe_callB call_len_seq (by rfl) B.b_len PySem.boot_len (pa_cons (pv 1) pa_nil)) pe_int) (pv 4)) (fun _ _ => rfl)) pa_nil)) pa_nil)) (pg_name (i := 5) nd rfl (Or.inl rfl)) (pss_one (ps_expr (pe_bm PySem.F.plainAttrs_list PySem.F.slot_list_append PySem.F.type_list_append mt_append (pv 3) (pa_cons (pe_tup (pa_cons (pv 4) (pa_cons (pv 5) pa_nil))) pa_nil)))))))
  (pss_cons (ps_if (PW.pt (pw_or (pt_cmpR op_eq (pe_callB call_len_seq (by rfl) B.b_len PySem.boot_len (pa_cons (pv 3) pa_nil)) pe_int (nomark _)) (pw_or (pt_cmpR op_eq (pe_ix ix_list (pv 2) pe_int (fun _ _ => rfl)) pe_int (nomark _)) (pw_or1 (pt_cmpR op_eq (pe_call G__law_draw (hr.mono (by first | decide | omega)) (by rfl) D__law_draw.m D__law_draw.kp D__law_draw.b .nil pass0 (pa_cons (pv 0) (pa_cons pe_int pa_nil))) pe_int (nomark _)))))) (pss_one (ps_ret (pe_ix ix_list (pe_lst (pa_cons (pe_tup (pa_cons pe_str (pa_cons pe_int pa_nil))) (pa_cons (pe_tup (pa_cons pe_str (pa_cons pe_int pa_nil))) (pa_cons (pe_tup (pa_cons pe_str (pa_cons pe_int pa_nil))) (pa_cons (pe_tup (pa_cons pe_str (pa_cons pe_int pa_nil))) (pa_cons (pe_tup (pa_cons pe_str pa_nil)) pa_nil)))))) (pe_call G__law_draw (hr.mono (by first | decide | omega)) (by rfl) D__law_draw.m D__law_draw.kp D__law_draw.b .nil pass0 (pa_cons (pv 0) (pa_cons pe_int pa_nil))) (fun _ _ => rfl)))) pss_nil)
  (pss_cons (ps_asg (pe_op op_sub (pe_ix ix_list (pv 2) pe_int (fun _ _ => rfl)) pe_int) (pg_sub (pv 2) pe_int set_list))
  (pss_cons (ps_asg (pe_ix ix_list (pv 3) (pe_op op_mod (pe_callTy call_int1 (by rfl) B.b_int (by decide +kernel) (pa_cons (pe_call G__law_draw (hr.mono (by first | decide | omega)) (by rfl) D__law_draw.m D__law_draw.kp D__law_draw.b .nil pass0 (pa_cons (pv 0) (pa_cons pe_int pa_nil))) pa_nil)) (pe_callB call_len_seq (by rfl) B.b_len PySem.boot_len (pa_cons (pv 3) pa_nil))) (fun _ _ => rfl)) (pg_tup rfl (pgs_cons (pg_name (i := 4) nd rfl (Or.inl rfl)) (pgs_cons (pg_name (i := 5) nd rfl (Or.inl rfl)) pgs_nil))))
  (pss_cons (ps_set (i := 6) nd rfl (Or.inl rfl) (pe_ix ix_tup (pe_ix ix_tup (pv 1) (pe_op op_sub (pe_op op_sub (pe_callB call_len_seq (by rfl) B.b_len PySem.boot_len (pa_cons (pv 1) pa_nil)) pe_int) (pv 4)) (fun _ _ => rfl)) (pv 5) (fun _ _ => rfl)))
  (pss_cons (ps_set (i := 7) nd rfl (Or.inl rfl) (pe_lst pa_nil))
  (pss_cons (ps_for PassesOwn.never rfl (pi_tup (pv 6)) (pg_name (i := 8) nd rfl (Or.inl rfl)) (pss_one (ps_expr (pe_bm PySem.F.plainAttrs_list PySem.F.slot_list_append PySem.F.type_list_append mt_append (pv 7) (pa_cons (pe_tup (pa_cons pe_str (pa_cons (pe_callB call_len_seq (by rfl) B.b_len PySem.boot_len (pa_cons (pv 8) pa_nil)) (pa_cons (pe_call G__law_body hr (by rfl) D__law_body.m D__law_body.kp D__law_body.b .nil pass0 (pa_cons (pv 0) (pa_cons (pe_op op_catP (pv 1) (pe_tup (pa_cons (pv 8) pa_nil))) (pa_cons (pv 2) pa_nil)))) pa_nil)))) pa_nil)))))
  (pss_cons (ps_set (i := 9) nd rfl (Or.inl rfl) (pe_call G__law_body hr (by rfl) D__law_body.m D__law_body.kp D__law_body.b .nil pass0 (pa_cons (pv 0) (pa_cons (pv 1) (pa_cons (pv 2) pa_nil)))))
  (pss_cons (ps_set (i := 10) nd rfl (Or.inl rfl) (pe_call G__law_body hr (by rfl) D__law_body.m D__law_body.kp D__law_body.b .nil pass0 (pa_cons (pv 0) (pa_cons (pv 1) (pa_cons (pv 2) pa_nil)))))
  (pss_one (ps_ret (pe_tup (pa_cons pe_str (pa_cons (pv 4) (pa_cons (pv 5) (pa_cons (pe_callTy call_tuple_of (by rfl) B.b_tuple (by decide +kernel) (pa_cons (pv 7) pa_nil)) (pa_cons (pv 9) (pa_cons (pv 10) pa_nil))))))))))))))))))), ?_⟩
    obtain ⟨a, xs, rfl, hx, rx⟩ := rv.inv
    have lx := rx.length
    rw [List.length_reverse] at lx
    refine ⟨Nat.zero_le _, fun p np => ?_⟩
    have s1 := same_new np (.lst [])
    refine ⟨_, rfl, a, xs, rfl, .inr (hx.same s1).sq, _, rfl, by omega, by omega, ?_⟩
    refine for_range (n := ((xs.length : Nat) : Int).toNat) (fun i σ H' => ∃ (ys : List V) (l : List (Nat × Nat)) (y4 y5 y6 y7 y8 y9 y10 : Option V), σ = [some (.ref b), some (.ref a), some (.ref u), some (.ref p), y4, y5, y6, y7, y8, y9, y10] ∧ Nw p H H' ys ∧ Reps K H' ys (l.map upkD) ∧ l.length ≤ 1000 * i ∧ ∀ x ∈ l, ∃ kd, ks[x.1]? = some kd ∧ x.2 < (args kd).length)
      ⟨[], [], none, none, none, none, none, none, none, rfl, Nw.new np _, .nil, Nat.zero_le _, fun x hx => by cases hx⟩ ?_ ?_
    · rintro i σ H1 hi ⟨ys, l, y4, y5, y6, y7, y8, y9, y10, rfl, hn, ry, hl, hp⟩
      have hi' : i < ks.length := by omega
      have hx1 := hx.same hn.s
      obtain ⟨x, kd, hat, hkd, rk⟩ := up_at (rx.mono (kx_same hn.s)) hi' (z := ((xs.length : Nat) : Int) - 1 - ((0 : Int) + (i : Nat))) (by omega)
      obtain ⟨kk, ksz⟩ := hks kd (List.mem_of_getElem? hkd)
      obtain ⟨ts, rfl, hts⟩ := isK_inv kk
      obtain ⟨ka, kxs, rfl, hka, rka⟩ := rk.inv
      have lk := rka.length
      have lz := len_szs ts
      have ksz' : szs ts + 1 ≤ 1000 := ksz
      refine ⟨_, rfl, _, rfl, a, xs, rfl, .inr hx1.sq, _, _, rfl, rfl, _, rfl, _, _, rfl, rfl, a, xs, _, _, rfl, rfl, hx1.sq, hat, ka, kxs, rfl, .inr hka.sq, _, rfl, by omega, by omega, ?_⟩
      refine for_range (n := ((kxs.length : Nat) : Int).toNat) (fun j σ H' => ∃ (ys : List V) (l : List (Nat × Nat)) (y5 y6 y7 y8 y9 y10 : Option V), σ = [some (.ref b), some (.ref a), some (.ref u), some (.ref p), some (.int ((0 : Int) + (i : Nat))), y5, y6, y7, y8, y9, y10] ∧ Nw p H H' ys ∧ Reps K H' ys (l.map upkD) ∧ l.length ≤ 1000 * i + j ∧ ∀ x ∈ l, ∃ kd, ks[x.1]? = some kd ∧ x.2 < (args kd).length)
        ⟨ys, l, _, _, _, _, _, _, rfl, hn, ry, by omega, hp⟩ ?_ ?_
      · rintro j σ H2 hj ⟨ys, l, y5, y6, y7, y8, y9, y10, rfl, hn, ry, hl, hp⟩
        have ly := ry.length
        rw [List.length_map] at ly
        refine ⟨_, rfl, .inl ⟨rfl, _, SqL.of hn.h⟩, _, rfl, _, rfl, (by show 2 ≤ sizeLine; decide), fun t nt => ?_⟩
        have s2 := same_new nt (.tup [.int ((0 : Int) + (i : Nat)), .int ((0 : Int) + (j : Nat))])
        have hn2 := hn.step s2
        refine ⟨p, ys, _, rfl, rfl, hn2.h, small6 (by omega), ?_⟩
        have k3 := kx_list hn2.h (ys ++ [.ref t])
        refine ⟨ys ++ [.ref t], l ++ [(i, j)], _, _, _, _, _, _, rfl, hn2.put _, ?_, by rw [List.length_append, List.length_singleton]; omega, ?_⟩
        · rw [List.map_append]
          refine ((ry.mono (kx_same s2)).mono k3).append (.one (.tup' (k3.t _ _ upd_same) (.cons ?_ (.one ?_))))
          · rw [show (0 : Int) + (i : Nat) = ((i : Nat) : Int) by omega]
            exact .at rfl
          · rw [show (0 : Int) + (j : Nat) = ((j : Nat) : Int) by omega]
            exact .at rfl
        · intro x hx
          rcases List.mem_append.mp hx with hx | hx
          · exact hp x hx
          · rw [List.mem_singleton.mp hx]
            exact ⟨_, hkd, by show j < ts.length; omega⟩
      · rintro σ H2 ⟨ys, l, y5, y6, y7, y8, y9, y10, rfl, hn, ry, hl, hp⟩
        exact ⟨ys, l, _, _, _, _, _, _, _, rfl, hn, ry, by omega, hp⟩
    · rintro σ H1 ⟨ys, l, y4, y5, y6, y7, y8, y9, y10, rfl, hn, ry, hl, hp⟩
      have ly := ry.length
      rw [List.length_map] at ly
      have hB1 := hB.same hn.s
      have hu1 := hn.s _ _ hu
      have sb1 : SB2 b u H H1 := sb2_same hn.s
      have hx1 := hx.same hn.s
      refine ⟨_, rfl, p, ys, rfl, .inl (SqL.of hn.h), rfl, _, rfl, ite2 (fun z => ?_) (fun z => ?_)⟩
      · -- len(around) == 0
        refine ⟨(by show 2 ≤ sizeLine; decide), fun t1 n1 => ⟨(by show 2 ≤ sizeLine; decide), fun t2 n2 => ⟨(by show 2 ≤ sizeLine; decide), fun t3 n3 => ⟨(by show 2 ≤ sizeLine; decide), fun t4 n4 => ⟨(by show 1 ≤ sizeLine; decide), fun t5 n5 => ⟨(by show 5 ≤ sizeLine; decide), fun l nl => ?_⟩⟩⟩⟩⟩⟩
        have u6 := same_new nl (.lst [.ref t1, .ref t2, .ref t3, .ref t4, .ref t5])
        have u5 := (same_new n5 _).trans u6
        have u4 := (same_new n4 _).trans u5
        have u3 := (same_new n3 _).trans u4
        have u2 := (same_new n2 _).trans u3
        have u1 := (same_new n1 _).trans u2
        have RM := say_reps (K := K) (u2 _ _ upd_same) (u3 _ _ upd_same) (u4 _ _ upd_same) (u5 _ _ upd_same) (u6 _ _ upd_same)
        have hBM := hB1.same u1
        have nlb : l ≠ b := fun z => by
          subst z
          obtain ⟨bs, hbs⟩ := (hB1.same ((same_new n1 _).trans ((same_new n2 _).trans ((same_new n3 _).trans ((same_new n4 _).trans (same_new n5 _)))))).lst
          rw [nl] at hbs
          cases hbs
        refine ⟨_, rfl, b, c, 5, rfl, hBM, by decide, fun r9 H9 r90 r95 hB9 sb9 => ?_⟩
        obtain ⟨y, ey, iy, hy, he, rey⟩ := pickP RM r90 r95
        obtain ⟨t, ht, rfl⟩ := toDs_at he
        obtain ⟨w1, w2⟩ := say_ok (ks := ks) ht
        refine ⟨l, _, _, y, rfl, rfl, SqL.of (sb9 _ _ nlb upd_same), hy, ?_⟩
        exact q y H9 t g (rey.mono (box_kx hBM hB9 sb9)) w1 (by omega) (sb9 _ _ hbu.symm (u1 _ _ hu1)) hB9 (sb1.trans ((sb2_same u1).trans (sb2_sb sb9)))
      have z1 : ys.length ≠ 0 := fun e => by
        rw [e] at z
        exact z rfl
      refine ⟨_, rfl, u, _, 0, _, rfl, rfl, SqL.of hu1, rfl, rfl, _, rfl, ite2 (fun y => ?_) (fun y => ?_)⟩
      · -- budget[0] == 0
        refine ⟨(by show 2 ≤ sizeLine; decide), fun t1 n1 => ⟨(by show 2 ≤ sizeLine; decide), fun t2 n2 => ⟨(by show 2 ≤ sizeLine; decide), fun t3 n3 => ⟨(by show 2 ≤ sizeLine; decide), fun t4 n4 => ⟨(by show 1 ≤ sizeLine; decide), fun t5 n5 => ⟨(by show 5 ≤ sizeLine; decide), fun l nl => ?_⟩⟩⟩⟩⟩⟩
        have u6 := same_new nl (.lst [.ref t1, .ref t2, .ref t3, .ref t4, .ref t5])
        have u5 := (same_new n5 _).trans u6
        have u4 := (same_new n4 _).trans u5
        have u3 := (same_new n3 _).trans u4
        have u2 := (same_new n2 _).trans u3
        have u1 := (same_new n1 _).trans u2
        have RM := say_reps (K := K) (u2 _ _ upd_same) (u3 _ _ upd_same) (u4 _ _ upd_same) (u5 _ _ upd_same) (u6 _ _ upd_same)
        have hBM := hB1.same u1
        have nlb : l ≠ b := fun z => by
          subst z
          obtain ⟨bs, hbs⟩ := (hB1.same ((same_new n1 _).trans ((same_new n2 _).trans ((same_new n3 _).trans ((same_new n4 _).trans (same_new n5 _)))))).lst
          rw [nl] at hbs
          cases hbs
        refine ⟨_, rfl, b, c, 5, rfl, hBM, by decide, fun r9 H9 r90 r95 hB9 sb9 => ?_⟩
        obtain ⟨y, ey, iy, hy, he, rey⟩ := pickP RM r90 r95
        obtain ⟨t, ht, rfl⟩ := toDs_at he
        obtain ⟨w1, w2⟩ := say_ok (ks := ks) ht
        refine ⟨l, _, _, y, rfl, rfl, SqL.of (sb9 _ _ nlb upd_same), hy, ?_⟩
        exact q y H9 t g (rey.mono (box_kx hBM hB9 sb9)) w1 (by omega) (sb9 _ _ hbu.symm (u1 _ _ hu1)) hB9 (sb1.trans ((sb2_same u1).trans (sb2_sb sb9)))
      have g1 : g ≠ 0 := fun e => by
        subst e
        exact y rfl
      refine ⟨_, rfl, b, c, 5, rfl, hB1, by decide, fun r H2 r0 r5 hB2 sbx => ⟨rfl, _, rfl, ite2 (fun x => ?_) (fun x => ?_)⟩⟩
      · -- _law_draw(box, 5) == 0
        have hu2 := sbx _ _ hbu.symm hu1
        have sb2 : SB2 b u H H2 := sb1.trans (sb2_sb sbx)
        refine ⟨(by show 2 ≤ sizeLine; decide), fun t1 n1 => ⟨(by show 2 ≤ sizeLine; decide), fun t2 n2 => ⟨(by show 2 ≤ sizeLine; decide), fun t3 n3 => ⟨(by show 2 ≤ sizeLine; decide), fun t4 n4 => ⟨(by show 1 ≤ sizeLine; decide), fun t5 n5 => ⟨(by show 5 ≤ sizeLine; decide), fun l nl => ?_⟩⟩⟩⟩⟩⟩
        have u6 := same_new nl (.lst [.ref t1, .ref t2, .ref t3, .ref t4, .ref t5])
        have u5 := (same_new n5 _).trans u6
        have u4 := (same_new n4 _).trans u5
        have u3 := (same_new n3 _).trans u4
        have u2 := (same_new n2 _).trans u3
        have u1 := (same_new n1 _).trans u2
        have RM := say_reps (K := K) (u2 _ _ upd_same) (u3 _ _ upd_same) (u4 _ _ upd_same) (u5 _ _ upd_same) (u6 _ _ upd_same)
        have hBM := hB2.same u1
        have nlb : l ≠ b := fun z => by
          subst z
          obtain ⟨bs, hbs⟩ := (hB2.same ((same_new n1 _).trans ((same_new n2 _).trans ((same_new n3 _).trans ((same_new n4 _).trans (same_new n5 _)))))).lst
          rw [nl] at hbs
          cases hbs
        refine ⟨_, rfl, b, c, 5, rfl, hBM, by decide, fun r9 H9 r90 r95 hB9 sb9 => ?_⟩
        obtain ⟨y, ey, iy, hy, he, rey⟩ := pickP RM r90 r95
        obtain ⟨t, ht, rfl⟩ := toDs_at he
        obtain ⟨w1, w2⟩ := say_ok (ks := ks) ht
        refine ⟨l, _, _, y, rfl, rfl, SqL.of (sb9 _ _ nlb upd_same), hy, ?_⟩
        exact q y H9 t g (rey.mono (box_kx hBM hB9 sb9)) w1 (by omega) (sb9 _ _ hbu.symm (u1 _ _ hu2)) hB9 (sb2.trans ((sb2_same u1).trans (sb2_sb sb9)))
      have hu2 := sbx _ _ hbu.symm hu1
      have sb2 : SB2 b u H H2 := sb1.trans (sb2_sb sbx)
      have npb : b ≠ p := by
        obtain ⟨bs, hbs⟩ := hB.lst
        exact ne_of_none hbs hn.n
      have npu : u ≠ p := ne_of_none hu hn.n
      have hp2 := sbx _ _ npb.symm hn.h
      have k12 := box_kx hB1 hB2 sbx
      have eg : (g : Int) - 1 = ((g - 1 : Nat) : Int) := by omega
      refine ⟨_, rfl, u, _, 0, _, rfl, rfl, SqL.of hu2, rfl, _, _, rfl, rfl, _, rfl, u, _, 0, 0, rfl, rfl, hu2, rfl, ?_⟩
      have hu3 : (upd H2 u (.lst [.int ((g : Int) - 1)])) u = some (.lst [.int ((g - 1 : Nat) : Int)]) := by rw [upd_same, eg]
      have hp3 : (upd H2 u (.lst [.int ((g : Int) - 1)])) p = some (.lst ys) := by rw [upd_ne npu.symm]; exact hp2
      have hB3 : BoxAt (upd H2 u (.lst [.int ((g : Int) - 1)])) b c := hB2.other _ hbu.symm hcu.symm
      have k03 : Kx H (upd H2 u (.lst [.int ((g : Int) - 1)])) := ((kx_same hn.s).trans k12).trans (kx_list hu2 _)
      have sb3 : SB2 b u H (upd H2 u (.lst [.int ((g : Int) - 1)])) := fun o v2 n1 n2 e => by rw [upd_ne n2]; exact sb2 o v2 n1 n2 e
      have ry3 := (ry.mono k12).mono (kx_list hu2 [.int ((g : Int) - 1)])
      refine ⟨_, rfl, _, rfl, b, c, 1000, rfl, hB3, by decide, fun r4 H4 r40 r41 hB4 sb4 => .inl ⟨_, rfl, ?_⟩⟩
      have k34 := box_kx hB3 hB4 sb4
      have hp4 := sb4 _ _ npb.symm hp3
      have hu4 := sb4 _ _ hbu.symm hu3
      have ry4 := ry3.mono k34
      have hpos : (0 : Int) < ((ys.length : Nat) : Int) := by omega
      obtain ⟨tv, te, ti, hat1, hte, rte⟩ := pickP ry4 (r := r4 % ((ys.length : Nat) : Int)) (Int.emod_nonneg _ (by omega)) (Int.emod_lt_of_pos _ hpos)
      rw [List.getElem?_map] at hte
      obtain ⟨⟨iu, jn⟩, hl1, rfl⟩ := Option.map_eq_some_iff.mp hte
      obtain ⟨kd, hkd, hjn⟩ := hp _ (List.mem_of_getElem? hl1)
      obtain ⟨ta, txs, rfl, hta, rta⟩ := rte.inv
      cases rta with
      | cons r1 rta =>
        cases rta with
        | cons r2 rta =>
          cases rta
          obtain ⟨rfl, _⟩ := r1.inva
          obtain ⟨rfl, _⟩ := r2.inva
          refine ⟨_, rfl, p, ys, rfl, .inl (SqL.of hp4), _, _, rfl, rfl, hpos, p, ys, _, _, rfl, rfl, SqL.of hp4, hat1, ta, _, rfl, hta.sq, rfl, _, _, rfl, _, _, rfl, rfl, ?_⟩
          have k04 := k03.trans k34
          have sb04 : SB2 b u H H4 := sb3.trans (sb2_sb sb4)
          have hx4 := hx.kx k04
          have rx4 := rx.mono k04
          have hiu : iu < ks.length := (List.getElem?_eq_some_iff.mp hkd).1
          obtain ⟨kv, kd', hat2, hkd', rk⟩ := up_at rx4 hiu (z := ((xs.length : Nat) : Int) - 1 - ((iu : Nat) : Int)) rfl
          have hkd2 : ks[iu]? = some kd := hkd
          rw [hkd2] at hkd'
          cases hkd'
          have KD := hks kd (List.mem_of_getElem? hkd2)
          obtain ⟨ts, rfl, hts⟩ := isK_inv KD.1
          obtain ⟨ka, kxs, rfl, hka, rka⟩ := rk.inv
          have lk := rka.length
          have hjn' : jn < kxs.length := by
            have : jn < ts.length := hjn
            omega
          obtain ⟨ca, hca1, hca2⟩ := rka.get (List.getElem?_eq_getElem hjn')
          have CA : Kd ca := KD.sub (k := jn) hca1
          obtain ⟨cts, rfl, hcts⟩ := isK_inv CA.1
          obtain ⟨cad, cxs, hcv, hcad, rcx⟩ := hca2.inv
          have lcx := rcx.length
          have lcz := len_szs cts
          have ccz : szs cts + 1 ≤ 1000 := CA.2
          refine ⟨_, rfl, _, rfl, a, xs, rfl, .inr hx4.sq, _, _, rfl, rfl, _, rfl, _, _, rfl, rfl, a, xs, _, _, rfl, rfl, hx4.sq, hat2, _, rfl, ka, kxs, _, _, rfl, rfl, hka.sq, atI_nat (List.getElem?_eq_getElem hjn'), ?_⟩
          rw [hcv]
          refine ⟨Nat.zero_le _, fun pa npa => ?_⟩
          have s5 := same_new npa (.lst [])
          have nbpa : b ≠ pa := by
            obtain ⟨bs, hbs⟩ := hB4.lst
            exact ne_of_none hbs npa
          have nupa : u ≠ pa := ne_of_none hu4 npa
          have ncpa : c ≠ pa := by
            obtain ⟨bs, hbs⟩ := hB4.dst
            exact ne_of_none hbs npa
          refine ⟨_, rfl, cad, rfl, ⟨_, (hcad.same s5).sq⟩, for_tup (K := K) (a := cad) (xs := cxs) (fun m σ H' => ∃ (zs : List V) (tl : List T) (gm : Nat) (y8 y9 y10 : Option V), σ = [some (.ref b), some (.ref a), some (.ref u), some (.ref p), some (.int (iu : Nat)), some (.int (jn : Nat)), some (.ref cad), some (.ref pa), y8, y9, y10] ∧
              Kx H4 H' ∧ H' pa = some (.lst zs) ∧ Reps K H' zs (toDs tl) ∧ wfPs ks (cts.take m) tl = true ∧ tl.length = m ∧ nasksL tl + gm ≤ g - 1 ∧ H' u = some (.lst [.int gm]) ∧ BoxAt H' b c ∧ SB2 b u H4 H')
            ⟨[], [], g - 1, _, _, _, rfl, kx_same s5, upd_same, .nil, rfl, rfl, by show 0 + (g - 1) ≤ g - 1; omega, s5 _ _ hu4, hB4.same s5, sb2_same s5⟩ (fun m σ H' _ h => by
              obtain ⟨zs, tl, gm, y8, y9, y10, _, k', _⟩ := h
              exact (hcad.kx k').sq) ?_ ?_⟩
          · rintro m x σ H6 hm ⟨zs, tl, gm, y8, y9, y10, rfl, k46, hpa6, rzs, hwf, htl, hng, hu6, hB6, sb46⟩
            have hml : m < cxs.length := (List.getElem?_eq_some_iff.mp hm).1
            obtain ⟨pd, hpd, rpd⟩ := rcx.get hm
            have PD : Kd pd := CA.sub (k := m) hpd
            obtain ⟨pts, rfl, hpts⟩ := isK_inv PD.1
            obtain ⟨pad, pxs, rfl, hpad, rpx⟩ := (rpd.mono k46).inv
            have lpx := rpx.length
            have hx6 := hx4.kx k46
            have rx6 := rx4.mono k46
            refine ⟨_, rfl, .inl ⟨rfl, _, SqL.of hpa6⟩, _, rfl, pad, pxs, rfl, .inr hpad.sq, _, rfl, _, rfl, _, rfl, (by show 1 ≤ sizeLine; decide), fun t1 n1 => ?_⟩
            have s7 := same_new n1 (.tup [.ref pad])
            refine ⟨a, t1, xs, _, rfl, rfl, hx6.same s7, .inl upd_same, small6' (by show xs.length + 1 ≤ 1000000; omega), fun c1 H8 s8 hc1 => ?_⟩
            have s68 := s7.trans s8
            have hu8 := s68 _ _ hu6
            have hB8 := hB6.same s68
            have rk8 : Reps K H8 (xs ++ [.ref pad]) (((.tup pts) :: ks).reverse) := by
              rw [List.reverse_cons]
              exact (rx6.mono (kx_same s68)).append (.one ((rpd.mono k46).mono (kx_same s68)))
            refine ⟨_, rfl, b, c, u, .ref c1, (.tup pts) :: ks, gm, rfl, hB8, hu8, .tup hc1 rk8, (fun k hk => ?_), by rw [List.length_cons]; omega, by omega, hbu, hcu, fun z H9 t g2 rz wz nz hu9 hB9 sb9 => ?_⟩
            · rcases List.mem_cons.mp hk with e | hk
              · rw [e]
                exact PD
              · exact hks k hk
            have k89 := sb2_kx hB8 hB9 hu8 hu9 sb9
            refine ⟨(by show 3 ≤ sizeLine; decide), fun t2 n2 => ?_⟩
            have s10 := same_new n2 (.tup [.str "program", .int ((pxs.length : Nat) : Int), z])
            have hpa10 := s10 _ _ (sb9 _ _ nbpa.symm nupa.symm (s68 _ _ hpa6))
            have lzs := rzs.length
            rw [toDs_len] at lzs
            refine ⟨pa, zs, _, rfl, rfl, hpa10, small6 (by omega), ?_⟩
            have k11 := kx_list hpa10 (zs ++ [.ref t2])
            have k69 := (kx_same s68).trans k89
            have k610 := k69.trans (kx_same s10)
            refine ⟨zs ++ [.ref t2], tl ++ [.prog pts.length t], g2, _, _, _, rfl, k46.trans (k610.trans k11), upd_same, ?_, ?_, by rw [List.length_append, List.length_singleton]; omega, ?_, ?_, ?_, ?_⟩
            · rw [toDs_append]
              refine (rzs.mono (k610.trans k11)).append (.one (.tup' (k11.t _ _ upd_same) (.cons (.at rfl) (.cons ?_ (.one ((rz.mono (kx_same s10)).mono k11))))))
              rw [lpx]
              exact .at rfl
            · rw [List.take_add_one, hpd]
              refine wfPs_snoc hwf ?_
              show (decide (pts.length = pts.length) && wfB ((.tup pts) :: ks) t) = true
              rw [decide_eq_true rfl, wz]
              rfl
            · rw [nasksL_append]
              show nasksL tl + (nasks t + 0) + g2 ≤ g - 1
              omega
            · rw [upd_ne nupa]
              exact s10 _ _ hu9
            · exact (hB9.same s10).other _ nbpa.symm ncpa.symm
            · intro o v2 o1 o2 e
              rw [upd_ne (ne_of_none e npa)]
              exact s10 _ _ (sb9 _ _ o1 o2 (s68 _ _ (sb46 _ _ o1 o2 e)))
          · rintro σ H6 ⟨zs, tl, gm, y8, y9, y10, rfl, k46, hpa6, rzs, hwf, htl, hng, hu6, hB6, sb46⟩
            rw [lcx, List.take_length] at hwf
            have hx6 := hx4.kx k46
            have rx6 := rx4.mono k46
            refine ⟨_, rfl, _, rfl, _, rfl, b, c, u, .ref a, ks, gm, rfl, hB6, hu6, .tup hx6 rx6, hks, by omega, by omega, hbu, hcu, fun z0 H7 t0 g0 rz0 wz0 nz0 hu7 hB7 sb7 => ?_⟩
            have k67 := sb2_kx hB6 hB7 hu6 hu7 sb7
            refine ⟨_, rfl, _, rfl, _, rfl, b, c, u, .ref a, ks, g0, rfl, hB7, hu7, .tup (hx6.kx k67) (rx6.mono k67), hks, by omega, by omega, hbu, hcu, fun z1 H8 t1 g1' rz1 wz1 nz1 hu8 hB8 sb8 => ?_⟩
            have k78 := sb2_kx hB7 hB8 hu7 hu8 sb8
            have hpa8 := sb8 _ _ nbpa.symm nupa.symm (sb7 _ _ nbpa.symm nupa.symm hpa6)
            refine ⟨_, rfl, _, rfl, _, rfl, pa, zs, rfl, .inl ⟨SqL.of hpa8, fun tt ntt => ?_⟩⟩
            have s9 := same_new ntt (.tup zs)
            refine ⟨_, rfl, _, rfl, (by show 6 ≤ sizeLine; decide), fun tr ntr => ?_⟩
            have s10 := same_new ntr (.tup [.str "ask", .int (iu : Nat), .int (jn : Nat), .ref tt, z0, z1])
            have k810 := (kx_same s9).trans (kx_same s10)
            refine q _ _ (.ask iu jn tl t0 t1) g1' (.tup' upd_same (.cons (.at rfl) (.cons (.at rfl) (.cons (.at rfl) (.cons (.tup' (s10 _ _ upd_same) ((((rzs.mono k67).mono k78)).mono k810)) (.cons ((rz0.mono k78).mono k810) (.one (rz1.mono k810)))))))) ?_ ?_ (s10 _ _ (s9 _ _ hu8)) ((hB8.same s9).same s10) ?_
            · show ((match ks[iu]? with
                | some kd => (match (args kd)[jn]? with
                  | some a => wfPs ks (args a) tl
                  | none => false)
                | none => false) && (wfB ks t0 && wfB ks t1)) = true
              have e1 : (args (.tup ts))[jn]? = some (.tup cts) := hca1
              rw [hkd2]
              show ((match (args (.tup ts))[jn]? with
                  | some a => wfPs ks (args a) tl
                  | none => false) && (wfB ks t0 && wfB ks t1)) = true
              rw [e1]
              show (wfPs ks cts tl && (wfB ks t0 && wfB ks t1)) = true
              rw [hwf, wz0, wz1]
              rfl
            · show 1 + (nasksL tl + (nasks t0 + nasks t1)) + g1' ≤ g
              omega
            · exact sb04.trans (sb46.trans (sb7.trans (sb8.trans ((sb2_same s9).trans (sb2_same s10)))))
end
/-! ### _law_program -/
section
variable {P : Program} {w : World} {K : PySem.W.Frag} {mg : Str → Option Value} {base : Heap}
def spProg (K : PySem.W.Frag) : Sp := fun vs H Q _ => ∃ (b c : Addr) (v : V) (d : D) (m : Nat), vs = [.ref b, v, .int m] ∧ BoxAt H b c ∧ Rep K H v d ∧ Kd d ∧ m ≤ 100 ∧
  ∀ (z : V) (H' : Hp) (t : T), Rep K H' z (toD t) → wfP [] d t = true → nasks t ≤ m → BoxAt H' b c → SB b H H' → Q z H'
theorem ok_prog {f g e : Addr} {fd gd ed : FuncData} (D__law_program : Df K mg "_law_program" s__law_program ["box", "kind", "most"] f fd) (D__law_body : Df K mg "_law_body" s__law_body ["box", "kinds", "budget"] g gd) (D__law_draw : Df K mg "_law_draw" s__law_draw ["box", "many"] e ed) (B : Bt mg) :
    FnOk P w K mg base CX0 103 f fd ["box", "kind", "most"] (spProg K) := by
  have G__law_body : FnOk P w K mg base CX0 102 g gd ["box", "kinds", "budget"] (spBody K 101) := ok_body D__law_body D__law_draw B 101
  refine D__law_program.ok c__law_program (fun vs H Q E h => ?_) (fun cdv A outer s H vs Q E hr h => ?_)
  · obtain ⟨b, c, v, d, m, rfl, _⟩ := h
    rfl
  obtain ⟨b, c, v, d, m, rfl, hB, rv, hk, hm, q⟩ := h
  have nd := c__law_program.nd
  refine ⟨_, (pss_one (ps_ret (pe_tup (pa_cons pe_str (pa_cons (pe_callB call_len_seq (by rfl) B.b_len PySem.boot_len (pa_cons (pv 1) pa_nil)) (pa_cons (pe_call G__law_body (hr.mono (by first | decide | omega)) (by rfl) D__law_body.m D__law_body.kp D__law_body.b .nil pass0 (pa_cons (pv 0) (pa_cons (pe_tup (pa_cons (pv 1) pa_nil)) (pa_cons (pe_lst (pa_cons (pv 2) pa_nil)) pa_nil)))) pa_nil)))))), ?_⟩
  obtain ⟨ts, rfl, hts⟩ := isK_inv hk.1
  obtain ⟨a, xs, rfl, hx, rx⟩ := rv.inv
  have lx := rx.length
  refine ⟨_, rfl, a, xs, rfl, .inr hx.sq, _, rfl, _, rfl, (by show 1 ≤ sizeLine; decide), fun t1 n1 => ⟨_, rfl, (by show 1 ≤ sizeLine; decide), fun u nu => ?_⟩⟩
  have s1 := same_new n1 (.tup [.ref a])
  have s2 := same_new nu (.lst [.int (m : Nat)])
  have s12 := s1.trans s2
  obtain ⟨bs, hbs⟩ := (hB.same s1).lst
  obtain ⟨cs, hcs⟩ := (hB.same s1).dst
  refine ⟨b, c, u, .ref t1, [.tup ts], m, rfl, hB.same s12, upd_same, .tup' (s2 _ _ upd_same) (.one (rv.mono (kx_same s12))), (fun k hk' => ?_), by show 1 + m ≤ 200; omega, by omega, ne_of_none hbs nu, ne_of_none hcs nu, fun z H3 t g' rz wz nz hu3 hB3 sb3 => ?_⟩
  · rw [List.mem_singleton.mp hk']
    exact hk
  refine ⟨(by show 3 ≤ sizeLine; decide), fun t2 n2 => ?_⟩
  have s3 := same_new n2 (.tup [.str "program", .int ((xs.length : Nat) : Int), z])
  refine q _ _ (.prog ts.length t) (.tup' upd_same (.cons (.at rfl) (.cons ?_ (.one (rz.mono (kx_same s3)))))) ?_ ?_ (hB3.same s3) ?_
  · rw [lx]
    exact .at rfl
  · show (decide (ts.length = ts.length) && wfB [.tup ts] t) = true
    rw [decide_eq_true rfl, wz]
    rfl
  · show nasks t ≤ m
    omega
  · intro o v2 n e
    exact s3 _ _ (sb3 _ _ n (fun z => by
      subst z
      have := s1 _ _ e
      rw [nu] at this
      cases this) (s12 _ _ e))
end
end Pk

set_option maxRecDepth 100000
set_option maxHeartbeats 4000000
namespace Pk
open PySem PySem.Spec PyProof.Rows L2
/-! ### what is a program -/
/-- a whole number below m that is no bool -/
def wholeB (d : D) (m : Nat) : Bool := match d with
  | .at (.int i) => decide (0 ≤ i) && decide (i < (m : Nat))
  | _ => false
def numD : D → Nat
  | .at (.int i) => i.toNat
  | _ => 0
mutual
def isB (ks : List D) : D → Bool
  | .tup [.at (.str s)] => decide (s = "stop")
  | .tup [.at (.str s), v] => decide (s = "say") && wholeB v 2
  | .tup [.at (.str s), up, k, .tup as, z, o] => decide (s = "ask") && (wholeB up ks.length && (match ks[numD up]? with
    | some kd => wholeB k (args kd).length && (match (args kd)[numD k]? with
      | some a => isPs ks (args a) as
      | none => false)
    | none => false) && (isB ks z && isB ks o))
  | _ => false
def isPs (ks : List D) : List D → List D → Bool
  | [], [] => true
  | kd :: ds, .tup [.at (.str s), m, b] :: r => decide (s = "program") && (wholeB m 99 && decide (numD m = (args kd).length)) && isB (kd :: ks) b && isPs ks ds r
  | _, _ => false
end
def isPr (ks : List D) (kd d : D) : Bool := isPs ks [kd] [d]
def askB (ks : List D) (up k as z o : D) : Bool := wholeB up ks.length && (match ks[numD up]? with
    | some kd => wholeB k (args kd).length && (isTup as && match (args kd)[numD k]? with
      | some a => isPs ks (args a) (args as)
      | none => false)
    | none => false) && (isB ks z && isB ks o)
def sayOr : List D → Bool
  | [v] => wholeB v 2
  | _ => false
def askOr (ks : List D) : List D → Bool
  | [up, k, as, z, o] => askB ks up k as z o
  | _ => false
theorem askOr_no (ks : List D) : ∀ r : List D, r.length ≠ 5 → askOr ks r = false
  | [], _ => rfl
  | [_], _ => rfl
  | [_, _], _ => rfl
  | [_, _, _], _ => rfl
  | [_, _, _, _], _ => rfl
  | [_, _, _, _, _], h => absurd rfl h
  | _ :: _ :: _ :: _ :: _ :: _ :: _, _ => rfl
def prOr (ks : List D) (kd : D) : D → D → D → Bool
  | .at (.str s), m, b => decide (s = "program") && (wholeB m 99 && decide (numD m = (args kd).length)) && isB (kd :: ks) b
  | _, _, _ => false
theorem prOr_no (ks : List D) (kd x m b : D) (h : isStr x = false) : prOr ks kd x m b = false := by
  cases x with
  | tup _ => rfl
  | lst => rfl
  | «at» v =>
    cases v with
    | str _ => cases h
    | _ => rfl
theorem isB_stop (ks : List D) (r : List D) : isB ks (.tup (.at (.str "stop") :: r)) = decide (r.length = 0) := by
  rcases r with _ | ⟨a, _ | ⟨b, _ | ⟨c, _ | ⟨d, _ | ⟨e, _ | ⟨f, r⟩⟩⟩⟩⟩⟩
  all_goals first | rfl | (cases c <;> rfl)
theorem isB_say (ks : List D) (r : List D) : isB ks (.tup (.at (.str "say") :: r)) = sayOr r := by
  rcases r with _ | ⟨a, _ | ⟨b, _ | ⟨c, _ | ⟨d, _ | ⟨e, _ | ⟨f, r⟩⟩⟩⟩⟩⟩
  all_goals first | rfl | exact Bool.true_and _ | (cases c <;> rfl)
theorem isB_ask (ks : List D) (r : List D) : isB ks (.tup (.at (.str "ask") :: r)) = askOr ks r := by
  rcases r with _ | ⟨a, _ | ⟨b, _ | ⟨c, _ | ⟨d, _ | ⟨e, _ | ⟨f, r⟩⟩⟩⟩⟩⟩
  all_goals try first | rfl | (cases c <;> rfl)
  cases c with
  | tup as =>
    show (true && (wholeB a ks.length && _ && _)) = _
    rw [Bool.true_and]
    unfold askOr askB isTup
    simp only [Bool.true_and]
    rfl
  | «at» _ =>
    show false = askB ks a b _ d e
    unfold askB isTup
    simp only [Bool.false_and, Bool.and_false]
    cases ks[numD a]? <;> simp
  | lst =>
    show false = askB ks a b _ d e
    unfold askB isTup
    simp only [Bool.false_and, Bool.and_false]
    cases ks[numD a]? <;> simp
theorem isB_other (ks : List D) {s : Str} (r : List D) (h1 : s ≠ "stop") (h2 : s ≠ "say") (h3 : s ≠ "ask") : isB ks (.tup (.at (.str s) :: r)) = false := by
  rcases r with _ | ⟨a, _ | ⟨b, _ | ⟨c, _ | ⟨d, _ | ⟨e, _ | ⟨f, r⟩⟩⟩⟩⟩⟩
  · exact decide_eq_false h1
  · show (decide (s = "say") && _) = false
    rw [decide_eq_false h2]
    rfl
  · rfl
  · cases c <;> rfl
  · cases c <;> rfl
  · cases c with
    | tup as =>
      show (decide (s = "ask") && _) = false
      rw [decide_eq_false h3]
      rfl
    | «at» _ => rfl
    | lst => rfl
  · cases c <;> rfl
theorem isB_nostr (ks : List D) {x : D} (r : List D) (h : isStr x = false) (hx : ∀ v, x = .at v → flat4 v = true) : isB ks (.tup (x :: r)) = false := by
  cases x with
  | tup l =>
    rcases r with _ | ⟨a, _ | ⟨b, _ | ⟨c, _ | ⟨d, _ | ⟨e, _ | ⟨f, r⟩⟩⟩⟩⟩⟩
    all_goals first | rfl | (cases c <;> rfl)
  | lst =>
    rcases r with _ | ⟨a, _ | ⟨b, _ | ⟨c, _ | ⟨d, _ | ⟨e, _ | ⟨f, r⟩⟩⟩⟩⟩⟩
    all_goals first | rfl | (cases c <;> rfl)
  | «at» v =>
    have hv := hx v rfl
    cases v with
    | str s => cases h
    | byt _ => cases hv
    | flt _ => cases hv
    | ref _ => cases hv
    | ty _ => cases hv
    | non =>
      rcases r with _ | ⟨a, _ | ⟨b, _ | ⟨c, _ | ⟨d, _ | ⟨e, _ | ⟨f, r⟩⟩⟩⟩⟩⟩
      all_goals first | rfl | (cases c <;> rfl)
    | bl _ =>
      rcases r with _ | ⟨a, _ | ⟨b, _ | ⟨c, _ | ⟨d, _ | ⟨e, _ | ⟨f, r⟩⟩⟩⟩⟩⟩
      all_goals first | rfl | (cases c <;> rfl)
    | int _ =>
      rcases r with _ | ⟨a, _ | ⟨b, _ | ⟨c, _ | ⟨d, _ | ⟨e, _ | ⟨f, r⟩⟩⟩⟩⟩⟩
      all_goals first | rfl | (cases c <;> rfl)
theorem isPr_len (ks : List D) (kd : D) (l : List D) (h : l.length ≠ 3) : isPr ks kd (.tup l) = false := by
  match l with
  | [] => rfl
  | [x] => cases x <;> first | rfl | (rename_i v; cases v <;> rfl)
  | [x, _] => cases x <;> first | rfl | (rename_i v; cases v <;> rfl)
  | [_, _, _] => exact absurd rfl h
  | x :: _ :: _ :: _ :: _ => cases x <;> first | rfl | (rename_i v; cases v <;> rfl)
theorem isPr_three (ks : List D) (kd x m b : D) : isPr ks kd (.tup [x, m, b]) = prOr ks kd x m b := by
  cases x with
  | tup _ => rfl
  | lst => rfl
  | «at» v =>
    cases v with
    | str s => exact Bool.and_true _
    | _ => rfl
theorem isPr_no (ks : List D) (kd d : D) (h : isTup d = false) : isPr ks kd d = false := by
  cases d with
  | tup _ => cases h
  | lst => rfl
  | «at» v => rfl
theorem isPs_cons (ks : List D) (kd d : D) (ds ts : List D) : isPs ks (kd :: ds) (d :: ts) = (isPr ks kd d && isPs ks ds ts) := by
  have key : ∀ l : List D, isPs ks (kd :: ds) (.tup l :: ts) = (isPr ks kd (.tup l) && isPs ks ds ts) := by
    intro l
    by_cases hl : l.length = 3
    · match l, hl with
      | [x, m, b], _ =>
        rw [isPr_three]
        cases x with
        | tup _ => rfl
        | lst => rfl
        | «at» v =>
          cases v with
          | str s => rfl
          | _ => rfl
    · rw [isPr_len ks kd l hl, Bool.false_and]
      match l with
      | [] => rfl
      | [x] => cases x <;> first | rfl | (rename_i v; cases v <;> rfl)
      | [x, _] => cases x <;> first | rfl | (rename_i v; cases v <;> rfl)
      | [_, _, _] => exact absurd rfl hl
      | x :: _ :: _ :: _ :: _ => cases x <;> first | rfl | (rename_i v; cases v <;> rfl)
  cases d with
  | tup l => exact key l
  | lst => rfl
  | «at» v => rfl
theorem isPs_len (ks : List D) : ∀ (ds ts : List D), ds.length ≠ ts.length → isPs ks ds ts = false
  | [], [], h => absurd rfl h
  | [], _ :: _, _ => rfl
  | _ :: _, [], _ => rfl
  | a :: ds, b :: ts, h => by
    rw [isPs_cons, isPs_len ks ds ts (fun e => h (congrArg Nat.succ e)), Bool.and_false]
theorem isPs_snoc (ks : List D) : ∀ (ds ts : List D) (d t : D), ds.length = ts.length → isPs ks (ds ++ [d]) (ts ++ [t]) = (isPs ks ds ts && isPr ks d t)
  | [], [], d, t, _ => by
    show isPs ks [d] [t] = (true && isPr ks d t)
    rw [Bool.true_and]
    rfl
  | a :: ds, b :: ts, d, t, h => by
    show isPs ks (a :: (ds ++ [d])) (b :: (ts ++ [t])) = _
    rw [isPs_cons, isPs_snoc ks ds ts d t (Nat.succ.inj h), isPs_cons, Bool.and_assoc]
  | [], _ :: _, _, _, h => by cases h
  | _ :: _, [], _, _, h => by cases h
theorem isInt_inv {d : D} (h : isInt d = true) (hb : isBool d = false) : ∃ i, d = .at (.int i) := by
  cases d with
  | tup _ => cases h
  | lst => cases h
  | «at» v =>
    cases v with
    | int i => exact ⟨i, rfl⟩
    | bl _ => cases hb
    | _ => cases h
theorem whole_inv {d : D} {m : Nat} (h : wholeB d m = true) : ∃ n : Nat, d = .at (.int (n : Int)) ∧ n < m ∧ numD d = n := by
  cases d with
  | tup _ => cases h
  | lst => cases h
  | «at» v =>
    cases v with
    | int i =>
      have k := Bool.and_eq_true_iff.mp h
      have k1 := of_decide_eq_true k.1
      have k2 := of_decide_eq_true k.2
      refine ⟨i.toNat, ?_, by omega, rfl⟩
      rw [show ((i.toNat : Nat) : Int) = i by omega]
    | _ => cases h
theorem isStr_inv {K : PySem.W.Frag} {H : Hp} {v : V} {d : D} (r : Rep K H v d) (h : isStr d = true) : ∃ s, d = .at (.str s) ∧ v = .str s := by
  cases r with
  | lst _ => cases h
  | tup _ _ => cases h
  | «at» hf =>
    cases v with
    | str s => exact ⟨s, rfl, rfl⟩
    | non => cases h
    | bl _ => cases h
    | int _ => cases h
    | byt _ => cases hf
    | flt _ => cases hf
    | ref _ => cases hf
    | ty _ => cases hf
theorem rep_flat {K : PySem.W.Frag} {H : Hp} {v : V} {d : D} (r : Rep K H v d) : ∀ w, d = .at w → flat4 w = true := by
  intro w e
  subst e
  exact (r.inva).1 ▸ (r.inva).2
section
variable {P : Program} {w : World} {K : PySem.W.Frag} {mg : Str → Option Value} {base : Heap}
def spWhole (K : PySem.W.Frag) : Sp := fun vs H Q _ => ∃ (v : V) (d : D) (m : Nat), vs = [v, .int m] ∧ Rep K H v d ∧ Q (.bl (wholeB d m)) H
theorem ok_whole {f : Addr} {fd : FuncData} (D__law_is_whole : Df K mg "_law_is_whole" s__law_is_whole ["value", "most"] f fd) (B : Bt mg) : FnOk P w K mg base CX0 1 f fd ["value", "most"] (spWhole K) := by
  refine D__law_is_whole.ok c__law_is_whole (fun vs H Q E h => ?_) (fun cdv A outer s H vs Q E hr h => ?_)
  · obtain ⟨v, d, m, rfl, _⟩ := h
    rfl
  obtain ⟨v, d, m, rfl, rv, q⟩ := h
  have nd := c__law_is_whole.nd
  refine ⟨_, (pss_one (ps_ret (pe_and (pe_callB call_isi (by rfl) B.b_isinstance (by decide +kernel) (pa_cons (pv 0) (pa_cons (pe_bltn (v := .ty "int") (by rfl) B.b_int (by decide +kernel) rfl) pa_nil))) (pe_and (pe_not (pe_callB call_isi (by rfl) B.b_isinstance (by decide +kernel) (pa_cons (pv 0) (pa_cons (pe_bltn (v := .ty "bool") (by rfl) B.b_bool (by decide +kernel) rfl) pa_nil)))) (pe_one (pe_chain op_le op_lt pe_int (pv 0) (pv 1))))))), ?_⟩
  refine ⟨_, rfl, _, _, _, _, _, rfl, .ty _, rep_ty rv, kit_ty (kit_int _), ⟨_, rfl, ?_⟩⟩
  cases d with
  | tup _ => exact iteF q
  | lst => exact iteF q
  | «at» x =>
    obtain ⟨rfl, hf⟩ := rv.inva
    cases v with
    | non => exact iteF q
    | str _ => exact iteF q
    | byt _ => cases hf
    | flt _ => cases hf
    | ref _ => cases hf
    | ty _ => cases hf
    | bl b => exact iteT ⟨_, rfl, _, _, _, _, _, rfl, .ty _, rep_ty rv, kit_ty (kit_bool _), ⟨_, rfl, ⟨_, rfl, iteF q⟩⟩⟩
    | int i =>
      refine iteT ⟨_, rfl, _, _, _, _, _, rfl, .ty _, rep_ty rv, kit_ty (kit_bool _), ⟨_, rfl, ⟨_, rfl, iteT ?_⟩⟩⟩
      have e : wholeB (.at (.int i)) m = (decide (0 ≤ i) && decide (i < (m : Nat))) := rfl
      rw [e] at q
      refine ⟨_, rfl, _, _, rfl, rfl, _, rfl, ?_⟩
      cases h0 : decide ((0 : Int) ≤ i) with
      | false =>
        rw [h0, Bool.false_and] at q
        exact iteF q
      | true =>
        rw [h0, Bool.true_and] at q
        exact iteT ⟨_, rfl, _, _, rfl, rfl, q⟩
/-- the kinds of the programs around, from the innermost on, as a list that stands -/
def KsAt (K : PySem.W.Frag) (H : Hp) (v : V) (ks : List D) : Prop := ∃ (l : Addr) (kvs : List V), v = .ref l ∧ H l = some (.lst kvs) ∧ Reps K H kvs ks.reverse ∧ ∀ k ∈ ks, Kd k
theorem KsAt.same {H H' : Hp} {v : V} {ks : List D} (h : KsAt K H v ks) (s : Same H H') : KsAt K H' v ks := by
  obtain ⟨l, kvs, e, h1, h2, h3⟩ := h
  exact ⟨l, kvs, e, s _ _ h1, h2.mono (kx_same s), h3⟩
def spIsA (K : PySem.W.Frag) (n : Nat) : Sp := fun vs H Q _ => ∃ (kv v : V) (ks : List D) (x up k as z o : D), vs = [kv, v] ∧ KsAt K H kv ks ∧ Rep K H v (.tup [x, up, k, as, z, o]) ∧ dep (.tup [x, up, k, as, z, o]) < n ∧ ks.length + n ≤ 1000 ∧ ∀ H', Same H H' → Q (.bl (askB ks up k as z o)) H'
def spIsB (K : PySem.W.Frag) (n : Nat) : Sp := fun vs H Q _ => ∃ (kv v : V) (ks : List D) (d : D), vs = [kv, v] ∧ KsAt K H kv ks ∧ Rep K H v d ∧ dep d < n ∧ ks.length + n ≤ 1000 ∧ ∀ H', Same H H' → Q (.bl (isB ks d)) H'
def spIsP (K : PySem.W.Frag) (n : Nat) : Sp := fun vs H Q _ => ∃ (kv v : V) (kd : D) (ks : List D) (d : D), vs = [kv, v] ∧ KsAt K H kv (kd :: ks) ∧ Rep K H v d ∧ dep d < n ∧ ks.length + 1 + n ≤ 1000 ∧ ∀ H', Same H H' → Q (.bl (isPr ks kd d)) H'
theorem at_one {xs : List V} {v : V} (h : xs[1]? = some v) : atI xs (1 : Int) = some v := atI_nat (j := 1) h
theorem ok_isb {n : Nat} {f1 f2 f3 : Addr} {d1 d2 d3 : FuncData} (D__law_is_body : Df K mg "_law_is_body" s__law_is_body ["kinds", "value"] f1 d1) (D__law_is_ask : Df K mg "_law_is_ask" s__law_is_ask ["kinds", "value"] f2 d2) (D__law_is_whole : Df K mg "_law_is_whole" s__law_is_whole ["value", "most"] f3 d3) (B : Bt mg)
    (G__law_is_ask : FnOk P w K mg base CX0 (3 * n + 4) f2 d2 ["kinds", "value"] (spIsA K (n + 1))) : FnOk P w K mg base CX0 (3 * n + 5) f1 d1 ["kinds", "value"] (spIsB K (n + 1)) := by
  have G__law_is_whole : FnOk P w K mg base CX0 1 f3 d3 ["value", "most"] (spWhole K) := ok_whole D__law_is_whole B
  refine D__law_is_body.ok c__law_is_body (fun vs H Q E h => ?_) (fun cdv A outer s H vs Q E hr h => ?_)
  · obtain ⟨kv, v, ks, d, rfl, _⟩ := h
    rfl
  obtain ⟨kv, v, ks, d, rfl, hks, rv, hdp, hn, q⟩ := h
  have nd := c__law_is_body.nd
  refine ⟨_, (pss_cons (ps_if (PW.pt (pw_or (pt_not (pt_val (pe_callB call_isi (by rfl) B.b_isinstance (by decide +kernel) (pa_cons (pv 1) (pa_cons (pe_bltn (v := .ty "tuple") (by rfl) B.b_tuple (by decide +kernel) rfl) pa_nil))))) (pw_or (pt_cmpR op_eq (pe_callB call_len_seq (by rfl) B.b_len PySem.boot_len (pa_cons (pv 1) pa_nil)) pe_int (nomark _)) (pw_or1 (pt_not (pt_val (pe_callB call_isi (by rfl) B.b_isinstance (by decide +kernel) (pa_cons (pe_ix ix_tup (pv 1) pe_int (fun _ _ => rfl)) (pa_cons (pe_bltn (v := .ty "str") (by rfl) B.b_str (by decide +kernel) rfl) pa_nil))))))))) (pss_one (ps_ret pe_bl)) pss_nil)
  (pss_cons (ps_if (pt_cmpR op_eq (pe_ix ix_tup (pv 1) pe_int (fun _ _ => rfl)) pe_str (nomark _)) (pss_one (ps_ret (pe_cmpR op_eq (pe_callB call_len_seq (by rfl) B.b_len PySem.boot_len (pa_cons (pv 1) pa_nil)) pe_int (nomark _)))) pss_nil)
  (pss_cons (ps_if (pt_cmpR op_eq (pe_ix ix_tup (pv 1) pe_int (fun _ _ => rfl)) pe_str (nomark _)) (pss_one (ps_ret (pe_and (pe_cmpR op_eq (pe_callB call_len_seq (by rfl) B.b_len PySem.boot_len (pa_cons (pv 1) pa_nil)) pe_int (nomark _)) (pe_one (pe_call G__law_is_whole (hr.mono (by first | decide | omega)) (by rfl) D__law_is_whole.m D__law_is_whole.kp D__law_is_whole.b .nil pass0 (pa_cons (pe_ix ix_tup (pv 1) pe_int (fun _ _ => rfl)) (pa_cons pe_int pa_nil))))))) pss_nil)
  (pss_one (ps_ret (pe_and (pe_cmpR op_eq (pe_ix ix_tup (pv 1) pe_int (fun _ _ => rfl)) pe_str (nomark _)) (pe_and (pe_cmpR op_eq (pe_callB call_len_seq (by rfl) B.b_len PySem.boot_len (pa_cons (pv 1) pa_nil)) pe_int (nomark _)) (pe_one (pe_call G__law_is_ask (hr.mono (by first | decide | omega)) (by rfl) D__law_is_ask.m D__law_is_ask.kp D__law_is_ask.b .nil pass0 (pa_cons (pv 0) (pa_cons (pv 1) pa_nil))))))))))), ?_⟩
  refine ⟨_, rfl, _, _, _, _, _, rfl, .ty _, rep_ty rv, kit_ty (kit_tup _), ⟨_, rfl, ?_⟩⟩
  cases d with
  | lst => exact iteT (q H (Same.refl H))
  | «at» x => exact iteT (q H (Same.refl H))
  | tup ts =>
    refine iteF ?_
    obtain ⟨a, xs, rfl, hx, rx⟩ := rv.inv
    have lx := rx.length
    refine ⟨_, rfl, a, xs, rfl, .inr hx.sq, rfl, _, rfl, ?_⟩
    cases rx with
    | nil => exact iteT (q H (Same.refl H))
    | @cons x0 t0 xr tr r0 rr =>
      have lr := rr.length
      refine ite2 (fun z => ?_) (fun _ => ?_)
      · have z2 := of_decide_eq_true z
        have z3 : ((xr.length + 1 : Nat) : Int) = 0 := V.int.inj z2
        omega
      refine ⟨_, rfl, a, _, 0, x0, rfl, rfl, hx.sq, atI_nat (j := 0) rfl, _, _, _, _, _, rfl, .ty _, rep_ty r0, kit_ty (kit_str _), ⟨_, rfl, ?_⟩⟩
      cases hs : isStr t0 with
      | false =>
        refine iteT ?_
        have e := isB_nostr ks tr hs (rep_flat r0)
        rw [e] at q
        exact q H (Same.refl H)
      | true =>
        refine iteF ?_
        obtain ⟨s, rfl, rfl⟩ := isStr_inv r0 hs
        refine ⟨_, rfl, a, _, 0, _, rfl, rfl, hx.sq, atI_nat (j := 0) rfl, rfl, _, rfl, ite2 (fun z => ?_) (fun z => ?_)⟩
        · have es : s = "stop" := V.str.inj (of_decide_eq_true z)
          subst es
          refine ⟨_, rfl, a, _, rfl, .inr hx.sq, rfl, ?_⟩
          have e : decide (V.int (((V.str "stop" :: xr).length : Nat) : Int) = V.int 1) = isB ks (.tup (.at (.str "stop") :: tr)) := by
            rw [isB_stop]
            by_cases h0 : tr.length = 0
            · rw [decide_eq_true h0]
              refine decide_eq_true ?_
              rw [List.length_cons, lr, h0]
              rfl
            · rw [decide_eq_false h0]
              refine decide_eq_false fun z => h0 ?_
              have z3 : ((xr.length + 1 : Nat) : Int) = 1 := V.int.inj z
              omega
          rw [e]
          exact q H (Same.refl H)
        have ns1 : s ≠ "stop" := fun e => z (decide_eq_true (by rw [e]))
        refine ⟨_, rfl, a, _, 0, _, rfl, rfl, hx.sq, atI_nat (j := 0) rfl, rfl, _, rfl, ite2 (fun y => ?_) (fun y => ?_)⟩
        · have es : s = "say" := V.str.inj (of_decide_eq_true y)
          subst es
          refine ⟨_, rfl, a, _, rfl, .inr hx.sq, rfl, _, rfl, ?_⟩
          rw [isB_say] at q
          cases rr with
          | nil => exact iteF (q H (Same.refl H))
          | @cons x1 t1 xr2 tr2 r1 rr2 =>
            cases rr2 with
            | nil => exact iteT ⟨_, rfl, a, _, 1, x1, rfl, rfl, hx.sq, atI_nat (j := 1) rfl, x1, t1, 2, rfl, r1, q H (Same.refl H)⟩
            | @cons x2 t2 xr3 tr3 r2 rr3 =>
              refine ite2 (fun e => ?_) (fun _ => q H (Same.refl H))
              have z3 : ((xr3.length + 1 + 1 + 1 : Nat) : Int) = 2 := V.int.inj (of_decide_eq_true e)
              omega
        have ns2 : s ≠ "say" := fun e => y (decide_eq_true (by rw [e]))
        refine ⟨_, rfl, a, _, 0, _, rfl, rfl, hx.sq, atI_nat (j := 0) rfl, rfl, _, rfl, ite2 (fun x => ?_) (fun x => ?_)⟩
        · have es : s = "ask" := V.str.inj (of_decide_eq_true x)
          subst es
          rw [isB_ask] at q
          refine ⟨_, rfl, a, _, rfl, .inr hx.sq, rfl, _, rfl, ?_⟩
          by_cases h5 : tr.length = 5
          · obtain ⟨up, k, as, z, o, rfl⟩ : ∃ up k as z o, tr = [up, k, as, z, o] := by
              match tr, h5 with
              | [a, b, c, d, e], _ => exact ⟨_, _, _, _, _, rfl⟩
            have e6 : decide (V.int (((V.str "ask" :: xr).length : Nat) : Int) = V.int 6) = true := by
              refine decide_eq_true ?_
              rw [List.length_cons, lr]
              rfl
            rw [e6]
            exact iteT ⟨_, rfl, _, rfl, kv, .ref a, ks, _, up, k, as, z, o, rfl, hks, rv, hdp, hn, q⟩
          · have e6 : decide (V.int (((V.str "ask" :: xr).length : Nat) : Int) = V.int 6) = false := by
              refine decide_eq_false fun e => h5 ?_
              have z3 : ((xr.length + 1 : Nat) : Int) = 6 := V.int.inj e
              omega
            rw [e6]
            rw [askOr_no ks tr h5] at q
            exact iteF (q H (Same.refl H))
        · have ns3 : s ≠ "ask" := fun e => x (decide_eq_true (by rw [e]))
          rw [isB_other ks tr ns1 ns2 ns3] at q
          exact q H (Same.refl H)
theorem ok_isp {n : Nat} {f1 f2 f3 : Addr} {d1 d2 d3 : FuncData} (D__law_is_program : Df K mg "_law_is_program" s__law_is_program ["kinds", "value"] f1 d1) (D__law_is_body : Df K mg "_law_is_body" s__law_is_body ["kinds", "value"] f2 d2) (D__law_is_whole : Df K mg "_law_is_whole" s__law_is_whole ["value", "most"] f3 d3) (B : Bt mg)
    (G__law_is_body : FnOk P w K mg base CX0 (3 * n + 5) f2 d2 ["kinds", "value"] (spIsB K (n + 1))) : FnOk P w K mg base CX0 (3 * n + 6) f1 d1 ["kinds", "value"] (spIsP K (n + 1)) := by
  have G__law_is_whole : FnOk P w K mg base CX0 1 f3 d3 ["value", "most"] (spWhole K) := ok_whole D__law_is_whole B
  refine D__law_is_program.ok c__law_is_program (fun vs H Q E h => ?_) (fun cdv A outer s H vs Q E hr h => ?_)
  · obtain ⟨kv, v, kd, ks, d, rfl, _⟩ := h
    rfl
  obtain ⟨kv, v, kd, ks, d, rfl, hks, rv, hdp, hn, q⟩ := h
  have nd := c__law_is_program.nd
  refine ⟨_, (pss_cons (ps_if (PW.pt (pw_or (pt_not (pt_val (pe_callB call_isi (by rfl) B.b_isinstance (by decide +kernel) (pa_cons (pv 1) (pa_cons (pe_bltn (v := .ty "tuple") (by rfl) B.b_tuple (by decide +kernel) rfl) pa_nil))))) (pw_or (pt_cmpR op_ne (pe_callB call_len_seq (by rfl) B.b_len PySem.boot_len (pa_cons (pv 1) pa_nil)) pe_int (nomark _)) (pw_or (pt_not (pt_val (pe_callB call_isi (by rfl) B.b_isinstance (by decide +kernel) (pa_cons (pe_ix ix_tup (pv 1) pe_int (fun _ _ => rfl)) (pa_cons (pe_bltn (v := .ty "str") (by rfl) B.b_str (by decide +kernel) rfl) pa_nil))))) (pw_or1 (pt_cmpR op_ne (pe_ix ix_tup (pv 1) pe_int (fun _ _ => rfl)) pe_str (nomark _))))))) (pss_one (ps_ret pe_bl)) pss_nil)
  (pss_cons (ps_if (PW.pt (pw_or (pt_not (pt_val (pe_call G__law_is_whole (hr.mono (by first | decide | omega)) (by rfl) D__law_is_whole.m D__law_is_whole.kp D__law_is_whole.b .nil pass0 (pa_cons (pe_ix ix_tup (pv 1) pe_int (fun _ _ => rfl)) (pa_cons pe_int pa_nil))))) (pw_or1 (pt_cmpR op_ne (pe_ix ix_tup (pv 1) pe_int (fun _ _ => rfl)) (pe_callB call_len_seq (by rfl) B.b_len PySem.boot_len (pa_cons (pe_ix ix_list (pv 0) (pe_un un_neg pe_int) (fun _ _ => rfl)) pa_nil)) (nomark _))))) (pss_one (ps_ret pe_bl)) pss_nil)
  (pss_one (ps_ret (pe_call G__law_is_body (hr.mono (by first | decide | omega)) (by rfl) D__law_is_body.m D__law_is_body.kp D__law_is_body.b .nil pass0 (pa_cons (pv 0) (pa_cons (pe_ix ix_tup (pv 1) pe_int (fun _ _ => rfl)) pa_nil))))))), ?_⟩
  refine ⟨_, rfl, _, _, _, _, _, rfl, .ty _, rep_ty rv, kit_ty (kit_tup _), ⟨_, rfl, ?_⟩⟩
  cases d with
  | lst => exact iteT (q H (Same.refl H))
  | «at» x => exact iteT (q H (Same.refl H))
  | tup ts =>
    refine iteF ?_
    obtain ⟨a, xs, rfl, hx, rx⟩ := rv.inv
    have lx := rx.length
    refine ⟨_, rfl, a, xs, rfl, .inr hx.sq, rfl, _, rfl, ?_⟩
    by_cases h3 : ts.length = 3
    · have e3 : (!decide (V.int ((xs.length : Nat) : Int) = V.int 3)) = false := by
        rw [lx, h3]
        rfl
      rw [e3]
      refine iteF ?_
      obtain ⟨x, m, b, rfl⟩ : ∃ x m b, ts = [x, m, b] := by
        match ts, h3 with
        | [a, b, c], _ => exact ⟨_, _, _, rfl⟩
      cases rx with
      | @cons x0 _ xr _ r0 rr =>
      cases rr with
      | @cons x1 _ xr _ r1 rr =>
      cases rr with
      | @cons x2 _ xr _ r2 rr =>
      cases rr
      have e : isPr ks kd (.tup [x, m, b]) = prOr ks kd x m b := isPr_three ks kd x m b
      rw [e] at q
      refine ⟨_, rfl, a, _, 0, x0, rfl, rfl, hx.sq, atI_nat (j := 0) rfl, _, _, _, _, _, rfl, .ty _, rep_ty r0, kit_ty (kit_str _), ⟨_, rfl, ?_⟩⟩
      cases hs : isStr x with
      | false =>
        refine iteT ?_
        rw [prOr_no ks kd x m b hs] at q
        exact q H (Same.refl H)
      | true =>
        refine iteF ?_
        obtain ⟨s, rfl, rfl⟩ := isStr_inv r0 hs
        refine ⟨_, rfl, a, _, 0, _, rfl, rfl, hx.sq, atI_nat (j := 0) rfl, rfl, _, rfl, ?_⟩
        by_cases es : s = "program"
        · subst es
          rw [show (!decide (V.str "program" = V.str "program")) = false from by rw [decide_eq_true rfl]; rfl]
          refine iteF ?_
          have e4 : prOr ks kd (.at (.str "program")) m b = ((wholeB m 99 && decide (numD m = (args kd).length)) && isB (kd :: ks) b) := Bool.true_and _
          rw [e4] at q
          refine ⟨_, rfl, a, _, 1, x1, rfl, rfl, hx.sq, atI_nat (j := 1) rfl, x1, m, 99, rfl, r1, _, rfl, ?_⟩
          cases hw : wholeB m 99 with
          | false =>
            rw [hw, Bool.false_and, Bool.false_and] at q
            exact iteT (q H (Same.refl H))
          | true =>
            rw [hw, Bool.true_and] at q
            refine iteF ?_
            obtain ⟨mn, rfl, hmn, hnum⟩ := whole_inv hw
            obtain ⟨rfl, _⟩ := r1.inva
            obtain ⟨l, kvs, rfl, hl, rk, hK⟩ := hks
            have hkd := hK kd (List.mem_cons_self ..)
            obtain ⟨pts, rfl, hpts⟩ := isK_inv hkd.1
            have hne : kvs ≠ [] := fun z => by
              subst z
              have := rk.length
              rw [List.length_reverse, List.length_cons] at this
              cases this
            obtain ⟨kx, kd2, es2, hlast, hde, rkx, _⟩ := rk.last hne
            rw [List.reverse_cons] at hde
            have hde2 := List.append_inj' hde rfl
            have ek : (.tup pts : D) = kd2 := (List.cons.inj hde2.2).1
            subst ek
            obtain ⟨ka, kxs, rfl, hka, rka⟩ := rkx.inv
            have lka := rka.length
            have hatl : atI kvs (-1) = some (.ref ka) := by
              have e1 : kvs = kvs.dropLast ++ [.ref ka] := by
                have h1 := List.dropLast_concat_getLast hne
                rw [List.getLast_eq_getElem] at h1
                rw [List.getElem?_eq_getElem (by have := List.length_pos_iff.mpr hne; omega)] at hlast
                rw [Option.some.inj hlast] at h1
                exact h1.symm
              rw [e1]
              exact atI_last _ _
            refine ⟨_, rfl, a, _, 1, _, rfl, rfl, hx.sq, atI_nat (j := 1) rfl, _, rfl, 1, rfl, l, kvs, -1, _, rfl, rfl, SqL.of hl, hatl, ka, kxs, rfl, .inr hka.sq, rfl, _, rfl, ?_⟩
            have eq1 : (!decide (V.int ((mn : Nat) : Int) = V.int ((kxs.length : Nat) : Int))) = (!decide (numD (.at (.int (mn : Int))) = (args (.tup pts)).length)) := by
              rw [hnum]
              have e2 : (args (.tup pts)).length = kxs.length := lka.symm
              rw [e2]
              by_cases h1 : mn = kxs.length
              · rw [decide_eq_true h1, decide_eq_true (by rw [h1])]
              · rw [decide_eq_false h1, decide_eq_false (fun z => h1 (by have := V.int.inj z; omega))]
            rw [eq1]
            cases hd : decide (numD (.at (.int (mn : Int))) = (args (.tup pts)).length) with
            | false =>
              rw [hd, Bool.false_and] at q
              exact iteT (q H (Same.refl H))
            | true =>
              rw [hd, Bool.true_and] at q
              refine iteF ?_
              refine ⟨_, rfl, _, rfl, a, _, 2, x2, rfl, rfl, hx.sq, atI_nat (j := 2) rfl, .ref l, x2, (.tup pts) :: ks, b, rfl, ⟨l, kvs, rfl, hl, rk, hK⟩, r2, ?_, by rw [List.length_cons]; omega, q⟩
              have : deps [.at (.str "program"), .at (.int (mn : Int)), b] < n + 1 := hdp
              have h2 : dep b + 1 ≤ deps [.at (.str "program"), .at (.int (mn : Int)), b] := dep_mem (by simp)
              omega
        · rw [show (!decide (V.str s = V.str "program")) = true from by rw [decide_eq_false (fun z => es (V.str.inj z))]; rfl]
          have e4 : prOr ks kd (.at (.str s)) m b = false := by
            show (decide (s = "program") && (wholeB m 99 && decide (numD m = (args kd).length)) && isB (kd :: ks) b) = false
            rw [decide_eq_false es, Bool.false_and, Bool.false_and]
          rw [e4] at q
          exact iteT (q H (Same.refl H))
    · have e3 : (!decide (V.int ((xs.length : Nat) : Int) = V.int 3)) = true := by
        rw [decide_eq_false (fun z => h3 (by
          have z2 : ((xs.length : Nat) : Int) = 3 := V.int.inj z
          omega))]
        rfl
      rw [e3]
      have e : isPr ks kd (.tup ts) = false := isPr_len ks kd ts h3
      rw [e] at q
      exact iteT (q H (Same.refl H))
theorem ok_isa {n : Nat} {f1 f2 f3 f4 : Addr} {d1 d2 d3 d4 : FuncData} (D__law_is_ask : Df K mg "_law_is_ask" s__law_is_ask ["kinds", "value"] f1 d1) (D__law_is_body : Df K mg "_law_is_body" s__law_is_body ["kinds", "value"] f2 d2) (D__law_is_whole : Df K mg "_law_is_whole" s__law_is_whole ["value", "most"] f3 d3)
    (D__law_is_program : Df K mg "_law_is_program" s__law_is_program ["kinds", "value"] f4 d4) (B : Bt mg)
    (G__law_is_body : FnOk P w K mg base CX0 (3 * n + 2) f2 d2 ["kinds", "value"] (spIsB K n)) (G__law_is_program : FnOk P w K mg base CX0 (3 * n + 3) f4 d4 ["kinds", "value"] (spIsP K n)) :
    FnOk P w K mg base CX0 (3 * n + 4) f1 d1 ["kinds", "value"] (spIsA K (n + 1)) := by
  have G__law_is_whole : FnOk P w K mg base CX0 1 f3 d3 ["value", "most"] (spWhole K) := ok_whole D__law_is_whole B
  refine D__law_is_ask.ok c__law_is_ask (fun vs H Q E h => ?_) (fun cdv A outer s H vs Q E hr h => ?_)
  · obtain ⟨kv, v, ks, x, up, k, as, z, o, rfl, _⟩ := h
    rfl
  obtain ⟨kv, v, ks, x, up, k, as, z, o, rfl, hks, rv, hdp, hn, q⟩ := h
  have nd := c__law_is_ask.nd
  refine ⟨_, (pss_cons (ps_if (pt_not (pt_val (pe_call G__law_is_whole (hr.mono (by first | decide | omega)) (by rfl) D__law_is_whole.m D__law_is_whole.kp D__law_is_whole.b .nil pass0 (pa_cons (pe_ix ix_tup (pv 1) pe_int (fun _ _ => rfl)) (pa_cons (pe_callB call_len_seq (by rfl) B.b_len PySem.boot_len (pa_cons (pv 0) pa_nil)) pa_nil))))) (pss_one (ps_ret pe_bl)) pss_nil)
  (pss_cons (ps_set (i := 2) nd rfl (Or.inl rfl) (pe_ix ix_list (pv 0) (pe_op op_sub (pe_op op_sub (pe_callB call_len_seq (by rfl) B.b_len PySem.boot_len (pa_cons (pv 0) pa_nil)) pe_int) (pe_ix ix_tup (pv 1) pe_int (fun _ _ => rfl))) (fun _ _ => rfl)))
  (pss_cons (ps_if (PW.pt (pw_or (pt_not (pt_val (pe_call G__law_is_whole (hr.mono (by first | decide | omega)) (by rfl) D__law_is_whole.m D__law_is_whole.kp D__law_is_whole.b .nil pass0 (pa_cons (pe_ix ix_tup (pv 1) pe_int (fun _ _ => rfl)) (pa_cons (pe_callB call_len_seq (by rfl) B.b_len PySem.boot_len (pa_cons (pv 2) pa_nil)) pa_nil))))) (pw_or1 (pt_not (pt_val (pe_callB call_isi (by rfl) B.b_isinstance (by decide +kernel) (pa_cons (pe_ix ix_tup (pv 1) pe_int (fun _ _ => rfl)) (pa_cons (pe_bltn (v := .ty "tuple") (by rfl) B.b_tuple (by decide +kernel) rfl) pa_nil)))))))) (pss_one (ps_ret pe_bl)) pss_nil)
  (pss_cons (ps_set (i := 3) nd rfl (Or.inl rfl) (pe_ix ix_tup (pv 2) (pe_ix ix_tup (pv 1) pe_int (fun _ _ => rfl)) (fun _ _ => rfl)))
  (pss_cons (ps_if (pt_cmpR op_ne (pe_callB call_len_seq (by rfl) B.b_len PySem.boot_len (pa_cons (pe_ix ix_tup (pv 1) pe_int (fun _ _ => rfl)) pa_nil)) (pe_callB call_len_seq (by rfl) B.b_len PySem.boot_len (pa_cons (pv 3) pa_nil)) (nomark _)) (pss_one (ps_ret pe_bl)) pss_nil)
  (pss_cons (ps_for PassesOwn.never rfl (pi_range1 (by rfl) B.b_range (pa_cons (pe_callB call_len_seq (by rfl) B.b_len PySem.boot_len (pa_cons (pv 3) pa_nil)) pa_nil)) (pg_name (i := 4) nd rfl (Or.inl rfl)) (pss_one (ps_if (pt_not (pt_val (pe_call G__law_is_program (hr.mono (by first | decide | omega)) (by rfl) D__law_is_program.m D__law_is_program.kp D__law_is_program.b .nil pass0 (pa_cons (pe_op op_cat (pv 0) (pe_lst (pa_cons (pe_ix ix_tup (pv 3) (pv 4) (fun _ _ => rfl)) pa_nil))) (pa_cons (pe_ix ix_tup (pe_ix ix_tup (pv 1) pe_int (fun _ _ => rfl)) (pv 4) (fun _ _ => rfl)) pa_nil))))) (pss_one (ps_ret pe_bl)) pss_nil)))
  (pss_one (ps_ret (pe_and (pe_call G__law_is_body (hr.mono (by first | decide | omega)) (by rfl) D__law_is_body.m D__law_is_body.kp D__law_is_body.b .nil pass0 (pa_cons (pv 0) (pa_cons (pe_ix ix_tup (pv 1) pe_int (fun _ _ => rfl)) pa_nil))) (pe_one (pe_call G__law_is_body (hr.mono (by first | decide | omega)) (by rfl) D__law_is_body.m D__law_is_body.kp D__law_is_body.b .nil pass0 (pa_cons (pv 0) (pa_cons (pe_ix ix_tup (pv 1) pe_int (fun _ _ => rfl)) pa_nil))))))))))))), ?_⟩
  obtain ⟨a, xs, rfl, hx, rx⟩ := rv.inv
  have dz : dep z < n := by
    have h1 : deps [x, up, k, as, z, o] < n + 1 := hdp
    have h2 : dep z + 1 ≤ deps [x, up, k, as, z, o] := dep_mem (by simp)
    omega
  have d0 : dep o < n := by
    have h1 : deps [x, up, k, as, z, o] < n + 1 := hdp
    have h2 : dep o + 1 ≤ deps [x, up, k, as, z, o] := dep_mem (by simp)
    omega
  have das : dep as < n := by
    have h1 : deps [x, up, k, as, z, o] < n + 1 := hdp
    have h2 : dep as + 1 ≤ deps [x, up, k, as, z, o] := dep_mem (by simp)
    omega
  cases rx with
  | @cons x0 _ xr _ r0 rr =>
  cases rr with
  | @cons x1 _ xr _ r1 rr =>
  cases rr with
  | @cons x2 _ xr _ r2 rr =>
  cases rr with
  | @cons x3 _ xr _ r3 rr =>
  cases rr with
  | @cons x4 _ xr _ r4 rr =>
  cases rr with
  | @cons x5 _ xr _ r5 rr =>
  cases rr
  obtain ⟨l, kvs, rfl, hl, rk, hK⟩ := id hks
  have lk := rk.length
  rw [List.length_reverse] at lk
  unfold askB at q
  refine ⟨_, rfl, a, _, 1, x1, rfl, rfl, hx.sq, atI_nat (j := 1) rfl, _, rfl, l, kvs, rfl, .inl (SqL.of hl), x1, up, kvs.length, rfl, r1, _, rfl, ?_⟩
  rw [lk]
  cases hw : wholeB up ks.length with
  | false =>
    rw [hw, Bool.false_and, Bool.false_and] at q
    exact iteT (q H (Same.refl H))
  | true =>
    rw [hw, Bool.true_and] at q
    refine iteF ?_
    obtain ⟨un, rfl, hun, hnum⟩ := whole_inv hw
    obtain ⟨rfl, _⟩ := r1.inva
    rw [hnum] at q
    obtain ⟨ox, kd, hat, hkd, rkd⟩ := up_at rk hun (z := ((kvs.length : Nat) : Int) - 1 - ((un : Nat) : Int)) rfl
    have KD := hK kd (List.mem_of_getElem? hkd)
    obtain ⟨ts, rfl, hts⟩ := isK_inv KD.1
    obtain ⟨oa, oxs, rfl, hoa, roa⟩ := rkd.inv
    have loa := roa.length
    rw [hkd] at q
    refine ⟨_, rfl, _, rfl, l, kvs, rfl, .inl (SqL.of hl), _, _, rfl, rfl, _, rfl, a, _, 1, _, rfl, rfl, hx.sq, atI_nat (j := 1) rfl, _, _, rfl, rfl, l, kvs, _, _, rfl, rfl, SqL.of hl, hat, ?_⟩
    refine ⟨_, rfl, a, _, 2, x2, rfl, rfl, hx.sq, atI_nat (j := 2) rfl, _, rfl, oa, oxs, rfl, .inr hoa.sq, x2, k, oxs.length, rfl, r2, _, rfl, ?_⟩
    have q2 : ∀ H', Same H H' → Q (.bl ((wholeB k ts.length && (isTup as && match ts[numD k]? with
      | some a => isPs ks (args a) (args as)
      | none => false)) && (isB ks z && isB ks o))) H' := q
    rw [loa]
    cases hw2 : wholeB k ts.length with
    | false =>
      rw [hw2, Bool.false_and, Bool.false_and] at q2
      exact iteT (iteT (q2 H (Same.refl H)))
    | true =>
      rw [hw2, Bool.true_and] at q2
      refine iteF ?_
      obtain ⟨kn, rfl, hkn, hnum2⟩ := whole_inv hw2
      obtain ⟨rfl, _⟩ := r2.inva
      rw [hnum2] at q2
      refine ⟨_, rfl, a, _, 3, x3, rfl, rfl, hx.sq, atI_nat (j := 3) rfl, _, _, _, _, _, rfl, .ty _, rep_ty r3, kit_ty (kit_tup _), ⟨_, rfl, ?_⟩⟩
      have no : ∀ (b : Bool), isTup as = false → Q (.bl false) H := fun _ e => by
        rw [e, Bool.false_and, Bool.false_and] at q2
        exact q2 H (Same.refl H)
      cases as with
      | lst => exact iteT (no true rfl)
      | «at» _ => exact iteT (no true rfl)
      | tup vs =>
        refine iteF ?_
        obtain ⟨va, vxs, rfl, hva, rva⟩ := r3.inv
        have lva := rva.length
        have hkn' : kn < oxs.length := by omega
        obtain ⟨wd, hwd, rwd⟩ := roa.get (List.getElem?_eq_getElem hkn')
        have WD : Kd wd := KD.sub (k := kn) hwd
        obtain ⟨wts, rfl, hwts⟩ := isK_inv WD.1
        obtain ⟨wa, wxs, hwv, hwa, rwa⟩ := rwd.inv
        have lwa := rwa.length
        have lwz := len_szs wts
        have WZ : szs wts + 1 ≤ 1000 := WD.2
        have q3 : ∀ H', Same H H' → Q (.bl (isPs ks wts vs && (isB ks z && isB ks o))) H' := fun H' s' => by
          have q4 := q2 H' s'
          rw [hwd] at q4
          exact q4
        refine ⟨_, rfl, _, rfl, a, _, 2, _, rfl, rfl, hx.sq, atI_nat (j := 2) rfl, oa, oxs, _, _, rfl, rfl, hoa.sq, atI_nat (List.getElem?_eq_getElem hkn'), ?_⟩
        rw [hwv]
        refine ⟨_, rfl, a, _, 3, _, rfl, rfl, hx.sq, atI_nat (j := 3) rfl, va, vxs, rfl, .inr hva.sq, _, rfl, wa, wxs, rfl, .inr hwa.sq, rfl, _, rfl, ?_⟩
        by_cases hlen : vxs.length = wxs.length
        · rw [show (!decide (V.int ((vxs.length : Nat) : Int) = V.int ((wxs.length : Nat) : Int))) = false from by rw [hlen, decide_eq_true rfl]; rfl]
          refine iteF ?_
          refine ⟨_, rfl, wa, wxs, rfl, .inr hwa.sq, _, rfl, by omega, by omega, for_range (n := ((wxs.length : Nat) : Int).toNat) (fun i σ H' => Same H H' ∧ isPs ks (wts.take i) (vs.take i) = true ∧ ∃ y4, σ = [some (.ref l), some (.ref a), some (.ref oa), some (.ref wa), y4])
            ⟨Same.refl H, rfl, _, rfl⟩ ?_ ?_⟩
          · rintro i σ H1 hi ⟨s1, hps, y4, rfl⟩
            have hi1 : i < wxs.length := by omega
            have hi2 : i < vxs.length := by omega
            obtain ⟨pd, hpd, rpd⟩ := rwa.get (List.getElem?_eq_getElem hi1)
            obtain ⟨pv, hpv, rpv⟩ := rva.get (List.getElem?_eq_getElem hi2)
            have PD : Kd pd := WD.sub (k := i) hpd
            have ez : (0 : Int) + (i : Nat) = ((i : Nat) : Int) := by omega
            have aw : atI wxs ((0 : Int) + (i : Nat)) = some wxs[i] := by rw [ez]; exact atI_nat (List.getElem?_eq_getElem hi1)
            have av : atI vxs ((0 : Int) + (i : Nat)) = some vxs[i] := by rw [ez]; exact atI_nat (List.getElem?_eq_getElem hi2)
            have mv : pv ∈ vs := List.mem_of_getElem? hpv
            have dv : dep pv < n := by
              have h1 : deps vs < n := das
              have := dep_mem mv
              omega
            refine ⟨_, rfl, _, rfl, _, rfl, wa, wxs, _, _, rfl, rfl, (hwa.same s1).sq, aw, (by show 1 ≤ sizeLine; decide), fun t1 n1 => ?_⟩
            have s2 := same_new n1 (.lst [wxs[i]])
            have hl2 := s2 _ _ (s1 _ _ hl)
            refine ⟨l, t1, kvs, _, rfl, rfl, hl2, upd_same, small6' (by show kvs.length + 1 ≤ 1000000; omega), fun l2 nl2 => ?_⟩
            have s3 := same_new nl2 (.lst (kvs ++ [wxs[i]]))
            have s13 := (s1.trans s2).trans s3
            refine ⟨_, rfl, a, _, 3, _, rfl, rfl, (hx.same s13).sq, atI_nat (j := 3) rfl, _, rfl, va, vxs, _, _, rfl, rfl, (hva.same s13).sq, av, .ref l2, _, pd, ks, pv, rfl, ⟨l2, _, rfl, upd_same, ?_, ?_⟩, rpv.mono (kx_same s13), dv, by omega, fun H4 s4 => ⟨_, rfl, ?_⟩⟩
            · rw [List.reverse_cons]
              exact (rk.mono (kx_same s13)).append (.one (rpd.mono (kx_same s13)))
            · intro k hk
              rcases List.mem_cons.mp hk with e | hk
              · rw [e]
                exact PD
              · exact hK k hk
            have et : isPs ks (wts.take (i + 1)) (vs.take (i + 1)) = (isPs ks (wts.take i) (vs.take i) && isPr ks pd pv) := by
              rw [List.take_add_one, List.take_add_one, hpd, hpv]
              exact isPs_snoc ks _ _ pd pv (by rw [List.length_take, List.length_take]; omega)
            cases hpr : isPr ks pd pv with
            | true => exact iteF ⟨s13.trans s4, by rw [et, hps, hpr]; rfl, _, rfl⟩
            | false =>
              refine iteT ?_
              have ef : isPs ks wts vs = false := by
                have h1 : ∀ (ds ts : List D) (j : Nat), isPs ks ds ts = true → isPs ks (ds.take j) (ts.take j) = true := by
                  intro ds
                  induction ds with
                  | nil =>
                    intro ts j h
                    cases ts with
                    | nil => rw [List.take_nil]; exact h
                    | cons _ _ => cases h
                  | cons d ds ih =>
                    intro ts j h
                    cases ts with
                    | nil => cases h
                    | cons t ts =>
                      cases j with
                      | zero => rfl
                      | succ j =>
                        rw [isPs_cons] at h
                        have h2 := Bool.and_eq_true_iff.mp h
                        show isPs ks (d :: ds.take j) (t :: ts.take j) = true
                        rw [isPs_cons, h2.1, ih ts j h2.2]
                        rfl
                cases hb : isPs ks wts vs with
                | false => rfl
                | true =>
                  have := h1 wts vs (i + 1) hb
                  rw [et, hpr, Bool.and_false] at this
                  cases this
              rw [ef, Bool.false_and] at q3
              exact q3 H4 (s13.trans s4)
          · rintro σ H1 ⟨s1, hps, y4, rfl⟩
            have e1 : wts.take ((wxs.length : Nat) : Int).toNat = wts := List.take_of_length_le (by omega)
            have e2 : vs.take ((wxs.length : Nat) : Int).toNat = vs := List.take_of_length_le (by omega)
            rw [e1, e2] at hps
            rw [hps, Bool.true_and] at q3
            refine ⟨_, rfl, _, rfl, a, _, 4, x4, rfl, rfl, (hx.same s1).sq, atI_nat (j := 4) rfl, .ref l, x4, ks, z, rfl, hks.same s1, r4.mono (kx_same s1), dz, by omega, fun H2 s2 => ⟨_, rfl, ?_⟩⟩
            have s12 := s1.trans s2
            cases hz : isB ks z with
            | false =>
              rw [hz, Bool.false_and] at q3
              exact iteF (q3 H2 s12)
            | true =>
              rw [hz, Bool.true_and] at q3
              exact iteT ⟨_, rfl, _, rfl, a, _, 5, x5, rfl, rfl, (hx.same s12).sq, atI_nat (j := 5) rfl, .ref l, x5, ks, o, rfl, hks.same s12, r5.mono (kx_same s12), d0, by omega, fun H3 s3 => q3 H3 (s12.trans s3)⟩
        · rw [show (!decide (V.int ((vxs.length : Nat) : Int) = V.int ((wxs.length : Nat) : Int))) = true from by
            rw [decide_eq_false (fun e => hlen (by have := V.int.inj e; omega))]
            rfl]
          refine iteT ?_
          rw [isPs_len ks wts vs (by omega), Bool.false_and] at q3
          exact q3 H (Same.refl H)
theorem ok_isall {f1 f2 f3 f4 : Addr} {d1 d2 d3 d4 : FuncData} (D__law_is_ask : Df K mg "_law_is_ask" s__law_is_ask ["kinds", "value"] f1 d1) (D__law_is_body : Df K mg "_law_is_body" s__law_is_body ["kinds", "value"] f2 d2) (D__law_is_whole : Df K mg "_law_is_whole" s__law_is_whole ["value", "most"] f3 d3)
    (D__law_is_program : Df K mg "_law_is_program" s__law_is_program ["kinds", "value"] f4 d4) (B : Bt mg) :
    ∀ n : Nat, FnOk P w K mg base CX0 (3 * n + 2) f2 d2 ["kinds", "value"] (spIsB K n) ∧ FnOk P w K mg base CX0 (3 * n + 3) f4 d4 ["kinds", "value"] (spIsP K n)
  | 0 => ⟨(fn_none (f := f2) (fd := d2) fun vs H Q E h => by
      obtain ⟨kv, v, ks, d, _, _, _, h1, _⟩ := h
      omega).mono (by omega), (fn_none (f := f4) (fd := d4) fun vs H Q E h => by
      obtain ⟨kv, v, kd, ks, d, _, _, _, h1, _⟩ := h
      omega).mono (by omega)⟩
  | n + 1 => by
    have ih := ok_isall D__law_is_ask D__law_is_body D__law_is_whole D__law_is_program B n
    have ga := ok_isa D__law_is_ask D__law_is_body D__law_is_whole D__law_is_program B ih.1 ih.2
    have gb := ok_isb D__law_is_body D__law_is_ask D__law_is_whole B ga
    exact ⟨gb, ok_isp D__law_is_program D__law_is_body D__law_is_whole B gb⟩
end
end Pk

set_option maxRecDepth 100000
set_option maxHeartbeats 4000000
namespace Pk
open PySem PySem.Spec PyProof.Rows L2
/-! ### t == (), t != () -/
section
variable {X : Cx}
def rEqNilT (K : PySem.W.Frag) : R2 := fun x y H Q => ∃ a b xs, x = .ref a ∧ y = .ref b ∧ SqT K H a xs ∧ SqT K H b [] ∧ Q (.bl xs.isEmpty) H
theorem tup_isTuple {h : Heap} {a : Addr} {items : Array Value} (x : IsTup h a items) : h.IsTuple a items := x
theorem op_eqNilT (hu : X.A.units + 64 < cLine) : OpR X (compareOp .Eq) (rEqNilT X.K) := by
  intro pins s σ H x y v u Q I rx ry h
  obtain ⟨a, b, xs, rfl, rfl, ha, hb, q⟩ := h
  cases rx
  cases ry
  obtain ⟨its, r1, p1, _⟩ := I.tuple ha
  obtain ⟨its2, r2, p2, _⟩ := I.tuple hb
  cases r2
  have hu' : X.A.units < cLine := by omega
  refine SeqAt.eq_tupleAt (e := fun _ => true) p1 p2 hu' (fun j h1 h2 => by simp at h2) ⟨.bl xs.isEmpty, H, I, ?_, q⟩
  cases r1 <;> rfl
def rNeNilT (K : PySem.W.Frag) : R2 := fun x y H Q => ∃ a b xs, x = .ref a ∧ y = .ref b ∧ SqT K H a xs ∧ SqT K H b [] ∧ Q (.bl (!xs.isEmpty)) H
theorem op_neNilT (hu : X.A.units + 64 < cLine) : OpR X (compareOp .NotEq) (rNeNilT X.K) := by
  intro pins s σ H x y v u Q I rx ry h
  obtain ⟨a, b, xs, rfl, rfl, ha, hb, q⟩ := h
  cases rx
  cases ry
  obtain ⟨its, r1, p1, _⟩ := I.tuple ha
  obtain ⟨its2, r2, p2, _⟩ := I.tuple hb
  cases r2
  have hu' : X.A.units < cLine := by omega
  refine SeqAt.RcNeAt.tuples (e := fun _ => true) p1 p2 hu' (fun j h1 h2 => by simp at h2) _ _ _ _ ⟨.bl (!xs.isEmpty), H, I, ?_, q⟩
  cases r1 <;> rfl
end
/-! ### t[::-1] -/
theorem adjust_rev (n : Nat) : Builtin.Slice.sliceAdjust none none (-1) (n : Int) = ((n : Int) - 1, -1) := by
  unfold Builtin.Slice.sliceAdjust
  rfl
theorem places_rev (n : Nat) : Builtin.Slice.slicePlaces ((n : Int) - 1) (-1) (-1) = n := by
  unfold Builtin.Slice.slicePlaces
  have h1 : ¬ ((-1 : Int) > 0) := by omega
  simp only [h1, if_false, Int.neg_neg, Int.ediv_one]
  split <;> omega
theorem fm_congr {α β : Type} {f : α → Option β} {g : α → β} : ∀ {l : List α}, (∀ m ∈ l, f m = some (g m)) → l.filterMap f = l.map g
  | [], _ => rfl
  | a :: r, h => by
    rw [List.filterMap_cons, h a (List.mem_cons_self ..), List.map_cons, fm_congr (fun m hm => h m (List.mem_cons_of_mem _ hm))]
theorem pick_rev : ∀ (n : Nat) (l : List Value), l.length = n → (List.range n).filterMap (fun (m : Nat) => l.toArray[(((n : Int) - 1) + (m : Int) * (-1)).toNat]?) = l.reverse := by
  intro n l hl
  apply List.ext_getElem?
  intro i
  have e : (List.range n).filterMap (fun (m : Nat) => l.toArray[(((n : Int) - 1) + (m : Int) * (-1)).toNat]?) = (List.range n).map (fun m => l.getD (n - 1 - m) default) := by
    refine fm_congr fun m hm => ?_
    have hm' : m < n := List.mem_range.mp hm
    have e1 : (((n : Int) - 1) + (m : Int) * (-1)).toNat = n - 1 - m := by omega
    rw [e1]
    have h2 : n - 1 - m < l.length := by omega
    simp [h2]
  rw [e]
  by_cases hi : i < n
  · rw [List.getElem?_map, List.getElem?_range hi, List.getElem?_reverse (by omega)]
    have h2 : n - 1 - i < l.length := by omega
    have h3 : l.length - 1 - i = n - 1 - i := by omega
    rw [h3]
    simp [h2]
  · rw [List.getElem?_eq_none (by simp; omega), List.getElem?_eq_none (by simp; omega)]
section
variable {prog : Program} {w : World} {A : Around} {E : Value → Shared → Prop} {s : Shared}
theorem sliceApplied_rev {sl : Addr} {u : Tok} {n : Nat} {Q : Int × Int × Nat → Shared → Prop} (hs : s.heap.IsSliceOf sl .none .none (.int (-1) u))
    (h : Q ((n : Int) - 1, -1, n) s) : wpAny (model prog w) A (Builtin.Slice.sliceApplied (.ref sl) (pure (n : Int))) Q E s := by
  obtain ⟨os, hos, hcs, hds⟩ := id hs
  unfold Builtin.Slice.sliceApplied Builtin.Slice.sliceFields
  refine wpAny_bind (wpAny_bind (wpAny_field hos hds (x := .none) rfl (wpAny_bind (wpAny_field hos hds (x := .none) rfl (wpAny_bind (wpAny_field hos hds (x := .int (-1) u) rfl (wpAny_pure ?_)))))))
  refine wpAny_bind (HT.slicePart_ (.int (-1) u) ?_)
  show wpAny _ _ (if (((-1 : Int)) == 0) = true then _ else _) _ _ s
  rw [if_neg (by decide)]
  refine wpAny_bind (HT.slicePart_ .none (wpAny_bind (HT.slicePart_ .none (wpAny_bind (wpAny_pure ?_)))))
  show wpAny _ _ (match Builtin.Slice.sliceAdjust none none (-1) (n : Int) with | (lo, hi) => pure (lo, (-1 : Int), Builtin.Slice.slicePlaces lo hi (-1))) _ _ s
  rw [adjust_rev n]
  show wpAny _ _ (pure ((n : Int) - 1, (-1 : Int), Builtin.Slice.slicePlaces ((n : Int) - 1) (-1) (-1))) _ _ s
  rw [places_rev]
  exact wpAny_pure h
theorem getItem_tuple_rev {t sl : Addr} {items : Array Value} {u : Tok} {Q : Value → Shared → Prop} (ht : IsTup s.heap t items) (hs : s.heap.IsSliceOf sl .none .none (.int (-1) u))
    (h : Q (.ref s.heap.objs.size) { s with heap := s.heap.push { cls := .type "tuple", data := .seq items.toList.reverse.toArray } })
    (hsz : items.size ≤ sizeLine) : wpAny (model prog w) A (getItem (.ref t) (.ref sl)) Q E s := by
  have hrev : sizeOk (.seq items.toList.reverse.toArray) := by
    show items.toList.reverse.toArray.size ≤ sizeLine
    rw [List.size_toArray, List.length_reverse, Array.length_toList]
    exact hsz
  obtain ⟨os, hos, hcs, hds⟩ := id hs
  have hTs : s.TypeIs (.ref sl) "slice" := ⟨os, hos, hcs⟩
  unfold getItem
  try with_reducible refine wpAny_holding ?_
  first | refine wpAny_bind (wpAny_pure ?_) | skip
  refine wpAny_bind (wpAny_sequenceKey ht.typeIs (by decide) ?_)
  refine wpAny_bind (wpAny_callSpecial?_slot (name := Str.ofString "__getitem__") ht.typeIs PyProof.Rows.slot_tuple_getitem
    (wpAny_call_entry PyProof.Rows.slot_tuple_getitem ht.typeIs entry_tuple_getitem ?_ (args_tuple_getitem _ _)))
  show wpAny _ _ (Builtin.Tuple.tupleItemsOf (.ref t) >>= _) _ _ s
  refine wpAny_bind (tupleItemsOf_ ht ?_)
  refine wpAny_bind (wpAny_typeOf hTs ?_)
  rw [if_pos (by decide)]
  refine wpAny_bind (sliceApplied_rev hs ?_)
  have hno : ¬ (((((items.size : Nat) : Int) - 1) == 0 && (-1 : Int) == 1 && items.size == items.size) = true) := by
    intro q
    rw [Bool.and_eq_true, Bool.and_eq_true] at q
    exact absurd q.1.2 (by decide)
  show wpAny _ _ (if ((((items.size : Nat) : Int) - 1) == 0 && (-1 : Int) == 1 && items.size == items.size) = true then _ else _) _ _ s
  have ep : ((List.range items.size).filterMap (fun (m : Nat) => items[(((items.size : Nat) : Int) - 1 + (m : Int) * (-1)).toNat]?)) = items.toList.reverse := pick_rev items.size items.toList (by simp)
  rw [if_neg hno, ep]
  first
    | exact wpAny_bind (m := Builtin.Tuple.tupleExact _) (wpAny_newObj_type (wpAny_pure ⟨_, rfl, wpAny_pure h⟩) hrev)
    | exact wpAny_bind (m := Builtin.Tuple.tupleExact _) (wpAny_newObj_type (wpAny_bind (wpAny_pure (wpAny_pure ⟨_, rfl, wpAny_pure h⟩))) hrev)
    | exact wpAny_bind (wpAny_bind (m := Builtin.Tuple.tupleExact _) (wpAny_newObj_type (wpAny_pure (wpAny_pure ⟨_, rfl, wpAny_pure h⟩)) hrev))
    | exact wpAny_bind (wpAny_bind (m := Builtin.Tuple.tupleExact _) (wpAny_newObj_type (wpAny_pure ⟨_, rfl, wpAny_pure h⟩) hrev))
end
section
variable {X : Cx}
def tRevT (K : PySem.W.Frag) (te : TE) : TE := fun σ H Q => te σ H fun x H1 => ∃ a xs, x = .ref a ∧ SqT K H1 a xs ∧ ∀ p, H1 p = none → Q (.ref p) (upd H1 p (.tup xs.reverse))
theorem pe_revT {e : Expr} {te : TE} {j : Nat} {p2 p3 p4 pos : Pos} (he : PE X e te) : PE X (.Subscript e (.Slice none none (some (.UnaryOp .USub (.Constant (.int 1) j p4) p3)) p2) pos) (tRevT X.K te) := by
  refine ⟨fun pins s σ H Q I h => ?_⟩
  refine Subscript_ (thn (he.run pins s σ H _ I h) fun v s1 ⟨x, H1, I1, r1, q1⟩ => ?_)
  have hst := po_some (X := X) (pe_un (pos := p3) un_neg (pe_int (i := 1) (j := j) (pos := p4)))
  refine wpAny_Slice ?_
  rw [evalPart_none]
  refine wpAny_pure ?_
  refine wpAny_pure ?_
  refine thn (hst.run pins s1 σ H1 (fun o H' => o = some (-1) ∧ H' = H1) I1 ?_) fun vs s3 ⟨o, H3, I3, ps, q3⟩ => ?_
  · exact ⟨1, rfl, -1, rfl, rfl, rfl⟩
  obtain ⟨rfl, rfl⟩ := q3
  obtain ⟨a, xs, rfl, hx, q⟩ := q1
  cases r1
  have I4 : Inv X pins σ H3 { s3 with heap := s3.heap.push { cls := .type "slice", data := .fields #[.none, .none, vs] } } := I3.kept (t' := s3.toks) fun b ob q => Heap.get?_push_of_some _ q
  obtain ⟨its, r, ht, hz⟩ := I4.tuple hx
  have hlen := r.length
  show wpAny (model X.prog X.w) X.A (subscriptTail e (.Slice none none (some (.UnaryOp .USub (.Constant (.int 1) j p4) p3)) p2) (.ref a) (.ref s3.heap.objs.size)) (EP X pins σ Q) X.xe { s3 with heap := s3.heap.push { cls := .type "slice", data := .fields #[.none, .none, vs] } }
  refine tail_any (ops := _) ht.typeIs PyProof.Rows.slot_tuple_getitem.lookup ?_ (by with_unfolding_all rfl)
  cases ps with
  | int _ t =>
    refine getItem_tuple_rev ht (Heap.IsSliceOf.new ..) ?_ (by rw [List.size_toArray]; omega)
    refine ⟨.ref _, _, I4.laid (t' := s3.toks) (o := .tup xs.reverse) (fun b ob q => Heap.get?_push_of_some _ q) (Nat.le_refl _) ?_, rfl, q _ (I4.hok.fresh (Nat.le_refl _))⟩
    exact ⟨by rw [List.length_reverse]; exact hz, _, r.reverse, IsTup.new _ _⟩
end
/-! ### _law_asks_of -/
theorem dep_one (d : D) : deps [d] = dep d + 1 := by
  show max (dep d + 1) 0 = dep d + 1
  omega
section
variable {P : Program} {w : World} {K : PySem.W.Frag} {mg : Str → Option Value} {base : Heap}
def nsum (l : List T) : Int := (l.map fun t => (nasks t : Int)).sum
theorem nsum_nasks : ∀ l : List T, nsum l = (nasksL l : Int)
  | [] => rfl
  | t :: r => by
    show (nasks t : Int) + nsum r = ((nasks t + nasksL r : Nat) : Int)
    rw [nsum_nasks r]
    omega
def spAsks (K : PySem.W.Frag) (n : Nat) : Sp := fun vs H Q _ => ∃ (v : V) (t : T), vs = [v] ∧ Rep K H v (toD t) ∧ dep (toD t) < n ∧ sz (toD t) ≤ 500000 ∧ ∀ H', Same H H' → Q (.int (nasks t : Nat)) H'
theorem ok_asks {f : Addr} {fd : FuncData} (D__law_asks_of : Df K mg "_law_asks_of" s__law_asks_of ["value"] f fd) (B : Bt mg) : ∀ n : Nat, FnOk P w K mg base CX0 n f fd ["value"] (spAsks K n)
  | 0 => fn_none fun vs H Q E h => by
    obtain ⟨v, d, _, _, h1, _⟩ := h
    omega
  | n + 1 => by
    have G__law_asks_of := ok_asks D__law_asks_of B n
    refine D__law_asks_of.ok c__law_asks_of (fun vs H Q E h => ?_) (fun cdv A outer s H vs Q E hr h => ?_)
    · obtain ⟨v, d, rfl, _⟩ := h
      rfl
    obtain ⟨v, t, rfl, rv, hdp, hsz, q⟩ := h
    have nd := c__law_asks_of.nd
    refine ⟨_, (pss_cons (ps_if (pt_cmpR op_eq (pe_ix ix_tup (pv 0) pe_int (fun _ _ => rfl)) pe_str (nomark _)) (pss_one (ps_ret (pe_call G__law_asks_of hr (by rfl) D__law_asks_of.m D__law_asks_of.kp D__law_asks_of.b .nil pass0 (pa_cons (pe_ix ix_tup (pv 0) pe_int (fun _ _ => rfl)) pa_nil)))) pss_nil)
  (pss_cons (ps_if (pt_cmpR op_ne (pe_ix ix_tup (pv 0) pe_int (fun _ _ => rfl)) pe_str (nomark _)) (pss_one (ps_ret pe_int)) pss_nil)
  (pss_one (ps_ret (pe_op op_add pe_int (pe_callB (cr_sum rfl) (by rfl) B.b_sum (by decide +kernel) (pa_cons (pe_lc (own := [("part", 1)]) (g := (gName 1)) (tt := tYes) rfl nd (pi_tup (pe_op op_catP (pe_ix ix_tup (pv 0) pe_int (fun _ _ => rfl)) (pe_slice sl_tupP (pv 0) (po_some pe_int) po_none))) (blkOk_by (own := [("part", 1)]) (N := ["value", "part"]) (sc := defScope s__law_asks_of) (by decide +kernel)) (fun _ _ _ _ _ => (pg_name (i := 1) nd rfl (Or.inl rfl))) (fun _ _ _ _ _ => pts_nil) (fun _ _ _ _ _ => (pe_call G__law_asks_of hr (by rfl) D__law_asks_of.m D__law_asks_of.kp D__law_asks_of.b .nil pass0 (pa_cons (pv 1) pa_nil)))) pa_nil))))))), ?_⟩
    cases t with
    | say x =>
      obtain ⟨a, xs, rfl, hx, rx⟩ := Rep.inv (ts := [.at (.str "say"), .at (.int (x : Nat))]) rv
      cases rx with
      | cons r0 rx =>
        obtain ⟨rfl, _⟩ := r0.inva
        refine ⟨_, rfl, a, _, 0, _, rfl, rfl, hx.sq, atI_nat (j := 0) rfl, rfl, _, rfl, iteF ⟨_, rfl, a, _, 0, _, rfl, rfl, hx.sq, atI_nat (j := 0) rfl, rfl, _, rfl, iteT (q H (Same.refl H))⟩⟩
    | stop =>
      obtain ⟨a, xs, rfl, hx, rx⟩ := Rep.inv (ts := [.at (.str "stop")]) rv
      cases rx with
      | cons r0 rx =>
        obtain ⟨rfl, _⟩ := r0.inva
        refine ⟨_, rfl, a, _, 0, _, rfl, rfl, hx.sq, atI_nat (j := 0) rfl, rfl, _, rfl, iteF ⟨_, rfl, a, _, 0, _, rfl, rfl, hx.sq, atI_nat (j := 0) rfl, rfl, _, rfl, iteT (q H (Same.refl H))⟩⟩
    | prog m b =>
      obtain ⟨a, xs, rfl, hx, rx⟩ := Rep.inv (ts := [.at (.str "program"), .at (.int (m : Nat)), toD b]) rv
      cases rx with
      | cons r0 rx =>
        cases rx with
        | cons r1 rx =>
          cases rx with
          | cons r2 rx =>
            cases rx
            obtain ⟨rfl, _⟩ := r0.inva
            have hd2 : max (0 + 1) (max (0 + 1) (deps [toD b])) < n + 1 := hdp
            have hs2 : 1 + (1 + (sz (toD b) + 0)) + 1 ≤ 500000 := hsz
            rw [dep_one] at hd2
            refine ⟨_, rfl, a, _, 0, _, rfl, rfl, hx.sq, atI_nat (j := 0) rfl, rfl, _, rfl, iteT ⟨_, rfl, a, _, 2, _, rfl, rfl, hx.sq, atI_nat (j := 2) rfl, _, b, rfl, r2, by omega, by omega, fun H' s' => q H' s'⟩⟩
    | ask up k as z o =>
      obtain ⟨a, xs, rfl, hx, rx⟩ := Rep.inv (ts := [.at (.str "ask"), .at (.int (up : Nat)), .at (.int (k : Nat)), .tup (toDs as), toD z, toD o]) rv
      cases rx with
      | cons r0 rx =>
      cases rx with
      | cons r1 rx =>
      cases rx with
      | cons r2 rx =>
      cases rx with
      | @cons x3 _ xs4 _ r3 rx =>
      have lx := rx.length
      obtain ⟨rfl, _⟩ := r0.inva
      have hd2 : max (0 + 1) (max (0 + 1) (max (0 + 1) (max (deps (toDs as) + 1) (deps [toD z, toD o])))) < n + 1 := hdp
      have hs2 : 1 + (1 + (1 + (szs (toDs as) + 1 + szs [toD z, toD o]))) + 1 ≤ 500000 := hsz
      obtain ⟨a3, ys, rfl, h3, ry⟩ := r3.inv
      have ly := ry.length
      have lz := len_szs (toDs as)
      refine ⟨_, rfl, a, _, 0, _, rfl, rfl, hx.sq, atI_nat (j := 0) rfl, rfl, _, rfl, iteF ⟨_, rfl, a, _, 0, _, rfl, rfl, hx.sq, atI_nat (j := 0) rfl, rfl, _, rfl, iteF ?_⟩⟩
      refine ⟨_, rfl, a, _, 3, _, rfl, rfl, hx.sq, atI_nat (j := 3) rfl, _, rfl, _, rfl, a, _, rfl, hx, fun c1 H1 s1 hc1 => ?_⟩
      refine ⟨a3, c1, _, _, rfl, rfl, h3.same s1, hc1, ?_, fun c2 H2 s2 hc2 => ?_⟩
      · rw [show ((4 : Int)) = ((4 : Nat) : Int) from rfl, cutV_from]
        refine small6' ?_
        show ys.length + xs4.length ≤ _
        have : xs4.length = 2 := lx
        omega
      rw [show ((4 : Int)) = ((4 : Nat) : Int) from rfl, cutV_from] at hc2
      have rr : Reps K H2 (ys ++ xs4) (toDs as ++ [toD z, toD o]) := (ry.append rx).mono (kx_same (s1.trans s2))
      have er : toDs as ++ [toD z, toD o] = toDs (as ++ [z, o]) := by rw [toDs_append]; rfl
      have lr := rr.length
      have hds : ∀ d ∈ toDs as ++ [toD z, toD o], dep d < n ∧ sz d ≤ 500000 := by
        intro d hd
        rcases List.mem_append.mp hd with hd | hd
        · have := dep_mem hd
          have := sz_mem hd
          omega
        · have := dep_mem hd
          have := sz_mem hd
          omega
      have hc2' : TupAt K H2 c2 (ys ++ xs4) := hc2
      refine ⟨c2, rfl, ⟨_, hc2'.sq⟩, fun p np => ?_⟩
      refine lc_tup (K := K) (a := c2) (xs := ys ++ xs4) (fun i H' => Same H2 H' ∧ H' p = some (.lst (((as ++ [z, o]).take i).map fun t => V.int (nasks t : Nat))))
        ⟨same_new np _, upd_same⟩ (fun i H' _ h => (hc2'.same h.1).sq) ?_ ?_
      · rintro i x H3 hi ⟨s3, hp⟩
        have hil : i < (ys ++ xs4).length := (List.getElem?_eq_some_iff.mp hi).1
        obtain ⟨d, hd, rd⟩ := rr.get hi
        obtain ⟨hd1, hd2⟩ := hds d (List.mem_of_getElem? hd)
        rw [er] at hd
        obtain ⟨t, ht, rfl⟩ := toDs_at hd
        refine ⟨rfl, yes_go ⟨_, rfl, x, t, rfl, rd.mono (kx_same s3), hd1, hd2, fun H4 s4 => ⟨_, s4 _ _ hp, ?_, fun o v2 e => ?_, ?_⟩⟩⟩
        · refine small6 ?_
          rw [List.length_map, List.length_take]
          have : xs4.length = 2 := lx
          rw [List.length_append] at hil
          omega
        · rw [upd_ne (ne_of_none e np)]
          exact s4 _ _ (s3 _ _ e)
        · rw [List.take_add_one, ht, List.map_append]
          exact upd_same
      · rintro H3 ⟨s3, hp⟩
        rw [lr, er, toDs_len, List.take_length] at hp
        refine ⟨p, (as ++ [z, o]).map fun t => (nasks t : Int), rfl, ?_, _, _, rfl, rfl, ?_⟩
        · refine SqL.of ?_
          rw [hp, List.map_map]
          rfl
        · have e : (1 : Int) + ((as ++ [z, o]).map fun t => (nasks t : Int)).sum = ((nasks (.ask up k as z o) : Nat) : Int) := by
            show (1 : Int) + nsum (as ++ [z, o]) = ((1 + (nasksL as + (nasks z + nasks o)) : Nat) : Int)
            rw [nsum_nasks, nasksL_append]
            show (1 : Int) + ((nasksL as + (nasks z + (nasks o + 0)) : Nat) : Int) = _
            omega
          show Q (V.int ((1 : Int) + ((as ++ [z, o]).map fun t => (nasks t : Int)).sum)) H3
          rw [e]
          exact q H3 ((s1.trans s2).trans s3)
end
/-! ### _law_nudged -/
mutual
/-- values made of tuples, whole numbers and texts alone -/
def plD : D → Bool
  | .tup ts => plDs ts
  | .at (.int _) => true
  | .at (.str _) => true
  | _ => false
def plDs : List D → Bool
  | [] => true
  | t :: r => plD t && plDs r
end
theorem plD_mem : ∀ {l : List D}, plDs l = true → ∀ {d : D}, d ∈ l → plD d = true
  | t :: r, hk, d, h => by
    have hk' := Bool.and_eq_true_iff.mp (show (plD t && plDs r) = true from hk)
    rcases List.mem_cons.mp h with e | h
    · rw [e]
      exact hk'.1
    · exact plD_mem hk'.2 h
mutual
theorem plD_toD : ∀ t : T, plD (toD t) = true
  | .say _ => rfl
  | .stop => rfl
  | .ask up k as z o => by
    show (true && (true && (true && (plDs (toDs as) && (plD (toD z) && (plD (toD o) && true)))))) = true
    rw [plD_toDs as, plD_toD z, plD_toD o]
    rfl
  | .prog m b => by
    show (true && (true && (plD (toD b) && true))) = true
    rw [plD_toD b]
    rfl
theorem plD_toDs : ∀ l : List T, plDs (toDs l) = true
  | [] => rfl
  | t :: r => by
    show (plD (toD t) && plDs (toDs r)) = true
    rw [plD_toD t, plD_toDs r]
    rfl
end
theorem plD_inv {K : PySem.W.Frag} {H : Hp} {v : V} {d : D} (r : Rep K H v d) (h : plD d = true) : (∃ ts, d = .tup ts ∧ plDs ts = true) ∨ (∃ i : Int, d = .at (.int i) ∧ v = .int i) ∨ (∃ s, d = .at (.str s) ∧ v = .str s) := by
  cases r with
  | lst _ => cases h
  | tup _ _ => exact .inl ⟨_, rfl, h⟩
  | «at» hf =>
    cases v with
    | str s => exact .inr (.inr ⟨s, rfl, rfl⟩)
    | int i => exact .inr (.inl ⟨i, rfl, rfl⟩)
    | non => cases h
    | bl _ => cases h
    | byt _ => cases hf
    | flt _ => cases hf
    | ref _ => cases hf
    | ty _ => cases hf
theorem split_at {ts : List D} {k : Nat} {t : D} (h : ts[k]? = some t) : ts = ts.take k ++ (t :: ts.drop (k + 1)) := by
  have hk := (List.getElem?_eq_some_iff.mp h).1
  have e : ts.drop k = t :: ts.drop (k + 1) := by
    rw [List.drop_eq_getElem_cons hk]
    rw [List.getElem?_eq_getElem hk] at h
    rw [Option.some.inj h]
  rw [← e, List.take_append_drop]
theorem szs_put {ts : List D} {k : Nat} {t : D} (e : D) (h : ts[k]? = some t) : szs (ts.take k ++ [e] ++ ts.drop (k + 1)) + sz t = szs ts + sz e := by
  have s := congrArg szs (split_at h)
  rw [szs_append] at s
  have s' : szs ts = szs (ts.take k) + (sz t + szs (ts.drop (k + 1))) := s
  rw [szs_append, szs_append]
  show szs (ts.take k) + (sz e + 0) + szs (ts.drop (k + 1)) + sz t = szs ts + sz e
  omega
theorem deps_put {ts : List D} {k n : Nat} {t : D} (e : D) (h : ts[k]? = some t) (he : dep e ≤ dep t + n) : deps (ts.take k ++ [e] ++ ts.drop (k + 1)) ≤ deps ts + n := by
  have s := congrArg deps (split_at h)
  rw [deps_append] at s
  have s' : deps ts = max (deps (ts.take k)) (max (dep t + 1) (deps (ts.drop (k + 1)))) := s
  rw [deps_append, deps_append]
  show max (max (deps (ts.take k)) (max (dep e + 1) 0)) (deps (ts.drop (k + 1))) ≤ deps ts + n
  omega
section
variable {P : Program} {w : World} {K : PySem.W.Frag} {mg : Str → Option Value} {base : Heap}
def spNudged (K : PySem.W.Frag) (n : Nat) : Sp := fun vs H Q _ => ∃ (b c : Addr) (v : V) (d : D), vs = [.ref b, v] ∧ BoxAt H b c ∧ Rep K H v d ∧ plD d = true ∧ dep d < n ∧ sz d ≤ 500000 ∧
  ∀ (z : V) (e : D) (H' : Hp), Rep K H' z e → sz e ≤ sz d → dep e ≤ dep d → BoxAt H' b c → SB b H H' → Q z H'
theorem ok_nudged {f g : Addr} {fd gd : FuncData} (D__law_nudged : Df K mg "_law_nudged" s__law_nudged ["box", "value"] f fd) (D__law_draw : Df K mg "_law_draw" s__law_draw ["box", "many"] g gd) (B : Bt mg) :
    ∀ n : Nat, FnOk P w K mg base CX0 (n + 1) f fd ["box", "value"] (spNudged K n)
  | 0 => (fn_none (f := f) (fd := fd) fun vs H Q E h => by
    obtain ⟨b, c, v, d, _, _, _, _, h1, _⟩ := h
    omega).mono (by omega)
  | n + 1 => by
    have G__law_nudged := ok_nudged D__law_nudged D__law_draw B n
    have G__law_draw : FnOk P w K mg base CX0 1 g gd ["box", "many"] spDraw := ok_draw D__law_draw B
    refine D__law_nudged.ok c__law_nudged (fun vs H Q E h => ?_) (fun cdv A outer s H vs Q E hr h => ?_)
    · obtain ⟨b, c, v, d, rfl, _⟩ := h
      rfl
    obtain ⟨b, c, v, d, rfl, hB, rv, hpl, hdp, hsz, q⟩ := h
    have nd := c__law_nudged.nd
    refine ⟨_, (pss_cons (ps_if (pt_val (pe_callB call_isi (by rfl) B.b_isinstance (by decide +kernel) (pa_cons (pv 1) (pa_cons (pe_bltn (v := .ty "int") (by rfl) B.b_int (by decide +kernel) rfl) pa_nil)))) (pss_one (ps_ret (pe_op op_add (pv 1) (pe_ix ix_list (pe_lst (pa_cons pe_int (pa_cons (pe_un un_neg pe_int) pa_nil))) (pe_call G__law_draw (hr.mono (by first | decide | omega)) (by rfl) D__law_draw.m D__law_draw.kp D__law_draw.b .nil pass0 (pa_cons (pv 0) (pa_cons pe_int pa_nil))) (fun _ _ => rfl))))) pss_nil)
  (pss_cons (ps_if (PW.pt (pw_or (pt_not (pt_val (pe_callB call_isi (by rfl) B.b_isinstance (by decide +kernel) (pa_cons (pv 1) (pa_cons (pe_bltn (v := .ty "tuple") (by rfl) B.b_tuple (by decide +kernel) rfl) pa_nil))))) (pw_or1 (pt_cmpR (op_eqNilT hr.units) (pv 1) (pe_tup pa_nil) (nomark _))))) (pss_one (ps_ret (pv 1))) pss_nil)
  (pss_cons (ps_set (i := 2) nd rfl (Or.inl rfl) (pe_call G__law_draw (hr.mono (by first | decide | omega)) (by rfl) D__law_draw.m D__law_draw.kp D__law_draw.b .nil pass0 (pa_cons (pv 0) (pa_cons (pe_callB call_len_seq (by rfl) B.b_len PySem.boot_len (pa_cons (pv 1) pa_nil)) pa_nil))))
  (pss_one (ps_ret (pe_op op_catP (pe_op op_catP (pe_slice sl_tupP (pv 1) po_none (po_some (pv 2))) (pe_tup (pa_cons (pe_call G__law_nudged hr (by rfl) D__law_nudged.m D__law_nudged.kp D__law_nudged.b .nil pass0 (pa_cons (pv 0) (pa_cons (pe_ix ix_tup (pv 1) (pv 2) (fun _ _ => rfl)) pa_nil))) pa_nil))) (pe_slice sl_tupP (pv 1) (po_some (pe_op op_add (pv 2) pe_int)) po_none))))))), ?_⟩
    refine ⟨_, rfl, _, _, _, _, _, rfl, .ty _, rep_ty rv, kit_ty (kit_int _), ⟨_, rfl, ?_⟩⟩
    rcases plD_inv rv hpl with ⟨ts, rfl, hpls⟩ | ⟨i, rfl, rfl⟩ | ⟨x, rfl, rfl⟩
    · refine iteF ⟨_, rfl, _, _, _, _, _, rfl, .ty _, rep_ty rv, kit_ty (kit_tup _), ⟨_, rfl, iteF ?_⟩⟩
      obtain ⟨a, xs, rfl, hx, rx⟩ := rv.inv
      have lx := rx.length
      have lts := len_szs ts
      have hsz' : szs ts + 1 ≤ 500000 := hsz
      have hdp' : deps ts < n + 1 := hdp
      refine ⟨_, rfl, (by show 0 ≤ sizeLine; decide), fun e0 ne0 => ?_⟩
      have s0 : Same H (upd H e0 (.tup [])) := same_new ne0 _
      refine ⟨a, e0, xs, rfl, rfl, (hx.same s0).sq, SqT.of upd_same, _, rfl, ?_⟩
      have hB0 := hB.same s0
      have sb0 : SB b H (upd H e0 (.tup [])) := sb_same s0
      have hx0 := hx.same s0
      have rx0 := rx.mono (kx_same s0)
      generalize upd H e0 (.tup []) = H0 at *
      cases hxe : xs.isEmpty with
      | true => exact iteT ⟨_, rfl, q _ (.tup ts) _ (.tup hx0 rx0) (Nat.le_refl _) (Nat.le_refl _) hB0 sb0⟩
      | false =>
        refine iteF ?_
        have hp : 0 < xs.length := by
          cases xs with
          | nil => cases hxe
          | cons _ _ => exact Nat.succ_pos _
        refine ⟨_, rfl, _, rfl, a, xs, rfl, .inr hx0.sq, b, c, _, rfl, hB0, by omega, fun k H2 hk0 hkl hB2 sb2 => ?_⟩
        have k2 := box_kx hB0 hB2 sb2
        have hx2 := hx0.kx k2
        have rx2 := rx0.mono k2
        obtain ⟨kn, rfl⟩ : ∃ kn : Nat, k = (kn : Int) := ⟨k.toNat, by omega⟩
        have hkn : kn < xs.length := by omega
        obtain ⟨t, ht, rt⟩ := rx2.get (List.getElem?_eq_getElem hkn)
        have mt : t ∈ ts := List.mem_of_getElem? ht
        have z1 := dep_mem mt
        have z2 := sz_mem mt
        refine ⟨_, rfl, _, rfl, _, rfl, a, xs, rfl, hx2, fun c1 H3 s3 hc1 => ?_⟩
        rw [cutV_to] at hc1
        have hc1' : TupAt K H3 c1 (xs.take kn) := hc1
        have k3 := kx_same s3
        refine ⟨_, rfl, _, rfl, _, rfl, a, xs, _, _, rfl, rfl, (hx2.same s3).sq, atI_nat (List.getElem?_eq_getElem hkn), b, c, _, t, rfl, hB2.same s3, rt.mono k3, plD_mem hpls mt, by omega, by omega, fun y e H4 ry hsy hdy hB4 sb4 => ?_⟩
        have k4 := box_kx (hB2.same s3) hB4 sb4
        refine ⟨(by show 1 ≤ sizeLine; decide), fun t1 nt1 => ?_⟩
        have s5 := same_new nt1 (.tup [y])
        have ltk : (xs.take kn).length ≤ ts.length := by rw [List.length_take]; omega
        have ldr : (xs.drop (kn + 1)).length ≤ ts.length := by rw [List.length_drop]; omega
        refine ⟨c1, t1, _, _, rfl, rfl, (hc1'.kx k4).same s5, .inl upd_same, small6' (by show (xs.take kn).length + 1 ≤ 1000000; omega), fun c2 H5 s6 hc2 => ?_⟩
        have hc2' : TupAt K H5 c2 (xs.take kn ++ [y]) := hc2
        refine ⟨_, rfl, _, rfl, _, _, rfl, rfl, (kn : Int) + 1, rfl, a, xs, rfl, (((hx2.same s3).kx k4).same s5).same s6, fun c3 H6 s7 hc3 => ?_⟩
        rw [show (kn : Int) + 1 = ((kn + 1 : Nat) : Int) by omega, cutV_from] at hc3
        refine ⟨c2, c3, _, _, rfl, rfl, hc2'.same s7, hc3, small6' (by rw [List.length_append, List.length_singleton]; omega), fun c4 H7 s8 hc4 => ?_⟩
        have s58 := ((s5.trans s6).trans s7).trans s8
        have k27 := (k3.trans k4).trans (kx_same s58)
        have sz1 := szs_put e ht
        have dp1 := deps_put (n := 0) e ht hdy
        refine q _ (.tup (ts.take kn ++ [e] ++ ts.drop (kn + 1))) H7 (.tup hc4 ((((rx2.mono k27).take kn).append (.one (ry.mono (kx_same s58)))).append ((rx2.mono k27).drop (kn + 1)))) (by show szs _ + 1 ≤ szs ts + 1; omega) dp1 (hB4.same s58) ?_
        exact (sb0.trans sb2).trans ((sb_same s3).trans (sb4.trans (sb_same s58)))
    · refine iteT ⟨_, rfl, _, rfl, (by show 2 ≤ sizeLine; decide), fun l nl => ?_⟩
      have s1 : Same H (upd H l (.lst [.int 1, .int (-1)])) := same_new nl _
      have hl1 : (upd H l (.lst [.int 1, .int (-1)])) l = some (.lst [.int 1, .int (-1)]) := upd_same
      obtain ⟨bs, hbs⟩ := hB.lst
      have hnb : l ≠ b := (ne_of_none hbs nl).symm
      refine ⟨_, rfl, b, c, 2, rfl, hB.same s1, by decide, fun r H2 hr0 hr2 hB2 sb2 => ?_⟩
      obtain ⟨j, hj⟩ : ∃ j : Int, atI ([.int 1, .int (-1)] : List V) r = some (.int j) := by
        have : r = 0 ∨ r = 1 := by omega
        rcases this with rfl | rfl
        · exact ⟨1, rfl⟩
        · exact ⟨-1, rfl⟩
      refine ⟨l, _, _, _, rfl, rfl, SqL.of (sb2 _ _ hnb hl1), hj, i, j, rfl, rfl, q _ (.at (.int (i + j))) H2 (.at rfl) (Nat.le_refl _) (Nat.le_refl _) hB2 ((sb_same s1).trans sb2)⟩
    · refine iteF ⟨_, rfl, _, _, _, _, _, rfl, .ty _, rep_ty rv, kit_ty (kit_tup _), ⟨_, rfl, iteT ?_⟩⟩
      exact ⟨_, rfl, q _ _ H rv (Nat.le_refl _) (Nat.le_refl _) hB (SB.refl b H)⟩
end
end Pk

set_option maxRecDepth 100000
set_option maxHeartbeats 4000000
namespace Pk
open PySem PySem.Spec PyProof.Rows L2
/-! ### _law_other_value -/
/-- what follows a statement, shown once for all the ways to it -/
theorem seq_rest {t u : TS} {D : Ends} {σ : L2.St} {H : Hp} (F : L2.St → Hp → Prop) (main : (∀ σ' H', F σ' H' → u D σ' H') → tSeq t u D σ H) (rest : ∀ σ' H', F σ' H' → u D σ' H') : tSeq t u D σ H := main rest
def sayD : D := .tup [.at (.str "say"), .at (.int 0)]
def menu1 : List D := [.at .non, .at (.int 0), .at (.int 1), .at (.int 2), .at (.int 3), .at (.int (-1)), .at (.bl true), .at (.bl false), .at (.str "say"), .at (.str ""), .tup [], .lst, .tup [.at (.str "stop")], .tup [.at (.str "say"), .at (.int 1)], .tup [.at (.str "say"), .at (.int 2)], .tup [.at (.str "say"), .at (.int 0), .at (.int 0)]]
def menu2 (d : D) : List D := [.tup [.at (.str "program"), .at (.int 0), sayD], .tup [.at (.str "program"), .at (.int 1), sayD], .tup [d], .tup [d, d], .lst]
def OkO (d e : D) : Prop := sz e ≤ 2 * sz d + 9 ∧ dep e ≤ dep d + 2
theorem menu1_ok {d : D} : ∀ e ∈ menu1, OkO d e := by
  intro e h
  unfold menu1 at h
  simp only [List.mem_cons, List.not_mem_nil, or_false] at h
  unfold OkO
  have p := sz_pos d
  rcases h with rfl | rfl | rfl | rfl | rfl | rfl | rfl | rfl | rfl | rfl | rfl | rfl | rfl | rfl | rfl | rfl <;> simp only [sayD, sz, szs, dep, deps] <;> omega
theorem menu2_ok {d : D} : ∀ e ∈ menu2 d, OkO d e := by
  intro e h
  unfold menu2 at h
  simp only [List.mem_cons, List.not_mem_nil, or_false] at h
  unfold OkO
  have p := sz_pos d
  rcases h with rfl | rfl | rfl | rfl | rfl <;> simp only [sayD, sz, szs, dep, deps] <;> omega
theorem ok_both {d : D} {es fs : List D} (h1 : ∀ e ∈ es, OkO d e) (h2 : ∀ e ∈ fs, OkO d e) : ∀ e ∈ es ++ fs, OkO d e := fun e he => (List.mem_append.mp he).elim (h1 e) (h2 e)
theorem sayD_rep {K : PySem.W.Frag} {M : Hp} {t : Addr} (h : M t = some (.tup [.str "say", .int 0])) : Rep K M (.ref t) sayD := .tup' h (.cons (.at rfl) (.one (.at rfl)))
theorem menu1_reps {K : PySem.W.Frag} {M : Hp} {t1 t2 t3 t4 t5 t6 : Addr} (h1 : M t1 = some (.tup [])) (h2 : M t2 = some (.lst [])) (h3 : M t3 = some (.tup [.str "stop"])) (h4 : M t4 = some (.tup [.str "say", .int 1])) (h5 : M t5 = some (.tup [.str "say", .int 2])) (h6 : M t6 = some (.tup [.str "say", .int 0, .int 0])) :
    Reps K M [.non, .int 0, .int 1, .int 2, .int 3, .int (-1), .bl true, .bl false, .str "say", .str "", .ref t1, .ref t2, .ref t3, .ref t4, .ref t5, .ref t6] menu1 := by
  iterate 10 refine .cons (.at rfl) ?_
  refine .cons (.tup' h1 .nil) (.cons (.lst h2) ?_)
  refine .cons (.tup' h3 (.one (.at rfl))) (.cons (.tup' h4 (.cons (.at rfl) (.one (.at rfl)))) ?_)
  exact .cons (.tup' h5 (.cons (.at rfl) (.one (.at rfl)))) (.one (.tup' h6 (.cons (.at rfl) (.cons (.at rfl) (.one (.at rfl))))))
theorem menu2_reps {K : PySem.W.Frag} {M : Hp} {v : V} {d : D} {t1 t2 t3 t4 t5 t6 t7 : Addr} (h1 : M t1 = some (.tup [.str "say", .int 0])) (h2 : M t2 = some (.tup [.str "program", .int 0, .ref t1])) (h3 : M t3 = some (.tup [.str "say", .int 0])) (h4 : M t4 = some (.tup [.str "program", .int 1, .ref t3]))
    (h5 : M t5 = some (.tup [v])) (h6 : M t6 = some (.tup [v, v])) (h7 : M t7 = some (.lst [v])) (r : Rep K M v d) :
    Reps K M [.ref t2, .ref t4, .ref t5, .ref t6, .ref t7] (menu2 d) :=
  .cons (.tup' h2 (.cons (.at rfl) (.cons (.at rfl) (.one (sayD_rep h1))))) (.cons (.tup' h4 (.cons (.at rfl) (.cons (.at rfl) (.one (sayD_rep h3))))) (.cons (.tup' h5 (.one r)) (.cons (.tup' h6 (.cons r (.one r))) (.one (.lst h7)))))
theorem pick {K : PySem.W.Frag} {H : Hp} {xs : List V} {ds : List D} {r : Int} (h : Reps K H xs ds) (h0 : 0 ≤ r) (h1 : r < (xs.length : Nat)) : ∃ v e, atI xs r = some v ∧ Rep K H v e ∧ e ∈ ds := by
  have hk : r.toNat < xs.length := by omega
  obtain ⟨e, he, re⟩ := h.get (List.getElem?_eq_getElem hk)
  have q := atI_nat (List.getElem?_eq_getElem hk)
  rw [show ((r.toNat : Nat) : Int) = r by omega] at q
  exact ⟨_, e, q, re, List.mem_of_getElem? he⟩
/-- a list of values that may be told instead of another -/
def MenuAt (K : PySem.W.Frag) (H : Hp) (m : Addr) (d : D) (n : Nat) : Prop := ∃ xs es, H m = some (.lst xs) ∧ Reps K H xs es ∧ (∀ e ∈ es, OkO d e) ∧ xs.length = n
theorem nb {H : Hp} {b c m : Addr} (h : BoxAt H b c) (n : H m = none) : m ≠ b := by
  obtain ⟨bs, hbs⟩ := h.lst
  exact (ne_of_none hbs n).symm
theorem sizes_sub : ∀ (l : List D) (i j : Nat), szs ((l.drop i).take j) ≤ szs l ∧ deps ((l.drop i).take j) ≤ deps l := by
  intro l i j
  have h1 := congrArg szs (List.take_append_drop j (l.drop i))
  have h2 := congrArg szs (List.take_append_drop i l)
  have h3 := congrArg deps (List.take_append_drop j (l.drop i))
  have h4 := congrArg deps (List.take_append_drop i l)
  rw [szs_append] at h1 h2
  rw [deps_append] at h3 h4
  omega
theorem sizes_rev : ∀ l : List D, szs l.reverse = szs l ∧ deps l.reverse = deps l
  | [] => ⟨rfl, rfl⟩
  | t :: r => by
    obtain ⟨h1, h2⟩ := sizes_rev r
    rw [List.reverse_cons, szs_append, deps_append, h1, h2]
    refine ⟨?_, ?_⟩
    · show szs r + (sz t + 0) = sz t + szs r
      omega
    · show max (deps r) (max (dep t + 1) 0) = max (dep t + 1) (deps r)
      omega
theorem Reps.cut {K : PySem.W.Frag} {H : Hp} {xs : List V} {ds : List D} (r : Reps K H xs ds) (lo hi : Option Int) : ∃ es, Reps K H (cutV xs lo hi) es ∧ szs es ≤ szs ds ∧ deps es ≤ deps ds :=
  ⟨_, (r.drop _).take _, sizes_sub _ _ _⟩
section
variable {P : Program} {w : World} {K : PySem.W.Frag} {mg : Str → Option Value} {base : Heap}
def spOther (K : PySem.W.Frag) (n : Nat) : Sp := fun vs H Q _ => ∃ (b c : Addr) (v : V) (d : D), vs = [.ref b, v] ∧ BoxAt H b c ∧ Rep K H v d ∧ plD d = true ∧ dep d < n ∧ sz d ≤ 200000 ∧
  ∀ (z : V) (e : D) (H' : Hp), Rep K H' z e → OkO d e → BoxAt H' b c → SB b H H' → Q z H'
theorem OkO.put {ts : List D} {k : Nat} {t e : D} (h : ts[k]? = some t) (o : OkO t e) : OkO (.tup ts) (.tup (ts.take k ++ [e] ++ ts.drop (k + 1))) := by
  have s := szs_put e h
  have d := deps_put (n := 2) e h o.2
  have o1 := o.1
  have m := sz_mem (List.mem_of_getElem? h)
  refine ⟨?_, d⟩
  show szs _ + 1 ≤ 2 * (szs ts + 1) + 9
  omega
theorem ok_other {f g : Addr} {fd gd : FuncData} (D__law_other_value : Df K mg "_law_other_value" s__law_other_value ["box", "value"] f fd) (D__law_draw : Df K mg "_law_draw" s__law_draw ["box", "many"] g gd) (B : Bt mg) :
    ∀ n : Nat, FnOk P w K mg base CX0 (n + 1) f fd ["box", "value"] (spOther K n)
  | 0 => (fn_none (f := f) (fd := fd) fun vs H Q E h => by
    obtain ⟨b, c, v, d, _, _, _, _, h1, _⟩ := h
    omega).mono (by omega)
  | n + 1 => by
    have G__law_other_value := ok_other D__law_other_value D__law_draw B n
    have G__law_draw : FnOk P w K mg base CX0 1 g gd ["box", "many"] spDraw := ok_draw D__law_draw B
    refine D__law_other_value.ok c__law_other_value (fun vs H Q E h => ?_) (fun cdv A outer s H vs Q E hr h => ?_)
    · obtain ⟨b, c, v, d, rfl, _⟩ := h
      rfl
    obtain ⟨b, c, v, d, rfl, hB, rv, hpl, hdp, hsz, q⟩ := h
    have nd := c__law_other_value.nd
    refine ⟨_, (pss_cons (ps_if (PW.pt (pw_and (pt_val (pe_callB call_isi (by rfl) B.b_isinstance (by decide +kernel) (pa_cons (pv 1) (pa_cons (pe_bltn (v := .ty "tuple") (by rfl) B.b_tuple (by decide +kernel) rfl) pa_nil)))) (pw_and (pt_cmpR (op_neNilT hr.units) (pv 1) (pe_tup pa_nil) (nomark _)) (pw_and1 (pt_cmpR op_gt (pe_call G__law_draw (hr.mono (by first | decide | omega)) (by rfl) D__law_draw.m D__law_draw.kp D__law_draw.b .nil pass0 (pa_cons (pv 0) (pa_cons pe_int pa_nil))) pe_int (nomark _)))))) (pss_cons (ps_set (i := 2) nd rfl (Or.inl rfl) (pe_call G__law_draw (hr.mono (by first | decide | omega)) (by rfl) D__law_draw.m D__law_draw.kp D__law_draw.b .nil pass0 (pa_cons (pv 0) (pa_cons (pe_callB call_len_seq (by rfl) B.b_len PySem.boot_len (pa_cons (pv 1) pa_nil)) pa_nil))))
  (pss_one (ps_ret (pe_op op_catP (pe_op op_catP (pe_slice sl_tupP (pv 1) po_none (po_some (pv 2))) (pe_tup (pa_cons (pe_call G__law_other_value hr (by rfl) D__law_other_value.m D__law_other_value.kp D__law_other_value.b .nil pass0 (pa_cons (pv 0) (pa_cons (pe_ix ix_tup (pv 1) (pv 2) (fun _ _ => rfl)) pa_nil))) pa_nil))) (pe_slice sl_tupP (pv 1) (po_some (pe_op op_add (pv 2) pe_int)) po_none))))) pss_nil)
  (pss_cons (ps_set (i := 3) nd rfl (Or.inl rfl) (pe_lst (pa_cons pe_non (pa_cons pe_int (pa_cons pe_int (pa_cons pe_int (pa_cons pe_int (pa_cons (pe_un un_neg pe_int) (pa_cons pe_bl (pa_cons pe_bl (pa_cons pe_str (pa_cons pe_str (pa_cons (pe_tup pa_nil) (pa_cons (pe_lst pa_nil) (pa_cons (pe_tup (pa_cons pe_str pa_nil)) (pa_cons (pe_tup (pa_cons pe_str (pa_cons pe_int pa_nil))) (pa_cons (pe_tup (pa_cons pe_str (pa_cons pe_int pa_nil))) (pa_cons (pe_tup (pa_cons pe_str (pa_cons pe_int (pa_cons pe_int pa_nil)))) pa_nil))))))))))))))))))
  (pss_cons (ps_set (i := 3) nd rfl (Or.inl rfl) (pe_op op_cat (pv 3) (pe_lst (pa_cons (pe_tup (pa_cons pe_str (pa_cons pe_int (pa_cons (pe_tup (pa_cons pe_str (pa_cons pe_int pa_nil))) pa_nil)))) (pa_cons (pe_tup (pa_cons pe_str (pa_cons pe_int (pa_cons (pe_tup (pa_cons pe_str (pa_cons pe_int pa_nil))) pa_nil)))) (pa_cons (pe_tup (pa_cons (pv 1) pa_nil)) (pa_cons (pe_tup (pa_cons (pv 1) (pa_cons (pv 1) pa_nil))) (pa_cons (pe_lst (pa_cons (pv 1) pa_nil)) pa_nil))))))))
  (pss_cons (ps_if (pt_val (pe_callB call_isi (by rfl) B.b_isinstance (by decide +kernel) (pa_cons (pv 1) (pa_cons (pe_bltn (v := .ty "int") (by rfl) B.b_int (by decide +kernel) rfl) pa_nil)))) (pss_one (ps_set (i := 3) nd rfl (Or.inl rfl) (pe_op op_cat (pe_lst (pa_cons (pe_op op_add (pv 1) pe_int) (pa_cons (pe_op op_sub (pv 1) pe_int) (pa_cons (pe_op op_add (pv 1) pe_int) (pa_cons (pe_op op_sub (pv 1) pe_int) (pa_cons (pe_op op_add (pv 1) pe_int) pa_nil)))))) (pv 3)))) pss_nil)
  (pss_cons (ps_if (pt_val (pe_callB call_isi (by rfl) B.b_isinstance (by decide +kernel) (pa_cons (pv 1) (pa_cons (pe_bltn (v := .ty "tuple") (by rfl) B.b_tuple (by decide +kernel) rfl) pa_nil)))) (pss_one (ps_set (i := 3) nd rfl (Or.inl rfl) (pe_op op_cat (pe_lst (pa_cons (pe_op op_catP (pv 1) (pe_tup (pa_cons (pe_tup (pa_cons pe_str (pa_cons pe_int pa_nil))) pa_nil))) (pa_cons (pe_slice sl_tupP (pv 1) po_none (po_some (pe_un un_neg pe_int))) (pa_cons (pe_revT (pv 1)) (pa_cons (pe_callTy call_list_of (by rfl) B.b_list (by decide +kernel) (pa_cons (pv 1) pa_nil)) (pa_cons (pe_op op_catP (pv 1) (pv 1)) pa_nil)))))) (pv 3)))) pss_nil)
  (pss_cons (ps_if (pt_val (pe_callB call_isi (by rfl) B.b_isinstance (by decide +kernel) (pa_cons (pv 1) (pa_cons (pe_bltn (v := .ty "str") (by rfl) B.b_str (by decide +kernel) rfl) pa_nil)))) (pss_one (ps_set (i := 3) nd rfl (Or.inl rfl) (pe_op op_cat (pe_lst (pa_cons pe_str (pa_cons pe_str (pa_cons pe_str (pa_cons pe_str (pa_cons (pe_lst (pa_cons (pv 1) pa_nil)) pa_nil)))))) (pv 3)))) pss_nil)
  (pss_one (ps_ret (pe_ix ix_list (pv 3) (pe_call G__law_draw (hr.mono (by first | decide | omega)) (by rfl) D__law_draw.m D__law_draw.kp D__law_draw.b .nil pass0 (pa_cons (pv 0) (pa_cons (pe_callB call_len_seq (by rfl) B.b_len PySem.boot_len (pa_cons (pv 3) pa_nil)) pa_nil))) (fun _ _ => rfl)))))))))), ?_⟩
    refine seq_rest (fun σ1 H1 => σ1 = [some (.ref b), some v, none, none] ∧ BoxAt H1 b c ∧ SB b H H1 ∧ Rep K H1 v d) (fun rest => ?_) ?_
    · refine ⟨_, rfl, _, _, _, _, _, rfl, .ty _, rep_ty rv, kit_ty (kit_tup _), ⟨_, rfl, ?_⟩⟩
      rcases plD_inv rv hpl with ⟨ts, rfl, hpls⟩ | ⟨i, rfl, rfl⟩ | ⟨x, rfl, rfl⟩
      · refine iteT ?_
        obtain ⟨a, xs, rfl, hx, rx⟩ := rv.inv
        have lx := rx.length
        have lts := len_szs ts
        have hsz' : szs ts + 1 ≤ 200000 := hsz
        have hdp' : deps ts < n + 1 := hdp
        refine ⟨_, rfl, (by show 0 ≤ sizeLine; decide), fun e0 ne0 => ?_⟩
        have s0 : Same H (upd H e0 (.tup [])) := same_new ne0 _
        refine ⟨a, e0, xs, rfl, rfl, (hx.same s0).sq, SqT.of upd_same, _, rfl, ?_⟩
        have hB0 := hB.same s0
        have sb0 : SB b H (upd H e0 (.tup [])) := sb_same s0
        have hx0 := hx.same s0
        have rx0 := rx.mono (kx_same s0)
        generalize upd H e0 (.tup []) = H0 at *
        cases hxe : xs.isEmpty with
        | true => exact iteF (rest _ H0 ⟨rfl, hB0, sb0, .tup hx0 rx0⟩)
        | false =>
          refine iteT ⟨_, rfl, b, c, 6, rfl, hB0, by decide, fun r H1 hr0 hr6 hB1 sb1 => ⟨_, _, rfl, rfl, _, rfl, ite2 (fun z => ?_) (fun z => ?_)⟩⟩
          · have k1 := box_kx hB0 hB1 sb1
            have hx1 := hx0.kx k1
            have rx1 := rx0.mono k1
            have hp : 0 < xs.length := by
              cases xs with
              | nil => cases hxe
              | cons _ _ => exact Nat.succ_pos _
            refine ⟨_, rfl, _, rfl, a, xs, rfl, .inr hx1.sq, b, c, _, rfl, hB1, by omega, fun k H2 hk0 hkl hB2 sb2 => ?_⟩
            have k2 := box_kx hB1 hB2 sb2
            have hx2 := hx1.kx k2
            have rx2 := rx1.mono k2
            obtain ⟨kn, rfl⟩ : ∃ kn : Nat, k = (kn : Int) := ⟨k.toNat, by omega⟩
            have hkn : kn < xs.length := by omega
            obtain ⟨t, ht, rt⟩ := rx2.get (List.getElem?_eq_getElem hkn)
            have mt : t ∈ ts := List.mem_of_getElem? ht
            have z1 := dep_mem mt
            have z2 := sz_mem mt
            refine ⟨_, rfl, _, rfl, _, rfl, a, xs, rfl, hx2, fun c1 H3 s3 hc1 => ?_⟩
            rw [cutV_to] at hc1
            have hc1' : TupAt K H3 c1 (xs.take kn) := hc1
            have k3 := kx_same s3
            refine ⟨_, rfl, _, rfl, _, rfl, a, xs, _, _, rfl, rfl, (hx2.same s3).sq, atI_nat (List.getElem?_eq_getElem hkn), b, c, _, t, rfl, hB2.same s3, rt.mono k3, plD_mem hpls mt, by omega, by omega, fun y e H4 ry hoe hB4 sb4 => ?_⟩
            have k4 := box_kx (hB2.same s3) hB4 sb4
            refine ⟨(by show 1 ≤ sizeLine; decide), fun t1 nt1 => ?_⟩
            have s5 := same_new nt1 (.tup [y])
            have ltk : (xs.take kn).length ≤ ts.length := by rw [List.length_take]; omega
            have ldr : (xs.drop (kn + 1)).length ≤ ts.length := by rw [List.length_drop]; omega
            refine ⟨c1, t1, _, _, rfl, rfl, (hc1'.kx k4).same s5, .inl upd_same, small6' (by show (xs.take kn).length + 1 ≤ 1000000; omega), fun c2 H5 s6 hc2 => ?_⟩
            have hc2' : TupAt K H5 c2 (xs.take kn ++ [y]) := hc2
            refine ⟨_, rfl, _, rfl, _, _, rfl, rfl, (kn : Int) + 1, rfl, a, xs, rfl, (((hx2.same s3).kx k4).same s5).same s6, fun c3 H6 s7 hc3 => ?_⟩
            rw [show (kn : Int) + 1 = ((kn + 1 : Nat) : Int) by omega, cutV_from] at hc3
            refine ⟨c2, c3, _, _, rfl, rfl, hc2'.same s7, hc3, small6' (by rw [List.length_append, List.length_singleton]; omega), fun c4 H7 s8 hc4 => ?_⟩
            have s58 := ((s5.trans s6).trans s7).trans s8
            have k27 := (k3.trans k4).trans (kx_same s58)
            refine q _ (.tup (ts.take kn ++ [e] ++ ts.drop (kn + 1))) H7 (.tup hc4 ((((rx2.mono k27).take kn).append (.one (ry.mono (kx_same s58)))).append ((rx2.mono k27).drop (kn + 1)))) (hoe.put ht) (hB4.same s58) ?_
            exact ((sb0.trans sb1).trans sb2).trans ((sb_same s3).trans (sb4.trans (sb_same s58)))
          · exact rest _ H1 ⟨rfl, hB1, sb0.trans sb1, .tup (hx0.kx (box_kx hB0 hB1 sb1)) (rx0.mono (box_kx hB0 hB1 sb1))⟩
      · exact iteF (rest _ H ⟨rfl, hB, SB.refl b H, rv⟩)
      · exact iteF (rest _ H ⟨rfl, hB, SB.refl b H, rv⟩)
    rintro σ1 H1 ⟨rfl, hB1, sb1, rv1⟩
    refine seq_rest (fun σ2 H2 => ∃ m0 xs, σ2 = [some (.ref b), some v, none, some (.ref m0)] ∧ BoxAt H2 b c ∧ SB b H H2 ∧ Rep K H2 v d ∧ H2 m0 = some (.lst xs) ∧ Reps K H2 xs menu1) (fun rest => ?_) ?_
    · refine ⟨_, rfl, (by show 0 ≤ sizeLine; decide), fun t1 n1 => ⟨(by show 0 ≤ sizeLine; decide), fun t2 n2 => ⟨(by show 1 ≤ sizeLine; decide), fun t3 n3 => ⟨(by show 2 ≤ sizeLine; decide), fun t4 n4 => ⟨(by show 2 ≤ sizeLine; decide), fun t5 n5 =>
        ⟨(by show 3 ≤ sizeLine; decide), fun t6 n6 => ⟨(by show 16 ≤ sizeLine; decide), fun m0 n7 => ?_⟩⟩⟩⟩⟩⟩⟩
      have u7 := same_new n7 (.lst [.non, .int 0, .int 1, .int 2, .int 3, .int (-1), .bl true, .bl false, .str "say", .str "", .ref t1, .ref t2, .ref t3, .ref t4, .ref t5, .ref t6])
      have u6 := (same_new n6 _).trans u7
      have u5 := (same_new n5 _).trans u6
      have u4 := (same_new n4 _).trans u5
      have u3 := (same_new n3 _).trans u4
      have u2 := (same_new n2 _).trans u3
      have u1 := (same_new n1 _).trans u2
      exact rest _ _ ⟨m0, _, rfl, hB1.same u1, sb1.trans (sb_same u1), rv1.mono (kx_same u1), upd_same, menu1_reps (K := K) (u2 _ _ upd_same) (u3 _ _ upd_same) (u4 _ _ upd_same) (u5 _ _ upd_same) (u6 _ _ upd_same) (u7 _ _ upd_same)⟩
    rintro σ2 H2 ⟨m0, xs0, rfl, hB2, sb2, rv2, hm0, rm0⟩
    have lm0 : xs0.length = 16 := rm0.length
    refine seq_rest (fun σ3 H3 => ∃ m, σ3 = [some (.ref b), some v, none, some (.ref m)] ∧ m ≠ b ∧ BoxAt H3 b c ∧ SB b H H3 ∧ Rep K H3 v d ∧ MenuAt K H3 m d 21) (fun rest => ?_) ?_
    · refine ⟨_, rfl, (by show 2 ≤ sizeLine; decide), fun t1 n1 => ⟨(by show 3 ≤ sizeLine; decide), fun t2 n2 => ⟨(by show 2 ≤ sizeLine; decide), fun t3 n3 => ⟨(by show 3 ≤ sizeLine; decide), fun t4 n4 => ⟨_, rfl, (by show 1 ≤ sizeLine; decide), fun t5 n5 =>
        ⟨_, rfl, _, rfl, (by show 2 ≤ sizeLine; decide), fun t6 n6 => ⟨_, rfl, (by show 1 ≤ sizeLine; decide), fun t7 n7 => ⟨(by show 5 ≤ sizeLine; decide), fun m1 n8 => ?_⟩⟩⟩⟩⟩⟩⟩⟩
      have u8 := same_new n8 (.lst [.ref t2, .ref t4, .ref t5, .ref t6, .ref t7])
      have u7 := (same_new n7 _).trans u8
      have u6 := (same_new n6 _).trans u7
      have u5 := (same_new n5 _).trans u6
      have u4 := (same_new n4 _).trans u5
      have u3 := (same_new n3 _).trans u4
      have u2 := (same_new n2 _).trans u3
      have u1 := (same_new n1 _).trans u2
      refine ⟨m0, m1, _, _, rfl, rfl, u1 _ _ hm0, upd_same, small6' (by rw [lm0]; show 16 + 5 ≤ 1000000; decide), fun m nm => ?_⟩
      have s9 := same_new nm (.lst (xs0 ++ [.ref t2, .ref t4, .ref t5, .ref t6, .ref t7]))
      have u19 := u1.trans s9
      refine rest _ _ ⟨m, rfl, nb (hB2.same u1) nm, hB2.same u19, sb2.trans (sb_same u19), rv2.mono (kx_same u19), _, _, upd_same, (rm0.mono (kx_same u19)).append ?_, ok_both menu1_ok menu2_ok, by rw [List.length_append, lm0]; rfl⟩
      exact (menu2_reps (K := K) (u2 _ _ upd_same) (u3 _ _ upd_same) (u4 _ _ upd_same) (u5 _ _ upd_same) (u6 _ _ upd_same) (u7 _ _ upd_same) (u8 _ _ upd_same) (rv2.mono (kx_same u1))).mono (kx_same s9)
    rintro σ3 H3 ⟨m1, rfl, nb3, hB3, sb3, rv3, ma3⟩
    refine seq_rest (fun σ4 H4 => ∃ m n, σ4 = [some (.ref b), some v, none, some (.ref m)] ∧ m ≠ b ∧ BoxAt H4 b c ∧ SB b H H4 ∧ Rep K H4 v d ∧ MenuAt K H4 m d n ∧ 0 < n ∧ n ≤ 26) (fun rest => ?_) ?_
    · refine ⟨_, rfl, _, _, _, _, _, rfl, .ty _, rep_ty rv3, kit_ty (kit_int _), ⟨_, rfl, ?_⟩⟩
      obtain ⟨xs1, es1, hm1, rm1, ok1, lm1⟩ := ma3
      rcases plD_inv rv hpl with ⟨ts, rfl, hpls⟩ | ⟨i, rfl, rfl⟩ | ⟨x, rfl, rfl⟩
      · exact iteF (rest _ _ ⟨m1, 21, rfl, nb3, hB3, sb3, rv3, ⟨xs1, es1, hm1, rm1, ok1, lm1⟩, by decide, by decide⟩)
      · refine iteT ⟨_, rfl, _, _, rfl, rfl, _, rfl, _, _, rfl, rfl, _, rfl, _, _, rfl, rfl, _, rfl, _, _, rfl, rfl, _, rfl, _, _, rfl, rfl, (by show 5 ≤ sizeLine; decide), fun l nl => ?_⟩
        have s1 := same_new nl (.lst [.int (i + 1), .int (i - 1), .int (i + 1), .int (i - 2), .int (i + 7)])
        refine ⟨_, rfl, l, m1, _, _, rfl, rfl, upd_same, s1 _ _ hm1, small6' (by rw [lm1]; show 5 + 21 ≤ 1000000; decide), fun m nm => ?_⟩
        have s2 := s1.trans (same_new nm (.lst ([.int (i + 1), .int (i - 1), .int (i + 1), .int (i - 2), .int (i + 7)] ++ xs1)))
        refine rest _ _ ⟨m, 26, rfl, nb (hB3.same s1) nm, hB3.same s2, sb3.trans (sb_same s2), rv3.mono (kx_same s2), ⟨_, [.at (.int (i + 1)), .at (.int (i - 1)), .at (.int (i + 1)), .at (.int (i - 2)), .at (.int (i + 7))] ++ es1, upd_same, ?_, ok_both ?_ ok1, ?_⟩, by decide, by decide⟩
        · exact Reps.append (.cons (.at rfl) (.cons (.at rfl) (.cons (.at rfl) (.cons (.at rfl) (.one (.at rfl)))))) (rm1.mono (kx_same s2))
        · intro e he
          simp only [List.mem_cons, List.not_mem_nil, or_false] at he
          rcases he with rfl | rfl | rfl | rfl | rfl <;> exact ⟨by show 1 ≤ _; omega, by show 0 ≤ _; omega⟩
        · rw [List.length_append, lm1]
          rfl
      · exact iteF (rest _ _ ⟨m1, 21, rfl, nb3, hB3, sb3, rv3, ⟨xs1, es1, hm1, rm1, ok1, lm1⟩, by decide, by decide⟩)
    clear nb3 hB3 sb3 rv3 ma3
    rintro σ4 H4 ⟨m1, n1, rfl, nb3, hB3, sb3, rv3, ma3, n10, n11⟩
    refine seq_rest (fun σ4 H4 => ∃ m n, σ4 = [some (.ref b), some v, none, some (.ref m)] ∧ m ≠ b ∧ BoxAt H4 b c ∧ SB b H H4 ∧ Rep K H4 v d ∧ MenuAt K H4 m d n ∧ 0 < n ∧ n ≤ 31) (fun rest => ?_) ?_
    · refine ⟨_, rfl, _, _, _, _, _, rfl, .ty _, rep_ty rv3, kit_ty (kit_tup _), ⟨_, rfl, ?_⟩⟩
      obtain ⟨xs1, es1, hm1, rm1, ok1, lm1⟩ := ma3
      rcases plD_inv rv hpl with ⟨ts, rfl, hpls⟩ | ⟨i, rfl, rfl⟩ | ⟨x, rfl, rfl⟩
      · refine iteT ?_
        obtain ⟨a, xs, rfl, hx, rx⟩ := rv3.inv
        have lx := rx.length
        have lts := len_szs ts
        have hsz' : szs ts + 1 ≤ 200000 := hsz
        refine ⟨_, rfl, (by show 2 ≤ sizeLine; decide), fun t1 nt1 => ⟨(by show 1 ≤ sizeLine; decide), fun t2 nt2 => ?_⟩⟩
        have q2 := same_new nt2 (.tup [.ref t1])
        have q1 := (same_new nt1 (.tup [.str "say", .int 0])).trans q2
        have rs2 := sayD_rep (K := K) (q2 _ _ upd_same)
        refine ⟨a, t2, _, _, rfl, rfl, hx.same q1, .inl upd_same, small6' (by show xs.length + 1 ≤ 1000000; omega), fun c1 H5 s5 hc1 => ?_⟩
        have hc1' : TupAt K H5 c1 (xs ++ [.ref t1]) := hc1
        have w5 := q1.trans s5
        refine ⟨_, rfl, _, rfl, _, rfl, a, xs, rfl, hx.same w5, fun c2 H6 s6 hc2 => ?_⟩
        have hc2' : TupAt K H6 c2 (cutV xs none (some (-1))) := hc2
        have w6 := w5.trans s6
        refine ⟨_, rfl, a, xs, rfl, (hx.same w6).sq, fun c3 n3 => ?_⟩
        have s7 := same_new n3 (.tup xs.reverse)
        have w7 := w6.trans s7
        have hc3 : (upd H6 c3 (.tup xs.reverse)) c3 = some (.tup xs.reverse) := upd_same
        generalize upd H6 c3 (.tup xs.reverse) = H7 at *
        refine ⟨_, rfl, a, xs, rfl, .inr (hx.same w7).sq, fun c4 n4 => ?_⟩
        have s8 := same_new n4 (.lst xs)
        have w8 := w7.trans s8
        have hc4 : (upd H7 c4 (.lst xs)) c4 = some (.lst xs) := upd_same
        generalize upd H7 c4 (.lst xs) = H8 at *
        refine ⟨_, rfl, _, rfl, a, a, xs, xs, rfl, rfl, hx.same w8, hx.same w8, small6' (by omega), fun c5 H9 s9 hc5 => ⟨(by show 5 ≤ sizeLine; decide), fun l nl => ?_⟩⟩
        have hc5' : TupAt K H9 c5 (xs ++ xs) := hc5
        have s10 := same_new nl (.lst [.ref c1, .ref c2, .ref c3, .ref c4, .ref c5])
        have w10 := (w8.trans s9).trans s10
        refine ⟨_, rfl, l, m1, _, _, rfl, rfl, upd_same, w10 _ _ hm1, small6' (by rw [lm1]; show 5 + n1 ≤ 1000000; omega), fun m nm => ?_⟩
        have s11 := same_new nm (.lst ([.ref c1, .ref c2, .ref c3, .ref c4, .ref c5] ++ xs1))
        have w11 := w10.trans s11
        have v10 := s10.trans s11
        have v9 := s9.trans v10
        have v8 := s8.trans v9
        have v7 := s7.trans v8
        have v6 := s6.trans v7
        have v5 := s5.trans v6
        have rxM := rx.mono (kx_same w11)
        obtain ⟨es2, res2, z1, z2⟩ := rxM.cut none (some (-1))
        refine rest _ _ ⟨m, 5 + n1, rfl, nb (hB3.same w10) nm, hB3.same w11, sb3.trans (sb_same w11), rv3.mono (kx_same w11), ⟨_, [.tup (ts ++ [sayD]), .tup es2, .tup ts.reverse, .lst, .tup (ts ++ ts)] ++ es1, upd_same, ?_, ok_both ?_ ok1, ?_⟩, by omega, by omega⟩
        · refine Reps.append (.cons (.tup (hc1'.same v6) (rxM.append (.one (rs2.mono (kx_same v5))))) (.cons (.tup (hc2'.same v7) res2) (.cons (.tup' (v8 _ _ hc3) rxM.reverse) (.cons (.lst (v9 _ _ hc4)) (.one (.tup (hc5'.same v10) (rxM.append rxM))))))) (rm1.mono (kx_same w11))
        · intro e he
          simp only [List.mem_cons, List.not_mem_nil, or_false] at he
          obtain ⟨r1, r2⟩ := sizes_rev ts
          have a1 := szs_append ts [sayD]
          have a2 := deps_append ts [sayD]
          have a3 := szs_append ts ts
          have a4 := deps_append ts ts
          have b1 : szs [sayD] = 3 := rfl
          have b2 : deps [sayD] = 2 := rfl
          unfold OkO
          rcases he with rfl | rfl | rfl | rfl | rfl <;> simp only [sz, dep] <;> omega
        · rw [List.length_append, lm1]
          rfl
      · exact iteF (rest _ _ ⟨m1, n1, rfl, nb3, hB3, sb3, rv3, ⟨xs1, es1, hm1, rm1, ok1, lm1⟩, n10, by omega⟩)
      · exact iteF (rest _ _ ⟨m1, n1, rfl, nb3, hB3, sb3, rv3, ⟨xs1, es1, hm1, rm1, ok1, lm1⟩, n10, by omega⟩)
    clear nb3 hB3 sb3 rv3 ma3 n10 n11
    rintro σ5 H5 ⟨m1, n1, rfl, nb3, hB3, sb3, rv3, ma3, n10, n11⟩
    refine seq_rest (fun σ4 H4 => ∃ m n, σ4 = [some (.ref b), some v, none, some (.ref m)] ∧ m ≠ b ∧ BoxAt H4 b c ∧ SB b H H4 ∧ Rep K H4 v d ∧ MenuAt K H4 m d n ∧ 0 < n ∧ n ≤ 36) (fun rest => ?_) ?_
    · refine ⟨_, rfl, _, _, _, _, _, rfl, .ty _, rep_ty rv3, kit_ty (kit_str _), ⟨_, rfl, ?_⟩⟩
      obtain ⟨xs1, es1, hm1, rm1, ok1, lm1⟩ := ma3
      rcases plD_inv rv hpl with ⟨ts, rfl, hpls⟩ | ⟨i, rfl, rfl⟩ | ⟨x, rfl, rfl⟩
      · exact iteF (rest _ _ ⟨m1, n1, rfl, nb3, hB3, sb3, rv3, ⟨xs1, es1, hm1, rm1, ok1, lm1⟩, n10, by omega⟩)
      · exact iteF (rest _ _ ⟨m1, n1, rfl, nb3, hB3, sb3, rv3, ⟨xs1, es1, hm1, rm1, ok1, lm1⟩, n10, by omega⟩)
      · refine iteT ⟨_, rfl, (by show 1 ≤ sizeLine; decide), fun t nt => ⟨(by show 5 ≤ sizeLine; decide), fun l nl => ?_⟩⟩
        have s1 := (same_new nt (.lst [.str x])).trans (same_new nl (.lst [.str "stop", .str "ask", .str "say", .str "program", .ref t]))
        refine ⟨_, rfl, l, m1, _, _, rfl, rfl, upd_same, s1 _ _ hm1, small6' (by rw [lm1]; show 5 + n1 ≤ 1000000; omega), fun m nm => ?_⟩
        have s2 := s1.trans (same_new nm (.lst ([.str "stop", .str "ask", .str "say", .str "program", .ref t] ++ xs1)))
        refine rest _ _ ⟨m, 5 + n1, rfl, nb (hB3.same s1) nm, hB3.same s2, sb3.trans (sb_same s2), rv3.mono (kx_same s2), ⟨_, [.at (.str "stop"), .at (.str "ask"), .at (.str "say"), .at (.str "program"), .lst] ++ es1, upd_same, ?_, ok_both ?_ ok1, ?_⟩, by omega, by omega⟩
        · exact Reps.append (.cons (.at rfl) (.cons (.at rfl) (.cons (.at rfl) (.cons (.at rfl) (.one (.lst (((same_new nl _).trans (same_new nm _)) _ _ upd_same))))))) (rm1.mono (kx_same s2))
        · intro e he
          simp only [List.mem_cons, List.not_mem_nil, or_false] at he
          rcases he with rfl | rfl | rfl | rfl | rfl <;> exact ⟨by show 1 ≤ _; omega, by show 0 ≤ _; omega⟩
        · rw [List.length_append, lm1]
          rfl
    clear nb3 hB3 sb3 rv3 ma3 n10 n11
    rintro σ6 H6 ⟨m, n1, rfl, nb3, hB3, sb3, rv3, ⟨xs1, es1, hm1, rm1, ok1, lm1⟩, n10, n11⟩
    refine ⟨_, rfl, _, rfl, _, rfl, m, _, rfl, .inl (SqL.of hm1), b, c, _, rfl, hB3, by omega, fun r H8 hr0 hr1 hB8 sb8 => ?_⟩
    obtain ⟨y, e, hy, re, me⟩ := pick rm1 hr0 hr1
    exact ⟨m, _, _, y, rfl, rfl, SqL.of (sb8 _ _ nb3 hm1), hy, q y e H8 (re.mono (box_kx hB3 hB8 sb8)) (ok1 e me) hB8 (sb3.trans sb8)⟩
end
end Pk

set_option maxRecDepth 100000
set_option maxHeartbeats 4000000
namespace Pk
open PySem PySem.Spec PyProof.Rows L2
/-! ### the programs of the law are programs; how great they are -/
def Kq (d : D) : Prop := isK d = true ∧ sz d ≤ 20
theorem Kq.sub {d a : D} (h : Kq d) (m : a ∈ args d) : Kq a := by
  obtain ⟨ts, rfl, hks⟩ := isK_inv h.1
  have m : a ∈ ts := m
  have := sz_mem m
  have h2 : szs ts + 1 ≤ 20 := h.2
  exact ⟨isK_mem hks m, by omega⟩
theorem Kq.len {d : D} (h : Kq d) : (args d).length ≤ 19 := by
  obtain ⟨ts, rfl, hks⟩ := isK_inv h.1
  have := len_szs ts
  have h2 : szs ts + 1 ≤ 20 := h.2
  show ts.length ≤ 19
  omega
theorem Kq.kd {d : D} (h : Kq d) : Kd d := ⟨h.1, Nat.le_trans h.2 (by decide)⟩
theorem whole_nat {n m : Nat} (h : n < m) : wholeB (.at (.int (n : Nat))) m = true := by
  show (decide ((0 : Int) ≤ (n : Int)) && decide ((n : Int) < (m : Nat))) = true
  rw [decide_eq_true (by omega), decide_eq_true (by omega)]
  rfl
mutual
theorem wfB_all : ∀ (t : T) (ks : List D), wfB ks t = true → (∀ k ∈ ks, Kq k) → isB ks (toD t) = true ∧ sz (toD t) ≤ 3 + 130 * nasks t ∧ dep (toD t) ≤ 1 + 3 * nasks t
  | .say v, ks, h, hk => by
    have hv : v < 2 := of_decide_eq_true h
    refine ⟨?_, by show 3 ≤ _; omega, by show 1 ≤ _; omega⟩
    show (true && wholeB (.at (.int (v : Nat))) 2) = true
    rw [whole_nat hv]
    rfl
  | .stop, ks, h, hk => ⟨rfl, by show 2 ≤ _; omega, by show 1 ≤ _; omega⟩
  | .prog m b, ks, h, hk => by cases h
  | .ask up k as z o, ks, h, hk => by
    have h' : ((match ks[up]? with
      | some kd => (match (args kd)[k]? with
        | some a => wfPs ks (args a) as
        | none => false)
      | none => false) && (wfB ks z && wfB ks o)) = true := h
    have h1 := Bool.and_eq_true_iff.mp h'
    have h2 := Bool.and_eq_true_iff.mp h1.2
    obtain ⟨z1, z2, z3⟩ := wfB_all z ks h2.1 hk
    obtain ⟨o1, o2, o3⟩ := wfB_all o ks h2.2 hk
    cases hkd : ks[up]? with
    | none =>
      rw [hkd] at h1
      exact absurd h1.1 (by simp)
    | some kd =>
      rw [hkd] at h1
      have hw : (match (args kd)[k]? with
        | some a => wfPs ks (args a) as
        | none => false) = true := h1.1
      cases ha : (args kd)[k]? with
      | none =>
        rw [ha] at hw
        exact absurd hw (by simp)
      | some a =>
        rw [ha] at hw
        have hw' : wfPs ks (args a) as = true := hw
        have qk : Kq kd := hk kd (List.mem_of_getElem? hkd)
        have qa : Kq a := qk.sub (List.mem_of_getElem? ha)
        obtain ⟨p1, p2, p3, p4⟩ := wfPs_all as ks (args a) hw' (fun d hd => qa.sub hd) hk
        have la := qa.len
        have lu := (List.getElem?_eq_some_iff.mp hkd).1
        have lk := (List.getElem?_eq_some_iff.mp ha).1
        refine ⟨?_, ?_, ?_⟩
        · show (true && (wholeB (.at (.int (up : Nat))) ks.length && (match ks[up]? with
            | some kd => wholeB (.at (.int (k : Nat))) (args kd).length && (match (args kd)[k]? with
              | some a => isPs ks (args a) (toDs as)
              | none => false)
            | none => false) && (isB ks (toD z) && isB ks (toD o)))) = true
          rw [hkd, whole_nat lu, z1, o1]
          show (true && (true && (wholeB (.at (.int (k : Nat))) (args kd).length && (match (args kd)[k]? with
              | some a => isPs ks (args a) (toDs as)
              | none => false)) && (true && true))) = true
          rw [ha, whole_nat lk]
          show (true && (true && (true && isPs ks (args a) (toDs as)) && (true && true))) = true
          rw [p1]
          rfl
        · show 1 + (1 + (1 + (szs (toDs as) + 1 + (sz (toD z) + (sz (toD o) + 0))))) + 1 ≤ 3 + 130 * (1 + (nasksL as + (nasks z + nasks o)))
          omega
        · show max (0 + 1) (max (0 + 1) (max (0 + 1) (max (deps (toDs as) + 1) (max (dep (toD z) + 1) (max (dep (toD o) + 1) 0))))) ≤ 1 + 3 * (1 + (nasksL as + (nasks z + nasks o)))
          omega
theorem wfP_all : ∀ (t : T) (ks : List D) (kd : D), wfP ks kd t = true → Kq kd → (∀ k ∈ ks, Kq k) → isPr ks kd (toD t) = true ∧ sz (toD t) ≤ 6 + 130 * nasks t ∧ dep (toD t) ≤ 2 + 3 * nasks t
  | .prog m b, ks, kd, h, q, hk => by
    have h1 := Bool.and_eq_true_iff.mp (show (decide (m = (args kd).length) && wfB (kd :: ks) b) = true from h)
    have hm := of_decide_eq_true h1.1
    obtain ⟨b1, b2, b3⟩ := wfB_all b (kd :: ks) h1.2 (fun k hk' => (List.mem_cons.mp hk').elim (fun e => e ▸ q) (hk k))
    have lq := q.len
    refine ⟨?_, ?_, ?_⟩
    · show isPr ks kd (.tup [.at (.str "program"), .at (.int (m : Nat)), toD b]) = true
      rw [isPr_three]
      show (true && (wholeB (.at (.int (m : Nat))) 99 && decide (m = (args kd).length)) && isB (kd :: ks) (toD b)) = true
      rw [whole_nat (by omega), decide_eq_true hm, b1]
      rfl
    · show 1 + (1 + (sz (toD b) + 0)) + 1 ≤ 6 + 130 * nasks b
      omega
    · show max (0 + 1) (max (0 + 1) (max (dep (toD b) + 1) 0)) ≤ 2 + 3 * nasks b
      omega
  | .say _, _, _, h, _, _ => by cases h
  | .stop, _, _, h, _, _ => by cases h
  | .ask _ _ _ _ _, _, _, h, _, _ => by cases h
theorem wfPs_all : ∀ (l : List T) (ks ds : List D), wfPs ks ds l = true → (∀ d ∈ ds, Kq d) → (∀ k ∈ ks, Kq k) → isPs ks ds (toDs l) = true ∧ szs (toDs l) ≤ 6 * ds.length + 130 * nasksL l ∧ deps (toDs l) ≤ 3 + 3 * nasksL l ∧ l.length = ds.length
  | [], ks, [], h, hd, hk => ⟨rfl, Nat.zero_le _, Nat.zero_le _, rfl⟩
  | t :: r, ks, d :: ds, h, hd, hk => by
    have h1 := Bool.and_eq_true_iff.mp (show (wfP ks d t && wfPs ks ds r) = true from h)
    obtain ⟨t1, t2, t3⟩ := wfP_all t ks d h1.1 (hd d (List.mem_cons_self ..)) hk
    obtain ⟨r1, r2, r3, r4⟩ := wfPs_all r ks ds h1.2 (fun e he => hd e (List.mem_cons_of_mem _ he)) hk
    refine ⟨?_, ?_, ?_, congrArg Nat.succ r4⟩
    · show isPs ks (d :: ds) (toD t :: toDs r) = true
      rw [isPs_cons, t1, r1]
      rfl
    · show sz (toD t) + szs (toDs r) ≤ 6 * (ds.length + 1) + 130 * (nasks t + nasksL r)
      omega
    · show max (dep (toD t) + 1) (deps (toDs r)) ≤ 3 + 3 * (nasks t + nasksL r)
      omega
  | [], _, _ :: _, h, _, _ => by cases h
  | _ :: _, _, [], h, _, _ => by cases h
end
/-! ### the law -/
/-- what stands while the values are made: the box, the elder kind, the kind, the program -/
structure En (K : PySem.W.Frag) (b c : Addr) (ev : V) (ed : D) (kv : V) (kd : D) (pv : V) (pd : D) (H : Hp) : Prop where
  box : BoxAt H b c
  e : Rep K H ev ed
  k : Rep K H kv kd
  p : Rep K H pv pd
section
variable {K : PySem.W.Frag} {b c : Addr} {ev : V} {ed : D} {kv : V} {kd : D} {pv : V} {pd : D} {H H' : Hp}
theorem En.same (h : En K b c ev ed kv kd pv pd H) (s : Same H H') : En K b c ev ed kv kd pv pd H' := ⟨h.box.same s, h.e.mono (kx_same s), h.k.mono (kx_same s), h.p.mono (kx_same s)⟩
theorem En.sb (h : En K b c ev ed kv kd pv pd H) (hB : BoxAt H' b c) (s : SB b H H') : En K b c ev ed kv kd pv pd H' :=
  let k := box_kx h.box hB s
  ⟨hB, h.e.mono k, h.k.mono k, h.p.mono k⟩
theorem En.put {l : Addr} {xs : List V} (h : En K b c ev ed kv kd pv pd H) (hl : H l = some (.lst xs)) (nb : l ≠ b) (nc : l ≠ c) (ys : List V) : En K b c ev ed kv kd pv pd (upd H l (.lst ys)) :=
  let k := kx_list hl ys
  ⟨h.box.other _ nb nc, h.e.mono k, h.k.mono k, h.p.mono k⟩
/-- a list of n values of the law -/
def LsAt (K : PySem.W.Frag) (H : Hp) (p : Addr) (n : Nat) : Prop := ∃ acc es, H p = some (.lst acc) ∧ Reps K H acc es ∧ (∀ e ∈ es, dep e ≤ 32 ∧ sz e ≤ 3000) ∧ acc.length = n
theorem LsAt.same {p : Addr} {n : Nat} (h : LsAt K H p n) (s : Same H H') : LsAt K H' p n := by
  obtain ⟨acc, es, h1, h2, h3, h4⟩ := h
  exact ⟨acc, es, s _ _ h1, h2.mono (kx_same s), h3, h4⟩
theorem LsAt.sb {p : Addr} {n : Nat} (h : LsAt K H p n) (hB : BoxAt H b c) (hB' : BoxAt H' b c) (s : SB b H H') (nb : p ≠ b) : LsAt K H' p n := by
  obtain ⟨acc, es, h1, h2, h3, h4⟩ := h
  exact ⟨acc, es, s _ _ nb h1, h2.mono (box_kx hB hB' s), h3, h4⟩
theorem LsAt.put {p l : Addr} {n : Nat} {xs : List V} (h : LsAt K H p n) (hl : H l = some (.lst xs)) (np : p ≠ l) (ys : List V) : LsAt K (upd H l (.lst ys)) p n := by
  obtain ⟨acc, es, h1, h2, h3, h4⟩ := h
  exact ⟨acc, es, by rw [upd_ne np]; exact h1, h2.mono (kx_list hl ys), h3, h4⟩
theorem nbc {m : Addr} (h : BoxAt H b c) (n : H m = none) : m ≠ b ∧ m ≠ c := by
  obtain ⟨bs, hbs⟩ := h.lst
  obtain ⟨cs, hcs⟩ := h.dst
  exact ⟨(ne_of_none hbs n).symm, (ne_of_none hcs n).symm⟩
end
section
variable {P : Program} {w : World} {K : PySem.W.Frag} {mg : Str → Option Value} {base : Heap}
/-- what the program's own two functions promise -/
def spIsProg (K : PySem.W.Frag) : Sp := fun vs H Q _ => ∃ (kv v : V) (kd d : D), vs = [kv, v] ∧ Rep K H kv kd ∧ Kq kd ∧ Rep K H v d ∧ dep d ≤ 32 ∧ sz d ≤ 3000 ∧ ∀ H', Same H H' → Q (.bl (isPr [] kd d)) H'
def spAsksP (K : PySem.W.Frag) : Sp := fun vs H Q _ => ∃ (v : V) (kd : D) (t : T), vs = [v] ∧ Rep K H v (toD t) ∧ Kq kd ∧ wfP [] kd t = true ∧ nasks t ≤ 20 ∧ ∀ H', Same H H' → Q (.int (nasks t : Nat)) H'
def OkV (d : D) : Prop := dep d ≤ 32 ∧ sz d ≤ 3000
def spLaw (K : PySem.W.Frag) : Sp := fun vs H Q _ => ∃ (a : Addr) (ns : List Int), vs = [.ref a] ∧ SqL K H a (ns.map V.int) ∧ ns.length ≤ 63 ∧ ∀ H', Q (.bl true) H'
theorem ok_law {f : Addr} {fd : FuncData} {f1 f2 f3 f4 f5 f6 f7 f8 f9 f10 f11 f12 f13 f14 f15 f16 f17 : Addr} {d1 d2 d3 d4 d5 d6 d7 d8 d9 d10 d11 d12 d13 d14 d15 d16 d17 : FuncData} (D_law : Df K mg "law" s_law ["script"] f fd) (B : Bt mg)
    (D_is_program : Df K mg "is_program" s_is_program ["kind", "value"] f1 d1) (D_asks : Df K mg "asks" s_asks ["program"] f2 d2)
    (G_is_program : FnOk P w K mg base CX0 119 f1 d1 ["kind", "value"] (spIsProg K)) (G_asks : FnOk P w K mg base CX0 119 f2 d2 ["program"] (spAsksP K))
    (D__law_cell : Df K mg "_law_cell" s__law_cell ["script", "k"] f3 d3) (D__law_digits : Df K mg "_law_digits" s__law_digits ["script", "first", "last"] f4 d4) (D__law_draw : Df K mg "_law_draw" s__law_draw ["box", "many"] f5 d5)
    (D__law_box : Df K mg "_law_box" s__law_box ["script", "first", "last"] f6 d6) (D__law_same : Df K mg "_law_same" s__law_same ["actual", "expected"] f7 d7) (D__law_kind : Df K mg "_law_kind" s__law_kind ["box", "depth", "budget"] f8 d8)
    (D__law_body : Df K mg "_law_body" s__law_body ["box", "kinds", "budget"] f9 d9) (D__law_program : Df K mg "_law_program" s__law_program ["box", "kind", "most"] f10 d10) (D__law_is_whole : Df K mg "_law_is_whole" s__law_is_whole ["value", "most"] f11 d11)
    (D__law_is_program : Df K mg "_law_is_program" s__law_is_program ["kinds", "value"] f12 d12) (D__law_is_body : Df K mg "_law_is_body" s__law_is_body ["kinds", "value"] f13 d13) (D__law_is_ask : Df K mg "_law_is_ask" s__law_is_ask ["kinds", "value"] f14 d14)
    (D__law_asks_of : Df K mg "_law_asks_of" s__law_asks_of ["value"] f15 d15) (D__law_other_value : Df K mg "_law_other_value" s__law_other_value ["box", "value"] f16 d16) (D__law_nudged : Df K mg "_law_nudged" s__law_nudged ["box", "value"] f17 d17) :
    FnOk P w K mg base CX0 121 f fd ["script"] (spLaw K) := by
  have G__law_same : FnOk P w K mg base CX0 5 f7 d7 ["actual", "expected"] (spSame K 5) := ok_same D__law_same B 5
  have G__law_draw : FnOk P w K mg base CX0 1 f5 d5 ["box", "many"] spDraw := ok_draw D__law_draw B
  have G__law_box : FnOk P w K mg base CX0 3 f6 d6 ["script", "first", "last"] (spBox K) := ok_box D__law_box D__law_digits D__law_cell B
  have G__law_kind : FnOk P w K mg base CX0 5 f8 d8 ["box", "depth", "budget"] (spKind K 4) := ok_kind D__law_kind D__law_draw B 4
  have G__law_program : FnOk P w K mg base CX0 103 f10 d10 ["box", "kind", "most"] (spProg K) := ok_prog D__law_program D__law_body D__law_draw B
  have G__law_is_program : FnOk P w K mg base CX0 102 f12 d12 ["kinds", "value"] (spIsP K 33) := (ok_isall D__law_is_ask D__law_is_body D__law_is_whole D__law_is_program B 33).2
  have G__law_asks_of : FnOk P w K mg base CX0 33 f15 d15 ["value"] (spAsks K 33) := ok_asks D__law_asks_of B 33
  have G__law_other_value : FnOk P w K mg base CX0 34 f16 d16 ["box", "value"] (spOther K 33) := ok_other D__law_other_value D__law_draw B 33
  have G__law_nudged : FnOk P w K mg base CX0 34 f17 d17 ["box", "value"] (spNudged K 33) := ok_nudged D__law_nudged D__law_draw B 33
  refine D_law.ok c_law (fun vs H Q E h => ?_) (fun cdv A outer s H vs Q E hr h => ?_)
  · obtain ⟨a, ns, rfl, _⟩ := h
    rfl
  obtain ⟨a, ns, rfl, hS, hns, q⟩ := h
  have nd := c_law.nd
  refine ⟨_, (pss_cons (ps_set (i := 1) nd rfl (Or.inr rfl) (pe_call G__law_box (hr.mono (by first | decide | omega)) (by rfl) D__law_box.m D__law_box.kp D__law_box.b .nil pass0 (pa_cons (pv 0) (pa_cons pe_int (pa_cons pe_int pa_nil)))))
  (pss_cons (ps_set (i := 2) nd rfl (Or.inl rfl) (pe_tup (pa_cons (pe_tup pa_nil) pa_nil)))
  (pss_cons (ps_for PassesOwn.never rfl (pi_range1 (by rfl) B.b_range (pa_cons pe_int pa_nil)) (pg_name (i := 3) nd rfl (Or.inl rfl)) (pss_cons (ps_set (i := 4) nd rfl (Or.inl rfl) (pe_call G__law_kind (hr.mono (by first | decide | omega)) (by rfl) D__law_kind.m D__law_kind.kp D__law_kind.b .nil pass0 (pa_cons (pv 1) (pa_cons pe_int (pa_cons (pe_lst (pa_cons (pe_op op_add pe_int (pe_call G__law_draw (hr.mono (by first | decide | omega)) (by rfl) D__law_draw.m D__law_draw.kp D__law_draw.b .nil pass0 (pa_cons (pv 1) (pa_cons pe_int pa_nil)))) pa_nil)) pa_nil)))))
  (pss_cons (ps_if (PW.pt (pw_and (pt_cmpR op_gt (pv 3) pe_int (nomark _)) (pw_and1 (pt_cmpR (op_eqNilT hr.units) (pv 4) (pe_tup pa_nil) (nomark _))))) (pss_one (ps_set (i := 4) nd rfl (Or.inl rfl) (pe_tup (pa_cons (pe_tup (pa_cons (pe_tup pa_nil) pa_nil)) (pa_cons (pe_tup pa_nil) pa_nil))))) pss_nil)
  (pss_cons (ps_set (i := 5) nd rfl (Or.inr rfl) (pe_call G__law_program (hr.mono (by first | decide | omega)) (by rfl) D__law_program.m D__law_program.kp D__law_program.b .nil pass0 (pa_cons (pv 1) (pa_cons (pv 4) (pa_cons (pe_op op_add pe_int (pe_call G__law_draw (hr.mono (by first | decide | omega)) (by rfl) D__law_draw.m D__law_draw.kp D__law_draw.b .nil pass0 (pa_cons (pv 1) (pa_cons pe_int pa_nil)))) pa_nil)))))
  (pss_cons (ps_if (PW.pt (pw_or (pt_cmpR op_isnot_bl (pe_call G_is_program (hr.mono (by first | decide | omega)) (by rfl) D_is_program.m D_is_program.kp D_is_program.b .nil pass0 (pa_cons (pv 4) (pa_cons (pv 5) pa_nil))) pe_bl (nomark _)) (pw_or1 (pt_not (pt_val (pe_call G__law_same (hr.mono (by first | decide | omega)) (by rfl) D__law_same.m D__law_same.kp D__law_same.b .nil pass0 (pa_cons (pe_call G_asks (hr.mono (by first | decide | omega)) (by rfl) D_asks.m D_asks.kp D_asks.b .nil pass0 (pa_cons (pv 5) pa_nil)) (pa_cons (pe_call G__law_asks_of (hr.mono (by first | decide | omega)) (by rfl) D__law_asks_of.m D__law_asks_of.kp D__law_asks_of.b .nil pass0 (pa_cons (pv 5) pa_nil)) pa_nil)))))))) (pss_one (ps_ret pe_bl)) pss_nil)
  (pss_cons (ps_set (i := 6) nd rfl (Or.inl rfl) (pe_op op_cat (pe_lc (own := [("k", 8)]) (g := (gName 8)) (tt := tYes) rfl nd (pi_range1 (by rfl) B.b_range (pa_cons pe_int pa_nil)) (blkOk_by (own := [("k", 8)]) (N := ["script", "box", "elder", "turn", "kind", "program", "rows", "value", "k"]) (sc := defScope s_law) (by decide +kernel)) (fun _ _ _ _ _ => (pg_name (i := 8) nd rfl (Or.inl rfl))) (fun _ _ _ _ _ => pts_nil) (fun _ _ _ _ _ => (pe_call G__law_other_value (hr.mono (by first | decide | omega)) (by rfl) D__law_other_value.m D__law_other_value.kp D__law_other_value.b .nil pass0 (pa_cons (pv 1) (pa_cons (pv 5) pa_nil))))) (pe_lc (own := [("k", 8)]) (g := (gName 8)) (tt := tYes) rfl nd (pi_range1 (by rfl) B.b_range (pa_cons pe_int pa_nil)) (blkOk_by (own := [("k", 8)]) (N := ["script", "box", "elder", "turn", "kind", "program", "rows", "value", "k"]) (sc := defScope s_law) (by decide +kernel)) (fun _ _ _ _ _ => (pg_name (i := 8) nd rfl (Or.inl rfl))) (fun _ _ _ _ _ => pts_nil) (fun _ _ _ _ _ => (pe_call G__law_nudged (hr.mono (by first | decide | omega)) (by rfl) D__law_nudged.m D__law_nudged.kp D__law_nudged.b .nil pass0 (pa_cons (pv 1) (pa_cons (pv 5) pa_nil)))))))
  (pss_cons (ps_for PassesOwn.never rfl (pi_list (pe_op op_cat (pv 6) (pe_lst (pa_cons (pv 5) (pa_cons (pe_ix ix_tup (pv 5) pe_int (fun _ _ => rfl)) (pa_cons (pe_callTy call_list_of (by rfl) B.b_list (by decide +kernel) (pa_cons (pv 5) pa_nil)) (pa_cons pe_non (pa_cons pe_int (pa_cons pe_str (pa_cons (pe_tup pa_nil) pa_nil)))))))))) (pg_name (i := 7) nd rfl (Or.inl rfl)) (pss_one (ps_if (pt_not (pt_val (pe_call G__law_same (hr.mono (by first | decide | omega)) (by rfl) D__law_same.m D__law_same.kp D__law_same.b .nil pass0 (pa_cons (pe_call G_is_program (hr.mono (by first | decide | omega)) (by rfl) D_is_program.m D_is_program.kp D_is_program.b .nil pass0 (pa_cons (pv 4) (pa_cons (pv 7) pa_nil))) (pa_cons (pe_call G__law_is_program (hr.mono (by first | decide | omega)) (by rfl) D__law_is_program.m D__law_is_program.kp D__law_is_program.b .nil pass0 (pa_cons (pe_lst (pa_cons (pv 4) pa_nil)) (pa_cons (pv 7) pa_nil))) pa_nil))))) (pss_one (ps_ret pe_bl)) pss_nil)))
  (pss_cons (ps_if (pt_not (pt_val (pe_call G__law_same (hr.mono (by first | decide | omega)) (by rfl) D__law_same.m D__law_same.kp D__law_same.b .nil pass0 (pa_cons (pe_call G_is_program (hr.mono (by first | decide | omega)) (by rfl) D_is_program.m D_is_program.kp D_is_program.b .nil pass0 (pa_cons (pv 2) (pa_cons (pv 5) pa_nil))) (pa_cons (pe_call G__law_is_program (hr.mono (by first | decide | omega)) (by rfl) D__law_is_program.m D__law_is_program.kp D__law_is_program.b .nil pass0 (pa_cons (pe_lst (pa_cons (pv 2) pa_nil)) (pa_cons (pv 5) pa_nil))) pa_nil))))) (pss_one (ps_ret pe_bl)) pss_nil)
  (pss_one (ps_set (i := 2) nd rfl (Or.inl rfl) (pv 4)))))))))))
  (pss_one (ps_ret pe_bl))))), ?_⟩
  refine ⟨_, rfl, a, ns, 0, 62, rfl, hS, by omega, by omega, fun b c H1 _ _ _ hB1 => ⟨(by show 0 ≤ sizeLine; decide), fun t1 nt1 => ⟨(by show 1 ≤ sizeLine; decide), fun t2 nt2 => ?_⟩⟩⟩
  have s2 := same_new nt2 (.tup [.ref t1])
  refine ⟨4, rfl, by decide, by decide, for_range (n := 4) (fun i σ H' => ∃ (ev : V) (ed : D) (y3 y4 y5 y6 y7 y8 : Option V), σ = [some (.ref a), some (.ref b), some ev, y3, y4, y5, y6, y7, y8] ∧ BoxAt H' b c ∧ Rep K H' ev ed ∧ Kq ed)
    ⟨_, .tup [.tup []], none, none, none, none, none, none, rfl, hB1.same ((same_new nt1 _).trans s2), .tup' upd_same (.one (.tup' (s2 _ _ upd_same) .nil)), rfl, by decide⟩ ?_ ?_⟩
  · rintro i σ H3 hi ⟨ev, ed, y3, y4, y5, y6, y7, y8, rfl, hB3, re3, hed⟩
    refine seq_rest (fun σ' H' => ∃ (kv : V) (kd : D) (y5 y6 y7 y8 : Option V), σ' = [some (.ref a), some (.ref b), some ev, some (.int ((0 : Int) + (i : Nat))), some kv, y5, y6, y7, y8] ∧ BoxAt H' b c ∧ Rep K H' ev ed ∧ Rep K H' kv kd ∧ Kq kd) (fun rest => ?_) ?_
    · refine ⟨_, rfl, _, rfl, b, c, 9, rfl, hB3, by decide, fun r H4 r0 r9 hB4 sb4 => ⟨_, _, rfl, rfl, (by show 1 ≤ sizeLine; decide), fun u nu => ?_⟩⟩
      obtain ⟨g, rfl⟩ : ∃ g : Nat, r = (g : Int) := ⟨r.toNat, by omega⟩
      have s6 := same_new nu (.lst [.int (1 + (g : Int))])
      have hu : (upd H4 u (.lst [.int (1 + (g : Int))])) u = some (.lst [.int ((1 + g : Nat) : Int)]) := by
        rw [upd_same]
        congr 4
      obtain ⟨bs4, hbs4⟩ := hB4.lst
      obtain ⟨cs4, hcs4⟩ := hB4.dst
      have nbu : b ≠ u := ne_of_none hbs4 nu
      have ncu : c ≠ u := ne_of_none hcs4 nu
      refine ⟨b, c, u, 3, 1 + g, rfl, hB4.same s6, hu, by decide, by decide, by omega, nbu, ncu, fun v H7 d g' rv kd dd sd hu7 hB7 sb7 => ?_⟩
      have k7 := sb2_kx (hB4.same s6) hB7 hu hu7 sb7
      have kk := ((box_kx hB3 hB4 sb4).trans (kx_same s6)).trans k7
      exact rest _ _ ⟨v, d, _, _, _, _, rfl, hB7, re3.mono kk, rv, kd, by omega⟩
    clear hB3 re3
    rintro σ H3 ⟨kv, kd, y5, y6, y7, y8, rfl, hB3, re3, rk3, hkd⟩
    refine seq_rest (fun σ' H' => ∃ (kv : V) (kd : D) (y5 y6 y7 y8 : Option V), σ' = [some (.ref a), some (.ref b), some ev, some (.int ((0 : Int) + (i : Nat))), some kv, y5, y6, y7, y8] ∧ BoxAt H' b c ∧ Rep K H' ev ed ∧ Rep K H' kv kd ∧ Kq kd) (fun rest => ?_) ?_
    · refine ⟨_, rfl, _, _, rfl, rfl, _, rfl, ite2 (fun _ => ?_) (fun _ => rest _ _ ⟨kv, kd, _, _, _, _, rfl, hB3, re3, rk3, hkd⟩)⟩
      obtain ⟨ts, rfl, hts⟩ := isK_inv hkd.1
      obtain ⟨ka, kxs, rfl, hka, rka⟩ := rk3.inv
      refine ⟨_, rfl, (by show 0 ≤ sizeLine; decide), fun t3 n3 => ?_⟩
      have s4 := same_new n3 (.tup [])
      refine ⟨ka, t3, _, rfl, rfl, (hka.same s4).sq, SqT.of upd_same, _, rfl, ite2 (fun _ => ?_) (fun _ => rest _ _ ⟨_, _, _, _, _, _, rfl, hB3.same s4, re3.mono (kx_same s4), rk3.mono (kx_same s4), hkd⟩)⟩
      refine ⟨(by show 0 ≤ sizeLine; decide), fun t4 n4 => ⟨(by show 1 ≤ sizeLine; decide), fun t5 n5 => ⟨(by show 0 ≤ sizeLine; decide), fun t6 n6 => ⟨(by show 2 ≤ sizeLine; decide), fun t7 n7 => ?_⟩⟩⟩⟩
      have u7 := same_new n7 (.tup [.ref t5, .ref t6])
      have u6 := (same_new n6 _).trans u7
      have u5 := (same_new n5 _).trans u6
      have u4 := (same_new n4 _).trans u5
      have u3 := s4.trans u4
      exact rest _ _ ⟨.ref t7, .tup [.tup [.tup []], .tup []], _, _, _, _, rfl, hB3.same u3, re3.mono (kx_same u3), .tup' upd_same (.cons (.tup' (u6 _ _ upd_same) (.one (.tup' (u5 _ _ upd_same) .nil))) (.one (.tup' (u7 _ _ upd_same) .nil))), rfl, by decide⟩
    clear hB3 re3 rk3 hkd
    rintro σ H3 ⟨kv, kd, y5, y6, y7, y8, rfl, hB3, re3, rk3, hkd⟩
    refine ⟨_, rfl, _, rfl, _, rfl, b, c, 9, rfl, hB3, by decide, fun r H4 r0 r9 hB4 sb4 => ⟨_, _, rfl, rfl, ?_⟩⟩
    obtain ⟨g, rfl⟩ : ∃ g : Nat, r = (g : Int) := ⟨r.toNat, by omega⟩
    have k4 := box_kx hB3 hB4 sb4
    refine ⟨b, c, kv, kd, 1 + g, rfl, hB4, rk3.mono k4, hkd.kd, by omega, fun pv H5 t rt wt nt hB5 sb5 => ?_⟩
    have k5 := box_kx hB4 hB5 sb5
    have re5 := (re3.mono k4).mono k5
    have rk5 := (rk3.mono k4).mono k5
    obtain ⟨wp1, wp2, wp3⟩ := wfP_all t [] kd wt hkd (fun k hk => by cases hk)
    have en5 : En K b c ev ed kv kd pv (toD t) H5 := ⟨hB5, re5, rk5, rt⟩
    clear hB3 re3 rk3 hB4 k4 k5 re5 rk5 rt hB5 sb4 sb5
    have sz5 : sz (toD t) ≤ 1306 := by omega
    have dp5 : dep (toD t) ≤ 29 := by omega
    have pl5 := plD_toD t
    refine ⟨_, rfl, _, rfl, kv, pv, kd, toD t, rfl, en5.k, hkd, en5.p, by omega, by omega, fun H6 s6 => ?_⟩
    rw [wp1]
    refine ⟨_, _, rfl, rfl, _, rfl, iteF ?_⟩
    have en6 := en5.same s6
    refine ⟨_, rfl, pv, kd, t, rfl, en6.p, hkd, wt, by omega, fun H7 s7 => ⟨_, rfl, pv, t, rfl, (en6.same s7).p, by omega, by omega, fun H8 s8 => ?_⟩⟩
    refine ⟨_, _, .at (.int (nasks t : Nat)), .at (.int (nasks t : Nat)), rfl, .at rfl, .at rfl, rfl, by show 0 < 5; omega, by show 1 + 0 ≤ 1000000; omega, fun b2 hb2 => ?_⟩
    rw [hb2.mpr rfl]
    refine ⟨_, rfl, iteF ?_⟩
    have en8 := en6.same (s7.trans s8)
    clear en5 en6
    refine ⟨5, rfl, by decide, by decide, fun p np => ?_⟩
    obtain ⟨npb, npc⟩ := nbc en8.box np
    refine lc_range (n := 5) (fun j H' => En K b c ev ed kv kd pv (toD t) H' ∧ LsAt K H' p j) ⟨en8.same (same_new np _), [], [], upd_same, .nil, (fun e he => by cases he), rfl⟩ ?_ ?_
    · rintro j H9 hj ⟨en9, acc, es, hp9, r9, ok9, l9⟩
      refine ⟨rfl, yes_go ⟨_, rfl, _, rfl, b, c, pv, toD t, rfl, en9.box, en9.p, pl5, by omega, by omega, fun z e H10 rz oz hB10 sb10 => ?_⟩⟩
      have hp10 := sb10 _ _ npb hp9
      have k10 := box_kx en9.box hB10 sb10
      have kl := kx_list hp10 (acc ++ [z])
      refine ⟨acc, hp10, small6 (by omega), (en9.sb hB10 sb10).put hp10 npb npc _, acc ++ [z], es ++ [e], upd_same, ((r9.mono k10).append (.one rz)).mono kl, fun f hf => ?_, by rw [List.length_append, List.length_singleton, l9]⟩
      rcases List.mem_append.mp hf with hf | hf
      · exact ok9 f hf
      · rw [List.mem_singleton.mp hf]
        have o1 := oz.1
        have o2 := oz.2
        omega
    rintro H9 ⟨en9, ls9⟩
    refine ⟨4, rfl, by decide, by decide, fun p2 np2 => ?_⟩
    obtain ⟨npb2, npc2⟩ := nbc en9.box np2
    have npp : p ≠ p2 := by
      obtain ⟨_, _, h, _⟩ := ls9
      exact ne_of_none h np2
    refine lc_range (n := 4) (fun j H' => En K b c ev ed kv kd pv (toD t) H' ∧ LsAt K H' p 5 ∧ LsAt K H' p2 j) ⟨en9.same (same_new np2 _), ls9.same (same_new np2 _), [], [], upd_same, .nil, (fun e he => by cases he), rfl⟩ ?_ ?_
    · rintro j H10 hj ⟨en10, ls10, acc, es, hp10, r10, ok10, l10⟩
      refine ⟨rfl, yes_go ⟨_, rfl, _, rfl, b, c, pv, toD t, rfl, en10.box, en10.p, pl5, by omega, by omega, fun z e H11 rz z1 z2 hB11 sb11 => ?_⟩⟩
      have hp11 := sb11 _ _ npb2 hp10
      have k11 := box_kx en10.box hB11 sb11
      have kl := kx_list hp11 (acc ++ [z])
      refine ⟨acc, hp11, small6 (by omega), (en10.sb hB11 sb11).put hp11 npb2 npc2 _, (ls10.sb en10.box hB11 sb11 npb).put hp11 npp _, acc ++ [z], es ++ [e], upd_same, ((r10.mono k11).append (.one rz)).mono kl, fun f hf => ?_, by rw [List.length_append, List.length_singleton, l10]⟩
      rcases List.mem_append.mp hf with hf | hf
      · exact ok10 f hf
      · rw [List.mem_singleton.mp hf]
        omega
    rintro H10 ⟨en10, ⟨acc, es, hp10, ra10, ok10, l10⟩, ⟨acc2, es2, hp210, rb10, okb10, l210⟩⟩
    refine ⟨p, p2, _, _, rfl, rfl, hp10, hp210, small6' (by omega), fun p3 np3 => ?_⟩
    have s11 := same_new np3 (.lst (acc ++ acc2))
    have hp11 : (upd H10 p3 (.lst (acc ++ acc2))) p3 = some (.lst (acc ++ acc2)) := upd_same
    have en11 := en10.same s11
    have r11 := (ra10.append rb10).mono (kx_same s11)
    have ok11 : ∀ e ∈ es ++ es2, dep e ≤ 32 ∧ sz e ≤ 3000 := fun e he => (List.mem_append.mp he).elim (ok10 e) (okb10 e)
    generalize upd H10 p3 (.lst (acc ++ acc2)) = H11 at *
    cases t with
    | say _ => cases wt
    | stop => cases wt
    | ask _ _ _ _ _ => cases wt
    | prog m body =>
    obtain ⟨pa, pxs, rfl, hpa, rpa⟩ := Rep.inv (ts := [.at (.str "program"), .at (.int (m : Nat)), toD body]) en11.p
    have lpa : pxs.length = 3 := rpa.length
    obtain ⟨bv, hbv, rbv⟩ := rpa.getD (i := 2) rfl
    have dbody : dep (toD body) ≤ 32 ∧ sz (toD body) ≤ 3000 := by
      have h1 : max (0 + 1) (max (0 + 1) (max (dep (toD body) + 1) 0)) ≤ 29 := dp5
      have h2 : 1 + (1 + (sz (toD body) + 0)) + 1 ≤ 1306 := sz5
      omega
    refine ⟨_, rfl, _, rfl, _, rfl, pa, _, 2, _, rfl, rfl, hpa.sq, atI_nat (j := 2) hbv, _, rfl, pa, pxs, rfl, .inr hpa.sq, fun l nl => ?_⟩
    have s12 := same_new nl (.lst pxs)
    have hl12 : (upd H11 l (.lst pxs)) l = some (.lst pxs) := upd_same
    generalize upd H11 l (.lst pxs) = H12 at *
    refine ⟨(by show 0 ≤ sizeLine; decide), fun t0 nt0 => ⟨(by show 7 ≤ sizeLine; decide), fun l2 nl2 => ?_⟩⟩
    have s13 := same_new nt0 (.tup [])
    have ht0 : (upd H12 t0 (.tup [])) t0 = some (.tup []) := upd_same
    generalize upd H12 t0 (.tup []) = H13 at *
    have s14 := same_new nl2 (.lst [.ref pa, bv, .ref l, .non, .int 0, .str "say", .ref t0])
    refine ⟨p3, l2, _, _, rfl, rfl, s14 _ _ (s13 _ _ (s12 _ _ hp11)), upd_same, small6' (by rw [List.length_append]; show acc.length + acc2.length + 7 ≤ 1000000; omega), fun p4 np4 => ?_⟩
    have s15 := same_new np4 (.lst (acc ++ acc2 ++ [.ref pa, bv, .ref l, .non, .int 0, .str "say", .ref t0]))
    have hp15 := upd_same (H := upd H13 l2 (.lst [.ref pa, bv, .ref l, .non, .int 0, .str "say", .ref t0])) (a := p4) (o := .lst (acc ++ acc2 ++ [.ref pa, bv, .ref l, .non, .int 0, .str "say", .ref t0]))
    have s35 := s13.trans (s14.trans s15)
    have s25 := s12.trans s35
    have r15 := (r11.mono (kx_same s25)).append (Reps.cons (en11.same s25).p (.cons (rbv.mono (kx_same s25)) (.cons (.lst (s35 _ _ hl12)) (.cons (.at (v := .non) rfl) (.cons (.at (v := .int 0) rfl) (.cons (.at (v := .str "say") rfl) (.one (.tup' ((s14.trans s15) _ _ ht0) .nil))))))))
    have ok15 : ∀ e ∈ (es ++ es2) ++ [toD (.prog m body), toD body, .lst, .at .non, .at (.int 0), .at (.str "say"), .tup []], dep e ≤ 32 ∧ sz e ≤ 3000 := by
      intro e he
      rcases List.mem_append.mp he with he | he
      · exact ok11 e he
      · simp only [List.mem_cons, List.not_mem_nil, or_false] at he
        rcases he with rfl | rfl | rfl | rfl | rfl | rfl | rfl
        · exact ⟨by omega, by omega⟩
        · exact dbody
        all_goals exact ⟨by decide, by decide⟩
    have en15 := en11.same s25
    clear hp11 r11 ra10 rb10 hp10 hp210
    generalize upd (upd H13 l2 (.lst [.ref pa, bv, .ref l, .non, .int 0, .str "say", .ref t0])) p4 (.lst (acc ++ acc2 ++ [.ref pa, bv, .ref l, .non, .int 0, .str "say", .ref t0])) = H15 at *
    refine ⟨p4, rfl, ⟨_, SqL.of hp15⟩, for_list (K := K) (a := p4) (xs := acc ++ acc2 ++ [.ref pa, bv, .ref l, .non, .int 0, .str "say", .ref t0]) (fun j σ H' => Same H15 H' ∧ ∃ (y6 y7 y8 : Option V), σ = [some (.ref a), some (.ref b), some ev, some (.int ((0 : Int) + (i : Nat))), some kv, some (.ref pa), y6, y7, y8])
      ⟨Same.refl _, _, _, _, rfl⟩ (fun i σ H' _ h => SqL.of (h.1 _ _ hp15)) ?_ ?_⟩
    · rintro j x σ H16 hj ⟨s16, y6, y7, y8, rfl⟩
      obtain ⟨e, he, re⟩ := r15.get hj
      obtain ⟨e1, e2⟩ := ok15 e (List.mem_of_getElem? he)
      have en16 := en15.same s16
      refine ⟨_, rfl, _, rfl, kv, x, kd, e, rfl, en16.k, hkd, re.mono (kx_same s16), e1, e2, fun H17 s17 => ⟨_, rfl, (by show 1 ≤ sizeLine; decide), fun l5 nl5 => ?_⟩⟩
      have s18 := same_new nl5 (.lst [kv])
      have s68 := s16.trans (s17.trans s18)
      refine ⟨_, rfl, .ref l5, x, kd, [], e, rfl, ⟨l5, [kv], rfl, upd_same, .one ((en15.same s68).k), fun k hk => ?_⟩, re.mono (kx_same s68), by omega, by show 0 + 1 + 33 ≤ 1000; decide, fun H19 s19 => ?_⟩
      · rw [List.mem_singleton.mp hk]
        exact hkd.kd
      refine ⟨_, _, .at (.bl (isPr [] kd e)), .at (.bl (isPr [] kd e)), rfl, .at rfl, .at rfl, rfl, by show 0 < 5; omega, by show 1 + 0 ≤ 1000000; omega, fun b2 hb2 => ?_⟩
      rw [hb2.mpr rfl]
      exact ⟨_, rfl, iteF ⟨s68.trans s19, _, _, _, rfl⟩⟩
    · rintro σ H16 ⟨s16, y6, y7, y8, rfl⟩
      have en16 := en15.same s16
      refine ⟨_, rfl, _, rfl, ev, _, ed, toD (.prog m body), rfl, en16.e, hed, en16.p, by omega, by omega, fun H17 s17 => ⟨_, rfl, (by show 1 ≤ sizeLine; decide), fun l5 nl5 => ?_⟩⟩
      have s18 := same_new nl5 (.lst [ev])
      have s78 := s17.trans s18
      refine ⟨_, rfl, .ref l5, _, ed, [], toD (.prog m body), rfl, ⟨l5, [ev], rfl, upd_same, .one ((en16.same s78).e), fun k hk => ?_⟩, (en16.same s78).p, by omega, by show 0 + 1 + 33 ≤ 1000; decide, fun H19 s19 => ?_⟩
      · rw [List.mem_singleton.mp hk]
        exact hed.kd
      refine ⟨_, _, .at (.bl (isPr [] ed (toD (.prog m body)))), .at (.bl (isPr [] ed (toD (.prog m body)))), rfl, .at rfl, .at rfl, rfl, by show 0 < 5; omega, by show 1 + 0 ≤ 1000000; omega, fun b2 hb2 => ?_⟩
      rw [hb2.mpr rfl]
      have en19 := en16.same (s78.trans s19)
      exact ⟨_, rfl, iteF ⟨_, rfl, kv, kd, _, _, _, _, _, _, rfl, en19.box, en19.k, hkd⟩⟩
  · rintro σ H3 ⟨ev, ed, y3, y4, y5, y6, y7, y8, rfl, hB3, re3, hed⟩
    exact q H3
end
end Pk

set_option maxRecDepth 100000
set_option maxHeartbeats 1000000
namespace Pk
open PySem PySem.Spec PyProof.Rows L2
/-! ### data beside a text -/
theorem rel_ref (a : Addr) : RelV (V.ref a) (Value.ref a) := rfl
def eqs : D → Str → Bool
  | .at (.str z), s => decide (z = s)
  | _, _ => false
theorem dec_strs (a b : Str) : decide (V.str a = V.str b) = decide (a = b) := by
  by_cases h : a = b
  · rw [decide_eq_true h, decide_eq_true (by rw [h])]
  · rw [decide_eq_false h, decide_eq_false (fun z => h (V.str.inj z))]
section
variable {X : Cx}
def rEqS (K : PySem.W.Frag) : R2 := fun x y H Q => ∃ d s, Rep K H x d ∧ y = .str s ∧ Q (.bl (eqs d s)) H
def rNeS (K : PySem.W.Frag) : R2 := fun x y H Q => ∃ d s, Rep K H x d ∧ y = .str s ∧ Q (.bl (!eqs d s)) H
theorem op_eqS (hu : X.A.units + 64 < cLine) : OpR X (compareOp .Eq) (rEqS X.K) := by
  intro pins s σ H x y v u Q I rx ry h
  obtain ⟨d, z, rd, rfl, q⟩ := h
  have hu' : X.A.units < cLine := by omega
  cases rd with
  | lst h =>
    cases rx
    obtain ⟨t', rfl⟩ := ry
    obtain ⟨its, r, p, _⟩ := I.list (SqL.of h)
    exact SeqAt.RcAt.list_str z t' p.isList hu' _ _ _ _ ⟨.bl false, H, I, rfl, q⟩
  | tup h r =>
    cases rx
    obtain ⟨t', rfl⟩ := ry
    obtain ⟨its, r, p, _⟩ := I.tuple h.sq
    exact SeqAt.RcAt.tuple_str z t' p hu' _ _ _ _ ⟨.bl false, H, I, rfl, q⟩
  | «at» hf =>
    cases x with
    | non => exact op_eq pins s σ H _ _ v u Q I rx ry ⟨rfl, q⟩
    | bl _ => exact op_eq pins s σ H _ _ v u Q I rx ry ⟨rfl, q⟩
    | int _ => exact op_eq pins s σ H _ _ v u Q I rx ry ⟨rfl, q⟩
    | str w =>
      refine op_eq pins s σ H _ _ v u Q I rx ry ⟨rfl, ?_⟩
      rw [dec_strs]
      exact q
    | byt _ => cases hf
    | flt _ => cases hf
    | ref _ => cases hf
    | ty _ => cases hf
theorem op_neS (hu : X.A.units + 64 < cLine) : OpR X (compareOp .NotEq) (rNeS X.K) := by
  intro pins s σ H x y v u Q I rx ry h
  obtain ⟨d, z, rd, rfl, q⟩ := h
  have hu' : X.A.units < cLine := by omega
  cases rd with
  | lst h =>
    cases rx
    obtain ⟨t', rfl⟩ := ry
    obtain ⟨its, r, p, _⟩ := I.list (SqL.of h)
    exact SeqAt.RcNeAt.list_str z t' p.isList hu' _ _ _ _ ⟨.bl true, H, I, rfl, q⟩
  | tup h r =>
    cases rx
    obtain ⟨t', rfl⟩ := ry
    obtain ⟨its, r, p, _⟩ := I.tuple h.sq
    exact SeqAt.RcNeAt.tuple_str z t' p hu' _ _ _ _ ⟨.bl true, H, I, rfl, q⟩
  | «at» hf =>
    cases x with
    | non => exact op_ne pins s σ H _ _ v u Q I rx ry ⟨rfl, q⟩
    | bl _ => exact op_ne pins s σ H _ _ v u Q I rx ry ⟨rfl, q⟩
    | int _ => exact op_ne pins s σ H _ _ v u Q I rx ry ⟨rfl, q⟩
    | str w =>
      refine op_ne pins s σ H _ _ v u Q I rx ry ⟨rfl, ?_⟩
      rw [dec_strs]
      exact q
    | byt _ => cases hf
    | flt _ => cases hf
    | ref _ => cases hf
    | ty _ => cases hf
/-- a local name that holds one of two defs -/
def tCallP (i : Nat) (F : Bool → Addr) (S : Bool → Sp) (t : TA) : TE := fun σ H Q => ∃ b, σ[i]? = some (some (.ref (F b))) ∧ t σ H fun vs H1 => S b vs H1 Q (fun _ _ _ => False)
theorem pe_callP {k i : Nat} {x : Str} {p pos : Pos} {e : Expr} {es : List Expr} {t : TA} {F : Bool → Addr} {S : Bool → Sp} (M : ∀ b, Held X.prog X.w X.K X.mg X.base k (F b) (S b)) (hr : Room k X.A) (hN : X.N[i]? = some x) (hv : Vis X.env.scope x) (ha : PA X (e :: es) t)
    (hdb : (x == ("__debug__" : Str)) = false := by decide) (hcd : (x == ("__classdict__" : Str)) = false := by decide)
    (he : starEach (e :: es) X.env = (false, eval e X.env) :: starEach es X.env := by rfl) (hpl : (backTo pos (starEach es X.env)).any (·.1) = false := by rfl) : PE X (.Call (.Name x p) (e :: es) [] pos) (tCallP i F S t) := by
  refine ⟨fun pins s σ H Q I h => ?_⟩
  obtain ⟨b, hs, ht⟩ := h
  have M2 : ∀ f sp, (fun f => if f = F b then some (S b) else none) f = some sp → Held X.prog X.w X.K X.mg X.base k f sp := by
    intro f sp z
    by_cases hf : f = F b
    · have z2 : (if f = F b then some (S b) else none) = some sp := z
      rw [if_pos hf] at z2
      rw [hf, ← Option.some.inj z2]
      exact M b
    · have z2 : (if f = F b then some (S b) else none) = some sp := z
      rw [if_neg hf] at z2
      cases z2
  exact (pe_callA (i := i) M2 hr hN hv ha hdb hcd he hpl).run pins s σ H Q I ⟨F b, S b, hs, if_pos rfl, ht⟩
end
theorem walk_zipT {K : PySem.W.Frag} {a b : Addr} {xs ys : List V} {n : Nat} (hn : n = xs.length) (hm : n = ys.length) : Walk (RZ.ItzT K a b) n (fun H => SqT K H a xs ∧ SqT K H b ys) (YPair (fun i => xs[i]?) (fun i => ys[i]?)) := by
  refine ⟨fun i H hi q => ?_, fun H q => ⟨xs, ys, q.1, q.2, Or.inl (by omega)⟩, fun i H v H' hi q y => ?_⟩
  · have h1 : i < xs.length := by omega
    have h2 : i < ys.length := by omega
    exact ⟨xs, ys, xs[i], ys[i], q.1, q.2, List.getElem?_eq_getElem h1, List.getElem?_eq_getElem h2⟩
  · obtain ⟨T, x, z, h1, h2, h3, h4, h5⟩ := y
    exact ⟨T, x, z, h1, h2, h3, h4 xs q.1, h5 ys q.2⟩
theorem atI_back {α : Type} {xs : List α} {j : Nat} (h : j < xs.length) : atI xs (-1 - (j : Int)) = xs[xs.length - 1 - j]? := by
  unfold atI ixN
  rw [if_neg (by omega), if_pos (by omega)]
  show xs[(-1 - (j : Int) + (xs.length : Int)).toNat]? = _
  congr 1
  omega
/-! ### the small tests -/
section
variable {P : Program} {w : World} {K : PySem.W.Frag} {mg : Str → Option Value} {base : Heap}
def wholeN : D → Bool
  | .at (.int i) => decide (0 ≤ i)
  | _ => false
def tupN (d : D) (n : Int) : Bool := match d with
  | .tup ts => decide ((ts.length : Int) = n)
  | _ => false
def spCWh (K : PySem.W.Frag) : Sp := fun vs H Q _ => ∃ (v : V) (d : D), vs = [v] ∧ Rep K H v d ∧ Q (.bl (wholeN d)) H
theorem ok_cwh {f : Addr} {fd : FuncData} (D_is_whole : Df K mg "is_whole" s_is_whole ["value"] f fd) (B : Bt mg) : FnOk P w K mg base CX0 1 f fd ["value"] (spCWh K) := by
  refine D_is_whole.ok c_is_whole (fun vs H Q E h => ?_) (fun cdv A outer s H vs Q E hr h => ?_)
  · obtain ⟨v, d, rfl, _⟩ := h
    rfl
  obtain ⟨v, d, rfl, rv, q⟩ := h
  have nd := c_is_whole.nd
  refine ⟨_, (pss_one (ps_ret (pe_and (pe_callB call_isi (by rfl) B.b_isinstance (by decide +kernel) (pa_cons (pv 0) (pa_cons (pe_bltn (v := .ty "int") (by rfl) B.b_int (by decide +kernel) rfl) pa_nil))) (pe_and (pe_not (pe_callB call_isi (by rfl) B.b_isinstance (by decide +kernel) (pa_cons (pv 0) (pa_cons (pe_bltn (v := .ty "bool") (by rfl) B.b_bool (by decide +kernel) rfl) pa_nil)))) (pe_one (pe_cmpR op_ge (pv 0) pe_int (nomark _))))))), ?_⟩
  refine ⟨_, rfl, _, _, _, _, _, rfl, .ty _, rep_ty rv, kit_ty (kit_int _), ⟨_, rfl, ?_⟩⟩
  cases d with
  | tup _ => exact iteF q
  | lst => exact iteF q
  | «at» x =>
    obtain ⟨rfl, hf⟩ := rv.inva
    cases v with
    | non => exact iteF q
    | str _ => exact iteF q
    | byt _ => cases hf
    | flt _ => cases hf
    | ref _ => cases hf
    | ty _ => cases hf
    | bl b => exact iteT ⟨_, rfl, _, _, _, _, _, rfl, .ty _, rep_ty rv, kit_ty (kit_bool _), ⟨_, rfl, ⟨_, rfl, iteF q⟩⟩⟩
    | int i => exact iteT ⟨_, rfl, _, _, _, _, _, rfl, .ty _, rep_ty rv, kit_ty (kit_bool _), ⟨_, rfl, ⟨_, rfl, iteT ⟨_, rfl, _, _, rfl, rfl, q⟩⟩⟩⟩
def spCAn (K : PySem.W.Frag) : Sp := fun vs H Q _ => ∃ (v : V) (d : D), vs = [v] ∧ Rep K H v d ∧ Q (.bl (wholeB d 2)) H
theorem whole_N {d : D} {m : Nat} (h : wholeN d = false) : wholeB d m = false := by
  cases d with
  | tup _ => rfl
  | lst => rfl
  | «at» v =>
    cases v with
    | int i =>
      show (decide (0 ≤ i) && _) = false
      rw [show decide (0 ≤ i) = false from h, Bool.false_and]
    | _ => rfl
theorem whole_NI {d : D} (h : wholeN d = true) : ∃ n : Nat, d = .at (.int (n : Int)) := by
  cases d with
  | tup _ => cases h
  | lst => cases h
  | «at» v =>
    cases v with
    | int i =>
      have := of_decide_eq_true (show decide (0 ≤ i) = true from h)
      exact ⟨i.toNat, by rw [show ((i.toNat : Nat) : Int) = i by omega]⟩
    | _ => cases h
theorem whole_B (n m : Nat) : wholeB (.at (.int (n : Int))) m = decide (n < m) := by
  show (decide ((0 : Int) ≤ (n : Int)) && decide ((n : Int) < (m : Nat))) = _
  rw [decide_eq_true (by omega), Bool.true_and]
  exact decide_eq_decide.mpr (by omega)
theorem ok_can {f g : Addr} {fd gd : FuncData} (D_is_answer : Df K mg "is_answer" s_is_answer ["value"] f fd) (D_is_whole : Df K mg "is_whole" s_is_whole ["value"] g gd) (B : Bt mg) : FnOk P w K mg base CX0 2 f fd ["value"] (spCAn K) := by
  have G_is_whole : FnOk P w K mg base CX0 1 g gd ["value"] (spCWh K) := ok_cwh D_is_whole B
  refine D_is_answer.ok c_is_answer (fun vs H Q E h => ?_) (fun cdv A outer s H vs Q E hr h => ?_)
  · obtain ⟨v, d, rfl, _⟩ := h
    rfl
  obtain ⟨v, d, rfl, rv, q⟩ := h
  have nd := c_is_answer.nd
  refine ⟨_, (pss_one (ps_ret (pe_and (pe_call G_is_whole (hr.mono (by first | decide | omega)) (by rfl) D_is_whole.m D_is_whole.kp D_is_whole.b .nil pass0 (pa_cons (pv 0) pa_nil)) (pe_one (pe_cmpR op_le (pv 0) pe_int (nomark _)))))), ?_⟩
  refine ⟨_, rfl, v, d, rfl, rv, ⟨_, rfl, ?_⟩⟩
  cases h : wholeN d with
  | false =>
    rw [whole_N h] at q
    exact iteF q
  | true =>
    obtain ⟨n, rfl⟩ := whole_NI h
    obtain ⟨rfl, _⟩ := rv.inva
    refine iteT ⟨_, rfl, _, _, rfl, rfl, ?_⟩
    rw [whole_B] at q
    show Q (.bl (decide ((n : Int) ≤ 1))) H
    rw [show decide ((n : Int) ≤ 1) = decide (n < 2) from decide_eq_decide.mpr (by omega)]
    exact q
def spCTu (K : PySem.W.Frag) : Sp := fun vs H Q _ => ∃ (v : V) (d : D) (n : Int), vs = [v, .int n] ∧ Rep K H v d ∧ Q (.bl (tupN d n)) H
theorem ok_ctu {f : Addr} {fd : FuncData} (D_is_tuple_of : Df K mg "is_tuple_of" s_is_tuple_of ["value", "many"] f fd) (B : Bt mg) : FnOk P w K mg base CX0 1 f fd ["value", "many"] (spCTu K) := by
  refine D_is_tuple_of.ok c_is_tuple_of (fun vs H Q E h => ?_) (fun cdv A outer s H vs Q E hr h => ?_)
  · obtain ⟨v, d, n, rfl, _⟩ := h
    rfl
  obtain ⟨v, d, n, rfl, rv, q⟩ := h
  have nd := c_is_tuple_of.nd
  refine ⟨_, (pss_one (ps_ret (pe_and (pe_callB call_isi (by rfl) B.b_isinstance (by decide +kernel) (pa_cons (pv 0) (pa_cons (pe_bltn (v := .ty "tuple") (by rfl) B.b_tuple (by decide +kernel) rfl) pa_nil))) (pe_one (pe_cmpR op_eq (pe_callB call_len_seq (by rfl) B.b_len PySem.boot_len (pa_cons (pv 0) pa_nil)) (pv 1) (nomark _)))))), ?_⟩
  refine ⟨_, rfl, _, _, _, _, _, rfl, .ty _, rep_ty rv, kit_ty (kit_tup _), ⟨_, rfl, ?_⟩⟩
  cases d with
  | «at» _ => exact iteF q
  | lst => exact iteF q
  | tup ts =>
    obtain ⟨a, xs, rfl, hx, rx⟩ := rv.inv
    have lx := rx.length
    refine iteT ⟨_, rfl, a, xs, rfl, .inr hx.sq, _, rfl, rfl, ?_⟩
    have e : decide (V.int ((xs.length : Nat) : Int) = V.int n) = tupN (.tup ts) n := by
      show _ = decide ((ts.length : Int) = n)
      rw [← lx]
      refine decide_eq_decide.mpr ⟨fun z => V.int.inj z, fun z => by rw [z]⟩
    rw [e]
    exact q
end
end Pk

set_option maxRecDepth 100000
set_option maxHeartbeats 1000000
namespace Pk
open PySem PySem.Spec PyProof.Rows L2
section
variable {P : Program} {w : World} {K : PySem.W.Frag} {mg : Str → Option Value} {base : Heap}
/-! ### what an ask asks -/
def askedK (ks : List D) (up k : D) : Option D :=
  if wholeB up ks.length = true then (match ks[numD up]? with
    | some kd => if wholeB k (args kd).length = true then (args kd)[numD k]? else none
    | none => none) else none
/-- the kinds around, the outermost first, as a tuple that stands -/
def KtAt (K : PySem.W.Frag) (H : Hp) (t : Addr) (ks : List D) : Prop := ∃ kxs, TupAt K H t kxs ∧ Reps K H kxs ks.reverse ∧ ∀ k ∈ ks, Kq k
theorem KtAt.kx {H H' : Hp} {t : Addr} {ks : List D} (h : KtAt K H t ks) (k : Kx H H') : KtAt K H' t ks := by
  obtain ⟨kxs, h1, h2, h3⟩ := h
  exact ⟨kxs, h1.kx k, h2.mono k, h3⟩
theorem askedK_sub {ks : List D} {up k a : D} (h : askedK ks up k = some a) (hk : ∀ k ∈ ks, Kq k) : Kq a := by
  unfold askedK at h
  by_cases h1 : wholeB up ks.length = true
  · rw [if_pos h1] at h
    cases h2 : ks[numD up]? with
    | none => rw [h2] at h; cases h
    | some kd =>
      rw [h2] at h
      have h3 : (if wholeB k (args kd).length = true then (args kd)[numD k]? else none) = some a := h
      by_cases h4 : wholeB k (args kd).length = true
      · rw [if_pos h4] at h3
        exact (hk kd (List.mem_of_getElem? h2)).sub (List.mem_of_getElem? h3)
      · rw [if_neg h4] at h3
        cases h3
  · rw [if_neg h1] at h
    cases h
theorem askB_asked (ks : List D) (up k as z o : D) : askB ks up k as z o = (match askedK ks up k with
    | some a => (isTup as && isPs ks (args a) (args as)) && (isB ks z && isB ks o)
    | none => false) := by
  unfold askB askedK
  cases h1 : wholeB up ks.length with
  | false => rfl
  | true =>
    obtain ⟨n, rfl, hn, en⟩ := whole_inv h1
    rw [if_pos rfl, Bool.true_and, en, List.getElem?_eq_getElem hn]
    show ((wholeB k (args ks[n]).length && (isTup as && _)) && _) = (match (if wholeB k (args ks[n]).length = true then (args ks[n])[numD k]? else none) with | some a => _ | none => false)
    cases h2 : wholeB k (args ks[n]).length with
    | false => rfl
    | true =>
      obtain ⟨m, rfl, hm, em⟩ := whole_inv h2
      rw [if_pos rfl, em, List.getElem?_eq_getElem hm]
      rfl
def spCAk (K : PySem.W.Frag) : Sp := fun vs H Q _ => ∃ (uv kv : V) (kt : Addr) (up k : D) (ks : List D), vs = [uv, kv, .ref kt] ∧ Rep K H uv up ∧ Rep K H kv k ∧ KtAt K H kt ks ∧ (askedK ks up k = none → Q .non H) ∧ ∀ a v, askedK ks up k = some a → Rep K H v a → Q v H
theorem ok_cak {f g : Addr} {fd gd : FuncData} (D__asked_kind : Df K mg "_asked_kind" s__asked_kind ["up", "k", "kinds"] f fd) (D_is_whole : Df K mg "is_whole" s_is_whole ["value"] g gd) (B : Bt mg) : FnOk P w K mg base CX0 2 f fd ["up", "k", "kinds"] (spCAk K) := by
  have G_is_whole : FnOk P w K mg base CX0 1 g gd ["value"] (spCWh K) := ok_cwh D_is_whole B
  refine D__asked_kind.ok c__asked_kind (fun vs H Q E h => ?_) (fun cdv A outer s H vs Q E hr h => ?_)
  · obtain ⟨uv, kv, kt, up, k, ks, rfl, _⟩ := h
    rfl
  obtain ⟨uv, kv, kt, up, k, ks, rfl, ru, rk, ⟨kxs, hkx, rkx, hkq⟩, q1, q2⟩ := h
  have nd := c__asked_kind.nd
  refine ⟨_, (pss_cons (ps_if (PW.pt (pw_or (pt_not (pt_val (pe_call G_is_whole (hr.mono (by first | decide | omega)) (by rfl) D_is_whole.m D_is_whole.kp D_is_whole.b .nil pass0 (pa_cons (pv 0) pa_nil)))) (pw_or1 (pt_cmpR op_ge (pv 0) (pe_callB call_len_seq (by rfl) B.b_len PySem.boot_len (pa_cons (pv 2) pa_nil)) (nomark _))))) (pss_one (ps_ret pe_non)) pss_nil)
  (pss_cons (ps_set (i := 3) nd rfl (Or.inl rfl) (pe_ix ix_tup (pv 2) (pe_op op_sub (pe_un un_neg pe_int) (pv 0)) (fun _ _ => rfl)))
  (pss_cons (ps_if (PW.pt (pw_or (pt_not (pt_val (pe_call G_is_whole (hr.mono (by first | decide | omega)) (by rfl) D_is_whole.m D_is_whole.kp D_is_whole.b .nil pass0 (pa_cons (pv 1) pa_nil)))) (pw_or1 (pt_cmpR op_ge (pv 1) (pe_callB call_len_seq (by rfl) B.b_len PySem.boot_len (pa_cons (pv 3) pa_nil)) (nomark _))))) (pss_one (ps_ret pe_non)) pss_nil)
  (pss_one (ps_ret (pe_ix ix_tup (pv 3) (pv 1) (fun _ _ => rfl))))))), ?_⟩
  have lk := rkx.length
  rw [List.length_reverse] at lk
  have no : wholeB up ks.length = false → Q .non H := fun z => q1 (by unfold askedK; rw [z]; rfl)
  refine ⟨_, rfl, uv, up, rfl, ru, ⟨_, rfl, ?_⟩⟩
  cases h1 : wholeN up with
  | false => exact iteT (no (whole_N h1))
  | true =>
    obtain ⟨n, rfl⟩ := whole_NI h1
    obtain ⟨rfl, _⟩ := ru.inva
    rw [whole_B] at no
    refine iteF ⟨_, rfl, _, rfl, kt, kxs, rfl, .inr hkx.sq, _, _, rfl, rfl, _, rfl, ite2 (fun z => ?_) (fun z => ?_)⟩
    · have := of_decide_eq_true z
      exact no (decide_eq_false (by omega))
    have hn : n < ks.length := by
      have : ¬ ((n : Int) ≥ ((kxs.length : Nat) : Int)) := fun e => z (decide_eq_true e)
      omega
    have e1 : ks.reverse[kxs.length - 1 - n]? = some ks[n] := by
      rw [List.getElem?_reverse (by omega), ← List.getElem?_eq_getElem]
      congr 1
      omega
    obtain ⟨w1, hw1, rw1⟩ := rkx.getD e1
    refine ⟨_, rfl, 1, rfl, _, rfl, _, _, rfl, rfl, kt, kxs, _, w1, rfl, rfl, hkx.sq, (atI_back (by omega)).trans hw1, ?_⟩
    have hq := hkq ks[n] (List.getElem_mem hn)
    obtain ⟨ts, ets, hts⟩ := isK_inv hq.1
    rw [ets] at rw1
    obtain ⟨a2, xs2, rfl, hx2, rx2⟩ := rw1.inv
    have l2 := rx2.length
    have ea : askedK ks (.at (.int (n : Int))) k = if wholeB k ts.length = true then ts[numD k]? else none := by
      unfold askedK
      rw [whole_B, decide_eq_true hn, if_pos rfl]
      show (match ks[n]? with | some kd => (if wholeB k (args kd).length = true then (args kd)[numD k]? else none) | none => none) = _
      rw [List.getElem?_eq_getElem hn, ets]
      rfl
    rw [ea] at q1 q2
    have no2 : wholeB k ts.length = false → Q .non H := fun z => q1 (by rw [z]; rfl)
    refine ⟨_, rfl, kv, k, rfl, rk, ⟨_, rfl, ?_⟩⟩
    cases h2 : wholeN k with
    | false => exact iteT (no2 (whole_N h2))
    | true =>
      obtain ⟨m, rfl⟩ := whole_NI h2
      obtain ⟨rfl, _⟩ := rk.inva
      rw [whole_B] at no2 q2
      refine iteF ⟨_, rfl, _, rfl, a2, xs2, rfl, .inr hx2.sq, _, _, rfl, rfl, _, rfl, ite2 (fun z => ?_) (fun z => ?_)⟩
      · have := of_decide_eq_true z
        exact no2 (decide_eq_false (by omega))
      have hm : m < ts.length := by
        have : ¬ ((m : Int) ≥ ((xs2.length : Nat) : Int)) := fun e => z (decide_eq_true e)
        omega
      have e2 : ts[m]? = some ts[m] := List.getElem?_eq_getElem hm
      obtain ⟨w2, hw2, rw2⟩ := rx2.getD e2
      refine ⟨_, rfl, _, rfl, a2, xs2, _, w2, rfl, rfl, hx2.sq, atI_nat hw2, ?_⟩
      refine q2 ts[m] w2 ?_ rw2
      rw [decide_eq_true hm, if_pos rfl]
      exact e2
/-! ### tasks -/
structure Tk where
  pr : Bool
  ks : List D
  d : D
def Tk.ok (t : Tk) : Bool := match t.pr, t.ks with
  | true, kd :: r => isPr r kd t.d
  | true, [] => false
  | false, ks => isB ks t.d
def Tk.n (t : Tk) : Nat := t.ks.length + sz t.d
def szT : List Tk → Nat
  | [] => 0
  | t :: r => sz t.d + szT r
theorem szT_append : ∀ a b : List Tk, szT (a ++ b) = szT a + szT b
  | [], b => (Nat.zero_add _).symm
  | t :: r, b => by
    show sz t.d + szT (r ++ b) = (sz t.d + szT r) + szT b
    rw [szT_append r b]
    omega
theorem len_szT : ∀ l : List Tk, l.length ≤ szT l
  | [] => Nat.le_refl _
  | t :: r => by
    have h1 := sz_pos t.d
    have h2 := len_szT r
    show r.length + 1 ≤ sz t.d + szT r
    omega
/-- a task that stands -/
structure TkAt (K : PySem.W.Frag) (F : Bool → Addr) (H : Hp) (v : V) (t : Tk) : Prop where
  ex : ∃ a x kt, v = .ref a ∧ H a = some (.tup [.ref (F t.pr), x, .ref kt]) ∧ Rep K H x t.d ∧ KtAt K H kt t.ks
  ne : t.pr = true → t.ks ≠ []
theorem TkAt.kx {F : Bool → Addr} {H H' : Hp} {v : V} {t : Tk} (h : TkAt K F H v t) (k : Kx H H') : TkAt K F H' v t := by
  obtain ⟨⟨a, x, kt, h1, h2, h3, h4⟩, h5⟩ := h
  exact ⟨⟨a, x, kt, h1, k.t _ _ h2, h3.mono k, h4.kx k⟩, h5⟩
inductive TksAt (K : PySem.W.Frag) (F : Bool → Addr) (H : Hp) : List V → List Tk → Prop where
  | nil : TksAt K F H [] []
  | cons {x : V} {t : Tk} {xs : List V} {ts : List Tk} (h : TkAt K F H x t) (r : TksAt K F H xs ts) : TksAt K F H (x :: xs) (t :: ts)
theorem TksAt.kx {F : Bool → Addr} {H H' : Hp} (k : Kx H H') {xs : List V} {ts : List Tk} (h : TksAt K F H xs ts) : TksAt K F H' xs ts := by
  induction h with
  | nil => exact .nil
  | cons h _ ih => exact .cons (h.kx k) ih
theorem TksAt.len {F : Bool → Addr} {H : Hp} {xs : List V} {ts : List Tk} (h : TksAt K F H xs ts) : xs.length = ts.length := by
  induction h with
  | nil => rfl
  | cons _ _ ih => exact congrArg Nat.succ ih
theorem TksAt.app {F : Bool → Addr} {H : Hp} {xs ys : List V} {ts us : List Tk} (h : TksAt K F H xs ts) (g : TksAt K F H ys us) : TksAt K F H (xs ++ ys) (ts ++ us) := by
  induction h with
  | nil => exact g
  | cons h _ ih => exact .cons h ih
theorem TksAt.snoc {F : Bool → Addr} {H : Hp} {x : V} : ∀ (xs : List V) (ts : List Tk), TksAt K F H (xs ++ [x]) ts → ∃ es t, ts = es ++ [t] ∧ TksAt K F H xs es ∧ TkAt K F H x t := by
  intro xs
  induction xs with
  | nil =>
    intro ts h
    cases h with
    | cons h r =>
      cases r
      exact ⟨[], _, rfl, .nil, h⟩
  | cons y ys ih =>
    intro ts h
    cases h with
    | cons h r =>
      obtain ⟨es, t, e, h1, h2⟩ := ih _ r
      subst e
      exact ⟨_ :: es, t, rfl, .cons h h1, h2⟩
/-- what a check tells: none, or a new list of tasks that are right just if it is -/
structure Ans (K : PySem.W.Frag) (F : Bool → Addr) (b : Bool) (n m : Nat) (H : Hp) (Q : VK) : Prop where
  no : b = false → ∀ H', Same H H' → Q .non H'
  yes : ∀ (H' : Hp) (p : Addr) (xs : List V) (ts : List Tk), Same H H' → H' p = some (.lst xs) → TksAt K F H' xs ts → b = ts.all Tk.ok → szT ts < n → (∀ t ∈ ts, t.n ≤ m) → Q (.ref p) H'
def spCk (K : PySem.W.Frag) (F : Bool → Addr) (pr : Bool) : Sp := fun vs H Q _ => ∃ (x : V) (kt : Addr) (ks : List D) (d : D), vs = [x, .ref kt] ∧ Rep K H x d ∧ KtAt K H kt ks ∧ (pr = true → ks ≠ []) ∧ ks.length + sz d ≤ 900000 ∧ Ans K F (Tk.ok ⟨pr, ks, d⟩) (sz d) (ks.length + sz d) H Q
theorem Ans.same {F : Bool → Addr} {b : Bool} {n m : Nat} {H H' : Hp} {Q : VK} (h : Ans K F b n m H Q) (s : Same H H') : Ans K F b n m H' Q :=
  ⟨fun z H2 s2 => h.no z H2 (s.trans s2), fun H2 p xs ts s2 => h.yes H2 p xs ts (s.trans s2)⟩
end
end Pk

set_option maxRecDepth 100000
set_option maxHeartbeats 1000000
namespace Pk
open PySem PySem.Spec PyProof.Rows L2
section
variable {P : Program} {w : World} {K : PySem.W.Frag} {mg : Str → Option Value} {base : Heap}
/-! ### _check_program -/
theorem ok_cpr {F : Bool → Addr} {f2 f3 : Addr} {fd d1 d2 d3 : FuncData} (D__check_program : Df K mg "_check_program" s__check_program ["value", "kinds"] (F true) fd) (D__check_body : Df K mg "_check_body" s__check_body ["value", "kinds"] (F false) d1)
    (D_is_tuple_of : Df K mg "is_tuple_of" s_is_tuple_of ["value", "many"] f2 d2) (D_is_whole : Df K mg "is_whole" s_is_whole ["value"] f3 d3) (B : Bt mg) : FnOk P w K mg base CX0 2 (F true) fd ["value", "kinds"] (spCk K F true) := by
  have G_is_whole : FnOk P w K mg base CX0 1 f3 d3 ["value"] (spCWh K) := ok_cwh D_is_whole B
  have G_is_tuple_of : FnOk P w K mg base CX0 1 f2 d2 ["value", "many"] (spCTu K) := ok_ctu D_is_tuple_of B
  refine D__check_program.ok c__check_program (fun vs H Q E h => ?_) (fun cdv A outer s H vs Q E hr h => ?_)
  · obtain ⟨x, kt, ks, d, rfl, _⟩ := h
    rfl
  obtain ⟨x, kt, ks, d, rfl, rx, hkt, hne, hsz, q⟩ := h
  have nd := c__check_program.nd
  refine ⟨_, (pss_cons (ps_if (pt_not (pt_val (pe_call G_is_tuple_of (hr.mono (by first | decide | omega)) (by rfl) D_is_tuple_of.m D_is_tuple_of.kp D_is_tuple_of.b .nil pass0 (pa_cons (pv 0) (pa_cons pe_int pa_nil))))) (pss_one (ps_ret pe_non)) pss_nil)
  (pss_cons (ps_asg (pv 0) (pg_tup rfl (pgs_cons (pg_name (i := 2) nd rfl (Or.inl rfl)) (pgs_cons (pg_name (i := 3) nd rfl (Or.inl rfl)) (pgs_cons (pg_name (i := 4) nd rfl (Or.inl rfl)) pgs_nil)))))
  (pss_cons (ps_if (PW.pt (pw_or (pt_cmpR (op_neS hr.units) (pv 2) pe_str (nomark _)) (pw_or (pt_not (pt_val (pe_call G_is_whole (hr.mono (by first | decide | omega)) (by rfl) D_is_whole.m D_is_whole.kp D_is_whole.b .nil pass0 (pa_cons (pv 3) pa_nil)))) (pw_or1 (pt_cmpR op_ne (pv 3) (pe_callB call_len_seq (by rfl) B.b_len PySem.boot_len (pa_cons (pe_ix ix_tup (pv 1) (pe_un un_neg pe_int) (fun _ _ => rfl)) pa_nil)) (nomark _)))))) (pss_one (ps_ret pe_non)) pss_nil)
  (pss_one (ps_ret (pe_lst (pa_cons (pe_tup (pa_cons (pe_glob rfl D__check_body.m (rel_ref _)) (pa_cons (pv 4) (pa_cons (pv 1) pa_nil)))) pa_nil))))))), ?_⟩
  cases ks with
  | nil => exact absurd rfl (hne rfl)
  | cons kd ks =>
  have q' : Ans K F (isPr ks kd d) (sz d) ((kd :: ks).length + sz d) H Q := q
  refine ⟨_, rfl, x, d, 3, rfl, rx, ⟨_, rfl, ?_⟩⟩
  cases h3 : tupN d 3 with
  | false =>
    refine iteT (q'.no ?_ H (Same.refl H))
    cases d with
    | «at» _ => exact isPr_no _ _ _ rfl
    | lst => exact isPr_no _ _ _ rfl
    | tup ts =>
      refine isPr_len _ _ _ fun z => ?_
      have : decide ((ts.length : Int) = 3) = false := h3
      rw [z] at this
      cases this
  | true =>
    refine iteF ?_
    obtain ⟨x0, m0, b0, rfl⟩ : ∃ x0 m0 b0, d = .tup [x0, m0, b0] := by
      cases d with
      | «at» _ => cases h3
      | lst => cases h3
      | tup ts =>
        have z : (ts.length : Int) = 3 := of_decide_eq_true h3
        match ts, z with
        | [a, b, c], _ => exact ⟨a, b, c, rfl⟩
        | [], z => simp at z
        | [_], z => simp at z
        | [_, _], z => simp at z
        | _ :: _ :: _ :: _ :: r, z => simp at z; omega
    obtain ⟨a, xs, rfl, hx, rxs⟩ := rx.inv
    rw [isPr_three] at q'
    cases rxs with
    | @cons v0 _ _ _ r0 rxs =>
    cases rxs with
    | @cons v1 _ _ _ r1 rxs =>
    cases rxs with
    | @cons v2 _ _ _ r2 rxs =>
    cases rxs
    have no : prOr ks kd x0 m0 b0 = false → Q .non H := fun z => q'.no z H (Same.refl H)
    refine ⟨_, rfl, a, _, rfl, hx.sq, rfl, _, _, rfl, _, _, rfl, _, _, rfl, rfl, ?_⟩
    refine ⟨_, rfl, x0, "program", r0, rfl, _, rfl, ?_⟩
    cases h0 : eqs x0 "program" with
    | false =>
      refine iteT (no ?_)
      cases x0 with
      | tup _ => rfl
      | lst => rfl
      | «at» v =>
        cases v with
        | str s =>
          show (decide (s = "program") && _ && _) = false
          rw [show decide (s = "program") = false from h0, Bool.false_and, Bool.false_and]
        | _ => rfl
    | true =>
    have ep : prOr ks kd x0 m0 b0 = ((wholeB m0 99 && decide (numD m0 = (args kd).length)) && isB (kd :: ks) b0) := by
      cases x0 with
      | tup _ => cases h0
      | lst => cases h0
      | «at» v =>
        cases v with
        | str s =>
          show (decide (s = "program") && _ && _) = _
          rw [show decide (s = "program") = true from h0, Bool.true_and]
        | _ => cases h0
    rw [ep] at q' no
    refine iteF ⟨_, rfl, v1, m0, rfl, r1, ⟨_, rfl, ?_⟩⟩
    cases h1 : wholeN m0 with
    | false =>
      refine iteT (no ?_)
      rw [whole_N h1]
      rfl
    | true =>
    obtain ⟨n, rfl⟩ := whole_NI h1
    obtain ⟨rfl, _⟩ := r1.inva
    obtain ⟨kxs, hkx, rkx, hkq⟩ := hkt
    rw [List.reverse_cons] at rkx
    have lk := rkx.length
    rw [List.length_append, List.length_reverse, List.length_singleton] at lk
    obtain ⟨w1, hw1, rw1⟩ := rkx.getD (i := ks.length) (d := kd) (by rw [List.getElem?_append_right (by rw [List.length_reverse]; exact Nat.le_refl _), List.length_reverse, Nat.sub_self]; rfl)
    have hq := hkq kd (List.mem_cons_self ..)
    have hl := hq.len
    obtain ⟨ts, ets, hts⟩ := isK_inv hq.1
    rw [ets] at rw1
    obtain ⟨a2, xs2, rfl, hx2, rx2⟩ := rw1.inv
    have l2 := rx2.length
    have ea : (args kd).length = xs2.length := by rw [ets]; exact l2.symm
    have ew : (wholeB (.at (.int (n : Int))) 99 && decide (numD (.at (.int (n : Int))) = (args kd).length)) = decide (n = xs2.length) := by
      rw [whole_B]
      show (decide (n < 99) && decide ((n : Int).toNat = (args kd).length)) = _
      rw [show ((n : Int).toNat = n) from rfl, ea]
      by_cases z : n = xs2.length
      · rw [decide_eq_true z, decide_eq_true (show n < 99 by omega)]
        rfl
      · rw [decide_eq_false z, Bool.and_false]
    rw [ew] at q' no
    have hat : atI kxs (-1) = some (.ref a2) := by
      have z := atI_back (xs := kxs) (j := 0) (by omega)
      have z2 : atI kxs (-1) = atI kxs (-1 - ((0 : Nat) : Int)) := rfl
      rw [z2, z, ← hw1]
      congr 1
      omega
    refine iteF ⟨_, rfl, _, rfl, 1, rfl, kt, kxs, _, _, rfl, rfl, hkx.sq, hat, a2, xs2, rfl, .inr hx2.sq, rfl, _, rfl, ite2 (fun z => ?_) (fun z => ?_)⟩
    · refine no ?_
      have z2 : ¬ (n = xs2.length) := fun e => by
        rw [e] at z
        simp at z
      rw [decide_eq_false z2]
      rfl
    have en : n = xs2.length := by
      by_cases e : n = xs2.length
      · exact e
      · refine absurd ?_ z
        rw [show decide (V.int (n : Int) = V.int ((xs2.length : Nat) : Int)) = false from decide_eq_false fun y => e (by have := V.int.inj y; omega)]
        rfl
    rw [decide_eq_true en, Bool.true_and] at q'
    refine ⟨_, rfl, _, rfl, (by show 3 ≤ sizeLine; decide), fun t nt => ⟨(by show 1 ≤ sizeLine; decide), fun l nl => ?_⟩⟩
    have s1 := same_new nt (.tup [.ref (F false), v2, .ref kt])
    have s2 := same_new nl (.lst [.ref t])
    have s12 := s1.trans s2
    refine q'.yes _ l [.ref t] [⟨false, kd :: ks, b0⟩] s12 upd_same (.cons ⟨⟨t, v2, kt, rfl, s2 _ _ upd_same, r2.mono (kx_same s12), ⟨kxs, hkx.same s12, ?_, hkq⟩⟩, fun z => by cases z⟩ .nil) ?_ ?_ ?_
    · rw [List.reverse_cons]
      exact rkx.mono (kx_same s12)
    · show isB (kd :: ks) b0 = (isB (kd :: ks) b0 && true)
      rw [Bool.and_true]
    · show sz b0 + 0 < sz x0 + (sz (.at (.int (n : Int))) + (sz b0 + 0)) + 1
      omega
    · intro t ht
      rw [List.mem_singleton.mp ht]
      show (kd :: ks).length + sz b0 ≤ (kd :: ks).length + (sz x0 + (sz (.at (.int (n : Int))) + (sz b0 + 0)) + 1)
      omega
end
end Pk

set_option maxRecDepth 100000
set_option maxHeartbeats 1000000
namespace Pk
open PySem PySem.Spec PyProof.Rows L2
section
variable {P : Program} {w : World} {K : PySem.W.Frag} {mg : Str → Option Value} {base : Heap}
/-! ### _check_ask -/
def tkP (ks : List D) (x : D × D) : Tk := ⟨true, x.2 :: ks, x.1⟩
theorem isPs_zip (ks : List D) : ∀ ts l : List D, ts.length = l.length → isPs ks ts l = ((l.zip ts).map (tkP ks)).all Tk.ok
  | [], [], _ => rfl
  | kd :: ts, d :: l, h => by
    rw [isPs_cons, isPs_zip ks ts l (Nat.succ.inj h)]
    rfl
  | [], _ :: _, h => by cases h
  | _ :: _, [], h => by cases h
theorem szT_zip (ks : List D) : ∀ ts l : List D, ts.length = l.length → szT ((l.zip ts).map (tkP ks)) = szs l
  | [], [], _ => rfl
  | kd :: ts, d :: l, h => by
    show sz d + szT ((l.zip ts).map (tkP ks)) = sz d + szs l
    rw [szT_zip ks ts l (Nat.succ.inj h)]
  | [], _ :: _, h => by cases h
  | _ :: _, [], h => by cases h
def spCkA (K : PySem.W.Frag) (F : Bool → Addr) : Sp := fun vs H Q _ => ∃ (x : V) (kt : Addr) (ks : List D) (x0 up k as z o : D), vs = [x, .ref kt] ∧ Rep K H x (.tup [x0, up, k, as, z, o]) ∧ KtAt K H kt ks ∧ ks.length + sz (.tup [x0, up, k, as, z, o]) ≤ 900000 ∧
  Ans K F (askB ks up k as z o) (sz (.tup [x0, up, k, as, z, o])) (ks.length + sz (.tup [x0, up, k, as, z, o])) H Q
theorem ok_cas {F : Bool → Addr} {f1 f2 f3 f4 : Addr} {fd d0 d1 d2 d3 d4 : FuncData} (D__check_ask : Df K mg "_check_ask" s__check_ask ["value", "kinds"] f1 fd) (D__check_program : Df K mg "_check_program" s__check_program ["value", "kinds"] (F true) d0) (D__check_body : Df K mg "_check_body" s__check_body ["value", "kinds"] (F false) d1)
    (D_is_tuple_of : Df K mg "is_tuple_of" s_is_tuple_of ["value", "many"] f2 d2) (D__asked_kind : Df K mg "_asked_kind" s__asked_kind ["up", "k", "kinds"] f3 d3) (D_is_whole : Df K mg "is_whole" s_is_whole ["value"] f4 d4) (B : Bt mg) : FnOk P w K mg base CX0 3 f1 fd ["value", "kinds"] (spCkA K F) := by
  have G__asked_kind : FnOk P w K mg base CX0 2 f3 d3 ["up", "k", "kinds"] (spCAk K) := ok_cak D__asked_kind D_is_whole B
  have G_is_tuple_of : FnOk P w K mg base CX0 1 f2 d2 ["value", "many"] (spCTu K) := ok_ctu D_is_tuple_of B
  refine D__check_ask.ok c__check_ask (fun vs H Q E h => ?_) (fun cdv A outer s H vs Q E hr h => ?_)
  · obtain ⟨x, kt, ks, _, _, _, _, _, _, rfl, _⟩ := h
    rfl
  obtain ⟨x, kt, ks, x0, up, k, as, z, o, rfl, rx, hkt, hsz, q⟩ := h
  have nd := c__check_ask.nd
  refine ⟨_, (pss_cons (ps_asg (pv 0) (pg_tup rfl (pgs_cons (pg_name (i := 2) nd rfl (Or.inl rfl)) (pgs_cons (pg_name (i := 3) nd rfl (Or.inl rfl)) (pgs_cons (pg_name (i := 4) nd rfl (Or.inl rfl)) (pgs_cons (pg_name (i := 5) nd rfl (Or.inl rfl)) (pgs_cons (pg_name (i := 6) nd rfl (Or.inl rfl)) (pgs_cons (pg_name (i := 7) nd rfl (Or.inl rfl)) pgs_nil))))))))
  (pss_cons (ps_set (i := 8) nd rfl (Or.inl rfl) (pe_call G__asked_kind (hr.mono (by first | decide | omega)) (by rfl) D__asked_kind.m D__asked_kind.kp D__asked_kind.b .nil pass0 (pa_cons (pv 3) (pa_cons (pv 4) (pa_cons (pv 1) pa_nil)))))
  (pss_cons (ps_if (PW.pt (pw_or (pt_cmpR op_isN (pv 8) pe_non (nomark _)) (pw_or1 (pt_not (pt_val (pe_call G_is_tuple_of (hr.mono (by first | decide | omega)) (by rfl) D_is_tuple_of.m D_is_tuple_of.kp D_is_tuple_of.b .nil pass0 (pa_cons (pv 5) (pa_cons (pe_callB call_len_seq (by rfl) B.b_len PySem.boot_len (pa_cons (pv 8) pa_nil)) pa_nil)))))))) (pss_one (ps_ret pe_non)) pss_nil)
  (pss_cons (ps_setLc (i := 9) (own := [("argument", 10), ("kind", 11)]) (g := (gTup K 2 (gCons (gName 10) (gCons (gName 11) gNil)))) (tt := tYes) rfl nd rfl rfl (sw_true rfl rfl rfl (by decide +kernel)) (RZ.pi_zipA (by rfl) B.b_zip (pa_cons (pv 5) (pa_cons (pv 8) pa_nil))) (blkOk_by (own := [("argument", 10), ("kind", 11)]) (N := ["value", "kinds", "_", "up", "k", "arguments", "zero", "one", "asked", "found", "argument", "kind"]) (sc := defScope s__check_ask) (by decide +kernel)) (fun _ _ _ _ _ => (pg_tup rfl (pgs_cons (pg_name (i := 10) nd rfl (Or.inl rfl)) (pgs_cons (pg_name (i := 11) nd rfl (Or.inl rfl)) pgs_nil)))) (fun _ _ _ _ _ => pts_nil) (fun _ _ _ _ _ => (pe_tup (pa_cons (pe_glob rfl D__check_program.m (rel_ref _)) (pa_cons (pv 10) (pa_cons (pe_op (show OpR _ (binaryOp .Add) (rCatP K) from op_catP) (pv 1) (pe_tup (pa_cons (pv 11) pa_nil))) pa_nil))))))
  (pss_one (ps_ret (pe_op op_cat (pv 9) (pe_lst (pa_cons (pe_tup (pa_cons (pe_glob rfl D__check_body.m (rel_ref _)) (pa_cons (pv 6) (pa_cons (pv 1) pa_nil)))) (pa_cons (pe_tup (pa_cons (pe_glob rfl D__check_body.m (rel_ref _)) (pa_cons (pv 7) (pa_cons (pv 1) pa_nil)))) pa_nil)))))))))), ?_⟩
  obtain ⟨a, xs, rfl, hx, rxs⟩ := rx.inv
  rw [askB_asked] at q
  cases rxs with
  | @cons v0 _ _ _ r0 rxs =>
  cases rxs with
  | @cons v1 _ _ _ r1 rxs =>
  cases rxs with
  | @cons v2 _ _ _ r2 rxs =>
  cases rxs with
  | @cons v3 _ _ _ r3 rxs =>
  cases rxs with
  | @cons v4 _ _ _ r4 rxs =>
  cases rxs with
  | @cons v5 _ _ _ r5 rxs =>
  cases rxs
  refine ⟨_, rfl, a, _, rfl, hx.sq, rfl, _, _, rfl, _, _, rfl, _, _, rfl, _, _, rfl, _, _, rfl, _, _, rfl, rfl, ?_⟩
  refine ⟨_, rfl, _, rfl, _, rfl, v1, v2, kt, up, k, ks, rfl, r1, r2, hkt, fun en => ?_, fun kd v en rv => ?_⟩
  · rw [en] at q
    exact ⟨_, rfl, rfl, _, rfl, iteT (q.no rfl H (Same.refl H))⟩
  rw [en] at q
  have q' : Ans K F ((isTup as && isPs ks (args kd) (args as)) && (isB ks z && isB ks o)) (sz (.tup [x0, up, k, as, z, o])) (ks.length + sz (.tup [x0, up, k, as, z, o])) H Q := q
  clear q
  obtain ⟨kxs, hkx, rkx, hkq⟩ := hkt
  have hq := askedK_sub en hkq
  obtain ⟨ts, rfl, hts⟩ := isK_inv hq.1
  obtain ⟨a2, xs2, rfl, hx2, rx2⟩ := rv.inv
  have l2 := rx2.length
  refine ⟨_, rfl, rfl, _, rfl, iteF ⟨_, rfl, _, rfl, a2, xs2, rfl, .inr hx2.sq, v3, as, _, rfl, r3, ⟨_, rfl, ?_⟩⟩⟩
  cases h3 : tupN as ((xs2.length : Nat) : Int) with
  | false =>
    refine iteT (q'.no ?_ H (Same.refl H))
    cases as with
    | «at» _ => rfl
    | lst => rfl
    | tup l =>
      have z1 := of_decide_eq_false (show decide ((l.length : Int) = ((xs2.length : Nat) : Int)) = false from h3)
      show ((true && isPs ks ts l) && _) = false
      rw [isPs_len ks ts l (by omega)]
      rfl
  | true =>
  obtain ⟨l, rfl⟩ : ∃ l, as = .tup l := by
    cases as with
    | «at» _ => cases h3
    | lst => cases h3
    | tup l => exact ⟨l, rfl⟩
  have hl : ts.length = l.length := by
    have z1 := of_decide_eq_true (show decide ((l.length : Int) = ((xs2.length : Nat) : Int)) = true from h3)
    omega
  obtain ⟨a3, xs3, rfl, hx3, rx3⟩ := r3.inv
  have l3 := rx3.length
  have hsz' : ks.length + (sz x0 + (sz up + (sz k + (szs l + 1 + (sz z + (sz o + 0))))) + 1) ≤ 900000 := hsz
  have ll := len_szs l
  have lk := rkx.length
  rw [List.length_reverse] at lk
  refine iteF ?_
  refine ⟨_, rfl, _, rfl, a3, a2, xs3, xs2, rfl, .inr ⟨hx3.sq, hx2.sq, fun p np => ?_⟩⟩
  refine lc_it (walk_zipT (n := xs3.length) rfl (by omega)) (fun i H' => Same H H' ∧ ∃ acc, H' p = some (.lst acc) ∧ acc.length ≤ i ∧ TksAt K F H' acc (((l.zip ts).take i).map (tkP ks)))
    ⟨same_new np _, [], upd_same, Nat.le_refl _, .nil⟩ (fun i H' _ h => ⟨(hx3.same h.1).sq, (hx2.same h.1).sq⟩) ?_ ?_
  · rintro i v H1 H1' hi ⟨s1, acc, hp, hlen, hacc⟩ ⟨T, x1, y1, rfl, nT, rfl, hx1, hy1⟩
    have sT := same_new nT (.tup [x1, y1])
    obtain ⟨e1, he1, re1⟩ := rx3.get hx1
    obtain ⟨e2, he2, re2⟩ := rx2.get hy1
    have sH := s1.trans sT
    refine ⟨T, _, rfl, SqT.of upd_same, rfl, _, _, rfl, _, _, rfl, rfl, rfl, yes_go ⟨_, rfl, _, rfl, _, rfl, (by show 1 ≤ sizeLine; decide), fun t1 n1 => ?_⟩⟩
    have st1 := same_new n1 (.tup [y1])
    refine ⟨kt, t1, kxs, [y1], rfl, rfl, (hkx.same sH).same st1, .inl upd_same, small6' (by rw [List.length_singleton]; omega), fun c H3 s3 hc => ⟨(by show 3 ≤ sizeLine; decide), fun t nt => ?_⟩⟩
    have st := same_new nt (.tup [.ref (F true), x1, .ref c])
    have s4 := sT.trans (st1.trans (s3.trans st))
    have hp4 := s4 _ _ hp
    have kl := kx_list hp4 (acc ++ [.ref t])
    have k4 := (kx_same s4).trans kl
    refine ⟨acc, hp4, small6 (by omega), ?_, acc ++ [.ref t], upd_same, by rw [List.length_append, List.length_singleton]; omega, ?_⟩
    · intro b u e
      rw [upd_ne (ne_of_none e np)]
      exact s4 _ _ (s1 _ _ e)
    · have ez : (l.zip ts).take (i + 1) = (l.zip ts).take i ++ [(e1, e2)] := by
        rw [List.take_add_one, show (l.zip ts)[i]? = some (e1, e2) by
          rw [List.getElem?_zip_eq_some]
          exact ⟨he1, he2⟩]
        rfl
      rw [ez, List.map_append]
      refine (hacc.kx k4).app (.cons ⟨⟨t, x1, c, rfl, kl.t _ _ upd_same, (re1.mono (kx_same s1)).mono k4, ⟨kxs ++ [y1], (hc.same st).kx kl, ?_, ?_⟩⟩, fun _ e => by cases e⟩ .nil)
      · show Reps K _ (kxs ++ [y1]) (e2 :: ks).reverse
        rw [List.reverse_cons]
        exact ((rkx.mono (kx_same s1)).mono k4).append (.one ((re2.mono (kx_same s1)).mono k4))
      · intro k hk
        rcases List.mem_cons.mp hk with e | hk
        · rw [e]
          exact hq.sub (List.mem_of_getElem? he2)
        · exact hkq k hk
  · rintro H1 ⟨s1, acc, hp, hlen, hacc⟩
    rw [List.take_of_length_le (by rw [List.length_zip]; omega)] at hacc
    refine ⟨_, rfl, _, rfl, _, rfl, (by show 3 ≤ sizeLine; decide), fun t1 n1 => ⟨_, rfl, _, rfl, (by show 3 ≤ sizeLine; decide), fun t2 n2 => ⟨(by show 2 ≤ sizeLine; decide), fun l4 n4 => ?_⟩⟩⟩
    have st1 := same_new n1 (.tup [.ref (F false), v4, .ref kt])
    have st2 := same_new n2 (.tup [.ref (F false), v5, .ref kt])
    have st4 := same_new n4 (.lst [.ref t1, .ref t2])
    have s5 := st1.trans (st2.trans st4)
    refine ⟨p, l4, acc, _, rfl, rfl, s5 _ _ hp, upd_same, small6' (by show acc.length + 2 ≤ 1000000; omega), fun p6 n6 => ?_⟩
    have s6 := same_new n6 (.lst (acc ++ [.ref t1, .ref t2]))
    have s7 := s5.trans s6
    have s8 := s1.trans s7
    have hkt8 : ∀ H', Same H H' → KtAt K H' kt ks := fun H' s => ⟨kxs, hkx.same s, rkx.mono (kx_same s), hkq⟩
    refine q'.yes _ p6 _ (((l.zip ts).map (tkP ks)) ++ [⟨false, ks, z⟩, ⟨false, ks, o⟩]) s8 upd_same ((hacc.kx (kx_same s7)).app
      (.cons ⟨⟨t1, v4, kt, rfl, ((st2.trans st4).trans s6) _ _ upd_same, r4.mono (kx_same s8), hkt8 _ s8⟩, fun e => by cases e⟩ (.cons ⟨⟨t2, v5, kt, rfl, (st4.trans s6) _ _ upd_same, r5.mono (kx_same s8), hkt8 _ s8⟩, fun e => by cases e⟩ .nil))) ?_ ?_ ?_
    · rw [List.all_append, ← isPs_zip ks ts l hl]
      show ((true && isPs ks ts l) && (isB ks z && isB ks o)) = (isPs ks ts l && (isB ks z && (isB ks o && true)))
      rw [Bool.true_and, Bool.and_true]
    · rw [szT_append, szT_zip ks ts l hl]
      show szs l + (sz z + (sz o + 0)) < sz x0 + (sz up + (sz k + (szs l + 1 + (sz z + (sz o + 0))))) + 1
      omega
    · intro t ht
      show t.n ≤ ks.length + (sz x0 + (sz up + (sz k + (szs l + 1 + (sz z + (sz o + 0))))) + 1)
      rcases List.mem_append.mp ht with ht | ht
      · obtain ⟨⟨e1, e2⟩, he, rfl⟩ := List.mem_map.mp ht
        have := sz_mem (List.of_mem_zip he).1
        show ks.length + 1 + sz e1 ≤ _
        omega
      · simp only [List.mem_cons, List.not_mem_nil, or_false] at ht
        rcases ht with rfl | rfl
        · show ks.length + sz z ≤ _
          omega
        · show ks.length + sz o ≤ _
          omega
end
end Pk

set_option maxRecDepth 100000
set_option maxHeartbeats 1000000
namespace Pk
open PySem PySem.Spec PyProof.Rows L2
section
variable {P : Program} {w : World} {K : PySem.W.Frag} {mg : Str → Option Value} {base : Heap}
/-! ### _check_body -/
theorem isB_one (ks : List D) (x : D) : isB ks (.tup [x]) = eqs x "stop" := by
  cases x with
  | tup _ => rfl
  | lst => rfl
  | «at» v => cases v <;> rfl
theorem isB_two (ks : List D) (x v : D) : isB ks (.tup [x, v]) = (eqs x "say" && wholeB v 2) := by
  cases x with
  | tup _ => rfl
  | lst => rfl
  | «at» v => cases v <;> rfl
theorem isB_six (ks : List D) (x up k as z o : D) (hx : ∀ v, x = .at v → flat4 v = true) : isB ks (.tup [x, up, k, as, z, o]) = (eqs x "ask" && askB ks up k as z o) := by
  cases hs : isStr x with
  | false =>
    rw [isB_nostr ks _ hs hx]
    cases x with
    | tup _ => rfl
    | lst => rfl
    | «at» v =>
      cases v with
      | str _ => cases hs
      | _ => rfl
  | true =>
    cases x with
    | tup _ => cases hs
    | lst => cases hs
    | «at» v =>
      have hv := hx v rfl
      cases v with
      | non => cases hs
      | bl _ => cases hs
      | int _ => cases hs
      | byt _ => cases hv
      | flt _ => cases hv
      | ref _ => cases hv
      | ty _ => cases hv
      | str s =>
        by_cases h1 : s = "ask"
        · subst h1
          rw [isB_ask]
          rfl
        · show _ = (decide (s = "ask") && _)
          rw [decide_eq_false h1, Bool.false_and]
          by_cases h2 : s = "stop"
          · subst h2
            rw [isB_stop]
            rfl
          · by_cases h3 : s = "say"
            · subst h3
              rw [isB_say]
              rfl
            · exact isB_other ks _ h2 h3 h1
theorem isB_len (ks : List D) (ts : List D) (h1 : ts.length ≠ 1) (h2 : ts.length ≠ 2) (h6 : ts.length ≠ 6) : isB ks (.tup ts) = false := by
  match ts with
  | [] => rfl
  | [_] => exact absurd rfl h1
  | [_, _] => exact absurd rfl h2
  | [a, _, _] => cases a <;> first | rfl | (rename_i v; cases v <;> rfl)
  | [a, _, _, c] => cases a <;> first | rfl | (cases c <;> rfl) | (rename_i v; cases v <;> first | rfl | (cases c <;> rfl))
  | [a, _, _, c, _] => cases a <;> first | rfl | (cases c <;> rfl) | (rename_i v; cases v <;> first | rfl | (cases c <;> rfl))
  | [_, _, _, _, _, _] => exact absurd rfl h6
  | a :: _ :: _ :: c :: _ :: _ :: _ :: _ => cases a <;> first | rfl | (cases c <;> rfl) | (rename_i v; cases v <;> first | rfl | (cases c <;> rfl))
/-- the lengths that a body has -/
inductive Shp (d : D) : Prop where
  | one (x : D) (h : d = .tup [x])
  | two (x v : D) (h : d = .tup [x, v])
  | six (x up k as z o : D) (h : d = .tup [x, up, k, as, z, o])
  | no (h1 : tupN d 1 = false) (h2 : tupN d 2 = false) (h6 : tupN d 6 = false) (h : ∀ ks, isB ks d = false)
theorem shp (d : D) : Shp d := by
  cases d with
  | «at» v => exact .no rfl rfl rfl fun _ => rfl
  | lst => exact .no rfl rfl rfl fun _ => rfl
  | tup ts =>
    by_cases h1 : ts.length = 1
    · match ts, h1 with
      | [x], _ => exact .one x rfl
    by_cases h2 : ts.length = 2
    · match ts, h2 with
      | [x, v], _ => exact .two x v rfl
    by_cases h6 : ts.length = 6
    · match ts, h6 with
      | [x, up, k, as, z, o], _ => exact .six x up k as z o rfl
    exact .no (decide_eq_false (by omega)) (decide_eq_false (by omega)) (decide_eq_false (by omega)) fun ks => isB_len ks ts h1 h2 h6
theorem ok_cbo {F : Bool → Addr} {f1 f2 f3 f4 f5 : Addr} {fd d0 d1 d2 d3 d4 d5 : FuncData} (D__check_body : Df K mg "_check_body" s__check_body ["value", "kinds"] (F false) fd) (D__check_ask : Df K mg "_check_ask" s__check_ask ["value", "kinds"] f1 d1) (D__check_program : Df K mg "_check_program" s__check_program ["value", "kinds"] (F true) d0)
    (D_is_tuple_of : Df K mg "is_tuple_of" s_is_tuple_of ["value", "many"] f2 d2) (D__asked_kind : Df K mg "_asked_kind" s__asked_kind ["up", "k", "kinds"] f3 d3) (D_is_whole : Df K mg "is_whole" s_is_whole ["value"] f4 d4) (D_is_answer : Df K mg "is_answer" s_is_answer ["value"] f5 d5) (B : Bt mg) : FnOk P w K mg base CX0 4 (F false) fd ["value", "kinds"] (spCk K F false) := by
  have G__check_ask : FnOk P w K mg base CX0 3 f1 d1 ["value", "kinds"] (spCkA K F) := ok_cas D__check_ask D__check_program D__check_body D_is_tuple_of D__asked_kind D_is_whole B
  have G_is_tuple_of : FnOk P w K mg base CX0 1 f2 d2 ["value", "many"] (spCTu K) := ok_ctu D_is_tuple_of B
  have G_is_answer : FnOk P w K mg base CX0 2 f5 d5 ["value"] (spCAn K) := ok_can D_is_answer D_is_whole B
  refine D__check_body.ok c__check_body (fun vs H Q E h => ?_) (fun cdv A outer s H vs Q E hr h => ?_)
  · obtain ⟨x, kt, ks, d, rfl, _⟩ := h
    rfl
  obtain ⟨x, kt, ks, d, rfl, rx, hkt, hne, hsz, q⟩ := h
  have nd := c__check_body.nd
  refine ⟨_, (pss_cons (ps_if (PW.pt (pw_and (pt_val (pe_call G_is_tuple_of (hr.mono (by first | decide | omega)) (by rfl) D_is_tuple_of.m D_is_tuple_of.kp D_is_tuple_of.b .nil pass0 (pa_cons (pv 0) (pa_cons pe_int pa_nil)))) (pw_and1 (pt_cmpR (op_eqS hr.units) (pe_ix ix_tup (pv 0) pe_int (fun _ _ => rfl)) pe_str (nomark _))))) (pss_one (ps_ret (pe_call G__check_ask (hr.mono (by first | decide | omega)) (by rfl) D__check_ask.m D__check_ask.kp D__check_ask.b .nil pass0 (pa_cons (pv 0) (pa_cons (pv 1) pa_nil))))) pss_nil)
  (pss_cons (ps_if (PW.pt (pw_and (pt_val (pe_call G_is_tuple_of (hr.mono (by first | decide | omega)) (by rfl) D_is_tuple_of.m D_is_tuple_of.kp D_is_tuple_of.b .nil pass0 (pa_cons (pv 0) (pa_cons pe_int pa_nil)))) (pw_and (pt_cmpR (op_eqS hr.units) (pe_ix ix_tup (pv 0) pe_int (fun _ _ => rfl)) pe_str (nomark _)) (pw_and1 (pt_val (pe_call G_is_answer (hr.mono (by first | decide | omega)) (by rfl) D_is_answer.m D_is_answer.kp D_is_answer.b .nil pass0 (pa_cons (pe_ix ix_tup (pv 0) pe_int (fun _ _ => rfl)) pa_nil))))))) (pss_one (ps_ret (pe_lst pa_nil))) pss_nil)
  (pss_cons (ps_if (PW.pt (pw_and (pt_val (pe_call G_is_tuple_of (hr.mono (by first | decide | omega)) (by rfl) D_is_tuple_of.m D_is_tuple_of.kp D_is_tuple_of.b .nil pass0 (pa_cons (pv 0) (pa_cons pe_int pa_nil)))) (pw_and1 (pt_cmpR (op_eqS hr.units) (pe_ix ix_tup (pv 0) pe_int (fun _ _ => rfl)) pe_str (nomark _))))) (pss_one (ps_ret (pe_lst pa_nil))) pss_nil)
  (pss_one (ps_ret pe_non))))), ?_⟩
  have q' : Ans K F (isB ks d) (sz d) (ks.length + sz d) H Q := q
  clear q
  refine ⟨_, rfl, x, d, 6, rfl, rx, ⟨_, rfl, ?_⟩⟩
  rcases shp d with ⟨x0, rfl⟩ | ⟨x0, v0, rfl⟩ | ⟨x0, up, k, as, z, o, rfl⟩ | ⟨h1, h2, h6, hb⟩
  · obtain ⟨a, xs, rfl, hx, rxs⟩ := rx.inv
    rw [isB_one] at q'
    cases rxs with
    | @cons w0 _ _ _ r0 rxs =>
    cases rxs
    refine iteF ⟨_, rfl, _, .tup [x0], 2, rfl, rx, ⟨_, rfl, iteF ⟨_, rfl, _, .tup [x0], 1, rfl, rx, ⟨_, rfl, iteT ⟨_, rfl, a, _, 0, _, rfl, rfl, hx.sq, atI_nat (j := 0) rfl, x0, "stop", r0, rfl, _, rfl, ?_⟩⟩⟩⟩⟩
    cases h0 : eqs x0 "stop" with
    | false => exact iteF (q'.no h0 H (Same.refl H))
    | true => exact iteT ⟨(by show 0 ≤ sizeLine; decide), fun l nl => q'.yes _ l [] [] (same_new nl _) upd_same .nil h0 (Nat.lt_of_lt_of_le (sz_pos _) (Nat.le_refl _)) (fun t ht => by cases ht)⟩
  · obtain ⟨a, xs, rfl, hx, rxs⟩ := rx.inv
    rw [isB_two] at q'
    cases rxs with
    | @cons w0 _ _ _ r0 rxs =>
    cases rxs with
    | @cons w1 _ _ _ r1 rxs =>
    cases rxs
    have bad : (eqs x0 "say" && wholeB v0 2) = false → Q .non H := fun e => q'.no e H (Same.refl H)
    refine iteF ⟨_, rfl, _, .tup [x0, v0], 2, rfl, rx, ⟨_, rfl, iteT ⟨_, rfl, a, _, 0, _, rfl, rfl, hx.sq, atI_nat (j := 0) rfl, x0, "say", r0, rfl, _, rfl, ?_⟩⟩⟩
    cases h0 : eqs x0 "say" with
    | false => exact iteF ⟨_, rfl, _, .tup [x0, v0], 1, rfl, rx, ⟨_, rfl, iteF (bad (by rw [h0]; rfl))⟩⟩
    | true =>
      refine iteT ⟨_, rfl, a, _, 1, _, rfl, rfl, hx.sq, at_one rfl, _, v0, rfl, r1, ⟨_, rfl, ?_⟩⟩
      cases h1 : wholeB v0 2 with
      | false => exact iteF ⟨_, rfl, _, .tup [x0, v0], 1, rfl, rx, ⟨_, rfl, iteF (bad (by rw [h0, h1]; rfl))⟩⟩
      | true => exact iteT ⟨(by show 0 ≤ sizeLine; decide), fun l nl => q'.yes _ l [] [] (same_new nl _) upd_same .nil (by rw [h0, h1]; rfl) (Nat.lt_of_lt_of_le (sz_pos _) (Nat.le_refl _)) (fun t ht => by cases ht)⟩
  · obtain ⟨a, xs, rfl, hx, rxs⟩ := Rep.inv rx
    rw [isB_six ks x0 up k as z o (by
      cases rxs with
      | cons r0 _ => exact rep_flat r0)] at q'
    have hat : ∃ w0, xs[0]? = some w0 ∧ Rep K H w0 x0 := by
      cases rxs with
      | cons r0 _ => exact ⟨_, rfl, r0⟩
    obtain ⟨w0, hw0, r0⟩ := hat
    refine iteT ⟨_, rfl, a, _, 0, _, rfl, rfl, hx.sq, atI_nat (j := 0) hw0, x0, "ask", r0, rfl, _, rfl, ?_⟩
    cases h0 : eqs x0 "ask" with
    | false =>
      rw [h0, Bool.false_and] at q'
      exact iteF ⟨_, rfl, _, _, 2, rfl, rx, ⟨_, rfl, iteF ⟨_, rfl, _, _, 1, rfl, rx, ⟨_, rfl, iteF (q'.no rfl H (Same.refl H))⟩⟩⟩⟩
    | true =>
      rw [h0, Bool.true_and] at q'
      exact iteT ⟨_, rfl, _, rfl, _, kt, ks, x0, up, k, as, z, o, rfl, rx, hkt, hsz, q'⟩
  · rw [h6]
    refine iteF ⟨_, rfl, x, d, 2, rfl, rx, ⟨_, rfl, ?_⟩⟩
    rw [h2]
    refine iteF ⟨_, rfl, x, d, 1, rfl, rx, ⟨_, rfl, ?_⟩⟩
    rw [h1]
    exact iteF (q'.no (hb ks) H (Same.refl H))
end
end Pk

set_option maxRecDepth 100000
set_option maxHeartbeats 1000000
namespace Pk
open PySem PySem.Spec PyProof.Rows L2
section
variable {P : Program} {w : World} {K : PySem.W.Frag} {mg : Str → Option Value} {base : Heap}
/-! ### is_program -/
theorem ok_isprog {F : Bool → Addr} {f f1 f2 f3 f4 f5 : Addr} {fd dp db d1 d2 d3 d4 d5 : FuncData} (D_is_program : Df K mg "is_program" s_is_program ["kind", "value"] f fd) (D__check_body : Df K mg "_check_body" s__check_body ["value", "kinds"] (F false) db) (D__check_ask : Df K mg "_check_ask" s__check_ask ["value", "kinds"] f1 d1) (D__check_program : Df K mg "_check_program" s__check_program ["value", "kinds"] (F true) dp)
    (D_is_tuple_of : Df K mg "is_tuple_of" s_is_tuple_of ["value", "many"] f2 d2) (D__asked_kind : Df K mg "_asked_kind" s__asked_kind ["up", "k", "kinds"] f3 d3) (D_is_whole : Df K mg "is_whole" s_is_whole ["value"] f4 d4) (D_is_answer : Df K mg "is_answer" s_is_answer ["value"] f5 d5) (B : Bt mg) : FnOk P w K mg base CX0 119 f fd ["kind", "value"] (spIsProg K) := by
  have G__check_program : FnOk P w K mg base CX0 2 (F true) dp ["value", "kinds"] (spCk K F true) := ok_cpr D__check_program D__check_body D_is_tuple_of D_is_whole B
  have G__check_body : FnOk P w K mg base CX0 4 (F false) db ["value", "kinds"] (spCk K F false) := ok_cbo D__check_body D__check_ask D__check_program D_is_tuple_of D__asked_kind D_is_whole D_is_answer B
  have M : ∀ b, Held P w K mg base 118 (F b) (spCk K F b) := fun b => match b with
    | true => ⟨dp, _, G__check_program.mono (by decide), D__check_program.kp, D__check_program.b⟩
    | false => ⟨db, _, G__check_body.mono (by decide), D__check_body.kp, D__check_body.b⟩
  refine D_is_program.ok c_is_program (fun vs H Q E h => ?_) (fun cdv A outer s H vs Q E hr h => ?_)
  · obtain ⟨kv, v, kd, d, rfl, _⟩ := h
    rfl
  obtain ⟨kv, v, kd, d, rfl, rk, hkd, rv, hdp, hsz, q⟩ := h
  have nd := c_is_program.nd
  refine ⟨_, (pss_cons (ps_set (i := 2) nd rfl (Or.inl rfl) (pe_lst (pa_cons (pe_tup (pa_cons (pe_glob rfl D__check_program.m (rel_ref _)) (pa_cons (pv 1) (pa_cons (pe_tup (pa_cons (pv 0) pa_nil)) pa_nil)))) pa_nil)))
  (pss_cons (ps_while PassesOwn.never (pt_truth (pv 2) (by intro _; rfl)) (pss_cons (ps_asg (pe_bm0 PySem.F.plainAttrs_list PySem.F.slot_list_pop PySem.F.type_list_pop mt_pop (pv 2)) (pg_tup rfl (pgs_cons (pg_name (i := 3) nd rfl (Or.inl rfl)) (pgs_cons (pg_name (i := 4) nd rfl (Or.inl rfl)) (pgs_cons (pg_name (i := 5) nd rfl (Or.inl rfl)) pgs_nil)))))
  (pss_cons (ps_set (i := 6) nd rfl (Or.inl rfl) (pe_callP (i := 3) M hr rfl (.inl rfl) (pa_cons (pv 4) (pa_cons (pv 5) pa_nil))))
  (pss_cons (ps_if (pt_cmpR op_isN (pv 6) pe_non (nomark _)) (pss_one (ps_ret pe_bl)) pss_nil)
  (pss_one (ps_expr (pe_bm PySem.F.plainAttrs_list PySem.F.slot_list_extend PySem.F.type_list_extend mt_extend (pv 2) (pa_cons (pv 6) pa_nil))))))))
  (pss_one (ps_ret pe_bl)))), ?_⟩
  refine ⟨_, rfl, _, rfl, (by show 1 ≤ sizeLine; decide), fun t1 n1 => ⟨(by show 3 ≤ sizeLine; decide), fun t2 n2 => ⟨(by show 1 ≤ sizeLine; decide), fun p np => ?_⟩⟩⟩
  have s1 := same_new n1 (.tup [kv])
  have s2 := same_new n2 (.tup [.ref (F true), v, .ref t1])
  have s3 := same_new np (.lst [.ref t2])
  have s23 := s2.trans s3
  have s13 := s1.trans s23
  have npH : H p = none := (s1.trans s2).free np
  obtain ⟨W, hW⟩ : ∃ W : Nat → L2.St → Hp → Prop, ∀ m σ H', W m σ H' ↔ (∃ (xs : List V) (ts : List Tk) (y3 y4 y5 y6 : Option V), σ = [some kv, some v, some (.ref p), y3, y4, y5, y6] ∧ Nw p H H' xs ∧ TksAt K F H' xs ts ∧ ts.all Tk.ok = isPr [] kd d ∧ m = szT ts ∧ szT ts ≤ 3000 ∧ ∀ t ∈ ts, t.n ≤ 3001) := ⟨_, fun _ _ _ => Iff.rfl⟩
  refine ⟨W, ⟨szT [⟨true, [kd], d⟩], (hW _ _ _).mpr ⟨[.ref t2], [⟨true, [kd], d⟩], none, none, none, none, rfl, ⟨s13, npH, upd_same⟩,
    .cons ⟨⟨t2, v, t1, rfl, s3 _ _ upd_same, rv.mono (kx_same s13), ⟨[kv], .inl (s23 _ _ upd_same), .one (rk.mono (kx_same s13)), fun k hk => ?_⟩⟩, fun _ e => by cases e⟩ .nil, ?_, rfl, ?_, fun t ht => ?_⟩⟩, ?_⟩
  · rw [List.mem_singleton.mp hk]
    exact hkd
  · show (isPr [] kd d && true) = _
    rw [Bool.and_true]
  · show sz d + 0 ≤ 3000
    omega
  · rw [List.mem_singleton.mp ht]
    show 1 + sz d ≤ 3001
    omega
  intro m σ H1 hw
  obtain ⟨xs, ts, y3, y4, y5, y6, rfl, hn, hxs, hall, rfl, hs, hbd⟩ := (hW _ _ _).mp hw
  refine ⟨_, rfl, _, .inl ⟨xs, SqL.of hn.h, rfl⟩, ?_⟩
  by_cases hx : xs = []
  · subst hx
    cases hxs
    refine iteF ?_
    rw [show isPr [] kd d = true from hall.symm] at q
    exact q H1 hn.s
  obtain ⟨ys, y, rfl⟩ : ∃ ys y, xs = ys ++ [y] := ⟨xs.dropLast, xs.getLast hx, (List.dropLast_concat_getLast hx).symm⟩
  obtain ⟨es, t, rfl, hes, ht⟩ := TksAt.snoc _ _ hxs
  have et : (!(ys ++ [y]).isEmpty) = true := by
    cases ys <;> rfl
  have hlast : (ys ++ [y])[(ys ++ [y]).length - 1]? = some y := by
    rw [List.length_append, List.length_singleton, Nat.add_sub_cancel, List.getElem?_append_right (Nat.le_refl _), Nat.sub_self]
    rfl
  rw [et]
  refine iteT ⟨fun σ' H' => ∃ m', m' < szT (es ++ [t]) ∧ W m' σ' H', fun _ _ h => h, ?_⟩
  rw [szT_append] at hs
  have hs' : szT es + (sz t.d + 0) ≤ 3000 := hs
  have hbt := hbd t (List.mem_append_right _ (List.mem_singleton.mpr rfl))
  rw [List.all_append] at hall
  have hall' : (es.all Tk.ok && (t.ok && true)) = isPr [] kd d := hall
  rw [Bool.and_true] at hall'
  refine ⟨_, rfl, .inl ⟨rfl, _, SqL.of hn.h⟩, p, _, y, rfl, rfl, hn.h, hlast, ?_⟩
  rw [List.dropLast_concat]
  have hn2 := hn.put ys
  have k2 : Kx H1 (upd H1 p (.lst ys)) := kx_list hn.h _
  have hes2 := hes.kx k2
  obtain ⟨⟨a, x, kt, rfl, ha, rx, hkt⟩, hne⟩ := ht.kx k2
  generalize upd H1 p (.lst ys) = H2 at *
  refine ⟨a, _, rfl, SqT.of ha, rfl, _, _, rfl, _, _, rfl, _, _, rfl, rfl, ?_⟩
  obtain ⟨pr, ks, e⟩ := t
  have hn' : ks.length + sz e ≤ 3001 := hbt
  have hs2 : szT es + (sz e + 0) ≤ 3000 := hs'
  refine ⟨pr, rfl, _, rfl, _, rfl, x, kt, ks, e, rfl, rx, hkt, hne, by omega, ⟨fun z H3 s3 => ?_, fun H3 p3 zs us s3 hp3 hzs eq hlt hbu => ?_⟩⟩
  · refine ⟨_, rfl, rfl, _, rfl, iteT ?_⟩
    rw [show isPr [] kd d = false by rw [← hall', z, Bool.and_false]] at q
    exact q H3 (hn2.s.trans s3)
  · have hl1 := hes2.len
    have hl2 := hzs.len
    have l3 := len_szT es
    have l4 := len_szT us
    refine ⟨_, rfl, rfl, _, rfl, iteF ⟨_, rfl, .inl ⟨rfl, _, SqL.of (s3 _ _ hn2.h)⟩, _, rfl, p, p3, ys, zs, rfl, rfl, s3 _ _ hn2.h, hp3, small6' (by omega), ?_⟩⟩
    have hn3 := (hn2.step s3).put (ys ++ zs)
    have k4 : Kx H3 (upd H3 p (.lst (ys ++ zs))) := kx_list (s3 _ _ hn2.h) _
    refine ⟨szT (es ++ us), ?_, (hW _ _ _).mpr ⟨_, es ++ us, _, _, _, _, rfl, hn3, ((hes2.kx (kx_same s3)).app hzs).kx k4, ?_, rfl, ?_, ?_⟩⟩
    · rw [szT_append, szT_append]
      show szT es + szT us < szT es + (sz e + 0)
      omega
    · rw [List.all_append, ← eq]
      exact hall'
    · rw [szT_append]
      omega
    · intro t ht
      rcases List.mem_append.mp ht with ht | ht
      · exact hbd t (List.mem_append_left _ ht)
      · exact Nat.le_trans (hbu t ht) hn'
theorem ok_isprog2 {fp fb f f1 f2 f3 f4 f5 : Addr} {fd dp db d1 d2 d3 d4 d5 : FuncData} (D_is_program : Df K mg "is_program" s_is_program ["kind", "value"] f fd) (D__check_body : Df K mg "_check_body" s__check_body ["value", "kinds"] fb db) (D__check_ask : Df K mg "_check_ask" s__check_ask ["value", "kinds"] f1 d1) (D__check_program : Df K mg "_check_program" s__check_program ["value", "kinds"] fp dp)
    (D_is_tuple_of : Df K mg "is_tuple_of" s_is_tuple_of ["value", "many"] f2 d2) (D__asked_kind : Df K mg "_asked_kind" s__asked_kind ["up", "k", "kinds"] f3 d3) (D_is_whole : Df K mg "is_whole" s_is_whole ["value"] f4 d4) (D_is_answer : Df K mg "is_answer" s_is_answer ["value"] f5 d5) (B : Bt mg) : FnOk P w K mg base CX0 119 f fd ["kind", "value"] (spIsProg K) :=
  ok_isprog (F := fun b => match b with | true => fp | false => fb) D_is_program D__check_body D__check_ask D__check_program D_is_tuple_of D__asked_kind D_is_whole D_is_answer B
end
end Pk

set_option maxRecDepth 100000
set_option maxHeartbeats 1000000
namespace Pk
open PySem PySem.Spec PyProof.Rows L2
section
variable {P : Program} {w : World} {K : PySem.W.Frag} {mg : Str → Option Value} {base : Heap}
/-! ### asks -/
theorem szs_toDs : ∀ (l : List T), (∀ t ∈ l, ∃ ks, wfB ks t = true ∧ ∀ k ∈ ks, Kq k) → szs (toDs l) ≤ 3 * l.length + 130 * nasksL l
  | [], _ => Nat.le_refl _
  | t :: r, h => by
    obtain ⟨ks, h1, h2⟩ := h t (List.mem_cons_self ..)
    have := (wfB_all t ks h1 h2).2.1
    have := szs_toDs r fun u hu => h u (List.mem_cons_of_mem _ hu)
    show sz (toD t) + szs (toDs r) ≤ 3 * (r.length + 1) + 130 * (nasks t + nasksL r)
    omega
/-- the body of a program -/
def bodyT : T → T
  | .prog _ b => b
  | t => t
def Wb (t : T) : Prop := ∃ ks, wfB ks t = true ∧ ∀ k ∈ ks, Kq k
theorem wfPs_bodies : ∀ (l : List T) (ks ds : List D), wfPs ks ds l = true → (∀ d ∈ ds, Kq d) → (∀ k ∈ ks, Kq k) → ∀ t ∈ l, ∃ m, t = .prog m (bodyT t) ∧ Wb (bodyT t)
  | [], _, _, _, _, _, t, h => by cases h
  | u :: r, ks, [], h, _, _, _, _ => by cases h
  | u :: r, ks, d :: ds, h, hd, hk, t, ht => by
    have h1 := Bool.and_eq_true_iff.mp (show (wfP ks d u && wfPs ks ds r) = true from h)
    rcases List.mem_cons.mp ht with e | ht
    · subst e
      cases t with
      | say _ => cases h1.1
      | stop => cases h1.1
      | ask _ _ _ _ _ => cases h1.1
      | prog m b =>
        have h2 := Bool.and_eq_true_iff.mp (show (decide (m = (args d).length) && wfB (d :: ks) b) = true from h1.1)
        exact ⟨m, rfl, d :: ks, h2.2, fun k hk' => (List.mem_cons.mp hk').elim (fun e => e ▸ hd d (List.mem_cons_self ..)) (hk k)⟩
    · exact wfPs_bodies r ks ds h1.2 (fun e he => hd e (List.mem_cons_of_mem _ he)) hk t ht
theorem nasks_bodies : ∀ (l : List T), (∀ t ∈ l, ∃ m, t = .prog m (bodyT t) ∧ Wb (bodyT t)) → nasksL (l.map bodyT) = nasksL l
  | [], _ => rfl
  | t :: r, h => by
    obtain ⟨m, e, _⟩ := h t (List.mem_cons_self ..)
    have := nasks_bodies r fun u hu => h u (List.mem_cons_of_mem _ hu)
    have e2 : nasks t = nasks (bodyT t) := by
      rw [e]
      rfl
    show nasks (bodyT t) + nasksL (r.map bodyT) = nasks t + nasksL r
    omega
theorem szs_bodies : ∀ (l : List T), szs (toDs (l.map bodyT)) ≤ szs (toDs l)
  | [] => Nat.le_refl _
  | t :: r => by
    have := szs_bodies r
    have e2 : sz (toD (bodyT t)) ≤ sz (toD t) := by
      cases t with
      | say _ => exact Nat.le_refl _
      | stop => exact Nat.le_refl _
      | ask _ _ _ _ _ => exact Nat.le_refl _
      | prog m b =>
        show sz (toD b) ≤ 1 + (1 + (sz (toD b) + 0)) + 1
        omega
    show sz (toD (bodyT t)) + szs (toDs (r.map bodyT)) ≤ sz (toD t) + szs (toDs r)
    omega
theorem toDs_get : ∀ (l : List T) (i : Nat) (d : D), (toDs l)[i]? = some d → ∃ t, l[i]? = some t ∧ d = toD t
  | [], i, d, h => by
    have : ([] : List D)[i]? = some d := h
    simp at this
  | t :: r, 0, d, h => ⟨t, rfl, (Option.some.inj h).symm⟩
  | t :: r, i + 1, d, h => toDs_get r i d h
theorem nasks_body_wf {ks : List D} {up k : Nat} {as : List T} {z o : T} (h : wfB ks (.ask up k as z o) = true) (hk : ∀ k ∈ ks, Kq k) : (∀ t ∈ as, ∃ m, t = .prog m (bodyT t) ∧ Wb (bodyT t)) ∧ wfB ks z = true ∧ wfB ks o = true := by
  have h' : ((match ks[up]? with
    | some kd => (match (args kd)[k]? with
      | some a => wfPs ks (args a) as
      | none => false)
    | none => false) && (wfB ks z && wfB ks o)) = true := h
  have h1 := Bool.and_eq_true_iff.mp h'
  have h2 := Bool.and_eq_true_iff.mp h1.2
  refine ⟨?_, h2.1, h2.2⟩
  cases hkd : ks[up]? with
  | none =>
    rw [hkd] at h1
    exact absurd h1.1 (by simp)
  | some kd =>
    rw [hkd] at h1
    have hw : (match (args kd)[k]? with
      | some a => wfPs ks (args a) as
      | none => false) = true := h1.1
    cases ha : (args kd)[k]? with
    | none =>
      rw [ha] at hw
      exact absurd hw (by simp)
    | some a =>
      rw [ha] at hw
      have qk : Kq kd := hk kd (List.mem_of_getElem? hkd)
      have qa : Kq a := qk.sub (List.mem_of_getElem? ha)
      exact wfPs_bodies as ks (args a) hw (fun d hd => qa.sub hd) hk
theorem ok_asksP {f : Addr} {fd : FuncData} (D_asks : Df K mg "asks" s_asks ["program"] f fd) (B : Bt mg) : FnOk P w K mg base CX0 119 f fd ["program"] (spAsksP K) := by
  refine FnOk.mono (j := 1) (D_asks.ok c_asks (fun vs H Q E h => ?_) (fun cdv A outer s H vs Q E hr h => ?_)) (by decide)
  · obtain ⟨v, kd, t, rfl, _⟩ := h
    rfl
  obtain ⟨v, kd, t, rfl, rv, hkd, hw, hn20, q⟩ := h
  have nd := c_asks.nd
  refine ⟨_, (pss_cons (ps_set (i := 1) nd rfl (Or.inl rfl) pe_int)
  (pss_cons (ps_set (i := 2) nd rfl (Or.inl rfl) (pe_lst (pa_cons (pe_ix ix_tup (pv 0) pe_int (fun _ _ => rfl)) pa_nil)))
  (pss_cons (ps_while PassesOwn.never (pt_truth (pv 2) (by intro _; rfl)) (pss_cons (ps_set (i := 3) nd rfl (Or.inl rfl) (pe_bm0 PySem.F.plainAttrs_list PySem.F.slot_list_pop PySem.F.type_list_pop mt_pop (pv 2)))
  (pss_one (ps_if (pt_cmpR op_eq (pe_ix ix_tup (pv 3) pe_int (fun _ _ => rfl)) pe_str (nomark _)) (pss_cons (ps_aug (i := 1) nd rfl (Or.inl rfl) pe_int ip_add)
  (pss_cons (ps_asg (pv 3) (pg_tup rfl (pgs_cons (pg_name (i := 4) nd rfl (Or.inl rfl)) (pgs_cons (pg_name (i := 4) nd rfl (Or.inl rfl)) (pgs_cons (pg_name (i := 4) nd rfl (Or.inl rfl)) (pgs_cons (pg_name (i := 5) nd rfl (Or.inl rfl)) (pgs_cons (pg_name (i := 6) nd rfl (Or.inl rfl)) (pgs_cons (pg_name (i := 7) nd rfl (Or.inl rfl)) pgs_nil))))))))
  (pss_cons (ps_expr (pe_bm PySem.F.plainAttrs_list PySem.F.slot_list_extend PySem.F.type_list_extend mt_extend (pv 2) (pa_cons (pe_lc (own := [("argument", 8)]) (g := (gName 8)) (tt := tYes) rfl nd (pi_tup (pv 5)) (blkOk_by (own := [("argument", 8)]) (N := ["program", "many", "pending", "body", "_", "arguments", "zero", "one", "argument"]) (sc := defScope s_asks) (by decide +kernel)) (fun _ _ _ _ _ => (pg_name (i := 8) nd rfl (Or.inl rfl))) (fun _ _ _ _ _ => pts_nil) (fun _ _ _ _ _ => (pe_ix (show IxR _ (rIxT K) from ix_tup) (pv 8) pe_int (fun _ _ => rfl)))) pa_nil)))
  (pss_one (ps_expr (pe_bm PySem.F.plainAttrs_list PySem.F.slot_list_extend PySem.F.type_list_extend mt_extend (pv 2) (pa_cons (pe_lst (pa_cons (pv 6) (pa_cons (pv 7) pa_nil))) pa_nil))))))) pss_nil))))
  (pss_one (ps_ret (pv 1)))))), ?_⟩
  cases t with
  | say _ => cases hw
  | stop => cases hw
  | ask _ _ _ _ _ => cases hw
  | prog m b =>
  have hw2 := (Bool.and_eq_true_iff.mp (show (decide (m = (args kd).length) && wfB [kd] b) = true from hw)).2
  have hkk : ∀ k ∈ [kd], Kq k := fun k hk => by
    rw [List.mem_singleton.mp hk]
    exact hkd
  have szb := (wfB_all b [kd] hw2 hkk).2.1
  have hn20' : nasks b ≤ 20 := hn20
  obtain ⟨a, xs, rfl, hx, rxs⟩ := Rep.inv (ts := [.at (.str "program"), .at (.int (m : Nat)), toD b]) rv
  cases rxs with
  | @cons w0 _ _ _ r0 rxs =>
  cases rxs with
  | @cons w1 _ _ _ r1 rxs =>
  cases rxs with
  | @cons w2 _ _ _ r2 rxs =>
  cases rxs
  refine ⟨_, rfl, a, _, 2, _, rfl, rfl, hx.sq, atI_nat (j := 2) rfl, (by show 1 ≤ sizeLine; decide), fun p np => ?_⟩
  have s1 := same_new np (.lst [w2])
  obtain ⟨W, hW⟩ : ∃ W : Nat → L2.St → Hp → Prop, ∀ m σ H', W m σ H' ↔ (∃ (xs : List V) (ts : List T) (c : Nat) (y3 y4 y5 y6 y7 y8 : Option V), σ = [some (.ref a), some (.int (c : Nat)), some (.ref p), y3, y4, y5, y6, y7, y8] ∧ Nw p H H' xs ∧ Reps K H' xs (toDs ts) ∧ (∀ t ∈ ts, Wb t) ∧ c + nasksL ts = nasks b ∧ m = szs (toDs ts) ∧ szs (toDs ts) ≤ 3000) := ⟨_, fun _ _ _ => Iff.rfl⟩
  refine ⟨W, ⟨szs (toDs [b]), (hW _ _ _).mpr ⟨[w2], [b], 0, none, none, none, none, none, none, rfl, ⟨s1, np, upd_same⟩, .one (r2.mono (kx_same s1)), fun t ht => ?_, ?_, rfl, ?_⟩⟩, ?_⟩
  · rw [List.mem_singleton.mp ht]
    exact ⟨[kd], hw2, hkk⟩
  · show 0 + (nasks b + 0) = nasks b
    omega
  · show sz (toD b) + 0 ≤ 3000
    omega
  intro m' σ H1 hw'
  obtain ⟨xs, ts, c, y3, y4, y5, y6, y7, y8, rfl, hn, hxs, hwb, hc, rfl, hs⟩ := (hW _ _ _).mp hw'
  refine ⟨_, rfl, _, .inl ⟨xs, SqL.of hn.h, rfl⟩, ?_⟩
  cases xs with
  | nil =>
    have e0 : ts = [] := by
      have := hxs.length
      rw [toDs_len] at this
      exact List.eq_nil_of_length_eq_zero this.symm
    subst e0
    have e1 : c = nasks b := by
      have : c + 0 = nasks b := hc
      omega
    refine iteF ⟨_, rfl, ?_⟩
    rw [e1]
    exact q H1 hn.s
  | cons x0 r0' =>
  refine iteT ⟨fun σ' H' => ∃ m', m' < szs (toDs ts) ∧ W m' σ' H', fun _ _ h => h, ?_⟩
  obtain ⟨y, e, es, hlast, hde, re, res⟩ := hxs.last (fun z => by cases z)
  obtain ⟨us, u, rfl⟩ : ∃ us u, ts = us ++ [u] := by
    have hne : ts ≠ [] := fun z => by
      rw [z] at hde
      have : ([] : List D) = es ++ [e] := hde
      simp at this
    exact ⟨ts.dropLast, ts.getLast hne, (List.dropLast_concat_getLast hne).symm⟩
  rw [toDs_append] at hde
  obtain ⟨rfl, he⟩ : toDs us = es ∧ toD u = e := by
    have := List.append_inj' hde rfl
    exact ⟨this.1, (List.cons.inj this.2).1⟩
  subst he
  rw [toDs_append, szs_append] at hs
  have hs' : szs (toDs us) + (sz (toD u) + 0) ≤ 3000 := hs
  rw [nasksL_append] at hc
  have hc' : c + (nasksL us + (nasks u + 0)) = nasks b := hc
  obtain ⟨ks, hu, hks⟩ := hwb u (List.mem_append_right _ (List.mem_singleton.mpr rfl))
  refine ⟨_, rfl, .inl ⟨rfl, _, SqL.of hn.h⟩, p, _, y, rfl, rfl, hn.h, hlast, ?_⟩
  have hn2 := hn.put (x0 :: r0').dropLast
  have k2 : Kx H1 (upd H1 p (.lst (x0 :: r0').dropLast)) := kx_list hn.h _
  have re2 := re.mono k2
  have res2 := res.mono k2
  have l2 := res2.length
  rw [toDs_len] at l2
  have lus := len_szs (toDs us)
  rw [toDs_len] at lus
  generalize upd H1 p (.lst (x0 :: r0').dropLast) = H2 at *
  generalize (x0 :: r0').dropLast = ys at *
  have done : nasks u = 0 → ∀ z3 : Option V, ∃ m', m' < szs (toDs (us ++ [u])) ∧ W m' [some (.ref a), some (.int (c : Nat)), some (.ref p), z3, y4, y5, y6, y7, y8] H2 := fun z z3 => by
    refine ⟨szs (toDs us), ?_, (hW _ _ _).mpr ⟨ys, us, c, z3, _, _, _, _, _, rfl, hn2, res2, fun t ht => hwb t (List.mem_append_left _ ht), by omega, rfl, by omega⟩⟩
    rw [toDs_append, szs_append]
    have := sz_pos (toD u)
    show szs (toDs us) < szs (toDs us) + (sz (toD u) + 0)
    omega
  cases u with
  | prog _ _ => cases hu
  | say x =>
    obtain ⟨b2, zs, rfl, hb, rb⟩ := Rep.inv (ts := [.at (.str "say"), .at (.int (x : Nat))]) re2
    cases rb with
    | cons q0 rb =>
    obtain ⟨rfl, _⟩ := q0.inva
    exact ⟨_, rfl, b2, _, 0, _, rfl, rfl, hb.sq, atI_nat (j := 0) rfl, rfl, _, rfl, iteF (done rfl _)⟩
  | stop =>
    obtain ⟨b2, zs, rfl, hb, rb⟩ := Rep.inv (ts := [.at (.str "stop")]) re2
    cases rb with
    | cons q0 rb =>
    obtain ⟨rfl, _⟩ := q0.inva
    exact ⟨_, rfl, b2, _, 0, _, rfl, rfl, hb.sq, atI_nat (j := 0) rfl, rfl, _, rfl, iteF (done rfl _)⟩
  | ask up k as zz oo =>
    obtain ⟨hwas, hwz, hwo⟩ := nasks_body_wf hu hks
    obtain ⟨b2, zs, rfl, hb, rb⟩ := Rep.inv (ts := [.at (.str "ask"), .at (.int (up : Nat)), .at (.int (k : Nat)), .tup (toDs as), toD zz, toD oo]) re2
    cases rb with
    | @cons v0 _ _ _ q0 rb =>
    cases rb with
    | @cons v1 _ _ _ q1 rb =>
    cases rb with
    | @cons v2 _ _ _ q2 rb =>
    cases rb with
    | @cons v3 _ _ _ q3 rb =>
    cases rb with
    | @cons v4 _ _ _ q4 rb =>
    cases rb with
    | @cons v5 _ _ _ q5 rb =>
    cases rb
    obtain ⟨rfl, _⟩ := q0.inva
    refine ⟨_, rfl, b2, _, 0, _, rfl, rfl, hb.sq, atI_nat (j := 0) rfl, rfl, _, rfl, iteT ⟨_, rfl, _, _, rfl, rfl, ?_⟩⟩
    refine ⟨_, rfl, b2, _, rfl, hb.sq, rfl, _, _, rfl, _, _, rfl, _, _, rfl, _, _, rfl, _, _, rfl, _, _, rfl, rfl, ?_⟩
    obtain ⟨a3, xs3, rfl, hx3, rx3⟩ := q3.inv
    have l3 := rx3.length
    rw [toDs_len] at l3
    have las := len_szs (toDs as)
    rw [toDs_len] at las
    have hs2 : szs (toDs us) + (1 + (1 + (1 + (szs (toDs as) + 1 + (sz (toD zz) + (sz (toD oo) + 0))))) + 1 + 0) ≤ 3000 := hs'
    refine ⟨_, rfl, .inl ⟨rfl, _, SqL.of hn2.h⟩, _, rfl, a3, rfl, ⟨_, hx3.sq⟩, fun l nl => ?_⟩
    refine lc_tup (K := K) (a := a3) (xs := xs3) (fun i H' => Same H2 H' ∧ ∃ acc, H' l = some (.lst acc) ∧ Reps K H' acc (toDs ((as.take i).map bodyT)))
      ⟨same_new nl _, [], upd_same, .nil⟩ (fun i H' _ h => (hx3.same h.1).sq) ?_ ?_
    · rintro i x H3 hi ⟨s3, acc, hl3, racc⟩
      obtain ⟨dd, hdd, rdd⟩ := rx3.get hi
      obtain ⟨t, ht, rfl⟩ := toDs_get as i dd hdd
      obtain ⟨mt, et, hwt⟩ := hwas t (List.mem_of_getElem? ht)
      have lacc := racc.length
      rw [toDs_len, List.length_map, List.length_take] at lacc
      rw [et] at rdd
      obtain ⟨a4, xs4, rfl, hx4, rx4⟩ := Rep.inv (ts := [.at (.str "program"), .at (.int (mt : Nat)), toD (bodyT t)]) rdd
      obtain ⟨w4, hw4, rw4⟩ := rx4.getD (i := 2) rfl
      refine ⟨rfl, yes_go ⟨_, rfl, a4, _, 2, w4, rfl, rfl, (hx4.same s3).sq, atI_nat (j := 2) hw4, acc, hl3, small6 (by omega), fun z o' e => ?_, acc ++ [w4], upd_same, ?_⟩⟩
      · rw [upd_ne (ne_of_none e nl)]
        exact s3 _ _ e
      · have kl := kx_list hl3 (acc ++ [w4])
        have e3 : toDs ((as.take (i + 1)).map bodyT) = toDs ((as.take i).map bodyT) ++ [toD (bodyT t)] := by
          rw [List.take_add_one, ht, List.map_append, toDs_append]
          rfl
        rw [e3]
        exact (racc.mono kl).append (.one ((rw4.mono (kx_same s3)).mono kl))
    · rintro H3 ⟨s3, acc, hl3, racc⟩
      rw [l3, List.take_length] at racc
      have lacc := racc.length
      rw [toDs_len, List.length_map] at lacc
      refine ⟨p, l, _, acc, rfl, rfl, s3 _ _ hn2.h, hl3, small6' (by omega), ?_⟩
      have hn3 := (hn2.step s3).put (ys ++ acc)
      have k3 := (kx_same s3).trans (kx_list (s3 _ _ hn2.h) (ys ++ acc))
      have k3' := kx_list (s3 _ _ hn2.h) (ys ++ acc)
      have res3 := (res2.mono k3).append (racc.mono k3')
      have rz3 := q4.mono k3
      have ro3 := q5.mono k3
      clear hl3 racc k3 k3' res2 q4 q5
      generalize upd H3 p (.lst (ys ++ acc)) = H4 at *
      refine ⟨_, rfl, .inl ⟨rfl, _, SqL.of hn3.h⟩, _, rfl, _, rfl, (by show 2 ≤ sizeLine; decide), fun l5 n5 => ?_⟩
      have s5 := same_new n5 (.lst [v4, v5])
      refine ⟨p, l5, _, _, rfl, rfl, s5 _ _ hn3.h, upd_same, small6' (by rw [List.length_append]; show ys.length + acc.length + 2 ≤ 1000000; omega), ?_⟩
      have hn4 := (hn3.step s5).put (ys ++ acc ++ [v4, v5])
      have k5 := (kx_same s5).trans (kx_list (s5 _ _ hn3.h) (ys ++ acc ++ [v4, v5]))
      have hb2 := nasks_bodies as hwas
      have hsb := szs_bodies as
      refine ⟨szs (toDs (us ++ as.map bodyT ++ [zz, oo])), ?_, (hW _ _ _).mpr ⟨_, us ++ as.map bodyT ++ [zz, oo], c + 1, _, _, _, _, _, _, rfl, hn4, ?_, ?_, ?_, rfl, ?_⟩⟩
      · rw [toDs_append, toDs_append, toDs_append, szs_append, szs_append, szs_append]
        show szs (toDs us) + szs (toDs (as.map bodyT)) + (sz (toD zz) + (sz (toD oo) + 0)) < szs (toDs us) + (1 + (1 + (1 + (szs (toDs as) + 1 + (sz (toD zz) + (sz (toD oo) + 0))))) + 1 + 0)
        omega
      · rw [toDs_append, toDs_append]
        exact (res3.mono k5).append (.cons (rz3.mono k5) (.one (ro3.mono k5)))
      · intro t ht
        rcases List.mem_append.mp ht with ht | ht
        · rcases List.mem_append.mp ht with ht | ht
          · exact hwb t (List.mem_append_left _ ht)
          · obtain ⟨t2, ht2, rfl⟩ := List.mem_map.mp ht
            obtain ⟨_, _, hwb2⟩ := hwas t2 ht2
            exact hwb2
        · simp only [List.mem_cons, List.not_mem_nil, or_false] at ht
          rcases ht with rfl | rfl
          · exact ⟨ks, hwz, hks⟩
          · exact ⟨ks, hwo, hks⟩
      · rw [nasksL_append, nasksL_append, hb2]
        have : nasks (.ask up k as zz oo) = 1 + (nasksL as + (nasks zz + nasks oo)) := rfl
        show c + 1 + (nasksL us + nasksL as + (nasks zz + (nasks oo + 0))) = nasks b
        omega
      · rw [toDs_append, toDs_append, szs_append, szs_append]
        show szs (toDs us) + szs (toDs (as.map bodyT)) + (sz (toD zz) + (sz (toD oo) + 0)) ≤ 3000
        omega
end
end Pk

namespace Pk
open PySem PySem.Spec PyProof.Rows L2
set_option maxHeartbeats 0

def d_is_whole : He.DefD := ⟨("is_whole", none), "is_whole", "is_whole", defArgs s_is_whole, defBody s_is_whole, defScope s_is_whole, [], []⟩
def d_is_answer : He.DefD := ⟨("is_answer", none), "is_answer", "is_answer", defArgs s_is_answer, defBody s_is_answer, defScope s_is_answer, [], []⟩
def d_is_tuple_of : He.DefD := ⟨("is_tuple_of", none), "is_tuple_of", "is_tuple_of", defArgs s_is_tuple_of, defBody s_is_tuple_of, defScope s_is_tuple_of, [], []⟩
def d__check_program : He.DefD := ⟨("_check_program", none), "_check_program", "_check_program", defArgs s__check_program, defBody s__check_program, defScope s__check_program, [], []⟩
def d__check_body : He.DefD := ⟨("_check_body", none), "_check_body", "_check_body", defArgs s__check_body, defBody s__check_body, defScope s__check_body, [], []⟩
def d__check_ask : He.DefD := ⟨("_check_ask", none), "_check_ask", "_check_ask", defArgs s__check_ask, defBody s__check_ask, defScope s__check_ask, [], []⟩
def d__asked_kind : He.DefD := ⟨("_asked_kind", none), "_asked_kind", "_asked_kind", defArgs s__asked_kind, defBody s__asked_kind, defScope s__asked_kind, [], []⟩
def d_is_program : He.DefD := ⟨("is_program", none), "is_program", "is_program", defArgs s_is_program, defBody s_is_program, defScope s_is_program, [], []⟩
def d_asks : He.DefD := ⟨("asks", none), "asks", "asks", defArgs s_asks, defBody s_asks, defScope s_asks, [], []⟩
def d__law_cell : He.DefD := ⟨("_law_cell", none), "_law_cell", "_law_cell", defArgs s__law_cell, defBody s__law_cell, defScope s__law_cell, [], []⟩
def d__law_digits : He.DefD := ⟨("_law_digits", none), "_law_digits", "_law_digits", defArgs s__law_digits, defBody s__law_digits, defScope s__law_digits, [], []⟩
def d__law_draw : He.DefD := ⟨("_law_draw", none), "_law_draw", "_law_draw", defArgs s__law_draw, defBody s__law_draw, defScope s__law_draw, [], []⟩
def d__law_box : He.DefD := ⟨("_law_box", none), "_law_box", "_law_box", defArgs s__law_box, defBody s__law_box, defScope s__law_box, [], []⟩
def d__law_same : He.DefD := ⟨("_law_same", none), "_law_same", "_law_same", defArgs s__law_same, defBody s__law_same, defScope s__law_same, [], []⟩
def d__law_kind : He.DefD := ⟨("_law_kind", none), "_law_kind", "_law_kind", defArgs s__law_kind, defBody s__law_kind, defScope s__law_kind, [], []⟩
def d__law_body : He.DefD := ⟨("_law_body", none), "_law_body", "_law_body", defArgs s__law_body, defBody s__law_body, defScope s__law_body, [], []⟩
def d__law_program : He.DefD := ⟨("_law_program", none), "_law_program", "_law_program", defArgs s__law_program, defBody s__law_program, defScope s__law_program, [], []⟩
def d__law_is_whole : He.DefD := ⟨("_law_is_whole", none), "_law_is_whole", "_law_is_whole", defArgs s__law_is_whole, defBody s__law_is_whole, defScope s__law_is_whole, [], []⟩
def d__law_is_program : He.DefD := ⟨("_law_is_program", none), "_law_is_program", "_law_is_program", defArgs s__law_is_program, defBody s__law_is_program, defScope s__law_is_program, [], []⟩
def d__law_is_body : He.DefD := ⟨("_law_is_body", none), "_law_is_body", "_law_is_body", defArgs s__law_is_body, defBody s__law_is_body, defScope s__law_is_body, [], []⟩
def d__law_is_ask : He.DefD := ⟨("_law_is_ask", none), "_law_is_ask", "_law_is_ask", defArgs s__law_is_ask, defBody s__law_is_ask, defScope s__law_is_ask, [], []⟩
def d__law_asks_of : He.DefD := ⟨("_law_asks_of", none), "_law_asks_of", "_law_asks_of", defArgs s__law_asks_of, defBody s__law_asks_of, defScope s__law_asks_of, [], []⟩
def d__law_other_value : He.DefD := ⟨("_law_other_value", none), "_law_other_value", "_law_other_value", defArgs s__law_other_value, defBody s__law_other_value, defScope s__law_other_value, [], []⟩
def d__law_nudged : He.DefD := ⟨("_law_nudged", none), "_law_nudged", "_law_nudged", defArgs s__law_nudged, defBody s__law_nudged, defScope s__law_nudged, [], []⟩
def d_law : He.DefD := ⟨("law", none), "law", "law", defArgs s_law, defBody s_law, defScope s_law, [], []⟩
def fn : List He.DefD := [d_is_whole, d_is_answer, d_is_tuple_of, d__check_program, d__check_body, d__check_ask, d__asked_kind, d_is_program, d_asks, d__law_cell, d__law_digits, d__law_draw, d__law_box, d__law_same, d__law_kind, d__law_body, d__law_program, d__law_is_whole, d__law_is_program, d__law_is_body, d__law_is_ask, d__law_asks_of, d__law_other_value, d__law_nudged, d_law]
def fa : List He.Fa := [.glo "is_whole", .glo "is_answer", .glo "is_tuple_of", .glo "_check_program", .glo "_check_body", .glo "_check_ask", .glo "_asked_kind", .glo "is_program", .glo "asks", .glo "_law_cell", .glo "_law_digits", .glo "_law_draw", .glo "_law_box", .glo "_law_same", .glo "_law_kind", .glo "_law_body", .glo "_law_program", .glo "_law_is_whole", .glo "_law_is_program", .glo "_law_is_body", .glo "_law_is_ask", .glo "_law_asks_of", .glo "_law_other_value", .glo "_law_nudged", .glo "law", .free "isinstance", .free "int", .free "bool", .free "tuple", .free "len", .free "zip", .free "range", .free "str", .free "sum", .free "list"]
abbrev R : PySem.W.OpenRow := PySem.W.OpenLaw.row PySem.Challenge.rw_playsense_k10_what_is_a_program
abbrev hk : PySem.W.Hook := He.hookD 4 fa fn
def ob (s : PySem.W.SharedT) : He.AlD := He.obsDG 4 fa fn (HandSHeadRun.getT s)
theorem ob_eq (s : PySem.W.SharedT) : ob s = hk.obs s.abs := He.obsDG_eq (HandSHeadRun.getT_eq s)
def names0 : List PySem.Str := ["__name__", "is_whole", "is_answer", "is_tuple_of", "_check_program", "_check_body", "_check_ask", "_asked_kind", "is_program", "asks", "_law_cell", "_law_digits", "_law_draw", "_law_box", "_law_same", "_law_kind", "_law_body", "_law_program", "_law_is_whole", "_law_is_program", "_law_is_body", "_law_is_ask", "_law_asks_of", "_law_other_value", "_law_nudged"]
abbrev names : List PySem.Str := names0
theorem run (w : World) : HandSHeadRun.RunEq R (PySem.W.view R.prog [27]) hk ob 4000 names w := by
  intro os
  kernel_rfl

theorem facts {P : Program} {w : World} {K : PySem.W.Frag} {h : Heap} {mg : Str → Option Value} {f : Addr} (X : K.In h) (G : h.Ns mainGlobals mg) (hfa : mg ("law" : Str) = some (.ref f)) (c : He.SaysD fa fn K) :
    ∃ fd : FuncData, (∀ (s : Shared) (v : Value), BindsTo s fd ⟨[v], []⟩ [("script", v)]) ∧ ∀ base : Heap, K.In base → base.Ns mainGlobals mg → FnOk P w K mg base CX0 121 f fd ["script"] (spLaw K) := by
  obtain ⟨fd_is_whole, F_is_whole⟩ := c.def_ 0 (d := d_is_whole) rfl
  have D_is_whole : Df K mg "is_whole" s_is_whole ["value"] _ fd_is_whole := ⟨F_is_whole, F_is_whole.bindsN fun _ _ _ _ _ _ us hl => match us, hl with | [_], _ => rfl, He.glo_ok X G (c.fact 0 (f := .glo "is_whole") rfl)⟩
  obtain ⟨fd_is_answer, F_is_answer⟩ := c.def_ 1 (d := d_is_answer) rfl
  have D_is_answer : Df K mg "is_answer" s_is_answer ["value"] _ fd_is_answer := ⟨F_is_answer, F_is_answer.bindsN fun _ _ _ _ _ _ us hl => match us, hl with | [_], _ => rfl, He.glo_ok X G (c.fact 1 (f := .glo "is_answer") rfl)⟩
  obtain ⟨fd_is_tuple_of, F_is_tuple_of⟩ := c.def_ 2 (d := d_is_tuple_of) rfl
  have D_is_tuple_of : Df K mg "is_tuple_of" s_is_tuple_of ["value", "many"] _ fd_is_tuple_of := ⟨F_is_tuple_of, F_is_tuple_of.bindsN fun _ _ _ _ _ _ us hl => match us, hl with | [_, _], _ => rfl, He.glo_ok X G (c.fact 2 (f := .glo "is_tuple_of") rfl)⟩
  obtain ⟨fd__check_program, F__check_program⟩ := c.def_ 3 (d := d__check_program) rfl
  have D__check_program : Df K mg "_check_program" s__check_program ["value", "kinds"] _ fd__check_program := ⟨F__check_program, F__check_program.bindsN fun _ _ _ _ _ _ us hl => match us, hl with | [_, _], _ => rfl, He.glo_ok X G (c.fact 3 (f := .glo "_check_program") rfl)⟩
  obtain ⟨fd__check_body, F__check_body⟩ := c.def_ 4 (d := d__check_body) rfl
  have D__check_body : Df K mg "_check_body" s__check_body ["value", "kinds"] _ fd__check_body := ⟨F__check_body, F__check_body.bindsN fun _ _ _ _ _ _ us hl => match us, hl with | [_, _], _ => rfl, He.glo_ok X G (c.fact 4 (f := .glo "_check_body") rfl)⟩
  obtain ⟨fd__check_ask, F__check_ask⟩ := c.def_ 5 (d := d__check_ask) rfl
  have D__check_ask : Df K mg "_check_ask" s__check_ask ["value", "kinds"] _ fd__check_ask := ⟨F__check_ask, F__check_ask.bindsN fun _ _ _ _ _ _ us hl => match us, hl with | [_, _], _ => rfl, He.glo_ok X G (c.fact 5 (f := .glo "_check_ask") rfl)⟩
  obtain ⟨fd__asked_kind, F__asked_kind⟩ := c.def_ 6 (d := d__asked_kind) rfl
  have D__asked_kind : Df K mg "_asked_kind" s__asked_kind ["up", "k", "kinds"] _ fd__asked_kind := ⟨F__asked_kind, F__asked_kind.bindsN fun _ _ _ _ _ _ us hl => match us, hl with | [_, _, _], _ => rfl, He.glo_ok X G (c.fact 6 (f := .glo "_asked_kind") rfl)⟩
  obtain ⟨fd_is_program, F_is_program⟩ := c.def_ 7 (d := d_is_program) rfl
  have D_is_program : Df K mg "is_program" s_is_program ["kind", "value"] _ fd_is_program := ⟨F_is_program, F_is_program.bindsN fun _ _ _ _ _ _ us hl => match us, hl with | [_, _], _ => rfl, He.glo_ok X G (c.fact 7 (f := .glo "is_program") rfl)⟩
  obtain ⟨fd_asks, F_asks⟩ := c.def_ 8 (d := d_asks) rfl
  have D_asks : Df K mg "asks" s_asks ["program"] _ fd_asks := ⟨F_asks, F_asks.bindsN fun _ _ _ _ _ _ us hl => match us, hl with | [_], _ => rfl, He.glo_ok X G (c.fact 8 (f := .glo "asks") rfl)⟩
  obtain ⟨fd__law_cell, F__law_cell⟩ := c.def_ 9 (d := d__law_cell) rfl
  have D__law_cell : Df K mg "_law_cell" s__law_cell ["script", "k"] _ fd__law_cell := ⟨F__law_cell, F__law_cell.bindsN fun _ _ _ _ _ _ us hl => match us, hl with | [_, _], _ => rfl, He.glo_ok X G (c.fact 9 (f := .glo "_law_cell") rfl)⟩
  obtain ⟨fd__law_digits, F__law_digits⟩ := c.def_ 10 (d := d__law_digits) rfl
  have D__law_digits : Df K mg "_law_digits" s__law_digits ["script", "first", "last"] _ fd__law_digits := ⟨F__law_digits, F__law_digits.bindsN fun _ _ _ _ _ _ us hl => match us, hl with | [_, _, _], _ => rfl, He.glo_ok X G (c.fact 10 (f := .glo "_law_digits") rfl)⟩
  obtain ⟨fd__law_draw, F__law_draw⟩ := c.def_ 11 (d := d__law_draw) rfl
  have D__law_draw : Df K mg "_law_draw" s__law_draw ["box", "many"] _ fd__law_draw := ⟨F__law_draw, F__law_draw.bindsN fun _ _ _ _ _ _ us hl => match us, hl with | [_, _], _ => rfl, He.glo_ok X G (c.fact 11 (f := .glo "_law_draw") rfl)⟩
  obtain ⟨fd__law_box, F__law_box⟩ := c.def_ 12 (d := d__law_box) rfl
  have D__law_box : Df K mg "_law_box" s__law_box ["script", "first", "last"] _ fd__law_box := ⟨F__law_box, F__law_box.bindsN fun _ _ _ _ _ _ us hl => match us, hl with | [_, _, _], _ => rfl, He.glo_ok X G (c.fact 12 (f := .glo "_law_box") rfl)⟩
  obtain ⟨fd__law_same, F__law_same⟩ := c.def_ 13 (d := d__law_same) rfl
  have D__law_same : Df K mg "_law_same" s__law_same ["actual", "expected"] _ fd__law_same := ⟨F__law_same, F__law_same.bindsN fun _ _ _ _ _ _ us hl => match us, hl with | [_, _], _ => rfl, He.glo_ok X G (c.fact 13 (f := .glo "_law_same") rfl)⟩
  obtain ⟨fd__law_kind, F__law_kind⟩ := c.def_ 14 (d := d__law_kind) rfl
  have D__law_kind : Df K mg "_law_kind" s__law_kind ["box", "depth", "budget"] _ fd__law_kind := ⟨F__law_kind, F__law_kind.bindsN fun _ _ _ _ _ _ us hl => match us, hl with | [_, _, _], _ => rfl, He.glo_ok X G (c.fact 14 (f := .glo "_law_kind") rfl)⟩
  obtain ⟨fd__law_body, F__law_body⟩ := c.def_ 15 (d := d__law_body) rfl
  have D__law_body : Df K mg "_law_body" s__law_body ["box", "kinds", "budget"] _ fd__law_body := ⟨F__law_body, F__law_body.bindsN fun _ _ _ _ _ _ us hl => match us, hl with | [_, _, _], _ => rfl, He.glo_ok X G (c.fact 15 (f := .glo "_law_body") rfl)⟩
  obtain ⟨fd__law_program, F__law_program⟩ := c.def_ 16 (d := d__law_program) rfl
  have D__law_program : Df K mg "_law_program" s__law_program ["box", "kind", "most"] _ fd__law_program := ⟨F__law_program, F__law_program.bindsN fun _ _ _ _ _ _ us hl => match us, hl with | [_, _, _], _ => rfl, He.glo_ok X G (c.fact 16 (f := .glo "_law_program") rfl)⟩
  obtain ⟨fd__law_is_whole, F__law_is_whole⟩ := c.def_ 17 (d := d__law_is_whole) rfl
  have D__law_is_whole : Df K mg "_law_is_whole" s__law_is_whole ["value", "most"] _ fd__law_is_whole := ⟨F__law_is_whole, F__law_is_whole.bindsN fun _ _ _ _ _ _ us hl => match us, hl with | [_, _], _ => rfl, He.glo_ok X G (c.fact 17 (f := .glo "_law_is_whole") rfl)⟩
  obtain ⟨fd__law_is_program, F__law_is_program⟩ := c.def_ 18 (d := d__law_is_program) rfl
  have D__law_is_program : Df K mg "_law_is_program" s__law_is_program ["kinds", "value"] _ fd__law_is_program := ⟨F__law_is_program, F__law_is_program.bindsN fun _ _ _ _ _ _ us hl => match us, hl with | [_, _], _ => rfl, He.glo_ok X G (c.fact 18 (f := .glo "_law_is_program") rfl)⟩
  obtain ⟨fd__law_is_body, F__law_is_body⟩ := c.def_ 19 (d := d__law_is_body) rfl
  have D__law_is_body : Df K mg "_law_is_body" s__law_is_body ["kinds", "value"] _ fd__law_is_body := ⟨F__law_is_body, F__law_is_body.bindsN fun _ _ _ _ _ _ us hl => match us, hl with | [_, _], _ => rfl, He.glo_ok X G (c.fact 19 (f := .glo "_law_is_body") rfl)⟩
  obtain ⟨fd__law_is_ask, F__law_is_ask⟩ := c.def_ 20 (d := d__law_is_ask) rfl
  have D__law_is_ask : Df K mg "_law_is_ask" s__law_is_ask ["kinds", "value"] _ fd__law_is_ask := ⟨F__law_is_ask, F__law_is_ask.bindsN fun _ _ _ _ _ _ us hl => match us, hl with | [_, _], _ => rfl, He.glo_ok X G (c.fact 20 (f := .glo "_law_is_ask") rfl)⟩
  obtain ⟨fd__law_asks_of, F__law_asks_of⟩ := c.def_ 21 (d := d__law_asks_of) rfl
  have D__law_asks_of : Df K mg "_law_asks_of" s__law_asks_of ["value"] _ fd__law_asks_of := ⟨F__law_asks_of, F__law_asks_of.bindsN fun _ _ _ _ _ _ us hl => match us, hl with | [_], _ => rfl, He.glo_ok X G (c.fact 21 (f := .glo "_law_asks_of") rfl)⟩
  obtain ⟨fd__law_other_value, F__law_other_value⟩ := c.def_ 22 (d := d__law_other_value) rfl
  have D__law_other_value : Df K mg "_law_other_value" s__law_other_value ["box", "value"] _ fd__law_other_value := ⟨F__law_other_value, F__law_other_value.bindsN fun _ _ _ _ _ _ us hl => match us, hl with | [_, _], _ => rfl, He.glo_ok X G (c.fact 22 (f := .glo "_law_other_value") rfl)⟩
  obtain ⟨fd__law_nudged, F__law_nudged⟩ := c.def_ 23 (d := d__law_nudged) rfl
  have D__law_nudged : Df K mg "_law_nudged" s__law_nudged ["box", "value"] _ fd__law_nudged := ⟨F__law_nudged, F__law_nudged.bindsN fun _ _ _ _ _ _ us hl => match us, hl with | [_, _], _ => rfl, He.glo_ok X G (c.fact 23 (f := .glo "_law_nudged") rfl)⟩
  obtain ⟨fd_law, F_law⟩ := c.def_ 24 (d := d_law) rfl
  have e := hfa.symm.trans (He.glo_ok X G (c.fact 24 (f := .glo "law") rfl))
  cases e
  have D_law : Df K mg "law" s_law ["script"] _ fd_law := ⟨F_law, F_law.bindsN fun _ _ _ _ _ _ us hl => match us, hl with | [_], _ => rfl, hfa⟩
  have B : Bt mg := ⟨He.free_ok X G (c.fact 25 (f := .free "isinstance") rfl), He.free_ok X G (c.fact 26 (f := .free "int") rfl), He.free_ok X G (c.fact 27 (f := .free "bool") rfl), He.free_ok X G (c.fact 28 (f := .free "tuple") rfl), He.free_ok X G (c.fact 29 (f := .free "len") rfl), He.free_ok X G (c.fact 30 (f := .free "zip") rfl), He.free_ok X G (c.fact 31 (f := .free "range") rfl), He.free_ok X G (c.fact 32 (f := .free "str") rfl), He.free_ok X G (c.fact 33 (f := .free "sum") rfl), He.free_ok X G (c.fact 34 (f := .free "list") rfl)⟩
  have b := FunD.bindsA (ps := ["script"]) F_law fun _ _ _ _ _ _ us hl => match us, hl with | [_], _ => rfl
  exact ⟨fd_law, fun s v => b s [v] rfl, fun base _ _ => ok_law D_law B D_is_program D_asks (ok_isprog2 D_is_program D__check_body D__check_ask D__check_program D_is_tuple_of D__asked_kind D_is_whole D_is_answer B) (ok_asksP D_asks B) D__law_cell D__law_digits D__law_draw D__law_box D__law_same D__law_kind D__law_body D__law_program D__law_is_whole D__law_is_program D__law_is_body D__law_is_ask D__law_asks_of D__law_other_value D__law_nudged⟩
end Pk
open PySem PySem.W PySem.Calls PyProof.Rows
set_option maxHeartbeats 0
theorem PySem.Challenge.cw_playsense_k10_what_is_a_program_holds : PySem.Challenge.rw_playsense_k10_what_is_a_program.Holds := by
  w_on; o_law
  refine HandSHeadRun.head_any (r := OpenLaw.row PySem.Challenge.rw_playsense_k10_what_is_a_program) (q := view (OpenLaw.row PySem.Challenge.rw_playsense_k10_what_is_a_program).prog [27]) (H := Pk.hk) (ob := Pk.ob) (M := 4000) (loose := Pk.names) (d := HandSHeadRun.topDef (OpenLaw.row PySem.Challenge.rw_playsense_k10_what_is_a_program).prog 27) (kwd := []) Pk.ob_eq
    (by kernel_rfl) (fun s => by kernel_rfl) Pk.run (by kernel_rfl) (by kernel_rfl) (by kernel_rfl) (by rfl) (by first | assumption | decide +kernel) (by decide +kernel) ⟨rfl, rfl, rfl, rfl, rfl, by decide +kernel⟩ ?hw ?hc
  case hw => w_witness2
  case hc =>
    refine L2.walk_ofE (l := PySem.Challenge.rw_playsense_k10_what_is_a_program) (n := 63) (k := 121) (x := "script") (CX := L2.CX0) rfl (by decide) (by kernel_rfl) ⟨rfl, by decide, by decide⟩ ?F (fun _ _ _ _ z => z)
    intro w mg fa h Y G hmg0
    obtain ⟨K, KX, c⟩ := Y
    have hmg : mg ("law" : PySem.Str) = some (.ref fa) := by
      have e : (HandSHeadRun.topDef (OpenLaw.row PySem.Challenge.rw_playsense_k10_what_is_a_program).prog 27).name = ("law" : PySem.Str) := by kernel_rfl
      rw [← e]
      exact hmg0
    obtain ⟨fd, hb, hF⟩ := Pk.facts (P := (PySem.Challenge.rw_playsense_k10_what_is_a_program).prog) (w := w) KX G hmg c
    exact ⟨K, fd, Pk.spLaw K, KX, hb, fun H a ns hl _ hS => ⟨a, ns, rfl, hS, hl, fun _ => rfl⟩, hF⟩
