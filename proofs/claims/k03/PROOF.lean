import PyProof.Rows.All
import Wide.All
import OpenK.AllK
import Wide.FinOn
import PyProof.EqAt
import PyProof.EqKinds
import PyProof.TupleCall
import HandS.ForMost
import HandS.TupAny
import HandS.TupMul
import HandS.TupLe
import HandS.IsInst
import KE.GoesMore
import KE.KRevSl
import KE.LtSeq
import KE.LtData
import KE.SortCalls
import KE.SortData
import KE.DataEq
import KE.KeyNested
import KE.KDictKeyed
import KE.KDictWalk
import KE.KDictList
import KE.KDictSum
import HandS.ExcInit
import HandS.Nested
import KE.KExcSuper
import KE.KSuper
import HandS.FStrTup
import HandS.Exc
import HandS.ExcOwn
import HandS.ExcIs
import HandS.RaiseMore
import HandS.ExcField
import KE.KExcIs
import HandS.Flow
import HandS.Dict
import HandS.FStr
import HandS.WordsDict
import HandS.Walk
import HandS.Iter
import KE.KStateDown
import HandS.Base
import HandS.Call
import HandS.Ends
import HandS.More
import HandS.Words
import HandS.WordsExc
import HandS.Defaults
import HandS.Head0
import HandS.Head1
import HandS.Head2
import HandS.HeadEnd
import HandS.HeadHook1
import HandS.HeadHook2
import HandS.HeadHook3
import HandS.HeadHook4
import HandS.EndTab
import PySem.Challenge.RW_playsense_k03_kinds_of_terms
set_option Elab.async false
set_option linter.all false
set_option maxRecDepth 100000
set_option maxHeartbeats 4000000
/-! Rules of our own: list.extend of a tuple, xs[::-1], enumerate of a tuple, () * k. -/
namespace Pk
open PySem PySem.Spec PyProof.Rows L2

/-! ### list.extend(tuple) -/
theorem list_extend_tupW (l : Addr) (items : Array Value) (n : Nat) (b : Addr) (items2 : Array Value) (n2 : Nat) (dd : Option Addr) (sl : Array (Option Value))
    (hs0 : ¬(!items.isEmpty && Builtin.List.listTooLong (items.size + items2.size)) = true) (hs1 : items.size ≤ sizeLine) (hs2 : items.size + items2.size ≤ sizeLine + 1) :
    Meets (Builtin.«list.extend» ⟨[.ref l, .ref b], []⟩) (fun _ R s => s.heap.get? l = some { cls := .type "list", dict := none, data := .seq items n, slots := #[] } ∧ s.heap.get? b = some { cls := .type "tuple", dict := dd, data := .seq items2 n2, slots := sl } ∧
      R (.ok (.ret Value.none)) { s with heap := s.heap.update l (Obj.mapSeq fun x => x ++ items2), toks := s.toks }) :=
  .of_wp fun prog w A R s h => by
    obtain ⟨hp, g, d, tk, os⟩ := s
    obtain ⟨hl, hb, h⟩ := h
    have f1 := AutoSeq1.idx_int
    have f2 := AutoSeq1.sub_tuple_tuple
    have f3 := AutoSeq1.sub_list_list
    have f4 := AutoSeq1.sub_tuple_list
    have f5 := AutoSeq1.sub_list_tuple
    have hz' : (items ++ items2).size ≤ sizeLine + 1 := by rw [Array.size_append]; exact hs2
    wp_walk using (wpAny_updateSeq hl rfl (hz := hs1) (_hz' := hz')), AutoSeq1.wpAny_loadPart' hl, AutoSeq1.wpAny_loadPart' hb
    exact ⟨_, rfl, h⟩
def rExtendT (K : PySem.W.Frag) : V → List V → Hp → VK → Prop := fun x vs H Q => ∃ l b xs zs, x = .ref l ∧ vs = [.ref b] ∧ H l = some (.lst xs) ∧ SqT K H b zs ∧ xs.length + zs.length ≤ sizeLine ∧ Q .non (upd H l (.lst (xs ++ zs)))
section
variable {X : Cx}
theorem mt_extendT : MtM X "list.extend" (rExtendT X.K) := by
  intro pins s σ H x vs v us Q I rx rv h
  obtain ⟨l, b, xs, zs, rfl, rfl, hH, hB, hz, q⟩ := h
  cases rx
  obtain ⟨u, rfl, ru⟩ := rv.one
  cases ru
  obtain ⟨z, its, n, r, hl, e⟩ := I.lstM hH
  obtain ⟨its2, r2, ⟨⟨cls, dd, data, sl⟩, ho, hc, n2, hd⟩, hz2⟩ := I.tuple hB
  simp only at hc hd
  subst hc hd
  have hl2 := r2.length
  have hsz : its.toArray.size + its2.toArray.size ≤ sizeLine := by rw [List.size_toArray, List.size_toArray]; omega
  have hlong : ¬ (!its.toArray.isEmpty && Builtin.List.listTooLong (its.toArray.size + its2.toArray.size)) = true := by
    rw [notLongL hsz, Bool.and_false]
    exact Bool.false_ne_true
  refine call_meets F.slot_list_extend ⟨_, e, rfl⟩ F.entry_list_extend (F.args_list_extend_2 _ _)
    (list_extend_tupW l its.toArray n b its2.toArray n2 dd sl hlong (by rw [List.size_toArray]; omega) (by omega)) ⟨e, ho, ?_⟩
  refine ⟨.non, _, I.lset (its' := its ++ its2) hH e (by simp) (r.append r2) ?_, rfl, q⟩
  rw [List.length_append]
  omega

/-! ### xs[::-1] -/
def tRevL (K : PySem.W.Frag) (te : TE) : TE := fun σ H Q => te σ H fun x H1 => ∃ a xs, x = .ref a ∧ SqL K H1 a xs ∧ ∀ p, H1 p = none → Q (.ref p) (upd H1 p (.lst xs.reverse))
theorem pe_revL {e : Expr} {te : TE} {j : Nat} {p2 p3 p4 pos : Pos} (he : PE X e te) : PE X (.Subscript e (.Slice none none (some (.UnaryOp .USub (.Constant (.int 1) j p4) p3)) p2) pos) (tRevL X.K te) := by
  refine ⟨fun pins s σ H Q I h => ?_⟩
  refine Subscript_ (thn (he.run pins s σ H _ I h) fun v s1 ⟨x, H1, I1, r1, q1⟩ => ?_)
  have hst := po_some (X := X) (pe_un (pos := p3) un_neg (pe_int (i := 1) (j := j) (pos := p4)))
  refine wpAny_Slice ?_
  rw [evalPart_none]
  refine wpAny_pure ?_
  refine wpAny_pure ?_
  refine thn (hst.run pins s1 σ H1 (fun o H' => o = some (-1) ∧ H' = H1) I1 ?_) fun vs s3 ⟨o, H3, I3, ps, q3⟩ => ?_
  · exact ⟨1, rfl, -1, rfl, rfl, rfl⟩
  obtain ⟨rfl, rfl⟩ := q3
  obtain ⟨a, xs, rfl, hx, q⟩ := q1
  cases r1
  have I4 : Inv X pins σ H3 { s3 with heap := s3.heap.push { cls := .type "slice", data := .fields #[.none, .none, vs] } } := I3.kept (t' := s3.toks) fun b ob q => Heap.get?_push_of_some _ q
  obtain ⟨its, r, ht, hz⟩ := I4.list hx
  have hlen := r.length
  show wpAny (model X.prog X.w) X.A (subscriptTail e (.Slice none none (some (.UnaryOp .USub (.Constant (.int 1) j p4) p3)) p2) (.ref a) (.ref s3.heap.objs.size)) (EP X pins σ Q) X.xe { s3 with heap := s3.heap.push { cls := .type "slice", data := .fields #[.none, .none, vs] } }
  refine tail_any (ops := _) ht.isList.typeIs slot_list_getitem.lookup ?_ (by with_unfolding_all rfl)
  refine wpAny_getItem_list_slice ht.isList (Heap.IsSliceOf.new ..) .none .none ps (by decide) ?_ (by rw [List.size_toArray]; omega)
  have ep : slicePick its.toArray none none (some (-1)) = its.reverse.toArray := PySem.W.krv_pick _
  rw [ep]
  refine ⟨.ref _, _, I4.laid (t' := s3.toks) (o := .lst xs.reverse) (fun b ob q => Heap.get?_push_of_some _ q) (Nat.le_refl _) ?_, rfl, q _ (I4.hok.fresh (Nat.le_refl _))⟩
  exact ⟨by rw [List.length_reverse]; exact hz, _, 0, r.reverse, Heap.get?_push_size _ rfl⟩

/-! ### () * k -/
theorem tuple_mul0 (l : Addr) (items : Array Value) (n : Nat) (dd : Option Addr) (sl : Array (Option Value)) (x : Int) (u : Tok) (c0 : (decide (x < -(2 ^ 63)) || decide (x ≥ 2 ^ 63)) = false) (c1 : (items.isEmpty || x == 1) = true) :
    Meets (Builtin.«tuple.__mul__» ⟨[.ref l, .int x u], []⟩) (fun _ R s => s.heap.get? l = some { cls := .type "tuple", dict := dd, data := .seq items n, slots := sl } ∧ R (.ok (.ret (Value.ref l))) s) :=
  .of_wp fun prog w A R s h => by
    obtain ⟨hp, g, d, tk, os⟩ := s
    obtain ⟨hl, h⟩ := h
    have f1 := AutoSeq1.idx_int
    wp_walk using AutoSeq1.wpAny_loadPart' hl
    repeat (first
      | (refine wpAny_ite_false (decide_eq_false (by rw [c0]; exact Bool.false_ne_true)) ?_; wp_walk using AutoSeq1.wpAny_loadPart' hl)
      | (refine wpAny_ite_true (decide_eq_true (by rw [c1])) ?_; wp_walk using AutoSeq1.wpAny_loadPart' hl))
    exact ⟨_, rfl, h⟩
def rRep0 (K : PySem.W.Frag) : R2 := fun x y H Q => ∃ l k, x = .ref l ∧ y = .int k ∧ SqT K H l [] ∧ 2 ≤ k ∧ k ≤ 1000 ∧ Q (.ref l) H
theorem op_rep0 : OpR X (binaryOp .Mult) (rRep0 X.K) := by
  intro pins s σ H x y v u Q I rx ry h
  obtain ⟨l, k, rfl, rfl, hT, h1, h2, q⟩ := h
  cases rx
  obtain ⟨t, rfl⟩ := ry
  obtain ⟨its, r, ⟨⟨cls, dd, data, sl⟩, ho, hc, n, hd⟩, hs⟩ := I.tuple hT
  simp only at hc hd
  subst hc hd
  cases r
  have c0 : (decide (k < -(2 ^ 63)) || decide (k ≥ 2 ^ 63)) = false := by
    rw [decide_eq_false (by omega), decide_eq_false (by omega)] <;> rfl
  refine wpAny_binaryOp_repeat_ref (T := "tuple") (U := "int") (by decide) ⟨_, ho, rfl⟩ (fun s' => typeIs_int s' k t) noFill_tuple_mul F.fills_int_mul F.slot_int_rmul repeat_tuple F.slot_int_index.lookup
    (call_meets F.slot_int_rmul (typeIs_int s k t) F.entry_int_rmul (F.args_int_rmul_2 _ _) (int_rmul_tuple k t l _ n dd sl)
      ⟨ho, rfl, ⟨_, ho, rfl⟩, call_meets F.slot_tuple_mul ⟨_, ho, rfl⟩ F.entry_tuple_mul (F.args_tuple_mul_2 _ _) (tuple_mul0 l _ n dd sl k t c0 rfl) ⟨ho, ?_⟩⟩)
  exact ⟨.ref l, H, I, rfl, q⟩
end

/-! ### t + u of tracked tuples, one way on -/
section
variable {X : Cx}
def rCatR : R2 := fun x y H Q => ∃ a b xs ys, x = .ref a ∧ y = .ref b ∧ H a = some (.tup xs) ∧ H b = some (.tup ys) ∧ xs.length + ys.length ≤ sizeLine ∧ ∀ (c : Addr) (H' : Hp), Same H H' → H' c = some (.tup (xs ++ ys)) → Q (.ref c) H'
theorem op_catR : OpR X (binaryOp .Add) rCatR := by
  intro pins s σ H x y v u Q I rx ry h
  obtain ⟨a, b, xs, ys, rfl, rfl, ha, hb, hz, q⟩ := h
  refine op_catA pins s σ H _ _ v u Q I rx ry ⟨a, b, xs, ys, rfl, rfl, SqT.of ha, SqT.of hb, hz, fun e => ?_, fun _ e => ?_, fun _ _ p np => ?_⟩
  · subst e
    exact q b H (Same.refl H) hb
  · subst e
    exact q a H (Same.refl H) (by rw [List.append_nil]; exact ha)
  · exact q p _ (fun c o e => by rw [upd_ne (ne_of_none e np)]; exact e) upd_same
end

/-! ### t[lo:hi] of a tracked tuple, one way on -/
theorem cutV_whole {xs : List V} {lo hi : Option Int} (h : HT.sIx xs.length 0 lo = 0 ∧ HT.sIx xs.length xs.length hi = xs.length) : cutV xs lo hi = xs := by
  unfold cutV
  rw [h.1, h.2, List.drop_zero, Nat.sub_zero, List.take_length]
theorem cutV_to (xs : List V) (k : Nat) : cutV xs none (some (k : Int)) = xs.take k := by
  unfold cutV
  rw [HT.sIx_none, HT.sIx_nat, List.drop_zero, Nat.sub_zero]
  by_cases h : k ≤ xs.length
  · rw [Nat.min_eq_left h]
  · rw [Nat.min_eq_right (by omega), List.take_length, List.take_of_length_le (by omega)]
theorem cutV_from (xs : List V) (k : Nat) : cutV xs (some (k : Int)) none = xs.drop k := by
  unfold cutV
  rw [HT.sIx_none, HT.sIx_nat]
  by_cases h : k ≤ xs.length
  · rw [Nat.min_eq_left h]
    exact List.take_of_length_le (by rw [List.length_drop]; exact Nat.le_refl _)
  · rw [Nat.min_eq_right (by omega), List.drop_length, List.drop_of_length_le (by omega)]
    exact List.take_nil
section
variable {X : Cx}
def rSlR : V → Option Int → Option Int → Hp → VK → Prop := fun x lo hi H Q => ∃ a xs, x = .ref a ∧ H a = some (.tup xs) ∧ ∀ (c : Addr) (H' : Hp), Same H H' → H' c = some (.tup (cutV xs lo hi)) → Q (.ref c) H'
theorem sl_tupR : SlR X rSlR := by
  intro pins s σ H x v vl vu lo hi sl Q I rx hs pl pu h
  obtain ⟨a, xs, rfl, hx, q⟩ := h
  refine sl_tupA pins s σ H _ v vl vu lo hi sl Q I rx hs pl pu ⟨a, xs, rfl, SqT.of hx, fun z => ?_, fun _ p np => ?_⟩
  · exact q a H (Same.refl H) (by rw [cutV_whole z]; exact hx)
  · exact q p _ (fun c o e => by rw [upd_ne (ne_of_none e np)]; exact e) upd_same
end

/-! ### t * k of a tracked tuple, one way on -/
section
variable {X : Cx}
theorem rep_nil {α : Type} : ∀ k : Nat, (List.replicate k ([] : List α)).flatten = []
  | 0 => rfl
  | k + 1 => by
    rw [List.replicate_succ, List.flatten_cons, rep_nil k]
    rfl
def rRepR : R2 := fun x y H Q => ∃ l k xs, x = .ref l ∧ y = .int k ∧ H l = some (.tup xs) ∧ 2 ≤ k ∧ k ≤ 1000 ∧ xs.length ≤ 1000 ∧ ∀ (c : Addr) (H' : Hp), Same H H' → H' c = some (.tup (List.replicate k.toNat xs).flatten) → Q (.ref c) H'
theorem op_repR : OpR X (binaryOp .Mult) rRepR := by
  intro pins s σ H x y v u Q I rx ry h
  obtain ⟨l, k, xs, rfl, rfl, hx, h1, h2, hz, q⟩ := h
  by_cases e : xs = []
  · subst e
    exact op_rep0 pins s σ H _ _ v u Q I rx ry ⟨l, k, rfl, rfl, SqT.of hx, h1, h2, q l H (Same.refl H) (by rw [rep_nil]; exact hx)⟩
  · exact op_repT pins s σ H _ _ v u Q I rx ry ⟨l, k, xs, rfl, rfl, SqT.of hx, e, h1, h2, hz, fun p np => q p _ (fun c o z => by rw [upd_ne (ne_of_none z np)]; exact z) upd_same⟩
end

/-! ### xs == [] -/
section
variable {X : Cx}
def rEqNil (K : PySem.W.Frag) : R2 := fun x y H Q => ∃ a b xs, x = .ref a ∧ y = .ref b ∧ SqL K H a xs ∧ SqL K H b [] ∧ Q (.bl xs.isEmpty) H
theorem op_eqNil (hu : X.A.units + 64 < cLine) : OpR X (compareOp .Eq) (rEqNil X.K) := by
  intro pins s σ H x y v u Q I rx ry h
  obtain ⟨a, b, xs, rfl, rfl, ha, hb, q⟩ := h
  cases rx
  cases ry
  obtain ⟨its, r1, p1, _⟩ := I.list ha
  obtain ⟨its2, r2, p2, _⟩ := I.list hb
  cases r2
  have hu' : X.A.units < cLine := by omega
  cases r1 with
  | nil => exact SeqAt.eq_listAt (e := fun _ => true) p1.isList p2.isList rfl hu' (fun j h1 h2 => by simp at h1) ⟨.bl true, H, I, rfl, q⟩
  | cons r t => exact SeqAt.eq_list_lengthsAt p1.isList p2.isList rfl hu' ⟨.bl false, H, I, rfl, q⟩
end

/-! ### enumerate(tuple) -/
theorem meets_enumerate_newT (l : Addr) (items : Array Value) (n : Nat) (dct : Option Addr) (sl : Array (Option Value)) :
    Meets (Builtin.«enumerate.__new__» ⟨[.type "enumerate", .ref l], []⟩) (fun _ R s => s.heap.get? l = some { cls := .type "tuple", dict := dct, data := .seq items n, slots := sl } ∧
      R (.ok (.ret (.ref (s.heap.push { cls := .type "tuple_iterator", data := .fields #[.ref l, .int 0 0] }).objs.size)))
        { s with heap := (s.heap.push { cls := .type "tuple_iterator", data := .fields #[.ref l, .int 0 0] }).push { cls := .type "enumerate", data := .fields #[.none, .bool false, .ref s.heap.objs.size, rawInt 0, .none, .none] } }) :=
  .of_wp fun prog w A R s h => by
    obtain ⟨hp, g, d, tk, os⟩ := s; obtain ⟨hl, h⟩ := h
    have hsub := sub_enumerate
    have hL : Heap.IsTuple (Shared.heap ⟨hp, g, d, tk, os⟩) l items := ⟨_, hl, rfl, n, rfl⟩
    wp_walk using AutoSeq1.wpAny_loadPart' hl
    refine wpAny_stack_any fun st => wpAny_pure ?_
    split
    · rename_i c _ _ _ _ _
      cases (c == Value.type "enumerate")
      · wp_walk using AutoSeq1.wpAny_loadPart' hl, wpAny_pyIter_tuple hL
        exact ⟨_, rfl, h⟩
      · wp_walk using AutoSeq1.wpAny_loadPart' hl, wpAny_pyIter_tuple hL
        exact ⟨_, rfl, h⟩
    · wp_walk using AutoSeq1.wpAny_loadPart' hl, wpAny_pyIter_tuple hL
      exact ⟨_, rfl, h⟩
section
variable {prog : Program} {w : World} {A : Around} {E : Value → Shared → Prop} {s : Shared}
theorem call_enumerate_tup {l : Addr} {items : Array Value} {Q : Value → Shared → Prop} (hL : IsTup s.heap l items)
    (h : ∀ h', IsEnum h' (s.heap.objs.size + 1) s.heap.objs.size 0 .none → h'.IsTupleIter s.heap.objs.size l 0 → h'.objs.size = s.heap.objs.size + 2 →
      (∀ b o, s.heap.get? b = some o → h'.get? b = some o) → Q (.ref (s.heap.objs.size + 1)) { s with heap := h' }) :
    wpAny (model prog w) A (call (.type "enumerate") [.ref l]) Q E s := by
  obtain ⟨⟨c, dct, dt, sl⟩, hl, hc, n, hd⟩ := hL
  replace hc : c = .type "tuple" := hc
  replace hd : dt = .seq items n := hd
  subst hc hd
  refine callType_new F.called_enumerate (by decide) (F.typeCall_enumerate_1 _) (F.newCall_enumerate_1 _) (fun obj => F.args_object_init_2 obj _) F.entry_enumerate_new
    (meets_enumerate_newT l items n dct sl) ⟨hl, ?_⟩
  have hz : (s.heap.push { cls := .type "tuple_iterator", data := .fields #[.ref l, .int 0 0] }).objs.size = s.heap.objs.size + 1 := Heap.size_push ..
  show _ ∧ _
  rw [hz]
  have he : IsEnum ((s.heap.push { cls := .type "tuple_iterator", data := .fields #[.ref l, .int 0 0] }).push
      { cls := .type "enumerate", data := .fields #[.none, .bool false, .ref s.heap.objs.size, rawInt 0, .none, .none] }) (s.heap.objs.size + 1) s.heap.objs.size 0 .none := by
    have := Heap.get?_push_size (s.heap.push { cls := .type "tuple_iterator", data := .fields #[.ref l, .int 0 0] })
      (o := { cls := .type "enumerate", data := .fields #[.none, .bool false, .ref s.heap.objs.size, rawInt 0, .none, .none] }) rfl
    rw [hz] at this; exact this
  refine ⟨⟨_, he, rfl⟩, h _ he ⟨_, Heap.get?_push_of_some _ (Heap.get?_push_size _ rfl), rfl, rfl⟩ (by rw [Heap.size_push, hz]) fun b o x => Heap.get?_push_of_some _ (Heap.get?_push_of_some _ x)⟩
theorem wpAny_pyNext_enumT_end {e it l : Addr} {i : Nat} {items : Array Value} {old : Value} {Q : Option Value → Shared → Prop} (hh : A.handled = none)
    (he : IsEnum s.heap e it i old) (hit : s.heap.IsTupleIter it l i) (hl : IsTup s.heap l items) (hx : items[i]? = none)
    (hQ : ∀ h', Heap.ExtBut it s.heap h' → Q none { s with heap := h' }) : wpAny (model prog w) A (pyNext (.ref e)) Q E s := by
  have hTy : s.TypeIs (.ref e) "enumerate" := ⟨_, he, rfl⟩
  unfold pyNext
  refine wpAny_bind (wpAny_attempt (wpAny_callSpecial?_slot (name := Str.ofString "__next__") hTy F.slot_enumerate_next
    (wpAny_call_entry F.slot_enumerate_next hTy F.entry_enumerate_next ?_ (F.args_enumerate_next_1 _))))
  show wpAny _ _ (field (.ref e) 2 >>= _) _ _ _
  refine wpAny_bind (wpAny_field he rfl (x := .ref it) rfl ?_)
  refine wpAny_bind (wpAny_nextOf_tuple_end hh hit hl hx fun h' x he' hx' => ?_)
  obtain ⟨o, ho, hc⟩ := hx'
  refine wpAny_bind (wpAny_isInstance (T := "StopIteration") (b := true) ⟨o, ho, hc⟩ isSubtype_stop ?_)
  exact wpAny_pure (hQ _ he')
end
def Itet (K : PySem.W.Frag) (a : Addr) : It :=
  ⟨fun i H => ∃ (xs : List V) (x : V), SqT K H a xs ∧ xs[i]? = some x, fun i H v H' => ∃ T x, v = .ref T ∧ H T = none ∧ H' = upd H T (.tup [.int (i : Nat), x]) ∧ ∀ xs, SqT K H a xs → xs[i]? = some x, fun i H => ∃ xs : List V, SqT K H a xs ∧ xs.length ≤ i⟩
theorem turn_enumT {P : Program} {w : World} {K : PySem.W.Frag} {elts : List Expr} {kk : Nat} {tpos : Pos} (a e it : Addr) (hai : a ≠ it) :
    Turn P w K (.Tuple elts kk tpos) (Itet K a) [e, it] e (fun i h => (∃ old, IsEnum h e it ((i : Nat) : Int) old) ∧ h.IsTupleIter it a i ∧ e ≠ it ∧ e ≠ a) where
  mem := by simp
  obj := fun i h st b hb => by
    obtain ⟨⟨old, he⟩, ⟨o, ho, hc, hd⟩, _⟩ := st
    have e' : b = e ∨ b = it := by simpa using hb
    rcases e' with z | z
    · rw [z]; exact ⟨_, he, fun v q => nomatch q⟩
    · rw [z]; exact ⟨o, ho, fun v q => by rw [hd] at q; cases q⟩
  keep := fun i h h' st k => let ⟨⟨old, he⟩, hi, hne⟩ := st; ⟨⟨old, k e (by simp) _ he⟩, hi.at fun o q => k it (by simp) o q, hne⟩
  item := by
    intro X hP hw hK hc i pins s σ H E I hf st hg
    subst hP hw hK
    obtain ⟨⟨old, he⟩, hit, hne, hea⟩ := st
    obtain ⟨xs, x, hq, hx⟩ := hg
    obtain ⟨its, rv, p, hz⟩ := I.tuple hq
    obtain ⟨u, hu, ru⟩ := rv.get hx
    have hel : e < s.heap.objs.size := Heap.lt_size he
    have hil : it < s.heap.objs.size := by obtain ⟨_, q, _⟩ := hit; exact Heap.lt_size q
    have hlt : i < its.toArray.size := by
      have z1 := (List.getElem?_eq_some_iff.mp hu).1
      rw [List.size_toArray]
      exact z1
    refine wpAny_pyNext_enum_itemD (Draws.tuple (prog := X.prog) (w := X.w) (A := X.A.in1) (I.ok.hd hc) it a hai its.toArray) he ⟨hit, p⟩ hlt hne (by simp; exact ⟨hne, hea⟩) fun x' h' tk hP' ho' st' hT hsz hk => ?_
    have ex : x' = u := by
      have z1 : its.toArray[i]? = some u := by simpa using hu
      rw [z1] at hP'
      exact (Option.some.inj hP').symm
    subst ex
    refine ⟨_, rfl, wpAny_letOwnedTupleGo_enum (s := { s with heap := h', toks := tk + 1 }) ho' fun h'' he' sb => ?_⟩
    have hT2 : h''.get? s.heap.objs.size = some { cls := .type "tuple", data := .seq #[.int i tk, x'] } := (sb.2 _ (Nat.ne_of_gt hel)).trans hT
    have new : ObjOk X.prog X.w (upd H s.heap.objs.size (.tup [.int (i : Nat), x])) h'' s.heap.objs.size (.tup [.int (i : Nat), x]) :=
      ⟨by show 2 ≤ sizeLine; decide, [.int i tk, x'], .cons ⟨_, rfl⟩ (.cons ru .nil), ⟨_, hT2, rfl, _, rfl⟩⟩
    have I1 : Inv X pins σ (upd H s.heap.objs.size (.tup [.int (i : Nat), x])) { s with heap := h'', toks := tk + 1 } :=
      I.turnedNew (ch := [e, it]) (fun b ob hb q => (sb.2 b (fun z => hb (by simp [z]))).trans (hk b ob (fun z => hb (by simp [z])) (fun z => hb (by simp [z])) q)) hf (Nat.le_refl _) new
    refine ⟨.ref s.heap.objs.size, _, I1, rfl, ⟨_, x, rfl, I.hok.fresh (Nat.le_refl _), rfl, fun ys hy => by rw [I.tuple_inj hy hq]; exact hx⟩, ⟨⟨x', ?_⟩, st'.1.at fun o q => (sb.2 it (Ne.symm hne)).trans q, hne, hea⟩, fun b hb => ?_⟩
    · have e1 : ((i + 1 : Nat) : Int) = (i : Int) + 1 := by omega
      rw [e1]; exact he'
    · have hb' : b < s.heap.objs.size := by
        have e' : b = e ∨ b = it := by simpa using hb
        rcases e' with z | z
        · rw [z]; exact hel
        · rw [z]; exact hil
      rw [upd_ne (Nat.ne_of_lt hb')]
      exact (hf b hb).1
  done := by
    intro X hP hw hK hc i pins s σ H E I hf st hg
    subst hP hw hK
    obtain ⟨⟨old, he⟩, hit, hne, hea⟩ := st
    obtain ⟨xs, hq, hx⟩ := hg
    obtain ⟨its, rv, p, hz⟩ := I.tuple hq
    obtain ⟨f0, f1, f2, f3, f4, f5⟩ := hf it (by simp)
    have hl := rv.length
    exact wpAny_pyNext_enumT_end (I.ok.hd hc) he hit p (by simp; omega) fun h' eb => ⟨rfl, I.turned (t' := s.toks) (fun b o hb q => eb b o hb q) f0 f1 f3 f4 f5⟩
  self := fun A i s Q E st h => let ⟨⟨_, he⟩, _⟩ := st; wpAny_pyIter_enum he h
def iEnumT (K : PySem.W.Frag) (ta : TA) : TI := fun σ H R => ta σ H fun vs H1 => ∃ a xs, vs = [.ref a] ∧ SqT K H1 a xs ∧ R (Itet K a) H1
theorem pi_enumT {X : Cx} {e : Expr} {ta : TA} {p pos tpos : Pos} {elts : List Expr} {kk : Nat} (hg : Gl X "enumerate") (hm : X.mg "enumerate" = none) (ha : PA X [e] ta) (hs : starEach [e] X.env = [(false, eval e X.env)] := by rfl) :
    PI X (.Tuple elts kk tpos) (.Call (.Name "enumerate" p) [e] [] pos) (iEnumT X.K ta) := by
  refine ⟨fun pins s σ H R I h => ?_⟩
  refine Call_ (ld_blt I hg hm boot_enumerate (PyProof.Rows.callWith_type1 (thn (ha.run pos pins s σ H _ I h) fun us s1 ⟨vs, H1, I1, r1, q1⟩ => ?_) hs rfl))
  obtain ⟨a, xs, ex, hq, q⟩ := q1
  subst ex
  cases r1 with
  | cons r rr =>
    cases rr
    cases r
    obtain ⟨its, rv, p', hz⟩ := I1.tuple hq
    have hal : a < s1.heap.objs.size := p'.lt
    refine call_enumerate_tup p' fun h' he hit hsz hk => wpAny_pyIter_enum he ?_
    have I2 : Inv X pins σ H1 { s1 with heap := h' } := I1.kept (t' := s1.toks) hk
    refine ⟨s1.heap.objs.size + 1, [s1.heap.objs.size + 1, s1.heap.objs.size], _, _, H1, rfl, I2, turn_enumT a (s1.heap.objs.size + 1) s1.heap.objs.size (Nat.ne_of_lt hal), ⟨⟨.none, he⟩, hit, Nat.succ_ne_self _, Nat.ne_of_gt (Nat.lt_succ_of_lt hal)⟩, fun b hb => ?_, q⟩
    have e' : b = s1.heap.objs.size + 1 ∨ b = s1.heap.objs.size := by simpa using hb
    have hle : s1.heap.objs.size ≤ b := by
      rcases e' with z | z
      · rw [z]; exact Nat.le_add_right _ _
      · rw [z]; exact Nat.le_refl _
    exact I1.fpOk hle (I1.hok.fresh hle)
theorem lc_enumT {K : PySem.W.Frag} {a : Addr} {xs : List V} {g : TG} {tt : TT} {te : TE} {vs : List Nat} {σ : L2.St} {H1 : Hp} {D : Addr} {Qd : Hp → Prop} (Pv : Nat → Hp → Prop) (h0 : Pv 0 (upd H1 D (.lst []))) (hl : ∀ i H, i ≤ xs.length → Pv i H → SqT K H a xs)
    (hs : ∀ i x T H, xs[i]? = some x → Pv i H → H T = none → g (.ref T) (wipe σ vs) (upd H T (.tup [.int (i : Nat), x])) fun σ2 H2 => wipe σ2 vs = wipe σ vs ∧ tt σ2 H2 fun b H3 =>
      if b = true then te σ2 H3 fun y H4 => ∃ acc, H4 D = some (.lst acc) ∧ acc.length < sizeLine ∧ Pv (i + 1) (upd H4 D (.lst (acc ++ [y]))) else Pv (i + 1) H3) (hd : ∀ H, Pv xs.length H → Qd H) :
    ∃ W : Nat → Nat → Hp → Prop, (∃ m, W 0 m (upd H1 D (.lst []))) ∧ ∀ i m H, W i m H →
      ((Itet K a).stop i H ∧ Qd H) ∨ ((Itet K a).go i H ∧ ∃ Nx : Hp → Prop, (∀ H', Nx H' → ∃ m', m' < m ∧ W (i + 1) m' H') ∧ ∀ x H', (Itet K a).yld i H x H' → g x (wipe σ vs) H' fun σ2 H2 => wipe σ2 vs = wipe σ vs ∧ tt σ2 H2 fun b H3 =>
        if b = true then te σ2 H3 fun y H4 => ∃ acc, H4 D = some (.lst acc) ∧ acc.length < sizeLine ∧ Nx (upd H4 D (.lst (acc ++ [y]))) else Nx H3) := by
  refine ⟨fun i m H => m = xs.length - i ∧ i ≤ xs.length ∧ Pv i H, ⟨xs.length, by simp, Nat.zero_le _, h0⟩, ?_⟩
  rintro i m H ⟨rfl, hi, p⟩
  have q := hl i H hi p
  by_cases hlt : i < xs.length
  · refine .inr ⟨⟨xs, xs[i], q, by simp [hlt]⟩, Pv (i + 1), fun H' p' => ⟨xs.length - (i + 1), by omega, rfl, hlt, p'⟩, fun x H' y => ?_⟩
    obtain ⟨T, x', rfl, nT, rfl, y⟩ := y
    exact hs i x' T H (y xs q) p nT
  · have e : i = xs.length := by omega
    subst e
    exact .inl ⟨⟨xs, q, Nat.le_refl _⟩, hd H p⟩
end Pk

set_option maxRecDepth 100000
set_option maxHeartbeats 1000000
namespace Pk
open PySem PySem.Spec PyProof.Rows L2

/-! ### data: an atom, some list, a tuple of data -/
inductive D where
  | at (v : V)
  | lst
  | tup (l : List D)
def flat4 : V → Bool
  | .non => true
  | .bl _ => true
  | .int _ => true
  | .str _ => true
  | _ => false
/-- a tuple that stands: tracked, or of the written part -/
def TupAt (K : PySem.W.Frag) (H : Hp) (a : Addr) (xs : List V) : Prop :=
  H a = some (.tup xs) ∨ ∃ (o : Obj) (its : Array Value) (n : Nat), K.lookup a = some o ∧ o.cls = .type "tuple" ∧ o.data = .seq its n ∧ its.size ≤ sizeLine ∧ Vals xs its.toList
theorem TupAt.sq {K : PySem.W.Frag} {H : Hp} {a : Addr} {xs : List V} (h : TupAt K H a xs) : SqT K H a xs := by
  rcases h with h | h
  · exact .inl (.inl h)
  · exact .inr h
theorem TupAt.same {K : PySem.W.Frag} {H H' : Hp} {a : Addr} {xs : List V} (h : TupAt K H a xs) (s : Same H H') : TupAt K H' a xs := by
  rcases h with h | h
  · exact .inl (s _ _ h)
  · exact .inr h
mutual
inductive Rep (K : PySem.W.Frag) (H : Hp) : V → D → Prop where
  | at {v : V} (h : flat4 v = true) : Rep K H v (.at v)
  | lst {a : Addr} {xs : List V} (h : H a = some (.lst xs)) : Rep K H (.ref a) .lst
  | tup {a : Addr} {xs : List V} {ts : List D} (h : TupAt K H a xs) (r : Reps K H xs ts) : Rep K H (.ref a) (.tup ts)
inductive Reps (K : PySem.W.Frag) (H : Hp) : List V → List D → Prop where
  | nil : Reps K H [] []
  | cons {x : V} {t : D} {xs : List V} {ts : List D} (h : Rep K H x t) (r : Reps K H xs ts) : Reps K H (x :: xs) (t :: ts)
end
theorem Rep.tup' {K : PySem.W.Frag} {H : Hp} {a : Addr} {xs : List V} {ts : List D} (h : H a = some (.tup xs)) (r : Reps K H xs ts) : Rep K H (.ref a) (.tup ts) := .tup (.inl h) r
/-- tuples stand as they are, lists stay lists -/
structure Kx (H H' : Hp) : Prop where
  t : ∀ a xs, H a = some (.tup xs) → H' a = some (.tup xs)
  l : ∀ a xs, H a = some (.lst xs) → ∃ ys, H' a = some (.lst ys)
theorem Kx.refl (H : Hp) : Kx H H := ⟨fun _ _ h => h, fun _ xs h => ⟨xs, h⟩⟩
theorem Kx.trans {H H1 H2 : Hp} (a : Kx H H1) (b : Kx H1 H2) : Kx H H2 := ⟨fun q xs h => b.t q xs (a.t q xs h), fun q xs h => let ⟨ys, h1⟩ := a.l q xs h; b.l q ys h1⟩
theorem kx_same {H H' : Hp} (s : Same H H') : Kx H H' := ⟨fun a xs h => s _ _ h, fun a xs h => ⟨xs, s _ _ h⟩⟩
theorem same_new {H : Hp} {p : Addr} (h : H p = none) (o : HO) : Same H (upd H p o) := fun b u q => by rw [upd_ne (ne_of_none q h)]; exact q
theorem kx_new {H : Hp} {p : Addr} (h : H p = none) (o : HO) : Kx H (upd H p o) := kx_same (same_new h o)
theorem kx_list {H : Hp} {p : Addr} {xs : List V} (h : H p = some (.lst xs)) (ys : List V) : Kx H (upd H p (.lst ys)) := by
  refine ⟨fun a zs e => ?_, fun a zs e => ?_⟩
  · rw [upd_ne (ne_of e h (by intro q; cases q))]
    exact e
  · by_cases ha : a = p
    · subst ha
      exact ⟨ys, upd_same⟩
    · rw [upd_ne ha]
      exact ⟨zs, e⟩
/-- all but what stands at b is as it was -/
def SB (b : Addr) (H H' : Hp) : Prop := ∀ q o, q ≠ b → H q = some o → H' q = some o
theorem SB.refl (b : Addr) (H : Hp) : SB b H H := fun _ _ _ h => h
theorem SB.trans {b : Addr} {H H1 H2 : Hp} (x : SB b H H1) (y : SB b H1 H2) : SB b H H2 := fun q o n h => y q o n (x q o n h)
theorem sb_same {b : Addr} {H H' : Hp} (s : Same H H') : SB b H H' := fun q o _ h => s q o h
theorem sb_upd {b : Addr} {H : Hp} (o : HO) : SB b H (upd H b o) := fun q u n h => by rw [upd_ne n]; exact h
theorem sb_new {b : Addr} {H H' : Hp} (n : H b = none) (s : SB b H H') : Same H H' := fun q o h => s q o (ne_of_none h n) h
theorem sb_kx {b : Addr} {H H' : Hp} {xs ys : List V} (s : SB b H H') (h : H b = some (.lst xs)) (h' : H' b = some (.lst ys)) : Kx H H' := by
  refine ⟨fun a zs e => s _ _ (ne_of e h (by intro q; cases q)) e, fun a zs e => ?_⟩
  by_cases ha : a = b
  · subst ha
    exact ⟨ys, h'⟩
  · exact ⟨zs, s _ _ ha e⟩
theorem TupAt.kx {K : PySem.W.Frag} {H H' : Hp} {a : Addr} {xs : List V} (h : TupAt K H a xs) (k : Kx H H') : TupAt K H' a xs := by
  rcases h with h | h
  · exact .inl (k.t _ _ h)
  · exact .inr h
mutual
theorem Rep.mono {K : PySem.W.Frag} {H H' : Hp} (k : Kx H H') : ∀ {v : V} {d : D}, Rep K H v d → Rep K H' v d
  | _, _, .at h => .at h
  | _, _, .lst h => let ⟨_, h'⟩ := k.l _ _ h; .lst h'
  | _, _, .tup h r => .tup (h.kx k) (Reps.mono k r)
theorem Reps.mono {K : PySem.W.Frag} {H H' : Hp} (k : Kx H H') : ∀ {xs : List V} {ds : List D}, Reps K H xs ds → Reps K H' xs ds
  | _, _, .nil => .nil
  | _, _, .cons h r => .cons (Rep.mono k h) (Reps.mono k r)
end
section
variable {K : PySem.W.Frag} {H : Hp}
theorem Rep.inv {v : V} {ts : List D} (r : Rep K H v (.tup ts)) : ∃ a xs, v = .ref a ∧ TupAt K H a xs ∧ Reps K H xs ts := by
  cases r with
  | tup h r => exact ⟨_, _, rfl, h, r⟩
theorem Rep.inva {v w : V} (r : Rep K H v (.at w)) : v = w ∧ flat4 v = true := by
  cases r with
  | «at» h => exact ⟨rfl, h⟩
theorem Reps.length : ∀ {xs : List V} {ds : List D}, Reps K H xs ds → xs.length = ds.length
  | _, _, .nil => rfl
  | _, _, .cons _ r => congrArg Nat.succ r.length
theorem Reps.get : ∀ {xs : List V} {ds : List D} {i : Nat} {x : V}, Reps K H xs ds → xs[i]? = some x → ∃ d, ds[i]? = some d ∧ Rep K H x d
  | _, _, _, _, .nil, e => by simp at e
  | _, _, 0, _, .cons h _, e => by simp at e; subst e; exact ⟨_, rfl, h⟩
  | _, _, i + 1, x, .cons _ r, e => by
    obtain ⟨d, h1, h2⟩ := Reps.get (i := i) (x := x) r (by simpa using e)
    exact ⟨d, by simpa using h1, h2⟩
theorem Reps.getD : ∀ {xs : List V} {ds : List D} {i : Nat} {d : D}, Reps K H xs ds → ds[i]? = some d → ∃ x, xs[i]? = some x ∧ Rep K H x d := fun {xs ds i d} r e => by
  have hl := r.length
  have hi : i < ds.length := (List.getElem?_eq_some_iff.mp e).1
  obtain ⟨d', h1, h2⟩ := r.get (i := i) (x := xs[i]'(by omega)) (by first | (simp; done) | (simp; omega))
  rw [e] at h1
  cases h1
  exact ⟨_, by first | (simp; done) | (simp; omega), h2⟩
theorem Reps.append : ∀ {xs ys : List V} {ds es : List D}, Reps K H xs ds → Reps K H ys es → Reps K H (xs ++ ys) (ds ++ es)
  | _, _, _, _, .nil, s => s
  | _, _, _, _, .cons h r, s => .cons h (Reps.append r s)
theorem Reps.one {x : V} {d : D} (h : Rep K H x d) : Reps K H [x] [d] := .cons h .nil
theorem Reps.take : ∀ {xs : List V} {ds : List D} (n : Nat), Reps K H xs ds → Reps K H (xs.take n) (ds.take n)
  | _, _, 0, _ => .nil
  | _, _, _ + 1, .nil => .nil
  | _, _, n + 1, .cons h r => .cons h (Reps.take n r)
theorem Reps.drop : ∀ {xs : List V} {ds : List D} (n : Nat), Reps K H xs ds → Reps K H (xs.drop n) (ds.drop n)
  | _, _, 0, r => r
  | _, _, _ + 1, .nil => .nil
  | _, _, n + 1, .cons _ r => Reps.drop n r
theorem Reps.reverse : ∀ {xs : List V} {ds : List D}, Reps K H xs ds → Reps K H xs.reverse ds.reverse
  | _, _, .nil => .nil
  | _, _, .cons h r => by
    rw [List.reverse_cons, List.reverse_cons]
    exact Reps.append (Reps.reverse r) (.one h)
/-- the last one, and those before it -/
theorem Reps.last {xs : List V} {ds : List D} (r : Reps K H xs ds) (h : xs ≠ []) : ∃ x d es, xs[xs.length - 1]? = some x ∧ ds = es ++ [d] ∧ Rep K H x d ∧ Reps K H xs.dropLast es := by
  have hl := r.length
  have hp : 0 < xs.length := List.length_pos_iff.mpr h
  obtain ⟨d, h1, h2⟩ := r.get (i := xs.length - 1) (x := xs[xs.length - 1]'(by omega)) (by first | (simp; done) | (simp; omega))
  refine ⟨_, d, ds.dropLast, by first | (simp; done) | (simp; omega), ?_, h2, ?_⟩
  · have hd : ds ≠ [] := fun e => by
      rw [e] at hl
      simp at hl
      exact h hl
    have q : ds.getLast hd = d := by
      rw [List.getLast_eq_getElem]
      rw [hl, List.getElem?_eq_getElem (by omega)] at h1
      exact Option.some.inj h1
    rw [← q]
    exact (List.dropLast_concat_getLast hd).symm
  · rw [List.dropLast_eq_take, List.dropLast_eq_take, hl]
    exact r.take _
end
/-! ### kinds, sizes, depths -/
mutual
def isK : D → Bool
  | .tup ts => isKs ts
  | _ => false
def isKs : List D → Bool
  | [] => true
  | t :: r => isK t && isKs r
end
mutual
def sz : D → Nat
  | .tup ts => szs ts + 1
  | _ => 1
def szs : List D → Nat
  | [] => 0
  | t :: r => sz t + szs r
end
mutual
def dep : D → Nat
  | .tup ts => deps ts
  | _ => 0
def deps : List D → Nat
  | [] => 0
  | t :: r => max (dep t + 1) (deps r)
end
theorem isKs_append : ∀ (a b : List D), isKs (a ++ b) = (isKs a && isKs b)
  | [], b => by simp [isKs]
  | t :: r, b => by
    show (isK t && isKs (r ++ b)) = ((isK t && isKs r) && isKs b)
    rw [isKs_append r b, Bool.and_assoc]
theorem szs_append : ∀ (a b : List D), szs (a ++ b) = szs a + szs b
  | [], b => by simp [szs]
  | t :: r, b => by
    show sz t + szs (r ++ b) = (sz t + szs r) + szs b
    rw [szs_append r b]
    omega
theorem deps_append : ∀ (a b : List D), deps (a ++ b) = max (deps a) (deps b)
  | [], b => by simp [deps]
  | t :: r, b => by
    show max (dep t + 1) (deps (r ++ b)) = max (max (dep t + 1) (deps r)) (deps b)
    rw [deps_append r b]
    omega
theorem sz_pos : ∀ d : D, 0 < sz d
  | .tup _ => Nat.succ_pos _
  | .at _ => Nat.one_pos
  | .lst => Nat.one_pos
theorem len_szs : ∀ l : List D, l.length ≤ szs l
  | [] => Nat.le_refl _
  | t :: r => by
    have h1 := sz_pos t
    have h2 := len_szs r
    show r.length + 1 ≤ sz t + szs r
    omega
theorem sz_mem : ∀ {l : List D} {d : D}, d ∈ l → sz d ≤ szs l
  | t :: r, d, h => by
    show sz d ≤ sz t + szs r
    rcases List.mem_cons.mp h with e | h
    · rw [e]
      omega
    · have := sz_mem h
      omega
theorem dep_mem : ∀ {l : List D} {d : D}, d ∈ l → dep d + 1 ≤ deps l
  | t :: r, d, h => by
    show dep d + 1 ≤ max (dep t + 1) (deps r)
    rcases List.mem_cons.mp h with e | h
    · rw [e]
      omega
    · have := dep_mem h
      omega
theorem isK_mem : ∀ {l : List D}, isKs l = true → ∀ {d : D}, d ∈ l → isK d = true
  | t :: r, hk, d, h => by
    have hk' : (isK t && isKs r) = true := hk
    rw [Bool.and_eq_true] at hk'
    rcases List.mem_cons.mp h with e | h
    · rw [e]
      exact hk'.1
    · exact isK_mem hk'.2 h
theorem isK_inv {d : D} (h : isK d = true) : ∃ ts, d = .tup ts ∧ isKs ts = true := by
  cases d with
  | tup ts => exact ⟨ts, rfl, h⟩
  | «at» v => cases h
  | lst => cases h
theorem isKs_all : ∀ (l : List D), isKs l = l.all isK
  | [] => rfl
  | t :: r => by
    show (isK t && isKs r) = (isK t && r.all isK)
    rw [isKs_all r]
theorem dep_lt_sz : ∀ d : D, dep d < sz d := by
  have key : ∀ n : Nat, (∀ d : D, sz d ≤ n → dep d < sz d) := by
    intro n
    induction n with
    | zero => intro d h; have := sz_pos d; omega
    | succ n ih =>
      intro d h
      cases d with
      | «at» v => exact Nat.one_pos
      | lst => exact Nat.one_pos
      | tup ts =>
        show deps ts < szs ts + 1
        have h' : szs ts + 1 ≤ n + 1 := h
        have gen : ∀ l : List D, szs l ≤ n → deps l ≤ szs l := by
          intro l
          induction l with
          | nil => intro _; exact Nat.le_refl _
          | cons t r ih2 =>
            intro hl
            have hl' : sz t + szs r ≤ n := hl
            have a1 := ih t (by omega)
            have a2 := ih2 (by omega)
            show max (dep t + 1) (deps r) ≤ sz t + szs r
            omega
        have := gen ts (by omega)
        omega
  exact fun d => key (sz d) d (Nat.le_refl _)
/-! ### data as the library's == reads it -/
mutual
def toPy : D → PyData
  | .at .non => .none
  | .at (.bl b) => .bool b
  | .at (.int i) => .int i
  | .at (.str x) => .str x
  | .at _ => .none
  | .lst => .none
  | .tup ts => .tuple (toPys ts)
def toPys : List D → List PyData
  | [] => []
  | t :: r => toPy t :: toPys r
end
mutual
theorem dp_kind {K : PySem.W.Frag} {H : Hp} : ∀ {v : V} {d : D}, Rep K H v d → isK d = true → Dp K H v (toPy d)
  | _, _, .at _, k => by cases k
  | _, _, .lst _, k => by cases k
  | _, _, .tup h r, k => .tup h.sq (dp_kinds r k)
theorem dp_kinds {K : PySem.W.Frag} {H : Hp} : ∀ {xs : List V} {ds : List D}, Reps K H xs ds → isKs ds = true → DpAll K H xs (toPys ds)
  | _, _, .nil, _ => .nil
  | _, _, .cons h r, k => by
    have k' := Bool.and_eq_true_iff.mp k
    exact .cons (dp_kind h k'.1) (dp_kinds r k'.2)
end
mutual
theorem lay_kind : ∀ {d : D}, isK d = true → PyData.canLay0 (toPy d) = true
  | .at _, k => by cases k
  | .lst, k => by cases k
  | .tup ts, k => lay_kinds (l := ts) k
theorem lay_kinds : ∀ {l : List D}, isKs l = true → PyData.canLayAll0 (toPys l) = true
  | [], _ => rfl
  | t :: r, k => by
    have k' := Bool.and_eq_true_iff.mp k
    show (PyData.canLay0 (toPy t) && PyData.canLayAll0 (toPys r)) = true
    rw [lay_kind k'.1, lay_kinds k'.2]
    rfl
end
mutual
theorem depth_kind : ∀ {d : D}, isK d = true → PyData.depth (toPy d) ≤ dep d + 1
  | .at _, k => by cases k
  | .lst, k => by cases k
  | .tup ts, k => by
    have := depth_kinds (l := ts) k
    show PyData.depthAll (toPys ts) + 1 ≤ deps ts + 1
    omega
theorem depth_kinds : ∀ {l : List D}, isKs l = true → PyData.depthAll (toPys l) ≤ deps l
  | [], _ => Nat.le_refl _
  | t :: r, k => by
    have k' := Bool.and_eq_true_iff.mp k
    have h1 := depth_kind k'.1
    have h2 := depth_kinds k'.2
    show max (PyData.depth (toPy t)) (PyData.depthAll (toPys r)) ≤ max (dep t + 1) (deps r)
    omega
end
theorem shaped_kind {d : D} (k : isK d = true) (h : dep d ≤ 60) : SeqAt.shaped (toPy d) = true := by
  unfold SeqAt.shaped
  have := depth_kind k
  rw [lay_kind k, decide_eq_true (by omega)]
  rfl
/-! ### operators on tuples that stand, one way on -/
section
variable {X : Cx}
def rCatP (K : PySem.W.Frag) : R2 := fun x y H Q => ∃ a b xs ys, x = .ref a ∧ y = .ref b ∧ TupAt K H a xs ∧ TupAt K H b ys ∧ xs.length + ys.length ≤ sizeLine ∧ ∀ (c : Addr) (H' : Hp), Same H H' → TupAt K H' c (xs ++ ys) → Q (.ref c) H'
theorem op_catP : OpR X (binaryOp .Add) (rCatP X.K) := by
  intro pins s σ H x y v u Q I rx ry h
  obtain ⟨a, b, xs, ys, rfl, rfl, ha, hb, hz, q⟩ := h
  refine op_catA pins s σ H _ _ v u Q I rx ry ⟨a, b, xs, ys, rfl, rfl, ha.sq, hb.sq, hz, fun e => ?_, fun _ e => ?_, fun _ _ p np => ?_⟩
  · subst e
    exact q b H (Same.refl H) hb
  · subst e
    exact q a H (Same.refl H) (by rw [List.append_nil]; exact ha)
  · exact q p _ (fun c o e => by rw [upd_ne (ne_of_none e np)]; exact e) (.inl upd_same)
def rSlP (K : PySem.W.Frag) : V → Option Int → Option Int → Hp → VK → Prop := fun x lo hi H Q => ∃ a xs, x = .ref a ∧ TupAt K H a xs ∧ ∀ (c : Addr) (H' : Hp), Same H H' → TupAt K H' c (cutV xs lo hi) → Q (.ref c) H'
theorem sl_tupP : SlR X (rSlP X.K) := by
  intro pins s σ H x v vl vu lo hi sl Q I rx hs pl pu h
  obtain ⟨a, xs, rfl, hx, q⟩ := h
  refine sl_tupA pins s σ H _ v vl vu lo hi sl Q I rx hs pl pu ⟨a, xs, rfl, hx.sq, fun z => ?_, fun _ p np => ?_⟩
  · exact q a H (Same.refl H) (by rw [cutV_whole z]; exact hx)
  · exact q p _ (fun c o e => by rw [upd_ne (ne_of_none e np)]; exact e) (.inl upd_same)
end
end Pk

set_option maxRecDepth 100000
set_option maxHeartbeats 1000000
/-! a list of data whose items compare, place by place, as far as they are asked: sorted -/
namespace Pk
open PySem PySem.Spec PyProof.Rows L2 PySem.SeqAt

/-! ### a < b of two tuples: what stands behind the first place that differs is never asked -/
section
open AutoSeq1 (wpAny_loadPart')
open MeetsSeq MeetsSeq2 MeetsSeq3 SeqRoads2
theorem tupLt_first (p q : Addr) (us ws : Array Value) (np nq : Nat) (dp dq : Option Addr) (sp sq : Array (Option Value)) (same less : Nat → Bool) :
    Meets (Builtin.«tuple.__lt__» ⟨[.ref p, .ref q], []⟩) (fun A R s =>
      s.heap.get? p = some { cls := .type "tuple", dict := dp, data := .seq us np, slots := sp } ∧
      s.heap.get? q = some { cls := .type "tuple", dict := dq, data := .seq ws nq, slots := sq } ∧
      (∀ j (a1 : j < us.size) (a2 : j < ws.size), EqAt A.in1 s us[j] ws[j] (same j)) ∧
      (∀ j (a1 : j < us.size) (a2 : j < ws.size), (∀ m, m < j → same m = true) → same j = false → RcLt A.in1 s us[j] ws[j] (less j)) ∧
      R (.ok (.ret (.bool (firstLt same less (decide (us.size < ws.size)) (List.range (min us.size ws.size)))))) s) :=
  .of_wp fun prog w A R s all => by
    obtain ⟨h0, g0, d0, t0, o0⟩ := s
    obtain ⟨gp, gq, heq, hlt, hR⟩ := all
    have tt := AutoSeq1.sub_tuple_tuple
    have lz : (us.toList.zip ws.toList).length = min us.size ws.size := by simp
    wp_walk using wpAny_loadPart' gp, wpAny_loadPart' gq, wpAny_forIn_list _ (fun rest c s' => c.1 = none ∧ s' = ⟨h0, g0, d0, t0, o0⟩ ∧ ∃ k, rest = (us.toList.zip ws.toList).drop k ∧ (∀ m, m < k → same m = true) ∧
      R (.ok (.ret (.bool (firstLt same less (decide (us.size < ws.size)) ((List.range (min us.size ws.size)).drop k))))) ⟨h0, g0, d0, t0, o0⟩) _
    case turn =>
      rintro ⟨u, v⟩ rest c s' ⟨hc, rfl, k, hk, hs, hR'⟩
      have kz : k < (us.toList.zip ws.toList).length := by
        rcases Nat.lt_or_ge k (us.toList.zip ws.toList).length with z | z
        · exact z
        · rw [List.drop_of_length_le z] at hk
          cases hk
      have km : k < min us.size ws.size := by omega
      have k1 : k < us.size := by omega
      have k2 : k < ws.size := by omega
      rw [List.drop_eq_getElem_cons kz] at hk
      obtain ⟨huv, hrest⟩ := List.cons.inj hk
      obtain rfl : u = us[k] := by simpa using congrArg Prod.fst huv
      obtain rfl : v = ws[k] := by simpa using congrArg Prod.snd huv
      have hr : (List.range (min us.size ws.size)).drop k = k :: (List.range (min us.size ws.size)).drop (k + 1) := by
        rw [List.drop_eq_getElem_cons (by simpa using km)]
        simp
      rw [hr] at hR'
      refine wpAny_bind (heq k k1 k2 prog w _ _ ?_)
      cases sk : same k with
      | true =>
        rw [firstLt_yes sk] at hR'
        wp_walk
        refine ⟨rfl, rfl, k + 1, hrest, fun m hm => ?_, hR'⟩
        by_cases e : m = k
        · rw [e]
          exact sk
        · exact hs m (by omega)
      | false =>
        rw [firstLt_no sk] at hR'
        rw [if_pos (show (!false) = true from rfl)]
        refine wpAny_bind (wpAny_rule ?_)
        refine wpAny_bind (hlt k k1 k2 hs sk prog w _ _ ?_)
        wp_walk
        exact ⟨_, rfl, hR'⟩
    case fin =>
      rintro ⟨c1, c2⟩ s' ⟨hc, rfl, k, hk, hs, hR'⟩
      simp only at hc
      subst hc
      have kz : min us.size ws.size ≤ k := by
        rcases Nat.lt_or_ge k (us.toList.zip ws.toList).length with z | z
        · rw [List.drop_eq_getElem_cons z] at hk
          cases hk
        · omega
      rw [List.drop_of_length_le (by simpa using kz)] at hR'
      wp_walk
      exact ⟨_, rfl, by simpa [Builtin.Tuple.tupleCompareSizes, firstLt] using hR'⟩
    case h =>
      exact ⟨rfl, rfl, 0, rfl, fun m hm => absurd hm (Nat.not_lt_zero m), by simpa using hR⟩
end
theorem rcLt_first {A : Around} {s : Shared} {p q : Addr} {us ws : Array Value} {same less : Nat → Bool} (hp : s.heap.IsTuple p us) (hq : s.heap.IsTuple q ws) (hu : A.units < cLine)
    (heq : ∀ j (a1 : j < us.size) (a2 : j < ws.size), EqAt A.in1 s us[j] ws[j] (same j)) (hlt : ∀ j (a1 : j < us.size) (a2 : j < ws.size), (∀ m, m < j → same m = true) → same j = false → RcLt A.in1 s us[j] ws[j] (less j)) :
    RcLt A s (.ref p) (.ref q) (firstLt same less (decide (us.size < ws.size)) (List.range (min us.size ws.size))) := by
  intro prog w E Q hQ
  obtain ⟨⟨c1, d1, x1, l1⟩, g1, e1, n1, y1⟩ := id hp
  obtain ⟨⟨c2, d2, x2, l2⟩, g2, e2, n2, y2⟩ := id hq
  simp only at e1 y1 e2 y2
  subst e1 y1 e2 y2
  refine richCompare_meets_room (op := .Lt) ⟨_, g1, rfl⟩ ⟨_, g2, rfl⟩ F.slot_tuple_lt F.entry_tuple_lt (F.args_tuple_lt_2 _ _) (tupLt_first p q us ws n1 n2 d1 d2 l1 l2 same less) ⟨g1, g2, heq, hlt, ?_⟩ hu
  show Value.bool _ ≠ Value.notImplemented ∧ Q _ s
  exact ⟨(fun z => nomatch z), hQ⟩

/-! ### data that compare as far as they are asked -/
mutual
def cpb : PyData → PyData → Bool
  | .none, .none => true
  | .bool _, .bool _ => true
  | .int _, .int _ => true
  | .str _, .str _ => true
  | .tuple xs, .tuple ys => cpbs xs ys
  | _, _ => false
def cpbs : List PyData → List PyData → Bool
  | x :: xs, y :: ys => cpb x y && (PyData.eqv x y == false || cpbs xs ys)
  | [], _ => true
  | _ :: _, [] => true
end
mutual
def dlt : PyData → PyData → Bool
  | .bool x, .bool y => decide (b2i x < b2i y)
  | .int x, .int y => decide (x < y)
  | .str x, .str y => decide (x.cps.toList < y.cps.toList)
  | .tuple xs, .tuple ys => dlts xs ys
  | _, _ => false
def dlts : List PyData → List PyData → Bool
  | x :: xs, y :: ys => if PyData.eqv x y = true then dlts xs ys else dlt x y
  | [], [] => false
  | [], _ :: _ => true
  | _ :: _, [] => false
end
theorem cpbs_cons {x y : PyData} {xs ys : List PyData} (h : cpbs (x :: xs) (y :: ys) = true) : cpb x y = true ∧ (PyData.eqv x y = true → cpbs xs ys = true) := by
  rw [cpbs] at h
  have k := Bool.and_eq_true_iff.mp h
  refine ⟨k.1, fun e => ?_⟩
  have k2 := k.2
  rw [e] at k2
  exact k2
theorem cpb_none {x y : PyData} (h : cpb x y = true) (e : PyData.eqv x y = false) : x ≠ .none := by
  rintro rfl
  cases y with
  | none => exact absurd e (by simp [PyData.eqv])
  | _ => exact absurd h (by simp [cpb])
theorem firstLt_dlts : ∀ (xs ys : List PyData),
    firstLt (pairEq xs ys) (fun j => dlt (xs.getD j .none) (ys.getD j .none)) (decide (xs.length < ys.length)) (List.range (min xs.length ys.length)) = dlts xs ys
  | [], [] => by simp [firstLt, dlts]
  | [], y :: ys => by simp [firstLt, dlts]
  | x :: xs, [] => by simp [firstLt, dlts]
  | x :: xs, y :: ys => by
    have more := firstLt_dlts xs ys
    have lm : min (x :: xs).length (y :: ys).length = min xs.length ys.length + 1 := by
      simp only [List.length_cons]
      omega
    have ld : decide ((x :: xs).length < (y :: ys).length) = decide (xs.length < ys.length) := by
      simp only [List.length_cons]
      exact decide_eq_decide.mpr (by omega)
    rw [lm, ld, List.range_succ_eq_map, dlts]
    cases hxy : PyData.eqv x y with
    | true =>
      rw [firstLt_yes (show pairEq (x :: xs) (y :: ys) 0 = true from hxy), PySem.W.firstLt_map, if_pos rfl, ← more]
      rfl
    | false =>
      rw [firstLt_no (show pairEq (x :: xs) (y :: ys) 0 = false from hxy), if_neg Bool.false_ne_true]
      rfl
mutual
theorem rcLt_cpb : ∀ (da db : PyData) (A : Around) (s : Shared) (a b : Value) (as bs : List Addr), Reads s.heap a da as → Reads s.heap b db bs → da.plain = true → db.plain = true → cpb da db = true → da ≠ .none →
    A.units + min da.depth db.depth < cLine → RcLt A s a b (dlt da db)
  | .none, _, _, _, _, _, _, _, _, _, _, _, _, no, _ => absurd rfl no
  | .bool x, db, _, _, _, _, _, _, ra, rb, _, _, h, _, _ => by
    cases db with
    | bool y =>
      cases ra
      cases rb
      exact fun prog w E Q q => lt_bool q
    | _ => cases h
  | .int x, db, _, _, _, _, _, _, ra, rb, _, _, h, _, _ => by
    cases db with
    | int y =>
      cases ra
      cases rb
      exact fun prog w E Q q => PyProof.Rows.lt_int q
    | _ => cases h
  | .str x, db, _, _, _, _, _, _, ra, rb, _, _, h, _, _ => by
    cases db with
    | str y =>
      cases ra
      cases rb
      exact fun prog w E Q q => PyProof.Rows.lt_str q
    | _ => cases h
  | .tuple xs, db, A, s, a, b, as, bs, ra, rb, pa, pb, h, _, hu => by
    cases db with
    | tuple ys =>
      have hc : cpbs xs ys = true := h
      cases ra with
      | @tuple l o vs n _ _ e1 e2 e3 e4 =>
        cases rb with
        | @tuple l' o' vs' n' _ _ f1 f2 f3 f4 =>
          have n1 : vs.size = xs.length := by simpa using ReadsAll.length _ _ _ e4
          have n2 : vs'.size = ys.length := by simpa using ReadsAll.length _ _ _ f4
          show RcLt A s (.ref l) (.ref l') (dlts xs ys)
          rw [← firstLt_dlts xs ys, ← n1, ← n2]
          refine rcLt_first ⟨_, e1, e2, _, e3⟩ ⟨_, f1, f2, _, f3⟩ (room_here hu) (fun j j1 j2 => ?_) (fun j j1 j2 hm hj => ?_)
          · have z := eqAt_plainAll xs ys A.in1 s vs.toList vs'.toList _ _ e4 f4 pa pb (room_in hu) j (by simpa using j1) (by simpa using j2)
            simpa using z
          · have z := rcLt_cpbs xs ys A.in1 s vs.toList vs'.toList _ _ e4 f4 pa pb hc (room_in hu) j (by simpa using j1) (by simpa using j2) hm hj
            simpa using z
    | _ => cases h
  | .list _, db, _, _, _, _, _, _, _, _, _, _, h, _, _ => by cases db <;> cases h
  | .dict _, db, _, _, _, _, _, _, _, _, _, _, h, _, _ => by cases db <;> cases h
theorem rcLt_cpbs : ∀ (xs ys : List PyData) (A : Around) (s : Shared) (vs ws : List Value) (as bs : List Addr), ReadsAll s.heap vs xs as → ReadsAll s.heap ws ys bs → PyData.plainAll xs = true → PyData.plainAll ys = true → cpbs xs ys = true →
    A.units + min (PyData.depthAll xs) (PyData.depthAll ys) < cLine → ∀ j (h1 : j < vs.length) (h2 : j < ws.length), (∀ m, m < j → pairEq xs ys m = true) → pairEq xs ys j = false → RcLt A s vs[j] ws[j] (dlt (xs.getD j .none) (ys.getD j .none))
  | [], _, _, _, _, _, _, _, ra, _, _, _, _, _, j, h1, _, _, _ => by
    cases ra
    exact absurd h1 (Nat.not_lt_zero j)
  | _ :: _, [], _, _, _, _, _, _, _, rb, _, _, _, _, j, _, h2, _, _ => by
    cases rb
    exact absurd h2 (Nat.not_lt_zero j)
  | x :: xs, y :: ys, A, s, _, _, _, _, ra, rb, pa, pb, hc, hu, j, h1, h2, hm, hj => by
    have pa' : x.plain = true ∧ PyData.plainAll xs = true := by simpa [PyData.plainAll] using pa
    have pb' : y.plain = true ∧ PyData.plainAll ys = true := by simpa [PyData.plainAll] using pb
    obtain ⟨c1, c2⟩ := cpbs_cons hc
    cases ra with
    | cons r rs =>
      cases rb with
      | cons t ts =>
        cases j with
        | zero => exact rcLt_cpb x y A s _ _ _ _ r t pa'.1 pb'.1 c1 (cpb_none c1 hj) (room_head hu)
        | succ j => exact rcLt_cpbs xs ys A s _ _ _ _ rs ts pa'.2 pb'.2 (c2 (hm 0 (Nat.succ_pos j))) (room_tail hu) j (Nat.lt_of_succ_lt_succ h1) (Nat.lt_of_succ_lt_succ h2) (fun m hmj => hm (m + 1) (Nat.succ_lt_succ hmj)) hj
end
/-! ### sorting them -/
section
variable {prog : Program} {w : World} {A : Around} {E : Value → Shared → Prop} {s : Shared}
theorem kat_cpbs {fin : Bool} {Q : Bool → Shared → Prop} : ∀ (xs ys : List PyData) (i : Nat) (vs ws : List Value) (as bs : List Addr), ReadsAll s.heap vs xs as → ReadsAll s.heap ws ys bs → PyData.plainAll xs = true → PyData.plainAll ys = true → cpbs xs ys = true →
    A.units + min (PyData.depthAll xs) (PyData.depthAll ys) < cLine → fin = decide (xs.length < ys.length) → Q (dlts xs ys) s → PySem.W.KatLex prog w A false fin Q (vs.zip ws) i s
  | [], [], i, _, _, _, _, ra, rb, _, _, _, _, hf, hq => by
    cases ra
    cases rb
    rw [show fin = false from hf]
    exact PySem.W.kat_nil hq
  | [], y :: ys, i, _, _, _, _, ra, rb, _, _, _, _, hf, hq => by
    cases ra
    rw [List.zip_nil_left, show fin = true from hf.trans (decide_eq_true (Nat.succ_pos _))]
    exact PySem.W.kat_nil hq
  | x :: xs, [], i, _, _, _, _, ra, rb, _, _, _, _, hf, hq => by
    cases rb
    rw [List.zip_nil_right, show fin = false from hf.trans (decide_eq_false (Nat.not_lt_zero _))]
    exact PySem.W.kat_nil hq
  | x :: xs, y :: ys, i, _, _, _, _, ra, rb, pa, pb, hc, hu, hf, hq => by
    have pa' : x.plain = true ∧ PyData.plainAll xs = true := by simpa [PyData.plainAll] using pa
    have pb' : y.plain = true ∧ PyData.plainAll ys = true := by simpa [PyData.plainAll] using pb
    obtain ⟨c1, c2⟩ := cpbs_cons hc
    cases ra with
    | cons r rs =>
      cases rb with
      | cons t ts =>
        refine PySem.W.kat_cons (eqAt_plain x y A s _ _ _ _ r t pa'.1 pb'.1 (room_head hu) prog w _ _ ?_)
        rw [dlts] at hq
        cases e : PyData.eqv x y with
        | true =>
          rw [e, if_pos rfl] at hq
          exact PySem.W.kat_yes (kat_cpbs xs ys (i + 1) _ _ _ _ rs ts pa'.2 pb'.2 (c2 e) (room_tail hu) (hf.trans (decide_eq_decide.mpr (by simp only [List.length_cons]; omega))) hq)
        | false =>
          rw [e, if_neg Bool.false_ne_true] at hq
          refine PySem.W.kat_no ?_
          rw [Bool.false_and]
          exact PySem.W.kat_one _ _ (rcLt_cpb x y A s _ _ _ _ r t pa'.1 pb'.1 c1 (cpb_none c1 e) (room_head hu) prog w _ _ hq)
/-- items that stand as data by enc, ordered by tok -/
noncomputable def encKind {β : Type} (h : Heap) (bs : List β) (enc : β → PyData) (tok : β → List (Int ⊕ List Nat)) : PyProof.Rows.KeyKind where
  toKeyOrd := listOrd itemOrd
  keyOf v := open Classical in if q : ∃ b, b ∈ bs ∧ ∃ as, Reads h v (enc b) as then some (tok q.choose) else none
  dflt := ([] : List (Int ⊕ List Nat))
variable {β : Type} {enc : β → PyData} {tok : β → List (Int ⊕ List Nat)} {bs : List β}
theorem encKind_some {h : Heap} (pl : ∀ b ∈ bs, (enc b).plain = true) (inj : ∀ b ∈ bs, ∀ c ∈ bs, enc b = enc c → tok b = tok c) {v : Value} {b : β} {as : List Addr} (hb : b ∈ bs) (r : Reads h v (enc b) as) : (encKind h bs enc tok).keyOf v = some (tok b) := by
  have q : ∃ b, b ∈ bs ∧ ∃ as, Reads h v (enc b) as := ⟨b, hb, as, r⟩
  have e : (encKind h bs enc tok).keyOf v = some (tok q.choose) := dif_pos q
  obtain ⟨h1, as', h2⟩ := q.choose_spec
  rw [e, inj _ h1 _ hb (SeqAt.plain_unique _ _ _ _ _ (pl _ h1) h2 r)]
theorem encKind_inv {h : Heap} {v : Value} {k : List (Int ⊕ List Nat)} (e : (encKind h bs enc tok).keyOf v = some k) : ∃ b as, b ∈ bs ∧ Reads h v (enc b) as ∧ k = tok b := by
  by_cases q : ∃ b, b ∈ bs ∧ ∃ as, Reads h v (enc b) as
  · have e' : (encKind h bs enc tok).keyOf v = some (tok q.choose) := dif_pos q
    obtain ⟨h1, as', h2⟩ := q.choose_spec
    rw [e'] at e
    exact ⟨_, as', h1, h2, (Option.some.inj e).symm⟩
  · have e' : (encKind h bs enc tok).keyOf v = none := dif_neg q
    rw [e'] at e
    cases e
theorem sortsAt_enc {vs : List Value} (e : PySem.W.EachIs (fun v b => ∃ as, Reads s.heap v (enc b) as) vs bs) (pl : ∀ b ∈ bs, (enc b).plain = true) (inj : ∀ b ∈ bs, ∀ c ∈ bs, enc b = enc c → tok b = tok c)
    (tt : ∀ b ∈ bs, ∃ x r, enc b = .tuple (.tuple x :: r)) (cmp : ∀ b ∈ bs, ∀ c ∈ bs, cpb (enc b) (enc c) = true ∧ dlt (enc b) (enc c) = PyProof.Rows.lexLt itemOrd (tok b) (tok c)) (hu : ∀ b ∈ bs, A.units + (enc b).depth < cLine) :
    PySem.W.SortsAt prog w A s (encKind s.heap bs enc tok) vs := by
  refine ⟨fun v hv => ?_, tuples' false, ?_, fun h2 E Q hq => ?_⟩
  · obtain ⟨b, hb, as, r⟩ := e.left v hv
    exact ⟨_, encKind_some pl inj hb r⟩
  · intro E x y a b Q ha hb hq
    obtain ⟨d, as, hd, ra, rfl⟩ := encKind_inv ha
    obtain ⟨c, cs, hc, rb, rfl⟩ := encKind_inv hb
    obtain ⟨c1, c2⟩ := cmp d hd c hc
    have hq' : Q (dlt (enc d) (enc c)) s := by
      rw [c2]
      exact hq
    have p1 := pl d hd
    have p2 := pl c hc
    have room : A.units + min (enc d).depth (enc c).depth < cLine := Nat.lt_of_le_of_lt (Nat.add_le_add_left (Nat.min_le_left _ _) _) (hu d hd)
    obtain ⟨x1, r1, e1⟩ := tt d hd
    obtain ⟨x2, r2, e2⟩ := tt c hc
    rw [e1] at ra hq' c1 p1 room
    rw [e2] at rb hq' c1 p2 room
    cases ra with
    | @tuple l o us n _ _ g1 g2 g3 g4 =>
      cases rb with
      | @tuple l' o' us' n' _ _ k1 k2 k3 k4 =>
        have n1 : us.size = (PyData.tuple x1 :: r1).length := by simpa using ReadsAll.length _ _ _ g4
        have n2 : us'.size = (PyData.tuple x2 :: r2).length := by simpa using ReadsAll.length _ _ _ k4
        exact PySem.W.kat_lt g1 g3 k1 k3 (kat_cpbs _ _ 0 _ _ _ _ g4 k4 p1 p2 c1 (by have z := room_in room; omega) (by rw [n1, n2]) hq')
  · have e3 : PySem.W.EachIs (fun v d => ∃ as, Reads s.heap v d as) vs (bs.map enc) := PySem.W.each_map (R := fun v d => ∃ as, Reads s.heap v d as) enc e
    obtain ⟨fs, t1, t2, t3⟩ := PySem.W.each_katTups e3 (fun d hd => by
      obtain ⟨b, hb, rfl⟩ := List.mem_map.mp hd
      obtain ⟨x, r, e⟩ := tt b hb
      exact ⟨_, _, e⟩)
    refine PySem.W.kat_kind (T := .type "tuple") t1 (by omega) (fun f hf => ?_) (beq_self_eq_true _) ?_
    · obtain ⟨x, r, as, m1, m2⟩ := t3 f hf
      obtain ⟨b, hb, e1⟩ := List.mem_map.mp m1
      obtain ⟨x', r', e2⟩ := tt b hb
      rw [e2] at e1
      injection e1 with e1
      obtain ⟨rfl, _⟩ := List.cons.inj e1
      exact PySem.W.looks_reads m2
    · have z : (Value.type "tuple" != Value.type "tuple") = false := by first | decide +kernel | rfl
      rw [z]
      exact hq
end

/-! ### as a rule of the layer: sorted of a list of data -/
mutual
def noLd : D → Bool
  | .tup ts => noLds ts
  | .at _ => true
  | .lst => false
def noLds : List D → Bool
  | [] => true
  | t :: r => noLd t && noLds r
end
mutual
theorem dp_noL {K : PySem.W.Frag} {H : Hp} : ∀ {v : V} {d : D}, Rep K H v d → noLd d = true → Dp K H v (toPy d)
  | v, _, .at h, _ => by
    cases v with
    | non => exact .non
    | bl b => exact .bl b
    | int i => exact .int i
    | str x => exact .str x
    | byt _ => cases h
    | flt _ => cases h
    | ref _ => cases h
    | ty _ => cases h
  | _, _, .lst _, k => by cases k
  | _, _, .tup h r, k => .tup h.sq (dp_noLs r k)
theorem dp_noLs {K : PySem.W.Frag} {H : Hp} : ∀ {xs : List V} {ds : List D}, Reps K H xs ds → noLds ds = true → DpAll K H xs (toPys ds)
  | _, _, .nil, _ => .nil
  | _, _, .cons h r, k => by
    have k' := Bool.and_eq_true_iff.mp k
    exact .cons (dp_noL h k'.1) (dp_noLs r k'.2)
end
mutual
theorem plain_noL : ∀ d : D, noLd d = true → (toPy d).plain = true
  | .at v, _ => by cases v <;> rfl
  | .lst, k => by cases k
  | .tup ts, k => plain_noLs ts k
theorem plain_noLs : ∀ l : List D, noLds l = true → PyData.plainAll (toPys l) = true
  | [], _ => rfl
  | t :: r, k => by
    have k' := Bool.and_eq_true_iff.mp k
    show ((toPy t).plain && PyData.plainAll (toPys r)) = true
    rw [plain_noL t k'.1, plain_noLs r k'.2]
    rfl
end
mutual
theorem depth_noL : ∀ d : D, (toPy d).depth ≤ dep d + 1
  | .at v => by cases v <;> exact Nat.zero_le _
  | .lst => Nat.zero_le _
  | .tup ts => Nat.succ_le_succ (depth_noLs ts)
theorem depth_noLs : ∀ l : List D, PyData.depthAll (toPys l) ≤ deps l
  | [] => Nat.zero_le _
  | t :: r => by
    have h1 := depth_noL t
    have h2 := depth_noLs r
    show max (toPy t).depth (PyData.depthAll (toPys r)) ≤ max (dep t + 1) (deps r)
    omega
end
section
variable {β : Type} {R : Value → β → Prop}
/-- the items sorted -/
def sortE (tok : β → List (Int ⊕ List Nat)) (bs : List β) : List β := bs.mergeSort (PySem.W.sortLe (listOrd itemOrd) false tok)
theorem sortE_perm (tok : β → List (Int ⊕ List Nat)) (bs : List β) : (sortE tok bs).Perm bs := List.mergeSort_perm _ _
/-- what is to be known of an encoding -/
structure Enc (dat : β → D) (tok : β → List (Int ⊕ List Nat)) (ok : β → Prop) : Prop where
  nol : ∀ b, ok b → noLd (dat b) = true
  dep : ∀ b, ok b → dep (dat b) ≤ 30
  inj : ∀ b c, ok b → ok c → toPy (dat b) = toPy (dat c) → tok b = tok c
  tup : ∀ b, ok b → ∃ x r, dat b = .tup (.tup x :: r)
  cmp : ∀ b c, ok b → ok c → cpb (toPy (dat b)) (toPy (dat c)) = true ∧ dlt (toPy (dat b)) (toPy (dat c)) = PyProof.Rows.lexLt itemOrd (tok b) (tok c)
def rSortE (K : PySem.W.Frag) (dat : β → D) (tok : β → List (Int ⊕ List Nat)) (ok : β → Prop) : List V → Hp → VK → Prop := fun vs H Q => ∃ (a : Addr) (xs : List V) (bs : List β), vs = [V.ref a] ∧ SqL K H a xs ∧ Reps K H xs (bs.map dat) ∧ (∀ b ∈ bs, ok b) ∧
  ∀ (ys : List V) (p : Addr), Reps K H ys ((sortE tok bs).map dat) → H p = none → Q (.ref p) (upd H p (.lst ys))
theorem reps_each {X : Cx} {pins : List (Addr × Obj)} {σ : L2.St} {H : Hp} {s : Shared} (I : Inv X pins σ H s) {dat : β → D} : ∀ {xs : List V} {us : List Value} {bs : List β}, Reps X.K H xs (bs.map dat) → Vals xs us → (∀ b ∈ bs, noLd (dat b) = true) →
    PySem.W.EachIs (fun v b => (∃ as, Reads s.heap v (toPy (dat b)) as) ∧ ∃ x, RelV x v ∧ Rep X.K H x (dat b)) us bs
  | [], us, bs, r, rv, hk => by
    cases rv
    cases bs with
    | nil => exact .nil
    | cons b bs => cases r
  | x :: xs, us, bs, r, rv, hk => by
    cases bs with
    | nil => cases r
    | cons b bs =>
      cases rv with
      | cons rv0 rvs =>
        cases r with
        | cons r0 rs =>
          obtain ⟨as, z⟩ := Dp.reads I (toPy (dat b)) x _ (dp_noL r0 (hk b (List.mem_cons_self ..))) rv0
          exact .cons ⟨⟨as, z⟩, x, rv0, r0⟩ (reps_each I rs rvs fun c hc => hk c (List.mem_cons_of_mem _ hc))
theorem each_back {K : PySem.W.Frag} {H : Hp} {dat : β → D} : ∀ {us : List Value} {bs : List β}, PySem.W.EachIs (fun v b => ∃ x, RelV x v ∧ Rep K H x (dat b)) us bs → ∃ xs, Vals xs us ∧ Reps K H xs (bs.map dat)
  | _, _, .nil => ⟨[], .nil, .nil⟩
  | _, _, .cons ⟨x, h1, h2⟩ t => by
    obtain ⟨xs, r1, r2⟩ := each_back t
    exact ⟨x :: xs, .cons h1 r1, .cons h2 r2⟩
theorem cr_sortE {X : Cx} {dat : β → D} {tok : β → List (Int ⊕ List Nat)} {ok : β → Prop} (hu : X.A.units + 64 < cLine) (N : Enc dat tok ok) : CallR X (.builtin "sorted") (rSortE X.K dat tok ok) := by
  intro pins s σ H vs us Q I r h
  obtain ⟨a, xs, bs, rfl, hs, hr, hok, q⟩ := h
  obtain ⟨its, rv, hl, hz⟩ := I.list hs
  obtain ⟨u, rfl, ru⟩ := vals1 r
  obtain rfl : u = Value.ref a := ru
  have each := reps_each I hr rv fun b hb => N.nol b (hok b hb)
  have hlen : its.length ≤ sizeLine := by
    rw [← rv.length]
    exact hz
  have keep : ∀ b o, s.heap.get? b = some o → (PySem.W.sortingHeap (PySem.W.copyHeap s.heap its) (s.heap.objs.size + 1) its).get? b = some o := fun b o e => PySem.W.sorting_copy_old e
  have S : PySem.W.SortsAt X.prog X.w X.A.in1.in1 { s with heap := PySem.W.sortingHeap (PySem.W.copyHeap s.heap its) (s.heap.objs.size + 1) its } (encKind (PySem.W.sortingHeap (PySem.W.copyHeap s.heap its) (s.heap.objs.size + 1) its) bs (fun b => toPy (dat b)) tok) its := by
    refine sortsAt_enc (each.mono fun v b z => ?_) (fun b hb => plain_noL _ (N.nol b (hok b hb))) (fun b hb c hc => N.inj b c (hok b hb) (hok c hc)) (fun b hb => ?_) (fun b hb c hc => N.cmp b c (hok b hb) (hok c hc)) (fun b hb => ?_)
    · obtain ⟨⟨as, r⟩, _⟩ := z
      exact ⟨as, Reads.keeps keep r⟩
    · obtain ⟨x, r, e⟩ := N.tup b (hok b hb)
      rw [e]
      exact ⟨_, _, rfl⟩
    · have h1 := depth_noL (dat b)
      have h2 := N.dep b (hok b hb)
      show X.A.units + 1 + 1 + (toPy (dat b)).depth < cLine
      omega
  refine PySem.W.sorted_vals hl.isList S hlen ?_
  have out : PySem.W.EachIs (fun v b => ∃ x, RelV x v ∧ Rep X.K H x (dat b)) (PySem.W.sortVals (encKind (PySem.W.sortingHeap (PySem.W.copyHeap s.heap its) (s.heap.objs.size + 1) its) bs (fun b => toPy (dat b)) tok) false its its) (sortE tok bs) := by
    refine PySem.W.sortVals_each (κ := encKind (PySem.W.sortingHeap (PySem.W.copyHeap s.heap its) (s.heap.objs.size + 1) its) bs (fun b => toPy (dat b)) tok) tok (each.mono fun v b z => z.2) ?_
    refine (PySem.W.each_mem each).mono fun v b z => ?_
    obtain ⟨⟨⟨as, r⟩, _⟩, hb⟩ := z
    exact encKind_some (fun b hb => plain_noL _ (N.nol b (hok b hb))) (fun b hb c hc => N.inj b c (hok b hb) (hok c hc)) hb (Reads.keeps keep r)
  obtain ⟨ys, v1, r1⟩ := each_back out
  have hl2 := v1.length
  rw [PySem.W.sortVals_length _ rfl] at hl2
  obtain ⟨n, hn⟩ := PyProof.Rows.sortedAll_at s.heap its (PySem.W.sortVals (encKind (PySem.W.sortingHeap (PySem.W.copyHeap s.heap its) (s.heap.objs.size + 1) its) bs (fun b => toPy (dat b)) tok) false its its).toArray
  refine ⟨.ref _, _, I.laid (t' := s.toks) (o := .lst ys) (fun b o e => PyProof.Rows.sortedAll_old e) (Nat.le_succ _) ⟨?_, _, n, v1, hn⟩, rfl, q ys _ r1 (I.hok.fresh (Nat.le_succ _))⟩
  omega
end
end Pk

set_option maxRecDepth 100000
set_option maxHeartbeats 1000000
/-! dicts whose keys are data: tuples of numbers, texts, None, truth values, and of such -/
namespace Pk
open PySem PySem.Spec PyProof.Rows L2
mutual
/-- data as a key -/
def kyD : D → NestedKey
  | .at .non => .none
  | .at (.int i) => .num i
  | .at (.str x) => .text x
  | .at (.bl b) => .num (if b = true then 1 else 0)
  | .at _ => .none
  | .lst => .none
  | .tup ts => .tup (kyDs ts)
def kyDs : List D → List NestedKey
  | [] => []
  | t :: r => kyD t :: kyDs r
end
mutual
theorem ky_depth : ∀ d : D, (kyD d).depth ≤ dep d + 1
  | .at v => by cases v <;> exact Nat.zero_le _
  | .lst => Nat.zero_le _
  | .tup ts => Nat.succ_le_succ (ky_depths ts)
theorem ky_depths : ∀ l : List D, NestedKey.depthAll (kyDs l) ≤ deps l
  | [] => Nat.le_refl _
  | t :: r => by
    have h1 := ky_depth t
    have h2 := ky_depths r
    show max (kyD t).depth (NestedKey.depthAll (kyDs r)) ≤ max (dep t + 1) (deps r)
    omega
end
section
variable {X : Cx} {pins : List (Addr × Obj)} {σ : L2.St} {H : Hp} {s : Shared}
mutual
theorem nest_is (I : Inv X pins σ H s) : ∀ {v : V} {d : D} {u : Value}, Rep X.K H v d → noLd d = true → RelV v u → NestedIs s.heap (kyD d) u
  | v, _, u, .at h, _, r => by
    cases v with
    | non => cases r; exact .none
    | bl b => cases r; exact .bool rfl
    | int i => obtain ⟨t, rfl⟩ := r; exact .int _ _
    | str x => obtain ⟨t, rfl⟩ := r; exact .text _ _
    | byt _ => cases h
    | flt _ => cases h
    | ref _ => cases h
    | ty _ => cases h
  | _, _, _, .lst _, k, _ => by cases k
  | _, _, u, .tup h rs, k, r => by
    obtain ⟨its, rv, p, hz⟩ := I.tuple h.sq
    obtain ⟨⟨cls, dd, data, sl⟩, ho, hc, n, hd⟩ := p
    cases r
    exact .tup ho hc hd (nest_all I rs k rv)
theorem nest_all (I : Inv X pins σ H s) : ∀ {xs : List V} {ds : List D} {us : List Value}, Reps X.K H xs ds → noLds ds = true → Vals xs us → NestedAll s.heap (kyDs ds) us
  | _, _, _, .nil, _, rv => by cases rv; exact .nil
  | _, _, _, .cons h rs, k, rv => by
    have k' := Bool.and_eq_true_iff.mp k
    cases rv with
    | cons r0 rv => exact .cons (nest_is I h k'.1 r0) (nest_all I rs k'.2 rv)
end
end
/-- the tuple at b is the key k -/
def KeyAt (K : PySem.W.Frag) (H : Hp) (k : NestedKey) (b : Addr) : Prop := ∃ d, Rep K H (.ref b) d ∧ noLd d = true ∧ dep d ≤ 7 ∧ kyD d = k
theorem KeyAt.mono {K : PySem.W.Frag} {H H' : Hp} {k : NestedKey} {b : Addr} (x : KeyAt K H k b) (m : Kx H H') : KeyAt K H' k b :=
  let ⟨d, r, n, z, e⟩ := x; ⟨d, r.mono m, n, z, e⟩
theorem KeyAt.is {X : Cx} {pins : List (Addr × Obj)} {σ : L2.St} {H : Hp} {s : Shared} {k : NestedKey} {b : Addr} (I : Inv X pins σ H s) (x : KeyAt X.K H k b) : (nestedKind X.prog X.w).is s.heap k b := by
  obtain ⟨d, r, n, z, rfl⟩ := x
  refine ⟨nest_is I r n rfl, ?_⟩
  have := ky_depth d
  omega
abbrev Ent := NestedKey × Addr × V
abbrev QR : List Ent → List (NestedKey × Addr × Value) → Prop := Paired fun p q => p.1 = q.1 ∧ p.2.1 = q.2.1 ∧ RelV p.2.2 q.2.2
def atV (xs : List Ent) (k : NestedKey) : Option V := (xs.find? fun x => decide (x.1 = k)).map (·.2.2)
def putV (xs : List Ent) (k : NestedKey) (a : Addr) (v : V) : List Ent :=
  if (atV xs k).isSome then xs.map (fun x => if x.1 = k then (x.1, x.2.1, v) else x) else xs ++ [(k, a, v)]
theorem QR.val : ∀ {xs : List Ent} {vs : List (NestedKey × Addr × Value)}, QR xs vs → ∀ k, RelO (atV xs k) ((atKey vs k).map (·.2))
  | _, _, .nil, k => True.intro
  | x :: xs, y :: vs, .cons ⟨h1, h2, h3⟩ t, k => by
    have ih := QR.val t k
    unfold atV atKey at ih ⊢
    rw [List.find?_cons, List.find?_cons, ← h1]
    by_cases e : x.1 = k
    · rw [decide_eq_true e]
      exact h3
    · rw [decide_eq_false e]
      exact ih
theorem QR.repl {k : NestedKey} {v : V} {r : Value} (rv : RelV v r) : ∀ {xs : List Ent} {vs : List (NestedKey × Addr × Value)}, QR xs vs → QR (xs.map (fun x => if x.1 = k then (x.1, x.2.1, v) else x)) (vs.map (putAt k r))
  | _, _, .nil => .nil
  | x :: xs, y :: vs, .cons ⟨h1, h2, h3⟩ t => by
    refine .cons ?_ (QR.repl rv t)
    unfold putAt
    dsimp only
    rw [← h1]
    by_cases e : x.1 = k
    · rw [if_pos e, if_pos e]
      exact ⟨rfl, h2, rv⟩
    · rw [if_neg e, if_neg e]
      exact ⟨h1, h2, h3⟩
theorem QR.app : ∀ {xs xs' : List Ent} {vs vs' : List (NestedKey × Addr × Value)}, QR xs vs → QR xs' vs' → QR (xs ++ xs') (vs ++ vs')
  | _, _, _, _, .nil, s => s
  | _, _, _, _, .cons h t, s => .cons h (QR.app t s)
theorem isSome_val {o : Option V} {u : Option (Addr × Value)} (h : RelO o (u.map (·.2))) : o.isSome = u.isSome := by
  have := h.isSome_eq
  rwa [Option.isSome_map] at this
theorem QR.put {xs : List Ent} {vs : List (NestedKey × Addr × Value)} (q : QR xs vs) (k : NestedKey) (a : Addr) {v : V} {r : Value} (rv : RelV v r) : QR (putV xs k a v) (storedH vs k a r) := by
  have e := isSome_val (q.val k)
  unfold putV storedH
  rw [e]
  by_cases h : (atKey vs k).isSome = true
  · rw [if_pos h, if_pos h]
    exact q.repl rv
  · rw [if_neg h, if_neg h]
    exact q.app (.cons ⟨rfl, rfl, rv⟩ .nil)
theorem QR.length {xs : List Ent} {vs : List (NestedKey × Addr × Value)} (q : QR xs vs) : xs.length = vs.length := Paired.length q
theorem length_putV (xs : List Ent) (k : NestedKey) (a : Addr) (v : V) : (putV xs k a v).length ≤ xs.length + 1 := by
  unfold putV
  split
  · rw [List.length_map]
    omega
  · rw [List.length_append]
    exact Nat.le_refl _
/-- at a: a dict of these keys, their tuples, their values -/
def DkR (P : Program) (w : World) (a : Addr) (xs : List Ent) (h : Heap) : Prop :=
  (a == sysModules) = false ∧ ∃ vs, QR xs vs ∧ ∃ o es ep, h.get? a = some o ∧ o.ExactDict ∧ o.data = .dict es ep ∧ es.toList = vs.map (entryOfKey (nestedKind P w)) ∧ (vs.map (·.1)).Nodup
def DkO (P : Program) (w : World) (a : Addr) (xs : List Ent) : HO := .ext (DkR P w a xs)
theorem dk_ok {P : Program} {w : World} {H : Hp} {h : Heap} {a : Addr} {xs : List Ent} (r : DkR P w a xs h) : ObjOk P w H h a (DkO P w a xs) := by
  have r' := r
  obtain ⟨h1, vs, q, o, es, ep, h2, h3⟩ := r
  refine ⟨r', ⟨o, h2⟩, fun x y p k => ?_⟩
  obtain ⟨g1, vs, q, o, es, ep, g2, g3⟩ := p
  exact ⟨g1, vs, q, o, es, ep, k _ g2, g3⟩
/-- a dict that may be read at a, its keys as tuples that stand -/
structure DkT (P : Program) (w : World) (K : PySem.W.Frag) (H : Hp) (a : Addr) (xs : List Ent) : Prop where
  rd : Rd H a (DkO P w a xs)
  ks : ∀ e ∈ xs, KeyAt K H e.1 e.2.1
section
variable {X : Cx} {pins : List (Addr × Obj)} {σ : L2.St} {H : Hp} {s : Shared} {a : Addr} {xs : List Ent}
theorem DkT.of (I : Inv X pins σ H s) (d : DkT X.prog X.w X.K H a xs) : (a == sysModules) = false ∧ ∃ vs, QR xs vs ∧ s.heap.DictOfH (nestedKind X.prog X.w) a vs := by
  obtain ⟨h1, vs, q, o, es, ep, h2, h3, h4, h5, h6⟩ := (d.rd.ok I.hok).1
  refine ⟨h1, vs, q, o, es, ep, h2, h3, h4, h5, fun y hy => ?_, h6⟩
  obtain ⟨j, hj⟩ := List.mem_iff_getElem?.mp hy
  have lq := q.length
  have hl := (List.getElem?_eq_some_iff.mp hj).1
  have hx : xs[j]? = some (xs[j]'(by omega)) := List.getElem?_eq_getElem _
  obtain ⟨b, hb, e1, e2, _⟩ := paired_get q hx
  rw [hj] at hb
  cases hb
  have := (d.ks _ (List.mem_of_getElem? hx)).is I
  rw [e1, e2] at this
  exact this
theorem DkT.put_ok {h' : Heap} {k : NestedKey} {b : Addr} {v : V} {r : Value} {vs : List (NestedKey × Addr × Value)} (P : Program) (w : World) (q : QR xs vs) (rv : RelV v r) (hd : (a == sysModules) = false) (d : h'.DictOfH (nestedKind P w) a (storedH vs k b r)) {H' : Hp} : ObjOk P w H' h' a (DkO P w a (putV xs k b v)) := by
  obtain ⟨o, es, ep, h2, h3, h4, h5, _, h6⟩ := d
  exact dk_ok ⟨hd, _, q.put k b rv, o, es, ep, h2, h3, h4, h5, h6⟩
end
/-! ### {} -/
section
variable {X : Cx}
def tDkNew (P : Program) (w : World) : TE := fun _ H Q => ∀ p, H p = none → Q (.ref p) (upd H p (DkO P w p []))
theorem pe_dkNew {pos : Pos} : PE X (.Dict [] [] pos) (tDkNew X.prog X.w) := ⟨fun pins s σ H Q I h =>
  wpAny_Dict_empty ⟨.ref s.heap.objs.size, _, I.laid (a := s.heap.objs.size) (o := DkO X.prog X.w s.heap.objs.size []) (t' := s.toks) (fun _ _ q => Heap.get?_push_of_some _ q) (Nat.le_refl _)
    (dk_ok ⟨beq_eq_false_iff_ne.mpr (Ne.symm (Nat.ne_of_lt I.big)), [], .nil, _, #[], 0, Heap.get?_push_size _ rfl, ⟨rfl, rfl, rfl⟩, rfl, rfl, List.nodup_nil⟩), rfl, h _ (I.hok.fresh (Nat.le_refl _))⟩⟩
variable {o i value : Expr} {td ty tv : TE} {pos pos' : Pos}
/-! ### d[k] -/
def tDkGet (P : Program) (w : World) (K : PySem.W.Frag) (td ty : TE) : TE := fun σ H Q => td σ H fun x H1 => ty σ H1 fun y H2 => ∃ (a b : Addr) (xs : List Ent) (k : NestedKey) (v : V), x = .ref a ∧ y = .ref b ∧ DkT P w K H2 a xs ∧ KeyAt K H2 k b ∧ atV xs k = some v ∧ Q v H2
theorem room8 {A : Around} (hu : A.units + 64 < cLine) : A.in1.units + 8 < cLine := by
  show A.units + 1 + 8 < cLine
  omega
theorem pe_dkGet (hu : X.A.units + 64 < cLine) (ho : PE X o td) (hi : PE X i ty) (hs : NoSl i) : PE X (.Subscript o i pos) (tDkGet X.prog X.w X.K td ty) := by
  refine ⟨fun pins s σ H Q I h => ?_⟩
  refine subD_of PySem.F.slot_dict_getitem.lookup hs (thn (ho.run pins s σ H _ I h) fun u s1 ⟨x, H1, I1, rx, q1⟩ => thn (hi.run pins s1 σ H1 _ I1 q1) fun iv s2 ⟨y, H2, I2, ry, a, b, xs, k, v, ex, ey, hd, hk, hv, q2⟩ => ?_)
  subst ex ey
  obtain rfl : u = Value.ref a := rx
  obtain rfl : iv = Value.ref b := ry
  obtain ⟨h1, vs, q, dd⟩ := hd.of I2
  have z := q.val k
  rw [hv] at z
  obtain ⟨w', hw, rw'⟩ := RelO.some_of (v := v) (o := (atKey vs k).map (·.2)) z
  obtain ⟨p, hp, hp2⟩ := Option.map_eq_some_iff.mp hw
  refine ⟨dd.typeIs, wpAny_getItem_heap (knd := nestedKind X.prog X.w) (room8 hu) (hk.is I2) dd hp ?_⟩
  rw [hp2]
  exact ⟨v, H2, I2.tok _, rw', q2⟩
/-! ### d.get(k) -/
def tDkGet1 (P : Program) (w : World) (K : PySem.W.Frag) (td ty : TE) : TE := fun σ H Q => td σ H fun x H1 => ∃ (a : Addr) (xs : List Ent), x = .ref a ∧ DkT P w K H1 a xs ∧ ty σ H1 fun y H2 => ∃ (b : Addr) (xs : List Ent) (k : NestedKey), y = .ref b ∧ DkT P w K H2 a xs ∧ KeyAt K H2 k b ∧ Q ((atV xs k).getD .non) H2
theorem pe_dkGet1 {e : Expr} {apos cpos : Pos} (hu : X.A.units + 64 < cLine) (ho : PE X o td) (he : PE X e ty) (m : M1 X o "get" apos e cpos) : PE X (.Call (.Attribute o "get" apos) [e] [] cpos) (tDkGet1 X.prog X.w X.K td ty) := by
  refine ⟨fun pins s σ H Q I h => ?_⟩
  refine wpAny_Call_method m.base m.few m.line PySem.F.plainAttrs_dict PySem.F.slot_dict_get PySem.F.type_dict_get (thn (ho.run pins s σ H _ I h) fun u s1 ⟨x, H1, I1, rx, a, xs1, ex, d, q1⟩ => ?_)
  subst ex
  obtain rfl : u = Value.ref a := rx
  obtain ⟨g1, vs1, g2, g3⟩ := d.of I1
  refine ⟨g3.typeIs, fun c q => ?_, ?_⟩
  · cases q
    obtain ⟨ob, _, _, h1, h2, _⟩ := g3
    exact ⟨ob, h1, h2.2.1⟩
  rw [m.trees]
  refine Calls.callWith_builtin rfl (Calls.evalArgs_plain (Calls.spliced_cons (thn (he.run pins s1 σ H1 _ I1 q1) fun iv s2 ⟨y, H2, I2, ry, b, xs, k, ey, hd, hk, q2⟩ => Calls.spliced_nil ?_)))
  subst ey
  obtain rfl : iv = Value.ref b := ry
  obtain ⟨h1, vs, q, dd⟩ := hd.of I2
  refine call_meetsIn PySem.F.slot_dict_get dd.typeIs PySem.F.entry_dict_get (PySem.F.args_dict_get_2 _ _) (meetsH_dict_get (nestedKind X.prog X.w) a b h1) ⟨room8 (A := X.A) (by omega), k, vs, hk.is I2, dd, ⟨_, H2, I2.tok _, ?_, q2⟩⟩
  exact (q.val k).getD rfl
/-! ### k in d, k not in d -/
def tDkIn (P : Program) (w : World) (K : PySem.W.Frag) (neg : Bool) (ty td : TE) : TE := fun σ H Q => ty σ H fun y H1 => td σ H1 fun x H2 => ∃ (a b : Addr) (xs : List Ent) (k : NestedKey), x = .ref a ∧ y = .ref b ∧ DkT P w K H2 a xs ∧ KeyAt K H2 k b ∧ Q (.bl (if neg = true then !(atV xs k).isSome else (atV xs k).isSome)) H2
theorem pc_dkIn (hu : X.A.units + 64 < cLine) (hi : PE X i ty) (ho : PE X o td) : PC X .In i o (tDkIn X.prog X.w X.K false ty td) := by
  refine ⟨fun pins s σ H Q I h => ?_⟩
  refine thn (hi.run pins s σ H _ I h) fun iv s1 ⟨y, H1, I1, ry, q1⟩ => thn (ho.run pins s1 σ H1 _ I1 q1) fun u s2 ⟨x, H2, I2, rx, a, b, xs, k, ex, ey, hd, hk, q2⟩ => ?_
  subst ex ey
  obtain rfl : u = Value.ref a := rx
  obtain rfl : iv = Value.ref b := ry
  obtain ⟨h1, vs, q, dd⟩ := hd.of I2
  refine wpAny_in_heap (knd := nestedKind X.prog X.w) (room8 hu) (hk.is I2) h1 dd ?_
  rw [← isSome_val (q.val k)]
  exact ⟨.bl (atV xs k).isSome, H2, I2.tok _, rfl, q2⟩
theorem pc_dkNotIn (hu : X.A.units + 64 < cLine) (hi : PE X i ty) (ho : PE X o td) : PC X .NotIn i o (tDkIn X.prog X.w X.K true ty td) := by
  refine ⟨fun pins s σ H Q I h => ?_⟩
  refine thn (hi.run pins s σ H _ I h) fun iv s1 ⟨y, H1, I1, ry, q1⟩ => thn (ho.run pins s1 σ H1 _ I1 q1) fun u s2 ⟨x, H2, I2, rx, a, b, xs, k, ex, ey, hd, hk, q2⟩ => ?_
  subst ex ey
  obtain rfl : u = Value.ref a := rx
  obtain rfl : iv = Value.ref b := ry
  obtain ⟨h1, vs, q, dd⟩ := hd.of I2
  refine wpAny_notIn_heap (knd := nestedKind X.prog X.w) (room8 hu) (hk.is I2) h1 dd ?_
  rw [← isSome_val (q.val k)]
  exact ⟨.bl (!(atV xs k).isSome), H2, I2.tok _, rfl, q2⟩
/-! ### d[k] = v -/
def tDkPut (P : Program) (w : World) (K : PySem.W.Frag) (td ty tv : TE) : TS := fun D σ H => tv σ H fun v H1 => td σ H1 fun x H2 => ty σ H2 fun y H3 => ∃ (a b : Addr) (xs : List Ent) (k : NestedKey), x = .ref a ∧ y = .ref b ∧ H3 a = some (DkO P w a xs) ∧ (∀ e ∈ xs, KeyAt K H3 e.1 e.2.1) ∧ KeyAt K H3 k b ∧ xs.length < 1000000 ∧ D.nx σ (upd H3 a (DkO P w a (putV xs k b v)))
theorem ps_dkPut (hu : X.A.units + 64 < cLine) (ho : PE X o td) (hi : PE X i ty) (hv : PE X value tv) (hs : swapsWith value (some (.Subscript o i pos')) pos.line X.env = pure false) : PS X (.Assign [.Subscript o i pos'] value pos) (tDkPut X.prog X.w X.K td ty tv) := by
  refine ⟨fun pins s σ H D I h => ?_⟩
  refine wpAny_Assign_Subscript (thn (hv.run pins s σ H _ I h) fun r s1 ⟨v, H1, I1, rv, q1⟩ => thn (ho.run pins s1 σ H1 _ I1 q1) fun u s2 ⟨x, H2, I2, rx, q2⟩ => thn (hi.run pins s2 σ H2 _ I2 q2) fun iv s3 ⟨y, H3, I3, ry, a, b, xs, k, ex, ey, ha, hks, hk, hn, q3⟩ => ?_) hs
  subst ex ey
  obtain rfl : u = Value.ref a := rx
  obtain rfl : iv = Value.ref b := ry
  obtain ⟨h1, vs, q, dd⟩ := DkT.of I3 ⟨.inl ha, hks⟩
  have hz : vs.length ≤ sizeLine := by
    rw [← q.length, sizeLine_eq]
    omega
  refine wpAny_setItem_heap (knd := nestedKind X.prog X.w) (hsz := hz) (room8 hu) (hk.is I3) dd fun h' dd' hs' => ?_
  have he : ∃ q, h'.get? a = some q := let ⟨q, _, _, hq, _⟩ := dd'; ⟨q, hq⟩
  exact ⟨σ, _, d_write I3 (by rw [ha]; trivial) hs' he (DkT.put_ok _ _ q rv h1 dd'), q3⟩
end
end Pk

set_option maxRecDepth 100000
set_option maxHeartbeats 2000000
/-! {**d, k: v} -/
namespace Pk
open PySem PySem.Spec PyProof.Rows L2
section
variable {prog : Program} {w : World} {K : Type} [DecidableEq K] {knd : PySem.KeyKind prog w K} {A : Around} {E : Value → Shared → Prop} {s : Shared}
theorem dictPut_pairs {d : Addr} {kvs : List (K × Value)} {k : K} {key v : Value} {Q : Unit → Shared → Prop} (hkey : knd.is k key = true) (hm : s.heap.DictOf knd d kvs) (hsz : kvs.length ≤ sizeLine)
    (hQ : ∀ h', h'.DictOf knd d (stored kvs k v) → Heap.SameBut d s.heap h' → Q () { s with heap := h' }) : wpAny (model prog w) A (dictPut d (knd.hash k) key v) Q E s := by
  obtain ⟨ob, es, ep, h1, h2, h3, h4, h5, h6⟩ := hm
  have size : es.size ≤ sizeLine := by
    have a := h5.length
    have b : es.toList.length = es.size := Array.length_toList
    omega
  unfold dictPut
  refine wpAny_bind (wpAny_dictFind_of hkey h1 h3 h4 ?_)
  have place : (es.findIdx? fun e => knd.is k e.key) = kvs.findIdx? fun kv => decide (kv.1 = k) := by
    rw [← h5.findIdx k]
    obtain ⟨l⟩ := es
    simp
  cases hi : es.findIdx? fun e => knd.is k e.key with
  | some i =>
    have found : (es.toList.findIdx? fun e => knd.is k e.key) = some i := by
      rw [← hi]
      obtain ⟨l⟩ := es
      simp
    refine wpAny_updateDict h1 h3 (hQ _ ⟨_, _, ep, Heap.get?_update_self _ h1 (Obj.isFreed_of_dict (Obj.data_mapDict h3 _)), h2.mapDict _, Obj.data_mapDict h3 _, h4.modify _ _, ?_, ?_⟩ (Heap.SameBut.update ..))
    · rw [stored, if_pos (any_of_findIdx_some (place ▸ hi))]
      have z := h5.modify h6 found v
      obtain ⟨l⟩ := es
      simpa using z
    · rw [stored, if_pos (any_of_findIdx_some (place ▸ hi)), keys_map_store]
      exact h6
  | none =>
    have out : k ∉ kvs.map (·.1) := not_mem_of_findIdx_none (place ▸ hi)
    have no : ¬ (kvs.any fun kv => decide (kv.1 = k)) = true := by
      rw [List.any_eq_true]
      rintro ⟨kv, m, e⟩
      exact out (List.mem_map.mpr ⟨kv, m, of_decide_eq_true e⟩)
    refine wpAny_updateDictKeys (hz := size) h1 h3 (hQ _ ⟨_, _, ep + 1, Heap.get?_update_self _ h1 (Obj.isFreed_of_dict (Obj.data_mapDictKeys h3 _)), h2.mapDictKeys _, Obj.data_mapDictKeys h3 _, h4.push hkey _, ?_, ?_⟩ (Heap.SameBut.update ..))
    · rw [stored, if_neg no]
      have z := h5.append hkey (knd.hash k) v
      obtain ⟨l⟩ := es
      simpa using z
    · rw [stored, if_neg no, List.map_append, List.nodup_append]
      refine ⟨h6, by simp, ?_⟩
      intro a ha b hb
      have e : b = k := by simpa using hb
      rw [e]
      exact fun z => out (z ▸ ha)
theorem merged_one (acc : List (K × Value)) (l : List (K × Value)) (kv : K × Value) : merged acc (l ++ [kv]) = stored (merged acc l) kv.1 kv.2 := by
  unfold merged
  rw [List.foldl_append]; rfl
theorem merged_len (acc : List (K × Value)) : ∀ l : List (K × Value), (merged acc l).length ≤ acc.length + l.length := fun l => by
  induction l generalizing acc with
  | nil => exact Nat.le_refl _
  | cons a l ih =>
    have h1 : merged acc (a :: l) = merged (stored acc a.1 a.2) l := rfl
    have h2 := ih (stored acc a.1 a.2)
    have h3 := stored_length_le acc a.1 a.2
    rw [h1, List.length_cons]
    omega
theorem pairs_get : ∀ {es : List DictEntry} {kvs : List (K × Value)} {i : Nat} {e : DictEntry}, Pairs knd es kvs → es[i]? = some e → ∃ kv, kvs[i]? = some kv ∧ knd.is kv.1 e.key = true ∧ e.val = kv.2
  | _, _, 0, e, .cons h1 h2 _, q => by cases q; exact ⟨_, rfl, h1, h2⟩
  | _, _, i + 1, e, .cons _ _ t, q => pairs_get (i := i) t q
theorem loop_range {M : Model} {f : Nat → PUnit → Sem (ForInStep PUnit)} {Iv : Nat → Heap → Prop} : ∀ (n i : Nat) (h1 : Heap), Iv i h1 → (∀ j h2, i ≤ j → j < i + n → Iv j h2 → wpAny M A (f j PUnit.unit) (fun r s' => r = .yield PUnit.unit ∧ ∃ h3, s' = { s with heap := h3 } ∧ Iv (j + 1) h3) E { s with heap := h2 }) →
    wpAny M A (forIn (List.range' i n) PUnit.unit f) (fun _ s' => ∃ h3, s' = { s with heap := h3 } ∧ Iv (i + n) h3) E { s with heap := h1 }
  | 0, i, h1, x, _ => by
    rw [List.range'_zero, List.forIn_nil]
    exact wpAny_pure ⟨h1, rfl, x⟩
  | n + 1, i, h1, x, st => by
    rw [List.range'_succ, List.forIn_cons]
    refine wpAny_bind (wpAny_mono (st i h1 (Nat.le_refl _) (by omega) x) (fun r s' hr => ?_) fun _ _ z => z)
    obtain ⟨rfl, h3, rfl, y⟩ := hr
    refine wpAny_mono (loop_range n (i + 1) h3 y fun j h2 a b c => st j h2 (by omega) (by omega) c) (fun _ s' hs => ?_) fun _ _ z => z
    obtain ⟨h4, e, z⟩ := hs
    exact ⟨h4, e, by rw [show i + (n + 1) = i + 1 + n by omega]; exact z⟩
theorem loop_list {α : Type} {M : Model} {f : α → PUnit → Sem (ForInStep PUnit)} : ∀ (l : List α), (∀ x, x ∈ l → wpAny M A (f x PUnit.unit) (fun r s' => r = .yield PUnit.unit ∧ s' = s) E s) → wpAny M A (forIn l PUnit.unit f) (fun _ s' => s' = s) E s
  | [], _ => by
    rw [List.forIn_nil]
    exact wpAny_pure rfl
  | x :: l, st => by
    rw [List.forIn_cons]
    refine wpAny_bind (wpAny_mono (st x (List.mem_cons_self ..)) (fun r s' hr => ?_) fun _ _ z => z)
    obtain ⟨rfl, e⟩ := hr
    rw [e]
    exact loop_list l fun y hy => st y (List.mem_cons_of_mem _ hy)
theorem merge_pairs {d a : Addr} {acc src : List (K × Value)} {Q : Unit → Shared → Prop} (hne : d ≠ a) (hsys : (a == sysModules) = false) (hm : s.heap.DictOf knd d acc) (hs : s.heap.DictOf knd a src) (hk : ∀ (k : K) (v : Value), knd.is k v = true → ∀ p, v ≠ .ref p) (hsz : acc.length + src.length ≤ sizeLine)
    (hQ : ∀ h', h'.DictOf knd d (merged acc src) → Heap.SameBut d s.heap h' → Q () { s with heap := h' }) : wpAny (model prog w) A (mergeMapping d (.ref a) false) Q E s := by
  obtain ⟨od, esd, epd, d1, d2, d3, d4, d5, d6⟩ := id hm
  obtain ⟨oa, esa, epa, a1, a2, a3, a4, a5, a6⟩ := id hs
  unfold mergeMapping
  refine wpAny_bind (wpAny_isInstance (T := "dict") (b := true) hs.typeIs (by first | decide +kernel | rfl) ?_)
  show wpAny _ _ (do let x ← specialOf (Value.ref a) "__iter__"; _) _ _ _
  refine wpAny_bind (wpAny_specialOf hs.typeIs PySem.F.slot_dict_iter.lookup ?_)
  refine wpAny_bind (wpAny_pure ?_)
  show wpAny _ _ (if (a == sysModules) = true then _ else _) _ _ _
  rw [hsys, if_neg Bool.false_ne_true]
  refine wpAny_bind (wpAny_dictEntries d1 d3 ?_)
  have noref : ∀ e, e ∈ esa.toList → ∀ p, e.key ≠ .ref p := fun e he p hp => by
    obtain ⟨i, hi⟩ := List.mem_iff_getElem?.mp he
    obtain ⟨kv, _, h1, _⟩ := pairs_get a5 hi
    exact hk _ _ h1 p hp
  have lsa : esa.size = src.length := by
    have x := a5.length
    have y : esa.toList.length = esa.size := Array.length_toList
    omega
  have go : ∀ {R : Sem Unit} {f : Nat → PUnit → Sem (ForInStep PUnit)}, (∀ j h2, j < src.length → (h2.DictOf knd d (merged acc (src.take j)) ∧ Heap.SameBut d s.heap h2) → wpAny (model prog w) A (f j PUnit.unit) (fun r s' => r = .yield PUnit.unit ∧ ∃ h3, s' = { s with heap := h3 } ∧ h3.DictOf knd d (merged acc (src.take (j + 1))) ∧ Heap.SameBut d s.heap h3) E { s with heap := h2 }) →
      wpAny (model prog w) A (do forIn (List.range esa.size) PUnit.unit f; pure ()) Q E s := fun {R f} st => by
    rw [List.range_eq_range', lsa]
    refine wpAny_bind (wpAny_mono (loop_range (Iv := fun j h2 => h2.DictOf knd d (merged acc (src.take j)) ∧ Heap.SameBut d s.heap h2) src.length 0 s.heap ⟨by rw [List.take_zero]; exact hm, Heap.SameBut.refl _ _⟩ fun j h2 _ a b => st j h2 (by omega) b) (fun _ s' hs => ?_) fun _ _ z => z)
    obtain ⟨h3, rfl, x1, x2⟩ := hs
    rw [Nat.zero_add, List.take_length] at x1
    exact wpAny_pure (hQ h3 x1 x2)
  by_cases he : esd.isEmpty = true
  · rw [if_pos he]
    refine wpAny_bind (wpAny_dictEntries a1 a3 ?_)
    rw [← Array.forIn_toList]
    refine wpAny_bind (wpAny_mono (loop_list esa.toList fun e hel => ?_) (fun _ s' hs => ?_) fun _ _ z => z)
    · have nr := noref e hel
      cases hkey : e.key with
      | ref p => exact absurd hkey (nr p)
      | _ => exact wpAny_pure ⟨rfl, rfl⟩
    · rw [hs]
      show wpAny _ _ (do let ents ← dictEntries a; _) _ _ _
      refine wpAny_bind (wpAny_dictEntries a1 a3 ?_)
      refine wpAny_bind (wpAny_dictEpoch a1 a3 ?_)
      refine go (R := pure ()) fun j h2 hj hiv => ?_
      obtain ⟨x1, x2⟩ := hiv
      have alive : h2.get? a = some oa := (x2.2 a (Ne.symm hne)).trans a1
      have hlt : j < esa.size := by omega
      have hei : esa[j]? = some esa[j] := Array.getElem?_eq_getElem hlt
      have hel : esa.toList[j]? = some esa[j] := by rw [Array.getElem?_toList]; exact hei
      obtain ⟨kv, g1, g2, g3⟩ := pairs_get a5 hel
      obtain ⟨k', g4, g5⟩ := a4 esa[j] (Array.getElem_mem hlt)
      have ek : k' = kv.1 := knd.inj _ _ _ g4 g2
      refine wpAny_bind (wpAny_dictEntries (s := { s with heap := h2 }) alive a3 ?_)
      rw [hei]
      refine wpAny_bind (wpAny_holding ?_)
      show wpAny _ _ (if false = true then _ else _) _ _ _
      rw [if_neg Bool.false_ne_true]
      show wpAny _ _ (dictPut d esa[j].hash esa[j].key esa[j].val) _ _ _
      rw [g5, ek, g3]
      have ml := merged_len acc (src.take j)
      have tl : (src.take j).length ≤ src.length := by rw [List.length_take]; omega
      refine dictPut_pairs (s := { s with heap := h2 }) g2 x1 (by omega) fun h3 y1 y2 => ?_
      have alive2 : h3.get? a = some oa := (y2.2 a (Ne.symm hne)).trans alive
      refine wpAny_bind (wpAny_dictEpoch (s := { s with heap := h3 }) alive2 a3 ?_)
      rw [show (epa != epa) = false from bne_self_eq_false _, if_neg Bool.false_ne_true]
      refine wpAny_pure ⟨rfl, h3, rfl, ?_, x2.trans y2⟩
      rw [List.take_add_one, g1]
      show h3.DictOf knd d (merged acc (src.take j ++ [kv]))
      rw [merged_one]
      exact y1
  · rw [if_neg he]
    show wpAny _ _ (do let ents ← dictEntries a; _) _ _ _
    refine wpAny_bind (wpAny_dictEntries a1 a3 ?_)
    refine wpAny_bind (wpAny_dictEpoch a1 a3 ?_)
    refine go (R := pure ()) fun j h2 hj hiv => ?_
    obtain ⟨x1, x2⟩ := hiv
    have alive : h2.get? a = some oa := (x2.2 a (Ne.symm hne)).trans a1
    have hlt : j < esa.size := by omega
    have hei : esa[j]? = some esa[j] := Array.getElem?_eq_getElem hlt
    have hel : esa.toList[j]? = some esa[j] := by rw [Array.getElem?_toList]; exact hei
    obtain ⟨kv, g1, g2, g3⟩ := pairs_get a5 hel
    obtain ⟨k', g4, g5⟩ := a4 esa[j] (Array.getElem_mem hlt)
    have ek : k' = kv.1 := knd.inj _ _ _ g4 g2
    refine wpAny_bind (wpAny_dictEntries (s := { s with heap := h2 }) alive a3 ?_)
    rw [hei]
    refine wpAny_bind (wpAny_holding ?_)
    show wpAny _ _ (if false = true then _ else _) _ _ _
    rw [if_neg Bool.false_ne_true]
    show wpAny _ _ (dictPut d esa[j].hash esa[j].key esa[j].val) _ _ _
    rw [g5, ek, g3]
    have ml := merged_len acc (src.take j)
    have tl : (src.take j).length ≤ src.length := by rw [List.length_take]; omega
    refine dictPut_pairs (s := { s with heap := h2 }) g2 x1 (by omega) fun h3 y1 y2 => ?_
    have alive2 : h3.get? a = some oa := (y2.2 a (Ne.symm hne)).trans alive
    refine wpAny_bind (wpAny_dictEpoch (s := { s with heap := h3 }) alive2 a3 ?_)
    rw [show (epa != epa) = false from bne_self_eq_false _, if_neg Bool.false_ne_true]
    refine wpAny_pure ⟨rfl, h3, rfl, ?_, x2.trans y2⟩
    rw [List.take_add_one, g1]
    show h3.DictOf knd d (merged acc (src.take j ++ [kv]))
    rw [merged_one]
    exact y1
end
section
variable {X : Cx}
def tMerge (td tk tv : TE) : TE := fun σ H Q => ∀ p, H p = none → td σ (upd H p (.dK [])) fun x H1 => ∃ (a : Addr) (kvs : List (Key × V)), x = .ref a ∧ H1 a = some (.dK kvs) ∧ a ≠ p ∧ H1 p = some (.dK []) ∧ kvs.length ≤ 1000 ∧
  ∀ q, H1 q = none → tk σ (upd (upd H1 p (.dK (mergeK [] kvs))) q (.dK [])) fun y H2 => tv σ H2 fun z H3 => ∃ nm, y = .str nm ∧ H3 p = some (.dK (mergeK [] kvs)) ∧ H3 q = some (.dK []) ∧ Q (.ref p) (upd (upd H3 q (.dK [(.inr nm, z)])) p (.dK (mergeK (mergeK [] kvs) [(.inr nm, z)])))
theorem key_noref {P : Program} {w : World} : ∀ (k : Key) (v : Value), (mixKind P w).is k v = true → ∀ p, v ≠ .ref p := fun k v h p e => by
  rcases keyIs_shape h with ⟨i, t, rfl, rfl⟩ | ⟨x, t, rfl, rfl⟩ <;> cases e
theorem pe_merge {pos : Pos} {ed ek ev : Expr} {td tk tv : TE} (hd : PE X ed td) (hk : PE X ek tk) (hv : PE X ev tv) : PE X (.Dict [none, some ek] [ed, ev] pos) (tMerge td tk tv) := by
  refine ⟨fun pins s σ H Q I h => ?_⟩
  rw [arm_eval_Dict]
  refine wpAny_bind (wpAny_standAt ?_)
  show wpAny _ _ (dictDisplay [(none, do let x ← eval ed X.env; standAt pos; pure x), (some (eval ek X.env), do let x ← eval ev X.env; standAt pos; pure x)]) _ _ _
  unfold dictDisplay
  dsimp only
  simp only [List.forIn_cons, List.forIn_nil, List.isEmpty_nil, if_true, pure_bind, bind_assoc, List.nil_append, List.length_cons, List.length_nil, List.isEmpty_cons, Bool.false_eq_true, if_false, show ((0 + 1 == 17) = true) = False by simp]
  refine wpAny_bind (wpAny_alloc ?_)
  have hn := I.hok.fresh (Nat.le_refl s.heap.objs.size)
  have I1 := I.laid (a := s.heap.objs.size) (o := .dK []) (h' := s.heap.push { cls := .type "dict", data := .dict #[] }) (t' := s.toks) (fun _ _ q => Heap.get?_push_of_some _ q) (Nat.le_refl _) (dk_empty s.heap I.big)
  have h1 := h _ hn
  generalize s.heap.objs.size = p at I1 h1 hn ⊢
  refine wpAny_bind (wpAny_holding (wpAny_bind (thn (hd.run pins _ σ _ _ I1 h1) fun xv s1 ⟨x, H1, I2, rx, a, kvs, ex, ha, hap, hp, hl, q1⟩ => wpAny_bind (wpAny_standAt (wpAny_pure ?_)))))
  subst ex
  obtain rfl : xv = Value.ref a := rx
  obtain ⟨_, sp1, vs0, r0, dp⟩ := dk_of I2.hok hp
  obtain ⟨la, sa1, vs1, r1, da⟩ := dk_of I2.hok ha
  cases r0
  have lv : vs1.length = kvs.length := (Paired.length r1).symm
  refine wpAny_bind (wpAny_onRaise (wpAny_tryCatch (wpAny_onRaise (wpAny_holding (merge_pairs (Ne.symm hap) sa1 dp da key_noref (by rw [sizeLine_eq]; show 0 + vs1.length ≤ 16777216; omega) fun h2 d2 b2 => ?_)))))
  have lm1 := length_mergeK kvs []
  have lm1' : (mergeK [] kvs).length ≤ 1000 := by
    have : ([] : List (Key × V)).length = 0 := rfl
    omega
  have I3 : L2.Inv X pins σ (upd H1 p (.dK (mergeK [] kvs))) { s1 with heap := h2 } :=
    d_write (t' := s1.toks) I2 (by rw [hp]; exact True.intro) b2 (let ⟨q, _, _, hq, _⟩ := d2; ⟨q, hq⟩) (dk_new (by rw [sizeLine_eq]; omega) sp1 (r1.merge .nil) d2)
  have hqn : H1 h2.objs.size = none := by
    have z := I3.hok.fresh (Nat.le_refl h2.objs.size)
    by_cases c : h2.objs.size = p
    · rw [c, upd_same] at z; cases z
    · rwa [upd_ne c] at z
  have I4 := I3.laid (a := h2.objs.size) (o := .dK []) (h' := h2.push { cls := .type "dict", data := .dict #[] }) (t' := s1.toks) (fun _ _ q => Heap.get?_push_of_some _ q) (Nat.le_refl _) (dk_empty h2 I3.big)
  have q2 := q1 _ hqn
  refine wpAny_bind (wpAny_holding (wpAny_subDict (knd := mixKind X.prog X.w) (by show 1 ≤ 15; decide) ?_))
  show wpAny _ _ (evalPairs _) (fun vs s' => ∃ kvs, Carries (mixKind X.prog X.w) vs kvs ∧ s'.heap.DictOf (mixKind X.prog X.w) h2.objs.size [] ∧ ∀ h', h'.DictOf (mixKind X.prog X.w) h2.objs.size (merged [] kvs) → Heap.SameBut h2.objs.size s'.heap h' → _) _ _
  generalize h2.objs.size = q at I4 q2 hqn ⊢
  refine evalPairs_cons (thn (hk.run pins _ σ _ _ I4 q2) fun kv s4 ⟨y, H4, I5, ry, q3⟩ => wpAny_bind (thn (hv.run pins s4 σ H4 _ I5 q3) fun vv s5 ⟨z, H5, I6, rz, nm, ey, hp5, hq5, q4⟩ => wpAny_bind (wpAny_standAt (wpAny_pure (evalPairs_nil ?_)))))
  subst ey
  obtain ⟨t, rfl⟩ := ry
  obtain ⟨_, sq5, vs5, r5, dq⟩ := dk_of I6.hok hq5
  cases r5
  obtain ⟨_, sp5, vs6, r6, dp5⟩ := dk_of I6.hok hp5
  have hpq : p ≠ q := ne_of_none hp hqn
  have lv6 : vs6.length = (mergeK [] kvs).length := (Paired.length r6).symm
  refine ⟨[(.inr nm, vv)], ⟨kV_is (k := .inr nm) ⟨t, rfl⟩, rfl, trivial⟩, dq, fun h6 d6 b6 => ?_⟩
  have rel1 : KV [((.inr nm : Key), z)] (merged [] [((.inr nm : Key), vv)]) := .cons ⟨rfl, rz⟩ .nil
  have I7 : L2.Inv X pins σ (upd H5 q (.dK [(.inr nm, z)])) { s5 with heap := h6, toks := s5.toks + [(Value.str nm t, vv)].length } :=
    d_write (t' := s5.toks + [(Value.str nm t, vv)].length) I6 (by rw [hq5]; exact True.intro) b6 (let ⟨q, _, _, hq, _⟩ := d6; ⟨q, hq⟩) (dk_new (by rw [sizeLine_eq]; show 1 ≤ 16777216; omega) sq5 rel1 d6)
  refine wpAny_bind (wpAny_onRaise (wpAny_holding (merge_pairs (s := { s5 with heap := h6, toks := s5.toks + [(Value.str nm t, vv)].length }) hpq sq5 (dp5.sameBut b6 hpq) d6 key_noref (by rw [sizeLine_eq]; show vs6.length + 1 ≤ 16777216; omega) fun h7 d7 b7 => wpAny_pure ?_)))
  have lm2 := length_mergeK [((.inr nm : Key), z)] (mergeK [] kvs)
  have rel2 : KV (mergeK (mergeK [] kvs) [((.inr nm : Key), z)]) (merged vs6 (merged [] [((.inr nm : Key), vv)])) := KV.merge rel1 r6
  exact ⟨.ref p, _, d_write (t' := s5.toks + [(Value.str nm t, vv)].length) I7 (by rw [upd_ne hpq, hp5]; exact True.intro) b7 (let ⟨q, _, _, hq, _⟩ := d7; ⟨q, hq⟩) (dk_new (by rw [sizeLine_eq]; have : [((Sum.inr nm : Key), z)].length = 1 := rfl; omega) sp5 rel2 d7), rfl, q4⟩
end
end Pk

set_option maxRecDepth 100000
set_option maxHeartbeats 2000000
/-! super().__init__(e), the first statement of an own exception's __init__ -/
namespace Pk
open PySem PySem.Spec PyProof.Rows L2 NdefX
open PySem.Calls (loadGlobal_builtin)
/-- what is to be known of the class at C, whose __init__ stands at f, with the cell cc of `__class__` and the code object cda -/
structure SupF (P : Program) (K : PySem.W.Frag) (mg : Str → Option Value) (C cc cda : Addr) : Prop where
  oex : OexC K C
  sup : PySem.W.ks_superIn K C C "__init__" = some (some (.builtin "ValueError.__init__"))
  sub : PySem.W.subIn K (.ref C) (.type "ValueError") = some true
  own : PySem.W.mroIn K C (.ref C) = some true
  cell : ∃ cl cld csl, K.lookup cc = some ⟨cl, cld, .cell (some (.ref C)), csl⟩
  code : ∃ ccl cdd vs ccs file tf, K.lookup cda = some ⟨ccl, cdd, .fields vs, ccs⟩ ∧ vs[2]? = some (.str file tf) ∧ ((P.main.file : Str) == file) = true
  noS : mg "super" = none
  third : PySem.W.nsIn K cStatics "thirdparty.any" = some none
  top : (P.main.scope.names.lookup ("super" : Str)).isSome = false
abbrev wrp (x : Addr) : Obj := PySem.W.kxs_mw "ValueError.__init__" x
section
variable {X : Cx} {pins : List (Addr × Obj)} {σ : L2.St} {H : Hp} {s : Shared}
/-- the call of what super().__init__ gave -/
theorem call_wrp {C a u : Addr} {us : List Value} {Q : Value → Shared → Prop} (T : OexC X.K C) (I : Inv X pins σ H s) (e : H a = some (exo a C none)) (hu : s.heap.get? u = some (wrp a)) (hl : us.length ≤ sizeLine) (h : ∀ s', Inv X pins σ H s' → Q .none s') :
    wpAny (model X.prog X.w) X.A (call (.ref u) us) Q X.xe s := by
  obtain ⟨nm, q, N, bs, bm, sn, sub, ab, col, dd, k0, k1, k2, k3, k5, hC, hbm⟩ := T.cls
  obtain ⟨t1, ho⟩ := exo_at I.hok e
  obtain ⟨hp, g, d, t, os⟩ := s
  refine wpAny_call (codeAny_of_tree ?_)
  show wpAny _ X.A.in1 (callAny (.ref u) ⟨us, []⟩) _ _ _
  simp only [callAny]
  refine wpAny_bind (wpAny_load hu ?_)
  simp only [wrp, PySem.W.kxs_mw, show (Value.type "method-wrapper" == Value.type "method" || Value.type "method-wrapper" == Value.type "builtin_function_or_method" || Value.type "method-wrapper" == Value.type "method-wrapper") = true by decide, if_true]
  refine PySem.W.KFB.if_so (by decide) ?_
  refine wpAny_bind (PySem.W.check_bound_init F.excBase_ValueError.toExcCallFacts (I.kIn _ _ hC) ho rfl ?_)
  refine wpAny_bind (wpAny_pure (wpAny_pure ?_))
  refine ⟨plainId_quiet F.excBase_ValueError.init.plain _, codeAny_builtin F.excBase_ValueError.initEntry ?_⟩
  refine PySem.W.exc_init_tree (cls := .ref C) (t0 := t1) (dv := none) (c2 := .none) (c3 := .none) (b4 := .bool false) ho hl (fun h' k hx _ => ?_)
  have J := I.write (t' := t) (x := a) (e := a) (o := exo a C none) (by rw [e]; exact True.intro) (.inl rfl) k ⟨_, hx⟩ (exo_ok hx)
  have eu : upd H a (exo a C none) = H := by
    funext b
    by_cases hb : b = a
    · rw [hb, upd_same, e]
    · rw [upd_ne hb]
  rw [eu] at J
  exact h _ J
/-- super().__init__(e, ..): the stack of calls is asked for -/
theorem wp_super {C cc cda f a : Addr} {of : Obj} {fd : FuncData} {ar : Arg} {body : List Stmt} {e : Expr} {es : List Expr} {ta : TA} {p0 p1 apos pos : Pos} {Q : Hp → Prop} {pl : Sem Bool} (S : SupF X.prog X.K X.mg C cc cda)
    (hks : X.env.kindOf "super" = some .globalImplicit) (hkc : X.env.kindOf "__class__" = some .free) (hkl : X.env.kindOf "self" = some .local) (hfu : X.env.func = some f) (hf : X.K.lookup f = some of) (hfd : of.data = .func fd)
    (hp : (fd.params.posonlyargs ++ fd.params.args).head? = some ar) (har : ar.arg = "self") (hco : X.env.code = .ref cda) (hcl : X.env.cells.lookup ("__class__" : Str) = some cc)
    (I : Inv X pins σ H s) (hN : X.N[0]? = some ("self" : Str)) (h0 : σ[0]? = some (some (.ref a))) (ea : H a = some (exo a C none)) (ha : PA X (e :: es) ta) (h : ta σ H fun vs H1 => vs.length ≤ 1000 ∧ H1 a = some (exo a C none) ∧ Q H1)
    (he : eval (.Call (.Attribute (.Call (.Name "super" p0) [] [] p1) "__init__" apos) (e :: es) [] pos) X.env = (do
      let ov ← attributeBase (.Call (.Name "super" p0) [] [] p1) "__init__" X.env (eval (.Call (.Name "super" p0) [] [] p1) X.env)
      standAt apos.atName
      let (f, first) ← holding [ov] (getMethod ov "__init__" pl)
      callWith pos f first (backTo pos (starEach (e :: es) X.env)) []) := by rfl)
    (hst : starEach (e :: es) X.env = (false, eval e X.env) :: starEach es X.env := by rfl) (hpl : (backTo pos (starEach es X.env)).any (·.1) = false := by rfl) :
    _root_.PySem.wpAt (model X.prog X.w) X.A (.func body X.env) (eval (.Call (.Attribute (.Call (.Name "super" p0) [] [] p1) "__init__" apos) (e :: es) [] pos) X.env) (fun _ s' => ∃ H1, Inv X pins σ H1 s' ∧ Q H1) X.xe s := by
  obtain ⟨cl, cld, csl, hcell⟩ := S.cell
  obtain ⟨ccl, cdd, vs, ccs, file, tf, hcode, hvs, hfile⟩ := S.code
  obtain ⟨nm, q, N, bs, bm, sn, sub, ab, col, dd, k0, k1, k2, k3, k5, hC, hbm⟩ := S.oex.cls
  have hcd : PySem.W.clsIn X.K C = some { name := nm, bases := bs, mro := .ref C :: bm, ns := N, qualname := q, hasDict := true, slotNames := sn, subclasses := sub, abstract := ab, collection := col, hasDel := false } := by unfold PySem.W.clsIn; rw [hC] <;> rfl
  have hm : PySem.W.alongIn X.K "__init__" (((Value.ref C :: bm).dropWhile (· != .ref C)).drop 1) = some (some (.builtin "ValueError.__init__")) := by
    have z := S.sup
    unfold PySem.W.ks_superIn at z
    rw [hcd] at z
    exact z
  obtain ⟨t1, ho⟩ := exo_at I.hok ea
  have KX := I.kIn
  have IA : PySem.W.InstAt s.heap a { cls := .ref C, dict := none, data := .fields #[.ref t1, .none, .none, .none, .bool false, .none] } C none := ⟨ho, rfl, rfl, trivial⟩
  obtain ⟨m, hn, hl⟩ := id I.loc
  obtain ⟨u, ru, lk⟩ := hl 0 "self" _ hN h0 (.inl hkl)
  obtain rfl : u = Value.ref a := ru
  have hv : m "self" = some (.ref a) := by
    rcases lk with ⟨_, z⟩ | ⟨z | z, _⟩
    · exact z
    · rw [hkl] at z
      cases z
    · rw [hkl] at z
      cases z
  obtain ⟨mb, b1, b2⟩ := I.mod.blt
  refine PySem.ks_wpAt_MethodCall (pl := pl) ?_ he
  refine PySem.ks_wpAt_super_base (env := X.env) hks hkc (by decide) hfu (KX _ _ hf) hfd hp hco (KX _ _ hcode) rfl hvs hfile S.top ?_
  refine PySem.W.ks_loadName_global I.ok.kind hks (loadGlobal_builtin (by rw [I.ok.glob]; exact I.mod.glob.keeps I.bk) S.noS (by rw [I.ok.blt]; exact b1.keeps I.bk) ((b2 _ (by decide)).trans PyProof.Rows.Boot.«super») ⟨rfl, ?_⟩)
  refine wpAny_loadName_free I.ok.kind hkc hcl ⟨_, KX _ _ hcell, rfl⟩ ?_
  rw [har]
  refine wpAny_loadName_local I.ok.kind hkl hn hv ?_
  obtain ⟨hh, g, d, t, os⟩ := s
  refine PySem.ks_wpAny_isType_cls (KX _ _ hC) rfl ⟨rfl, ?_⟩
  refine PySem.ks_wpAny_call_super (KX _ _ hC) rfl IA.at_ IA.cls (fun c z => by cases z) (PySem.W.looks_mroIn KX S.own) (fun h' eso k => ?_)
  have I1 : Inv X pins σ H ⟨h', g, d, t, os⟩ := I.kept (t' := t) k
  have KX1 := I1.kIn
  have IA1 : PySem.W.InstAt h' a { cls := .ref C, dict := none, data := .fields #[.ref t1, .none, .none, .none, .bool false, .none] } C none := ⟨k _ _ ho, rfl, rfl, trivial⟩
  refine PySem.W.kxs_getMethod PySem.W.kxs_ValueError eso (PySem.W.looks_opaque KX1 S.third) (l₀ := .ref C :: bm) (fun A Q E s k q => wpAny_bind ((PySem.W.looks_clsIn KX1 hcd) A _ E s k (wpAny_pure q))) rfl KX1 hm (IA1.type.andThen (PySem.W.looks_subIn KX1 S.sub)) (PySem.W.ks_ne KX1 IA1 hcd) (by decide) ?_
  have kw : ∀ b o, h'.get? b = some o → (h'.push (wrp a)).get? b = some o := fun b o z => Heap.get?_push_of_some _ z
  have I2 : Inv X pins σ H ⟨h'.push (wrp a), g, d, t + 1, os⟩ := I1.kept (t' := t + 1) kw
  have uat : (h'.push (wrp a)).get? h'.objs.size = some (wrp a) := Heap.get?_push_size _ rfl
  have I3 : Inv X ((h'.objs.size, wrp a) :: pins) σ H ⟨h'.push (wrp a), g, d, t + 1, os⟩ := I2.pins_of fun p hp => by
    rcases List.mem_cons.mp hp with rfl | hp
    · exact ⟨uat, I1.hok.fresh (Nat.le_refl _), Ne.symm (Nat.ne_of_lt I1.lt), I1.nofs (Nat.le_refl _), fun v z => by cases z⟩
    · exact I2.pin p (List.mem_append_right _ hp)
  show wpAny _ _ (callWith pos (Value.ref h'.objs.size) [] (backTo pos (starEach (e :: es) X.env)) []) _ _ _
  have run := ha.run pos _ _ σ H _ I3 h
  rw [hst] at run ⊢
  refine PySem.W.kxs_callWith (i := "ValueError.__init__") (x := a) (by show (false || (backTo pos (starEach es X.env)).any (·.1)) = false; rw [hpl]; rfl) ?_
  refine PySem.Calls.evalArgs_plain (thn run fun us s2 ⟨vs, H1, J, rv, hlen, ea1, q⟩ => ?_)
  refine ⟨(J.pin _ (List.mem_append_right _ List.mem_cons_self)).1, ?_⟩
  have J' : Inv X pins σ H1 s2 := J.pins_of fun p hp => J.pin p (List.mem_append_right _ (List.mem_cons_of_mem _ hp))
  have hus : us.length ≤ sizeLine := by
    rw [← Paired.length rv, sizeLine_eq]
    omega
  exact call_wrp S.oex J' ea1 (J.pin _ (List.mem_append_right _ List.mem_cons_self)).1 hus fun s3 J3 => ⟨H1, J3, q⟩
end

/-- super().__init__(f"..") as a statement -/
abbrev supCall (p0 p1 apos pos : Pos) (js : List Expr) (jp : Pos) : Expr := .Call (.Attribute (.Call (.Name "super" p0) [] [] p1) "__init__" apos) [.JoinedStr js jp] [] pos
/-- how it is read -/
def SupE (X : Cx) (p0 p1 apos pos : Pos) (js : List Expr) (jp : Pos) : Prop := ∃ pl : Sem Bool, eval (supCall p0 p1 apos pos js jp) X.env = (do
      let ov ← attributeBase (.Call (.Name "super" p0) [] [] p1) "__init__" X.env (eval (.Call (.Name "super" p0) [] [] p1) X.env)
      standAt apos.atName
      let (f, first) ← holding [ov] (getMethod ov "__init__" pl)
      callWith pos f first (backTo pos (starEach [.JoinedStr js jp] X.env)) [])
section
variable {P : Program} {w : World} {K : PySem.W.Frag} {mg : Str → Option Value} {base : Heap} {CX : CXT} {k : Nat} {N ps : List Str} {C f cc cda : Addr} {name qual : Str} {params : Arguments} {rest : List Stmt} {scope : Scope} {dV kV doc pm ct oc : Value} {an od : Option Addr} {osl : Array (Option Value)} {p0 p1 apos pos pe : Pos} {js : List Expr} {jp : Pos} {ar : Arg} {sp : Sp}
/-- the function -/
abbrev supNF (name qual : Str) (params : Arguments) (body : List Stmt) (scope : Scope) (cc cda : Addr) : NF := ⟨name, qual, params, body, scope, [("__class__", cc)], cda⟩
/-- THE RULE: an __init__ whose first statement is super().__init__(e) -/
theorem fn_sup (SF : SupF P K mg C cc cda)
    (lk : K.lookup f = some ⟨oc, od, .func (PySem.W.ksFn name qual params (.Expr (supCall p0 p1 apos pos js jp) pe :: rest) scope dV kV doc pm an (.ref cda) ct cc), osl⟩) (hcd : PySem.W.codeIn K (.ref cda) qual = true) (S : NScope N ps ["__class__"] scope)
    (hp : (params.posonlyargs ++ params.args).head? = some ar) (har : ar.arg = "self") (hN : N[0]? = some ("self" : Str)) (hks : scope.names.lookup ("super" : Str) = some .globalImplicit) (hkc : scope.names.lookup ("__class__" : Str) = some .free) (hkl : scope.names.lookup ("self" : Str) = some .local)
    (len : ∀ vs H Q E, sp vs H Q E → vs.length = ps.length)
    (hbody : ∀ (A : Around) (outer : List Env) (s : Shared) (H : Hp) (vs : List V) (Q : VK) (E : XK), Room k (A.deeper (envF (supNF name qual params (.Expr (supCall p0 p1 apos pos js jp) pe :: rest) scope cc cda) f s.heap.objs.size)) → sp vs H Q E →
      ∃ ta t, PA (ncx CX P w K mg base N (supNF name qual params (.Expr (supCall p0 p1 apos pos js jp) pe :: rest) scope cc cda) f A outer s H E ) [.JoinedStr js jp] ta ∧ PSs (ncx CX P w K mg base N (supNF name qual params (.Expr (supCall p0 p1 apos pos js jp) pe :: rest) scope cc cda) f A outer s H E) rest t ∧
        SupE (ncx CX P w K mg base N (supNF name qual params (.Expr (supCall p0 p1 apos pos js jp) pe :: rest) scope cc cda) f A outer s H E) p0 p1 apos pos js jp ∧ ∃ a, vs[0]? = some (.ref a) ∧ H a = some (exo a C none) ∧ ta (startF N vs [none]) H fun us H1 => us.length ≤ 1000 ∧ H1 a = some (exo a C none) ∧ t { nx := fun _ H' => Q .non H', rt := Q } (startF N vs [none]) H1) :
    FnOk P w K mg base CX (k + 1) f (PySem.W.ksFn name qual params (.Expr (supCall p0 p1 apos pos js jp) pe :: rest) scope dV kV doc pm an (.ref cda) ct cc) ps sp := by
  refine ⟨len, fun A outer s H args us vs Q E hr e0 hb r hsp => ?_⟩
  have hl := len _ _ _ _ hsp
  have KX : K.In s.heap := e0.mod.kin.keeps fun b o e => (e0.bs b o e).1
  have lim : s.heap.NoLimit := e0.mod.nolimit.keeps fun b o e => (e0.bs b o e).1
  obtain ⟨cl, cld, csl, hcell⟩ := SF.cell
  have look1 : ∀ {y : Str} {c : Addr}, List.lookup y [(("__class__" : Str), cc)] = some c → y = "__class__" ∧ c = cc := fun {y c} z => by
    by_cases hy : y = ("__class__" : Str)
    · subst hy
      have z2 : cc = c := by simpa [List.lookup] using z
      exact ⟨rfl, z2.symm⟩
    · have e : (y == ("__class__" : Str)) = false := by simpa using hy
      simp [List.lookup, e] at z
  have CA : CellsAt [(("__class__" : Str), cc)] ["__class__"] [none] s.heap H := {
    len := rfl
    all := fun y c z => by
      obtain ⟨_, rfl⟩ := look1 z
      obtain ⟨z1, z2⟩ := e0.bs _ _ (e0.mod.kin _ _ hcell)
      exact ⟨z2, _, _, z1, rfl⟩
    inj := fun x y c z1 z2 => (look1 z1).1.trans (look1 z2).1.symm
    has := fun i y z => by
      cases i with
      | zero =>
        cases z
        exact ⟨cc, by simp [List.lookup], fun v z => by simp at z⟩
      | succ i => simp at z }
  refine PySem.ks_codeAny_call_defAt (body := .Expr (supCall p0 p1 apos pos js jp) pe :: rest) (binds := ps.zip us) hr.depth (KX _ _ lk) rfl lim (PySem.W.codeRec_of KX hcd) rfl hb S.nocell (fun ⟨n, _⟩ hy => S.par n (List.of_mem_zip hy).1) (fun h₁ hns kp => ?_) S.co S.gen S.kind
  obtain ⟨ta, t, hA, hS, ⟨pl, he⟩, a, e1, e2, hq⟩ := hbody A outer s H vs Q E (hr.deeper _) hsp
  have I : Inv (ncx CX P w K mg base N (supNF name qual params (.Expr (supCall p0 p1 apos pos js jp) pe :: rest) scope cc cda) f A outer s H E) [] (startF N vs [none]) H { s with heap := h₁, toks := s.toks + (ps.zip us).length } := inv_startN S hr.hd e0 hl r CA hns kp
  have h0 : (startF N vs [none])[0]? = some (some (V.ref a)) := by
    cases vs with
    | nil => cases e1
    | cons v vs =>
      have z : v = V.ref a := by simpa using e1
      rw [z] <;> rfl
  refine PySem.ks_wpAt_execs_cons (PySem.ks_wpAt_Expr_any (PySem.ks_wpAt_mono (wp_super (X := ncx CX P w K mg base N (supNF name qual params (.Expr (supCall p0 p1 apos pos js jp) pe :: rest) scope cc cda) f A outer s H E) SF hks hkc hkl rfl lk rfl hp har rfl (by show List.lookup ("__class__" : Str) [(("__class__" : Str), cc)] = some cc; simp [List.lookup]) I hN h0 e2 hA hq he) (fun _ s1 hs1 => ?_) fun _ _ z => z) I.quiet ?_)
  · obtain ⟨H1, J, q⟩ := hs1
    refine wpAt_of_wpAny (wpAny_mono (hS.run [] s1 _ H1 _ J q) (fun fl s' hs => ?_) fun e s' hs => hs)
    have fin : ∀ {σ' : L2.St} {H' : Hp} {v : V} {u : Value}, Inv (ncx CX P w K mg base N (supNF name qual params (.Expr (supCall p0 p1 apos pos js jp) pe :: rest) scope cc cda) f A outer s H E) [] σ' H' s' → RelV v u → Q v H' → CE outer P w H s Q u s' :=
      fun {σ' H' v u} J rv q => ⟨v, H', J.os, J.bare, J.base, J.hok, rv, q⟩
    cases fl with
    | ret u =>
      obtain ⟨v, σ', H', J, rv, q⟩ := hs
      exact fin J rv q
    | next =>
      obtain ⟨σ', H', J, q⟩ := hs
      exact fin (v := V.non) (u := Value.none) J rfl q
    | brk =>
      obtain ⟨_, _, _, q⟩ := hs
      exact False.elim q
    | cont =>
      obtain ⟨_, _, _, q⟩ := hs
      exact False.elim q
  · rfl
end
end Pk

set_option maxRecDepth 100000
set_option maxHeartbeats 2000000
/-! {t} in an f-string, t a tuple of small numbers: some text of bounded length -/
namespace Pk
open PySem PySem.Spec PyProof.Rows L2
theorem tos_small {n : Int} (h0 : 0 ≤ n) (h1 : n ≤ 2) : (((toString n : String) : Str)).length ≤ 2 := by
  have : n = 0 ∨ n = 1 ∨ n = 2 := by omega
  rcases this with rfl | rfl | rfl <;> decide +kernel
def tosI (l : List Int) : List Str := l.map fun n => ((toString n : String) : Str)
theorem piledI : ∀ {l : List Int}, (∀ n ∈ l, 0 ≤ n ∧ n ≤ 2) → piled (tosI l) ≤ 4 * l.length
  | [], _ => Nat.zero_le _
  | n :: l, h => by
    have h1 := tos_small (h n List.mem_cons_self).1 (h n List.mem_cons_self).2
    have h2 := piledI fun z hz => h z (List.mem_cons_of_mem _ hz)
    have e : piled (tosI (n :: l)) = (((toString n : String) : Str).length + 2) + piled (tosI l) := piled_cons _ _
    rw [e, List.length_cons]
    omega
theorem repr_allI {prog : Program} {w : World} : ∀ {l : List Int} {its : List Value}, Vals (l.map V.int) its → (∀ n ∈ l, 0 ≤ n ∧ n ≤ 2) → ReprAll prog w its (tosI l)
  | [], _, r, _ => by
    cases r
    exact .nil
  | n :: l, _, r, h => by
    cases r with
    | cons r1 r2 =>
      obtain ⟨t, rfl⟩ := r1
      refine .cons (ReprIs.int t ?_) (repr_allI r2 fun z hz => h z (List.mem_cons_of_mem _ hz))
      obtain ⟨a, b⟩ := h n List.mem_cons_self
      have : n = 0 ∨ n = 1 ∨ n = 2 := by omega
      rcases this with rfl | rfl | rfl <;> decide +kernel
section
variable {X : Cx}
/-- {t}: some text -/
def tFmtI (K : PySem.W.Frag) (te : TE) : TE := fun σ H Q => te σ H fun x H1 => ∃ (a : Addr) (l : List Int), x = .ref a ∧ SqT K H1 a (l.map V.int) ∧ (∀ n ∈ l, 0 ≤ n ∧ n ≤ 2) ∧ l.length ≤ 10000 ∧ ∀ m : Str, m.length ≤ 4 * l.length + 7 → Q (.str m) H1
theorem pe_fmtI {e : Expr} {te : TE} {pos : Pos} {k : Nat} (hr : Room k X.A) (he : PE X e te) : PE X (.FormattedValue e (-1) none pos) (tFmtI X.K te) := by
  refine ⟨fun pins s σ H Q I h => ?_⟩
  refine wpAny_FormattedValue_plain (thn (he.run pins s σ H _ I h) fun v s1 hv => ?_)
  obtain ⟨x, H1, I1, r1, a, l, rfl, ht, hc, hz, q⟩ := hv
  cases r1
  obtain ⟨its, rv, ⟨o, ho, hcl, n, hd⟩, _⟩ := I1.tuple ht
  have hp := piledI hc
  have htx := fmt_text (tosI l)
  have hu := hr.units
  have hs := sizeLine_eq
  refine fmt_tuple (ts := tosI l) (by omega) ho hcl hd (repr_allI rv hc) (by omega) fun m u tk hm => ⟨.str m, H1, I1.tok _, ⟨u, rfl⟩, q m (by omega)⟩
end
end Pk

set_option maxRecDepth 100000
set_option maxHeartbeats 2000000
/-! an exception of the program's own, made without arguments; isinstance of one that is held -/
namespace Pk
open PySem PySem.Spec PyProof.Rows L2
section
variable {X : Cx}
/-- x() -/
theorem pmk_own0 {C : Addr} {bmB : List Value} {B newId initId : String} {x : Str} {p pos : Pos} (F : ExcBaseFacts B newId initId bmB) (q : PySem.W.excIn X.K C bmB newId = true) (gC : X.mg x = some (.ref C)) (kC : PySem.W.keepIn X.K (.ref C) = true) (r : Raises X (.ref C)) (hg : Gl X x)
    (hdb : (x == ("__debug__" : Str)) = false := by decide) : PMk X (.Call (.Name x p) [] [] pos) (fun _ H Q => Q (.ref C) none H) := by
  intro pins s σ H Q I h
  refine wpAny_Call_Name_kw (ld_glob I hg gC ?_ hdb)
  have key : wpAny (model X.prog X.w) X.A (call (.ref C) []) (MkP X pins σ Q) X.xe s := by
    obtain ⟨bm, N, nm, qn, bs, hdct, sn, sub, ab, col, dd, k0, k1, k2, k3, k5, mN, hC, hN, hni, T⟩ := exc_obj I.kIn q
    exact wpAny_call_exc_subT F T hC hN hni (fun h' e hm => mk_of I hm r h (I.hok.gone hm.new)) (Nat.zero_le _)
  exact PySem.W.callWith_K0 I.kIn kC key
end
/-- what is to be known of an exception class D of the program, made without arguments, below C2 -/
structure ExF (K : PySem.W.Frag) (D C2 : Addr) : Prop where
  q : PySem.W.excIn K D [Value.type "ValueError", Value.type "Exception", Value.type "BaseException", Value.type "object"] "ValueError.__new__" = true
  kp : PySem.W.keepIn K (.ref D) = true
  ty : PySem.W.typeIn K (.ref D) = some (.type "type")
  own : PySem.W.exmOne K (.ref D) (.ref D) = some true
  kit : PySem.W.kitOne K (.ref D) (.ref C2) = some true
  e : ExcC K D
theorem rais {X : Cx} {D C2 : Addr} (F : ExF X.K D C2) : Raises X (.ref D) := raises_own F.e.hs F.ty
/-- isinstance of what is caught, where it is known to be a D -/
def rIsEx (K : PySem.W.Frag) (D a : Addr) (cls : Value) (d : Option Addr) : List V → Hp → VK → Prop := fun xs H Q => cls = .ref D ∧ d = none ∧ rIsE K D a xs H Q
theorem call_isEx {X : Cx} {a D : Addr} {oe : Obj} {cls : Value} {d : Option Addr} {pn : List (Addr × Obj)} (C : ExcC X.K D) (hz : Zc cls d oe) (hf : ∃ vs, oe.data = .fields vs) : CallR (X.suite a ((a, oe) :: pn)) (.builtin "isinstance") (rIsEx X.K D a cls d) := by
  intro pins s σ H xs us Q I r h
  obtain ⟨rfl, rfl, h⟩ := h
  exact call_isE C hz hf pins s σ H xs us Q I r h
end Pk

set_option maxRecDepth 100000
set_option maxHeartbeats 2000000
/-! isinstance of an own exception with fields, where the suite holds it -/
namespace Pk
open PySem PySem.Spec PyProof.Rows L2
/-- isinstance(e, c): e at a is a D whose fields stand at some dd -/
def rIsX (K : PySem.W.Frag) (D a : Addr) (cls : Value) (d : Option Addr) : List V → Hp → VK → Prop := fun xs H Q => ∃ (c : V) (cv : Value) (b : Bool) (dd : Addr) (fs : List (Str × V)), cls = .ref D ∧ d = some dd ∧ H dd = some (.xd fs) ∧ xs = [.ref a, c] ∧ (∀ u, RelV c u → u = cv) ∧ PySem.W.kitOne K (.ref D) cv = some b ∧ Q (.bl b) H
theorem call_isX {X : Cx} {a D : Addr} {oe : Obj} {cls : Value} {d : Option Addr} {pn : List (Addr × Obj)} (C : ExcC X.K D) (hc : (PySem.W.clsIn X.K D).isSome = true) (hz : Zc cls d oe) (hf : ∃ vs, oe.data = .fields vs) : CallR (X.suite a ((a, oe) :: pn)) (.builtin "isinstance") (rIsX X.K D a cls d) := by
  intro pins s σ H xs us Q I r h
  obtain ⟨c, cv, b, dd, fs, rfl, rfl, hdd, rfl, hcv, e, q⟩ := h
  cases r with
  | cons rx rr =>
    cases rr with
    | cons rt rr =>
      cases rr
      cases rx
      have ec := hcv _ rt
      subst ec
      obtain ⟨hget, _⟩ := I.pin (a, oe) (List.mem_append.mpr (.inl List.mem_cons_self))
      obtain ⟨vs, hv⟩ := hf
      have hx : ObjOk X.prog X.w H s.heap dd (.xd fs) := I.hok dd _ hdd
      obtain ⟨mA, hns, hr⟩ := hx
      obtain ⟨od, ho, hl⟩ := lookIn_ns hns
      have J : PySem.W.InstAt s.heap a oe D (some od) := by
        obtain ⟨oc, odd, oda, osl⟩ := oe
        obtain ⟨h1, h2⟩ := hz
        dsimp only at h1 h2 hv
        subst h1 h2 hv
        exact ⟨hget, rfl, rfl, ho⟩
      exact PySem.W.kia_one (PySem.W.kitx_exc hc C.hg C.hk C.hs C.ha C.hn C.ht C.hm) I.kIn J e (fun z => nomatch z) fun tk => ⟨.bl b, H, I.kept (t' := tk) fun _ _ z => z, rfl, q⟩
end Pk

set_option maxRecDepth 100000
set_option maxHeartbeats 4000000
namespace Pk
open PySem PySem.Spec PyProof.Rows L2
def top (i : Nat) : Stmt := PySem.Challenge.pw_playsense_k03_kinds_of_terms.main.body.getD i (.Pass ⟨0, 0, 0, 0⟩)
abbrev s__inner_parts : Stmt := top 6
abbrev s__parts : Stmt := top 7
abbrev s__kind_of_name : Stmt := top 8
abbrev s__kind_of_application : Stmt := top 9
abbrev s__kind_of_if : Stmt := top 10
abbrev s__kind_of_part : Stmt := top 11
abbrev s_kind_of : Stmt := top 12
abbrev s__law_cell : Stmt := top 14
abbrev s__law_digits : Stmt := top 15
abbrev s__law_draw : Stmt := top 16
abbrev s__law_box : Stmt := top 17
abbrev s__law_same : Stmt := top 18
abbrev s__law_kind : Stmt := top 19
abbrev s__law_checked : Stmt := top 20
abbrev s__law_joined_kind : Stmt := top 21
abbrev s__law_kind_told : Stmt := top 22
abbrev s__law_loose : Stmt := top 23
abbrev s__law_fits : Stmt := top 24
abbrev s__law_new_name : Stmt := top 25
abbrev s__law_small : Stmt := top 26
abbrev s__law_given : Stmt := top 27
abbrev s__law_term : Stmt := top 28
abbrev s__law_twisted : Stmt := top 29
abbrev s_law : Stmt := top 30
theorem c__inner_parts : FnScope ["part", "names", "form", "_", "name", "kind", "body", "inner"] ["part", "names"] (defScope s__inner_parts) := ⟨rfl, rfl, rfl, by decide +kernel, rfl, by decide +kernel, by decide +kernel⟩
theorem c__parts : FnScope ["term", "found", "pending", "part", "path", "names", "number", "inner", "inner_names"] ["term"] (defScope s__parts) := ⟨rfl, rfl, rfl, by decide +kernel, rfl, by decide +kernel, by decide +kernel⟩
theorem c__kind_of_name : FnScope ["name", "path", "names"] ["name", "path", "names"] (defScope s__kind_of_name) := ⟨rfl, rfl, rfl, by decide +kernel, rfl, by decide +kernel, by decide +kernel⟩
theorem c__kind_of_application : FnScope ["path", "function_kind", "argument_kind"] ["path", "function_kind", "argument_kind"] (defScope s__kind_of_application) := ⟨rfl, rfl, rfl, by decide +kernel, rfl, by decide +kernel, by decide +kernel⟩
theorem c__kind_of_if : FnScope ["path", "part_kinds", "number", "kind"] ["path", "part_kinds"] (defScope s__kind_of_if) := ⟨rfl, rfl, rfl, by decide +kernel, rfl, by decide +kernel, by decide +kernel⟩
theorem c__kind_of_part : FnScope ["part", "path", "names", "part_kinds", "form"] ["part", "path", "names", "part_kinds"] (defScope s__kind_of_part) := ⟨rfl, rfl, rfl, by decide +kernel, rfl, by decide +kernel, by decide +kernel⟩
theorem c_kind_of : FnScope ["term", "kinds", "part", "path", "names", "many", "part_kinds", "number"] ["term"] (defScope s_kind_of) := ⟨rfl, rfl, rfl, by decide +kernel, rfl, by decide +kernel, by decide +kernel⟩
theorem c__law_cell : FnScope ["script", "k"] ["script", "k"] (defScope s__law_cell) := ⟨rfl, rfl, rfl, by decide +kernel, rfl, by decide +kernel, by decide +kernel⟩
theorem c__law_digits : FnScope ["script", "first", "last", "digits", "k", "cell", "turn", "seed"] ["script", "first", "last"] (defScope s__law_digits) := ⟨rfl, rfl, rfl, by decide +kernel, rfl, by decide +kernel, by decide +kernel⟩
theorem c__law_draw : FnScope ["box", "many", "at"] ["box", "many"] (defScope s__law_draw) := ⟨rfl, rfl, rfl, by decide +kernel, rfl, by decide +kernel, by decide +kernel⟩
theorem c__law_box : FnScope ["script", "first", "last"] ["script", "first", "last"] (defScope s__law_box) := ⟨rfl, rfl, rfl, by decide +kernel, rfl, by decide +kernel, by decide +kernel⟩
theorem c__law_same : FnScope ["actual", "expected", "k"] ["actual", "expected"] (defScope s__law_same) := ⟨rfl, rfl, rfl, by decide +kernel, rfl, by decide +kernel, by decide +kernel⟩
theorem c__law_kind : FnScope ["box", "depth", "budget", "parts", "k"] ["box", "depth", "budget"] (defScope s__law_kind) := ⟨rfl, rfl, rfl, by decide +kernel, rfl, by decide +kernel, by decide +kernel⟩
theorem c__law_checked : FnScope ["term", "around", "path", "word", "k", "row", "told", "found"] ["term", "around", "path"] (defScope s__law_checked) := ⟨rfl, rfl, rfl, by decide +kernel, rfl, by decide +kernel, by decide +kernel⟩
theorem c__law_joined_kind : FnScope ["word", "found", "path", "k"] ["word", "found", "path"] (defScope s__law_joined_kind) := ⟨rfl, rfl, rfl, by decide +kernel, rfl, by decide +kernel, by decide +kernel⟩
theorem c__law_kind_told : FnScope ["term", "e"] ["term"] (defScope s__law_kind_told) := ⟨rfl, rfl, rfl, by decide +kernel, rfl, by decide +kernel, by decide +kernel⟩
theorem c__law_loose : FnScope ["box", "budget", "pick", "name", "kind", "first", "second"] ["box", "budget"] (defScope s__law_loose) := ⟨rfl, rfl, rfl, by decide +kernel, rfl, by decide +kernel, by decide +kernel⟩
theorem c__law_fits : FnScope ["around", "kind", "rows", "names", "k", "name", "other", "many"] ["around", "kind"] (defScope s__law_fits) := ⟨rfl, rfl, rfl, by decide +kernel, rfl, by decide +kernel, by decide +kernel⟩
theorem c__law_new_name : FnScope ["box"] ["box"] (defScope s__law_new_name) := ⟨rfl, rfl, rfl, by decide +kernel, rfl, by decide +kernel, by decide +kernel⟩
theorem c__law_small : FnScope ["box", "kind", "around", "rows", "name", "row"] ["box", "kind", "around"] (defScope s__law_small) := ⟨rfl, rfl, rfl, by decide +kernel, rfl, by decide +kernel, by decide +kernel⟩
theorem c__law_given : FnScope ["box", "row", "around", "size", "term", "share", "part"] ["box", "row", "around", "size"] (defScope s__law_given) := ⟨rfl, rfl, rfl, by decide +kernel, rfl, by decide +kernel, by decide +kernel⟩
theorem c__law_term : FnScope ["box", "kind", "around", "size", "pick", "name", "test", "yes", "part", "first", "rows"] ["box", "kind", "around", "size"] (defScope s__law_term) := ⟨rfl, rfl, rfl, by decide +kernel, rfl, by decide +kernel, by decide +kernel⟩
theorem c__law_twisted : FnScope ["box", "term", "word", "at", "one", "menu"] ["box", "term"] (defScope s__law_twisted) := ⟨rfl, rfl, rfl, by decide +kernel, rfl, by decide +kernel, by decide +kernel⟩
theorem c_law : FnScope ["script", "box", "found", "turn", "kind", "term"] ["script"] (defScope s_law) := ⟨rfl, rfl, rfl, by decide +kernel, rfl, by decide +kernel, by decide +kernel⟩
structure Bt (mg : Str → Option Value) : Prop where
  b_enumerate : mg "enumerate" = none
  b_len : mg "len" = none
  b_range : mg "range" = none
  b_int : mg "int" = none
  b_isinstance : mg "isinstance" = none
  b_tuple : mg "tuple" = none
  b_bool : mg "bool" = none
  b_str : mg "str" = none
  b_ValueError : mg "ValueError" = none
  b_max : mg "max" = none
/-- a def of the text: its object, how it is bound, its name -/
structure Df (K : PySem.W.Frag) (mg : Str → Option Value) (x : Str) (st : Stmt) (ps : List Str) (f : Addr) (fd : FuncData) : Prop where
  F : FunD K x x (defArgs st) (defBody st) (defScope st) [] [] f fd
  b : Binds K fd ps []
  m : mg x = some (.ref f)
theorem Df.kp {K : PySem.W.Frag} {mg : Str → Option Value} {x : Str} {st : Stmt} {ps : List Str} {f : Addr} {fd : FuncData} (D : Df K mg x st ps f fd) : PySem.W.keepIn K (.ref f) = true := D.F.kp
theorem Df.ok {P : Program} {w : World} {K : PySem.W.Frag} {mg : Str → Option Value} {base : Heap} {x : Str} {st : Stmt} {ps : List Str} {f : Addr} {fd : FuncData} {N : List Str} {k : Nat} {sp : Sp} (D : Df K mg x st ps f fd) (S : FnScope N ps (defScope st)) (len : ∀ vs H Q E, sp vs H Q E → vs.length = ps.length)
    (hbody : ∀ (cdv : Value) (A : Around) (outer : List Env) (s : Shared) (H : Hp) (vs : List V) (Q : VK) (E : XK), Room k (A.deeper (envOfC x (defScope st) s.heap.objs.size f cdv)) → sp vs H Q E →
      ∃ t, PSs (cxOf CX0 P w K mg base N x (defScope st) f cdv A outer s H E).nox (defBody st) t ∧ t { nx := fun _ H' => Q .non H', rt := Q } (start N vs) H) : FnOk P w K mg base CX0 (k + 1) f fd ps sp :=
  D.F.ok S len fun cdv A outer s H vs Q E hr hsp => let ⟨t, h, q⟩ := hbody cdv A outer s H vs Q E hr hsp; ⟨t, h.nox, q⟩
/-- what stood stands, a new list at p besides -/
structure Nw (p : Addr) (H0 H : Hp) (xs : List V) : Prop where
  s : Same H0 H
  n : H0 p = none
  h : H p = some (.lst xs)
theorem Nw.put {p : Addr} {H0 H : Hp} {xs : List V} (w : Nw p H0 H xs) (ys : List V) : Nw p H0 (upd H p (.lst ys)) ys :=
  ⟨fun b o e => by rw [upd_ne (ne_of_none e w.n)]; exact w.s b o e, w.n, upd_same⟩
theorem Nw.app {p : Addr} {H0 H : Hp} {ds : List Int} {x : Int} (w : Nw p H0 H (ds.map V.int)) : Nw p H0 (upd H p (.lst (ds.map V.int ++ [V.int x]))) ((ds ++ [x]).map V.int) := by
  have e : (ds ++ [x]).map V.int = ds.map V.int ++ [V.int x] := by rw [List.map_append] <;> rfl
  rw [e]
  exact w.put _
theorem Nw.new {p : Addr} {H : Hp} (n : H p = none) (xs : List V) : Nw p H (upd H p (.lst xs)) xs := ⟨same_new n _, n, upd_same⟩
theorem Nw.step {p : Addr} {H0 H H1 : Hp} {xs : List V} (w : Nw p H0 H xs) (s : Same H H1) : Nw p H0 H1 xs := ⟨w.s.trans s, w.n, s _ _ w.h⟩
theorem Same.tup {K : PySem.W.Frag} {H H' : Hp} {a : Addr} {xs : List V} (e : Same H H') (h : SqT K H a xs) : SqT K H' a xs := by
  rcases h with (h | ⟨o, h⟩) | h
  · exact .inl (.inl (e _ _ h))
  · exact .inl (.inr ⟨o, e _ _ h⟩)
  · exact .inr h
theorem small6 {n : Nat} (h : n ≤ 1000000) : n < sizeLine := by rw [sizeLine_eq]; omega
theorem small6' {n : Nat} (h : n ≤ 1000000) : n ≤ sizeLine := by rw [sizeLine_eq]; omega
theorem yes_go {σ : L2.St} {H : Hp} {A B : Hp → Prop} (h : A H) : tYes σ H fun b H3 => if b = true then A H3 else B H3 := by
  show (if true = true then A H else B H)
  exact iteT h
section
variable {P : Program} {w : World} {K : PySem.W.Frag} {mg : Str → Option Value} {base : Heap}
/-! ### _law_cell -/
def spCell (K : PySem.W.Frag) : Sp := fun vs H Q _ => ∃ (a : Addr) (ns : List Int) (k : Int), vs = [.ref a, .int k] ∧ SqL K H a (ns.map V.int) ∧ 0 ≤ k ∧ ∀ i : Int, Q (.int i) H
theorem ok_cell {f : Addr} {fd : FuncData} (D : Df K mg "_law_cell" s__law_cell ["script", "k"] f fd) (B : Bt mg) : FnOk P w K mg base CX0 1 f fd ["script", "k"] (spCell K) := by
  refine D.ok c__law_cell (fun vs H Q E h => ?_) (fun cdv A outer s H vs Q E hr h => ?_)
  · obtain ⟨a, ns, k, rfl, _⟩ := h
    rfl
  obtain ⟨a, ns, k, rfl, hS, h0, q⟩ := h
  have nd := c__law_cell.nd
  refine ⟨_, (pss_cons (ps_if (pt_cmpR op_lt (pv 1) (pe_callB call_len_seq (by rfl) B.b_len PySem.boot_len (pa_cons (pv 0) pa_nil)) (nomark _)) (pss_one (ps_ret (pe_ix ix_list (pv 0) (pv 1) (fun _ _ => rfl)))) pss_nil)
  (pss_one (ps_ret pe_int))), ?_⟩
  have hl : (ns.map V.int).length = ns.length := List.length_map _
  refine ⟨_, rfl, _, rfl, a, _, rfl, .inl hS, _, _, rfl, rfl, _, rfl, ?_⟩
  refine ite2 (fun c => ?_) (fun c => ?_)
  · have c' : k < (((ns.map V.int).length : Nat) : Int) := of_decide_eq_true c
    rw [hl] at c'
    have hk : k.toNat < ns.length := by omega
    have ek : k = ((k.toNat : Nat) : Int) := by omega
    have q1 : atI (ns.map V.int) ((k.toNat : Nat) : Int) = some (.int ns[k.toNat]) := atI_nat (by rw [List.getElem?_map, List.getElem?_eq_getElem hk] <;> rfl)
    rw [← ek] at q1
    exact ⟨_, rfl, _, rfl, a, _, _, _, rfl, rfl, hS, q1, q _⟩
  · exact q _
/-! ### _law_digits -/
def spDigits (K : PySem.W.Frag) : Sp := fun vs H Q _ => ∃ (a : Addr) (ns : List Int) (lo n : Nat), vs = [.ref a, .int lo, .int ((lo : Int) + n)] ∧ SqL K H a (ns.map V.int) ∧ lo ≤ 100 ∧ n ≤ 100 ∧
  ∀ (p : Addr) (H' : Hp) (ds : List Int), Nw p H H' (ds.map V.int) → Q (.ref p) H'
theorem ok_digits {f g : Addr} {fd gd : FuncData} (D : Df K mg "_law_digits" s__law_digits ["script", "first", "last"] f fd) (B : Bt mg)
    (D__law_cell : Df K mg "_law_cell" s__law_cell ["script", "k"] g gd) : FnOk P w K mg base CX0 2 f fd ["script", "first", "last"] (spDigits K) := by
  have G__law_cell : FnOk P w K mg base CX0 1 g gd ["script", "k"] (spCell K) := ok_cell D__law_cell B
  refine D.ok c__law_digits (fun vs H Q E h => ?_) (fun cdv A outer s H vs Q E hr h => ?_)
  · obtain ⟨a, ns, lo, n, rfl, _⟩ := h
    rfl
  obtain ⟨a, ns, lo, n, rfl, hS, hlo, hn, q⟩ := h
  have nd := c__law_digits.nd
  refine ⟨_, (pss_cons (ps_set (i := 3) nd rfl (Or.inl rfl) (pe_lst pa_nil))
  (pss_cons (ps_for PassesOwn.never rfl (pi_range2 (by rfl) B.b_range (pa_cons (pv 1) (pa_cons (pv 2) pa_nil))) (pg_name (i := 4) nd rfl (Or.inl rfl)) (pss_cons (ps_set (i := 5) nd rfl (Or.inl rfl) (pe_call G__law_cell (hr.mono (by first | decide | omega)) (by rfl) D__law_cell.m D__law_cell.kp D__law_cell.b .nil pass0 (pa_cons (pv 0) (pa_cons (pv 4) pa_nil))))
  (pss_cons (ps_if (pt_cmpR op_lt (pv 5) pe_int (nomark _)) (pss_one (ps_set (i := 5) nd rfl (Or.inl rfl) (pe_op op_sub pe_int (pe_op op_mul pe_int (pv 5))))) pss_nil)
  (pss_one (ps_if (pt_cmpR op_ge (pv 5) (pe_op op_pow pe_int pe_int) (nomark _)) (pss_one (ps_for PassesOwn.never rfl (pi_range1 (by rfl) B.b_range (pa_cons pe_int pa_nil)) (pg_name (i := 6) nd rfl (Or.inl rfl)) (pss_one (ps_if (pt_cmpR op_gt (pv 5) pe_int (nomark _)) (pss_cons (ps_expr (pe_bm PySem.F.plainAttrs_list PySem.F.slot_list_append PySem.F.type_list_append mt_append (pv 3) (pa_cons (pe_op op_mod (pe_callTy call_int1 (by rfl) B.b_int (by decide +kernel) (pa_cons (pv 5) pa_nil)) pe_int) pa_nil)))
  (pss_one (ps_set (i := 5) nd rfl (Or.inl rfl) (pe_op op_fdiv (pv 5) pe_int)))) pss_nil)))) (pss_cons (ps_set (i := 7) nd rfl (Or.inl rfl) (pe_op op_mod (pe_callTy call_int1 (by rfl) B.b_int (by decide +kernel) (pa_cons (pe_op op_add (pe_op op_add (pe_op op_mul (pv 5) pe_int) (pe_op op_mul (pv 4) pe_int)) pe_int) pa_nil)) pe_int))
  (pss_one (ps_for PassesOwn.never rfl (pi_range1 (by rfl) B.b_range (pa_cons pe_int pa_nil)) (pg_name (i := 6) nd rfl (Or.inl rfl)) (pss_cons (ps_set (i := 7) nd rfl (Or.inl rfl) (pe_op op_mod (pe_callTy call_int1 (by rfl) B.b_int (by decide +kernel) (pa_cons (pe_op op_add (pe_op op_add (pe_op op_mul (pv 7) pe_int) (pe_op op_mul pe_int (pv 6))) pe_int) pa_nil)) pe_int))
  (pss_one (ps_expr (pe_bm PySem.F.plainAttrs_list PySem.F.slot_list_append PySem.F.type_list_append mt_append (pv 3) (pa_cons (pe_op op_mod (pe_callTy call_int1 (by rfl) B.b_int (by decide +kernel) (pa_cons (pe_op op_fdiv (pv 7) pe_int) pa_nil)) pe_int) pa_nil)))))))))))))
  (pss_one (ps_ret (pv 3))))), ?_⟩
  refine ⟨Nat.zero_le _, fun p np => ?_⟩
  refine ⟨_, rfl, _, rfl, _, _, rfl, ⟨by omega, by omega, by omega, by omega⟩, ?_⟩
  refine for_range (lo := (lo : Int)) (n := ((lo : Int) + n - lo).toNat) (fun i σ H' => ∃ (ds : List Int) (y4 y5 y6 y7 : Option V), σ = [some (.ref a), some (.int lo), some (.int ((lo : Int) + n)), some (.ref p), y4, y5, y6, y7] ∧ Nw p H H' (ds.map V.int) ∧ ds.length ≤ 60 * i)
    ⟨[], none, none, none, none, rfl, Nw.new np _, Nat.zero_le _⟩ ?_ ?_
  · rintro i σ H1 hi ⟨ds, y4, y5, y6, y7, rfl, hw, hd⟩
    have hi2 : i < n := by omega
    refine ⟨_, rfl, _, rfl, a, ns, (lo : Int) + i, rfl, hw.s.seq hS, by omega, fun c => ?_⟩
    refine ⟨_, rfl, _, _, rfl, rfl, _, rfl, ite2 (fun e1 => ⟨_, rfl, _, _, rfl, rfl, .inl ⟨by decide, by decide⟩, _, _, rfl, rfl, ?_⟩) (fun e1 => ?_)⟩
    all_goals
      refine ⟨_, rfl, _, _, rfl, rfl, ⟨by decide, by decide, by decide⟩, _, _, rfl, rfl, _, rfl, ite2 (fun e2 => ?_) (fun e2 => ?_)⟩
      · refine ⟨60, rfl, by decide, by decide, for_range (n := 60) (fun j σ H' => ∃ (es : List Int) (c' : Int) (y6 y7 : Option V), σ = [some (.ref a), some (.int lo), some (.int ((lo : Int) + n)), some (.ref p), some (.int ((lo : Int) + i)), some (.int c'), y6, y7] ∧ Nw p H H' (es.map V.int) ∧ es.length ≤ 60 * i + j)
          ⟨ds, _, _, _, rfl, hw, hd⟩ ?_ ?_⟩
        · rintro j σ H2 hj ⟨es, c', y6, y7, rfl, hw2, he⟩
          refine ⟨_, rfl, _, _, rfl, rfl, _, rfl, ite2 (fun e3 => ?_) (fun e3 => ⟨es, c', _, _, rfl, hw2, by omega⟩)⟩
          refine ⟨_, rfl, .inl ⟨rfl, _, SqL.of hw2.h⟩, _, rfl, .inl ⟨_, rfl, _, _, rfl, rfl, (by show (0 : Int) < 1000; decide), _, _, _, rfl, rfl, hw2.h, small6 (by rw [List.length_map]; omega), ?_⟩⟩
          refine ⟨_, rfl, _, _, rfl, rfl, ⟨by decide, by decide⟩, es ++ [_], _, _, _, rfl, hw2.app, ?_⟩
          rw [List.length_append, List.length_singleton]
          omega
        · rintro σ H2 ⟨es, c', y6, y7, rfl, hw2, he⟩
          exact ⟨es, _, _, _, _, rfl, hw2, by omega⟩
      · refine ⟨_, rfl, _, _, rfl, rfl, .inr ⟨by decide, by decide⟩, _, rfl, _, _, rfl, rfl, .inr ⟨by decide, by decide⟩, _, _, rfl, rfl, _, _, rfl, rfl, .inl ⟨_, rfl, _, _, rfl, rfl, (by show (0 : Int) < 2147483647; decide), ?_⟩⟩
        refine ⟨12, rfl, by decide, by decide, for_range (n := 12) (fun j σ H' => ∃ (es : List Int) (c' z : Int) (y6 : Option V), σ = [some (.ref a), some (.int lo), some (.int ((lo : Int) + n)), some (.ref p), some (.int ((lo : Int) + i)), some (.int c'), y6, some (.int z)] ∧ Nw p H H' (es.map V.int) ∧ es.length ≤ 60 * i + j)
          ⟨ds, _, _, _, rfl, hw, hd⟩ ?_ ?_⟩
        · rintro j σ H2 hj ⟨es, c', z, y6, rfl, hw2, he⟩
          refine ⟨_, rfl, _, _, rfl, rfl, .inr ⟨by decide, by decide⟩, _, rfl, _, _, rfl, rfl, .inl ⟨by decide, by decide⟩, _, _, rfl, rfl, _, _, rfl, rfl, .inl ⟨_, rfl, _, _, rfl, rfl, (by show (0 : Int) < 2147483647; decide), ?_⟩⟩
          refine ⟨_, rfl, .inl ⟨rfl, _, SqL.of hw2.h⟩, _, rfl, _, _, rfl, rfl, ⟨by decide, by decide⟩, .inl ⟨_, rfl, _, _, rfl, rfl, (by show (0 : Int) < 1000; decide), _, _, _, rfl, rfl, hw2.h, small6 (by rw [List.length_map]; omega), ?_⟩⟩
          refine ⟨es ++ [_], _, _, _, rfl, hw2.app, ?_⟩
          rw [List.length_append, List.length_singleton]
          omega
        · rintro σ H2 ⟨es, c', z, y6, rfl, hw2, he⟩
          exact ⟨es, _, _, _, _, rfl, hw2, by omega⟩
  · rintro σ H1 ⟨ds, y4, y5, y6, y7, rfl, hw, hd⟩
    exact ⟨_, rfl, q p H1 ds hw⟩
end

/-! ### the box -/
def BoxAt (H : Hp) (b d : Addr) : Prop := ∃ (ds : List Int) (n : Int), H b = some (.lst [.ref d, .int n]) ∧ H d = some (.lst (ds.map V.int)) ∧ d ≠ b ∧ 0 ≤ n
theorem BoxAt.lst {H : Hp} {b d : Addr} (x : BoxAt H b d) : ∃ xs, H b = some (.lst xs) := let ⟨_, _, h, _⟩ := x; ⟨_, h⟩
theorem BoxAt.dst {H : Hp} {b d : Addr} (x : BoxAt H b d) : ∃ xs, H d = some (.lst xs) := let ⟨_, _, _, h, _⟩ := x; ⟨_, h⟩
theorem BoxAt.keep {H H' : Hp} {b d : Addr} (x : BoxAt H b d) (h1 : ∀ o, H b = some o → H' b = some o) (h2 : ∀ o, H d = some o → H' d = some o) : BoxAt H' b d := let ⟨ds, n, a1, a2, a3, a4⟩ := x; ⟨ds, n, h1 _ a1, h2 _ a2, a3, a4⟩
theorem BoxAt.same {H H' : Hp} {b d : Addr} (x : BoxAt H b d) (s : Same H H') : BoxAt H' b d := x.keep (fun _ => s _ _) (fun _ => s _ _)
theorem BoxAt.other {H : Hp} {b d u : Addr} (o : HO) (x : BoxAt H b d) (hb : u ≠ b) (hd : u ≠ d) : BoxAt (upd H u o) b d := x.keep (fun _ h => by rw [upd_ne hb.symm]; exact h) (fun _ h => by rw [upd_ne hd.symm]; exact h)
theorem box_kx {H H' : Hp} {b d : Addr} (x : BoxAt H b d) (y : BoxAt H' b d) (s : SB b H H') : Kx H H' := let ⟨_, h⟩ := x.lst; let ⟨_, h'⟩ := y.lst; sb_kx s h h'
section
variable {P : Program} {w : World} {K : PySem.W.Frag} {mg : Str → Option Value} {base : Heap}
def spDraw : Sp := fun vs H Q _ => ∃ (b d : Addr) (m : Int), vs = [.ref b, .int m] ∧ BoxAt H b d ∧ 0 < m ∧ ∀ (r : Int) (H' : Hp), 0 ≤ r → r < m → BoxAt H' b d → SB b H H' → Q (.int r) H'
theorem ok_draw {f : Addr} {fd : FuncData} (D : Df K mg "_law_draw" s__law_draw ["box", "many"] f fd) (B : Bt mg) : FnOk P w K mg base CX0 1 f fd ["box", "many"] spDraw := by
  refine D.ok c__law_draw (fun vs H Q E h => ?_) (fun cdv A outer s H vs Q E hr h => ?_)
  · obtain ⟨b, d, m, rfl, _⟩ := h
    rfl
  obtain ⟨b, d, m, rfl, ⟨ds, n, hb, hd, hdb, hn⟩, hm, q⟩ := h
  have nd := c__law_draw.nd
  refine ⟨_, (pss_cons (ps_set (i := 2) nd rfl (Or.inl rfl) (pe_ix ix_list (pv 0) pe_int (fun _ _ => rfl)))
  (pss_cons (ps_asg (pe_op op_add (pv 2) pe_int) (pg_sub (pv 0) pe_int set_list))
  (pss_cons (ps_if (pt_cmpR op_lt (pv 2) (pe_callB call_len_seq (by rfl) B.b_len PySem.boot_len (pa_cons (pe_ix ix_list (pv 0) pe_int (fun _ _ => rfl)) pa_nil)) (nomark _)) (pss_one (ps_ret (pe_op op_mod (pe_callTy call_int1 (by rfl) B.b_int (by decide +kernel) (pa_cons (pe_ix ix_list (pe_ix ix_list (pv 0) pe_int (fun _ _ => rfl)) (pv 2) (fun _ _ => rfl)) pa_nil)) (pv 1)))) pss_nil)
  (pss_one (ps_ret pe_int))))), ?_⟩
  refine ⟨_, rfl, b, _, 1, _, rfl, rfl, SqL.of hb, rfl, ?_⟩
  refine ⟨_, rfl, _, _, rfl, rfl, _, rfl, b, _, 1, 1, rfl, rfl, hb, rfl, ?_⟩
  have hb' : (upd H b (.lst [.ref d, .int (n + 1)])) b = some (.lst [.ref d, .int (n + 1)]) := upd_same
  have hd' : (upd H b (.lst [.ref d, .int (n + 1)])) d = some (.lst (ds.map V.int)) := by rw [upd_ne hdb]; exact hd
  have hB : BoxAt (upd H b (.lst [.ref d, .int (n + 1)])) b d := ⟨ds, n + 1, hb', hd', hdb, by omega⟩
  refine ⟨_, rfl, _, rfl, b, _, 0, _, rfl, rfl, SqL.of hb', rfl, d, _, rfl, .inl (SqL.of hd'), _, _, rfl, rfl, _, rfl, ite2 (fun c => ?_) (fun c => ?_)⟩
  · have c' : n < (((ds.map V.int).length : Nat) : Int) := of_decide_eq_true c
    rw [List.length_map] at c'
    have hk : n.toNat < ds.length := by omega
    have q1 : atI (ds.map V.int) ((n.toNat : Nat) : Int) = some (.int ds[n.toNat]) := atI_nat (by rw [List.getElem?_map, List.getElem?_eq_getElem hk] <;> rfl)
    have ek : ((n.toNat : Nat) : Int) = n := by omega
    rw [ek] at q1
    refine ⟨_, rfl, b, _, 0, _, rfl, rfl, SqL.of hb', rfl, _, rfl, d, _, _, _, rfl, rfl, SqL.of hd', q1, .inl ⟨_, rfl, _, rfl, _, _, rfl, rfl, hm, ?_⟩⟩
    exact q _ _ (Int.emod_nonneg _ (by omega)) (Int.emod_lt_of_pos _ hm) hB (sb_upd _)
  · exact q 0 _ (Int.le_refl _) hm hB (sb_upd _)
def spBox (K : PySem.W.Frag) : Sp := fun vs H Q _ => ∃ (a : Addr) (ns : List Int) (lo n : Nat), vs = [.ref a, .int lo, .int ((lo : Int) + n)] ∧ SqL K H a (ns.map V.int) ∧ lo ≤ 100 ∧ n ≤ 100 ∧
  ∀ (p d : Addr) (H' : Hp), Same H H' → H p = none → H d = none → BoxAt H' p d → Q (.ref p) H'
theorem ok_box {f g e : Addr} {fd gd ed : FuncData} (D : Df K mg "_law_box" s__law_box ["script", "first", "last"] f fd) (D__law_digits : Df K mg "_law_digits" s__law_digits ["script", "first", "last"] g gd) (D__law_cell : Df K mg "_law_cell" s__law_cell ["script", "k"] e ed) (B : Bt mg) :
    FnOk P w K mg base CX0 3 f fd ["script", "first", "last"] (spBox K) := by
  have G__law_digits : FnOk P w K mg base CX0 2 g gd ["script", "first", "last"] (spDigits K) := ok_digits D__law_digits B D__law_cell
  refine D.ok c__law_box (fun vs H Q E h => ?_) (fun cdv A outer s H vs Q E hr h => ?_)
  · obtain ⟨a, ns, lo, n, rfl, _⟩ := h
    rfl
  obtain ⟨a, ns, lo, n, rfl, hS, hlo, hn, q⟩ := h
  have nd := c__law_box.nd
  refine ⟨_, (pss_one (ps_ret (pe_lst (pa_cons (pe_call G__law_digits (hr.mono (by first | decide | omega)) (by rfl) D__law_digits.m D__law_digits.kp D__law_digits.b .nil pass0 (pa_cons (pv 0) (pa_cons (pv 1) (pa_cons (pv 2) pa_nil)))) (pa_cons pe_int pa_nil))))), ?_⟩
  refine ⟨_, rfl, _, rfl, _, rfl, a, ns, lo, n, rfl, hS, hlo, hn, fun p H1 ds hw => ⟨(by show 2 ≤ sizeLine; decide), fun r hr' => ?_⟩⟩
  have hne : p ≠ r := ne_of_none hw.h hr'
  have s1 : Same H1 (upd H1 r (.lst [.ref p, .int 0])) := same_new hr' _
  exact q r p _ (hw.s.trans s1) (hw.s.free hr') hw.n ⟨ds, 0, upd_same, s1 _ _ hw.h, hne, Int.le_refl _⟩
end
/-! ### isinstance -/
def tyD : D → String
  | .at .non => "NoneType"
  | .at (.bl _) => "bool"
  | .at (.int _) => "int"
  | .at _ => "str"
  | .lst => "list"
  | .tup _ => "tuple"
def isTup : D → Bool
  | .tup _ => true
  | _ => false
def isBool : D → Bool
  | .at (.bl _) => true
  | _ => false
def isInt : D → Bool
  | .at (.int _) => true
  | .at (.bl _) => true
  | _ => false
def isStr : D → Bool
  | .at .non => false
  | .at (.bl _) => false
  | .at (.int _) => false
  | .at _ => true
  | _ => false
theorem tup_ty {K : PySem.W.Frag} {H : Hp} {a : Addr} {xs : List V} (h : TupAt K H a xs) : TyX K H (.ref a) (.type "tuple") := by
  rcases h with h | ⟨o, its, n, h, c, _⟩
  · exact .base (.tup h)
  · exact .kTuple h c
theorem rep_ty {K : PySem.W.Frag} {H : Hp} {x : V} {d : D} (r : Rep K H x d) : TyX K H x (.type (tyD d)) := by
  cases r with
  | lst h => exact .base (.lst h)
  | tup h _ => exact tup_ty h
  | «at» h =>
    cases x with
    | non => exact .base .non
    | bl b => exact .base (.bl b)
    | int i => exact .base (.int i)
    | str s => exact .base (.str s)
    | byt _ => cases h
    | flt _ => cases h
    | ref _ => cases h
    | ty _ => cases h
theorem kit_tup (d : D) : kitB (tyD d) "tuple" = some (isTup d) := by
  have h_NoneType : kitB "NoneType" "tuple" = some false := by decide +kernel
  have h_bool : kitB "bool" "tuple" = some false := by decide +kernel
  have h_int : kitB "int" "tuple" = some false := by decide +kernel
  have h_str : kitB "str" "tuple" = some false := by decide +kernel
  have h_list : kitB "list" "tuple" = some false := by decide +kernel
  have h_tuple : kitB "tuple" "tuple" = some true := by decide +kernel
  cases d with
  | tup _ => exact h_tuple
  | lst => exact h_list
  | «at» v =>
    cases v with
    | non => exact h_NoneType
    | bl _ => exact h_bool
    | int _ => exact h_int
    | _ => exact h_str
theorem kit_bool (d : D) : kitB (tyD d) "bool" = some (isBool d) := by
  have h_NoneType : kitB "NoneType" "bool" = some false := by decide +kernel
  have h_bool : kitB "bool" "bool" = some true := by decide +kernel
  have h_int : kitB "int" "bool" = some false := by decide +kernel
  have h_str : kitB "str" "bool" = some false := by decide +kernel
  have h_list : kitB "list" "bool" = some false := by decide +kernel
  have h_tuple : kitB "tuple" "bool" = some false := by decide +kernel
  cases d with
  | tup _ => exact h_tuple
  | lst => exact h_list
  | «at» v =>
    cases v with
    | non => exact h_NoneType
    | bl _ => exact h_bool
    | int _ => exact h_int
    | _ => exact h_str
theorem kit_int (d : D) : kitB (tyD d) "int" = some (isInt d) := by
  have h_NoneType : kitB "NoneType" "int" = some false := by decide +kernel
  have h_bool : kitB "bool" "int" = some true := by decide +kernel
  have h_int : kitB "int" "int" = some true := by decide +kernel
  have h_str : kitB "str" "int" = some false := by decide +kernel
  have h_list : kitB "list" "int" = some false := by decide +kernel
  have h_tuple : kitB "tuple" "int" = some false := by decide +kernel
  cases d with
  | tup _ => exact h_tuple
  | lst => exact h_list
  | «at» v =>
    cases v with
    | non => exact h_NoneType
    | bl _ => exact h_bool
    | int _ => exact h_int
    | _ => exact h_str
theorem kit_str (d : D) : kitB (tyD d) "str" = some (isStr d) := by
  have h_NoneType : kitB "NoneType" "str" = some false := by decide +kernel
  have h_bool : kitB "bool" "str" = some false := by decide +kernel
  have h_int : kitB "int" "str" = some false := by decide +kernel
  have h_str : kitB "str" "str" = some true := by decide +kernel
  have h_list : kitB "list" "str" = some false := by decide +kernel
  have h_tuple : kitB "tuple" "str" = some false := by decide +kernel
  cases d with
  | tup _ => exact h_tuple
  | lst => exact h_list
  | «at» v =>
    cases v with
    | non => exact h_NoneType
    | bl _ => exact h_bool
    | int _ => exact h_int
    | _ => exact h_str
theorem isi {K : PySem.W.Frag} {H : Hp} {x : V} {d : D} {T : String} {b : Bool} {Q : VK} (r : Rep K H x d) (h : kitB (tyD d) T = some b) (q : Q (.bl b) H) : rIsi K [x, .ty T] H Q :=
  ⟨x, .ty T, .type (tyD d), .type T, b, rfl, .ty T, rep_ty r, kit_ty h, q⟩
/-! ### data without lists -/
mutual
def noL : D → Bool
  | .tup ts => noLs ts
  | .lst => false
  | .at _ => true
def noLs : List D → Bool
  | [] => true
  | t :: r => noL t && noLs r
end
theorem noL_mem : ∀ {l : List D}, noLs l = true → ∀ {d : D}, d ∈ l → noL d = true
  | t :: r, hk, d, h => by
    have hk' : (noL t && noLs r) = true := hk
    rw [Bool.and_eq_true] at hk'
    rcases List.mem_cons.mp h with e | h
    · rw [e]
      exact hk'.1
    · exact noL_mem hk'.2 h
/-! ### _law_same -/
section
variable {P : Program} {w : World} {K : PySem.W.Frag} {mg : Str → Option Value} {base : Heap}
def spSame (K : PySem.W.Frag) (n : Nat) : Sp := fun vs H Q _ => ∃ (x y : V) (d e : D), vs = [x, y] ∧ Rep K H x d ∧ Rep K H y e ∧ noL e = true ∧ dep e < n ∧ szs [e] ≤ 1000000 ∧ ∀ r : Bool, (r = true ↔ d = e) → Q (.bl r) H
theorem ok_same0 {f : Addr} {fd : FuncData} : FnOk P w K mg base CX0 0 f fd ["actual", "expected"] (spSame K 0) := by
  have no : ∀ vs H Q E, ¬ spSame K 0 vs H Q E := fun vs H Q E h => by
    obtain ⟨x, y, d, e, _, _, _, _, h1, _⟩ := h
    omega
  exact ⟨fun vs H Q E h => absurd h (no vs H Q E), fun A outer s H args us vs Q E _ _ _ _ h => absurd h (no vs H Q E)⟩
theorem ok_same {f : Addr} {fd : FuncData} (D__law_same : Df K mg "_law_same" s__law_same ["actual", "expected"] f fd) (B : Bt mg) : ∀ n : Nat, FnOk P w K mg base CX0 n f fd ["actual", "expected"] (spSame K n)
  | 0 => ok_same0
  | n + 1 => by
    have G__law_same := ok_same D__law_same B n
    refine D__law_same.ok c__law_same (fun vs H Q E h => ?_) (fun cdv A outer s H vs Q E hr h => ?_)
    · obtain ⟨x, y, d, e, rfl, _⟩ := h
      rfl
    obtain ⟨x, y, d, e, rfl, rx, ry, hnl, hdp, hsz, q⟩ := h
    have nd := c__law_same.nd
    refine ⟨_, (pss_cons (ps_if (pt_val (pe_callB call_isi (by rfl) B.b_isinstance (by decide +kernel) (pa_cons (pv 1) (pa_cons (pe_bltn (v := .ty "tuple") (by rfl) B.b_tuple (by decide +kernel) rfl) pa_nil)))) (pss_cons (ps_if (PW.pt (pw_or (pt_not (pt_val (pe_callB call_isi (by rfl) B.b_isinstance (by decide +kernel) (pa_cons (pv 0) (pa_cons (pe_bltn (v := .ty "tuple") (by rfl) B.b_tuple (by decide +kernel) rfl) pa_nil))))) (pw_or1 (pt_cmpR op_ne (pe_callB call_len_seq (by rfl) B.b_len PySem.boot_len (pa_cons (pv 0) pa_nil)) (pe_callB call_len_seq (by rfl) B.b_len PySem.boot_len (pa_cons (pv 1) pa_nil)) (nomark _))))) (pss_one (ps_ret pe_bl)) pss_nil)
  (pss_cons (ps_for PassesOwn.never rfl (pi_range1 (by rfl) B.b_range (pa_cons (pe_callB call_len_seq (by rfl) B.b_len PySem.boot_len (pa_cons (pv 1) pa_nil)) pa_nil)) (pg_name (i := 2) nd rfl (Or.inl rfl)) (pss_one (ps_if (pt_not (pt_val (pe_call G__law_same hr (by rfl) D__law_same.m D__law_same.kp D__law_same.b .nil pass0 (pa_cons (pe_ix ix_tup (pv 0) (pv 2) (fun _ _ => rfl)) (pa_cons (pe_ix ix_tup (pv 1) (pv 2) (fun _ _ => rfl)) pa_nil))))) (pss_one (ps_ret pe_bl)) pss_nil)))
  (pss_one (ps_ret pe_bl)))) pss_nil)
  (pss_cons (ps_if (pt_cmpR op_isN (pv 1) pe_non (nomark _)) (pss_one (ps_ret (pe_cmpR op_isN (pv 0) pe_non (nomark _)))) pss_nil)
  (pss_cons (ps_if (pt_val (pe_callB call_isi (by rfl) B.b_isinstance (by decide +kernel) (pa_cons (pv 1) (pa_cons (pe_bltn (v := .ty "bool") (by rfl) B.b_bool (by decide +kernel) rfl) pa_nil)))) (pss_one (ps_ret (pe_and (pe_callB call_isi (by rfl) B.b_isinstance (by decide +kernel) (pa_cons (pv 0) (pa_cons (pe_bltn (v := .ty "bool") (by rfl) B.b_bool (by decide +kernel) rfl) pa_nil))) (pe_one (pe_cmpR op_eq (pv 0) (pv 1) (nomark _)))))) pss_nil)
  (pss_cons (ps_if (pt_val (pe_callB call_isi (by rfl) B.b_isinstance (by decide +kernel) (pa_cons (pv 1) (pa_cons (pe_bltn (v := .ty "int") (by rfl) B.b_int (by decide +kernel) rfl) pa_nil)))) (pss_one (ps_ret (pe_and (pe_callB call_isi (by rfl) B.b_isinstance (by decide +kernel) (pa_cons (pv 0) (pa_cons (pe_bltn (v := .ty "int") (by rfl) B.b_int (by decide +kernel) rfl) pa_nil))) (pe_and (pe_not (pe_callB call_isi (by rfl) B.b_isinstance (by decide +kernel) (pa_cons (pv 0) (pa_cons (pe_bltn (v := .ty "bool") (by rfl) B.b_bool (by decide +kernel) rfl) pa_nil)))) (pe_one (pe_cmpR op_eq (pv 0) (pv 1) (nomark _))))))) pss_nil)
  (pss_one (ps_ret (pe_and (pe_callB call_isi (by rfl) B.b_isinstance (by decide +kernel) (pa_cons (pv 0) (pa_cons (pe_bltn (v := .ty "str") (by rfl) B.b_str (by decide +kernel) rfl) pa_nil))) (pe_one (pe_cmpR op_eq (pv 0) (pv 1) (nomark _)))))))))), ?_⟩
    refine ⟨y, rfl, _, _, _, _, _, rfl, .ty _, rep_ty ry, kit_ty (kit_tup _), ⟨_, rfl, ?_⟩⟩
    cases e with
    | lst => cases hnl
    | tup ts =>
      refine iteT ?_
      refine ⟨x, rfl, _, _, _, _, _, rfl, .ty _, rep_ty rx, kit_ty (kit_tup _), ⟨_, rfl, ?_⟩⟩
      obtain ⟨b, ys, rfl, hy, ry'⟩ := ry.inv
      have hts : ts.length ≤ 1000000 := by
        have h1 := len_szs ts
        have h2 : szs ts + 1 + 0 ≤ 1000000 := hsz
        omega
      have lts : (ts.length : Int) ≤ 1000000 := by omega
      cases d with
      | lst => exact iteT (q false ⟨fun z => (nomatch z), fun z => (nomatch z)⟩)
      | «at» v => exact iteT (q false ⟨fun z => (nomatch z), fun z => (nomatch z)⟩)
      | tup us =>
        obtain ⟨a, xs, rfl, hx, rx'⟩ := rx.inv
        have lx := rx'.length
        have ly := ry'.length
        refine iteF ?_
        refine ⟨_, rfl, a, xs, rfl, .inr (hx.sq), _, rfl, b, ys, rfl, .inr (hy.sq), rfl, _, rfl, ite2 (fun c => ?_) (fun c => ?_)⟩
        · refine q false ⟨fun z => (nomatch z), fun z => ?_⟩
          cases z
          rw [lx, ly, decide_eq_true rfl] at c
          cases c
        · have el : xs.length = ys.length := by
            by_cases z : V.int ((xs.length : Nat) : Int) = V.int ((ys.length : Nat) : Int)
            · exact Int.ofNat.inj (V.int.inj z)
            · rw [decide_eq_false z] at c
              exact absurd rfl c
          refine ⟨_, rfl, b, ys, rfl, .inr (hy.sq), _, rfl, by omega, by omega, for_range (n := ((ys.length : Nat) : Int).toNat) (fun i σ H' => H' = H ∧ us.take i = ts.take i ∧ ∃ y2, σ = [some (.ref a), some (.ref b), y2])
            ⟨rfl, rfl, _, rfl⟩ ?_ ?_⟩
          · rintro i σ H' hi ⟨rfl, ht, y2, rfl⟩
            have hi' : i < ys.length := by omega
            have iy : ys[i]? = some ys[i] := List.getElem?_eq_getElem hi'
            have ix : xs[i]? = some (xs[i]'(by omega)) := List.getElem?_eq_getElem (by omega)
            obtain ⟨du, hdu, ru⟩ := rx'.get ix
            obtain ⟨dt, hdt, rt⟩ := ry'.get iy
            have mt : dt ∈ ts := List.mem_of_getElem? hdt
            have ez : (0 : Int) + (i : Nat) = ((i : Nat) : Int) := by omega
            have ax : atI xs ((0 : Int) + (i : Nat)) = some (xs[i]'(by omega)) := by rw [ez]; exact atI_nat ix
            have ay : atI ys ((0 : Int) + (i : Nat)) = some ys[i] := by rw [ez]; exact atI_nat iy
            have z1 := dep_mem mt
            have z2 := sz_mem mt
            have z3 : deps ts < n + 1 := hdp
            have z4 : szs ts + 1 + 0 ≤ 1000000 := hsz
            refine ⟨_, rfl, _, rfl, a, xs, _, _, rfl, rfl, hx.sq, ax, _, rfl, _, rfl, b, ys, _, _, rfl, rfl, hy.sq, ay, _, _, du, dt, rfl, ru, rt, noL_mem hnl mt, by omega, by show sz dt + 0 ≤ 1000000; omega, fun r hr => ⟨_, rfl, ?_⟩⟩
            cases r with
            | true =>
              refine iteF ⟨rfl, ?_, _, rfl⟩
              rw [List.take_add_one, List.take_add_one, hdu, hdt, ht, hr.mp rfl]
            | false =>
              refine iteT (q false ⟨fun z => (nomatch z), fun z => ?_⟩)
              cases z
              rw [hdu] at hdt
              cases hdt
              exact hr.mpr rfl
          · rintro σ H' ⟨rfl, ht, y2, rfl⟩
            refine q true ⟨fun _ => ?_, fun _ => rfl⟩
            have e1 : us.take ((ys.length : Nat) : Int).toNat = us := List.take_of_length_le (by omega)
            have e2 : ts.take ((ys.length : Nat) : Int).toNat = ts := List.take_of_length_le (by omega)
            rw [← e1, ← e2, ht]
    | «at» v =>
      obtain ⟨rfl, hf⟩ := ry.inva
      refine iteF ?_
      refine ⟨_, rfl, rfl, _, rfl, ite2 (fun c => ?_) (fun c => ?_)⟩
      · have ev : y = .non := of_decide_eq_true c
        subst ev
        refine ⟨_, rfl, rfl, ?_⟩
        refine q _ ⟨fun z => ?_, fun z => ?_⟩
        · have ex : x = .non := of_decide_eq_true z
          subst ex
          cases rx
          rfl
        · subst z
          obtain ⟨rfl, _⟩ := rx.inva
          exact decide_eq_true rfl
      have hv : y ≠ .non := fun z => c (decide_eq_true z)
      refine ⟨y, rfl, _, _, _, _, _, rfl, .ty _, rep_ty ry, kit_ty (kit_bool _), ⟨_, rfl, ?_⟩⟩
      cases y with
      | non => exact absurd rfl hv
      | byt _ => cases hf
      | flt _ => cases hf
      | ref _ => cases hf
      | ty _ => cases hf
      | bl b =>
        refine iteT ⟨x, rfl, _, _, _, _, _, rfl, .ty _, rep_ty rx, kit_ty (kit_bool _), ⟨_, rfl, ?_⟩⟩
        cases d with
        | tup _ => exact iteF (q false ⟨fun z => (nomatch z), fun z => (nomatch z)⟩)
        | lst => exact iteF (q false ⟨fun z => (nomatch z), fun z => (nomatch z)⟩)
        | «at» v =>
          obtain ⟨rfl, _⟩ := rx.inva
          cases x with
          | bl b2 =>
            refine iteT ⟨_, rfl, _, rfl, rfl, q _ ⟨fun z => ?_, fun z => ?_⟩⟩
            · rw [of_decide_eq_true z]
            · cases z
              exact decide_eq_true rfl
          | _ => exact iteF (q false ⟨fun z => (nomatch z), fun z => (nomatch z)⟩)
      | int i =>
        refine iteF ⟨_, rfl, _, _, _, _, _, rfl, .ty _, rep_ty ry, kit_ty (kit_int _), ⟨_, rfl, iteT ⟨x, rfl, _, _, _, _, _, rfl, .ty _, rep_ty rx, kit_ty (kit_int _), ⟨_, rfl, ?_⟩⟩⟩⟩
        cases d with
        | tup _ => exact iteF (q false ⟨fun z => (nomatch z), fun z => (nomatch z)⟩)
        | lst => exact iteF (q false ⟨fun z => (nomatch z), fun z => (nomatch z)⟩)
        | «at» v =>
          obtain ⟨rfl, _⟩ := rx.inva
          cases x with
          | bl b2 => exact iteT ⟨_, rfl, _, _, _, _, _, rfl, .ty _, rep_ty rx, kit_ty (kit_bool _), ⟨_, rfl, ⟨_, rfl, iteF (q false ⟨fun z => (nomatch z), fun z => (nomatch z)⟩)⟩⟩⟩
          | int i2 =>
            refine iteT ⟨_, rfl, _, _, _, _, _, rfl, .ty _, rep_ty rx, kit_ty (kit_bool _), ⟨_, rfl, ⟨_, rfl, iteT ?_⟩⟩⟩
            refine ⟨_, rfl, _, rfl, rfl, q _ ⟨fun z => ?_, fun z => ?_⟩⟩
            · rw [of_decide_eq_true z]
            · cases z
              exact decide_eq_true rfl
          | _ => exact iteF (q false ⟨fun z => (nomatch z), fun z => (nomatch z)⟩)
      | str z =>
        refine iteF ⟨_, rfl, _, _, _, _, _, rfl, .ty _, rep_ty ry, kit_ty (kit_int _), ⟨_, rfl, iteF ⟨x, rfl, _, _, _, _, _, rfl, .ty _, rep_ty rx, kit_ty (kit_str _), ⟨_, rfl, ?_⟩⟩⟩⟩
        cases d with
        | tup _ => exact iteF (q false ⟨fun z => (nomatch z), fun z => (nomatch z)⟩)
        | lst => exact iteF (q false ⟨fun z => (nomatch z), fun z => (nomatch z)⟩)
        | «at» v =>
          obtain ⟨rfl, _⟩ := rx.inva
          cases x with
          | str b2 =>
            refine iteT ⟨_, rfl, _, rfl, rfl, q _ ⟨fun z => ?_, fun z => ?_⟩⟩
            · rw [of_decide_eq_true z]
            · cases z
              exact decide_eq_true rfl
          | byt _ => cases rx with | «at» hh => cases hh
          | flt _ => cases rx with | «at» hh => cases hh
          | ref _ => cases rx with | «at» hh => cases hh
          | ty _ => cases rx with | «at» hh => cases hh
          | _ => exact iteF (q false ⟨fun z => (nomatch z), fun z => (nomatch z)⟩)
end
open PySem PySem.Spec PyProof.Rows L2
theorem fn_none {P : Program} {w : World} {K : PySem.W.Frag} {mg : Str → Option Value} {base : Heap} {f : Addr} {fd : FuncData} {ps : List Str} {sp : Sp} (no : ∀ vs H Q E, ¬ sp vs H Q E) : FnOk P w K mg base CX0 0 f fd ps sp :=
  ⟨fun vs H Q E h => absurd h (no vs H Q E), fun A outer s H args us vs Q E _ _ _ _ h => absurd h (no vs H Q E)⟩
/-! ### _law_kind -/
section
variable {P : Program} {w : World} {K : PySem.W.Frag} {mg : Str → Option Value} {base : Heap}
/-- all but what stands at b and at u is as it was -/
def SB2 (b u : Addr) (H H' : Hp) : Prop := ∀ q o, q ≠ b → q ≠ u → H q = some o → H' q = some o
def spKind (K : PySem.W.Frag) (n : Nat) : Sp := fun vs H Q _ => ∃ (b c u : Addr) (dp : Int) (g : Nat), vs = [.ref b, .int dp, .ref u] ∧ BoxAt H b c ∧ H u = some (.lst [.int g]) ∧ 0 ≤ dp ∧ dp < n ∧ g ≤ 100 ∧ b ≠ u ∧ c ≠ u ∧
  ∀ (v : V) (H' : Hp) (d : D) (g' : Nat), Rep K H' v d → isK d = true → (dep d : Int) ≤ dp → sz d + g' ≤ g + 1 → H' u = some (.lst [.int g']) → BoxAt H' b c → SB2 b u H H' → Q v H'
theorem ok_kind0 {f : Addr} {fd : FuncData} : FnOk P w K mg base CX0 0 f fd ["box", "depth", "budget"] (spKind K 0) := by
  have no : ∀ vs H Q E, ¬ spKind K 0 vs H Q E := fun vs H Q E h => by
    obtain ⟨b, c, u, dp, g, _, _, _, h0, h1, _⟩ := h
    omega
  exact ⟨fun vs H Q E h => absurd h (no vs H Q E), fun A outer s H args us vs Q E _ _ _ _ h => absurd h (no vs H Q E)⟩
theorem sb2_kx {b u d : Addr} {H H' : Hp} (x : BoxAt H b d) (y : BoxAt H' b d) {us vs : List V} (hu : H u = some (.lst us)) (hu' : H' u = some (.lst vs)) (s : SB2 b u H H') : Kx H H' := by
  obtain ⟨bs, hb⟩ := x.lst
  obtain ⟨bs', hb'⟩ := y.lst
  refine ⟨fun a zs e => s _ _ (ne_of e hb (by intro q; cases q)) (ne_of e hu (by intro q; cases q)) e, fun a zs e => ?_⟩
  by_cases ha : a = b
  · subst ha
    exact ⟨bs', hb'⟩
  · by_cases ha' : a = u
    · subst ha'
      exact ⟨vs, hu'⟩
    · exact ⟨zs, s _ _ ha ha' e⟩
theorem ok_kind {f e : Addr} {fd ed : FuncData} (D__law_kind : Df K mg "_law_kind" s__law_kind ["box", "depth", "budget"] f fd) (D__law_draw : Df K mg "_law_draw" s__law_draw ["box", "many"] e ed) (B : Bt mg) :
    ∀ n : Nat, FnOk P w K mg base CX0 (n + 1) f fd ["box", "depth", "budget"] (spKind K n)
  | 0 => (ok_kind0 (f := f) (fd := fd)).mono (by omega)
  | n + 1 => by
    have G__law_kind := ok_kind D__law_kind D__law_draw B n
    have G__law_draw : FnOk P w K mg base CX0 1 e ed ["box", "many"] spDraw := ok_draw D__law_draw B
    refine D__law_kind.ok c__law_kind (fun vs H Q E h => ?_) (fun cdv A outer s H vs Q E hr h => ?_)
    · obtain ⟨b, c, u, dp, g, rfl, _⟩ := h
      rfl
    obtain ⟨b, c, u, dp, g, rfl, hB, hu, h0, h1, hg, hbu, hcu, q⟩ := h
    have nd := c__law_kind.nd
    refine ⟨_, (pss_cons (ps_set (i := 3) nd rfl (Or.inl rfl) (pe_lst pa_nil))
  (pss_cons (ps_if (pt_cmpR op_gt (pv 1) pe_int (nomark _)) (pss_one (ps_for PassesOwn.never rfl (pi_range1 (by rfl) B.b_range (pa_cons (pe_call G__law_draw (hr.mono (by first | decide | omega)) (by rfl) D__law_draw.m D__law_draw.kp D__law_draw.b .nil pass0 (pa_cons (pv 0) (pa_cons pe_int pa_nil))) pa_nil)) (pg_name (i := 4) nd rfl (Or.inl rfl)) (pss_one (ps_if (pt_cmpR op_gt (pe_ix ix_list (pv 2) pe_int (fun _ _ => rfl)) pe_int (nomark _)) (pss_cons (ps_asg (pe_op op_sub (pe_ix ix_list (pv 2) pe_int (fun _ _ => rfl)) pe_int) (pg_sub (pv 2) pe_int set_list))
  (pss_one (ps_expr (pe_bm PySem.F.plainAttrs_list PySem.F.slot_list_append PySem.F.type_list_append mt_append (pv 3) (pa_cons (pe_call G__law_kind hr (by rfl) D__law_kind.m D__law_kind.kp D__law_kind.b .nil pass0 (pa_cons (pv 0) (pa_cons (pe_op op_sub (pv 1) pe_int) (pa_cons (pv 2) pa_nil)))) pa_nil))))) pss_nil)))) pss_nil)
  (pss_one (ps_ret (pe_callTy call_tuple_of (by rfl) B.b_tuple (by decide +kernel) (pa_cons (pv 3) pa_nil)))))), ?_⟩
    refine ⟨Nat.zero_le _, fun p np => ?_⟩
    have hbl := hB.lst
    obtain ⟨bs, hbs⟩ := hbl
    have npb : b ≠ p := ne_of_none hbs np
    have npu : u ≠ p := ne_of_none hu np
    have s1 : Same H (upd H p (.lst [])) := same_new np _
    obtain ⟨cs, hcs⟩ := hB.dst
    have npc : c ≠ p := ne_of_none hcs np
    have fin : ∀ (y4 : Option V) (xs : List V) (ds : List D) (g' : Nat) (H1 : Hp), H1 p = some (.lst xs) → Reps K H1 xs ds → isKs ds = true → (deps ds : Int) ≤ dp → szs ds + g' ≤ g → H1 u = some (.lst [.int g']) → BoxAt H1 b c → SB2 b u H H1 →
        ∃ a ys, [V.ref p] = [.ref a] ∧ ((SqL K H1 a ys ∧ ∀ l, H1 l = none → Q (.ref l) (upd H1 l (.tup ys))) ∨ (SqT K H1 a ys ∧ Q (.ref a) H1)) := by
      intro y4 xs ds g' H1 hp hr' hk hd hs hu1 hb1 hsb
      refine ⟨p, xs, rfl, .inl ⟨SqL.of hp, fun l hl => ?_⟩⟩
      have sl : Same H1 (upd H1 l (.tup xs)) := same_new hl _
      refine q _ _ (.tup ds) g' (.tup' upd_same (hr'.mono (kx_same sl))) hk hd (by show szs ds + 1 + g' ≤ g + 1; omega) (sl _ _ hu1) (hb1.same sl) (fun z o n1 n2 e => sl _ _ (hsb z o n1 n2 e))
    refine ⟨_, rfl, _, _, rfl, rfl, _, rfl, ite2 (fun z => ?_) (fun z => ?_)⟩
    · have c' : (0 : Int) < dp := of_decide_eq_true z
      refine ⟨_, rfl, b, c, 4, rfl, hB.same s1, by decide, fun r H1 hr0 hr5 hB1 hs1 => ⟨r, rfl, by omega, by omega, ?_⟩⟩
      refine for_range (n := r.toNat) (fun i σ H' => ∃ (xs : List V) (ds : List D) (g' : Nat) (y4 : Option V), σ = [some (.ref b), some (.int dp), some (.ref u), some (.ref p), y4] ∧ H' p = some (.lst xs) ∧ Reps K H' xs ds ∧ isKs ds = true ∧ (deps ds : Int) ≤ dp ∧ szs ds + g' ≤ g ∧ H' u = some (.lst [.int g']) ∧ BoxAt H' b c ∧ SB2 b u H H')
        ⟨[], [], g, none, rfl, hs1 _ _ npb.symm upd_same, .nil, rfl, h0, by show 0 + g ≤ g; omega, hs1 _ _ hbu.symm (s1 _ _ hu), hB1, fun z o n1 n2 e => hs1 _ _ n1 (s1 _ _ e)⟩ ?_ ?_
      · rintro i σ H2 hi ⟨xs, ds, g', y4, rfl, hp, hrs, hk, hd, hs, hu2, hb2, hsb⟩
        refine ⟨_, rfl, u, _, 0, _, rfl, rfl, SqL.of hu2, rfl, _, _, rfl, rfl, _, rfl, ite2 (fun e => ?_) (fun e => ⟨xs, ds, g', _, rfl, hp, hrs, hk, hd, hs, hu2, hb2, hsb⟩)⟩
        have e' : (0 : Int) < (g' : Int) := of_decide_eq_true e
        have eg : (g' : Int) - 1 = ((g' - 1 : Nat) : Int) := by omega
        refine ⟨_, rfl, u, _, 0, _, rfl, rfl, SqL.of hu2, rfl, _, _, rfl, rfl, _, rfl, u, _, 0, 0, rfl, rfl, hu2, rfl, ?_⟩
        have hu3 : (upd H2 u (.lst [.int ((g' : Int) - 1)])) u = some (.lst [.int ((g' - 1 : Nat) : Int)]) := by rw [upd_same, eg]
        have hp3 : (upd H2 u (.lst [.int ((g' : Int) - 1)])) p = some (.lst xs) := by rw [upd_ne npu.symm]; exact hp
        have hb3 : BoxAt (upd H2 u (.lst [.int ((g' : Int) - 1)])) b c := hb2.other _ hbu.symm hcu.symm
        have k3 : Kx H2 (upd H2 u (.lst [.int ((g' : Int) - 1)])) := kx_list hu2 _
        refine ⟨_, rfl, .inl ⟨rfl, _, SqL.of hp3⟩, _, rfl, _, rfl, _, _, rfl, rfl, _, rfl, b, c, u, dp - 1, g' - 1, rfl, hb3, hu3, by omega, by omega, by omega, hbu, hcu, fun v H4 d g4 rv kv dv sv hu4 hb4 hsb4 => ?_⟩
        have hp4 : H4 p = some (.lst xs) := hsb4 _ _ npb.symm npu.symm hp3
        have k4 := sb2_kx hb3 hb4 hu3 hu4 hsb4
        have hrs4 := hrs.mono (k3.trans k4)
        have hlen := hrs.length
        have hlz := len_szs ds
        refine ⟨p, xs, v, rfl, rfl, hp4, small6 (by omega), ?_⟩
        have k5 : Kx H4 (upd H4 p (.lst (xs ++ [v]))) := kx_list hp4 _
        refine ⟨xs ++ [v], ds ++ [d], g4, _, rfl, upd_same, (hrs4.append (.one rv)).mono k5, ?_, ?_, ?_, by rw [upd_ne npu]; exact hu4, ?_, ?_⟩
        · rw [isKs_append, hk]
          show (true && (isK d && true)) = true
          rw [kv]
          rfl
        · rw [deps_append]
          show ((max (deps ds) (max (dep d + 1) 0) : Nat) : Int) ≤ dp
          omega
        · rw [szs_append]
          show szs ds + (sz d + 0) + g4 ≤ g
          omega
        · exact hb4.other _ npb.symm npc.symm
        · intro z o n1 n2 e1
          rw [upd_ne (ne_of_none e1 np)]
          refine hsb4 _ _ n1 n2 ?_
          rw [upd_ne n2]
          exact hsb z o n1 n2 e1
      · rintro σ H2 ⟨xs, ds, g', y4, rfl, hp, hrs, hk, hd, hs, hu2, hb2, hsb⟩
        exact ⟨_, rfl, fin y4 xs ds g' H2 hp hrs hk hd hs hu2 hb2 hsb⟩
    · exact ⟨_, rfl, fin none [] [] g _ upd_same .nil rfl h0 (by show 0 + g ≤ g; omega) (s1 _ _ hu) (hB.same s1) (fun z o _ _ e => s1 _ _ e)⟩
end
end Pk

set_option maxRecDepth 100000
set_option maxHeartbeats 4000000
namespace Pk
open PySem PySem.Spec PyProof.Rows L2
/-! ### terms -/
inductive Tm where
  | nm (s : Str)
  | fn (s : Str) (k : D) (b : Tm)
  | ap (f a : Tm)
  | iff (a b c : Tm)
  | an (v : Nat)
  | st
def tmD : Tm → D
  | .nm s => .tup [.at (.str "name"), .at (.str s)]
  | .fn s k b => .tup [.at (.str "fun"), .at (.str s), k, tmD b]
  | .ap f a => .tup [.at (.str "apply"), tmD f, tmD a]
  | .iff a b c => .tup [.at (.str "if"), tmD a, tmD b, tmD c]
  | .an v => .tup [.at (.str "answer"), .at (.int (v : Nat))]
  | .st => .tup [.at (.str "stop")]
/-- how deep, how many parts -/
def hgt : Tm → Nat
  | .nm _ => 1
  | .fn _ _ b => hgt b + 1
  | .ap f a => max (hgt f) (hgt a) + 1
  | .iff a b c => max (hgt a) (max (hgt b) (hgt c)) + 1
  | .an _ => 1
  | .st => 1
def prt : Tm → Nat
  | .nm _ => 1
  | .fn _ _ b => prt b + 1
  | .ap f a => prt f + prt a + 1
  | .iff a b c => prt a + prt b + prt c + 1
  | .an _ => 1
  | .st => 1
theorem hgt_pos : ∀ t : Tm, 0 < hgt t := by
  intro t
  cases t <;> simp only [hgt] <;> omega
theorem prt_pos : ∀ t : Tm, 0 < prt t := by
  intro t
  cases t <;> simp only [prt] <;> omega
/-- the kind of the innermost of a name -/
def look : List (Str × D) → Str → Option D
  | [], _ => none
  | (n, d) :: r, s => if n = s then some d else look r s
/-- a term has a kind; the names around it from the innermost on -/
inductive Ty : List (Str × D) → Tm → D → Prop where
  | nm {env : List (Str × D)} {s : Str} {d : D} (h : look env s = some d) : Ty env (.nm s) d
  | fn {env : List (Str × D)} {s : Str} {k : D} {b : Tm} {r : List D} (h : Ty ((s, k) :: env) b (.tup r)) : Ty env (.fn s k b) (.tup (k :: r))
  | ap {env : List (Str × D)} {f a : Tm} {k : D} {r : List D} (hf : Ty env f (.tup (k :: r))) (ha : Ty env a k) : Ty env (.ap f a) (.tup r)
  | iff {env : List (Str × D)} {a b c : Tm} (ha : Ty env a (.tup [])) (hb : Ty env b (.tup [])) (hc : Ty env c (.tup [])) : Ty env (.iff a b c) (.tup [])
  | an {env : List (Str × D)} {v : Nat} (h : v < 2) : Ty env (.an v) (.tup [])
  | st {env : List (Str × D)} : Ty env .st (.tup [])
/-! ### the kinds that occur: a depth of at most 3, up to six arguments -/
mutual
def wd : D → Nat
  | .tup ts => max ts.length (wds ts)
  | _ => 0
def wds : List D → Nat
  | [] => 0
  | t :: r => max (wd t) (wds r)
end
structure Ek (d : D) : Prop where
  k : isK d = true
  dp : dep d ≤ 3
  wd : wd d ≤ 6
theorem wd_mem : ∀ {l : List D} {d : D}, d ∈ l → wd d ≤ wds l
  | t :: r, d, h => by
    show wd d ≤ max (wd t) (wds r)
    rcases List.mem_cons.mp h with e | h
    · rw [e]
      omega
    · have := wd_mem h
      omega
theorem wds_le : ∀ {l : List D} {n : Nat}, (∀ d ∈ l, wd d ≤ n) → wds l ≤ n
  | [], _, _ => Nat.zero_le _
  | t :: r, n, h => by
    have h1 := h t (List.mem_cons_self ..)
    have h2 := wds_le (l := r) (n := n) fun d hd => h d (List.mem_cons_of_mem _ hd)
    show max (wd t) (wds r) ≤ n
    omega
theorem deps_le' : ∀ {l : List D} {n : Nat}, (∀ d ∈ l, dep d + 1 ≤ n) → deps l ≤ n
  | [], _, _ => Nat.zero_le _
  | t :: r, n, h => by
    have h1 := h t (List.mem_cons_self ..)
    have h2 := deps_le' (l := r) (n := n) fun d hd => h d (List.mem_cons_of_mem _ hd)
    show max (dep t + 1) (deps r) ≤ n
    omega
theorem isKs_of : ∀ {l : List D}, (∀ d ∈ l, isK d = true) → isKs l = true
  | [], _ => rfl
  | t :: r, h => by
    show (isK t && isKs r) = true
    rw [h t (List.mem_cons_self ..), isKs_of fun d hd => h d (List.mem_cons_of_mem _ hd)]
    rfl
theorem Ek.inv {d : D} (h : Ek d) : ∃ ts, d = .tup ts ∧ ts.length ≤ 6 ∧ ∀ e ∈ ts, Ek e ∧ dep e ≤ 2 := by
  obtain ⟨ts, rfl, hts⟩ := isK_inv h.k
  have h1 : max ts.length (wds ts) ≤ 6 := h.wd
  have h2 : deps ts ≤ 3 := h.dp
  refine ⟨ts, rfl, by omega, fun e he => ?_⟩
  have := dep_mem he
  have := wd_mem he
  exact ⟨⟨isK_mem hts he, by omega, by omega⟩, by omega⟩
theorem Ek.of {ts : List D} (hl : ts.length ≤ 6) (h : ∀ e ∈ ts, Ek e ∧ dep e ≤ 2) : Ek (.tup ts) := by
  refine ⟨isKs_of fun d hd => (h d hd).1.k, ?_, ?_⟩
  · show deps ts ≤ 3
    exact deps_le' fun d hd => by have := (h d hd).2; omega
  · show max ts.length (wds ts) ≤ 6
    have := wds_le (l := ts) (n := 6) fun d hd => (h d hd).1.wd
    omega
theorem wd_lt_sz {d : D} : wd d < sz d := by
  have key : ∀ n : Nat, ∀ d : D, sz d ≤ n → wd d < sz d := by
    intro n
    induction n with
    | zero => intro d h; have := sz_pos d; omega
    | succ n ih =>
      intro d h
      cases d with
      | «at» v => exact Nat.one_pos
      | lst => exact Nat.one_pos
      | tup ts =>
        have h' : szs ts + 1 ≤ n + 1 := h
        have gen : wds ts ≤ szs ts := wds_le fun d hd => by
          have := sz_mem hd
          have := ih d (by omega)
          omega
        have := len_szs ts
        show max ts.length (wds ts) < szs ts + 1
        omega
  exact key _ d (Nat.le_refl _)
theorem szs_le' {n : Nat} : ∀ {l : List D}, (∀ d ∈ l, sz d ≤ n) → szs l ≤ l.length * n
  | [], _ => by show 0 ≤ 0 * n; omega
  | t :: r, h => by
    have h1 := h t (List.mem_cons_self ..)
    have h2 := szs_le' (l := r) fun d hd => h d (List.mem_cons_of_mem _ hd)
    show sz t + szs r ≤ (r.length + 1) * n
    rw [Nat.succ_mul]
    omega
theorem Ek.sz {d : D} (h : Ek d) : sz d ≤ 259 := by
  have step : ∀ (n m : Nat), (∀ d, Ek d → dep d ≤ n → Pk.sz d ≤ m) → ∀ d, Ek d → dep d ≤ n + 1 → Pk.sz d ≤ 1 + 6 * m := by
    intro n m ih d h hd
    obtain ⟨ts, rfl, hl, hts⟩ := h.inv
    have hd' : deps ts ≤ n + 1 := hd
    have := szs_le' (l := ts) (n := m) fun e he => ih e (hts e he).1 (by have := dep_mem he; omega)
    have : ts.length * m ≤ 6 * m := Nat.mul_le_mul_right _ hl
    show szs ts + 1 ≤ _
    omega
  have s0 : ∀ d, Ek d → dep d ≤ 0 → Pk.sz d ≤ 1 := by
    intro d h hd
    obtain ⟨ts, rfl, hl, hts⟩ := h.inv
    cases ts with
    | nil => exact Nat.le_refl _
    | cons t r =>
      have hd' : max (dep t + 1) (deps r) ≤ 0 := hd
      omega
  exact step 2 43 (step 1 7 (step 0 1 s0)) d h h.dp
/-! ### == of kinds -/
mutual
theorem eqv_kind : ∀ {d e : D}, isK d = true → isK e = true → (PyData.eqv (toPy d) (toPy e) = true ↔ d = e)
  | .tup ts, .tup us, h1, h2 => by
    have k := eqv_kinds (l := ts) (m := us) h1 h2
    show PyData.eqvAll (toPys ts) (toPys us) = true ↔ _
    rw [k]
    exact ⟨fun e => by rw [e], fun e => by cases e; rfl⟩
  | .at _, _, h, _ => by cases h
  | .lst, _, h, _ => by cases h
  | .tup _, .at _, _, h => by cases h
  | .tup _, .lst, _, h => by cases h
theorem eqv_kinds : ∀ {l m : List D}, isKs l = true → isKs m = true → (PyData.eqvAll (toPys l) (toPys m) = true ↔ l = m)
  | [], [], _, _ => ⟨fun _ => rfl, fun _ => rfl⟩
  | [], _ :: _, _, _ => ⟨fun h => (by cases h), fun h => by cases h⟩
  | _ :: _, [], _, _ => ⟨fun h => (by cases h), fun h => by cases h⟩
  | t :: r, u :: v, h1, h2 => by
    have g1 := Bool.and_eq_true_iff.mp (show (isK t && isKs r) = true from h1)
    have g2 := Bool.and_eq_true_iff.mp (show (isK u && isKs v) = true from h2)
    have k1 := eqv_kind g1.1 g2.1
    have k2 := eqv_kinds g1.2 g2.2
    show (PyData.eqv (toPy t) (toPy u) && PyData.eqvAll (toPys r) (toPys v)) = true ↔ _
    rw [Bool.and_eq_true, k1, k2]
    exact ⟨fun ⟨a, b⟩ => by rw [a, b], fun e => by cases e; exact ⟨rfl, rfl⟩⟩
end
theorem inV_str (s : Str) (ns : List Str) : inV (.str s) (ns.map V.str) = decide (s ∈ ns) := by
  unfold inV
  induction ns with
  | nil => rfl
  | cons n r ih =>
    rw [List.map_cons, List.any_cons, ih]
    show ((n == s) || decide (s ∈ r)) = _
    by_cases h : n = s
    · subst h
      simp
    · have h' : ¬ s = n := fun e => h e.symm
      simp [h, h']
theorem flat_strs (ns : List Str) : (ns.map V.str).all flatV = true := by
  rw [List.all_map]
  exact List.all_eq_true.mpr fun _ _ => rfl
def pairD (x : Str × D) : D := .tup [.at (.str x.1), x.2]
def rowD (x : Str × List D) : D := .tup [.at (.str x.1), .tup x.2]
/-- the names around, as a list that stands, the innermost one last -/
def EnvAt (K : PySem.W.Frag) (H : Hp) (v : V) (env : List (Str × D)) : Prop := ∃ l xs, v = .ref l ∧ H l = some (.lst xs) ∧ Reps K H xs (env.reverse.map pairD)
theorem EnvAt.same {K : PySem.W.Frag} {H H' : Hp} {v : V} {env : List (Str × D)} (h : EnvAt K H v env) (s : Same H H') : EnvAt K H' v env := by
  obtain ⟨l, xs, e, h1, h2⟩ := h
  exact ⟨l, xs, e, s _ _ h1, h2.mono (kx_same s)⟩
theorem look_at : ∀ {env : List (Str × D)} {i : Nat} {s : Str} {d : D}, env[i]? = some (s, d) → s ∉ (env.take i).map (·.1) → look env s = some d
  | [], _, _, _, h, _ => by simp at h
  | (n, e) :: r, 0, s, d, h, _ => by
    have h' : (n, e) = (s, d) := Option.some.inj h
    cases h'
    exact if_pos rfl
  | (n, e) :: r, i + 1, s, d, h, hn => by
    have hn' : s ∉ n :: (r.take i).map (·.1) := hn
    have h1 : ¬ n = s := fun z => hn' (z ▸ List.mem_cons_self ..)
    show (if n = s then some e else look r s) = some d
    rw [if_neg h1]
    exact look_at (i := i) h fun z => hn' (List.mem_cons_of_mem _ z)
theorem env_at {K : PySem.W.Frag} {H : Hp} {xs : List V} {env : List (Str × D)} (rx : Reps K H xs (env.reverse.map pairD)) {i : Nat} (hi : i < env.length) {z : Int} (hz : z = ((xs.length : Nat) : Int) - 1 - (i : Nat)) :
    ∃ x p, atI xs z = some x ∧ env[i]? = some p ∧ Rep K H x (pairD p) := by
  have lx := rx.length
  rw [List.length_map, List.length_reverse] at lx
  have hk : xs.length - 1 - i < xs.length := by omega
  obtain ⟨kd, h1, h2⟩ := rx.get (List.getElem?_eq_getElem hk)
  have q := atI_nat (List.getElem?_eq_getElem hk)
  rw [show ((xs.length - 1 - i : Nat) : Int) = z by omega] at q
  have e : env.reverse[xs.length - 1 - i]? = env[i]? := by
    rw [lx, List.getElem?_reverse (by omega)]
    congr 1
    omega
  rw [List.getElem?_map, e] at h1
  obtain ⟨p, hp, hp2⟩ := Option.map_eq_some_iff.mp h1
  rw [← hp2] at h2
  exact ⟨_, p, q, hp, h2⟩
end Pk

set_option maxRecDepth 100000
set_option maxHeartbeats 4000000
namespace Pk
open PySem PySem.Spec PyProof.Rows L2
/-! ### _law_fits -/
section
variable {P : Program} {w : World} {K : PySem.W.Frag} {mg : Str → Option Value} {base : Heap}
def FitOk (env : List (Str × D)) (ts : List D) (p : Str × List D) : Prop := look env p.1 = some (.tup (p.2 ++ ts)) ∧ Ek (.tup (p.2 ++ ts))
def spFits (K : PySem.W.Frag) : Sp := fun vs H Q _ => ∃ (l v : V) (env : List (Str × D)) (ts : List D), vs = [l, v] ∧ EnvAt K H l env ∧ (∀ p ∈ env, Ek p.2) ∧ env.length ≤ 1000 ∧ Rep K H v (.tup ts) ∧ Ek (.tup ts) ∧
  ∀ (r : Addr) (H' : Hp) (xs : List V) (rows : List (Str × List D)), Same H H' → H r = none → H' r = some (.lst xs) → Reps K H' xs (rows.map rowD) → rows.length ≤ 7000 → (∀ p ∈ rows, FitOk env ts p) → Q (.ref r) H'
theorem take_map_fst {env : List (Str × D)} {i : Nat} {p : Str × D} (h : env[i]? = some p) : (env.take (i + 1)).map (·.1) = (env.take i).map (·.1) ++ [p.1] := by
  rw [List.take_add_one, h, List.map_append]
  rfl
theorem ok_fits {f : Addr} {fd : FuncData} (D__law_fits : Df K mg "_law_fits" s__law_fits ["around", "kind"] f fd) (B : Bt mg) : FnOk P w K mg base CX0 1 f fd ["around", "kind"] (spFits K) := by
  refine D__law_fits.ok c__law_fits (fun vs H Q E h => ?_) (fun cdv A outer s H vs Q E hr h => ?_)
  · obtain ⟨l, v, env, ts, rfl, _⟩ := h
    rfl
  obtain ⟨l, v, env, ts, rfl, ⟨la, xs, rfl, hla, rx⟩, henv, hlen, rv, hk, q⟩ := h
  have nd := c__law_fits.nd
  refine ⟨_, (pss_cons (ps_set (i := 2) nd rfl (Or.inl rfl) (pe_lst pa_nil))
  (pss_cons (ps_set (i := 3) nd rfl (Or.inl rfl) (pe_lst pa_nil))
  (pss_cons (ps_for PassesOwn.never rfl (pi_range1 (by rfl) B.b_range (pa_cons (pe_callB call_len_seq (by rfl) B.b_len PySem.boot_len (pa_cons (pv 0) pa_nil)) pa_nil)) (pg_name (i := 4) nd rfl (Or.inl rfl)) (pss_cons (ps_asg (pe_ix ix_list (pv 0) (pe_op op_sub (pe_op op_sub (pe_callB call_len_seq (by rfl) B.b_len PySem.boot_len (pa_cons (pv 0) pa_nil)) pe_int) (pv 4)) (fun _ _ => rfl)) (pg_tup rfl (pgs_cons (pg_name (i := 5) nd rfl (Or.inl rfl)) (pgs_cons (pg_name (i := 6) nd rfl (Or.inl rfl)) pgs_nil))))
  (pss_one (ps_if (pt_cmpR op_notIn_seq (pv 5) (pv 3) rfl) (pss_cons (ps_expr (pe_bm PySem.F.plainAttrs_list PySem.F.slot_list_append PySem.F.type_list_append mt_append (pv 3) (pa_cons (pv 5) pa_nil)))
  (pss_one (ps_for PassesOwn.never rfl (pi_range1 (by rfl) B.b_range (pa_cons (pe_op op_add (pe_callB call_len_seq (by rfl) B.b_len PySem.boot_len (pa_cons (pv 6) pa_nil)) pe_int) pa_nil)) (pg_name (i := 7) nd rfl (Or.inl rfl)) (pss_one (ps_if (pt_cmpR (op_eqD hr.units) (pe_slice sl_tupP (pv 6) (po_some (pv 7)) po_none) (pv 1) (nomark _)) (pss_one (ps_expr (pe_bm PySem.F.plainAttrs_list PySem.F.slot_list_append PySem.F.type_list_append mt_append (pv 2) (pa_cons (pe_tup (pa_cons (pv 5) (pa_cons (pe_slice sl_tupP (pv 6) po_none (po_some (pv 7))) pa_nil))) pa_nil)))) pss_nil))))) pss_nil))))
  (pss_one (ps_ret (pv 2)))))), ?_⟩
  have lx := rx.length
  rw [List.length_map, List.length_reverse] at lx
  refine ⟨Nat.zero_le _, fun p np => ⟨Nat.zero_le _, fun p2 np2 => ?_⟩⟩
  have s1 := same_new np (.lst [])
  have s2 := same_new np2 (.lst [])
  have npp : p ≠ p2 := fun e => by
    subst e
    rw [upd_same] at np2
    cases np2
  have np2H : H p2 = none := by
    rw [upd_ne npp.symm] at np2
    exact np2
  refine ⟨_, rfl, la, xs, rfl, .inl (SqL.of (s2 _ _ (s1 _ _ hla))), _, rfl, by omega, by omega, ?_⟩
  refine for_range (n := ((xs.length : Nat) : Int).toNat) (fun i σ H' => ∃ (ys : List V) (ns : List Str) (rows : List (Str × List D)) (y4 y5 y6 y7 : Option V), σ = [some (.ref la), some v, some (.ref p), some (.ref p2), y4, y5, y6, y7] ∧ Same H H' ∧
      H' p = some (.lst ys) ∧ H' p2 = some (.lst (ns.map V.str)) ∧ Reps K H' ys (rows.map rowD) ∧ rows.length ≤ 7 * i ∧ ns.length ≤ i ∧ (∀ s, s ∈ ns ↔ s ∈ (env.take i).map (·.1)) ∧ ∀ r ∈ rows, FitOk env ts r)
    ⟨[], [], [], none, none, none, none, rfl, s1.trans s2, s2 _ _ upd_same, upd_same, .nil, Nat.zero_le _, Nat.zero_le _, (fun s => ⟨fun h => (by cases h), fun h => by cases h⟩), fun r hr => by cases hr⟩ ?_ ?_
  · rintro i σ H1 hi ⟨ys, ns, rows, y4, y5, y6, y7, rfl, s01, hp, hp2, ry, hrl, hnl, hns, hok⟩
    have hi' : i < env.length := by omega
    have rx1 := rx.mono (kx_same s01)
    obtain ⟨x, ⟨n, d⟩, hat, hpe, rpe⟩ := env_at rx1 hi' (z := ((xs.length : Nat) : Int) - 1 - ((0 : Int) + (i : Nat))) (by omega)
    have ekd : Ek d := henv (n, d) (List.mem_of_getElem? hpe)
    obtain ⟨ds, rfl, hdl, hds⟩ := ekd.inv
    obtain ⟨b, bs, rfl, hb, rb⟩ := Rep.inv (ts := [.at (.str n), .tup ds]) rpe
    cases rb with
    | cons rb1 rb =>
    cases rb with
    | cons rb2 rb =>
    cases rb
    obtain ⟨rfl, _⟩ := rb1.inva
    obtain ⟨c, cs, rfl, hc, rc⟩ := rb2.inv
    have lc := rc.length
    refine ⟨_, rfl, _, rfl, la, xs, rfl, .inl (SqL.of (s01 _ _ hla)), _, _, rfl, rfl, _, rfl, _, _, rfl, rfl, la, xs, _, _, rfl, rfl, SqL.of (s01 _ _ hla), hat, b, _, rfl, hb.sq, rfl, _, _, rfl, _, _, rfl, rfl, ?_⟩
    refine ⟨_, rfl, _, rfl, p2, ns.map V.str, rfl, .inl (SqL.of hp2), rfl, flat_strs ns, _, rfl, ?_⟩
    rw [inV_str]
    by_cases hm : n ∈ ns
    · rw [decide_eq_true hm]
      refine iteF ⟨ys, ns, rows, _, _, _, _, rfl, s01, hp, hp2, ry, by omega, by omega, fun s => ?_, hok⟩
      rw [take_map_fst hpe, List.mem_append, hns s]
      refine ⟨.inl, fun h => h.elim id fun h => ?_⟩
      rw [List.mem_singleton.mp h]
      exact (hns n).mp hm
    · rw [decide_eq_false hm]
      have hlook : look env n = some (.tup ds) := look_at hpe fun z => hm ((hns n).mpr z)
      refine iteT ?_
      refine ⟨_, rfl, .inl ⟨rfl, _, SqL.of hp2⟩, _, rfl, p2, ns.map V.str, _, rfl, rfl, hp2, small6 (by rw [List.length_map]; omega), ?_⟩
      have k2 := kx_list hp2 (ns.map V.str ++ [.str n])
      have hp2' : (upd H1 p2 (.lst (ns.map V.str ++ [.str n]))) p2 = some (.lst ((ns ++ [n]).map V.str)) := by
        rw [upd_same, List.map_append]
        rfl
      have hpx : (upd H1 p2 (.lst (ns.map V.str ++ [.str n]))) p = some (.lst ys) := by
        rw [upd_ne npp]
        exact hp
      have s02 : Same H (upd H1 p2 (.lst (ns.map V.str ++ [.str n]))) := fun a o h => by
        rw [upd_ne (ne_of_none h np2H)]
        exact s01 _ _ h
      have hc2 := hc.kx k2
      have rc2 := rc.mono k2
      have ry2 := ry.mono k2
      have hns2 : ∀ s, s ∈ ns ++ [n] ↔ s ∈ (env.take (i + 1)).map (·.1) := fun s => by
        rw [take_map_fst hpe, List.mem_append, List.mem_append, hns s]
      generalize upd H1 p2 (.lst (ns.map V.str ++ [.str n])) = H2 at *
      refine ⟨_, rfl, c, cs, rfl, .inr hc2.sq, _, _, rfl, rfl, _, rfl, by omega, by omega, ?_⟩
      refine for_range (n := (((cs.length : Nat) : Int) + 1).toNat) (fun j σ H' => ∃ (ys : List V) (rows : List (Str × List D)) (y7 : Option V), σ = [some (.ref la), some v, some (.ref p), some (.ref p2), some (.int ((0 : Int) + (i : Nat))), some (.str n), some (.ref c), y7] ∧ Same H H' ∧ Kx H2 H' ∧
          H' p = some (.lst ys) ∧ H' p2 = some (.lst ((ns ++ [n]).map V.str)) ∧ Reps K H' ys (rows.map rowD) ∧ rows.length ≤ 7 * i + j ∧ ∀ r ∈ rows, FitOk env ts r)
        ⟨ys, rows, _, rfl, s02, Kx.refl _, hpx, hp2', ry2, by omega, hok⟩ ?_ ?_
      · rintro j σ H3 hj ⟨ys, rows, y7, rfl, s03, k23, hp3, hp23, ry3, hrl3, hok3⟩
        have lry := ry3.length
        rw [List.length_map] at lry
        have hc3 := hc2.kx k23
        have rc3 := rc2.mono k23
        refine ⟨_, rfl, _, rfl, _, rfl, c, cs, rfl, hc3, fun e1 H4 s4 he1 => ?_⟩
        rw [show (0 : Int) + (j : Int) = ((j : Nat) : Int) by omega, cutV_from] at he1
        have he1' : TupAt K H4 e1 (cs.drop j) := he1
        have rd : Rep K H4 (.ref e1) (.tup (ds.drop j)) := .tup he1' ((rc3.drop j).mono (kx_same s4))
        have kdrop : Ek (.tup (ds.drop j)) := Ek.of (by rw [List.length_drop]; omega) fun e he => hds e (List.mem_of_mem_drop he)
        have rv4 := rv.mono (kx_same (s03.trans s4))
        refine ⟨_, rfl, toPy (.tup (ds.drop j)), toPy (.tup ts), dp_kind rd kdrop.k, dp_kind rv4 hk.k, shaped_kind kdrop.k (by have := kdrop.dp; omega), shaped_kind hk.k (by have := hk.dp; omega), _, rfl, ite2 (fun z => ?_) (fun _ => ?_)⟩
        · have ez : D.tup (ds.drop j) = .tup ts := (eqv_kind kdrop.k hk.k).mp z
          have ez' : ds.drop j = ts := by cases ez; rfl
          have hp4 := s4 _ _ hp3
          refine ⟨_, rfl, .inl ⟨rfl, _, SqL.of hp4⟩, _, rfl, _, rfl, _, rfl, _, rfl, c, cs, rfl, hc3.same s4, fun e2 H5 s5 he2 => ?_⟩
          rw [show (0 : Int) + (j : Int) = ((j : Nat) : Int) by omega, cutV_to] at he2
          have he2' : TupAt K H5 e2 (cs.take j) := he2
          refine ⟨(by show 2 ≤ sizeLine; decide), fun t nt => ?_⟩
          have s6 := same_new nt (.tup [.str n, .ref e2])
          have s46 := (s4.trans s5).trans s6
          have hp6 := s6 _ _ (s5 _ _ hp4)
          refine ⟨p, ys, _, rfl, rfl, hp6, small6 (by omega), ?_⟩
          have k7 := kx_list hp6 (ys ++ [.ref t])
          have k37 := (kx_same s46).trans k7
          have npH : H p = none := np
          refine ⟨ys ++ [.ref t], rows ++ [(n, ds.take j)], _, rfl, fun a o h => ?_, k23.trans k37, upd_same, ?_, ?_, by rw [List.length_append, List.length_singleton]; omega, ?_⟩
          · rw [upd_ne (ne_of_none h npH)]
            exact s46 _ _ (s03 _ _ h)
          · rw [upd_ne npp.symm]
            exact s46 _ _ hp23
          · rw [List.map_append]
            refine (ry3.mono k37).append (.one ?_)
            exact (Rep.tup' upd_same (.cons (.at rfl) (.one (.tup (he2'.same s6) (((rc3.take j).mono (kx_same s46))))))).mono k7
          · intro r hr
            rcases List.mem_append.mp hr with hr | hr
            · exact hok3 r hr
            · rw [List.mem_singleton.mp hr]
              have e : ds.take j ++ ts = ds := by rw [← ez', List.take_append_drop]
              refine ⟨?_, ?_⟩
              · show look env n = some (.tup (ds.take j ++ ts))
                rw [e]
                exact hlook
              · show Ek (.tup (ds.take j ++ ts))
                rw [e]
                exact ekd
        · exact ⟨ys, rows, _, rfl, s03.trans s4, k23.trans (kx_same s4), s4 _ _ hp3, s4 _ _ hp23, ry3.mono (kx_same s4), by omega, hok3⟩
      · rintro σ H3 ⟨ys, rows, y7, rfl, s03, k23, hp3, hp23, ry3, hrl3, hok3⟩
        exact ⟨ys, ns ++ [n], rows, _, _, _, _, rfl, s03, hp3, hp23, ry3, by omega, by rw [List.length_append, List.length_singleton]; omega, hns2, hok3⟩
  · rintro σ H1 ⟨ys, ns, rows, y4, y5, y6, y7, rfl, s01, hp, hp2, ry, hrl, hnl, hns, hok⟩
    exact ⟨_, rfl, q p H1 ys rows s01 np hp ry (by omega) hok⟩
end
end Pk

set_option maxRecDepth 100000
set_option maxHeartbeats 4000000
namespace Pk
open PySem PySem.Spec PyProof.Rows L2
/-! ### t == (), t != () -/
section
variable {X : Cx}
def rEqNilT (K : PySem.W.Frag) : R2 := fun x y H Q => ∃ a b xs, x = .ref a ∧ y = .ref b ∧ SqT K H a xs ∧ SqT K H b [] ∧ Q (.bl xs.isEmpty) H
theorem tup_isTuple {h : Heap} {a : Addr} {items : Array Value} (x : IsTup h a items) : h.IsTuple a items := x
theorem op_eqNilT (hu : X.A.units + 64 < cLine) : OpR X (compareOp .Eq) (rEqNilT X.K) := by
  intro pins s σ H x y v u Q I rx ry h
  obtain ⟨a, b, xs, rfl, rfl, ha, hb, q⟩ := h
  cases rx
  cases ry
  obtain ⟨its, r1, p1, _⟩ := I.tuple ha
  obtain ⟨its2, r2, p2, _⟩ := I.tuple hb
  cases r2
  have hu' : X.A.units < cLine := by omega
  refine SeqAt.eq_tupleAt (e := fun _ => true) p1 p2 hu' (fun j h1 h2 => by simp at h2) ⟨.bl xs.isEmpty, H, I, ?_, q⟩
  cases r1 <;> rfl
def rNeNilT (K : PySem.W.Frag) : R2 := fun x y H Q => ∃ a b xs, x = .ref a ∧ y = .ref b ∧ SqT K H a xs ∧ SqT K H b [] ∧ Q (.bl (!xs.isEmpty)) H
theorem op_neNilT (hu : X.A.units + 64 < cLine) : OpR X (compareOp .NotEq) (rNeNilT X.K) := by
  intro pins s σ H x y v u Q I rx ry h
  obtain ⟨a, b, xs, rfl, rfl, ha, hb, q⟩ := h
  cases rx
  cases ry
  obtain ⟨its, r1, p1, _⟩ := I.tuple ha
  obtain ⟨its2, r2, p2, _⟩ := I.tuple hb
  cases r2
  have hu' : X.A.units < cLine := by omega
  refine SeqAt.RcNeAt.tuples (e := fun _ => true) p1 p2 hu' (fun j h1 h2 => by simp at h2) _ _ _ _ ⟨.bl (!xs.isEmpty), H, I, ?_, q⟩
  cases r1 <;> rfl
end
/-! ### t[::-1] -/
theorem adjust_rev (n : Nat) : Builtin.Slice.sliceAdjust none none (-1) (n : Int) = ((n : Int) - 1, -1) := by
  unfold Builtin.Slice.sliceAdjust
  rfl
theorem places_rev (n : Nat) : Builtin.Slice.slicePlaces ((n : Int) - 1) (-1) (-1) = n := by
  unfold Builtin.Slice.slicePlaces
  have h1 : ¬ ((-1 : Int) > 0) := by omega
  simp only [h1, if_false, Int.neg_neg, Int.ediv_one]
  split <;> omega
theorem fm_congr {α β : Type} {f : α → Option β} {g : α → β} : ∀ {l : List α}, (∀ m ∈ l, f m = some (g m)) → l.filterMap f = l.map g
  | [], _ => rfl
  | a :: r, h => by
    rw [List.filterMap_cons, h a (List.mem_cons_self ..), List.map_cons, fm_congr (fun m hm => h m (List.mem_cons_of_mem _ hm))]
theorem pick_rev : ∀ (n : Nat) (l : List Value), l.length = n → (List.range n).filterMap (fun (m : Nat) => l.toArray[(((n : Int) - 1) + (m : Int) * (-1)).toNat]?) = l.reverse := by
  intro n l hl
  apply List.ext_getElem?
  intro i
  have e : (List.range n).filterMap (fun (m : Nat) => l.toArray[(((n : Int) - 1) + (m : Int) * (-1)).toNat]?) = (List.range n).map (fun m => l.getD (n - 1 - m) default) := by
    refine fm_congr fun m hm => ?_
    have hm' : m < n := List.mem_range.mp hm
    have e1 : (((n : Int) - 1) + (m : Int) * (-1)).toNat = n - 1 - m := by omega
    rw [e1]
    have h2 : n - 1 - m < l.length := by omega
    simp [h2]
  rw [e]
  by_cases hi : i < n
  · rw [List.getElem?_map, List.getElem?_range hi, List.getElem?_reverse (by omega)]
    have h2 : n - 1 - i < l.length := by omega
    have h3 : l.length - 1 - i = n - 1 - i := by omega
    rw [h3]
    simp [h2]
  · rw [List.getElem?_eq_none (by simp; omega), List.getElem?_eq_none (by simp; omega)]
section
variable {prog : Program} {w : World} {A : Around} {E : Value → Shared → Prop} {s : Shared}
theorem sliceApplied_rev {sl : Addr} {u : Tok} {n : Nat} {Q : Int × Int × Nat → Shared → Prop} (hs : s.heap.IsSliceOf sl .none .none (.int (-1) u))
    (h : Q ((n : Int) - 1, -1, n) s) : wpAny (model prog w) A (Builtin.Slice.sliceApplied (.ref sl) (pure (n : Int))) Q E s := by
  obtain ⟨os, hos, hcs, hds⟩ := id hs
  unfold Builtin.Slice.sliceApplied Builtin.Slice.sliceFields
  refine wpAny_bind (wpAny_bind (wpAny_field hos hds (x := .none) rfl (wpAny_bind (wpAny_field hos hds (x := .none) rfl (wpAny_bind (wpAny_field hos hds (x := .int (-1) u) rfl (wpAny_pure ?_)))))))
  refine wpAny_bind (HT.slicePart_ (.int (-1) u) ?_)
  show wpAny _ _ (if (((-1 : Int)) == 0) = true then _ else _) _ _ s
  rw [if_neg (by decide)]
  refine wpAny_bind (HT.slicePart_ .none (wpAny_bind (HT.slicePart_ .none (wpAny_bind (wpAny_pure ?_)))))
  show wpAny _ _ (match Builtin.Slice.sliceAdjust none none (-1) (n : Int) with | (lo, hi) => pure (lo, (-1 : Int), Builtin.Slice.slicePlaces lo hi (-1))) _ _ s
  rw [adjust_rev n]
  show wpAny _ _ (pure ((n : Int) - 1, (-1 : Int), Builtin.Slice.slicePlaces ((n : Int) - 1) (-1) (-1))) _ _ s
  rw [places_rev]
  exact wpAny_pure h
theorem getItem_tuple_rev {t sl : Addr} {items : Array Value} {u : Tok} {Q : Value → Shared → Prop} (ht : IsTup s.heap t items) (hs : s.heap.IsSliceOf sl .none .none (.int (-1) u))
    (h : Q (.ref s.heap.objs.size) { s with heap := s.heap.push { cls := .type "tuple", data := .seq items.toList.reverse.toArray } })
    (hsz : items.size ≤ sizeLine) : wpAny (model prog w) A (getItem (.ref t) (.ref sl)) Q E s := by
  have hrev : sizeOk (.seq items.toList.reverse.toArray) := by
    show items.toList.reverse.toArray.size ≤ sizeLine
    rw [List.size_toArray, List.length_reverse, Array.length_toList]
    exact hsz
  obtain ⟨os, hos, hcs, hds⟩ := id hs
  have hTs : s.TypeIs (.ref sl) "slice" := ⟨os, hos, hcs⟩
  unfold getItem
  try with_reducible refine wpAny_holding ?_
  first | refine wpAny_bind (wpAny_pure ?_) | skip
  refine wpAny_bind (wpAny_sequenceKey ht.typeIs (by decide) ?_)
  refine wpAny_bind (wpAny_callSpecial?_slot (name := Str.ofString "__getitem__") ht.typeIs PyProof.Rows.slot_tuple_getitem
    (wpAny_call_entry PyProof.Rows.slot_tuple_getitem ht.typeIs entry_tuple_getitem ?_ (args_tuple_getitem _ _)))
  show wpAny _ _ (Builtin.Tuple.tupleItemsOf (.ref t) >>= _) _ _ s
  refine wpAny_bind (tupleItemsOf_ ht ?_)
  refine wpAny_bind (wpAny_typeOf hTs ?_)
  rw [if_pos (by decide)]
  refine wpAny_bind (sliceApplied_rev hs ?_)
  have hno : ¬ (((((items.size : Nat) : Int) - 1) == 0 && (-1 : Int) == 1 && items.size == items.size) = true) := by
    intro q
    rw [Bool.and_eq_true, Bool.and_eq_true] at q
    exact absurd q.1.2 (by decide)
  show wpAny _ _ (if ((((items.size : Nat) : Int) - 1) == 0 && (-1 : Int) == 1 && items.size == items.size) = true then _ else _) _ _ s
  have ep : ((List.range items.size).filterMap (fun (m : Nat) => items[(((items.size : Nat) : Int) - 1 + (m : Int) * (-1)).toNat]?)) = items.toList.reverse := pick_rev items.size items.toList (by simp)
  rw [if_neg hno, ep]
  first
    | exact wpAny_bind (m := Builtin.Tuple.tupleExact _) (wpAny_newObj_type (wpAny_pure ⟨_, rfl, wpAny_pure h⟩) hrev)
    | exact wpAny_bind (m := Builtin.Tuple.tupleExact _) (wpAny_newObj_type (wpAny_bind (wpAny_pure (wpAny_pure ⟨_, rfl, wpAny_pure h⟩))) hrev)
    | exact wpAny_bind (wpAny_bind (m := Builtin.Tuple.tupleExact _) (wpAny_newObj_type (wpAny_pure (wpAny_pure ⟨_, rfl, wpAny_pure h⟩)) hrev))
    | exact wpAny_bind (wpAny_bind (m := Builtin.Tuple.tupleExact _) (wpAny_newObj_type (wpAny_pure ⟨_, rfl, wpAny_pure h⟩) hrev))
end
section
variable {X : Cx}
def tRevT (K : PySem.W.Frag) (te : TE) : TE := fun σ H Q => te σ H fun x H1 => ∃ a xs, x = .ref a ∧ SqT K H1 a xs ∧ ∀ p, H1 p = none → Q (.ref p) (upd H1 p (.tup xs.reverse))
theorem pe_revT {e : Expr} {te : TE} {j : Nat} {p2 p3 p4 pos : Pos} (he : PE X e te) : PE X (.Subscript e (.Slice none none (some (.UnaryOp .USub (.Constant (.int 1) j p4) p3)) p2) pos) (tRevT X.K te) := by
  refine ⟨fun pins s σ H Q I h => ?_⟩
  refine Subscript_ (thn (he.run pins s σ H _ I h) fun v s1 ⟨x, H1, I1, r1, q1⟩ => ?_)
  have hst := po_some (X := X) (pe_un (pos := p3) un_neg (pe_int (i := 1) (j := j) (pos := p4)))
  refine wpAny_Slice ?_
  rw [evalPart_none]
  refine wpAny_pure ?_
  refine wpAny_pure ?_
  refine thn (hst.run pins s1 σ H1 (fun o H' => o = some (-1) ∧ H' = H1) I1 ?_) fun vs s3 ⟨o, H3, I3, ps, q3⟩ => ?_
  · exact ⟨1, rfl, -1, rfl, rfl, rfl⟩
  obtain ⟨rfl, rfl⟩ := q3
  obtain ⟨a, xs, rfl, hx, q⟩ := q1
  cases r1
  have I4 : Inv X pins σ H3 { s3 with heap := s3.heap.push { cls := .type "slice", data := .fields #[.none, .none, vs] } } := I3.kept (t' := s3.toks) fun b ob q => Heap.get?_push_of_some _ q
  obtain ⟨its, r, ht, hz⟩ := I4.tuple hx
  have hlen := r.length
  show wpAny (model X.prog X.w) X.A (subscriptTail e (.Slice none none (some (.UnaryOp .USub (.Constant (.int 1) j p4) p3)) p2) (.ref a) (.ref s3.heap.objs.size)) (EP X pins σ Q) X.xe { s3 with heap := s3.heap.push { cls := .type "slice", data := .fields #[.none, .none, vs] } }
  refine tail_any (ops := _) ht.typeIs PyProof.Rows.slot_tuple_getitem.lookup ?_ (by with_unfolding_all rfl)
  cases ps with
  | int _ t =>
    refine getItem_tuple_rev ht (Heap.IsSliceOf.new ..) ?_ (by rw [List.size_toArray]; omega)
    refine ⟨.ref _, _, I4.laid (t' := s3.toks) (o := .tup xs.reverse) (fun b ob q => Heap.get?_push_of_some _ q) (Nat.le_refl _) ?_, rfl, q _ (I4.hok.fresh (Nat.le_refl _))⟩
    exact ⟨by rw [List.length_reverse]; exact hz, _, r.reverse, IsTup.new _ _⟩
end
section
variable {X : Cx}
def rNeNil (K : PySem.W.Frag) : R2 := fun x y H Q => ∃ a b xs, x = .ref a ∧ y = .ref b ∧ SqL K H a xs ∧ SqL K H b [] ∧ Q (.bl (!xs.isEmpty)) H
theorem op_neNil (hu : X.A.units + 64 < cLine) : OpR X (compareOp .NotEq) (rNeNil X.K) := by
  intro pins s σ H x y v u Q I rx ry h
  obtain ⟨a, b, xs, rfl, rfl, ha, hb, q⟩ := h
  cases rx
  cases ry
  obtain ⟨its, r1, p1, _⟩ := I.list ha
  obtain ⟨its2, r2, p2, _⟩ := I.list hb
  cases r2
  have hu' : X.A.units < cLine := by omega
  cases r1 with
  | nil => exact SeqAt.RcNeAt.lists (e := fun _ => true) p1.isList p2.isList rfl hu' (fun j h1 h2 => by simp at h1) _ _ _ _ ⟨.bl false, H, I, rfl, q⟩
  | cons r t => exact SeqAt.RcNeAt.lists_lengths p1.isList p2.isList rfl hu' _ _ _ _ ⟨.bl true, H, I, rfl, q⟩
end
/-- what follows a statement, shown once for all the ways to it -/
theorem seq_rest {t u : TS} {D : Ends} {σ : L2.St} {H : Hp} (F : L2.St → Hp → Prop) (main : (∀ σ' H', F σ' H' → u D σ' H') → tSeq t u D σ H) (rest : ∀ σ' H', F σ' H' → u D σ' H') : tSeq t u D σ H := main rest
theorem strs_at (ns : List Str) {r : Int} (h0 : 0 ≤ r) (h1 : r < (ns.length : Nat)) : ∃ s, s ∈ ns ∧ atI (ns.map V.str) r = some (.str s) := by
  have hk : r.toNat < ns.length := by omega
  have q := atI_nat (xs := ns.map V.str) (j := r.toNat) (v := .str ns[r.toNat]) (by rw [List.getElem?_map, List.getElem?_eq_getElem hk]; rfl)
  rw [show ((r.toNat : Nat) : Int) = r by omega] at q
  exact ⟨_, List.getElem_mem hk, q⟩
/-- the kinds at the funs of a term are such as occur -/
def ek : Tm → Prop
  | .fn _ k b => Ek k ∧ ek b
  | .ap f a => ek f ∧ ek a
  | .iff a b c => ek a ∧ ek b ∧ ek c
  | _ => True
section
variable {K : PySem.W.Frag} {b c : Addr} {H H' : Hp} {v : V} {env : List (Str × D)}
theorem pair_ref {x : V} {p : Str × D} (r : Rep K H x (pairD p)) : ∃ a, x = .ref a := by
  obtain ⟨a, _, e, _⟩ := Rep.inv (ts := [.at (.str p.1), p.2]) r
  exact ⟨a, e⟩
theorem EnvAt.nb (h : EnvAt K H v env) (hB : BoxAt H b c) : ∃ l, v = .ref l ∧ l ≠ b := by
  obtain ⟨l, xs, rfl, h1, h2⟩ := h
  refine ⟨l, rfl, fun e => ?_⟩
  subst e
  obtain ⟨ds, n, hb, _⟩ := hB
  rw [h1] at hb
  have e : xs = [.ref c, .int n] := by cases hb; rfl
  subst e
  obtain ⟨d, hd, rd⟩ := h2.get (i := 1) rfl
  rw [List.getElem?_map] at hd
  obtain ⟨p, hp, rfl⟩ := Option.map_eq_some_iff.mp hd
  obtain ⟨a, e⟩ := pair_ref rd
  cases e
theorem EnvAt.sb (h : EnvAt K H v env) (hB : BoxAt H b c) (hB' : BoxAt H' b c) (s : SB b H H') : EnvAt K H' v env := by
  obtain ⟨l0, e0, hn⟩ := h.nb hB
  obtain ⟨l, xs, e1, h1, h2⟩ := h
  subst e1
  have e2 : l = l0 := by cases e0; rfl
  subst e2
  exact ⟨l, xs, rfl, s _ _ hn h1, h2.mono (box_kx hB hB' s)⟩
end
theorem ans_reps {K : PySem.W.Frag} {M : Hp} {t1 t2 t3 t4 t5 : Addr} (h1 : M t1 = some (.tup [.str "answer", .int 0])) (h2 : M t2 = some (.tup [.str "answer", .int 1])) (h3 : M t3 = some (.tup [.str "answer", .int 0])) (h4 : M t4 = some (.tup [.str "answer", .int 1])) (h5 : M t5 = some (.tup [.str "stop"])) :
    Reps K M [.ref t1, .ref t2, .ref t3, .ref t4, .ref t5] ([.an 0, .an 1, .an 0, .an 1, .st].map tmD) :=
  .cons (.tup' h1 (.cons (.at rfl) (.one (.at rfl)))) (.cons (.tup' h2 (.cons (.at rfl) (.one (.at rfl)))) (.cons (.tup' h3 (.cons (.at rfl) (.one (.at rfl)))) (.cons (.tup' h4 (.cons (.at rfl) (.one (.at rfl)))) (.one (.tup' h5 (.one (.at rfl)))))))
theorem pickT {K : PySem.W.Frag} {H : Hp} {xs : List V} {ds : List D} {r : Int} (h : Reps K H xs ds) (h0 : 0 ≤ r) (h1 : r < (xs.length : Nat)) : ∃ (v : V) (e : D) (i : Nat), atI xs r = some v ∧ ds[i]? = some e ∧ Rep K H v e := by
  have hk : r.toNat < xs.length := by omega
  obtain ⟨e, he, re⟩ := h.get (List.getElem?_eq_getElem hk)
  have q := atI_nat (List.getElem?_eq_getElem hk)
  rw [show ((r.toNat : Nat) : Int) = r by omega] at q
  exact ⟨_, e, r.toNat, q, he, re⟩
theorem ans_ok {env : List (Str × D)} {i : Nat} {e : D} (h : (([.an 0, .an 1, .an 0, .an 1, .st] : List Tm).map tmD)[i]? = some e) : ∃ t, e = tmD t ∧ Ty env t (.tup []) ∧ ek t ∧ hgt t = 1 ∧ prt t = 1 := by
  rw [List.getElem?_map] at h
  obtain ⟨t, ht, rfl⟩ := Option.map_eq_some_iff.mp h
  have m : t ∈ ([.an 0, .an 1, .an 0, .an 1, .st] : List Tm) := List.mem_of_getElem? ht
  simp only [List.mem_cons, List.not_mem_nil, or_false] at m
  refine ⟨t, rfl, ?_⟩
  rcases m with rfl | rfl | rfl | rfl | rfl
  all_goals first | exact ⟨.an (by decide), trivial, rfl, rfl⟩ | exact ⟨.st, trivial, rfl, rfl⟩
/-! ### _law_new_name -/
section
variable {P : Program} {w : World} {K : PySem.W.Frag} {mg : Str → Option Value} {base : Heap}
def spNew : Sp := fun vs H Q _ => ∃ (b c : Addr), vs = [.ref b] ∧ BoxAt H b c ∧ ∀ (s : Str) (H' : Hp), BoxAt H' b c → SB b H H' → Q (.str s) H'
theorem ok_new {f g : Addr} {fd gd : FuncData} (D__law_new_name : Df K mg "_law_new_name" s__law_new_name ["box"] f fd) (D__law_draw : Df K mg "_law_draw" s__law_draw ["box", "many"] g gd) (B : Bt mg) : FnOk P w K mg base CX0 2 f fd ["box"] spNew := by
  have G__law_draw : FnOk P w K mg base CX0 1 g gd ["box", "many"] spDraw := ok_draw D__law_draw B
  refine D__law_new_name.ok c__law_new_name (fun vs H Q E h => ?_) (fun cdv A outer s H vs Q E hr h => ?_)
  · obtain ⟨b, c, rfl, _⟩ := h
    rfl
  obtain ⟨b, c, rfl, hB, q⟩ := h
  have nd := c__law_new_name.nd
  refine ⟨_, (pss_one (ps_ret (pe_ix ix_list (pe_lst (pa_cons pe_str (pa_cons pe_str (pa_cons pe_str (pa_cons pe_str (pa_cons pe_str (pa_cons pe_str (pa_cons pe_str (pa_cons pe_str (pa_cons pe_str (pa_cons pe_str pa_nil))))))))))) (pe_call G__law_draw (hr.mono (by first | decide | omega)) (by rfl) D__law_draw.m D__law_draw.kp D__law_draw.b .nil pass0 (pa_cons (pv 0) (pa_cons pe_int pa_nil))) (fun _ _ => rfl)))), ?_⟩
  refine ⟨(by show 10 ≤ sizeLine; decide), fun l nl => ?_⟩
  have s1 := same_new nl (.lst [.str "x", .str "y", .str "f", .str "g", .str "x1", .str "a0", .str "b0", .str "a1", .str "v0", .str "z"])
  have hl1 : (upd H l (.lst [.str "x", .str "y", .str "f", .str "g", .str "x1", .str "a0", .str "b0", .str "a1", .str "v0", .str "z"])) l = some (.lst [.str "x", .str "y", .str "f", .str "g", .str "x1", .str "a0", .str "b0", .str "a1", .str "v0", .str "z"]) := upd_same
  obtain ⟨bs, hbs⟩ := hB.lst
  have hnb : l ≠ b := (ne_of_none hbs nl).symm
  refine ⟨_, rfl, b, c, 10, rfl, hB.same s1, by decide, fun r H2 hr0 hr1 hB2 sb2 => ?_⟩
  obtain ⟨z, _, hz⟩ := strs_at ["x", "y", "f", "g", "x1", "a0", "b0", "a1", "v0", "z"] hr0 hr1
  exact ⟨l, _, _, _, rfl, rfl, SqL.of (sb2 _ _ hnb hl1), hz, q z H2 hB2 ((sb_same s1).trans sb2)⟩
/-! ### _law_small -/
def spSmall (K : PySem.W.Frag) (n : Nat) : Sp := fun vs H Q _ => ∃ (b c : Addr) (v l : V) (ts : List D) (env : List (Str × D)), vs = [.ref b, v, l] ∧ BoxAt H b c ∧ Rep K H v (.tup ts) ∧ Ek (.tup ts) ∧ ts.length < n ∧ EnvAt K H l env ∧ (∀ p ∈ env, Ek p.2) ∧ env.length + ts.length ≤ 1000 ∧
  ∀ (z : V) (H' : Hp) (t : Tm), Rep K H' z (tmD t) → Ty env t (.tup ts) → ek t → hgt t ≤ ts.length + 1 → prt t ≤ ts.length + 1 → BoxAt H' b c → SB b H H' → Q z H'
theorem ok_small {f f2 f3 f4 : Addr} {fd d2 d3 d4 : FuncData} (D__law_small : Df K mg "_law_small" s__law_small ["box", "kind", "around"] f fd) (D__law_fits : Df K mg "_law_fits" s__law_fits ["around", "kind"] f2 d2)
    (D__law_new_name : Df K mg "_law_new_name" s__law_new_name ["box"] f3 d3) (D__law_draw : Df K mg "_law_draw" s__law_draw ["box", "many"] f4 d4) (B : Bt mg) :
    ∀ n : Nat, FnOk P w K mg base CX0 (n + 2) f fd ["box", "kind", "around"] (spSmall K n)
  | 0 => (fn_none (f := f) (fd := fd) fun vs H Q E h => by
    obtain ⟨b, c, v, l, ts, env, _, _, _, _, h1, _⟩ := h
    omega).mono (by omega)
  | n + 1 => by
    have G__law_small := ok_small D__law_small D__law_fits D__law_new_name D__law_draw B n
    have G__law_fits : FnOk P w K mg base CX0 1 f2 d2 ["around", "kind"] (spFits K) := ok_fits D__law_fits B
    have G__law_new_name : FnOk P w K mg base CX0 2 f3 d3 ["box"] spNew := ok_new D__law_new_name D__law_draw B
    have G__law_draw : FnOk P w K mg base CX0 1 f4 d4 ["box", "many"] spDraw := ok_draw D__law_draw B
    refine D__law_small.ok c__law_small (fun vs H Q E h => ?_) (fun cdv A outer s H vs Q E hr h => ?_)
    · obtain ⟨b, c, v, l, ts, env, rfl, _⟩ := h
      rfl
    obtain ⟨b, c, v, l, ts, env, rfl, hB, rv, hk, hn, hl, henv, hlen, q⟩ := h
    have nd := c__law_small.nd
    refine ⟨_, (pss_cons (ps_setLc (i := 3) (own := [("row", 5)]) (g := (gName 5)) (tt := _) rfl nd rfl rfl (sw_true rfl rfl rfl (by decide +kernel)) (pi_list (pe_call G__law_fits (hr.mono (by first | decide | omega)) (by rfl) D__law_fits.m D__law_fits.kp D__law_fits.b .nil pass0 (pa_cons (pv 2) (pa_cons (pv 1) pa_nil)))) (blkOk_by (own := [("row", 5)]) (N := ["box", "kind", "around", "rows", "name", "row"]) (sc := defScope s__law_small) (by decide +kernel)) (fun _ _ _ _ _ => (pg_name (i := 5) nd rfl (Or.inl rfl))) (fun _ _ _ _ _ => (pts_one (pt_cmpR (show OpR _ (compareOp .Eq) (rEqNilT K) from op_eqNilT hr.units) (pe_ix (show IxR _ (rIxT K) from ix_tup) (pv 5) pe_int (fun _ _ => rfl)) (pe_tup pa_nil) (nomark _)))) (fun _ _ _ _ _ => (pv 5)))
  (pss_cons (ps_if (PW.pt (pw_and (pt_cmpR (op_neNil hr.units) (pv 3) (pe_lst pa_nil) (nomark _)) (pw_and1 (pt_cmpR op_gt (pe_call G__law_draw (hr.mono (by first | decide | omega)) (by rfl) D__law_draw.m D__law_draw.kp D__law_draw.b .nil pass0 (pa_cons (pv 0) (pa_cons pe_int pa_nil))) pe_int (nomark _))))) (pss_one (ps_ret (pe_tup (pa_cons pe_str (pa_cons (pe_ix ix_tup (pe_ix ix_list (pv 3) (pe_call G__law_draw (hr.mono (by first | decide | omega)) (by rfl) D__law_draw.m D__law_draw.kp D__law_draw.b .nil pass0 (pa_cons (pv 0) (pa_cons (pe_callB call_len_seq (by rfl) B.b_len PySem.boot_len (pa_cons (pv 3) pa_nil)) pa_nil))) (fun _ _ => rfl)) pe_int (fun _ _ => rfl)) pa_nil))))) pss_nil)
  (pss_cons (ps_if (pt_cmpR (op_neNilT hr.units) (pv 1) (pe_tup pa_nil) (nomark _)) (pss_cons (ps_set (i := 4) nd rfl (Or.inl rfl) (pe_call G__law_new_name (hr.mono (by first | decide | omega)) (by rfl) D__law_new_name.m D__law_new_name.kp D__law_new_name.b .nil pass0 (pa_cons (pv 0) pa_nil)))
  (pss_one (ps_ret (pe_tup (pa_cons pe_str (pa_cons (pv 4) (pa_cons (pe_ix ix_tup (pv 1) pe_int (fun _ _ => rfl)) (pa_cons (pe_call G__law_small hr (by rfl) D__law_small.m D__law_small.kp D__law_small.b .nil pass0 (pa_cons (pv 0) (pa_cons (pe_slice sl_tupP (pv 1) (po_some pe_int) po_none) (pa_cons (pe_op op_cat (pv 2) (pe_lst (pa_cons (pe_tup (pa_cons (pv 4) (pa_cons (pe_ix ix_tup (pv 1) pe_int (fun _ _ => rfl)) pa_nil))) pa_nil))) pa_nil)))) pa_nil)))))))) pss_nil)
  (pss_one (ps_ret (pe_ix ix_list (pe_lst (pa_cons (pe_tup (pa_cons pe_str (pa_cons pe_int pa_nil))) (pa_cons (pe_tup (pa_cons pe_str (pa_cons pe_int pa_nil))) (pa_cons (pe_tup (pa_cons pe_str (pa_cons pe_int pa_nil))) (pa_cons (pe_tup (pa_cons pe_str (pa_cons pe_int pa_nil))) (pa_cons (pe_tup (pa_cons pe_str pa_nil)) pa_nil)))))) (pe_call G__law_draw (hr.mono (by first | decide | omega)) (by rfl) D__law_draw.m D__law_draw.kp D__law_draw.b .nil pass0 (pa_cons (pv 0) (pa_cons pe_int pa_nil))) (fun _ _ => rfl))))))), ?_⟩
    refine seq_rest (fun σ' H' => ∃ (p : Addr) (acc : List V) (rows : List (Str × List D)) (y4 y5 : Option V), σ' = [some (.ref b), some v, some l, some (.ref p), y4, y5] ∧ Same H H' ∧ p ≠ b ∧ H' p = some (.lst acc) ∧ Reps K H' acc (rows.map rowD) ∧ acc.length ≤ 7000 ∧ ∀ r ∈ rows, FitOk env ts r ∧ r.2 = []) (fun rest => ?_) ?_
    · refine ⟨_, rfl, _, rfl, l, v, env, ts, rfl, hl, henv, by omega, rv, hk, fun r H1 xs rows s1 nr hr1 rx hrl hfit => ?_⟩
      have lx := rx.length
      rw [List.length_map] at lx
      refine ⟨r, rfl, ⟨_, SqL.of hr1⟩, fun p np => ?_⟩
      have npb : p ≠ b := by
        obtain ⟨bs, hbs⟩ := (hB.same s1).lst
        exact (ne_of_none hbs np).symm
      refine lc_list (K := K) (a := r) (xs := xs) (fun j H' => Same H1 H' ∧ ∃ acc rs, H' p = some (.lst acc) ∧ Reps K H' acc (rs.map rowD) ∧ acc.length ≤ j ∧ ∀ r ∈ rs, FitOk env ts r ∧ r.2 = [])
        ⟨same_new np _, [], [], upd_same, .nil, Nat.zero_le _, fun r hr => by cases hr⟩ (fun j H' _ h => SqL.of (h.1 _ _ hr1)) ?_ ?_
      · rintro j x H2 hj ⟨s2, acc, rs, hp, racc, hal, hrs⟩
        have hjl : j < xs.length := (List.getElem?_eq_some_iff.mp hj).1
        obtain ⟨d, hd, rd⟩ := rx.get hj
        rw [List.getElem?_map] at hd
        obtain ⟨pr, hpr, rfl⟩ := Option.map_eq_some_iff.mp hd
        have rd2 := rd.mono (kx_same s2)
        obtain ⟨a, ys, rfl, ha, ra⟩ := Rep.inv (ts := [.at (.str pr.1), .tup pr.2]) rd2
        obtain ⟨w1, hw1, rw1⟩ := ra.getD (i := 1) rfl
        obtain ⟨e, es, rfl, he, re⟩ := rw1.inv
        have le := re.length
        refine ⟨rfl, _, rfl, a, _, 1, _, rfl, rfl, ha.sq, atI_nat (j := 1) hw1, (by show 0 ≤ sizeLine; decide), fun t nt => ?_⟩
        have s3 := same_new nt (.tup [])
        refine ⟨e, t, es, rfl, rfl, (he.same s3).sq, SqT.of upd_same, _, rfl, ?_⟩
        have s23 := s2.trans s3
        cases hes : es.isEmpty with
        | false => exact iteF ⟨s23, acc, rs, s3 _ _ hp, racc.mono (kx_same s3), by omega, hrs⟩
        | true =>
          have hnil : pr.2 = [] := by
            cases es with
            | nil => exact List.length_eq_zero_iff.mp le.symm
            | cons _ _ => cases hes
          refine iteT ⟨_, rfl, acc, s3 _ _ hp, small6 (by omega), fun o u z => ?_, acc ++ [.ref a], rs ++ [pr], upd_same, ?_, by rw [List.length_append, List.length_singleton]; omega, ?_⟩
          · rw [upd_ne (ne_of_none z np)]
            exact s23 _ _ z
          · rw [List.map_append]
            have kl := kx_list (s3 _ _ hp) (acc ++ [.ref a])
            exact ((racc.mono (kx_same s3)).mono kl).append (.one ((rd2.mono (kx_same s3)).mono kl))
          · intro y hy
            rcases List.mem_append.mp hy with hy | hy
            · exact hrs y hy
            · rw [List.mem_singleton.mp hy]
              exact ⟨hfit pr (List.mem_of_getElem? hpr), hnil⟩
      · rintro H2 ⟨s2, acc, rs, hp, racc, hal, hrs⟩
        exact rest _ _ ⟨p, acc, rs, _, _, rfl, s1.trans s2, npb, hp, racc, by omega, hrs⟩
    rintro σ1 H1 ⟨p, acc, rows, y4, y5, rfl, s1, npb, hp, racc, hal, hrows⟩
    have la := racc.length
    rw [List.length_map] at la
    have hB1 := hB.same s1
    have rv1 := rv.mono (kx_same s1)
    have hl1 := hl.same s1
    refine seq_rest (fun σ' H' => ∃ (y4 y5 : Option V), σ' = [some (.ref b), some v, some l, some (.ref p), y4, y5] ∧ BoxAt H' b c ∧ SB b H H' ∧ Rep K H' v (.tup ts) ∧ EnvAt K H' l env) (fun rest => ?_) ?_
    · refine ⟨_, rfl, (by show 0 ≤ sizeLine; decide), fun t nt => ?_⟩
      have s2 := same_new nt (.lst [])
      have s12 := s1.trans s2
      refine ⟨p, t, acc, rfl, rfl, SqL.of (s2 _ _ hp), SqL.of upd_same, _, rfl, ?_⟩
      have hp2 := s2 _ _ hp
      have racc2 := racc.mono (kx_same s2)
      have hB2 := hB1.same s2
      have rv2 := rv1.mono (kx_same s2)
      have hl2 := hl1.same s2
      generalize upd H1 t (.lst []) = H2 at *
      cases hae : acc.isEmpty with
      | true => exact iteF (rest _ _ ⟨_, _, rfl, hB2, sb_same s12, rv2, hl2⟩)
      | false =>
        refine iteT ⟨_, rfl, b, c, 4, rfl, hB2, by decide, fun r H3 hr0 hr4 hB3 sb3 => ⟨_, _, rfl, rfl, _, rfl, ite2 (fun _ => ?_) (fun _ => ?_)⟩⟩
        · have hpos : 0 < acc.length := by
            cases acc with
            | nil => cases hae
            | cons _ _ => exact Nat.succ_pos _
          have hp3 := sb3 _ _ npb hp2
          have k3 := box_kx hB2 hB3 sb3
          refine ⟨_, rfl, _, rfl, _, rfl, p, acc, rfl, .inl (SqL.of hp3), b, c, _, rfl, hB3, by omega, fun j H4 hj0 hj1 hB4 sb4 => ?_⟩
          have k4 := box_kx hB3 hB4 sb4
          have hp4 := sb4 _ _ npb hp3
          obtain ⟨y, e, i, hy, he, re⟩ : ∃ (y : V) (e : D) (i : Nat), atI acc j = some y ∧ (rows.map rowD)[i]? = some e ∧ Rep K H4 y e := by
            have hk : j.toNat < acc.length := by omega
            obtain ⟨e, he, re⟩ := ((racc2.mono k3).mono k4).get (List.getElem?_eq_getElem hk)
            have q := atI_nat (List.getElem?_eq_getElem hk)
            rw [show ((j.toNat : Nat) : Int) = j by omega] at q
            exact ⟨_, e, _, q, he, re⟩
          rw [List.getElem?_map] at he
          obtain ⟨pr, hpr, rfl⟩ := Option.map_eq_some_iff.mp he
          obtain ⟨⟨f1, f2⟩, f3⟩ := hrows pr (List.mem_of_getElem? hpr)
          obtain ⟨a, ys, rfl, ha, ra⟩ := Rep.inv (ts := [.at (.str pr.1), .tup pr.2]) re
          obtain ⟨w0, hw0, rw0⟩ := ra.getD (i := 0) rfl
          obtain ⟨rfl, _⟩ := rw0.inva
          refine ⟨p, acc, _, _, rfl, rfl, SqL.of hp4, hy, a, _, 0, _, rfl, rfl, ha.sq, atI_nat (j := 0) hw0, (by show 2 ≤ sizeLine; decide), fun t2 nt2 => ?_⟩
          have s5 := same_new nt2 (.tup [.str "name", .str pr.1])
          refine q _ _ (.nm pr.1) (.tup' upd_same (.cons (.at rfl) (.one (.at rfl)))) (.nm ?_) trivial (by show 1 ≤ _; omega) (by show 1 ≤ _; omega) (hB4.same s5) ((sb_same s12).trans (sb3.trans (sb4.trans (sb_same s5))))
          rw [f1, f3]
          rfl
        · have k3 := box_kx hB2 hB3 sb3
          exact rest _ _ ⟨_, _, rfl, hB3, (sb_same s12).trans sb3, rv2.mono k3, hl2.sb hB2 hB3 sb3⟩
    clear hB1 rv1 hl1 racc hp
    rintro σ2 H2 ⟨y4, y5, rfl, hB2, sb2, rv2, hl2⟩
    refine seq_rest (fun σ' H' => ∃ (y4 y5 : Option V), σ' = [some (.ref b), some v, some l, some (.ref p), y4, y5] ∧ BoxAt H' b c ∧ SB b H H' ∧ ts = []) (fun rest => ?_) ?_
    · obtain ⟨a, xs, rfl, hx, rx⟩ := rv2.inv
      have lx := rx.length
      refine ⟨_, rfl, (by show 0 ≤ sizeLine; decide), fun t nt => ?_⟩
      have s3 := same_new nt (.tup [])
      refine ⟨a, t, xs, rfl, rfl, (hx.same s3).sq, SqT.of upd_same, _, rfl, ?_⟩
      have hB3 := hB2.same s3
      have sb3 := sb2.trans (sb_same s3)
      have hx3 := hx.same s3
      have rx3 := rx.mono (kx_same s3)
      have hl3 := hl2.same s3
      generalize upd H2 t (.tup []) = H3 at *
      cases rx3 with
      | nil => exact iteF (rest _ _ ⟨_, _, rfl, hB3, sb3, rfl⟩)
      | @cons x0 k0 xr tr r0 rr =>
        refine iteT ?_
        refine ⟨_, rfl, b, c, rfl, hB3, fun nm H4 hB4 sb4 => ?_⟩
        have k4 := box_kx hB3 hB4 sb4
        have hx4 := hx3.kx k4
        have r04 := r0.mono k4
        have rr4 := rr.mono k4
        have hl4 := hl3.sb hB3 hB4 sb4
        have e0 : (x0 :: xr)[0]? = some x0 := rfl
        refine ⟨_, rfl, _, rfl, a, _, 0, x0, rfl, rfl, hx4.sq, atI_nat (j := 0) e0, _, rfl, _, rfl, _, rfl, a, _, rfl, hx4, fun c1 H5 s5 hc1 => ?_⟩
        rw [show ((1 : Int)) = ((1 : Nat) : Int) from rfl, cutV_from] at hc1
        have hc1' : TupAt K H5 c1 xr := hc1
        have hx5 := hx4.same s5
        obtain ⟨la5, lxs, rfl, hla, rla⟩ := hl4.same s5
        refine ⟨_, rfl, _, rfl, _, rfl, a, _, 0, x0, rfl, rfl, hx5.sq, atI_nat (j := 0) e0, (by show 2 ≤ sizeLine; decide), fun t5 nt5 => ⟨(by show 1 ≤ sizeLine; decide), fun l6 nl6 => ?_⟩⟩
        have s6 := same_new nt5 (.tup [.str nm, x0])
        have s7 := same_new nl6 (.lst [.ref t5])
        have ht5 := s7 _ _ (upd_same (H := H5) (a := t5) (o := .tup [.str nm, x0]))
        have hl6 : (upd (upd H5 t5 (.tup [.str nm, x0])) l6 (.lst [.ref t5])) l6 = some (.lst [.ref t5]) := upd_same
        have s57 := s6.trans s7
        generalize upd (upd H5 t5 (.tup [.str nm, x0])) l6 (.lst [.ref t5]) = H7 at *
        have lla := rla.length
        rw [List.length_map, List.length_reverse] at lla
        refine ⟨la5, l6, lxs, _, rfl, rfl, s57 _ _ hla, hl6, small6' (by show lxs.length + 1 ≤ 1000000; omega), fun l7 nl7 => ?_⟩
        have s8 := same_new nl7 (.lst (lxs ++ [.ref t5]))
        have s48 := (s5.trans s57).trans s8
        obtain ⟨_, _, hlts, hts⟩ : ∃ ts', D.tup (k0 :: tr) = .tup ts' ∧ ts'.length ≤ 6 ∧ ∀ e ∈ ts', Ek e ∧ dep e ≤ 2 := hk.inv
        have hts : ∀ e ∈ k0 :: tr, Ek e ∧ dep e ≤ 2 := by
          obtain ⟨ts', e', _, h'⟩ := hk.inv
          cases e'
          exact h'
        have hkl : (k0 :: tr).length ≤ 6 := by
          obtain ⟨ts', e', h', _⟩ := hk.inv
          cases e'
          exact h'
        have ek0 := (hts k0 (List.mem_cons_self ..)).1
        have ektr : Ek (.tup tr) := Ek.of (by have : tr.length + 1 ≤ 6 := hkl; omega) fun e he => hts e (List.mem_cons_of_mem _ he)
        have hnl : (k0 :: tr).length = tr.length + 1 := rfl
        refine ⟨b, c, .ref c1, .ref l7, tr, (nm, k0) :: env, rfl, hB4.same s48, .tup (hc1'.same (s57.trans s8)) (rr4.mono (kx_same s48)), ektr, by omega, ⟨l7, _, rfl, upd_same, ?_⟩, fun pr hpr => ?_, by show env.length + 1 + tr.length ≤ 1000; omega, fun z H9 t9 rz tz ez hz pz hB9 sb9 => ?_⟩
        · rw [List.reverse_cons, List.map_append]
          exact (rla.mono (kx_same (s57.trans s8))).append (.one (.tup' (s8 _ _ ht5) (.cons (.at rfl) (.one (r04.mono (kx_same s48))))))
        · rcases List.mem_cons.mp hpr with e | h
          · rw [e]
            exact ek0
          · exact henv pr h
        refine ⟨(by show 4 ≤ sizeLine; decide), fun t10 nt10 => ?_⟩
        have s10 := same_new nt10 (.tup [.str "fun", .str nm, x0, z])
        have k9 := box_kx (hB4.same s48) hB9 sb9
        refine q _ _ (.fn nm k0 t9) (.tup' upd_same (.cons (.at rfl) (.cons (.at rfl) (.cons (((r04.mono (kx_same s48)).mono k9).mono (kx_same s10)) (.one (rz.mono (kx_same s10))))))) (.fn tz) ⟨ek0, ez⟩ (by show hgt t9 + 1 ≤ _; omega) (by show prt t9 + 1 ≤ _; omega) (hB9.same s10) ?_
        exact sb3.trans (sb4.trans ((sb_same s48).trans (sb9.trans (sb_same s10))))
    clear hB2 sb2 rv2 hl2
    rintro σ3 H3 ⟨y4, y5, rfl, hB3, sb3, rfl⟩
    refine ⟨(by show 2 ≤ sizeLine; decide), fun t1 n1 => ⟨(by show 2 ≤ sizeLine; decide), fun t2 n2 => ⟨(by show 2 ≤ sizeLine; decide), fun t3 n3 => ⟨(by show 2 ≤ sizeLine; decide), fun t4 n4 => ⟨(by show 1 ≤ sizeLine; decide), fun t5 n5 => ⟨(by show 5 ≤ sizeLine; decide), fun m nm => ?_⟩⟩⟩⟩⟩⟩
    have u6 := same_new nm (.lst [.ref t1, .ref t2, .ref t3, .ref t4, .ref t5])
    have u5 := (same_new n5 _).trans u6
    have u4 := (same_new n4 _).trans u5
    have u3 := (same_new n3 _).trans u4
    have u2 := (same_new n2 _).trans u3
    have u1 := (same_new n1 _).trans u2
    have RM := ans_reps (K := K) (u2 _ _ upd_same) (u3 _ _ upd_same) (u4 _ _ upd_same) (u5 _ _ upd_same) (u6 _ _ upd_same)
    have nmb : m ≠ b := by
      obtain ⟨bs, hbs⟩ := (hB3.same ((same_new n1 _).trans ((same_new n2 _).trans ((same_new n3 _).trans ((same_new n4 _).trans (same_new n5 _)))))).lst
      exact (ne_of_none hbs nm).symm
    refine ⟨_, rfl, b, c, 5, rfl, hB3.same u1, by decide, fun r H8 hr0 hr5 hB8 sb8 => ?_⟩
    obtain ⟨y, e, i, hy, he, re⟩ := pickT RM hr0 hr5
    refine ⟨m, _, _, y, rfl, rfl, SqL.of (sb8 _ _ nmb upd_same), hy, ?_⟩
    obtain ⟨t, rfl, tt, et, h1, h2⟩ := ans_ok (env := env) he
    exact q y H8 t (re.mono (box_kx (hB3.same u1) hB8 sb8)) tt et (by rw [h1]; exact Nat.le_refl 1) (by rw [h2]; exact Nat.le_refl 1) hB8 (sb3.trans ((sb_same u1).trans sb8))
end
end Pk

set_option maxRecDepth 100000
set_option maxHeartbeats 4000000
namespace Pk
open PySem PySem.Spec PyProof.Rows L2
/-! ### _law_given, _law_term -/
def hb (s : Int) : Nat := if s ≤ 1 then 7 else s.toNat + 12
def pb (s : Int) : Nat := if s ≤ 1 then 7 else 60 * s.toNat + 7
theorem hb_pos (s : Int) : 7 ≤ hb s := by
  unfold hb
  split <;> omega
theorem pb_pos (s : Int) : 7 ≤ pb s := by
  unfold pb
  split <;> omega
theorem hb_mono {s t : Int} (h : s < t) (ht : 2 ≤ t) : hb s + 1 ≤ hb t := by
  unfold hb
  split <;> split <;> omega
theorem pb_sub {s t : Int} (h : s < t) (ht : 2 ≤ t) : pb s + 1 ≤ pb t := by
  unfold pb
  split <;> split <;> omega
theorem pb_third {t : Int} (ht : 2 ≤ t) : 3 * pb ((t - 1) / 3) + 1 ≤ pb t := by
  unfold pb
  split <;> split <;> omega
theorem pb_two {t : Int} (ht : 2 ≤ t) : pb ((t - 1) * 2 / 3) + pb ((t - 1) / 3) + 1 ≤ pb t := by
  unfold pb
  split <;> split <;> split <;> omega
def shr (s : Int) (n : Nat) : Int := (s - 1 - (n : Int)) / (if (n : Int) > 1 then (n : Int) else 1)
theorem given_bound {s : Int} {n : Nat} (hn : n ≤ 6) (hs : 2 ≤ s) : shr s n < s ∧ n + hb (shr s n) ≤ hb s ∧ 1 + n * (pb (shr s n) + 1) ≤ pb s := by
  have cs : n = 0 ∨ n = 1 ∨ n = 2 ∨ n = 3 ∨ n = 4 ∨ n = 5 ∨ n = 6 := by omega
  unfold shr hb pb
  rcases cs with rfl | rfl | rfl | rfl | rfl | rfl | rfl
  all_goals
    simp only [show ¬ (((0 : Nat) : Int) > 1) by omega, show ¬ (((1 : Nat) : Int) > 1) by omega, show (((2 : Nat) : Int) > 1) by omega, show (((3 : Nat) : Int) > 1) by omega, show (((4 : Nat) : Int) > 1) by omega, show (((5 : Nat) : Int) > 1) by omega, show (((6 : Nat) : Int) > 1) by omega, if_true, if_false]
    refine ⟨by omega, ?_, ?_⟩
    · split <;> split <;> omega
    · split <;> split <;> omega
def TmOut (K : PySem.W.Frag) (b c : Addr) (H : Hp) (env : List (Str × D)) (ts : List D) (s : Int) (Q : VK) : Prop :=
  ∀ (z : V) (H' : Hp) (t : Tm), Rep K H' z (tmD t) → Ty env t (.tup ts) → ek t → hgt t ≤ hb s → prt t ≤ pb s → BoxAt H' b c → SB b H H' → Q z H'
def spTerm (K : PySem.W.Frag) (n : Nat) : Sp := fun vs H Q _ => ∃ (b c : Addr) (v l : V) (s : Int) (ts : List D) (env : List (Str × D)), vs = [.ref b, v, l, .int s] ∧ BoxAt H b c ∧ Rep K H v (.tup ts) ∧ Ek (.tup ts) ∧ EnvAt K H l env ∧ (∀ p ∈ env, Ek p.2) ∧ s < n ∧ 0 < n ∧ env.length + n ≤ 900 ∧ TmOut K b c H env ts s Q
def spGiven (K : PySem.W.Frag) (n : Nat) : Sp := fun vs H Q _ => ∃ (b c : Addr) (v l : V) (s : Int) (pr : Str × List D) (ts : List D) (env : List (Str × D)), vs = [.ref b, v, l, .int s] ∧ BoxAt H b c ∧ Rep K H v (rowD pr) ∧ FitOk env ts pr ∧ EnvAt K H l env ∧ (∀ p ∈ env, Ek p.2) ∧ 2 ≤ s ∧ s < n + 1 ∧ env.length + n ≤ 900 ∧ TmOut K b c H env ts s Q
section
variable {P : Program} {w : World} {K : PySem.W.Frag} {mg : Str → Option Value} {base : Heap}
theorem ok_given {n : Nat} {f f2 : Addr} {fd d2 : FuncData} (D__law_given : Df K mg "_law_given" s__law_given ["box", "row", "around", "size"] f fd) (D__law_term : Df K mg "_law_term" s__law_term ["box", "kind", "around", "size"] f2 d2) (B : Bt mg)
    (G__law_term : FnOk P w K mg base CX0 (2 * n + 10) f2 d2 ["box", "kind", "around", "size"] (spTerm K n)) : FnOk P w K mg base CX0 (2 * n + 11) f fd ["box", "row", "around", "size"] (spGiven K n) := by
  refine D__law_given.ok c__law_given (fun vs H Q E h => ?_) (fun cdv A outer s H vs Q E hr h => ?_)
  · obtain ⟨b, c, v, l, sz, pr, ts, env, rfl, _⟩ := h
    rfl
  obtain ⟨b, c, v, l, sz, pr, ts, env, rfl, hB, rv, hfit, hl, henv, hs2, hsn, hlen, q⟩ := h
  have nd := c__law_given.nd
  refine ⟨_, (pss_cons (ps_set (i := 4) nd rfl (Or.inl rfl) (pe_tup (pa_cons pe_str (pa_cons (pe_ix ix_tup (pv 1) pe_int (fun _ _ => rfl)) pa_nil))))
  (pss_cons (ps_set (i := 5) nd rfl (Or.inl rfl) (pe_op op_fdiv (pe_op op_sub (pe_op op_sub (pv 3) pe_int) (pe_callB call_len_seq (by rfl) B.b_len PySem.boot_len (pa_cons (pe_ix ix_tup (pv 1) pe_int (fun _ _ => rfl)) pa_nil))) (pe_callB (call_max2 rfl) (by rfl) B.b_max (by decide +kernel) (pa_cons pe_int (pa_cons (pe_callB call_len_seq (by rfl) B.b_len PySem.boot_len (pa_cons (pe_ix ix_tup (pv 1) pe_int (fun _ _ => rfl)) pa_nil)) pa_nil)))))
  (pss_cons (ps_for PassesOwn.never rfl (pi_tup (pe_ix ix_tup (pv 1) pe_int (fun _ _ => rfl))) (pg_name (i := 6) nd rfl (Or.inl rfl)) (pss_one (ps_set (i := 4) nd rfl (Or.inl rfl) (pe_tup (pa_cons pe_str (pa_cons (pv 4) (pa_cons (pe_call G__law_term (hr.mono (by first | decide | omega)) (by rfl) D__law_term.m D__law_term.kp D__law_term.b .nil pass0 (pa_cons (pv 0) (pa_cons (pv 6) (pa_cons (pv 2) (pa_cons (pv 5) pa_nil))))) pa_nil)))))))
  (pss_one (ps_ret (pv 4)))))), ?_⟩
  obtain ⟨a, xs, rfl, hx, rx⟩ := Rep.inv (ts := [.at (.str pr.1), .tup pr.2]) rv
  obtain ⟨x0, hx0, r0⟩ := rx.getD (i := 0) rfl
  obtain ⟨x1, hx1, r1⟩ := rx.getD (i := 1) rfl
  obtain ⟨rfl, _⟩ := r0.inva
  obtain ⟨d, ys, rfl, hd, ry⟩ := r1.inv
  have ly := ry.length
  obtain ⟨f1, f2⟩ := hfit
  obtain ⟨_, e0, hw, hks⟩ := f2.inv
  cases e0
  rw [List.length_append] at hw
  have hks' : ∀ e ∈ pr.2, Ek e := fun e he => (hks e (List.mem_append_left _ he)).1
  obtain ⟨g1, g2, g3⟩ := given_bound (s := sz) (n := pr.2.length) (by omega) hs2
  refine ⟨_, rfl, a, _, 0, _, rfl, rfl, hx.sq, atI_nat (j := 0) hx0, (by show 2 ≤ sizeLine; decide), fun t0 nt0 => ?_⟩
  have s1 := same_new nt0 (.tup [.str "name", .str pr.1])
  have rt1 : Rep K (upd H t0 (.tup [.str "name", .str pr.1])) (.ref t0) (tmD (.nm pr.1)) := .tup' upd_same (.cons (.at rfl) (.one (.at rfl)))
  have hB1 := hB.same s1
  have hx1' := hx.same s1
  have hd1 := hd.same s1
  have ry1 := ry.mono (kx_same s1)
  have hl1 := hl.same s1
  have sb1 : SB b H (upd H t0 (.tup [.str "name", .str pr.1])) := sb_same s1
  generalize upd H t0 (.tup [.str "name", .str pr.1]) = H1 at *
  refine ⟨_, rfl, _, _, rfl, rfl, _, rfl, a, _, 1, _, rfl, rfl, hx1'.sq, atI_nat (j := 1) hx1, d, ys, rfl, .inr hd1.sq, _, _, rfl, rfl, _, rfl, a, _, 1, _, rfl, rfl, hx1'.sq, atI_nat (j := 1) hx1, d, ys, rfl, .inr hd1.sq, _, _, rfl, _, _, rfl, rfl, ⟨?_, ?_⟩, ?_⟩
  · show (0 : Int) < if ((ys.length : Nat) : Int) > 1 then ((ys.length : Nat) : Int) else 1
    split <;> omega
  · show (if ((ys.length : Nat) : Int) > 1 then ((ys.length : Nat) : Int) else 1) < (1073741824 : Int)
    split <;> omega
  refine ⟨_, rfl, a, _, 1, _, rfl, rfl, hx1'.sq, atI_nat (j := 1) hx1, d, rfl, ⟨_, hd1.sq⟩, ?_⟩
  refine for_tup (K := K) (a := d) (xs := ys) (fun j σ H' => ∃ (z : V) (t : Tm) (y6 : Option V), σ = [some (.ref b), some (.ref a), some l, some (.int sz), some z, some (.int (shr sz ys.length)), y6] ∧ BoxAt H' b c ∧ SB b H H' ∧ TupAt K H' d ys ∧ Reps K H' ys pr.2 ∧ EnvAt K H' l env ∧
      Rep K H' z (tmD t) ∧ Ty env t (.tup (pr.2.drop j ++ ts)) ∧ ek t ∧ hgt t ≤ j + hb (shr sz ys.length) ∧ prt t ≤ 1 + j * (pb (shr sz ys.length) + 1))
    ⟨.ref t0, .nm pr.1, none, rfl, hB1, sb1, hd1, ry1, hl1, rt1, .nm f1, trivial, by have := hb_pos (shr sz ys.length); show 1 ≤ _; omega, by show 1 ≤ _; omega⟩ (fun j σ H' _ h => by
      obtain ⟨_, _, _, _, _, _, h, _⟩ := h
      exact h.sq) ?_ ?_
  · rintro j x σ H2 hj ⟨z, t, y6, rfl, hB2, sb2, hd2, ry2, hl2, rz2, tz2, ez2, hz2, pz2⟩
    obtain ⟨k, hk, rk⟩ := ry2.get hj
    have mk : k ∈ pr.2 := List.mem_of_getElem? hk
    have ekk := hks' k mk
    obtain ⟨kts, rfl, _, _⟩ := ekk.inv
    have hdrop : pr.2.drop j = D.tup kts :: pr.2.drop (j + 1) := by
      have hj' := (List.getElem?_eq_some_iff.mp hk).1
      rw [List.drop_eq_getElem_cons hj']
      rw [List.getElem?_eq_getElem hj'] at hk
      rw [Option.some.inj hk]
    refine ⟨_, rfl, _, rfl, _, rfl, _, rfl, _, rfl, b, c, x, l, shr sz ys.length, kts, env, rfl, hB2, rk, ekk, hl2, henv, by rw [ly]; omega, by omega, by omega, fun z3 H3 t3 rz3 tz3 ez3 hz3 pz3 hB3 sb3 => ?_⟩
    have k3 := box_kx hB2 hB3 sb3
    refine ⟨(by show 3 ≤ sizeLine; decide), fun t4 nt4 => ?_⟩
    have s4 := same_new nt4 (.tup [.str "apply", z, z3])
    rw [hdrop] at tz2
    refine ⟨.ref t4, .ap t t3, _, rfl, hB3.same s4, sb2.trans (sb3.trans (sb_same s4)), (hd2.kx k3).same s4, (ry2.mono k3).mono (kx_same s4), (hl2.sb hB2 hB3 sb3).same s4, .tup' upd_same (.cons (.at rfl) (.cons ((rz2.mono k3).mono (kx_same s4)) (.one (rz3.mono (kx_same s4))))), .ap tz2 tz3, ⟨ez2, ez3⟩, ?_, ?_⟩
    · show max (hgt t) (hgt t3) + 1 ≤ _
      omega
    · show prt t + prt t3 + 1 ≤ 1 + (j + 1) * (pb (shr sz ys.length) + 1)
      rw [Nat.succ_mul]
      omega
  · rintro σ H2 ⟨z, t, y6, rfl, hB2, sb2, hd2, ry2, hl2, rz2, tz2, ez2, hz2, pz2⟩
    rw [ly, List.drop_length] at tz2
    rw [ly] at hz2 pz2
    exact ⟨_, rfl, q z H2 t rz2 tz2 ez2 (by omega) (by omega) hB2 sb2⟩
end
end Pk

set_option maxRecDepth 100000
set_option maxHeartbeats 4000000
namespace Pk
open PySem PySem.Spec PyProof.Rows L2
/-- the same, where the statement follows an if that isn't taken -/
theorem nx_rest {t u : TS} {D : Ends} {σ : L2.St} {H : Hp} (F : L2.St → Hp → Prop) (main : (∀ σ' H', F σ' H' → u D σ' H') → tSeq t u D σ H) (rest : ∀ σ' H', F σ' H' → u D σ' H') : tNext { D with nx := tSeq t u D } σ H := main rest
theorem part_reps {M : Hp} {K : PySem.W.Frag} {t1 t2 t3 t4 t5 t6 t7 t8 t9 ta tb tc : Addr} (h1 : M t1 = some (.tup [])) (h2 : M t2 = some (.tup [])) (h3 : M t3 = some (.tup [])) (h4 : M t4 = some (.tup [.ref t3])) (h5 : M t5 = some (.tup [])) (h6 : M t6 = some (.tup [.ref t5]))
    (h7 : M t7 = some (.tup [])) (h8 : M t8 = some (.tup [])) (h9 : M t9 = some (.tup [.ref t7, .ref t8])) (ha : M ta = some (.tup [])) (hb : M tb = some (.tup [.ref ta])) (hc : M tc = some (.tup [.ref tb])) :
    Reps K M [.ref t1, .ref t2, .ref t4, .ref t6, .ref t9, .ref tc] [.tup [], .tup [], .tup [.tup []], .tup [.tup []], .tup [.tup [], .tup []], .tup [.tup [.tup []]]] :=
  .cons (.tup' h1 .nil) (.cons (.tup' h2 .nil) (.cons (.tup' h4 (.one (.tup' h3 .nil))) (.cons (.tup' h6 (.one (.tup' h5 .nil))) (.cons (.tup' h9 (.cons (.tup' h7 .nil) (.one (.tup' h8 .nil)))) (.one (.tup' hc (.one (.tup' hb (.one (.tup' ha .nil))))))))))
theorem part_ok {i : Nat} {e : D} (h : ([.tup [], .tup [], .tup [.tup []], .tup [.tup []], .tup [.tup [], .tup []], .tup [.tup [.tup []]]] : List D)[i]? = some e) : ∃ us, e = .tup us ∧ Ek (.tup us) ∧ dep (.tup us) ≤ 2 := by
  have m := List.mem_of_getElem? h
  simp only [List.mem_cons, List.not_mem_nil, or_false] at m
  rcases m with rfl | rfl | rfl | rfl | rfl | rfl
  all_goals exact ⟨_, rfl, ⟨by decide, by decide, by decide⟩, by decide⟩
section
variable {P : Program} {w : World} {K : PySem.W.Frag} {mg : Str → Option Value} {base : Heap}
theorem ok_term {f f2 f3 f4 f5 f6 : Addr} {fd d2 d3 d4 d5 d6 : FuncData} (D__law_term : Df K mg "_law_term" s__law_term ["box", "kind", "around", "size"] f fd) (D__law_given : Df K mg "_law_given" s__law_given ["box", "row", "around", "size"] f2 d2)
    (D__law_small : Df K mg "_law_small" s__law_small ["box", "kind", "around"] f3 d3) (D__law_fits : Df K mg "_law_fits" s__law_fits ["around", "kind"] f4 d4)
    (D__law_new_name : Df K mg "_law_new_name" s__law_new_name ["box"] f5 d5) (D__law_draw : Df K mg "_law_draw" s__law_draw ["box", "many"] f6 d6) (B : Bt mg) :
    ∀ n : Nat, FnOk P w K mg base CX0 (2 * n + 10) f fd ["box", "kind", "around", "size"] (spTerm K n)
  | 0 => (fn_none (f := f) (fd := fd) fun vs H Q E h => by
    obtain ⟨b, c, v, l, s, ts, env, _, _, _, _, _, _, _, h0, _⟩ := h
    omega).mono (by omega)
  | n + 1 => by
    have G__law_small : FnOk P w K mg base CX0 9 f3 d3 ["box", "kind", "around"] (spSmall K 7) := ok_small D__law_small D__law_fits D__law_new_name D__law_draw B 7
    have G__law_fits : FnOk P w K mg base CX0 1 f4 d4 ["around", "kind"] (spFits K) := ok_fits D__law_fits B
    have G__law_new_name : FnOk P w K mg base CX0 2 f5 d5 ["box"] spNew := ok_new D__law_new_name D__law_draw B
    have G__law_draw : FnOk P w K mg base CX0 1 f6 d6 ["box", "many"] spDraw := ok_draw D__law_draw B
    have G0 := ok_term D__law_term D__law_given D__law_small D__law_fits D__law_new_name D__law_draw B n
    have G__law_term : FnOk P w K mg base CX0 (2 * (n + 1) + 9) f fd ["box", "kind", "around", "size"] (spTerm K n) := G0.mono (by omega)
    have G__law_given : FnOk P w K mg base CX0 (2 * n + 11) f2 d2 ["box", "row", "around", "size"] (spGiven K n) := ok_given D__law_given D__law_term B G0
    refine D__law_term.ok c__law_term (fun vs H Q E h => ?_) (fun cdv A outer s H vs Q E hr h => ?_)
    · obtain ⟨b, c, v, l, sz, ts, env, rfl, _⟩ := h
      rfl
    obtain ⟨b, c, v, l, sz, ts, env, rfl, hB, rv, hk, hl, henv, hsz, _, hlen, q⟩ := h
    have nd := c__law_term.nd
    refine ⟨_, (pss_cons (ps_set (i := 4) nd rfl (Or.inl rfl) (pe_call G__law_draw (hr.mono (by first | decide | omega)) (by rfl) D__law_draw.m D__law_draw.kp D__law_draw.b .nil pass0 (pa_cons (pv 0) (pa_cons pe_int pa_nil))))
  (pss_cons (ps_if (pt_cmpR op_le (pv 3) pe_int (nomark _)) (pss_one (ps_ret (pe_call G__law_small (hr.mono (by first | decide | omega)) (by rfl) D__law_small.m D__law_small.kp D__law_small.b .nil pass0 (pa_cons (pv 0) (pa_cons (pv 1) (pa_cons (pv 2) pa_nil)))))) pss_nil)
  (pss_cons (ps_if (PW.pt (pw_and (pt_cmpR (op_neNilT hr.units) (pv 1) (pe_tup pa_nil) (nomark _)) (pw_and1 (pt_cmpR op_le (pv 4) pe_int (nomark _))))) (pss_cons (ps_set (i := 5) nd rfl (Or.inl rfl) (pe_call G__law_new_name (hr.mono (by first | decide | omega)) (by rfl) D__law_new_name.m D__law_new_name.kp D__law_new_name.b .nil pass0 (pa_cons (pv 0) pa_nil)))
  (pss_one (ps_ret (pe_tup (pa_cons pe_str (pa_cons (pv 5) (pa_cons (pe_ix ix_tup (pv 1) pe_int (fun _ _ => rfl)) (pa_cons (pe_call G__law_term hr (by rfl) D__law_term.m D__law_term.kp D__law_term.b .nil pass0 (pa_cons (pv 0) (pa_cons (pe_slice sl_tupP (pv 1) (po_some pe_int) po_none) (pa_cons (pe_op op_cat (pv 2) (pe_lst (pa_cons (pe_tup (pa_cons (pv 5) (pa_cons (pe_ix ix_tup (pv 1) pe_int (fun _ _ => rfl)) pa_nil))) pa_nil))) (pa_cons (pe_op op_sub (pv 3) pe_int) pa_nil))))) pa_nil)))))))) pss_nil)
  (pss_cons (ps_if (PW.pt (pw_and (pt_cmpR (op_eqNilT hr.units) (pv 1) (pe_tup pa_nil) (nomark _)) (pw_and (pt_chain op_le op_le pe_int (pv 4) pe_int) (pw_and1 (pt_cmpR op_ge (pv 3) pe_int (nomark _)))))) (pss_cons (ps_set (i := 6) nd rfl (Or.inl rfl) (pe_call G__law_term hr (by rfl) D__law_term.m D__law_term.kp D__law_term.b .nil pass0 (pa_cons (pv 0) (pa_cons (pe_tup pa_nil) (pa_cons (pv 2) (pa_cons (pe_op op_fdiv (pe_op op_sub (pv 3) pe_int) pe_int) pa_nil))))))
  (pss_cons (ps_set (i := 7) nd rfl (Or.inl rfl) (pe_call G__law_term hr (by rfl) D__law_term.m D__law_term.kp D__law_term.b .nil pass0 (pa_cons (pv 0) (pa_cons (pe_tup pa_nil) (pa_cons (pv 2) (pa_cons (pe_op op_fdiv (pe_op op_sub (pv 3) pe_int) pe_int) pa_nil))))))
  (pss_one (ps_ret (pe_tup (pa_cons pe_str (pa_cons (pv 6) (pa_cons (pv 7) (pa_cons (pe_call G__law_term hr (by rfl) D__law_term.m D__law_term.kp D__law_term.b .nil pass0 (pa_cons (pv 0) (pa_cons (pe_tup pa_nil) (pa_cons (pv 2) (pa_cons (pe_op op_fdiv (pe_op op_sub (pv 3) pe_int) pe_int) pa_nil))))) pa_nil))))))))) pss_nil)
  (pss_cons (ps_if (PW.pt (pw_and (pt_cmpR op_le (pv 4) pe_int (nomark _)) (pw_and1 (pt_cmpR op_le (pe_callB call_len_seq (by rfl) B.b_len PySem.boot_len (pa_cons (pv 1) pa_nil)) pe_int (nomark _))))) (pss_cons (ps_set (i := 8) nd rfl (Or.inl rfl) (pe_ix ix_list (pe_lst (pa_cons (pe_tup pa_nil) (pa_cons (pe_tup pa_nil) (pa_cons (pe_tup (pa_cons (pe_tup pa_nil) pa_nil)) (pa_cons (pe_tup (pa_cons (pe_tup pa_nil) pa_nil)) (pa_cons (pe_tup (pa_cons (pe_tup pa_nil) (pa_cons (pe_tup pa_nil) pa_nil))) (pa_cons (pe_tup (pa_cons (pe_tup (pa_cons (pe_tup pa_nil) pa_nil)) pa_nil)) pa_nil))))))) (pe_call G__law_draw (hr.mono (by first | decide | omega)) (by rfl) D__law_draw.m D__law_draw.kp D__law_draw.b .nil pass0 (pa_cons (pv 0) (pa_cons pe_int pa_nil))) (fun _ _ => rfl)))
  (pss_cons (ps_set (i := 9) nd rfl (Or.inl rfl) (pe_call G__law_term hr (by rfl) D__law_term.m D__law_term.kp D__law_term.b .nil pass0 (pa_cons (pv 0) (pa_cons (pe_op op_catP (pe_tup (pa_cons (pv 8) pa_nil)) (pv 1)) (pa_cons (pv 2) (pa_cons (pe_op op_fdiv (pe_op op_mul (pe_op op_sub (pv 3) pe_int) pe_int) pe_int) pa_nil))))))
  (pss_one (ps_ret (pe_tup (pa_cons pe_str (pa_cons (pv 9) (pa_cons (pe_call G__law_term hr (by rfl) D__law_term.m D__law_term.kp D__law_term.b .nil pass0 (pa_cons (pv 0) (pa_cons (pv 8) (pa_cons (pv 2) (pa_cons (pe_op op_fdiv (pe_op op_sub (pv 3) pe_int) pe_int) pa_nil))))) pa_nil)))))))) pss_nil)
  (pss_cons (ps_set (i := 10) nd rfl (Or.inl rfl) (pe_call G__law_fits (hr.mono (by first | decide | omega)) (by rfl) D__law_fits.m D__law_fits.kp D__law_fits.b .nil pass0 (pa_cons (pv 2) (pa_cons (pv 1) pa_nil))))
  (pss_cons (ps_if (pt_cmpR (op_eqNil hr.units) (pv 10) (pe_lst pa_nil) (nomark _)) (pss_one (ps_ret (pe_call G__law_small (hr.mono (by first | decide | omega)) (by rfl) D__law_small.m D__law_small.kp D__law_small.b .nil pass0 (pa_cons (pv 0) (pa_cons (pv 1) (pa_cons (pv 2) pa_nil)))))) pss_nil)
  (pss_one (ps_ret (pe_call G__law_given (hr.mono (by first | decide | omega)) (by rfl) D__law_given.m D__law_given.kp D__law_given.b .nil pass0 (pa_cons (pv 0) (pa_cons (pe_ix ix_list (pv 10) (pe_call G__law_draw (hr.mono (by first | decide | omega)) (by rfl) D__law_draw.m D__law_draw.kp D__law_draw.b .nil pass0 (pa_cons (pv 0) (pa_cons (pe_callB call_len_seq (by rfl) B.b_len PySem.boot_len (pa_cons (pv 10) pa_nil)) pa_nil))) (fun _ _ => rfl)) (pa_cons (pv 2) (pa_cons (pv 3) pa_nil)))))))))))))), ?_⟩
    obtain ⟨hw, hts⟩ : ts.length ≤ 6 ∧ ∀ e ∈ ts, Ek e ∧ dep e ≤ 2 := by
      obtain ⟨_, e0, h1, h2⟩ := hk.inv
      cases e0
      exact ⟨h1, h2⟩
    have fin : ∀ (H1 : Hp), SB b H H1 → ∀ (z : V) (H' : Hp) (t : Tm), Rep K H' z (tmD t) → Ty env t (.tup ts) → ek t → hgt t ≤ ts.length + 1 → prt t ≤ ts.length + 1 → BoxAt H' b c → SB b H1 H' → Q z H' := fun H1 sb1 z H' t r1 r2 r3 h1 h2 hB' sb' => by
      have := hb_pos sz
      have := pb_pos sz
      exact q z H' t r1 r2 r3 (by omega) (by omega) hB' (sb1.trans sb')
    refine ⟨_, rfl, b, c, 10, rfl, hB, by decide, fun pk H1 hp0 hp1 hB1 sb1 => ?_⟩
    have rv1 := rv.mono (box_kx hB hB1 sb1)
    have hl1 := hl.sb hB hB1 sb1
    refine ⟨_, rfl, _, _, rfl, rfl, _, rfl, ite2 (fun _ => ?_) (fun z => ?_)⟩
    · exact ⟨_, rfl, _, rfl, _, rfl, b, c, v, l, ts, env, rfl, hB1, rv1, hk, by omega, hl1, henv, by omega, fin H1 sb1⟩
    have hs2 : 2 ≤ sz := by
      have := of_decide_eq_false (Bool.eq_false_iff.mpr z)
      omega
    refine nx_rest (fun σ' H' => ∃ (y5 y6 y7 y8 y9 y10 : Option V), σ' = [some (.ref b), some v, some l, some (.int sz), some (.int pk), y5, y6, y7, y8, y9, y10] ∧ BoxAt H' b c ∧ SB b H H' ∧ Rep K H' v (.tup ts) ∧ EnvAt K H' l env) (fun rest => ?_) ?_
    · obtain ⟨a, xs, rfl, hx, rx⟩ := rv1.inv
      refine ⟨_, rfl, (by show 0 ≤ sizeLine; decide), fun t nt => ?_⟩
      have s3 := same_new nt (.tup [])
      refine ⟨a, t, xs, rfl, rfl, (hx.same s3).sq, SqT.of upd_same, _, rfl, ?_⟩
      have hB3 := hB1.same s3
      have sb3 := sb1.trans (sb_same s3)
      have hx3 := hx.same s3
      have rx3 := rx.mono (kx_same s3)
      have hl3 := hl1.same s3
      generalize upd H1 t (.tup []) = H3 at *
      cases rx3 with
      | nil => exact iteF (rest _ _ ⟨_, _, _, _, _, _, rfl, hB3, sb3, .tup hx3 .nil, hl3⟩)
      | @cons x0 k0 xr tr r0 rr =>
        refine iteT ⟨_, rfl, _, _, rfl, rfl, _, rfl, ite2 (fun _ => ?_) (fun _ => rest _ _ ⟨_, _, _, _, _, _, rfl, hB3, sb3, .tup hx3 (.cons r0 rr), hl3⟩)⟩
        refine ⟨_, rfl, b, c, rfl, hB3, fun nm H4 hB4 sb4 => ?_⟩
        have k4 := box_kx hB3 hB4 sb4
        have hx4 := hx3.kx k4
        have r04 := r0.mono k4
        have rr4 := rr.mono k4
        have hl4 := hl3.sb hB3 hB4 sb4
        have e0 : (x0 :: xr)[0]? = some x0 := rfl
        refine ⟨_, rfl, _, rfl, a, _, 0, x0, rfl, rfl, hx4.sq, atI_nat (j := 0) e0, _, rfl, _, rfl, _, rfl, a, _, rfl, hx4, fun c1 H5 s5 hc1 => ?_⟩
        rw [show ((1 : Int)) = ((1 : Nat) : Int) from rfl, cutV_from] at hc1
        have hc1' : TupAt K H5 c1 xr := hc1
        have hx5 := hx4.same s5
        obtain ⟨la5, lxs, rfl, hla, rla⟩ := hl4.same s5
        refine ⟨_, rfl, _, rfl, _, rfl, a, _, 0, x0, rfl, rfl, hx5.sq, atI_nat (j := 0) e0, (by show 2 ≤ sizeLine; decide), fun t5 nt5 => ⟨(by show 1 ≤ sizeLine; decide), fun l6 nl6 => ?_⟩⟩
        have s6 := same_new nt5 (.tup [.str nm, x0])
        have s7 := same_new nl6 (.lst [.ref t5])
        have ht5 := s7 _ _ (upd_same (H := H5) (a := t5) (o := .tup [.str nm, x0]))
        have hl6 : (upd (upd H5 t5 (.tup [.str nm, x0])) l6 (.lst [.ref t5])) l6 = some (.lst [.ref t5]) := upd_same
        have s57 := s6.trans s7
        generalize upd (upd H5 t5 (.tup [.str nm, x0])) l6 (.lst [.ref t5]) = H7 at *
        have lla := rla.length
        rw [List.length_map, List.length_reverse] at lla
        refine ⟨la5, l6, lxs, _, rfl, rfl, s57 _ _ hla, hl6, small6' (by show lxs.length + 1 ≤ 1000000; omega), fun l7 nl7 => ?_⟩
        have s8 := same_new nl7 (.lst (lxs ++ [.ref t5]))
        have s48 := (s5.trans s57).trans s8
        have ek0 := (hts k0 (List.mem_cons_self ..)).1
        have ektr : Ek (.tup tr) := Ek.of (by have : tr.length + 1 ≤ 6 := hw; omega) fun e he => hts e (List.mem_cons_of_mem _ he)
        refine ⟨_, rfl, _, _, rfl, rfl, b, c, .ref c1, .ref l7, sz - 1, tr, (nm, k0) :: env, rfl, hB4.same s48, .tup (hc1'.same (s57.trans s8)) (rr4.mono (kx_same s48)), ektr, ⟨l7, _, rfl, upd_same, ?_⟩, fun pr hpr => ?_, by omega, by omega, by show env.length + 1 + n ≤ 900; omega, fun z H9 t9 rz tz ez hz pz hB9 sb9 => ?_⟩
        · rw [List.reverse_cons, List.map_append]
          exact (rla.mono (kx_same (s57.trans s8))).append (.one (.tup' (s8 _ _ ht5) (.cons (.at rfl) (.one (r04.mono (kx_same s48))))))
        · rcases List.mem_cons.mp hpr with e | h
          · rw [e]
            exact ek0
          · exact henv pr h
        refine ⟨(by show 4 ≤ sizeLine; decide), fun t10 nt10 => ?_⟩
        have s10 := same_new nt10 (.tup [.str "fun", .str nm, x0, z])
        have k9 := box_kx (hB4.same s48) hB9 sb9
        have m1 := hb_mono (s := sz - 1) (t := sz) (by omega) hs2
        have m2 := pb_sub (s := sz - 1) (t := sz) (by omega) hs2
        refine q _ _ (.fn nm k0 t9) (.tup' upd_same (.cons (.at rfl) (.cons (.at rfl) (.cons (((r04.mono (kx_same s48)).mono k9).mono (kx_same s10)) (.one (rz.mono (kx_same s10))))))) (.fn tz) ⟨ek0, ez⟩ (by show hgt t9 + 1 ≤ _; omega) (by show prt t9 + 1 ≤ _; omega) (hB9.same s10) ?_
        exact sb3.trans (sb4.trans ((sb_same s48).trans (sb9.trans (sb_same s10))))
    clear hB1 sb1 rv1 hl1
    rintro σ1 H1 ⟨y5, y6, y7, y8, y9, y10, rfl, hB1, sb1, rv1, hl1⟩
    refine seq_rest (fun σ' H' => ∃ (y5 y6 y7 y8 y9 y10 : Option V), σ' = [some (.ref b), some v, some l, some (.int sz), some (.int pk), y5, y6, y7, y8, y9, y10] ∧ BoxAt H' b c ∧ SB b H H' ∧ Rep K H' v (.tup ts) ∧ EnvAt K H' l env) (fun rest => ?_) ?_
    · obtain ⟨a, xs, rfl, hx, rx⟩ := rv1.inv
      refine ⟨_, rfl, (by show 0 ≤ sizeLine; decide), fun t nt => ?_⟩
      have s3 := same_new nt (.tup [])
      refine ⟨a, t, xs, rfl, rfl, (hx.same s3).sq, SqT.of upd_same, _, rfl, ?_⟩
      have hB3 := hB1.same s3
      have sb3 := sb1.trans (sb_same s3)
      have hx3 := hx.same s3
      have rx3 := rx.mono (kx_same s3)
      have hl3 := hl1.same s3
      generalize upd H1 t (.tup []) = H3 at *
      cases rx3 with
      | @cons x0 k0 xr tr r0 rr => exact iteF (rest _ _ ⟨_, _, _, _, _, _, rfl, hB3, sb3, .tup hx3 (.cons r0 rr), hl3⟩)
      | nil =>
        have e0 : SB b H H3 → ∀ y5 y6 y7 y8 y9 y10, _ := fun _ y5 y6 y7 y8 y9 y10 => rest [some (.ref b), some (.ref a), some l, some (.int sz), some (.int pk), y5, y6, y7, y8, y9, y10] H3 ⟨y5, y6, y7, y8, y9, y10, rfl, hB3, sb3, .tup hx3 .nil, hl3⟩
        refine iteT ⟨_, rfl, _, _, rfl, rfl, _, rfl, ite2 (fun _ => ⟨_, _, rfl, rfl, _, rfl, ite2 (fun _ => ⟨_, rfl, _, _, rfl, rfl, _, rfl, ite2 (fun z4 => ?_) (fun _ => e0 sb3 _ _ _ _ _ _)⟩) (fun _ => e0 sb3 _ _ _ _ _ _)⟩) (fun _ => ⟨_, rfl, iteF (e0 sb3 _ _ _ _ _ _)⟩)⟩
        have hs4 : 4 ≤ sz := by
          have := of_decide_eq_true z4
          omega
        have m1 := hb_mono (s := (sz - 1) / 3) (t := sz) (by omega) hs2
        have m2 := pb_third (t := sz) hs2
        refine ⟨_, rfl, (by show 0 ≤ sizeLine; decide), fun t1 n1 => ⟨_, rfl, _, rfl, _, _, rfl, rfl, _, _, rfl, rfl, ⟨(by show (0 : Int) < 3; decide), (by show (3 : Int) < 1073741824; decide)⟩, ?_⟩⟩
        have s4 := same_new n1 (.tup [])
        refine ⟨b, c, _, l, (sz - 1) / 3, [], env, rfl, hB3.same s4, .tup' upd_same .nil, hk, hl3.same s4, henv, by omega, by omega, by omega, fun z1 H5 g1 r1 ty1 ek1 hg1 pg1 hB5 sb5 => ?_⟩
        have w5 := sb3.trans ((sb_same s4).trans sb5)
        have l5 := (hl3.same s4).sb (hB3.same s4) hB5 sb5
        refine ⟨_, rfl, (by show 0 ≤ sizeLine; decide), fun t2 n2 => ⟨_, rfl, _, rfl, _, _, rfl, rfl, _, _, rfl, rfl, ⟨(by show (0 : Int) < 3; decide), (by show (3 : Int) < 1073741824; decide)⟩, ?_⟩⟩
        have s6 := same_new n2 (.tup [])
        refine ⟨b, c, _, l, (sz - 1) / 3, [], env, rfl, hB5.same s6, .tup' upd_same .nil, hk, l5.same s6, henv, by omega, by omega, by omega, fun z2 H7 g2 r2 ty2 ek2 hg2 pg2 hB7 sb7 => ?_⟩
        have w7 := w5.trans ((sb_same s6).trans sb7)
        have l7 := (l5.same s6).sb (hB5.same s6) hB7 sb7
        have r1' := (r1.mono (kx_same s6)).mono (box_kx (hB5.same s6) hB7 sb7)
        refine ⟨_, rfl, _, rfl, _, rfl, (by show 0 ≤ sizeLine; decide), fun t3 n3 => ⟨_, rfl, _, rfl, _, _, rfl, rfl, _, _, rfl, rfl, ⟨(by show (0 : Int) < 3; decide), (by show (3 : Int) < 1073741824; decide)⟩, ?_⟩⟩
        have s8 := same_new n3 (.tup [])
        refine ⟨b, c, _, l, (sz - 1) / 3, [], env, rfl, hB7.same s8, .tup' upd_same .nil, hk, l7.same s8, henv, by omega, by omega, by omega, fun z3 H9 g3 r3 ty3 ek3 hg3 pg3 hB9 sb9 => ?_⟩
        have w9 := w7.trans ((sb_same s8).trans sb9)
        have k9 := (kx_same s8).trans (box_kx (hB7.same s8) hB9 sb9)
        refine ⟨(by show 4 ≤ sizeLine; decide), fun t4 n4 => ?_⟩
        have s10 := same_new n4 (.tup [.str "if", z1, z2, z3])
        refine q _ _ (.iff g1 g2 g3) (.tup' upd_same (.cons (.at rfl) (.cons ((r1'.mono k9).mono (kx_same s10)) (.cons ((r2.mono k9).mono (kx_same s10)) (.one (r3.mono (kx_same s10))))))) (.iff ty1 ty2 ty3) ⟨ek1, ek2, ek3⟩ ?_ ?_ (hB9.same s10) (w9.trans (sb_same s10))
        · show max (hgt g1) (max (hgt g2) (hgt g3)) + 1 ≤ _
          omega
        · show prt g1 + prt g2 + prt g3 + 1 ≤ _
          omega
    clear hB1 sb1 rv1 hl1
    rintro σ1 H1 ⟨y5, y6, y7, y8, y9, y10, rfl, hB1, sb1, rv1, hl1⟩
    refine seq_rest (fun σ' H' => ∃ (y5 y6 y7 y8 y9 y10 : Option V), σ' = [some (.ref b), some v, some l, some (.int sz), some (.int pk), y5, y6, y7, y8, y9, y10] ∧ BoxAt H' b c ∧ SB b H H' ∧ Rep K H' v (.tup ts) ∧ EnvAt K H' l env) (fun rest => ?_) ?_
    · obtain ⟨a, xs, rfl, hx, rx⟩ := rv1.inv
      have lx := rx.length
      have e0 : ∀ y5 y6 y7 y8 y9 y10, _ := fun y5 y6 y7 y8 y9 y10 => rest [some (.ref b), some (.ref a), some l, some (.int sz), some (.int pk), y5, y6, y7, y8, y9, y10] H1 ⟨y5, y6, y7, y8, y9, y10, rfl, hB1, sb1, .tup hx rx, hl1⟩
      refine ⟨_, rfl, _, _, rfl, rfl, _, rfl, ite2 (fun _ => ⟨_, rfl, a, xs, rfl, .inr hx.sq, _, _, rfl, rfl, _, rfl, ite2 (fun z2 => ?_) (fun _ => e0 _ _ _ _ _ _)⟩) (fun _ => e0 _ _ _ _ _ _)⟩
      have hl2 : ts.length ≤ 2 := by
        have := of_decide_eq_true z2
        omega
      have m0 := hb_mono (s := (sz - 1) * 2 / 3) (t := sz) (by omega) hs2
      have m1 := hb_mono (s := (sz - 1) / 3) (t := sz) (by omega) hs2
      have m2 := pb_two (t := sz) hs2
      refine seq_rest (fun σ' H' => ∃ (p : V) (us : List D) (y5 y6 y7 y9 y10 : Option V), σ' = [some (.ref b), some (.ref a), some l, some (.int sz), some (.int pk), y5, y6, y7, some p, y9, y10] ∧ BoxAt H' b c ∧ SB b H H' ∧ TupAt K H' a xs ∧ Reps K H' xs ts ∧ EnvAt K H' l env ∧ Rep K H' p (.tup us) ∧ Ek (.tup us) ∧ dep (.tup us) ≤ 2) (fun rest2 => ?_) ?_
      · refine ⟨(by show 0 ≤ sizeLine; decide), fun t1 n1 => ⟨(by show 0 ≤ sizeLine; decide), fun t2 n2 => ⟨(by show 0 ≤ sizeLine; decide), fun t3 n3 => ⟨(by show 1 ≤ sizeLine; decide), fun t4 n4 => ⟨(by show 0 ≤ sizeLine; decide), fun t5 n5 => ⟨(by show 1 ≤ sizeLine; decide), fun t6 n6 =>
          ⟨(by show 0 ≤ sizeLine; decide), fun t7 n7 => ⟨(by show 0 ≤ sizeLine; decide), fun t8 n8 => ⟨(by show 2 ≤ sizeLine; decide), fun t9 n9 => ⟨(by show 0 ≤ sizeLine; decide), fun ta na => ⟨(by show 1 ≤ sizeLine; decide), fun tb nb => ⟨(by show 1 ≤ sizeLine; decide), fun tc nc => ⟨(by show 6 ≤ sizeLine; decide), fun m nm => ?_⟩⟩⟩⟩⟩⟩⟩⟩⟩⟩⟩⟩⟩
        have um := same_new nm (.lst [.ref t1, .ref t2, .ref t4, .ref t6, .ref t9, .ref tc])
        have uc := (same_new nc _).trans um
        have ub := (same_new nb _).trans uc
        have ua := (same_new na _).trans ub
        have u9 := (same_new n9 _).trans ua
        have u8 := (same_new n8 _).trans u9
        have u7 := (same_new n7 _).trans u8
        have u6 := (same_new n6 _).trans u7
        have u5 := (same_new n5 _).trans u6
        have u4 := (same_new n4 _).trans u5
        have u3 := (same_new n3 _).trans u4
        have u2 := (same_new n2 _).trans u3
        have u1 := (same_new n1 _).trans u2
        have RM := part_reps (K := K) (u2 _ _ upd_same) (u3 _ _ upd_same) (u4 _ _ upd_same) (u5 _ _ upd_same) (u6 _ _ upd_same) (u7 _ _ upd_same) (u8 _ _ upd_same) (u9 _ _ upd_same) (ua _ _ upd_same) (ub _ _ upd_same) (uc _ _ upd_same) (um _ _ upd_same)
        have nmb : m ≠ b := by
          obtain ⟨bs, hbs⟩ := (hB1.same ((same_new n1 _).trans ((same_new n2 _).trans ((same_new n3 _).trans ((same_new n4 _).trans ((same_new n5 _).trans ((same_new n6 _).trans ((same_new n7 _).trans ((same_new n8 _).trans ((same_new n9 _).trans ((same_new na _).trans ((same_new nb _).trans (same_new nc _))))))))))))).lst
          exact (ne_of_none hbs nm).symm
        refine ⟨_, rfl, b, c, 6, rfl, hB1.same u1, by decide, fun r H8 hr0 hr6 hB8 sb8 => ?_⟩
        obtain ⟨y, e, i, hy, he, re⟩ := pickT RM hr0 hr6
        obtain ⟨us, rfl, eu, du⟩ := part_ok he
        have k8 := (kx_same u1).trans (box_kx (hB1.same u1) hB8 sb8)
        refine ⟨m, _, _, y, rfl, rfl, SqL.of (sb8 _ _ nmb upd_same), hy, ?_⟩
        exact rest2 _ _ ⟨y, us, _, _, _, _, _, rfl, hB8, sb1.trans ((sb_same u1).trans sb8), hx.kx k8, rx.mono k8, (hl1.same u1).sb (hB1.same u1) hB8 sb8, re.mono (box_kx (hB1.same u1) hB8 sb8), eu, du⟩
      rintro σ2 H2 ⟨p, us, y5, y6, y7, y9, y10, rfl, hB2, sb2, hx2, rx2, hl2', rp2, eu, du⟩
      refine ⟨_, rfl, _, rfl, (by show 1 ≤ sizeLine; decide), fun t1 n1 => ?_⟩
      have s3 := same_new n1 (.tup [p])
      refine ⟨_, rfl, t1, a, _, _, rfl, rfl, .inl upd_same, hx2.same s3, small6' (by show 1 + xs.length ≤ 1000000; omega), fun c2 H4 s4 hc2 => ?_⟩
      have hc2' : TupAt K H4 c2 ([p] ++ xs) := hc2
      have s34 := s3.trans s4
      have rc2 : Rep K H4 (.ref c2) (.tup (.tup us :: ts)) := .tup hc2' (.cons (rp2.mono (kx_same s34)) (rx2.mono (kx_same s34)))
      have ekf : Ek (.tup (.tup us :: ts)) := Ek.of (by show ts.length + 1 ≤ 6; omega) fun e he => (List.mem_cons.mp he).elim (fun h => h ▸ ⟨eu, du⟩) (hts e)
      refine ⟨_, rfl, _, rfl, _, _, rfl, rfl, _, _, rfl, rfl, .inr ⟨(by show -(2 ^ 64) < (2 : Int); decide), (by show (2 : Int) < 2 ^ 64; decide)⟩, _, _, rfl, rfl, ⟨(by show (0 : Int) < 3; decide), (by show (3 : Int) < 1073741824; decide)⟩, ?_⟩
      refine ⟨b, c, _, l, (sz - 1) * 2 / 3, _, env, rfl, hB2.same s34, rc2, ekf, hl2'.same s34, henv, by omega, by omega, by omega, fun z1 H5 g1 r1 ty1 ek1 hg1 pg1 hB5 sb5 => ?_⟩
      have k5 := (kx_same s34).trans (box_kx (hB2.same s34) hB5 sb5)
      refine ⟨_, rfl, _, rfl, _, rfl, _, rfl, _, rfl, _, _, rfl, rfl, _, _, rfl, rfl, ⟨(by show (0 : Int) < 3; decide), (by show (3 : Int) < 1073741824; decide)⟩, ?_⟩
      refine ⟨b, c, p, l, (sz - 1) / 3, us, env, rfl, hB5, rp2.mono k5, eu, (hl2'.same s34).sb (hB2.same s34) hB5 sb5, henv, by omega, by omega, by omega, fun z2 H6 g2 r2 ty2 ek2 hg2 pg2 hB6 sb6 => ?_⟩
      have k6 := box_kx hB5 hB6 sb6
      refine ⟨(by show 3 ≤ sizeLine; decide), fun t4 n4 => ?_⟩
      have s7 := same_new n4 (.tup [.str "apply", z1, z2])
      refine q _ _ (.ap g1 g2) (.tup' upd_same (.cons (.at rfl) (.cons ((r1.mono k6).mono (kx_same s7)) (.one (r2.mono (kx_same s7)))))) (.ap ty1 ty2) ⟨ek1, ek2⟩ ?_ ?_ (hB6.same s7) (sb2.trans ((sb_same s34).trans (sb5.trans (sb6.trans (sb_same s7)))))
      · show max (hgt g1) (hgt g2) + 1 ≤ _
        omega
      · show prt g1 + prt g2 + 1 ≤ _
        omega
    clear hB1 sb1 rv1 hl1
    rintro σ1 H1 ⟨y5, y6, y7, y8, y9, y10, rfl, hB1, sb1, rv1, hl1⟩
    refine ⟨_, rfl, _, rfl, l, v, env, ts, rfl, hl1, henv, by omega, rv1, hk, fun r H2 xs rows s2 nr hr2 rx2 hrl hfit => ?_⟩
    have lx := rx2.length
    rw [List.length_map] at lx
    have hrb : r ≠ b := by
      obtain ⟨bs, hbs⟩ := hB1.lst
      exact (ne_of_none hbs nr).symm
    refine ⟨_, rfl, (by show 0 ≤ sizeLine; decide), fun t nt => ?_⟩
    have s3 := same_new nt (.lst [])
    have s23 := s2.trans s3
    refine ⟨r, t, xs, rfl, rfl, SqL.of (s3 _ _ hr2), SqL.of upd_same, _, rfl, ?_⟩
    have hr3 := s3 _ _ hr2
    have rx3 := rx2.mono (kx_same s3)
    have hB3 := hB1.same s23
    have rv3 := rv1.mono (kx_same s23)
    have hl3 := hl1.same s23
    have sb3 := sb1.trans (sb_same s23)
    generalize upd H2 t (.lst []) = H3 at *
    cases hxe : xs.isEmpty with
    | true => exact iteT ⟨_, rfl, _, rfl, _, rfl, b, c, v, l, ts, env, rfl, hB3, rv3, hk, by omega, hl3, henv, by omega, fin H3 sb3⟩
    | false =>
      refine iteF ?_
      have hpos : 0 < xs.length := by
        cases xs with
        | nil => cases hxe
        | cons _ _ => exact Nat.succ_pos _
      refine ⟨_, rfl, _, rfl, _, rfl, _, rfl, r, xs, rfl, .inl (SqL.of hr3), b, c, _, rfl, hB3, by omega, fun j H4 hj0 hj1 hB4 sb4 => ?_⟩
      have k4 := box_kx hB3 hB4 sb4
      obtain ⟨y, e, i, hy, he, re⟩ := pickT rx3 hj0 hj1
      rw [List.getElem?_map] at he
      obtain ⟨pr, hpr, rfl⟩ := Option.map_eq_some_iff.mp he
      refine ⟨r, xs, _, _, rfl, rfl, SqL.of (sb4 _ _ hrb hr3), hy, _, rfl, _, rfl, b, c, y, l, sz, pr, ts, env, rfl, hB4, re.mono k4, hfit pr (List.mem_of_getElem? hpr), hl3.sb hB3 hB4 sb4, henv, hs2, by omega, by omega, fun z H' t2 r1 r2 r3 h1 h2 hB' sb' => ?_⟩
      exact q z H' t2 r1 r2 r3 h1 h2 hB' (sb3.trans (sb4.trans sb'))
end
end Pk

set_option maxRecDepth 100000
set_option maxHeartbeats 4000000
namespace Pk
open PySem PySem.Spec PyProof.Rows L2
/-! ### _law_joined_kind, _law_checked -/
def args (d : D) : List D := match d with
  | .tup ts => ts
  | _ => []
/-- what a term is told: its kind (the kinds of its arguments), or a path and a reason -/
inductive Rs where
  | ok (k : List D)
  | bad (p : List Nat) (r : Str)
def joinAp (p : List Nat) (x y : List D) : Rs := match x with
  | [] => .bad p "no function"
  | k :: r => if PyData.eqv (toPy k) (toPy (.tup y)) = true then .ok r else .bad p "other argument"
def joinIf (p : List Nat) : Nat → List (List D) → Rs
  | _, [] => .ok []
  | i, [] :: r => joinIf p (i + 1) r
  | i, (_ :: _) :: _ => .bad (p ++ [i]) "no answer"
def chk : List (Str × D) → List Nat → Tm → Rs
  | env, p, .nm s => match look env s with
    | some d => .ok (args d)
    | none => .bad p "unknown name"
  | env, p, .fn s k b => match chk ((s, k) :: env) (p ++ [0]) b with
    | .ok r => .ok (k :: r)
    | .bad q r => .bad q r
  | env, p, .ap f a => match chk env (p ++ [0]) f with
    | .bad q r => .bad q r
    | .ok x => match chk env (p ++ [1]) a with
      | .bad q r => .bad q r
      | .ok y => joinAp p x y
  | env, p, .iff a b c => match chk env (p ++ [0]) a with
    | .bad q r => .bad q r
    | .ok x => match chk env (p ++ [1]) b with
      | .bad q r => .bad q r
      | .ok y => match chk env (p ++ [2]) c with
        | .bad q r => .bad q r
        | .ok z => joinIf p 0 [x, y, z]
  | _, _, .an _ => .ok []
  | _, _, .st => .ok []
def pathD (p : List Nat) : D := .tup (p.map fun n => .at (.int (n : Nat)))
def resD : Rs → D
  | .ok k => .tup [.at (.str "kind"), .tup k]
  | .bad p r => .tup [.at (.str "fault"), pathD p, .at (.str r)]
/-- the kinds that are told -/
def Rk (n : Nat) (ts : List D) : Prop := (∀ e ∈ ts, Ek e) ∧ ts.length ≤ n
theorem Rk.k {n : Nat} {ts : List D} (h : Rk n ts) : isK (.tup ts) = true := isKs_of fun d hd => (h.1 d hd).k
theorem Rk.dp {n : Nat} {ts : List D} (h : Rk n ts) : dep (.tup ts) ≤ 4 := deps_le' fun d hd => by have := (h.1 d hd).dp; omega
theorem Rk.sh {n : Nat} {ts : List D} (h : Rk n ts) : SeqAt.shaped (toPy (.tup ts)) = true := shaped_kind h.k (by have := h.dp; omega)
section
variable {P : Program} {w : World} {K : PySem.W.Frag} {mg : Str → Option Value} {base : Heap}
theorem path_snoc {H H' : Hp} {a c t : Addr} {xs : List V} {p : List Nat} {j : Nat} {v : V} (hv : v = .int (j : Nat)) (hc : TupAt K H' c (xs ++ [v])) (rx : Reps K H xs (p.map fun n => D.at (.int (n : Nat)))) (s : Same H H') : Rep K H' (.ref c) (pathD (p ++ [j])) := by
  subst hv
  unfold pathD
  rw [List.map_append]
  exact .tup hc ((rx.mono (kx_same s)).append (.one (.at rfl)))
def spJoin (K : PySem.W.Frag) : Sp := fun vs H Q _ => ∃ (wd : Str) (l : Addr) (ks : List V) (vp : V) (kss : List (List D)) (p : List Nat) (n : Nat), vs = [.str wd, .ref l, vp] ∧ H l = some (.lst ks) ∧ Reps K H ks (kss.map D.tup) ∧ Rep K H vp (pathD p) ∧ (∀ k ∈ kss, Rk n k) ∧ n ≤ 900000 ∧ p.length ≤ 900000 ∧
  ((wd = "if" ∧ kss.length = 3 ∧ ∀ (z : V) (H' : Hp), Same H H' → Rep K H' z (resD (joinIf p 0 kss)) → Q z H') ∨
   (wd ≠ "if" ∧ ∃ x y, kss = [x, y] ∧ ∀ (z : V) (H' : Hp), Same H H' → Rep K H' z (resD (joinAp p x y)) → Q z H'))
theorem ok_join {f : Addr} {fd : FuncData} (D__law_joined_kind : Df K mg "_law_joined_kind" s__law_joined_kind ["word", "found", "path"] f fd) (B : Bt mg) : FnOk P w K mg base CX0 1 f fd ["word", "found", "path"] (spJoin K) := by
  refine D__law_joined_kind.ok c__law_joined_kind (fun vs H Q E h => ?_) (fun cdv A outer s H vs Q E hr h => ?_)
  · obtain ⟨wd, l, ks, vp, kss, p, n, rfl, _⟩ := h
    rfl
  obtain ⟨wd, l, ks, vp, kss, p, n, rfl, hl, rk, rp, hR, hn, hpl, h⟩ := h
  have nd := c__law_joined_kind.nd
  refine ⟨_, (pss_cons (ps_if (pt_cmpR op_eq (pv 0) pe_str (nomark _)) (pss_cons (ps_for PassesOwn.never rfl (pi_range1 (by rfl) B.b_range (pa_cons pe_int pa_nil)) (pg_name (i := 3) nd rfl (Or.inl rfl)) (pss_one (ps_if (pt_cmpR (op_neNilT hr.units) (pe_ix ix_list (pv 1) (pv 3) (fun _ _ => rfl)) (pe_tup pa_nil) (nomark _)) (pss_one (ps_ret (pe_tup (pa_cons pe_str (pa_cons (pe_op op_catP (pv 2) (pe_tup (pa_cons (pv 3) pa_nil))) (pa_cons pe_str pa_nil)))))) pss_nil)))
  (pss_one (ps_ret (pe_tup (pa_cons pe_str (pa_cons (pe_tup pa_nil) pa_nil)))))) pss_nil)
  (pss_cons (ps_if (pt_cmpR (op_eqNilT hr.units) (pe_ix ix_list (pv 1) pe_int (fun _ _ => rfl)) (pe_tup pa_nil) (nomark _)) (pss_one (ps_ret (pe_tup (pa_cons pe_str (pa_cons (pv 2) (pa_cons pe_str pa_nil)))))) pss_nil)
  (pss_cons (ps_if (pt_cmpR (op_neD hr.units) (pe_ix ix_tup (pe_ix ix_list (pv 1) pe_int (fun _ _ => rfl)) pe_int (fun _ _ => rfl)) (pe_ix ix_list (pv 1) pe_int (fun _ _ => rfl)) (nomark _)) (pss_one (ps_ret (pe_tup (pa_cons pe_str (pa_cons (pv 2) (pa_cons pe_str pa_nil)))))) pss_nil)
  (pss_one (ps_ret (pe_tup (pa_cons pe_str (pa_cons (pe_slice sl_tupP (pe_ix ix_list (pv 1) pe_int (fun _ _ => rfl)) (po_some pe_int) po_none) pa_nil)))))))), ?_⟩
  have lk := rk.length
  rw [List.length_map] at lk
  obtain ⟨pa, pxs, rfl, hpa, rpa⟩ := Rep.inv (ts := p.map fun n => D.at (.int (n : Nat))) rp
  have lpa := rpa.length
  rw [List.length_map] at lpa
  rcases h with ⟨rfl, h3, q⟩ | ⟨hwd, x, y, rfl, q⟩
  · refine ⟨_, rfl, rfl, _, rfl, iteT ⟨3, rfl, by decide, by decide, ?_⟩⟩
    refine for_range (n := 3) (fun j σ H' => ∃ (y3 : Option V), σ = [some (.str "if"), some (.ref l), some (.ref pa), y3] ∧ Same H H' ∧ joinIf p 0 kss = joinIf p j (kss.drop j))
      ⟨none, rfl, Same.refl _, rfl⟩ ?_ ?_
    · rintro j σ H1 hj ⟨y3, rfl, s1, hj0⟩
      have hjk : j < ks.length := by omega
      have hjs : j < kss.length := by omega
      obtain ⟨d, hd, rd⟩ := rk.get (List.getElem?_eq_getElem hjk)
      rw [List.getElem?_map] at hd
      obtain ⟨k, hk, rfl⟩ := Option.map_eq_some_iff.mp hd
      obtain ⟨a, xs, ea, ha, ra⟩ := rd.inv
      have la := ra.length
      have hat : atI ks ((0 : Int) + (j : Nat)) = some (.ref a) := by
        rw [show (0 : Int) + (j : Nat) = ((j : Nat) : Int) by omega, atI_nat (List.getElem?_eq_getElem hjk), ea]
      have hdr : kss.drop j = k :: kss.drop (j + 1) := by
        rw [List.drop_eq_getElem_cons hjs]
        rw [List.getElem?_eq_getElem hjs] at hk
        rw [Option.some.inj hk]
      rw [hdr] at hj0
      refine ⟨_, rfl, _, rfl, l, ks, _, _, rfl, rfl, SqL.of (s1 _ _ hl), hat, (by show 0 ≤ sizeLine; decide), fun t nt => ?_⟩
      have s2 := same_new nt (.tup [])
      have s12 := s1.trans s2
      refine ⟨a, t, xs, rfl, rfl, (ha.same s12).sq, SqT.of upd_same, _, rfl, ?_⟩
      generalize upd H1 t (.tup []) = H2 at *
      cases hxe : xs.isEmpty with
      | true =>
        have : k = [] := by
          cases xs with
          | nil => exact List.length_eq_zero_iff.mp la.symm
          | cons _ _ => cases hxe
        subst this
        exact iteF ⟨_, rfl, s12, hj0⟩
      | false =>
        have hk0 : ∃ k0 kr, k = k0 :: kr := by
          cases k with
          | cons k0 kr => exact ⟨k0, kr, rfl⟩
          | nil =>
            cases xs with
            | nil => cases hxe
            | cons _ _ => cases la
        obtain ⟨k0, kr, rfl⟩ := hk0
        refine iteT ⟨_, rfl, _, rfl, (by show 1 ≤ sizeLine; decide), fun t3 n3 => ?_⟩
        have s3 := same_new n3 (.tup [.int ((0 : Int) + (j : Nat))])
        refine ⟨pa, t3, _, _, rfl, rfl, (hpa.same s12).same s3, .inl upd_same, small6' (by show pxs.length + 1 ≤ 1000000; omega), fun c H4 s4 hc => ⟨(by show 3 ≤ sizeLine; decide), fun t5 n5 => ?_⟩⟩
        have hc' : TupAt K H4 c (pxs ++ [.int ((0 : Int) + (j : Nat))]) := hc
        have s14 := s12.trans (s3.trans s4)
        have rc := path_snoc (a := a) (t := t) (by rw [show (0 : Int) + (j : Nat) = ((j : Nat) : Int) by omega]) hc' rpa s14
        have s5 := same_new n5 (.tup [.str "fault", .ref c, .str "no answer"])
        rw [hj0] at q
        exact q _ _ (s14.trans s5) (.tup' upd_same (.cons (.at rfl) (.cons (rc.mono (kx_same s5)) (.one (.at rfl)))))
    · rintro σ H1 ⟨y3, rfl, s1, hj0⟩
      refine ⟨(by show 0 ≤ sizeLine; decide), fun t1 n1 => ⟨(by show 2 ≤ sizeLine; decide), fun t2 n2 => ?_⟩⟩
      have s2 := same_new n2 (.tup [.str "kind", .ref t1])
      have e : kss.drop 3 = [] := List.drop_eq_nil_of_le (by omega)
      rw [hj0, e] at q
      exact q _ _ (s1.trans ((same_new n1 _).trans s2)) (.tup' upd_same (.cons (.at rfl) (.one (.tup' (s2 _ _ upd_same) .nil))))
  · refine ⟨_, rfl, rfl, _, rfl, ?_⟩
    rw [show decide (V.str wd = V.str "if") = false from decide_eq_false fun e => hwd (V.str.inj e)]
    refine iteF ?_
    cases rk with
    | @cons v0 _ kr _ r0 rk =>
    cases rk with
    | @cons v1 _ kr2 _ r1 rk =>
    cases rk
    have hat0 : atI [v0, v1] (0 : Int) = some v0 := rfl
    have hat1 : atI [v0, v1] (1 : Int) = some v1 := atI_nat (j := 1) rfl
    obtain ⟨a, xs, rfl, ha, ra⟩ := r0.inv
    have la := ra.length
    refine ⟨_, rfl, l, _, 0, _, rfl, rfl, SqL.of hl, hat0, (by show 0 ≤ sizeLine; decide), fun t nt => ?_⟩
    have s1 := same_new nt (.tup [])
    refine ⟨a, t, xs, rfl, rfl, (ha.same s1).sq, SqT.of upd_same, _, rfl, ?_⟩
    have hl1 := s1 _ _ hl
    generalize upd H t (.tup []) = H1 at *
    cases ra with
    | nil =>
      refine iteT ⟨_, rfl, (by show 3 ≤ sizeLine; decide), fun t5 n5 => ?_⟩
      have s5 := same_new n5 (.tup [.str "fault", .ref pa, .str "no function"])
      exact q _ _ (s1.trans s5) (.tup' upd_same (.cons (.at rfl) (.cons (rp.mono (kx_same (s1.trans s5))) (.one (.at rfl)))))
    | @cons x0 k0 xr kr r0' rr =>
      refine iteF ?_
      have hRx := hR _ (List.mem_cons_self ..)
      have hRy := hR y (List.mem_cons_of_mem _ (List.mem_cons_self ..))
      have ek0 := hRx.1 k0 (List.mem_cons_self ..)
      have e0 : (x0 :: xr)[0]? = some x0 := rfl
      refine ⟨_, rfl, l, _, 0, _, rfl, rfl, SqL.of hl1, hat0, a, _, 0, x0, rfl, rfl, (ha.same s1).sq, atI_nat (j := 0) e0, _, rfl, l, _, 1, _, rfl, rfl, SqL.of hl1, hat1, toPy k0, toPy (.tup y), dp_kind (r0'.mono (kx_same s1)) ek0.k, dp_kind (r1.mono (kx_same s1)) hRy.k, shaped_kind ek0.k (by have := ek0.dp; omega), hRy.sh, _, rfl, ?_⟩
      have ej : joinAp p (k0 :: kr) y = if PyData.eqv (toPy k0) (toPy (.tup y)) = true then .ok kr else .bad p "other argument" := rfl
      cases he : PyData.eqv (toPy k0) (toPy (.tup y)) with
      | false =>
        rw [ej, he] at q
        refine iteT ⟨_, rfl, (by show 3 ≤ sizeLine; decide), fun t5 n5 => ?_⟩
        have s5 := same_new n5 (.tup [.str "fault", .ref pa, .str "other argument"])
        exact q _ _ (s1.trans s5) (.tup' upd_same (.cons (.at rfl) (.cons (rp.mono (kx_same (s1.trans s5))) (.one (.at rfl)))))
      | true =>
        rw [ej, he] at q
        refine iteF ⟨_, rfl, l, _, 0, _, rfl, rfl, SqL.of hl1, hat0, _, rfl, a, _, rfl, ha.same s1, fun c1 H5 s5 hc1 => ?_⟩
        rw [show ((1 : Int)) = ((1 : Nat) : Int) from rfl, cutV_from] at hc1
        have hc1' : TupAt K H5 c1 xr := hc1
        refine ⟨(by show 2 ≤ sizeLine; decide), fun t6 n6 => ?_⟩
        have s6 := same_new n6 (.tup [.str "kind", .ref c1])
        exact q _ _ (s1.trans (s5.trans s6)) (.tup' upd_same (.cons (.at rfl) (.one (.tup (hc1'.same s6) (rr.mono (kx_same (s1.trans (s5.trans s6))))))))
end
end Pk

set_option maxRecDepth 100000
set_option maxHeartbeats 4000000
namespace Pk
open PySem PySem.Spec PyProof.Rows L2
/-! ### _law_checked -/
theorem chk_rk : ∀ (t : Tm) (env : List (Str × D)) (p : List Nat) (k : List D), ek t → (∀ pr ∈ env, Ek pr.2) → chk env p t = .ok k → Rk (prt t + 6) k
  | .nm s, env, p, k, _, he, h => by
    have h' : (match look env s with
      | some d => Rs.ok (args d)
      | none => .bad p "unknown name") = .ok k := h
    have key : ∀ d, look env s = some d → ∃ pr ∈ env, pr.2 = d := by
      intro d
      clear h h' he
      induction env with
      | nil => intro e; cases e
      | cons a r ih =>
        intro e
        obtain ⟨n, x⟩ := a
        by_cases hn : n = s
        · have e' : some x = some d := by rw [← e]; exact (if_pos hn).symm
          exact ⟨(n, x), List.mem_cons_self .., Option.some.inj e'⟩
        · have e' : look r s = some d := by rw [← e]; exact (if_neg hn).symm
          obtain ⟨pr, h1, h2⟩ := ih e'
          exact ⟨pr, List.mem_cons_of_mem _ h1, h2⟩
    cases hl : look env s with
    | none =>
      rw [hl] at h'
      cases h'
    | some d =>
      rw [hl] at h'
      obtain ⟨pr, hm, rfl⟩ := key d hl
      obtain ⟨ts, e, hw, hts⟩ := (he pr hm).inv
      rw [e] at h'
      have e2 : ts = k := Rs.ok.inj h'
      subst e2
      exact ⟨fun d hd => (hts d hd).1, by show ts.length ≤ 1 + 6; omega⟩
  | .fn s kd b, env, p, k, hk, he, h => by
    have h' : (match chk ((s, kd) :: env) (p ++ [0]) b with
      | .ok r => Rs.ok (kd :: r)
      | .bad q r => .bad q r) = .ok k := h
    cases hb : chk ((s, kd) :: env) (p ++ [0]) b with
    | bad q r =>
      rw [hb] at h'
      cases h'
    | ok r =>
      rw [hb] at h'
      have e2 : kd :: r = k := Rs.ok.inj h'
      subst e2
      have ih := chk_rk b _ _ r hk.2 (fun pr hpr => (List.mem_cons.mp hpr).elim (fun e => e ▸ hk.1) (he pr)) hb
      refine ⟨fun d hd => (List.mem_cons.mp hd).elim (fun e => e ▸ hk.1) (ih.1 d), ?_⟩
      have := ih.2
      show r.length + 1 ≤ prt b + 1 + 6
      omega
  | .ap f a, env, p, k, hk, he, h => by
    have h' : (match chk env (p ++ [0]) f with
      | .bad q r => Rs.bad q r
      | .ok x => match chk env (p ++ [1]) a with
        | .bad q r => .bad q r
        | .ok y => joinAp p x y) = .ok k := h
    cases hf : chk env (p ++ [0]) f with
    | bad q r =>
      rw [hf] at h'
      cases h'
    | ok x =>
      rw [hf] at h'
      have h2 : (match chk env (p ++ [1]) a with
        | .bad q r => Rs.bad q r
        | .ok y => joinAp p x y) = .ok k := h'
      cases ha : chk env (p ++ [1]) a with
      | bad q r =>
        rw [ha] at h2
        cases h2
      | ok y =>
        rw [ha] at h2
        have h3 : joinAp p x y = .ok k := h2
        have ih := chk_rk f _ _ x hk.1 he hf
        cases x with
        | nil => cases h3
        | cons k0 r =>
          have h4 : (if PyData.eqv (toPy k0) (toPy (.tup y)) = true then Rs.ok r else .bad p "other argument") = .ok k := h3
          split at h4
          · have e2 : r = k := Rs.ok.inj h4
            subst e2
            refine ⟨fun d hd => ih.1 d (List.mem_cons_of_mem _ hd), ?_⟩
            have : r.length + 1 ≤ prt f + 6 := ih.2
            show r.length ≤ prt f + prt a + 1 + 6
            omega
          · cases h4
  | .iff a b c, env, p, k, hk, he, h => by
    have nil : ∀ (l : List (List D)) (i : Nat), joinIf p i l = .ok k → k = [] := by
      intro l
      induction l with
      | nil => intro i e; exact (Rs.ok.inj e).symm
      | cons x r ih =>
        intro i e
        cases x with
        | nil => exact ih (i + 1) e
        | cons _ _ => cases e
    have e0 : k = [] := by
      have h' : (match chk env (p ++ [0]) a with
        | .bad q r => Rs.bad q r
        | .ok x => match chk env (p ++ [1]) b with
          | .bad q r => .bad q r
          | .ok y => match chk env (p ++ [2]) c with
            | .bad q r => .bad q r
            | .ok z => joinIf p 0 [x, y, z]) = .ok k := h
      split at h'
      · cases h'
      · split at h'
        · cases h'
        · split at h'
          · cases h'
          · exact nil _ _ h'
    subst e0
    exact ⟨fun d hd => (by cases hd), Nat.zero_le _⟩
  | .an _, _, _, k, _, _, h => by
    have e : ([] : List D) = k := Rs.ok.inj h
    subst e
    exact ⟨fun d hd => (by cases hd), Nat.zero_le _⟩
  | .st, _, _, k, _, _, h => by
    have e : ([] : List D) = k := Rs.ok.inj h
    subst e
    exact ⟨fun d hd => (by cases hd), Nat.zero_le _⟩
/-- apply, if: the parts, and what is told of them -/
structure Parts (t : Tm) (wd : Str) (cs : List Tm) : Prop where
  d : tmD t = .tup (.at (.str wd) :: cs.map tmD)
  w : (wd = "apply" ∧ cs.length = 2) ∨ (wd = "if" ∧ cs.length = 3)
  sub : ∀ c ∈ cs, hgt c < hgt t ∧ prt c < prt t ∧ (ek t → ek c)
  bad : ∀ (env : List (Str × D)) (p q : List Nat) (s : Str) (j : Nat) (c : Tm), cs[j]? = some c → (∀ i c, i < j → cs[i]? = some c → ∃ k, chk env (p ++ [i]) c = .ok k) → chk env (p ++ [j]) c = .bad q s → chk env p t = .bad q s
  good : ∀ (env : List (Str × D)) (p : List Nat) (kss : List (List D)), kss.length = cs.length → (∀ i c, cs[i]? = some c → ∃ k, kss[i]? = some k ∧ chk env (p ++ [i]) c = .ok k) →
    (wd = "if" ∧ chk env p t = joinIf p 0 kss) ∨ (wd = "apply" ∧ ∃ x y, kss = [x, y] ∧ chk env p t = joinAp p x y)
theorem parts_ap (f a : Tm) : Parts (.ap f a) "apply" [f, a] := by
  refine ⟨rfl, .inl ⟨rfl, rfl⟩, ?_, ?_, ?_⟩
  · intro c hc
    simp only [List.mem_cons, List.not_mem_nil, or_false] at hc
    rcases hc with rfl | rfl
    · exact ⟨by show hgt c < max (hgt c) (hgt a) + 1; omega, by show prt c < prt c + prt a + 1; omega, fun h => h.1⟩
    · exact ⟨by show hgt c < max (hgt f) (hgt c) + 1; omega, by show prt c < prt f + prt c + 1; omega, fun h => h.2⟩
  · intro env p q s j c hj hi hb
    match j, hj with
    | 0, hj =>
      cases hj
      show (match chk env (p ++ [0]) f with
        | .bad q r => Rs.bad q r
        | .ok x => _) = _
      rw [hb]
    | 1, hj =>
      cases hj
      obtain ⟨k, hk⟩ := hi 0 f (by omega) rfl
      show (match chk env (p ++ [0]) f with
        | .bad q r => Rs.bad q r
        | .ok x => match chk env (p ++ [1]) a with
          | .bad q r => .bad q r
          | .ok y => joinAp p x y) = _
      rw [hk]
      show (match chk env (p ++ [1]) a with
          | .bad q r => Rs.bad q r
          | .ok y => joinAp p k y) = _
      rw [hb]
    | j + 2, hj => simp at hj
  · intro env p kss hl h
    obtain ⟨k0, e0, h0⟩ := h 0 f rfl
    obtain ⟨k1, e1, h1⟩ := h 1 a rfl
    match kss, hl, e0, e1 with
    | [x, y], _, e0, e1 =>
      cases e0
      cases e1
      refine .inr ⟨rfl, _, _, rfl, ?_⟩
      show (match chk env (p ++ [0]) f with
        | .bad q r => Rs.bad q r
        | .ok x => match chk env (p ++ [1]) a with
          | .bad q r => .bad q r
          | .ok y => joinAp p x y) = _
      rw [h0]
      show (match chk env (p ++ [1]) a with
          | .bad q r => Rs.bad q r
          | .ok y => joinAp p _ y) = _
      rw [h1]
theorem parts_iff (a b c : Tm) : Parts (.iff a b c) "if" [a, b, c] := by
  have step : ∀ (env : List (Str × D)) (p : List Nat), chk env p (.iff a b c) = (match chk env (p ++ [0]) a with
    | .bad q r => Rs.bad q r
    | .ok x => match chk env (p ++ [1]) b with
      | .bad q r => .bad q r
      | .ok y => match chk env (p ++ [2]) c with
        | .bad q r => .bad q r
        | .ok z => joinIf p 0 [x, y, z]) := fun _ _ => rfl
  refine ⟨rfl, .inr ⟨rfl, rfl⟩, ?_, ?_, ?_⟩
  · intro d hd
    simp only [List.mem_cons, List.not_mem_nil, or_false] at hd
    rcases hd with rfl | rfl | rfl
    · exact ⟨by show hgt d < max (hgt d) (max (hgt b) (hgt c)) + 1; omega, by show prt d < prt d + prt b + prt c + 1; omega, fun h => h.1⟩
    · exact ⟨by show hgt d < max (hgt a) (max (hgt d) (hgt c)) + 1; omega, by show prt d < prt a + prt d + prt c + 1; omega, fun h => h.2.1⟩
    · exact ⟨by show hgt d < max (hgt a) (max (hgt b) (hgt d)) + 1; omega, by show prt d < prt a + prt b + prt d + 1; omega, fun h => h.2.2⟩
  · intro env p q s j d hj hi hb
    rw [step]
    match j, hj with
    | 0, hj =>
      cases hj
      rw [hb]
    | 1, hj =>
      cases hj
      obtain ⟨k, hk⟩ := hi 0 a (by omega) rfl
      rw [hk]
      dsimp only
      rw [hb]
    | 2, hj =>
      cases hj
      obtain ⟨k, hk⟩ := hi 0 a (by omega) rfl
      obtain ⟨k1, hk1⟩ := hi 1 b (by omega) rfl
      rw [hk]
      dsimp only
      rw [hk1]
      dsimp only
      rw [hb]
    | j + 3, hj => simp at hj
  · intro env p kss hl h
    obtain ⟨k0, e0, h0⟩ := h 0 a rfl
    obtain ⟨k1, e1, h1⟩ := h 1 b rfl
    obtain ⟨k2, e2, h2⟩ := h 2 c rfl
    match kss, hl, e0, e1, e2 with
    | [x, y, z], _, e0, e1, e2 =>
      cases e0
      cases e1
      cases e2
      refine .inl ⟨rfl, ?_⟩
      rw [step, h0]
      dsimp only
      rw [h1]
      dsimp only
      rw [h2]
theorem forms (t : Tm) : (∃ s, t = .nm s) ∨ (∃ s k b, t = .fn s k b) ∨ (∃ wd cs, Parts t wd cs) ∨ (∃ wd r, tmD t = .tup (.at (.str wd) :: r) ∧ wd ≠ "name" ∧ wd ≠ "fun" ∧ wd ≠ "apply" ∧ wd ≠ "if" ∧ ∀ env p, chk env p t = .ok []) := by
  cases t with
  | nm s => exact .inl ⟨s, rfl⟩
  | fn s k b => exact .inr (.inl ⟨s, k, b, rfl⟩)
  | ap f a => exact .inr (.inr (.inl ⟨_, _, parts_ap f a⟩))
  | iff a b c => exact .inr (.inr (.inl ⟨_, _, parts_iff a b c⟩))
  | an v => exact .inr (.inr (.inr ⟨"answer", _, rfl, by decide, by decide, by decide, by decide, fun _ _ => rfl⟩))
  | st => exact .inr (.inr (.inr ⟨"stop", _, rfl, by decide, by decide, by decide, by decide, fun _ _ => rfl⟩))
end Pk

set_option maxRecDepth 100000
set_option maxHeartbeats 4000000
namespace Pk
open PySem PySem.Spec PyProof.Rows L2
section
variable {P : Program} {w : World} {K : PySem.W.Frag} {mg : Str → Option Value} {base : Heap}
def spChk (K : PySem.W.Frag) (n : Nat) : Sp := fun vs H Q _ => ∃ (v l vp : V) (t : Tm) (env : List (Str × D)) (p : List Nat), vs = [v, l, vp] ∧ Rep K H v (tmD t) ∧ ek t ∧ EnvAt K H l env ∧ (∀ pr ∈ env, Ek pr.2) ∧ Rep K H vp (pathD p) ∧ hgt t ≤ n ∧ prt t ≤ 100000 ∧ env.length + n ≤ 2000 ∧ p.length + n ≤ 2000 ∧
  ∀ (z : V) (H' : Hp), Same H H' → Rep K H' z (resD (chk env p t)) → Q z H'
theorem look_drop {env : List (Str × D)} {i : Nat} {pr : Str × D} {s : Str} (h : env[i]? = some pr) : look (env.drop i) s = if pr.1 = s then some pr.2 else look (env.drop (i + 1)) s := by
  have hi := (List.getElem?_eq_some_iff.mp h).1
  rw [List.drop_eq_getElem_cons hi]
  rw [List.getElem?_eq_getElem hi] at h
  rw [Option.some.inj h]
  rfl
theorem ok_chk {f f2 : Addr} {fd d2 : FuncData} (D__law_checked : Df K mg "_law_checked" s__law_checked ["term", "around", "path"] f fd) (D__law_joined_kind : Df K mg "_law_joined_kind" s__law_joined_kind ["word", "found", "path"] f2 d2) (B : Bt mg) :
    ∀ n : Nat, FnOk P w K mg base CX0 (n + 1) f fd ["term", "around", "path"] (spChk K n)
  | 0 => (fn_none (f := f) (fd := fd) fun vs H Q E h => by
    obtain ⟨v, l, vp, t, env, p, _, _, _, _, _, _, h1, _⟩ := h
    have := hgt_pos t
    omega).mono (by omega)
  | n + 1 => by
    have G__law_checked := ok_chk D__law_checked D__law_joined_kind B n
    have G__law_joined_kind : FnOk P w K mg base CX0 1 f2 d2 ["word", "found", "path"] (spJoin K) := ok_join D__law_joined_kind B
    refine D__law_checked.ok c__law_checked (fun vs H Q E h => ?_) (fun cdv A outer s H vs Q E hr h => ?_)
    · obtain ⟨v, l, vp, t, env, p, rfl, _⟩ := h
      rfl
    obtain ⟨v, l, vp, t, env, p, rfl, rv, hek, hl, henv, rp, hh, hp, hel, hpl, q⟩ := h
    have nd := c__law_checked.nd
    refine ⟨_, (pss_cons (ps_set (i := 3) nd rfl (Or.inl rfl) (pe_ix ix_tup (pv 0) pe_int (fun _ _ => rfl)))
  (pss_cons (ps_if (pt_cmpR op_eq (pv 3) pe_str (nomark _)) (pss_cons (ps_for PassesOwn.never rfl (pi_range1 (by rfl) B.b_range (pa_cons (pe_callB call_len_seq (by rfl) B.b_len PySem.boot_len (pa_cons (pv 1) pa_nil)) pa_nil)) (pg_name (i := 4) nd rfl (Or.inl rfl)) (pss_cons (ps_set (i := 5) nd rfl (Or.inl rfl) (pe_ix ix_list (pv 1) (pe_op op_sub (pe_op op_sub (pe_callB call_len_seq (by rfl) B.b_len PySem.boot_len (pa_cons (pv 1) pa_nil)) pe_int) (pv 4)) (fun _ _ => rfl)))
  (pss_one (ps_if (pt_cmpR op_eq (pe_ix ix_tup (pv 5) pe_int (fun _ _ => rfl)) (pe_ix ix_tup (pv 0) pe_int (fun _ _ => rfl)) (nomark _)) (pss_one (ps_ret (pe_tup (pa_cons pe_str (pa_cons (pe_ix ix_tup (pv 5) pe_int (fun _ _ => rfl)) pa_nil))))) pss_nil))))
  (pss_one (ps_ret (pe_tup (pa_cons pe_str (pa_cons (pv 2) (pa_cons pe_str pa_nil))))))) pss_nil)
  (pss_cons (ps_if (pt_cmpR op_eq (pv 3) pe_str (nomark _)) (pss_cons (ps_set (i := 6) nd rfl (Or.inl rfl) (pe_call G__law_checked hr (by rfl) D__law_checked.m D__law_checked.kp D__law_checked.b .nil pass0 (pa_cons (pe_ix ix_tup (pv 0) pe_int (fun _ _ => rfl)) (pa_cons (pe_op op_cat (pv 1) (pe_lst (pa_cons (pe_tup (pa_cons (pe_ix ix_tup (pv 0) pe_int (fun _ _ => rfl)) (pa_cons (pe_ix ix_tup (pv 0) pe_int (fun _ _ => rfl)) pa_nil))) pa_nil))) (pa_cons (pe_op op_catP (pv 2) (pe_tup (pa_cons pe_int pa_nil))) pa_nil)))))
  (pss_cons (ps_if (pt_cmpR op_eq (pe_ix ix_tup (pv 6) pe_int (fun _ _ => rfl)) pe_str (nomark _)) (pss_one (ps_set (i := 6) nd rfl (Or.inl rfl) (pe_tup (pa_cons pe_str (pa_cons (pe_op op_catP (pe_tup (pa_cons (pe_ix ix_tup (pv 0) pe_int (fun _ _ => rfl)) pa_nil)) (pe_ix ix_tup (pv 6) pe_int (fun _ _ => rfl))) pa_nil))))) pss_nil)
  (pss_one (ps_ret (pv 6))))) pss_nil)
  (pss_cons (ps_if (pt_cmpR op_in_seq (pv 3) (pe_tup (pa_cons pe_str (pa_cons pe_str pa_nil))) rfl) (pss_cons (ps_set (i := 7) nd rfl (Or.inl rfl) (pe_lst pa_nil))
  (pss_cons (ps_for PassesOwn.never rfl (pi_range1 (by rfl) B.b_range (pa_cons (pe_op op_sub (pe_callB call_len_seq (by rfl) B.b_len PySem.boot_len (pa_cons (pv 0) pa_nil)) pe_int) pa_nil)) (pg_name (i := 4) nd rfl (Or.inl rfl)) (pss_cons (ps_set (i := 6) nd rfl (Or.inl rfl) (pe_call G__law_checked hr (by rfl) D__law_checked.m D__law_checked.kp D__law_checked.b .nil pass0 (pa_cons (pe_ix ix_tup (pv 0) (pe_op op_add pe_int (pv 4)) (fun _ _ => rfl)) (pa_cons (pv 1) (pa_cons (pe_op op_catP (pv 2) (pe_tup (pa_cons (pv 4) pa_nil))) pa_nil)))))
  (pss_cons (ps_if (pt_cmpR op_eq (pe_ix ix_tup (pv 6) pe_int (fun _ _ => rfl)) pe_str (nomark _)) (pss_one (ps_ret (pv 6))) pss_nil)
  (pss_one (ps_expr (pe_bm PySem.F.plainAttrs_list PySem.F.slot_list_append PySem.F.type_list_append mt_append (pv 7) (pa_cons (pe_ix ix_tup (pv 6) pe_int (fun _ _ => rfl)) pa_nil)))))))
  (pss_one (ps_ret (pe_call G__law_joined_kind (hr.mono (by first | decide | omega)) (by rfl) D__law_joined_kind.m D__law_joined_kind.kp D__law_joined_kind.b .nil pass0 (pa_cons (pv 3) (pa_cons (pv 7) (pa_cons (pv 2) pa_nil)))))))) pss_nil)
  (pss_one (ps_ret (pe_tup (pa_cons pe_str (pa_cons (pe_tup pa_nil) pa_nil))))))))), ?_⟩
    obtain ⟨pa, pxs, rfl, hpa, rpa⟩ := Rep.inv (ts := p.map fun n => D.at (.int (n : Nat))) rp
    have lpa := rpa.length
    rw [List.length_map] at lpa
    rcases forms t with ⟨sn, rfl⟩ | ⟨sn, kd, bt, rfl⟩ | ⟨wd, cs, hP⟩ | ⟨wd, r, hd, w1, w2, w3, w4, hc⟩
    · -- a name
      obtain ⟨a, xs, rfl, hx, rx⟩ := Rep.inv (ts := [.at (.str "name"), .at (.str sn)]) rv
      obtain ⟨x0, hx0, r0⟩ := rx.getD (i := 0) rfl
      obtain ⟨x1, hx1, r1⟩ := rx.getD (i := 1) rfl
      obtain ⟨rfl, _⟩ := r0.inva
      obtain ⟨rfl, _⟩ := r1.inva
      obtain ⟨la, lxs, rfl, hla, rla⟩ := hl
      have lla := rla.length
      rw [List.length_map, List.length_reverse] at lla
      refine ⟨_, rfl, a, _, 0, _, rfl, rfl, hx.sq, atI_nat (j := 0) hx0, _, rfl, rfl, _, rfl, iteT ⟨_, rfl, la, lxs, rfl, .inl (SqL.of hla), _, rfl, by omega, by omega, ?_⟩⟩
      refine for_range (n := ((lxs.length : Nat) : Int).toNat) (fun i σ H' => ∃ (y4 y5 y6 y7 : Option V), σ = [some (.ref a), some (.ref la), some (.ref pa), some (.str "name"), y4, y5, y6, y7] ∧ Same H H' ∧ look env sn = look (env.drop i) sn)
        ⟨none, none, none, none, rfl, Same.refl _, rfl⟩ ?_ ?_
      · rintro i σ H1 hi ⟨y4, y5, y6, y7, rfl, s1, hlk⟩
        have hi' : i < env.length := by omega
        obtain ⟨x, pr, hat, hpe, rpe⟩ := env_at (rla.mono (kx_same s1)) hi' (z := ((lxs.length : Nat) : Int) - 1 - ((0 : Int) + (i : Nat))) (by omega)
        rw [look_drop hpe] at hlk
        obtain ⟨b, bs, rfl, hb, rb⟩ := Rep.inv (ts := [.at (.str pr.1), pr.2]) rpe
        obtain ⟨b0, hb0, rb0⟩ := rb.getD (i := 0) rfl
        obtain ⟨b1, hb1, rb1⟩ := rb.getD (i := 1) rfl
        obtain ⟨rfl, _⟩ := rb0.inva
        refine ⟨_, rfl, _, rfl, la, lxs, rfl, .inl (SqL.of (s1 _ _ hla)), _, _, rfl, rfl, _, rfl, _, _, rfl, rfl, la, lxs, _, _, rfl, rfl, SqL.of (s1 _ _ hla), hat, ?_⟩
        refine ⟨_, rfl, b, _, 0, _, rfl, rfl, hb.sq, atI_nat (j := 0) hb0, _, rfl, a, _, 1, _, rfl, rfl, (hx.same s1).sq, atI_nat (j := 1) hx1, rfl, _, rfl, ite2 (fun z => ?_) (fun z => ?_)⟩
        · have e : pr.1 = sn := V.str.inj (of_decide_eq_true z)
          rw [if_pos e] at hlk
          refine ⟨_, rfl, b, _, 1, _, rfl, rfl, hb.sq, atI_nat (j := 1) hb1, (by show 2 ≤ sizeLine; decide), fun t2 n2 => ?_⟩
          have s2 := same_new n2 (.tup [.str "kind", b1])
          have eo : chk env p (.nm sn) = .ok (args pr.2) := by
            show (match look env sn with
              | some d => Rs.ok (args d)
              | none => .bad p "unknown name") = _
            rw [hlk]
          rw [eo] at q
          obtain ⟨ts, et, _, _⟩ := (henv pr (List.mem_of_getElem? hpe)).inv
          rw [et] at rb1 q
          exact q _ _ (s1.trans s2) (.tup' upd_same (.cons (.at rfl) (.one (rb1.mono (kx_same s2)))))
        · have e : ¬ pr.1 = sn := fun e => z (decide_eq_true (by rw [e]))
          rw [if_neg e] at hlk
          exact ⟨_, _, _, _, rfl, s1, hlk⟩
      · rintro σ H1 ⟨y4, y5, y6, y7, rfl, s1, hlk⟩
        refine ⟨_, rfl, (by show 3 ≤ sizeLine; decide), fun t2 n2 => ?_⟩
        have s2 := same_new n2 (.tup [.str "fault", .ref pa, .str "unknown name"])
        have eo : chk env p (.nm sn) = .bad p "unknown name" := by
          show (match look env sn with
            | some d => Rs.ok (args d)
            | none => .bad p "unknown name") = _
          rw [hlk, List.drop_eq_nil_of_le (by omega)]
          rfl
        rw [eo] at q
        exact q _ _ (s1.trans s2) (.tup' upd_same (.cons (.at rfl) (.cons (rp.mono (kx_same (s1.trans s2))) (.one (.at rfl)))))
    · -- a fun
      obtain ⟨a, xs, rfl, hx, rx⟩ := Rep.inv (ts := [.at (.str "fun"), .at (.str sn), kd, tmD bt]) rv
      obtain ⟨x0, hx0, r0⟩ := rx.getD (i := 0) rfl
      obtain ⟨x1, hx1, r1⟩ := rx.getD (i := 1) rfl
      obtain ⟨x2, hx2, r2⟩ := rx.getD (i := 2) rfl
      obtain ⟨x3, hx3, r3⟩ := rx.getD (i := 3) rfl
      obtain ⟨rfl, _⟩ := r0.inva
      obtain ⟨rfl, _⟩ := r1.inva
      have hgb : hgt bt + 1 ≤ n + 1 := hh
      have hpb : prt bt + 1 ≤ 100000 := hp
      obtain ⟨la, lxs, rfl, hla, rla⟩ := hl
      have lla := rla.length
      rw [List.length_map, List.length_reverse] at lla
      refine ⟨_, rfl, a, _, 0, _, rfl, rfl, hx.sq, atI_nat (j := 0) hx0, _, rfl, rfl, _, rfl, iteF ⟨_, rfl, rfl, _, rfl, iteT ?_⟩⟩
      refine ⟨_, rfl, a, _, 3, _, rfl, rfl, hx.sq, atI_nat (j := 3) hx3, _, rfl, _, rfl, a, _, 1, _, rfl, rfl, hx.sq, atI_nat (j := 1) hx1, _, rfl, a, _, 2, _, rfl, rfl, hx.sq, atI_nat (j := 2) hx2, (by show 2 ≤ sizeLine; decide), fun t5 nt5 => ⟨(by show 1 ≤ sizeLine; decide), fun l6 nl6 => ?_⟩⟩
      have s6 := same_new nt5 (.tup [.str sn, x2])
      have s7 := same_new nl6 (.lst [.ref t5])
      have ht5 := s7 _ _ (upd_same (H := H) (a := t5) (o := .tup [.str sn, x2]))
      have hl6 : (upd (upd H t5 (.tup [.str sn, x2])) l6 (.lst [.ref t5])) l6 = some (.lst [.ref t5]) := upd_same
      have s57 := s6.trans s7
      generalize upd (upd H t5 (.tup [.str sn, x2])) l6 (.lst [.ref t5]) = H7 at *
      refine ⟨la, l6, lxs, _, rfl, rfl, s57 _ _ hla, hl6, small6' (by show lxs.length + 1 ≤ 1000000; omega), fun l7 nl7 => ⟨_, rfl, (by show 1 ≤ sizeLine; decide), fun t8 nt8 => ?_⟩⟩
      have s8 := same_new nl7 (.lst (lxs ++ [.ref t5]))
      have hl8 : (upd H7 l7 (.lst (lxs ++ [.ref t5]))) l7 = some (.lst (lxs ++ [.ref t5])) := upd_same
      have s58 := s57.trans s8
      generalize upd H7 l7 (.lst (lxs ++ [.ref t5])) = H8 at *
      have s9 := same_new nt8 (.tup [.int 0])
      refine ⟨pa, t8, _, _, rfl, rfl, (hpa.same s58).same s9, .inl upd_same, small6' (by show pxs.length + 1 ≤ 1000000; omega), fun c10 H10 s10 hc10 => ?_⟩
      have hc10' : TupAt K H10 c10 (pxs ++ [.int 0]) := hc10
      have s80 := s9.trans s10
      have s50 := s58.trans s80
      have rx10 := rx.mono (kx_same s50)
      refine ⟨x3, .ref l7, .ref c10, bt, (sn, kd) :: env, p ++ [0], rfl, r3.mono (kx_same s50), hek.2, ⟨l7, _, rfl, s80 _ _ hl8, ?_⟩, fun pr hpr => ?_, path_snoc (a := a) (t := a) (j := 0) rfl hc10' rpa s50, by omega, by omega, by show env.length + 1 + n ≤ 2000; omega, by rw [List.length_append]; show p.length + 1 + n ≤ 2000; omega, fun z H11 s11 rz => ?_⟩
      · rw [List.reverse_cons, List.map_append]
        have s70 := s8.trans s80
        exact (rla.mono (kx_same s50)).append (.one (.tup' (s70 _ _ ht5) (.cons (.at rfl) (.one (r2.mono (kx_same s50))))))
      · rcases List.mem_cons.mp hpr with e | h
        · rw [e]
          exact hek.1
        · exact henv pr h
      have s01 := s50.trans s11
      have eo : chk env p (.fn sn kd bt) = (match chk ((sn, kd) :: env) (p ++ [0]) bt with
        | .ok r => Rs.ok (kd :: r)
        | .bad q r => .bad q r) := rfl
      cases hc : chk ((sn, kd) :: env) (p ++ [0]) bt with
      | bad pq rs =>
        rw [hc] at rz eo
        rw [eo] at q
        obtain ⟨ta, txs, rfl, hta, rta⟩ := Rep.inv (ts := [.at (.str "fault"), pathD pq, .at (.str rs)]) rz
        obtain ⟨w0, hw0, rw0⟩ := rta.getD (i := 0) rfl
        obtain ⟨rfl, _⟩ := rw0.inva
        refine ⟨_, rfl, ta, _, 0, _, rfl, rfl, hta.sq, atI_nat (j := 0) hw0, rfl, _, rfl, iteF ⟨_, rfl, q _ _ s01 (.tup hta rta)⟩⟩
      | ok ks =>
        rw [hc] at rz eo
        rw [eo] at q
        have hrk := chk_rk bt _ _ ks hek.2 (fun pr hpr => (List.mem_cons.mp hpr).elim (fun e => e ▸ hek.1) (henv pr)) hc
        obtain ⟨ta, txs, rfl, hta, rta⟩ := Rep.inv (ts := [.at (.str "kind"), .tup ks]) rz
        obtain ⟨w0, hw0, rw0⟩ := rta.getD (i := 0) rfl
        obtain ⟨w1, hw1, rw1⟩ := rta.getD (i := 1) rfl
        obtain ⟨rfl, _⟩ := rw0.inva
        obtain ⟨ka, kxs, rfl, hka, rka⟩ := rw1.inv
        have lka := rka.length
        have := hrk.2
        refine ⟨_, rfl, ta, _, 0, _, rfl, rfl, hta.sq, atI_nat (j := 0) hw0, rfl, _, rfl, iteT ?_⟩
        refine ⟨_, rfl, a, _, 2, _, rfl, rfl, (hx.same s01).sq, atI_nat (j := 2) hx2, (by show 1 ≤ sizeLine; decide), fun t12 n12 => ?_⟩
        have s12 := same_new n12 (.tup [x2])
        refine ⟨_, rfl, ta, _, 1, _, rfl, rfl, (hta.same s12).sq, atI_nat (j := 1) hw1, t12, ka, _, _, rfl, rfl, .inl upd_same, hka.same s12, small6' (by show 1 + kxs.length ≤ 1000000; omega), fun c13 H13 s13 hc13 => ⟨(by show 2 ≤ sizeLine; decide), fun t14 n14 => ?_⟩⟩
        have hc13' : TupAt K H13 c13 ([x2] ++ kxs) := hc13
        have s14 := same_new n14 (.tup [.str "kind", .ref c13])
        have s24 := s12.trans (s13.trans s14)
        have s04 := s01.trans s24
        exact ⟨_, rfl, q _ _ s04 (.tup' upd_same (.cons (.at rfl) (.one (.tup (hc13'.same s14) (.cons (r2.mono (kx_same s04)) (rka.mono (kx_same s24)))))))⟩
    · -- apply, if
      have hd := hP.d
      rw [hd] at rv
      obtain ⟨a, xs, rfl, hx, rx⟩ := rv.inv
      cases rx with
      | @cons x0 _ xr _ r0 rr =>
      obtain ⟨rfl, _⟩ := r0.inva
      have lr := rr.length
      rw [List.length_map] at lr
      have nn : ∀ {u : Str}, wd ≠ u → decide (V.str wd = V.str u) = false := fun h => decide_eq_false fun e => h (V.str.inj e)
      have w1 : wd ≠ "name" := by rcases hP.w with ⟨e, _⟩ | ⟨e, _⟩ <;> rw [e] <;> decide
      have w2 : wd ≠ "fun" := by rcases hP.w with ⟨e, _⟩ | ⟨e, _⟩ <;> rw [e] <;> decide
      have lcs : cs.length ≤ 3 := by rcases hP.w with ⟨_, e⟩ | ⟨_, e⟩ <;> omega
      refine ⟨_, rfl, a, _, 0, _, rfl, rfl, hx.sq, atI_nat (j := 0) rfl, _, rfl, rfl, _, rfl, ?_⟩
      rw [nn w1]
      refine iteF ⟨_, rfl, rfl, _, rfl, ?_⟩
      rw [nn w2]
      refine iteF ⟨_, rfl, (by show 2 ≤ sizeLine; decide), fun t1 n1 => ?_⟩
      have s1 := same_new n1 (.tup [.str "apply", .str "if"])
      refine ⟨t1, _, rfl, .inr (SqT.of upd_same), rfl, rfl, _, rfl, ?_⟩
      have hin : inV (.str wd) [.str "apply", .str "if"] = true := by
        rw [show ([.str "apply", .str "if"] : List V) = (["apply", "if"] : List Str).map V.str from rfl, inV_str]
        refine decide_eq_true ?_
        rcases hP.w with ⟨e, _⟩ | ⟨e, _⟩ <;> rw [e] <;> decide
      rw [hin]
      refine iteT ⟨(by show 0 ≤ sizeLine; decide), fun fl nfl => ?_⟩
      have s2 := same_new nfl (.lst [])
      have s12 := s1.trans s2
      have hfl : (upd (upd H t1 (.tup [.str "apply", .str "if"])) fl (.lst [])) fl = some (.lst []) := upd_same
      have nflH : H fl = none := by
        by_cases e : fl = t1
        · subst e
          rw [upd_same] at nfl
          cases nfl
        · rw [upd_ne e] at nfl
          exact nfl
      generalize upd (upd H t1 (.tup [.str "apply", .str "if"])) fl (.lst []) = H2 at *
      refine ⟨_, rfl, a, _, rfl, .inr (hx.same s12).sq, _, _, rfl, rfl, _, rfl, by show -2 ^ 62 ≤ ((xr.length + 1 : Nat) : Int) - 1; omega, by show ((xr.length + 1 : Nat) : Int) - 1 < 2 ^ 62; omega, ?_⟩
      have en : ((((V.str wd :: xr).length : Nat) : Int) - 1).toNat = cs.length := by
        show (((xr.length + 1 : Nat) : Int) - 1).toNat = cs.length
        omega
      refine for_range (n := ((((V.str wd :: xr).length : Nat) : Int) - 1).toNat) (fun j σ H' => ∃ (y4 y5 y6 : Option V) (ks : List V) (kss : List (List D)), σ = [some (.ref a), some l, some (.ref pa), some (.str wd), y4, y5, y6, some (.ref fl)] ∧ Same H H' ∧ H' fl = some (.lst ks) ∧
          Reps K H' ks (kss.map D.tup) ∧ kss.length = j ∧ (∀ k ∈ kss, Rk 100006 k) ∧ ∀ i c, i < j → cs[i]? = some c → ∃ k, kss[i]? = some k ∧ chk env (p ++ [i]) c = .ok k)
        ⟨none, none, none, [], [], rfl, s12, hfl, .nil, rfl, (fun k hk => by cases hk), fun i c h => absurd h (Nat.not_lt_zero _)⟩ ?_ ?_
      · rintro j σ H3 hj ⟨y4, y5, y6, ks, kss, rfl, s3, hfl3, rk3, lk, hrk, hall⟩
        have hj' : j < xr.length := by omega
        have lks := rk3.length
        rw [List.length_map] at lks
        obtain ⟨d, hdj, rd⟩ := rr.get (List.getElem?_eq_getElem hj')
        rw [List.getElem?_map] at hdj
        obtain ⟨c, hc, rfl⟩ := Option.map_eq_some_iff.mp hdj
        obtain ⟨hc1, hc2, hc3⟩ := hP.sub c (List.mem_of_getElem? hc)
        have hat : atI (V.str wd :: xr) ((1 : Int) + ((0 : Int) + (j : Nat))) = some xr[j] := by
          rw [show (1 : Int) + ((0 : Int) + (j : Nat)) = ((j + 1 : Nat) : Int) by omega]
          exact atI_nat (j := j + 1) (by rw [List.getElem?_cons_succ]; exact List.getElem?_eq_getElem hj')
        refine ⟨_, rfl, _, rfl, _, _, rfl, rfl, a, _, _, _, rfl, rfl, (hx.same s3).sq, hat, _, rfl, _, rfl, _, rfl, (by show 1 ≤ sizeLine; decide), fun t8 nt8 => ?_⟩
        have s9 := same_new nt8 (.tup [.int ((0 : Int) + (j : Nat))])
        refine ⟨pa, t8, _, _, rfl, rfl, (hpa.same s3).same s9, .inl upd_same, small6' (by show pxs.length + 1 ≤ 1000000; omega), fun c10 H10 s10 hc10 => ?_⟩
        have hc10' : TupAt K H10 c10 (pxs ++ [.int ((0 : Int) + (j : Nat))]) := hc10
        have s30 := s9.trans s10
        have s50 := s3.trans s30
        refine ⟨_, l, .ref c10, c, env, p ++ [j], rfl, rd.mono (kx_same s50), hc3 hek, hl.same s50, henv, path_snoc (a := a) (t := a) (by rw [show (0 : Int) + (j : Nat) = ((j : Nat) : Int) by omega]) hc10' rpa s50, by omega, by omega, by omega, by rw [List.length_append]; show p.length + 1 + n ≤ 2000; omega, fun z H11 s11 rz => ?_⟩
        have s01 := s50.trans s11
        have s31 := s30.trans s11
        cases hck : chk env (p ++ [j]) c with
        | bad pq rs =>
          rw [hck] at rz
          have eo := hP.bad env p pq rs j c hc (fun i c' hi hc' => by obtain ⟨k, _, hk⟩ := hall i c' hi hc'; exact ⟨k, hk⟩) hck
          rw [eo] at q
          obtain ⟨ta, txs, rfl, hta, rta⟩ := Rep.inv (ts := [.at (.str "fault"), pathD pq, .at (.str rs)]) rz
          obtain ⟨v0, hv0, rv0⟩ := rta.getD (i := 0) rfl
          obtain ⟨rfl, _⟩ := rv0.inva
          exact ⟨_, rfl, ta, _, 0, _, rfl, rfl, hta.sq, atI_nat (j := 0) hv0, rfl, _, rfl, iteT ⟨_, rfl, q _ _ s01 (.tup hta rta)⟩⟩
        | ok kt =>
          rw [hck] at rz
          have hrk2 := chk_rk c _ _ kt (hc3 hek) henv hck
          obtain ⟨ta, txs, rfl, hta, rta⟩ := Rep.inv (ts := [.at (.str "kind"), .tup kt]) rz
          obtain ⟨v0, hv0, rv0⟩ := rta.getD (i := 0) rfl
          obtain ⟨v1, hv1, rv1⟩ := rta.getD (i := 1) rfl
          obtain ⟨rfl, _⟩ := rv0.inva
          refine ⟨_, rfl, ta, _, 0, _, rfl, rfl, hta.sq, atI_nat (j := 0) hv0, rfl, _, rfl, iteF ?_⟩
          have hfl11 := s31 _ _ hfl3
          refine ⟨_, rfl, .inl ⟨rfl, _, SqL.of hfl11⟩, _, rfl, ta, _, 1, _, rfl, rfl, hta.sq, atI_nat (j := 1) hv1, fl, ks, _, rfl, rfl, hfl11, small6 (by omega), ?_⟩
          have kl := kx_list hfl11 (ks ++ [v1])
          refine ⟨_, _, _, ks ++ [v1], kss ++ [kt], rfl, fun o u e => ?_, upd_same, ?_, by rw [List.length_append, List.length_singleton, lk], fun k hk => ?_, fun i c' hi hc' => ?_⟩
          · rw [upd_ne (ne_of_none e nflH)]
            exact s01 _ _ e
          · rw [List.map_append]
            exact ((rk3.mono (kx_same s31)).mono kl).append (.one (rv1.mono kl))
          · rcases List.mem_append.mp hk with hk | hk
            · exact hrk k hk
            · rw [List.mem_singleton.mp hk]
              exact ⟨hrk2.1, by have := hrk2.2; omega⟩
          · by_cases hij : i = j
            · subst hij
              rw [hc] at hc'
              cases hc'
              exact ⟨kt, by rw [List.getElem?_append_right (by omega), lk, Nat.sub_self]; rfl, hck⟩
            · obtain ⟨k, hk1, hk2⟩ := hall i c' (by omega) hc'
              exact ⟨k, by rw [List.getElem?_append_left (by omega)]; exact hk1, hk2⟩
      · rintro σ H3 ⟨y4, y5, y6, ks, kss, rfl, s3, hfl3, rk3, lk, hrk, hall⟩
        have lk' : kss.length = cs.length := by omega
        have hg := hP.good env p kss lk' fun i c hc => hall i c (by have := (List.getElem?_eq_some_iff.mp hc).1; omega) hc
        refine ⟨_, rfl, _, rfl, _, rfl, wd, fl, ks, .ref pa, kss, p, 100006, rfl, hfl3, rk3, rp.mono (kx_same s3), hrk, by omega, by omega, ?_⟩
        rcases hg with ⟨e, hg⟩ | ⟨e, x, y, exy, hg⟩
        · rw [hg] at q
          refine .inl ⟨e, ?_, fun z H4 s4 rz => q z H4 (s3.trans s4) rz⟩
          rcases hP.w with ⟨e2, _⟩ | ⟨_, e2⟩
          · rw [e] at e2
            exact absurd e2 (by decide)
          · omega
        · rw [hg] at q
          exact .inr ⟨by rw [e]; decide, x, y, exy, fun z H4 s4 rz => q z H4 (s3.trans s4) rz⟩
    · -- answer, stop
      rw [hd] at rv
      obtain ⟨a, xs, rfl, hx, rx⟩ := rv.inv
      obtain ⟨x0, hx0, r0⟩ := rx.getD (i := 0) rfl
      obtain ⟨rfl, _⟩ := r0.inva
      have nn : ∀ {u : Str}, wd ≠ u → decide (V.str wd = V.str u) = false := fun h => decide_eq_false fun e => h (V.str.inj e)
      refine ⟨_, rfl, a, _, 0, _, rfl, rfl, hx.sq, atI_nat (j := 0) hx0, _, rfl, rfl, _, rfl, ?_⟩
      rw [nn w1]
      refine iteF ⟨_, rfl, rfl, _, rfl, ?_⟩
      rw [nn w2]
      refine iteF ⟨_, rfl, (by show 2 ≤ sizeLine; decide), fun t1 n1 => ?_⟩
      have s1 := same_new n1 (.tup [.str "apply", .str "if"])
      refine ⟨t1, _, rfl, .inr (SqT.of upd_same), rfl, rfl, _, rfl, ?_⟩
      have hin : inV (.str wd) [.str "apply", .str "if"] = false := by
        rw [show ([.str "apply", .str "if"] : List V) = (["apply", "if"] : List Str).map V.str from rfl, inV_str]
        refine decide_eq_false fun h => ?_
        simp only [List.mem_cons, List.not_mem_nil, or_false] at h
        rcases h with h | h
        · exact w3 h
        · exact w4 h
      rw [hin]
      refine iteF ⟨(by show 0 ≤ sizeLine; decide), fun t2 n2 => ⟨(by show 2 ≤ sizeLine; decide), fun t3 n3 => ?_⟩⟩
      have s3 := same_new n3 (.tup [.str "kind", .ref t2])
      rw [hc env p] at q
      exact q _ _ (s1.trans ((same_new n2 _).trans s3)) (.tup' upd_same (.cons (.at rfl) (.one (.tup' (s3 _ _ upd_same) .nil))))
end
end Pk

set_option maxRecDepth 100000
set_option maxHeartbeats 4000000
namespace Pk
open PySem PySem.Spec PyProof.Rows L2
/-! ### _law_loose -/
theorem nm_reps {K : PySem.W.Frag} {M : Hp} {s : Str} {t1 t2 t3 t4 t5 : Addr} (h1 : M t1 = some (.tup [.str "name", .str s])) (h2 : M t2 = some (.tup [.str "name", .str s])) (h3 : M t3 = some (.tup [.str "answer", .int 0])) (h4 : M t4 = some (.tup [.str "answer", .int 1])) (h5 : M t5 = some (.tup [.str "stop"])) :
    Reps K M [.ref t1, .ref t2, .ref t3, .ref t4, .ref t5] ([.nm s, .nm s, .an 0, .an 1, .st].map tmD) :=
  .cons (.tup' h1 (.cons (.at rfl) (.one (.at rfl)))) (.cons (.tup' h2 (.cons (.at rfl) (.one (.at rfl)))) (.cons (.tup' h3 (.cons (.at rfl) (.one (.at rfl)))) (.cons (.tup' h4 (.cons (.at rfl) (.one (.at rfl)))) (.one (.tup' h5 (.one (.at rfl)))))))
theorem nm_ok {s : Str} {i : Nat} {e : D} (h : (([.nm s, .nm s, .an 0, .an 1, .st] : List Tm).map tmD)[i]? = some e) : ∃ t, e = tmD t ∧ ek t ∧ hgt t = 1 ∧ prt t = 1 := by
  rw [List.getElem?_map] at h
  obtain ⟨t, ht, rfl⟩ := Option.map_eq_some_iff.mp h
  have m : t ∈ ([.nm s, .nm s, .an 0, .an 1, .st] : List Tm) := List.mem_of_getElem? ht
  simp only [List.mem_cons, List.not_mem_nil, or_false] at m
  refine ⟨t, rfl, ?_⟩
  rcases m with rfl | rfl | rfl | rfl | rfl
  all_goals exact ⟨trivial, rfl, rfl⟩
theorem part5_reps {M : Hp} {K : PySem.W.Frag} {t1 t2 t3 t4 t7 t8 t9 ta tb tc : Addr} (h1 : M t1 = some (.tup [])) (h2 : M t2 = some (.tup [])) (h3 : M t3 = some (.tup [])) (h4 : M t4 = some (.tup [.ref t3]))
    (h7 : M t7 = some (.tup [])) (h8 : M t8 = some (.tup [])) (h9 : M t9 = some (.tup [.ref t7, .ref t8])) (ha : M ta = some (.tup [])) (hb : M tb = some (.tup [.ref ta])) (hc : M tc = some (.tup [.ref tb])) :
    Reps K M [.ref t1, .ref t2, .ref t4, .ref t9, .ref tc] [.tup [], .tup [], .tup [.tup []], .tup [.tup [], .tup []], .tup [.tup [.tup []]]] :=
  .cons (.tup' h1 .nil) (.cons (.tup' h2 .nil) (.cons (.tup' h4 (.one (.tup' h3 .nil))) (.cons (.tup' h9 (.cons (.tup' h7 .nil) (.one (.tup' h8 .nil)))) (.one (.tup' hc (.one (.tup' hb (.one (.tup' ha .nil)))))))))
theorem part5_ok {i : Nat} {e : D} (h : ([.tup [], .tup [], .tup [.tup []], .tup [.tup [], .tup []], .tup [.tup [.tup []]]] : List D)[i]? = some e) : Ek e := by
  have m := List.mem_of_getElem? h
  simp only [List.mem_cons, List.not_mem_nil, or_false] at m
  rcases m with rfl | rfl | rfl | rfl | rfl
  all_goals exact ⟨by decide, by decide, by decide⟩
/-- what an if does, shown once for all the ways to it -/
theorem if_body {c : TT} {t u : TS} {D : Ends} {σ : L2.St} {H : Hp} (F : Hp → Prop) (main : (∀ H', F H' → t D σ H') → tIfS c t u D σ H) (body : ∀ H', F H' → t D σ H') : tIfS c t u D σ H := main body
theorem sb2r {b u : Addr} {H : Hp} : SB2 b u H H := fun _ _ _ _ h => h
theorem sb2t {b u : Addr} {H H1 H2 : Hp} (x : SB2 b u H H1) (y : SB2 b u H1 H2) : SB2 b u H H2 := fun q o n1 n2 h => y q o n1 n2 (x q o n1 n2 h)
theorem sb2s {b u : Addr} {H H' : Hp} (s : Same H H') : SB2 b u H H' := fun q o _ _ h => s q o h
theorem sb2b {b u : Addr} {H H' : Hp} (s : SB b H H') : SB2 b u H H' := fun q o n _ h => s q o n h
section
variable {P : Program} {w : World} {K : PySem.W.Frag} {mg : Str → Option Value} {base : Heap}
def spLoose (K : PySem.W.Frag) (n : Nat) : Sp := fun vs H Q _ => ∃ (b c u : Addr) (g : Int), vs = [.ref b, .ref u] ∧ BoxAt H b c ∧ H u = some (.lst [.int g]) ∧ b ≠ u ∧ c ≠ u ∧ g < n ∧ 0 < n ∧
  ∀ (z : V) (H' : Hp) (t : Tm) (g' : Int), Rep K H' z (tmD t) → ek t → hgt t ≤ g.toNat + 1 → prt t + 3 * g'.toNat ≤ 3 * g.toNat + 1 → g' ≤ g → H' u = some (.lst [.int g']) → BoxAt H' b c → SB2 b u H H' → Q z H'
theorem ok_loose {f f2 : Addr} {fd d2 : FuncData} (D__law_loose : Df K mg "_law_loose" s__law_loose ["box", "budget"] f fd) (D__law_draw : Df K mg "_law_draw" s__law_draw ["box", "many"] f2 d2) (B : Bt mg) :
    ∀ n : Nat, FnOk P w K mg base CX0 (n + 1) f fd ["box", "budget"] (spLoose K n)
  | 0 => (fn_none (f := f) (fd := fd) fun vs H Q E h => by
    obtain ⟨b, c, u, g, _, _, _, _, _, _, h1, _⟩ := h
    omega).mono (by omega)
  | n + 1 => by
    have G__law_loose := ok_loose D__law_loose D__law_draw B n
    have G__law_draw : FnOk P w K mg base CX0 1 f2 d2 ["box", "many"] spDraw := ok_draw D__law_draw B
    refine D__law_loose.ok c__law_loose (fun vs H Q E h => ?_) (fun cdv A outer s H vs Q E hr h => ?_)
    · obtain ⟨b, c, u, g, rfl, _⟩ := h
      rfl
    obtain ⟨b, c, u, g, rfl, hB, hu, hbu, hcu, hg, _, q⟩ := h
    have nd := c__law_loose.nd
    refine ⟨_, (pss_cons (ps_asg (pe_op op_sub (pe_ix ix_list (pv 1) pe_int (fun _ _ => rfl)) pe_int) (pg_sub (pv 1) pe_int set_list))
  (pss_cons (ps_set (i := 2) nd rfl (Or.inl rfl) (pe_call G__law_draw (hr.mono (by first | decide | omega)) (by rfl) D__law_draw.m D__law_draw.kp D__law_draw.b .nil pass0 (pa_cons (pv 0) (pa_cons pe_int pa_nil))))
  (pss_cons (ps_set (i := 3) nd rfl (Or.inl rfl) (pe_ix ix_list (pe_lst (pa_cons pe_str (pa_cons pe_str (pa_cons pe_str (pa_cons pe_str (pa_cons pe_str (pa_cons pe_str pa_nil))))))) (pe_call G__law_draw (hr.mono (by first | decide | omega)) (by rfl) D__law_draw.m D__law_draw.kp D__law_draw.b .nil pass0 (pa_cons (pv 0) (pa_cons pe_int pa_nil))) (fun _ _ => rfl)))
  (pss_cons (ps_if (PW.pt (pw_or (pt_cmpR op_lt (pe_ix ix_list (pv 1) pe_int (fun _ _ => rfl)) pe_int (nomark _)) (pw_or1 (pt_cmpR op_le (pv 2) pe_int (nomark _))))) (pss_one (ps_ret (pe_ix ix_list (pe_lst (pa_cons (pe_tup (pa_cons pe_str (pa_cons (pv 3) pa_nil))) (pa_cons (pe_tup (pa_cons pe_str (pa_cons (pv 3) pa_nil))) (pa_cons (pe_tup (pa_cons pe_str (pa_cons pe_int pa_nil))) (pa_cons (pe_tup (pa_cons pe_str (pa_cons pe_int pa_nil))) (pa_cons (pe_tup (pa_cons pe_str pa_nil)) pa_nil)))))) (pe_call G__law_draw (hr.mono (by first | decide | omega)) (by rfl) D__law_draw.m D__law_draw.kp D__law_draw.b .nil pass0 (pa_cons (pv 0) (pa_cons pe_int pa_nil))) (fun _ _ => rfl)))) pss_nil)
  (pss_cons (ps_if (pt_cmpR op_le (pv 2) pe_int (nomark _)) (pss_cons (ps_set (i := 4) nd rfl (Or.inl rfl) (pe_ix ix_list (pe_lst (pa_cons (pe_tup pa_nil) (pa_cons (pe_tup pa_nil) (pa_cons (pe_tup (pa_cons (pe_tup pa_nil) pa_nil)) (pa_cons (pe_tup (pa_cons (pe_tup pa_nil) (pa_cons (pe_tup pa_nil) pa_nil))) (pa_cons (pe_tup (pa_cons (pe_tup (pa_cons (pe_tup pa_nil) pa_nil)) pa_nil)) pa_nil)))))) (pe_call G__law_draw (hr.mono (by first | decide | omega)) (by rfl) D__law_draw.m D__law_draw.kp D__law_draw.b .nil pass0 (pa_cons (pv 0) (pa_cons pe_int pa_nil))) (fun _ _ => rfl)))
  (pss_one (ps_ret (pe_tup (pa_cons pe_str (pa_cons (pv 3) (pa_cons (pv 4) (pa_cons (pe_call G__law_loose hr (by rfl) D__law_loose.m D__law_loose.kp D__law_loose.b .nil pass0 (pa_cons (pv 0) (pa_cons (pv 1) pa_nil))) pa_nil)))))))) pss_nil)
  (pss_cons (ps_set (i := 5) nd rfl (Or.inl rfl) (pe_call G__law_loose hr (by rfl) D__law_loose.m D__law_loose.kp D__law_loose.b .nil pass0 (pa_cons (pv 0) (pa_cons (pv 1) pa_nil))))
  (pss_cons (ps_set (i := 6) nd rfl (Or.inl rfl) (pe_call G__law_loose hr (by rfl) D__law_loose.m D__law_loose.kp D__law_loose.b .nil pass0 (pa_cons (pv 0) (pa_cons (pv 1) pa_nil))))
  (pss_cons (ps_if (pt_cmpR op_le (pv 2) pe_int (nomark _)) (pss_one (ps_ret (pe_tup (pa_cons pe_str (pa_cons (pv 5) (pa_cons (pv 6) pa_nil)))))) pss_nil)
  (pss_one (ps_ret (pe_tup (pa_cons pe_str (pa_cons (pv 5) (pa_cons (pv 6) (pa_cons (pe_call G__law_loose hr (by rfl) D__law_loose.m D__law_loose.kp D__law_loose.b .nil pass0 (pa_cons (pv 0) (pa_cons (pv 1) pa_nil))) pa_nil))))))))))))))), ?_⟩
    refine seq_rest (fun σ' H' => σ' = [some (.ref b), some (.ref u), none, none, none, none, none] ∧ BoxAt H' b c ∧ H' u = some (.lst [.int (g - 1)]) ∧ SB2 b u H H') (fun rest => ?_) ?_
    · refine ⟨_, rfl, u, _, 0, _, rfl, rfl, SqL.of hu, rfl, _, _, rfl, rfl, _, rfl, u, _, 0, 0, rfl, rfl, hu, rfl, ?_⟩
      exact rest _ _ ⟨rfl, hB.other _ hbu.symm hcu.symm, upd_same, fun o v2 n1 n2 e => by rw [upd_ne n2]; exact e⟩
    rintro σ1 H1 ⟨rfl, hB1, hu1, w1⟩
    refine seq_rest (fun σ' H' => ∃ pk : Int, σ' = [some (.ref b), some (.ref u), some (.int pk), none, none, none, none] ∧ BoxAt H' b c ∧ H' u = some (.lst [.int (g - 1)]) ∧ SB2 b u H H') (fun rest => ?_) ?_
    · refine ⟨_, rfl, b, c, 12, rfl, hB1, by decide, fun pk H2 hp0 hp1 hB2 sb2 => ?_⟩
      exact rest _ _ ⟨pk, rfl, hB2, sb2 _ _ hbu.symm hu1, sb2t w1 (sb2b sb2)⟩
    rintro σ2 H2 ⟨pk, rfl, hB2, hu2, w2⟩
    refine seq_rest (fun σ' H' => ∃ nm : Str, σ' = [some (.ref b), some (.ref u), some (.int pk), some (.str nm), none, none, none] ∧ BoxAt H' b c ∧ H' u = some (.lst [.int (g - 1)]) ∧ SB2 b u H H') (fun rest => ?_) ?_
    · refine ⟨(by show 6 ≤ sizeLine; decide), fun l nl => ?_⟩
      have s3 := same_new nl (.lst [.str "x", .str "y", .str "f", .str "x", .str "g1", .str "y"])
      have hl3 : (upd H2 l (.lst [.str "x", .str "y", .str "f", .str "x", .str "g1", .str "y"])) l = some (.lst [.str "x", .str "y", .str "f", .str "x", .str "g1", .str "y"]) := upd_same
      obtain ⟨bs, hbs⟩ := hB2.lst
      have hnb : l ≠ b := (ne_of_none hbs nl).symm
      refine ⟨_, rfl, b, c, 6, rfl, hB2.same s3, by decide, fun r H4 hr0 hr1 hB4 sb4 => ?_⟩
      obtain ⟨nm, _, hz⟩ := strs_at ["x", "y", "f", "x", "g1", "y"] hr0 hr1
      refine ⟨l, _, _, _, rfl, rfl, SqL.of (sb4 _ _ hnb hl3), hz, ?_⟩
      exact rest _ _ ⟨nm, rfl, hB4, sb4 _ _ hbu.symm (s3 _ _ hu2), sb2t w2 (sb2t (sb2s s3) (sb2b sb4))⟩
    rintro σ4 H4 ⟨nm, rfl, hB4, hu4, w4⟩
    refine seq_rest (fun σ' H' => H' = H4 ∧ σ' = [some (.ref b), some (.ref u), some (.int pk), some (.str nm), none, none, none] ∧ 1 ≤ g) (fun rest => ?_) ?_
    · refine if_body (fun H' => H' = H4) (fun body => ?_) ?_
      · refine ⟨_, rfl, u, _, 0, _, rfl, rfl, SqL.of hu4, rfl, _, _, rfl, rfl, _, rfl, ite2 (fun _ => body _ rfl) (fun z => ⟨_, rfl, _, _, rfl, rfl, _, rfl, ite2 (fun _ => body _ rfl) (fun _ => rest _ _ ⟨rfl, rfl, ?_⟩)⟩)⟩
        have := of_decide_eq_false (Bool.eq_false_iff.mpr z)
        omega
      · rintro H5 rfl
        refine ⟨_, rfl, (by show 2 ≤ sizeLine; decide), fun t1 n1 => ⟨_, rfl, (by show 2 ≤ sizeLine; decide), fun t2 n2 => ⟨(by show 2 ≤ sizeLine; decide), fun t3 n3 => ⟨(by show 2 ≤ sizeLine; decide), fun t4 n4 => ⟨(by show 1 ≤ sizeLine; decide), fun t5 n5 => ⟨(by show 5 ≤ sizeLine; decide), fun m nm' => ?_⟩⟩⟩⟩⟩⟩
        have u6 := same_new nm' (.lst [.ref t1, .ref t2, .ref t3, .ref t4, .ref t5])
        have u5 := (same_new n5 _).trans u6
        have u4 := (same_new n4 _).trans u5
        have u3 := (same_new n3 _).trans u4
        have u2 := (same_new n2 _).trans u3
        have u1 := (same_new n1 _).trans u2
        have RM := nm_reps (K := K) (u2 _ _ upd_same) (u3 _ _ upd_same) (u4 _ _ upd_same) (u5 _ _ upd_same) (u6 _ _ upd_same)
        have nmb : m ≠ b := by
          obtain ⟨bs, hbs⟩ := (hB4.same ((same_new n1 _).trans ((same_new n2 _).trans ((same_new n3 _).trans ((same_new n4 _).trans (same_new n5 _)))))).lst
          exact (ne_of_none hbs nm').symm
        refine ⟨_, rfl, b, c, 5, rfl, hB4.same u1, by decide, fun r H8 hr0 hr5 hB8 sb8 => ?_⟩
        obtain ⟨y, e, i, hy, he, re⟩ := pickT RM hr0 hr5
        refine ⟨m, _, _, y, rfl, rfl, SqL.of (sb8 _ _ nmb upd_same), hy, ?_⟩
        obtain ⟨t, rfl, et, h1, h2⟩ := nm_ok he
        exact q y H8 t (g - 1) (re.mono (box_kx (hB4.same u1) hB8 sb8)) et (by omega) (by omega) (by omega) (sb8 _ _ hbu.symm (u1 _ _ hu4)) hB8 (sb2t w4 (sb2t (sb2s u1) (sb2b sb8)))
    rintro σ5 H5 ⟨rfl, rfl, hg1⟩
    refine seq_rest (fun σ' H' => H' = H5 ∧ σ' = [some (.ref b), some (.ref u), some (.int pk), some (.str nm), none, none, none]) (fun rest => ?_) ?_
    · refine ⟨_, rfl, _, _, rfl, rfl, _, rfl, ite2 (fun _ => ?_) (fun _ => rest _ _ ⟨rfl, rfl⟩)⟩
      refine ⟨(by show 0 ≤ sizeLine; decide), fun t1 n1 => ⟨(by show 0 ≤ sizeLine; decide), fun t2 n2 => ⟨(by show 0 ≤ sizeLine; decide), fun t3 n3 => ⟨(by show 1 ≤ sizeLine; decide), fun t4 n4 =>
          ⟨(by show 0 ≤ sizeLine; decide), fun t7 n7 => ⟨(by show 0 ≤ sizeLine; decide), fun t8 n8 => ⟨(by show 2 ≤ sizeLine; decide), fun t9 n9 => ⟨(by show 0 ≤ sizeLine; decide), fun ta na => ⟨(by show 1 ≤ sizeLine; decide), fun tb nb => ⟨(by show 1 ≤ sizeLine; decide), fun tc nc => ⟨(by show 5 ≤ sizeLine; decide), fun m nm' => ?_⟩⟩⟩⟩⟩⟩⟩⟩⟩⟩⟩
      have um := same_new nm' (.lst [.ref t1, .ref t2, .ref t4, .ref t9, .ref tc])
      have uc := (same_new nc _).trans um
      have ub := (same_new nb _).trans uc
      have ua := (same_new na _).trans ub
      have u9 := (same_new n9 _).trans ua
      have u8 := (same_new n8 _).trans u9
      have u7 := (same_new n7 _).trans u8
      have u4 := (same_new n4 _).trans u7
      have u3 := (same_new n3 _).trans u4
      have u2 := (same_new n2 _).trans u3
      have u1 := (same_new n1 _).trans u2
      have RM := part5_reps (K := K) (u2 _ _ upd_same) (u3 _ _ upd_same) (u4 _ _ upd_same) (u7 _ _ upd_same) (u8 _ _ upd_same) (u9 _ _ upd_same) (ua _ _ upd_same) (ub _ _ upd_same) (uc _ _ upd_same) (um _ _ upd_same)
      have nmb : m ≠ b := by
        obtain ⟨bs, hbs⟩ := (hB4.same ((same_new n1 _).trans ((same_new n2 _).trans ((same_new n3 _).trans ((same_new n4 _).trans ((same_new n7 _).trans ((same_new n8 _).trans ((same_new n9 _).trans ((same_new na _).trans ((same_new nb _).trans (same_new nc _))))))))))).lst
        exact (ne_of_none hbs nm').symm
      refine ⟨_, rfl, b, c, 5, rfl, hB4.same u1, by decide, fun r H8 hr0 hr6 hB8 sb8 => ?_⟩
      obtain ⟨y, e, i, hy, he, re⟩ := pickT RM hr0 hr6
      have eke := part5_ok he
      have w8 := sb2t w4 (sb2t (sb2s u1) (sb2b sb8))
      refine ⟨m, _, _, y, rfl, rfl, SqL.of (sb8 _ _ nmb upd_same), hy, ?_⟩
      have re8 := re.mono (box_kx (hB4.same u1) hB8 sb8)
      refine ⟨_, rfl, _, rfl, _, rfl, _, rfl, b, c, u, g - 1, rfl, hB8, sb8 _ _ hbu.symm (u1 _ _ hu4), hbu, hcu, by omega, by omega, fun z H9 t g' rz ez hz pz hgg hu9 hB9 w9 => ?_⟩
      have k9 := sb2_kx hB8 hB9 (sb8 _ _ hbu.symm (u1 _ _ hu4)) hu9 w9
      refine ⟨(by show 4 ≤ sizeLine; decide), fun t10 nt10 => ?_⟩
      have s10 := same_new nt10 (.tup [.str "fun", .str nm, y, z])
      refine q _ _ (.fn nm e t) g' (.tup' upd_same (.cons (.at rfl) (.cons (.at rfl) (.cons ((re8.mono k9).mono (kx_same s10)) (.one (rz.mono (kx_same s10))))))) ⟨eke, ez⟩ (by show hgt t + 1 ≤ _; omega) (by show prt t + 1 + 3 * g'.toNat ≤ _; omega) (by omega) (s10 _ _ hu9) (hB9.same s10) (sb2t w8 (sb2t w9 (sb2s s10)))
    rintro σ6 H6 ⟨rfl, rfl⟩
    refine ⟨_, rfl, _, rfl, b, c, u, g - 1, rfl, hB4, hu4, hbu, hcu, by omega, by omega, fun z1 H7 t1 g1 rz1 ez1 hz1 pz1 hgg1 hu7 hB7 w7 => ?_⟩
    refine ⟨_, rfl, _, rfl, b, c, u, g1, rfl, hB7, hu7, hbu, hcu, by omega, by omega, fun z2 H8 t2 g2 rz2 ez2 hz2 pz2 hgg2 hu8 hB8 w8 => ?_⟩
    have k8 := sb2_kx hB7 hB8 hu7 hu8 w8
    have rz18 := rz1.mono k8
    have w48 := sb2t w4 (sb2t w7 w8)
    refine ⟨_, rfl, _, _, rfl, rfl, _, rfl, ite2 (fun _ => ?_) (fun _ => ?_)⟩
    · refine ⟨_, rfl, _, rfl, (by show 3 ≤ sizeLine; decide), fun t9 n9 => ?_⟩
      have s9 := same_new n9 (.tup [.str "apply", z1, z2])
      refine q _ _ (.ap t1 t2) g2 (.tup' upd_same (.cons (.at rfl) (.cons (rz18.mono (kx_same s9)) (.one (rz2.mono (kx_same s9)))))) ⟨ez1, ez2⟩ ?_ ?_ (by omega) (s9 _ _ hu8) (hB8.same s9) (sb2t w48 (sb2s s9))
      · show max (hgt t1) (hgt t2) + 1 ≤ _
        omega
      · show prt t1 + prt t2 + 1 + 3 * g2.toNat ≤ _
        omega
    · refine ⟨_, rfl, _, rfl, _, rfl, _, rfl, b, c, u, g2, rfl, hB8, hu8, hbu, hcu, by omega, by omega, fun z3 H9 t3 g3 rz3 ez3 hz3 pz3 hgg3 hu9 hB9 w9 => ?_⟩
      have k9 := sb2_kx hB8 hB9 hu8 hu9 w9
      refine ⟨(by show 4 ≤ sizeLine; decide), fun t9 n9 => ?_⟩
      have s9 := same_new n9 (.tup [.str "if", z1, z2, z3])
      refine q _ _ (.iff t1 t2 t3) g3 (.tup' upd_same (.cons (.at rfl) (.cons ((rz18.mono k9).mono (kx_same s9)) (.cons ((rz2.mono k9).mono (kx_same s9)) (.one (rz3.mono (kx_same s9))))))) ⟨ez1, ez2, ez3⟩ ?_ ?_ (by omega) (s9 _ _ hu9) (hB9.same s9) (sb2t w48 (sb2t w9 (sb2s s9)))
      · show max (hgt t1) (max (hgt t2) (hgt t3)) + 1 ≤ _
        omega
      · show prt t1 + prt t2 + prt t3 + 1 + 3 * g3.toNat ≤ _
        omega
end
end Pk

set_option maxRecDepth 100000
set_option maxHeartbeats 4000000
namespace Pk
open PySem PySem.Spec PyProof.Rows L2
/-! ### _law_twisted -/
theorem repl_ap (f a : Tm) (j : Nat) (c c' : Tm) (h : ([f, a] : List Tm)[j]? = some c) : ∃ t', tmD t' = .tup ((D.at (.str "apply") :: ([f, a] : List Tm).map tmD).take (j + 1) ++ [tmD c'] ++ (D.at (.str "apply") :: ([f, a] : List Tm).map tmD).drop (j + 2)) ∧
    (ek (.ap f a) → ek c' → ek t') ∧ hgt t' ≤ max (hgt (.ap f a)) (hgt c' + 1) ∧ prt t' + prt c ≤ prt (.ap f a) + prt c' := by
  match j, h with
  | 0, h =>
    cases h
    exact ⟨.ap c' a, rfl, fun e e' => ⟨e', e.2⟩, by show max (hgt c') (hgt a) + 1 ≤ max (max (hgt f) (hgt a) + 1) (hgt c' + 1); omega, by show prt c' + prt a + 1 + prt f ≤ prt f + prt a + 1 + prt c'; omega⟩
  | 1, h =>
    cases h
    exact ⟨.ap f c', rfl, fun e e' => ⟨e.1, e'⟩, by show max (hgt f) (hgt c') + 1 ≤ max (max (hgt f) (hgt a) + 1) (hgt c' + 1); omega, by show prt f + prt c' + 1 + prt a ≤ prt f + prt a + 1 + prt c'; omega⟩
  | j + 2, h => simp at h
theorem repl_iff (x y z : Tm) (j : Nat) (c c' : Tm) (h : ([x, y, z] : List Tm)[j]? = some c) : ∃ t', tmD t' = .tup ((D.at (.str "if") :: ([x, y, z] : List Tm).map tmD).take (j + 1) ++ [tmD c'] ++ (D.at (.str "if") :: ([x, y, z] : List Tm).map tmD).drop (j + 2)) ∧
    (ek (.iff x y z) → ek c' → ek t') ∧ hgt t' ≤ max (hgt (.iff x y z)) (hgt c' + 1) ∧ prt t' + prt c ≤ prt (.iff x y z) + prt c' := by
  match j, h with
  | 0, h =>
    cases h
    exact ⟨.iff c' y z, rfl, fun e e' => ⟨e', e.2.1, e.2.2⟩, by show max (hgt c') (max (hgt y) (hgt z)) + 1 ≤ max (max (hgt x) (max (hgt y) (hgt z)) + 1) (hgt c' + 1); omega, by show prt c' + prt y + prt z + 1 + prt x ≤ prt x + prt y + prt z + 1 + prt c'; omega⟩
  | 1, h =>
    cases h
    exact ⟨.iff x c' z, rfl, fun e e' => ⟨e.1, e', e.2.2⟩, by show max (hgt x) (max (hgt c') (hgt z)) + 1 ≤ max (max (hgt x) (max (hgt y) (hgt z)) + 1) (hgt c' + 1); omega, by show prt x + prt c' + prt z + 1 + prt y ≤ prt x + prt y + prt z + 1 + prt c'; omega⟩
  | 2, h =>
    cases h
    exact ⟨.iff x y c', rfl, fun e e' => ⟨e.1, e.2.1, e'⟩, by show max (hgt x) (max (hgt y) (hgt c')) + 1 ≤ max (max (hgt x) (max (hgt y) (hgt z)) + 1) (hgt c' + 1); omega, by show prt x + prt y + prt c' + 1 + prt z ≤ prt x + prt y + prt z + 1 + prt c'; omega⟩
  | j + 3, h => simp at h
/-- the parts of a term that another may stand in the place of -/
def kids : Tm → Option (Str × List D × List Tm)
  | .fn s k b => some ("fun", [.at (.str s), k], [b])
  | .ap f a => some ("apply", [], [f, a])
  | .iff a b c => some ("if", [], [a, b, c])
  | _ => none
theorem kids_some {t : Tm} {wd : Str} {pre : List D} {cs : List Tm} (h : kids t = some (wd, pre, cs)) : tmD t = .tup (.at (.str wd) :: pre ++ cs.map tmD) ∧ ((wd = "fun" ∧ pre.length = 2 ∧ cs.length = 1) ∨ (wd = "apply" ∧ pre = [] ∧ cs.length = 2) ∨ (wd = "if" ∧ pre = [] ∧ cs.length = 3)) ∧
    (∀ c ∈ cs, hgt c < hgt t ∧ prt c < prt t ∧ (ek t → ek c)) ∧
    ∀ (j : Nat) (c c' : Tm), cs[j]? = some c → ∃ t', tmD t' = .tup ((D.at (.str wd) :: pre ++ cs.map tmD).take (pre.length + j + 1) ++ [tmD c'] ++ (D.at (.str wd) :: pre ++ cs.map tmD).drop (pre.length + j + 2)) ∧
      (ek t → ek c' → ek t') ∧ hgt t' ≤ max (hgt t) (hgt c' + 1) ∧ prt t' + prt c ≤ prt t + prt c' := by
  cases t with
  | nm s => cases h
  | an v => cases h
  | st => cases h
  | fn s k b =>
    cases h
    refine ⟨rfl, .inl ⟨rfl, rfl, rfl⟩, ?_, ?_⟩
    · intro c hc
      rw [List.mem_singleton.mp hc]
      exact ⟨Nat.lt_succ_self _, Nat.lt_succ_self _, fun e => e.2⟩
    · intro j c c' hj
      match j, hj with
      | 0, hj =>
        cases hj
        exact ⟨.fn s k c', rfl, fun e e' => ⟨e.1, e'⟩, by show hgt c' + 1 ≤ max (hgt b + 1) (hgt c' + 1); omega, by show prt c' + 1 + prt b ≤ prt b + 1 + prt c'; omega⟩
      | j + 1, hj => simp at hj
  | ap f a =>
    cases h
    refine ⟨rfl, .inr (.inl ⟨rfl, rfl, rfl⟩), (parts_ap f a).sub, fun j c c' hj => ?_⟩
    have := repl_ap f a j c c' hj
    rw [show ([] : List D).length + j + 1 = j + 1 by show 0 + j + 1 = j + 1; omega, show ([] : List D).length + j + 2 = j + 2 by show 0 + j + 2 = j + 2; omega]
    exact this
  | iff x y z =>
    cases h
    refine ⟨rfl, .inr (.inr ⟨rfl, rfl, rfl⟩), (parts_iff x y z).sub, fun j c c' hj => ?_⟩
    have := repl_iff x y z j c c' hj
    rw [show ([] : List D).length + j + 1 = j + 1 by show 0 + j + 1 = j + 1; omega, show ([] : List D).length + j + 2 = j + 2 by show 0 + j + 2 = j + 2; omega]
    exact this
theorem word_in (t : Tm) : ∃ wd r, tmD t = .tup (.at (.str wd) :: r) ∧ (kids t = none ∧ wd ≠ "fun" ∧ wd ≠ "apply" ∧ wd ≠ "if" ∨ ∃ pre cs, kids t = some (wd, pre, cs)) := by
  cases t with
  | nm s => exact ⟨_, _, rfl, .inl ⟨rfl, by decide, by decide, by decide⟩⟩
  | an s => exact ⟨_, _, rfl, .inl ⟨rfl, by decide, by decide, by decide⟩⟩
  | st => exact ⟨_, _, rfl, .inl ⟨rfl, by decide, by decide, by decide⟩⟩
  | fn s k b => exact ⟨_, _, rfl, .inr ⟨_, _, rfl⟩⟩
  | ap f a => exact ⟨_, _, rfl, .inr ⟨_, _, rfl⟩⟩
  | iff a b c => exact ⟨_, _, rfl, .inr ⟨_, _, rfl⟩⟩
def oneT : Tm := .an 1
theorem one_rep {K : PySem.W.Frag} {M : Hp} {a : Addr} (h : M a = some (.tup [.str "answer", .int 1])) : Rep K M (.ref a) (tmD (.an 1)) := .tup' h (.cons (.at rfl) (.one (.at rfl)))
theorem tw1_reps {K : PySem.W.Frag} {M : Hp} {v : V} {t : Tm} {o t1 t2 t4 t5 t6 t7 t8 : Addr} (ho : M o = some (.tup [.str "answer", .int 1])) (h1 : M t1 = some (.tup [.str "name", .str "x"])) (h2 : M t2 = some (.tup [.str "name", .str "q"])) (h4 : M t4 = some (.tup [.str "stop"])) (h5 : M t5 = some (.tup []))
    (h6 : M t6 = some (.tup [.str "name", .str "x"])) (h7 : M t7 = some (.tup [.str "fun", .str "x", .ref t5, .ref t6])) (h8 : M t8 = some (.tup [.str "apply", v, .ref o])) (r : Rep K M v (tmD t)) :
    Reps K M [.ref t1, .ref t2, .ref o, .ref t4, .ref t7, .ref t8] ([.nm "x", .nm "q", .an 1, .st, .fn "x" (.tup []) (.nm "x"), .ap t (.an 1)].map tmD) :=
  .cons (.tup' h1 (.cons (.at rfl) (.one (.at rfl)))) (.cons (.tup' h2 (.cons (.at rfl) (.one (.at rfl)))) (.cons (one_rep ho) (.cons (.tup' h4 (.one (.at rfl))) (.cons (.tup' h7 (.cons (.at rfl) (.cons (.at rfl) (.cons (.tup' h5 .nil) (.one (.tup' h6 (.cons (.at rfl) (.one (.at rfl)))))))))
    (.one (.tup' h8 (.cons (.at rfl) (.cons r (.one (one_rep ho))))))))))
theorem tw2_reps {K : PySem.W.Frag} {M : Hp} {v : V} {t : Tm} {o t1 t2 t3 t4 t5 t6 : Addr} (ho : M o = some (.tup [.str "answer", .int 1])) (h1 : M t1 = some (.tup [.str "apply", .ref o, v])) (h2 : M t2 = some (.tup [.str "if", v, .ref o, .ref o])) (h3 : M t3 = some (.tup [.str "if", .ref o, .ref o, v])) (h4 : M t4 = some (.tup [])) (h5 : M t5 = some (.tup [.ref t4]))
    (h6 : M t6 = some (.tup [.str "fun", .str "y", .ref t5, v])) (r : Rep K M v (tmD t)) :
    Reps K M [.ref t1, .ref t2, .ref t3, .ref t6] ([.ap (.an 1) t, .iff t (.an 1) (.an 1), .iff (.an 1) (.an 1) t, .fn "y" (.tup [.tup []]) t].map tmD) :=
  .cons (.tup' h1 (.cons (.at rfl) (.cons (one_rep ho) (.one r)))) (.cons (.tup' h2 (.cons (.at rfl) (.cons r (.cons (one_rep ho) (.one (one_rep ho)))))) (.cons (.tup' h3 (.cons (.at rfl) (.cons (one_rep ho) (.cons (one_rep ho) (.one r)))))
    (.one (.tup' h6 (.cons (.at rfl) (.cons (.at rfl) (.cons (.tup' h5 (.one (.tup' h4 .nil))) (.one r))))))))
theorem tw3_reps {K : PySem.W.Frag} {M : Hp} {s : Str} {k : D} {g : Tm} {x2 x3 : V} {t1 t2 t3 t4 t5 t6 : Addr} (h1 : M t1 = some (.tup [])) (h2 : M t2 = some (.tup [.ref t1])) (h3 : M t3 = some (.tup [.str "fun", .str s, .ref t2, x3])) (h4 : M t4 = some (.tup [])) (h5 : M t5 = some (.tup [.str "fun", .str s, .ref t4, x3])) (h6 : M t6 = some (.tup [.str "fun", .str "q", x2, x3]))
    (r2 : Rep K M x2 k) (r3 : Rep K M x3 (tmD g)) : Reps K M [.ref t3, .ref t5, .ref t6] ([.fn s (.tup [.tup []]) g, .fn s (.tup []) g, .fn "q" k g].map tmD) :=
  .cons (.tup' h3 (.cons (.at rfl) (.cons (.at rfl) (.cons (.tup' h2 (.one (.tup' h1 .nil))) (.one r3))))) (.cons (.tup' h5 (.cons (.at rfl) (.cons (.at rfl) (.cons (.tup' h4 .nil) (.one r3))))) (.one (.tup' h6 (.cons (.at rfl) (.cons (.at rfl) (.cons r2 (.one r3)))))))
theorem ek1 : Ek (.tup [.tup []]) := ⟨by decide, by decide, by decide⟩
theorem ek0 : Ek (.tup []) := ⟨by decide, by decide, by decide⟩
/-- what may stand for a term -/
def TwOk (t u : Tm) : Prop := ek u ∧ hgt u ≤ hgt t + 1 ∧ prt u ≤ prt t + 3
theorem tw1_ok {t : Tm} (e : ek t) : ∀ u ∈ ([.nm "x", .nm "q", .an 1, .st, .fn "x" (.tup []) (.nm "x"), .ap t (.an 1)] : List Tm), TwOk t u := by
  intro u hu
  have := hgt_pos t
  have := prt_pos t
  simp only [List.mem_cons, List.not_mem_nil, or_false] at hu
  rcases hu with rfl | rfl | rfl | rfl | rfl | rfl
  · exact ⟨trivial, by simp only [hgt]; omega, by simp only [prt]; omega⟩
  · exact ⟨trivial, by simp only [hgt]; omega, by simp only [prt]; omega⟩
  · exact ⟨trivial, by simp only [hgt]; omega, by simp only [prt]; omega⟩
  · exact ⟨trivial, by simp only [hgt]; omega, by simp only [prt]; omega⟩
  · exact ⟨⟨ek0, trivial⟩, by simp only [hgt]; omega, by simp only [prt]; omega⟩
  · exact ⟨⟨e, trivial⟩, by simp only [hgt]; omega, by simp only [prt]; omega⟩
theorem tw2_ok {t : Tm} (e : ek t) : ∀ u ∈ ([.ap (.an 1) t, .iff t (.an 1) (.an 1), .iff (.an 1) (.an 1) t, .fn "y" (.tup [.tup []]) t] : List Tm), TwOk t u := by
  intro u hu
  have := hgt_pos t
  have := prt_pos t
  simp only [List.mem_cons, List.not_mem_nil, or_false] at hu
  rcases hu with rfl | rfl | rfl | rfl
  · exact ⟨⟨trivial, e⟩, by simp only [hgt]; omega, by simp only [prt]; omega⟩
  · exact ⟨⟨e, trivial, trivial⟩, by simp only [hgt]; omega, by simp only [prt]; omega⟩
  · exact ⟨⟨trivial, trivial, e⟩, by simp only [hgt]; omega, by simp only [prt]; omega⟩
  · exact ⟨⟨ek1, e⟩, by simp only [hgt]; omega, by simp only [prt]; omega⟩
theorem tw3_ok {s : Str} {k : D} {g : Tm} (e : ek (.fn s k g)) : ∀ u ∈ ([.fn s (.tup [.tup []]) g, .fn s (.tup []) g, .fn "q" k g] : List Tm), TwOk (.fn s k g) u := by
  intro u hu
  simp only [List.mem_cons, List.not_mem_nil, or_false] at hu
  rcases hu with rfl | rfl | rfl
  · exact ⟨⟨ek1, e.2⟩, by simp only [hgt]; omega, by simp only [prt]; omega⟩
  · exact ⟨⟨ek0, e.2⟩, by simp only [hgt]; omega, by simp only [prt]; omega⟩
  · exact ⟨⟨e.1, e.2⟩, by simp only [hgt]; omega, by simp only [prt]; omega⟩
/-- a list of terms that may stand for one -/
def TwAt (K : PySem.W.Frag) (H : Hp) (m : Addr) (t : Tm) (n : Nat) : Prop := ∃ (xs : List V) (us : List Tm), H m = some (.lst xs) ∧ Reps K H xs (us.map tmD) ∧ (∀ u ∈ us, TwOk t u) ∧ xs.length = n
theorem ok_mem {t : Tm} {us ws : List Tm} (h1 : ∀ u ∈ us, TwOk t u) (h2 : ∀ u ∈ ws, TwOk t u) : ∀ u ∈ us ++ ws, TwOk t u := fun u hu => (List.mem_append.mp hu).elim (h1 u) (h2 u)
section
variable {P : Program} {w : World} {K : PySem.W.Frag} {mg : Str → Option Value} {base : Heap}
def spTw (K : PySem.W.Frag) (n : Nat) : Sp := fun vs H Q _ => ∃ (b c : Addr) (v : V) (t : Tm), vs = [.ref b, v] ∧ BoxAt H b c ∧ Rep K H v (tmD t) ∧ ek t ∧ hgt t ≤ n ∧
  ∀ (z : V) (H' : Hp) (u : Tm), Rep K H' z (tmD u) → TwOk t u → BoxAt H' b c → SB b H H' → Q z H'
theorem nbm {H : Hp} {b c m : Addr} (h : BoxAt H b c) (n : H m = none) : m ≠ b := by
  obtain ⟨bs, hbs⟩ := h.lst
  exact (ne_of_none hbs n).symm
theorem ok_tw {f f2 : Addr} {fd d2 : FuncData} (D__law_twisted : Df K mg "_law_twisted" s__law_twisted ["box", "term"] f fd) (D__law_draw : Df K mg "_law_draw" s__law_draw ["box", "many"] f2 d2) (B : Bt mg) :
    ∀ n : Nat, FnOk P w K mg base CX0 (n + 1) f fd ["box", "term"] (spTw K n)
  | 0 => (fn_none (f := f) (fd := fd) fun vs H Q E h => by
    obtain ⟨b, c, v, t, _, _, _, _, h1, _⟩ := h
    have := hgt_pos t
    omega).mono (by omega)
  | n + 1 => by
    have G__law_twisted := ok_tw D__law_twisted D__law_draw B n
    have G__law_draw : FnOk P w K mg base CX0 1 f2 d2 ["box", "many"] spDraw := ok_draw D__law_draw B
    refine D__law_twisted.ok c__law_twisted (fun vs H Q E h => ?_) (fun cdv A outer s H vs Q E hr h => ?_)
    · obtain ⟨b, c, v, t, rfl, _⟩ := h
      rfl
    obtain ⟨b, c, v, t, rfl, hB, rv, hek, hh, q⟩ := h
    have nd := c__law_twisted.nd
    refine ⟨_, (pss_cons (ps_set (i := 2) nd rfl (Or.inl rfl) (pe_ix ix_tup (pv 1) pe_int (fun _ _ => rfl)))
  (pss_cons (ps_if (PW.pt (pw_and (pt_cmpR op_in_seq (pv 2) (pe_tup (pa_cons pe_str (pa_cons pe_str (pa_cons pe_str pa_nil)))) rfl) (pw_and1 (pt_cmpR op_gt (pe_call G__law_draw (hr.mono (by first | decide | omega)) (by rfl) D__law_draw.m D__law_draw.kp D__law_draw.b .nil pass0 (pa_cons (pv 0) (pa_cons pe_int pa_nil))) pe_int (nomark _))))) (pss_cons (ps_set (i := 3) nd rfl (Or.inl rfl) pe_int)
  (pss_cons (ps_if (pt_cmpR op_ne (pv 2) pe_str (nomark _)) (pss_one (ps_set (i := 3) nd rfl (Or.inl rfl) (pe_op op_add pe_int (pe_call G__law_draw (hr.mono (by first | decide | omega)) (by rfl) D__law_draw.m D__law_draw.kp D__law_draw.b .nil pass0 (pa_cons (pv 0) (pa_cons (pe_op op_sub (pe_callB call_len_seq (by rfl) B.b_len PySem.boot_len (pa_cons (pv 1) pa_nil)) pe_int) pa_nil)))))) pss_nil)
  (pss_one (ps_ret (pe_op op_catP (pe_op op_catP (pe_slice sl_tupP (pv 1) po_none (po_some (pv 3))) (pe_tup (pa_cons (pe_call G__law_twisted hr (by rfl) D__law_twisted.m D__law_twisted.kp D__law_twisted.b .nil pass0 (pa_cons (pv 0) (pa_cons (pe_ix ix_tup (pv 1) (pv 3) (fun _ _ => rfl)) pa_nil))) pa_nil))) (pe_slice sl_tupP (pv 1) (po_some (pe_op op_add (pv 3) pe_int)) po_none)))))) pss_nil)
  (pss_cons (ps_set (i := 4) nd rfl (Or.inl rfl) (pe_tup (pa_cons pe_str (pa_cons pe_int pa_nil))))
  (pss_cons (ps_set (i := 5) nd rfl (Or.inl rfl) (pe_lst (pa_cons (pe_tup (pa_cons pe_str (pa_cons pe_str pa_nil))) (pa_cons (pe_tup (pa_cons pe_str (pa_cons pe_str pa_nil))) (pa_cons (pv 4) (pa_cons (pe_tup (pa_cons pe_str pa_nil)) (pa_cons (pe_tup (pa_cons pe_str (pa_cons pe_str (pa_cons (pe_tup pa_nil) (pa_cons (pe_tup (pa_cons pe_str (pa_cons pe_str pa_nil))) pa_nil))))) (pa_cons (pe_tup (pa_cons pe_str (pa_cons (pv 1) (pa_cons (pv 4) pa_nil)))) pa_nil))))))))
  (pss_cons (ps_set (i := 5) nd rfl (Or.inl rfl) (pe_op op_cat (pv 5) (pe_lst (pa_cons (pe_tup (pa_cons pe_str (pa_cons (pv 4) (pa_cons (pv 1) pa_nil)))) (pa_cons (pe_tup (pa_cons pe_str (pa_cons (pv 1) (pa_cons (pv 4) (pa_cons (pv 4) pa_nil))))) (pa_cons (pe_tup (pa_cons pe_str (pa_cons (pv 4) (pa_cons (pv 4) (pa_cons (pv 1) pa_nil))))) (pa_cons (pe_tup (pa_cons pe_str (pa_cons pe_str (pa_cons (pe_tup (pa_cons (pe_tup pa_nil) pa_nil)) (pa_cons (pv 1) pa_nil))))) pa_nil)))))))
  (pss_cons (ps_if (pt_cmpR op_eq (pv 2) pe_str (nomark _)) (pss_one (ps_set (i := 5) nd rfl (Or.inl rfl) (pe_op op_cat (pv 5) (pe_lst (pa_cons (pe_tup (pa_cons pe_str (pa_cons (pe_ix ix_tup (pv 1) pe_int (fun _ _ => rfl)) (pa_cons (pe_tup (pa_cons (pe_tup pa_nil) pa_nil)) (pa_cons (pe_ix ix_tup (pv 1) pe_int (fun _ _ => rfl)) pa_nil))))) (pa_cons (pe_tup (pa_cons pe_str (pa_cons (pe_ix ix_tup (pv 1) pe_int (fun _ _ => rfl)) (pa_cons (pe_tup pa_nil) (pa_cons (pe_ix ix_tup (pv 1) pe_int (fun _ _ => rfl)) pa_nil))))) (pa_cons (pe_tup (pa_cons pe_str (pa_cons pe_str (pa_cons (pe_ix ix_tup (pv 1) pe_int (fun _ _ => rfl)) (pa_cons (pe_ix ix_tup (pv 1) pe_int (fun _ _ => rfl)) pa_nil))))) pa_nil))))))) pss_nil)
  (pss_one (ps_ret (pe_ix ix_list (pv 5) (pe_call G__law_draw (hr.mono (by first | decide | omega)) (by rfl) D__law_draw.m D__law_draw.kp D__law_draw.b .nil pass0 (pa_cons (pv 0) (pa_cons (pe_callB call_len_seq (by rfl) B.b_len PySem.boot_len (pa_cons (pv 5) pa_nil)) pa_nil))) (fun _ _ => rfl)))))))))), ?_⟩
    obtain ⟨wd, r, hd, hw⟩ := word_in t
    refine seq_rest (fun σ' H' => H' = H ∧ σ' = [some (.ref b), some v, some (.str wd), none, none, none]) (fun rest => ?_) ?_
    · rw [hd] at rv
      obtain ⟨a, xs, rfl, hx, rx⟩ := rv.inv
      obtain ⟨x0, hx0, r0⟩ := rx.getD (i := 0) rfl
      obtain ⟨rfl, _⟩ := r0.inva
      exact ⟨_, rfl, a, _, 0, _, rfl, rfl, hx.sq, atI_nat (j := 0) hx0, rest _ _ ⟨rfl, rfl⟩⟩
    rintro σ0 H0 ⟨rfl, rfl⟩
    refine seq_rest (fun σ' H' => BoxAt H' b c ∧ SB b H0 H' ∧ Rep K H' v (tmD t) ∧ σ' = [some (.ref b), some v, some (.str wd), none, none, none]) (fun rest => ?_) ?_
    · refine ⟨_, rfl, (by show 3 ≤ sizeLine; decide), fun t1 n1 => ?_⟩
      have s1 := same_new n1 (.tup [.str "fun", .str "apply", .str "if"])
      refine ⟨t1, _, rfl, .inr (SqT.of upd_same), rfl, rfl, _, rfl, ?_⟩
      have hB1 := hB.same s1
      have rv1 := rv.mono (kx_same s1)
      have sb1 : SB b H0 (upd H0 t1 (.tup [.str "fun", .str "apply", .str "if"])) := sb_same s1
      generalize upd H0 t1 (.tup [.str "fun", .str "apply", .str "if"]) = H1 at *
      rw [show ([.str "fun", .str "apply", .str "if"] : List V) = (["fun", "apply", "if"] : List Str).map V.str from rfl, inV_str]
      rcases hw with ⟨_, w1, w2, w3⟩ | ⟨pre, cs, hk⟩
      · rw [decide_eq_false (show ¬ wd ∈ (["fun", "apply", "if"] : List Str) from fun h => by
          simp only [List.mem_cons, List.not_mem_nil, or_false] at h
          rcases h with h | h | h
          · exact w1 h
          · exact w2 h
          · exact w3 h)]
        exact iteF (rest _ _ ⟨hB1, sb1, rv1, rfl⟩)
      · obtain ⟨ht, hcs, hsub, hrep⟩ := kids_some hk
        rw [decide_eq_true (show wd ∈ (["fun", "apply", "if"] : List Str) by
          rcases hcs with ⟨e, _⟩ | ⟨e, _⟩ | ⟨e, _⟩ <;> rw [e] <;> decide)]
        refine iteT ⟨_, rfl, b, c, 4, rfl, hB1, by decide, fun r2 H2 hr0 hr4 hB2 sb2 => ⟨_, _, rfl, rfl, _, rfl, ite2 (fun _ => ?_) (fun _ => rest _ _ ⟨hB2, sb1.trans sb2, rv1.mono (box_kx hB1 hB2 sb2), rfl⟩)⟩⟩
        have rv2 := rv1.mono (box_kx hB1 hB2 sb2)
        have sb02 := sb1.trans sb2
        rw [ht] at rv2
        obtain ⟨a, xs, rfl, hx, rx⟩ := rv2.inv
        have lx := rx.length
        rw [List.length_append, List.length_cons, List.length_map] at lx
        refine seq_rest (fun σ' H' => σ' = [some (.ref b), some (.ref a), some (.str wd), some (.int 3), none, none] ∧ H' = H2) (fun rest1 => rest1 _ _ ⟨rfl, rfl⟩) ?_
        rintro σ3 H3 ⟨rfl, rfl⟩
        refine seq_rest (fun σ' H' => ∃ j : Nat, j < cs.length ∧ σ' = [some (.ref b), some (.ref a), some (.str wd), some (.int ((pre.length + j + 1 : Nat) : Int)), none, none] ∧ BoxAt H' b c ∧ SB b H0 H' ∧ TupAt K H' a xs ∧ Reps K H' xs (.at (.str wd) :: pre ++ cs.map tmD)) (fun rest2 => ?_) ?_
        · refine ⟨_, rfl, rfl, _, rfl, ?_⟩
          rcases hcs with ⟨e, e1, e2⟩ | hcs2
          · rw [show (!decide (V.str wd = V.str "fun")) = false by rw [e]; rfl]
            exact iteF (rest2 _ _ ⟨0, by omega, by rw [e1]; rfl, hB2, sb02, hx, rx⟩)
          · have hne : wd ≠ "fun" := by rcases hcs2 with ⟨e, _⟩ | ⟨e, _⟩ <;> rw [e] <;> decide
            have hpre : pre = [] := by rcases hcs2 with ⟨_, e, _⟩ | ⟨_, e, _⟩ <;> exact e
            have hcl : 2 ≤ cs.length := by rcases hcs2 with ⟨_, _, e⟩ | ⟨_, _, e⟩ <;> omega
            rw [show (!decide (V.str wd = V.str "fun")) = true by rw [decide_eq_false fun z => hne (V.str.inj z)]; rfl]
            have lp : pre.length = 0 := by rw [hpre]; rfl
            refine iteT ⟨_, rfl, _, rfl, a, xs, rfl, .inr hx.sq, _, _, rfl, rfl, b, c, _, rfl, hB2, by omega, fun r5 H5 h50 h51 hB5 sb5 => ⟨_, _, rfl, rfl, ?_⟩⟩
            have k5 := box_kx hB2 hB5 sb5
            obtain ⟨j, rfl⟩ : ∃ j : Nat, r5 = (j : Int) := ⟨r5.toNat, by omega⟩
            exact rest2 _ _ ⟨j, by omega, by rw [lp, show ((0 + j + 1 : Nat) : Int) = 1 + (j : Int) by omega]; rfl, hB5, sb02.trans sb5, hx.kx k5, rx.mono k5⟩
        · rintro σ5 H5 ⟨j, hj, rfl, hB5, sb5, hx5, rx5⟩
          obtain ⟨cj, hcj⟩ : ∃ cj, cs[j]? = some cj := ⟨_, List.getElem?_eq_getElem hj⟩
          obtain ⟨hc1, hc2, hc3⟩ := hsub cj (List.mem_of_getElem? hcj)
          have hat : (D.at (.str wd) :: pre ++ cs.map tmD)[pre.length + j + 1]? = some (tmD cj) := by
            rw [List.cons_append, List.getElem?_cons_succ, List.getElem?_append_right (by omega), show pre.length + j - pre.length = j by omega, List.getElem?_map, hcj]
            rfl
          obtain ⟨xj, hxj, rxj⟩ := rx5.getD hat
          have lx5 := rx5.length
          refine ⟨_, rfl, _, rfl, _, rfl, a, xs, rfl, hx5, fun c1 H6 s6 hc1' => ?_⟩
          rw [cutV_to] at hc1'
          have hc1'' : TupAt K H6 c1 (xs.take (pre.length + j + 1)) := hc1'
          refine ⟨_, rfl, _, rfl, _, rfl, a, xs, _, _, rfl, rfl, (hx5.same s6).sq, atI_nat hxj, b, c, xj, cj, rfl, hB5.same s6, rxj.mono (kx_same s6), hc3 hek, by omega, fun z H7 u rz tz hB7 sb7 => ?_⟩
          have k7 := box_kx (hB5.same s6) hB7 sb7
          refine ⟨(by show 1 ≤ sizeLine; decide), fun t8 n8 => ?_⟩
          have s8 := same_new n8 (.tup [z])
          have lxs : xs.length ≤ 10 := by
            rw [List.length_append, List.length_cons, List.length_map] at lx5
            rcases hcs with ⟨_, e1, e2⟩ | ⟨_, e1, e2⟩ | ⟨_, e1, e2⟩
            · omega
            · rw [e1] at lx5
              simp only [List.length_nil] at lx5
              omega
            · rw [e1] at lx5
              simp only [List.length_nil] at lx5
              omega
          have l1 : (xs.take (pre.length + j + 1)).length ≤ 10 := by rw [List.length_take]; omega
          have l2 : (xs.drop (pre.length + j + 2)).length ≤ 10 := by rw [List.length_drop]; omega
          refine ⟨c1, t8, _, _, rfl, rfl, (hc1''.kx k7).same s8, .inl upd_same, small6' (by show (xs.take _).length + 1 ≤ 1000000; omega), fun c2 H9 s9 hc2 => ?_⟩
          have hc2' : TupAt K H9 c2 (xs.take (pre.length + j + 1) ++ [z]) := hc2
          refine ⟨_, rfl, _, rfl, _, _, rfl, rfl, _, rfl, a, xs, rfl, (((hx5.same s6).kx k7).same s8).same s9, fun c3 H10 s10 hc3 => ?_⟩
          rw [show ((pre.length + j + 1 : Nat) : Int) + 1 = ((pre.length + j + 2 : Nat) : Int) by omega, cutV_from] at hc3
          refine ⟨c2, c3, _, _, rfl, rfl, hc2'.same s10, hc3, small6' (by rw [List.length_append, List.length_singleton]; omega), fun c4 H11 s11 hc4 => ?_⟩
          have s811 := ((s8.trans s9).trans s10).trans s11
          have k611 := ((kx_same s6).trans k7).trans (kx_same s811)
          obtain ⟨u', hu', eu', hgu, hpu⟩ := hrep j cj u hcj
          obtain ⟨eu, hu1, hu2⟩ := tz
          refine q _ H11 u' (hu' ▸ .tup hc4 ((((rx5.mono k611).take _).append (.one (rz.mono (kx_same s811)))).append ((rx5.mono k611).drop _))) ⟨eu' hek eu, by omega, by omega⟩ (hB7.same s811) (sb5.trans ((sb_same s6).trans (sb7.trans (sb_same s811))))
    rintro σ1 H1 ⟨hB1, sb1, rv1, rfl⟩
    refine seq_rest (fun σ' H' => ∃ o, σ' = [some (.ref b), some v, some (.str wd), none, some (.ref o), none] ∧ BoxAt H' b c ∧ SB b H0 H' ∧ Rep K H' v (tmD t) ∧ H' o = some (.tup [.str "answer", .int 1])) (fun rest => ?_) ?_
    · refine ⟨(by show 2 ≤ sizeLine; decide), fun t1 n1 => ?_⟩
      have s1 := same_new n1 (.tup [.str "answer", .int 1])
      exact rest _ _ ⟨t1, rfl, hB1.same s1, sb1.trans (sb_same s1), rv1.mono (kx_same s1), upd_same⟩
    clear hB1 sb1 rv1
    rintro σ2 H2 ⟨o, rfl, hB2, sb2, rv2, ho2⟩
    refine seq_rest (fun σ' H' => ∃ m, σ' = [some (.ref b), some v, some (.str wd), none, some (.ref o), some (.ref m)] ∧ BoxAt H' b c ∧ SB b H0 H' ∧ Rep K H' v (tmD t) ∧ H' o = some (.tup [.str "answer", .int 1]) ∧ TwAt K H' m t 6) (fun rest => ?_) ?_
    · refine ⟨(by show 2 ≤ sizeLine; decide), fun t1 n1 => ⟨(by show 2 ≤ sizeLine; decide), fun t2 n2 => ⟨_, rfl, (by show 1 ≤ sizeLine; decide), fun t4 n4 => ⟨(by show 0 ≤ sizeLine; decide), fun t5 n5 => ⟨(by show 2 ≤ sizeLine; decide), fun t6 n6 => ⟨(by show 4 ≤ sizeLine; decide), fun t7 n7 =>
        ⟨_, rfl, _, rfl, (by show 3 ≤ sizeLine; decide), fun t8 n8 => ⟨(by show 6 ≤ sizeLine; decide), fun m nm => ?_⟩⟩⟩⟩⟩⟩⟩⟩
      have um := same_new nm (.lst [.ref t1, .ref t2, .ref o, .ref t4, .ref t7, .ref t8])
      have u8 := (same_new n8 _).trans um
      have u7 := (same_new n7 _).trans u8
      have u6 := (same_new n6 _).trans u7
      have u5 := (same_new n5 _).trans u6
      have u4 := (same_new n4 _).trans u5
      have u2 := (same_new n2 _).trans u4
      have u1 := (same_new n1 _).trans u2
      exact rest _ _ ⟨m, rfl, hB2.same u1, sb2.trans (sb_same u1), rv2.mono (kx_same u1), u1 _ _ ho2, _, _, upd_same, tw1_reps (K := K) (u1 _ _ ho2) (u2 _ _ upd_same) (u4 _ _ upd_same) (u5 _ _ upd_same) (u6 _ _ upd_same) (u7 _ _ upd_same) (u8 _ _ upd_same) (um _ _ upd_same) (rv2.mono (kx_same u1)), tw1_ok hek, rfl⟩
    clear hB2 sb2 rv2 ho2
    rintro σ3 H3 ⟨m0, rfl, hB3, sb3, rv3, ho3, xs0, us0, hm0, rm0, ok0, lm0⟩
    refine seq_rest (fun σ' H' => ∃ m n, σ' = [some (.ref b), some v, some (.str wd), none, some (.ref o), some (.ref m)] ∧ m ≠ b ∧ BoxAt H' b c ∧ SB b H0 H' ∧ Rep K H' v (tmD t) ∧ TwAt K H' m t n ∧ 0 < n ∧ n ≤ 10) (fun rest => ?_) ?_
    · refine ⟨_, rfl, _, rfl, _, rfl, (by show 3 ≤ sizeLine; decide), fun t1 n1 => ⟨_, rfl, _, rfl, _, rfl, (by show 4 ≤ sizeLine; decide), fun t2 n2 => ⟨_, rfl, _, rfl, _, rfl, (by show 4 ≤ sizeLine; decide), fun t3 n3 => ⟨(by show 0 ≤ sizeLine; decide), fun t4 n4 => ⟨(by show 1 ≤ sizeLine; decide), fun t5 n5 =>
        ⟨_, rfl, (by show 4 ≤ sizeLine; decide), fun t6 n6 => ⟨(by show 4 ≤ sizeLine; decide), fun m1 nm1 => ?_⟩⟩⟩⟩⟩⟩⟩
      have um := same_new nm1 (.lst [.ref t1, .ref t2, .ref t3, .ref t6])
      have u6 := (same_new n6 _).trans um
      have u5 := (same_new n5 _).trans u6
      have u4 := (same_new n4 _).trans u5
      have u3 := (same_new n3 _).trans u4
      have u2 := (same_new n2 _).trans u3
      have u1 := (same_new n1 _).trans u2
      have R := tw2_reps (K := K) (u1 _ _ ho3) (u2 _ _ upd_same) (u3 _ _ upd_same) (u4 _ _ upd_same) (u5 _ _ upd_same) (u6 _ _ upd_same) (um _ _ upd_same) (rv3.mono (kx_same u1))
      refine ⟨m0, m1, _, _, rfl, rfl, u1 _ _ hm0, upd_same, small6' (by rw [lm0]; show 6 + 4 ≤ 1000000; decide), fun m nm => ?_⟩
      have s9 := same_new nm (.lst (xs0 ++ [.ref t1, .ref t2, .ref t3, .ref t6]))
      have w9 := u1.trans s9
      refine rest _ _ ⟨m, 10, rfl, nbm (hB3.same u1) nm, hB3.same w9, sb3.trans (sb_same w9), rv3.mono (kx_same w9), ⟨_, us0 ++ _, upd_same, ?_, ok_mem ok0 (tw2_ok hek), by rw [List.length_append, lm0]; rfl⟩, by decide, by decide⟩
      rw [List.map_append]
      exact (rm0.mono (kx_same w9)).append (R.mono (kx_same s9))
    clear hB3 sb3 rv3 ho3 hm0 rm0 ok0 lm0
    rintro σ4 H4 ⟨m0, n0, rfl, nb4, hB4, sb4, rv4, ma4, n00, n01⟩
    refine seq_rest (fun σ' H' => ∃ m n, σ' = [some (.ref b), some v, some (.str wd), none, some (.ref o), some (.ref m)] ∧ m ≠ b ∧ BoxAt H' b c ∧ SB b H0 H' ∧ TwAt K H' m t n ∧ 0 < n ∧ n ≤ 13) (fun rest => ?_) ?_
    · refine ⟨_, rfl, rfl, _, rfl, ite2 (fun z => ?_) (fun _ => rest _ _ ⟨m0, n0, rfl, nb4, hB4, sb4, ma4, n00, by omega⟩)⟩
      have ew : wd = "fun" := V.str.inj (of_decide_eq_true z)
      obtain ⟨xs0, us0, hm0, rm0, ok0, lm0⟩ := ma4
      obtain ⟨sn, kd, g, rfl⟩ : ∃ sn kd g, t = .fn sn kd g := by
        rw [ew] at hd
        cases t with
        | fn sn kd g => exact ⟨sn, kd, g, rfl⟩
        | nm _ => exact absurd (List.head_eq_of_cons_eq (D.tup.inj hd)) (by intro z; cases z)
        | ap _ _ => exact absurd (List.head_eq_of_cons_eq (D.tup.inj hd)) (by intro z; cases z)
        | iff _ _ _ => exact absurd (List.head_eq_of_cons_eq (D.tup.inj hd)) (by intro z; cases z)
        | an _ => exact absurd (List.head_eq_of_cons_eq (D.tup.inj hd)) (by intro z; cases z)
        | st => exact absurd (List.head_eq_of_cons_eq (D.tup.inj hd)) (by intro z; cases z)
      obtain ⟨a, xs, rfl, hx, rx⟩ := Rep.inv (ts := [.at (.str "fun"), .at (.str sn), kd, tmD g]) rv4
      obtain ⟨x1, hx1, r1⟩ := rx.getD (i := 1) rfl
      obtain ⟨x2, hx2, r2⟩ := rx.getD (i := 2) rfl
      obtain ⟨x3, hx3, r3⟩ := rx.getD (i := 3) rfl
      obtain ⟨rfl, _⟩ := r1.inva
      have at1 := atI_nat (j := 1) hx1
      have at2 := atI_nat (j := 2) hx2
      have at3 := atI_nat (j := 3) hx3
      refine ⟨_, rfl, _, rfl, a, _, 1, _, rfl, rfl, hx.sq, at1, (by show 0 ≤ sizeLine; decide), fun t1 n1 => ⟨(by show 1 ≤ sizeLine; decide), fun t2 n2 => ?_⟩⟩
      have w2 := (same_new n1 (.tup [])).trans (same_new n2 (.tup [.ref t1]))
      refine ⟨_, rfl, a, _, 3, _, rfl, rfl, (hx.same w2).sq, at3, (by show 4 ≤ sizeLine; decide), fun t3 n3 => ?_⟩
      have w3 := w2.trans (same_new n3 (.tup [.str "fun", .str sn, .ref t2, x3]))
      refine ⟨_, rfl, a, _, 1, _, rfl, rfl, (hx.same w3).sq, at1, (by show 0 ≤ sizeLine; decide), fun t4 n4 => ?_⟩
      have w4 := w3.trans (same_new n4 (.tup []))
      refine ⟨_, rfl, a, _, 3, _, rfl, rfl, (hx.same w4).sq, at3, (by show 4 ≤ sizeLine; decide), fun t5 n5 => ?_⟩
      have w5 := w4.trans (same_new n5 (.tup [.str "fun", .str sn, .ref t4, x3]))
      refine ⟨_, rfl, a, _, 2, _, rfl, rfl, (hx.same w5).sq, at2, _, rfl, a, _, 3, _, rfl, rfl, (hx.same w5).sq, at3, (by show 4 ≤ sizeLine; decide), fun t6 n6 => ⟨(by show 3 ≤ sizeLine; decide), fun m1 nm1 => ?_⟩⟩
      have um := same_new nm1 (.lst [.ref t3, .ref t5, .ref t6])
      have u6 := (same_new n6 _).trans um
      have u5 := (same_new n5 _).trans u6
      have u4 := (same_new n4 _).trans u5
      have u3 := (same_new n3 _).trans u4
      have u2 := (same_new n2 _).trans u3
      have u1 := (same_new n1 _).trans u2
      have R := tw3_reps (K := K) (u2 _ _ upd_same) (u3 _ _ upd_same) (u4 _ _ upd_same) (u5 _ _ upd_same) (u6 _ _ upd_same) (um _ _ upd_same) (r2.mono (kx_same u1)) (r3.mono (kx_same u1))
      refine ⟨m0, m1, _, _, rfl, rfl, u1 _ _ hm0, upd_same, small6' (by rw [lm0]; show n0 + 3 ≤ 1000000; omega), fun m nm => ?_⟩
      have s9 := same_new nm (.lst (xs0 ++ [.ref t3, .ref t5, .ref t6]))
      have w9 := u1.trans s9
      refine rest _ _ ⟨m, n0 + 3, rfl, nbm (hB4.same u1) nm, hB4.same w9, sb4.trans (sb_same w9), ⟨_, us0 ++ _, upd_same, ?_, ok_mem ok0 (tw3_ok hek), by rw [List.length_append, lm0]; rfl⟩, by omega, by omega⟩
      rw [List.map_append]
      exact (rm0.mono (kx_same w9)).append (R.mono (kx_same s9))
    clear hB4 sb4 rv4 ma4 nb4
    rintro σ5 H5 ⟨m, n1, rfl, nb5, hB5, sb5, ⟨xs, us, hm, rm, oku, lm⟩, n10, n11⟩
    refine ⟨_, rfl, _, rfl, _, rfl, m, _, rfl, .inl (SqL.of hm), b, c, _, rfl, hB5, by omega, fun r H8 hr0 hr1 hB8 sb8 => ?_⟩
    obtain ⟨y, e, i, hy, he, re⟩ := pickT rm hr0 hr1
    rw [List.getElem?_map] at he
    obtain ⟨u, hu, rfl⟩ := Option.map_eq_some_iff.mp he
    exact ⟨m, _, _, y, rfl, rfl, SqL.of (sb8 _ _ nb5 hm), hy, q y H8 u (re.mono (box_kx hB5 hB8 sb8)) (oku u (List.mem_of_getElem? hu)) hB8 (sb5.trans sb8)⟩
end
end Pk

set_option maxRecDepth 100000
set_option maxHeartbeats 4000000
set_option pp.maxSteps 600
namespace Pk
open PySem PySem.Spec PyProof.Rows L2
/-! ### a term's parts, with their paths and the names around them -/
abbrev Pt := Tm × List Nat × List (Str × D)
def kidsP : Pt → List Pt
  | (.fn s k b, p, env) => [(b, p ++ [0], (s, k) :: env)]
  | (.ap f a, p, env) => [(f, p ++ [0], env), (a, p ++ [1], env)]
  | (.iff a b c, p, env) => [(a, p ++ [0], env), (b, p ++ [1], env), (c, p ++ [2], env)]
  | _ => []
/-- parts before what they are part of -/
def post : List (Str × D) → List Nat → Tm → List Pt
  | env, p, .fn s k b => post ((s, k) :: env) (p ++ [0]) b ++ [(.fn s k b, p, env)]
  | env, p, .ap f a => (post env (p ++ [0]) f ++ post env (p ++ [1]) a) ++ [(.ap f a, p, env)]
  | env, p, .iff a b c => ((post env (p ++ [0]) a ++ post env (p ++ [1]) b) ++ post env (p ++ [2]) c) ++ [(.iff a b c, p, env)]
  | env, p, .nm s => [(.nm s, p, env)]
  | env, p, .an v => [(.an v, p, env)]
  | env, p, .st => [(.st, p, env)]
def postP (x : Pt) : List Pt := post x.2.2 x.2.1 x.1
def chkP (x : Pt) : Rs := chk x.2.2 x.2.1 x.1
theorem post_step (x : Pt) : postP x = ((kidsP x).map postP).flatten ++ [x] := by
  obtain ⟨t, p, env⟩ := x
  cases t <;> simp [postP, post, kidsP]
theorem post_len : ∀ (t : Tm) (env : List (Str × D)) (p : List Nat), (post env p t).length = prt t
  | .fn s k b, env, p => by simp [post, prt, post_len b]
  | .ap f a, env, p => by simp [post, prt, post_len f, post_len a]; omega
  | .iff a b c, env, p => by simp [post, prt, post_len a, post_len b, post_len c]; omega
  | .nm s, env, p => rfl
  | .an v, env, p => rfl
  | .st, env, p => rfl
theorem post_self (t : Tm) (env : List (Str × D)) (p : List Nat) : (t, p, env) ∈ post env p t := by
  cases t <;> simp [post]
/-! what is known of a part -/
structure PtOk (n : Nat) (x : Pt) : Prop where
  e : ek x.1
  k : ∀ pr ∈ x.2.2, Ek pr.2
  hp : x.2.1.length + hgt x.1 ≤ n
  he : x.2.2.length + hgt x.1 ≤ n
  sm : ∀ i ∈ x.2.1, i ≤ 2
  pr : prt x.1 ≤ 100000
theorem kid_ok {n : Nat} {x c : Pt} (o : PtOk n x) (h : c ∈ kidsP x) : PtOk n c := by
  obtain ⟨t, p, env⟩ := x
  obtain ⟨o1, o2, o3, o4, o5, o6⟩ := o
  have sn : ∀ {j : Nat}, j ≤ 2 → ∀ i ∈ p ++ [j], i ≤ 2 := fun {j} hj i hi => by
    rcases List.mem_append.mp hi with z | z
    · exact o5 i z
    · have : i = j := by simpa using z
      omega
  cases t with
  | nm s => simp [kidsP] at h
  | an v => simp [kidsP] at h
  | st => simp [kidsP] at h
  | fn s k b =>
    have hc : c = (b, p ++ [0], (s, k) :: env) := by simpa [kidsP] using h
    subst hc
    simp only [hgt, prt, ek] at o1 o3 o4 o6
    refine ⟨o1.2, fun pr hpr => ?_, by simp only [List.length_append, List.length_cons, List.length_nil]; omega, by simp only [List.length_cons]; omega, sn (by omega), by simp only; omega⟩
    rcases List.mem_cons.mp hpr with rfl | hpr
    · exact o1.1
    · exact o2 pr hpr
  | ap f a =>
    simp only [hgt, prt, ek] at o1 o3 o4 o6
    have hc : c = (f, p ++ [0], env) ∨ c = (a, p ++ [1], env) := by simpa [kidsP] using h
    rcases hc with rfl | rfl
    · exact ⟨o1.1, o2, by simp only [List.length_append, List.length_cons, List.length_nil]; omega, by simp only; omega, sn (by omega), by simp only; omega⟩
    · exact ⟨o1.2, o2, by simp only [List.length_append, List.length_cons, List.length_nil]; omega, by simp only; omega, sn (by omega), by simp only; omega⟩
  | iff a b d =>
    simp only [hgt, prt, ek] at o1 o3 o4 o6
    have hc : c = (a, p ++ [0], env) ∨ c = (b, p ++ [1], env) ∨ c = (d, p ++ [2], env) := by simpa [kidsP] using h
    rcases hc with rfl | rfl | rfl
    · exact ⟨o1.1, o2, by simp only [List.length_append, List.length_cons, List.length_nil]; omega, by simp only; omega, sn (by omega), by simp only; omega⟩
    · exact ⟨o1.2.1, o2, by simp only [List.length_append, List.length_cons, List.length_nil]; omega, by simp only; omega, sn (by omega), by simp only; omega⟩
    · exact ⟨o1.2.2, o2, by simp only [List.length_append, List.length_cons, List.length_nil]; omega, by simp only; omega, sn (by omega), by simp only; omega⟩
theorem kid_prt (x : Pt) : ((kidsP x).map fun c => prt c.1).sum + 1 = prt x.1 := by
  obtain ⟨t, p, env⟩ := x
  cases t <;> simp [kidsP, prt] <;> omega
/-! parts come before what they are part of -/
def Good (L : List Pt) : Prop := ∀ (i : Nat) (x : Pt), L[i]? = some x → ∀ c ∈ kidsP x, ∃ j : Nat, j < i ∧ L[j]? = some c
theorem Good.app {A B : List Pt} (a : Good A) (b : Good B) : Good (A ++ B) := fun i x h c hc => by
  by_cases hi : i < A.length
  · rw [List.getElem?_append_left hi] at h
    obtain ⟨j, h1, h2⟩ := a i x h c hc
    exact ⟨j, h1, by rw [List.getElem?_append_left (by omega)]; exact h2⟩
  · rw [List.getElem?_append_right (by omega)] at h
    obtain ⟨j, h1, h2⟩ := b _ x h c hc
    exact ⟨A.length + j, by omega, by rw [List.getElem?_append_right (by omega), Nat.add_sub_cancel_left]; exact h2⟩
theorem Good.snoc {A : List Pt} {x : Pt} (a : Good A) (hx : ∀ c ∈ kidsP x, c ∈ A) : Good (A ++ [x]) := fun i y h c hc => by
  by_cases hi : i < A.length
  · rw [List.getElem?_append_left hi] at h
    obtain ⟨j, h1, h2⟩ := a i y h c hc
    exact ⟨j, h1, by rw [List.getElem?_append_left (by omega)]; exact h2⟩
  · rw [List.getElem?_append_right (by omega)] at h
    have e : y = x := by
      have := List.mem_of_getElem? h
      simpa using this
    subst e
    obtain ⟨j, hj⟩ := List.mem_iff_getElem?.mp (hx c hc)
    have hl := (List.getElem?_eq_some_iff.mp hj).1
    exact ⟨j, by omega, by rw [List.getElem?_append_left hl]; exact hj⟩
theorem good_one {x : Pt} (h : kidsP x = []) : Good [x] := by
  have : Good ([] ++ [x]) := Good.snoc (A := []) (fun i y h => by simp at h) fun c hc => by rw [h] at hc; cases hc
  exact this
theorem post_good : ∀ (t : Tm) (env : List (Str × D)) (p : List Nat), Good (post env p t)
  | .fn s k b, env, p => (post_good b _ _).snoc fun c hc => by
    have e : c = (b, p ++ [0], (s, k) :: env) := by simpa [kidsP] using hc
    subst e
    exact post_self _ _ _
  | .ap f a, env, p => ((post_good f _ _).app (post_good a _ _)).snoc fun c hc => by
    have e : c = (f, p ++ [0], env) ∨ c = (a, p ++ [1], env) := by simpa [kidsP] using hc
    rcases e with rfl | rfl
    · exact List.mem_append_left _ (post_self _ _ _)
    · exact List.mem_append_right _ (post_self _ _ _)
  | .iff a b d, env, p => (((post_good a _ _).app (post_good b _ _)).app (post_good d _ _)).snoc fun c hc => by
    have e : c = (a, p ++ [0], env) ∨ c = (b, p ++ [1], env) ∨ c = (d, p ++ [2], env) := by simpa [kidsP] using hc
    rcases e with rfl | rfl | rfl
    · exact List.mem_append_left _ (List.mem_append_left _ (post_self _ _ _))
    · exact List.mem_append_left _ (List.mem_append_right _ (post_self _ _ _))
    · exact List.mem_append_right _ (post_self _ _ _)
  | .nm s, env, p => good_one rfl
  | .an v, env, p => good_one rfl
  | .st, env, p => good_one rfl
/-! the first fault -/
def badOf (x : Pt) : Option (List Nat × Str) := match chkP x with
  | .bad q r => some (q, r)
  | .ok _ => none
theorem bad_eq {x : Pt} {q : List Nat} {r : Str} (h : chkP x = .bad q r) : badOf x = some (q, r) := by unfold badOf; rw [h]
theorem ok_eq {x : Pt} {k : List D} (h : chkP x = .ok k) : badOf x = none := by unfold badOf; rw [h]
theorem fb_app (A B : List Pt) : (A ++ B).findSome? badOf = (A.findSome? badOf).or (B.findSome? badOf) := List.findSome?_append
theorem post_bad : ∀ (t : Tm) (env : List (Str × D)) (p : List Nat), (post env p t).findSome? badOf = badOf (t, p, env)
  | .fn s k b, env, p => by
    rw [post, fb_app, post_bad b]
    cases h : chk ((s, k) :: env) (p ++ [0]) b <;> simp [badOf, chkP, chk, h, List.findSome?]
  | .ap f a, env, p => by
    rw [post, fb_app, fb_app, post_bad f, post_bad a]
    cases h : chk env (p ++ [0]) f <;> cases h2 : chk env (p ++ [1]) a <;> simp [badOf, chkP, chk, h, h2, List.findSome?]
    all_goals (split <;> simp_all)
  | .iff a b d, env, p => by
    rw [post, fb_app, fb_app, fb_app, post_bad a, post_bad b, post_bad d]
    cases h : chk env (p ++ [0]) a <;> cases h2 : chk env (p ++ [1]) b <;> cases h3 : chk env (p ++ [2]) d <;> simp [badOf, chkP, chk, h, h2, h3, List.findSome?]
    all_goals (split <;> simp_all)
  | .nm s, env, p => by cases h : badOf (.nm s, p, env) <;> simp [post, List.findSome?, h]
  | .an v, env, p => by cases h : badOf (.an v, p, env) <;> simp [post, List.findSome?, h]
  | .st, env, p => by cases h : badOf (.st, p, env) <;> simp [post, List.findSome?, h]
theorem fb_at : ∀ {L : List Pt} {i : Nat} {x : Pt} {b : List Nat × Str}, L[i]? = some x → (∀ j y, j < i → L[j]? = some y → badOf y = none) → badOf x = some b → L.findSome? badOf = some b
  | [], i, x, b, h, _, _ => by simp at h
  | y :: L, 0, x, b, h, _, hb => by
    have e : y = x := by simpa using h
    subst e
    simp [List.findSome?, hb]
  | y :: L, i + 1, x, b, h, hn, hb => by
    have h0 := hn 0 y (by omega) rfl
    have ih := fb_at (L := L) (i := i) (by simpa using h) (fun j z hj hz => hn (j + 1) z (by omega) (by simpa using hz)) hb
    simp [List.findSome?, h0, ih]
/-! a path leads to one part -/
def kidT : Nat → Tm × List (Str × D) → Option (Tm × List (Str × D))
  | 0, (.fn s k b, env) => some (b, (s, k) :: env)
  | 0, (.ap f _, env) => some (f, env)
  | 1, (.ap _ a, env) => some (a, env)
  | 0, (.iff a _ _, env) => some (a, env)
  | 1, (.iff _ b _, env) => some (b, env)
  | 2, (.iff _ _ c, env) => some (c, env)
  | _, _ => none
def sub : List Nat → Tm × List (Str × D) → Option (Tm × List (Str × D))
  | [], x => some x
  | i :: q, x => match kidT i x with
    | some y => sub q y
    | none => none
theorem post_sub : ∀ (t : Tm) (env : List (Str × D)) (p : List Nat) (x : Pt), x ∈ post env p t → ∃ q, x.2.1 = p ++ q ∧ sub q (t, env) = some (x.1, x.2.2)
  | .fn s k b, env, p, x, h => by
    rcases List.mem_append.mp h with h | h
    · obtain ⟨q, h1, h2⟩ := post_sub b _ _ x h
      exact ⟨0 :: q, by rw [h1, List.append_assoc]; rfl, h2⟩
    · have e : x = (.fn s k b, p, env) := by simpa using h
      subst e
      exact ⟨[], by simp, rfl⟩
  | .ap f a, env, p, x, h => by
    rcases List.mem_append.mp h with h | h
    · rcases List.mem_append.mp h with h | h
      · obtain ⟨q, h1, h2⟩ := post_sub f _ _ x h
        exact ⟨0 :: q, by rw [h1, List.append_assoc]; rfl, h2⟩
      · obtain ⟨q, h1, h2⟩ := post_sub a _ _ x h
        exact ⟨1 :: q, by rw [h1, List.append_assoc]; rfl, h2⟩
    · have e : x = (.ap f a, p, env) := by simpa using h
      subst e
      exact ⟨[], by simp, rfl⟩
  | .iff a b d, env, p, x, h => by
    rcases List.mem_append.mp h with h | h
    · rcases List.mem_append.mp h with h | h
      · rcases List.mem_append.mp h with h | h
        · obtain ⟨q, h1, h2⟩ := post_sub a _ _ x h
          exact ⟨0 :: q, by rw [h1, List.append_assoc]; rfl, h2⟩
        · obtain ⟨q, h1, h2⟩ := post_sub b _ _ x h
          exact ⟨1 :: q, by rw [h1, List.append_assoc]; rfl, h2⟩
      · obtain ⟨q, h1, h2⟩ := post_sub d _ _ x h
        exact ⟨2 :: q, by rw [h1, List.append_assoc]; rfl, h2⟩
    · have e : x = (.iff a b d, p, env) := by simpa using h
      subst e
      exact ⟨[], by simp, rfl⟩
  | .nm s, env, p, x, h => by
    have e : x = (.nm s, p, env) := by simpa [post] using h
    subst e
    exact ⟨[], by simp, rfl⟩
  | .an v, env, p, x, h => by
    have e : x = (.an v, p, env) := by simpa [post] using h
    subst e
    exact ⟨[], by simp, rfl⟩
  | .st, env, p, x, h => by
    have e : x = (.st, p, env) := by simpa [post] using h
    subst e
    exact ⟨[], by simp, rfl⟩
theorem post_inj {t : Tm} {env : List (Str × D)} {p : List Nat} {x y : Pt} (hx : x ∈ post env p t) (hy : y ∈ post env p t) (e : x.2.1 = y.2.1) : x = y := by
  obtain ⟨q, h1, h2⟩ := post_sub t env p x hx
  obtain ⟨q', h3, h4⟩ := post_sub t env p y hy
  have eq : q = q' := List.append_cancel_left (h1.symm.trans (e.trans h3))
  subst eq
  rw [h2] at h4
  obtain ⟨x1, x2, x3⟩ := x
  obtain ⟨y1, y2, y3⟩ := y
  have z := Option.some.inj h4
  simp only [Prod.mk.injEq] at z e ⊢
  exact ⟨z.1, e, z.2⟩
/-! the kind of a part, by the kinds of the parts right within it -/
def kop (x : Pt) (ks : List (List D)) : Rs := match x, ks with
  | (.nm s, p, env), _ => (match look env s with
    | some d => .ok (args d)
    | none => .bad p "unknown name")
  | (.fn _ k _, _, _), r :: _ => .ok (k :: r)
  | (.ap _ _, p, _), a :: b :: _ => joinAp p a b
  | (.iff _ _ _, p, _), ks => joinIf p 0 ks
  | _, _ => .ok []
theorem kop_eq {x : Pt} {ks : List (List D)} (h : Paired (fun (c : Pt) (k : List D) => chkP c = .ok k) (kidsP x) ks) : chkP x = kop x ks := by
  obtain ⟨t, p, env⟩ := x
  cases t with
  | nm s => rfl
  | an v => rfl
  | st => rfl
  | fn s k b =>
    cases h with
    | cons h1 h2 =>
      cases h2
      have h1 : chk ((s, k) :: env) (p ++ [0]) b = _ := h1
      simp [chkP, chk, kop, h1]
  | ap f a =>
    cases h with
    | cons h1 h2 =>
      cases h2 with
      | cons h2 h3 =>
        cases h3
        have h1 : chk env (p ++ [0]) f = _ := h1
        have h2 : chk env (p ++ [1]) a = _ := h2
        simp [chkP, chk, kop, h1, h2]
  | iff a b c =>
    cases h with
    | cons h1 h2 =>
      cases h2 with
      | cons h2 h3 =>
        cases h3 with
        | cons h3 h4 =>
          cases h4
          have h1 : chk env (p ++ [0]) a = _ := h1
          have h2 : chk env (p ++ [1]) b = _ := h2
          have h3 : chk env (p ++ [2]) c = _ := h3
          simp [chkP, chk, kop, h1, h2, h3]
end Pk

set_option maxRecDepth 100000
set_option maxHeartbeats 4000000
set_option pp.maxSteps 600
namespace Pk
open PySem PySem.Spec PyProof.Rows L2
open NdefX (NScope nscope_by)
/-! ### KindFault made -/
abbrev s_KF : Stmt := inClass (top 3) 0
/-- where KindFault's __init__ stands, and what is known of it -/
structure KfD (P : Program) (K : PySem.W.Frag) (mg : Str → Option Value) (C f cc cda : Addr) (fd : FuncData) : Prop where
  sup : SupF P K mg C cc cda
  gC : mg "KindFault" = some (.ref C)
  iC : PySem.W.findIn K (.ref C) "__init__" = some (some (.ref f))
  tI : PySem.W.typeIn K (.ref f) = some (.type "function")
  np : PySem.W.findIn K (.ref C) "path" = some none
  nr : PySem.W.findIn K (.ref C) "reason" = some none
  fn : ∃ (oc : Value) (od : Option Addr) (doc pm kV : Value) (an : Option Addr) (ct : Value) (osl : Array (Option Value)),
    fd = PySem.W.ksFn "__init__" "KindFault.__init__" (defArgs s_KF) (defBody s_KF) (defScope s_KF) .none kV doc pm an (.ref cda) ct cc ∧ K.lookup f = some ⟨oc, od, .func fd, osl⟩
  cd : PySem.W.codeIn K (.ref cda) "KindFault.__init__" = true
  b : Binds K fd ["self", "path", "reason"] []
/-- what a raised KindFault says -/
def RaisesAt (K : PySem.W.Frag) (C : Addr) (E : XK) (H : Hp) (p : List Nat) (r : Str) : Prop :=
  ∀ (d : Addr) (H' : Hp) (vp : V), Same H H' → H' d = some (.xd [("reason", .str r), ("path", vp)]) → Rep K H' vp (pathD p) → E (.ref C) (some d) H'
section
variable {P : Program} {w : World} {K : PySem.W.Frag} {mg : Str → Option Value} {base : Heap}
def spKf (K : PySem.W.Frag) (C : Addr) : Sp := fun vs H Q _ => ∃ (a p : Addr) (l : List Int) (r : Str), vs = [.ref a, .ref p, .str r] ∧ H a = some (exo a C none) ∧ SqT K H p (l.map V.int) ∧ (∀ n ∈ l, 0 ≤ n ∧ n ≤ 2) ∧ l.length ≤ 9000 ∧ r.length ≤ 100 ∧
  ∀ d, H d = none → d ≠ a → Q .non (upd (upd (upd H d (exd d [("path", .ref p)])) a (exo a C (some d))) d (exd d [("reason", .str r), ("path", .ref p)]))
theorem kf_scope : NScope ["self", "path", "reason", "__class__"] ["self", "path", "reason"] ["__class__"] (defScope s_KF) := nscope_by (by decide +kernel)
theorem sqt_upd {H : Hp} {a : Addr} {o : HO} {p : Addr} {xs : List V} (h : SqT K H p xs) (n : H a = none) : SqT K (upd H a o) p xs := Same.tup (same_new n o) h
theorem ok_kf {C f cc cda : Addr} {fd : FuncData} (D : KfD P K mg C f cc cda fd) : FnOk P w K mg base CX0 2 f fd ["self", "path", "reason"] (spKf K C) := by
  obtain ⟨oc, od, doc, pm, kV, an, ct, osl, rfl, lk⟩ := D.fn
  refine fn_sup (N := ["self", "path", "reason", "__class__"]) (k := 1) D.sup lk D.cd kf_scope rfl rfl rfl (by decide +kernel) (by decide +kernel) (by decide +kernel) (fun vs H Q E h => ?_) (fun A outer s H vs Q E hr h => ?_)
  · obtain ⟨a, p, l, r, rfl, _⟩ := h
    rfl
  obtain ⟨a, p, l, r, rfl, ha, hp, hl, hn, hz, q⟩ := h
  have nd := kf_scope.nd
  refine ⟨_, _, (pa_cons (pe_joined (PJ.cons (pe_fmt (pv 2)) (PJ.cons pe_str (PJ.cons (pe_fmtI hr (pv 1)) PJ.nil)))) pa_nil), (pss_cons (ps_ost (pv 0) (pv 1)) (pss_one (ps_ost (pv 0) (pv 2)))), ⟨_, rfl⟩, a, rfl, ha, ?_⟩
  have e1 : ((" at part " : String) : Str).length ≤ 9 := by decide +kernel
  have hs := sizeLine_eq
  have e0 : Str.empty.length = 0 := by decide +kernel
  refine ⟨_, rfl, .inl ⟨r, rfl, by omega, r, rfl, by rw [strLen_append]; omega, _, rfl, by rw [strLen_append, strLen_append]; omega, _, rfl, p, l, rfl, hp, hl, by omega, fun m hm => ⟨m, rfl, by rw [strLen_append, strLen_append, strLen_append]; omega, by show 1 ≤ 1000; decide, ha, ?_⟩⟩⟩
  refine ⟨_, rfl, _, rfl, a, C, rfl, D.sup.oex, D.np, .inl ⟨ha, fun d nd ne => ?_⟩⟩
  exact ⟨_, rfl, _, rfl, a, C, rfl, D.sup.oex, D.nr, .inr ⟨d, [("path", .ref p)], upd_same, by rw [upd_ne ne]; exact upd_same, by show 1 ≤ 900; decide, q d nd ne⟩⟩
theorem ints_of {H : Hp} : ∀ {l : List Nat} {xs : List V}, Reps K H xs (l.map fun n => .at (.int (n : Nat))) → xs = l.map fun n : Nat => V.int (n : Nat)
  | [], _, r => by
    cases r
    rfl
  | n :: l, _, r => by
    cases r with
    | cons r1 r2 => rw [ints_of r2, (Rep.inva (K := K) r1).1] <;> rfl
/-- the raising of it -/
theorem raises_kf {C p : Addr} {l : List Nat} {r : Str} {H : Hp} {E : XK} (rp : Rep K H (.ref p) (pathD l)) (hl : ∀ n ∈ l, n ≤ 2) (hn : l.length ≤ 9000) (hz : r.length ≤ 100) (q : RaisesAt K C E H l r) (a : Addr) (na : H a = none) :
    spKf K C (.ref a :: ([.ref p, .str r] ++ [])) (upd H a (exo a C none)) (fun v H2 => v = .non ∧ ∃ (d : Addr) (fs : List (Str × V)), H2 a = some (exo a C (some d)) ∧ H2 d = some (exd d fs) ∧ H d = none ∧ E (.ref C) (some d) (upd (del H2 a) d (.xd fs))) (fun _ _ _ => False) := by
  obtain ⟨b, xs, eb, hb, rx⟩ := Rep.inv (ts := l.map fun n => .at (.int (n : Nat))) rp
  cases eb
  have ex : xs = (l.map fun n : Nat => (n : Int)).map V.int := by
    rw [ints_of rx, List.map_map]
    rfl
  subst ex
  refine ⟨a, p, l.map fun n : Nat => (n : Int), r, rfl, upd_same, sqt_upd hb.sq na, fun n hn => ?_, by rw [List.length_map]; exact hn, hz, fun d nd ne => ⟨rfl, d, _, ?_, upd_same, ?_, q d _ (.ref p) ?_ upd_same ?_⟩⟩
  · obtain ⟨m, hm, rfl⟩ := List.mem_map.mp hn
    have := hl m hm
    omega
  · rw [upd_ne (Ne.symm ne), upd_same]
  · rw [upd_ne ne] at nd
    exact nd
  all_goals
    rw [upd_ne ne] at nd
    have s : Same H (upd (del (upd (upd (upd (upd H a (exo a C none)) d (exd d [("path", .ref p)])) a (exo a C (some d))) d (exd d [("reason", .str r), ("path", .ref p)])) a) d (.xd [("reason", .str r), ("path", .ref p)])) := fun b o hb => by
      have h1 : b ≠ a := ne_of_none hb na
      have h2 : b ≠ d := ne_of_none hb nd
      rw [upd_ne h2, del_ne h1, upd_ne h2, upd_ne h1, upd_ne h2, upd_ne h1]
      exact hb
  · exact s
  · exact rp.mono (kx_same s)
end
end Pk

set_option maxRecDepth 100000
set_option maxHeartbeats 4000000
set_option pp.maxSteps 600
namespace Pk
open PySem PySem.Spec PyProof.Rows L2
open NdefX (NScope nscope_by)
/-! ### the names around a part, as a dict -/
theorem valV_merge : ∀ (l : List (Key × V)) (acc : List (Key × V)) (j : Key), (l.map (·.1)).Nodup → valV (mergeK acc l) j = (match valV l j with | some x => some x | none => valV acc j)
  | [], acc, j, _ => rfl
  | p :: l, acc, j, hn => by
    show valV (mergeK (putK acc p.1 p.2) l) j = _
    rw [List.map_cons, List.nodup_cons] at hn
    rw [valV_merge l _ j hn.2, valV_put]
    by_cases e : p.1 = j
    · rw [valV_pos e, if_pos e.symm]
      cases h : valV l j with
      | none => rfl
      | some x => exact absurd (valV_in h) (by rw [← e]; exact hn.1)
    · rw [valV_neg e, if_neg (Ne.symm e)]
theorem nd_put2 {kvs : List (Key × V)} {k : Key} (v : V) (hn : (kvs.map (·.1)).Nodup) : ((putK kvs k v).map (·.1)).Nodup := by
  cases h : valV kvs k with
  | none => exact nd_putK v hn h
  | some x =>
    have e : (putK kvs k v).map (·.1) = kvs.map (·.1) := by
      unfold putK
      rw [valV_any, h]
      simp only [Option.isSome_some, if_true]
      rw [List.map_map]
      refine List.map_congr_left fun kv _ => ?_
      show (if kv.1 = k then (kv.1, v) else kv).1 = kv.1
      split <;> rfl
    rw [e]
    exact hn
theorem nd_merge : ∀ (l acc : List (Key × V)), (acc.map (·.1)).Nodup → ((mergeK acc l).map (·.1)).Nodup
  | [], _, h => h
  | p :: l, acc, h => nd_merge l (putK acc p.1 p.2) (nd_put2 p.2 h)
structure NmR (K : PySem.W.Frag) (H : Hp) (kvs : List (Key × V)) (env : List (Str × D)) : Prop where
  nd : (kvs.map (·.1)).Nodup
  len : kvs.length ≤ env.length
  val : ∀ s : Str, (∃ x d, valV kvs (.inr s) = some x ∧ look env s = some d ∧ Rep K H x d) ∨ (valV kvs (.inr s) = none ∧ look env s = none)
/-- tuples and dicts of names stand, lists stay lists -/
structure KD (H H' : Hp) : Prop where
  k : Kx H H'
  d : ∀ a kvs, H a = some (.dK kvs) → H' a = some (.dK kvs)
theorem KD.same {H H' : Hp} (s : Same H H') : KD H H' := ⟨kx_same s, fun a kvs h => s _ _ h⟩
theorem KD.trans {H H1 H2 : Hp} (x : KD H H1) (y : KD H1 H2) : KD H H2 := ⟨x.k.trans y.k, fun a kvs h => y.d _ _ (x.d _ _ h)⟩
theorem KD.put {H : Hp} {l : Addr} {xs : List V} (h : H l = some (.lst xs)) (ys : List V) : KD H (upd H l (.lst ys)) := by
  have ne : ∀ {b : Addr} {o : HO}, H b = some o → o ≠ .lst xs → b ≠ l := fun {b o} hb ho z => by
    rw [z, h] at hb
    exact ho (Option.some.inj hb).symm
  refine ⟨⟨fun a zs ha => by rw [upd_ne (ne ha (by simp))]; exact ha, fun a zs ha => ?_⟩, fun a kvs ha => by rw [upd_ne (ne ha (by simp))]; exact ha⟩
  by_cases e : a = l
  · exact ⟨ys, by rw [e, upd_same]⟩
  · exact ⟨zs, by rw [upd_ne e]; exact ha⟩
theorem NmR.kd {K : PySem.W.Frag} {H H' : Hp} {kvs : List (Key × V)} {env : List (Str × D)} (r : NmR K H kvs env) (s : KD H H') : NmR K H' kvs env :=
  ⟨r.nd, r.len, fun n => (r.val n).imp (fun ⟨x, d, h1, h2, h3⟩ => ⟨x, d, h1, h2, h3.mono s.k⟩) id⟩
theorem NmR.same {K : PySem.W.Frag} {H H' : Hp} {kvs : List (Key × V)} {env : List (Str × D)} (r : NmR K H kvs env) (s : Same H H') : NmR K H' kvs env := r.kd (.same s)
/-- one name more -/
theorem NmR.put {K : PySem.W.Frag} {H : Hp} {kvs : List (Key × V)} {env : List (Str × D)} (r : NmR K H kvs env) {s : Str} {x : V} {d : D} (rx : Rep K H x d) : NmR K H (mergeK (mergeK [] kvs) [(.inr s, x)]) ((s, d) :: env) := by
  refine ⟨nd_merge _ _ (nd_merge _ _ List.nodup_nil), ?_, fun n => ?_⟩
  · have h1 := length_mergeK [((.inr s : Key), x)] (mergeK [] kvs)
    have h2 := length_mergeK kvs []
    have h3 := r.len
    simp only [List.length_cons, List.length_nil] at h1 h2 ⊢
    omega
  · show (∃ y e, valV (putK (mergeK [] kvs) (.inr s) x) (.inr n) = some y ∧ (if s = n then some d else look env n) = some e ∧ Rep K H y e) ∨ (valV (putK (mergeK [] kvs) (.inr s) x) (.inr n) = none ∧ (if s = n then some d else look env n) = none)
    rw [valV_put]
    by_cases e : s = n
    · subst e
      rw [if_pos rfl, if_pos rfl]
      exact .inl ⟨x, d, rfl, rfl, rx⟩
    · have e2 : ¬ (Sum.inr n : Key) = .inr s := fun z => e (Sum.inr.inj z).symm
      rw [if_neg e2, if_neg e, valV_merge kvs [] _ r.nd]
      rcases r.val n with ⟨y, f, h1, h2, h3⟩ | ⟨h1, h2⟩
      · rw [h1]
        exact .inl ⟨y, f, rfl, h2, h3⟩
      · rw [h1]
        exact .inr ⟨rfl, h2⟩
def NmAt (K : PySem.W.Frag) (H : Hp) (v : V) (env : List (Str × D)) : Prop := ∃ a kvs, v = .ref a ∧ H a = some (.dK kvs) ∧ NmR K H kvs env
theorem NmAt.kd {K : PySem.W.Frag} {H H' : Hp} {v : V} {env : List (Str × D)} (h : NmAt K H v env) (s : KD H H') : NmAt K H' v env :=
  let ⟨a, kvs, e, ha, r⟩ := h
  ⟨a, kvs, e, s.d _ _ ha, r.kd s⟩
theorem NmAt.same {K : PySem.W.Frag} {H H' : Hp} {v : V} {env : List (Str × D)} (h : NmAt K H v env) (s : Same H H') : NmAt K H' v env := h.kd (.same s)
/-- a part right within another, with its names -/
def KdT (K : PySem.W.Frag) (H : Hp) (env : List (Str × D)) (v : V) (c : Tm) : Prop := ∃ a vt vn, v = .ref a ∧ H a = some (.tup [vt, vn]) ∧ Rep K H vt (tmD c) ∧ NmAt K H vn env
theorem KdT.kd {K : PySem.W.Frag} {H H' : Hp} {env : List (Str × D)} {v : V} {c : Tm} (h : KdT K H env v c) (s : KD H H') : KdT K H' env v c :=
  let ⟨a, vt, vn, e, ha, r, n⟩ := h
  ⟨a, vt, vn, e, s.k.t _ _ ha, r.mono s.k, n.kd s⟩
def KidAt (K : PySem.W.Frag) (H : Hp) (v : V) (c : Pt) : Prop := KdT K H c.2.2 v c.1
def KidsAt (K : PySem.W.Frag) (H : Hp) (xs : List V) (cs : List Pt) : Prop := Paired (fun v c => KidAt K H v c) xs cs
/-- a part with its path and its names -/
def PtAt (K : PySem.W.Frag) (H : Hp) (v : V) (x : Pt) : Prop := ∃ a vt vp vn, v = .ref a ∧ H a = some (.tup [vt, vp, vn]) ∧ Rep K H vt (tmD x.1) ∧ Rep K H vp (pathD x.2.1) ∧ NmAt K H vn x.2.2
theorem PtAt.kd {K : PySem.W.Frag} {H H' : Hp} {v : V} {x : Pt} (h : PtAt K H v x) (s : KD H H') : PtAt K H' v x :=
  let ⟨a, vt, vp, vn, e, ha, r, q, n⟩ := h
  ⟨a, vt, vp, vn, e, s.k.t _ _ ha, r.mono s.k, q.mono s.k, n.kd s⟩
def PtsAt (K : PySem.W.Frag) (H : Hp) (xs : List V) (cs : List Pt) : Prop := Paired (fun v c => PtAt K H v c) xs cs
theorem paired_map {α β : Type} {F G : α → β → Prop} (h : ∀ a b, F a b → G a b) : ∀ {l : List α} {m : List β}, Paired F l m → Paired G l m
  | _, _, .nil => .nil
  | _, _, .cons a r => .cons (h _ _ a) (paired_map h r)
theorem paired_app {α β : Type} {F : α → β → Prop} : ∀ {l l' : List α} {m m' : List β}, Paired F l m → Paired F l' m' → Paired F (l ++ l') (m ++ m')
  | _, _, _, _, .nil, h => h
  | _, _, _, _, .cons a r, h => .cons a (paired_app r h)
theorem KidsAt.kd {K : PySem.W.Frag} {H H' : Hp} {xs : List V} {cs : List Pt} (h : KidsAt K H xs cs) (s : KD H H') : KidsAt K H' xs cs := paired_map (fun _ _ z => KdT.kd z s) h
theorem PtsAt.kd {K : PySem.W.Frag} {H H' : Hp} {xs : List V} {cs : List Pt} (h : PtsAt K H xs cs) (s : KD H H') : PtsAt K H' xs cs := paired_map (fun _ _ z => z.kd s) h
theorem same_none {H H' : Hp} {l : Addr} (s : Same H H') (n : H' l = none) : H l = none := by
  cases e : H l with
  | none => rfl
  | some o =>
    rw [s _ _ e] at n
    cases n
theorem forms2 (t : Tm) : (∃ s k b, t = .fn s k b) ∨ (∃ (wd : Str) (cs : List Tm), tmD t = .tup (.at (.str wd) :: cs.map tmD) ∧ (wd = "apply" ∨ wd = "if") ∧ ∀ p env, (kidsP (t, p, env)).map (fun c => (c.1, c.2.2)) = cs.map fun c => (c, env)) ∨
    (∃ wd r, tmD t = .tup (.at (.str wd) :: r) ∧ wd ≠ "fun" ∧ wd ≠ "apply" ∧ wd ≠ "if" ∧ ∀ p env, kidsP (t, p, env) = []) := by
  cases t with
  | fn s k b => exact .inl ⟨s, k, b, rfl⟩
  | ap f a => exact .inr (.inl ⟨_, [f, a], rfl, .inl rfl, fun _ _ => rfl⟩)
  | iff a b c => exact .inr (.inl ⟨_, [a, b, c], rfl, .inr rfl, fun _ _ => rfl⟩)
  | nm s => exact .inr (.inr ⟨_, _, rfl, by decide +kernel, by decide +kernel, by decide +kernel, fun _ _ => rfl⟩)
  | an v => exact .inr (.inr ⟨_, _, rfl, by decide +kernel, by decide +kernel, by decide +kernel, fun _ _ => rfl⟩)
  | st => exact .inr (.inr ⟨_, _, rfl, by decide +kernel, by decide +kernel, by decide +kernel, fun _ _ => rfl⟩)
/-- the parts within stand in a list, as far as it is filled -/
theorem kids_of {K : PySem.W.Frag} {H : Hp} {env : List (Str × D)} : ∀ {xs : List V} {cs : List Tm} {L : List Pt}, Paired (fun v c => KdT K H env v c) xs cs → L.map (fun c => (c.1, c.2.2)) = cs.map (fun c => (c, env)) → KidsAt K H xs L
  | _, _, [], .nil, _ => .nil
  | _, _, c :: L, .cons h r, e => by
    rw [List.map_cons, List.map_cons, List.cons.injEq] at e
    have e1 := Prod.mk.inj e.1
    refine .cons ?_ (kids_of r e.2)
    show KdT K H c.2.2 _ c.1
    rw [e1.1, e1.2]
    exact h
  | _, _, c :: L, .nil, e => by cases e
  | _, _, [], .cons h r, e => by cases e
/-! ### _inner_parts -/
section
variable {P : Program} {w : World} {K : PySem.W.Frag} {mg : Str → Option Value} {base : Heap}
def spIn (K : PySem.W.Frag) : Sp := fun vs H Q _ => ∃ (v n : V) (x : Pt) (m : Nat), vs = [v, n] ∧ Rep K H v (tmD x.1) ∧ NmAt K H n x.2.2 ∧ PtOk m x ∧ m ≤ 900 ∧
  ∀ (l : Addr) (H' : Hp) (xs : List V), H l = none → Same H H' → H' l = some (.lst xs) → KidsAt K H' xs (kidsP x) → Q (.ref l) H'
theorem ok_in {f : Addr} {fd : FuncData} (D__inner_parts : Df K mg "_inner_parts" s__inner_parts ["part", "names"] f fd) (B : Bt mg) : FnOk P w K mg base CX0 1 f fd ["part", "names"] (spIn K) := by
  refine D__inner_parts.ok c__inner_parts (fun vs H Q E h => ?_) (fun cdv A outer s H vs Q E hr h => ?_)
  · obtain ⟨v, n, x, m, rfl, _⟩ := h
    rfl
  obtain ⟨v, n, ⟨t, p, env⟩, m, rfl, rv, hn, ok, hm, q⟩ := h
  have nd := c__inner_parts.nd
  refine ⟨_, (pss_cons (ps_set (i := 2) nd rfl (Or.inl rfl) (pe_ix ix_tup (pv 0) pe_int (fun _ _ => rfl)))
  (pss_cons (ps_if (pt_cmpR op_eq (pv 2) pe_str (nomark _)) (pss_cons (ps_asg (pv 0) (pg_tup rfl (pgs_cons (pg_name (i := 3) nd rfl (Or.inl rfl)) (pgs_cons (pg_name (i := 4) nd rfl (Or.inl rfl)) (pgs_cons (pg_name (i := 5) nd rfl (Or.inl rfl)) (pgs_cons (pg_name (i := 6) nd rfl (Or.inl rfl)) pgs_nil))))))
  (pss_one (ps_ret (pe_lst (pa_cons (pe_tup (pa_cons (pv 6) (pa_cons (pe_merge (pv 1) (pv 4) (pv 5)) pa_nil))) pa_nil))))) pss_nil)
  (pss_cons (ps_if (pt_cmpR op_in_seq (pv 2) (pe_tup (pa_cons pe_str (pa_cons pe_str pa_nil))) rfl) (pss_one (ps_ret (pe_lc (own := [("inner", 7)]) (g := (gName 7)) (tt := tYes) rfl nd (pi_tup (pe_slice sl_tupP (pv 0) (po_some pe_int) po_none)) (blkOk_by (own := [("inner", 7)]) (N := ["part", "names", "form", "_", "name", "kind", "body", "inner"]) (sc := defScope s__inner_parts) (by decide +kernel)) (fun _ _ _ _ _ => (pg_name (i := 7) nd rfl (Or.inl rfl))) (fun _ _ _ _ _ => pts_nil) (fun _ _ _ _ _ => (pe_tup (pa_cons (pv 7) (pa_cons (pv 1) pa_nil))))))) pss_nil)
  (pss_one (ps_ret (pe_lst pa_nil)))))), ?_⟩
  obtain ⟨na, kvs, rfl, hna, rn⟩ := hn
  rcases forms2 t with ⟨s, k, b, rfl⟩ | ⟨wd, cs, hd, hw, hk⟩ | ⟨wd, r, hd, w1, w2, w3, hk⟩
  · obtain ⟨a, xs, rfl, ha, rx⟩ := Rep.inv (ts := [.at (.str "fun"), .at (.str s), k, tmD b]) rv
    cases rx with
    | cons r0 rx =>
    cases rx with
    | cons r1 rx =>
    cases rx with
    | @cons vk _ _ _ rk rx =>
    cases rx with
    | @cons vb _ _ _ rb rx =>
    cases rx
    obtain ⟨rfl, _⟩ := r0.inva
    obtain ⟨rfl, _⟩ := r1.inva
    refine ⟨_, rfl, a, _, 0, _, rfl, rfl, ha.sq, atI_nat (j := 0) rfl, _, rfl, rfl, _, rfl, iteT ⟨_, rfl, a, _, rfl, ha.sq, rfl, _, _, rfl, _, _, rfl, _, _, rfl, _, _, rfl, rfl, ?_⟩⟩
    refine ⟨_, rfl, fun d nd1 => ⟨_, rfl, na, kvs, rfl, by rw [upd_ne (ne_of_none hna nd1)]; exact hna, ne_of_none hna nd1, upd_same, by have h1 : kvs.length ≤ env.length := rn.len; have h2 : env.length + hgt (.fn s k b) ≤ m := ok.he; omega, fun d2 nd2 => ⟨_, rfl, _, rfl, s, rfl, ?_, upd_same, ?_⟩⟩⟩
    · have hd : d ≠ d2 := fun z => by rw [← z, upd_same] at nd2; cases nd2
      rw [upd_ne hd, upd_same]
    have hd : d2 ≠ d := fun z => by rw [z, upd_same] at nd2; cases nd2
    have nd3 : H d2 = none := by rw [upd_ne hd] at nd2; exact nd2
    have s1 : Same H (upd (upd (upd (upd (upd H d (.dK [])) d (.dK (mergeK [] kvs))) d2 (.dK [])) d2 (.dK [(.inr s, vk)])) d (.dK (mergeK (mergeK [] kvs) [(.inr s, vk)]))) := fun z o hz => by
      have h1 := ne_of_none hz nd1
      have h2 := ne_of_none hz nd3
      rw [upd_ne h1, upd_ne h2, upd_ne h2, upd_ne h1, upd_ne h1]
      exact hz
    have hN : NmAt K _ (.ref d) ((s, k) :: env) := ⟨d, _, rfl, upd_same, (rn.same s1).put (rk.mono (kx_same s1))⟩
    have rb1 := rb.mono (kx_same s1)
    generalize (upd (upd (upd (upd (upd H d (.dK [])) d (.dK (mergeK [] kvs))) d2 (.dK [])) d2 (.dK [(.inr s, vk)])) d (.dK (mergeK (mergeK [] kvs) [(.inr s, vk)]))) = H1 at s1 hN rb1 ⊢
    refine ⟨by show 2 ≤ sizeLine; decide, fun t nt => ⟨by show 1 ≤ sizeLine; decide, fun l nl => ?_⟩⟩
    have s2 := same_new nt (.tup [vb, .ref d])
    have s3 := same_new nl (.lst [.ref t])
    exact q l _ _ (same_none (s1.trans s2) nl) ((s1.trans s2).trans s3) upd_same (.cons ⟨t, _, _, rfl, s3 _ _ upd_same, rb1.mono (kx_same (s2.trans s3)), hN.same (s2.trans s3)⟩ .nil)
  · have rv : Rep K H v (tmD t) := rv
    rw [hd] at rv
    obtain ⟨a, xs, rfl, ha, rx⟩ := Rep.inv rv
    cases rx with
    | @cons v0 _ xs _ r0 rx =>
    obtain ⟨rfl, _⟩ := r0.inva
    have hf : ¬ wd = "fun" := by rcases hw with rfl | rfl <;> decide +kernel
    have lx := rx.length
    refine ⟨_, rfl, a, _, 0, _, rfl, rfl, ha.sq, atI_nat (j := 0) rfl, _, rfl, rfl, _, rfl, ite2 (fun z => absurd (V.str.inj (of_decide_eq_true z)) hf) (fun _ => ?_)⟩
    refine ⟨_, rfl, by show 2 ≤ sizeLine; decide, fun t1 n1 => ⟨t1, _, rfl, .inr (SqT.of upd_same), rfl, rfl, _, rfl, ite2 (fun _ => ?_) (fun z => absurd z (by rcases hw with rfl | rfl <;> decide +kernel))⟩⟩
    have s1 := same_new n1 (.tup [.str "apply", .str "if"])
    have ha1 := ha.same s1
    have rx1 := rx.mono (kx_same s1)
    have hn1 : NmAt K _ (.ref na) env := ⟨na, kvs, rfl, s1 _ _ hna, rn.same s1⟩
    generalize (upd H t1 (.tup [.str "apply", .str "if"])) = H1 at s1 ha1 rx1 hn1 ⊢
    refine ⟨_, rfl, 1, rfl, a, _, rfl, ha1, fun t2 H2 s2 ht2 => ⟨t2, rfl, ⟨_, ht2.sq⟩, fun l nl => ?_⟩⟩
    rw [show ((1 : Int)) = ((1 : Nat) : Int) from rfl, cutV_from] at ht2
    have ht2 : TupAt K H2 t2 xs := ht2
    have rx2 := rx1.mono (kx_same s2)
    have hn2 := hn1.same s2
    have s02 := s1.trans s2
    refine lc_tup (K := K) (a := t2) (xs := xs) (fun i H' => Same H2 H' ∧ ∃ acc, H' l = some (.lst acc) ∧ acc.length = i ∧ Paired (fun v c => KdT K H' env v c) acc (cs.take i))
      ⟨same_new nl _, [], upd_same, rfl, .nil⟩ (fun i H' _ h => (ht2.same h.1).sq) ?_ ?_
    · rintro i x H3 hi ⟨s3, acc, hl3, hal, hp3⟩
      obtain ⟨c, hc, rc⟩ := (rx2.mono (kx_same s3)).get hi
      rw [List.getElem?_map] at hc
      obtain ⟨ct, hct, rfl⟩ := Option.map_eq_some_iff.mp hc
      have hil := (List.getElem?_eq_some_iff.mp hi).1
      have lcs : cs.length ≤ 3 := by
        have e := congrArg List.length (hk p env)
        rw [List.length_map, List.length_map] at e
        rw [← e]
        cases t <;> simp [kidsP]
      rw [List.length_map] at lx
      refine ⟨rfl, yes_go ⟨_, rfl, _, rfl, by show 2 ≤ sizeLine; decide, fun t3 n3 => ⟨acc, same_new n3 _ _ _ hl3, Nat.lt_of_le_of_lt (show acc.length ≤ 3 by omega) (by decide), ?_⟩⟩⟩
      have k4 : KD H3 (upd H3 t3 (.tup [x, .ref na])) := .same (same_new n3 _)
      have k5 := KD.put (same_new n3 (.tup [x, .ref na]) _ _ hl3) (acc ++ [.ref t3])
      have nl3 : t3 ≠ l := fun z => by rw [z, hl3] at n3; cases n3
      refine ⟨fun b o hb => ?_, _, upd_same, by rw [List.length_append, hal]; rfl, ?_⟩
      · rw [upd_ne (ne_of_none hb nl)]
        exact same_new n3 _ _ _ (s3 _ _ hb)
      · rw [show cs.take (i + 1) = cs.take i ++ [ct] by rw [List.take_add_one, hct]; rfl]
        refine paired_app (paired_map (fun _ _ z => z.kd (k4.trans k5)) hp3) (.cons ⟨t3, x, .ref na, rfl, ?_, rc.mono (k4.trans k5).k, ((hn2.same s3).kd k4).kd k5⟩ .nil)
        exact k5.k.t _ _ upd_same
    · rintro H3 ⟨s3, acc, hl3, hal, hp3⟩
      rw [List.length_map] at lx
      rw [List.take_of_length_le (by omega)] at hp3
      exact q l _ acc (same_none s02 nl) (s02.trans s3) hl3 (kids_of hp3 (hk p env))
  · have rv : Rep K H v (tmD t) := rv
    rw [hd] at rv
    obtain ⟨a, xs, rfl, ha, rx⟩ := Rep.inv rv
    cases rx with
    | @cons v0 _ xs _ r0 rx =>
    obtain ⟨rfl, _⟩ := r0.inva
    refine ⟨_, rfl, a, _, 0, _, rfl, rfl, ha.sq, atI_nat (j := 0) rfl, _, rfl, rfl, _, rfl, ite2 (fun z => absurd (V.str.inj (of_decide_eq_true z)) w1) (fun _ => ?_)⟩
    refine ⟨_, rfl, by show 2 ≤ sizeLine; decide, fun t1 n1 => ⟨t1, _, rfl, .inr (SqT.of upd_same), rfl, rfl, _, rfl, ite2 (fun z => absurd z (by rw [show ([.str "apply", .str "if"] : List V) = (["apply", "if"] : List Str).map V.str from rfl, inV_str]; simp [w2, w3])) (fun _ => ?_)⟩⟩
    have s1 := same_new n1 (.tup [.str "apply", .str "if"])
    refine ⟨Nat.zero_le _, fun l nl => q l _ [] (same_none s1 nl) (s1.trans (same_new nl _)) upd_same ?_⟩
    rw [hk]
    exact .nil
end
end Pk

set_option maxRecDepth 100000
set_option maxHeartbeats 4000000
set_option pp.maxSteps 600
namespace Pk
open PySem PySem.Spec PyProof.Rows L2
open NdefX (NScope nscope_by)
/-! ### _parts -/
theorem walk_enumL {K : PySem.W.Frag} {a : Addr} {xs : List V} : Walk (Ite K a) xs.length (fun H => SqL K H a xs) (YPair (fun i => some (.int (i : Nat))) (fun i => xs[i]?)) := by
  refine ⟨fun i H hi q => ⟨xs, xs[i], q, List.getElem?_eq_getElem hi⟩, fun H q => ⟨xs, q, Nat.le_refl _⟩, fun i H v H' hi q y => ?_⟩
  obtain ⟨T, x, h1, h2, h3, h4⟩ := y
  exact ⟨T, .int (i : Nat), x, h1, h2, h3, rfl, h4 xs q⟩
theorem kid_path {x c : Pt} {i : Nat} (h : (kidsP x)[i]? = some c) : c.2.1 = x.2.1 ++ [i] := by
  obtain ⟨t, p, env⟩ := x
  have hi := (List.getElem?_eq_some_iff.mp h).1
  cases t with
  | nm s => exact absurd hi (by simp [kidsP])
  | an v => exact absurd hi (by simp [kidsP])
  | st => exact absurd hi (by simp [kidsP])
  | fn s k b =>
    have : i = 0 := by simp [kidsP] at hi; omega
    subst this
    cases h
    rfl
  | ap f a =>
    have : i = 0 ∨ i = 1 := by simp [kidsP] at hi; omega
    rcases this with rfl | rfl <;> (cases h; rfl)
  | iff a b d =>
    have : i = 0 ∨ i = 1 ∨ i = 2 := by simp [kidsP] at hi; omega
    rcases this with rfl | rfl | rfl <;> (cases h; rfl)
theorem kids_len (x : Pt) : (kidsP x).length ≤ 3 := by
  obtain ⟨t, p, env⟩ := x
  cases t <;> simp [kidsP]
theorem paired_rev {α β : Type} {F : α → β → Prop} : ∀ {l : List α} {m : List β}, Paired F l m → Paired F l.reverse m.reverse
  | _, _, .nil => .nil
  | _, _, .cons a r => by
    rw [List.reverse_cons, List.reverse_cons]
    exact paired_app (paired_rev r) (.cons a .nil)
theorem paired_at {α β : Type} {F : α → β → Prop} : ∀ {l : List α} {m : List β} {i : Nat} {a : α}, Paired F l m → l[i]? = some a → ∃ b, m[i]? = some b ∧ F a b
  | _, _, _, _, .nil, h => by simp at h
  | _, _, 0, _, .cons a r, h => by
    simp at h
    subst h
    exact ⟨_, rfl, a⟩
  | _, _, i + 1, _, .cons a r, h => by
    simp at h
    obtain ⟨b, h1, h2⟩ := paired_at r h
    exact ⟨b, by simpa using h1, h2⟩
/-- the last one of each -/
theorem paired_last {α β : Type} {F : α → β → Prop} : ∀ {l : List α} {m : List β}, Paired F l m → l ≠ [] → ∃ l0 a m0 b, l = l0 ++ [a] ∧ m = m0 ++ [b] ∧ Paired F l0 m0 ∧ F a b
  | _, _, .nil, h => absurd rfl h
  | _, _, .cons (a := a) (b := b) h .nil, _ => ⟨[], a, [], b, rfl, rfl, .nil, h⟩
  | _, _, .cons (a := a) (b := b) h (.cons h2 r), _ => by
    obtain ⟨l0, c, m0, d, e1, e2, p, q⟩ := paired_last (.cons h2 r) (fun z => by cases z)
    exact ⟨a :: l0, c, b :: m0, d, by rw [e1]; rfl, by rw [e2]; rfl, .cons h p, q⟩
def prts (L : List Pt) : Nat := (L.map fun c => prt c.1).sum
theorem prts_app (A B : List Pt) : prts (A ++ B) = prts A + prts B := by
  unfold prts
  rw [List.map_append, List.sum_append]
theorem prts_len (L : List Pt) : L.length ≤ prts L := by
  induction L with
  | nil => exact Nat.le_refl _
  | cons x L ih =>
    have := prt_pos x.1
    show L.length + 1 ≤ prt x.1 + prts L
    omega
theorem iteT' {c : Bool} {A B : Prop} (h : A) (hc : c = true) : if c = true then A else B := by
  rw [if_pos hc]
  exact h
section
variable {P : Program} {w : World} {K : PySem.W.Frag} {mg : Str → Option Value} {base : Heap}
def spPs (K : PySem.W.Frag) : Sp := fun vs H Q _ => ∃ (v : V) (t : Tm), vs = [v] ∧ Rep K H v (tmD t) ∧ ek t ∧ hgt t ≤ 800 ∧ prt t ≤ 100000 ∧
  ∀ (l : Addr) (H' : Hp) (xs : List V), H l = none → Same H H' → H' l = some (.lst xs) → PtsAt K H' xs (post [] [] t) → Q (.ref l) H'
/-- the two lists between the turns -/
structure PsI (K : PySem.W.Frag) (F N : Addr) (H H' : Hp) (t : Tm) (m : Nat) (fx px : List V) (A L : List Pt) : Prop where
  s : Same H H'
  f : H' F = some (.lst fx)
  n : H' N = some (.lst px)
  pf : PtsAt K H' fx A
  pn : PtsAt K H' px L
  ok : ∀ x ∈ L, PtOk 800 x
  e : (L.map postP).flatten ++ A.reverse = post [] [] t
  m : m = prts L
  b : prts L + A.length = prt t
theorem ok_ps {f f2 : Addr} {fd d2 : FuncData} (D__parts : Df K mg "_parts" s__parts ["term"] f fd) (D__inner_parts : Df K mg "_inner_parts" s__inner_parts ["part", "names"] f2 d2) (B : Bt mg) : FnOk P w K mg base CX0 2 f fd ["term"] (spPs K) := by
  have G__inner_parts : FnOk P w K mg base CX0 1 f2 d2 ["part", "names"] (spIn K) := ok_in D__inner_parts B
  refine D__parts.ok c__parts (fun vs H Q E h => ?_) (fun cdv A outer s H vs Q E hr h => ?_)
  · obtain ⟨v, t, rfl, _⟩ := h
    rfl
  obtain ⟨v, t, rfl, rv, hek, hh, hpr, q⟩ := h
  have nd := c__parts.nd
  refine ⟨_, (pss_cons (ps_set (i := 1) nd rfl (Or.inl rfl) (pe_lst pa_nil))
  (pss_cons (ps_set (i := 2) nd rfl (Or.inl rfl) (pe_lst (pa_cons (pe_tup (pa_cons (pv 0) (pa_cons (pe_tup pa_nil) (pa_cons pe_dnewK pa_nil)))) pa_nil)))
  (pss_cons (ps_while PassesOwn.never (pt_truth (pv 2) (by intro _; rfl)) (pss_cons (ps_asg (pe_bm0 PySem.F.plainAttrs_list PySem.F.slot_list_pop PySem.F.type_list_pop mt_pop (pv 2)) (pg_tup rfl (pgs_cons (pg_name (i := 3) nd rfl (Or.inl rfl)) (pgs_cons (pg_name (i := 4) nd rfl (Or.inl rfl)) (pgs_cons (pg_name (i := 5) nd rfl (Or.inl rfl)) pgs_nil)))))
  (pss_cons (ps_expr (pe_bm PySem.F.plainAttrs_list PySem.F.slot_list_append PySem.F.type_list_append mt_append (pv 1) (pa_cons (pe_tup (pa_cons (pv 3) (pa_cons (pv 4) (pa_cons (pv 5) pa_nil)))) pa_nil)))
  (pss_one (ps_for PassesOwn.never rfl (pi_enum (by rfl) B.b_enumerate (pa_cons (pe_call G__inner_parts (hr.mono (by first | decide | omega)) (by rfl) D__inner_parts.m D__inner_parts.kp D__inner_parts.b .nil pass0 (pa_cons (pv 3) (pa_cons (pv 5) pa_nil))) pa_nil)) (pg_tup rfl (pgs_cons (pg_name (i := 6) nd rfl (Or.inl rfl)) (pgs_cons (pg_tup rfl (pgs_cons (pg_name (i := 7) nd rfl (Or.inl rfl)) (pgs_cons (pg_name (i := 8) nd rfl (Or.inl rfl)) pgs_nil))) pgs_nil))) (pss_one (ps_expr (pe_bm PySem.F.plainAttrs_list PySem.F.slot_list_append PySem.F.type_list_append mt_append (pv 2) (pa_cons (pe_tup (pa_cons (pv 7) (pa_cons (pe_op op_catP (pv 4) (pe_tup (pa_cons (pv 6) pa_nil))) (pa_cons (pv 8) pa_nil)))) pa_nil)))))))))
  (pss_one (ps_ret (pe_revL (pv 1))))))), ?_⟩
  refine ⟨Nat.zero_le _, fun F nF => ?_⟩
  have sF := same_new nF (.lst [])
  refine ⟨_, rfl, Nat.zero_le _, fun t1 n1 => fun d1 nd1 => ⟨by show 3 ≤ sizeLine; decide, fun t2 n2 => ⟨by show 1 ≤ sizeLine; decide, fun N nN => ?_⟩⟩⟩
  have s1 := same_new n1 (.tup [])
  have s2 := same_new nd1 (.dK [])
  have s3 := same_new n2 (.tup [v, .ref t1, .ref d1])
  have s4 := same_new nN (.lst [.ref t2])
  have sA := sF.trans (s1.trans (s2.trans (s3.trans s4)))
  have hF0 : _ := (s1.trans (s2.trans (s3.trans s4))) _ _ (upd_same (H := H) (a := F) (o := .lst []))
  have hF0' : (upd (upd (upd (upd H F (.lst [])) t1 (.tup [])) d1 (.dK [])) t2 (.tup [v, .ref t1, .ref d1])) F = some (.lst []) := (s1.trans (s2.trans s3)) _ _ upd_same
  have nNH : H N = none := same_none (sF.trans (s1.trans (s2.trans s3))) nN
  have hP0 : PtAt K _ (.ref t2) (t, [], []) := ⟨t2, v, .ref t1, .ref d1, rfl, s4 _ _ upd_same, rv.mono (kx_same sA), .tup (.inl ((s2.trans (s3.trans s4)) _ _ upd_same)) .nil, d1, [], rfl, (s3.trans s4) _ _ upd_same, ⟨List.nodup_nil, Nat.le_refl _, fun s => .inr ⟨rfl, rfl⟩⟩⟩
  obtain ⟨W, hW⟩ : ∃ W : Nat → L2.St → Hp → Prop, ∀ m σ H', W m σ H' ↔ (∃ (fx px : List V) (A L : List Pt) (y3 y4 y5 y6 y7 y8 : Option V), σ = [some v, some (.ref F), some (.ref N), y3, y4, y5, y6, y7, y8] ∧ PsI K F N H H' t m fx px A L) := ⟨_, fun _ _ _ => Iff.rfl⟩
  refine ⟨W, ⟨prts [(t, [], [])], (hW _ _ _).mpr ⟨[], [.ref t2], [], [(t, [], [])], none, none, none, none, none, none, rfl, sA, hF0, upd_same, .nil, .cons hP0 .nil, fun x hx => ?_, ?_, rfl, ?_⟩⟩, ?_⟩
  · rw [List.mem_singleton.mp hx]
    exact ⟨hek, fun pr h => by simp at h, by show 0 + hgt t ≤ 800; omega, by show 0 + hgt t ≤ 800; omega, fun i h => by simp at h, hpr⟩
  · show [post [] [] t].flatten ++ [] = _
    simp
  · show prt t + 0 + 0 = prt t
    omega
  intro m σ H1 hw
  obtain ⟨fx, px, A', L, y3, y4, y5, y6, y7, y8, rfl, I⟩ := (hW _ _ _).mp hw
  refine ⟨_, rfl, _, .inl ⟨px, SqL.of I.n, rfl⟩, ?_⟩
  have hFN : F ≠ N := fun z => by rw [← z, hF0'] at nN; cases nN
  by_cases hpx : px = []
  · subst hpx
    have hL : L = [] := by
      have e := I.pn
      cases e
      rfl
    subst hL
    refine iteF ⟨_, rfl, F, fx, rfl, SqL.of I.f, fun r nr => ?_⟩
    have sr := same_new nr (.lst fx.reverse)
    refine q r _ _ (same_none I.s nr) (I.s.trans sr) upd_same ?_
    have e : A'.reverse = post [] [] t := by simpa using I.e
    rw [← e]
    exact paired_rev (I.pf.kd (.same sr))
  · obtain ⟨p0, y, L0, x, rfl, rfl, hp0, hy⟩ := paired_last I.pn hpx
    have hk : PtOk 800 x := I.ok x (List.mem_append_right _ (List.mem_singleton.mpr rfl))
    refine iteT' ⟨fun σ' H' => ∃ m', m' < m ∧ W m' σ' H', fun _ _ h => h, ?_⟩ (by simp)
    have kA := KD.put I.n p0
    obtain ⟨b, vt, vp, vn, rfl, hb, rt, rp, rn⟩ := hy.kd kA
    refine ⟨_, rfl, .inl ⟨rfl, _, SqL.of I.n⟩, N, _, .ref b, rfl, rfl, I.n, by simp, ?_⟩
    rw [List.dropLast_concat]
    have hF1 : (upd H1 N (.lst p0)) F = some (.lst fx) := by rw [upd_ne hFN]; exact I.f
    have hN1 : (upd H1 N (.lst p0)) N = some (.lst p0) := upd_same
    have pf1 := I.pf.kd kA
    have pn1 : PtsAt K (upd H1 N (.lst p0)) p0 L0 := PtsAt.kd hp0 kA
    have sH1 : Same H (upd H1 N (.lst p0)) := fun c o hc => by rw [upd_ne (ne_of_none hc nNH)]; exact I.s _ _ hc
    generalize (upd H1 N (.lst p0)) = H2 at kA hb rt rp rn hF1 hN1 pf1 pn1 sH1 ⊢
    refine ⟨b, _, rfl, SqT.of hb, rfl, _, _, rfl, _, _, rfl, _, _, rfl, rfl, ?_⟩
    refine ⟨_, rfl, .inl ⟨rfl, _, SqL.of hF1⟩, _, rfl, _, rfl, _, rfl, by show 3 ≤ sizeLine; decide, fun t5 n5 => ?_⟩
    have s5 := same_new n5 (.tup [vt, vp, vn])
    have hF2 := s5 _ _ hF1
    have lA : fx.length = A'.length := Paired.length I.pf
    have hb5 := I.b
    refine ⟨F, fx, .ref t5, rfl, rfl, hF2, small6 (by omega), ?_⟩
    have k6 := (KD.same s5).trans (KD.put hF2 (fx ++ [.ref t5]))
    have hx6 : PtAt K (upd (upd H2 t5 (.tup [vt, vp, vn])) F (.lst (fx ++ [.ref t5]))) (.ref t5) x := ⟨t5, vt, vp, vn, rfl, (KD.put hF2 _).k.t _ _ upd_same, rt.mono k6.k, rp.mono k6.k, rn.kd k6⟩
    have pf6 := paired_app (pf1.kd k6) (.cons hx6 .nil)
    have pn6 := pn1.kd k6
    have hF6 : (upd (upd H2 t5 (.tup [vt, vp, vn])) F (.lst (fx ++ [.ref t5]))) F = some (.lst (fx ++ [.ref t5])) := upd_same
    have hN6 : (upd (upd H2 t5 (.tup [vt, vp, vn])) F (.lst (fx ++ [.ref t5]))) N = some (.lst p0) := by rw [upd_ne (Ne.symm hFN)]; exact s5 _ _ hN1
    have sH6 : Same H (upd (upd H2 t5 (.tup [vt, vp, vn])) F (.lst (fx ++ [.ref t5]))) := fun c o hc => by rw [upd_ne (ne_of_none hc nF)]; exact s5 _ _ (sH1 _ _ hc)
    have rt6 := rt.mono k6.k
    have rp6 := rp.mono k6.k
    have rn6 := rn.kd k6
    generalize (upd (upd H2 t5 (.tup [vt, vp, vn])) F (.lst (fx ++ [.ref t5]))) = H6 at k6 hx6 pf6 pn6 hF6 hN6 sH6 rt6 rp6 rn6 ⊢
    have rp6' := rp6
    obtain ⟨pa, pxs, rfl, hpa, rpa⟩ := Rep.inv (ts := x.2.1.map fun n => .at (.int (n : Nat))) rp6'
    have lpa := rpa.length
    rw [List.length_map] at lpa
    have hpl : x.2.1.length + hgt x.1 ≤ 800 := hk.hp
    refine ⟨_, rfl, _, rfl, vt, vn, x, 800, rfl, rt6, rn6, hk, by omega, fun kl H7 kx nkl s7 hkl hks => ?_⟩
    have lks : kx.length = (kidsP x).length := Paired.length hks
    have l3 := kids_len x
    have hklN : kl ≠ N := fun z => by rw [z, hN6] at nkl; cases nkl
    refine ⟨kl, kx, rfl, SqL.of hkl, for_it (walk_enumL (K := K) (a := kl) (xs := kx)) (fun i σ H' => ∃ (acc : List V) (y6 y7 y8 : Option V), σ = [some v, some (.ref F), some (.ref N), some vt, some (.ref pa), some vn, y6, y7, y8] ∧ KD H7 H' ∧ Same H H' ∧ H' F = some (.lst (fx ++ [.ref t5])) ∧ H' kl = some (.lst kx) ∧ H' N = some (.lst (p0 ++ acc)) ∧ acc.length = i ∧ PtsAt K H' acc ((kidsP x).take i))
      ⟨[], _, _, _, rfl, .same (Same.refl _), sH6.trans s7, s7 _ _ hF6, hkl, by rw [List.append_nil]; exact s7 _ _ hN6, rfl, .nil⟩ (fun i σ H' _ h => ?_) ?_ ?_⟩
    · obtain ⟨acc, y6, y7, y8, _, _, _, _, h, _⟩ := h
      exact SqL.of h
    · rintro i v' σ H8 H8' hi ⟨acc, y6, y7, y8, rfl, k8, sH8, hF8, hkl8, hN8, lacc, pacc⟩ ⟨T, x1, y1, rfl, nT, rfl, hx1, hy1⟩
      have hx2 : V.int (i : Nat) = x1 := Option.some.inj hx1
      subst hx2
      have hy1 : kx[i]? = some y1 := hy1
      obtain ⟨c, hc, hcat⟩ := paired_at hks hy1
      have hcp := kid_path hc
      have sT := same_new nT (.tup [.int (i : Nat), y1])
      have k9 := k8.trans (.same sT)
      obtain ⟨kb, kt, kn, rfl, hkb, rkt, rkn⟩ := KdT.kd hcat k9
      refine ⟨T, _, rfl, SqT.of upd_same, rfl, _, _, rfl, _, _, rfl, kb, _, rfl, SqT.of hkb, rfl, _, _, rfl, _, _, rfl, rfl, rfl, ?_⟩
      have hN9 := sT _ _ hN8
      have hF9 := sT _ _ hF8
      have hkl9 := sT _ _ hkl8
      have sH9 := sH8.trans sT
      have pacc9 := pacc.kd (.same sT)
      generalize (upd H8 T (.tup [.int (i : Nat), .ref kb])) = H9 at k9 hkb rkt rkn hN9 hF9 hkl9 sH9 pacc9 ⊢
      have k69 := (KD.same s7).trans k9
      refine ⟨_, rfl, .inl ⟨rfl, _, SqL.of hN9⟩, _, rfl, _, rfl, _, rfl, by show 1 ≤ sizeLine; decide, fun t3 n3 => ?_⟩
      have s10 := same_new n3 (.tup [.int (i : Nat)])
      refine ⟨pa, t3, _, _, rfl, rfl, (hpa.kx k69.k).same s10, .inl upd_same, small6' (by show pxs.length + 1 ≤ 1000000; omega), fun c2 H11 s11 hc2 => ⟨_, rfl, by show 3 ≤ sizeLine; decide, fun t4 n4 => ?_⟩⟩
      have s12 := s10.trans s11
      have rc := path_snoc (t := t3) (a := pa) rfl hc2 (rpa.mono k69.k) s12
      have s13 := same_new n4 (.tup [kt, .ref c2, kn])
      have s14 := s12.trans s13
      have hN14 := s14 _ _ hN9
      have lp0 : p0.length = L0.length := Paired.length hp0
      have lL0 := prts_len L0
      have hm1 := I.b
      rw [prts_app] at hm1
      refine ⟨N, _, .ref t4, rfl, rfl, hN14, small6 (by rw [List.length_append]; omega), ?_⟩
      have k15 := (KD.same s14).trans (KD.put hN14 ((p0 ++ acc) ++ [.ref t4]))
      have kp := KD.put hN14 ((p0 ++ acc) ++ [.ref t4])
      refine ⟨acc ++ [.ref t4], _, _, _, rfl, k9.trans k15, fun z o hz => ?_, ?_, ?_, ?_, by rw [List.length_append, lacc]; rfl, ?_⟩
      · rw [upd_ne (ne_of_none hz nNH)]
        exact s14 _ _ (sH9 _ _ hz)
      · rw [upd_ne hFN]
        exact s14 _ _ hF9
      · rw [upd_ne hklN]
        exact s14 _ _ hkl9
      · rw [← List.append_assoc]
        exact upd_same
      · rw [show (kidsP x).take (i + 1) = (kidsP x).take i ++ [c] by rw [List.take_add_one, hc]; rfl]
        refine paired_app (pacc9.kd k15) (.cons ⟨t4, kt, .ref c2, kn, rfl, kp.k.t _ _ upd_same, rkt.mono k15.k, ?_, rkn.kd k15⟩ .nil)
        rw [hcp]
        exact (rc.mono (kx_same s13)).mono kp.k
    · rintro σ H8 ⟨acc, y6, y7, y8, rfl, k8, sH8, hF8, hkl8, hN8, lacc, pacc⟩
      rw [lks, List.take_length] at pacc
      have k68 := (KD.same s7).trans k8
      have hkp := kid_prt x
      have hm1 : m = prts L0 + (prt x.1 + 0) := by
        rw [I.m, prts_app]
        rfl
      refine ⟨prts (L0 ++ kidsP x), ?_, (hW _ _ _).mpr ⟨_, _, A' ++ [x], L0 ++ kidsP x, _, _, _, _, _, _, rfl, sH8, hF8, hN8, PtsAt.kd pf6 k68, paired_app (pn6.kd k68) pacc, fun z hz => ?_, ?_, rfl, ?_⟩⟩
      · rw [prts_app, hm1]
        show prts L0 + ((kidsP x).map fun c => prt c.1).sum < _
        omega
      · rcases List.mem_append.mp hz with hz | hz
        · exact I.ok z (List.mem_append_left _ hz)
        · exact kid_ok hk hz
      · rw [← I.e, List.map_append, List.map_append, List.flatten_append, List.flatten_append, List.reverse_append]
        have e1 : ([x].map postP).flatten = ((kidsP x).map postP).flatten ++ [x] := by
          rw [← post_step]
          simp
        rw [e1]
        simp
      · have e2 := I.b
        rw [prts_app, List.length_append]
        have e3 : prts (kidsP x) + 1 = prt x.1 := hkp
        rw [prts_app] at e2
        have e4 : prts [x] = prt x.1 + 0 := rfl
        show prts L0 + prts (kidsP x) + (A'.length + 1) = prt t
        omega
end
end Pk

set_option maxRecDepth 100000
set_option maxHeartbeats 4000000
set_option pp.maxSteps 600
namespace Pk
open PySem PySem.Spec PyProof.Rows L2
open NdefX (NScope nscope_by)
/-! ### kinds of single parts -/
theorem Df.okX {P : Program} {w : World} {K : PySem.W.Frag} {mg : Str → Option Value} {base : Heap} {x : Str} {st : Stmt} {ps : List Str} {f : Addr} {fd : FuncData} {N : List Str} {k : Nat} {sp : Sp} (D : Df K mg x st ps f fd) (S : FnScope N ps (defScope st)) (len : ∀ vs H Q E, sp vs H Q E → vs.length = ps.length)
    (hbody : ∀ (cdv : Value) (A : Around) (outer : List Env) (s : Shared) (H : Hp) (vs : List V) (Q : VK) (E : XK), Room k (A.deeper (envOfC x (defScope st) s.heap.objs.size f cdv)) → sp vs H Q E →
      ∃ t, PSs (cxOf (L2.CX P w) P w K mg base N x (defScope st) f cdv A outer s H E) (defBody st) t ∧ t { nx := fun _ H' => Q .non H', rt := Q } (start N vs) H) : FnOk P w K mg base (L2.CX P w) (k + 1) f fd ps sp :=
  D.F.ok S len hbody
def OutK (K : PySem.W.Frag) (C : Addr) (H : Hp) (Q : VK) (E : XK) (r : Rs) : Prop := match r with
  | .ok k => ∀ (v : V) (H' : Hp), Same H H' → Rep K H' v (.tup k) → Q v H'
  | .bad p s => RaisesAt K C E H p s
theorem RaisesAt.same {K : PySem.W.Frag} {C : Addr} {E : XK} {H H' : Hp} {p : List Nat} {r : Str} (h : RaisesAt K C E H p r) (s : Same H H') : RaisesAt K C E H' p r := fun d H1 vp s1 => h d H1 vp (s.trans s1)
theorem OutK.same {K : PySem.W.Frag} {C : Addr} {H H' : Hp} {Q : VK} {E : XK} {r : Rs} (h : OutK K C H Q E r) (s : Same H H') : OutK K C H' Q E r := by
  cases r with
  | ok k => exact fun v H1 s1 => h v H1 (s.trans s1)
  | bad p r => exact RaisesAt.same h s
theorem ek_args {d : D} (h : Ek d) : d = .tup (args d) := by
  obtain ⟨ts, rfl, _⟩ := h.inv
  rfl
section
variable {P : Program} {w : World} {K : PySem.W.Frag} {mg : Str → Option Value} {base : Heap} {C fI cc cda : Addr} {fdI : FuncData}
def spNm (K : PySem.W.Frag) (C : Addr) : Sp := fun vs H Q E => ∃ (s : Str) (vp vn : V) (p : List Nat) (env : List (Str × D)), vs = [.str s, vp, vn] ∧ Rep K H vp (pathD p) ∧ NmAt K H vn env ∧ (∀ pr ∈ env, Ek pr.2) ∧ (∀ n ∈ p, n ≤ 2) ∧ p.length ≤ 8000 ∧
  OutK K C H Q E (match look env s with | some d => .ok (args d) | none => .bad p "unknown name")
theorem look_mem : ∀ {env : List (Str × D)} {s : Str} {d : D}, look env s = some d → ∃ n, (n, d) ∈ env
  | [], _, _, h => by cases h
  | (n, e) :: env, s, d, h => by
    unfold look at h
    split at h
    · cases h
      exact ⟨n, List.mem_cons_self⟩
    · obtain ⟨m, hm⟩ := look_mem h
      exact ⟨m, List.mem_cons_of_mem _ hm⟩
theorem ok_nm {f : Addr} {fd : FuncData} (D__kind_of_name : Df K mg "_kind_of_name" s__kind_of_name ["name", "path", "names"] f fd) (KF : KfD P K mg C fI cc cda fdI) (B : Bt mg) : FnOk P w K mg base (L2.CX P w) 4 f fd ["name", "path", "names"] (spNm K C) := by
  have GK : FnOk P w K mg base CX0 2 fI fdI ["self", "path", "reason"] (spKf K C) := ok_kf KF
  refine D__kind_of_name.okX c__kind_of_name (fun vs H Q E h => ?_) (fun cdv A outer s H vs Q E hr h => ?_)
  · obtain ⟨s, vp, vn, p, env, rfl, _⟩ := h
    rfl
  obtain ⟨s, vp, vn, p, env, rfl, rp, hn, hek, hsm, hpl, q⟩ := h
  have nd := c__kind_of_name.nd
  refine ⟨_, (pss_cons (ps_if (pt_cmp (pc_dnotin (hu_of hr) (pv 0) (pv 2))) (pss_one (ps_raise rfl (takes_of rfl rfl rfl rfl) (pmk_oex KF.sup.oex KF.iC KF.tI GK (hr.mono (by first | decide | omega)) KF.b .nil pass0 (by rfl) KF.gC (pa_cons (pv 1) (pa_cons pe_str pa_nil))))) pss_nil)
  (pss_one (ps_ret (pe_dget (hu_of hr) (pv 2) (pv 0) (fun _ _ => rfl))))), ?_⟩
  obtain ⟨a, kvs, rfl, ha, rn⟩ := hn
  obtain ⟨b, xs, rfl, hb, rx⟩ := Rep.inv (ts := p.map fun n => .at (.int (n : Nat))) rp
  refine ⟨_, rfl, _, rfl, a, _, rfl, DGet.k (k := .inr s) ha, ?_⟩
  rcases rn.val s with ⟨x, d, h1, h2, h3⟩ | ⟨h1, h2⟩
  · rw [h1]
    rw [h2] at q
    have hd := ek_args (hek _ (look_mem h2).choose_spec)
    have h3' : Rep K H x (.tup (args d)) := by rw [← hd]; exact h3
    exact ⟨_, rfl, iteF ⟨_, rfl, _, rfl, a, x, rfl, by rw [← h1]; exact DGet.k (k := .inr s) ha, q x H (Same.refl H) h3'⟩⟩
  · rw [h1]
    rw [h2] at q
    refine ⟨_, rfl, iteT ⟨_, rfl, by show 2 ≤ 1000; decide, raises_kf rp hsm (by omega) (by decide +kernel) q⟩⟩
def spAp (K : PySem.W.Frag) (C : Addr) : Sp := fun vs H Q E => ∃ (vp v1 v2 : V) (p : List Nat) (x y : List D) (n : Nat), vs = [vp, v1, v2] ∧ Rep K H vp (pathD p) ∧ Rep K H v1 (.tup x) ∧ Rep K H v2 (.tup y) ∧ Rk n x ∧ Rk n y ∧ n ≤ 900000 ∧ (∀ n ∈ p, n ≤ 2) ∧ p.length ≤ 8000 ∧
  OutK K C H Q E (joinAp p x y)
theorem ok_ap {f : Addr} {fd : FuncData} (D__kind_of_application : Df K mg "_kind_of_application" s__kind_of_application ["path", "function_kind", "argument_kind"] f fd) (KF : KfD P K mg C fI cc cda fdI) (B : Bt mg) : FnOk P w K mg base (L2.CX P w) 4 f fd ["path", "function_kind", "argument_kind"] (spAp K C) := by
  have GK : FnOk P w K mg base CX0 2 fI fdI ["self", "path", "reason"] (spKf K C) := ok_kf KF
  refine D__kind_of_application.okX c__kind_of_application (fun vs H Q E h => ?_) (fun cdv A outer s H vs Q E hr h => ?_)
  · obtain ⟨vp, v1, v2, p, x, y, n, rfl, _⟩ := h
    rfl
  obtain ⟨vp, v1, v2, p, x, y, n, rfl, rp, r0, r1, hx, hy, hn, hsm, hpl, q⟩ := h
  have nd := c__kind_of_application.nd
  refine ⟨_, (pss_cons (ps_if (pt_cmpR (op_eqNilT hr.units) (pv 1) (pe_tup pa_nil) (nomark _)) (pss_one (ps_raise rfl (takes_of rfl rfl rfl rfl) (pmk_oex KF.sup.oex KF.iC KF.tI GK (hr.mono (by first | decide | omega)) KF.b .nil pass0 (by rfl) KF.gC (pa_cons (pv 0) (pa_cons pe_str pa_nil))))) pss_nil)
  (pss_cons (ps_if (pt_cmpR (op_neD hr.units) (pv 2) (pe_ix ix_tup (pv 1) pe_int (fun _ _ => rfl)) (nomark _)) (pss_one (ps_raise rfl (takes_of rfl rfl rfl rfl) (pmk_oex KF.sup.oex KF.iC KF.tI GK (hr.mono (by first | decide | omega)) KF.b .nil pass0 (by rfl) KF.gC (pa_cons (pv 0) (pa_cons pe_str pa_nil))))) pss_nil)
  (pss_one (ps_ret (pe_slice sl_tupP (pv 1) (po_some pe_int) po_none))))), ?_⟩
  obtain ⟨a, xs, rfl, ha, ra⟩ := Rep.inv r0
  obtain ⟨b, ys, rfl, hb, rb⟩ := Rep.inv (ts := p.map fun n => .at (.int (n : Nat))) rp
  refine ⟨_, rfl, by show 0 ≤ sizeLine; decide, fun t nt => ?_⟩
  have s1 := same_new nt (.tup [])
  refine ⟨a, t, xs, rfl, rfl, (ha.same s1).sq, SqT.of upd_same, _, rfl, ?_⟩
  have rp1 := rp.mono (kx_same s1)
  have ra1 := ra.mono (kx_same s1)
  have r11 := r1.mono (kx_same s1)
  have q1 := q.same s1
  have ha1 := ha.same s1
  generalize upd H t (.tup []) = H1 at *
  cases ra1 with
  | nil => exact iteT ⟨_, rfl, by show 2 ≤ 1000; decide, raises_kf rp1 hsm (by omega) (by decide +kernel) q1⟩
  | @cons x0 k0 xr kr r0' rr =>
    have ek0 := hx.1 k0 (List.mem_cons_self ..)
    have e0 : (x0 :: xr)[0]? = some x0 := rfl
    refine iteF ⟨_, rfl, _, rfl, a, _, 0, x0, rfl, rfl, ha1.sq, atI_nat (j := 0) e0, toPy (.tup y), toPy k0, dp_kind r11 hy.k, dp_kind r0' ek0.k, hy.sh, shaped_kind ek0.k (by have := ek0.dp; omega), _, rfl, ?_⟩
    have ej : joinAp p (k0 :: kr) y = if PyData.eqv (toPy k0) (toPy (.tup y)) = true then .ok kr else .bad p "other argument" := rfl
    rw [ej] at q1
    by_cases he : PyData.eqv (toPy k0) (toPy (.tup y)) = true
    · rw [if_pos he] at q1
      have he2 : PyData.eqv (toPy (.tup y)) (toPy k0) = true := (eqv_kind hy.k ek0.k).mpr ((eqv_kind ek0.k hy.k).mp he).symm
      rw [he2]
      refine iteF ⟨_, rfl, _, rfl, a, _, rfl, ha1, fun c1 H5 s5 hc1 => ?_⟩
      rw [show ((1 : Int)) = ((1 : Nat) : Int) from rfl, cutV_from] at hc1
      have hc1' : TupAt K H5 c1 xr := hc1
      exact q1 _ _ s5 (.tup hc1' (rr.mono (kx_same s5)))
    · rw [if_neg he] at q1
      have he2 : PyData.eqv (toPy (.tup y)) (toPy k0) = false := by
        cases z : PyData.eqv (toPy (.tup y)) (toPy k0) with
        | false => rfl
        | true => exact absurd ((eqv_kind ek0.k hy.k).mpr ((eqv_kind hy.k ek0.k).mp z).symm) he
      rw [he2]
      exact iteT ⟨_, rfl, by show 2 ≤ 1000; decide, raises_kf rp1 hsm (by omega) (by decide +kernel) q1⟩
def spIfK (K : PySem.W.Frag) (C : Addr) : Sp := fun vs H Q E => ∃ (vp : V) (l : Addr) (ks : List V) (p : List Nat) (kss : List (List D)), vs = [vp, .ref l] ∧ Rep K H vp (pathD p) ∧ H l = some (.lst ks) ∧ Reps K H ks (kss.map D.tup) ∧ kss.length ≤ 3 ∧ (∀ n ∈ p, n ≤ 2) ∧ p.length ≤ 8000 ∧
  OutK K C H Q E (joinIf p 0 kss)
theorem ok_if {f : Addr} {fd : FuncData} (D__kind_of_if : Df K mg "_kind_of_if" s__kind_of_if ["path", "part_kinds"] f fd) (KF : KfD P K mg C fI cc cda fdI) (B : Bt mg) : FnOk P w K mg base (L2.CX P w) 4 f fd ["path", "part_kinds"] (spIfK K C) := by
  have GK : FnOk P w K mg base CX0 2 fI fdI ["self", "path", "reason"] (spKf K C) := ok_kf KF
  refine D__kind_of_if.okX c__kind_of_if (fun vs H Q E h => ?_) (fun cdv A outer s H vs Q E hr h => ?_)
  · obtain ⟨vp, l, ks, p, kss, rfl, _⟩ := h
    rfl
  obtain ⟨vp, l, ks, p, kss, rfl, rp, hl, rk, hk3, hsm, hpl, q⟩ := h
  have nd := c__kind_of_if.nd
  refine ⟨_, (pss_cons (ps_for (passes_of rfl) rfl (pi_enum (by rfl) B.b_enumerate (pa_cons (pv 1) pa_nil)) (pg_tup rfl (pgs_cons (pg_name (i := 2) nd rfl (Or.inl rfl)) (pgs_cons (pg_name (i := 3) nd rfl (Or.inl rfl)) pgs_nil))) (pss_one (ps_if (pt_cmpR (op_neNilT hr.units) (pv 3) (pe_tup pa_nil) (nomark _)) (pss_one (ps_raise rfl (takes_of rfl rfl rfl rfl) (pmk_oex KF.sup.oex KF.iC KF.tI GK (hr.mono (by first | decide | omega)) KF.b .nil pass0 (by rfl) KF.gC (pa_cons (pe_op op_catP (pv 0) (pe_tup (pa_cons (pv 2) pa_nil))) (pa_cons pe_str pa_nil))))) pss_nil)))
  (pss_one (ps_ret (pe_tup pa_nil)))), ?_⟩
  have lk := rk.length
  rw [List.length_map] at lk
  obtain ⟨b, ys, rfl, hb, rb⟩ := Rep.inv (ts := p.map fun n => .at (.int (n : Nat))) rp
  have lb := rb.length
  rw [List.length_map] at lb
  refine ⟨_, rfl, l, ks, rfl, SqL.of hl, for_it (walk_enumL (K := K) (a := l) (xs := ks)) (fun i σ H' => ∃ (y2 y3 : Option V), σ = [some (.ref b), some (.ref l), y2, y3] ∧ Same H H' ∧ joinIf p 0 kss = joinIf p i (kss.drop i))
      ⟨_, _, rfl, Same.refl _, rfl⟩ (fun i σ H' _ h => ?_) ?_ ?_⟩
  · obtain ⟨_, _, _, s, _⟩ := h
    exact SqL.of (s _ _ hl)
  · rintro i v' σ H8 H8' hi ⟨y2, y3, rfl, s8, hj⟩ ⟨T, x1, y1, rfl, nT, rfl, hx1, hy1⟩
    have hx2 : V.int (i : Nat) = x1 := Option.some.inj hx1
    subst hx2
    have hy1 : ks[i]? = some y1 := hy1
    obtain ⟨d, hd, rd⟩ := rk.get hy1
    rw [List.getElem?_map] at hd
    obtain ⟨k, hk, rfl⟩ := Option.map_eq_some_iff.mp hd
    have sT := same_new nT (.tup [.int (i : Nat), y1])
    have s9 := s8.trans sT
    refine ⟨T, _, rfl, SqT.of upd_same, rfl, _, _, rfl, _, _, rfl, rfl, ?_⟩
    generalize (upd H8 T (.tup [.int (i : Nat), y1])) = H9 at *
    obtain ⟨a, xs, rfl, ha, ra⟩ := Rep.inv (rd.mono (kx_same s9))
    have la := ra.length
    refine ⟨_, rfl, by show 0 ≤ sizeLine; decide, fun t nt => ?_⟩
    have s1 := same_new nt (.tup [])
    have s10 := s9.trans s1
    refine ⟨a, t, xs, rfl, rfl, (ha.same s1).sq, SqT.of upd_same, _, rfl, ?_⟩
    rw [List.drop_eq_getElem_cons (List.getElem?_eq_some_iff.mp hk).1] at hj
    have hk' := (List.getElem?_eq_some_iff.mp hk).2
    rw [hk'] at hj
    generalize upd H9 t (.tup []) = H1 at *
    cases ra with
    | nil => exact iteF ⟨_, _, rfl, s10, hj⟩
    | @cons x0 k0 xr kr r0' rr =>
      have hj' : joinIf p 0 kss = .bad (p ++ [i]) "no answer" := hj
      rw [hj'] at q
      have q1 := RaisesAt.same q s10
      refine iteT ⟨_, rfl, _, rfl, by show 1 ≤ sizeLine; decide, fun t3 n3 => ?_⟩
      have s11 := same_new n3 (.tup [.int (i : Nat)])
      refine ⟨b, t3, _, _, rfl, rfl, (hb.same s10).same s11, .inl upd_same, small6' (by show ys.length + 1 ≤ 1000000; omega), fun c2 H12 s12 hc2 => ?_⟩
      have rc := path_snoc (t := t3) (a := b) rfl hc2 (rb.mono (kx_same s10)) (s11.trans s12)
      refine ⟨by show 2 ≤ 1000; decide, raises_kf rc (fun n hn => ?_) (by rw [List.length_append]; show p.length + 1 ≤ 9000; omega) (by decide +kernel) (RaisesAt.same q1 (s11.trans s12))⟩
      rcases List.mem_append.mp hn with h | h
      · exact hsm n h
      · have : n = i := by simpa using h
        omega
  · rintro σ H8 ⟨y2, y3, rfl, s8, hj⟩
    refine ⟨Nat.zero_le _, fun t nt => ?_⟩
    have e : kss.drop ks.length = [] := List.drop_eq_nil_of_le (by omega)
    rw [hj, e] at q
    have s1 := same_new nt (.tup [])
    exact q _ _ (s8.trans s1) (.tup' upd_same .nil)
end
end Pk

set_option maxRecDepth 100000
set_option maxHeartbeats 4000000
set_option pp.maxSteps 600
namespace Pk
open PySem PySem.Spec PyProof.Rows L2
open NdefX (NScope nscope_by)
/-! ### the kind of a part, by the kinds of the parts within -/
section
variable {P : Program} {w : World} {K : PySem.W.Frag} {mg : Str → Option Value} {base : Heap} {C fI cc cda : Addr} {fdI : FuncData}
def spPk (K : PySem.W.Frag) (C : Addr) : Sp := fun vs H Q E => ∃ (vt vp vn : V) (l : Addr) (ks : List V) (x : Pt) (kss : List (List D)) (n : Nat), vs = [vt, vp, vn, .ref l] ∧ Rep K H vt (tmD x.1) ∧ Rep K H vp (pathD x.2.1) ∧ NmAt K H vn x.2.2 ∧ PtOk 800 x ∧ H l = some (.lst ks) ∧ Reps K H ks (kss.map D.tup) ∧
  kss.length = (kidsP x).length ∧ (∀ k ∈ kss, Rk n k) ∧ n ≤ 900000 ∧ OutK K C H Q E (kop x kss)
theorem ok_pk {f f1 f2 f3 : Addr} {fd d1 d2 d3 : FuncData} (D__kind_of_part : Df K mg "_kind_of_part" s__kind_of_part ["part", "path", "names", "part_kinds"] f fd) (D__kind_of_name : Df K mg "_kind_of_name" s__kind_of_name ["name", "path", "names"] f1 d1)
    (D__kind_of_application : Df K mg "_kind_of_application" s__kind_of_application ["path", "function_kind", "argument_kind"] f2 d2) (D__kind_of_if : Df K mg "_kind_of_if" s__kind_of_if ["path", "part_kinds"] f3 d3) (KF : KfD P K mg C fI cc cda fdI) (B : Bt mg) :
    FnOk P w K mg base (L2.CX P w) 5 f fd ["part", "path", "names", "part_kinds"] (spPk K C) := by
  have G__kind_of_name : FnOk P w K mg base (L2.CX P w) 4 f1 d1 ["name", "path", "names"] (spNm K C) := ok_nm D__kind_of_name KF B
  have G__kind_of_application : FnOk P w K mg base (L2.CX P w) 4 f2 d2 ["path", "function_kind", "argument_kind"] (spAp K C) := ok_ap D__kind_of_application KF B
  have G__kind_of_if : FnOk P w K mg base (L2.CX P w) 4 f3 d3 ["path", "part_kinds"] (spIfK K C) := ok_if D__kind_of_if KF B
  refine D__kind_of_part.okX c__kind_of_part (fun vs H Q E h => ?_) (fun cdv A outer s H vs Q E hr h => ?_)
  · obtain ⟨vt, vp, vn, l, ks, x, kss, n, rfl, _⟩ := h
    rfl
  obtain ⟨vt, vp, vn, l, ks, ⟨t, p, env⟩, kss, n, rfl, rt, rp, hn, hk, hl, rk, lk, hR, hn9, q⟩ := h
  have nd := c__kind_of_part.nd
  refine ⟨_, (pss_cons (ps_set (i := 4) nd rfl (Or.inl rfl) (pe_ix ix_tup (pv 0) pe_int (fun _ _ => rfl)))
  (pss_cons (ps_if (pt_cmpR op_eq (pv 4) pe_str (nomark _)) (pss_one (ps_ret (pe_callS G__kind_of_name (hr.mono (by first | decide | omega)) (by rfl) D__kind_of_name.m D__kind_of_name.kp D__kind_of_name.b (fun σ => passAt (takes_of rfl rfl rfl rfl) σ) (pa_cons (pe_ix ix_tup (pv 0) pe_int (fun _ _ => rfl)) (pa_cons (pv 1) (pa_cons (pv 2) pa_nil)))))) pss_nil)
  (pss_cons (ps_if (pt_cmpR op_eq (pv 4) pe_str (nomark _)) (pss_one (ps_ret (pe_op op_catP (pe_tup (pa_cons (pe_ix ix_tup (pv 0) pe_int (fun _ _ => rfl)) pa_nil)) (pe_ix ix_list (pv 3) pe_int (fun _ _ => rfl))))) pss_nil)
  (pss_cons (ps_if (pt_cmpR op_eq (pv 4) pe_str (nomark _)) (pss_one (ps_ret (pe_callS G__kind_of_application (hr.mono (by first | decide | omega)) (by rfl) D__kind_of_application.m D__kind_of_application.kp D__kind_of_application.b (fun σ => passAt (takes_of rfl rfl rfl rfl) σ) (pa_cons (pv 1) (pa_cons (pe_ix ix_list (pv 3) pe_int (fun _ _ => rfl)) (pa_cons (pe_ix ix_list (pv 3) pe_int (fun _ _ => rfl)) pa_nil)))))) pss_nil)
  (pss_cons (ps_if (pt_cmpR op_eq (pv 4) pe_str (nomark _)) (pss_one (ps_ret (pe_callS G__kind_of_if (hr.mono (by first | decide | omega)) (by rfl) D__kind_of_if.m D__kind_of_if.kp D__kind_of_if.b (fun σ => passAt (takes_of rfl rfl rfl rfl) σ) (pa_cons (pv 1) (pa_cons (pv 3) pa_nil))))) pss_nil)
  (pss_one (ps_ret (pe_tup pa_nil)))))))), ?_⟩
  have hpl : p.length ≤ 8000 := by have := hk.hp; show p.length ≤ 8000; have h2 : p.length + hgt t ≤ 800 := hk.hp; omega
  have f1 : ¬ (("fun" : Str) = "name") := by decide +kernel
  have f2 : ¬ (("apply" : Str) = "name") := by decide +kernel
  have f3 : ¬ (("apply" : Str) = "fun") := by decide +kernel
  have f4 : ¬ (("if" : Str) = "name") := by decide +kernel
  have f5 : ¬ (("if" : Str) = "fun") := by decide +kernel
  have f6 : ¬ (("if" : Str) = "apply") := by decide +kernel
  have no : ∀ {a b : Str}, ¬ a = b → ¬ decide (V.str a = V.str b) = true := fun h z => h (V.str.inj (of_decide_eq_true z))
  cases t with
  | nm s =>
    obtain ⟨a, xs, rfl, ha, rx⟩ := Rep.inv (ts := [.at (.str "name"), .at (.str s)]) rt
    cases rx with
    | cons r0 rx =>
    cases rx with
    | cons r1 rx =>
    cases rx
    obtain ⟨rfl, _⟩ := r0.inva
    obtain ⟨rfl, _⟩ := r1.inva
    exact ⟨_, rfl, a, _, 0, _, rfl, rfl, ha.sq, atI_nat (j := 0) rfl, _, rfl, rfl, _, rfl, iteT ⟨_, rfl, a, _, 1, _, rfl, rfl, ha.sq, atI_nat (j := 1) rfl, _, rfl, _, rfl, s, vp, vn, p, env, rfl, rp, hn, hk.k, hk.sm, hpl, q⟩⟩
  | fn s k b =>
    obtain ⟨a, xs, rfl, ha, rx⟩ := Rep.inv (ts := [.at (.str "fun"), .at (.str s), k, tmD b]) rt
    cases rx with
    | cons r0 rx =>
    cases rx with
    | cons r1 rx =>
    cases rx with
    | @cons vk _ _ _ rkd rx =>
    cases rx with
    | @cons vb _ _ _ rb rx =>
    cases rx
    obtain ⟨rfl, _⟩ := r0.inva
    obtain ⟨rfl, _⟩ := r1.inva
    obtain ⟨r, rfl⟩ : ∃ r, kss = [r] := by
      match kss, lk with
      | [r], _ => exact ⟨r, rfl⟩
    cases rk with
    | @cons v0 _ _ _ rk0 rk =>
    cases rk
    obtain ⟨c, zs, rfl, hc, rz⟩ := Rep.inv rk0
    have lz := rz.length
    have hr0 := (hR r (List.mem_cons_self ..)).2
    refine ⟨_, rfl, a, _, 0, _, rfl, rfl, ha.sq, atI_nat (j := 0) rfl, _, rfl, rfl, _, rfl, ite2 (fun z => absurd z (no f1)) (fun _ => ⟨_, rfl, rfl, _, rfl, iteT ⟨_, rfl, a, _, 2, _, rfl, rfl, ha.sq, atI_nat (j := 2) rfl, by show 1 ≤ sizeLine; decide, fun t nt => ?_⟩⟩)⟩
    have s1 := same_new nt (.tup [vk])
    refine ⟨_, rfl, l, _, 0, _, rfl, rfl, SqL.of (s1 _ _ hl), atI_nat (j := 0) rfl, t, c, _, _, rfl, rfl, .inl upd_same, hc.same s1, small6' (by show 1 + zs.length ≤ 1000000; omega), fun c2 H2 s2 hc2 => ?_⟩
    have s3 := s1.trans s2
    exact q _ _ s3 (.tup hc2 (.cons (rkd.mono (kx_same s3)) (rz.mono (kx_same s3))))
  | ap g b =>
    obtain ⟨a, xs, rfl, ha, rx⟩ := Rep.inv (ts := [.at (.str "apply"), tmD g, tmD b]) rt
    cases rx with
    | cons r0 rx =>
    obtain ⟨rfl, _⟩ := r0.inva
    obtain ⟨x, y, rfl⟩ : ∃ x y, kss = [x, y] := by
      match kss, lk with
      | [x, y], _ => exact ⟨x, y, rfl⟩
    cases rk with
    | @cons v0 _ _ _ rk0 rk =>
    cases rk with
    | @cons v1 _ _ _ rk1 rk =>
    cases rk
    exact ⟨_, rfl, a, _, 0, _, rfl, rfl, ha.sq, atI_nat (j := 0) rfl, _, rfl, rfl, _, rfl, ite2 (fun z => absurd z (no f2)) (fun _ => ⟨_, rfl, rfl, _, rfl, ite2 (fun z => absurd z (no f3)) (fun _ => ⟨_, rfl, rfl, _, rfl, iteT ⟨_, rfl, _, rfl, l, _, 0, _, rfl, rfl, SqL.of hl, atI_nat (j := 0) rfl, _, rfl, l, _, 1, _, rfl, rfl, SqL.of hl, atI_nat (j := 1) rfl,
      vp, v0, v1, p, x, y, n, rfl, rp, rk0, rk1, hR x (List.mem_cons_self ..), hR y (List.mem_cons_of_mem _ (List.mem_cons_self ..)), hn9, hk.sm, hpl, q⟩⟩)⟩)⟩
  | iff c1 c2 c3 =>
    obtain ⟨a, xs, rfl, ha, rx⟩ := Rep.inv (ts := [.at (.str "if"), tmD c1, tmD c2, tmD c3]) rt
    cases rx with
    | cons r0 rx =>
    obtain ⟨rfl, _⟩ := r0.inva
    have e3 : kss.length ≤ 3 := by rw [lk]; exact kids_len _
    exact ⟨_, rfl, a, _, 0, _, rfl, rfl, ha.sq, atI_nat (j := 0) rfl, _, rfl, rfl, _, rfl, ite2 (fun z => absurd z (no f4)) (fun _ => ⟨_, rfl, rfl, _, rfl, ite2 (fun z => absurd z (no f5)) (fun _ => ⟨_, rfl, rfl, _, rfl, ite2 (fun z => absurd z (no f6)) (fun _ => ⟨_, rfl, rfl, _, rfl, iteT ⟨_, rfl, _, rfl,
      vp, l, ks, p, kss, rfl, rp, hl, rk, e3, hk.sm, hpl, by cases kss <;> exact q⟩⟩)⟩)⟩)⟩
  | an v =>
    obtain ⟨a, xs, rfl, ha, rx⟩ := Rep.inv (ts := [.at (.str "answer"), .at (.int (v : Nat))]) rt
    cases rx with
    | cons r0 rx =>
    obtain ⟨rfl, _⟩ := r0.inva
    have g1 : ¬ (("answer" : Str) = "name") := by decide +kernel
    have g2 : ¬ (("answer" : Str) = "fun") := by decide +kernel
    have g3 : ¬ (("answer" : Str) = "apply") := by decide +kernel
    have g4 : ¬ (("answer" : Str) = "if") := by decide +kernel
    refine ⟨_, rfl, a, _, 0, _, rfl, rfl, ha.sq, atI_nat (j := 0) rfl, _, rfl, rfl, _, rfl, ite2 (fun z => absurd z (no g1)) (fun _ => ⟨_, rfl, rfl, _, rfl, ite2 (fun z => absurd z (no g2)) (fun _ => ⟨_, rfl, rfl, _, rfl, ite2 (fun z => absurd z (no g3)) (fun _ => ⟨_, rfl, rfl, _, rfl, ite2 (fun z => absurd z (no g4)) (fun _ => ⟨Nat.zero_le _, fun t nt => ?_⟩)⟩)⟩)⟩)⟩
    exact q _ _ (same_new nt _) (.tup' upd_same .nil)
  | st =>
    obtain ⟨a, xs, rfl, ha, rx⟩ := Rep.inv (ts := [.at (.str "stop")]) rt
    cases rx with
    | cons r0 rx =>
    obtain ⟨rfl, _⟩ := r0.inva
    have g1 : ¬ (("stop" : Str) = "name") := by decide +kernel
    have g2 : ¬ (("stop" : Str) = "fun") := by decide +kernel
    have g3 : ¬ (("stop" : Str) = "apply") := by decide +kernel
    have g4 : ¬ (("stop" : Str) = "if") := by decide +kernel
    refine ⟨_, rfl, a, _, 0, _, rfl, rfl, ha.sq, atI_nat (j := 0) rfl, _, rfl, rfl, _, rfl, ite2 (fun z => absurd z (no g1)) (fun _ => ⟨_, rfl, rfl, _, rfl, ite2 (fun z => absurd z (no g2)) (fun _ => ⟨_, rfl, rfl, _, rfl, ite2 (fun z => absurd z (no g3)) (fun _ => ⟨_, rfl, rfl, _, rfl, ite2 (fun z => absurd z (no g4)) (fun _ => ⟨Nat.zero_le _, fun t nt => ?_⟩)⟩)⟩)⟩)⟩
    exact q _ _ (same_new nt _) (.tup' upd_same .nil)
end
end Pk

set_option maxRecDepth 100000
set_option maxHeartbeats 4000000
set_option pp.maxSteps 600
namespace Pk
open PySem PySem.Spec PyProof.Rows L2
open NdefX (NScope nscope_by)
/-! ### kind_of -/
theorem atV_map (k j : NestedKey) (v : V) : ∀ xs : List Ent, atV (xs.map fun x => if x.1 = k then (x.1, x.2.1, v) else x) j = (atV xs j).map fun y => if j = k then v else y
  | [] => rfl
  | x :: xs => by
    have ih := atV_map k j v xs
    unfold atV at ih ⊢
    rw [List.map_cons, List.find?_cons, List.find?_cons]
    by_cases h : x.1 = k
    · rw [if_pos h]
      by_cases e : x.1 = j
      · have e2 : decide ((x.1, x.2.1, v).1 = j) = true := decide_eq_true e
        rw [e2]
        show some v = some (if j = k then v else x.2.2)
        rw [if_pos (e.symm.trans h)]
      · have e2 : decide ((x.1, x.2.1, v).1 = j) = false := decide_eq_false e
        rw [e2]
        exact ih
    · rw [if_neg h]
      by_cases e : x.1 = j
      · rw [decide_eq_true e]
        show some x.2.2 = some (if j = k then v else x.2.2)
        rw [if_neg (fun z => h (e.trans z))]
      · rw [decide_eq_false e]
        exact ih
theorem atV_snoc (k j : NestedKey) (a : Addr) (v : V) : ∀ xs : List Ent, atV (xs ++ [(k, a, v)]) j = (match atV xs j with | some y => some y | none => if j = k then some v else none)
  | [] => by
    unfold atV
    by_cases h : j = k
    · subst h
      simp
    · have h2 : ¬ k = j := fun z => h z.symm
      simp [h, h2]
  | x :: xs => by
    have ih := atV_snoc k j a v xs
    unfold atV at ih ⊢
    rw [List.cons_append, List.find?_cons, List.find?_cons]
    by_cases e : x.1 = j
    · rw [decide_eq_true e]
      rfl
    · rw [decide_eq_false e]
      exact ih
theorem atV_put (xs : List Ent) (k j : NestedKey) (a : Addr) (v : V) : atV (putV xs k a v) j = if j = k then some v else atV xs j := by
  unfold putV
  by_cases h : (atV xs k).isSome = true
  · rw [if_pos h, atV_map]
    by_cases e : j = k
    · subst e
      obtain ⟨y, hy⟩ := Option.isSome_iff_exists.mp h
      rw [hy, if_pos rfl]
      simp
    · rw [if_neg e]
      cases atV xs j with
      | none => rfl
      | some y => simp [e]
  · rw [if_neg h, atV_snoc]
    by_cases e : j = k
    · subst e
      have hn : atV xs j = none := by
        cases z : atV xs j with
        | none => rfl
        | some y => rw [z] at h; exact absurd rfl h
      rw [hn, if_pos rfl] <;> simp
    · rw [if_neg e]
      cases atV xs j with
      | none => simp [e]
      | some y => simp [e]
theorem mem_putV {xs : List Ent} {k : NestedKey} {a : Addr} {v : V} {e : Ent} (h : e ∈ putV xs k a v) : (e.1 = k ∧ e.2.1 = a) ∨ ∃ e' ∈ xs, e'.1 = e.1 ∧ e'.2.1 = e.2.1 := by
  unfold putV at h
  split at h
  · obtain ⟨x, hx, rfl⟩ := List.mem_map.mp h
    by_cases e : x.1 = k
    · rw [if_pos e]
      exact .inr ⟨x, hx, rfl, rfl⟩
    · rw [if_neg e]
      exact .inr ⟨x, hx, rfl, rfl⟩
  · rcases List.mem_append.mp h with h | h
    · exact .inr ⟨e, h, rfl, rfl⟩
    · rw [List.mem_singleton.mp h]
      exact .inl ⟨rfl, rfl⟩
def pkey (p : List Nat) : NestedKey := kyD (pathD p)
theorem kyDs_inj : ∀ {p q : List Nat}, kyDs (p.map fun n => .at (.int (n : Nat))) = kyDs (q.map fun n => .at (.int (n : Nat))) → p = q
  | [], [], _ => rfl
  | [], b :: q, h => by simp [kyDs] at h
  | a :: p, [], h => by simp [kyDs] at h
  | a :: p, b :: q, h => by
    have h2 : (NestedKey.num (a : Nat) :: kyDs (p.map fun n => .at (.int (n : Nat)))) = (NestedKey.num (b : Nat) :: kyDs (q.map fun n => .at (.int (n : Nat)))) := h
    have h3 := List.cons.inj h2
    have h4 : ((a : Nat) : Int) = ((b : Nat) : Int) := NestedKey.num.inj h3.1
    rw [kyDs_inj h3.2, show a = b by omega]
theorem pkey_inj {p q : List Nat} (h : pkey p = pkey q) : p = q := kyDs_inj (NestedKey.tup.inj h)
theorem path_noL (p : List Nat) : noLd (pathD p) = true := by
  have : ∀ l : List Nat, noLds (l.map fun n => D.at (.int (n : Nat))) = true := by
    intro l
    induction l with
    | nil => rfl
    | cons a l ih => exact ih
  exact this p
theorem path_dep (p : List Nat) : dep (pathD p) ≤ 7 := by
  have : ∀ l : List Nat, deps (l.map fun n => D.at (.int (n : Nat))) ≤ 1 := by
    intro l
    induction l with
    | nil => decide
    | cons a l ih =>
      show max (0 + 1) (deps (l.map fun n => D.at (.int (n : Nat)))) ≤ 1
      omega
  have h := this p
  show deps (p.map fun n => D.at (.int (n : Nat))) ≤ 7
  omega
theorem key_at {K : PySem.W.Frag} {H : Hp} {b : Addr} {p : List Nat} (r : Rep K H (.ref b) (pathD p)) : KeyAt K H (pkey p) b := ⟨_, r, path_noL p, path_dep p, rfl⟩
theorem KD.putD {P : Program} {w : World} {H : Hp} {d : Addr} {xs : List Ent} (h : H d = some (DkO P w d xs)) (o : HO) : KD H (upd H d o) := by
  have ne : ∀ {b : Addr} {u : HO}, H b = some u → u ≠ DkO P w d xs → b ≠ d := fun {b u} hb hu z => by
    rw [z, h] at hb
    exact hu (Option.some.inj hb).symm
  exact ⟨⟨fun a zs ha => by rw [upd_ne (ne ha (fun z => by unfold DkO at z; cases z))]; exact ha, fun a zs ha => ⟨zs, by rw [upd_ne (ne ha (fun z => by unfold DkO at z; cases z))]; exact ha⟩⟩, fun a kvs ha => by rw [upd_ne (ne ha (fun z => by unfold DkO at z; cases z))]; exact ha⟩
/-- what the dict of kinds holds behind i parts -/
structure KsAt (P : Program) (w : World) (K : PySem.W.Frag) (H : Hp) (d : Addr) (L : List Pt) (i : Nat) (es : List Ent) : Prop where
  d : H d = some (DkO P w d es)
  k : ∀ e ∈ es, KeyAt K H e.1 e.2.1
  n : es.length ≤ i
  v : ∀ (j : Nat) (x : Pt), j < i → L[j]? = some x → ∃ k vk, chkP x = .ok k ∧ atV es (pkey x.2.1) = some vk ∧ Rep K H vk (.tup k)
theorem KsAt.kd {P : Program} {w : World} {K : PySem.W.Frag} {H H' : Hp} {d : Addr} {L : List Pt} {i : Nat} {es : List Ent} (h : KsAt P w K H d L i es) (s : KD H H') (hd : H' d = some (DkO P w d es)) : KsAt P w K H' d L i es :=
  ⟨hd, fun e he => (h.k e he).mono s.k, h.n, fun j x hj hx => let ⟨k, vk, h1, h2, h3⟩ := h.v j x hj hx; ⟨k, vk, h1, h2, h3.mono s.k⟩⟩
/-- one part more -/
theorem KsAt.put {P : Program} {w : World} {K : PySem.W.Frag} {H : Hp} {d : Addr} {L : List Pt} {i : Nat} {es : List Ent} (h : KsAt P w K H d L i es) {t : Tm} (hL : L = post [] [] t) {x : Pt} (hx : L[i]? = some x) {k : List D} (hk : chkP x = .ok k) {b : Addr} (rb : Rep K H (.ref b) (pathD x.2.1)) {v : V} (rv : Rep K H v (.tup k)) :
    KsAt P w K (upd H d (DkO P w d (putV es (pkey x.2.1) b v))) d L (i + 1) (putV es (pkey x.2.1) b v) := by
  have s := KD.putD h.d (DkO P w d (putV es (pkey x.2.1) b v))
  refine ⟨upd_same, fun e he => ?_, ?_, fun j y hj hy => ?_⟩
  · rcases mem_putV he with ⟨h1, h2⟩ | ⟨e', he', h1, h2⟩
    · rw [h1, h2]
      exact (key_at rb).mono s.k
    · rw [← h1, ← h2]
      exact (h.k e' he').mono s.k
  · have := length_putV es (pkey x.2.1) b v
    have := h.n
    omega
  · rw [atV_put]
    by_cases e : pkey y.2.1 = pkey x.2.1
    · have exy : y = x := by
        subst hL
        exact post_inj (List.mem_of_getElem? hy) (List.mem_of_getElem? hx) (pkey_inj e)
      subst exy
      exact ⟨k, v, hk, by rw [if_pos rfl], rv.mono s.k⟩
    · rw [if_neg e]
      by_cases hji : j = i
      · subst hji
        rw [hx] at hy
        cases hy
        exact absurd rfl e
      · obtain ⟨k', vk, h1, h2, h3⟩ := h.v j y (by omega) hy
        exact ⟨k', vk, h1, h2, h3.mono s.k⟩
theorem post_ok {t : Tm} {x : Pt} {n : Nat} (h : PtOk n (t, [], [])) (hx : x ∈ post [] [] t) : PtOk n x := by
  have key : ∀ (y : Pt), PtOk n y → ∀ z ∈ postP y, PtOk n z := by
    intro y
    obtain ⟨u, p, env⟩ := y
    induction u generalizing p env with
    | nm s => intro o z hz; have : z = (.nm s, p, env) := by simpa [postP, post] using hz
              rw [this]; exact o
    | an s => intro o z hz; have : z = (.an s, p, env) := by simpa [postP, post] using hz
              rw [this]; exact o
    | st => intro o z hz; have : z = (.st, p, env) := by simpa [postP, post] using hz
            rw [this]; exact o
    | fn s k b ih =>
      intro o z hz
      rcases List.mem_append.mp hz with hz | hz
      · exact ih _ _ (kid_ok o (c := (b, p ++ [0], (s, k) :: env)) (by simp [kidsP])) z hz
      · rw [List.mem_singleton.mp hz]; exact o
    | ap f a ih1 ih2 =>
      intro o z hz
      rcases List.mem_append.mp hz with hz | hz
      · rcases List.mem_append.mp hz with hz | hz
        · exact ih1 _ _ (kid_ok o (c := (f, p ++ [0], env)) (by simp [kidsP])) z hz
        · exact ih2 _ _ (kid_ok o (c := (a, p ++ [1], env)) (by simp [kidsP])) z hz
      · rw [List.mem_singleton.mp hz]; exact o
    | iff a b c ih1 ih2 ih3 =>
      intro o z hz
      rcases List.mem_append.mp hz with hz | hz
      · rcases List.mem_append.mp hz with hz | hz
        · rcases List.mem_append.mp hz with hz | hz
          · exact ih1 _ _ (kid_ok o (c := (a, p ++ [0], env)) (by simp [kidsP])) z hz
          · exact ih2 _ _ (kid_ok o (c := (b, p ++ [1], env)) (by simp [kidsP])) z hz
        · exact ih3 _ _ (kid_ok o (c := (c, p ++ [2], env)) (by simp [kidsP])) z hz
      · rw [List.mem_singleton.mp hz]; exact o
  exact key _ h x hx
theorem chkP_rk {x : Pt} {k : List D} (o : PtOk 800 x) (h : chkP x = .ok k) : Rk 100006 k := by
  have z := chk_rk x.1 x.2.2 x.2.1 k o.e o.k h
  have := o.pr
  exact ⟨z.1, by have := z.2; omega⟩
end Pk

set_option maxRecDepth 100000
set_option maxHeartbeats 4000000
set_option pp.maxSteps 600
namespace Pk
open PySem PySem.Spec PyProof.Rows L2
open NdefX (NScope nscope_by)
theorem bad_ok {x : Pt} {b : List Nat × Str} (h : badOf x = some b) : chkP x = .bad b.1 b.2 := by
  unfold badOf at h
  split at h
  · next q r e =>
    cases h
    exact e
  · cases h
section
variable {P : Program} {w : World} {K : PySem.W.Frag} {mg : Str → Option Value} {base : Heap} {C fI cc cda : Addr} {fdI : FuncData}
def spKo (K : PySem.W.Frag) (C : Addr) : Sp := fun vs H Q E => ∃ (v : V) (t : Tm), vs = [v] ∧ Rep K H v (tmD t) ∧ ek t ∧ hgt t ≤ 800 ∧ prt t ≤ 100000 ∧ OutK K C H Q E (chk [] [] t)
theorem ok_ko {f g1 g2 g3 g4 g5 g6 : Addr} {fd e1 e2 e3 e4 e5 e6 : FuncData} (D_kind_of : Df K mg "kind_of" s_kind_of ["term"] f fd) (D__parts : Df K mg "_parts" s__parts ["term"] g1 e1) (D__inner_parts : Df K mg "_inner_parts" s__inner_parts ["part", "names"] g2 e2)
    (D__kind_of_part : Df K mg "_kind_of_part" s__kind_of_part ["part", "path", "names", "part_kinds"] g3 e3) (D__kind_of_name : Df K mg "_kind_of_name" s__kind_of_name ["name", "path", "names"] g4 e4)
    (D__kind_of_application : Df K mg "_kind_of_application" s__kind_of_application ["path", "function_kind", "argument_kind"] g5 e5) (D__kind_of_if : Df K mg "_kind_of_if" s__kind_of_if ["path", "part_kinds"] g6 e6) (KF : KfD P K mg C fI cc cda fdI) (B : Bt mg) :
    FnOk P w K mg base (L2.CX P w) 6 f fd ["term"] (spKo K C) := by
  have G__parts : FnOk P w K mg base CX0 2 g1 e1 ["term"] (spPs K) := ok_ps D__parts D__inner_parts B
  have G__inner_parts : FnOk P w K mg base CX0 1 g2 e2 ["part", "names"] (spIn K) := ok_in D__inner_parts B
  have G__kind_of_part : FnOk P w K mg base (L2.CX P w) 5 g3 e3 ["part", "path", "names", "part_kinds"] (spPk K C) := ok_pk D__kind_of_part D__kind_of_name D__kind_of_application D__kind_of_if KF B
  refine D_kind_of.okX c_kind_of (fun vs H Q E h => ?_) (fun cdv A outer s H vs Q E hr h => ?_)
  · obtain ⟨v, t, rfl, _⟩ := h
    rfl
  obtain ⟨v, t, rfl, rv, hek, hh, hpr, q⟩ := h
  have nd := c_kind_of.nd
  refine ⟨_, (pss_cons (ps_set (i := 1) nd rfl (Or.inr rfl) (show PE _ _ (tDkNew P w) from pe_dkNew))
  (pss_cons (ps_for (passes_of rfl) rfl (pi_list (pe_call G__parts (hr.mono (by first | decide | omega)) (by rfl) D__parts.m D__parts.kp D__parts.b .nil pass0 (pa_cons (pv 0) pa_nil))) (pg_tup rfl (pgs_cons (pg_name (i := 2) nd rfl (Or.inl rfl)) (pgs_cons (pg_name (i := 3) nd rfl (Or.inr rfl)) (pgs_cons (pg_name (i := 4) nd rfl (Or.inl rfl)) pgs_nil)))) (pss_cons (ps_set (i := 5) nd rfl (Or.inl rfl) (pe_callB call_len_seq (by rfl) B.b_len PySem.boot_len (pa_cons (pe_call G__inner_parts (hr.mono (by first | decide | omega)) (by rfl) D__inner_parts.m D__inner_parts.kp D__inner_parts.b .nil pass0 (pa_cons (pv 2) (pa_cons (pv 4) pa_nil))) pa_nil)))
  (pss_cons (ps_setLc (i := 6) (own := [("number", 7)]) (g := (gName 7)) (tt := tYes) rfl nd rfl rfl (sw_true rfl rfl rfl (by decide +kernel)) (pi_range1 (by rfl) B.b_range (pa_cons (pv 5) pa_nil)) (blkOk_by (own := [("number", 7)]) (N := ["term", "kinds", "part", "path", "names", "many", "part_kinds", "number"]) (sc := defScope s_kind_of) (by decide +kernel)) (fun _ _ _ _ _ => (pg_name (i := 7) nd rfl (Or.inl rfl))) (fun _ _ _ _ _ => pts_nil) (fun _ _ _ _ _ => (show PE _ _ (tDkGet P w K _ _) from pe_dkGet hr.units (pv 1) (pe_op (show OpR _ (binaryOp .Add) (rCatP K) from op_catP) (pv 3) (pe_tup (pa_cons (pv 7) pa_nil))) (fun _ _ => rfl))))
  (pss_one (show PS _ _ (tDkPut P w K _ _ _) from ps_dkPut hr.units (pv 1) (pv 3) (pe_callS G__kind_of_part (hr.mono (by first | decide | omega)) (by rfl) D__kind_of_part.m D__kind_of_part.kp D__kind_of_part.b (fun σ => passAt (takes_of rfl rfl rfl rfl) σ) (pa_cons (pv 2) (pa_cons (pv 3) (pa_cons (pv 4) (pa_cons (pv 6) pa_nil))))) rfl)))))
  (pss_one (ps_ret (show PE _ _ (tDkGet P w K _ _) from pe_dkGet hr.units (pv 1) (pe_tup pa_nil) (fun _ _ => rfl)))))), ?_⟩
  intro dk ndk
  have s0 := same_new ndk (DkO P w dk [])
  have hd0 : (upd H dk (DkO P w dk [])) dk = some (DkO P w dk []) := upd_same
  have rv0 := rv.mono (kx_same s0)
  generalize (upd H dk (DkO P w dk [])) = H0 at s0 hd0 rv0 ⊢
  refine ⟨_, rfl, v, t, rfl, rv0, hek, hh, hpr, fun l H1 xs nl s1 hl hps => ?_⟩
  have hL : post [] [] t = post [] [] t := rfl
  generalize hLe : post [] [] t = L at hps
  have lL : L.length = prt t := by rw [← hLe, post_len]
  have lxs : xs.length = L.length := Paired.length hps
  have root : PtOk 800 (t, [], []) := ⟨hek, fun pr h => by simp at h, by show 0 + hgt t ≤ 800; omega, by show 0 + hgt t ≤ 800; omega, fun i h => by simp at h, hpr⟩
  have hd1 := s1 _ _ hd0
  have s01 := s0.trans s1
  have hld : l ≠ dk := fun z => by rw [z, hd0] at nl; cases nl
  refine ⟨l, rfl, ⟨_, SqL.of hl⟩, for_list (K := K) (a := l) (xs := xs) (fun i σ H' => ∃ (y2 y3 y4 y5 y6 y7 : Option V), σ = [some v, some (.ref dk), y2, y3, y4, y5, y6, y7] ∧ Same H H' ∧ H' l = some (.lst xs) ∧ PtsAt K H' xs L ∧ ∃ es, KsAt P w K H' dk L i es)
    ⟨_, _, _, _, _, _, rfl, s01, hl, hps, [], hd1, fun e he => absurd he (by simp), Nat.le_refl _, fun j x hj => absurd hj (Nat.not_lt_zero j)⟩ (fun i σ H' _ h => ?_) ?_ ?_⟩
  · obtain ⟨_, _, _, _, _, _, _, _, h, _⟩ := h
    exact SqL.of h
  · rintro i y σ H2 hi ⟨y2, y3, y4, y5, y6, y7, rfl, s2, hl2, hps2, es, hks⟩
    have hil := (List.getElem?_eq_some_iff.mp hi).1
    obtain ⟨x, hx, hat⟩ := paired_at hps2 hi
    obtain ⟨b, vt, vp, vn, rfl, hb, rt, rp, rn⟩ := hat
    have hxm : x ∈ post [] [] t := by rw [hLe]; exact List.mem_of_getElem? hx
    have ox := post_ok root hxm
    have rp' := rp
    obtain ⟨pa, pxs, rfl, hpa, rpa⟩ := Rep.inv (ts := x.2.1.map fun n => .at (.int (n : Nat))) rp'
    have lpa := rpa.length
    rw [List.length_map] at lpa
    have hpl : x.2.1.length + hgt x.1 ≤ 800 := ox.hp
    refine ⟨b, _, rfl, SqT.of hb, rfl, _, _, rfl, _, _, rfl, _, _, rfl, rfl, ?_⟩
    refine ⟨_, rfl, _, rfl, vt, vn, x, 800, rfl, rt, rn, ox, by omega, fun kl H3 kx nkl s3 hkl hkds => ⟨kl, kx, rfl, .inl (SqL.of hkl), ?_⟩⟩
    have lks : kx.length = (kidsP x).length := Paired.length hkds
    have l3 := kids_len x
    have hl3 := s3 _ _ hl2
    have hps3 := hps2.kd (.same s3)
    have hk3 := hks.kd (.same s3) (s3 _ _ hks.d)
    have s03 := s2.trans s3
    have hpa3 := hpa.same s3
    have rpa3 := rpa.mono (kx_same s3)
    have rt3 := rt.mono (kx_same s3)
    have rn3 := rn.same s3
    have rp3 := rp.mono (kx_same s3)
    refine ⟨_, rfl, _, rfl, by omega, by omega, fun d2 nd2 => ?_⟩
    have en : ((kx.length : Nat) : Int).toNat = (kidsP x).length := by omega
    have hd2k : dk ≠ d2 := fun z => by rw [← z, hk3.d] at nd2; cases nd2
    have hd2l : l ≠ d2 := fun z => by rw [← z, hl3] at nd2; cases nd2
    have nd2H : H d2 = none := same_none s03 nd2
    refine lc_range (n := ((kx.length : Nat) : Int).toNat) (fun j H' => KD H3 H' ∧ Same H H' ∧ H' l = some (.lst xs) ∧ H' dk = some (DkO P w dk es) ∧ ∃ (acc : List V) (kss : List (List D)), H' d2 = some (.lst acc) ∧ acc.length = j ∧ Reps K H' acc (kss.map D.tup) ∧ Paired (fun c k => chkP c = .ok k) ((kidsP x).take j) kss)
      ⟨.same (same_new nd2 _), s03.trans (same_new nd2 _), same_new nd2 _ _ _ hl3, same_new nd2 _ _ _ hk3.d, [], [], upd_same, rfl, .nil, .nil⟩ ?_ ?_
    · rintro j H4 hj ⟨k4, s04, hl4, hd4, acc, kss, hacc, lacc, racc, hpk⟩
      have hj' : j < (kidsP x).length := by omega
      have hc : (kidsP x)[j]? = some (kidsP x)[j] := List.getElem?_eq_getElem hj'
      generalize (kidsP x)[j] = c at hc
      have hcp := kid_path hc
      have good : Good L := by rw [← hLe]; exact post_good t [] []
      obtain ⟨m, hmi, hm⟩ := good i x hx c (List.mem_of_getElem? hc)
      obtain ⟨k, vk, hck, hat, hrk⟩ := hk3.v m c hmi hm
      have hk4 := hk3.kd k4 hd4
      refine ⟨rfl, yes_go ⟨_, rfl, _, rfl, _, rfl, by show 1 ≤ sizeLine; decide, fun t3 n3 => ?_⟩⟩
      have s5 := same_new n3 (.tup [.int ((0 : Int) + (j : Nat))])
      refine ⟨pa, t3, _, _, rfl, rfl, (hpa3.kx k4.k).same s5, .inl upd_same, small6' (by show pxs.length + 1 ≤ 1000000; omega), fun c2 H6 s6 hc2 => ?_⟩
      have s56 := s5.trans s6
      have rc := path_snoc (t := t3) (a := pa) (j := j) (by rw [show (0 : Int) + (j : Nat) = ((j : Nat) : Int) by omega]) hc2 (rpa3.mono k4.k) s56
      rw [← hcp] at rc
      have k6 : KD H4 H6 := .same s56
      have hk6 := hk4.kd k6 (s56 _ _ hd4)
      refine ⟨dk, c2, es, pkey c.2.1, vk, rfl, rfl, ⟨.inl hk6.d, hk6.k⟩, key_at rc, hat, acc, s56 _ _ hacc, small6 (by omega), ?_⟩
      have kp := KD.put (s56 _ _ hacc) (acc ++ [vk])
      have k7 := k6.trans kp
      refine ⟨k4.trans k7, fun z o hz => ?_, ?_, ?_, acc ++ [vk], kss ++ [k], upd_same, by rw [List.length_append, lacc]; rfl, ?_, ?_⟩
      · rw [upd_ne (ne_of_none hz nd2H)]
        exact s56 _ _ (s04 _ _ hz)
      · rw [upd_ne hd2l]
        exact s56 _ _ hl4
      · rw [upd_ne hd2k]
        exact s56 _ _ hd4
      · rw [List.map_append]
        exact (racc.mono k7.k).append (.one ((hrk.mono k4.k).mono k7.k))
      · rw [show (kidsP x).take (j + 1) = (kidsP x).take j ++ [c] by rw [List.take_add_one, hc]; rfl]
        exact paired_app hpk (.cons hck .nil)
    · rintro H4 ⟨k4, s04, hl4, hd4, acc, kss, hacc, lacc, racc, hpk⟩
      rw [en, List.take_length] at hpk
      have hk4 := hk3.kd k4 hd4
      have ekx := kop_eq hpk
      have lkss : kss.length = (kidsP x).length := (Paired.length hpk).symm
      have hRk : ∀ k ∈ kss, Rk 100006 k := by
        have : ∀ {cs : List Pt} {ks : List (List D)}, Paired (fun c k => chkP c = .ok k) cs ks → (∀ c ∈ cs, PtOk 800 c) → ∀ k ∈ ks, Rk 100006 k := by
          intro cs ks hp
          induction hp with
          | nil => intro _ k hk; cases hk
          | cons h r ih =>
            intro ho k hk
            rcases List.mem_cons.mp hk with rfl | hk
            · exact chkP_rk (ho _ List.mem_cons_self) h
            · exact ih (fun c hc => ho c (List.mem_cons_of_mem _ hc)) k hk
        exact this hpk fun c hc => kid_ok ox hc
      have q4 := q.same s04
      have hd5 := hk4.d
      refine ⟨_, rfl, _, rfl, _, rfl, _, rfl, vt, .ref pa, vn, d2, acc, x, kss, 100006, rfl, rt3.mono k4.k, rp3.mono k4.k, rn3.kd k4, ox, hacc, racc, lkss, hRk, by omega, ?_⟩
      rw [← ekx]
      cases hcx : chkP x with
      | ok k =>
        intro z H7 s7 rz
        have rp7 := (rp3.mono k4.k).mono (kx_same s7)
        have hk7 := hk4.kd (.same s7) (s7 _ _ hd4)
        refine ⟨_, rfl, _, rfl, dk, pa, es, pkey x.2.1, rfl, rfl, hk7.d, hk7.k, key_at rp7, by have := hk7.n; omega, _, _, _, _, _, _, rfl, fun u o hu => ?_, ?_, ?_, _, hk7.put hLe.symm hx hcx rp7 rz⟩
        · rw [upd_ne (ne_of_none hu ndk)]
          exact s7 _ _ (s04 _ _ hu)
        · rw [upd_ne hld]
          exact s7 _ _ hl4
        · exact ((hps3.kd k4).kd (.same s7)).kd (KD.putD hk7.d _)
      | bad bp br =>
        have h1 := fb_at hx (fun j z hj hz => by
          obtain ⟨k, vk, h, _⟩ := hks.v j z hj hz
          exact ok_eq h) (bad_eq hcx)
        rw [← hLe, post_bad] at h1
        have h2 : chk [] [] t = .bad bp br := bad_ok h1
        rw [h2] at q4
        exact q4
  · rintro σ H2 ⟨y2, y3, y4, y5, y6, y7, rfl, s2, hl2, hps2, es, hks⟩
    obtain ⟨j, hj⟩ := List.mem_iff_getElem?.mp (show (t, [], []) ∈ L by rw [← hLe]; exact post_self t [] [])
    have hjl := (List.getElem?_eq_some_iff.mp hj).1
    obtain ⟨k, vk, hck, hat, hrk⟩ := hks.v j _ (by omega) hj
    refine ⟨_, rfl, by show 0 ≤ sizeLine; decide, fun t3 n3 => ?_⟩
    have s3 := same_new n3 (.tup [])
    have hk3 := hks.kd (.same s3) (s3 _ _ hks.d)
    have e : chk [] [] t = .ok k := hck
    rw [e] at q
    exact ⟨dk, t3, es, pkey [], vk, rfl, rfl, ⟨.inl hk3.d, hk3.k⟩, key_at (p := []) (.tup' upd_same .nil), hat, q _ _ (s2.trans s3) (hrk.mono (kx_same s3))⟩
end
end Pk

set_option maxRecDepth 100000
set_option maxHeartbeats 4000000
set_option pp.maxSteps 600
namespace Pk
open PySem PySem.Spec PyProof.Rows L2
open NdefX (NScope nscope_by)
/-! ### _law_kind_told -/
theorem rel_ref (a : Addr) : RelV (.ref a) (.ref a) := rfl
/-- what is to be known of the classes about KindFault, at C -/
structure KxF (K : PySem.W.Frag) (mg : Str → Option Value) (C CS CT CM : Addr) : Prop where
  hS : mg "SenseFault" = some (.ref CS)
  hT : mg "TextFault" = some (.ref CT)
  hM : mg "TooMany" = some (.ref CM)
  e : ExcC K C
  xf : XfC K C
  cl : (PySem.W.clsIn K C).isSome = true
  ex : PySem.W.exmOne K (.ref C) (.ref CS) = some true
  iK : PySem.W.kitOne K (.ref C) (.ref C) = some true
  iV : PySem.W.kitOne K (.ref C) (.type "ValueError") = some true
  iT : PySem.W.kitOne K (.ref C) (.ref CT) = some false
  iM : PySem.W.kitOne K (.ref C) (.ref CM) = some false
section
variable {P : Program} {w : World} {K : PySem.W.Frag} {mg : Str → Option Value} {base : Heap} {C CS CT CM fI cc cda : Addr} {fdI : FuncData}
def tbT (K : PySem.W.Frag) (C : Addr) (W : WX) : TS := tRet (tTup (tCons (tC (.str "kind")) (tCons (tCallS (spKo K C) (WE W) (tCons (tVar 0) tNil)) tNil)))
def tI (K : PySem.W.Frag) (C a : Addr) (cls : Value) (d : Option Addr) (c : V) : TT := tB (tCB (rIsX K C a cls d) (tCons (tVar 1) (tCons (tC c) tNil)))
def tsT (K : PySem.W.Frag) (C CT CM : Addr) (a : Addr) (cls : Value) (d : Option Addr) : TS :=
  tIfS (tAnd (tI K C a cls d (.ref C)) (tI K C a cls d (.ty "ValueError"))) (tIfS (tAnd (tNot (tI K C a cls d (.ref CT))) (tNot (tI K C a cls d (.ref CM)))) (tRet (tTup (tCons (tC (.str "fault")) (tCons (tXf a cls d C "path" (tVar 1)) (tCons (tXf a cls d C "reason" (tVar 1)) tNil))))) tNext) tNext
def spTold (K : PySem.W.Frag) : Sp := fun vs H Q _ => ∃ (v : V) (t : Tm), vs = [v] ∧ Rep K H v (tmD t) ∧ ek t ∧ hgt t ≤ 800 ∧ prt t ≤ 100000 ∧ ∀ (z : V) (H' : Hp), Same H H' → Rep K H' z (resD (chk [] [] t)) → Q z H'
theorem ok_told {f g0 g1 g2 g3 g4 g5 g6 : Addr} {fd e0 e1 e2 e3 e4 e5 e6 : FuncData} (D__law_kind_told : Df K mg "_law_kind_told" s__law_kind_told ["term"] f fd) (D_kind_of : Df K mg "kind_of" s_kind_of ["term"] g0 e0) (D__parts : Df K mg "_parts" s__parts ["term"] g1 e1) (D__inner_parts : Df K mg "_inner_parts" s__inner_parts ["part", "names"] g2 e2)
    (D__kind_of_part : Df K mg "_kind_of_part" s__kind_of_part ["part", "path", "names", "part_kinds"] g3 e3) (D__kind_of_name : Df K mg "_kind_of_name" s__kind_of_name ["name", "path", "names"] g4 e4)
    (D__kind_of_application : Df K mg "_kind_of_application" s__kind_of_application ["path", "function_kind", "argument_kind"] g5 e5) (D__kind_of_if : Df K mg "_kind_of_if" s__kind_of_if ["path", "part_kinds"] g6 e6) (KF : KfD P K mg C fI cc cda fdI) (KX : KxF K mg C CS CT CM) (B : Bt mg) :
    FnOk P w K mg base CX0 7 f fd ["term"] (spTold K) := by
  have G_kind_of : FnOk P w K mg base (L2.CX P w) 6 g0 e0 ["term"] (spKo K C) := ok_ko D_kind_of D__parts D__inner_parts D__kind_of_part D__kind_of_name D__kind_of_application D__kind_of_if KF B
  refine D__law_kind_told.ok c__law_kind_told (fun vs H Q E h => ?_) (fun cdv A outer s H vs Q E hr h => ?_)
  · obtain ⟨v, t, rfl, _⟩ := h
    rfl
  obtain ⟨v, t, rfl, rv, hek, hh, hpr, q⟩ := h
  have nd := c__law_kind_told.nd
  refine ⟨_, (pss_cons (ps_try_as (i := 1) (tb := tbT K C) (ts := tsT K C CT CM) (Wout := fun _ _ _ _ => False) rfl rfl nd rfl rfl ⟨rfl, by decide, Or.inl KX.hS⟩ takes0
 (fun W pn xe tk _ => (pss_one (ps_ret (pe_tup (pa_cons pe_str (pa_cons (pe_callS G_kind_of (hr.mono (by first | decide | omega)) (by rfl) D_kind_of.m D_kind_of.kp D_kind_of.b (fun σ => passAt tk σ) (pa_cons (pv 0) pa_nil)) pa_nil))))))
 (fun a oe cls d pn hz hf => (pss_one (ps_if (PW.pt (pw_and (pt_val (pe_callB (call_isX KX.e KX.cl hz hf) (by rfl) B.b_isinstance (by decide +kernel) (pa_cons (pv 1) (pa_cons (pe_glob rfl KF.gC (rel_ref _)) pa_nil)))) (pw_and1 (pt_val (pe_callB (call_isX KX.e KX.cl hz hf) (by rfl) B.b_isinstance (by decide +kernel) (pa_cons (pv 1) (pa_cons (pe_bltn (v := .ty "ValueError") (by rfl) B.b_ValueError (by decide +kernel) rfl) pa_nil))))))) (pss_one (ps_if (PW.pt (pw_and (pt_not (pt_val (pe_callB (call_isX KX.e KX.cl hz hf) (by rfl) B.b_isinstance (by decide +kernel) (pa_cons (pv 1) (pa_cons (pe_glob rfl KX.hT (rel_ref _)) pa_nil))))) (pw_and1 (pt_not (pt_val (pe_callB (call_isX KX.e KX.cl hz hf) (by rfl) B.b_isinstance (by decide +kernel) (pa_cons (pv 1) (pa_cons (pe_glob rfl KX.hM (rel_ref _)) pa_nil)))))))) (pss_one (ps_ret (pe_tup (pa_cons pe_str (pa_cons (pe_xf KX.xf KF.np hz hf (pv 1)) (pa_cons (pe_xf KX.xf KF.nr hz hf (pv 1)) pa_nil)))))) pss_nil)) pss_nil))))
  (pss_one (ps_ret (pe_tup (pa_cons pe_str pa_nil))))), ?_⟩
  refine ⟨_, rfl, v, t, rfl, rv, hek, hh, hpr, ?_⟩
  cases hc : chk [] [] t with
  | ok k =>
    intro z H1 s1 rz
    rw [hc] at q
    refine ⟨by show 2 ≤ sizeLine; decide, fun t1 n1 => ?_⟩
    have s2 := same_new n1 (.tup [.str "kind", z])
    exact q _ _ (s1.trans s2) (.tup' upd_same (.cons (.at rfl) (.one (rz.mono (kx_same s2)))))
  | bad p r =>
    intro d H1 vp s1 hd rp
    rw [hc] at q
    refine ⟨true, KX.ex, fun _ a na => ?_, fun z => by cases z⟩
    have l1 : List.lookup ("path" : Str) [(("reason" : Str), V.str r), (("path" : Str), vp)] = some vp := by
      rw [lookup_put, if_neg (by decide +kernel), lookup_put, if_pos rfl]
    have l2 : List.lookup ("reason" : Str) [(("reason" : Str), V.str r), (("path" : Str), vp)] = some (.str r) := by
      rw [lookup_put, if_pos rfl]
    refine ⟨_, rfl, .ref C, .ref C, true, d, _, rfl, rfl, hd, rfl, fun u ru => ru, KX.iK, _, rfl, iteT ⟨_, rfl, .ty "ValueError", .type "ValueError", true, d, _, rfl, rfl, hd, rfl, fun u ru => ru, KX.iV, _, rfl, iteT ?_⟩⟩
    refine ⟨_, rfl, .ref CT, .ref CT, false, d, _, rfl, rfl, hd, rfl, fun u ru => ru, KX.iT, _, rfl, iteT ⟨_, rfl, .ref CM, .ref CM, false, d, _, rfl, rfl, hd, rfl, fun u ru => ru, KX.iM, _, rfl, iteT ?_⟩⟩
    refine ⟨_, rfl, rfl, rfl, d, _, _, rfl, hd, l1, _, rfl, rfl, rfl, d, _, _, rfl, hd, l2, by show 3 ≤ sizeLine; decide, fun t1 n1 => ?_⟩
    have s2 := same_new n1 (.tup [.str "fault", vp, .str r])
    exact q _ _ (s1.trans s2) (.tup' upd_same (.cons (.at rfl) (.cons (rp.mono (kx_same s2)) (.one (.at rfl)))))
end
end Pk

set_option maxRecDepth 100000
set_option maxHeartbeats 4000000
set_option pp.maxSteps 600
namespace Pk
open PySem PySem.Spec PyProof.Rows L2
open NdefX (NScope nscope_by)
/-! ### the law -/
mutual
theorem noL_k : ∀ {d : D}, isK d = true → noL d = true
  | .tup ts, h => noLs_k (l := ts) h
theorem noLs_k : ∀ {l : List D}, isKs l = true → noLs l = true
  | [], _ => rfl
  | t :: r, h => by
    have h' := Bool.and_eq_true_iff.mp (show (isK t && isKs r) = true from h)
    show (noL t && noLs r) = true
    rw [noL_k h'.1, noLs_k h'.2]
    rfl
end
theorem joinIf_len : ∀ (ks : List (List D)) (p : List Nat) (i : Nat) (q : List Nat) (r : Str), joinIf p i ks = .bad q r → q.length = p.length + 1
  | [], _, _, _, _, h => by cases h
  | [] :: ks, p, i, q, r, h => joinIf_len ks p (i + 1) q r h
  | (_ :: _) :: _, p, i, q, r, h => by
    have e : Rs.bad (p ++ [i]) "no answer" = .bad q r := h
    cases e
    simp
theorem chk_len : ∀ (t : Tm) (env : List (Str × D)) (p q : List Nat) (r : Str), chk env p t = .bad q r → q.length ≤ p.length + hgt t
  | .nm s, env, p, q, r, h => by
    unfold chk at h
    split at h
    · cases h
    · cases h
      omega
  | .fn s k b, env, p, q, r, h => by
    unfold chk at h
    split at h
    · cases h
    · next e =>
      cases h
      have := chk_len b _ _ _ _ e
      simp only [List.length_append, List.length_cons, List.length_nil, hgt] at this ⊢
      omega
  | .ap f a, env, p, q, r, h => by
    unfold chk at h
    split at h
    · next e =>
      cases h
      have := chk_len f _ _ _ _ e
      simp only [List.length_append, List.length_cons, List.length_nil, hgt] at this ⊢
      omega
    · split at h
      · next e =>
        cases h
        have := chk_len a _ _ _ _ e
        simp only [List.length_append, List.length_cons, List.length_nil, hgt] at this ⊢
        omega
      · unfold joinAp at h
        split at h
        · cases h
          omega
        · split at h
          · cases h
          · cases h
            omega
  | .iff a b c, env, p, q, r, h => by
    unfold chk at h
    split at h
    · next e =>
      cases h
      have := chk_len a _ _ _ _ e
      simp only [List.length_append, List.length_cons, List.length_nil, hgt] at this ⊢
      omega
    · split at h
      · next e =>
        cases h
        have := chk_len b _ _ _ _ e
        simp only [List.length_append, List.length_cons, List.length_nil, hgt] at this ⊢
        omega
      · split at h
        · next e =>
          cases h
          have := chk_len c _ _ _ _ e
          simp only [List.length_append, List.length_cons, List.length_nil, hgt] at this ⊢
          omega
        · have := joinIf_len _ _ _ _ _ h
          have := hgt_pos (.iff a b c)
          omega
  | .an v, env, p, q, r, h => by cases h
  | .st, env, p, q, r, h => by cases h
structure LOk (t : Tm) : Prop where
  e : ek t
  h : hgt t ≤ 40
  p : prt t ≤ 1500
theorem szs_path (p : List Nat) : szs (p.map fun n => D.at (.int (n : Nat))) = p.length := by
  induction p with
  | nil => rfl
  | cons a p ih =>
    show 1 + szs (p.map fun n => D.at (.int (n : Nat))) = p.length + 1
    omega
theorem res_fine {t : Tm} (o : LOk t) : noL (resD (chk [] [] t)) = true ∧ dep (resD (chk [] [] t)) < 24 ∧ szs [resD (chk [] [] t)] ≤ 1000000 := by
  cases hc : chk [] [] t with
  | ok k =>
    have rk := chk_rk t [] [] k o.e (fun pr h => by simp at h) hc
    have hn := noL_k rk.k
    have hd := rk.dp
    have hs : szs k ≤ k.length * 259 := szs_le' fun d hd => (rk.1 d hd).sz
    have hl := rk.2
    have hp := o.p
    refine ⟨?_, ?_, ?_⟩
    · show (true && (noL (.tup k) && true)) = true
      rw [hn] <;> rfl
    · show max (0 + 1) (max (dep (.tup k) + 1) 0) < 24
      omega
    · show (1 + ((szs k + 1) + 0)) + 1 + 0 ≤ 1000000
      have : k.length * 259 ≤ 1506 * 259 := Nat.mul_le_mul_right _ (by omega)
      omega
  | bad q r =>
    have hl := chk_len t [] [] q r hc
    have hh := o.h
    have hl2 : q.length ≤ 40 := by simpa using Nat.le_trans hl (by simpa using hh)
    have hd := path_dep q
    have hs := szs_path q
    have hn : noL (pathD q) = true := by
      have : ∀ l : List Nat, noLs (l.map fun n => D.at (.int (n : Nat))) = true := by
        intro l
        induction l with
        | nil => rfl
        | cons a l ih => exact ih
      exact this q
    refine ⟨?_, ?_, ?_⟩
    · show (true && (noL (pathD q) && (true && true))) = true
      rw [hn] <;> rfl
    · show max (0 + 1) (max (dep (pathD q) + 1) (max (0 + 1) 0)) < 24
      omega
    · show (1 + ((szs (q.map fun n => D.at (.int (n : Nat))) + 1) + (1 + 0))) + 1 + 0 ≤ 1000000
      omega
section
variable {P : Program} {w : World} {K : PySem.W.Frag} {mg : Str → Option Value} {base : Heap} {C CS CT CM fI cc cda : Addr} {fdI : FuncData}
def spLaw (K : PySem.W.Frag) : Sp := fun vs H Q _ => ∃ (a : Addr) (ns : List Int), vs = [.ref a] ∧ SqL K H a (ns.map V.int) ∧ ns.length ≤ 63 ∧ ∀ H', Q (.bl true) H'
theorem ok_law (KF : KfD P K mg C fI cc cda fdI) (KX : KxF K mg C CS CT CM) {f f1 f2 f3 f4 f5 f6 f7 f8 f9 f10 f11 f12 f13 f14 f15 f16 f17 f18 f19 f20 f21 f22 f23 : Addr} {fd d1 d2 d3 d4 d5 d6 d7 d8 d9 d10 d11 d12 d13 d14 d15 d16 d17 d18 d19 d20 d21 d22 d23 : FuncData} (D_law : Df K mg "law" s_law ["script"] f fd) (B : Bt mg) (D__inner_parts : Df K mg "_inner_parts" s__inner_parts ["part", "names"] f1 d1) (D__parts : Df K mg "_parts" s__parts ["term"] f2 d2) (D__kind_of_name : Df K mg "_kind_of_name" s__kind_of_name ["name", "path", "names"] f3 d3) (D__kind_of_application : Df K mg "_kind_of_application" s__kind_of_application ["path", "function_kind", "argument_kind"] f4 d4) (D__kind_of_if : Df K mg "_kind_of_if" s__kind_of_if ["path", "part_kinds"] f5 d5) (D__kind_of_part : Df K mg "_kind_of_part" s__kind_of_part ["part", "path", "names", "part_kinds"] f6 d6) (D_kind_of : Df K mg "kind_of" s_kind_of ["term"] f7 d7) (D__law_cell : Df K mg "_law_cell" s__law_cell ["script", "k"] f8 d8) (D__law_digits : Df K mg "_law_digits" s__law_digits ["script", "first", "last"] f9 d9) (D__law_draw : Df K mg "_law_draw" s__law_draw ["box", "many"] f10 d10) (D__law_box : Df K mg "_law_box" s__law_box ["script", "first", "last"] f11 d11) (D__law_same : Df K mg "_law_same" s__law_same ["actual", "expected"] f12 d12) (D__law_kind : Df K mg "_law_kind" s__law_kind ["box", "depth", "budget"] f13 d13) (D__law_checked : Df K mg "_law_checked" s__law_checked ["term", "around", "path"] f14 d14) (D__law_joined_kind : Df K mg "_law_joined_kind" s__law_joined_kind ["word", "found", "path"] f15 d15) (D__law_kind_told : Df K mg "_law_kind_told" s__law_kind_told ["term"] f16 d16) (D__law_loose : Df K mg "_law_loose" s__law_loose ["box", "budget"] f17 d17) (D__law_fits : Df K mg "_law_fits" s__law_fits ["around", "kind"] f18 d18) (D__law_new_name : Df K mg "_law_new_name" s__law_new_name ["box"] f19 d19) (D__law_small : Df K mg "_law_small" s__law_small ["box", "kind", "around"] f20 d20) (D__law_given : Df K mg "_law_given" s__law_given ["box", "row", "around", "size"] f21 d21) (D__law_term : Df K mg "_law_term" s__law_term ["box", "kind", "around", "size"] f22 d22) (D__law_twisted : Df K mg "_law_twisted" s__law_twisted ["box", "term"] f23 d23)
    : FnOk P w K mg base CX0 71 f fd ["script"] (spLaw K) := by
  have G__law_same : FnOk P w K mg base CX0 24 f12 d12 ["actual", "expected"] (spSame K 24) := ok_same D__law_same B 24
  have G__law_box : FnOk P w K mg base CX0 3 f11 d11 ["script", "first", "last"] (spBox K) := ok_box D__law_box D__law_digits D__law_cell B
  have G__law_draw : FnOk P w K mg base CX0 1 f10 d10 ["box", "many"] (spDraw) := ok_draw D__law_draw B
  have G__law_kind : FnOk P w K mg base CX0 5 f13 d13 ["box", "depth", "budget"] (spKind K 4) := ok_kind D__law_kind D__law_draw B 4
  have G__law_term : FnOk P w K mg base CX0 58 f22 d22 ["box", "kind", "around", "size"] (spTerm K 24) := ok_term D__law_term D__law_given D__law_small D__law_fits D__law_new_name D__law_draw B 24
  have G__law_twisted : FnOk P w K mg base CX0 41 f23 d23 ["box", "term"] (spTw K 40) := ok_tw D__law_twisted D__law_draw B 40
  have G__law_loose : FnOk P w K mg base CX0 17 f17 d17 ["box", "budget"] (spLoose K 16) := ok_loose D__law_loose D__law_draw B 16
  have G__law_checked : FnOk P w K mg base CX0 41 f14 d14 ["term", "around", "path"] (spChk K 40) := ok_chk D__law_checked D__law_joined_kind B 40
  have G__law_kind_told : FnOk P w K mg base CX0 7 f16 d16 ["term"] (spTold K) := ok_told D__law_kind_told D_kind_of D__parts D__inner_parts D__kind_of_part D__kind_of_name D__kind_of_application D__kind_of_if KF KX B
  refine D_law.ok c_law (fun vs H Q E h => ?_) (fun cdv A outer s H vs Q E hr h => ?_)
  · obtain ⟨a, ns, rfl, _⟩ := h
    rfl
  obtain ⟨a, ns, rfl, hS, hns, q⟩ := h
  have nd := c_law.nd
  refine ⟨_, (pss_cons (ps_set (i := 1) nd rfl (Or.inl rfl) (pe_call G__law_box (hr.mono (by first | decide | omega)) (by rfl) D__law_box.m D__law_box.kp D__law_box.b .nil pass0 (pa_cons (pv 0) (pa_cons pe_int (pa_cons pe_int pa_nil)))))
  (pss_cons (ps_set (i := 2) nd rfl (Or.inl rfl) (pe_lst pa_nil))
  (pss_cons (ps_for PassesOwn.never rfl (pi_range1 (by rfl) B.b_range (pa_cons pe_int pa_nil)) (pg_name (i := 3) nd rfl (Or.inl rfl)) (pss_cons (ps_set (i := 4) nd rfl (Or.inl rfl) (pe_call G__law_kind (hr.mono (by first | decide | omega)) (by rfl) D__law_kind.m D__law_kind.kp D__law_kind.b .nil pass0 (pa_cons (pv 1) (pa_cons pe_int (pa_cons (pe_lst (pa_cons (pe_call G__law_draw (hr.mono (by first | decide | omega)) (by rfl) D__law_draw.m D__law_draw.kp D__law_draw.b .nil pass0 (pa_cons (pv 1) (pa_cons pe_int pa_nil))) pa_nil)) pa_nil)))))
  (pss_cons (ps_set (i := 5) nd rfl (Or.inl rfl) (pe_call G__law_term (hr.mono (by first | decide | omega)) (by rfl) D__law_term.m D__law_term.kp D__law_term.b .nil pass0 (pa_cons (pv 1) (pa_cons (pv 4) (pa_cons (pe_lst pa_nil) (pa_cons (pe_op op_add pe_int (pe_call G__law_draw (hr.mono (by first | decide | omega)) (by rfl) D__law_draw.m D__law_draw.kp D__law_draw.b .nil pass0 (pa_cons (pv 1) (pa_cons pe_int pa_nil)))) pa_nil))))))
  (pss_cons (ps_set (i := 2) nd rfl (Or.inl rfl) (pe_op op_cat (pv 2) (pe_lst (pa_cons (pv 5) (pa_cons (pe_call G__law_twisted (hr.mono (by first | decide | omega)) (by rfl) D__law_twisted.m D__law_twisted.kp D__law_twisted.b .nil pass0 (pa_cons (pv 1) (pa_cons (pv 5) pa_nil))) (pa_cons (pe_call G__law_twisted (hr.mono (by first | decide | omega)) (by rfl) D__law_twisted.m D__law_twisted.kp D__law_twisted.b .nil pass0 (pa_cons (pv 1) (pa_cons (pe_call G__law_twisted (hr.mono (by first | decide | omega)) (by rfl) D__law_twisted.m D__law_twisted.kp D__law_twisted.b .nil pass0 (pa_cons (pv 1) (pa_cons (pv 5) pa_nil))) pa_nil))) pa_nil))))))
  (pss_one (ps_expr (pe_bm PySem.F.plainAttrs_list PySem.F.slot_list_append PySem.F.type_list_append mt_append (pv 2) (pa_cons (pe_call G__law_loose (hr.mono (by first | decide | omega)) (by rfl) D__law_loose.m D__law_loose.kp D__law_loose.b .nil pass0 (pa_cons (pv 1) (pa_cons (pe_lst (pa_cons (pe_op op_add pe_int (pe_call G__law_draw (hr.mono (by first | decide | omega)) (by rfl) D__law_draw.m D__law_draw.kp D__law_draw.b .nil pass0 (pa_cons (pv 1) (pa_cons pe_int pa_nil)))) pa_nil)) pa_nil))) pa_nil))))))))
  (pss_cons (ps_for PassesOwn.never rfl (pi_list (pv 2)) (pg_name (i := 5) nd rfl (Or.inl rfl)) (pss_one (ps_if (pt_not (pt_val (pe_call G__law_same (hr.mono (by first | decide | omega)) (by rfl) D__law_same.m D__law_same.kp D__law_same.b .nil pass0 (pa_cons (pe_call G__law_kind_told (hr.mono (by first | decide | omega)) (by rfl) D__law_kind_told.m D__law_kind_told.kp D__law_kind_told.b .nil pass0 (pa_cons (pv 5) pa_nil)) (pa_cons (pe_call G__law_checked (hr.mono (by first | decide | omega)) (by rfl) D__law_checked.m D__law_checked.kp D__law_checked.b .nil pass0 (pa_cons (pv 5) (pa_cons (pe_lst pa_nil) (pa_cons (pe_tup pa_nil) pa_nil)))) pa_nil))))) (pss_one (ps_ret pe_bl)) pss_nil)))
  (pss_cons (ps_for PassesOwn.never rfl (pi_list (pe_revL (pv 2))) (pg_name (i := 5) nd rfl (Or.inl rfl)) (pss_one (ps_if (pt_not (pt_val (pe_call G__law_same (hr.mono (by first | decide | omega)) (by rfl) D__law_same.m D__law_same.kp D__law_same.b .nil pass0 (pa_cons (pe_call G__law_kind_told (hr.mono (by first | decide | omega)) (by rfl) D__law_kind_told.m D__law_kind_told.kp D__law_kind_told.b .nil pass0 (pa_cons (pv 5) pa_nil)) (pa_cons (pe_call G__law_checked (hr.mono (by first | decide | omega)) (by rfl) D__law_checked.m D__law_checked.kp D__law_checked.b .nil pass0 (pa_cons (pv 5) (pa_cons (pe_lst pa_nil) (pa_cons (pe_tup pa_nil) pa_nil)))) pa_nil))))) (pss_one (ps_ret pe_bl)) pss_nil)))
  (pss_one (ps_ret pe_bl))))))), ?_⟩
  refine ⟨_, rfl, a, ns, 0, 62, rfl, hS, by omega, by omega, fun b c H3 s3 _ _ hB3 => ?_⟩
  refine ⟨Nat.zero_le _, fun fl nfl => ?_⟩
  obtain ⟨bs, hbs⟩ := hB3.lst
  obtain ⟨cs, hcs⟩ := hB3.dst
  have sF := same_new nfl (.lst [])
  refine ⟨3, rfl, by decide, by decide, ?_⟩
  refine for_range (n := 3) (fun i σ H' => ∃ (fl : Addr) (xs : List V) (L : List Tm) (y3 y4 y5 : Option V), σ = [some (.ref a), some (.ref b), some (.ref fl), y3, y4, y5] ∧ BoxAt H' b c ∧ H' fl = some (.lst xs) ∧ fl ≠ b ∧ fl ≠ c ∧ Reps K H' xs (L.map tmD) ∧ (∀ t ∈ L, LOk t) ∧ L.length ≤ 4 * i)
    ⟨fl, [], [], _, _, _, rfl, hB3.same sF, upd_same, (ne_of_none hbs nfl).symm, (ne_of_none hcs nfl).symm, .nil, fun t ht => absurd ht (by simp), Nat.le_refl _⟩ ?_ ?_
  · rintro i σ H4 hi ⟨fl, xs, L, y3, y4, y5, rfl, hB4, hfl, hfb, hfc, rL, okL, lL⟩
    -- the kind
    refine ⟨_, rfl, _, rfl, b, c, 7, rfl, hB4, by decide, fun r H5 r0 r7 hB5 sb5 => ⟨by show 1 ≤ sizeLine; decide, fun u nu => ?_⟩⟩
    obtain ⟨g, rfl⟩ : ∃ g : Nat, r = (g : Int) := ⟨r.toNat, (Int.toNat_of_nonneg r0).symm⟩
    have s5 := same_new nu (.lst [.int (g : Nat)])
    obtain ⟨bs5, hbs5⟩ := hB5.lst
    obtain ⟨cs5, hcs5⟩ := hB5.dst
    have hfl5 : H5 fl = some (.lst xs) := sb5 _ _ hfb hfl
    refine ⟨b, c, u, 3, g, rfl, hB5.same s5, upd_same, by decide, by decide, by omega, ne_of_none hbs5 nu, ne_of_none hcs5 nu, fun v H6 d g' rv hk hdep hsz hu6 hB6 sb6 => ?_⟩
    have hfl6 : H6 fl = some (.lst xs) := sb6 _ _ hfb (ne_of_none hfl5 nu) (s5 _ _ hfl5)
    have k46 : Kx H4 H6 := (box_kx hB4 hB5 sb5).trans ((kx_same s5).trans (sb2_kx (hB5.same s5) hB6 upd_same hu6 sb6))
    have rL6 := rL.mono k46
    obtain ⟨ts, rfl, hks⟩ := isK_inv hk
    have hek : Ek (.tup ts) := ⟨hk, by omega, by have := wd_lt_sz (d := .tup ts); omega⟩
    -- the term
    refine ⟨_, rfl, _, rfl, Nat.zero_le _, fun e ne => ?_⟩
    have s6 := same_new ne (.lst [])
    obtain ⟨bs6, hbs6⟩ := hB6.lst
    refine ⟨_, rfl, b, c, 20, rfl, hB6.same s6, by decide, fun r2 H7 q0 q20 hB7 sb7 => ?_⟩
    have k67 : Kx H6 H7 := (kx_same s6).trans (box_kx (hB6.same s6) hB7 sb7)
    have hfl7 : H7 fl = some (.lst xs) := sb7 _ _ hfb (s6 _ _ hfl6)
    have he7 : H7 e = some (.lst []) := sb7 _ _ (ne_of_none hbs6 ne).symm upd_same
    refine ⟨4, r2, rfl, rfl, b, c, v, .ref e, 4 + r2, ts, [], rfl, hB7, rv.mono k67, hek, ⟨e, [], rfl, he7, .nil⟩, fun p h => absurd h (by simp), by omega, by decide, by decide, fun z H8 t rz hty hekt hh hp hB8 sb8 => ?_⟩
    have hh2 : hgt t ≤ 35 := by
      unfold hb at hh
      split at hh <;> omega
    have hp2 : prt t ≤ 1387 := by
      unfold pb at hp
      split at hp <;> omega
    have k78 := box_kx hB7 hB8 sb8
    have hfl8 : H8 fl = some (.lst xs) := sb8 _ _ hfb hfl7
    have rL8 := rL6.mono (k67.trans k78)
    -- found + [..]
    refine ⟨_, rfl, _, rfl, _, rfl, _, rfl, b, c, z, t, rfl, hB8, rz, hekt, by omega, fun z1 H9 u1 rz1 tw1 hB9 sb9 => ?_⟩
    have k89 := box_kx hB8 hB9 sb9
    have hfl9 : H9 fl = some (.lst xs) := sb9 _ _ hfb hfl8
    refine ⟨_, rfl, _, rfl, _, rfl, b, c, z, t, rfl, hB9, rz.mono k89, hekt, by omega, fun z2 H10 u2 rz2 tw2 hB10 sb10 => ?_⟩
    have k910 := box_kx hB9 hB10 sb10
    have hfl10 : H10 fl = some (.lst xs) := sb10 _ _ hfb hfl9
    refine ⟨b, c, z2, u2, rfl, hB10, rz2, tw2.1, by have := tw2.2.1; omega, fun z3 H11 u3 rz3 tw3 hB11 sb11 => ?_⟩
    have k1011 := box_kx hB10 hB11 sb11
    have hfl11 : H11 fl = some (.lst xs) := sb11 _ _ hfb hfl10
    refine ⟨by show 3 ≤ sizeLine; decide, fun m nm => ?_⟩
    have s11 := same_new nm (.lst [z, z1, z3])
    have lx := rL.length
    rw [List.length_map] at lx
    refine ⟨fl, m, xs, _, rfl, rfl, s11 _ _ hfl11, upd_same, small6' (by show xs.length + 3 ≤ 1000000; omega), fun p np => ?_⟩
    have s12 := same_new np (.lst (xs ++ [z, z1, z3]))
    have hB12 := (hB11.same s11).same s12
    obtain ⟨bs12, hbs12⟩ := (hB11.same s11).lst
    obtain ⟨cs12, hcs12⟩ := (hB11.same s11).dst
    have hpb := (ne_of_none hbs12 np).symm
    have hpc := (ne_of_none hcs12 np).symm
    have kA := (kx_same s11).trans (kx_same s12)
    have rL12 : Reps K (upd (upd H11 m (.lst [z, z1, z3])) p (.lst (xs ++ [z, z1, z3]))) (xs ++ [z, z1, z3]) ((L ++ [t, u1, u3]).map tmD) := by
      rw [List.map_append]
      exact (rL8.mono (k89.trans (k910.trans (k1011.trans kA)))).append (.cons (rz.mono (k89.trans (k910.trans (k1011.trans kA)))) (.cons (rz1.mono (k910.trans (k1011.trans kA))) (.one (rz3.mono kA))))
    have hp12 : (upd (upd H11 m (.lst [z, z1, z3])) p (.lst (xs ++ [z, z1, z3]))) p = some (.lst (xs ++ [z, z1, z3])) := upd_same
    generalize (upd (upd H11 m (.lst [z, z1, z3])) p (.lst (xs ++ [z, z1, z3]))) = H12 at hB12 rL12 hp12 ⊢
    -- one term more
    refine ⟨_, rfl, .inl ⟨rfl, _, SqL.of hp12⟩, _, rfl, _, rfl, b, c, 14, rfl, hB12, by decide, fun r3 H13 p0 p14 hB13 sb13 => ?_⟩
    refine ⟨2, r3, rfl, rfl, by show 1 ≤ sizeLine; decide, fun u5 nu5 => ?_⟩
    have s13 := same_new nu5 (.lst [.int (2 + r3)])
    have hp13 : H13 p = some (.lst (xs ++ [z, z1, z3])) := sb13 _ _ hpb hp12
    obtain ⟨bs13, hbs13⟩ := hB13.lst
    obtain ⟨cs13, hcs13⟩ := hB13.dst
    refine ⟨b, c, u5, 2 + r3, rfl, hB13.same s13, upd_same, ne_of_none hbs13 nu5, ne_of_none hcs13 nu5, by omega, by decide, fun z4 H14 t4 g4 rz4 hek4 hh4 hp4 hg4 hu14 hB14 sb14 => ?_⟩
    have hp14 : H14 p = some (.lst (xs ++ [z, z1, z3])) := sb14 _ _ hpb (ne_of_none hp13 nu5) (s13 _ _ hp13)
    have kB : Kx H12 H14 := (box_kx hB12 hB13 sb13).trans ((kx_same s13).trans (sb2_kx (hB13.same s13) hB14 upd_same hu14 sb14))
    have kC := kx_list hp14 ((xs ++ [z, z1, z3]) ++ [z4])
    refine ⟨p, _, z4, rfl, rfl, hp14, small6 (by rw [List.length_append]; show xs.length + 3 ≤ 1000000; omega), p, _, (L ++ [t, u1, u3]) ++ [t4], _, _, _, rfl, hB14.other _ hpb hpc, upd_same, hpb, hpc, ?_, fun x hx => ?_, ?_⟩
    · rw [List.map_append]
      exact (rL12.mono (kB.trans kC)).append (.one (rz4.mono kC))
    · obtain ⟨a1, a2, a3⟩ := tw1
      obtain ⟨b1, b2, b3⟩ := tw2
      obtain ⟨c1, c2, c3⟩ := tw3
      rcases List.mem_append.mp hx with hx | hx
      · rcases List.mem_append.mp hx with hx | hx
        · exact okL x hx
        · have hx' : x = t ∨ x = u1 ∨ x = u3 := by simpa using hx
          rcases hx' with rfl | rfl | rfl
          · exact ⟨hekt, by omega, by omega⟩
          · exact ⟨a1, by omega, by omega⟩
          · exact ⟨c1, by omega, by omega⟩
      · rw [List.mem_singleton.mp hx]
        exact ⟨hek4, by omega, by omega⟩
    · rw [List.length_append, List.length_append]
      show L.length + 3 + 1 ≤ 4 * (i + 1)
      omega
  · rintro σ H4 ⟨fl, xs, L, y3, y4, y5, rfl, hB4, hfl, hfb, hfc, rL, okL, lL⟩
    refine ⟨_, rfl, fl, rfl, ⟨_, SqL.of hfl⟩, for_list (K := K) (a := fl) (xs := xs) (fun i σ H' => ∃ (y5 : Option V), σ = [some (.ref a), some (.ref b), some (.ref fl), y3, y4, y5] ∧ Same H4 H') ⟨_, rfl, Same.refl _⟩ (fun i σ H' _ h => ?_) ?_ ?_⟩
    · obtain ⟨_, _, h⟩ := h
      exact SqL.of (h _ _ hfl)
    · rintro i v σ H5 hi ⟨y5, rfl, s5⟩
      obtain ⟨d, hd, rv⟩ := (rL.mono (kx_same s5)).get hi
      rw [List.getElem?_map] at hd
      obtain ⟨t, ht', rfl⟩ := Option.map_eq_some_iff.mp hd
      have ht : t ∈ L := List.mem_of_getElem? ht'
      refine ⟨_, rfl, v, t, rfl, rv, (okL t ht).e, by have := (okL t ht).h; omega, by have := (okL t ht).p; omega, fun z1 H6 s6 rz1 => ?_⟩
      refine ⟨_, rfl, Nat.zero_le _, fun e ne => ⟨Nat.zero_le _, fun t2 n2 => ?_⟩⟩
      have sE := same_new ne (.lst [])
      have sT := same_new n2 (.tup [])
      have s8 := s6.trans (sE.trans sT)
      refine ⟨v, .ref e, .ref t2, t, [], [], rfl, rv.mono (kx_same s8), (okL t ht).e, ⟨e, [], rfl, sT _ _ upd_same, .nil⟩, fun pr h => absurd h (by simp), .tup' upd_same .nil, (okL t ht).h, by have := (okL t ht).p; omega, by decide, by decide, fun z2 H9 s9 rz2 => ?_⟩
      obtain ⟨g1, g2, g3⟩ := res_fine (okL t ht)
      refine ⟨z1, z2, _, _, rfl, rz1.mono (kx_same ((sE.trans sT).trans s9)), rz2, g1, g2, g3, fun r hr => ?_⟩
      have er : r = true := hr.mpr rfl
      subst er
      refine ⟨_, rfl, iteF ?_⟩
      exact ⟨_, rfl, s5.trans (s8.trans s9)⟩
    · rintro σ H5 ⟨y5, rfl, s5⟩
      refine ⟨_, rfl, fl, xs, rfl, SqL.of (s5 _ _ hfl), fun p np => ⟨p, rfl, ⟨_, SqL.of upd_same⟩, for_list (K := K) (a := p) (xs := xs.reverse) (fun i σ H' => ∃ (y5 : Option V), σ = [some (.ref a), some (.ref b), some (.ref fl), y3, y4, y5] ∧ Same (upd H5 p (.lst xs.reverse)) H') ⟨_, rfl, Same.refl _⟩ (fun i σ H' _ h => ?_) ?_ ?_⟩⟩
      · obtain ⟨_, _, h⟩ := h
        exact SqL.of (h _ _ upd_same)
      · rintro i v σ H7 hi ⟨y5, rfl, s7⟩
        have rR := (rL.mono (kx_same (s5.trans ((same_new np _).trans s7)))).reverse
        obtain ⟨d, hd, rv⟩ := rR.get hi
        rw [← List.map_reverse, List.getElem?_map] at hd
        obtain ⟨t, ht', rfl⟩ := Option.map_eq_some_iff.mp hd
        have ht : t ∈ L := List.mem_reverse.mp (List.mem_of_getElem? ht')
        refine ⟨_, rfl, v, t, rfl, rv, (okL t ht).e, by have := (okL t ht).h; omega, by have := (okL t ht).p; omega, fun z1 H6 s6 rz1 => ?_⟩
        refine ⟨_, rfl, Nat.zero_le _, fun e ne => ⟨Nat.zero_le _, fun t2 n2 => ?_⟩⟩
        have sE := same_new ne (.lst [])
        have sT := same_new n2 (.tup [])
        have s8 := s6.trans (sE.trans sT)
        refine ⟨v, .ref e, .ref t2, t, [], [], rfl, rv.mono (kx_same s8), (okL t ht).e, ⟨e, [], rfl, sT _ _ upd_same, .nil⟩, fun pr h => absurd h (by simp), .tup' upd_same .nil, (okL t ht).h, by have := (okL t ht).p; omega, by decide, by decide, fun z2 H9 s9 rz2 => ?_⟩
        obtain ⟨g1, g2, g3⟩ := res_fine (okL t ht)
        refine ⟨z1, z2, _, _, rfl, rz1.mono (kx_same ((sE.trans sT).trans s9)), rz2, g1, g2, g3, fun r hr => ?_⟩
        have er : r = true := hr.mpr rfl
        subst er
        refine ⟨_, rfl, iteF ?_⟩
        exact ⟨_, rfl, s7.trans (s8.trans s9)⟩
      · rintro σ H7 ⟨y5, rfl, s7⟩
        exact q _
end
end Pk

set_option maxRecDepth 100000
set_option maxHeartbeats 4000000
set_option pp.maxSteps 600
namespace Pk
open PySem PySem.Spec PyProof.Rows L2
open NdefX (NScope nscope_by)
/-! ### what the head tells of KindFault -/
def pK : Str × Option Str := ("KindFault", some "__init__")
def aKF (K : PySem.W.Frag) : Addr := He.ga K "KindFault"
def fKF (K : PySem.W.Frag) : Addr := He.fAd K pK
/-- the class object -/
def oexB (K : PySem.W.Frag) (C : Addr) : Bool := match K.lookup C with
  | some ⟨.type "type", _, .cls cd, sl⟩ => (match cd.mro, sl.toList with
    | .ref C' :: bm, [_, _, _, _, some (.builtin n), _] => C' == C && (n == "ValueError.__new__" && (!cd.hasDel && (cd.hasDict && PySem.HandSPX.refsVE bm)))
    | _, _ => false)
  | _ => false
theorem oexB_ok {K : PySem.W.Frag} {C : Addr} (h : oexB K C = true) : ∃ nm q N bs bm sn sub ab col dd k0 k1 k2 k3 k5, K.lookup C = some (excClassObj nm q C N bs bm true sn sub ab col dd k0 k1 k2 k3 k5 "ValueError.__new__") ∧ PySem.HandSPX.refsVE bm = true := by
  unfold oexB at h
  split at h
  · rename_i dd cd sl ho
    split at h
    · rename_i C' bm k0 k1 k2 k3 n k5 hm hs
      simp only [Bool.and_eq_true, beq_iff_eq, Bool.not_eq_true'] at h
      obtain ⟨h1, h2, h3, h4, h5⟩ := h
      obtain ⟨nm, bs, mro, ns, q, hd, sn, sub, ab, col, del⟩ := cd
      obtain ⟨ls⟩ := sl
      dsimp only at hm hs h3 h4
      subst h1 h2 h3 h4 hm hs
      exact ⟨nm, q, ns, bs, bm, sn, sub, ab, col, dd, k0, k1, k2, k3, k5, ho, h5⟩
    · cases h
  · cases h
def cellB (K : PySem.W.Frag) (cc C : Addr) : Bool := match K.lookup cc with
  | some ⟨_, _, .cell (some (.ref C')), _⟩ => C' == C
  | _ => false
theorem cellB_ok {K : PySem.W.Frag} {cc C : Addr} (h : cellB K cc C = true) : ∃ cl cld csl, K.lookup cc = some ⟨cl, cld, .cell (some (.ref C)), csl⟩ := by
  unfold cellB at h
  split at h
  · next cl cld C' csl e =>
    rw [beq_iff_eq] at h
    subst h
    exact ⟨cl, cld, csl, e⟩
  · cases h
def fileOf : Str := PySem.Challenge.pw_playsense_k03_kinds_of_terms.main.file
def codeB (K : PySem.W.Frag) (cda : Addr) : Bool := match K.lookup cda with
  | some ⟨_, _, .fields vs, _⟩ => (match vs[2]? with
    | some (Value.str file _) => fileOf == file
    | _ => false)
  | _ => false
theorem codeB_ok {K : PySem.W.Frag} {cda : Addr} (h : codeB K cda = true) : ∃ ccl cdd vs ccs file tf, K.lookup cda = some ⟨ccl, cdd, .fields vs, ccs⟩ ∧ vs[2]? = some (.str file tf) ∧ (fileOf == file) = true := by
  unfold codeB at h
  split at h
  · next ccl cdd vs ccs e =>
    split at h
    · next file tf e2 => exact ⟨ccl, cdd, vs, ccs, file, tf, e, e2, h⟩
    · cases h
  · cases h
def refA : Value → Addr
  | .ref a => a
  | _ => 0
def clA : List (Str × Addr) → Addr
  | [(_, c)] => c
  | _ => 0
def exF (K : PySem.W.Frag) : Bool := match K.lookup (fKF K) with
  | some ⟨_, _, .func fd, _⟩ => fd.defaults == .none && (fd.code == .ref (refA fd.code) && (PySem.W.codeIn K (.ref (refA fd.code)) "KindFault.__init__" && (codeB K (refA fd.code) && cellB K (clA fd.closure) (aKF K))))
  | _ => false
/-- the function, the cell's address left out -/
def fnC (K : PySem.W.Frag) : He.FnW := match K.lookup (fKF K) with
  | some ⟨_, _, .func fd, _⟩ => some (fd.name, fd.qualname, fd.params, fd.body, fd.scope, fd.globals, fd.closure.map (fun q => (q.1, 0)), fd.builtins)
  | _ => none
def valC : He.FnW := some ("__init__", "KindFault.__init__", defArgs s_KF, .stmts (defBody s_KF), defScope s_KF, mainGlobals, [("__class__", 0)], builtinsNs)
theorem fn_ok {K : PySem.W.Frag} (e : fnC K = valC) (h : exF K = true) : ∃ (cc cda : Addr) (fd : FuncData) (oc : Value) (od : Option Addr) (doc pm kV : Value) (an : Option Addr) (ct : Value) (osl : Array (Option Value)),
    fd = PySem.W.ksFn "__init__" "KindFault.__init__" (defArgs s_KF) (defBody s_KF) (defScope s_KF) .none kV doc pm an (.ref cda) ct cc ∧ K.lookup (fKF K) = some ⟨oc, od, .func fd, osl⟩ ∧ PySem.W.codeIn K (.ref cda) "KindFault.__init__" = true ∧ codeB K cda = true ∧ cellB K cc (aKF K) = true := by
  unfold fnC at e
  unfold exF at h
  cases q : K.lookup (fKF K) with
  | none =>
    rw [q] at h
    cases h
  | some o =>
    obtain ⟨oc, od, dt, osl⟩ := o
    rw [q] at h e
    cases dt with
    | func fd =>
      obtain ⟨n1, n2, n3, n4, n5, n6, n7, n8, n9, n10, n11, n12, n13, n14, n15⟩ := fd
      have e2 : (some (n1, n2, n3, n4, n5, n6, n7.map (fun q => (q.1, 0)), n15) : He.FnW) = valC := e
      unfold valC at e2
      simp only [Option.some.injEq, Prod.mk.injEq] at e2
      obtain ⟨h1, h2, h3, h4, h5, h6, h7, h8⟩ := e2
      have h' : (n8 == Value.none && (n13 == .ref (refA n13) && (PySem.W.codeIn K (.ref (refA n13)) "KindFault.__init__" && (codeB K (refA n13) && cellB K (clA n7) (aKF K))))) = true := h
      simp only [Bool.and_eq_true, beq_iff_eq] at h'
      obtain ⟨k0, k1, k2, k3, k4⟩ := h'
      obtain ⟨cc, rfl⟩ : ∃ cc : Addr, n7 = [(("__class__" : Str), cc)] := by
        cases n7 with
        | nil => cases h7
        | cons a r =>
          obtain ⟨x, c⟩ := a
          simp only [List.map_cons, List.cons.injEq, Prod.mk.injEq] at h7
          obtain ⟨⟨h8, _⟩, h9⟩ := h7
          have hr : r = [] := List.map_eq_nil_iff.mp h9
          subst h8 hr
          exact ⟨c, rfl⟩
      subst h1 h2 h3 h4 h5 h6 h8 k0
      generalize refA n13 = cda at k1 k2 k3
      subst k1
      exact ⟨cc, cda, _, oc, od, n10, n11, n9, n12, n14, osl, rfl, rfl, k2, k3, k4⟩
    | _ => cases h
/-- the rest of what is asked, as one Bool -/
def exK (K : PySem.W.Frag) : Bool :=
  exF K && (oexB K (aKF K) && (PySem.W.findIn K (.ref (aKF K)) "__setattr__" == some (some (.builtin "object.__setattr__")) && (PySem.W.subIn K (.ref (aKF K)) (.type "BaseException") == some true && (PySem.W.typeIn K (.ref (aKF K)) == some (.type "type") && (PySem.W.keepIn K (.ref (aKF K)) &&
  (PySem.W.ks_superIn K (aKF K) (aKF K) "__init__" == some (some (.builtin "ValueError.__init__")) && (PySem.W.subIn K (.ref (aKF K)) (.type "ValueError") == some true && (PySem.W.mroIn K (aKF K) (.ref (aKF K)) == some true && (PySem.W.nsIn K cStatics "thirdparty.any" == some none &&
  (PySem.W.findIn K (.ref (aKF K)) "__init__" == some (some (.ref (fKF K))) && (PySem.W.typeIn K (.ref (fKF K)) == some (.type "function") && (PySem.W.findIn K (.ref (aKF K)) "path" == some none && PySem.W.findIn K (.ref (aKF K)) "reason" == some none))))))))))))
def exL (K : PySem.W.Frag) : Bool :=
  PySem.W.findIn K (.ref (aKF K)) "__getattribute__" == some (some (.builtin "BaseException.__getattribute__")) && (PySem.W.findIn K (.ref (aKF K)) "__getattr__" == some none && (PySem.W.hasDictIn K (aKF K) && (PySem.W.findIn K (.ref (aKF K)) "__class__" == some (some (.builtin "object.__class__")) &&
  (PySem.W.specialIn K (.builtin "object.__class__") "__get__" == some (some (.builtin "getset_descriptor.__get__")) && (PySem.W.takesIn K (.builtin "object.__class__") == some true && (PySem.W.mroIn K (aKF K) (.type "object") == some true && ((PySem.W.clsIn K (aKF K)).isSome &&
  (PySem.W.exmOne K (.ref (aKF K)) (.ref (He.ga K "SenseFault")) == some true && (PySem.W.kitOne K (.ref (aKF K)) (.ref (aKF K)) == some true && (PySem.W.kitOne K (.ref (aKF K)) (.type "ValueError") == some true && (PySem.W.kitOne K (.ref (aKF K)) (.ref (He.ga K "TextFault")) == some false && PySem.W.kitOne K (.ref (aKF K)) (.ref (He.ga K "TooMany")) == some false)))))))))))
theorem kf_of {P : Program} {K : PySem.W.Frag} {mg : Str → Option Value} (hPf : P.main.file = fileOf) (hPt : (P.main.scope.names.lookup ("super" : Str)).isSome = false) (hS : mg "super" = none) (hG : mg "KindFault" = some (.ref (aKF K))) (e : fnC K = valC) (h : exK K = true) :
    ∃ (cc cda : Addr) (fd : FuncData), KfD P K mg (aKF K) (fKF K) cc cda fd := by
  unfold exK at h
  simp only [Bool.and_eq_true, beq_iff_eq] at h
  obtain ⟨h1, h2, h3, h4, h5, h6, h7, h8, h9, h10, h11, h12, h13, h14⟩ := h
  obtain ⟨cc, cda, fd, oc, od, doc, pm, kV, an, ct, osl, hfd, lk, hcd, hco, hce⟩ := fn_ok e h1
  have hcode := codeB_ok hco
  rw [← hPf] at hcode
  exact ⟨cc, cda, fd, ⟨⟨⟨oexB_ok h2, h3, h4, h5, h6⟩, h7, h8, h9, cellB_ok hce, hcode, hS, h10, hPt⟩, hG, h11, h12, h13, h14, ⟨oc, od, doc, pm, kV, an, ct, osl, hfd, lk⟩, hcd, by
    rw [hfd]
    exact .all fun us hl => match us, hl with | [_, _, _], _ => rfl⟩⟩
theorem kx_of {K : PySem.W.Frag} {mg : Str → Option Value} (hS : mg "SenseFault" = some (.ref (He.ga K "SenseFault"))) (hT : mg "TextFault" = some (.ref (He.ga K "TextFault"))) (hM : mg "TooMany" = some (.ref (He.ga K "TooMany"))) (h0 : exK K = true) (h : exL K = true) :
    KxF K mg (aKF K) (He.ga K "SenseFault") (He.ga K "TextFault") (He.ga K "TooMany") := by
  unfold exK at h0
  simp only [Bool.and_eq_true, beq_iff_eq] at h0
  obtain ⟨_, _, _, h4, _⟩ := h0
  unfold exL at h
  simp only [Bool.and_eq_true, beq_iff_eq] at h
  obtain ⟨a1, a2, a3, a4, a5, a6, a7, a8, b1, b2, b3, b4, b5⟩ := h
  exact ⟨hS, hT, hM, ⟨a1, a2, h4, a3, a4, a5, a6, a7⟩, ⟨a1, a2, h4, a3⟩, a8, b1, b2, b3, b4, b5⟩
/-! ### the hook: the names' facts, the defs, KindFault's __init__ -/
abbrev AlS : Type := Bool × List He.FnW × He.FnW
def obsS (fa : List He.Fa) (fn : List He.DefD) (K : PySem.W.Frag) : AlS := (((fa.all fun f => f.ok K) && fn.all fun d => d.ok K) && (exK K && exL K), fn.map (fun d => He.fnW K d.at_), fnC K)
def valS (fn : List He.DefD) : AlS := (true, fn.map He.DefD.val, valC)
def obsSG (fa : List He.Fa) (fn : List He.DefD) (g : Addr → Option Obj) : AlS := obsS fa fn (He.frG g (cStatics :: He.asD g 4))
def hookS (fa : List He.Fa) (fn : List He.DefD) : PySem.W.Hook where
  α := AlS
  obs := fun s => obsSG fa fn s.heap.get?
  val := fun _ => valS fn
  says := fun _ h => ∃ K : PySem.W.Frag, K.In h ∧ obsS fa fn K = valS fn
  of := fun _ _ e => ⟨_, He.frG_in, e⟩
  keeps := fun _ _ _ ⟨K, hK, c⟩ k => ⟨K, PySem.W.Frag.In.keeps hK k, c⟩
theorem obsSG_eq {fa : List He.Fa} {fn : List He.DefD} {g : Addr → Option Obj} {s : Shared} (h : ∀ a, g a = s.heap.get? a) : obsSG fa fn g = (hookS fa fn).obs s := by
  have e : g = s.heap.get? := funext h
  rw [e] <;> rfl
theorem saysS {fa : List He.Fa} {fn : List He.DefD} {K : PySem.W.Frag} (c : obsS fa fn K = valS fn) : He.SaysD fa fn K ∧ exK K = true ∧ exL K = true ∧ fnC K = valC := by
  have e1 : (((fa.all fun f => f.ok K) && fn.all fun d => d.ok K) && (exK K && exL K)) = true := congrArg (fun z : AlS => z.1) c
  have e2 : fn.map (fun d => He.fnW K d.at_) = fn.map He.DefD.val := congrArg (fun z : AlS => z.2.1) c
  have e3 : fnC K = valC := congrArg (fun z : AlS => z.2.2) c
  rw [Bool.and_eq_true] at e1
  obtain ⟨h1, h2⟩ := e1
  rw [Bool.and_eq_true] at h2
  refine ⟨?_, h2.1, h2.2, e3⟩
  show (((fa.all fun f => f.ok K) && fn.all fun d => d.ok K), fn.map fun d => He.fnW K d.at_) = (true, fn.map He.DefD.val)
  rw [h1, e2]
end Pk

namespace Pk
open PySem PySem.Spec PyProof.Rows L2
set_option maxHeartbeats 0

def d__inner_parts : He.DefD := ⟨("_inner_parts", none), "_inner_parts", "_inner_parts", defArgs s__inner_parts, defBody s__inner_parts, defScope s__inner_parts, [], []⟩
def d__parts : He.DefD := ⟨("_parts", none), "_parts", "_parts", defArgs s__parts, defBody s__parts, defScope s__parts, [], []⟩
def d__kind_of_name : He.DefD := ⟨("_kind_of_name", none), "_kind_of_name", "_kind_of_name", defArgs s__kind_of_name, defBody s__kind_of_name, defScope s__kind_of_name, [], []⟩
def d__kind_of_application : He.DefD := ⟨("_kind_of_application", none), "_kind_of_application", "_kind_of_application", defArgs s__kind_of_application, defBody s__kind_of_application, defScope s__kind_of_application, [], []⟩
def d__kind_of_if : He.DefD := ⟨("_kind_of_if", none), "_kind_of_if", "_kind_of_if", defArgs s__kind_of_if, defBody s__kind_of_if, defScope s__kind_of_if, [], []⟩
def d__kind_of_part : He.DefD := ⟨("_kind_of_part", none), "_kind_of_part", "_kind_of_part", defArgs s__kind_of_part, defBody s__kind_of_part, defScope s__kind_of_part, [], []⟩
def d_kind_of : He.DefD := ⟨("kind_of", none), "kind_of", "kind_of", defArgs s_kind_of, defBody s_kind_of, defScope s_kind_of, [], []⟩
def d__law_cell : He.DefD := ⟨("_law_cell", none), "_law_cell", "_law_cell", defArgs s__law_cell, defBody s__law_cell, defScope s__law_cell, [], []⟩
def d__law_digits : He.DefD := ⟨("_law_digits", none), "_law_digits", "_law_digits", defArgs s__law_digits, defBody s__law_digits, defScope s__law_digits, [], []⟩
def d__law_draw : He.DefD := ⟨("_law_draw", none), "_law_draw", "_law_draw", defArgs s__law_draw, defBody s__law_draw, defScope s__law_draw, [], []⟩
def d__law_box : He.DefD := ⟨("_law_box", none), "_law_box", "_law_box", defArgs s__law_box, defBody s__law_box, defScope s__law_box, [], []⟩
def d__law_same : He.DefD := ⟨("_law_same", none), "_law_same", "_law_same", defArgs s__law_same, defBody s__law_same, defScope s__law_same, [], []⟩
def d__law_kind : He.DefD := ⟨("_law_kind", none), "_law_kind", "_law_kind", defArgs s__law_kind, defBody s__law_kind, defScope s__law_kind, [], []⟩
def d__law_checked : He.DefD := ⟨("_law_checked", none), "_law_checked", "_law_checked", defArgs s__law_checked, defBody s__law_checked, defScope s__law_checked, [], []⟩
def d__law_joined_kind : He.DefD := ⟨("_law_joined_kind", none), "_law_joined_kind", "_law_joined_kind", defArgs s__law_joined_kind, defBody s__law_joined_kind, defScope s__law_joined_kind, [], []⟩
def d__law_kind_told : He.DefD := ⟨("_law_kind_told", none), "_law_kind_told", "_law_kind_told", defArgs s__law_kind_told, defBody s__law_kind_told, defScope s__law_kind_told, [], []⟩
def d__law_loose : He.DefD := ⟨("_law_loose", none), "_law_loose", "_law_loose", defArgs s__law_loose, defBody s__law_loose, defScope s__law_loose, [], []⟩
def d__law_fits : He.DefD := ⟨("_law_fits", none), "_law_fits", "_law_fits", defArgs s__law_fits, defBody s__law_fits, defScope s__law_fits, [], []⟩
def d__law_new_name : He.DefD := ⟨("_law_new_name", none), "_law_new_name", "_law_new_name", defArgs s__law_new_name, defBody s__law_new_name, defScope s__law_new_name, [], []⟩
def d__law_small : He.DefD := ⟨("_law_small", none), "_law_small", "_law_small", defArgs s__law_small, defBody s__law_small, defScope s__law_small, [], []⟩
def d__law_given : He.DefD := ⟨("_law_given", none), "_law_given", "_law_given", defArgs s__law_given, defBody s__law_given, defScope s__law_given, [], []⟩
def d__law_term : He.DefD := ⟨("_law_term", none), "_law_term", "_law_term", defArgs s__law_term, defBody s__law_term, defScope s__law_term, [], []⟩
def d__law_twisted : He.DefD := ⟨("_law_twisted", none), "_law_twisted", "_law_twisted", defArgs s__law_twisted, defBody s__law_twisted, defScope s__law_twisted, [], []⟩
def d_law : He.DefD := ⟨("law", none), "law", "law", defArgs s_law, defBody s_law, defScope s_law, [], []⟩
def fn : List He.DefD := [d__inner_parts, d__parts, d__kind_of_name, d__kind_of_application, d__kind_of_if, d__kind_of_part, d_kind_of, d__law_cell, d__law_digits, d__law_draw, d__law_box, d__law_same, d__law_kind, d__law_checked, d__law_joined_kind, d__law_kind_told, d__law_loose, d__law_fits, d__law_new_name, d__law_small, d__law_given, d__law_term, d__law_twisted, d_law]
def fa : List He.Fa := [.glo "_inner_parts", .glo "_parts", .glo "_kind_of_name", .glo "_kind_of_application", .glo "_kind_of_if", .glo "_kind_of_part", .glo "kind_of", .glo "_law_cell", .glo "_law_digits", .glo "_law_draw", .glo "_law_box", .glo "_law_same", .glo "_law_kind", .glo "_law_checked", .glo "_law_joined_kind", .glo "_law_kind_told", .glo "_law_loose", .glo "_law_fits", .glo "_law_new_name", .glo "_law_small", .glo "_law_given", .glo "_law_term", .glo "_law_twisted", .glo "law", .free "enumerate", .free "len", .free "range", .free "int", .free "isinstance", .free "tuple", .free "bool", .free "str", .free "ValueError", .free "max", .glo "KindFault", .glo "SenseFault", .glo "TextFault", .glo "TooMany", .free "super"]
abbrev R : PySem.W.OpenRow := PySem.W.OpenLaw.row PySem.Challenge.rw_playsense_k03_kinds_of_terms
abbrev hk : PySem.W.Hook := hookS fa fn
def ob (s : PySem.W.SharedT) : AlS := obsSG fa fn (HandSHeadRun.getT s)
theorem ob_eq (s : PySem.W.SharedT) : ob s = hk.obs s.abs := obsSG_eq (HandSHeadRun.getT_eq s)
def names0 : List PySem.Str := ["__name__", "SenseFault", "TextFault", "KindFault", "TooMany", "_inner_parts", "_parts", "_kind_of_name", "_kind_of_application", "_kind_of_if", "_kind_of_part", "kind_of", "_law_cell", "_law_digits", "_law_draw", "_law_box", "_law_same", "_law_kind", "_law_checked", "_law_joined_kind", "_law_kind_told", "_law_loose", "_law_fits", "_law_new_name", "_law_small", "_law_given", "_law_term", "_law_twisted"]
abbrev names : List PySem.Str := names0
theorem run (w : World) : HandSHeadRun.RunEq R (PySem.W.view R.prog [30]) hk ob 4000 names w := by
  intro os
  kernel_rfl

theorem facts {P : Program} {w : World} {K : PySem.W.Frag} {h : Heap} {mg : Str → Option Value} {f : Addr} (X : K.In h) (G : h.Ns mainGlobals mg) (hfa : mg ("law" : Str) = some (.ref f)) (cS : obsS fa fn K = valS fn) (hPf : P.main.file = fileOf) (hPt : (P.main.scope.names.lookup ("super" : Str)).isSome = false) :
    ∃ fd : FuncData, (∀ (s : Shared) (v : Value), BindsTo s fd ⟨[v], []⟩ [("script", v)]) ∧ ∀ base : Heap, K.In base → base.Ns mainGlobals mg → FnOk P w K mg base CX0 71 f fd ["script"] (spLaw K) := by
  obtain ⟨c, x1, x2, x3⟩ := saysS cS
  obtain ⟨cc, cda, fdI, KF⟩ := kf_of (mg := mg) hPf hPt (He.free_ok X G (c.fact 38 (f := .free "super") rfl)) (He.glo_ok X G (c.fact 34 (f := .glo "KindFault") rfl)) x3 x1
  have KX := kx_of (mg := mg) (He.glo_ok X G (c.fact 35 (f := .glo "SenseFault") rfl)) (He.glo_ok X G (c.fact 36 (f := .glo "TextFault") rfl)) (He.glo_ok X G (c.fact 37 (f := .glo "TooMany") rfl)) x1 x2
  obtain ⟨fd__inner_parts, F__inner_parts⟩ := c.def_ 0 (d := d__inner_parts) rfl
  have D__inner_parts : Df K mg "_inner_parts" s__inner_parts ["part", "names"] _ fd__inner_parts := ⟨F__inner_parts, F__inner_parts.bindsN fun _ _ _ _ _ _ us hl => match us, hl with | [_, _], _ => rfl, He.glo_ok X G (c.fact 0 (f := .glo "_inner_parts") rfl)⟩
  obtain ⟨fd__parts, F__parts⟩ := c.def_ 1 (d := d__parts) rfl
  have D__parts : Df K mg "_parts" s__parts ["term"] _ fd__parts := ⟨F__parts, F__parts.bindsN fun _ _ _ _ _ _ us hl => match us, hl with | [_], _ => rfl, He.glo_ok X G (c.fact 1 (f := .glo "_parts") rfl)⟩
  obtain ⟨fd__kind_of_name, F__kind_of_name⟩ := c.def_ 2 (d := d__kind_of_name) rfl
  have D__kind_of_name : Df K mg "_kind_of_name" s__kind_of_name ["name", "path", "names"] _ fd__kind_of_name := ⟨F__kind_of_name, F__kind_of_name.bindsN fun _ _ _ _ _ _ us hl => match us, hl with | [_, _, _], _ => rfl, He.glo_ok X G (c.fact 2 (f := .glo "_kind_of_name") rfl)⟩
  obtain ⟨fd__kind_of_application, F__kind_of_application⟩ := c.def_ 3 (d := d__kind_of_application) rfl
  have D__kind_of_application : Df K mg "_kind_of_application" s__kind_of_application ["path", "function_kind", "argument_kind"] _ fd__kind_of_application := ⟨F__kind_of_application, F__kind_of_application.bindsN fun _ _ _ _ _ _ us hl => match us, hl with | [_, _, _], _ => rfl, He.glo_ok X G (c.fact 3 (f := .glo "_kind_of_application") rfl)⟩
  obtain ⟨fd__kind_of_if, F__kind_of_if⟩ := c.def_ 4 (d := d__kind_of_if) rfl
  have D__kind_of_if : Df K mg "_kind_of_if" s__kind_of_if ["path", "part_kinds"] _ fd__kind_of_if := ⟨F__kind_of_if, F__kind_of_if.bindsN fun _ _ _ _ _ _ us hl => match us, hl with | [_, _], _ => rfl, He.glo_ok X G (c.fact 4 (f := .glo "_kind_of_if") rfl)⟩
  obtain ⟨fd__kind_of_part, F__kind_of_part⟩ := c.def_ 5 (d := d__kind_of_part) rfl
  have D__kind_of_part : Df K mg "_kind_of_part" s__kind_of_part ["part", "path", "names", "part_kinds"] _ fd__kind_of_part := ⟨F__kind_of_part, F__kind_of_part.bindsN fun _ _ _ _ _ _ us hl => match us, hl with | [_, _, _, _], _ => rfl, He.glo_ok X G (c.fact 5 (f := .glo "_kind_of_part") rfl)⟩
  obtain ⟨fd_kind_of, F_kind_of⟩ := c.def_ 6 (d := d_kind_of) rfl
  have D_kind_of : Df K mg "kind_of" s_kind_of ["term"] _ fd_kind_of := ⟨F_kind_of, F_kind_of.bindsN fun _ _ _ _ _ _ us hl => match us, hl with | [_], _ => rfl, He.glo_ok X G (c.fact 6 (f := .glo "kind_of") rfl)⟩
  obtain ⟨fd__law_cell, F__law_cell⟩ := c.def_ 7 (d := d__law_cell) rfl
  have D__law_cell : Df K mg "_law_cell" s__law_cell ["script", "k"] _ fd__law_cell := ⟨F__law_cell, F__law_cell.bindsN fun _ _ _ _ _ _ us hl => match us, hl with | [_, _], _ => rfl, He.glo_ok X G (c.fact 7 (f := .glo "_law_cell") rfl)⟩
  obtain ⟨fd__law_digits, F__law_digits⟩ := c.def_ 8 (d := d__law_digits) rfl
  have D__law_digits : Df K mg "_law_digits" s__law_digits ["script", "first", "last"] _ fd__law_digits := ⟨F__law_digits, F__law_digits.bindsN fun _ _ _ _ _ _ us hl => match us, hl with | [_, _, _], _ => rfl, He.glo_ok X G (c.fact 8 (f := .glo "_law_digits") rfl)⟩
  obtain ⟨fd__law_draw, F__law_draw⟩ := c.def_ 9 (d := d__law_draw) rfl
  have D__law_draw : Df K mg "_law_draw" s__law_draw ["box", "many"] _ fd__law_draw := ⟨F__law_draw, F__law_draw.bindsN fun _ _ _ _ _ _ us hl => match us, hl with | [_, _], _ => rfl, He.glo_ok X G (c.fact 9 (f := .glo "_law_draw") rfl)⟩
  obtain ⟨fd__law_box, F__law_box⟩ := c.def_ 10 (d := d__law_box) rfl
  have D__law_box : Df K mg "_law_box" s__law_box ["script", "first", "last"] _ fd__law_box := ⟨F__law_box, F__law_box.bindsN fun _ _ _ _ _ _ us hl => match us, hl with | [_, _, _], _ => rfl, He.glo_ok X G (c.fact 10 (f := .glo "_law_box") rfl)⟩
  obtain ⟨fd__law_same, F__law_same⟩ := c.def_ 11 (d := d__law_same) rfl
  have D__law_same : Df K mg "_law_same" s__law_same ["actual", "expected"] _ fd__law_same := ⟨F__law_same, F__law_same.bindsN fun _ _ _ _ _ _ us hl => match us, hl with | [_, _], _ => rfl, He.glo_ok X G (c.fact 11 (f := .glo "_law_same") rfl)⟩
  obtain ⟨fd__law_kind, F__law_kind⟩ := c.def_ 12 (d := d__law_kind) rfl
  have D__law_kind : Df K mg "_law_kind" s__law_kind ["box", "depth", "budget"] _ fd__law_kind := ⟨F__law_kind, F__law_kind.bindsN fun _ _ _ _ _ _ us hl => match us, hl with | [_, _, _], _ => rfl, He.glo_ok X G (c.fact 12 (f := .glo "_law_kind") rfl)⟩
  obtain ⟨fd__law_checked, F__law_checked⟩ := c.def_ 13 (d := d__law_checked) rfl
  have D__law_checked : Df K mg "_law_checked" s__law_checked ["term", "around", "path"] _ fd__law_checked := ⟨F__law_checked, F__law_checked.bindsN fun _ _ _ _ _ _ us hl => match us, hl with | [_, _, _], _ => rfl, He.glo_ok X G (c.fact 13 (f := .glo "_law_checked") rfl)⟩
  obtain ⟨fd__law_joined_kind, F__law_joined_kind⟩ := c.def_ 14 (d := d__law_joined_kind) rfl
  have D__law_joined_kind : Df K mg "_law_joined_kind" s__law_joined_kind ["word", "found", "path"] _ fd__law_joined_kind := ⟨F__law_joined_kind, F__law_joined_kind.bindsN fun _ _ _ _ _ _ us hl => match us, hl with | [_, _, _], _ => rfl, He.glo_ok X G (c.fact 14 (f := .glo "_law_joined_kind") rfl)⟩
  obtain ⟨fd__law_kind_told, F__law_kind_told⟩ := c.def_ 15 (d := d__law_kind_told) rfl
  have D__law_kind_told : Df K mg "_law_kind_told" s__law_kind_told ["term"] _ fd__law_kind_told := ⟨F__law_kind_told, F__law_kind_told.bindsN fun _ _ _ _ _ _ us hl => match us, hl with | [_], _ => rfl, He.glo_ok X G (c.fact 15 (f := .glo "_law_kind_told") rfl)⟩
  obtain ⟨fd__law_loose, F__law_loose⟩ := c.def_ 16 (d := d__law_loose) rfl
  have D__law_loose : Df K mg "_law_loose" s__law_loose ["box", "budget"] _ fd__law_loose := ⟨F__law_loose, F__law_loose.bindsN fun _ _ _ _ _ _ us hl => match us, hl with | [_, _], _ => rfl, He.glo_ok X G (c.fact 16 (f := .glo "_law_loose") rfl)⟩
  obtain ⟨fd__law_fits, F__law_fits⟩ := c.def_ 17 (d := d__law_fits) rfl
  have D__law_fits : Df K mg "_law_fits" s__law_fits ["around", "kind"] _ fd__law_fits := ⟨F__law_fits, F__law_fits.bindsN fun _ _ _ _ _ _ us hl => match us, hl with | [_, _], _ => rfl, He.glo_ok X G (c.fact 17 (f := .glo "_law_fits") rfl)⟩
  obtain ⟨fd__law_new_name, F__law_new_name⟩ := c.def_ 18 (d := d__law_new_name) rfl
  have D__law_new_name : Df K mg "_law_new_name" s__law_new_name ["box"] _ fd__law_new_name := ⟨F__law_new_name, F__law_new_name.bindsN fun _ _ _ _ _ _ us hl => match us, hl with | [_], _ => rfl, He.glo_ok X G (c.fact 18 (f := .glo "_law_new_name") rfl)⟩
  obtain ⟨fd__law_small, F__law_small⟩ := c.def_ 19 (d := d__law_small) rfl
  have D__law_small : Df K mg "_law_small" s__law_small ["box", "kind", "around"] _ fd__law_small := ⟨F__law_small, F__law_small.bindsN fun _ _ _ _ _ _ us hl => match us, hl with | [_, _, _], _ => rfl, He.glo_ok X G (c.fact 19 (f := .glo "_law_small") rfl)⟩
  obtain ⟨fd__law_given, F__law_given⟩ := c.def_ 20 (d := d__law_given) rfl
  have D__law_given : Df K mg "_law_given" s__law_given ["box", "row", "around", "size"] _ fd__law_given := ⟨F__law_given, F__law_given.bindsN fun _ _ _ _ _ _ us hl => match us, hl with | [_, _, _, _], _ => rfl, He.glo_ok X G (c.fact 20 (f := .glo "_law_given") rfl)⟩
  obtain ⟨fd__law_term, F__law_term⟩ := c.def_ 21 (d := d__law_term) rfl
  have D__law_term : Df K mg "_law_term" s__law_term ["box", "kind", "around", "size"] _ fd__law_term := ⟨F__law_term, F__law_term.bindsN fun _ _ _ _ _ _ us hl => match us, hl with | [_, _, _, _], _ => rfl, He.glo_ok X G (c.fact 21 (f := .glo "_law_term") rfl)⟩
  obtain ⟨fd__law_twisted, F__law_twisted⟩ := c.def_ 22 (d := d__law_twisted) rfl
  have D__law_twisted : Df K mg "_law_twisted" s__law_twisted ["box", "term"] _ fd__law_twisted := ⟨F__law_twisted, F__law_twisted.bindsN fun _ _ _ _ _ _ us hl => match us, hl with | [_, _], _ => rfl, He.glo_ok X G (c.fact 22 (f := .glo "_law_twisted") rfl)⟩
  obtain ⟨fd_law, F_law⟩ := c.def_ 23 (d := d_law) rfl
  have e := hfa.symm.trans (He.glo_ok X G (c.fact 23 (f := .glo "law") rfl))
  cases e
  have D_law : Df K mg "law" s_law ["script"] _ fd_law := ⟨F_law, F_law.bindsN fun _ _ _ _ _ _ us hl => match us, hl with | [_], _ => rfl, hfa⟩
  have B : Bt mg := ⟨He.free_ok X G (c.fact 24 (f := .free "enumerate") rfl), He.free_ok X G (c.fact 25 (f := .free "len") rfl), He.free_ok X G (c.fact 26 (f := .free "range") rfl), He.free_ok X G (c.fact 27 (f := .free "int") rfl), He.free_ok X G (c.fact 28 (f := .free "isinstance") rfl), He.free_ok X G (c.fact 29 (f := .free "tuple") rfl), He.free_ok X G (c.fact 30 (f := .free "bool") rfl), He.free_ok X G (c.fact 31 (f := .free "str") rfl), He.free_ok X G (c.fact 32 (f := .free "ValueError") rfl), He.free_ok X G (c.fact 33 (f := .free "max") rfl)⟩
  have b := FunD.bindsA (ps := ["script"]) F_law fun _ _ _ _ _ _ us hl => match us, hl with | [_], _ => rfl
  exact ⟨fd_law, fun s v => b s [v] rfl, fun base _ _ => ok_law KF KX D_law B D__inner_parts D__parts D__kind_of_name D__kind_of_application D__kind_of_if D__kind_of_part D_kind_of D__law_cell D__law_digits D__law_draw D__law_box D__law_same D__law_kind D__law_checked D__law_joined_kind D__law_kind_told D__law_loose D__law_fits D__law_new_name D__law_small D__law_given D__law_term D__law_twisted⟩
end Pk
open PySem PySem.W PySem.Calls PyProof.Rows
set_option maxHeartbeats 0
theorem PySem.Challenge.cw_playsense_k03_kinds_of_terms_holds : PySem.Challenge.rw_playsense_k03_kinds_of_terms.Holds := by
  w_on; o_law
  refine HandSHeadRun.head_any (r := OpenLaw.row PySem.Challenge.rw_playsense_k03_kinds_of_terms) (q := view (OpenLaw.row PySem.Challenge.rw_playsense_k03_kinds_of_terms).prog [30]) (H := Pk.hk) (ob := Pk.ob) (M := 4000) (loose := Pk.names) (d := HandSHeadRun.topDef (OpenLaw.row PySem.Challenge.rw_playsense_k03_kinds_of_terms).prog 30) (kwd := []) Pk.ob_eq
    (by kernel_rfl) (fun s => by kernel_rfl) Pk.run (by kernel_rfl) (by kernel_rfl) (by kernel_rfl) (by rfl) (by first | assumption | decide +kernel) (by decide +kernel) ⟨rfl, rfl, rfl, rfl, rfl, by decide +kernel⟩ ?hw ?hc
  case hw => w_witness2
  case hc =>
    refine L2.walk_ofE (l := PySem.Challenge.rw_playsense_k03_kinds_of_terms) (n := 63) (k := 71) (x := "script") (CX := L2.CX0) rfl (by decide) (by kernel_rfl) ⟨rfl, by decide, by decide⟩ ?F (fun _ _ _ _ z => z)
    intro w mg fa h Y G hmg0
    obtain ⟨K, KX, c⟩ := Y
    have hmg : mg ("law" : PySem.Str) = some (.ref fa) := by
      have e : (HandSHeadRun.topDef (OpenLaw.row PySem.Challenge.rw_playsense_k03_kinds_of_terms).prog 30).name = ("law" : PySem.Str) := by kernel_rfl
      rw [← e]
      exact hmg0
    obtain ⟨fd, hb, hF⟩ := Pk.facts (P := (PySem.Challenge.rw_playsense_k03_kinds_of_terms).prog) (w := w) KX G hmg c rfl (by first | decide +kernel | kernel_rfl)
    exact ⟨K, fd, Pk.spLaw K, KX, hb, fun H a ns hl _ hS => ⟨a, ns, rfl, hS, hl, fun _ => rfl⟩, hF⟩
