import PyProof.Rows.All
import Wide.All
import OpenK.AllK
import Wide.FinOn
import PyProof.EqAt
import PyProof.EqKinds
import PyProof.TupleCall
import HandS.ForMost
import HandS.TupAny
import HandS.TupMul
import HandS.TupLe
import HandS.IsInst
import KE.GoesMore
import KE.KRevSl
import KE.LtSeq
import KE.LtData
import KE.SortCalls
import KE.SortData
import KE.DataEq
import HandS.NoneIn
import KE.KDictLaw
import KE.KeyNested
import KE.KDictKeyed
import KE.KDictWalk
import KE.KDictList
import KE.KDictSum
import HandS.Lambda
import HandS.Flow
import KE.KSortAsk
import HandS.List
import HandS.Exc
import HandS.ExcOwn
import HandS.ExcIs
import HandS.RaiseMore
import HandS.Walk
import HandS.SetFor
import HandS.Conv
import HandS.Star
import HandS.Zip
import KE.KStateDown
import HandS.Base
import HandS.Call
import HandS.Ends
import HandS.More
import HandS.Words
import HandS.WordsExc
import HandS.Defaults
import HandS.Head0
import HandS.Head1
import HandS.Head2
import HandS.HeadEnd
import HandS.HeadHook1
import HandS.HeadHook2
import HandS.HeadHook3
import HandS.HeadHook4
import HandS.EndTab
import PySem.Challenge.RW_playsense_k81_all_programs
set_option Elab.async false
set_option linter.all false
set_option maxRecDepth 100000
set_option maxHeartbeats 4000000
/-! Rules of our own: list.extend of a tuple, xs[::-1], enumerate of a tuple, () * k. -/
namespace Pk
open PySem PySem.Spec PyProof.Rows L2

/-! ### list.extend(tuple) -/
theorem list_extend_tupW (l : Addr) (items : Array Value) (n : Nat) (b : Addr) (items2 : Array Value) (n2 : Nat) (dd : Option Addr) (sl : Array (Option Value))
    (hs0 : ¬(!items.isEmpty && Builtin.List.listTooLong (items.size + items2.size)) = true) (hs1 : items.size ≤ sizeLine) (hs2 : items.size + items2.size ≤ sizeLine + 1) :
    Meets (Builtin.«list.extend» ⟨[.ref l, .ref b], []⟩) (fun _ R s => s.heap.get? l = some { cls := .type "list", dict := none, data := .seq items n, slots := #[] } ∧ s.heap.get? b = some { cls := .type "tuple", dict := dd, data := .seq items2 n2, slots := sl } ∧
      R (.ok (.ret Value.none)) { s with heap := s.heap.update l (Obj.mapSeq fun x => x ++ items2), toks := s.toks }) :=
  .of_wp fun prog w A R s h => by
    obtain ⟨hp, g, d, tk, os⟩ := s
    obtain ⟨hl, hb, h⟩ := h
    have f1 := AutoSeq1.idx_int
    have f2 := AutoSeq1.sub_tuple_tuple
    have f3 := AutoSeq1.sub_list_list
    have f4 := AutoSeq1.sub_tuple_list
    have f5 := AutoSeq1.sub_list_tuple
    have hz' : (items ++ items2).size ≤ sizeLine + 1 := by rw [Array.size_append]; exact hs2
    wp_walk using (wpAny_updateSeq hl rfl (hz := hs1) (_hz' := hz')), AutoSeq1.wpAny_loadPart' hl, AutoSeq1.wpAny_loadPart' hb
    exact ⟨_, rfl, h⟩
def rExtendT (K : PySem.W.Frag) : V → List V → Hp → VK → Prop := fun x vs H Q => ∃ l b xs zs, x = .ref l ∧ vs = [.ref b] ∧ H l = some (.lst xs) ∧ SqT K H b zs ∧ xs.length + zs.length ≤ sizeLine ∧ Q .non (upd H l (.lst (xs ++ zs)))
section
variable {X : Cx}
theorem mt_extendT : MtM X "list.extend" (rExtendT X.K) := by
  intro pins s σ H x vs v us Q I rx rv h
  obtain ⟨l, b, xs, zs, rfl, rfl, hH, hB, hz, q⟩ := h
  cases rx
  obtain ⟨u, rfl, ru⟩ := rv.one
  cases ru
  obtain ⟨z, its, n, r, hl, e⟩ := I.lstM hH
  obtain ⟨its2, r2, ⟨⟨cls, dd, data, sl⟩, ho, hc, n2, hd⟩, hz2⟩ := I.tuple hB
  simp only at hc hd
  subst hc hd
  have hl2 := r2.length
  have hsz : its.toArray.size + its2.toArray.size ≤ sizeLine := by rw [List.size_toArray, List.size_toArray]; omega
  have hlong : ¬ (!its.toArray.isEmpty && Builtin.List.listTooLong (its.toArray.size + its2.toArray.size)) = true := by
    rw [notLongL hsz, Bool.and_false]
    exact Bool.false_ne_true
  refine call_meets F.slot_list_extend ⟨_, e, rfl⟩ F.entry_list_extend (F.args_list_extend_2 _ _)
    (list_extend_tupW l its.toArray n b its2.toArray n2 dd sl hlong (by rw [List.size_toArray]; omega) (by omega)) ⟨e, ho, ?_⟩
  refine ⟨.non, _, I.lset (its' := its ++ its2) hH e (by simp) (r.append r2) ?_, rfl, q⟩
  rw [List.length_append]
  omega

/-! ### xs[::-1] -/
def tRevL (K : PySem.W.Frag) (te : TE) : TE := fun σ H Q => te σ H fun x H1 => ∃ a xs, x = .ref a ∧ SqL K H1 a xs ∧ ∀ p, H1 p = none → Q (.ref p) (upd H1 p (.lst xs.reverse))
theorem pe_revL {e : Expr} {te : TE} {j : Nat} {p2 p3 p4 pos : Pos} (he : PE X e te) : PE X (.Subscript e (.Slice none none (some (.UnaryOp .USub (.Constant (.int 1) j p4) p3)) p2) pos) (tRevL X.K te) := by
  refine ⟨fun pins s σ H Q I h => ?_⟩
  refine Subscript_ (thn (he.run pins s σ H _ I h) fun v s1 ⟨x, H1, I1, r1, q1⟩ => ?_)
  have hst := po_some (X := X) (pe_un (pos := p3) un_neg (pe_int (i := 1) (j := j) (pos := p4)))
  refine wpAny_Slice ?_
  rw [evalPart_none]
  refine wpAny_pure ?_
  refine wpAny_pure ?_
  refine thn (hst.run pins s1 σ H1 (fun o H' => o = some (-1) ∧ H' = H1) I1 ?_) fun vs s3 ⟨o, H3, I3, ps, q3⟩ => ?_
  · exact ⟨1, rfl, -1, rfl, rfl, rfl⟩
  obtain ⟨rfl, rfl⟩ := q3
  obtain ⟨a, xs, rfl, hx, q⟩ := q1
  cases r1
  have I4 : Inv X pins σ H3 { s3 with heap := s3.heap.push { cls := .type "slice", data := .fields #[.none, .none, vs] } } := I3.kept (t' := s3.toks) fun b ob q => Heap.get?_push_of_some _ q
  obtain ⟨its, r, ht, hz⟩ := I4.list hx
  have hlen := r.length
  show wpAny (model X.prog X.w) X.A (subscriptTail e (.Slice none none (some (.UnaryOp .USub (.Constant (.int 1) j p4) p3)) p2) (.ref a) (.ref s3.heap.objs.size)) (EP X pins σ Q) X.xe { s3 with heap := s3.heap.push { cls := .type "slice", data := .fields #[.none, .none, vs] } }
  refine tail_any (ops := _) ht.isList.typeIs slot_list_getitem.lookup ?_ (by with_unfolding_all rfl)
  refine wpAny_getItem_list_slice ht.isList (Heap.IsSliceOf.new ..) .none .none ps (by decide) ?_ (by rw [List.size_toArray]; omega)
  have ep : slicePick its.toArray none none (some (-1)) = its.reverse.toArray := PySem.W.krv_pick _
  rw [ep]
  refine ⟨.ref _, _, I4.laid (t' := s3.toks) (o := .lst xs.reverse) (fun b ob q => Heap.get?_push_of_some _ q) (Nat.le_refl _) ?_, rfl, q _ (I4.hok.fresh (Nat.le_refl _))⟩
  exact ⟨by rw [List.length_reverse]; exact hz, _, 0, r.reverse, Heap.get?_push_size _ rfl⟩

/-! ### () * k -/
theorem tuple_mul0 (l : Addr) (items : Array Value) (n : Nat) (dd : Option Addr) (sl : Array (Option Value)) (x : Int) (u : Tok) (c0 : (decide (x < -(2 ^ 63)) || decide (x ≥ 2 ^ 63)) = false) (c1 : (items.isEmpty || x == 1) = true) :
    Meets (Builtin.«tuple.__mul__» ⟨[.ref l, .int x u], []⟩) (fun _ R s => s.heap.get? l = some { cls := .type "tuple", dict := dd, data := .seq items n, slots := sl } ∧ R (.ok (.ret (Value.ref l))) s) :=
  .of_wp fun prog w A R s h => by
    obtain ⟨hp, g, d, tk, os⟩ := s
    obtain ⟨hl, h⟩ := h
    have f1 := AutoSeq1.idx_int
    wp_walk using AutoSeq1.wpAny_loadPart' hl
    repeat (first
      | (refine wpAny_ite_false (decide_eq_false (by rw [c0]; exact Bool.false_ne_true)) ?_; wp_walk using AutoSeq1.wpAny_loadPart' hl)
      | (refine wpAny_ite_true (decide_eq_true (by rw [c1])) ?_; wp_walk using AutoSeq1.wpAny_loadPart' hl))
    exact ⟨_, rfl, h⟩
def rRep0 (K : PySem.W.Frag) : R2 := fun x y H Q => ∃ l k, x = .ref l ∧ y = .int k ∧ SqT K H l [] ∧ 2 ≤ k ∧ k ≤ 1000 ∧ Q (.ref l) H
theorem op_rep0 : OpR X (binaryOp .Mult) (rRep0 X.K) := by
  intro pins s σ H x y v u Q I rx ry h
  obtain ⟨l, k, rfl, rfl, hT, h1, h2, q⟩ := h
  cases rx
  obtain ⟨t, rfl⟩ := ry
  obtain ⟨its, r, ⟨⟨cls, dd, data, sl⟩, ho, hc, n, hd⟩, hs⟩ := I.tuple hT
  simp only at hc hd
  subst hc hd
  cases r
  have c0 : (decide (k < -(2 ^ 63)) || decide (k ≥ 2 ^ 63)) = false := by
    rw [decide_eq_false (by omega), decide_eq_false (by omega)] <;> rfl
  refine wpAny_binaryOp_repeat_ref (T := "tuple") (U := "int") (by decide) ⟨_, ho, rfl⟩ (fun s' => typeIs_int s' k t) noFill_tuple_mul F.fills_int_mul F.slot_int_rmul repeat_tuple F.slot_int_index.lookup
    (call_meets F.slot_int_rmul (typeIs_int s k t) F.entry_int_rmul (F.args_int_rmul_2 _ _) (int_rmul_tuple k t l _ n dd sl)
      ⟨ho, rfl, ⟨_, ho, rfl⟩, call_meets F.slot_tuple_mul ⟨_, ho, rfl⟩ F.entry_tuple_mul (F.args_tuple_mul_2 _ _) (tuple_mul0 l _ n dd sl k t c0 rfl) ⟨ho, ?_⟩⟩)
  exact ⟨.ref l, H, I, rfl, q⟩
end

/-! ### t + u of tracked tuples, one way on -/
section
variable {X : Cx}
def rCatR : R2 := fun x y H Q => ∃ a b xs ys, x = .ref a ∧ y = .ref b ∧ H a = some (.tup xs) ∧ H b = some (.tup ys) ∧ xs.length + ys.length ≤ sizeLine ∧ ∀ (c : Addr) (H' : Hp), Same H H' → H' c = some (.tup (xs ++ ys)) → Q (.ref c) H'
theorem op_catR : OpR X (binaryOp .Add) rCatR := by
  intro pins s σ H x y v u Q I rx ry h
  obtain ⟨a, b, xs, ys, rfl, rfl, ha, hb, hz, q⟩ := h
  refine op_catA pins s σ H _ _ v u Q I rx ry ⟨a, b, xs, ys, rfl, rfl, SqT.of ha, SqT.of hb, hz, fun e => ?_, fun _ e => ?_, fun _ _ p np => ?_⟩
  · subst e
    exact q b H (Same.refl H) hb
  · subst e
    exact q a H (Same.refl H) (by rw [List.append_nil]; exact ha)
  · exact q p _ (fun c o e => by rw [upd_ne (ne_of_none e np)]; exact e) upd_same
end

/-! ### t[lo:hi] of a tracked tuple, one way on -/
theorem cutV_whole {xs : List V} {lo hi : Option Int} (h : HT.sIx xs.length 0 lo = 0 ∧ HT.sIx xs.length xs.length hi = xs.length) : cutV xs lo hi = xs := by
  unfold cutV
  rw [h.1, h.2, List.drop_zero, Nat.sub_zero, List.take_length]
theorem cutV_to (xs : List V) (k : Nat) : cutV xs none (some (k : Int)) = xs.take k := by
  unfold cutV
  rw [HT.sIx_none, HT.sIx_nat, List.drop_zero, Nat.sub_zero]
  by_cases h : k ≤ xs.length
  · rw [Nat.min_eq_left h]
  · rw [Nat.min_eq_right (by omega), List.take_length, List.take_of_length_le (by omega)]
theorem cutV_from (xs : List V) (k : Nat) : cutV xs (some (k : Int)) none = xs.drop k := by
  unfold cutV
  rw [HT.sIx_none, HT.sIx_nat]
  by_cases h : k ≤ xs.length
  · rw [Nat.min_eq_left h]
    exact List.take_of_length_le (by rw [List.length_drop]; exact Nat.le_refl _)
  · rw [Nat.min_eq_right (by omega), List.drop_length, List.drop_of_length_le (by omega)]
    exact List.take_nil
section
variable {X : Cx}
def rSlR : V → Option Int → Option Int → Hp → VK → Prop := fun x lo hi H Q => ∃ a xs, x = .ref a ∧ H a = some (.tup xs) ∧ ∀ (c : Addr) (H' : Hp), Same H H' → H' c = some (.tup (cutV xs lo hi)) → Q (.ref c) H'
theorem sl_tupR : SlR X rSlR := by
  intro pins s σ H x v vl vu lo hi sl Q I rx hs pl pu h
  obtain ⟨a, xs, rfl, hx, q⟩ := h
  refine sl_tupA pins s σ H _ v vl vu lo hi sl Q I rx hs pl pu ⟨a, xs, rfl, SqT.of hx, fun z => ?_, fun _ p np => ?_⟩
  · exact q a H (Same.refl H) (by rw [cutV_whole z]; exact hx)
  · exact q p _ (fun c o e => by rw [upd_ne (ne_of_none e np)]; exact e) upd_same
end

/-! ### t * k of a tracked tuple, one way on -/
section
variable {X : Cx}
theorem rep_nil {α : Type} : ∀ k : Nat, (List.replicate k ([] : List α)).flatten = []
  | 0 => rfl
  | k + 1 => by
    rw [List.replicate_succ, List.flatten_cons, rep_nil k]
    rfl
def rRepR : R2 := fun x y H Q => ∃ l k xs, x = .ref l ∧ y = .int k ∧ H l = some (.tup xs) ∧ 2 ≤ k ∧ k ≤ 1000 ∧ xs.length ≤ 1000 ∧ ∀ (c : Addr) (H' : Hp), Same H H' → H' c = some (.tup (List.replicate k.toNat xs).flatten) → Q (.ref c) H'
theorem op_repR : OpR X (binaryOp .Mult) rRepR := by
  intro pins s σ H x y v u Q I rx ry h
  obtain ⟨l, k, xs, rfl, rfl, hx, h1, h2, hz, q⟩ := h
  by_cases e : xs = []
  · subst e
    exact op_rep0 pins s σ H _ _ v u Q I rx ry ⟨l, k, rfl, rfl, SqT.of hx, h1, h2, q l H (Same.refl H) (by rw [rep_nil]; exact hx)⟩
  · exact op_repT pins s σ H _ _ v u Q I rx ry ⟨l, k, xs, rfl, rfl, SqT.of hx, e, h1, h2, hz, fun p np => q p _ (fun c o z => by rw [upd_ne (ne_of_none z np)]; exact z) upd_same⟩
end

/-! ### xs == [] -/
section
variable {X : Cx}
def rEqNil (K : PySem.W.Frag) : R2 := fun x y H Q => ∃ a b xs, x = .ref a ∧ y = .ref b ∧ SqL K H a xs ∧ SqL K H b [] ∧ Q (.bl xs.isEmpty) H
theorem op_eqNil (hu : X.A.units + 64 < cLine) : OpR X (compareOp .Eq) (rEqNil X.K) := by
  intro pins s σ H x y v u Q I rx ry h
  obtain ⟨a, b, xs, rfl, rfl, ha, hb, q⟩ := h
  cases rx
  cases ry
  obtain ⟨its, r1, p1, _⟩ := I.list ha
  obtain ⟨its2, r2, p2, _⟩ := I.list hb
  cases r2
  have hu' : X.A.units < cLine := by omega
  cases r1 with
  | nil => exact SeqAt.eq_listAt (e := fun _ => true) p1.isList p2.isList rfl hu' (fun j h1 h2 => by simp at h1) ⟨.bl true, H, I, rfl, q⟩
  | cons r t => exact SeqAt.eq_list_lengthsAt p1.isList p2.isList rfl hu' ⟨.bl false, H, I, rfl, q⟩
end

/-! ### enumerate(tuple) -/
theorem meets_enumerate_newT (l : Addr) (items : Array Value) (n : Nat) (dct : Option Addr) (sl : Array (Option Value)) :
    Meets (Builtin.«enumerate.__new__» ⟨[.type "enumerate", .ref l], []⟩) (fun _ R s => s.heap.get? l = some { cls := .type "tuple", dict := dct, data := .seq items n, slots := sl } ∧
      R (.ok (.ret (.ref (s.heap.push { cls := .type "tuple_iterator", data := .fields #[.ref l, .int 0 0] }).objs.size)))
        { s with heap := (s.heap.push { cls := .type "tuple_iterator", data := .fields #[.ref l, .int 0 0] }).push { cls := .type "enumerate", data := .fields #[.none, .bool false, .ref s.heap.objs.size, rawInt 0, .none, .none] } }) :=
  .of_wp fun prog w A R s h => by
    obtain ⟨hp, g, d, tk, os⟩ := s; obtain ⟨hl, h⟩ := h
    have hsub := sub_enumerate
    have hL : Heap.IsTuple (Shared.heap ⟨hp, g, d, tk, os⟩) l items := ⟨_, hl, rfl, n, rfl⟩
    wp_walk using AutoSeq1.wpAny_loadPart' hl
    refine wpAny_stack_any fun st => wpAny_pure ?_
    split
    · rename_i c _ _ _ _ _
      cases (c == Value.type "enumerate")
      · wp_walk using AutoSeq1.wpAny_loadPart' hl, wpAny_pyIter_tuple hL
        exact ⟨_, rfl, h⟩
      · wp_walk using AutoSeq1.wpAny_loadPart' hl, wpAny_pyIter_tuple hL
        exact ⟨_, rfl, h⟩
    · wp_walk using AutoSeq1.wpAny_loadPart' hl, wpAny_pyIter_tuple hL
      exact ⟨_, rfl, h⟩
section
variable {prog : Program} {w : World} {A : Around} {E : Value → Shared → Prop} {s : Shared}
theorem call_enumerate_tup {l : Addr} {items : Array Value} {Q : Value → Shared → Prop} (hL : IsTup s.heap l items)
    (h : ∀ h', IsEnum h' (s.heap.objs.size + 1) s.heap.objs.size 0 .none → h'.IsTupleIter s.heap.objs.size l 0 → h'.objs.size = s.heap.objs.size + 2 →
      (∀ b o, s.heap.get? b = some o → h'.get? b = some o) → Q (.ref (s.heap.objs.size + 1)) { s with heap := h' }) :
    wpAny (model prog w) A (call (.type "enumerate") [.ref l]) Q E s := by
  obtain ⟨⟨c, dct, dt, sl⟩, hl, hc, n, hd⟩ := hL
  replace hc : c = .type "tuple" := hc
  replace hd : dt = .seq items n := hd
  subst hc hd
  refine callType_new F.called_enumerate (by decide) (F.typeCall_enumerate_1 _) (F.newCall_enumerate_1 _) (fun obj => F.args_object_init_2 obj _) F.entry_enumerate_new
    (meets_enumerate_newT l items n dct sl) ⟨hl, ?_⟩
  have hz : (s.heap.push { cls := .type "tuple_iterator", data := .fields #[.ref l, .int 0 0] }).objs.size = s.heap.objs.size + 1 := Heap.size_push ..
  show _ ∧ _
  rw [hz]
  have he : IsEnum ((s.heap.push { cls := .type "tuple_iterator", data := .fields #[.ref l, .int 0 0] }).push
      { cls := .type "enumerate", data := .fields #[.none, .bool false, .ref s.heap.objs.size, rawInt 0, .none, .none] }) (s.heap.objs.size + 1) s.heap.objs.size 0 .none := by
    have := Heap.get?_push_size (s.heap.push { cls := .type "tuple_iterator", data := .fields #[.ref l, .int 0 0] })
      (o := { cls := .type "enumerate", data := .fields #[.none, .bool false, .ref s.heap.objs.size, rawInt 0, .none, .none] }) rfl
    rw [hz] at this; exact this
  refine ⟨⟨_, he, rfl⟩, h _ he ⟨_, Heap.get?_push_of_some _ (Heap.get?_push_size _ rfl), rfl, rfl⟩ (by rw [Heap.size_push, hz]) fun b o x => Heap.get?_push_of_some _ (Heap.get?_push_of_some _ x)⟩
theorem wpAny_pyNext_enumT_end {e it l : Addr} {i : Nat} {items : Array Value} {old : Value} {Q : Option Value → Shared → Prop} (hh : A.handled = none)
    (he : IsEnum s.heap e it i old) (hit : s.heap.IsTupleIter it l i) (hl : IsTup s.heap l items) (hx : items[i]? = none)
    (hQ : ∀ h', Heap.ExtBut it s.heap h' → Q none { s with heap := h' }) : wpAny (model prog w) A (pyNext (.ref e)) Q E s := by
  have hTy : s.TypeIs (.ref e) "enumerate" := ⟨_, he, rfl⟩
  unfold pyNext
  refine wpAny_bind (wpAny_attempt (wpAny_callSpecial?_slot (name := Str.ofString "__next__") hTy F.slot_enumerate_next
    (wpAny_call_entry F.slot_enumerate_next hTy F.entry_enumerate_next ?_ (F.args_enumerate_next_1 _))))
  show wpAny _ _ (field (.ref e) 2 >>= _) _ _ _
  refine wpAny_bind (wpAny_field he rfl (x := .ref it) rfl ?_)
  refine wpAny_bind (wpAny_nextOf_tuple_end hh hit hl hx fun h' x he' hx' => ?_)
  obtain ⟨o, ho, hc⟩ := hx'
  refine wpAny_bind (wpAny_isInstance (T := "StopIteration") (b := true) ⟨o, ho, hc⟩ isSubtype_stop ?_)
  exact wpAny_pure (hQ _ he')
end
def Itet (K : PySem.W.Frag) (a : Addr) : It :=
  ⟨fun i H => ∃ (xs : List V) (x : V), SqT K H a xs ∧ xs[i]? = some x, fun i H v H' => ∃ T x, v = .ref T ∧ H T = none ∧ H' = upd H T (.tup [.int (i : Nat), x]) ∧ ∀ xs, SqT K H a xs → xs[i]? = some x, fun i H => ∃ xs : List V, SqT K H a xs ∧ xs.length ≤ i⟩
theorem turn_enumT {P : Program} {w : World} {K : PySem.W.Frag} {elts : List Expr} {kk : Nat} {tpos : Pos} (a e it : Addr) (hai : a ≠ it) :
    Turn P w K (.Tuple elts kk tpos) (Itet K a) [e, it] e (fun i h => (∃ old, IsEnum h e it ((i : Nat) : Int) old) ∧ h.IsTupleIter it a i ∧ e ≠ it ∧ e ≠ a) where
  mem := by simp
  obj := fun i h st b hb => by
    obtain ⟨⟨old, he⟩, ⟨o, ho, hc, hd⟩, _⟩ := st
    have e' : b = e ∨ b = it := by simpa using hb
    rcases e' with z | z
    · rw [z]; exact ⟨_, he, fun v q => nomatch q⟩
    · rw [z]; exact ⟨o, ho, fun v q => by rw [hd] at q; cases q⟩
  keep := fun i h h' st k => let ⟨⟨old, he⟩, hi, hne⟩ := st; ⟨⟨old, k e (by simp) _ he⟩, hi.at fun o q => k it (by simp) o q, hne⟩
  item := by
    intro X hP hw hK hc i pins s σ H E I hf st hg
    subst hP hw hK
    obtain ⟨⟨old, he⟩, hit, hne, hea⟩ := st
    obtain ⟨xs, x, hq, hx⟩ := hg
    obtain ⟨its, rv, p, hz⟩ := I.tuple hq
    obtain ⟨u, hu, ru⟩ := rv.get hx
    have hel : e < s.heap.objs.size := Heap.lt_size he
    have hil : it < s.heap.objs.size := by obtain ⟨_, q, _⟩ := hit; exact Heap.lt_size q
    have hlt : i < its.toArray.size := by
      have z1 := (List.getElem?_eq_some_iff.mp hu).1
      rw [List.size_toArray]
      exact z1
    refine wpAny_pyNext_enum_itemD (Draws.tuple (prog := X.prog) (w := X.w) (A := X.A.in1) (I.ok.hd hc) it a hai its.toArray) he ⟨hit, p⟩ hlt hne (by simp; exact ⟨hne, hea⟩) fun x' h' tk hP' ho' st' hT hsz hk => ?_
    have ex : x' = u := by
      have z1 : its.toArray[i]? = some u := by simpa using hu
      rw [z1] at hP'
      exact (Option.some.inj hP').symm
    subst ex
    refine ⟨_, rfl, wpAny_letOwnedTupleGo_enum (s := { s with heap := h', toks := tk + 1 }) ho' fun h'' he' sb => ?_⟩
    have hT2 : h''.get? s.heap.objs.size = some { cls := .type "tuple", data := .seq #[.int i tk, x'] } := (sb.2 _ (Nat.ne_of_gt hel)).trans hT
    have new : ObjOk X.prog X.w (upd H s.heap.objs.size (.tup [.int (i : Nat), x])) h'' s.heap.objs.size (.tup [.int (i : Nat), x]) :=
      ⟨by show 2 ≤ sizeLine; decide, [.int i tk, x'], .cons ⟨_, rfl⟩ (.cons ru .nil), ⟨_, hT2, rfl, _, rfl⟩⟩
    have I1 : Inv X pins σ (upd H s.heap.objs.size (.tup [.int (i : Nat), x])) { s with heap := h'', toks := tk + 1 } :=
      I.turnedNew (ch := [e, it]) (fun b ob hb q => (sb.2 b (fun z => hb (by simp [z]))).trans (hk b ob (fun z => hb (by simp [z])) (fun z => hb (by simp [z])) q)) hf (Nat.le_refl _) new
    refine ⟨.ref s.heap.objs.size, _, I1, rfl, ⟨_, x, rfl, I.hok.fresh (Nat.le_refl _), rfl, fun ys hy => by rw [I.tuple_inj hy hq]; exact hx⟩, ⟨⟨x', ?_⟩, st'.1.at fun o q => (sb.2 it (Ne.symm hne)).trans q, hne, hea⟩, fun b hb => ?_⟩
    · have e1 : ((i + 1 : Nat) : Int) = (i : Int) + 1 := by omega
      rw [e1]; exact he'
    · have hb' : b < s.heap.objs.size := by
        have e' : b = e ∨ b = it := by simpa using hb
        rcases e' with z | z
        · rw [z]; exact hel
        · rw [z]; exact hil
      rw [upd_ne (Nat.ne_of_lt hb')]
      exact (hf b hb).1
  done := by
    intro X hP hw hK hc i pins s σ H E I hf st hg
    subst hP hw hK
    obtain ⟨⟨old, he⟩, hit, hne, hea⟩ := st
    obtain ⟨xs, hq, hx⟩ := hg
    obtain ⟨its, rv, p, hz⟩ := I.tuple hq
    obtain ⟨f0, f1, f2, f3, f4, f5⟩ := hf it (by simp)
    have hl := rv.length
    exact wpAny_pyNext_enumT_end (I.ok.hd hc) he hit p (by simp; omega) fun h' eb => ⟨rfl, I.turned (t' := s.toks) (fun b o hb q => eb b o hb q) f0 f1 f3 f4 f5⟩
  self := fun A i s Q E st h => let ⟨⟨_, he⟩, _⟩ := st; wpAny_pyIter_enum he h
def iEnumT (K : PySem.W.Frag) (ta : TA) : TI := fun σ H R => ta σ H fun vs H1 => ∃ a xs, vs = [.ref a] ∧ SqT K H1 a xs ∧ R (Itet K a) H1
theorem pi_enumT {X : Cx} {e : Expr} {ta : TA} {p pos tpos : Pos} {elts : List Expr} {kk : Nat} (hg : Gl X "enumerate") (hm : X.mg "enumerate" = none) (ha : PA X [e] ta) (hs : starEach [e] X.env = [(false, eval e X.env)] := by rfl) :
    PI X (.Tuple elts kk tpos) (.Call (.Name "enumerate" p) [e] [] pos) (iEnumT X.K ta) := by
  refine ⟨fun pins s σ H R I h => ?_⟩
  refine Call_ (ld_blt I hg hm boot_enumerate (PyProof.Rows.callWith_type1 (thn (ha.run pos pins s σ H _ I h) fun us s1 ⟨vs, H1, I1, r1, q1⟩ => ?_) hs rfl))
  obtain ⟨a, xs, ex, hq, q⟩ := q1
  subst ex
  cases r1 with
  | cons r rr =>
    cases rr
    cases r
    obtain ⟨its, rv, p', hz⟩ := I1.tuple hq
    have hal : a < s1.heap.objs.size := p'.lt
    refine call_enumerate_tup p' fun h' he hit hsz hk => wpAny_pyIter_enum he ?_
    have I2 : Inv X pins σ H1 { s1 with heap := h' } := I1.kept (t' := s1.toks) hk
    refine ⟨s1.heap.objs.size + 1, [s1.heap.objs.size + 1, s1.heap.objs.size], _, _, H1, rfl, I2, turn_enumT a (s1.heap.objs.size + 1) s1.heap.objs.size (Nat.ne_of_lt hal), ⟨⟨.none, he⟩, hit, Nat.succ_ne_self _, Nat.ne_of_gt (Nat.lt_succ_of_lt hal)⟩, fun b hb => ?_, q⟩
    have e' : b = s1.heap.objs.size + 1 ∨ b = s1.heap.objs.size := by simpa using hb
    have hle : s1.heap.objs.size ≤ b := by
      rcases e' with z | z
      · rw [z]; exact Nat.le_add_right _ _
      · rw [z]; exact Nat.le_refl _
    exact I1.fpOk hle (I1.hok.fresh hle)
theorem lc_enumT {K : PySem.W.Frag} {a : Addr} {xs : List V} {g : TG} {tt : TT} {te : TE} {vs : List Nat} {σ : L2.St} {H1 : Hp} {D : Addr} {Qd : Hp → Prop} (Pv : Nat → Hp → Prop) (h0 : Pv 0 (upd H1 D (.lst []))) (hl : ∀ i H, i ≤ xs.length → Pv i H → SqT K H a xs)
    (hs : ∀ i x T H, xs[i]? = some x → Pv i H → H T = none → g (.ref T) (wipe σ vs) (upd H T (.tup [.int (i : Nat), x])) fun σ2 H2 => wipe σ2 vs = wipe σ vs ∧ tt σ2 H2 fun b H3 =>
      if b = true then te σ2 H3 fun y H4 => ∃ acc, H4 D = some (.lst acc) ∧ acc.length < sizeLine ∧ Pv (i + 1) (upd H4 D (.lst (acc ++ [y]))) else Pv (i + 1) H3) (hd : ∀ H, Pv xs.length H → Qd H) :
    ∃ W : Nat → Nat → Hp → Prop, (∃ m, W 0 m (upd H1 D (.lst []))) ∧ ∀ i m H, W i m H →
      ((Itet K a).stop i H ∧ Qd H) ∨ ((Itet K a).go i H ∧ ∃ Nx : Hp → Prop, (∀ H', Nx H' → ∃ m', m' < m ∧ W (i + 1) m' H') ∧ ∀ x H', (Itet K a).yld i H x H' → g x (wipe σ vs) H' fun σ2 H2 => wipe σ2 vs = wipe σ vs ∧ tt σ2 H2 fun b H3 =>
        if b = true then te σ2 H3 fun y H4 => ∃ acc, H4 D = some (.lst acc) ∧ acc.length < sizeLine ∧ Nx (upd H4 D (.lst (acc ++ [y]))) else Nx H3) := by
  refine ⟨fun i m H => m = xs.length - i ∧ i ≤ xs.length ∧ Pv i H, ⟨xs.length, by simp, Nat.zero_le _, h0⟩, ?_⟩
  rintro i m H ⟨rfl, hi, p⟩
  have q := hl i H hi p
  by_cases hlt : i < xs.length
  · refine .inr ⟨⟨xs, xs[i], q, by simp [hlt]⟩, Pv (i + 1), fun H' p' => ⟨xs.length - (i + 1), by omega, rfl, hlt, p'⟩, fun x H' y => ?_⟩
    obtain ⟨T, x', rfl, nT, rfl, y⟩ := y
    exact hs i x' T H (y xs q) p nT
  · have e : i = xs.length := by omega
    subst e
    exact .inl ⟨⟨xs, q, Nat.le_refl _⟩, hd H p⟩
end Pk

set_option maxRecDepth 100000
set_option maxHeartbeats 1000000
namespace Pk
open PySem PySem.Spec PyProof.Rows L2

/-! ### data: an atom, some list, a tuple of data -/
inductive D where
  | at (v : V)
  | lst
  | tup (l : List D)
def flat4 : V → Bool
  | .non => true
  | .bl _ => true
  | .int _ => true
  | .str _ => true
  | _ => false
/-- a tuple that stands: tracked, or of the written part -/
def TupAt (K : PySem.W.Frag) (H : Hp) (a : Addr) (xs : List V) : Prop :=
  H a = some (.tup xs) ∨ ∃ (o : Obj) (its : Array Value) (n : Nat), K.lookup a = some o ∧ o.cls = .type "tuple" ∧ o.data = .seq its n ∧ its.size ≤ sizeLine ∧ Vals xs its.toList
theorem TupAt.sq {K : PySem.W.Frag} {H : Hp} {a : Addr} {xs : List V} (h : TupAt K H a xs) : SqT K H a xs := by
  rcases h with h | h
  · exact .inl (.inl h)
  · exact .inr h
theorem TupAt.same {K : PySem.W.Frag} {H H' : Hp} {a : Addr} {xs : List V} (h : TupAt K H a xs) (s : Same H H') : TupAt K H' a xs := by
  rcases h with h | h
  · exact .inl (s _ _ h)
  · exact .inr h
mutual
inductive Rep (K : PySem.W.Frag) (H : Hp) : V → D → Prop where
  | at {v : V} (h : flat4 v = true) : Rep K H v (.at v)
  | lst {a : Addr} {xs : List V} (h : H a = some (.lst xs)) : Rep K H (.ref a) .lst
  | tup {a : Addr} {xs : List V} {ts : List D} (h : TupAt K H a xs) (r : Reps K H xs ts) : Rep K H (.ref a) (.tup ts)
inductive Reps (K : PySem.W.Frag) (H : Hp) : List V → List D → Prop where
  | nil : Reps K H [] []
  | cons {x : V} {t : D} {xs : List V} {ts : List D} (h : Rep K H x t) (r : Reps K H xs ts) : Reps K H (x :: xs) (t :: ts)
end
theorem Rep.tup' {K : PySem.W.Frag} {H : Hp} {a : Addr} {xs : List V} {ts : List D} (h : H a = some (.tup xs)) (r : Reps K H xs ts) : Rep K H (.ref a) (.tup ts) := .tup (.inl h) r
/-- tuples stand as they are, lists stay lists -/
structure Kx (H H' : Hp) : Prop where
  t : ∀ a xs, H a = some (.tup xs) → H' a = some (.tup xs)
  l : ∀ a xs, H a = some (.lst xs) → ∃ ys, H' a = some (.lst ys)
theorem Kx.refl (H : Hp) : Kx H H := ⟨fun _ _ h => h, fun _ xs h => ⟨xs, h⟩⟩
theorem Kx.trans {H H1 H2 : Hp} (a : Kx H H1) (b : Kx H1 H2) : Kx H H2 := ⟨fun q xs h => b.t q xs (a.t q xs h), fun q xs h => let ⟨ys, h1⟩ := a.l q xs h; b.l q ys h1⟩
theorem kx_same {H H' : Hp} (s : Same H H') : Kx H H' := ⟨fun a xs h => s _ _ h, fun a xs h => ⟨xs, s _ _ h⟩⟩
theorem same_new {H : Hp} {p : Addr} (h : H p = none) (o : HO) : Same H (upd H p o) := fun b u q => by rw [upd_ne (ne_of_none q h)]; exact q
theorem kx_new {H : Hp} {p : Addr} (h : H p = none) (o : HO) : Kx H (upd H p o) := kx_same (same_new h o)
theorem kx_list {H : Hp} {p : Addr} {xs : List V} (h : H p = some (.lst xs)) (ys : List V) : Kx H (upd H p (.lst ys)) := by
  refine ⟨fun a zs e => ?_, fun a zs e => ?_⟩
  · rw [upd_ne (ne_of e h (by intro q; cases q))]
    exact e
  · by_cases ha : a = p
    · subst ha
      exact ⟨ys, upd_same⟩
    · rw [upd_ne ha]
      exact ⟨zs, e⟩
/-- all but what stands at b is as it was -/
def SB (b : Addr) (H H' : Hp) : Prop := ∀ q o, q ≠ b → H q = some o → H' q = some o
theorem SB.refl (b : Addr) (H : Hp) : SB b H H := fun _ _ _ h => h
theorem SB.trans {b : Addr} {H H1 H2 : Hp} (x : SB b H H1) (y : SB b H1 H2) : SB b H H2 := fun q o n h => y q o n (x q o n h)
theorem sb_same {b : Addr} {H H' : Hp} (s : Same H H') : SB b H H' := fun q o _ h => s q o h
theorem sb_upd {b : Addr} {H : Hp} (o : HO) : SB b H (upd H b o) := fun q u n h => by rw [upd_ne n]; exact h
theorem sb_new {b : Addr} {H H' : Hp} (n : H b = none) (s : SB b H H') : Same H H' := fun q o h => s q o (ne_of_none h n) h
theorem sb_kx {b : Addr} {H H' : Hp} {xs ys : List V} (s : SB b H H') (h : H b = some (.lst xs)) (h' : H' b = some (.lst ys)) : Kx H H' := by
  refine ⟨fun a zs e => s _ _ (ne_of e h (by intro q; cases q)) e, fun a zs e => ?_⟩
  by_cases ha : a = b
  · subst ha
    exact ⟨ys, h'⟩
  · exact ⟨zs, s _ _ ha e⟩
theorem TupAt.kx {K : PySem.W.Frag} {H H' : Hp} {a : Addr} {xs : List V} (h : TupAt K H a xs) (k : Kx H H') : TupAt K H' a xs := by
  rcases h with h | h
  · exact .inl (k.t _ _ h)
  · exact .inr h
mutual
theorem Rep.mono {K : PySem.W.Frag} {H H' : Hp} (k : Kx H H') : ∀ {v : V} {d : D}, Rep K H v d → Rep K H' v d
  | _, _, .at h => .at h
  | _, _, .lst h => let ⟨_, h'⟩ := k.l _ _ h; .lst h'
  | _, _, .tup h r => .tup (h.kx k) (Reps.mono k r)
theorem Reps.mono {K : PySem.W.Frag} {H H' : Hp} (k : Kx H H') : ∀ {xs : List V} {ds : List D}, Reps K H xs ds → Reps K H' xs ds
  | _, _, .nil => .nil
  | _, _, .cons h r => .cons (Rep.mono k h) (Reps.mono k r)
end
section
variable {K : PySem.W.Frag} {H : Hp}
theorem Rep.inv {v : V} {ts : List D} (r : Rep K H v (.tup ts)) : ∃ a xs, v = .ref a ∧ TupAt K H a xs ∧ Reps K H xs ts := by
  cases r with
  | tup h r => exact ⟨_, _, rfl, h, r⟩
theorem Rep.inva {v w : V} (r : Rep K H v (.at w)) : v = w ∧ flat4 v = true := by
  cases r with
  | «at» h => exact ⟨rfl, h⟩
theorem Reps.length : ∀ {xs : List V} {ds : List D}, Reps K H xs ds → xs.length = ds.length
  | _, _, .nil => rfl
  | _, _, .cons _ r => congrArg Nat.succ r.length
theorem Reps.get : ∀ {xs : List V} {ds : List D} {i : Nat} {x : V}, Reps K H xs ds → xs[i]? = some x → ∃ d, ds[i]? = some d ∧ Rep K H x d
  | _, _, _, _, .nil, e => by simp at e
  | _, _, 0, _, .cons h _, e => by simp at e; subst e; exact ⟨_, rfl, h⟩
  | _, _, i + 1, x, .cons _ r, e => by
    obtain ⟨d, h1, h2⟩ := Reps.get (i := i) (x := x) r (by simpa using e)
    exact ⟨d, by simpa using h1, h2⟩
theorem Reps.getD : ∀ {xs : List V} {ds : List D} {i : Nat} {d : D}, Reps K H xs ds → ds[i]? = some d → ∃ x, xs[i]? = some x ∧ Rep K H x d := fun {xs ds i d} r e => by
  have hl := r.length
  have hi : i < ds.length := (List.getElem?_eq_some_iff.mp e).1
  obtain ⟨d', h1, h2⟩ := r.get (i := i) (x := xs[i]'(by omega)) (by first | (simp; done) | (simp; omega))
  rw [e] at h1
  cases h1
  exact ⟨_, by first | (simp; done) | (simp; omega), h2⟩
theorem Reps.append : ∀ {xs ys : List V} {ds es : List D}, Reps K H xs ds → Reps K H ys es → Reps K H (xs ++ ys) (ds ++ es)
  | _, _, _, _, .nil, s => s
  | _, _, _, _, .cons h r, s => .cons h (Reps.append r s)
theorem Reps.one {x : V} {d : D} (h : Rep K H x d) : Reps K H [x] [d] := .cons h .nil
theorem Reps.take : ∀ {xs : List V} {ds : List D} (n : Nat), Reps K H xs ds → Reps K H (xs.take n) (ds.take n)
  | _, _, 0, _ => .nil
  | _, _, _ + 1, .nil => .nil
  | _, _, n + 1, .cons h r => .cons h (Reps.take n r)
theorem Reps.drop : ∀ {xs : List V} {ds : List D} (n : Nat), Reps K H xs ds → Reps K H (xs.drop n) (ds.drop n)
  | _, _, 0, r => r
  | _, _, _ + 1, .nil => .nil
  | _, _, n + 1, .cons _ r => Reps.drop n r
theorem Reps.reverse : ∀ {xs : List V} {ds : List D}, Reps K H xs ds → Reps K H xs.reverse ds.reverse
  | _, _, .nil => .nil
  | _, _, .cons h r => by
    rw [List.reverse_cons, List.reverse_cons]
    exact Reps.append (Reps.reverse r) (.one h)
/-- the last one, and those before it -/
theorem Reps.last {xs : List V} {ds : List D} (r : Reps K H xs ds) (h : xs ≠ []) : ∃ x d es, xs[xs.length - 1]? = some x ∧ ds = es ++ [d] ∧ Rep K H x d ∧ Reps K H xs.dropLast es := by
  have hl := r.length
  have hp : 0 < xs.length := List.length_pos_iff.mpr h
  obtain ⟨d, h1, h2⟩ := r.get (i := xs.length - 1) (x := xs[xs.length - 1]'(by omega)) (by first | (simp; done) | (simp; omega))
  refine ⟨_, d, ds.dropLast, by first | (simp; done) | (simp; omega), ?_, h2, ?_⟩
  · have hd : ds ≠ [] := fun e => by
      rw [e] at hl
      simp at hl
      exact h hl
    have q : ds.getLast hd = d := by
      rw [List.getLast_eq_getElem]
      rw [hl, List.getElem?_eq_getElem (by omega)] at h1
      exact Option.some.inj h1
    rw [← q]
    exact (List.dropLast_concat_getLast hd).symm
  · rw [List.dropLast_eq_take, List.dropLast_eq_take, hl]
    exact r.take _
end
/-! ### kinds, sizes, depths -/
mutual
def isK : D → Bool
  | .tup ts => isKs ts
  | _ => false
def isKs : List D → Bool
  | [] => true
  | t :: r => isK t && isKs r
end
mutual
def sz : D → Nat
  | .tup ts => szs ts + 1
  | _ => 1
def szs : List D → Nat
  | [] => 0
  | t :: r => sz t + szs r
end
mutual
def dep : D → Nat
  | .tup ts => deps ts
  | _ => 0
def deps : List D → Nat
  | [] => 0
  | t :: r => max (dep t + 1) (deps r)
end
theorem isKs_append : ∀ (a b : List D), isKs (a ++ b) = (isKs a && isKs b)
  | [], b => by simp [isKs]
  | t :: r, b => by
    show (isK t && isKs (r ++ b)) = ((isK t && isKs r) && isKs b)
    rw [isKs_append r b, Bool.and_assoc]
theorem szs_append : ∀ (a b : List D), szs (a ++ b) = szs a + szs b
  | [], b => by simp [szs]
  | t :: r, b => by
    show sz t + szs (r ++ b) = (sz t + szs r) + szs b
    rw [szs_append r b]
    omega
theorem deps_append : ∀ (a b : List D), deps (a ++ b) = max (deps a) (deps b)
  | [], b => by simp [deps]
  | t :: r, b => by
    show max (dep t + 1) (deps (r ++ b)) = max (max (dep t + 1) (deps r)) (deps b)
    rw [deps_append r b]
    omega
theorem sz_pos : ∀ d : D, 0 < sz d
  | .tup _ => Nat.succ_pos _
  | .at _ => Nat.one_pos
  | .lst => Nat.one_pos
theorem len_szs : ∀ l : List D, l.length ≤ szs l
  | [] => Nat.le_refl _
  | t :: r => by
    have h1 := sz_pos t
    have h2 := len_szs r
    show r.length + 1 ≤ sz t + szs r
    omega
theorem sz_mem : ∀ {l : List D} {d : D}, d ∈ l → sz d ≤ szs l
  | t :: r, d, h => by
    show sz d ≤ sz t + szs r
    rcases List.mem_cons.mp h with e | h
    · rw [e]
      omega
    · have := sz_mem h
      omega
theorem dep_mem : ∀ {l : List D} {d : D}, d ∈ l → dep d + 1 ≤ deps l
  | t :: r, d, h => by
    show dep d + 1 ≤ max (dep t + 1) (deps r)
    rcases List.mem_cons.mp h with e | h
    · rw [e]
      omega
    · have := dep_mem h
      omega
theorem isK_mem : ∀ {l : List D}, isKs l = true → ∀ {d : D}, d ∈ l → isK d = true
  | t :: r, hk, d, h => by
    have hk' : (isK t && isKs r) = true := hk
    rw [Bool.and_eq_true] at hk'
    rcases List.mem_cons.mp h with e | h
    · rw [e]
      exact hk'.1
    · exact isK_mem hk'.2 h
theorem isK_inv {d : D} (h : isK d = true) : ∃ ts, d = .tup ts ∧ isKs ts = true := by
  cases d with
  | tup ts => exact ⟨ts, rfl, h⟩
  | «at» v => cases h
  | lst => cases h
theorem isKs_all : ∀ (l : List D), isKs l = l.all isK
  | [] => rfl
  | t :: r => by
    show (isK t && isKs r) = (isK t && r.all isK)
    rw [isKs_all r]
theorem dep_lt_sz : ∀ d : D, dep d < sz d := by
  have key : ∀ n : Nat, (∀ d : D, sz d ≤ n → dep d < sz d) := by
    intro n
    induction n with
    | zero => intro d h; have := sz_pos d; omega
    | succ n ih =>
      intro d h
      cases d with
      | «at» v => exact Nat.one_pos
      | lst => exact Nat.one_pos
      | tup ts =>
        show deps ts < szs ts + 1
        have h' : szs ts + 1 ≤ n + 1 := h
        have gen : ∀ l : List D, szs l ≤ n → deps l ≤ szs l := by
          intro l
          induction l with
          | nil => intro _; exact Nat.le_refl _
          | cons t r ih2 =>
            intro hl
            have hl' : sz t + szs r ≤ n := hl
            have a1 := ih t (by omega)
            have a2 := ih2 (by omega)
            show max (dep t + 1) (deps r) ≤ sz t + szs r
            omega
        have := gen ts (by omega)
        omega
  exact fun d => key (sz d) d (Nat.le_refl _)
/-! ### data as the library's == reads it -/
mutual
def toPy : D → PyData
  | .at .non => .none
  | .at (.bl b) => .bool b
  | .at (.int i) => .int i
  | .at (.str x) => .str x
  | .at _ => .none
  | .lst => .none
  | .tup ts => .tuple (toPys ts)
def toPys : List D → List PyData
  | [] => []
  | t :: r => toPy t :: toPys r
end
mutual
theorem dp_kind {K : PySem.W.Frag} {H : Hp} : ∀ {v : V} {d : D}, Rep K H v d → isK d = true → Dp K H v (toPy d)
  | _, _, .at _, k => by cases k
  | _, _, .lst _, k => by cases k
  | _, _, .tup h r, k => .tup h.sq (dp_kinds r k)
theorem dp_kinds {K : PySem.W.Frag} {H : Hp} : ∀ {xs : List V} {ds : List D}, Reps K H xs ds → isKs ds = true → DpAll K H xs (toPys ds)
  | _, _, .nil, _ => .nil
  | _, _, .cons h r, k => by
    have k' := Bool.and_eq_true_iff.mp k
    exact .cons (dp_kind h k'.1) (dp_kinds r k'.2)
end
mutual
theorem lay_kind : ∀ {d : D}, isK d = true → PyData.canLay0 (toPy d) = true
  | .at _, k => by cases k
  | .lst, k => by cases k
  | .tup ts, k => lay_kinds (l := ts) k
theorem lay_kinds : ∀ {l : List D}, isKs l = true → PyData.canLayAll0 (toPys l) = true
  | [], _ => rfl
  | t :: r, k => by
    have k' := Bool.and_eq_true_iff.mp k
    show (PyData.canLay0 (toPy t) && PyData.canLayAll0 (toPys r)) = true
    rw [lay_kind k'.1, lay_kinds k'.2]
    rfl
end
mutual
theorem depth_kind : ∀ {d : D}, isK d = true → PyData.depth (toPy d) ≤ dep d + 1
  | .at _, k => by cases k
  | .lst, k => by cases k
  | .tup ts, k => by
    have := depth_kinds (l := ts) k
    show PyData.depthAll (toPys ts) + 1 ≤ deps ts + 1
    omega
theorem depth_kinds : ∀ {l : List D}, isKs l = true → PyData.depthAll (toPys l) ≤ deps l
  | [], _ => Nat.le_refl _
  | t :: r, k => by
    have k' := Bool.and_eq_true_iff.mp k
    have h1 := depth_kind k'.1
    have h2 := depth_kinds k'.2
    show max (PyData.depth (toPy t)) (PyData.depthAll (toPys r)) ≤ max (dep t + 1) (deps r)
    omega
end
theorem shaped_kind {d : D} (k : isK d = true) (h : dep d ≤ 60) : SeqAt.shaped (toPy d) = true := by
  unfold SeqAt.shaped
  have := depth_kind k
  rw [lay_kind k, decide_eq_true (by omega)]
  rfl
/-! ### operators on tuples that stand, one way on -/
section
variable {X : Cx}
def rCatP (K : PySem.W.Frag) : R2 := fun x y H Q => ∃ a b xs ys, x = .ref a ∧ y = .ref b ∧ TupAt K H a xs ∧ TupAt K H b ys ∧ xs.length + ys.length ≤ sizeLine ∧ ∀ (c : Addr) (H' : Hp), Same H H' → TupAt K H' c (xs ++ ys) → Q (.ref c) H'
theorem op_catP : OpR X (binaryOp .Add) (rCatP X.K) := by
  intro pins s σ H x y v u Q I rx ry h
  obtain ⟨a, b, xs, ys, rfl, rfl, ha, hb, hz, q⟩ := h
  refine op_catA pins s σ H _ _ v u Q I rx ry ⟨a, b, xs, ys, rfl, rfl, ha.sq, hb.sq, hz, fun e => ?_, fun _ e => ?_, fun _ _ p np => ?_⟩
  · subst e
    exact q b H (Same.refl H) hb
  · subst e
    exact q a H (Same.refl H) (by rw [List.append_nil]; exact ha)
  · exact q p _ (fun c o e => by rw [upd_ne (ne_of_none e np)]; exact e) (.inl upd_same)
def rSlP (K : PySem.W.Frag) : V → Option Int → Option Int → Hp → VK → Prop := fun x lo hi H Q => ∃ a xs, x = .ref a ∧ TupAt K H a xs ∧ ∀ (c : Addr) (H' : Hp), Same H H' → TupAt K H' c (cutV xs lo hi) → Q (.ref c) H'
theorem sl_tupP : SlR X (rSlP X.K) := by
  intro pins s σ H x v vl vu lo hi sl Q I rx hs pl pu h
  obtain ⟨a, xs, rfl, hx, q⟩ := h
  refine sl_tupA pins s σ H _ v vl vu lo hi sl Q I rx hs pl pu ⟨a, xs, rfl, hx.sq, fun z => ?_, fun _ p np => ?_⟩
  · exact q a H (Same.refl H) (by rw [cutV_whole z]; exact hx)
  · exact q p _ (fun c o e => by rw [upd_ne (ne_of_none e np)]; exact e) (.inl upd_same)
end
end Pk

set_option maxRecDepth 100000
set_option maxHeartbeats 1000000
/-! a list of data whose items compare, place by place, as far as they are asked: sorted -/
namespace Pk
open PySem PySem.Spec PyProof.Rows L2 PySem.SeqAt

/-! ### a < b of two tuples: what stands behind the first place that differs is never asked -/
section
open AutoSeq1 (wpAny_loadPart')
open MeetsSeq MeetsSeq2 MeetsSeq3 SeqRoads2
theorem tupLt_first (p q : Addr) (us ws : Array Value) (np nq : Nat) (dp dq : Option Addr) (sp sq : Array (Option Value)) (same less : Nat → Bool) :
    Meets (Builtin.«tuple.__lt__» ⟨[.ref p, .ref q], []⟩) (fun A R s =>
      s.heap.get? p = some { cls := .type "tuple", dict := dp, data := .seq us np, slots := sp } ∧
      s.heap.get? q = some { cls := .type "tuple", dict := dq, data := .seq ws nq, slots := sq } ∧
      (∀ j (a1 : j < us.size) (a2 : j < ws.size), EqAt A.in1 s us[j] ws[j] (same j)) ∧
      (∀ j (a1 : j < us.size) (a2 : j < ws.size), (∀ m, m < j → same m = true) → same j = false → RcLt A.in1 s us[j] ws[j] (less j)) ∧
      R (.ok (.ret (.bool (firstLt same less (decide (us.size < ws.size)) (List.range (min us.size ws.size)))))) s) :=
  .of_wp fun prog w A R s all => by
    obtain ⟨h0, g0, d0, t0, o0⟩ := s
    obtain ⟨gp, gq, heq, hlt, hR⟩ := all
    have tt := AutoSeq1.sub_tuple_tuple
    have lz : (us.toList.zip ws.toList).length = min us.size ws.size := by simp
    wp_walk using wpAny_loadPart' gp, wpAny_loadPart' gq, wpAny_forIn_list _ (fun rest c s' => c.1 = none ∧ s' = ⟨h0, g0, d0, t0, o0⟩ ∧ ∃ k, rest = (us.toList.zip ws.toList).drop k ∧ (∀ m, m < k → same m = true) ∧
      R (.ok (.ret (.bool (firstLt same less (decide (us.size < ws.size)) ((List.range (min us.size ws.size)).drop k))))) ⟨h0, g0, d0, t0, o0⟩) _
    case turn =>
      rintro ⟨u, v⟩ rest c s' ⟨hc, rfl, k, hk, hs, hR'⟩
      have kz : k < (us.toList.zip ws.toList).length := by
        rcases Nat.lt_or_ge k (us.toList.zip ws.toList).length with z | z
        · exact z
        · rw [List.drop_of_length_le z] at hk
          cases hk
      have km : k < min us.size ws.size := by omega
      have k1 : k < us.size := by omega
      have k2 : k < ws.size := by omega
      rw [List.drop_eq_getElem_cons kz] at hk
      obtain ⟨huv, hrest⟩ := List.cons.inj hk
      obtain rfl : u = us[k] := by simpa using congrArg Prod.fst huv
      obtain rfl : v = ws[k] := by simpa using congrArg Prod.snd huv
      have hr : (List.range (min us.size ws.size)).drop k = k :: (List.range (min us.size ws.size)).drop (k + 1) := by
        rw [List.drop_eq_getElem_cons (by simpa using km)]
        simp
      rw [hr] at hR'
      refine wpAny_bind (heq k k1 k2 prog w _ _ ?_)
      cases sk : same k with
      | true =>
        rw [firstLt_yes sk] at hR'
        wp_walk
        refine ⟨rfl, rfl, k + 1, hrest, fun m hm => ?_, hR'⟩
        by_cases e : m = k
        · rw [e]
          exact sk
        · exact hs m (by omega)
      | false =>
        rw [firstLt_no sk] at hR'
        rw [if_pos (show (!false) = true from rfl)]
        refine wpAny_bind (wpAny_rule ?_)
        refine wpAny_bind (hlt k k1 k2 hs sk prog w _ _ ?_)
        wp_walk
        exact ⟨_, rfl, hR'⟩
    case fin =>
      rintro ⟨c1, c2⟩ s' ⟨hc, rfl, k, hk, hs, hR'⟩
      simp only at hc
      subst hc
      have kz : min us.size ws.size ≤ k := by
        rcases Nat.lt_or_ge k (us.toList.zip ws.toList).length with z | z
        · rw [List.drop_eq_getElem_cons z] at hk
          cases hk
        · omega
      rw [List.drop_of_length_le (by simpa using kz)] at hR'
      wp_walk
      exact ⟨_, rfl, by simpa [Builtin.Tuple.tupleCompareSizes, firstLt] using hR'⟩
    case h =>
      exact ⟨rfl, rfl, 0, rfl, fun m hm => absurd hm (Nat.not_lt_zero m), by simpa using hR⟩
end
theorem rcLt_first {A : Around} {s : Shared} {p q : Addr} {us ws : Array Value} {same less : Nat → Bool} (hp : s.heap.IsTuple p us) (hq : s.heap.IsTuple q ws) (hu : A.units < cLine)
    (heq : ∀ j (a1 : j < us.size) (a2 : j < ws.size), EqAt A.in1 s us[j] ws[j] (same j)) (hlt : ∀ j (a1 : j < us.size) (a2 : j < ws.size), (∀ m, m < j → same m = true) → same j = false → RcLt A.in1 s us[j] ws[j] (less j)) :
    RcLt A s (.ref p) (.ref q) (firstLt same less (decide (us.size < ws.size)) (List.range (min us.size ws.size))) := by
  intro prog w E Q hQ
  obtain ⟨⟨c1, d1, x1, l1⟩, g1, e1, n1, y1⟩ := id hp
  obtain ⟨⟨c2, d2, x2, l2⟩, g2, e2, n2, y2⟩ := id hq
  simp only at e1 y1 e2 y2
  subst e1 y1 e2 y2
  refine richCompare_meets_room (op := .Lt) ⟨_, g1, rfl⟩ ⟨_, g2, rfl⟩ F.slot_tuple_lt F.entry_tuple_lt (F.args_tuple_lt_2 _ _) (tupLt_first p q us ws n1 n2 d1 d2 l1 l2 same less) ⟨g1, g2, heq, hlt, ?_⟩ hu
  show Value.bool _ ≠ Value.notImplemented ∧ Q _ s
  exact ⟨(fun z => nomatch z), hQ⟩

/-! ### data that compare as far as they are asked -/
mutual
def cpb : PyData → PyData → Bool
  | .none, .none => true
  | .bool _, .bool _ => true
  | .int _, .int _ => true
  | .str _, .str _ => true
  | .tuple xs, .tuple ys => cpbs xs ys
  | _, _ => false
def cpbs : List PyData → List PyData → Bool
  | x :: xs, y :: ys => cpb x y && (PyData.eqv x y == false || cpbs xs ys)
  | [], _ => true
  | _ :: _, [] => true
end
mutual
def dlt : PyData → PyData → Bool
  | .bool x, .bool y => decide (b2i x < b2i y)
  | .int x, .int y => decide (x < y)
  | .str x, .str y => decide (x.cps.toList < y.cps.toList)
  | .tuple xs, .tuple ys => dlts xs ys
  | _, _ => false
def dlts : List PyData → List PyData → Bool
  | x :: xs, y :: ys => if PyData.eqv x y = true then dlts xs ys else dlt x y
  | [], [] => false
  | [], _ :: _ => true
  | _ :: _, [] => false
end
theorem cpbs_cons {x y : PyData} {xs ys : List PyData} (h : cpbs (x :: xs) (y :: ys) = true) : cpb x y = true ∧ (PyData.eqv x y = true → cpbs xs ys = true) := by
  rw [cpbs] at h
  have k := Bool.and_eq_true_iff.mp h
  refine ⟨k.1, fun e => ?_⟩
  have k2 := k.2
  rw [e] at k2
  exact k2
theorem cpb_none {x y : PyData} (h : cpb x y = true) (e : PyData.eqv x y = false) : x ≠ .none := by
  rintro rfl
  cases y with
  | none => exact absurd e (by simp [PyData.eqv])
  | _ => exact absurd h (by simp [cpb])
theorem firstLt_dlts : ∀ (xs ys : List PyData),
    firstLt (pairEq xs ys) (fun j => dlt (xs.getD j .none) (ys.getD j .none)) (decide (xs.length < ys.length)) (List.range (min xs.length ys.length)) = dlts xs ys
  | [], [] => by simp [firstLt, dlts]
  | [], y :: ys => by simp [firstLt, dlts]
  | x :: xs, [] => by simp [firstLt, dlts]
  | x :: xs, y :: ys => by
    have more := firstLt_dlts xs ys
    have lm : min (x :: xs).length (y :: ys).length = min xs.length ys.length + 1 := by
      simp only [List.length_cons]
      omega
    have ld : decide ((x :: xs).length < (y :: ys).length) = decide (xs.length < ys.length) := by
      simp only [List.length_cons]
      exact decide_eq_decide.mpr (by omega)
    rw [lm, ld, List.range_succ_eq_map, dlts]
    cases hxy : PyData.eqv x y with
    | true =>
      rw [firstLt_yes (show pairEq (x :: xs) (y :: ys) 0 = true from hxy), PySem.W.firstLt_map, if_pos rfl, ← more]
      rfl
    | false =>
      rw [firstLt_no (show pairEq (x :: xs) (y :: ys) 0 = false from hxy), if_neg Bool.false_ne_true]
      rfl
mutual
theorem rcLt_cpb : ∀ (da db : PyData) (A : Around) (s : Shared) (a b : Value) (as bs : List Addr), Reads s.heap a da as → Reads s.heap b db bs → da.plain = true → db.plain = true → cpb da db = true → da ≠ .none →
    A.units + min da.depth db.depth < cLine → RcLt A s a b (dlt da db)
  | .none, _, _, _, _, _, _, _, _, _, _, _, _, no, _ => absurd rfl no
  | .bool x, db, _, _, _, _, _, _, ra, rb, _, _, h, _, _ => by
    cases db with
    | bool y =>
      cases ra
      cases rb
      exact fun prog w E Q q => lt_bool q
    | _ => cases h
  | .int x, db, _, _, _, _, _, _, ra, rb, _, _, h, _, _ => by
    cases db with
    | int y =>
      cases ra
      cases rb
      exact fun prog w E Q q => PyProof.Rows.lt_int q
    | _ => cases h
  | .str x, db, _, _, _, _, _, _, ra, rb, _, _, h, _, _ => by
    cases db with
    | str y =>
      cases ra
      cases rb
      exact fun prog w E Q q => PyProof.Rows.lt_str q
    | _ => cases h
  | .tuple xs, db, A, s, a, b, as, bs, ra, rb, pa, pb, h, _, hu => by
    cases db with
    | tuple ys =>
      have hc : cpbs xs ys = true := h
      cases ra with
      | @tuple l o vs n _ _ e1 e2 e3 e4 =>
        cases rb with
        | @tuple l' o' vs' n' _ _ f1 f2 f3 f4 =>
          have n1 : vs.size = xs.length := by simpa using ReadsAll.length _ _ _ e4
          have n2 : vs'.size = ys.length := by simpa using ReadsAll.length _ _ _ f4
          show RcLt A s (.ref l) (.ref l') (dlts xs ys)
          rw [← firstLt_dlts xs ys, ← n1, ← n2]
          refine rcLt_first ⟨_, e1, e2, _, e3⟩ ⟨_, f1, f2, _, f3⟩ (room_here hu) (fun j j1 j2 => ?_) (fun j j1 j2 hm hj => ?_)
          · have z := eqAt_plainAll xs ys A.in1 s vs.toList vs'.toList _ _ e4 f4 pa pb (room_in hu) j (by simpa using j1) (by simpa using j2)
            simpa using z
          · have z := rcLt_cpbs xs ys A.in1 s vs.toList vs'.toList _ _ e4 f4 pa pb hc (room_in hu) j (by simpa using j1) (by simpa using j2) hm hj
            simpa using z
    | _ => cases h
  | .list _, db, _, _, _, _, _, _, _, _, _, _, h, _, _ => by cases db <;> cases h
  | .dict _, db, _, _, _, _, _, _, _, _, _, _, h, _, _ => by cases db <;> cases h
theorem rcLt_cpbs : ∀ (xs ys : List PyData) (A : Around) (s : Shared) (vs ws : List Value) (as bs : List Addr), ReadsAll s.heap vs xs as → ReadsAll s.heap ws ys bs → PyData.plainAll xs = true → PyData.plainAll ys = true → cpbs xs ys = true →
    A.units + min (PyData.depthAll xs) (PyData.depthAll ys) < cLine → ∀ j (h1 : j < vs.length) (h2 : j < ws.length), (∀ m, m < j → pairEq xs ys m = true) → pairEq xs ys j = false → RcLt A s vs[j] ws[j] (dlt (xs.getD j .none) (ys.getD j .none))
  | [], _, _, _, _, _, _, _, ra, _, _, _, _, _, j, h1, _, _, _ => by
    cases ra
    exact absurd h1 (Nat.not_lt_zero j)
  | _ :: _, [], _, _, _, _, _, _, _, rb, _, _, _, _, j, _, h2, _, _ => by
    cases rb
    exact absurd h2 (Nat.not_lt_zero j)
  | x :: xs, y :: ys, A, s, _, _, _, _, ra, rb, pa, pb, hc, hu, j, h1, h2, hm, hj => by
    have pa' : x.plain = true ∧ PyData.plainAll xs = true := by simpa [PyData.plainAll] using pa
    have pb' : y.plain = true ∧ PyData.plainAll ys = true := by simpa [PyData.plainAll] using pb
    obtain ⟨c1, c2⟩ := cpbs_cons hc
    cases ra with
    | cons r rs =>
      cases rb with
      | cons t ts =>
        cases j with
        | zero => exact rcLt_cpb x y A s _ _ _ _ r t pa'.1 pb'.1 c1 (cpb_none c1 hj) (room_head hu)
        | succ j => exact rcLt_cpbs xs ys A s _ _ _ _ rs ts pa'.2 pb'.2 (c2 (hm 0 (Nat.succ_pos j))) (room_tail hu) j (Nat.lt_of_succ_lt_succ h1) (Nat.lt_of_succ_lt_succ h2) (fun m hmj => hm (m + 1) (Nat.succ_lt_succ hmj)) hj
end
/-! ### sorting them -/
section
variable {prog : Program} {w : World} {A : Around} {E : Value → Shared → Prop} {s : Shared}
theorem kat_cpbs {fin : Bool} {Q : Bool → Shared → Prop} : ∀ (xs ys : List PyData) (i : Nat) (vs ws : List Value) (as bs : List Addr), ReadsAll s.heap vs xs as → ReadsAll s.heap ws ys bs → PyData.plainAll xs = true → PyData.plainAll ys = true → cpbs xs ys = true →
    A.units + min (PyData.depthAll xs) (PyData.depthAll ys) < cLine → fin = decide (xs.length < ys.length) → Q (dlts xs ys) s → PySem.W.KatLex prog w A false fin Q (vs.zip ws) i s
  | [], [], i, _, _, _, _, ra, rb, _, _, _, _, hf, hq => by
    cases ra
    cases rb
    rw [show fin = false from hf]
    exact PySem.W.kat_nil hq
  | [], y :: ys, i, _, _, _, _, ra, rb, _, _, _, _, hf, hq => by
    cases ra
    rw [List.zip_nil_left, show fin = true from hf.trans (decide_eq_true (Nat.succ_pos _))]
    exact PySem.W.kat_nil hq
  | x :: xs, [], i, _, _, _, _, ra, rb, _, _, _, _, hf, hq => by
    cases rb
    rw [List.zip_nil_right, show fin = false from hf.trans (decide_eq_false (Nat.not_lt_zero _))]
    exact PySem.W.kat_nil hq
  | x :: xs, y :: ys, i, _, _, _, _, ra, rb, pa, pb, hc, hu, hf, hq => by
    have pa' : x.plain = true ∧ PyData.plainAll xs = true := by simpa [PyData.plainAll] using pa
    have pb' : y.plain = true ∧ PyData.plainAll ys = true := by simpa [PyData.plainAll] using pb
    obtain ⟨c1, c2⟩ := cpbs_cons hc
    cases ra with
    | cons r rs =>
      cases rb with
      | cons t ts =>
        refine PySem.W.kat_cons (eqAt_plain x y A s _ _ _ _ r t pa'.1 pb'.1 (room_head hu) prog w _ _ ?_)
        rw [dlts] at hq
        cases e : PyData.eqv x y with
        | true =>
          rw [e, if_pos rfl] at hq
          exact PySem.W.kat_yes (kat_cpbs xs ys (i + 1) _ _ _ _ rs ts pa'.2 pb'.2 (c2 e) (room_tail hu) (hf.trans (decide_eq_decide.mpr (by simp only [List.length_cons]; omega))) hq)
        | false =>
          rw [e, if_neg Bool.false_ne_true] at hq
          refine PySem.W.kat_no ?_
          rw [Bool.false_and]
          exact PySem.W.kat_one _ _ (rcLt_cpb x y A s _ _ _ _ r t pa'.1 pb'.1 c1 (cpb_none c1 e) (room_head hu) prog w _ _ hq)
/-- items that stand as data by enc, ordered by tok -/
noncomputable def encKind {β : Type} (h : Heap) (bs : List β) (enc : β → PyData) (tok : β → List (Int ⊕ List Nat)) : PyProof.Rows.KeyKind where
  toKeyOrd := listOrd itemOrd
  keyOf v := open Classical in if q : ∃ b, b ∈ bs ∧ ∃ as, Reads h v (enc b) as then some (tok q.choose) else none
  dflt := ([] : List (Int ⊕ List Nat))
variable {β : Type} {enc : β → PyData} {tok : β → List (Int ⊕ List Nat)} {bs : List β}
theorem encKind_some {h : Heap} (pl : ∀ b ∈ bs, (enc b).plain = true) (inj : ∀ b ∈ bs, ∀ c ∈ bs, enc b = enc c → tok b = tok c) {v : Value} {b : β} {as : List Addr} (hb : b ∈ bs) (r : Reads h v (enc b) as) : (encKind h bs enc tok).keyOf v = some (tok b) := by
  have q : ∃ b, b ∈ bs ∧ ∃ as, Reads h v (enc b) as := ⟨b, hb, as, r⟩
  have e : (encKind h bs enc tok).keyOf v = some (tok q.choose) := dif_pos q
  obtain ⟨h1, as', h2⟩ := q.choose_spec
  rw [e, inj _ h1 _ hb (SeqAt.plain_unique _ _ _ _ _ (pl _ h1) h2 r)]
theorem encKind_inv {h : Heap} {v : Value} {k : List (Int ⊕ List Nat)} (e : (encKind h bs enc tok).keyOf v = some k) : ∃ b as, b ∈ bs ∧ Reads h v (enc b) as ∧ k = tok b := by
  by_cases q : ∃ b, b ∈ bs ∧ ∃ as, Reads h v (enc b) as
  · have e' : (encKind h bs enc tok).keyOf v = some (tok q.choose) := dif_pos q
    obtain ⟨h1, as', h2⟩ := q.choose_spec
    rw [e'] at e
    exact ⟨_, as', h1, h2, (Option.some.inj e).symm⟩
  · have e' : (encKind h bs enc tok).keyOf v = none := dif_neg q
    rw [e'] at e
    cases e
theorem sortsAt_enc {vs : List Value} (e : PySem.W.EachIs (fun v b => ∃ as, Reads s.heap v (enc b) as) vs bs) (pl : ∀ b ∈ bs, (enc b).plain = true) (inj : ∀ b ∈ bs, ∀ c ∈ bs, enc b = enc c → tok b = tok c)
    (tt : ∀ b ∈ bs, ∃ x r, enc b = .tuple (.tuple x :: r)) (cmp : ∀ b ∈ bs, ∀ c ∈ bs, cpb (enc b) (enc c) = true ∧ dlt (enc b) (enc c) = PyProof.Rows.lexLt itemOrd (tok b) (tok c)) (hu : ∀ b ∈ bs, A.units + (enc b).depth < cLine) :
    PySem.W.SortsAt prog w A s (encKind s.heap bs enc tok) vs := by
  refine ⟨fun v hv => ?_, tuples' false, ?_, fun h2 E Q hq => ?_⟩
  · obtain ⟨b, hb, as, r⟩ := e.left v hv
    exact ⟨_, encKind_some pl inj hb r⟩
  · intro E x y a b Q ha hb hq
    obtain ⟨d, as, hd, ra, rfl⟩ := encKind_inv ha
    obtain ⟨c, cs, hc, rb, rfl⟩ := encKind_inv hb
    obtain ⟨c1, c2⟩ := cmp d hd c hc
    have hq' : Q (dlt (enc d) (enc c)) s := by
      rw [c2]
      exact hq
    have p1 := pl d hd
    have p2 := pl c hc
    have room : A.units + min (enc d).depth (enc c).depth < cLine := Nat.lt_of_le_of_lt (Nat.add_le_add_left (Nat.min_le_left _ _) _) (hu d hd)
    obtain ⟨x1, r1, e1⟩ := tt d hd
    obtain ⟨x2, r2, e2⟩ := tt c hc
    rw [e1] at ra hq' c1 p1 room
    rw [e2] at rb hq' c1 p2 room
    cases ra with
    | @tuple l o us n _ _ g1 g2 g3 g4 =>
      cases rb with
      | @tuple l' o' us' n' _ _ k1 k2 k3 k4 =>
        have n1 : us.size = (PyData.tuple x1 :: r1).length := by simpa using ReadsAll.length _ _ _ g4
        have n2 : us'.size = (PyData.tuple x2 :: r2).length := by simpa using ReadsAll.length _ _ _ k4
        exact PySem.W.kat_lt g1 g3 k1 k3 (kat_cpbs _ _ 0 _ _ _ _ g4 k4 p1 p2 c1 (by have z := room_in room; omega) (by rw [n1, n2]) hq')
  · have e3 : PySem.W.EachIs (fun v d => ∃ as, Reads s.heap v d as) vs (bs.map enc) := PySem.W.each_map (R := fun v d => ∃ as, Reads s.heap v d as) enc e
    obtain ⟨fs, t1, t2, t3⟩ := PySem.W.each_katTups e3 (fun d hd => by
      obtain ⟨b, hb, rfl⟩ := List.mem_map.mp hd
      obtain ⟨x, r, e⟩ := tt b hb
      exact ⟨_, _, e⟩)
    refine PySem.W.kat_kind (T := .type "tuple") t1 (by omega) (fun f hf => ?_) (beq_self_eq_true _) ?_
    · obtain ⟨x, r, as, m1, m2⟩ := t3 f hf
      obtain ⟨b, hb, e1⟩ := List.mem_map.mp m1
      obtain ⟨x', r', e2⟩ := tt b hb
      rw [e2] at e1
      injection e1 with e1
      obtain ⟨rfl, _⟩ := List.cons.inj e1
      exact PySem.W.looks_reads m2
    · have z : (Value.type "tuple" != Value.type "tuple") = false := by first | decide +kernel | rfl
      rw [z]
      exact hq
end

/-! ### as a rule of the layer: sorted of a list of data -/
mutual
def noLd : D → Bool
  | .tup ts => noLds ts
  | .at _ => true
  | .lst => false
def noLds : List D → Bool
  | [] => true
  | t :: r => noLd t && noLds r
end
mutual
theorem dp_noL {K : PySem.W.Frag} {H : Hp} : ∀ {v : V} {d : D}, Rep K H v d → noLd d = true → Dp K H v (toPy d)
  | v, _, .at h, _ => by
    cases v with
    | non => exact .non
    | bl b => exact .bl b
    | int i => exact .int i
    | str x => exact .str x
    | byt _ => cases h
    | flt _ => cases h
    | ref _ => cases h
    | ty _ => cases h
  | _, _, .lst _, k => by cases k
  | _, _, .tup h r, k => .tup h.sq (dp_noLs r k)
theorem dp_noLs {K : PySem.W.Frag} {H : Hp} : ∀ {xs : List V} {ds : List D}, Reps K H xs ds → noLds ds = true → DpAll K H xs (toPys ds)
  | _, _, .nil, _ => .nil
  | _, _, .cons h r, k => by
    have k' := Bool.and_eq_true_iff.mp k
    exact .cons (dp_noL h k'.1) (dp_noLs r k'.2)
end
mutual
theorem plain_noL : ∀ d : D, noLd d = true → (toPy d).plain = true
  | .at v, _ => by cases v <;> rfl
  | .lst, k => by cases k
  | .tup ts, k => plain_noLs ts k
theorem plain_noLs : ∀ l : List D, noLds l = true → PyData.plainAll (toPys l) = true
  | [], _ => rfl
  | t :: r, k => by
    have k' := Bool.and_eq_true_iff.mp k
    show ((toPy t).plain && PyData.plainAll (toPys r)) = true
    rw [plain_noL t k'.1, plain_noLs r k'.2]
    rfl
end
mutual
theorem depth_noL : ∀ d : D, (toPy d).depth ≤ dep d + 1
  | .at v => by cases v <;> exact Nat.zero_le _
  | .lst => Nat.zero_le _
  | .tup ts => Nat.succ_le_succ (depth_noLs ts)
theorem depth_noLs : ∀ l : List D, PyData.depthAll (toPys l) ≤ deps l
  | [] => Nat.zero_le _
  | t :: r => by
    have h1 := depth_noL t
    have h2 := depth_noLs r
    show max (toPy t).depth (PyData.depthAll (toPys r)) ≤ max (dep t + 1) (deps r)
    omega
end
section
variable {β : Type} {R : Value → β → Prop}
/-- the items sorted -/
def sortE (tok : β → List (Int ⊕ List Nat)) (bs : List β) : List β := bs.mergeSort (PySem.W.sortLe (listOrd itemOrd) false tok)
theorem sortE_perm (tok : β → List (Int ⊕ List Nat)) (bs : List β) : (sortE tok bs).Perm bs := List.mergeSort_perm _ _
/-- what is to be known of an encoding -/
structure Enc (dat : β → D) (tok : β → List (Int ⊕ List Nat)) (ok : β → Prop) : Prop where
  nol : ∀ b, ok b → noLd (dat b) = true
  dep : ∀ b, ok b → dep (dat b) ≤ 30
  inj : ∀ b c, ok b → ok c → toPy (dat b) = toPy (dat c) → tok b = tok c
  tup : ∀ b, ok b → ∃ x r, dat b = .tup (.tup x :: r)
  cmp : ∀ b c, ok b → ok c → cpb (toPy (dat b)) (toPy (dat c)) = true ∧ dlt (toPy (dat b)) (toPy (dat c)) = PyProof.Rows.lexLt itemOrd (tok b) (tok c)
def rSortE (K : PySem.W.Frag) (dat : β → D) (tok : β → List (Int ⊕ List Nat)) (ok : β → Prop) : List V → Hp → VK → Prop := fun vs H Q => ∃ (a : Addr) (xs : List V) (bs : List β), vs = [V.ref a] ∧ SqL K H a xs ∧ Reps K H xs (bs.map dat) ∧ (∀ b ∈ bs, ok b) ∧
  ∀ (ys : List V) (p : Addr), Reps K H ys ((sortE tok bs).map dat) → H p = none → Q (.ref p) (upd H p (.lst ys))
theorem reps_each {X : Cx} {pins : List (Addr × Obj)} {σ : L2.St} {H : Hp} {s : Shared} (I : Inv X pins σ H s) {dat : β → D} : ∀ {xs : List V} {us : List Value} {bs : List β}, Reps X.K H xs (bs.map dat) → Vals xs us → (∀ b ∈ bs, noLd (dat b) = true) →
    PySem.W.EachIs (fun v b => (∃ as, Reads s.heap v (toPy (dat b)) as) ∧ ∃ x, RelV x v ∧ Rep X.K H x (dat b)) us bs
  | [], us, bs, r, rv, hk => by
    cases rv
    cases bs with
    | nil => exact .nil
    | cons b bs => cases r
  | x :: xs, us, bs, r, rv, hk => by
    cases bs with
    | nil => cases r
    | cons b bs =>
      cases rv with
      | cons rv0 rvs =>
        cases r with
        | cons r0 rs =>
          obtain ⟨as, z⟩ := Dp.reads I (toPy (dat b)) x _ (dp_noL r0 (hk b (List.mem_cons_self ..))) rv0
          exact .cons ⟨⟨as, z⟩, x, rv0, r0⟩ (reps_each I rs rvs fun c hc => hk c (List.mem_cons_of_mem _ hc))
theorem each_back {K : PySem.W.Frag} {H : Hp} {dat : β → D} : ∀ {us : List Value} {bs : List β}, PySem.W.EachIs (fun v b => ∃ x, RelV x v ∧ Rep K H x (dat b)) us bs → ∃ xs, Vals xs us ∧ Reps K H xs (bs.map dat)
  | _, _, .nil => ⟨[], .nil, .nil⟩
  | _, _, .cons ⟨x, h1, h2⟩ t => by
    obtain ⟨xs, r1, r2⟩ := each_back t
    exact ⟨x :: xs, .cons h1 r1, .cons h2 r2⟩
theorem cr_sortE {X : Cx} {dat : β → D} {tok : β → List (Int ⊕ List Nat)} {ok : β → Prop} (hu : X.A.units + 64 < cLine) (N : Enc dat tok ok) : CallR X (.builtin "sorted") (rSortE X.K dat tok ok) := by
  intro pins s σ H vs us Q I r h
  obtain ⟨a, xs, bs, rfl, hs, hr, hok, q⟩ := h
  obtain ⟨its, rv, hl, hz⟩ := I.list hs
  obtain ⟨u, rfl, ru⟩ := vals1 r
  obtain rfl : u = Value.ref a := ru
  have each := reps_each I hr rv fun b hb => N.nol b (hok b hb)
  have hlen : its.length ≤ sizeLine := by
    rw [← rv.length]
    exact hz
  have keep : ∀ b o, s.heap.get? b = some o → (PySem.W.sortingHeap (PySem.W.copyHeap s.heap its) (s.heap.objs.size + 1) its).get? b = some o := fun b o e => PySem.W.sorting_copy_old e
  have S : PySem.W.SortsAt X.prog X.w X.A.in1.in1 { s with heap := PySem.W.sortingHeap (PySem.W.copyHeap s.heap its) (s.heap.objs.size + 1) its } (encKind (PySem.W.sortingHeap (PySem.W.copyHeap s.heap its) (s.heap.objs.size + 1) its) bs (fun b => toPy (dat b)) tok) its := by
    refine sortsAt_enc (each.mono fun v b z => ?_) (fun b hb => plain_noL _ (N.nol b (hok b hb))) (fun b hb c hc => N.inj b c (hok b hb) (hok c hc)) (fun b hb => ?_) (fun b hb c hc => N.cmp b c (hok b hb) (hok c hc)) (fun b hb => ?_)
    · obtain ⟨⟨as, r⟩, _⟩ := z
      exact ⟨as, Reads.keeps keep r⟩
    · obtain ⟨x, r, e⟩ := N.tup b (hok b hb)
      rw [e]
      exact ⟨_, _, rfl⟩
    · have h1 := depth_noL (dat b)
      have h2 := N.dep b (hok b hb)
      show X.A.units + 1 + 1 + (toPy (dat b)).depth < cLine
      omega
  refine PySem.W.sorted_vals hl.isList S hlen ?_
  have out : PySem.W.EachIs (fun v b => ∃ x, RelV x v ∧ Rep X.K H x (dat b)) (PySem.W.sortVals (encKind (PySem.W.sortingHeap (PySem.W.copyHeap s.heap its) (s.heap.objs.size + 1) its) bs (fun b => toPy (dat b)) tok) false its its) (sortE tok bs) := by
    refine PySem.W.sortVals_each (κ := encKind (PySem.W.sortingHeap (PySem.W.copyHeap s.heap its) (s.heap.objs.size + 1) its) bs (fun b => toPy (dat b)) tok) tok (each.mono fun v b z => z.2) ?_
    refine (PySem.W.each_mem each).mono fun v b z => ?_
    obtain ⟨⟨⟨as, r⟩, _⟩, hb⟩ := z
    exact encKind_some (fun b hb => plain_noL _ (N.nol b (hok b hb))) (fun b hb c hc => N.inj b c (hok b hb) (hok c hc)) hb (Reads.keeps keep r)
  obtain ⟨ys, v1, r1⟩ := each_back out
  have hl2 := v1.length
  rw [PySem.W.sortVals_length _ rfl] at hl2
  obtain ⟨n, hn⟩ := PyProof.Rows.sortedAll_at s.heap its (PySem.W.sortVals (encKind (PySem.W.sortingHeap (PySem.W.copyHeap s.heap its) (s.heap.objs.size + 1) its) bs (fun b => toPy (dat b)) tok) false its its).toArray
  refine ⟨.ref _, _, I.laid (t' := s.toks) (o := .lst ys) (fun b o e => PyProof.Rows.sortedAll_old e) (Nat.le_succ _) ⟨?_, _, n, v1, hn⟩, rfl, q ys _ r1 (I.hok.fresh (Nat.le_succ _))⟩
  omega
end
end Pk

set_option maxRecDepth 100000
set_option maxHeartbeats 1000000
/-! a dict whose keys are None, ints and texts, by what it answers -/
namespace Pk
open PySem PySem.Spec PyProof.Rows L2
/-- a key as a value -/
def kVN : Option L2.Key → V
  | none => .non
  | some k => kV k
theorem kVN_is {P : Program} {w : World} {k : Option L2.Key} {u : Value} (r : RelV (kVN k) u) : (noneKind P w).is k u = true := by
  cases k with
  | none =>
    cases r
    rfl
  | some k => exact kV_is (P := P) (w := w) r
/-- at a: a dict of at most n pairs, g what it answers -/
def NkR (P : Program) (w : World) (a : Addr) (g : Option L2.Key → Option V) (n : Nat) (h : Heap) : Prop :=
  (a == sysModules) = false ∧ ∃ vs : List (Option L2.Key × Value), vs.length ≤ n ∧ (∀ k, RelO (g k) (valueAt vs k)) ∧ h.DictOf (noneKind P w) a vs
theorem NkR.at {P : Program} {w : World} {a : Addr} {g : Option L2.Key → Option V} {n : Nat} {h h' : Heap} (r : NkR P w a g n h) (k : ∀ o, h.get? a = some o → h'.get? a = some o) : NkR P w a g n h' := by
  obtain ⟨h1, vs, h2, h3, o, es, ep, h4, h5⟩ := r
  exact ⟨h1, vs, h2, h3, o, es, ep, k _ h4, h5⟩
def NkO (P : Program) (w : World) (a : Addr) (g : Option L2.Key → Option V) (n : Nat) : HO := .ext (NkR P w a g n)
def putN (g : Option L2.Key → Option V) (k : Option L2.Key) (v : V) : Option L2.Key → Option V := fun j => if j = k then some v else g j
theorem nk_ok {P : Program} {w : World} {H : Hp} {h : Heap} {a : Addr} {g : Option L2.Key → Option V} {n : Nat} (r : NkR P w a g n h) : ObjOk P w H h a (NkO P w a g n) := by
  have r' := r
  obtain ⟨h1, vs, h2, h3, o, es, ep, h4, h5⟩ := r
  exact ⟨r', ⟨o, h4⟩, fun x y p k => p.at k⟩
theorem nk_get {X : Cx} {pins : List (Addr × Obj)} {σ : L2.St} {H : Hp} {s : Shared} {a : Addr} {g : Option L2.Key → Option V} {n : Nat} (I : Inv X pins σ H s) (ha : H a = some (NkO X.prog X.w a g n)) : NkR X.prog X.w a g n s.heap := (I.hok a _ ha).1
section
variable {X : Cx}
/-- {None: None} -/
def tNkNew (P : Program) (w : World) : TE := fun σ H Q => ∀ p, H p = none → Q (.ref p) (upd H p (NkO P w p (putN (fun _ => none) none .non) 1))
theorem pe_nkNew {pos p1 p2 : Pos} {i j : Nat} : PE X (.Dict [some (.Constant .none i p1)] [.Constant .none j p2] pos) (tNkNew X.prog X.w) := by
  refine ⟨fun pins s σ H Q I q => ?_⟩
  have hn := I.hok.fresh (Nat.le_refl s.heap.objs.size)
  refine wpAny_Dict_walk (knd := noneKind X.prog X.w) (by rfl) rfl (by simp) (by show 1 ≤ 15; omega) ?_
  refine pairTrees_cons_walk (PyProof.Rows.Constant_none (PyProof.Rows.Constant_none (pairTrees_nil_walk ?_)))
  refine ⟨[(none, .none)], ⟨rfl, rfl, True.intro⟩, Heap.DictOf.new _, fun h' dd hs => ?_⟩
  refine ⟨.ref s.heap.objs.size, upd H s.heap.objs.size (NkO X.prog X.w s.heap.objs.size (putN (fun _ => none) none .non) 1), I.laid (fun b o e => ?_) (Nat.le_refl _) (nk_ok ⟨beq_eq_false_iff_ne.mpr (Ne.symm (Nat.ne_of_lt I.big)), _, ?_, fun k => ?_, dd⟩), rfl, q _ hn⟩
  · rw [hs.2 b (Nat.ne_of_lt (Heap.lt_size e))]
    exact Heap.get?_push_of_some _ e
  · exact Nat.le_refl 1
  · cases k with
    | none => exact rfl
    | some k => exact True.intro
/-- d[i] = v -/
def tNkPut (P : Program) (w : World) (td ty tv : TE) : TS := fun D σ H => tv σ H fun v H1 => td σ H1 fun x H2 => ty σ H2 fun y H3 => ∃ (a : Addr) (g : Option L2.Key → Option V) (n : Nat) (k : Option L2.Key), x = .ref a ∧ y = kVN k ∧ H3 a = some (NkO P w a g n) ∧ n < 1000000 ∧ D.nx σ (upd H3 a (NkO P w a (putN g k v) (n + 1)))
variable {o i value : Expr} {td ty tv : TE} {pos pos' : Pos}
theorem ps_nkPut (ho : PE X o td) (hi : PE X i ty) (hv : PE X value tv) (hs : swapsWith value (some (.Subscript o i pos')) pos.line X.env = pure false) : PS X (.Assign [.Subscript o i pos'] value pos) (tNkPut X.prog X.w td ty tv) := by
  refine ⟨fun pins s σ H D I h => ?_⟩
  refine wpAny_Assign_Subscript (thn (hv.run pins s σ H _ I h) fun r s1 ⟨v, H1, I1, rv, q1⟩ => thn (ho.run pins s1 σ H1 _ I1 q1) fun u s2 ⟨x, H2, I2, rx, q2⟩ => thn (hi.run pins s2 σ H2 _ I2 q2) fun iv s3 ⟨y, H3, I3, ry, a, g, n, k, ex, ey, ha, hn, q3⟩ => ?_) hs
  subst ex ey
  obtain rfl : u = Value.ref a := rx
  have R := nk_get I3 ha
  obtain ⟨h1, vs, h2, h3, dd⟩ := R
  have hz : vs.length ≤ sizeLine := by
    rw [sizeLine_eq]
    omega
  refine wpAny_setItem_pairs (hsz := hz) (kVN_is ry) dd fun h' dd' hs' => ?_
  have he : ∃ q, h'.get? a = some q := let ⟨q, _, _, hq, _⟩ := dd'; ⟨q, hq⟩
  refine ⟨σ, _, I3.write (e := a) (by rw [ha]; trivial) (.inl rfl) (fun b w hb z => (hs'.2 b hb).trans z) he (nk_ok ⟨h1, _, ?_, fun j => ?_, dd'⟩), q3⟩
  · have := stored_length_le vs k r
    omega
  · rw [valueAt_stored]
    unfold putN
    by_cases e : j = k
    · rw [if_pos e, if_pos e]
      exact rv
    · rw [if_neg e, if_neg e]
      exact h3 j
/-- d[i], which is there -/
def tNkGet (P : Program) (w : World) (td ty : TE) : TE := fun σ H Q => td σ H fun x H1 => ty σ H1 fun y H2 => ∃ (a : Addr) (g : Option L2.Key → Option V) (n : Nat) (k : Option L2.Key) (v : V), x = .ref a ∧ y = kVN k ∧ H2 a = some (NkO P w a g n) ∧ g k = some v ∧ Q v H2
theorem pe_nkGet (ho : PE X o td) (hi : PE X i ty) (hs : NoSl i) : PE X (.Subscript o i pos) (tNkGet X.prog X.w td ty) := by
  refine ⟨fun pins s σ H Q I h => ?_⟩
  refine subD_of PySem.F.slot_dict_getitem.lookup hs (thn (ho.run pins s σ H _ I h) fun u s1 ⟨x, H1, I1, rx, q1⟩ => thn (hi.run pins s1 σ H1 _ I1 q1) fun iv s2 ⟨y, H2, I2, ry, a, g, n, k, v, ex, ey, ha, hg, q2⟩ => ?_)
  subst ex ey
  obtain rfl : u = Value.ref a := rx
  obtain ⟨h1, vs, h2, h3, dd⟩ := nk_get I2 ha
  have z := h3 k
  rw [hg] at z
  obtain ⟨w', hw, rw'⟩ := RelO.some_of (v := v) (o := valueAt vs k) z
  exact ⟨dd.typeIs, wpAny_getItem_of (kVN_is ry) dd.mapOf hw ⟨v, H2, I2.tok _, rw', q2⟩⟩
end
end Pk

set_option maxRecDepth 100000
set_option maxHeartbeats 1000000
/-! plays as data -/
namespace Pk
open PySem PySem.Spec PyProof.Rows L2
inductive Mv where
  | ask (p : List Nat)
  | say (v : Nat)
  deriving DecidableEq
structure Stp where
  mv : Mv
  back : Option Nat
  deriving DecidableEq
def numD' (k : Nat) : D := .at (.int (k : Nat))
def plD (p : List Nat) : D := .tup (p.map numD')
def mvD : Mv → D
  | .ask p => .tup [.at (.str "ask"), plD p]
  | .say v => .tup [.at (.str "say"), numD' v]
def bkD : Option Nat → D
  | none => .at .non
  | some j => numD' j
def stD (s : Stp) : D := .tup [mvD s.mv, bkD s.back]
def playD (pl : List Stp) : D := .tup (pl.map stD)
/-! ### steps in order -/
def bkN (s : Stp) : Int := ((s.back.getD 0 : Nat) : Int)
def tokS (s : Stp) : List (Int ⊕ List Nat) := match s.mv with
  | .ask p => .inl 0 :: (p.map (fun k => Sum.inl ((k : Nat) : Int)) ++ [.inl (-1), .inl (bkN s)])
  | .say v => [.inl 1, .inl ((v : Nat) : Int), .inl (bkN s)]
def okS (s : Stp) : Prop := s.back ≠ none
theorem deps_nums : ∀ p : List Nat, deps (p.map numD') ≤ 1
  | [] => Nat.zero_le _
  | k :: r => by
    have := deps_nums r
    show max (0 + 1) (deps (r.map numD')) ≤ 1
    omega
theorem noLd_nums : ∀ p : List Nat, noLds (p.map numD') = true
  | [] => rfl
  | k :: r => noLd_nums r
theorem toPys_inj : ∀ p q : List Nat, toPys (p.map numD') = toPys (q.map numD') → p = q
  | [], [], _ => rfl
  | [], _ :: _, h => by cases h
  | _ :: _, [], h => by cases h
  | a :: p, b :: q, h => by
    injection h with h1 h2
    injection h1 with h1
    rw [toPys_inj p q h2, show a = b by omega]
theorem eqv_nums : ∀ p q : List Nat, PyData.eqvAll (toPys (p.map numD')) (toPys (q.map numD')) = decide (p = q)
  | [], [] => by simp [toPys, PyData.eqvAll]
  | [], _ :: _ => by simp [toPys, PyData.eqvAll]
  | _ :: _, [] => by simp [toPys, PyData.eqvAll]
  | a :: p, b :: q => by
    have := eqv_nums p q
    show PyData.eqvAll (.int (a : Nat) :: toPys (p.map numD')) (.int (b : Nat) :: toPys (q.map numD')) = _
    rw [PyData.eqvAll, this, PyData.eqv]
    by_cases h : a = b
    · subst h
      by_cases h2 : p = q
      · subst h2
        simp
      · rw [decide_eq_false h2, decide_eq_false (fun z => h2 (List.cons.inj z).2), Bool.and_false]
    · rw [decide_eq_false (fun z => h (List.cons.inj z).1)]
      have : ((a : Int) == (b : Int)) = false := by
        rw [beq_eq_false_iff_ne]
        omega
      rw [this, Bool.false_and]
theorem cpb_nums : ∀ p q : List Nat, cpbs (toPys (p.map numD')) (toPys (q.map numD')) = true
  | [], _ => by simp [toPys, cpbs]
  | _ :: _, [] => by simp [toPys, cpbs]
  | a :: p, b :: q => by
    have := cpb_nums p q
    show cpbs (.int (a : Nat) :: toPys (p.map numD')) (.int (b : Nat) :: toPys (q.map numD')) = true
    rw [cpbs, this, cpb, Bool.or_true]
    rfl
theorem dlt_nums (j j' : Int) : ∀ p q : List Nat, PyProof.Rows.lexLt itemOrd (p.map (fun k => Sum.inl ((k : Nat) : Int)) ++ [.inl (-1), .inl j]) (q.map (fun k => Sum.inl ((k : Nat) : Int)) ++ [.inl (-1), .inl j']) = if p = q then decide (j < j') else dlts (toPys (p.map numD')) (toPys (q.map numD'))
  | [], [] => by
    rw [if_pos rfl]
    show PyProof.Rows.lexLt itemOrd [.inl (-1), .inl j] [.inl (-1), .inl j'] = _
    rw [lex_self]
    exact PySem.W.lex_one _ _
  | [], b :: q => by
    rw [if_neg (fun z => by cases z)]
    show PyProof.Rows.lexLt itemOrd (.inl (-1) :: _) (.inl (b : Int) :: _) = dlts [] (_ :: _)
    rw [lex_diff (O := itemOrd) (by intro z; injection z with z; omega), dlts]
    exact decide_eq_true (p := (-1 : Int) < (b : Int)) (by omega)
  | a :: p, [] => by
    rw [if_neg (fun z => by cases z)]
    show PyProof.Rows.lexLt itemOrd (.inl (a : Int) :: _) (.inl (-1) :: _) = dlts (_ :: _) []
    rw [lex_diff (O := itemOrd) (by intro z; injection z with z; omega), dlts]
    exact decide_eq_false (p := (a : Int) < -1) (by omega)
  | a :: p, b :: q => by
    have ih := dlt_nums j j' p q
    show PyProof.Rows.lexLt itemOrd (.inl (a : Int) :: (p.map _ ++ _)) (.inl (b : Int) :: (q.map _ ++ _)) = if a :: p = b :: q then _ else dlts (.int (a : Nat) :: toPys (p.map numD')) (.int (b : Nat) :: toPys (q.map numD'))
    by_cases h : a = b
    · subst h
      rw [lex_self, ih, dlts, PyData.eqv, show ((a : Int) == (a : Int)) = true from beq_self_eq_true _, if_pos rfl]
      by_cases h2 : p = q
      · subst h2
        rw [if_pos rfl, if_pos rfl]
      · rw [if_neg h2, if_neg (fun z => h2 (List.cons.inj z).2)]
    · have hb : ((a : Int) == (b : Int)) = false := by
        rw [beq_eq_false_iff_ne]
        omega
      rw [lex_diff (O := itemOrd) (by intro z; injection z with z; omega), if_neg (fun z => h (List.cons.inj z).1), dlts, PyData.eqv, hb, if_neg Bool.false_ne_true, dlt]
      rfl
theorem str_askSay : PyData.eqv (.str "ask") (.str "say") = false := by decide +kernel
theorem str_sayAsk : PyData.eqv (.str "say") (.str "ask") = false := by decide +kernel
theorem lt_askSay : dlt (.str "ask") (.str "say") = true := by decide +kernel
theorem lt_sayAsk : dlt (.str "say") (.str "ask") = false := by decide +kernel
theorem str_self (x : Str) : PyData.eqv (.str x) (.str x) = true := by
  rw [PyData.eqv]
  exact beq_self_eq_true _
theorem int_eqv (i j : Int) : PyData.eqv (.int i) (.int j) = decide (i = j) := by
  rw [PyData.eqv]
  by_cases h : i = j
  · rw [h, decide_eq_true rfl]
    exact beq_self_eq_true _
  · rw [decide_eq_false h]
    exact beq_eq_false_iff_ne.mpr h
/-- two steps, their moves compared as they must -/
theorem step_cmp {A B : PyData} {j j' : Int} {e l : Bool} (he : PyData.eqv A B = e) (hc : cpb A B = true) (hl : dlt A B = l) :
    cpb (.tuple [A, .int j]) (.tuple [B, .int j']) = true ∧ dlt (.tuple [A, .int j]) (.tuple [B, .int j']) = if e = true then decide (j < j') else l := by
  constructor
  · show cpbs [A, .int j] [B, .int j'] = true
    rw [cpbs, hc, Bool.true_and, he]
    cases e with
    | false => rfl
    | true =>
      show cpbs [.int j] [.int j'] = true
      rw [cpbs, cpb, Bool.true_and]
      show (_ || cpbs [] []) = true
      rw [cpbs, Bool.or_true]
  · show dlts [A, .int j] [B, .int j'] = _
    rw [dlts, he, hl]
    cases e with
    | false => rfl
    | true =>
      rw [if_pos rfl, if_pos rfl, dlts, int_eqv]
      by_cases h : j = j'
      · rw [if_pos (decide_eq_true h), dlts, decide_eq_false (by omega)]
      · rw [if_neg (by rw [decide_eq_false h]; exact Bool.false_ne_true), dlt]
theorem encS : Enc stD tokS okS where
  nol b hb := by
    obtain ⟨m, k⟩ := b
    cases k with
    | none => exact absurd rfl hb
    | some j =>
      cases m with
      | say v => rfl
      | ask p =>
        show ((true && (noLds (p.map numD') && true)) && (true && true)) = true
        rw [noLd_nums]
        rfl
  dep b hb := by
    obtain ⟨m, k⟩ := b
    have hk : dep (bkD k) = 0 := by cases k <;> rfl
    cases m with
    | say v =>
      show max (dep (mvD (.say v)) + 1) (max (dep (bkD k) + 1) 0) ≤ 30
      rw [hk]
      show max (max (0 + 1) (max (0 + 1) 0) + 1) (max (0 + 1) 0) ≤ 30
      omega
    | ask p =>
      have := deps_nums p
      show max (max (0 + 1) (max (deps (p.map numD') + 1) 0) + 1) (max (dep (bkD k) + 1) 0) ≤ 30
      omega
  inj b c hb hc h := by
    obtain ⟨m, k⟩ := b
    obtain ⟨n, l⟩ := c
    cases k with
    | none => exact absurd rfl hb
    | some j =>
      cases l with
      | none => exact absurd rfl hc
      | some i =>
        injection h with h
        injection h with h1 h2
        injection h2 with h2 _
        injection h2 with h2
        have eji : j = i := by omega
        subst eji
        cases m with
        | say v =>
          cases n with
          | say u =>
            injection h1 with h1
            injection h1 with _ h1
            injection h1 with h1 _
            injection h1 with h1
            rw [show v = u by omega]
          | ask q =>
            injection h1 with h1
            injection h1 with _ h1
            injection h1 with h1 _
            cases h1
        | ask p =>
          cases n with
          | say u =>
            injection h1 with h1
            injection h1 with _ h1
            injection h1 with h1 _
            cases h1
          | ask q =>
            injection h1 with h1
            injection h1 with _ h1
            injection h1 with h1 _
            injection h1 with h1
            rw [toPys_inj p q h1]
  tup b hb := by
    obtain ⟨m, k⟩ := b
    cases m <;> exact ⟨_, _, rfl⟩
  cmp b c hb hc := by
    obtain ⟨m, k⟩ := b
    obtain ⟨n, l⟩ := c
    cases k with
    | none => exact absurd rfl hb
    | some j =>
    cases l with
    | none => exact absurd rfl hc
    | some i =>
    cases m with
    | say v =>
      cases n with
      | say u =>
        have h1 : PyData.eqv (toPy (mvD (.say v))) (toPy (mvD (.say u))) = decide ((v : Int) = (u : Int)) := by
          show PyData.eqvAll [.str "say", .int (v : Nat)] [.str "say", .int (u : Nat)] = _
          rw [PyData.eqvAll, str_self, PyData.eqvAll, int_eqv, PyData.eqvAll, Bool.true_and, Bool.and_true]
        have h2 : cpb (toPy (mvD (.say v))) (toPy (mvD (.say u))) = true := by
          show cpbs [.str "say", .int (v : Nat)] [.str "say", .int (u : Nat)] = true
          rw [cpbs, cpb, str_self, cpbs, cpb, cpbs, Bool.or_true]
          rfl
        have h3 : dlt (toPy (mvD (.say v))) (toPy (mvD (.say u))) = if (v : Int) = (u : Int) then false else decide ((v : Int) < (u : Int)) := by
          show dlts [.str "say", .int (v : Nat)] [.str "say", .int (u : Nat)] = _
          rw [dlts, str_self, if_pos rfl, dlts, int_eqv]
          by_cases h : (v : Int) = (u : Int)
          · rw [if_pos (decide_eq_true h), if_pos h, dlts]
          · rw [if_neg (by rw [decide_eq_false h]; exact Bool.false_ne_true), if_neg h, dlt]
        have z := step_cmp (j := (j : Int)) (j' := (i : Int)) h1 h2 h3
        refine ⟨z.1, z.2.trans ?_⟩
        show _ = PyProof.Rows.lexLt itemOrd [.inl 1, .inl (v : Int), .inl (j : Int)] [.inl 1, .inl (u : Int), .inl (i : Int)]
        rw [lex_self]
        by_cases h : (v : Int) = (u : Int)
        · rw [if_pos (decide_eq_true h), h, lex_self, PySem.W.lex_one]
          rfl
        · rw [if_neg (by rw [decide_eq_false h]; exact Bool.false_ne_true), if_neg h, lex_diff (O := itemOrd) (by intro y; injection y with y; exact h y)]
          rfl
      | ask q =>
        have h1 : PyData.eqv (toPy (mvD (.say v))) (toPy (mvD (.ask q))) = false := by
          show PyData.eqvAll [.str "say", .int (v : Nat)] [.str "ask", toPy (plD q)] = _
          rw [PyData.eqvAll, str_sayAsk, Bool.false_and]
        have h2 : cpb (toPy (mvD (.say v))) (toPy (mvD (.ask q))) = true := by
          show cpbs [.str "say", .int (v : Nat)] [.str "ask", toPy (plD q)] = true
          rw [cpbs, cpb, str_sayAsk]
          rfl
        have h3 : dlt (toPy (mvD (.say v))) (toPy (mvD (.ask q))) = false := by
          show dlts [.str "say", .int (v : Nat)] [.str "ask", toPy (plD q)] = _
          rw [dlts, str_sayAsk, if_neg Bool.false_ne_true, lt_sayAsk]
        have z := step_cmp (j := (j : Int)) (j' := (i : Int)) h1 h2 h3
        refine ⟨z.1, z.2.trans ?_⟩
        show false = PyProof.Rows.lexLt itemOrd (.inl 1 :: _) (.inl 0 :: _)
        rw [lex_diff (O := itemOrd) (by intro y; injection y with y; omega)]
        rfl
    | ask p =>
      cases n with
      | say u =>
        have h1 : PyData.eqv (toPy (mvD (.ask p))) (toPy (mvD (.say u))) = false := by
          show PyData.eqvAll [.str "ask", toPy (plD p)] [.str "say", .int (u : Nat)] = _
          rw [PyData.eqvAll, str_askSay, Bool.false_and]
        have h2 : cpb (toPy (mvD (.ask p))) (toPy (mvD (.say u))) = true := by
          show cpbs [.str "ask", toPy (plD p)] [.str "say", .int (u : Nat)] = true
          rw [cpbs, cpb, str_askSay]
          rfl
        have h3 : dlt (toPy (mvD (.ask p))) (toPy (mvD (.say u))) = true := by
          show dlts [.str "ask", toPy (plD p)] [.str "say", .int (u : Nat)] = _
          rw [dlts, str_askSay, if_neg Bool.false_ne_true, lt_askSay]
        have z := step_cmp (j := (j : Int)) (j' := (i : Int)) h1 h2 h3
        refine ⟨z.1, z.2.trans ?_⟩
        show true = PyProof.Rows.lexLt itemOrd (.inl 0 :: _) (.inl 1 :: _)
        rw [lex_diff (O := itemOrd) (by intro y; injection y with y; omega)]
        rfl
      | ask q =>
        have h1 : PyData.eqv (toPy (mvD (.ask p))) (toPy (mvD (.ask q))) = decide (p = q) := by
          show PyData.eqvAll [.str "ask", toPy (plD p)] [.str "ask", toPy (plD q)] = _
          rw [PyData.eqvAll, str_self, PyData.eqvAll, PyData.eqvAll, Bool.true_and, Bool.and_true]
          exact eqv_nums p q
        have h2 : cpb (toPy (mvD (.ask p))) (toPy (mvD (.ask q))) = true := by
          show cpbs [.str "ask", toPy (plD p)] [.str "ask", toPy (plD q)] = true
          rw [cpbs, cpb, str_self, cpbs, cpbs, Bool.or_true, show cpb (toPy (plD p)) (toPy (plD q)) = true from cpb_nums p q]
          rfl
        have h3 : dlt (toPy (mvD (.ask p))) (toPy (mvD (.ask q))) = if p = q then false else dlts (toPys (p.map numD')) (toPys (q.map numD')) := by
          show dlts [.str "ask", toPy (plD p)] [.str "ask", toPy (plD q)] = _
          rw [dlts, str_self, if_pos rfl, dlts, show PyData.eqv (toPy (plD p)) (toPy (plD q)) = decide (p = q) from eqv_nums p q]
          by_cases h : p = q
          · rw [if_pos (decide_eq_true h), if_pos h, dlts]
          · rw [if_neg (by rw [decide_eq_false h]; exact Bool.false_ne_true), if_neg h]
            rfl
        have z := step_cmp (j := (j : Int)) (j' := (i : Int)) h1 h2 h3
        refine ⟨z.1, z.2.trans ?_⟩
        show _ = PyProof.Rows.lexLt itemOrd (.inl 0 :: _) (.inl 0 :: _)
        rw [lex_self]
        refine Eq.trans ?_ (dlt_nums (j : Int) (i : Int) p q).symm
        by_cases h : p = q
        · rw [if_pos (decide_eq_true h), if_pos h]
        · rw [if_neg (by rw [decide_eq_false h]; exact Bool.false_ne_true), if_neg h, if_neg h]
end Pk

set_option maxRecDepth 100000
set_option maxHeartbeats 1000000
/-! open asks, sights, and what stands alone -/
namespace Pk
open PySem PySem.Spec PyProof.Rows L2
/-! ### asks that are open -/
def opnS (rows : List Nat) (n : Nat) (s : Stp) : List Nat := match s.mv with
  | .ask _ => rows ++ [n]
  | .say _ => rows.filter fun j => decide (some j ≠ s.back)
def opens (pl : List Stp) : Nat → List Nat
  | 0 => []
  | m + 1 => match pl[m]? with
    | some s => opnS (opens pl m) m s
    | none => opens pl m
theorem opens_succ {pl : List Stp} {m : Nat} {s : Stp} (h : pl[m]? = some s) : opens pl (m + 1) = opnS (opens pl m) m s := by
  show (match pl[m]? with | some s => opnS (opens pl m) m s | none => opens pl m) = _
  rw [h]
theorem opens_lt (pl : List Stp) : ∀ m, ∀ j ∈ opens pl m, j < m
  | 0, j, h => by cases h
  | m + 1, j, h => by
    have ih := opens_lt pl m
    cases hs : pl[m]? with
    | none =>
      have e : opens pl (m + 1) = opens pl m := by
        show (match pl[m]? with | some s => opnS (opens pl m) m s | none => opens pl m) = _
        rw [hs]
      rw [e] at h
      have := ih j h
      omega
    | some s =>
      rw [opens_succ hs] at h
      unfold opnS at h
      split at h
      · rcases List.mem_append.mp h with h | h
        · have := ih j h
          omega
        · rw [List.mem_singleton.mp h]
          omega
      · have := ih j (List.mem_filter.mp h).1
        omega
theorem opens_up (pl : List Stp) : ∀ m, (opens pl m).Pairwise (· < ·)
  | 0 => List.Pairwise.nil
  | m + 1 => by
    have ih := opens_up pl m
    cases hs : pl[m]? with
    | none =>
      have e : opens pl (m + 1) = opens pl m := by
        show (match pl[m]? with | some s => opnS (opens pl m) m s | none => opens pl m) = _
        rw [hs]
      rw [e]
      exact ih
    | some s =>
      rw [opens_succ hs]
      unfold opnS
      split
      · refine List.pairwise_append.mpr ⟨ih, List.pairwise_singleton _ _, fun a ha b hb => ?_⟩
        rw [List.mem_singleton.mp hb]
        exact opens_lt pl m a ha
      · exact ih.filter _
theorem opens_take (pl : List Stp) (k : Nat) : ∀ m, m ≤ k → opens (pl.take k) m = opens pl m
  | 0, _ => rfl
  | m + 1, h => by
    show (match (pl.take k)[m]? with | some s => opnS (opens (pl.take k) m) m s | none => opens (pl.take k) m) = (match pl[m]? with | some s => opnS (opens pl m) m s | none => opens pl m)
    rw [List.getElem?_take_of_lt (by omega), opens_take pl k m (by omega)]
theorem opens_ask (pl : List Stp) : ∀ m, ∀ j ∈ opens pl m, ∃ p b, pl[j]? = some ⟨.ask p, b⟩
  | 0, j, h => by cases h
  | m + 1, j, h => by
    have ih := opens_ask pl m
    cases hs : pl[m]? with
    | none =>
      have e : opens pl (m + 1) = opens pl m := by
        show (match pl[m]? with | some s => opnS (opens pl m) m s | none => opens pl m) = _
        rw [hs]
      rw [e] at h
      exact ih j h
    | some s =>
      rw [opens_succ hs] at h
      obtain ⟨mv, b⟩ := s
      cases mv with
      | ask p =>
        rcases List.mem_append.mp h with h | h
        · exact ih j h
        · rw [List.mem_singleton.mp h]
          exact ⟨p, b, hs⟩
      | say v => exact ih j (List.mem_filter.mp h).1
/-! ### sights -/
def bk (pl : List Stp) (n : Nat) : Nat := (((pl[n]?).bind Stp.back).getD 0)
def sgt (pl : List Stp) : Nat → Nat → List Nat
  | 0, _ => []
  | f + 1, n => if n = 0 then [0] else if bk pl n = 0 then [0, n] else sgt pl f (bk pl n - 1) ++ [bk pl n, n]
/-- backs go back -/
structure WB (pl : List Stp) : Prop where
  first : ∀ s, pl[0]? = some s → s = ⟨.ask [], none⟩
  later : ∀ n s, 0 < n → pl[n]? = some s → ∃ j, s.back = some j ∧ j < n
theorem WB.bk_lt {pl : List Stp} (h : WB pl) {n : Nat} (h0 : 0 < n) (hn : n < pl.length) : bk pl n < n := by
  obtain ⟨j, e, hj⟩ := h.later n _ h0 (List.getElem?_eq_getElem hn)
  unfold bk
  rw [List.getElem?_eq_getElem hn]
  show (pl[n].back).getD 0 < n
  rw [e]
  exact hj
theorem sgt_fuel {pl : List Stp} (h : WB pl) : ∀ (n f g : Nat), n < pl.length → n < f → n < g → sgt pl f n = sgt pl g n := by
  intro n
  induction n using Nat.strongRecOn with
  | ind n ih =>
    intro f g hn hf hg
    cases f with
    | zero => omega
    | succ f =>
      cases g with
      | zero => omega
      | succ g =>
        unfold sgt
        by_cases h0 : n = 0
        · rw [if_pos h0, if_pos h0]
        · rw [if_neg h0, if_neg h0]
          by_cases h1 : bk pl n = 0
          · rw [if_pos h1, if_pos h1]
          · have hb := h.bk_lt (Nat.pos_of_ne_zero h0) hn
            rw [if_neg h1, if_neg h1, ih (bk pl n - 1) (by omega) f g (by omega) (by omega) (by omega)]
def sight (pl : List Stp) (n : Nat) : List Nat := sgt pl (n + 1) n
theorem sight_zero (pl : List Stp) : sight pl 0 = [0] := rfl
theorem sight_one {pl : List Stp} {n : Nat} (h0 : 0 < n) (hb : bk pl n = 0) : sight pl n = [0, n] := by
  unfold sight sgt
  rw [if_neg (by omega), if_pos hb]
theorem sight_more {pl : List Stp} (h : WB pl) {n : Nat} (h0 : 0 < n) (hn : n < pl.length) (hb : bk pl n ≠ 0) : sight pl n = sight pl (bk pl n - 1) ++ [bk pl n, n] := by
  have hl := h.bk_lt h0 hn
  have e : sight pl n = sgt pl n (bk pl n - 1) ++ [bk pl n, n] := by
    show (if n = 0 then [0] else if bk pl n = 0 then [0, n] else sgt pl n (bk pl n - 1) ++ [bk pl n, n]) = _
    rw [if_neg (by omega), if_neg hb]
  rw [e, sgt_fuel h (bk pl n - 1) n (bk pl n - 1 + 1) (by omega) (by omega) (by omega)]
  rfl
theorem bk_take (pl : List Stp) {k n : Nat} (h : n < k) : bk (pl.take k) n = bk pl n := by
  unfold bk
  rw [List.getElem?_take_of_lt h]
theorem WB.take {pl : List Stp} (h : WB pl) (k : Nat) : WB (pl.take k) :=
  ⟨fun s e => h.first s (by
    have hk : 0 < k := by
      cases k with
      | zero =>
        rw [List.take_zero] at e
        cases e
      | succ k => omega
    rw [List.getElem?_take_of_lt hk] at e
    exact e), fun n s h0 e => h.later n s h0 (by
    by_cases hk : n < k
    · rw [List.getElem?_take_of_lt hk] at e
      exact e
    · rw [List.getElem?_eq_none (by rw [List.length_take]; omega)] at e
      cases e)⟩
theorem sgt_take {pl : List Stp} (h : WB pl) (k : Nat) : ∀ (f n : Nat), n < k → n < pl.length → sgt (pl.take k) f n = sgt pl f n
  | 0, _, _, _ => rfl
  | f + 1, n, hk, hn => by
    unfold sgt
    rw [bk_take pl hk]
    by_cases h0 : n = 0
    · rw [if_pos h0, if_pos h0]
    · rw [if_neg h0, if_neg h0]
      have hb := h.bk_lt (Nat.pos_of_ne_zero h0) hn
      by_cases h1 : bk pl n = 0
      · rw [if_pos h1, if_pos h1]
      · rw [if_neg h1, if_neg h1, sgt_take h k f (bk pl n - 1) (by omega) (by omega)]
theorem sight_take {pl : List Stp} (h : WB pl) {k n : Nat} (hk : n < k) (hn : n < pl.length) : sight (pl.take k) n = sight pl n := sgt_take h k (n + 1) n hk hn
theorem sight_up {pl : List Stp} (h : WB pl) : ∀ n, n < pl.length → (sight pl n).Pairwise (· < ·) ∧ ∀ j ∈ sight pl n, j ≤ n := by
  intro n
  induction n using Nat.strongRecOn with
  | ind n ih =>
    intro hn
    by_cases h0 : n = 0
    · subst h0
      rw [sight_zero]
      exact ⟨List.pairwise_singleton _ _, fun j hj => by rw [List.mem_singleton.mp hj]; exact Nat.le_refl 0⟩
    · have hp := Nat.pos_of_ne_zero h0
      have hb := h.bk_lt hp hn
      by_cases h1 : bk pl n = 0
      · rw [sight_one hp h1]
        refine ⟨List.pairwise_cons.mpr ⟨fun a ha => by rw [List.mem_singleton.mp ha]; exact hp, List.pairwise_singleton _ _⟩, fun j hj => ?_⟩
        simp only [List.mem_cons, List.not_mem_nil, or_false] at hj
        omega
      · obtain ⟨i1, i2⟩ := ih (bk pl n - 1) (by omega) (by omega)
        rw [sight_more h hp hn h1]
        refine ⟨List.pairwise_append.mpr ⟨i1, List.pairwise_cons.mpr ⟨fun a ha => by rw [List.mem_singleton.mp ha]; exact hb, List.pairwise_singleton _ _⟩, fun a ha b hb' => ?_⟩, fun j hj => ?_⟩
        · have := i2 a ha
          simp only [List.mem_cons, List.not_mem_nil, or_false] at hb'
          omega
        · rcases List.mem_append.mp hj with hj | hj
          · have := i2 j hj
            omega
          · simp only [List.mem_cons, List.not_mem_nil, or_false] at hj
            omega
theorem sight_len {pl : List Stp} (h : WB pl) (n : Nat) (hn : n < pl.length) : (sight pl n).length ≤ n + 1 := by
  induction n using Nat.strongRecOn with
  | ind n ih =>
    by_cases h0 : n = 0
    · subst h0
      exact Nat.le_refl 1
    · have hp := Nat.pos_of_ne_zero h0
      have hb := h.bk_lt hp hn
      by_cases h1 : bk pl n = 0
      · rw [sight_one hp h1]
        show 2 ≤ n + 1
        omega
      · have := ih (bk pl n - 1) (by omega) (by omega)
        rw [sight_more h hp hn h1, List.length_append]
        show _ + 2 ≤ n + 1
        omega
/-- each back is in sight -/
def WS (pl : List Stp) : Prop := ∀ n, 0 < n → n < pl.length → bk pl n ∈ sight pl (n - 1)
/-- closed under backs -/
def Cl (pl : List Stp) (ns : List Nat) : Prop := ∀ n ∈ ns, n < pl.length ∧ (n = 0 ∨ bk pl n ∈ ns)
theorem sight_cl {pl : List Stp} (h : WB pl) (w : WS pl) : ∀ n, n < pl.length → Cl pl (sight pl n) := by
  intro n
  induction n using Nat.strongRecOn with
  | ind n ih =>
    intro hn
    by_cases h0 : n = 0
    · subst h0
      intro m hm
      rw [List.mem_singleton.mp hm]
      exact ⟨hn, .inl rfl⟩
    · have hp := Nat.pos_of_ne_zero h0
      have hb := h.bk_lt hp hn
      by_cases h1 : bk pl n = 0
      · rw [sight_one hp h1]
        intro m hm
        simp only [List.mem_cons, List.not_mem_nil, or_false] at hm
        rcases hm with rfl | rfl
        · exact ⟨by omega, .inl rfl⟩
        · exact ⟨hn, .inr (by rw [h1]; exact List.mem_cons_self ..)⟩
      · have i := ih (bk pl n - 1) (by omega) (by omega)
        rw [sight_more h hp hn h1]
        intro m hm
        rcases List.mem_append.mp hm with hm | hm
        · obtain ⟨i1, i2⟩ := i m hm
          exact ⟨i1, i2.imp id (List.mem_append_left _)⟩
        · simp only [List.mem_cons, List.not_mem_nil, or_false] at hm
          rcases hm with rfl | rfl
          · exact ⟨by omega, .inr (List.mem_append_left _ (w _ (Nat.pos_of_ne_zero h1) (by omega)))⟩
          · exact ⟨hn, .inr (List.mem_append_right _ (List.mem_cons_self ..))⟩
/-! ### alone -/
def apS (pl : List Stp) (ns : List Nat) (n : Nat) : Stp := ⟨((pl[n]?).map Stp.mv).getD (.say 0), ((pl[n]?).bind Stp.back).map fun j => ns.idxOf j⟩
def apart (pl : List Stp) (ns : List Nat) : List Stp := ns.map (apS pl ns)
end Pk

set_option maxRecDepth 100000
set_option maxHeartbeats 1000000
/-! one list of signs for each datum, so that sorting data is sorting these lists -/
namespace Pk
open PySem PySem.Spec PyProof.Rows L2
open PySem.SeqAt
abbrev LX := PyProof.Rows.lexLt itemOrd
mutual
def tkD : D → List (Int ⊕ List Nat)
  | .at (.bl b) => [.inl (b2i b)]
  | .at (.int i) => [.inl i]
  | .at (.str x) => [.inr x.cps.toList]
  | .at _ => []
  | .lst => []
  | .tup ts => tkDs ts
def tkDs : List D → List (Int ⊕ List Nat)
  | [] => [.inl 0]
  | t :: r => .inl 1 :: (tkD t ++ tkDs r)
end
theorem str_ext {x y : Str} (h : x.cps.toList = y.cps.toList) : x = y := by
  cases x
  cases y
  exact congrArg _ (Array.toList_inj.mp h)
theorem int_eqv' (i j : Int) : PyData.eqv (.int i) (.int j) = decide (i = j) := by
  rw [PyData.eqv]
  by_cases h : i = j
  · rw [h, decide_eq_true rfl]
    exact beq_self_eq_true _
  · rw [decide_eq_false h]
    exact beq_eq_false_iff_ne.mpr h
theorem b2i_inj {a b : Bool} (h : b2i a = b2i b) : a = b := by
  cases a <;> cases b <;> first | rfl | exact absurd h (by decide)
mutual
theorem tk_lex : ∀ (d e : D), noLd d = true → noLd e = true → cpb (toPy d) (toPy e) = true → ∀ x y, LX (tkD d ++ x) (tkD e ++ y) = if PyData.eqv (toPy d) (toPy e) = true then LX x y else dlt (toPy d) (toPy e)
  | .lst, _, h, _, _, _, _ => by cases h
  | .at v, .lst, _, h, _, _, _ => by cases h
  | .at v, .at u, _, _, h, x, y => by
    cases v with
    | bl a =>
      cases u with
      | bl b =>
        show LX (.inl (b2i a) :: x) (.inl (b2i b) :: y) = if PyData.eqv (.bool a) (.bool b) = true then LX x y else decide (b2i a < b2i b)
        by_cases e : a = b
        · subst e
          rw [if_pos (by cases a <;> simp [PyData.eqv])]
          exact lex_self _ _ _
        · rw [if_neg (by intro z; apply e; cases a <;> cases b <;> simp_all [PyData.eqv])]
          exact lex_diff (O := itemOrd) (by intro z; injection z with z; exact e (b2i_inj z))
      | _ => cases h
    | int i =>
      cases u with
      | int j =>
        show LX (.inl i :: x) (.inl j :: y) = if PyData.eqv (.int i) (.int j) = true then LX x y else decide (i < j)
        rw [int_eqv']
        by_cases e : i = j
        · subst e
          rw [decide_eq_true rfl, if_pos rfl]
          exact lex_self _ _ _
        · rw [decide_eq_false e, if_neg Bool.false_ne_true]
          exact lex_diff (O := itemOrd) (by intro z; injection z with z; exact e z)
      | _ => cases h
    | str a =>
      cases u with
      | str b =>
        show LX (.inr a.cps.toList :: x) (.inr b.cps.toList :: y) = if PyData.eqv (.str a) (.str b) = true then LX x y else decide (a.cps.toList < b.cps.toList)
        by_cases e : a = b
        · subst e
          rw [if_pos (by simp [PyData.eqv])]
          exact lex_self _ _ _
        · rw [if_neg (by intro z; exact e (by simpa [PyData.eqv] using z))]
          refine (lex_diff (O := itemOrd) (by intro z; injection z with z; exact e (str_ext z))).trans ?_
          rfl
      | _ => cases h
    | non =>
      cases u with
      | bl _ => cases h
      | int _ => cases h
      | str _ => cases h
      | _ =>
        show LX x y = if PyData.eqv .none .none = true then LX x y else _
        rw [if_pos (by simp [PyData.eqv])]
    | byt _ =>
      cases u with
      | bl _ => cases h
      | int _ => cases h
      | str _ => cases h
      | _ =>
        show LX x y = if PyData.eqv .none .none = true then LX x y else _
        rw [if_pos (by simp [PyData.eqv])]
    | flt _ =>
      cases u with
      | bl _ => cases h
      | int _ => cases h
      | str _ => cases h
      | _ =>
        show LX x y = if PyData.eqv .none .none = true then LX x y else _
        rw [if_pos (by simp [PyData.eqv])]
    | ref _ =>
      cases u with
      | bl _ => cases h
      | int _ => cases h
      | str _ => cases h
      | _ =>
        show LX x y = if PyData.eqv .none .none = true then LX x y else _
        rw [if_pos (by simp [PyData.eqv])]
    | ty _ =>
      cases u with
      | bl _ => cases h
      | int _ => cases h
      | str _ => cases h
      | _ =>
        show LX x y = if PyData.eqv .none .none = true then LX x y else _
        rw [if_pos (by simp [PyData.eqv])]
  | .at v, .tup _, _, _, h, _, _ => by cases v <;> cases h
  | .tup _, .at v, _, _, h, _, _ => by cases v <;> cases h
  | .tup _, .lst, _, h, _, _, _ => by cases h
  | .tup ts, .tup us, h1, h2, h, x, y => by
    show LX (tkDs ts ++ x) (tkDs us ++ y) = if PyData.eqvAll (toPys ts) (toPys us) = true then LX x y else dlts (toPys ts) (toPys us)
    exact tk_lexs ts us h1 h2 h x y
theorem tk_lexs : ∀ (d e : List D), noLds d = true → noLds e = true → cpbs (toPys d) (toPys e) = true → ∀ x y, LX (tkDs d ++ x) (tkDs e ++ y) = if PyData.eqvAll (toPys d) (toPys e) = true then LX x y else dlts (toPys d) (toPys e)
  | [], [], _, _, _, x, y => by
    show LX (.inl 0 :: x) (.inl 0 :: y) = _
    rw [show PyData.eqvAll (toPys []) (toPys []) = true by simp [toPys, PyData.eqvAll], if_pos rfl]
    exact lex_self _ _ _
  | [], b :: bs, _, _, _, x, y => by
    show LX (.inl 0 :: x) (.inl 1 :: ((tkD b ++ tkDs bs) ++ y)) = _
    rw [show PyData.eqvAll (toPys []) (toPys (b :: bs)) = false by simp [toPys, PyData.eqvAll], if_neg Bool.false_ne_true]
    refine (lex_diff (O := itemOrd) (by intro z; injection z with z; exact absurd z (by decide))).trans ?_
    rfl
  | a :: as, [], _, _, _, x, y => by
    show LX (.inl 1 :: ((tkD a ++ tkDs as) ++ x)) (.inl 0 :: y) = _
    rw [show PyData.eqvAll (toPys (a :: as)) (toPys []) = false by simp [toPys, PyData.eqvAll], if_neg Bool.false_ne_true]
    refine (lex_diff (O := itemOrd) (by intro z; injection z with z; exact absurd z (by decide))).trans ?_
    rfl
  | a :: as, b :: bs, h1, h2, h, x, y => by
    have k1 := Bool.and_eq_true_iff.mp h1
    have k2 := Bool.and_eq_true_iff.mp h2
    obtain ⟨c1, c2⟩ := cpbs_cons (x := toPy a) (y := toPy b) (xs := toPys as) (ys := toPys bs) h
    show LX (.inl 1 :: ((tkD a ++ tkDs as) ++ x)) (.inl 1 :: ((tkD b ++ tkDs bs) ++ y)) = if PyData.eqvAll (toPy a :: toPys as) (toPy b :: toPys bs) = true then LX x y else dlts (toPy a :: toPys as) (toPy b :: toPys bs)
    rw [show LX (.inl 1 :: ((tkD a ++ tkDs as) ++ x)) (.inl 1 :: ((tkD b ++ tkDs bs) ++ y)) = LX ((tkD a ++ tkDs as) ++ x) ((tkD b ++ tkDs bs) ++ y) from lex_self _ _ _, List.append_assoc, List.append_assoc, tk_lex a b k1.1 k2.1 c1, PyData.eqvAll, dlts]
    cases e : PyData.eqv (toPy a) (toPy b) with
    | true =>
      rw [if_pos rfl, if_pos rfl, Bool.true_and]
      exact tk_lexs as bs k1.2 k2.2 (c2 e) x y
    | false => rw [if_neg Bool.false_ne_true, Bool.false_and, if_neg Bool.false_ne_true, if_neg Bool.false_ne_true]
end
mutual
theorem tk_inj : ∀ d e : D, toPy d = toPy e → tkD d = tkD e
  | .lst, e, h => by
    cases e with
    | lst => rfl
    | tup _ => cases h
    | «at» v => cases v <;> first | rfl | cases h
  | .at v, e, h => by
    cases e with
    | lst => cases v <;> first | rfl | cases h
    | tup _ => cases v <;> cases h
    | «at» u =>
      cases v <;> cases u <;> first
        | rfl
        | (cases h; done)
        | (cases h; rfl)
  | .tup ts, e, h => by
    cases e with
    | lst => cases h
    | «at» v => cases v <;> cases h
    | tup us =>
      injection h with h
      exact tks_inj ts us h
theorem tks_inj : ∀ d e : List D, toPys d = toPys e → tkDs d = tkDs e
  | [], [], _ => rfl
  | [], _ :: _, h => by cases h
  | _ :: _, [], h => by cases h
  | a :: as, b :: bs, h => by
    injection h with h1 h2
    show Sum.inl 1 :: (tkD a ++ tkDs as) = .inl 1 :: (tkD b ++ tkDs bs)
    rw [tk_inj a b h1, tks_inj as bs h2]
end
mutual
theorem dlt_eqv : ∀ x y : PyData, PyData.eqv x y = true → cpb x y = true → dlt x y = false
  | .bool a, .bool b, h, _ => by cases a <;> cases b <;> simp_all [PyData.eqv, dlt, b2i]
  | .int a, .int b, h, _ => by
    rw [int_eqv'] at h
    rw [of_decide_eq_true h, dlt]
    exact decide_eq_false (by omega)
  | .str a, .str b, h, _ => by
    have e : a = b := by simpa [PyData.eqv] using h
    rw [e, dlt]
    exact decide_eq_false (List.lt_irrefl _)
  | .tuple as, .tuple bs, h, hc => by
    rw [dlt]
    exact dlts_eqv as bs (by rw [PyData.eqv] at h; exact h) (by rw [cpb] at hc; exact hc)
  | .none, y, _, hc => by cases y <;> first | rfl | cases hc
  | .list _, y, _, hc => by cases y <;> cases hc
  | .dict _, y, _, hc => by cases y <;> cases hc
  | .bool _, .none, _, hc => by cases hc
  | .bool _, .int _, _, hc => by cases hc
  | .bool _, .str _, _, hc => by cases hc
  | .bool _, .tuple _, _, hc => by cases hc
  | .bool _, .list _, _, hc => by cases hc
  | .bool _, .dict _, _, hc => by cases hc
  | .int _, .none, _, hc => by cases hc
  | .int _, .bool _, _, hc => by cases hc
  | .int _, .str _, _, hc => by cases hc
  | .int _, .tuple _, _, hc => by cases hc
  | .int _, .list _, _, hc => by cases hc
  | .int _, .dict _, _, hc => by cases hc
  | .str _, .none, _, hc => by cases hc
  | .str _, .bool _, _, hc => by cases hc
  | .str _, .int _, _, hc => by cases hc
  | .str _, .tuple _, _, hc => by cases hc
  | .str _, .list _, _, hc => by cases hc
  | .str _, .dict _, _, hc => by cases hc
  | .tuple _, .none, _, hc => by cases hc
  | .tuple _, .bool _, _, hc => by cases hc
  | .tuple _, .int _, _, hc => by cases hc
  | .tuple _, .str _, _, hc => by cases hc
  | .tuple _, .list _, _, hc => by cases hc
  | .tuple _, .dict _, _, hc => by cases hc
theorem dlts_eqv : ∀ xs ys : List PyData, PyData.eqvAll xs ys = true → cpbs xs ys = true → dlts xs ys = false
  | [], [], _, _ => rfl
  | [], _ :: _, h, _ => by rw [PyData.eqvAll] at h; cases h
  | _ :: _, [], h, _ => by rw [PyData.eqvAll] at h; cases h
  | x :: xs, y :: ys, h, hc => by
    rw [PyData.eqvAll, Bool.and_eq_true] at h
    obtain ⟨c1, c2⟩ := cpbs_cons hc
    rw [dlts, if_pos h.1]
    exact dlts_eqv xs ys h.2 (c2 h.1)
end
/-- sorting data of a class whose members compare -/
theorem encU {β : Type} {dat : β → D} {ok : β → Prop} (nol : ∀ b, ok b → noLd (dat b) = true) (dp : ∀ b, ok b → dep (dat b) ≤ 30) (tup : ∀ b, ok b → ∃ x r, dat b = .tup (.tup x :: r))
    (cp : ∀ b c, ok b → ok c → cpb (toPy (dat b)) (toPy (dat c)) = true) : Enc dat (fun b => tkD (dat b)) ok where
  nol := nol
  dep := dp
  inj := fun b c _ _ h => tk_inj _ _ h
  tup := tup
  cmp := fun b c hb hc => by
    have h := cp b c hb hc
    refine ⟨h, ?_⟩
    have z := tk_lex (dat b) (dat c) (nol b hb) (nol c hc) h [] []
    rw [List.append_nil, List.append_nil] at z
    refine Eq.trans ?_ z.symm
    cases e : PyData.eqv (toPy (dat b)) (toPy (dat c)) with
    | true =>
      rw [if_pos rfl, dlt_eqv _ _ e h]
      rfl
    | false => rw [if_neg Bool.false_ne_true]
end Pk

set_option maxRecDepth 100000
set_option maxHeartbeats 1000000
/-! dicts whose keys are data: tuples of numbers, texts, None, truth values, and of such -/
namespace Pk
open PySem PySem.Spec PyProof.Rows L2
mutual
/-- data as a key -/
def kyD : D → NestedKey
  | .at .non => .none
  | .at (.int i) => .num i
  | .at (.str x) => .text x
  | .at (.bl b) => .num (if b = true then 1 else 0)
  | .at _ => .none
  | .lst => .none
  | .tup ts => .tup (kyDs ts)
def kyDs : List D → List NestedKey
  | [] => []
  | t :: r => kyD t :: kyDs r
end
mutual
theorem ky_depth : ∀ d : D, (kyD d).depth ≤ dep d + 1
  | .at v => by cases v <;> exact Nat.zero_le _
  | .lst => Nat.zero_le _
  | .tup ts => Nat.succ_le_succ (ky_depths ts)
theorem ky_depths : ∀ l : List D, NestedKey.depthAll (kyDs l) ≤ deps l
  | [] => Nat.le_refl _
  | t :: r => by
    have h1 := ky_depth t
    have h2 := ky_depths r
    show max (kyD t).depth (NestedKey.depthAll (kyDs r)) ≤ max (dep t + 1) (deps r)
    omega
end
section
variable {X : Cx} {pins : List (Addr × Obj)} {σ : L2.St} {H : Hp} {s : Shared}
mutual
theorem nest_is (I : Inv X pins σ H s) : ∀ {v : V} {d : D} {u : Value}, Rep X.K H v d → noLd d = true → RelV v u → NestedIs s.heap (kyD d) u
  | v, _, u, .at h, _, r => by
    cases v with
    | non => cases r; exact .none
    | bl b => cases r; exact .bool rfl
    | int i => obtain ⟨t, rfl⟩ := r; exact .int _ _
    | str x => obtain ⟨t, rfl⟩ := r; exact .text _ _
    | byt _ => cases h
    | flt _ => cases h
    | ref _ => cases h
    | ty _ => cases h
  | _, _, _, .lst _, k, _ => by cases k
  | _, _, u, .tup h rs, k, r => by
    obtain ⟨its, rv, p, hz⟩ := I.tuple h.sq
    obtain ⟨⟨cls, dd, data, sl⟩, ho, hc, n, hd⟩ := p
    cases r
    exact .tup ho hc hd (nest_all I rs k rv)
theorem nest_all (I : Inv X pins σ H s) : ∀ {xs : List V} {ds : List D} {us : List Value}, Reps X.K H xs ds → noLds ds = true → Vals xs us → NestedAll s.heap (kyDs ds) us
  | _, _, _, .nil, _, rv => by cases rv; exact .nil
  | _, _, _, .cons h rs, k, rv => by
    have k' := Bool.and_eq_true_iff.mp k
    cases rv with
    | cons r0 rv => exact .cons (nest_is I h k'.1 r0) (nest_all I rs k'.2 rv)
end
end
/-- the tuple at b is the key k -/
def KeyAt (K : PySem.W.Frag) (H : Hp) (k : NestedKey) (b : Addr) : Prop := ∃ d, Rep K H (.ref b) d ∧ noLd d = true ∧ dep d ≤ 7 ∧ kyD d = k
theorem KeyAt.mono {K : PySem.W.Frag} {H H' : Hp} {k : NestedKey} {b : Addr} (x : KeyAt K H k b) (m : Kx H H') : KeyAt K H' k b :=
  let ⟨d, r, n, z, e⟩ := x; ⟨d, r.mono m, n, z, e⟩
theorem KeyAt.is {X : Cx} {pins : List (Addr × Obj)} {σ : L2.St} {H : Hp} {s : Shared} {k : NestedKey} {b : Addr} (I : Inv X pins σ H s) (x : KeyAt X.K H k b) : (nestedKind X.prog X.w).is s.heap k b := by
  obtain ⟨d, r, n, z, rfl⟩ := x
  refine ⟨nest_is I r n rfl, ?_⟩
  have := ky_depth d
  omega
abbrev Ent := NestedKey × Addr × V
abbrev QR : List Ent → List (NestedKey × Addr × Value) → Prop := Paired fun p q => p.1 = q.1 ∧ p.2.1 = q.2.1 ∧ RelV p.2.2 q.2.2
def atV (xs : List Ent) (k : NestedKey) : Option V := (xs.find? fun x => decide (x.1 = k)).map (·.2.2)
def putV (xs : List Ent) (k : NestedKey) (a : Addr) (v : V) : List Ent :=
  if (atV xs k).isSome then xs.map (fun x => if x.1 = k then (x.1, x.2.1, v) else x) else xs ++ [(k, a, v)]
theorem QR.val : ∀ {xs : List Ent} {vs : List (NestedKey × Addr × Value)}, QR xs vs → ∀ k, RelO (atV xs k) ((atKey vs k).map (·.2))
  | _, _, .nil, k => True.intro
  | x :: xs, y :: vs, .cons ⟨h1, h2, h3⟩ t, k => by
    have ih := QR.val t k
    unfold atV atKey at ih ⊢
    rw [List.find?_cons, List.find?_cons, ← h1]
    by_cases e : x.1 = k
    · rw [decide_eq_true e]
      exact h3
    · rw [decide_eq_false e]
      exact ih
theorem QR.repl {k : NestedKey} {v : V} {r : Value} (rv : RelV v r) : ∀ {xs : List Ent} {vs : List (NestedKey × Addr × Value)}, QR xs vs → QR (xs.map (fun x => if x.1 = k then (x.1, x.2.1, v) else x)) (vs.map (putAt k r))
  | _, _, .nil => .nil
  | x :: xs, y :: vs, .cons ⟨h1, h2, h3⟩ t => by
    refine .cons ?_ (QR.repl rv t)
    unfold putAt
    dsimp only
    rw [← h1]
    by_cases e : x.1 = k
    · rw [if_pos e, if_pos e]
      exact ⟨rfl, h2, rv⟩
    · rw [if_neg e, if_neg e]
      exact ⟨h1, h2, h3⟩
theorem QR.app : ∀ {xs xs' : List Ent} {vs vs' : List (NestedKey × Addr × Value)}, QR xs vs → QR xs' vs' → QR (xs ++ xs') (vs ++ vs')
  | _, _, _, _, .nil, s => s
  | _, _, _, _, .cons h t, s => .cons h (QR.app t s)
theorem isSome_val {o : Option V} {u : Option (Addr × Value)} (h : RelO o (u.map (·.2))) : o.isSome = u.isSome := by
  have := h.isSome_eq
  rwa [Option.isSome_map] at this
theorem QR.put {xs : List Ent} {vs : List (NestedKey × Addr × Value)} (q : QR xs vs) (k : NestedKey) (a : Addr) {v : V} {r : Value} (rv : RelV v r) : QR (putV xs k a v) (storedH vs k a r) := by
  have e := isSome_val (q.val k)
  unfold putV storedH
  rw [e]
  by_cases h : (atKey vs k).isSome = true
  · rw [if_pos h, if_pos h]
    exact q.repl rv
  · rw [if_neg h, if_neg h]
    exact q.app (.cons ⟨rfl, rfl, rv⟩ .nil)
theorem QR.length {xs : List Ent} {vs : List (NestedKey × Addr × Value)} (q : QR xs vs) : xs.length = vs.length := Paired.length q
theorem length_putV (xs : List Ent) (k : NestedKey) (a : Addr) (v : V) : (putV xs k a v).length ≤ xs.length + 1 := by
  unfold putV
  split
  · rw [List.length_map]
    omega
  · rw [List.length_append]
    exact Nat.le_refl _
/-- at a: a dict of these keys, their tuples, their values -/
def DkR (P : Program) (w : World) (a : Addr) (xs : List Ent) (h : Heap) : Prop :=
  (a == sysModules) = false ∧ ∃ vs, QR xs vs ∧ ∃ o es ep, h.get? a = some o ∧ o.ExactDict ∧ o.data = .dict es ep ∧ es.toList = vs.map (entryOfKey (nestedKind P w)) ∧ (vs.map (·.1)).Nodup
def DkO (P : Program) (w : World) (a : Addr) (xs : List Ent) : HO := .ext (DkR P w a xs)
theorem dk_ok {P : Program} {w : World} {H : Hp} {h : Heap} {a : Addr} {xs : List Ent} (r : DkR P w a xs h) : ObjOk P w H h a (DkO P w a xs) := by
  have r' := r
  obtain ⟨h1, vs, q, o, es, ep, h2, h3⟩ := r
  refine ⟨r', ⟨o, h2⟩, fun x y p k => ?_⟩
  obtain ⟨g1, vs, q, o, es, ep, g2, g3⟩ := p
  exact ⟨g1, vs, q, o, es, ep, k _ g2, g3⟩
/-- a dict that may be read at a, its keys as tuples that stand -/
structure DkT (P : Program) (w : World) (K : PySem.W.Frag) (H : Hp) (a : Addr) (xs : List Ent) : Prop where
  rd : Rd H a (DkO P w a xs)
  ks : ∀ e ∈ xs, KeyAt K H e.1 e.2.1
section
variable {X : Cx} {pins : List (Addr × Obj)} {σ : L2.St} {H : Hp} {s : Shared} {a : Addr} {xs : List Ent}
theorem DkT.of (I : Inv X pins σ H s) (d : DkT X.prog X.w X.K H a xs) : (a == sysModules) = false ∧ ∃ vs, QR xs vs ∧ s.heap.DictOfH (nestedKind X.prog X.w) a vs := by
  obtain ⟨h1, vs, q, o, es, ep, h2, h3, h4, h5, h6⟩ := (d.rd.ok I.hok).1
  refine ⟨h1, vs, q, o, es, ep, h2, h3, h4, h5, fun y hy => ?_, h6⟩
  obtain ⟨j, hj⟩ := List.mem_iff_getElem?.mp hy
  have lq := q.length
  have hl := (List.getElem?_eq_some_iff.mp hj).1
  have hx : xs[j]? = some (xs[j]'(by omega)) := List.getElem?_eq_getElem _
  obtain ⟨b, hb, e1, e2, _⟩ := paired_get q hx
  rw [hj] at hb
  cases hb
  have := (d.ks _ (List.mem_of_getElem? hx)).is I
  rw [e1, e2] at this
  exact this
theorem DkT.put_ok {h' : Heap} {k : NestedKey} {b : Addr} {v : V} {r : Value} {vs : List (NestedKey × Addr × Value)} (P : Program) (w : World) (q : QR xs vs) (rv : RelV v r) (hd : (a == sysModules) = false) (d : h'.DictOfH (nestedKind P w) a (storedH vs k b r)) {H' : Hp} : ObjOk P w H' h' a (DkO P w a (putV xs k b v)) := by
  obtain ⟨o, es, ep, h2, h3, h4, h5, _, h6⟩ := d
  exact dk_ok ⟨hd, _, q.put k b rv, o, es, ep, h2, h3, h4, h5, h6⟩
end
/-! ### {} -/
section
variable {X : Cx}
def tDkNew (P : Program) (w : World) : TE := fun _ H Q => ∀ p, H p = none → Q (.ref p) (upd H p (DkO P w p []))
theorem pe_dkNew {pos : Pos} : PE X (.Dict [] [] pos) (tDkNew X.prog X.w) := ⟨fun pins s σ H Q I h =>
  wpAny_Dict_empty ⟨.ref s.heap.objs.size, _, I.laid (a := s.heap.objs.size) (o := DkO X.prog X.w s.heap.objs.size []) (t' := s.toks) (fun _ _ q => Heap.get?_push_of_some _ q) (Nat.le_refl _)
    (dk_ok ⟨beq_eq_false_iff_ne.mpr (Ne.symm (Nat.ne_of_lt I.big)), [], .nil, _, #[], 0, Heap.get?_push_size _ rfl, ⟨rfl, rfl, rfl⟩, rfl, rfl, List.nodup_nil⟩), rfl, h _ (I.hok.fresh (Nat.le_refl _))⟩⟩
variable {o i value : Expr} {td ty tv : TE} {pos pos' : Pos}
/-! ### d[k] -/
def tDkGet (P : Program) (w : World) (K : PySem.W.Frag) (td ty : TE) : TE := fun σ H Q => td σ H fun x H1 => ty σ H1 fun y H2 => ∃ (a b : Addr) (xs : List Ent) (k : NestedKey) (v : V), x = .ref a ∧ y = .ref b ∧ DkT P w K H2 a xs ∧ KeyAt K H2 k b ∧ atV xs k = some v ∧ Q v H2
theorem room8 {A : Around} (hu : A.units + 64 < cLine) : A.in1.units + 8 < cLine := by
  show A.units + 1 + 8 < cLine
  omega
theorem pe_dkGet (hu : X.A.units + 64 < cLine) (ho : PE X o td) (hi : PE X i ty) (hs : NoSl i) : PE X (.Subscript o i pos) (tDkGet X.prog X.w X.K td ty) := by
  refine ⟨fun pins s σ H Q I h => ?_⟩
  refine subD_of PySem.F.slot_dict_getitem.lookup hs (thn (ho.run pins s σ H _ I h) fun u s1 ⟨x, H1, I1, rx, q1⟩ => thn (hi.run pins s1 σ H1 _ I1 q1) fun iv s2 ⟨y, H2, I2, ry, a, b, xs, k, v, ex, ey, hd, hk, hv, q2⟩ => ?_)
  subst ex ey
  obtain rfl : u = Value.ref a := rx
  obtain rfl : iv = Value.ref b := ry
  obtain ⟨h1, vs, q, dd⟩ := hd.of I2
  have z := q.val k
  rw [hv] at z
  obtain ⟨w', hw, rw'⟩ := RelO.some_of (v := v) (o := (atKey vs k).map (·.2)) z
  obtain ⟨p, hp, hp2⟩ := Option.map_eq_some_iff.mp hw
  refine ⟨dd.typeIs, wpAny_getItem_heap (knd := nestedKind X.prog X.w) (room8 hu) (hk.is I2) dd hp ?_⟩
  rw [hp2]
  exact ⟨v, H2, I2.tok _, rw', q2⟩
/-! ### d.get(k) -/
def tDkGet1 (P : Program) (w : World) (K : PySem.W.Frag) (td ty : TE) : TE := fun σ H Q => td σ H fun x H1 => ∃ (a : Addr) (xs : List Ent), x = .ref a ∧ DkT P w K H1 a xs ∧ ty σ H1 fun y H2 => ∃ (b : Addr) (xs : List Ent) (k : NestedKey), y = .ref b ∧ DkT P w K H2 a xs ∧ KeyAt K H2 k b ∧ Q ((atV xs k).getD .non) H2
theorem pe_dkGet1 {e : Expr} {apos cpos : Pos} (hu : X.A.units + 64 < cLine) (ho : PE X o td) (he : PE X e ty) (m : M1 X o "get" apos e cpos) : PE X (.Call (.Attribute o "get" apos) [e] [] cpos) (tDkGet1 X.prog X.w X.K td ty) := by
  refine ⟨fun pins s σ H Q I h => ?_⟩
  refine wpAny_Call_method m.base m.few m.line PySem.F.plainAttrs_dict PySem.F.slot_dict_get PySem.F.type_dict_get (thn (ho.run pins s σ H _ I h) fun u s1 ⟨x, H1, I1, rx, a, xs1, ex, d, q1⟩ => ?_)
  subst ex
  obtain rfl : u = Value.ref a := rx
  obtain ⟨g1, vs1, g2, g3⟩ := d.of I1
  refine ⟨g3.typeIs, fun c q => ?_, ?_⟩
  · cases q
    obtain ⟨ob, _, _, h1, h2, _⟩ := g3
    exact ⟨ob, h1, h2.2.1⟩
  rw [m.trees]
  refine Calls.callWith_builtin rfl (Calls.evalArgs_plain (Calls.spliced_cons (thn (he.run pins s1 σ H1 _ I1 q1) fun iv s2 ⟨y, H2, I2, ry, b, xs, k, ey, hd, hk, q2⟩ => Calls.spliced_nil ?_)))
  subst ey
  obtain rfl : iv = Value.ref b := ry
  obtain ⟨h1, vs, q, dd⟩ := hd.of I2
  refine call_meetsIn PySem.F.slot_dict_get dd.typeIs PySem.F.entry_dict_get (PySem.F.args_dict_get_2 _ _) (meetsH_dict_get (nestedKind X.prog X.w) a b h1) ⟨room8 (A := X.A) (by omega), k, vs, hk.is I2, dd, ⟨_, H2, I2.tok _, ?_, q2⟩⟩
  exact (q.val k).getD rfl
/-! ### k in d, k not in d -/
def tDkIn (P : Program) (w : World) (K : PySem.W.Frag) (neg : Bool) (ty td : TE) : TE := fun σ H Q => ty σ H fun y H1 => td σ H1 fun x H2 => ∃ (a b : Addr) (xs : List Ent) (k : NestedKey), x = .ref a ∧ y = .ref b ∧ DkT P w K H2 a xs ∧ KeyAt K H2 k b ∧ Q (.bl (if neg = true then !(atV xs k).isSome else (atV xs k).isSome)) H2
theorem pc_dkIn (hu : X.A.units + 64 < cLine) (hi : PE X i ty) (ho : PE X o td) : PC X .In i o (tDkIn X.prog X.w X.K false ty td) := by
  refine ⟨fun pins s σ H Q I h => ?_⟩
  refine thn (hi.run pins s σ H _ I h) fun iv s1 ⟨y, H1, I1, ry, q1⟩ => thn (ho.run pins s1 σ H1 _ I1 q1) fun u s2 ⟨x, H2, I2, rx, a, b, xs, k, ex, ey, hd, hk, q2⟩ => ?_
  subst ex ey
  obtain rfl : u = Value.ref a := rx
  obtain rfl : iv = Value.ref b := ry
  obtain ⟨h1, vs, q, dd⟩ := hd.of I2
  refine wpAny_in_heap (knd := nestedKind X.prog X.w) (room8 hu) (hk.is I2) h1 dd ?_
  rw [← isSome_val (q.val k)]
  exact ⟨.bl (atV xs k).isSome, H2, I2.tok _, rfl, q2⟩
theorem pc_dkNotIn (hu : X.A.units + 64 < cLine) (hi : PE X i ty) (ho : PE X o td) : PC X .NotIn i o (tDkIn X.prog X.w X.K true ty td) := by
  refine ⟨fun pins s σ H Q I h => ?_⟩
  refine thn (hi.run pins s σ H _ I h) fun iv s1 ⟨y, H1, I1, ry, q1⟩ => thn (ho.run pins s1 σ H1 _ I1 q1) fun u s2 ⟨x, H2, I2, rx, a, b, xs, k, ex, ey, hd, hk, q2⟩ => ?_
  subst ex ey
  obtain rfl : u = Value.ref a := rx
  obtain rfl : iv = Value.ref b := ry
  obtain ⟨h1, vs, q, dd⟩ := hd.of I2
  refine wpAny_notIn_heap (knd := nestedKind X.prog X.w) (room8 hu) (hk.is I2) h1 dd ?_
  rw [← isSome_val (q.val k)]
  exact ⟨.bl (!(atV xs k).isSome), H2, I2.tok _, rfl, q2⟩
/-! ### d[k] = v -/
def tDkPut (P : Program) (w : World) (K : PySem.W.Frag) (td ty tv : TE) : TS := fun D σ H => tv σ H fun v H1 => td σ H1 fun x H2 => ty σ H2 fun y H3 => ∃ (a b : Addr) (xs : List Ent) (k : NestedKey), x = .ref a ∧ y = .ref b ∧ H3 a = some (DkO P w a xs) ∧ (∀ e ∈ xs, KeyAt K H3 e.1 e.2.1) ∧ KeyAt K H3 k b ∧ xs.length < 1000000 ∧ D.nx σ (upd H3 a (DkO P w a (putV xs k b v)))
theorem ps_dkPut (hu : X.A.units + 64 < cLine) (ho : PE X o td) (hi : PE X i ty) (hv : PE X value tv) (hs : swapsWith value (some (.Subscript o i pos')) pos.line X.env = pure false) : PS X (.Assign [.Subscript o i pos'] value pos) (tDkPut X.prog X.w X.K td ty tv) := by
  refine ⟨fun pins s σ H D I h => ?_⟩
  refine wpAny_Assign_Subscript (thn (hv.run pins s σ H _ I h) fun r s1 ⟨v, H1, I1, rv, q1⟩ => thn (ho.run pins s1 σ H1 _ I1 q1) fun u s2 ⟨x, H2, I2, rx, q2⟩ => thn (hi.run pins s2 σ H2 _ I2 q2) fun iv s3 ⟨y, H3, I3, ry, a, b, xs, k, ex, ey, ha, hks, hk, hn, q3⟩ => ?_) hs
  subst ex ey
  obtain rfl : u = Value.ref a := rx
  obtain rfl : iv = Value.ref b := ry
  obtain ⟨h1, vs, q, dd⟩ := DkT.of I3 ⟨.inl ha, hks⟩
  have hz : vs.length ≤ sizeLine := by
    rw [← q.length, sizeLine_eq]
    omega
  refine wpAny_setItem_heap (knd := nestedKind X.prog X.w) (hsz := hz) (room8 hu) (hk.is I3) dd fun h' dd' hs' => ?_
  have he : ∃ q, h'.get? a = some q := let ⟨q, _, _, hq, _⟩ := dd'; ⟨q, hq⟩
  exact ⟨σ, _, d_write I3 (by rw [ha]; trivial) hs' he (DkT.put_ok _ _ q rv h1 dd'), q3⟩
end
end Pk

set_option maxRecDepth 100000
set_option maxHeartbeats 1000000
/-! walks over such dicts: sorted(d), list(d), for k in d -/
namespace Pk
open PySem PySem.Spec PyProof.Rows L2
open PySem.W PySem.Calls
theorem raw_lt {h : Heap} {d : Addr} {es : Array DictEntry} {ep : Nat} (x : h.DictRaw d es ep) : d < h.objs.size := let ⟨_, ho, _⟩ := x; Heap.lt_size ho
theorem DkT.raw {X : Cx} {pins : List (Addr × Obj)} {σ : L2.St} {H : Hp} {s : Shared} {a : Addr} {xs : List Ent} (I : Inv X pins σ H s) (d : DkT X.prog X.w X.K H a xs) :
    (a == sysModules) = false ∧ ∃ es ep, s.heap.DictRaw a es ep ∧ es.size = xs.length ∧ (∀ i (hi : i < es.size), ∃ e u, xs[i]? = some e ∧ es[i].key = .ref e.2.1 ∧ RelV e.2.2 u ∧ es[i].val = u) := by
  obtain ⟨h1, vs, q, dd⟩ := d.of I
  obtain ⟨es, ep, h2, h3, h4⟩ := dd.raw
  refine ⟨h1, es, ep, h2, by rw [h3, q.length], fun i hi => ?_⟩
  obtain ⟨y, hy, k1, k2, _⟩ := h4 i hi
  have lq := q.length
  have hl := (List.getElem?_eq_some_iff.mp hy).1
  have hx : xs[i]? = some (xs[i]'(by omega)) := List.getElem?_eq_getElem _
  obtain ⟨b, hb, e1, e2, e3⟩ := paired_get q hx
  rw [hy] at hb
  cases hb
  exact ⟨_, _, hx, by rw [k1, e2], e3, k2⟩
theorem src_raw {prog : Program} {w : World} {d : Addr} {es : Array DictEntry} {ep : Nat} (lo : (d == sysModules) = false) : KdlSrc prog w "dict" d d es.size (fun i v => ∃ hi : i < es.size, v = es[i].key) (fun h => h.DictRaw d es ep) where
  type := fun _ hm => hm.typeIs
  there := fun _ hm => ⟨raw_lt hm, raw_lt hm⟩
  keep := fun _ _ hm hk => hm.at fun o e => hk d (.inl rfl) o e
  notList := by decide
  notTuple := by decide
  hint := fun _ _ _ _ hm hq => kdl_hint_dict hm.typeIs hq
  iter := fun _ _ hh hm => ⟨_, _, (fun _ _ hq => wpAny_pyIter_dict_raw lo hm hq), Walks.rawKeys hh _ d (Nat.ne_of_lt (raw_lt hm)) es ep, ⟨⟨_, Heap.get?_push_size _ rfl, rfl, rfl⟩, hm.at fun _ e => Heap.get?_push_of_some _ e⟩⟩
theorem acc_keys {xs : List Ent} {es : Array DictEntry} {acc : Array Value} (hs : es.size = xs.length) (hx : ∀ i (hi : i < es.size), ∃ e u, xs[i]? = some e ∧ es[i].key = .ref e.2.1 ∧ RelV e.2.2 u ∧ es[i].val = u) (ha : ItemsOf (fun i v => ∃ hi : i < es.size, v = es[i].key) acc es.size) :
    acc.toList = xs.map fun e => Value.ref e.2.1 := by
  refine List.ext_getElem? fun i => ?_
  by_cases hi : i < es.size
  · obtain ⟨e, u, h1, h2, _⟩ := hx i hi
    have hl : i < acc.size := by rw [ha.1]; exact hi
    have e1 : acc[i]? = some acc[i] := Array.getElem?_eq_getElem hl
    obtain ⟨_, h3⟩ := ha.2 i _ e1
    rw [Array.getElem?_toList, e1, List.getElem?_map, h1, h3, h2]
    rfl
  · rw [List.getElem?_eq_none (by rw [Array.length_toList, ha.1]; omega), List.getElem?_eq_none (by rw [List.length_map]; omega)]
theorem vals_keys : ∀ xs : List Ent, Vals (xs.map fun e => V.ref e.2.1) (xs.map fun e => Value.ref e.2.1)
  | [] => .nil
  | _ :: r => .cons rfl (vals_keys r)
section
variable {X : Cx} {β : Type}
def rSortDk (P : Program) (w : World) (K : PySem.W.Frag) (dat : β → D) (tok : β → List (Int ⊕ List Nat)) (ok : β → Prop) : List V → Hp → VK → Prop := fun vs H Q => ∃ (a : Addr) (xs : List Ent) (bs : List β), vs = [V.ref a] ∧ DkT P w K H a xs ∧ xs.length ≤ 1000000 ∧
  Reps K H (xs.map fun e => V.ref e.2.1) (bs.map dat) ∧ (∀ b ∈ bs, ok b) ∧ ∀ (ys : List V) (p : Addr), Reps K H ys ((sortE tok bs).map dat) → H p = none → Q (.ref p) (upd H p (.lst ys))
theorem cr_sortDk {dat : β → D} {tok : β → List (Int ⊕ List Nat)} {ok : β → Prop} (hc : X.calm = true) (hu : X.A.units + 64 < cLine) (N : Enc dat tok ok) : CallR X (.builtin "sorted") (rSortDk X.prog X.w X.K dat tok ok) := by
  intro pins s σ H vs us Q I r h
  obtain ⟨a, xs, bs, rfl, hd, hlen, hr, hok, q⟩ := h
  obtain ⟨u, rfl, ru⟩ := vals1 r
  obtain rfl : u = Value.ref a := ru
  obtain ⟨lo, es, ep, hraw, hes, hx⟩ := hd.raw I
  have hn : es.size ≤ sizeLine := by
    rw [sizeLine_eq]
    omega
  refine call_function_entry kind_sorted plain_sorted entry_sorted (args_sorted1 _) ?_
  unfold Builtin.«sorted»
  refine wpAny_bind (m := checkCount "sorted" 1 1 _) (wpAny_pure ?_)
  refine wpAny_bind (kdu_collect (A := X.A.in1) (src_raw lo) (I.ok.hd hc) hraw hn fun h' tk acc hk hacc => ?_)
  have eacc := acc_keys hes hx hacc
  rw [eacc]
  have I1 : Inv X pins σ H { s with heap := h', toks := tk } := I.kept (t' := tk) hk
  have hl : (xs.map fun e => Value.ref e.2.1).length ≤ sizeLine := by
    rw [List.length_map, ← hes]
    exact hn
  generalize hvs : (xs.map fun e => Value.ref e.2.1) = vs at hl
  have rv : Vals (xs.map fun e => V.ref e.2.1) vs := by
    rw [← hvs]
    exact vals_keys xs
  have each := reps_each I1 hr rv fun b hb => N.nol b (hok b hb)
  refine wpAny_bind (wpAny_newList ?_ hl)
  have ho : (h'.push (seqObj "list" vs.toArray 0)).get? h'.objs.size = some (seqObj "list" vs.toArray 0) := Heap.get?_push_size _ rfl
  have keep : ∀ b o, h'.get? b = some o → (sortingHeap (h'.push (seqObj "list" vs.toArray 0)) h'.objs.size vs).get? b = some o := fun b o e => sortingHeap_old (Nat.ne_of_lt (Heap.lt_size e)) (Heap.get?_push_of_some _ e)
  have S : SortsAt X.prog X.w X.A.in1.in1 { s with heap := sortingHeap (h'.push (seqObj "list" vs.toArray 0)) h'.objs.size vs, toks := tk } (encKind (sortingHeap (h'.push (seqObj "list" vs.toArray 0)) h'.objs.size vs) bs (fun b => toPy (dat b)) tok) vs := by
    refine sortsAt_enc (each.mono fun v b z => ?_) (fun b hb => plain_noL _ (N.nol b (hok b hb))) (fun b hb c hc => N.inj b c (hok b hb) (hok c hc)) (fun b hb => ?_) (fun b hb c hc => N.cmp b c (hok b hb) (hok c hc)) (fun b hb => ?_)
    · obtain ⟨⟨as, r⟩, _⟩ := z
      exact ⟨as, Reads.keeps keep r⟩
    · obtain ⟨x, r, e⟩ := N.tup b (hok b hb)
      rw [e]
      exact ⟨_, _, rfl⟩
    · have h1 := depth_noL (dat b)
      have h2 := N.dep b (hok b hb)
      show X.A.units + 1 + 1 + (toPy (dat b)).depth < cLine
      omega
  have out : EachIs (fun v b => ∃ x, RelV x v ∧ Rep X.K H x (dat b)) (sortVals (encKind (sortingHeap (h'.push (seqObj "list" vs.toArray 0)) h'.objs.size vs) bs (fun b => toPy (dat b)) tok) false vs vs) (sortE tok bs) := by
    refine sortVals_each (κ := encKind (sortingHeap (h'.push (seqObj "list" vs.toArray 0)) h'.objs.size vs) bs (fun b => toPy (dat b)) tok) tok (each.mono fun v b z => z.2) ?_
    refine (each_mem each).mono fun v b z => ?_
    obtain ⟨⟨⟨as, r⟩, _⟩, hb⟩ := z
    exact encKind_some (fun b hb => plain_noL _ (N.nol b (hok b hb))) (fun b hb c hc => N.inj b c (hok b hb) (hok c hc)) hb (Reads.keeps keep r)
  obtain ⟨ys, v1, r1⟩ := each_back out
  have hl2 := v1.length
  rw [sortVals_length _ rfl] at hl2
  obtain ⟨n, hn⟩ := PyProof.Rows.sortedHeap_at (out := (sortVals (encKind (sortingHeap (h'.push (seqObj "list" vs.toArray 0)) h'.objs.size vs) bs (fun b => toPy (dat b)) tok) false vs vs).toArray) ho
  refine wpAny_bind (wpAny_holding (wpAny_call_entry slot_list_sort ⟨_, ho, rfl⟩ entry_list_sort ?_ (args_list_sort _)))
  refine wpAny_mono (list_sort_vals (s := { s with heap := h'.push (seqObj "list" vs.toArray 0), toks := tk }) (P := fun f s' => f = .done (.ret .none) ∧ s' = { s with heap := PyProof.Rows.sortedHeap (h'.push (seqObj "list" vs.toArray 0)) h'.objs.size vs (sortVals (encKind (sortingHeap (h'.push (seqObj "list" vs.toArray 0)) h'.objs.size vs) bs (fun b => toPy (dat b)) tok) false vs vs).toArray, toks := tk }) ho S hl ⟨rfl, rfl⟩) (fun f s' hf => ?_) fun _ _ e => e
  obtain ⟨rfl, rfl⟩ := hf
  refine ⟨_, rfl, wpAny_pure ⟨_, rfl, ?_⟩⟩
  refine ⟨.ref _, _, I1.laid (a := h'.objs.size) (t' := tk) (o := .lst ys) (fun b o e => ?_) (Nat.le_refl _) ⟨by omega, _, n, v1, hn⟩, rfl, q ys _ r1 (I1.hok.fresh (Nat.le_refl _))⟩
  rw [PyProof.Rows.sortedHeap_old (Nat.ne_of_lt (Heap.lt_size e)) (by rw [Heap.size_push]; exact Nat.lt_succ_of_lt (Heap.lt_size e))]
  exact Heap.get?_push_of_some _ e
end
end Pk

set_option maxRecDepth 100000
set_option maxHeartbeats 2000000
/-! a lambda of one parameter, handed to a def behind its first argument and called there -/
namespace Pk
open PySem PySem.Spec PyProof.Rows L2 LamX
/-- one parameter, a plain local; captured names and globals besides -/
structure LamP (sc scope : Scope) (a : Str) : Prop where
  fun_ : scope.kind = .function
  noC : scope.isCoroutine = false
  noG : scope.isGenerator = false
  par : scope.names.lookup a = some .local
  own : ∀ y ∈ scope.names, y.2 ≠ .cell ∧ (y.2 = .local → y.1 = a)
  caught : ∀ y ∈ scope.names, y.2 = .free → sc.names.lookup y.1 = some .cell ∨ sc.names.lookup y.1 = some .free
def lamPB (sc scope : Scope) (a : Str) : Bool :=
  decide (scope.kind = .function) && (!scope.isCoroutine && (!scope.isGenerator && (decide (scope.names.lookup a = some .local) && scope.names.all fun y => !decide (y.2 = .cell) && ((!decide (y.2 = .local) || decide (y.1 = a)) && (!decide (y.2 = .free) || (decide (sc.names.lookup y.1 = some .cell) || decide (sc.names.lookup y.1 = some .free)))))))
theorem lamP_by {sc scope : Scope} {a : Str} (h : lamPB sc scope a = true) : LamP sc scope a := by
  unfold lamPB at h
  simp only [Bool.and_eq_true, Bool.or_eq_true, Bool.not_eq_true', decide_eq_true_eq, decide_eq_false_iff_not, List.all_eq_true] at h
  obtain ⟨k, c, g, p, o⟩ := h
  refine ⟨k, c, g, p, fun y hy => ⟨(o y hy).1, fun e => ?_⟩, fun y hy e => ?_⟩
  · rcases (o y hy).2.1 with z | z
    · exact absurd e z
    · exact z
  · rcases (o y hy).2.2 with z | z
    · exact absurd e z
    · exact z
theorem LamP.has {X : Cx} {scope : Scope} {a : Str} (L : LamP X.env.scope scope a) (ok : X.Ok) : ∀ y ∈ scope.names, y.2 = .free → ∃ c, X.env.cells.lookup y.1 = some c := by
  intro y hy e
  exact ok.has _ (L.caught y hy e)
section
variable {X : Cx} {pins : List (Addr × Obj)} {σ : L2.St} {H HZ : Hp} {s s1 : Shared}
/-- the lambda's body begins: what was captured stands in the slots, the argument at j -/
theorem lamP_start {A : Around} {outer : List Env} {E : XK} {scope : Scope} {a : Str} {f c' : Addr} {h₁ : Heap} {tk j : Nat} {v : V} {u : Value} (I : Inv X pins σ H s) (L : LamP X.env.scope scope a) (hj : X.N[j]? = some a) (hN : X.N.Nodup) (rv : RelV v u)
    (e0 : Env0 X.prog X.w X.K X.mg X.base A outer s1 HZ) (hd : A.handled = none) (un : Un (frs X.stack) [] H HZ s.heap s1.heap) (hns : h₁.Ns s1.heap.objs.size fun y => ([(a, u)] : List (Str × Value)).reverse.lookup y) (kp : ∀ b o, s1.heap.get? b = some o → h₁.get? b = some o) :
    Inv (lamCx X A outer s1 HZ E scope f c') [] (σ.set j (some v)) HZ { s1 with heap := h₁, toks := tk } := by
  have caught := L.has I.ok
  have back : ∀ {y c}, (cloFrom X.env.cells scope.names []).lookup y = some c → X.env.cells.lookup y = some c := by
    intro y c e
    rcases cloFrom_mem (PySem.mem_of_lookup e) with m | ⟨m1, m2⟩
    · cases m
    · obtain ⟨c1, hc⟩ := caught _ m1 rfl
      have hc : X.env.cells.lookup y = some c1 := hc
      have : c = c1 := by
        rw [m2, hc] <;> rfl
      rw [this]
      exact hc
  have there : ∀ {y}, scope.names.lookup y = some .free → ∃ c, (cloFrom X.env.cells scope.names []).lookup y = some c := by
    intro y hl
    have my : (y, NameKind.free) ∈ scope.names := PySem.mem_of_lookup hl
    exact mem_lookup (cloFrom_has (cells := X.env.cells) (acc := []) my)
  have cells : ∀ {c : Addr} {z : Option Value}, H c = none → s.heap.IsCell c z → h₁.IsCell c z := by
    intro c z n hz
    obtain ⟨o, ho, hdt⟩ := hz
    obtain ⟨sl, q⟩ := un.any ho n (by simp)
    exact ⟨_, kp _ _ q, hdt⟩
  have noEx : ∀ b : Addr, b ∉ (lamCx X A outer s1 HZ E scope f c').ex := fun b z => by
    cases (show b ∈ ([] : List Addr) from z)
  have lj : j < σ.length := by
    rw [I.len]
    exact (List.getElem?_eq_some_iff.mp hj).1
  refine { ok := ?_, os := rfl, bare := e0.bare, base := Un.kept kp, loc := ⟨_, hns, ?_⟩, cell := ?_, free := e0.hok.fresh (Nat.le_refl _), freeC := ?_, pin := ?_, hok := e0.hok.kept kp, len := by rw [List.length_set]; exact I.len }
  · refine { mod := e0.mod, kind := L.fun_, glob := rfl, blt := rfl, above := Nat.le_refl _, inj := fun y z c e1 e2 => I.ok.inj y z c (back e1) (back e2), has := ?_, cab := ?_, hd := fun _ => hd, frames := Around.frames_deeper e0.frames, stk := .inr ⟨rfl, rfl⟩, exf := fun b z => absurd z (noEx b), bs := e0.bs, bsz := e0.bsz, noex := fun b _ _ => noEx b, exfs := fun b z => absurd z (noEx b), funs := e0.funs, frf := e0.frf }
    · intro y hy
      have hy : scope.names.lookup y = some .cell ∨ scope.names.lookup y = some .free := hy
      rcases hy with hy | hy
      · exact absurd rfl (L.own _ (PySem.mem_of_lookup hy)).1
      · exact there hy
    · intro y c z _
      cases (show false = true from z)
  · intro i y v' e1 e2 e3
    have e1 : X.N[i]? = some y := e1
    by_cases hij : i = j
    · subst hij
      rw [hj] at e1
      obtain rfl := Option.some.inj e1
      rw [List.getElem?_set_self lj] at e2
      obtain rfl := Option.some.inj (Option.some.inj e2)
      refine ⟨u, rv, .inl ⟨L.par, ?_⟩⟩
      show ([(a, u)] : List (Str × Value)).lookup a = some u
      simp [List.lookup]
    · rw [List.getElem?_set_ne (Ne.symm hij)] at e2
      have ya : y ≠ a := fun z => by
        subst z
        have hi := (List.getElem?_eq_some_iff.mp e1).1
        have hj' := (List.getElem?_eq_some_iff.mp hj).1
        rw [List.getElem?_eq_getElem hi] at e1
        rw [List.getElem?_eq_getElem hj'] at hj
        exact hij ((List.getElem_inj hN).mp ((Option.some.inj e1).trans (Option.some.inj hj).symm))
      have e3 : Vis scope y := e3
      rcases e3 with k | k | k
      · exact absurd ((L.own _ (PySem.mem_of_lookup k)).2 rfl) ya
      · exact absurd rfl (L.own _ (PySem.mem_of_lookup k)).1
      · obtain ⟨m, hn, hl⟩ := I.loc
        have vis : Vis X.env.scope y := (L.caught _ (PySem.mem_of_lookup k) rfl).elim (fun k => .inr (.inl k)) (fun k => .inr (.inr k))
        obtain ⟨w', r, q⟩ := hl i y v' e1 e2 vis
        obtain ⟨c2, h2⟩ := there k
        refine ⟨w', r, .inr ⟨.inr k, c2, h2, ?_⟩⟩
        have c1 := back h2
        rcases q with ⟨k', _⟩ | ⟨_, c3, e', z⟩
        · have k' : X.env.scope.names.lookup y = some .local := k'
          rcases L.caught _ (PySem.mem_of_lookup k) rfl with k2 | k2
          · rw [show X.env.scope.names.lookup y = _ from k2] at k'
            cases k'
          · rw [show X.env.scope.names.lookup y = _ from k2] at k'
            cases k'
        · rw [c1] at e'
          obtain rfl := Option.some.inj e'
          exact cells (I.freeC y _ c1) z
  · intro y c e
    obtain ⟨w', z⟩ := I.cell y c (back e)
    exact ⟨w', cells (I.freeC y c (back e)) z⟩
  · intro y c e
    obtain ⟨v, o, ho, hdt⟩ := I.cell y c (back e)
    exact un.free c o ho (I.freeC y c (back e)) (by simp)
  · intro q hq
    cases (show q ∈ ([] : List (Addr × Obj)) ++ [] from hq)
/-- changed(e), in the def that got the lambda: that def's context was entered at s, right behind the making -/
theorem pe_actP {CXg : CXT} {Eg : XK} {Ng : List Str} {qg : Str} {sg : Scope} {g f c' : Addr} {cdg pm ctv : Value} {params : Arguments} {body e : Expr} {scope : Scope} {k i j : Nat} {a x : Str} {ta tb : TE} {p1 p2 : Pos}
    (I : Inv X pins σ H s) (L : LamP X.env.scope scope a) (hj : X.N[j]? = some a) (hND : X.N.Nodup) (hf : s.heap.get? f = some (PySem.W.kla_obj "<lambda>" (X.env.qual ++ "<lambda>") params body scope (cloFrom X.env.cells scope.names []) pm c' ctv)) (hfn : H f = none) (hfr : f ∉ frs X.stack)
    (hbind : ∀ u : Value, bindArgs (PySem.W.kla_fn "<lambda>" (X.env.qual ++ "<lambda>") params body scope (cloFrom X.env.cells scope.names []) pm (.ref c') ctv) ⟨[u], []⟩ = pure [(a, u)])
    (hr : Room (k + 1) (X.A.deeper (envOfC qg sg s.heap.objs.size g cdg)))
    (hbody : ∀ (A : Around) (outer : List Env) (s : Shared) (H : Hp), Room k (A.deeper (lamEnv X scope s.heap.objs.size f c')) → PE (lamCx X A outer s H E0 scope f c').nox body tb)
    (ha : PE (cxOf CXg X.prog X.w X.K X.mg X.base Ng qg sg g cdg X.A X.stack s H Eg).nox e ta)
    (hN : Ng[i]? = some x) (hv : Vis sg x) (hd : (x == ("__debug__" : Str)) = false := by decide) (hcd : (x == ("__classdict__" : Str)) = false := by decide)
    (hs : starEach [e] (cxOf CXg X.prog X.w X.K X.mg X.base Ng qg sg g cdg X.A X.stack s H Eg).nox.env = (false, eval e (cxOf CXg X.prog X.w X.K X.mg X.base Ng qg sg g cdg X.A X.stack s H Eg).nox.env) :: starEach [] (cxOf CXg X.prog X.w X.K X.mg X.base Ng qg sg g cdg X.A X.stack s H Eg).nox.env := by rfl) :
    PE (cxOf CXg X.prog X.w X.K X.mg X.base Ng qg sg g cdg X.A X.stack s H Eg).nox (.Call (.Name x p1) [e] [] p2)
      (fun σZ HZ Q => σZ[i]? = some (some (.ref f)) ∧ ta σZ HZ fun v H1 => H1 c' = some (CodeO c' (X.env.qual ++ "<lambda>")) ∧ tb (σ.set j (some v)) H1 Q) := by
  refine ⟨fun pinsZ sZ σZ HZ Q IZ h => ?_⟩
  obtain ⟨hslot, ht⟩ := h
  refine wpAny_Call_Name_kw (thn ((pe_var (pos := p1) (i := i) hN hv hd hcd).run pinsZ sZ σZ HZ (fun v H1 => v = .ref f ∧ H1 = HZ) IZ ⟨.ref f, hslot, rfl, rfl⟩) fun u0 s1 ⟨v0, H1, I1, r1, q1⟩ => ?_)
  obtain ⟨rfl, rfl⟩ := q1
  obtain rfl : u0 = Value.ref f := r1
  have keepF : ∀ {s2 : Shared} {σ2 : L2.St} {H2 : Hp} {ps2 : List (Addr × Obj)}, Inv (cxOf CXg X.prog X.w X.K X.mg X.base Ng qg sg g cdg X.A X.stack s H Eg).nox ps2 σ2 H2 s2 → s2.heap.get? f = some (PySem.W.kla_obj "<lambda>" (X.env.qual ++ "<lambda>") params body scope (cloFrom X.env.cells scope.names []) pm c' ctv) := by
    intro s2 σ2 H2 ps2 I2
    exact I2.base.keep f _ hf hfn hfr (fun z => nomatch (show f ∈ ([] : List Addr) from z))
  refine PySem.W.callWith_F (first := []) ⟨_, _, _, _, keepF I1⟩ ?_ hs rfl
  rw [hs]
  show wpAny _ _ (spliced ((false, eval e _) :: backTo p2 (starEach [] _))) _ _ s1
  refine Calls.spliced_cons (thn (ha.run pinsZ s1 σZ _ _ I1 ht) fun u s2 ⟨v, H2, I2, r2, hc, q2⟩ => Calls.spliced_nil ⟨⟨_, _, _, _, keepF I2⟩, ?_⟩)
  have un : Un (frs X.stack) [] H H2 s.heap s2.heap := I2.base
  obtain ⟨⟨oc, vs, t, hoc, hdc, hvc⟩, _, _⟩ := I2.hok c' _ hc
  have rc : codeAny (model X.prog X.w) (X.A.deeper (envOfC qg sg s.heap.objs.size g cdg)) (.call (.ref f) ⟨[u], []⟩) (CR CX0 (envOfC qg sg s.heap.objs.size g cdg :: X.stack) X.prog X.w H2 s2 Q E0) s2 := by
    refine PySem.W.kla_callFunE hr.depth (keepF I2) rfl L.noC L.noG rfl ⟨c', oc, vs, t, rfl, hoc, hdc, hvc⟩ ?_
    rw [hbind u]
    refine wpAny_pure (wpAny_newFunctionEnv (fun y hy => (L.own y hy).1) (fun y hy => ?_) (fun h₁ hns hsb => ⟨I2.nolimit.fresh _ hsb, ?_⟩) L.fun_)
    · rw [List.mem_singleton.mp hy]
      exact L.par
    · show codeAny _ _ (.expr body (lamEnv X scope s2.heap.objs.size f c')) _ _
      have kp : ∀ b o, s2.heap.get? b = some o → h₁.get? b = some o := fun b o e => hsb.extBut b o (Nat.ne_of_lt (Heap.lt_size e)) (Heap.get?_push_of_some _ e)
      have J : Inv (lamCx X (X.A.deeper (envOfC qg sg s.heap.objs.size g cdg)) (envOfC qg sg s.heap.objs.size g cdg :: X.stack) s2 H2 E0 scope f c').nox [] (σ.set j (some v)) H2 { s2 with heap := h₁, toks := s2.toks + ([(a, u)] : List (Str × Value)).length } :=
        (lamP_start I L hj hND r2 I2.env0 hr.hd un hns kp).wish _
      refine PySem.W.kla_codeExpr (wpAny_mono ((hbody _ _ s2 H2 (hr.deeper _)).run [] _ _ H2 Q J q2) (fun w' s' hq => ?_) fun e' s' hq => hq.elim)
      obtain ⟨z, H', J', rv, q⟩ := hq
      exact ⟨z, H', J'.os, J'.bare, J'.base, J'.hok, rv, q⟩
  refine wpAny_call (codeAny_mono rc fun r s' hq => ?_)
  cases r with
  | error e' => exact hq.elim
  | ok fl =>
    cases fl with
    | ret z => exact I2.after hq
    | next => exact False.elim hq
    | brk => exact False.elim hq
    | cont => exact False.elim hq
end
/-- the context of the def x that gets the lambda, entered at s from X -/
abbrev zCx (X : Cx) (Ng : List Str) (x : Str) (sg : Scope) (g : Addr) (cdg : Value) (s : Shared) (H : Hp) : Cx := (cxOf CX0 X.prog X.w X.K X.mg X.base Ng x sg g cdg X.A X.stack s H E0).nox
/-- what x makes of its first argument and of the lambda's reading tl: TT; x calls the lambda by its own name pf -/
def GivesP (X : Cx) (Ng : List Str) (x : Str) (sg : Scope) (g : Addr) (cdg : Value) (bg : List Stmt) (i : Nat) (pf q : Str) (TT : V → (V → Hp → VK → Prop) → Hp → VK → Prop) : Prop :=
  ∀ (f c' : Addr) (s : Shared) (H : Hp) (Q : VK) (v1 : V) (tl : V → Hp → VK → Prop),
    (∀ (e : Expr) (ta : TE) (p1 p2 : Pos), PE (zCx X Ng x sg g cdg s H) e ta → starEach [e] (zCx X Ng x sg g cdg s H).env = (false, eval e (zCx X Ng x sg g cdg s H).env) :: starEach [] (zCx X Ng x sg g cdg s H).env →
      PE (zCx X Ng x sg g cdg s H) (.Call (.Name pf p1) [e] [] p2) (fun σZ HZ Q => σZ[i]? = some (some (.ref f)) ∧ ta σZ HZ fun v H1 => H1 c' = some (CodeO c' q) ∧ tl v H1 Q)) →
    H c' = some (CodeO c' q) → TT v1 tl H Q →
    ∃ t, PSs (zCx X Ng x sg g cdg s H) bg t ∧ t { nx := fun _ H' => Q .non H', rt := Q } (L2.start Ng [v1, .ref f]) H
def tLamP (T : List (Addr × Str)) (j : Nat) (TT : V → (V → Hp → VK → Prop) → Hp → VK → Prop) (t1 tb : TE) : TE := fun σ H Q => t1 σ H fun v1 H1 => Tabs T H1 ∧ ∀ H2, ExtN H1 H2 → Tabs T H2 → TT v1 (fun v H' Q' => tb (σ.set j (some v)) H' Q') H2 Q
section
variable {X : Cx}
/-- x(e1, lambda a: body) -/
theorem pe_lamcallP {T : List (Addr × Str)} {TT : V → (V → Hp → VK → Prop) → Hp → VK → Prop} {x a p1n pf : Str} {g c P : Addr} {k i j : Nat} {pg : Arguments} {bg : List Stmt} {sg : Scope} {fdg : FuncData} {Ng : List Str} {params : Arguments} {body e1 : Expr} {scope : Scope} {t1 tb : TE} {p lpos pos : Pos}
    (F : FunD X.K x x pg bg sg [] [] g fdg) (hb : L2.Binds X.K fdg [p1n, pf] []) (hg : Gl X x) (hm : X.mg x = some (.ref g)) (Sg : FnScope Ng [p1n, pf] sg) (hNg : Ng[i]? = some pf) (hv : Vis sg pf)
    (hG : ∀ cdg, GivesP X Ng x sg g cdg bg i pf (X.env.qual ++ "<lambda>") TT) (TB : TabB X.base X.mg c P) (hcode : X.env.code = .ref c) (hmT : (P, X.env.qual ++ "<lambda>") ∈ T) (hu : ∀ p ∈ T, p.1 = P → p.2 = X.env.qual ++ "<lambda>") (hr : Room (k + 2) X.A)
    (L : LamP X.env.scope scope a) (hj : X.N[j]? = some a) (hND : X.N.Nodup) (hdef : defaultsOf params X.env = ([], []))
    (hbind : ∀ (q : Str) (cl : List (Str × Addr)) (pm cv ctv u : Value), bindArgs (PySem.W.kla_fn "<lambda>" q params body scope cl pm cv ctv) ⟨[u], []⟩ = pure [(a, u)])
    (h1 : PE X e1 t1) (hbody : ∀ (A : Around) (outer : List Env) (s : Shared) (H : Hp) (f c' : Addr) (B : Addr), Room k (A.deeper (lamEnv X scope B f c')) → PE (lamCx X A outer s H E0 scope f c').nox body tb)
    (hs1 : starEach [e1, .Lambda params body scope lpos] X.env = (false, eval e1 X.env) :: starEach [.Lambda params body scope lpos] X.env := by rfl)
    (hdb : (x == ("__debug__" : Str)) = false := by decide) (hd : (pf == ("__debug__" : Str)) = false := by decide) (hcd : (pf == ("__classdict__" : Str)) = false := by decide) :
    PE X (.Call (.Name x p) [e1, .Lambda params body scope lpos] [] pos) (tLamP T j TT t1 tb) := by
  obtain ⟨oc, od, dV, kV, doc, pm, an, cdv, ct, osl, rfl, lk, hcdv, _, _⟩ := F.ex
  refine ⟨fun pins s σ H Q I h => ?_⟩
  refine wpAny_Call_Name_kw (ld_glob I hg hm ?_ hdb)
  refine PySem.W.callWith_K (h₀ := X.base) I.ok.mod.kin F.kp ?_ hs1 (by rfl)
  rw [hs1]
  show wpAny _ _ (spliced ((false, eval e1 X.env) :: (false, eval (.Lambda params body scope lpos) X.env) :: backTo pos (starEach [] X.env))) _ _ s
  refine Calls.spliced_cons (thn (h1.run pins s σ H _ I h) fun u1 s1 ⟨v1, H1, I1, r1, hT, q1⟩ => Calls.spliced_cons (lam_make2 I1 TB hcode hmT hu hT hdef (L.has I1.ok) fun f c' pm' ctv H2 s' I2 eN T1 hf hfn hfr hco => Calls.spliced_nil ⟨I2.kIn, ?_⟩))
  have rc : codeAny (model X.prog X.w) X.A (.call (.ref g) ⟨[u1, .ref f], []⟩) (CR CX0 X.stack X.prog X.w H2 s' Q E0) s' := by
    refine run_ofS (N := Ng) (ps := [p1n, pf]) (us := [u1, .ref f]) (vs := [v1, .ref f]) lk hcdv Sg hr I2.env0 (hb s' [u1, .ref f] I2.kIn rfl) (.cons r1 (.cons rfl .nil)) rfl fun hr' => ?_
    obtain ⟨t', ht', hq'⟩ := hG cdv f c' s' H2 Q v1 (fun v H' Q' => tb (σ.set j (some v)) H' Q') (fun e ta p1 p2 he hs => pe_actP (i := i) (k := k) I2 L hj hND hf hfn hfr (fun u => hbind _ _ _ _ _ u) hr' (fun A outer s H hr2 => hbody A outer s H f c' _ hr2) he hNg hv hd hcd hs) hco (q1 H2 eN T1)
    exact ⟨t', ht'.nox, hq'⟩
  refine wpAny_call (codeAny_mono rc fun r s2 hq => ?_)
  cases r with
  | error e' => exact hq.elim
  | ok fl =>
    cases fl with
    | ret z => exact I2.after hq
    | next => exact False.elim hq
    | brk => exact False.elim hq
    | cont => exact False.elim hq
end
end Pk

set_option maxRecDepth 100000
set_option maxHeartbeats 1000000
/-! sorted, of tuples whose first is the empty one -/
namespace Pk
open PySem PySem.Spec PyProof.Rows L2 PySem.SeqAt PySem.Calls PySem.W
section
variable {prog : Program} {w : World} {A : Around} {E : Value → Shared → Prop} {s : Shared}
theorem oneLt_tup {xs ys : List PyData} {a b : Value} {as bs : List Addr} {Q : Bool → Shared → Prop} (ra : Reads s.heap a (.tuple xs) as) (rb : Reads s.heap b (.tuple ys) bs) (pa : PyData.plainAll xs = true) (pb : PyData.plainAll ys = true) (hc : cpbs xs ys = true)
    (hu : A.units + min (PyData.tuple xs).depth (PyData.tuple ys).depth < cLine) (hq : Q (dlts xs ys) s) : wpAny (model prog w) A (oneLt' true a b) Q E s := by
  cases ra with
  | @tuple l o vs n _ as₁ h1 h2 h3 h4 =>
    cases rb with
    | @tuple l' o' vs' n' _ bs₁ k1 k2 k3 k4 =>
      have n1 : vs.size = xs.length := by simpa using ReadsAll.length _ _ _ h4
      have n2 : vs'.size = ys.length := by simpa using ReadsAll.length _ _ _ k4
      rw [← firstLt_dlts xs ys, ← n1, ← n2] at hq
      rw [oneLt'_eq]
      simp only [if_true]
      refine wpAny_bind (wpAny_cRoomFor (room_here hu) ?_)
      obtain ⟨c1, d1, x1, l1⟩ := o
      obtain ⟨c2, d2, x2, l2⟩ := o'
      simp only at h2 h3 k2 k3
      subst h2 h3 k2 k3
      refine wpAny_bind (wpAny_callSpecialIfBound?_slot (T := "tuple") ⟨_, h1, rfl⟩ F.slot_tuple_lt (call_meets F.slot_tuple_lt ⟨_, h1, rfl⟩ F.entry_tuple_lt (F.args_tuple_lt_2 _ _) (tupLt_first _ _ _ _ _ _ _ _ _ _ (pairEq xs ys) (fun j => dlt (xs.getD j .none) (ys.getD j .none))) ⟨h1, k1, fun j j1 j2 => ?_, fun j j1 j2 hm hj => ?_, ?_⟩))
      · have z := eqAt_plainAll xs ys A.in1 s vs.toList vs'.toList _ _ h4 k4 pa pb (room_in hu) j (by simpa using j1) (by simpa using j2)
        simpa using z
      · have z := rcLt_cpbs xs ys A.in1 s vs.toList vs'.toList _ _ h4 k4 pa pb hc (room_in hu) j (by simpa using j1) (by simpa using j2) hm hj
        simpa using z
      · exact wpAny_truthy_bool hq
end
section
variable {M : Model} {A : Around} {E : Value → Shared → Prop} {s : Shared}
def TupV (h : Heap) (v : Value) : Prop := ∃ a o xs n, v = .ref a ∧ h.get? a = some o ∧ o.cls = .type "tuple" ∧ o.data = .seq xs n
theorem first_tup {v : Value} {a : Addr} {o : Obj} {xs : Array Value} {n : Nat} (e : v = .ref a) (ho : s.heap.get? a = some o) (hc : o.cls = .type "tuple") (hd : o.data = .seq xs n) {Q : Option Value → Shared → Prop} (h : Q xs[0]? s) : wpAny M A (firstOfTuple' v) Q E s := by
  subst e
  rw [PySem.W.kas_first_eq]
  refine wpAny_bind (Looks.here (show Looks M s.heap (typeOf (.ref a)) o.cls from (Looks.ld ho).andThen .now) ?_)
  rw [hc, if_neg (by first | decide | simp)]
  exact wpAny_bind (listItems_at ho hd (wpAny_pure h))
theorem first_tups : ∀ (vs : List Value) {Q : List (Option Value) → Shared → Prop}, (∀ v ∈ vs, TupV s.heap v) → (∀ os, Q os s) → wpAny M A (vs.mapM firstOfTuple') Q E s
  | [], _, _, h => by rw [List.mapM_nil]; exact wpAny_pure (h _)
  | v :: vs, Q, t, h => by
    obtain ⟨a, o, xs, n, e, ho, hc, hd⟩ := t v (List.mem_cons_self ..)
    rw [List.mapM_cons]
    exact wpAny_bind (first_tup e ho hc hd (wpAny_bind (first_tups vs (Q := fun bs s' => wpAny M A (pure (xs[0]? :: bs)) Q E s') (fun u hu => t u (List.mem_cons_of_mem _ hu)) fun os => wpAny_pure (h _))))
theorem tup_type {v : Value} (h : TupV s.heap v) : Looks M s.heap (typeOf v) (.type "tuple") := by
  obtain ⟨a, o, xs, n, rfl, ho, hc, hd⟩ := h
  rw [← hc]
  exact (Looks.ld ho).andThen .now
theorem kind_empty {v : Value} {vs : List Value} {Q : SortKind → Shared → Prop} (h0 : ∃ a o n, v = .ref a ∧ s.heap.get? a = some o ∧ o.cls = .type "tuple" ∧ o.data = .seq #[] n) (t : ∀ u ∈ vs, TupV s.heap u) (h : Q oneType' s) : wpAny M A (keyKind' (v :: vs).toArray) Q E s := by
  obtain ⟨a, o, n, e, ho, hc, hd⟩ := h0
  have tv : TupV s.heap v := ⟨a, o, #[], n, e, ho, hc, hd⟩
  rw [PyProof.Rows.kat_kind_eq, List.mapM_toArray, map_eq_pure_bind]
  rw [List.mapM_cons]
  refine wpAny_bind (wpAny_bind (wpAny_bind (first_tup e ho hc hd (wpAny_bind (first_tups vs t fun os => wpAny_pure (wpAny_pure ?_))))))
  rw [if_neg (by simp), if_neg (by simp)]
  rw [oneTypeOnly'_eq, List.mapM_toArray, map_eq_pure_bind]
  refine wpAny_bind (wpAny_bind (wpAny_bind (PySem.W.kas_mapM (r := .type "tuple") _ (fun u hu Q' hq => ?_) (wpAny_pure ?_))))
  · rcases List.mem_cons.mp hu with rfl | hu
    · exact (tup_type tv).here hq
    · exact (tup_type (t u hu)).here hq
  have hall : ((List.map (fun _ => Value.type "tuple") (v :: vs)).toArray.all fun x => x == Value.type "tuple") = true := by
    simp only [List.all_toArray, List.all_map, List.all_eq_true]
    intro _ _
    exact beq_self_eq_true _
  have h1 : (List.map (fun _ => Value.type "tuple") (v :: vs)).toArray[0]? = some (Value.type "tuple") := by simp
  rw [h1]
  simp only [hall, if_true]
  exact wpAny_pure (wpAny_pure h)
end
section
variable {prog : Program} {w : World} {A : Around} {E : Value → Shared → Prop} {s : Shared} {β : Type} {enc : β → PyData} {tok : β → List (Int ⊕ List Nat)} {bs : List β}
theorem tupV_reads {h : Heap} {v : Value} {xs : List PyData} {as : List Addr} (r : Reads h v (.tuple xs) as) : TupV h v := by
  cases r with
  | @tuple l o vs n _ _ h1 h2 h3 h4 => exact ⟨l, o, vs, n, rfl, h1, h2, h3⟩
theorem sortsAt_enc0 {b0 : β} {vs : List Value} (e : PySem.W.EachIs (fun v b => ∃ as, Reads s.heap v (enc b) as) vs (b0 :: bs)) (e0 : enc b0 = .tuple []) (pl : ∀ b ∈ b0 :: bs, (enc b).plain = true) (inj : ∀ b ∈ b0 :: bs, ∀ c ∈ b0 :: bs, enc b = enc c → tok b = tok c)
    (tt : ∀ b ∈ b0 :: bs, ∃ x, enc b = .tuple x) (cmp : ∀ b ∈ b0 :: bs, ∀ c ∈ b0 :: bs, cpb (enc b) (enc c) = true ∧ dlt (enc b) (enc c) = PyProof.Rows.lexLt itemOrd (tok b) (tok c)) (hu : ∀ b ∈ b0 :: bs, A.units + (enc b).depth < cLine) :
    PySem.W.SortsAt prog w A s (encKind s.heap (b0 :: bs) enc tok) vs := by
  refine ⟨fun v hv => ?_, oneType', ?_, fun h2 E Q hq => ?_⟩
  · obtain ⟨b, hb, as, r⟩ := e.left v hv
    exact ⟨_, encKind_some pl inj hb r⟩
  · intro E x y a b Q ha hb hq
    obtain ⟨d, as, hd, ra, rfl⟩ := encKind_inv ha
    obtain ⟨c, cs, hc, rb, rfl⟩ := encKind_inv hb
    obtain ⟨c1, c2⟩ := cmp d hd c hc
    have hq' : Q (dlt (enc d) (enc c)) s := by
      rw [c2]
      exact hq
    have p1 := pl d hd
    have p2 := pl c hc
    have room : A.units + min (enc d).depth (enc c).depth < cLine := Nat.lt_of_le_of_lt (Nat.add_le_add_left (Nat.min_le_left _ _) _) (hu d hd)
    obtain ⟨x1, e1⟩ := tt d hd
    obtain ⟨x2, e2⟩ := tt c hc
    rw [e1] at ra hq' c1 p1 room
    rw [e2] at rb hq' c1 p2 room
    rw [keyLt'_oneType]
    exact oneLt_tup ra rb p1 p2 c1 room hq'
  · cases e with
    | cons h t =>
      obtain ⟨as, r⟩ := h
      rw [e0] at r
      cases r with
      | @tuple l o us n _ _ h1 h2' h3 h4 =>
        have nz : us.size = 0 := by simpa using ReadsAll.length _ _ _ h4
        have ez : us = #[] := Array.eq_empty_of_size_eq_zero nz
        subst ez
        refine kind_empty ⟨l, o, n, rfl, h1, h2', h3⟩ (fun u hu => ?_) hq
        obtain ⟨b, hb, as, r⟩ := t.left u hu
        obtain ⟨x, ex⟩ := tt b (List.mem_cons_of_mem _ hb)
        rw [ex] at r
        exact tupV_reads r
end
section
variable {β : Type}
structure Enc0 (dat : β → D) (tok : β → List (Int ⊕ List Nat)) (ok : β → Prop) : Prop where
  nol : ∀ b, ok b → noLd (dat b) = true
  dep : ∀ b, ok b → dep (dat b) ≤ 30
  inj : ∀ b c, ok b → ok c → toPy (dat b) = toPy (dat c) → tok b = tok c
  tup : ∀ b, ok b → ∃ r, dat b = .tup r
  cmp : ∀ b c, ok b → ok c → cpb (toPy (dat b)) (toPy (dat c)) = true ∧ dlt (toPy (dat b)) (toPy (dat c)) = PyProof.Rows.lexLt itemOrd (tok b) (tok c)
def rSort0 (K : PySem.W.Frag) (dat : β → D) (tok : β → List (Int ⊕ List Nat)) (ok : β → Prop) : List V → Hp → VK → Prop := fun vs H Q => ∃ (a : Addr) (xs : List V) (b0 : β) (bs : List β), vs = [V.ref a] ∧ SqL K H a xs ∧ Reps K H xs ((b0 :: bs).map dat) ∧ dat b0 = .tup [] ∧ (∀ b ∈ b0 :: bs, ok b) ∧
  ∀ (ys : List V) (p : Addr), Reps K H ys ((sortE tok (b0 :: bs)).map dat) → H p = none → Q (.ref p) (upd H p (.lst ys))
theorem cr_sort0 {X : Cx} {dat : β → D} {tok : β → List (Int ⊕ List Nat)} {ok : β → Prop} (hu : X.A.units + 64 < cLine) (N : Enc0 dat tok ok) : CallR X (.builtin "sorted") (rSort0 X.K dat tok ok) := by
  intro pins s σ H vs us Q I r h
  obtain ⟨a, xs, b0, bs, rfl, hs, hr, he0, hok, q⟩ := h
  obtain ⟨its, rv, hl, hz⟩ := I.list hs
  obtain ⟨u, rfl, ru⟩ := vals1 r
  obtain rfl : u = Value.ref a := ru
  have each := reps_each I hr rv fun b hb => N.nol b (hok b hb)
  have hlen : its.length ≤ sizeLine := by
    rw [← rv.length]
    exact hz
  have keep : ∀ b o, s.heap.get? b = some o → (PySem.W.sortingHeap (PySem.W.copyHeap s.heap its) (s.heap.objs.size + 1) its).get? b = some o := fun b o e => PySem.W.sorting_copy_old e
  have S : PySem.W.SortsAt X.prog X.w X.A.in1.in1 { s with heap := PySem.W.sortingHeap (PySem.W.copyHeap s.heap its) (s.heap.objs.size + 1) its } (encKind (PySem.W.sortingHeap (PySem.W.copyHeap s.heap its) (s.heap.objs.size + 1) its) (b0 :: bs) (fun b => toPy (dat b)) tok) its := by
    refine sortsAt_enc0 (each.mono fun v b z => ?_) (by rw [he0]; rfl) (fun b hb => plain_noL _ (N.nol b (hok b hb))) (fun b hb c hc => N.inj b c (hok b hb) (hok c hc)) (fun b hb => ?_) (fun b hb c hc => N.cmp b c (hok b hb) (hok c hc)) (fun b hb => ?_)
    · obtain ⟨⟨as, r⟩, _⟩ := z
      exact ⟨as, Reads.keeps keep r⟩
    · obtain ⟨r, e⟩ := N.tup b (hok b hb)
      rw [e]
      exact ⟨_, rfl⟩
    · have h1 := depth_noL (dat b)
      have h2 := N.dep b (hok b hb)
      show X.A.units + 1 + 1 + (toPy (dat b)).depth < cLine
      omega
  refine PySem.W.sorted_vals hl.isList S hlen ?_
  have out : PySem.W.EachIs (fun v b => ∃ x, RelV x v ∧ Rep X.K H x (dat b)) (PySem.W.sortVals (encKind (PySem.W.sortingHeap (PySem.W.copyHeap s.heap its) (s.heap.objs.size + 1) its) (b0 :: bs) (fun b => toPy (dat b)) tok) false its its) (sortE tok (b0 :: bs)) := by
    refine PySem.W.sortVals_each (κ := encKind (PySem.W.sortingHeap (PySem.W.copyHeap s.heap its) (s.heap.objs.size + 1) its) (b0 :: bs) (fun b => toPy (dat b)) tok) tok (each.mono fun v b z => z.2) ?_
    refine (PySem.W.each_mem each).mono fun v b z => ?_
    obtain ⟨⟨⟨as, r⟩, _⟩, hb⟩ := z
    exact encKind_some (fun b hb => plain_noL _ (N.nol b (hok b hb))) (fun b hb c hc => N.inj b c (hok b hb) (hok c hc)) hb (Reads.keeps keep r)
  obtain ⟨ys, v1, r1⟩ := each_back out
  have hl2 := v1.length
  rw [PySem.W.sortVals_length _ rfl] at hl2
  obtain ⟨n, hn⟩ := PyProof.Rows.sortedAll_at s.heap its (PySem.W.sortVals (encKind (PySem.W.sortingHeap (PySem.W.copyHeap s.heap its) (s.heap.objs.size + 1) its) (b0 :: bs) (fun b => toPy (dat b)) tok) false its its).toArray
  refine ⟨.ref _, _, I.laid (t' := s.toks) (o := .lst ys) (fun b o e => PyProof.Rows.sortedAll_old e) (Nat.le_succ _) ⟨?_, _, n, v1, hn⟩, rfl, q ys _ r1 (I.hok.fresh (Nat.le_succ _))⟩
  omega
end
end Pk

set_option maxRecDepth 100000
set_option maxHeartbeats 1000000
/-! sorted of a tuple of data -/
namespace Pk
open PySem PySem.Spec PyProof.Rows L2
section
open PySem.W PySem.Calls
variable {prog : Program} {w : World} {A : Around} {E : Value → Shared → Prop} {s : Shared}
theorem collect_tup {l : Addr} {vs : List Value} {o : Obj} {n : Nat} {Q : List Value → Shared → Prop} (ho : s.heap.get? l = some o) (hc : o.cls = .type "tuple") (hd : o.data = .seq vs.toArray n)
    (h : Q vs { s with heap := (s.heap.push (seqObj "list" #[] 0)).update s.heap.objs.size (Obj.mapSeq (· ++ vs.toArray)) }) (hsz : vs.length ≤ sizeLine) :
    wpAny (model prog w) A (collect (.ref l)) Q E s := by
  unfold collect
  refine wpAny_bind (wpAny_runValue (codeAny_builtin entry_proto_collect' ?_))
  show wpAny _ _ (do again (.builtin "list.__iadd__" ⟨[← newList [], .ref l], []⟩)) _ _ s
  refine wpAny_bind (wpAny_newList (wpAny_pure ⟨Code.quiet_builtin _ (by decide +kernel), codeAny_builtin entry_list_iadd' ?_⟩))
  show wpAny _ _ (Builtin.List.listExtendWith (.ref s.heap.objs.size) (.ref l) (.ref s.heap.objs.size)) _ _ { s with heap := s.heap.push (seqObj "list" #[] 0) }
  unfold Builtin.List.listExtendWith
  have ho' : (s.heap.push (seqObj "list" #[] 0)).get? l = some o := Heap.get?_push_of_some _ ho
  refine wpAny_bind (wpAny_typeOf (T := "tuple") ⟨o, ho', hc⟩ ?_)
  have ht : (Value.type "tuple" == Value.type "tuple") = true := by rfl
  rw [if_pos (by rw [ht]; simp)]
  refine wpAny_bind (listItems_at ho' hd ?_)
  refine wpAny_bind (listItems_at (xs := #[]) (n := 0) (Heap.get?_push_size _ rfl) rfl ?_)
  rw [if_neg (by simp)]
  refine wpAny_bind (listUpdate_at (xs := #[]) (n := 0) (Heap.get?_push_size _ rfl) rfl ?_ (Nat.zero_le _) (by show (#[] ++ vs.toArray).size ≤ sizeLine + 1; simp only [Array.size_append, List.size_toArray, List.length_nil]; omega))
  refine wpAny_pure ?_
  show wpAny (model prog w) A (do
      let o ← load s.heap.objs.size
      match o.data with
      | .seq xs _ => pure xs.toList
      | _ => unsupported "internal:collect") Q E { s with heap := (s.heap.push (seqObj "list" #[] 0)).update s.heap.objs.size (Obj.mapSeq (· ++ vs.toArray)) }
  refine wpAny_bind (wpAny_load (get?_update_seq (Heap.get?_push_size _ rfl) _) ?_)
  show wpAny _ _ (pure ((#[] : Array Value) ++ vs.toArray).toList) Q E _
  rw [show ((#[] : Array Value) ++ vs.toArray).toList = vs by simp]
  exact wpAny_pure h
theorem sorted_of_sortT {l : Addr} {vs : List Value} {kw : List (Str × Value)} {o : Obj} {n : Nat} {Q : Value → Shared → Prop} (ho : s.heap.get? l = some o) (hc : o.cls = .type "tuple") (hd : o.data = .seq vs.toArray n) (hL : vs.length ≤ sizeLine) (ha1 : argsOk "sorted" ⟨[.ref l], kw⟩) (ha2 : ∀ x, argsOk "list.sort" ⟨[.ref x], kw⟩)
    (body : ∀ E' : Value → Shared → Prop, wpAny (model prog w) A.in1.in1 (Builtin.«list.sort» ⟨[.ref (s.heap.objs.size + 1)], kw⟩) (fun f s' => f = .done (.ret .none) ∧ Q (.ref (s.heap.objs.size + 1)) s') E' { s with heap := copyHeap s.heap vs }) :
    wpAny (model prog w) A (call (.builtin "sorted") [.ref l] kw) Q E s := by
  refine call_function_entry_kw kind_sorted plain_sorted entry_sorted ha1 ?_
  unfold Builtin.«sorted»
  refine wpAny_bind (m := checkCount "sorted" 1 1 _) (wpAny_pure ?_)
  refine wpAny_bind (collect_tup ho hc hd ?_ hL)
  refine wpAny_bind (wpAny_newList ?_ hL)
  have hsz : ((s.heap.push (seqObj "list" #[] 0)).update s.heap.objs.size (Obj.mapSeq (· ++ vs.toArray))).objs.size = s.heap.objs.size + 1 := by
    rw [Heap.size_update, size_push']
  show wpAny _ _ _ _ _ { s with heap := copyHeap s.heap vs }
  rw [hsz]
  refine wpAny_bind (wpAny_holding (wpAny_call_entry_kw slot_list_sort ⟨_, copyHeap_at s.heap vs, rfl⟩ entry_list_sort ?body (ha2 _)))
  case body =>
    show wpAny (model prog w) A.in1.in1 (Builtin.«list.sort» ⟨[.ref (s.heap.objs.size + 1)], kw⟩) _ _ _
    refine wpAny_mono (body _) (fun f s' hf => ?_) fun _ _ e => e
    obtain ⟨rfl, hq⟩ := hf
    exact ⟨_, rfl, wpAny_pure ⟨_, rfl, hq⟩⟩
theorem sorted_valsT {κ : PyProof.Rows.KeyKind} {l : Addr} {vs : List Value} {o : Obj} {n : Nat} {Q : Value → Shared → Prop} (ho : s.heap.get? l = some o) (hc : o.cls = .type "tuple") (hd : o.data = .seq vs.toArray n) (S : SortsAt prog w A.in1.in1 { s with heap := sortingHeap (copyHeap s.heap vs) (s.heap.objs.size + 1) vs } κ vs) (hL : vs.length ≤ sizeLine)
    (h : Q (.ref (s.heap.objs.size + 1)) { s with heap := sortedAll s.heap vs (sortVals κ false vs vs).toArray }) : wpAny (model prog w) A (call (.builtin "sorted") [.ref l]) Q E s :=
  sorted_of_sortT ho hc hd hL (args_sorted1 _) (fun _ => args_list_sort _) fun _ => list_sort_vals (s := { s with heap := copyHeap s.heap vs }) (copyHeap_at s.heap vs) S hL ⟨rfl, h⟩
end
section
variable {β : Type}
def rSortET (K : PySem.W.Frag) (dat : β → D) (tok : β → List (Int ⊕ List Nat)) (ok : β → Prop) : List V → Hp → VK → Prop := fun vs H Q => ∃ (a : Addr) (xs : List V) (bs : List β), vs = [V.ref a] ∧ SqT K H a xs ∧ xs.length ≤ 1000000 ∧ Reps K H xs (bs.map dat) ∧ (∀ b ∈ bs, ok b) ∧
  ∀ (ys : List V) (p : Addr), Reps K H ys ((sortE tok bs).map dat) → H p = none → Q (.ref p) (upd H p (.lst ys))
theorem cr_sortET {X : Cx} {dat : β → D} {tok : β → List (Int ⊕ List Nat)} {ok : β → Prop} (hu : X.A.units + 64 < cLine) (N : Enc dat tok ok) : CallR X (.builtin "sorted") (rSortET X.K dat tok ok) := by
  intro pins s σ H vs us Q I r h
  obtain ⟨a, xs, bs, rfl, hs, hxl, hr, hok, q⟩ := h
  obtain ⟨its, rv, ⟨o0, ho0, hc0, n0, hd0⟩, hz0⟩ := I.tuple hs
  obtain ⟨u, rfl, ru⟩ := vals1 r
  obtain rfl : u = Value.ref a := ru
  have each := reps_each I hr rv fun b hb => N.nol b (hok b hb)
  have hlen : its.length ≤ sizeLine := by
    rw [← rv.length, sizeLine_eq]
    omega
  have keep : ∀ b o, s.heap.get? b = some o → (PySem.W.sortingHeap (PySem.W.copyHeap s.heap its) (s.heap.objs.size + 1) its).get? b = some o := fun b o e => PySem.W.sorting_copy_old e
  have S : PySem.W.SortsAt X.prog X.w X.A.in1.in1 { s with heap := PySem.W.sortingHeap (PySem.W.copyHeap s.heap its) (s.heap.objs.size + 1) its } (encKind (PySem.W.sortingHeap (PySem.W.copyHeap s.heap its) (s.heap.objs.size + 1) its) bs (fun b => toPy (dat b)) tok) its := by
    refine sortsAt_enc (each.mono fun v b z => ?_) (fun b hb => plain_noL _ (N.nol b (hok b hb))) (fun b hb c hc => N.inj b c (hok b hb) (hok c hc)) (fun b hb => ?_) (fun b hb c hc => N.cmp b c (hok b hb) (hok c hc)) (fun b hb => ?_)
    · obtain ⟨⟨as, r⟩, _⟩ := z
      exact ⟨as, Reads.keeps keep r⟩
    · obtain ⟨x, r, e⟩ := N.tup b (hok b hb)
      rw [e]
      exact ⟨_, _, rfl⟩
    · have h1 := depth_noL (dat b)
      have h2 := N.dep b (hok b hb)
      show X.A.units + 1 + 1 + (toPy (dat b)).depth < cLine
      omega
  refine sorted_valsT ho0 hc0 hd0 S hlen ?_
  have out : PySem.W.EachIs (fun v b => ∃ x, RelV x v ∧ Rep X.K H x (dat b)) (PySem.W.sortVals (encKind (PySem.W.sortingHeap (PySem.W.copyHeap s.heap its) (s.heap.objs.size + 1) its) bs (fun b => toPy (dat b)) tok) false its its) (sortE tok bs) := by
    refine PySem.W.sortVals_each (κ := encKind (PySem.W.sortingHeap (PySem.W.copyHeap s.heap its) (s.heap.objs.size + 1) its) bs (fun b => toPy (dat b)) tok) tok (each.mono fun v b z => z.2) ?_
    refine (PySem.W.each_mem each).mono fun v b z => ?_
    obtain ⟨⟨⟨as, r⟩, _⟩, hb⟩ := z
    exact encKind_some (fun b hb => plain_noL _ (N.nol b (hok b hb))) (fun b hb c hc => N.inj b c (hok b hb) (hok c hc)) hb (Reads.keeps keep r)
  obtain ⟨ys, v1, r1⟩ := each_back out
  have hl2 := v1.length
  rw [PySem.W.sortVals_length _ rfl] at hl2
  obtain ⟨n, hn⟩ := PyProof.Rows.sortedAll_at s.heap its (PySem.W.sortVals (encKind (PySem.W.sortingHeap (PySem.W.copyHeap s.heap its) (s.heap.objs.size + 1) its) bs (fun b => toPy (dat b)) tok) false its its).toArray
  refine ⟨.ref _, _, I.laid (t' := s.toks) (o := .lst ys) (fun b o e => PyProof.Rows.sortedAll_old e) (Nat.le_succ _) ⟨?_, _, n, v1, hn⟩, rfl, q ys _ r1 (I.hok.fresh (Nat.le_succ _))⟩
  omega
end
end Pk

set_option maxRecDepth 100000
set_option maxHeartbeats 1000000
/-! sorted, of tuples of tuples, empty ones among them -/
namespace Pk
open PySem PySem.Spec PyProof.Rows L2 PySem.SeqAt PySem.Calls PySem.W
section
variable {M : Model} {A : Around} {E : Value → Shared → Prop} {s : Shared}
def TupE (h : Heap) (v : Value) (e : Bool) : Prop := ∃ a o xs n, v = .ref a ∧ h.get? a = some o ∧ o.cls = .type "tuple" ∧ o.data = .seq xs n ∧ (xs[0]?).isSome = e
theorem first_tupsE : ∀ (vs : List Value) (es : List Bool) {Q : List (Option Value) → Shared → Prop}, Paired (TupE s.heap) vs es → (∀ os, os.map Option.isSome = es → Q os s) → wpAny M A (vs.mapM firstOfTuple') Q E s
  | [], _, Q, .nil, h => by rw [List.mapM_nil]; exact wpAny_pure (h [] rfl)
  | v :: vs, e :: es, Q, .cons ⟨a, o, xs, n, ev, ho, hc, hd, hx⟩ t, h => by
    rw [List.mapM_cons]
    exact wpAny_bind (first_tup ev ho hc hd (wpAny_bind (first_tupsE vs es (Q := fun bs s' => wpAny M A (pure (xs[0]? :: bs)) Q E s') t fun os ho => wpAny_pure (h _ (by rw [List.map_cons, hx, ho])))))
theorem kind_general {vs : List Value} {es : List Bool} {Q : SortKind → Shared → Prop} (p : Paired (TupE s.heap) vs (true :: es)) (hf : es.all id = false) (h : Q general' s) : wpAny M A (keyKind' vs.toArray) Q E s := by
  rw [PyProof.Rows.kat_kind_eq, List.mapM_toArray, map_eq_pure_bind]
  refine wpAny_bind (wpAny_bind (first_tupsE vs _ p fun os ho => wpAny_pure ?_))
  cases os with
  | nil => cases ho
  | cons o os =>
    rw [List.map_cons] at ho
    obtain ⟨h1, h2⟩ := List.cons.inj ho
    have h3 : ((o :: os).toArray.all fun x => x.isSome) = false := by
      rw [List.all_toArray, List.all_cons, h1, Bool.true_and]
      have : (os.map Option.isSome).all id = false := by rw [h2]; exact hf
      rw [List.all_map] at this
      exact this
    rw [if_neg (by rw [h3]; exact Bool.false_ne_true), if_pos (by show (((o :: os).toArray[0]?).bind id).isSome = true; simpa using h1)]
    exact wpAny_pure h
end
section
variable {prog : Program} {w : World} {A : Around} {E : Value → Shared → Prop} {s : Shared} {β : Type} {enc : β → PyData} {tok : β → List (Int ⊕ List Nat)} {bs : List β}
/-- whether data is a tuple of something -/
def fullB : PyData → Bool
  | .tuple (_ :: _) => true
  | _ => false
theorem each_tupE {h : Heap} : ∀ {vs : List Value} {bs : List β}, PySem.W.EachIs (fun v b => ∃ as, Reads h v (enc b) as) vs bs → (∀ b ∈ bs, ∃ x, enc b = .tuple x) → Paired (TupE h) vs (bs.map fun b => fullB (enc b))
  | _, _, .nil, _ => .nil
  | _, b :: bs, .cons ⟨as, r⟩ t, hx => by
    refine .cons ?_ (each_tupE t fun c hc => hx c (List.mem_cons_of_mem _ hc))
    obtain ⟨x, ex⟩ := hx b (List.mem_cons_self ..)
    show TupE h _ (fullB (enc b))
    rw [ex] at r ⊢
    cases r with
    | @tuple l o us n _ _ h1 h2 h3 h4 =>
      refine ⟨l, o, us, n, rfl, h1, h2, h3, ?_⟩
      have nz : us.size = x.length := by simpa using ReadsAll.length _ _ _ h4
      cases x with
      | nil =>
        have ez : us = #[] := Array.eq_empty_of_size_eq_zero nz
        subst ez; rfl
      | cons y ys =>
        have : 0 < us.size := by rw [nz]; exact Nat.succ_pos _
        rw [Array.getElem?_eq_getElem this]; rfl
theorem sortsAt_encG {vs : List Value} (e : PySem.W.EachIs (fun v b => ∃ as, Reads s.heap v (enc b) as) vs bs) (pl : ∀ b ∈ bs, (enc b).plain = true) (inj : ∀ b ∈ bs, ∀ c ∈ bs, enc b = enc c → tok b = tok c)
    (tt : ∀ b ∈ bs, enc b = .tuple [] ∨ ∃ x r, enc b = .tuple (.tuple x :: r)) (cmp : ∀ b ∈ bs, ∀ c ∈ bs, cpb (enc b) (enc c) = true ∧ dlt (enc b) (enc c) = PyProof.Rows.lexLt itemOrd (tok b) (tok c)) (hu : ∀ b ∈ bs, A.units + (enc b).depth < cLine) :
    PySem.W.SortsAt prog w A s (encKind s.heap bs enc tok) vs := by
  have tt' : ∀ b ∈ bs, ∃ x, enc b = .tuple x := fun b hb => by
    rcases tt b hb with h | ⟨x, r, h⟩
    · exact ⟨_, h⟩
    · exact ⟨_, h⟩
  by_cases hall : ∀ b ∈ bs, enc b ≠ .tuple []
  · exact sortsAt_enc e pl inj (fun b hb => (tt b hb).resolve_left (hall b hb)) cmp hu
  cases bs with
  | nil => exact absurd (fun b hb => by cases hb) hall
  | cons b0 bs =>
    by_cases h0 : enc b0 = .tuple []
    · exact sortsAt_enc0 e h0 pl inj tt' cmp hu
    · have p := each_tupE e tt'
      have f0 : fullB (enc b0) = true := by
        obtain ⟨x, r, h⟩ := (tt b0 (List.mem_cons_self ..)).resolve_left h0
        rw [h]; rfl
      have fs : (bs.map fun b => fullB (enc b)).all id = false := by
        cases q : (bs.map fun b => fullB (enc b)).all id with
        | false => rfl
        | true =>
          refine absurd (fun b hb hz => ?_) hall
          rcases List.mem_cons.mp hb with rfl | hb
          · exact h0 hz
          · have := List.all_eq_true.mp q _ (List.mem_map.mpr ⟨b, hb, rfl⟩)
            rw [hz] at this
            cases this
      rw [List.map_cons, f0] at p
      refine ⟨fun v hv => ?_, general', ?_, fun h2 E Q hq => kind_general p fs hq⟩
      · obtain ⟨b, hb, as, r⟩ := e.left v hv
        exact ⟨_, encKind_some pl inj hb r⟩
      · intro E x y a b Q ha hb hq
        obtain ⟨d, as, hd, ra, rfl⟩ := encKind_inv ha
        obtain ⟨c, cs, hc, rb, rfl⟩ := encKind_inv hb
        obtain ⟨c1, c2⟩ := cmp d hd c hc
        have hq' : Q (dlt (enc d) (enc c)) s := by
          rw [c2]
          exact hq
        have p1 := pl d hd
        have p2 := pl c hc
        have room : A.units + min (enc d).depth (enc c).depth < cLine := Nat.lt_of_le_of_lt (Nat.add_le_add_left (Nat.min_le_left _ _) _) (hu d hd)
        obtain ⟨x1, e1⟩ := tt' d hd
        show wpAny (model prog w) A (oneLt' false x y) Q E s
        exact PySem.W.kat_one _ _ (rcLt_cpb (enc d) (enc c) A s _ _ _ _ ra rb p1 p2 c1 (by rw [e1]; intro z; cases z) room prog w _ _ hq')
end
end Pk

set_option maxRecDepth 100000
set_option maxHeartbeats 1000000
/-! sorted of a tuple of kinds -/
namespace Pk
open PySem PySem.Spec PyProof.Rows L2
mutual
theorem noL_k : ∀ {d : D}, isK d = true → noLd d = true
  | .tup ts, h => noL_ks (l := ts) h
  | .at _, h => by cases h
  | .lst, h => by cases h
theorem noL_ks : ∀ {l : List D}, isKs l = true → noLds l = true
  | [], _ => rfl
  | t :: r, h => by
    have h' := Bool.and_eq_true_iff.mp (show (isK t && isKs r) = true from h)
    show (noLd t && noLds r) = true
    rw [noL_k h'.1, noL_ks h'.2]; rfl
end
mutual
theorem cpb_k : ∀ {a b : D}, isK a = true → isK b = true → cpb (toPy a) (toPy b) = true
  | .tup ts, .tup us, h, h' => cpb_ks (a := ts) (b := us) h h'
  | .at _, _, h, _ => by cases h
  | .lst, _, h, _ => by cases h
  | .tup _, .at _, _, h => by cases h
  | .tup _, .lst, _, h => by cases h
theorem cpb_ks : ∀ {a b : List D}, isKs a = true → isKs b = true → cpbs (toPys a) (toPys b) = true
  | [], [], _, _ => rfl
  | [], _ :: _, _, _ => rfl
  | _ :: _, [], _, _ => rfl
  | x :: xs, y :: ys, h, h' => by
    have h1 := Bool.and_eq_true_iff.mp (show (isK x && isKs xs) = true from h)
    have h2 := Bool.and_eq_true_iff.mp (show (isK y && isKs ys) = true from h')
    have c1 := cpb_k h1.1 h2.1
    have c2 := cpb_ks h1.2 h2.2
    show cpbs (toPy x :: toPys xs) (toPy y :: toPys ys) = true
    rw [cpbs]
    simp [c1, c2]
end
theorem cmpK {b c : D} (hb : isK b = true) (hc : isK c = true) : cpb (toPy b) (toPy c) = true ∧ dlt (toPy b) (toPy c) = PyProof.Rows.lexLt itemOrd (tkD b) (tkD c) := by
  have h := cpb_k hb hc
  refine ⟨h, ?_⟩
  have z := tk_lex b c (noL_k hb) (noL_k hc) h [] []
  rw [List.append_nil, List.append_nil] at z
  refine Eq.trans ?_ z.symm
  cases e : PyData.eqv (toPy b) (toPy c) with
  | true =>
    rw [if_pos rfl, dlt_eqv _ _ e h]
    rfl
  | false => rw [if_neg Bool.false_ne_true]
theorem kind_form {b : D} (h : isK b = true) : toPy b = .tuple [] ∨ ∃ x r, toPy b = .tuple (.tuple x :: r) := by
  obtain ⟨ts, rfl, k⟩ := isK_inv h
  cases ts with
  | nil => exact .inl rfl
  | cons t r =>
    have k' := Bool.and_eq_true_iff.mp (show (isK t && isKs r) = true from k)
    obtain ⟨us, rfl, _⟩ := isK_inv k'.1
    exact .inr ⟨_, _, rfl⟩
section
def rSortK (K : PySem.W.Frag) : List V → Hp → VK → Prop := fun vs H Q => ∃ (a : Addr) (xs : List V) (ds : List D), vs = [V.ref a] ∧ SqT K H a xs ∧ xs.length ≤ 1000000 ∧ Reps K H xs ds ∧ isKs ds = true ∧ (∀ d, d ∈ ds → dep d ≤ 30) ∧
  ∀ (ys : List V) (es : List D) (p : Addr), es.Perm ds → Reps K H ys es → H p = none → Q (.ref p) (upd H p (.lst ys))
theorem cr_sortK {X : Cx} (hu : X.A.units + 64 < cLine) : CallR X (.builtin "sorted") (rSortK X.K) := by
  intro pins s σ H vs us Q I r h
  obtain ⟨a, xs, bs, rfl, hs, hxl, hr, hks, hdp, q⟩ := h
  have hok : ∀ b ∈ bs, isK b = true := fun b hb => isK_mem hks hb
  have nolk : ∀ b ∈ bs, noLd b = true := fun b hb => noL_k (hok b hb)
  have hr : Reps X.K H xs (bs.map id) := by rw [List.map_id]; exact hr
  obtain ⟨its, rv, ⟨o0, ho0, hc0, n0, hd0⟩, hz0⟩ := I.tuple hs
  obtain ⟨u, rfl, ru⟩ := vals1 r
  obtain rfl : u = Value.ref a := ru
  have each := reps_each (dat := id) I hr rv nolk
  have hlen : its.length ≤ sizeLine := by
    rw [← rv.length, sizeLine_eq]
    omega
  have keep : ∀ b o, s.heap.get? b = some o → (PySem.W.sortingHeap (PySem.W.copyHeap s.heap its) (s.heap.objs.size + 1) its).get? b = some o := fun b o e => PySem.W.sorting_copy_old e
  have S : PySem.W.SortsAt X.prog X.w X.A.in1.in1 { s with heap := PySem.W.sortingHeap (PySem.W.copyHeap s.heap its) (s.heap.objs.size + 1) its } (encKind (PySem.W.sortingHeap (PySem.W.copyHeap s.heap its) (s.heap.objs.size + 1) its) bs (fun b => toPy b) tkD) its := by
    refine sortsAt_encG (each.mono fun v b z => ?_) (fun b hb => plain_noL _ (nolk b hb)) (fun b hb c hc h => tk_inj _ _ h) (fun b hb => ?_) (fun b hb c hc => cmpK (hok b hb) (hok c hc)) (fun b hb => ?_)
    · obtain ⟨⟨as, r⟩, _⟩ := z
      exact ⟨as, Reads.keeps keep r⟩
    · exact kind_form (hok b hb)
    · have h1 := depth_noL b
      have h2 := hdp b hb
      show X.A.units + 1 + 1 + (toPy b).depth < cLine
      omega
  refine sorted_valsT ho0 hc0 hd0 S hlen ?_
  have out : PySem.W.EachIs (fun v b => ∃ x, RelV x v ∧ Rep X.K H x b) (PySem.W.sortVals (encKind (PySem.W.sortingHeap (PySem.W.copyHeap s.heap its) (s.heap.objs.size + 1) its) bs (fun b => toPy b) tkD) false its its) (sortE tkD bs) := by
    refine PySem.W.sortVals_each (κ := encKind (PySem.W.sortingHeap (PySem.W.copyHeap s.heap its) (s.heap.objs.size + 1) its) bs (fun b => toPy b) tkD) tkD (each.mono fun v b z => z.2) ?_
    refine (PySem.W.each_mem each).mono fun v b z => ?_
    obtain ⟨⟨⟨as, r⟩, _⟩, hb⟩ := z
    exact encKind_some (fun b hb => plain_noL _ (nolk b hb)) (fun b hb c hc h => tk_inj _ _ h) hb (Reads.keeps keep r)
  obtain ⟨ys, v1, r1⟩ := each_back out
  have hl2 := v1.length
  rw [PySem.W.sortVals_length _ rfl] at hl2
  obtain ⟨n, hn⟩ := PyProof.Rows.sortedAll_at s.heap its (PySem.W.sortVals (encKind (PySem.W.sortingHeap (PySem.W.copyHeap s.heap its) (s.heap.objs.size + 1) its) bs (fun b => toPy b) tkD) false its its).toArray
  refine ⟨.ref _, _, I.laid (t' := s.toks) (o := .lst ys) (fun b o e => PyProof.Rows.sortedAll_old e) (Nat.le_succ _) ⟨?_, _, n, v1, hn⟩, rfl, q ys _ _ (sortE_perm tkD bs) (by rw [show (sortE tkD bs).map (fun b => b) = sortE tkD bs from List.map_id _] at r1; exact r1) (I.hok.fresh (Nat.le_succ _))⟩
  omega
end
end Pk

set_option maxRecDepth 100000
set_option maxHeartbeats 4000000
/-! list comprehensions of any number of clauses: each clause's loop by itself -/
namespace Pk
open PySem PySem.Spec PyProof.Rows L2
section
variable {elt tg iter tgn itern : Expr} {ifs ifsn : List Expr} {gs : List Comprehension} {scope : Scope} {pos : Pos} {k : Nat} {itv acc : Value} {env : Env}
theorem turn_mid (h0 : gs[k]? = some ⟨tg, iter, ifs, 0⟩) (h1 : gs[k + 1]? = some ⟨tgn, itern, ifsn, 0⟩) :
    compTurn (.ListComp elt gs scope pos) k itv acc env = (do
      standAt iter.pos
      match ← pyNext itv with
      | none => pure (.done .next)
      | some v =>
        letOwnedTupleGo tg itv v
        assign tg env v
        let mut good := true
        for c in ifs do
          if good then good ← isTrue c env (eval c env)
        if good then
          let src ← eval itern env
          standAt itern.pos
          let src ← foldedSetIterable itern env src
          let _ ← runOwn (.compStart (.ListComp elt gs scope pos) (k + 1) (← holding [src] (pyIter src)) acc env) env
        again (.compLoop (.ListComp elt gs scope pos) k itv acc env)) := by
  unfold compTurn
  simp only [h0, h1]
  rfl
theorem turn_last (h0 : gs[k]? = some ⟨tg, iter, ifs, 0⟩) (h1 : gs[k + 1]? = none) :
    compTurn (.ListComp elt gs scope pos) k itv acc env = (do
      standAt iter.pos
      match ← pyNext itv with
      | none => pure (.done .next)
      | some v =>
        letOwnedTupleGo tg itv v
        assign tg env v
        let mut good := true
        for c in ifs do
          if good then good ← isTrue c env (eval c env)
        if good then
          (do let _ ← call (.builtin "list.append") [acc, ← eval elt env])
        again (.compLoop (.ListComp elt gs scope pos) k itv acc env)) := by
  unfold compTurn
  simp only [h0, h1]
  rfl
variable {prog : Program} {w : World} {A : Around} {R : Result → Shared → Prop} {s : Shared}
/-- the tests of a clause -/
abbrev goodC (ifs : List Expr) (env : Env) : Sem Bool := forIn ifs true fun c r => if r = true then do let ok ← isTrue c env (eval c env); pure (ForInStep.yield ok) else pure (ForInStep.yield r)
/-- what is wanted of a turn, up to its tests: Y what then is done -/
abbrev UpTo (prog : Program) (w : World) (A : Around) (tg : Expr) (ifs : List Expr) (itv : Value) (env : Env) (Stop : Shared → Prop) (Y : Shared → Prop) (N : Shared → Prop) (s : Shared) : Prop :=
  wpAny (model prog w) A (pyNext itv) (fun r sa => match r with
    | none => Stop sa
    | some v => wpAny (model prog w) A (letOwnedTupleGo tg itv v) (fun _ sb => wpAny (model prog w) A (assign tg env v) (fun _ sc => wpAny (model prog w) A (goodC ifs env) (fun ok sd => if ok = true then Y sd else N sd) (fun _ _ => False) sc) (fun _ _ => False) sb) (fun _ _ => False) sa) (fun _ _ => False) s
theorem loop_mid (h0 : gs[k]? = some ⟨tg, iter, ifs, 0⟩) (h1 : gs[k + 1]? = some ⟨tgn, itern, ifsn, 0⟩) (hs : ∀ x, foldedSetIterable itern env x = pure x) (W : Nat → Shared → Prop)
    (turn : ∀ n s, W n s → UpTo prog w A tg ifs itv env (R (.ok .next)) (fun sd => wpAny (model prog w) A (eval itern env) (fun x se => wpAny (model prog w) A (pyIter x) (fun it1 sf =>
      codeAny (model prog w) A (.compStart (.ListComp elt gs scope pos) (k + 1) it1 acc env) (fun r s' => match r with | .ok _ => ∃ m, m < n ∧ W m s' | .error _ => False) sf) (fun _ _ => False) se) (fun _ _ => False) sd) (fun sd => ∃ m, m < n ∧ W m sd) s)
    (n : Nat) (h : W n s) : codeAny (model prog w) A (.compLoop (.ListComp elt gs scope pos) k itv acc env) R s := by
  refine codeAny_loop rfl W (fun n s hW => ?_) n h
  show wpAny _ A ((compTurn (.ListComp elt gs scope pos) k itv acc env).onRaise (fun x => do noteFrame x env; theTreesLotGoes x)) _ _ s
  refine wpAny_noted ?_
  rw [turn_mid h0 h1]
  refine wpAny_bind (wpAny_standAt (wpAny_bind (wpAny_mono (turn n s hW) (fun r sa ha => ?_) fun _ _ z => z.elim)))
  cases r with
  | none => exact wpAny_pure ha
  | some v =>
    refine wpAny_bind (wpAny_mono ha (fun _ sb hb => ?_) fun _ _ z => z.elim)
    refine wpAny_bind (wpAny_mono hb (fun _ sc hc => wpAny_bind (wpAny_mono hc (fun ok sd hd => ?_) fun _ _ z => z.elim)) fun _ _ z => z.elim)
    cases ok with
    | false => exact wpAny_pure ⟨rfl, hd⟩
    | true =>
      refine wpAny_bind (wpAny_mono hd (fun x se he => ?_) fun _ _ z => z.elim)
      refine wpAny_bind (wpAny_standAt (wpAny_bind (wpAny_of_eq (hs x) (wpAny_bind (wpAny_holding (wpAny_mono he (fun it1 sf hf => ?_) fun _ _ z => z.elim))))))
      refine wpAny_bind (wpAny_runOwn ?_)
      rw [Around.mark_none]
      refine codeAny_mono hf fun r s' hr => ?_
      cases r with
      | error e => exact hr.elim
      | ok f =>
        first
          | exact wpAny_bind (wpAny_pure (wpAny_pure ⟨rfl, hr⟩))
          | exact wpAny_pure ⟨rfl, hr⟩
theorem loop_last (h0 : gs[k]? = some ⟨tg, iter, ifs, 0⟩) (h1 : gs[k + 1]? = none) (W : Nat → Shared → Prop)
    (turn : ∀ n s, W n s → UpTo prog w A tg ifs itv env (R (.ok .next)) (fun sd => wpAny (model prog w) A (eval elt env) (fun x se => wpAny (model prog w) A (call (.builtin "list.append") [acc, x]) (fun _ sf => ∃ m, m < n ∧ W m sf) (fun _ _ => False) se) (fun _ _ => False) sd) (fun sd => ∃ m, m < n ∧ W m sd) s)
    (n : Nat) (h : W n s) : codeAny (model prog w) A (.compLoop (.ListComp elt gs scope pos) k itv acc env) R s := by
  refine codeAny_loop rfl W (fun n s hW => ?_) n h
  show wpAny _ A ((compTurn (.ListComp elt gs scope pos) k itv acc env).onRaise (fun x => do noteFrame x env; theTreesLotGoes x)) _ _ s
  refine wpAny_noted ?_
  rw [turn_last h0 h1]
  refine wpAny_bind (wpAny_standAt (wpAny_bind (wpAny_mono (turn n s hW) (fun r sa ha => ?_) fun _ _ z => z.elim)))
  cases r with
  | none => exact wpAny_pure ha
  | some v =>
    refine wpAny_bind (wpAny_mono ha (fun _ sb hb => ?_) fun _ _ z => z.elim)
    refine wpAny_bind (wpAny_mono hb (fun _ sc hc => wpAny_bind (wpAny_mono hc (fun ok sd hd => ?_) fun _ _ z => z.elim)) fun _ _ z => z.elim)
    cases ok with
    | false => exact wpAny_pure ⟨rfl, hd⟩
    | true =>
      exact wpAny_bind (wpAny_bind (wpAny_mono hd (fun x se he => wpAny_bind (wpAny_mono he (fun _ sf hf => wpAny_pure (wpAny_pure ⟨rfl, hf⟩)) fun _ _ z => z.elim)) fun _ _ z => z.elim))
theorem start_at (h0 : gs[k]? = some ⟨tg, iter, ifs, 0⟩) (hl : codeAny (model prog w) A (.compLoop (.ListComp elt gs scope pos) k itv acc env) R s)
    (h : wpAny (model prog w) A (pyIter itv) (fun it' s' => codeAny (model prog w) A (.compLoop (.ListComp elt gs scope pos) k it' acc env) R s') (notedBy (model prog w) A env fun x s' => R (.error x) s') s) :
    codeAny (model prog w) A (.compStart (.ListComp elt gs scope pos) k itv acc env) R s := by
  refine codeAny_of_tree ?_
  show wpAny _ _ ((compStart (.ListComp elt gs scope pos) k itv acc env).onRaise (fun x => do noteFrame x env; standAt theWindowsPlace)) _ _ s
  refine wpAny_notedAt ?_
  unfold compStart
  rw [show clausesOf (.ListComp elt gs scope pos) = gs from rfl, h0]
  show wpAny _ _ (ask >>= _) _ _ s
  refine wpAny_bind (wpAny_askSetting (wpAny_ite ?_))
  split
  · first
      | exact wpAny_pure (And.intro rfl hl)
      | exact wpAny_bind (wpAny_pure (wpAny_pure (And.intro rfl hl)))
  · first
      | exact wpAny_bind (wpAny_rule (wpAny_bind (wpAny_standAt (wpAny_bind (wpAny_mono h (fun it' s' h' => wpAny_pure (And.intro rfl h')) fun _ _ x => x)))))
      | (refine wpAny_bind (wpAny_rule ?_); show wpAny _ _ (standAt iter.pos >>= _) _ _ s; exact wpAny_bind (wpAny_standAt (wpAny_bind (wpAny_mono h (fun it' s' h' => wpAny_pure (And.intro rfl h')) fun _ _ x => x))))
end
/-- a clause's loop, from an iterator that stands: each turn stores, tests, and goes on with rest -/
abbrev TR := L2.St → Hp → (Hp → Prop) → Prop
def tLoop (g : TG) (tt : TT) (rest : TR) (vs : List Nat) (J : It) : TR := fun σ H Nx =>
  ∃ W : Nat → Nat → Hp → Prop, (∃ m, W 0 m H) ∧ ∀ i m G, W i m G → (J.stop i G ∧ Nx G) ∨ (J.go i G ∧ ∃ Ny : Hp → Prop, (∀ G', Ny G' → ∃ m', m' < m ∧ W (i + 1) m' G') ∧
    ∀ x G', J.yld i G x G' → g x (wipe σ vs) G' fun σ2 G2 => wipe σ2 vs = wipe σ vs ∧ tt σ2 G2 fun b G3 => if b = true then rest σ2 G3 Ny else Ny G3)
def tItem (te : TE) (D : Addr) : TR := fun σ H Nx => te σ H fun y H1 => ∃ acc, H1 D = some (.lst acc) ∧ acc.length < sizeLine ∧ Nx (upd H1 D (.lst (acc ++ [y])))
def tInner (wi : TI) (T : It → TR) : TR := fun σ H Nx => wi σ H fun J H1 => T J σ H1 Nx
/-- the loop of clause k is read by T; vs are the slots that it stores -/
def LpOk (Y : Cx) (elt : Expr) (gs : List Comprehension) (scope : Scope) (pos : Pos) (D : Addr) (k : Nat) (tg : Expr) (vs : List Nat) (T : It → TR) : Prop :=
  ∀ (pins : List (Addr × Obj)) (s : Shared) (σ : L2.St) (H : Hp) (Nx : Hp → Prop) (it : Addr) (fp : List Addr) (tn : Nat → Heap → Prop) (J : It), Inv Y pins σ H s → Turn Y.prog Y.w Y.K tg J fp it tn → tn 0 s.heap → (∀ b ∈ fp, FpOk Y pins H b) → T J σ H Nx →
    codeAny (model Y.prog Y.w) Y.A (.compStart (.ListComp elt gs scope pos) k (.ref it) (.ref D) Y.env) (fun r s' => match r with | .ok f => f = .next ∧ ∃ H', Inv Y pins (wipe σ vs) H' s' ∧ Nx H' | .error _ => False) s
section
variable {Y : Cx} {elt tg iter tgn itern : Expr} {ifs ifsn : List Expr} {gs : List Comprehension} {scope : Scope} {pos : Pos} {k : Nat} {D : Addr} {g : TG} {tt : TT} {te : TE} {vs vsn : List Nat} {wi : TI} {T : It → TR}
theorem wipe_off {σ : L2.St} {i : Nat} : ∀ {vs : List Nat}, i ∉ vs → (wipe σ vs)[i]? = σ[i]?
  | [], _ => rfl
  | v :: vs, h => by
    unfold wipe
    rw [List.getElem?_set_ne (fun e => h (by rw [e]; exact List.mem_cons_self))]
    exact wipe_off fun m => h (List.mem_cons_of_mem _ m)
theorem lp_fin {pins : List (Addr × Obj)} {σ σ8 σ' : L2.St} {H' : Hp} {s' : Shared} {h7 : Heap} {fp : List Addr} {it : Addr} {tn : Nat → Heap → Prop} {J : It} {i : Nat} (Tn : Turn Y.prog Y.w Y.K tg J fp it tn) (st : tn i h7) (I : Inv Y (pins ++ pinsAt fp h7) σ' H' s')
    (e8 : wipe σ8 vs = wipe σ vs) (hl : σ'.length = σ8.length) (hk : ∀ (j : Nat) v, (wipe σ8 vs)[j]? = some (some v) → σ'[j]? = some (some v)) : Inv Y pins (wipe σ vs) H' s' ∧ tn i s'.heap ∧ ∀ b ∈ fp, H' b = none := by
  have pinned : ∀ b ∈ fp, ∀ o, h7.get? b = some o → s'.heap.get? b = some o ∧ H' b = none := fun b hb o e =>
    let z := I.pin (b, o) (List.mem_append_right _ (List.mem_append_right _ (mem_pinsAt hb e)))
    ⟨z.1, z.2.1⟩
  refine ⟨I.unpinned.weak (by rw [← e8, wipe_length, hl]) (fun j v e => hk j v (by rw [e8]; exact e)), Tn.keep _ _ _ st fun b hb o e => (pinned b hb o e).1, fun b hb => ?_⟩
  obtain ⟨o, e, _⟩ := Tn.obj _ _ st b hb
  exact (pinned b hb o e).2
theorem lp_turn (hc : Y.calm = true) (hx : Y.xe = fun _ _ => False) (hg : PG Y tg g) (ht : PTs Y ifs tt) {rest : TR} {pins : List (Addr × Obj)} {s : Shared} {σ : L2.St} {G : Hp} {Ny : Hp → Prop} {it : Addr} {fp : List Addr} {tn : Nat → Heap → Prop} {J : It} {i : Nat} {Stop Yes No : Shared → Prop}
    (I : Inv Y pins (wipe σ vs) G s) (Tn : Turn Y.prog Y.w Y.K tg J fp it tn) (st : tn i s.heap) (hf : ∀ b ∈ fp, FpOk Y pins G b) (go : J.go i G)
    (step : ∀ x G', J.yld i G x G' → g x (wipe σ vs) G' fun σ2 G2 => wipe σ2 vs = wipe σ vs ∧ tt σ2 G2 fun b G3 => if b = true then rest σ2 G3 Ny else Ny G3)
    (hyes : ∀ sd h7 σ8 H8, Inv Y (pins ++ pinsAt fp h7) σ8 H8 sd → tn (i + 1) h7 → wipe σ8 vs = wipe σ vs → rest σ8 H8 Ny → Yes sd)
    (hno : ∀ sd h7 σ8 H8, Inv Y (pins ++ pinsAt fp h7) σ8 H8 sd → tn (i + 1) h7 → wipe σ8 vs = wipe σ vs → Ny H8 → No sd) :
    UpTo Y.prog Y.w Y.A tg ifs (.ref it) Y.env Stop Yes No s := by
  refine thnF (Tn.item Y rfl rfl rfl hc i pins s _ G (fun _ _ => False) I hf st go) fun r sa ⟨u, hr, ha⟩ => ?_
  subst hr
  refine thnF ha fun _ sb ⟨x, H7, I7, r7, y7, st7, n7⟩ => ?_
  have I8 := I7.pinned (fun b hb => (⟨n7 b hb, (hf b hb).2⟩ : FpOk Y pins H7 b)) (Tn.obj _ _ st7)
  have pg := hg.run _ sb _ H7 x u _ I8 r7 (step x H7 y7)
  rw [hx] at pg
  refine thnF pg fun _ sc ⟨σ8, H8, I9, hw, q9⟩ => ?_
  have pt := ht.run _ sc σ8 H8 _ I9 q9
  rw [hx] at pt
  refine thnF pt fun b sd ⟨H9, Id, qd⟩ => ?_
  cases b with
  | false => exact hno sd sb.heap σ8 H9 Id st7 hw qd
  | true => exact hyes sd sb.heap σ8 H9 Id st7 hw qd
theorem lp_last (hc : Y.calm = true) (hx : Y.xe = fun _ _ => False) (h0 : gs[k]? = some ⟨tg, iter, ifs, 0⟩) (h1 : gs[k + 1]? = none) (hg : PG Y tg g) (ht : PTs Y ifs tt) (he : PE Y elt te) :
    LpOk Y elt gs scope pos D k tg vs (tLoop g tt (tItem te D) vs) := by
  intro pins s σ H Nx it fp tn J I Tn st hf ⟨W, ⟨m0, w0⟩, turn⟩
  have lp : codeAny (model Y.prog Y.w) Y.A (.compLoop (.ListComp elt gs scope pos) k (.ref it) (.ref D) Y.env) (fun r s' => match r with | .ok f => f = .next ∧ ∃ H', Inv Y pins (wipe σ vs) H' s' ∧ Nx H' | .error _ => False) s := by
    refine loop_last h0 h1 (fun n s' => ∃ i G, Inv Y pins (wipe σ vs) G s' ∧ tn i s'.heap ∧ (∀ b ∈ fp, G b = none) ∧ W i n G) ?_ m0 ⟨0, H, I.weak (wipe_length _ _) (fun j v e => (wipe_some e).1), st, fun b hb => (hf b hb).1, w0⟩
    rintro n s1 ⟨i, G, I1, st1, n1, w1⟩
    have f1 : ∀ b ∈ fp, FpOk Y pins G b := fun b hb => ⟨n1 b hb, (hf b hb).2⟩
    rcases turn i n G w1 with ⟨stop, nx⟩ | ⟨go, Ny, hNy, step⟩
    · refine thnF (Tn.done Y rfl rfl rfl hc i pins s1 _ G (fun _ _ => False) I1 f1 st1 stop) fun r s2 ⟨hr, I2⟩ => ?_
      subst hr
      exact ⟨rfl, G, I2, nx⟩
    · have fin : ∀ {h7 σ8 σ' H' s'}, tn (i + 1) h7 → wipe σ8 vs = wipe σ vs → Inv Y (pins ++ pinsAt fp h7) σ' H' s' → σ'.length = σ8.length → (∀ (j : Nat) v, (wipe σ8 vs)[j]? = some (some v) → σ'[j]? = some (some v)) → Ny H' → ∃ m, m < n ∧ ∃ i G, Inv Y pins (wipe σ vs) G s' ∧ tn i s'.heap ∧ (∀ b ∈ fp, G b = none) ∧ W i m G := fun {h7 σ8 σ' H' s'} t7 e8 I' hl hk ny => by
        obtain ⟨m', hm, w'⟩ := hNy H' ny
        obtain ⟨a, b, c⟩ := lp_fin Tn t7 I' e8 hl hk
        exact ⟨m', hm, i + 1, H', a, b, c, w'⟩
      refine lp_turn hc hx hg ht I1 Tn st1 f1 go step (fun sd h7 σ8 H8 Id t7 e8 rd => ?_) (fun sd h7 σ8 H8 Id t7 e8 nd => fin t7 e8 Id rfl (fun j v e => (wipe_some e).1) nd)
      have pe := he.run _ sd σ8 H8 _ Id rd
      rw [hx] at pe
      refine thnF pe fun z se ⟨yv, H10, I10, r10, xs, hD, hz, ny⟩ => ?_
      exact app_ok I10 hD hz r10 fun sf If => fin t7 e8 If rfl (fun j v e => (wipe_some e).1) ny
  exact start_at h0 lp (Tn.self Y.A 0 _ _ _ st lp)
theorem lp_mid (hc : Y.calm = true) (hx : Y.xe = fun _ _ => False) (h0 : gs[k]? = some ⟨tg, iter, ifs, 0⟩) (h1 : gs[k + 1]? = some ⟨tgn, itern, ifsn, 0⟩) (hs : ∀ x, foldedSetIterable itern Y.env x = pure x) (hv : ∀ i ∈ vsn, i ∈ vs) (hg : PG Y tg g) (ht : PTs Y ifs tt) (hi : PI Y tgn itern wi)
    (hn : LpOk Y elt gs scope pos D (k + 1) tgn vsn T) : LpOk Y elt gs scope pos D k tg vs (tLoop g tt (tInner wi T) vs) := by
  intro pins s σ H Nx it fp tn J I Tn st hf ⟨W, ⟨m0, w0⟩, turn⟩
  have lp : codeAny (model Y.prog Y.w) Y.A (.compLoop (.ListComp elt gs scope pos) k (.ref it) (.ref D) Y.env) (fun r s' => match r with | .ok f => f = .next ∧ ∃ H', Inv Y pins (wipe σ vs) H' s' ∧ Nx H' | .error _ => False) s := by
    refine loop_mid h0 h1 hs (fun n s' => ∃ i G, Inv Y pins (wipe σ vs) G s' ∧ tn i s'.heap ∧ (∀ b ∈ fp, G b = none) ∧ W i n G) ?_ m0 ⟨0, H, I.weak (wipe_length _ _) (fun j v e => (wipe_some e).1), st, fun b hb => (hf b hb).1, w0⟩
    rintro n s1 ⟨i, G, I1, st1, n1, w1⟩
    have f1 : ∀ b ∈ fp, FpOk Y pins G b := fun b hb => ⟨n1 b hb, (hf b hb).2⟩
    rcases turn i n G w1 with ⟨stop, nx⟩ | ⟨go, Ny, hNy, step⟩
    · refine thnF (Tn.done Y rfl rfl rfl hc i pins s1 _ G (fun _ _ => False) I1 f1 st1 stop) fun r s2 ⟨hr, I2⟩ => ?_
      subst hr
      exact ⟨rfl, G, I2, nx⟩
    · have fin : ∀ {h7 σ8 σ' H' s'}, tn (i + 1) h7 → wipe σ8 vs = wipe σ vs → Inv Y (pins ++ pinsAt fp h7) σ' H' s' → σ'.length = σ8.length → (∀ (j : Nat) v, (wipe σ8 vs)[j]? = some (some v) → σ'[j]? = some (some v)) → Ny H' → ∃ m, m < n ∧ ∃ i G, Inv Y pins (wipe σ vs) G s' ∧ tn i s'.heap ∧ (∀ b ∈ fp, G b = none) ∧ W i m G := fun {h7 σ8 σ' H' s'} t7 e8 I' hl hk ny => by
        obtain ⟨m', hm, w'⟩ := hNy H' ny
        obtain ⟨a, b, c⟩ := lp_fin Tn t7 I' e8 hl hk
        exact ⟨m', hm, i + 1, H', a, b, c, w'⟩
      refine lp_turn hc hx hg ht I1 Tn st1 f1 go step (fun sd h7 σ8 H8 Id t7 e8 rd => ?_) (fun sd h7 σ8 H8 Id t7 e8 nd => fin t7 e8 Id rfl (fun j v e => (wipe_some e).1) nd)
      have pi := hi.run _ sd σ8 H8 _ Id rd
      rw [hx] at pi
      refine thnF pi fun xv se hse => thnF hse fun itn sf hsf => ?_
      obtain ⟨it1, fp1, tn1, J1, H11, e1, I11, T1, st11, f11, q11⟩ := hsf
      subst e1
      refine codeAny_mono (hn _ sf σ8 H11 Ny it1 fp1 tn1 J1 I11 T1 st11 f11 q11) fun r s' hr => ?_
      cases r with
      | error e => exact hr
      | ok f =>
        obtain ⟨_, H', I', ny⟩ := hr
        exact fin t7 e8 I' (wipe_length _ _) (fun j v e => by
          obtain ⟨a, b⟩ := wipe_some e
          rw [wipe_off fun z => b (hv j z)]
          exact a) ny
  exact start_at h0 lp (Tn.self Y.A 0 _ _ _ st lp)
end

/-! ### the whole comprehension -/
section
variable {X : Cx} {elt tg iter : Expr} {ifs : List Expr} {rest : List Comprehension} {scope : Scope} {own : List (Str × Nat)} {pos : Pos} {wi : TI} {T : Addr → It → TR}
def tLcN (wi : TI) (T : Addr → It → TR) (vs : List Nat) : TE := fun σ H Q => wi σ H fun J H1 => ∀ D, H1 D = none → T D J (wipe σ vs) (upd H1 D (.lst [])) fun H2 => Q (.ref D) H2
theorem lcN_core {pins : List (Addr × Obj)} {s : Shared} {σ : L2.St} {H : Hp} {Q : VK} {pos' : Pos} {use : Option (Value → Sem Unit)} {Qf : Value → Shared → Prop} (hc : X.calm = true) (hN : X.N.Nodup) (I : Inv X pins σ H s) (hi : PI X tg iter wi) (ok : BlkOk X.N X.env.scope scope own)
    (hl : ∀ (s : Shared) (H : Hp) (C : Addr) (cl : List (Str × Addr)) (fp : List Addr) (D : Addr), LpOk (X.blk s H scope (compEnvC scope cl C X.env) fp) elt (⟨tg, iter, ifs, 0⟩ :: rest) scope pos D 0 tg (own.map (·.2)) (T D)) (hs : ∀ x, foldedSetIterable iter X.env x = pure x)
    (h : tLcN wi T (own.map (·.2)) σ H Q)
    (hR : ∀ D C s' m H', Inv X pins σ H' s' → Q (.ref D) H' → s'.heap.Ns C m → FpOk X pins H' C → compPost (model X.prog X.w) X.A X.xe use Qf (.ref D) C (.ok .next) s') :
    wpAny (model X.prog X.w) X.A (comprehension (.ListComp elt (⟨tg, iter, ifs, 0⟩ :: rest) scope pos) scope X.env pos' (newList []) false (eval iter X.env) use) Qf X.xe s := by
  have caught : ∀ y ∈ scope.names, y.2 = .free → ∃ c, X.env.cells.lookup y.1 = some c := fun y hy e => (ok.free y hy e).elim (fun z => I.ok.has _ (.inl z)) fun z => I.ok.has _ (.inr z)
  refine wpAny_comprehension_free (use := use) rfl hs (closure_ok caught) ok.kind (fun y hy e => by rw [ok.uniq y hy, e]) (thn (hi.run pins s σ H _ I h) fun xv s1 h1 => thn h1 fun itv s2 h2 => ?_)
  obtain ⟨it, fp, tn, J, H2, rfl, I2, Tn, st2, f2, q⟩ := h2
  refine wpAny_newObj_type (newEnv_comp ?_) (by show 0 ≤ sizeLine; decide)
  generalize hD : s2.heap.objs.size = D
  have t0 := q D (I2.hok.fresh (Nat.le_of_eq hD))
  generalize hs3 : ({ s2 with heap := s2.heap.push { cls := .type "list", data := .seq ([] : List Value).toArray } } : Shared) = s3
  have h3 : s3.heap = s2.heap.push { cls := .type "list", data := .seq ([] : List Value).toArray } := by rw [← hs3]
  have I3 : Inv X pins σ (upd H2 D (.lst [])) s3 := by
    rw [← hs3]
    exact I2.laid (t' := s2.toks) (fun b o e => Heap.get?_push_of_some _ e) (Nat.le_of_eq hD) ⟨Nat.zero_le _, [], 0, .nil, by rw [← hD]; exact Heap.get?_push_size _ rfl⟩
  have f3 : ∀ b ∈ fp, FpOk X pins (upd H2 D (.lst [])) b ∧ b < s3.heap.objs.size := fun b hb => by
    obtain ⟨o, e, _⟩ := Tn.obj _ _ st2 b hb
    have lt := Heap.lt_size e
    exact ⟨⟨by rw [upd_ne (by rw [← hD]; exact Nat.ne_of_lt lt)]; exact (f2 b hb).1, (f2 b hb).2⟩, by rw [h3, Heap.size_push]; exact Nat.lt_succ_of_lt lt⟩
  have st3 : tn 0 s3.heap := Tn.keep _ _ _ st2 fun b _ o e => by rw [h3]; exact Heap.get?_push_of_some _ e
  have I4 := block_start I3 ok hN f3
  have lp := hl s3 (upd H2 D (.lst [])) s3.heap.objs.size (cellsFrom (s3.heap.objs.size + 1) scope.names (cloFrom X.env.cells scope.names [])) fp D
  show codeAny _ _ (.compStart (.ListComp elt (⟨tg, iter, ifs, 0⟩ :: rest) scope pos) 0 (.ref it) (.ref D) (compEnvC scope (cellsFrom (s3.heap.objs.size + 1) scope.names (cloFrom X.env.cells scope.names [])) s3.heap.objs.size X.env)) (compPost (model X.prog X.w) X.A X.xe use Qf (.ref D) s3.heap.objs.size) { s3 with heap := pushCells (s3.heap.push { cls := .type "dict", data := .dict #[] }) scope.names }
  have none3 : ∀ b ∈ fp, (upd H2 D (.lst [])) b = none := fun b hb => (f3 b hb).1.1
  generalize hce : compEnvC scope (cellsFrom (s3.heap.objs.size + 1) scope.names (cloFrom X.env.cells scope.names [])) s3.heap.objs.size X.env = ce at I4 lp ⊢
  have cL : ce.locals = s3.heap.objs.size := by subst hce; rfl
  generalize hH3 : upd H2 D (.lst []) = H3 at I3 I4 lp t0 none3 f3
  generalize hs4 : ({ s3 with heap := pushCells (s3.heap.push { cls := .type "dict", data := .dict #[] }) scope.names } : Shared) = s4 at I4 ⊢
  have st4 : tn 0 s4.heap := Tn.keep _ _ _ st3 fun b _ o e => by rw [← hs4]; exact pushCells_keeps _ _ _ _ (Heap.get?_push_of_some _ e)
  have f4 : ∀ b ∈ fp, FpOk (X.blk s3 H3 scope ce fp) [] H3 b := fun b hb => ⟨none3 b hb, (I4.ok.exf b hb).1, I4.ok.exfs b hb, .inl hb, fun x c e => (I4.ok.exf b hb).2 x c e, fun p hp => absurd (show p ∈ ([] : List (Addr × Obj)) ++ [] from hp) (by simp)⟩
  refine codeAny_mono (lp [] s4 _ H3 (fun H2 => Q (.ref D) H2) it fp tn J I4 Tn st4 f4 t0) fun r s5 hr => ?_
  cases r with
  | error e => exact hr.elim
  | ok f =>
    obtain ⟨rfl, H5, I5, qq⟩ := hr
    have I7 : Inv X pins σ H5 s5 := I3.call' (ch := fp) I5.os I5.base I5.hok I5.bare fun b hb => ⟨(f3 b hb).1.2.2.2.1, (f3 b hb).1.2.1, (f3 b hb).1.2.2.2.2.1, (f3 b hb).1.2.2.2.2.2⟩
    have nC : H5 s3.heap.objs.size = none := by
      rw [← cL]
      exact I5.free
    obtain ⟨m, hn, _⟩ := I5.loc
    have hn : s5.heap.Ns s3.heap.objs.size m := by
      rw [← cL]
      exact hn
    exact hR D s3.heap.objs.size s5 m H5 I7 qq hn (I3.fpOk (Nat.le_refl _) nC)
/-- as a value -/
theorem pe_lcN (hc : X.calm = true) (hN : X.N.Nodup) (hi : PI X tg iter wi) (ok : BlkOk X.N X.env.scope scope own)
    (hl : ∀ (s : Shared) (H : Hp) (C : Addr) (cl : List (Str × Addr)) (fp : List Addr) (D : Addr), LpOk (X.blk s H scope (compEnvC scope cl C X.env) fp) elt (⟨tg, iter, ifs, 0⟩ :: rest) scope pos D 0 tg (own.map (·.2)) (T D)) (hs : ∀ x, foldedSetIterable iter X.env x = pure x := by intro _; rfl) :
    PE X (.ListComp elt (⟨tg, iter, ifs, 0⟩ :: rest) scope pos) (tLcN wi T (own.map (·.2))) := by
  refine ⟨fun pins s σ H Q I h => ?_⟩
  rw [eval_ListComp]
  refine lcN_core hc hN I hi ok hl hs h fun D C s' m H' J q hn f => ⟨m, hn, fun h'' sb => ?_⟩
  obtain ⟨a0, a1, a2, a3, a4, a5⟩ := f
  exact ⟨.ref D, H', J.turned (t' := s'.toks) (fun b o hb e => (sb.2 b hb).trans e) a0 a1 a3 a4 a5, rfl, q⟩
/-- a local = [..] on one line -/
theorem ps_setLcN {i : Nat} {y : Str} {py spos : Pos} (hc : X.calm = true) (hN : X.N.Nodup) (hy : X.N[i]? = some y) (hyl : X.env.scope.names.lookup y = some .local)
    (hsw : swapsWith (.ListComp elt (⟨tg, iter, ifs, 0⟩ :: rest) scope pos) (some (.Name y py)) spos.line X.env = pure true) (hi : PI X tg iter wi) (ok : BlkOk X.N X.env.scope scope own)
    (hl : ∀ (s : Shared) (H : Hp) (C : Addr) (cl : List (Str × Addr)) (fp : List Addr) (D : Addr), LpOk (X.blk s H scope (compEnvC scope cl C X.env) fp) elt (⟨tg, iter, ifs, 0⟩ :: rest) scope pos D 0 tg (own.map (·.2)) (T D)) (hs : ∀ x, foldedSetIterable iter X.env x = pure x := by intro _; rfl) :
    PS X (.Assign [.Name y py] (.ListComp elt (⟨tg, iter, ifs, 0⟩ :: rest) scope pos) spos) (tAsg (tLcN wi T (own.map (·.2))) (gName i)) := by
  refine ⟨fun pins s σ H D I h => ?_⟩
  rw [exec_Assign_Name_used _ _ _ _ hsw]
  refine wpAny_bind (wpAny_standAt (wpAny_bind ?_))
  show wpAny _ X.A (do let _ ← comprehension (.ListComp elt (⟨tg, iter, ifs, 0⟩ :: rest) scope pos) scope X.env (firstIterPos (⟨tg, iter, ifs, 0⟩ :: rest) pos) (newList []) false (eval iter X.env) (some (assign (.Name y py) X.env))) _ _ s
  have h' : tLcN wi T (own.map (·.2)) σ H (fun x H1 => gName i x σ H1 D.nx) := h
  refine wpAny_bind (thn (lcN_core (Qf := fun _ s' => SP X pins D .next s') hc hN I hi ok hl hs h' fun L C s' m H' J q hn f => ?_) fun _ s' hq => wpAny_pure (wpAny_pure hq))
  show wpAny _ _ (assign (.Name y py) X.env (.ref L)) _ _ _
  refine wpAny_assign_Name (store_ok2 (v := V.ref L) J hN hy (.inl hyl) rfl (fun s2 I2 ⟨a, sb, ha⟩ => ?_) (.inr hyl))
  obtain ⟨a0, a1, a2, a3, a4, a5⟩ := f
  have apart : C ≠ a := by
    rcases ha with z | z
    · rw [z]; exact a1
    · exact fun e => a4 y a z e.symm
  exact ⟨m, hn.sameBut sb apart, fun h3 sb3 => ⟨_, H', I2.turned (t' := s2.toks) (fun b o hb e => (sb3.2 b hb).trans e) a0 a1 a3 a4 a5, q⟩⟩
end
section
variable {X : Cx} {elt tg iter tg1 iter1 tg2 iter2 : Expr} {ifs ifs1 ifs2 : List Expr} {scope : Scope} {pos : Pos} {g g1 g2 : TG} {tt tt1 tt2 : TT} {te : TE} {vs vs1 vs2 : List Nat} {wi1 wi2 : TI}
/-- three clauses -/
theorem lp3 (hc : X.calm = true) (h1 : ∀ i ∈ vs1, i ∈ vs) (h2 : ∀ i ∈ vs2, i ∈ vs1)
    (hg : ∀ (s : Shared) (H : Hp) (C : Addr) (cl : List (Str × Addr)) (fp : List Addr), PG (X.blk s H scope (compEnvC scope cl C X.env) fp) tg g) (ht : ∀ (s : Shared) (H : Hp) (C : Addr) (cl : List (Str × Addr)) (fp : List Addr), PTs (X.blk s H scope (compEnvC scope cl C X.env) fp) ifs tt)
    (hi1 : ∀ (s : Shared) (H : Hp) (C : Addr) (cl : List (Str × Addr)) (fp : List Addr), PI (X.blk s H scope (compEnvC scope cl C X.env) fp) tg1 iter1 wi1) (hg1 : ∀ (s : Shared) (H : Hp) (C : Addr) (cl : List (Str × Addr)) (fp : List Addr), PG (X.blk s H scope (compEnvC scope cl C X.env) fp) tg1 g1)
    (ht1 : ∀ (s : Shared) (H : Hp) (C : Addr) (cl : List (Str × Addr)) (fp : List Addr), PTs (X.blk s H scope (compEnvC scope cl C X.env) fp) ifs1 tt1)
    (hi2 : ∀ (s : Shared) (H : Hp) (C : Addr) (cl : List (Str × Addr)) (fp : List Addr), PI (X.blk s H scope (compEnvC scope cl C X.env) fp) tg2 iter2 wi2) (hg2 : ∀ (s : Shared) (H : Hp) (C : Addr) (cl : List (Str × Addr)) (fp : List Addr), PG (X.blk s H scope (compEnvC scope cl C X.env) fp) tg2 g2)
    (ht2 : ∀ (s : Shared) (H : Hp) (C : Addr) (cl : List (Str × Addr)) (fp : List Addr), PTs (X.blk s H scope (compEnvC scope cl C X.env) fp) ifs2 tt2)
    (he : ∀ (s : Shared) (H : Hp) (C : Addr) (cl : List (Str × Addr)) (fp : List Addr), PE (X.blk s H scope (compEnvC scope cl C X.env) fp) elt te) (hs1 : ∀ env x, foldedSetIterable iter1 env x = pure x := by intro _ _; rfl) (hs2 : ∀ env x, foldedSetIterable iter2 env x = pure x := by intro _ _; rfl) :
    ∀ (s : Shared) (H : Hp) (C : Addr) (cl : List (Str × Addr)) (fp : List Addr) (D : Addr), LpOk (X.blk s H scope (compEnvC scope cl C X.env) fp) elt [⟨tg, iter, ifs, 0⟩, ⟨tg1, iter1, ifs1, 0⟩, ⟨tg2, iter2, ifs2, 0⟩] scope pos D 0 tg vs
      (tLoop g tt (tInner wi1 (tLoop g1 tt1 (tInner wi2 (tLoop g2 tt2 (tItem te D) vs2)) vs1)) vs) := fun s H C cl fp D =>
  lp_mid hc rfl rfl rfl (hs1 _) h1 (hg s H C cl fp) (ht s H C cl fp) (hi1 s H C cl fp) (lp_mid hc rfl rfl rfl (hs2 _) h2 (hg1 s H C cl fp) (ht1 s H C cl fp) (hi2 s H C cl fp) (lp_last hc rfl rfl rfl (hg2 s H C cl fp) (ht2 s H C cl fp) (he s H C cl fp)))
/-- a loop read by turns that are counted -/
theorem loop_it {g : TG} {tt : TT} {rest : TR} {vs : List Nat} {J : It} {σ : L2.St} {H : Hp} {Nx : Hp → Prop} {n : Nat} (Pv : Nat → Hp → Prop) (h0 : Pv 0 H) (hgo : ∀ i H, i < n → Pv i H → J.go i H) (hst : ∀ H, Pv n H → J.stop n H)
    (hs : ∀ i x G G', i < n → Pv i G → J.yld i G x G' → g x (wipe σ vs) G' fun σ2 G2 => wipe σ2 vs = wipe σ vs ∧ tt σ2 G2 fun b G3 => if b = true then rest σ2 G3 (Pv (i + 1)) else Pv (i + 1) G3) (hd : ∀ H, Pv n H → Nx H) : tLoop g tt rest vs J σ H Nx := by
  refine ⟨fun i m G => m = n - i ∧ i ≤ n ∧ Pv i G, ⟨n, (Nat.sub_zero n).symm, Nat.zero_le _, h0⟩, ?_⟩
  rintro i m G ⟨rfl, hi, p⟩
  by_cases lt : i < n
  · exact .inr ⟨hgo i G lt p, Pv (i + 1), fun G' p' => ⟨n - (i + 1), by omega, rfl, lt, p'⟩, fun x G' y => hs i x G G' lt p y⟩
  · obtain rfl : i = n := by omega
    exact .inl ⟨hst G p, hd G p⟩
end
end Pk

set_option maxRecDepth 100000
set_option maxHeartbeats 1000000
/-! sorted, of tuples whose first items are texts -/
namespace Pk
open PySem PySem.Spec PyProof.Rows L2 PySem.SeqAt PySem.Calls PySem.W
section
variable {prog : Program} {w : World} {A : Around} {E : Value → Shared → Prop} {s : Shared}
theorem kat_cpbsB {b fin : Bool} {Q : Bool → Shared → Prop} : ∀ (xs ys : List PyData) (i : Nat) (vs ws : List Value) (as bs : List Addr), ReadsAll s.heap vs xs as → ReadsAll s.heap ws ys bs → PyData.plainAll xs = true → PyData.plainAll ys = true → cpbs xs ys = true →
    A.units + min (PyData.depthAll xs) (PyData.depthAll ys) < cLine → fin = decide (xs.length < ys.length) → Q (dlts xs ys) s → PySem.W.KatLex prog w A b fin Q (vs.zip ws) (i + 1) s
  | [], [], i, _, _, _, _, .nil, .nil, _, _, _, _, hf, hq => by
    rw [show fin = false from hf]
    exact PySem.W.kat_nil hq
  | [], y :: ys, i, _, _, _, _, ra, rb, _, _, _, _, hf, hq => by
    cases ra
    rw [List.zip_nil_left, show fin = true from hf.trans (decide_eq_true (Nat.succ_pos _))]
    exact PySem.W.kat_nil hq
  | x :: xs, [], i, _, _, _, _, ra, rb, _, _, _, _, hf, hq => by
    cases rb
    rw [List.zip_nil_right, show fin = false from hf.trans (decide_eq_false (Nat.not_lt_zero _))]
    exact PySem.W.kat_nil hq
  | x :: xs, y :: ys, i, _, _, _, _, ra, rb, pa, pb, hc, hu, hf, hq => by
    have pa' : x.plain = true ∧ PyData.plainAll xs = true := by simpa [PyData.plainAll] using pa
    have pb' : y.plain = true ∧ PyData.plainAll ys = true := by simpa [PyData.plainAll] using pb
    obtain ⟨c1, c2⟩ := cpbs_cons hc
    cases ra with
    | cons r rs =>
      cases rb with
      | cons t ts =>
        refine PySem.W.kat_cons (eqAt_plain x y A s _ _ _ _ r t pa'.1 pb'.1 (room_head hu) prog w _ _ ?_)
        rw [dlts] at hq
        cases e : PyData.eqv x y with
        | true =>
          rw [e, if_pos rfl] at hq
          exact PySem.W.kat_yes (kat_cpbsB xs ys (i + 1) _ _ _ _ rs ts pa'.2 pb'.2 (c2 e) (room_tail hu) (hf.trans (decide_eq_decide.mpr (by simp only [List.length_cons]; omega))) hq)
        | false =>
          rw [e, if_neg Bool.false_ne_true] at hq
          refine PySem.W.kat_no ?_
          rw [show (b && i + 1 == 0) = false by cases b <;> simp]
          exact PySem.W.kat_one _ _ (rcLt_cpb x y A s _ _ _ _ r t pa'.1 pb'.1 c1 (cpb_none c1 e) (room_head hu) prog w _ _ hq)
variable {β : Type} {enc : β → PyData} {tok : β → List (Int ⊕ List Nat)} {bs : List β}
theorem looks_str {M : Model} {h : Heap} {v : Value} {x : Str} {as : List Addr} (r : Reads h v (.str x) as) : Looks M h (typeOf v) (.type "str") := by
  cases r
  intro A Q E s k q
  wp_walk
  exact q
theorem sortsAt_encS {vs : List Value} (e : PySem.W.EachIs (fun v b => ∃ as, Reads s.heap v (enc b) as) vs bs) (pl : ∀ b ∈ bs, (enc b).plain = true) (inj : ∀ b ∈ bs, ∀ c ∈ bs, enc b = enc c → tok b = tok c)
    (tt : ∀ b ∈ bs, ∃ x r, enc b = .tuple (.str x :: r)) (cmp : ∀ b ∈ bs, ∀ c ∈ bs, cpb (enc b) (enc c) = true ∧ dlt (enc b) (enc c) = PyProof.Rows.lexLt itemOrd (tok b) (tok c)) (hu : ∀ b ∈ bs, A.units + (enc b).depth < cLine) :
    PySem.W.SortsAt prog w A s (encKind s.heap bs enc tok) vs := by
  refine ⟨fun v hv => ?_, tuples' true, ?_, fun h2 E Q hq => ?_⟩
  · obtain ⟨b, hb, as, r⟩ := e.left v hv
    exact ⟨_, encKind_some pl inj hb r⟩
  · intro E x y a b Q ha hb hq
    obtain ⟨d, as, hd, ra, rfl⟩ := encKind_inv ha
    obtain ⟨c, cs, hc, rb, rfl⟩ := encKind_inv hb
    obtain ⟨c1, c2⟩ := cmp d hd c hc
    have hq' : Q (dlt (enc d) (enc c)) s := by
      rw [c2]
      exact hq
    have p1 := pl d hd
    have p2 := pl c hc
    have room : A.units + min (enc d).depth (enc c).depth < cLine := Nat.lt_of_le_of_lt (Nat.add_le_add_left (Nat.min_le_left _ _) _) (hu d hd)
    obtain ⟨x1, r1, e1⟩ := tt d hd
    obtain ⟨x2, r2, e2⟩ := tt c hc
    rw [e1] at ra hq' c1 p1 room
    rw [e2] at rb hq' c1 p2 room
    cases ra with
    | @tuple l o us n _ _ g1 g2 g3 g4 =>
      cases rb with
      | @tuple l' o' us' n' _ _ k1 k2 k3 k4 =>
        have n1 : us.size = (PyData.str x1 :: r1).length := by simpa using ReadsAll.length _ _ _ g4
        have n2 : us'.size = (PyData.str x2 :: r2).length := by simpa using ReadsAll.length _ _ _ k4
        refine PySem.W.kat_lt g1 g3 k1 k3 ?_
        have hin : A.units + min (PyData.depthAll (.str x1 :: r1)) (PyData.depthAll (.str x2 :: r2)) < cLine := by have z := room_in room; omega
        rw [n1, n2]
        generalize us.toList = ul at g4 ⊢
        generalize us'.toList = ul' at k4 ⊢
        cases g4 with
        | cons rx rs =>
          cases k4 with
          | cons ry rt =>
            have pr1 : PyData.plainAll r1 = true := by simpa [PyData.plain, PyData.plainAll] using p1
            have pr2 : PyData.plainAll r2 = true := by simpa [PyData.plain, PyData.plainAll] using p2
            obtain ⟨d1, d2⟩ := cpbs_cons (x := .str x1) (y := .str x2) (xs := r1) (ys := r2) (by simpa [cpb] using c1)
            have hq2 : Q (dlts (.str x1 :: r1) (.str x2 :: r2)) s := by simpa [dlt] using hq'
            refine PySem.W.kat_cons (eqAt_plain (.str x1) (.str x2) A s _ _ _ _ rx ry rfl rfl (room_head hin) prog w _ _ ?_)
            rw [dlts] at hq2
            cases e : PyData.eqv (.str x1) (.str x2) with
            | true =>
              rw [e, if_pos rfl] at hq2
              exact PySem.W.kat_yes (kat_cpbsB r1 r2 0 _ _ _ _ rs rt pr1 pr2 (d2 e) (room_tail hin) (decide_eq_decide.mpr (by simp only [List.length_cons]; omega)) hq2)
            | false =>
              rw [e, if_neg Bool.false_ne_true] at hq2
              refine PySem.W.kat_no ?_
              cases rx
              cases ry
              refine oneLt_any_str ?_
              exact hq2
  · have e3 : PySem.W.EachIs (fun v d => ∃ as, Reads s.heap v d as) vs (bs.map enc) := PySem.W.each_map (R := fun v d => ∃ as, Reads s.heap v d as) enc e
    obtain ⟨fs, t1, t2, t3⟩ := PySem.W.each_katTups e3 (fun d hd => by
      obtain ⟨b, hb, rfl⟩ := List.mem_map.mp hd
      obtain ⟨x, r, e⟩ := tt b hb
      exact ⟨_, _, e⟩)
    refine PySem.W.kat_kind (T := .type "str") t1 (by omega) (fun f hf => ?_) (beq_self_eq_true _) ?_
    · obtain ⟨x, r, as, m1, m2⟩ := t3 f hf
      obtain ⟨b, hb, e1⟩ := List.mem_map.mp m1
      obtain ⟨x', r', e2⟩ := tt b hb
      rw [e2] at e1
      injection e1 with e1
      obtain ⟨rfl, _⟩ := List.cons.inj e1
      exact looks_str m2
    · have z : (Value.type "str" != Value.type "tuple") = true := by first | decide +kernel | rfl
      rw [z]
      exact hq
end
section
variable {β : Type}
structure EncS (dat : β → D) (tok : β → List (Int ⊕ List Nat)) (ok : β → Prop) : Prop where
  nol : ∀ b, ok b → noLd (dat b) = true
  dep : ∀ b, ok b → dep (dat b) ≤ 40
  inj : ∀ b c, ok b → ok c → toPy (dat b) = toPy (dat c) → tok b = tok c
  fst : ∀ b, ok b → ∃ x r, dat b = .tup (.at (.str x) :: r)
  cmp : ∀ b c, ok b → ok c → cpb (toPy (dat b)) (toPy (dat c)) = true ∧ dlt (toPy (dat b)) (toPy (dat c)) = PyProof.Rows.lexLt itemOrd (tok b) (tok c)
theorem cr_sortS {X : Cx} {dat : β → D} {tok : β → List (Int ⊕ List Nat)} {ok : β → Prop} (hu : X.A.units + 64 < cLine) (N : EncS dat tok ok) : CallR X (.builtin "sorted") (rSortE X.K dat tok ok) := by
  intro pins s σ H vs us Q I r h
  obtain ⟨a, xs, bs, rfl, hs, hr, hok, q⟩ := h
  obtain ⟨its, rv, hl, hz⟩ := I.list hs
  obtain ⟨u, rfl, ru⟩ := vals1 r
  obtain rfl : u = Value.ref a := ru
  have nolb : ∀ b ∈ bs, noLd (dat b) = true := fun b hb => N.nol b (hok b hb)
  have each := reps_each I hr rv nolb
  have hlen : its.length ≤ sizeLine := by
    rw [← rv.length]
    exact hz
  have old : ∀ b o, s.heap.get? b = some o → (PySem.W.sortingHeap (PySem.W.copyHeap s.heap its) (s.heap.objs.size + 1) its).get? b = some o := fun b o e => PySem.W.sorting_copy_old e
  have S : PySem.W.SortsAt X.prog X.w X.A.in1.in1 { s with heap := PySem.W.sortingHeap (PySem.W.copyHeap s.heap its) (s.heap.objs.size + 1) its } (encKind (PySem.W.sortingHeap (PySem.W.copyHeap s.heap its) (s.heap.objs.size + 1) its) bs (fun b => toPy (dat b)) tok) its :=
    sortsAt_encS (each.mono fun v b ⟨⟨as, r⟩, _⟩ => ⟨as, Reads.keeps old r⟩) (fun b hb => plain_noL _ (nolb b hb)) (fun b hb c hc => N.inj b c (hok b hb) (hok c hc))
      (fun b hb => by
        obtain ⟨x, r, e⟩ := N.fst b (hok b hb)
        rw [e]
        exact ⟨_, _, rfl⟩)
      (fun b hb c hc => N.cmp b c (hok b hb) (hok c hc)) (fun b hb => by
        have h1 := depth_noL (dat b)
        have h2 := N.dep b (hok b hb)
        show X.A.units + 1 + 1 + (toPy (dat b)).depth < cLine
        omega)
  refine PySem.W.sorted_vals hl.isList S hlen ?_
  have out : PySem.W.EachIs (fun v b => ∃ x, RelV x v ∧ Rep X.K H x (dat b)) (PySem.W.sortVals (encKind (PySem.W.sortingHeap (PySem.W.copyHeap s.heap its) (s.heap.objs.size + 1) its) bs (fun b => toPy (dat b)) tok) false its its) (sortE tok bs) :=
    PySem.W.sortVals_each (κ := encKind (PySem.W.sortingHeap (PySem.W.copyHeap s.heap its) (s.heap.objs.size + 1) its) bs (fun b => toPy (dat b)) tok) tok (each.mono fun v b z => z.2)
      ((PySem.W.each_mem each).mono fun v b ⟨⟨⟨as, r⟩, _⟩, hb⟩ => encKind_some (fun b hb => plain_noL _ (nolb b hb)) (fun b hb c hc => N.inj b c (hok b hb) (hok c hc)) hb (Reads.keeps old r))
  obtain ⟨ys, v1, r1⟩ := each_back out
  have hl2 := v1.length
  rw [PySem.W.sortVals_length _ rfl] at hl2
  obtain ⟨n, hn⟩ := PyProof.Rows.sortedAll_at s.heap its (PySem.W.sortVals (encKind (PySem.W.sortingHeap (PySem.W.copyHeap s.heap its) (s.heap.objs.size + 1) its) bs (fun b => toPy (dat b)) tok) false its its).toArray
  exact ⟨.ref _, _, I.laid (t' := s.toks) (o := .lst ys) (fun b o e => PyProof.Rows.sortedAll_old e) (Nat.le_succ _) ⟨by omega, _, n, v1, hn⟩, rfl, q ys _ r1 (I.hok.fresh (Nat.le_succ _))⟩
end
end Pk

set_option maxRecDepth 100000
set_option maxHeartbeats 1000000
/-! t[::-1] of a tuple: its object is known -/
namespace HT
open PySem PyProof.Rows
section
variable {prog : Program} {w : World} {A : Around} {E : Value → Shared → Prop} {s : Shared}
theorem sliceApplied_rev {sl : Addr} {t : Tok} {n : Nat} {Q : Int × Int × Nat → Shared → Prop} (hs : s.heap.IsSliceOf sl .none .none (.int (-1) t))
    (h : Q ((n : Int) - 1, -1, n) s) : wpAny (model prog w) A (Builtin.Slice.sliceApplied (.ref sl) (pure (n : Int))) Q E s := by
  obtain ⟨os, hos, hcs, hds⟩ := id hs
  unfold Builtin.Slice.sliceApplied Builtin.Slice.sliceFields
  refine wpAny_bind (wpAny_bind (wpAny_field hos hds (x := .none) rfl (wpAny_bind (wpAny_field hos hds (x := .none) rfl (wpAny_bind (wpAny_field hos hds (x := .int (-1) t) rfl (wpAny_pure ?_)))))))
  refine wpAny_bind (slicePart_int ?_)
  show wpAny _ _ (if ((-1 : Int) == 0) = true then _ else _) _ _ s
  rw [if_neg (by decide)]
  refine wpAny_bind (slicePart_none (wpAny_bind (slicePart_none (wpAny_bind (wpAny_pure ?_)))))
  have e1 : Builtin.Slice.sliceAdjust none none (-1) (n : Int) = ((n : Int) - 1, -1) := by
    unfold Builtin.Slice.sliceAdjust
    simp only [show ((-1 : Int) < 0) by decide, if_true]
  have e2 : Builtin.Slice.slicePlaces ((n : Int) - 1) (-1) (-1) = n := by
    unfold Builtin.Slice.slicePlaces
    simp only [show ¬ ((-1 : Int) > 0) by decide, if_false]
    rw [show -(-1 : Int) = 1 by decide, Int.ediv_one]
    split <;> omega
  show wpAny _ _ (match Builtin.Slice.sliceAdjust none none (-1) (n : Int) with | (lo, hi) => pure (lo, (-1 : Int), Builtin.Slice.slicePlaces lo hi (-1))) _ _ s
  rw [e1]
  show wpAny _ _ (pure ((n : Int) - 1, (-1 : Int), Builtin.Slice.slicePlaces ((n : Int) - 1) (-1) (-1))) _ _ s
  rw [e2]
  exact wpAny_pure h
theorem filt_all {α β : Type} {f : α → Option β} {g : α → β} : ∀ {l : List α}, (∀ m ∈ l, f m = some (g m)) → l.filterMap f = l.map g
  | [], _ => rfl
  | x :: l, h => by
    rw [List.filterMap_cons, h x (List.mem_cons_self ..), filt_all fun m hm => h m (List.mem_cons_of_mem _ hm)]
    rfl
theorem pick_rev (xs : Array Value) : ((List.range xs.size).filterMap fun (m : Nat) => xs[(((xs.size : Nat) : Int) - 1 + (m : Int) * (-1)).toNat]?).toArray = xs.toList.reverse.toArray := by
  congr 1
  rw [filt_all (g := fun m => xs.getD (xs.size - 1 - m) .none) fun m hm => ?_]
  · refine List.ext_getElem? fun i => ?_
    by_cases hi : i < xs.size
    · rw [List.getElem?_map, List.getElem?_range hi, List.getElem?_reverse (by rw [Array.length_toList]; exact hi), Array.length_toList]
      have : xs.size - 1 - i < xs.size := by omega
      simp [Array.getD, this]
    · rw [List.getElem?_eq_none (by rw [List.length_map, List.length_range]; omega), List.getElem?_eq_none (by rw [List.length_reverse, Array.length_toList]; omega)]
  · have hm' : m < xs.size := List.mem_range.mp hm
    have : xs.size - 1 - m < xs.size := by omega
    rw [show (((xs.size : Nat) : Int) - 1 + (m : Int) * (-1)).toNat = xs.size - 1 - m by omega]
    simp [Array.getD, this]
theorem getItem_tuple_rev {t sl : Addr} {items : Array Value} {tk : Tok} {Q : Value → Shared → Prop} (ht : IsTup s.heap t items) (hs : s.heap.IsSliceOf sl .none .none (.int (-1) tk))
    (h : Q (.ref s.heap.objs.size) { s with heap := s.heap.push { cls := .type "tuple", data := .seq items.toList.reverse.toArray } })
    (hsz : items.size ≤ sizeLine) : wpAny (model prog w) A (getItem (.ref t) (.ref sl)) Q E s := by
  have htake : sizeOk (.seq items.toList.reverse.toArray) := by
    show items.toList.reverse.toArray.size ≤ sizeLine
    rw [List.size_toArray, List.length_reverse, Array.length_toList]
    exact hsz
  obtain ⟨os, hos, hcs, hds⟩ := id hs
  have hTs : s.TypeIs (.ref sl) "slice" := ⟨os, hos, hcs⟩
  unfold getItem
  try with_reducible refine wpAny_holding ?_
  first | refine wpAny_bind (wpAny_pure ?_) | skip
  refine wpAny_bind (wpAny_sequenceKey ht.typeIs (by decide) ?_)
  refine wpAny_bind (wpAny_callSpecial?_slot (name := Str.ofString "__getitem__") ht.typeIs PyProof.Rows.slot_tuple_getitem
    (wpAny_call_entry PyProof.Rows.slot_tuple_getitem ht.typeIs entry_tuple_getitem ?_ (args_tuple_getitem _ _)))
  show wpAny _ _ (Builtin.Tuple.tupleItemsOf (.ref t) >>= _) _ _ s
  refine wpAny_bind (tupleItemsOf_ ht ?_)
  refine wpAny_bind (wpAny_typeOf hTs ?_)
  rw [if_pos (by decide)]
  refine wpAny_bind (sliceApplied_rev hs ?_)
  have hno : ¬ (((((items.size : Nat) : Int) - 1) == 0 && (-1 : Int) == 1 && items.size == items.size) = true) := by
    intro q
    rw [Bool.and_eq_true, Bool.and_eq_true] at q
    exact absurd q.1.2 (by decide)
  show wpAny _ _ (if ((((items.size : Nat) : Int) - 1) == 0 && (-1 : Int) == 1 && items.size == items.size) = true then _ else _) _ _ s
  rw [if_neg hno, pick_rev]
  first
    | exact wpAny_bind (m := Builtin.Tuple.tupleExact _) (wpAny_newObj_type (wpAny_pure ⟨_, rfl, wpAny_pure h⟩) htake)
    | exact wpAny_bind (m := Builtin.Tuple.tupleExact _) (wpAny_newObj_type (wpAny_bind (wpAny_pure (wpAny_pure ⟨_, rfl, wpAny_pure h⟩))) htake)
end
end HT
namespace Pk
open PySem PySem.Spec PyProof.Rows L2
section
variable {X : Cx}
def tRevT (K : PySem.W.Frag) (te : TE) : TE := fun σ H Q => te σ H fun x H1 => ∃ a xs, x = .ref a ∧ SqT K H1 a xs ∧ ∀ (p : Addr) (o : Obj), H1 p = none → o.cls = .type "tuple" → o.dict = none → Q (.ref p) (upd H1 p (.frz o (.tup xs.reverse)))
theorem pe_revT {e : Expr} {te : TE} {j : Nat} {p2 p3 p4 pos : Pos} (he : PE X e te) : PE X (.Subscript e (.Slice none none (some (.UnaryOp .USub (.Constant (.int 1) j p4) p3)) p2) pos) (tRevT X.K te) := by
  refine ⟨fun pins s σ H Q I h => ?_⟩
  refine Subscript_ (thn (he.run pins s σ H _ I h) fun v s1 ⟨x, H1, I1, r1, q1⟩ => ?_)
  have hst := po_some (X := X) (pe_un (pos := p3) un_neg (pe_int (i := 1) (j := j) (pos := p4)))
  refine wpAny_Slice ?_
  rw [evalPart_none]
  refine wpAny_pure ?_
  refine wpAny_pure ?_
  refine thn (hst.run pins s1 σ H1 (fun o H' => o = some (-1) ∧ H' = H1) I1 ?_) fun vs s3 ⟨o, H3, I3, ps, q3⟩ => ?_
  · exact ⟨1, rfl, -1, rfl, rfl, rfl⟩
  obtain ⟨rfl, rfl⟩ := q3
  obtain ⟨a, xs, rfl, hx, q⟩ := q1
  cases r1
  cases ps with
  | int i tk =>
    have I4 : Inv X pins σ H3 { s3 with heap := s3.heap.push { cls := .type "slice", data := .fields #[.none, .none, .int (-1) tk] } } := I3.kept (t' := s3.toks) fun b ob q => Heap.get?_push_of_some _ q
    obtain ⟨its, r, ht, hz⟩ := I4.tuple hx
    have hlen := r.length
    show wpAny (model X.prog X.w) X.A (subscriptTail e (.Slice none none (some (.UnaryOp .USub (.Constant (.int 1) j p4) p3)) p2) (.ref a) (.ref s3.heap.objs.size)) (EP X pins σ Q) X.xe { s3 with heap := s3.heap.push { cls := .type "slice", data := .fields #[.none, .none, .int (-1) tk] } }
    refine tail_any (ops := _) ht.typeIs PyProof.Rows.slot_tuple_getitem.lookup ?_ (by with_unfolding_all rfl)
    refine HT.getItem_tuple_rev ht (Heap.IsSliceOf.new ..) ?_ (by rw [List.size_toArray]; omega)
    refine ⟨.ref _, _, I4.laid (t' := s3.toks) (o := .frz { cls := .type "tuple", data := .seq its.reverse.toArray } (.tup xs.reverse)) (fun b ob q => Heap.get?_push_of_some _ q) (Nat.le_refl _) ?_, rfl, q _ _ (I4.hok.fresh (Nat.le_refl _)) rfl rfl⟩
    exact ⟨Heap.get?_push_size _ rfl, by rw [List.length_reverse]; exact hz, its.reverse, r.reverse, IsTup.new _ _⟩
end
end Pk

set_option maxRecDepth 100000
set_option maxHeartbeats 2000000
/-! an exception of the program's own, made without arguments; isinstance of one that is held -/
namespace Pk
open PySem PySem.Spec PyProof.Rows L2
section
variable {X : Cx}
/-- x() -/
theorem pmk_own0 {C : Addr} {bmB : List Value} {B newId initId : String} {x : Str} {p pos : Pos} (F : ExcBaseFacts B newId initId bmB) (q : PySem.W.excIn X.K C bmB newId = true) (gC : X.mg x = some (.ref C)) (kC : PySem.W.keepIn X.K (.ref C) = true) (r : Raises X (.ref C)) (hg : Gl X x)
    (hdb : (x == ("__debug__" : Str)) = false := by decide) : PMk X (.Call (.Name x p) [] [] pos) (fun _ H Q => Q (.ref C) none H) := by
  intro pins s σ H Q I h
  refine wpAny_Call_Name_kw (ld_glob I hg gC ?_ hdb)
  have key : wpAny (model X.prog X.w) X.A (call (.ref C) []) (MkP X pins σ Q) X.xe s := by
    obtain ⟨bm, N, nm, qn, bs, hdct, sn, sub, ab, col, dd, k0, k1, k2, k3, k5, mN, hC, hN, hni, T⟩ := exc_obj I.kIn q
    exact wpAny_call_exc_subT F T hC hN hni (fun h' e hm => mk_of I hm r h (I.hok.gone hm.new)) (Nat.zero_le _)
  exact PySem.W.callWith_K0 I.kIn kC key
end
/-- what is to be known of an exception class D of the program, made without arguments, below C2 -/
structure ExF (K : PySem.W.Frag) (D C2 : Addr) : Prop where
  q : PySem.W.excIn K D [Value.type "ValueError", Value.type "Exception", Value.type "BaseException", Value.type "object"] "ValueError.__new__" = true
  kp : PySem.W.keepIn K (.ref D) = true
  ty : PySem.W.typeIn K (.ref D) = some (.type "type")
  own : PySem.W.exmOne K (.ref D) (.ref D) = some true
  kit : PySem.W.kitOne K (.ref D) (.ref C2) = some true
  e : ExcC K D
theorem rais {X : Cx} {D C2 : Addr} (F : ExF X.K D C2) : Raises X (.ref D) := raises_own F.e.hs F.ty
/-- isinstance of what is caught, where it is known to be a D -/
def rIsEx (K : PySem.W.Frag) (D a : Addr) (cls : Value) (d : Option Addr) : List V → Hp → VK → Prop := fun xs H Q => cls = .ref D ∧ d = none ∧ rIsE K D a xs H Q
theorem call_isEx {X : Cx} {a D : Addr} {oe : Obj} {cls : Value} {d : Option Addr} {pn : List (Addr × Obj)} (C : ExcC X.K D) (hz : Zc cls d oe) (hf : ∃ vs, oe.data = .fields vs) : CallR (X.suite a ((a, oe) :: pn)) (.builtin "isinstance") (rIsEx X.K D a cls d) := by
  intro pins s σ H xs us Q I r h
  obtain ⟨rfl, rfl, h⟩ := h
  exact call_isE C hz hf pins s σ H xs us Q I r h
end Pk

set_option maxRecDepth 100000
set_option maxHeartbeats 4000000
set_option pp.maxSteps 600
namespace Pk
open PySem PySem.Spec PyProof.Rows L2
def top (i : Nat) : Stmt := PySem.Challenge.pw_playsense_k81_all_programs.main.body.getD i (.Pass ⟨0, 0, 0, 0⟩)
abbrev s_body_of : Stmt := top 4
abbrev s__kind_pieces : Stmt := top 6
abbrev s_write_kind : Stmt := top 7
abbrev s__times : Stmt := top 12
abbrev s_count : Stmt := top 14
abbrev s__bodies : Stmt := top 15
abbrev s__side_by_side : Stmt := top 16
abbrev s_listed : Stmt := top 17
abbrev s__law_cell : Stmt := top 19
abbrev s__law_digits : Stmt := top 20
abbrev s__law_draw : Stmt := top 21
abbrev s__law_box : Stmt := top 22
abbrev s__law_same : Stmt := top 23
abbrev s__law_kind : Stmt := top 24
abbrev s__law_all : Stmt := top 25
abbrev s__law_bodies : Stmt := top 26
abbrev s__law_shared : Stmt := top 27
abbrev s__law_counts : Stmt := top 28
abbrev s__law_times : Stmt := top 29
abbrev s_law : Stmt := top 30
-- body_of: slots 0 note, 1 parts, 2 _, 3 up, 4 k, 5 asked, 6 arguments, 7 kind, 8 body; cells []
theorem c_body_of : FnScope ["note", "parts", "_", "up", "k", "asked", "arguments", "kind", "body"] ["note", "parts"] (defScope s_body_of) := ⟨rfl, rfl, rfl, by decide +kernel, rfl, by decide +kernel, by decide +kernel⟩
-- _kind_pieces: slots 0 kind, 1 pieces, 2 argument; cells []
theorem c__kind_pieces : FnScope ["kind", "pieces", "argument"] ["kind"] (defScope s__kind_pieces) := ⟨rfl, rfl, rfl, by decide +kernel, rfl, by decide +kernel, by decide +kernel⟩
-- write_kind: slots 0 kind, 1 texts, 2 pending, 3 part; cells []
theorem c_write_kind : FnScope ["kind", "texts", "pending", "part"] ["kind"] (defScope s_write_kind) := ⟨rfl, rfl, rfl, by decide +kernel, rfl, by decide +kernel, by decide +kernel⟩
-- _times: slots 0 left, 1 right, 2 n, 3 few; cells ['left', 'right']
theorem c__times : FnScope ["left", "right", "n", "few"] ["left", "right"] (defScope s__times) := ⟨rfl, rfl, rfl, by decide +kernel, rfl, by decide +kernel, by decide +kernel⟩
-- count: slots 0 kind, 1 many; cells []
theorem c_count : FnScope ["kind", "many"] ["kind", "many"] (defScope s_count) := ⟨rfl, rfl, rfl, by decide +kernel, rfl, by decide +kernel, by decide +kernel⟩
-- _bodies: slots 0 kinds, 1 many, 2 found, 3 up, 4 kind, 5 k, 6 asked, 7 within, 8 inner, 9 parts; cells ['kinds', 'up', 'k', 'asked']
theorem c__bodies : FnScope ["kinds", "many", "found", "up", "kind", "k", "asked", "within", "inner", "parts"] ["kinds", "many"] (defScope s__bodies) := ⟨rfl, rfl, rfl, by decide +kernel, rfl, by decide +kernel, by decide +kernel⟩
-- _side_by_side: slots 0 within, 1 many, 2 found, 3 kinds, 4 choices, 5 parts, 6 left, 7 few, 8 body; cells ['kinds', 'choices']
theorem c__side_by_side : FnScope ["within", "many", "found", "kinds", "choices", "parts", "left", "few", "body"] ["within", "many"] (defScope s__side_by_side) := ⟨rfl, rfl, rfl, by decide +kernel, rfl, by decide +kernel, by decide +kernel⟩
-- listed: slots 0 kind, 1 many, 2 body; cells ['kind']
theorem c_listed : FnScope ["kind", "many", "body"] ["kind", "many"] (defScope s_listed) := ⟨rfl, rfl, rfl, by decide +kernel, rfl, by decide +kernel, by decide +kernel⟩
-- _law_cell: slots 0 script, 1 k; cells []
theorem c__law_cell : FnScope ["script", "k"] ["script", "k"] (defScope s__law_cell) := ⟨rfl, rfl, rfl, by decide +kernel, rfl, by decide +kernel, by decide +kernel⟩
-- _law_digits: slots 0 script, 1 first, 2 last, 3 digits, 4 k, 5 cell, 6 turn, 7 seed; cells []
theorem c__law_digits : FnScope ["script", "first", "last", "digits", "k", "cell", "turn", "seed"] ["script", "first", "last"] (defScope s__law_digits) := ⟨rfl, rfl, rfl, by decide +kernel, rfl, by decide +kernel, by decide +kernel⟩
-- _law_draw: slots 0 box, 1 many, 2 at; cells []
theorem c__law_draw : FnScope ["box", "many", "at"] ["box", "many"] (defScope s__law_draw) := ⟨rfl, rfl, rfl, by decide +kernel, rfl, by decide +kernel, by decide +kernel⟩
-- _law_box: slots 0 script, 1 first, 2 last; cells []
theorem c__law_box : FnScope ["script", "first", "last"] ["script", "first", "last"] (defScope s__law_box) := ⟨rfl, rfl, rfl, by decide +kernel, rfl, by decide +kernel, by decide +kernel⟩
-- _law_same: slots 0 actual, 1 expected, 2 k; cells []
theorem c__law_same : FnScope ["actual", "expected", "k"] ["actual", "expected"] (defScope s__law_same) := ⟨rfl, rfl, rfl, by decide +kernel, rfl, by decide +kernel, by decide +kernel⟩
-- _law_kind: slots 0 box, 1 depth, 2 budget, 3 parts, 4 k; cells []
theorem c__law_kind : FnScope ["box", "depth", "budget", "parts", "k"] ["box", "depth", "budget"] (defScope s__law_kind) := ⟨rfl, rfl, rfl, by decide +kernel, rfl, by decide +kernel, by decide +kernel⟩
-- _law_all: slots 0 kind, 1 many, 2 body; cells ['kind']
theorem c__law_all : FnScope ["kind", "many", "body"] ["kind", "many"] (defScope s__law_all) := ⟨rfl, rfl, rfl, by decide +kernel, rfl, by decide +kernel, by decide +kernel⟩
-- _law_bodies: slots 0 kinds, 1 many, 2 found, 3 at, 4 k, 5 kind, 6 row, 7 given, 8 part, 9 j; cells ['kinds', 'kind', 'row']
theorem c__law_bodies : FnScope ["kinds", "many", "found", "at", "k", "kind", "row", "given", "part", "j"] ["kinds", "many"] (defScope s__law_bodies) := ⟨rfl, rfl, rfl, by decide +kernel, rfl, by decide +kernel, by decide +kernel⟩
-- _law_shared: slots 0 parts, 1 many, 2 found, 3 own, 4 rest, 5 body, 6 row; cells ['body']
theorem c__law_shared : FnScope ["parts", "many", "found", "own", "rest", "body", "row"] ["parts", "many"] (defScope s__law_shared) := ⟨rfl, rfl, rfl, by decide +kernel, rfl, by decide +kernel, by decide +kernel⟩
-- _law_counts: slots 0 kinds, 1 many, 2 known, 3 key, 4 counts, 5 less, 6 shares, 7 around, 8 kind, 9 parts, 10 part, 11 k; cells ['shares', 'parts']
theorem c__law_counts : FnScope ["kinds", "many", "known", "key", "counts", "less", "shares", "around", "kind", "parts", "part", "k"] ["kinds", "many", "known"] (defScope s__law_counts) := ⟨rfl, rfl, rfl, by decide +kernel, rfl, by decide +kernel, by decide +kernel⟩
-- _law_times: slots 0 one, 1 two, 2 many, 3 found, 4 j, 5 k; cells []
theorem c__law_times : FnScope ["one", "two", "many", "found", "j", "k"] ["one", "two", "many"] (defScope s__law_times) := ⟨rfl, rfl, rfl, by decide +kernel, rfl, by decide +kernel, by decide +kernel⟩
-- law: slots 0 script, 1 box, 2 turn, 3 kind, 4 many, 5 due, 6 found, 7 e; cells []
theorem c_law : FnScope ["script", "box", "turn", "kind", "many", "due", "found", "e"] ["script"] (defScope s_law) := ⟨rfl, rfl, rfl, by decide +kernel, rfl, by decide +kernel, by decide +kernel⟩
structure Bt (mg : Str → Option Value) : Prop where
  b_tuple : mg "tuple" = none
  b_zip : mg "zip" = none
  b_len : mg "len" = none
  b_isinstance : mg "isinstance" = none
  b_str : mg "str" = none
  b_range : mg "range" = none
  b_sum : mg "sum" = none
  b_sorted : mg "sorted" = none
  b_list : mg "list" = none
  b_enumerate : mg "enumerate" = none
  b_min : mg "min" = none
  b_int : mg "int" = none
  b_bool : mg "bool" = none
/-- a def of the text: its object, how it is bound, its name -/
structure Df (K : PySem.W.Frag) (mg : Str → Option Value) (x : Str) (st : Stmt) (ps : List Str) (f : Addr) (fd : FuncData) : Prop where
  F : FunD K x x (defArgs st) (defBody st) (defScope st) [] [] f fd
  b : Binds K fd ps []
  m : mg x = some (.ref f)
theorem Df.kp {K : PySem.W.Frag} {mg : Str → Option Value} {x : Str} {st : Stmt} {ps : List Str} {f : Addr} {fd : FuncData} (D : Df K mg x st ps f fd) : PySem.W.keepIn K (.ref f) = true := D.F.kp
theorem Df.ok {P : Program} {w : World} {K : PySem.W.Frag} {mg : Str → Option Value} {base : Heap} {x : Str} {st : Stmt} {ps : List Str} {f : Addr} {fd : FuncData} {N : List Str} {k : Nat} {sp : Sp} (D : Df K mg x st ps f fd) (S : FnScope N ps (defScope st)) (len : ∀ vs H Q E, sp vs H Q E → vs.length = ps.length)
    (hbody : ∀ (cdv : Value) (A : Around) (outer : List Env) (s : Shared) (H : Hp) (vs : List V) (Q : VK) (E : XK), Room k (A.deeper (envOfC x (defScope st) s.heap.objs.size f cdv)) → sp vs H Q E →
      ∃ t, PSs (cxOf CX0 P w K mg base N x (defScope st) f cdv A outer s H E).nox (defBody st) t ∧ t { nx := fun _ H' => Q .non H', rt := Q } (start N vs) H) : FnOk P w K mg base CX0 (k + 1) f fd ps sp :=
  D.F.ok S len fun cdv A outer s H vs Q E hr hsp => let ⟨t, h, q⟩ := hbody cdv A outer s H vs Q E hr hsp; ⟨t, h.nox, q⟩
/-- what stood stands, a new list at p besides -/
structure Nw (p : Addr) (H0 H : Hp) (xs : List V) : Prop where
  s : Same H0 H
  n : H0 p = none
  h : H p = some (.lst xs)
theorem Nw.put {p : Addr} {H0 H : Hp} {xs : List V} (w : Nw p H0 H xs) (ys : List V) : Nw p H0 (upd H p (.lst ys)) ys :=
  ⟨fun b o e => by rw [upd_ne (ne_of_none e w.n)]; exact w.s b o e, w.n, upd_same⟩
theorem Nw.app {p : Addr} {H0 H : Hp} {ds : List Int} {x : Int} (w : Nw p H0 H (ds.map V.int)) : Nw p H0 (upd H p (.lst (ds.map V.int ++ [V.int x]))) ((ds ++ [x]).map V.int) := by
  have e : (ds ++ [x]).map V.int = ds.map V.int ++ [V.int x] := by rw [List.map_append] <;> rfl
  rw [e]
  exact w.put _
theorem Nw.new {p : Addr} {H : Hp} (n : H p = none) (xs : List V) : Nw p H (upd H p (.lst xs)) xs := ⟨same_new n _, n, upd_same⟩
theorem Nw.step {p : Addr} {H0 H H1 : Hp} {xs : List V} (w : Nw p H0 H xs) (s : Same H H1) : Nw p H0 H1 xs := ⟨w.s.trans s, w.n, s _ _ w.h⟩
theorem Same.tup {K : PySem.W.Frag} {H H' : Hp} {a : Addr} {xs : List V} (e : Same H H') (h : SqT K H a xs) : SqT K H' a xs := by
  rcases h with (h | ⟨o, h⟩) | h
  · exact .inl (.inl (e _ _ h))
  · exact .inl (.inr ⟨o, e _ _ h⟩)
  · exact .inr h
theorem small6 {n : Nat} (h : n ≤ 1000000) : n < sizeLine := by rw [sizeLine_eq]; omega
theorem small6' {n : Nat} (h : n ≤ 1000000) : n ≤ sizeLine := by rw [sizeLine_eq]; omega
theorem yes_go {σ : L2.St} {H : Hp} {A B : Hp → Prop} (h : A H) : tYes σ H fun b H3 => if b = true then A H3 else B H3 := by
  show (if true = true then A H else B H)
  exact iteT h
section
variable {P : Program} {w : World} {K : PySem.W.Frag} {mg : Str → Option Value} {base : Heap}
/-! ### _law_cell -/
def spCell (K : PySem.W.Frag) : Sp := fun vs H Q _ => ∃ (a : Addr) (ns : List Int) (k : Int), vs = [.ref a, .int k] ∧ SqL K H a (ns.map V.int) ∧ 0 ≤ k ∧ ∀ i : Int, Q (.int i) H
theorem ok_cell {f : Addr} {fd : FuncData} (D : Df K mg "_law_cell" s__law_cell ["script", "k"] f fd) (B : Bt mg) : FnOk P w K mg base CX0 1 f fd ["script", "k"] (spCell K) := by
  refine D.ok c__law_cell (fun vs H Q E h => ?_) (fun cdv A outer s H vs Q E hr h => ?_)
  · obtain ⟨a, ns, k, rfl, _⟩ := h
    rfl
  obtain ⟨a, ns, k, rfl, hS, h0, q⟩ := h
  have nd := c__law_cell.nd
  refine ⟨_, (pss_cons (ps_if (pt_cmpR op_lt (pv 1) (pe_callB call_len_seq (by rfl) B.b_len PySem.boot_len (pa_cons (pv 0) pa_nil)) (nomark _)) (pss_one (ps_ret (pe_ix ix_list (pv 0) (pv 1) (fun _ _ => rfl)))) pss_nil)
  (pss_one (ps_ret pe_int))), ?_⟩
  have hl : (ns.map V.int).length = ns.length := List.length_map _
  refine ⟨_, rfl, _, rfl, a, _, rfl, .inl hS, _, _, rfl, rfl, _, rfl, ?_⟩
  refine ite2 (fun c => ?_) (fun c => ?_)
  · have c' : k < (((ns.map V.int).length : Nat) : Int) := of_decide_eq_true c
    rw [hl] at c'
    have hk : k.toNat < ns.length := by omega
    have ek : k = ((k.toNat : Nat) : Int) := by omega
    have q1 : atI (ns.map V.int) ((k.toNat : Nat) : Int) = some (.int ns[k.toNat]) := atI_nat (by rw [List.getElem?_map, List.getElem?_eq_getElem hk] <;> rfl)
    rw [← ek] at q1
    exact ⟨_, rfl, _, rfl, a, _, _, _, rfl, rfl, hS, q1, q _⟩
  · exact q _
/-! ### _law_digits -/
def spDigits (K : PySem.W.Frag) : Sp := fun vs H Q _ => ∃ (a : Addr) (ns : List Int) (lo n : Nat), vs = [.ref a, .int lo, .int ((lo : Int) + n)] ∧ SqL K H a (ns.map V.int) ∧ lo ≤ 100 ∧ n ≤ 100 ∧
  ∀ (p : Addr) (H' : Hp) (ds : List Int), Nw p H H' (ds.map V.int) → Q (.ref p) H'
theorem ok_digits {f g : Addr} {fd gd : FuncData} (D : Df K mg "_law_digits" s__law_digits ["script", "first", "last"] f fd) (B : Bt mg)
    (D__law_cell : Df K mg "_law_cell" s__law_cell ["script", "k"] g gd) : FnOk P w K mg base CX0 2 f fd ["script", "first", "last"] (spDigits K) := by
  have G__law_cell : FnOk P w K mg base CX0 1 g gd ["script", "k"] (spCell K) := ok_cell D__law_cell B
  refine D.ok c__law_digits (fun vs H Q E h => ?_) (fun cdv A outer s H vs Q E hr h => ?_)
  · obtain ⟨a, ns, lo, n, rfl, _⟩ := h
    rfl
  obtain ⟨a, ns, lo, n, rfl, hS, hlo, hn, q⟩ := h
  have nd := c__law_digits.nd
  refine ⟨_, (pss_cons (ps_set (i := 3) nd rfl (Or.inl rfl) (pe_lst pa_nil))
  (pss_cons (ps_for PassesOwn.never rfl (pi_range2 (by rfl) B.b_range (pa_cons (pv 1) (pa_cons (pv 2) pa_nil))) (pg_name (i := 4) nd rfl (Or.inl rfl)) (pss_cons (ps_set (i := 5) nd rfl (Or.inl rfl) (pe_call G__law_cell (hr.mono (by first | decide | omega)) (by rfl) D__law_cell.m D__law_cell.kp D__law_cell.b .nil pass0 (pa_cons (pv 0) (pa_cons (pv 4) pa_nil))))
  (pss_cons (ps_if (pt_cmpR op_lt (pv 5) pe_int (nomark _)) (pss_one (ps_set (i := 5) nd rfl (Or.inl rfl) (pe_op op_sub pe_int (pe_op op_mul pe_int (pv 5))))) pss_nil)
  (pss_one (ps_if (pt_cmpR op_ge (pv 5) (pe_op op_pow pe_int pe_int) (nomark _)) (pss_one (ps_for PassesOwn.never rfl (pi_range1 (by rfl) B.b_range (pa_cons pe_int pa_nil)) (pg_name (i := 6) nd rfl (Or.inl rfl)) (pss_one (ps_if (pt_cmpR op_gt (pv 5) pe_int (nomark _)) (pss_cons (ps_expr (pe_bm PySem.F.plainAttrs_list PySem.F.slot_list_append PySem.F.type_list_append mt_append (pv 3) (pa_cons (pe_op op_mod (pe_callTy call_int1 (by rfl) B.b_int (by decide +kernel) (pa_cons (pv 5) pa_nil)) pe_int) pa_nil)))
  (pss_one (ps_set (i := 5) nd rfl (Or.inl rfl) (pe_op op_fdiv (pv 5) pe_int)))) pss_nil)))) (pss_cons (ps_set (i := 7) nd rfl (Or.inl rfl) (pe_op op_mod (pe_callTy call_int1 (by rfl) B.b_int (by decide +kernel) (pa_cons (pe_op op_add (pe_op op_add (pe_op op_mul (pv 5) pe_int) (pe_op op_mul (pv 4) pe_int)) pe_int) pa_nil)) pe_int))
  (pss_one (ps_for PassesOwn.never rfl (pi_range1 (by rfl) B.b_range (pa_cons pe_int pa_nil)) (pg_name (i := 6) nd rfl (Or.inl rfl)) (pss_cons (ps_set (i := 7) nd rfl (Or.inl rfl) (pe_op op_mod (pe_callTy call_int1 (by rfl) B.b_int (by decide +kernel) (pa_cons (pe_op op_add (pe_op op_add (pe_op op_mul (pv 7) pe_int) (pe_op op_mul pe_int (pv 6))) pe_int) pa_nil)) pe_int))
  (pss_one (ps_expr (pe_bm PySem.F.plainAttrs_list PySem.F.slot_list_append PySem.F.type_list_append mt_append (pv 3) (pa_cons (pe_op op_mod (pe_callTy call_int1 (by rfl) B.b_int (by decide +kernel) (pa_cons (pe_op op_fdiv (pv 7) pe_int) pa_nil)) pe_int) pa_nil)))))))))))))
  (pss_one (ps_ret (pv 3))))), ?_⟩
  refine ⟨Nat.zero_le _, fun p np => ?_⟩
  refine ⟨_, rfl, _, rfl, _, _, rfl, ⟨by omega, by omega, by omega, by omega⟩, ?_⟩
  refine for_range (lo := (lo : Int)) (n := ((lo : Int) + n - lo).toNat) (fun i σ H' => ∃ (ds : List Int) (y4 y5 y6 y7 : Option V), σ = [some (.ref a), some (.int lo), some (.int ((lo : Int) + n)), some (.ref p), y4, y5, y6, y7] ∧ Nw p H H' (ds.map V.int) ∧ ds.length ≤ 60 * i)
    ⟨[], none, none, none, none, rfl, Nw.new np _, Nat.zero_le _⟩ ?_ ?_
  · rintro i σ H1 hi ⟨ds, y4, y5, y6, y7, rfl, hw, hd⟩
    have hi2 : i < n := by omega
    refine ⟨_, rfl, _, rfl, a, ns, (lo : Int) + i, rfl, hw.s.seq hS, by omega, fun c => ?_⟩
    refine ⟨_, rfl, _, _, rfl, rfl, _, rfl, ite2 (fun e1 => ⟨_, rfl, _, _, rfl, rfl, .inl ⟨by decide, by decide⟩, _, _, rfl, rfl, ?_⟩) (fun e1 => ?_)⟩
    all_goals
      refine ⟨_, rfl, _, _, rfl, rfl, ⟨by decide, by decide, by decide⟩, _, _, rfl, rfl, _, rfl, ite2 (fun e2 => ?_) (fun e2 => ?_)⟩
      · refine ⟨60, rfl, by decide, by decide, for_range (n := 60) (fun j σ H' => ∃ (es : List Int) (c' : Int) (y6 y7 : Option V), σ = [some (.ref a), some (.int lo), some (.int ((lo : Int) + n)), some (.ref p), some (.int ((lo : Int) + i)), some (.int c'), y6, y7] ∧ Nw p H H' (es.map V.int) ∧ es.length ≤ 60 * i + j)
          ⟨ds, _, _, _, rfl, hw, hd⟩ ?_ ?_⟩
        · rintro j σ H2 hj ⟨es, c', y6, y7, rfl, hw2, he⟩
          refine ⟨_, rfl, _, _, rfl, rfl, _, rfl, ite2 (fun e3 => ?_) (fun e3 => ⟨es, c', _, _, rfl, hw2, by omega⟩)⟩
          refine ⟨_, rfl, .inl ⟨rfl, _, SqL.of hw2.h⟩, _, rfl, .inl ⟨_, rfl, _, _, rfl, rfl, (by show (0 : Int) < 1000; decide), _, _, _, rfl, rfl, hw2.h, small6 (by rw [List.length_map]; omega), ?_⟩⟩
          refine ⟨_, rfl, _, _, rfl, rfl, ⟨by decide, by decide⟩, es ++ [_], _, _, _, rfl, hw2.app, ?_⟩
          rw [List.length_append, List.length_singleton]
          omega
        · rintro σ H2 ⟨es, c', y6, y7, rfl, hw2, he⟩
          exact ⟨es, _, _, _, _, rfl, hw2, by omega⟩
      · refine ⟨_, rfl, _, _, rfl, rfl, .inr ⟨by decide, by decide⟩, _, rfl, _, _, rfl, rfl, .inr ⟨by decide, by decide⟩, _, _, rfl, rfl, _, _, rfl, rfl, .inl ⟨_, rfl, _, _, rfl, rfl, (by show (0 : Int) < 2147483647; decide), ?_⟩⟩
        refine ⟨12, rfl, by decide, by decide, for_range (n := 12) (fun j σ H' => ∃ (es : List Int) (c' z : Int) (y6 : Option V), σ = [some (.ref a), some (.int lo), some (.int ((lo : Int) + n)), some (.ref p), some (.int ((lo : Int) + i)), some (.int c'), y6, some (.int z)] ∧ Nw p H H' (es.map V.int) ∧ es.length ≤ 60 * i + j)
          ⟨ds, _, _, _, rfl, hw, hd⟩ ?_ ?_⟩
        · rintro j σ H2 hj ⟨es, c', z, y6, rfl, hw2, he⟩
          refine ⟨_, rfl, _, _, rfl, rfl, .inr ⟨by decide, by decide⟩, _, rfl, _, _, rfl, rfl, .inl ⟨by decide, by decide⟩, _, _, rfl, rfl, _, _, rfl, rfl, .inl ⟨_, rfl, _, _, rfl, rfl, (by show (0 : Int) < 2147483647; decide), ?_⟩⟩
          refine ⟨_, rfl, .inl ⟨rfl, _, SqL.of hw2.h⟩, _, rfl, _, _, rfl, rfl, ⟨by decide, by decide⟩, .inl ⟨_, rfl, _, _, rfl, rfl, (by show (0 : Int) < 1000; decide), _, _, _, rfl, rfl, hw2.h, small6 (by rw [List.length_map]; omega), ?_⟩⟩
          refine ⟨es ++ [_], _, _, _, rfl, hw2.app, ?_⟩
          rw [List.length_append, List.length_singleton]
          omega
        · rintro σ H2 ⟨es, c', z, y6, rfl, hw2, he⟩
          exact ⟨es, _, _, _, _, rfl, hw2, by omega⟩
  · rintro σ H1 ⟨ds, y4, y5, y6, y7, rfl, hw, hd⟩
    exact ⟨_, rfl, q p H1 ds hw⟩
end

/-! ### the box -/
def BoxAt (H : Hp) (b d : Addr) : Prop := ∃ (ds : List Int) (n : Int), H b = some (.lst [.ref d, .int n]) ∧ H d = some (.lst (ds.map V.int)) ∧ d ≠ b ∧ 0 ≤ n
theorem BoxAt.lst {H : Hp} {b d : Addr} (x : BoxAt H b d) : ∃ xs, H b = some (.lst xs) := let ⟨_, _, h, _⟩ := x; ⟨_, h⟩
theorem BoxAt.dst {H : Hp} {b d : Addr} (x : BoxAt H b d) : ∃ xs, H d = some (.lst xs) := let ⟨_, _, _, h, _⟩ := x; ⟨_, h⟩
theorem BoxAt.keep {H H' : Hp} {b d : Addr} (x : BoxAt H b d) (h1 : ∀ o, H b = some o → H' b = some o) (h2 : ∀ o, H d = some o → H' d = some o) : BoxAt H' b d := let ⟨ds, n, a1, a2, a3, a4⟩ := x; ⟨ds, n, h1 _ a1, h2 _ a2, a3, a4⟩
theorem BoxAt.same {H H' : Hp} {b d : Addr} (x : BoxAt H b d) (s : Same H H') : BoxAt H' b d := x.keep (fun _ => s _ _) (fun _ => s _ _)
theorem BoxAt.other {H : Hp} {b d u : Addr} (o : HO) (x : BoxAt H b d) (hb : u ≠ b) (hd : u ≠ d) : BoxAt (upd H u o) b d := x.keep (fun _ h => by rw [upd_ne hb.symm]; exact h) (fun _ h => by rw [upd_ne hd.symm]; exact h)
theorem box_kx {H H' : Hp} {b d : Addr} (x : BoxAt H b d) (y : BoxAt H' b d) (s : SB b H H') : Kx H H' := let ⟨_, h⟩ := x.lst; let ⟨_, h'⟩ := y.lst; sb_kx s h h'
section
variable {P : Program} {w : World} {K : PySem.W.Frag} {mg : Str → Option Value} {base : Heap}
def spDraw : Sp := fun vs H Q _ => ∃ (b d : Addr) (m : Int), vs = [.ref b, .int m] ∧ BoxAt H b d ∧ 0 < m ∧ ∀ (r : Int) (H' : Hp), 0 ≤ r → r < m → BoxAt H' b d → SB b H H' → Q (.int r) H'
theorem ok_draw {f : Addr} {fd : FuncData} (D : Df K mg "_law_draw" s__law_draw ["box", "many"] f fd) (B : Bt mg) : FnOk P w K mg base CX0 1 f fd ["box", "many"] spDraw := by
  refine D.ok c__law_draw (fun vs H Q E h => ?_) (fun cdv A outer s H vs Q E hr h => ?_)
  · obtain ⟨b, d, m, rfl, _⟩ := h
    rfl
  obtain ⟨b, d, m, rfl, ⟨ds, n, hb, hd, hdb, hn⟩, hm, q⟩ := h
  have nd := c__law_draw.nd
  refine ⟨_, (pss_cons (ps_set (i := 2) nd rfl (Or.inl rfl) (pe_ix ix_list (pv 0) pe_int (fun _ _ => rfl)))
  (pss_cons (ps_asg (pe_op op_add (pv 2) pe_int) (pg_sub (pv 0) pe_int set_list))
  (pss_cons (ps_if (pt_cmpR op_lt (pv 2) (pe_callB call_len_seq (by rfl) B.b_len PySem.boot_len (pa_cons (pe_ix ix_list (pv 0) pe_int (fun _ _ => rfl)) pa_nil)) (nomark _)) (pss_one (ps_ret (pe_op op_mod (pe_callTy call_int1 (by rfl) B.b_int (by decide +kernel) (pa_cons (pe_ix ix_list (pe_ix ix_list (pv 0) pe_int (fun _ _ => rfl)) (pv 2) (fun _ _ => rfl)) pa_nil)) (pv 1)))) pss_nil)
  (pss_one (ps_ret pe_int))))), ?_⟩
  refine ⟨_, rfl, b, _, 1, _, rfl, rfl, SqL.of hb, rfl, ?_⟩
  refine ⟨_, rfl, _, _, rfl, rfl, _, rfl, b, _, 1, 1, rfl, rfl, hb, rfl, ?_⟩
  have hb' : (upd H b (.lst [.ref d, .int (n + 1)])) b = some (.lst [.ref d, .int (n + 1)]) := upd_same
  have hd' : (upd H b (.lst [.ref d, .int (n + 1)])) d = some (.lst (ds.map V.int)) := by rw [upd_ne hdb]; exact hd
  have hB : BoxAt (upd H b (.lst [.ref d, .int (n + 1)])) b d := ⟨ds, n + 1, hb', hd', hdb, by omega⟩
  refine ⟨_, rfl, _, rfl, b, _, 0, _, rfl, rfl, SqL.of hb', rfl, d, _, rfl, .inl (SqL.of hd'), _, _, rfl, rfl, _, rfl, ite2 (fun c => ?_) (fun c => ?_)⟩
  · have c' : n < (((ds.map V.int).length : Nat) : Int) := of_decide_eq_true c
    rw [List.length_map] at c'
    have hk : n.toNat < ds.length := by omega
    have q1 : atI (ds.map V.int) ((n.toNat : Nat) : Int) = some (.int ds[n.toNat]) := atI_nat (by rw [List.getElem?_map, List.getElem?_eq_getElem hk] <;> rfl)
    have ek : ((n.toNat : Nat) : Int) = n := by omega
    rw [ek] at q1
    refine ⟨_, rfl, b, _, 0, _, rfl, rfl, SqL.of hb', rfl, _, rfl, d, _, _, _, rfl, rfl, SqL.of hd', q1, .inl ⟨_, rfl, _, rfl, _, _, rfl, rfl, hm, ?_⟩⟩
    exact q _ _ (Int.emod_nonneg _ (by omega)) (Int.emod_lt_of_pos _ hm) hB (sb_upd _)
  · exact q 0 _ (Int.le_refl _) hm hB (sb_upd _)
def spBox (K : PySem.W.Frag) : Sp := fun vs H Q _ => ∃ (a : Addr) (ns : List Int) (lo n : Nat), vs = [.ref a, .int lo, .int ((lo : Int) + n)] ∧ SqL K H a (ns.map V.int) ∧ lo ≤ 100 ∧ n ≤ 100 ∧
  ∀ (p d : Addr) (H' : Hp), Same H H' → H p = none → H d = none → BoxAt H' p d → Q (.ref p) H'
theorem ok_box {f g e : Addr} {fd gd ed : FuncData} (D : Df K mg "_law_box" s__law_box ["script", "first", "last"] f fd) (D__law_digits : Df K mg "_law_digits" s__law_digits ["script", "first", "last"] g gd) (D__law_cell : Df K mg "_law_cell" s__law_cell ["script", "k"] e ed) (B : Bt mg) :
    FnOk P w K mg base CX0 3 f fd ["script", "first", "last"] (spBox K) := by
  have G__law_digits : FnOk P w K mg base CX0 2 g gd ["script", "first", "last"] (spDigits K) := ok_digits D__law_digits B D__law_cell
  refine D.ok c__law_box (fun vs H Q E h => ?_) (fun cdv A outer s H vs Q E hr h => ?_)
  · obtain ⟨a, ns, lo, n, rfl, _⟩ := h
    rfl
  obtain ⟨a, ns, lo, n, rfl, hS, hlo, hn, q⟩ := h
  have nd := c__law_box.nd
  refine ⟨_, (pss_one (ps_ret (pe_lst (pa_cons (pe_call G__law_digits (hr.mono (by first | decide | omega)) (by rfl) D__law_digits.m D__law_digits.kp D__law_digits.b .nil pass0 (pa_cons (pv 0) (pa_cons (pv 1) (pa_cons (pv 2) pa_nil)))) (pa_cons pe_int pa_nil))))), ?_⟩
  refine ⟨_, rfl, _, rfl, _, rfl, a, ns, lo, n, rfl, hS, hlo, hn, fun p H1 ds hw => ⟨(by show 2 ≤ sizeLine; decide), fun r hr' => ?_⟩⟩
  have hne : p ≠ r := ne_of_none hw.h hr'
  have s1 : Same H1 (upd H1 r (.lst [.ref p, .int 0])) := same_new hr' _
  exact q r p _ (hw.s.trans s1) (hw.s.free hr') hw.n ⟨ds, 0, upd_same, s1 _ _ hw.h, hne, Int.le_refl _⟩
end
/-! ### isinstance -/
def tyD : D → String
  | .at .non => "NoneType"
  | .at (.bl _) => "bool"
  | .at (.int _) => "int"
  | .at _ => "str"
  | .lst => "list"
  | .tup _ => "tuple"
def isTup : D → Bool
  | .tup _ => true
  | _ => false
def isBool : D → Bool
  | .at (.bl _) => true
  | _ => false
def isInt : D → Bool
  | .at (.int _) => true
  | .at (.bl _) => true
  | _ => false
def isStr : D → Bool
  | .at .non => false
  | .at (.bl _) => false
  | .at (.int _) => false
  | .at _ => true
  | _ => false
theorem tup_ty {K : PySem.W.Frag} {H : Hp} {a : Addr} {xs : List V} (h : TupAt K H a xs) : TyX K H (.ref a) (.type "tuple") := by
  rcases h with h | ⟨o, its, n, h, c, _⟩
  · exact .base (.tup h)
  · exact .kTuple h c
theorem rep_ty {K : PySem.W.Frag} {H : Hp} {x : V} {d : D} (r : Rep K H x d) : TyX K H x (.type (tyD d)) := by
  cases r with
  | lst h => exact .base (.lst h)
  | tup h _ => exact tup_ty h
  | «at» h =>
    cases x with
    | non => exact .base .non
    | bl b => exact .base (.bl b)
    | int i => exact .base (.int i)
    | str s => exact .base (.str s)
    | byt _ => cases h
    | flt _ => cases h
    | ref _ => cases h
    | ty _ => cases h
theorem kit_tup (d : D) : kitB (tyD d) "tuple" = some (isTup d) := by
  have h_NoneType : kitB "NoneType" "tuple" = some false := by decide +kernel
  have h_bool : kitB "bool" "tuple" = some false := by decide +kernel
  have h_int : kitB "int" "tuple" = some false := by decide +kernel
  have h_str : kitB "str" "tuple" = some false := by decide +kernel
  have h_list : kitB "list" "tuple" = some false := by decide +kernel
  have h_tuple : kitB "tuple" "tuple" = some true := by decide +kernel
  cases d with
  | tup _ => exact h_tuple
  | lst => exact h_list
  | «at» v =>
    cases v with
    | non => exact h_NoneType
    | bl _ => exact h_bool
    | int _ => exact h_int
    | _ => exact h_str
theorem kit_bool (d : D) : kitB (tyD d) "bool" = some (isBool d) := by
  have h_NoneType : kitB "NoneType" "bool" = some false := by decide +kernel
  have h_bool : kitB "bool" "bool" = some true := by decide +kernel
  have h_int : kitB "int" "bool" = some false := by decide +kernel
  have h_str : kitB "str" "bool" = some false := by decide +kernel
  have h_list : kitB "list" "bool" = some false := by decide +kernel
  have h_tuple : kitB "tuple" "bool" = some false := by decide +kernel
  cases d with
  | tup _ => exact h_tuple
  | lst => exact h_list
  | «at» v =>
    cases v with
    | non => exact h_NoneType
    | bl _ => exact h_bool
    | int _ => exact h_int
    | _ => exact h_str
theorem kit_int (d : D) : kitB (tyD d) "int" = some (isInt d) := by
  have h_NoneType : kitB "NoneType" "int" = some false := by decide +kernel
  have h_bool : kitB "bool" "int" = some true := by decide +kernel
  have h_int : kitB "int" "int" = some true := by decide +kernel
  have h_str : kitB "str" "int" = some false := by decide +kernel
  have h_list : kitB "list" "int" = some false := by decide +kernel
  have h_tuple : kitB "tuple" "int" = some false := by decide +kernel
  cases d with
  | tup _ => exact h_tuple
  | lst => exact h_list
  | «at» v =>
    cases v with
    | non => exact h_NoneType
    | bl _ => exact h_bool
    | int _ => exact h_int
    | _ => exact h_str
theorem kit_str (d : D) : kitB (tyD d) "str" = some (isStr d) := by
  have h_NoneType : kitB "NoneType" "str" = some false := by decide +kernel
  have h_bool : kitB "bool" "str" = some false := by decide +kernel
  have h_int : kitB "int" "str" = some false := by decide +kernel
  have h_str : kitB "str" "str" = some true := by decide +kernel
  have h_list : kitB "list" "str" = some false := by decide +kernel
  have h_tuple : kitB "tuple" "str" = some false := by decide +kernel
  cases d with
  | tup _ => exact h_tuple
  | lst => exact h_list
  | «at» v =>
    cases v with
    | non => exact h_NoneType
    | bl _ => exact h_bool
    | int _ => exact h_int
    | _ => exact h_str
theorem isi {K : PySem.W.Frag} {H : Hp} {x : V} {d : D} {T : String} {b : Bool} {Q : VK} (r : Rep K H x d) (h : kitB (tyD d) T = some b) (q : Q (.bl b) H) : rIsi K [x, .ty T] H Q :=
  ⟨x, .ty T, .type (tyD d), .type T, b, rfl, .ty T, rep_ty r, kit_ty h, q⟩
/-! ### data without lists -/
mutual
def noL : D → Bool
  | .tup ts => noLs ts
  | .lst => false
  | .at _ => true
def noLs : List D → Bool
  | [] => true
  | t :: r => noL t && noLs r
end
theorem noL_mem : ∀ {l : List D}, noLs l = true → ∀ {d : D}, d ∈ l → noL d = true
  | t :: r, hk, d, h => by
    have hk' : (noL t && noLs r) = true := hk
    rw [Bool.and_eq_true] at hk'
    rcases List.mem_cons.mp h with e | h
    · rw [e]
      exact hk'.1
    · exact noL_mem hk'.2 h
/-! ### _law_same -/
section
variable {P : Program} {w : World} {K : PySem.W.Frag} {mg : Str → Option Value} {base : Heap}
def spSame (K : PySem.W.Frag) (n : Nat) : Sp := fun vs H Q _ => ∃ (x y : V) (d e : D), vs = [x, y] ∧ Rep K H x d ∧ Rep K H y e ∧ noL e = true ∧ dep e < n ∧ szs [e] ≤ 1000000 ∧ ∀ r : Bool, (r = true ↔ d = e) → Q (.bl r) H
theorem ok_same0 {f : Addr} {fd : FuncData} : FnOk P w K mg base CX0 0 f fd ["actual", "expected"] (spSame K 0) := by
  have no : ∀ vs H Q E, ¬ spSame K 0 vs H Q E := fun vs H Q E h => by
    obtain ⟨x, y, d, e, _, _, _, _, h1, _⟩ := h
    omega
  exact ⟨fun vs H Q E h => absurd h (no vs H Q E), fun A outer s H args us vs Q E _ _ _ _ h => absurd h (no vs H Q E)⟩
theorem ok_same {f : Addr} {fd : FuncData} (D__law_same : Df K mg "_law_same" s__law_same ["actual", "expected"] f fd) (B : Bt mg) : ∀ n : Nat, FnOk P w K mg base CX0 n f fd ["actual", "expected"] (spSame K n)
  | 0 => ok_same0
  | n + 1 => by
    have G__law_same := ok_same D__law_same B n
    refine D__law_same.ok c__law_same (fun vs H Q E h => ?_) (fun cdv A outer s H vs Q E hr h => ?_)
    · obtain ⟨x, y, d, e, rfl, _⟩ := h
      rfl
    obtain ⟨x, y, d, e, rfl, rx, ry, hnl, hdp, hsz, q⟩ := h
    have nd := c__law_same.nd
    refine ⟨_, (pss_cons (ps_if (pt_val (pe_callB call_isi (by rfl) B.b_isinstance (by decide +kernel) (pa_cons (pv 1) (pa_cons (pe_bltn (v := .ty "tuple") (by rfl) B.b_tuple (by decide +kernel) rfl) pa_nil)))) (pss_cons (ps_if (PW.pt (pw_or (pt_not (pt_val (pe_callB call_isi (by rfl) B.b_isinstance (by decide +kernel) (pa_cons (pv 0) (pa_cons (pe_bltn (v := .ty "tuple") (by rfl) B.b_tuple (by decide +kernel) rfl) pa_nil))))) (pw_or1 (pt_cmpR op_ne (pe_callB call_len_seq (by rfl) B.b_len PySem.boot_len (pa_cons (pv 0) pa_nil)) (pe_callB call_len_seq (by rfl) B.b_len PySem.boot_len (pa_cons (pv 1) pa_nil)) (nomark _))))) (pss_one (ps_ret pe_bl)) pss_nil)
  (pss_cons (ps_for PassesOwn.never rfl (pi_range1 (by rfl) B.b_range (pa_cons (pe_callB call_len_seq (by rfl) B.b_len PySem.boot_len (pa_cons (pv 1) pa_nil)) pa_nil)) (pg_name (i := 2) nd rfl (Or.inl rfl)) (pss_one (ps_if (pt_not (pt_val (pe_call G__law_same hr (by rfl) D__law_same.m D__law_same.kp D__law_same.b .nil pass0 (pa_cons (pe_ix ix_tup (pv 0) (pv 2) (fun _ _ => rfl)) (pa_cons (pe_ix ix_tup (pv 1) (pv 2) (fun _ _ => rfl)) pa_nil))))) (pss_one (ps_ret pe_bl)) pss_nil)))
  (pss_one (ps_ret pe_bl)))) pss_nil)
  (pss_cons (ps_if (pt_cmpR op_isN (pv 1) pe_non (nomark _)) (pss_one (ps_ret (pe_cmpR op_isN (pv 0) pe_non (nomark _)))) pss_nil)
  (pss_cons (ps_if (pt_val (pe_callB call_isi (by rfl) B.b_isinstance (by decide +kernel) (pa_cons (pv 1) (pa_cons (pe_bltn (v := .ty "bool") (by rfl) B.b_bool (by decide +kernel) rfl) pa_nil)))) (pss_one (ps_ret (pe_and (pe_callB call_isi (by rfl) B.b_isinstance (by decide +kernel) (pa_cons (pv 0) (pa_cons (pe_bltn (v := .ty "bool") (by rfl) B.b_bool (by decide +kernel) rfl) pa_nil))) (pe_one (pe_cmpR op_eq (pv 0) (pv 1) (nomark _)))))) pss_nil)
  (pss_cons (ps_if (pt_val (pe_callB call_isi (by rfl) B.b_isinstance (by decide +kernel) (pa_cons (pv 1) (pa_cons (pe_bltn (v := .ty "int") (by rfl) B.b_int (by decide +kernel) rfl) pa_nil)))) (pss_one (ps_ret (pe_and (pe_callB call_isi (by rfl) B.b_isinstance (by decide +kernel) (pa_cons (pv 0) (pa_cons (pe_bltn (v := .ty "int") (by rfl) B.b_int (by decide +kernel) rfl) pa_nil))) (pe_and (pe_not (pe_callB call_isi (by rfl) B.b_isinstance (by decide +kernel) (pa_cons (pv 0) (pa_cons (pe_bltn (v := .ty "bool") (by rfl) B.b_bool (by decide +kernel) rfl) pa_nil)))) (pe_one (pe_cmpR op_eq (pv 0) (pv 1) (nomark _))))))) pss_nil)
  (pss_one (ps_ret (pe_and (pe_callB call_isi (by rfl) B.b_isinstance (by decide +kernel) (pa_cons (pv 0) (pa_cons (pe_bltn (v := .ty "str") (by rfl) B.b_str (by decide +kernel) rfl) pa_nil))) (pe_one (pe_cmpR op_eq (pv 0) (pv 1) (nomark _)))))))))), ?_⟩
    refine ⟨y, rfl, _, _, _, _, _, rfl, .ty _, rep_ty ry, kit_ty (kit_tup _), ⟨_, rfl, ?_⟩⟩
    cases e with
    | lst => cases hnl
    | tup ts =>
      refine iteT ?_
      refine ⟨x, rfl, _, _, _, _, _, rfl, .ty _, rep_ty rx, kit_ty (kit_tup _), ⟨_, rfl, ?_⟩⟩
      obtain ⟨b, ys, rfl, hy, ry'⟩ := ry.inv
      have hts : ts.length ≤ 1000000 := by
        have h1 := len_szs ts
        have h2 : szs ts + 1 + 0 ≤ 1000000 := hsz
        omega
      have lts : (ts.length : Int) ≤ 1000000 := by omega
      cases d with
      | lst => exact iteT (q false ⟨fun z => (nomatch z), fun z => (nomatch z)⟩)
      | «at» v => exact iteT (q false ⟨fun z => (nomatch z), fun z => (nomatch z)⟩)
      | tup us =>
        obtain ⟨a, xs, rfl, hx, rx'⟩ := rx.inv
        have lx := rx'.length
        have ly := ry'.length
        refine iteF ?_
        refine ⟨_, rfl, a, xs, rfl, .inr (hx.sq), _, rfl, b, ys, rfl, .inr (hy.sq), rfl, _, rfl, ite2 (fun c => ?_) (fun c => ?_)⟩
        · refine q false ⟨fun z => (nomatch z), fun z => ?_⟩
          cases z
          rw [lx, ly, decide_eq_true rfl] at c
          cases c
        · have el : xs.length = ys.length := by
            by_cases z : V.int ((xs.length : Nat) : Int) = V.int ((ys.length : Nat) : Int)
            · exact Int.ofNat.inj (V.int.inj z)
            · rw [decide_eq_false z] at c
              exact absurd rfl c
          refine ⟨_, rfl, b, ys, rfl, .inr (hy.sq), _, rfl, by omega, by omega, for_range (n := ((ys.length : Nat) : Int).toNat) (fun i σ H' => H' = H ∧ us.take i = ts.take i ∧ ∃ y2, σ = [some (.ref a), some (.ref b), y2])
            ⟨rfl, rfl, _, rfl⟩ ?_ ?_⟩
          · rintro i σ H' hi ⟨rfl, ht, y2, rfl⟩
            have hi' : i < ys.length := by omega
            have iy : ys[i]? = some ys[i] := List.getElem?_eq_getElem hi'
            have ix : xs[i]? = some (xs[i]'(by omega)) := List.getElem?_eq_getElem (by omega)
            obtain ⟨du, hdu, ru⟩ := rx'.get ix
            obtain ⟨dt, hdt, rt⟩ := ry'.get iy
            have mt : dt ∈ ts := List.mem_of_getElem? hdt
            have ez : (0 : Int) + (i : Nat) = ((i : Nat) : Int) := by omega
            have ax : atI xs ((0 : Int) + (i : Nat)) = some (xs[i]'(by omega)) := by rw [ez]; exact atI_nat ix
            have ay : atI ys ((0 : Int) + (i : Nat)) = some ys[i] := by rw [ez]; exact atI_nat iy
            have z1 := dep_mem mt
            have z2 := sz_mem mt
            have z3 : deps ts < n + 1 := hdp
            have z4 : szs ts + 1 + 0 ≤ 1000000 := hsz
            refine ⟨_, rfl, _, rfl, a, xs, _, _, rfl, rfl, hx.sq, ax, _, rfl, _, rfl, b, ys, _, _, rfl, rfl, hy.sq, ay, _, _, du, dt, rfl, ru, rt, noL_mem hnl mt, by omega, by show sz dt + 0 ≤ 1000000; omega, fun r hr => ⟨_, rfl, ?_⟩⟩
            cases r with
            | true =>
              refine iteF ⟨rfl, ?_, _, rfl⟩
              rw [List.take_add_one, List.take_add_one, hdu, hdt, ht, hr.mp rfl]
            | false =>
              refine iteT (q false ⟨fun z => (nomatch z), fun z => ?_⟩)
              cases z
              rw [hdu] at hdt
              cases hdt
              exact hr.mpr rfl
          · rintro σ H' ⟨rfl, ht, y2, rfl⟩
            refine q true ⟨fun _ => ?_, fun _ => rfl⟩
            have e1 : us.take ((ys.length : Nat) : Int).toNat = us := List.take_of_length_le (by omega)
            have e2 : ts.take ((ys.length : Nat) : Int).toNat = ts := List.take_of_length_le (by omega)
            rw [← e1, ← e2, ht]
    | «at» v =>
      obtain ⟨rfl, hf⟩ := ry.inva
      refine iteF ?_
      refine ⟨_, rfl, rfl, _, rfl, ite2 (fun c => ?_) (fun c => ?_)⟩
      · have ev : y = .non := of_decide_eq_true c
        subst ev
        refine ⟨_, rfl, rfl, ?_⟩
        refine q _ ⟨fun z => ?_, fun z => ?_⟩
        · have ex : x = .non := of_decide_eq_true z
          subst ex
          cases rx
          rfl
        · subst z
          obtain ⟨rfl, _⟩ := rx.inva
          exact decide_eq_true rfl
      have hv : y ≠ .non := fun z => c (decide_eq_true z)
      refine ⟨y, rfl, _, _, _, _, _, rfl, .ty _, rep_ty ry, kit_ty (kit_bool _), ⟨_, rfl, ?_⟩⟩
      cases y with
      | non => exact absurd rfl hv
      | byt _ => cases hf
      | flt _ => cases hf
      | ref _ => cases hf
      | ty _ => cases hf
      | bl b =>
        refine iteT ⟨x, rfl, _, _, _, _, _, rfl, .ty _, rep_ty rx, kit_ty (kit_bool _), ⟨_, rfl, ?_⟩⟩
        cases d with
        | tup _ => exact iteF (q false ⟨fun z => (nomatch z), fun z => (nomatch z)⟩)
        | lst => exact iteF (q false ⟨fun z => (nomatch z), fun z => (nomatch z)⟩)
        | «at» v =>
          obtain ⟨rfl, _⟩ := rx.inva
          cases x with
          | bl b2 =>
            refine iteT ⟨_, rfl, _, rfl, rfl, q _ ⟨fun z => ?_, fun z => ?_⟩⟩
            · rw [of_decide_eq_true z]
            · cases z
              exact decide_eq_true rfl
          | _ => exact iteF (q false ⟨fun z => (nomatch z), fun z => (nomatch z)⟩)
      | int i =>
        refine iteF ⟨_, rfl, _, _, _, _, _, rfl, .ty _, rep_ty ry, kit_ty (kit_int _), ⟨_, rfl, iteT ⟨x, rfl, _, _, _, _, _, rfl, .ty _, rep_ty rx, kit_ty (kit_int _), ⟨_, rfl, ?_⟩⟩⟩⟩
        cases d with
        | tup _ => exact iteF (q false ⟨fun z => (nomatch z), fun z => (nomatch z)⟩)
        | lst => exact iteF (q false ⟨fun z => (nomatch z), fun z => (nomatch z)⟩)
        | «at» v =>
          obtain ⟨rfl, _⟩ := rx.inva
          cases x with
          | bl b2 => exact iteT ⟨_, rfl, _, _, _, _, _, rfl, .ty _, rep_ty rx, kit_ty (kit_bool _), ⟨_, rfl, ⟨_, rfl, iteF (q false ⟨fun z => (nomatch z), fun z => (nomatch z)⟩)⟩⟩⟩
          | int i2 =>
            refine iteT ⟨_, rfl, _, _, _, _, _, rfl, .ty _, rep_ty rx, kit_ty (kit_bool _), ⟨_, rfl, ⟨_, rfl, iteT ?_⟩⟩⟩
            refine ⟨_, rfl, _, rfl, rfl, q _ ⟨fun z => ?_, fun z => ?_⟩⟩
            · rw [of_decide_eq_true z]
            · cases z
              exact decide_eq_true rfl
          | _ => exact iteF (q false ⟨fun z => (nomatch z), fun z => (nomatch z)⟩)
      | str z =>
        refine iteF ⟨_, rfl, _, _, _, _, _, rfl, .ty _, rep_ty ry, kit_ty (kit_int _), ⟨_, rfl, iteF ⟨x, rfl, _, _, _, _, _, rfl, .ty _, rep_ty rx, kit_ty (kit_str _), ⟨_, rfl, ?_⟩⟩⟩⟩
        cases d with
        | tup _ => exact iteF (q false ⟨fun z => (nomatch z), fun z => (nomatch z)⟩)
        | lst => exact iteF (q false ⟨fun z => (nomatch z), fun z => (nomatch z)⟩)
        | «at» v =>
          obtain ⟨rfl, _⟩ := rx.inva
          cases x with
          | str b2 =>
            refine iteT ⟨_, rfl, _, rfl, rfl, q _ ⟨fun z => ?_, fun z => ?_⟩⟩
            · rw [of_decide_eq_true z]
            · cases z
              exact decide_eq_true rfl
          | byt _ => cases rx with | «at» hh => cases hh
          | flt _ => cases rx with | «at» hh => cases hh
          | ref _ => cases rx with | «at» hh => cases hh
          | ty _ => cases rx with | «at» hh => cases hh
          | _ => exact iteF (q false ⟨fun z => (nomatch z), fun z => (nomatch z)⟩)
end
end Pk

set_option maxRecDepth 100000
set_option maxHeartbeats 4000000
set_option pp.maxSteps 600
namespace Pk
open PySem PySem.Spec PyProof.Rows L2
theorem fn_none {P : Program} {w : World} {K : PySem.W.Frag} {mg : Str → Option Value} {base : Heap} {f : Addr} {fd : FuncData} {ps : List Str} {sp : Sp} (no : ∀ vs H Q E, ¬ sp vs H Q E) : FnOk P w K mg base CX0 0 f fd ps sp :=
  ⟨fun vs H Q E h => absurd h (no vs H Q E), fun A outer s H args us vs Q E _ _ _ _ h => absurd h (no vs H Q E)⟩
/-! ### _law_kind -/
section
variable {P : Program} {w : World} {K : PySem.W.Frag} {mg : Str → Option Value} {base : Heap}
/-- all but what stands at b and at u is as it was -/
def SB2 (b u : Addr) (H H' : Hp) : Prop := ∀ q o, q ≠ b → q ≠ u → H q = some o → H' q = some o
def spKind (K : PySem.W.Frag) (n : Nat) : Sp := fun vs H Q _ => ∃ (b c u : Addr) (dp : Int) (g : Nat), vs = [.ref b, .int dp, .ref u] ∧ BoxAt H b c ∧ H u = some (.lst [.int g]) ∧ 0 ≤ dp ∧ dp < n ∧ g ≤ 100 ∧ b ≠ u ∧ c ≠ u ∧
  ∀ (v : V) (H' : Hp) (d : D) (g' : Nat), Rep K H' v d → isK d = true → (dep d : Int) ≤ dp → sz d + g' ≤ g + 1 → H' u = some (.lst [.int g']) → BoxAt H' b c → SB2 b u H H' → Q v H'
theorem ok_kind0 {f : Addr} {fd : FuncData} : FnOk P w K mg base CX0 0 f fd ["box", "depth", "budget"] (spKind K 0) := by
  have no : ∀ vs H Q E, ¬ spKind K 0 vs H Q E := fun vs H Q E h => by
    obtain ⟨b, c, u, dp, g, _, _, _, h0, h1, _⟩ := h
    omega
  exact ⟨fun vs H Q E h => absurd h (no vs H Q E), fun A outer s H args us vs Q E _ _ _ _ h => absurd h (no vs H Q E)⟩
theorem sb2_kx {b u d : Addr} {H H' : Hp} (x : BoxAt H b d) (y : BoxAt H' b d) {us vs : List V} (hu : H u = some (.lst us)) (hu' : H' u = some (.lst vs)) (s : SB2 b u H H') : Kx H H' := by
  obtain ⟨bs, hb⟩ := x.lst
  obtain ⟨bs', hb'⟩ := y.lst
  refine ⟨fun a zs e => s _ _ (ne_of e hb (by intro q; cases q)) (ne_of e hu (by intro q; cases q)) e, fun a zs e => ?_⟩
  by_cases ha : a = b
  · subst ha
    exact ⟨bs', hb'⟩
  · by_cases ha' : a = u
    · subst ha'
      exact ⟨vs, hu'⟩
    · exact ⟨zs, s _ _ ha ha' e⟩
theorem ok_kind {f e : Addr} {fd ed : FuncData} (D__law_kind : Df K mg "_law_kind" s__law_kind ["box", "depth", "budget"] f fd) (D__law_draw : Df K mg "_law_draw" s__law_draw ["box", "many"] e ed) (B : Bt mg) :
    ∀ n : Nat, FnOk P w K mg base CX0 (n + 1) f fd ["box", "depth", "budget"] (spKind K n)
  | 0 => (ok_kind0 (f := f) (fd := fd)).mono (by omega)
  | n + 1 => by
    have G__law_kind := ok_kind D__law_kind D__law_draw B n
    have G__law_draw : FnOk P w K mg base CX0 1 e ed ["box", "many"] spDraw := ok_draw D__law_draw B
    refine D__law_kind.ok c__law_kind (fun vs H Q E h => ?_) (fun cdv A outer s H vs Q E hr h => ?_)
    · obtain ⟨b, c, u, dp, g, rfl, _⟩ := h
      rfl
    obtain ⟨b, c, u, dp, g, rfl, hB, hu, h0, h1, hg, hbu, hcu, q⟩ := h
    have nd := c__law_kind.nd
    refine ⟨_, (pss_cons (ps_set (i := 3) nd rfl (Or.inl rfl) (pe_lst pa_nil))
  (pss_cons (ps_if (pt_cmpR op_gt (pv 1) pe_int (nomark _)) (pss_one (ps_for PassesOwn.never rfl (pi_range1 (by rfl) B.b_range (pa_cons (pe_call G__law_draw (hr.mono (by first | decide | omega)) (by rfl) D__law_draw.m D__law_draw.kp D__law_draw.b .nil pass0 (pa_cons (pv 0) (pa_cons pe_int pa_nil))) pa_nil)) (pg_name (i := 4) nd rfl (Or.inl rfl)) (pss_one (ps_if (pt_cmpR op_gt (pe_ix ix_list (pv 2) pe_int (fun _ _ => rfl)) pe_int (nomark _)) (pss_cons (ps_asg (pe_op op_sub (pe_ix ix_list (pv 2) pe_int (fun _ _ => rfl)) pe_int) (pg_sub (pv 2) pe_int set_list))
  (pss_one (ps_expr (pe_bm PySem.F.plainAttrs_list PySem.F.slot_list_append PySem.F.type_list_append mt_append (pv 3) (pa_cons (pe_call G__law_kind hr (by rfl) D__law_kind.m D__law_kind.kp D__law_kind.b .nil pass0 (pa_cons (pv 0) (pa_cons (pe_op op_sub (pv 1) pe_int) (pa_cons (pv 2) pa_nil)))) pa_nil))))) pss_nil)))) pss_nil)
  (pss_one (ps_ret (pe_callTy call_tuple_of (by rfl) B.b_tuple (by decide +kernel) (pa_cons (pv 3) pa_nil)))))), ?_⟩
    refine ⟨Nat.zero_le _, fun p np => ?_⟩
    have hbl := hB.lst
    obtain ⟨bs, hbs⟩ := hbl
    have npb : b ≠ p := ne_of_none hbs np
    have npu : u ≠ p := ne_of_none hu np
    have s1 : Same H (upd H p (.lst [])) := same_new np _
    obtain ⟨cs, hcs⟩ := hB.dst
    have npc : c ≠ p := ne_of_none hcs np
    have fin : ∀ (y4 : Option V) (xs : List V) (ds : List D) (g' : Nat) (H1 : Hp), H1 p = some (.lst xs) → Reps K H1 xs ds → isKs ds = true → (deps ds : Int) ≤ dp → szs ds + g' ≤ g → H1 u = some (.lst [.int g']) → BoxAt H1 b c → SB2 b u H H1 →
        ∃ a ys, [V.ref p] = [.ref a] ∧ ((SqL K H1 a ys ∧ ∀ l, H1 l = none → Q (.ref l) (upd H1 l (.tup ys))) ∨ (SqT K H1 a ys ∧ Q (.ref a) H1)) := by
      intro y4 xs ds g' H1 hp hr' hk hd hs hu1 hb1 hsb
      refine ⟨p, xs, rfl, .inl ⟨SqL.of hp, fun l hl => ?_⟩⟩
      have sl : Same H1 (upd H1 l (.tup xs)) := same_new hl _
      refine q _ _ (.tup ds) g' (.tup' upd_same (hr'.mono (kx_same sl))) hk hd (by show szs ds + 1 + g' ≤ g + 1; omega) (sl _ _ hu1) (hb1.same sl) (fun z o n1 n2 e => sl _ _ (hsb z o n1 n2 e))
    refine ⟨_, rfl, _, _, rfl, rfl, _, rfl, ite2 (fun z => ?_) (fun z => ?_)⟩
    · have c' : (0 : Int) < dp := of_decide_eq_true z
      refine ⟨_, rfl, b, c, 4, rfl, hB.same s1, by decide, fun r H1 hr0 hr5 hB1 hs1 => ⟨r, rfl, by omega, by omega, ?_⟩⟩
      refine for_range (n := r.toNat) (fun i σ H' => ∃ (xs : List V) (ds : List D) (g' : Nat) (y4 : Option V), σ = [some (.ref b), some (.int dp), some (.ref u), some (.ref p), y4] ∧ H' p = some (.lst xs) ∧ Reps K H' xs ds ∧ isKs ds = true ∧ (deps ds : Int) ≤ dp ∧ szs ds + g' ≤ g ∧ H' u = some (.lst [.int g']) ∧ BoxAt H' b c ∧ SB2 b u H H')
        ⟨[], [], g, none, rfl, hs1 _ _ npb.symm upd_same, .nil, rfl, h0, by show 0 + g ≤ g; omega, hs1 _ _ hbu.symm (s1 _ _ hu), hB1, fun z o n1 n2 e => hs1 _ _ n1 (s1 _ _ e)⟩ ?_ ?_
      · rintro i σ H2 hi ⟨xs, ds, g', y4, rfl, hp, hrs, hk, hd, hs, hu2, hb2, hsb⟩
        refine ⟨_, rfl, u, _, 0, _, rfl, rfl, SqL.of hu2, rfl, _, _, rfl, rfl, _, rfl, ite2 (fun e => ?_) (fun e => ⟨xs, ds, g', _, rfl, hp, hrs, hk, hd, hs, hu2, hb2, hsb⟩)⟩
        have e' : (0 : Int) < (g' : Int) := of_decide_eq_true e
        have eg : (g' : Int) - 1 = ((g' - 1 : Nat) : Int) := by omega
        refine ⟨_, rfl, u, _, 0, _, rfl, rfl, SqL.of hu2, rfl, _, _, rfl, rfl, _, rfl, u, _, 0, 0, rfl, rfl, hu2, rfl, ?_⟩
        have hu3 : (upd H2 u (.lst [.int ((g' : Int) - 1)])) u = some (.lst [.int ((g' - 1 : Nat) : Int)]) := by rw [upd_same, eg]
        have hp3 : (upd H2 u (.lst [.int ((g' : Int) - 1)])) p = some (.lst xs) := by rw [upd_ne npu.symm]; exact hp
        have hb3 : BoxAt (upd H2 u (.lst [.int ((g' : Int) - 1)])) b c := hb2.other _ hbu.symm hcu.symm
        have k3 : Kx H2 (upd H2 u (.lst [.int ((g' : Int) - 1)])) := kx_list hu2 _
        refine ⟨_, rfl, .inl ⟨rfl, _, SqL.of hp3⟩, _, rfl, _, rfl, _, _, rfl, rfl, _, rfl, b, c, u, dp - 1, g' - 1, rfl, hb3, hu3, by omega, by omega, by omega, hbu, hcu, fun v H4 d g4 rv kv dv sv hu4 hb4 hsb4 => ?_⟩
        have hp4 : H4 p = some (.lst xs) := hsb4 _ _ npb.symm npu.symm hp3
        have k4 := sb2_kx hb3 hb4 hu3 hu4 hsb4
        have hrs4 := hrs.mono (k3.trans k4)
        have hlen := hrs.length
        have hlz := len_szs ds
        refine ⟨p, xs, v, rfl, rfl, hp4, small6 (by omega), ?_⟩
        have k5 : Kx H4 (upd H4 p (.lst (xs ++ [v]))) := kx_list hp4 _
        refine ⟨xs ++ [v], ds ++ [d], g4, _, rfl, upd_same, (hrs4.append (.one rv)).mono k5, ?_, ?_, ?_, by rw [upd_ne npu]; exact hu4, ?_, ?_⟩
        · rw [isKs_append, hk]
          show (true && (isK d && true)) = true
          rw [kv]
          rfl
        · rw [deps_append]
          show ((max (deps ds) (max (dep d + 1) 0) : Nat) : Int) ≤ dp
          omega
        · rw [szs_append]
          show szs ds + (sz d + 0) + g4 ≤ g
          omega
        · exact hb4.other _ npb.symm npc.symm
        · intro z o n1 n2 e1
          rw [upd_ne (ne_of_none e1 np)]
          refine hsb4 _ _ n1 n2 ?_
          rw [upd_ne n2]
          exact hsb z o n1 n2 e1
      · rintro σ H2 ⟨xs, ds, g', y4, rfl, hp, hrs, hk, hd, hs, hu2, hb2, hsb⟩
        exact ⟨_, rfl, fin y4 xs ds g' H2 hp hrs hk hd hs hu2 hb2 hsb⟩
    · exact ⟨_, rfl, fin none [] [] g _ upd_same .nil rfl h0 (by show 0 + g ≤ g; omega) (s1 _ _ hu) (hB.same s1) (fun z o _ _ e => s1 _ _ e)⟩
end
end Pk

set_option maxRecDepth 100000
set_option maxHeartbeats 4000000
set_option pp.maxSteps 600
namespace Pk
open PySem PySem.Spec PyProof.Rows L2
/-! ### how many bodies: the sums -/
/-- products of rows of numbers, up to each place -/
def cv (f g : Nat → Nat) : Nat → Nat
  | 0 => f 0 * g 0
  | n + 1 => f 0 * g (n + 1) + cv (fun i => f (i + 1)) g n
theorem cv_congr : ∀ (n : Nat) {f f' g g' : Nat → Nat}, (∀ i, i ≤ n → f i = f' i) → (∀ i, i ≤ n → g i = g' i) → cv f g n = cv f' g' n
  | 0, f, f', g, g', a, b => by show f 0 * g 0 = f' 0 * g' 0; rw [a 0 (Nat.le_refl _), b 0 (Nat.le_refl _)]
  | n + 1, f, f', g, g', a, b => by
    show f 0 * g (n + 1) + cv (fun i => f (i + 1)) g n = f' 0 * g' (n + 1) + cv (fun i => f' (i + 1)) g' n
    rw [a 0 (Nat.zero_le _), b (n + 1) (Nat.le_refl _), cv_congr n (fun i hi => a (i + 1) (by omega)) (fun i hi => b i (by omega))]
theorem cv_right : ∀ (n : Nat) (f g : Nat → Nat), cv f g (n + 1) = cv f (fun i => g (i + 1)) n + f (n + 1) * g 0
  | 0, f, g => rfl
  | n + 1, f, g => by
    show f 0 * g (n + 2) + cv (fun i => f (i + 1)) g (n + 1) = (f 0 * g (n + 2) + cv (fun i => f (i + 1)) (fun i => g (i + 1)) n) + f (n + 2) * g 0
    rw [cv_right n (fun i => f (i + 1)) g]
    exact (Nat.add_assoc _ _ _).symm
theorem cv_comm : ∀ (n : Nat) (f g : Nat → Nat), cv f g n = cv g f n
  | 0, f, g => Nat.mul_comm _ _
  | n + 1, f, g => by
    rw [cv_right n g f]
    show f 0 * g (n + 1) + cv (fun i => f (i + 1)) g n = _
    rw [cv_comm n (fun i => f (i + 1)) g, Nat.mul_comm, Nat.add_comm]
theorem cv_mulL (c : Nat) : ∀ (n : Nat) (f g : Nat → Nat), cv (fun i => c * f i) g n = c * cv f g n
  | 0, f, g => Nat.mul_assoc _ _ _
  | n + 1, f, g => by
    show c * f 0 * g (n + 1) + cv (fun i => c * f (i + 1)) g n = c * (f 0 * g (n + 1) + cv (fun i => f (i + 1)) g n)
    rw [cv_mulL c n (fun i => f (i + 1)) g, Nat.mul_add, Nat.mul_assoc]
theorem cv_addL : ∀ (n : Nat) (f f' g : Nat → Nat), cv (fun i => f i + f' i) g n = cv f g n + cv f' g n
  | 0, f, f', g => Nat.add_mul _ _ _
  | n + 1, f, f', g => by
    show (f 0 + f' 0) * g (n + 1) + cv (fun i => f (i + 1) + f' (i + 1)) g n = (f 0 * g (n + 1) + cv (fun i => f (i + 1)) g n) + (f' 0 * g (n + 1) + cv (fun i => f' (i + 1)) g n)
    rw [cv_addL n (fun i => f (i + 1)) (fun i => f' (i + 1)) g, Nat.add_mul]; omega
theorem cv_assoc : ∀ (n : Nat) (f g h : Nat → Nat), cv (cv f g) h n = cv f (cv g h) n
  | 0, f, g, h => Nat.mul_assoc _ _ _
  | n + 1, f, g, h => by
    show f 0 * g 0 * h (n + 1) + cv (fun i => cv f g (i + 1)) h n = f 0 * (g 0 * h (n + 1) + cv (fun i => g (i + 1)) h n) + cv (fun i => f (i + 1)) (cv g h) n
    have e : (fun i => cv f g (i + 1)) = fun i => f 0 * g (i + 1) + cv (fun j => f (j + 1)) g i := rfl
    rw [e, cv_addL n (fun i => f 0 * g (i + 1)) (fun i => cv (fun j => f (j + 1)) g i) h, cv_mulL (f 0) n (fun i => g (i + 1)) h]
    have e2 := cv_assoc n (fun j => f (j + 1)) g h
    rw [show (fun i => cv (fun j => f (j + 1)) g i) = cv (fun j => f (j + 1)) g from rfl, e2, Nat.mul_add, Nat.mul_assoc]; omega
def cv1 : Nat → Nat := fun i => if i = 0 then 1 else 0
theorem cv_zero : ∀ (n : Nat) (g : Nat → Nat), cv (fun _ => 0) g n = 0
  | 0, g => Nat.zero_mul _
  | n + 1, g => by show 0 * g (n + 1) + cv (fun _ => 0) g n = 0; rw [cv_zero n g, Nat.zero_mul]
theorem cv_one (n : Nat) (g : Nat → Nat) : cv cv1 g n = g n := by
  cases n with
  | zero => show 1 * g 0 = g 0; rw [Nat.one_mul]
  | succ n =>
    show 1 * g (n + 1) + cv (fun i => cv1 (i + 1)) g n = g (n + 1)
    have e : (fun i => cv1 (i + 1)) = fun _ => 0 := rfl
    rw [e, cv_zero, Nat.one_mul]; rfl
/-- the sum of f over the first n places -/
def sm (f : Nat → Nat) : Nat → Nat
  | 0 => 0
  | n + 1 => sm f n + f n
theorem sm_front : ∀ (n : Nat) (f : Nat → Nat), sm f (n + 1) = f 0 + sm (fun i => f (i + 1)) n
  | 0, f => by show 0 + f 0 = f 0 + 0; omega
  | n + 1, f => by
    show sm f (n + 1) + f (n + 1) = f 0 + (sm (fun i => f (i + 1)) n + f (n + 1))
    rw [sm_front n f]; omega
theorem sm_congr : ∀ (n : Nat) {f g : Nat → Nat}, (∀ i, i < n → f i = g i) → sm f n = sm g n
  | 0, f, g, _ => rfl
  | n + 1, f, g, h => by show sm f n + f n = sm g n + g n; rw [sm_congr n (fun i hi => h i (by omega)), h n (by omega)]
theorem cv_sm : ∀ (n : Nat) (f g : Nat → Nat), cv f g n = sm (fun i => f i * g (n - i)) (n + 1)
  | 0, f, g => by show f 0 * g 0 = 0 + f 0 * g 0; omega
  | n + 1, f, g => by
    rw [sm_front (n + 1)]
    show f 0 * g (n + 1) + cv (fun i => f (i + 1)) g n = f 0 * g (n + 1) + sm (fun i => f (i + 1) * g (n + 1 - (i + 1))) (n + 1)
    rw [cv_sm n (fun i => f (i + 1)) g]
    exact congrArg (f 0 * g (n + 1) + ·) (sm_congr (n + 1) fun i hi => by show f (i + 1) * g (n - i) = f (i + 1) * g (n + 1 - (i + 1)); rw [Nat.add_sub_add_right])
/-! ### how many bodies -/
/-- the arguments of a kind -/
def inn : D → List D
  | .tup ts => ts
  | _ => []
/-- the product of what is counted within each of some kinds, and twice around -/
def prF (F : List D → Nat → Nat) (L : List D) (p : Nat → Nat) : List D → (Nat → Nat)
  | [] => p
  | x :: xs => prF F L (cv p (F (L ++ inn x))) xs
def askc (F : List D → Nat → Nat) (L ins : List D) : Nat → Nat := cv (cv (prF F L cv1 ins) (F L)) (F L)
def sumL (f : D → Nat) : List D → Nat
  | [] => 0
  | a :: l => f a + sumL f l
def bdc : Nat → List D → Nat → Nat
  | 0, _, _ => 3
  | m + 1, L, i => if i ≤ m then bdc m L i else sumL (fun a => askc (bdc m) L (inn a) m) L
/-- how many bodies with just so many asks may ask some arguments -/
def nbd (L : List D) (m : Nat) : Nat := bdc m L m
theorem bdc_nbd : ∀ (m : Nat) (L : List D) (i : Nat), i ≤ m → bdc m L i = nbd L i
  | 0, L, i, h => by
    have e : i = 0 := by omega
    subst e; rfl
  | m + 1, L, i, h => by
    by_cases c : i ≤ m
    · rw [bdc, if_pos c]; exact bdc_nbd m L i c
    · have e : i = m + 1 := by omega
      subst e; rfl
theorem prF_congr {F G : List D → Nat → Nat} {L L' : List D} {m : Nat} : ∀ {ins : List D} {p q : Nat → Nat}, (∀ i, i ≤ m → p i = q i) → (∀ x, ∀ i, i ≤ m → F (L ++ inn x) i = G (L' ++ inn x) i) → ∀ i, i ≤ m → prF F L p ins i = prF G L' q ins i
  | [], p, q, hp, _, i, hi => hp i hi
  | x :: xs, p, q, hp, h, i, hi => prF_congr (ins := xs) (fun j hj => cv_congr j (fun t ht => hp t (by omega)) (fun t ht => h x t (by omega))) h i hi
theorem askc_congr {F G : List D → Nat → Nat} {L L' : List D} {m : Nat} (ins : List D) (h0 : ∀ i, i ≤ m → F L i = G L' i) (h : ∀ x, ∀ i, i ≤ m → F (L ++ inn x) i = G (L' ++ inn x) i) : askc F L ins m = askc G L' ins m :=
  cv_congr m (fun i hi => cv_congr i (fun j hj => prF_congr (m := m) (fun _ _ => rfl) h j (by omega)) (fun j hj => h0 j (by omega))) h0
theorem sumL_congr {f g : D → Nat} : ∀ {l : List D}, (∀ a, a ∈ l → f a = g a) → sumL f l = sumL g l
  | [], _ => rfl
  | a :: l, h => by show f a + sumL f l = g a + sumL g l; rw [h a (List.mem_cons_self ..), sumL_congr fun b hb => h b (List.mem_cons_of_mem _ hb)]
theorem sumL_perm {f : D → Nat} {l l' : List D} (p : l.Perm l') : sumL f l = sumL f l' := by
  induction p with
  | nil => rfl
  | cons a _ ih => show f a + _ = f a + _; rw [ih]
  | swap a b l => show f b + (f a + sumL f l) = f a + (f b + sumL f l); omega
  | trans _ _ a b => exact a.trans b
theorem nbd_zero (L : List D) : nbd L 0 = 3 := rfl
theorem nbd_succ (L : List D) (m : Nat) : nbd L (m + 1) = sumL (fun a => askc nbd L (inn a) m) L := by
  show bdc (m + 1) L (m + 1) = _
  rw [bdc, if_neg (by omega)]
  exact sumL_congr fun a _ => askc_congr (inn a) (fun i hi => bdc_nbd m L i hi) (fun x i hi => bdc_nbd m _ i hi)
theorem nbd_perm : ∀ (n m : Nat), m ≤ n → ∀ {L L' : List D}, L.Perm L' → nbd L m = nbd L' m
  | _, 0, _, L, L', _ => rfl
  | 0, m + 1, h, _, _, _ => by omega
  | n + 1, m + 1, h, L, L', p => by
    rw [nbd_succ, nbd_succ, sumL_perm p]
    exact sumL_congr fun a _ => askc_congr (inn a) (fun i hi => nbd_perm n i (by omega) p) (fun x i hi => nbd_perm n i (by omega) (p.append_right _))
/-- the statement's order of the product -/
theorem prF_cv {F : List D → Nat → Nat} {L : List D} : ∀ (ins : List D) (p q : Nat → Nat) (n : Nat), prF F L (cv p q) ins n = cv p (prF F L q ins) n
  | [], p, q, n => rfl
  | x :: xs, p, q, n => by
    show prF F L (cv (cv p q) (F (L ++ inn x))) xs n = cv p (prF F L (cv q (F (L ++ inn x))) xs) n
    rw [← prF_cv xs p (cv q (F (L ++ inn x))) n]
    exact prF_congr (m := n) (fun i _ => cv_assoc i p q _) (fun _ _ _ => rfl) n (Nat.le_refl _)
theorem prF_cv1 {F : List D → Nat → Nat} {L : List D} (ins : List D) (p : Nat → Nat) (n : Nat) : prF F L p ins n = cv p (prF F L cv1 ins) n := by
  rw [← prF_cv ins p cv1 n]
  exact prF_congr (m := n) (fun i _ => by rw [cv_comm, cv_one]) (fun _ _ _ => rfl) n (Nat.le_refl _)
theorem askc_law (F : List D → Nat → Nat) (L ins : List D) (n : Nat) : prF F L (cv (F L) (F L)) ins n = askc F L ins n := by
  rw [prF_cv1 ins (cv (F L) (F L)) n, cv_comm]
  exact (cv_assoc n _ _ _).symm
end Pk

set_option maxRecDepth 100000
set_option maxHeartbeats 4000000
set_option pp.maxSteps 600
namespace Pk
open PySem PySem.Spec PyProof.Rows L2
/-! ### how great the numbers get -/
theorem sm_le {h : Nat → Nat} {M : Nat} : ∀ n, (∀ i, i < n → h i ≤ M) → sm h n ≤ n * M
  | 0, _ => Nat.zero_le _
  | n + 1, z => by
    show sm h n + h n ≤ (n + 1) * M
    have a := sm_le n fun i hi => z i (by omega)
    have b := z n (by omega)
    rw [Nat.add_mul, Nat.one_mul]; omega
theorem cv_le {c : Nat} {f g : Nat → Nat} {A B n : Nat} (hf : ∀ i, i ≤ n → f i ≤ A * c ^ i) (hg : ∀ i, i ≤ n → g i ≤ B * c ^ i) (hn : n ≤ 4) : cv f g n ≤ 5 * (A * B) * c ^ n := by
  rw [cv_sm]
  refine Nat.le_trans (sm_le (M := A * B * c ^ n) (n + 1) fun i hi => ?_) ?_
  · have e : c ^ n = c ^ i * c ^ (n - i) := by rw [← Nat.pow_add]; congr 1; omega
    refine Nat.le_trans (Nat.mul_le_mul (hf i (by omega)) (hg (n - i) (by omega))) ?_
    rw [e]
    exact Nat.le_of_eq (by rw [Nat.mul_assoc, Nat.mul_assoc, ← Nat.mul_assoc (c ^ i) B, Nat.mul_comm (c ^ i) B, Nat.mul_assoc])
  · rw [Nat.mul_assoc 5 (A * B)]
    exact Nat.mul_le_mul_right _ (by omega)
theorem prF_le {c m : Nat} {F : List D → Nat → Nat} {L : List D} (hm : m ≤ 4) : ∀ (ins : List D) (p : Nat → Nat) (A : Nat), (∀ i, i ≤ m → p i ≤ A * c ^ i) → (∀ x, x ∈ ins → ∀ i, i ≤ m → F (L ++ inn x) i ≤ 3 * c ^ i) → ∀ i, i ≤ m → prF F L p ins i ≤ A * 15 ^ ins.length * c ^ i
  | [], p, A, hp, _, i, hi => by
    show p i ≤ A * 1 * c ^ i
    rw [Nat.mul_one]; exact hp i hi
  | x :: xs, p, A, hp, h, i, hi => by
    show prF F L (cv p (F (L ++ inn x))) xs i ≤ A * 15 ^ (xs.length + 1) * c ^ i
    have e : A * 15 ^ (xs.length + 1) = (5 * (A * 3)) * 15 ^ xs.length := by rw [Nat.pow_succ, Nat.mul_comm (15 ^ xs.length), ← Nat.mul_assoc]; congr 1; omega
    rw [e]
    exact prF_le hm xs _ _ (fun j hj => cv_le (fun t ht => hp t (by omega)) (fun t ht => h x (List.mem_cons_self ..) t (by omega)) (by omega)) (fun y hy => h y (List.mem_cons_of_mem _ hy)) i hi
theorem sumL_le {f : D → Nat} {M : Nat} : ∀ {l : List D}, (∀ a, a ∈ l → f a ≤ M) → sumL f l ≤ l.length * M
  | [], _ => Nat.zero_le _
  | a :: l, h => by
    show f a + sumL f l ≤ (l.length + 1) * M
    have x := sumL_le (l := l) fun b hb => h b (List.mem_cons_of_mem _ hb)
    have y := h a (List.mem_cons_self ..)
    rw [Nat.add_mul, Nat.one_mul]; omega
def cB : Nat := 3543750
/-- the arguments that bodies with so many asks within small kinds may ask -/
structure OkL (m : Nat) (L : List D) : Prop where
  len : L.length + 2 * m ≤ 14
  k : isKs L = true
  s : ∀ a, a ∈ L → sz a ≤ 4
  d : ∀ a, a ∈ L → dep a ≤ 2
theorem inn_k {a : D} (h : isK a = true) : a = .tup (inn a) ∧ isKs (inn a) = true := by
  obtain ⟨ts, rfl, k⟩ := isK_inv h
  exact ⟨rfl, k⟩
theorem OkL.inn {m : Nat} {L : List D} (h : OkL m L) {a : D} (ha : a ∈ L) : (inn a).length ≤ 3 := by
  have e := (inn_k (isK_mem h.k ha)).1
  have s := h.s a ha
  have l := len_szs (Pk.inn a)
  rw [e] at s
  have : szs (Pk.inn a) + 1 ≤ 4 := s
  omega
theorem OkL.app {m : Nat} {L : List D} (h : OkL (m + 1) L) {a x : D} (ha : a ∈ L) (hx : x ∈ Pk.inn a) : OkL m (L ++ Pk.inn x) := by
  obtain ⟨e, k⟩ := inn_k (isK_mem h.k ha)
  have s := h.s a ha
  have d := h.d a ha
  rw [e] at s d
  have s' : szs (Pk.inn a) + 1 ≤ 4 := s
  have sx := sz_mem hx
  have d' : deps (Pk.inn a) ≤ 2 := d
  have dx := dep_mem hx
  obtain ⟨e2, k2⟩ := inn_k (isK_mem k hx)
  rw [e2] at sx dx
  have sx' : szs (Pk.inn x) + 1 ≤ szs (Pk.inn a) := sx
  have dx' : deps (Pk.inn x) + 1 ≤ deps (Pk.inn a) := dx
  have ll := len_szs (Pk.inn x)
  have hl := h.len
  refine ⟨by rw [List.length_append]; omega, by rw [isKs_append, h.k, k2]; rfl, fun b hb => ?_, fun b hb => ?_⟩
  · rcases List.mem_append.mp hb with q | q
    · exact h.s b q
    · have := sz_mem q; omega
  · rcases List.mem_append.mp hb with q | q
    · exact h.d b q
    · have := dep_mem q; omega
theorem OkL.le {m k : Nat} {L : List D} (h : OkL m L) (l : k ≤ m) : OkL k L := ⟨by have := h.len; omega, h.k, h.s, h.d⟩
theorem nbd_le : ∀ (n m : Nat), m ≤ n → m ≤ 5 → ∀ {L : List D}, OkL m L → nbd L m ≤ 3 * cB ^ m
  | _, 0, _, _, L, _ => Nat.le_refl _
  | 0, m + 1, h, _, _, _ => by omega
  | n + 1, m + 1, h, h5, L, o => by
    rw [nbd_succ]
    have b0 : ∀ i, i ≤ m → nbd L i ≤ 3 * cB ^ i := fun i hi => nbd_le n i (by omega) (by omega) (o.le (by omega))
    refine Nat.le_trans (sumL_le (M := 759375 * cB ^ m) fun a ha => ?_) ?_
    · have p := prF_le (c := cB) (m := m) (F := nbd) (L := L) (by omega) (Pk.inn a) cv1 1 (fun i _ => by unfold cv1; split <;> rename_i q <;> first | (subst q; decide) | exact Nat.zero_le _) (fun x hx i hi => nbd_le n i (by omega) (by omega) ((o.app ha hx).le hi))
      have p2 : ∀ i, i ≤ m → prF nbd L cv1 (Pk.inn a) i ≤ 3375 * cB ^ i := fun i hi => Nat.le_trans (p i hi) (Nat.mul_le_mul_right _ (by
        rw [Nat.one_mul]
        exact Nat.le_trans (Nat.pow_le_pow_right (by decide) (o.inn ha)) (by decide)))
      exact cv_le (A := 50625) (B := 3) (fun i hi => cv_le (A := 3375) (B := 3) (fun j hj => p2 j (by omega)) (fun j hj => b0 j (by omega)) (by omega)) b0 (by omega)
    · have l : L.length ≤ 14 := by have := o.len; omega
      refine Nat.le_trans (Nat.mul_le_mul_right _ l) ?_
      rw [Nat.pow_succ, ← Nat.mul_assoc, Nat.mul_comm (cB ^ m) cB, ← Nat.mul_assoc 3]
      exact Nat.mul_le_mul_right _ (by decide)
/-- numbers of which one of any two that are multiplied is small enough -/
def Sma (m : Nat) (f : Nat → Nat) : Prop := ∀ i, i ≤ m → f i ≤ 759375 * cB ^ i
theorem Sma.mul {m : Nat} {f g : Nat → Nat} (hf : Sma m f) (hg : Sma m g) (h4 : m ≤ 4) {i j : Nat} (h : i + j ≤ m) : CMul (f i) (g j) := by
  have key : ∀ {q : Nat → Nat}, Sma m q → ∀ k, k ≤ 2 → k ≤ m → q k < 2 ^ 64 := fun {q} hq k h2 hk => by
    refine Nat.lt_of_le_of_lt (hq k hk) (Nat.lt_of_le_of_lt (Nat.mul_le_mul_left _ (Nat.pow_le_pow_right (by decide) h2)) (by decide +kernel))
  by_cases c : i ≤ 2
  · have := key hf i c (by omega)
    exact .inl ⟨by omega, by omega⟩
  · have := key hg j (by omega) (by omega)
    exact .inr ⟨by omega, by omega⟩
end Pk

set_option maxRecDepth 100000
set_option maxHeartbeats 4000000
set_option pp.maxSteps 600
namespace Pk
open PySem PySem.Spec PyProof.Rows L2
/-! ### _law_times -/
def nrs (f : Nat → Nat) (n : Nat) : List V := (List.range n).map fun i => V.int ((f i : Nat) : Int)
theorem nrs_len (f : Nat → Nat) (n : Nat) : (nrs f n).length = n := by unfold nrs; rw [List.length_map, List.length_range]
theorem nrs_get {f : Nat → Nat} {n i : Nat} (h : i < n) : (nrs f n)[i]? = some (.int ((f i : Nat) : Int)) := by
  unfold nrs; rw [List.getElem?_map, List.getElem?_range h]; rfl
theorem nrs_congr {f g : Nat → Nat} {n : Nat} (h : ∀ i, i < n → f i = g i) : nrs f n = nrs g n := by
  unfold nrs
  exact List.map_congr_left fun i hi => by rw [h i (List.mem_range.mp hi)]
theorem nrs_set {f g : Nat → Nat} {n k : Nat} (h : ∀ i, i < n → i ≠ k → g i = f i) (hk : k < n) : (nrs f n).set k (.int ((g k : Nat) : Int)) = nrs g n := by
  apply List.ext_getElem?
  intro i
  by_cases c : i = k
  · subst c
    rw [List.getElem?_set_self (by rw [nrs_len]; exact hk), nrs_get hk]
  · rw [List.getElem?_set_ne (Ne.symm c)]
    by_cases l : i < n
    · rw [nrs_get l, nrs_get l, h i l c]
    · rw [List.getElem?_eq_none (by rw [nrs_len]; omega), List.getElem?_eq_none (by rw [nrs_len]; omega)]
theorem nrs_rep : ∀ n : Nat, (List.replicate n [V.int 0]).flatten = nrs (fun _ => 0) n
  | 0 => rfl
  | n + 1 => by
    rw [List.replicate_succ, List.flatten_cons, nrs_rep n]
    unfold nrs
    rw [List.range_succ_eq_map, List.map_cons, List.map_map]; rfl
theorem nrs_snoc (f : Nat → Nat) (n : Nat) : nrs f (n + 1) = nrs f n ++ [.int ((f n : Nat) : Int)] := by
  unfold nrs
  rw [List.range_succ, List.map_append]; rfl
section
variable {P : Program} {w : World} {K : PySem.W.Frag} {mg : Str → Option Value} {base : Heap}
def spTm : Sp := fun vs H Q _ => ∃ (a b : Addr) (f g : Nat → Nat) (p q m : Nat), vs = [.ref a, .ref b, .int ((m : Nat) : Int)] ∧ H a = some (.lst (nrs f p)) ∧ H b = some (.lst (nrs g q)) ∧ m ≤ p ∧ m ≤ q ∧ m ≤ 5 ∧ (∀ i j, i + j < m → CMul (f i) (g j)) ∧
  ∀ (l : Addr) (H' : Hp), H l = none → Same H H' → H' l = some (.lst (nrs (cv f g) m)) → Q (.ref l) H'
/-- what stands at a place behind j rows and k places of the next -/
def tmI (f g : Nat → Nat) (j k t : Nat) : Nat := sm (fun i => f i * g (t - i)) (min j (t + 1)) + if j ≤ t ∧ t < j + k then f j * g (t - j) else 0
theorem tmI_next {f g : Nat → Nat} {j m t : Nat} (hj : j < m) (ht : t < m) : tmI f g j (m - j) t = tmI f g (j + 1) 0 t := by
  unfold tmI
  rw [if_neg (show ¬ (j + 1 ≤ t ∧ t < j + 1 + 0) by omega)]
  by_cases c : j ≤ t
  · rw [if_pos ⟨c, by omega⟩, show min j (t + 1) = j by omega, show min (j + 1) (t + 1) = j + 1 by omega]
    rfl
  · rw [if_neg (by omega), show min j (t + 1) = t + 1 by omega, show min (j + 1) (t + 1) = t + 1 by omega]
theorem tmI_end {f g : Nat → Nat} {m t : Nat} (ht : t < m) : tmI f g m 0 t = cv f g t := by
  unfold tmI
  rw [if_neg (show ¬ (m ≤ t ∧ t < m + 0) by omega), show min m (t + 1) = t + 1 by omega, cv_sm]; rfl
theorem ok_ltm {f : Addr} {fd : FuncData} (D__law_times : Df K mg "_law_times" s__law_times ["one", "two", "many"] f fd) (B : Bt mg) : FnOk P w K mg base CX0 1 f fd ["one", "two", "many"] spTm := by
  refine D__law_times.ok c__law_times (fun vs H Q E h => ?_) (fun cdv A outer s H vs Q E hr h => ?_)
  · obtain ⟨a, b, f1, g1, p, q, m, rfl, _⟩ := h
    rfl
  obtain ⟨a, b, f1, g1, pp, q, m, rfl, ha, hb, hp, hq, h5, hm, k⟩ := h
  have nd := c__law_times.nd
  refine ⟨_, (pss_cons (ps_set (i := 3) nd rfl (Or.inl rfl) (pe_op op_rep (pe_lst (pa_cons pe_int pa_nil)) (pv 2)))
  (pss_cons (ps_for PassesOwn.never rfl (pi_range1 (by rfl) B.b_range (pa_cons (pv 2) pa_nil)) (pg_name (i := 4) nd rfl (Or.inl rfl)) (pss_one (ps_for PassesOwn.never rfl (pi_range1 (by rfl) B.b_range (pa_cons (pe_op op_sub (pv 2) (pv 4)) pa_nil)) (pg_name (i := 5) nd rfl (Or.inl rfl)) (pss_one (ps_asg (pe_op op_add (pe_ix ix_list (pv 3) (pe_op op_add (pv 4) (pv 5)) (fun _ _ => rfl)) (pe_op op_mul (pe_ix ix_list (pv 0) (pv 4) (fun _ _ => rfl)) (pe_ix ix_list (pv 1) (pv 5) (fun _ _ => rfl)))) (pg_sub (pv 3) (pe_op op_add (pv 4) (pv 5)) set_list))))))
  (pss_one (ps_ret (pv 3))))), ?_⟩
  refine ⟨by decide, fun p0 n0 => ⟨_, rfl, p0, _, _, rfl, rfl, upd_same, by omega, by omega, ?hs, fun p np => ?_⟩⟩
  case hs =>
    refine Nat.le_trans (m := 5) ?_ (by decide)
    show 1 * ((m : Nat) : Int).toNat ≤ 5
    omega
  have np' : H p = none := by
    by_cases c : p = p0
    · subst c; rw [upd_same] at np; cases np
    · rw [upd_ne c] at np; exact np
  have s0 : Same H (upd (upd H p0 (.lst [.int 0])) p (.lst (nrs (fun _ => 0) m))) := (same_new n0 _).trans (same_new np _)
  have ei : (List.replicate ((m : Nat) : Int).toNat [V.int 0]).flatten = nrs (fun _ => 0) m := by rw [Int.toNat_natCast, nrs_rep]
  rw [ei]
  refine ⟨_, rfl, _, rfl, by omega, by omega, ?_⟩
  refine for_range (n := ((m : Nat) : Int).toNat) (fun i σ H' => ∃ y4 y5 : Option V, σ = [some (.ref a), some (.ref b), some (.int ((m : Nat) : Int)), some (.ref p), y4, y5] ∧ Same H H' ∧ H' p = some (.lst (nrs (tmI f1 g1 i 0) m))) ⟨none, none, rfl, s0, ?_⟩ ?_ ?_
  · rw [upd_same]
    exact congrArg _ (congrArg _ (nrs_congr fun t ht => by unfold tmI; rw [if_neg (show ¬ (0 ≤ t ∧ t < 0 + 0) by omega), show min 0 (t + 1) = 0 by omega]; rfl))
  · rintro j σ H1 hj ⟨y4, y5, rfl, s1, h1⟩
    have hj' : j < m := by omega
    refine ⟨_, rfl, _, rfl, _, _, rfl, rfl, _, rfl, by omega, by omega, ?_⟩
    refine for_range (n := (((m : Nat) : Int) - (0 + ((j : Nat) : Int))).toNat) (fun i σ H' => ∃ y5 : Option V, σ = [some (.ref a), some (.ref b), some (.int ((m : Nat) : Int)), some (.ref p), some (.int (0 + ((j : Nat) : Int))), y5] ∧ Same H H' ∧ H' p = some (.lst (nrs (tmI f1 g1 j i) m))) ⟨y5, rfl, s1, h1⟩ ?_ ?_
    · rintro i σ H2 hi ⟨y5, rfl, s2, h2⟩
      have hi' : j + i < m := by omega
      have ij : (0 : Int) + ((j : Nat) : Int) + (0 + ((i : Nat) : Int)) = ((j + i : Nat) : Int) := by omega
      have a1 : atI (nrs (tmI f1 g1 j i) m) ((0 : Int) + ((j : Nat) : Int) + (0 + ((i : Nat) : Int))) = some (.int ((tmI f1 g1 j i (j + i) : Nat) : Int)) := by rw [ij]; exact atI_nat (nrs_get hi')
      have a2 : atI (nrs f1 pp) ((0 : Int) + ((j : Nat) : Int)) = some (.int ((f1 j : Nat) : Int)) := by rw [show (0 : Int) + ((j : Nat) : Int) = ((j : Nat) : Int) by omega]; exact atI_nat (nrs_get (by omega))
      have a3 : atI (nrs g1 q) ((0 : Int) + ((i : Nat) : Int)) = some (.int ((g1 i : Nat) : Int)) := by rw [show (0 : Int) + ((i : Nat) : Int) = ((i : Nat) : Int) by omega]; exact atI_nat (nrs_get (by omega))
      have a4 : ixN (nrs (tmI f1 g1 j i) m).length ((0 : Int) + ((j : Nat) : Int) + (0 + ((i : Nat) : Int))) = some (j + i) := by rw [ij]; unfold ixN; rw [nrs_len, if_pos (by omega), if_pos (by omega)]; exact congrArg some (by omega)
      refine ⟨_, rfl, _, rfl, _, rfl, _, _, rfl, rfl, p, _, _, _, rfl, rfl, SqL.of h2, a1, ?_⟩
      refine ⟨_, rfl, _, rfl, a, _, _, _, rfl, rfl, SqL.of (s2 _ _ ha), a2, ?_⟩
      refine ⟨_, rfl, _, rfl, b, _, _, _, rfl, rfl, SqL.of (s2 _ _ hb), a3, ?_⟩
      refine ⟨_, _, rfl, rfl, hm j i hi', ?_⟩
      refine ⟨_, _, rfl, rfl, ?_⟩
      refine ⟨_, rfl, _, rfl, _, rfl, _, _, rfl, rfl, p, _, _, _, rfl, rfl, h2, a4, ?_⟩
      refine ⟨_, rfl, fun z o e => by rw [upd_ne (ne_of_none e np')]; exact s2 z o e, ?_⟩
      rw [upd_same]
      have e1 : (tmI f1 g1 j i (j + i) : Int) + ((f1 j : Nat) : Int) * ((g1 i : Nat) : Int) = ((tmI f1 g1 j (i + 1) (j + i) : Nat) : Int) := by
        rw [← Int.natCast_mul, ← Int.natCast_add]
        congr 1
        unfold tmI
        rw [if_neg (show ¬ (j ≤ j + i ∧ j + i < j + i) by omega), if_pos (show j ≤ j + i ∧ j + i < j + (i + 1) by omega), Nat.add_sub_cancel_left]; omega
      show some (HO.lst ((nrs (tmI f1 g1 j i) m).set (j + i) (.int ((tmI f1 g1 j i (j + i) : Int) + ((f1 j : Nat) : Int) * ((g1 i : Nat) : Int))))) = _
      rw [e1]
      exact congrArg _ (congrArg _ (nrs_set (fun t ht hn => by
        unfold tmI
        by_cases c : j ≤ t ∧ t < j + i
        · rw [if_pos c, if_pos (by omega)]
        · rw [if_neg c, if_neg (by omega)]) hi'))
      skip
    · rintro σ H2 ⟨y5, rfl, s2, h2⟩
      refine ⟨_, _, rfl, s2, ?_⟩
      rw [h2]
      have e : (((m : Nat) : Int) - (0 + ((j : Nat) : Int))).toNat = m - j := by omega
      rw [e]
      exact congrArg _ (congrArg _ (nrs_congr fun t ht => tmI_next hj' ht))
  · rintro σ H1 ⟨y4, y5, rfl, s1, h1⟩
    refine ⟨_, rfl, k p H1 np' s1 ?_⟩
    rw [h1]
    exact congrArg _ (congrArg _ (nrs_congr fun t ht => by rw [Int.toNat_natCast]; exact tmI_end ht))
end
end Pk

set_option maxRecDepth 100000
set_option maxHeartbeats 4000000
set_option pp.maxSteps 600
namespace Pk
open PySem PySem.Spec PyProof.Rows L2
/-! ### what is counted already -/
mutual
theorem ky_kind_inj : ∀ {a b : D}, isK a = true → isK b = true → kyD a = kyD b → a = b
  | .tup ts, .tup us, ha, hb, e => by
    have e' : NestedKey.tup (kyDs ts) = NestedKey.tup (kyDs us) := e
    injection e' with e2
    rw [ky_kinds_inj ha hb e2]
  | .at _, _, ha, _, _ => by cases ha
  | .lst, _, ha, _, _ => by cases ha
  | .tup _, .at _, _, hb, _ => by cases hb
  | .tup _, .lst, _, hb, _ => by cases hb
theorem ky_kinds_inj : ∀ {a b : List D}, isKs a = true → isKs b = true → kyDs a = kyDs b → a = b
  | [], [], _, _, _ => rfl
  | x :: xs, y :: ys, ha, hb, e => by
    have e' : kyD x :: kyDs xs = kyD y :: kyDs ys := e
    injection e' with e1 e2
    have ha' := Bool.and_eq_true_iff.mp (show (isK x && isKs xs) = true from ha)
    have hb' := Bool.and_eq_true_iff.mp (show (isK y && isKs ys) = true from hb)
    rw [ky_kind_inj ha'.1 hb'.1 e1, ky_kinds_inj ha'.2 hb'.2 e2]
  | [], _ :: _, _, _, e => by cases e
  | _ :: _, [], _, _, e => by cases e
end
/-- the arguments of some kinds -/
def flt : List D → List D
  | [] => []
  | k :: ks => inn k ++ flt ks
theorem flt_app : ∀ (a b : List D), flt (a ++ b) = flt a ++ flt b
  | [], b => rfl
  | k :: ks, b => by
    show inn k ++ flt (ks ++ b) = inn k ++ flt ks ++ flt b
    rw [flt_app ks b, List.append_assoc]
theorem flt_one (x : D) : flt [x] = inn x := List.append_nil _
theorem sumL_app {f : D → Nat} : ∀ (a b : List D), sumL f (a ++ b) = sumL f a + sumL f b
  | [], b => (Nat.zero_add _).symm
  | x :: a, b => by
    show f x + sumL f (a ++ b) = f x + sumL f a + sumL f b
    rw [sumL_app a b]; omega
def prs (L : List D) : Nat := sumL (fun a => (inn a).length) L
theorem prs_app (a b : List D) : prs (a ++ b) = prs a + prs b := sumL_app a b
structure OkC (m : Nat) (ks : List D) : Prop where
  k : isKs ks = true
  l : ks.length + m ≤ 8
  d : ∀ a, a ∈ ks → dep a ≤ 3
  o : OkL m (flt ks)
  p : prs (flt ks) ≤ 4
theorem OkC.le {m n : Nat} {ks : List D} (h : OkC m ks) (l : n ≤ m) : OkC n ks := ⟨h.k, by have := h.l; omega, h.d, h.o.le l, h.p⟩
theorem sumL_zero {f : D → Nat} : ∀ {l : List D}, (∀ a, a ∈ l → f a = 0) → sumL f l = 0
  | [], _ => rfl
  | a :: l, h => by
    show f a + sumL f l = 0
    rw [h a (List.mem_cons_self ..), sumL_zero fun b hb => h b (List.mem_cons_of_mem _ hb)]
theorem OkC.part {m : Nat} {ks : List D} (h : OkC m ks) {a x : D} (ha : a ∈ flt ks) (hx : x ∈ inn a) : isK x = true ∧ dep x ≤ 1 ∧ prs (inn x) = 0 := by
  have ka := isK_mem h.o.k ha
  obtain ⟨e, k⟩ := inn_k ka
  have d := h.o.d a ha
  rw [e] at d
  have d' : deps (inn a) ≤ 2 := d
  have dx := dep_mem hx
  have kx := isK_mem k hx
  obtain ⟨e2, k2⟩ := inn_k kx
  refine ⟨kx, by omega, sumL_zero fun b hb => ?_⟩
  have kb := isK_mem k2 hb
  obtain ⟨e3, _⟩ := inn_k kb
  have dx2 : dep x ≤ 1 := by omega
  rw [e2] at dx2
  have dx3 : deps (inn x) ≤ 1 := dx2
  have db := dep_mem hb
  have db2 : dep b ≤ 0 := by omega
  rw [e3] at db2
  have db3 : deps (inn b) ≤ 0 := db2
  cases q : inn b with
  | nil => rfl
  | cons c cs =>
    have := dep_mem (show c ∈ inn b by rw [q]; exact List.mem_cons_self ..)
    omega
theorem OkC.app {m : Nat} {ks : List D} (h : OkC (m + 1) ks) {a x : D} (ha : a ∈ flt ks) (hx : x ∈ inn a) : OkC m (ks ++ [x]) := by
  obtain ⟨kx, dx, px⟩ := h.part ha hx
  have hl := h.l
  refine ⟨?_, by rw [List.length_append]; show ks.length + 1 + m ≤ 8; omega, fun b hb => ?_, ?_, ?_⟩
  · rw [isKs_append, h.k]
    show (true && (isK x && true)) = true
    rw [kx]; rfl
  · rcases List.mem_append.mp hb with q | q
    · exact h.d b q
    · rw [List.mem_singleton.mp q]; omega
  · rw [flt_app, flt_one]; exact h.o.app ha hx
  · rw [flt_app, flt_one, prs_app, px]; exact h.p
def keyC (ks : List D) (m : Nat) : D := .tup [.tup ks, .at (.int ((m : Nat) : Int))]
theorem keyC_inj {ks ks' : List D} {m m' : Nat} (h : isKs ks = true) (h' : isKs ks' = true) (e : kyD (keyC ks m) = kyD (keyC ks' m')) : ks = ks' ∧ m = m' := by
  have e' : NestedKey.tup [NestedKey.tup (kyDs ks), .num ((m : Nat) : Int)] = NestedKey.tup [NestedKey.tup (kyDs ks'), .num ((m' : Nat) : Int)] := e
  injection e' with e1
  injection e1 with e2 e3
  injection e2 with e4
  injection e3 with e5
  injection e5 with e6
  exact ⟨ky_kinds_inj h h' e4, by omega⟩
mutual
theorem noLd_kind : ∀ d : D, isK d = true → noLd d = true
  | .tup ts, h => noLds_kind ts h
  | .at _, h => by cases h
  | .lst, h => by cases h
theorem noLds_kind : ∀ l : List D, isKs l = true → noLds l = true
  | [], _ => rfl
  | t :: r, h => by
    have h' := Bool.and_eq_true_iff.mp (show (isK t && isKs r) = true from h)
    show (noLd t && noLds r) = true
    rw [noLd_kind t h'.1, noLds_kind r h'.2]; rfl
end
abbrev CRow := List D × Nat
def EntC (K : PySem.W.Frag) (H : Hp) (e : Ent) (r : CRow) : Prop := e.1 = kyD (keyC r.1 r.2) ∧ isKs r.1 = true ∧ KeyAt K H e.1 e.2.1 ∧ ∃ c, e.2.2 = .ref c ∧ H c = some (.lst (nrs (nbd (flt r.1)) (r.2 + 1)))
theorem entC_keep {K : PySem.W.Frag} {H H' : Hp} (k : Kx H H') (l : ∀ c xs, H c = some (.lst xs) → H' c = some (.lst xs)) : ∀ {xs : List Ent} {rows : List CRow}, Paired (EntC K H) xs rows → Paired (EntC K H') xs rows
  | _, _, .nil => .nil
  | _, _, .cons ⟨h1, h2, h3, c, h4, h5⟩ t => .cons ⟨h1, h2, h3.mono k, c, h4, l _ _ h5⟩ (entC_keep k l t)
theorem entC_app {K : PySem.W.Frag} {H : Hp} : ∀ {xs ys : List Ent} {rows rs : List CRow}, Paired (EntC K H) xs rows → Paired (EntC K H) ys rs → Paired (EntC K H) (xs ++ ys) (rows ++ rs)
  | _, _, _, _, .nil, q => q
  | _, _, _, _, .cons h t, q => .cons h (entC_app t q)
theorem atVC_cons (x : Ent) (xs : List Ent) (k : NestedKey) : atV (x :: xs) k = if x.1 = k then some x.2.2 else atV xs k := by
  unfold atV
  rw [List.find?_cons]
  by_cases h : x.1 = k
  · rw [if_pos h, decide_eq_true h]
    rfl
  · rw [if_neg h, decide_eq_false h]
theorem entC_at {K : PySem.W.Frag} {H : Hp} {ks : List D} {m : Nat} (hk : isKs ks = true) : ∀ {xs : List Ent} {rows : List CRow}, Paired (EntC K H) xs rows → atV xs (kyD (keyC ks m)) = none ∨ ∃ c, atV xs (kyD (keyC ks m)) = some (.ref c) ∧ H c = some (.lst (nrs (nbd (flt ks)) (m + 1)))
  | _, _, .nil => .inl rfl
  | x :: xs, r :: rows, .cons ⟨h1, h2, h3, c, h4, h5⟩ t => by
    rw [atVC_cons]
    by_cases e : x.1 = kyD (keyC ks m)
    · rw [if_pos e]
      obtain ⟨e1, e2⟩ := keyC_inj h2 hk (h1.symm.trans e)
      rw [e1, e2] at h5
      exact .inr ⟨c, by rw [h4], h5⟩
    · rw [if_neg e]
      exact entC_at hk t
theorem entC_key {K : PySem.W.Frag} {H : Hp} : ∀ {xs : List Ent} {rows : List CRow}, Paired (EntC K H) xs rows → ∀ e, e ∈ xs → KeyAt K H e.1 e.2.1
  | _, _, .nil, e, h => by cases h
  | x :: xs, r :: rows, .cons ⟨h1, h2, h3, _⟩ t, e, h => by
    rcases List.mem_cons.mp h with rfl | h
    · exact h3
    · exact entC_key t e h
theorem entC_repl {K : PySem.W.Frag} {H : Hp} {ks : List D} {m : Nat} {c : Addr} (hk : isKs ks = true) (hc : H c = some (.lst (nrs (nbd (flt ks)) (m + 1)))) : ∀ {xs : List Ent} {rows : List CRow}, Paired (EntC K H) xs rows → Paired (EntC K H) (xs.map fun x => if x.1 = kyD (keyC ks m) then (x.1, x.2.1, .ref c) else x) rows
  | _, _, .nil => .nil
  | x :: xs, r :: rows, .cons ⟨h1, h2, h3, c', h4, h5⟩ t => by
    refine .cons ?_ (entC_repl hk hc t)
    show EntC K H (if x.1 = kyD (keyC ks m) then (x.1, x.2.1, V.ref c) else x) r
    by_cases e : x.1 = kyD (keyC ks m)
    · rw [if_pos e]
      obtain ⟨e1, e2⟩ := keyC_inj h2 hk (h1.symm.trans e)
      exact ⟨h1, h2, h3, c, rfl, by rw [e1, e2]; exact hc⟩
    · rw [if_neg e]
      exact ⟨h1, h2, h3, c', h4, h5⟩
section
variable {P : Program} {w : World} {K : PySem.W.Frag}
/-- a dict of lists counted, of at most n keys -/
def MemC (P : Program) (w : World) (K : PySem.W.Frag) (H : Hp) (d : Addr) (n : Nat) : Prop := ∃ xs rows, H d = some (DkO P w d xs) ∧ Paired (EntC K H) xs rows ∧ xs.length ≤ n
theorem MemC.same {H H' : Hp} {d : Addr} {n : Nat} (x : MemC P w K H d n) (s : Same H H') : MemC P w K H' d n :=
  let ⟨xs, rows, h, p, l⟩ := x; ⟨xs, rows, s _ _ h, entC_keep (kx_same s) (fun _ _ e => s _ _ e) p, l⟩
theorem MemC.le {H : Hp} {d : Addr} {n m : Nat} (x : MemC P w K H d n) (h : n ≤ m) : MemC P w K H d m := let ⟨xs, rows, h1, p, l⟩ := x; ⟨xs, rows, h1, p, Nat.le_trans l h⟩
theorem MemC.put {H : Hp} {d b c : Addr} {n m : Nat} {ks : List D} {xs : List Ent} {rows : List CRow} (h : H d = some (DkO P w d xs)) (p : Paired (EntC K H) xs rows) (hl : xs.length ≤ n) (hk : isKs ks = true) (hb : KeyAt K H (kyD (keyC ks m)) b) (hc : H c = some (.lst (nrs (nbd (flt ks)) (m + 1)))) :
    MemC P w K (upd H d (DkO P w d (putV xs (kyD (keyC ks m)) b (.ref c)))) d (n + 1) := by
  have k : Kx H (upd H d (DkO P w d (putV xs (kyD (keyC ks m)) b (.ref c)))) :=
    ⟨fun q zs e => by rw [upd_ne (ne_of e h (by intro z; cases z))]; exact e, fun q zs e => ⟨zs, by rw [upd_ne (ne_of e h (by intro z; cases z))]; exact e⟩⟩
  have lk : ∀ q zs, H q = some (.lst zs) → (upd H d (DkO P w d (putV xs (kyD (keyC ks m)) b (.ref c)))) q = some (.lst zs) := fun q zs e => by rw [upd_ne (ne_of e h (by intro z; cases z))]; exact e
  have len := length_putV xs (kyD (keyC ks m)) b (.ref c)
  by_cases q : (atV xs (kyD (keyC ks m))).isSome = true
  · refine ⟨_, rows, upd_same, entC_keep k lk ?_, by omega⟩
    unfold putV
    rw [if_pos q]
    exact entC_repl hk hc p
  · refine ⟨_, rows ++ [(ks, m)], upd_same, entC_keep k lk ?_, by omega⟩
    unfold putV
    rw [if_neg q]
    exact entC_app p (.cons ⟨rfl, hk, hb, c, rfl, hc⟩ .nil)
end
end Pk

set_option maxRecDepth 100000
set_option maxHeartbeats 4000000
set_option pp.maxSteps 600
namespace Pk
open PySem PySem.Spec PyProof.Rows L2
theorem seq_rest {t u : TS} {D : Ends} {σ : L2.St} {H : Hp} (F : L2.St → Hp → Prop) (main : (∀ σ' H', F σ' H' → u D σ' H') → tSeq t u D σ H) (rest : ∀ σ' H', F σ' H' → u D σ' H') : tSeq t u D σ H := main rest
theorem nx_rest {t u : TS} {D : Ends} {σ : L2.St} {H : Hp} (F : L2.St → Hp → Prop) (main : (∀ σ' H', F σ' H' → u D σ' H') → tSeq t u D σ H) (rest : ∀ σ' H', F σ' H' → u D σ' H') : tNext { D with nx := tSeq t u D } σ H := main rest
theorem rel_ref (a : Addr) : RelV (V.ref a) (Value.ref a) := rfl
theorem new_none {H H' : Hp} (s : Same H H') {p : Addr} (h : H' p = none) : H p = none := by
  cases h0 : H p with
  | none => rfl
  | some o => rw [s _ _ h0] at h; cases h
/-! ### _law_counts -/
/-- how many keys a walk may write -/
def tcN : Nat → Nat
  | 0 => 1
  | m + 1 => 1 + 5 * tcN m
section
variable {P : Program} {w : World} {K : PySem.W.Frag} {mg : Str → Option Value} {base : Heap}
def spCn (P : Program) (w : World) (K : PySem.W.Frag) (n : Nat) : Sp := fun vs H Q _ => ∃ (a d : Addr) (xs : List V) (ks : List D) (m t : Nat), vs = [.ref a, .int ((m : Nat) : Int), .ref d] ∧ m < n ∧ m ≤ 5 ∧ H a = some (.lst xs) ∧ Reps K H xs ks ∧ OkC m ks ∧ MemC P w K H d t ∧ t + tcN m ≤ 100000 ∧
  ∀ (c : Addr) (H' : Hp), SB d H H' → MemC P w K H' d (t + tcN m) → H' c = some (.lst (nrs (nbd (flt ks)) (m + 1))) → Q (.ref c) H'
theorem prF_snoc {F : List D → Nat → Nat} {L : List D} : ∀ (xs : List D) (p : Nat → Nat) (x : D), prF F L p (xs ++ [x]) = cv (prF F L p xs) (F (L ++ inn x))
  | [], p, x => rfl
  | y :: ys, p, x => prF_snoc ys _ x
theorem sma_nbd {m : Nat} {L : List D} (o : OkL m L) (h : m ≤ 5) : Sma m (nbd L) := fun i hi => Nat.le_trans (nbd_le i i (Nat.le_refl _) (by omega) (o.le hi)) (Nat.mul_le_mul_right _ (by decide))
theorem mem_take_of {l : List D} {n : Nat} {x : D} (h : x ∈ l.take n) : x ∈ l := List.mem_of_mem_take h
theorem sma_prF {m : Nat} {L : List D} (o : OkL (m + 1) L) (h : m ≤ 4) {a : D} (ha : a ∈ L) (r : Nat) : Sma m (prF nbd L (cv (nbd L) (nbd L)) ((inn a).take r)) := by
  intro i hi
  have b0 : ∀ j, j ≤ m → nbd L j ≤ 3 * cB ^ j := fun j hj => nbd_le j j (Nat.le_refl _) (by omega) (o.le (by omega))
  have p := prF_le (c := cB) (m := m) (F := nbd) (L := L) h ((inn a).take r) (cv (nbd L) (nbd L)) 45 (fun j hj => cv_le (A := 3) (B := 3) (fun k hk => b0 k (by omega)) (fun k hk => b0 k (by omega)) (by omega))
    (fun x hx j hj => nbd_le j j (Nat.le_refl _) (by omega) ((o.app ha (mem_take_of hx)).le hj)) i hi
  refine Nat.le_trans p (Nat.mul_le_mul_right _ ?_)
  have l : ((inn a).take r).length ≤ 3 := by
    rw [List.length_take]
    have := o.inn ha
    omega
  exact Nat.le_trans (Nat.mul_le_mul_left _ (Nat.pow_le_pow_right (by decide) l)) (by decide)
theorem nrs_cons (f : Nat → Nat) (n : Nat) : nrs f (n + 1) = .int ((f 0 : Nat) : Int) :: nrs (fun i => f (i + 1)) n := by
  unfold nrs
  rw [List.range_succ_eq_map, List.map_cons, List.map_map]; rfl
theorem MemC.kx {P : Program} {w : World} {K : PySem.W.Frag} {H H' : Hp} {d : Addr} {n : Nat} (x : MemC P w K H d n) (s : SB d H H') : Kx H H' :=
  let ⟨_, _, h, _, _⟩ := x
  ⟨fun q zs e => s _ _ (ne_of e h (by intro z; cases z)) e, fun q zs e => ⟨zs, s _ _ (ne_of e h (by intro z; cases z)) e⟩⟩
theorem MemC.lst {P : Program} {w : World} {K : PySem.W.Frag} {H H' : Hp} {d q : Addr} {zs : List V} {n : Nat} (x : MemC P w K H d n) (s : SB d H H') (e : H q = some (.lst zs)) : H' q = some (.lst zs) :=
  let ⟨_, _, h, _, _⟩ := x
  s _ _ (ne_of e h (by intro z; cases z)) e
theorem flt_mem {k x : D} : ∀ {ks : List D}, k ∈ ks → x ∈ inn k → x ∈ flt ks
  | a :: l, h, hx => by
    rcases List.mem_cons.mp h with rfl | h
    · exact List.mem_append_left _ hx
    · exact List.mem_append_right _ (flt_mem h hx)
theorem split_at {α : Type} : ∀ {l : List α} {i : Nat} {x : α}, l[i]? = some x → l = l.take i ++ x :: l.drop (i + 1)
  | a :: l, 0, x, h => by cases h; rfl
  | a :: l, i + 1, x, h => congrArg (a :: ·) (split_at (l := l) h)
theorem prs_split {ks : List D} {i j : Nat} {kd ad : D} (hk : ks[i]? = some kd) (ha : (inn kd)[j]? = some ad) : prs (flt (ks.take i)) + prs ((inn kd).take j) + (inn ad).length ≤ prs (flt ks) := by
  have e1 := congrArg (fun l => prs (flt l)) (split_at hk)
  have e2 := congrArg prs (split_at ha)
  have e1' : prs (flt ks) = prs (flt (ks.take i ++ kd :: ks.drop (i + 1))) := e1
  have e3 : flt (kd :: ks.drop (i + 1)) = inn kd ++ flt (ks.drop (i + 1)) := rfl
  have e4 : prs (ad :: (inn kd).drop (j + 1)) = (inn ad).length + prs ((inn kd).drop (j + 1)) := rfl
  rw [flt_app, e3, prs_app, prs_app] at e1'
  rw [prs_app, e4] at e2
  omega
theorem keyC_noLd {ks : List D} {m : Nat} (h : isKs ks = true) : noLd (keyC ks m) = true := by
  show (noLds ks && (true && true)) = true
  rw [noLds_kind ks h]; rfl
theorem deps_le {n : Nat} : ∀ {l : List D}, (∀ a, a ∈ l → dep a ≤ n) → deps l ≤ n + 1
  | [], _ => Nat.zero_le _
  | a :: l, h => by
    show max (dep a + 1) (deps l) ≤ n + 1
    have x := h a (List.mem_cons_self ..)
    have y := deps_le (l := l) fun b hb => h b (List.mem_cons_of_mem _ hb)
    omega
theorem keyC_dep {ks : List D} {m : Nat} (h : OkC m ks) : dep (keyC ks m) ≤ 7 := by
  show max (deps ks + 1) (max (0 + 1) 0) ≤ 7
  have := deps_le h.d
  omega
theorem ok_cn {f e : Addr} {fd ed : FuncData} (D__law_counts : Df K mg "_law_counts" s__law_counts ["kinds", "many", "known"] f fd) (D__law_times : Df K mg "_law_times" s__law_times ["one", "two", "many"] e ed) (B : Bt mg) :
    ∀ n : Nat, FnOk P w K mg base CX0 (n + 1) f fd ["kinds", "many", "known"] (spCn P w K n)
  | 0 => (fn_none (fun vs H Q E h => by obtain ⟨a, d, xs, ks, m, t, _, h0, _⟩ := h; omega)).mono (by omega)
  | n + 1 => by
    have G__law_counts := ok_cn D__law_counts D__law_times B n
    have G__law_times : FnOk P w K mg base CX0 1 e ed ["one", "two", "many"] spTm := ok_ltm D__law_times B
    refine D__law_counts.ok c__law_counts (fun vs H Q E h => ?_) (fun cdv A outer s H vs Q E hr h => ?_)
    · obtain ⟨a, d, xs, ks, m, t, rfl, _⟩ := h
      rfl
    obtain ⟨a, d, xs, ks, m, t, rfl, hmn, h5, ha, hxs, ok, hd, ht, q⟩ := h
    have nd := c__law_counts.nd
    refine ⟨_, (pss_cons (ps_set (i := 3) nd rfl (Or.inl rfl) (pe_tup (pa_cons (pe_callTy call_tuple_of (by rfl) B.b_tuple (by decide +kernel) (pa_cons (pv 0) pa_nil)) (pa_cons (pv 1) pa_nil))))
  (pss_cons (ps_if (pt_cmp (show PC _ _ _ _ (tDkIn P w K false _ _) from pc_dkIn hr.units (pv 3) (pv 2))) (pss_one (ps_ret (show PE _ _ (tDkGet P w K _ _) from pe_dkGet hr.units (pv 2) (pv 3) (fun _ _ => rfl)))) pss_nil)
  (pss_cons (ps_set (i := 4) nd rfl (Or.inl rfl) (pe_lst (pa_cons pe_int pa_nil)))
  (pss_cons (ps_if (pt_cmpR op_gt (pv 1) pe_int (nomark _)) (pss_cons (ps_set (i := 5) nd rfl (Or.inl rfl) (pe_call G__law_counts hr (by rfl) D__law_counts.m D__law_counts.kp D__law_counts.b .nil pass0 (pa_cons (pv 0) (pa_cons (pe_op op_sub (pv 1) pe_int) (pa_cons (pv 2) pa_nil)))))
  (pss_cons (ps_set (i := 6) nd rfl (Or.inr rfl) (pe_op op_rep (pe_lst (pa_cons pe_int pa_nil)) (pv 1)))
  (pss_cons (ps_for PassesOwn.never rfl (pi_list (pv 0)) (pg_name (i := 7) nd rfl (Or.inl rfl)) (pss_one (ps_for PassesOwn.never rfl (pi_tup (pv 7)) (pg_name (i := 8) nd rfl (Or.inl rfl)) (pss_cons (ps_set (i := 9) nd rfl (Or.inr rfl) (pe_call G__law_times (hr.mono (by first | decide | omega)) (by rfl) D__law_times.m D__law_times.kp D__law_times.b .nil pass0 (pa_cons (pv 5) (pa_cons (pv 5) (pa_cons (pv 1) pa_nil)))))
  (pss_cons (ps_for PassesOwn.never rfl (pi_tup (pv 8)) (pg_name (i := 10) nd rfl (Or.inl rfl)) (pss_one (ps_set (i := 9) nd rfl (Or.inr rfl) (pe_call G__law_times (hr.mono (by first | decide | omega)) (by rfl) D__law_times.m D__law_times.kp D__law_times.b .nil pass0 (pa_cons (pv 9) (pa_cons (pe_call G__law_counts hr (by rfl) D__law_counts.m D__law_counts.kp D__law_counts.b .nil pass0 (pa_cons (pe_op op_cat (pv 0) (pe_lst (pa_cons (pv 10) pa_nil))) (pa_cons (pe_op op_sub (pv 1) pe_int) (pa_cons (pv 2) pa_nil)))) (pa_cons (pv 1) pa_nil)))))))
  (pss_one (ps_set (i := 6) nd rfl (Or.inr rfl) (pe_lc (own := [("k", 11)]) (g := (gName 11)) (tt := tYes) rfl nd (pi_range1 (by rfl) B.b_range (pa_cons (pv 1) pa_nil)) (blkOk_by (own := [("k", 11)]) (N := ["kinds", "many", "known", "key", "counts", "less", "shares", "around", "kind", "parts", "part", "k"]) (sc := defScope s__law_counts) (by decide +kernel)) (fun _ _ _ _ _ => (pg_name (i := 11) nd rfl (Or.inl rfl))) (fun _ _ _ _ _ => pts_nil) (fun _ _ _ _ _ => (pe_op op_add (pe_ix (show IxR _ (rIxL K) from ix_list) (pv 6) (pv 11) (fun _ _ => rfl)) (pe_ix (show IxR _ (rIxL K) from ix_list) (pv 9) (pv 11) (fun _ _ => rfl))))))))))))
  (pss_one (ps_set (i := 4) nd rfl (Or.inl rfl) (pe_op op_cat (pv 4) (pv 6))))))) pss_nil)
  (pss_cons (show PS _ _ (tDkPut P w K _ _ _) from ps_dkPut hr.units (pv 2) (pv 3) (pv 4) rfl)
  (pss_one (ps_ret (pv 4)))))))), ?_⟩
    refine ⟨_, rfl, a, xs, rfl, .inl ⟨SqL.of ha, fun l hl => ?_⟩⟩
    have s1 : Same H (upd H l (.tup xs)) := same_new hl _
    refine ⟨_, rfl, by show 2 ≤ sizeLine; decide, fun p np => ?_⟩
    have s2 : Same H (upd (upd H l (.tup xs)) p (.tup [.ref l, .int ((m : Nat) : Int)])) := s1.trans (same_new np _)
    have rk : Rep K (upd (upd H l (.tup xs)) p (.tup [.ref l, .int ((m : Nat) : Int)])) (.ref p) (keyC ks m) :=
      .tup' upd_same (.cons (.tup' (same_new np _ _ _ upd_same) (hxs.mono (kx_same s2))) (.cons (.at rfl) .nil))
    generalize (upd (upd H l (.tup xs)) p (.tup [.ref l, .int ((m : Nat) : Int)])) = H2 at s2 rk ⊢
    have ka : ∀ H', Kx H2 H' → KeyAt K H' (kyD (keyC ks m)) p := fun H' k => ⟨_, rk.mono k, keyC_noLd ok.k, keyC_dep ok, rfl⟩
    obtain ⟨xd, rows, hd0, hp0, hl0⟩ := hd.same s2
    have hd2 : MemC P w K H2 d t := hd.same s2
    refine ⟨_, rfl, _, rfl, d, p, xd, _, rfl, rfl, ⟨.inl hd0, entC_key hp0⟩, ka _ (Kx.refl _), _, rfl, ite2 (fun z => ?_) (fun z => ?_)⟩
    · rcases entC_at (m := m) ok.k hp0 with hn | ⟨c, hc, hcl⟩
      · have z' : (atV xd (kyD (keyC ks m))).isSome = true := z
        rw [hn] at z'; cases z'
      · exact ⟨_, rfl, _, rfl, d, p, xd, _, .ref c, rfl, rfl, ⟨.inl hd0, entC_key hp0⟩, ka _ (Kx.refl _), hc, q c H2 (sb_same s2) (hd2.le (by omega)) hcl⟩
    refine ⟨by decide, fun p1 n1 => ?_⟩
    have s3 : Same H2 (upd H2 p1 (.lst [.int 3])) := same_new n1 _
    have hp1 : (upd H2 p1 (.lst [.int 3])) p1 = some (.lst [.int 3]) := upd_same
    generalize (upd H2 p1 (.lst [.int 3])) = H3 at s3 hp1 ⊢
    have hd3 : MemC P w K H3 d t := hd2.same s3
    refine nx_rest (fun σ H' => ∃ (cc : Addr) (y5 y6 y7 y8 y9 y10 y11 : Option V), σ = [some (.ref a), some (.int ((m : Nat) : Int)), some (.ref d), some (.ref p), some (.ref cc), y5, y6, y7, y8, y9, y10, y11] ∧ SB d H3 H' ∧ MemC P w K H' d (t + tcN m - 1) ∧ H' cc = some (.lst (nrs (nbd (flt ks)) (m + 1)))) ?_ ?_
    · intro fin
      refine ⟨_, rfl, _, _, rfl, rfl, _, rfl, ite2 (fun z2 => ?_) (fun z2 => ?_)⟩
      · have z3 : ((0 : Int)) < ((m : Nat) : Int) := of_decide_eq_true z2
        cases m with
        | zero => omega
        | succ m =>
          have em : ((m + 1 : Nat) : Int) - 1 = ((m : Nat) : Int) := by omega
          have et : tcN (m + 1) = 1 + 5 * tcN m := rfl
          rw [et] at ht
          have ha3 : H3 a = some (.lst xs) := s3 _ _ (s2 _ _ ha)
          have k23 : Kx H H3 := kx_same (s2.trans s3)
          refine ⟨_, rfl, _, rfl, _, _, rfl, rfl, _, rfl, a, d, xs, ks, m, t, by show [V.ref a, V.int (((m + 1 : Nat) : Int) - 1), V.ref d] = _; rw [em], by omega, by omega, ha3, hxs.mono k23, ok.le (by omega), hd3, by omega, fun cl H4 sb4 md4 hl4 => ?_⟩
          refine ⟨by decide, fun p0 n0 => ⟨_, rfl, p0, _, _, rfl, rfl, upd_same, by omega, by omega, ?hs, fun sh0 nsh => ?_⟩⟩
          case hs =>
            refine Nat.le_trans (m := 6) ?_ (by decide)
            show 1 * ((m + 1 : Nat) : Int).toNat ≤ 6
            omega
          have s5 := (same_new n0 (.lst [.int 0])).trans (same_new nsh (.lst (List.replicate ((m + 1 : Nat) : Int).toNat [V.int 0]).flatten))
          have hsh5 : (upd (upd H4 p0 (.lst [.int 0])) sh0 (.lst (List.replicate ((m + 1 : Nat) : Int).toNat [V.int 0]).flatten)) sh0 = some (.lst (nrs (fun _ => 0) (m + 1))) := by
            rw [upd_same, Int.toNat_natCast, nrs_rep]
          generalize (upd (upd H4 p0 (.lst [.int 0])) sh0 (.lst (List.replicate ((m + 1 : Nat) : Int).toNat [V.int 0]).flatten)) = H5 at s5 hsh5 ⊢
          have md5 : MemC P w K H5 d (t + tcN m) := md4.same s5
          have ha5 : H5 a = some (.lst xs) := s5 _ _ (hd3.lst sb4 ha3)
          have hp15 : H5 p1 = some (.lst [.int 3]) := s5 _ _ (hd3.lst sb4 hp1)
          have hl5 : H5 cl = some (.lst (nrs (nbd (flt ks)) (m + 1))) := s5 _ _ hl4
          have hxs5 : Reps K H5 xs ks := hxs.mono ((k23.trans (hd3.kx sb4)).trans (kx_same s5))
          have sb35 : SB d H3 H5 := sb4.trans (sb_same s5)
          have lxk := hxs5.length
          have okl := ok.o
          generalize hT : tcN m = T at *
          have Shw : ∀ {done : List D} {sh : Addr} {H' : Hp}, SB d H5 H' → H' cl = some (.lst (nrs (nbd (flt ks)) (m + 1))) := fun s => md5.lst s hl5
          refine ⟨_, rfl, a, rfl, ⟨_, SqL.of ha5⟩, for_list (K := K) (a := a) (xs := xs) (fun i σ H' => ∃ (sh : Addr) (y7 y8 y9 y10 y11 : Option V), σ = [some (.ref a), some (.int ((m + 1 : Nat) : Int)), some (.ref d), some (.ref p), some (.ref p1), some (.ref cl), some (.ref sh), y7, y8, y9, y10, y11] ∧ SB d H5 H' ∧ MemC P w K H' d (t + T + prs (flt (ks.take i)) * T) ∧ H' sh = some (.lst (nrs (fun k => sumL (fun x => askc nbd (flt ks) (inn x) k) (flt (ks.take i))) (m + 1))))
            ⟨sh0, none, none, none, none, none, rfl, SB.refl _ _, md5.le (by omega), hsh5⟩ (fun i σ H' hi ⟨sh, y7, y8, y9, y10, y11, _, sb, _⟩ => SqL.of (md5.lst sb ha5)) ?_ ?_⟩
          · rintro i x σ H6 hx ⟨sh, y7, y8, y9, y10, y11, rfl, sb6, md6, hsh6⟩
            obtain ⟨kd, hkd, rx⟩ := hxs5.get hx
            have hkm : kd ∈ ks := List.mem_of_getElem? hkd
            obtain ⟨ekd, kts⟩ := inn_k (isK_mem ok.k hkm)
            rw [ekd] at rx
            obtain ⟨b, zs, rfl, hb, rzs⟩ := rx.inv
            have hbs : ∀ H', SB d H5 H' → TupAt K H' b zs := fun H' s => hb.kx (md5.kx s)
            have lz := rzs.length
            refine ⟨_, rfl, b, rfl, ⟨_, (hbs _ sb6).sq⟩, for_tup (K := K) (a := b) (xs := zs) (fun j σ H' => ∃ (sh : Addr) (y8 y9 y10 y11 : Option V), σ = [some (.ref a), some (.int ((m + 1 : Nat) : Int)), some (.ref d), some (.ref p), some (.ref p1), some (.ref cl), some (.ref sh), some (.ref b), y8, y9, y10, y11] ∧ SB d H5 H' ∧ MemC P w K H' d (t + T + prs (flt (ks.take i) ++ (inn kd).take j) * T) ∧ H' sh = some (.lst (nrs (fun k => sumL (fun x => askc nbd (flt ks) (inn x) k) (flt (ks.take i) ++ (inn kd).take j)) (m + 1))))
              ⟨sh, y8, y9, y10, y11, rfl, sb6, by rw [List.take_zero, List.append_nil]; exact md6, by rw [List.take_zero, List.append_nil]; exact hsh6⟩ (fun j σ H' hj ⟨sh, y8, y9, y10, y11, _, sb, _⟩ => (hbs _ sb).sq) ?_ ?_⟩
            · rintro j z σ H7 hz ⟨sh, y8, y9, y10, y11, rfl, sb7, md7, hsh7⟩
              obtain ⟨ad, had, rz⟩ := (rzs.mono (md5.kx sb7)).get hz
              have ham : ad ∈ inn kd := List.mem_of_getElem? had
              have haL : ad ∈ flt ks := flt_mem hkm ham
              obtain ⟨ead, kus⟩ := inn_k (isK_mem kts ham)
              rw [ead] at rz
              obtain ⟨b2, vs, rfl, hb2, rvs⟩ := rz.inv
              have hl7 := md5.lst sb7 hl5
              have sn := sma_nbd (okl.le (show m ≤ m + 1 by omega)) (by omega)
              have eT : (inn kd).take (j + 1) = (inn kd).take j ++ [ad] := by rw [List.take_add_one, had]; rfl
              have eL : prs (flt (ks.take i) ++ (inn kd).take j) + (inn ad).length ≤ 4 := by
                have e0 := prs_split hkd had
                have := ok.p
                rw [prs_app]
                omega
              refine ⟨_, rfl, _, rfl, _, rfl, cl, cl, nbd (flt ks), nbd (flt ks), m + 1, m + 1, m + 1, rfl, hl7, hl7, Nat.le_refl _, Nat.le_refl _, by omega, fun i j hij => sn.mul sn (by omega) (by omega), fun pa H8 npa s8 hpa => ?_⟩
              have md8 := md7.same s8
              have hsh8 := s8 _ _ hsh7
              have sb8 : SB d H5 H8 := sb7.trans (sb_same s8)
              generalize hD : prs (flt (ks.take i) ++ (inn kd).take j) = nd' at *
              refine nx_rest (fun σ H' => ∃ (pa : Addr) (y10 y11 : Option V), σ = [some (.ref a), some (.int ((m + 1 : Nat) : Int)), some (.ref d), some (.ref p), some (.ref p1), some (.ref cl), some (.ref sh), some (.ref b), some (.ref b2), some (.ref pa), y10, y11] ∧ SB d H8 H' ∧ MemC P w K H' d (t + T + (nd' + (inn ad).length) * T) ∧ H' pa = some (.lst (nrs (askc nbd (flt ks) (inn ad)) (m + 1)))) (fun fin2 => ?_) ?_
              · have lv := rvs.length
                refine ⟨_, rfl, b2, rfl, ⟨_, (hb2.kx (md7.kx (sb_same s8))).sq⟩, for_tup (K := K) (a := b2) (xs := vs) (fun r σ H' => ∃ (pa : Addr) (y10 y11 : Option V), σ = [some (.ref a), some (.int ((m + 1 : Nat) : Int)), some (.ref d), some (.ref p), some (.ref p1), some (.ref cl), some (.ref sh), some (.ref b), some (.ref b2), some (.ref pa), y10, y11] ∧ SB d H8 H' ∧ MemC P w K H' d (t + T + (nd' + r) * T) ∧ H' pa = some (.lst (nrs (prF nbd (flt ks) (cv (nbd (flt ks)) (nbd (flt ks))) ((inn ad).take r)) (m + 1))))
                  ⟨pa, y10, y11, rfl, SB.refl _ _, md8, hpa⟩ (fun r σ H' hj ⟨pa, y10, y11, _, sb, _⟩ => (hb2.kx ((md7.kx (sb_same s8)).trans (md8.kx sb))).sq) ?_ ?_⟩
                · rintro r v σ H9 hv ⟨pa, y10, y11, rfl, sb9, md9, hpa9⟩
                  obtain ⟨xd', hxd, rv⟩ := (rvs.mono ((md7.kx (sb_same s8)).trans (md8.kx sb9))).get hv
                  have hxm : xd' ∈ inn ad := List.mem_of_getElem? hxd
                  have hrl : r < (inn ad).length := (List.getElem?_eq_some_iff.mp hxd).1
                  have ok2 := ok.app haL hxm
                  have ha9 := md8.lst sb9 (md5.lst sb8 ha5)
                  have nt : (nd' + r) * T + T ≤ 4 * T := by
                    rw [← Nat.succ_mul]
                    exact Nat.mul_le_mul_right _ (by omega)
                  refine ⟨_, rfl, _, rfl, _, rfl, (by decide : 1 ≤ sizeLine), fun q1 nq1 => ⟨a, q1, xs, [v], rfl, rfl, same_new nq1 _ _ _ ha9, upd_same, ?hs2, fun q2 nq2 => ?_⟩⟩
                  case hs2 =>
                    rw [lxk]
                    have := ok.l
                    exact Nat.le_trans (m := 9) (by show ks.length + 1 ≤ 9; omega) (by decide)
                  have s10 := (same_new nq1 (.lst [v])).trans (same_new nq2 (.lst (xs ++ [v])))
                  have ha10 : (upd (upd H9 q1 (.lst [v])) q2 (.lst (xs ++ [v]))) q2 = some (.lst (xs ++ [v])) := upd_same
                  generalize (upd (upd H9 q1 (.lst [v])) q2 (.lst (xs ++ [v]))) = H10 at s10 ha10 ⊢
                  have r10 : Reps K H10 (xs ++ [v]) (ks ++ [xd']) := ((hxs5.mono (md5.kx (sb8.trans sb9))).append (.one rv)).mono (kx_same s10)
                  refine ⟨_, rfl, _, _, rfl, rfl, _, rfl, q2, d, xs ++ [v], ks ++ [xd'], m, t + T + (nd' + r) * T, by show [V.ref q2, V.int (((m + 1 : Nat) : Int) - 1), V.ref d] = _; rw [em], by omega, by omega, ha10, r10, ok2, md9.same s10, by rw [hT]; omega, fun c2 H11 sb11 md11 hc11 => ?_⟩
                  rw [hT] at md11
                  rw [flt_app, flt_one] at hc11
                  have hpa11 := (md9.same s10).lst sb11 (s10 _ _ hpa9)
                  have sp := sma_prF okl (show m ≤ 4 by omega) haL r
                  have sx := sma_nbd (okl.app haL hxm) (by omega)
                  refine ⟨_, rfl, pa, c2, _, _, m + 1, m + 1, m + 1, rfl, hpa11, hc11, Nat.le_refl _, Nat.le_refl _, by omega, fun i j hij => sp.mul sx (by omega) (by omega), fun l2 H12 nl2 s12 hl12 => ?_⟩
                  have eT2 : (inn ad).take (r + 1) = (inn ad).take r ++ [xd'] := by rw [List.take_add_one, hxd]; rfl
                  refine ⟨l2, _, _, rfl, sb9.trans ((sb_same s10).trans (sb11.trans (sb_same s12))), (md11.same s12).le ?_, ?_⟩
                  · rw [← Nat.add_assoc nd' r 1, Nat.succ_mul]; omega
                  · rw [eT2, prF_snoc]; exact hl12
                · rintro σ H9 ⟨pa, y10, y11, rfl, sb9, md9, hpa9⟩
                  rw [lv] at md9 hpa9
                  rw [List.take_length] at hpa9
                  refine fin2 _ _ ⟨pa, y10, y11, rfl, sb9, md9, ?_⟩
                  rw [hpa9]
                  exact congrArg _ (congrArg _ (nrs_congr fun k _ => askc_law nbd (flt ks) (inn ad) k))
              · rintro σ H9 ⟨pa, y10, y11, rfl, sb9, md9, hpa9⟩
                refine ⟨_, rfl, _, rfl, by omega, by omega, fun dl ndl => ?_⟩
                have hsh9 := md8.lst sb9 hsh8
                have kk : ∀ (n : Nat), sumL (fun x => askc nbd (flt ks) (inn x) n) (flt (ks.take i) ++ (inn kd).take (j + 1)) = sumL (fun x => askc nbd (flt ks) (inn x) n) (flt (ks.take i) ++ (inn kd).take j) + askc nbd (flt ks) (inn ad) n := fun n => by
                  rw [eT, ← List.append_assoc, sumL_app _ [ad]]; rfl
                refine lc_it walk_range (fun n H' => Same H9 H' ∧ H' dl = some (.lst (nrs (fun n => sumL (fun x => askc nbd (flt ks) (inn x) n) (flt (ks.take i) ++ (inn kd).take (j + 1))) n))) ⟨same_new ndl _, upd_same⟩ (fun _ _ _ _ => trivial) ?_ ?_
                · rintro n x H10 H10' hn ⟨s10, hd10⟩ ⟨rfl, rfl⟩
                  have hn' : n < m + 1 := by omega
                  have e0 : (0 : Int) + ((n : Nat) : Int) = ((n : Nat) : Int) := by omega
                  have a1 : atI (nrs (fun n => sumL (fun x => askc nbd (flt ks) (inn x) n) (flt (ks.take i) ++ (inn kd).take j)) (m + 1)) ((0 : Int) + ((n : Nat) : Int)) = some (.int ((sumL (fun x => askc nbd (flt ks) (inn x) n) (flt (ks.take i) ++ (inn kd).take j) : Nat) : Int)) := by rw [e0]; exact atI_nat (nrs_get hn')
                  have a2 : atI (nrs (askc nbd (flt ks) (inn ad)) (m + 1)) ((0 : Int) + ((n : Nat) : Int)) = some (.int ((askc nbd (flt ks) (inn ad) n : Nat) : Int)) := by rw [e0]; exact atI_nat (nrs_get hn')
                  refine ⟨rfl, ?_⟩
                  refine ⟨_, rfl, _, rfl, sh, _, _, _, rfl, rfl, SqL.of (s10 _ _ hsh9), a1, ?_⟩
                  refine ⟨_, rfl, _, rfl, pa, _, _, _, rfl, rfl, SqL.of (s10 _ _ hpa9), a2, ?_⟩
                  refine ⟨_, _, rfl, rfl, _, hd10, ?_, fun z o e => ?_, ?_⟩
                  · rw [nrs_len]
                    exact Nat.lt_of_lt_of_le (show n < 7 by omega) (by decide)
                  · rw [upd_ne (ne_of_none e ndl)]; exact s10 z o e
                  · rw [upd_same, nrs_snoc]
                    refine congrArg _ (congrArg _ ?_)
                    show _ ++ [V.int (((sumL (fun x => askc nbd (flt ks) (inn x) n) (flt (ks.take i) ++ (inn kd).take j) : Nat) : Int) + ((askc nbd (flt ks) (inn ad) n : Nat) : Int))] = _
                    rw [← Int.natCast_add, ← kk n]
                · rintro H10 ⟨s10, hd10⟩
                  refine ⟨dl, _, _, _, _, rfl, sb8.trans (sb9.trans (sb_same s10)), (md9.same s10).le ?_, ?_⟩
                  · rw [eT, ← List.append_assoc, prs_app, hD]; exact Nat.le_refl _
                  · rw [hd10, Int.toNat_natCast]
            · rintro σ H7 ⟨sh, y8, y9, y10, y11, rfl, sb7, md7, hsh7⟩
              have etk : flt (ks.take (i + 1)) = flt (ks.take i) ++ (inn kd).take zs.length := by
                rw [List.take_add_one, hkd, flt_app]
                show flt (ks.take i) ++ flt [kd] = _
                rw [flt_one, show (inn kd).take zs.length = inn kd from List.take_of_length_le (by omega)]
              exact ⟨sh, _, _, _, _, _, rfl, sb7, by rw [etk]; exact md7, by rw [etk]; exact hsh7⟩
          · rintro σ H6 ⟨sh, y7, y8, y9, y10, y11, rfl, sb6, md6, hsh6⟩
            rw [List.take_of_length_le (by omega)] at md6 hsh6
            have pl : prs (flt ks) * T ≤ 4 * T := Nat.mul_le_mul_right _ ok.p
            refine ⟨_, rfl, _, rfl, p1, sh, _, _, rfl, rfl, md5.lst sb6 hp15, hsh6, ?_, fun cc ncc => ?_⟩
            · rw [nrs_len]
              exact Nat.le_trans (m := 8) (by show 1 + (m + 1) ≤ 8; omega) (by decide)
            refine fin _ _ ⟨cc, _, _, _, _, _, _, _, rfl, sb35.trans (sb6.trans (sb_same (same_new ncc _))), (md6.same (same_new ncc _)).le (by rw [et]; omega), ?_⟩
            rw [upd_same]
            refine congrArg _ (congrArg _ ?_)
            rw [nrs_cons (nbd (flt ks)) (m + 1)]
            exact congrArg (V.int 3 :: ·) (nrs_congr fun k _ => (nbd_succ (flt ks) k).symm)
      · have z3 : ¬ ((0 : Int)) < ((m : Nat) : Int) := fun x => z2 (decide_eq_true x)
        have m0 : m = 0 := by omega
        subst m0
        exact fin _ _ ⟨p1, none, none, none, none, none, none, none, rfl, SB.refl _ _, hd3.le (by show t ≤ t + 1 - 1; omega), hp1⟩
    · rintro σ H' ⟨cc, y5, y6, y7, y8, y9, y10, y11, rfl, sb, ⟨xe, re, he, pe, le⟩, hcc⟩
      have k3 : Kx H2 H' := (kx_same s3).trans (hd3.kx sb)
      have tp : 0 < tcN m := by cases m <;> simp only [tcN] <;> omega
      refine ⟨_, rfl, _, rfl, _, rfl, d, p, xe, _, rfl, rfl, he, entC_key pe, ka _ k3, by omega, _, rfl, ?_⟩
      have mm := MemC.put he pe (Nat.le_refl _) ok.k (ka _ k3) hcc
      refine q cc _ (fun z o nz ez => ?_) (mm.le (by omega)) ?_
      · rw [upd_ne nz]
        exact sb z o nz (s3 _ _ (s2 _ _ ez))
      · rw [upd_ne (ne_of hcc he (by intro z; cases z))]
        exact hcc
end
end Pk

set_option maxRecDepth 100000
set_option maxHeartbeats 4000000
set_option pp.maxSteps 600
namespace Pk
open PySem PySem.Spec PyProof.Rows L2
/-! ### _times -/
section
variable {P : Program} {w : World} {K : PySem.W.Frag} {mg : Str → Option Value} {base : Heap}
def spTi : Sp := fun vs H Q _ => ∃ (a b : Addr) (f g : Nat → Nat) (p : Nat), vs = [.ref a, .ref b] ∧ H a = some (.lst (nrs f p)) ∧ H b = some (.lst (nrs g p)) ∧ p ≤ 6 ∧ (∀ i j, i + j < p → CMul (f i) (g j)) ∧
  ∀ (l : Addr) (H' : Hp), H l = none → Same H H' → H' l = some (.lst (nrs (cv f g) p)) → Q (.ref l) H'
theorem sum_nrs (f : Nat → Nat) : ∀ n, ((List.range n).map fun i => ((f i : Nat) : Int)).sum = ((sm f n : Nat) : Int)
  | 0 => rfl
  | n + 1 => by
    rw [List.range_succ, List.map_append, List.sum_append, sum_nrs f n]
    show ((sm f n : Nat) : Int) + (((f n : Nat) : Int) + 0) = ((sm f n + f n : Nat) : Int)
    omega
theorem ok_tms {f : Addr} {fd : FuncData} (D__times : Df K mg "_times" s__times ["left", "right"] f fd) (B : Bt mg) : FnOk P w K mg base CX0 1 f fd ["left", "right"] spTi := by
  refine D__times.ok c__times (fun vs H Q E h => ?_) (fun cdv A outer s H vs Q E hr h => ?_)
  · obtain ⟨a, b, f1, g1, p, rfl, _⟩ := h
    rfl
  obtain ⟨a, b, f1, g1, pp, rfl, ha, hb, h6, hm, k⟩ := h
  have nd := c__times.nd
  refine ⟨_, (pss_one (ps_ret (pe_lc (own := [("n", 2)]) (g := (gName 2)) (tt := tYes) rfl nd (pi_range1 (by rfl) B.b_range (pa_cons (pe_callB call_len_seq (by rfl) B.b_len PySem.boot_len (pa_cons (pv 0) pa_nil)) pa_nil)) (blkOk_by (own := [("n", 2)]) (N := ["left", "right", "n", "few"]) (sc := defScope s__times) (by decide +kernel)) (fun _ _ _ _ _ => (pg_name (i := 2) nd rfl (Or.inr rfl))) (fun _ _ _ _ _ => pts_nil) (fun _ _ _ _ _ => (pe_callB (show CallR _ (.builtin "sum") (rSum K) from cr_sum rfl) (by rfl) B.b_sum (by decide +kernel) (pa_cons (pe_lc (own := [("few", 3)]) (g := (gName 3)) (tt := tYes) rfl nd (pi_range1 (by rfl) B.b_range (pa_cons (pe_op op_add (pv 2) pe_int) pa_nil)) (blkOk_by (own := [("few", 3)]) (N := ["left", "right", "n", "few"]) (sc := _) (by kernel_rfl)) (fun _ _ _ _ _ => (pg_name (i := 3) nd rfl (Or.inl rfl))) (fun _ _ _ _ _ => pts_nil) (fun _ _ _ _ _ => (pe_op op_mul (pe_ix (show IxR _ (rIxL K) from ix_list) (pv 0) (pv 3) (fun _ _ => rfl)) (pe_ix (show IxR _ (rIxL K) from ix_list) (pv 1) (pe_op op_sub (pv 2) (pv 3)) (fun _ _ => rfl))))) pa_nil)))))), ?_⟩
  refine ⟨_, rfl, a, _, rfl, .inl (SqL.of ha), _, rfl, by rw [nrs_len]; omega, by rw [nrs_len]; omega, fun dl ndl => ?_⟩
  rw [nrs_len]
  refine lc_it walk_range (fun n H' => Same H H' ∧ H' dl = some (.lst (nrs (cv f1 g1) n))) ⟨same_new ndl _, upd_same⟩ (fun _ _ _ _ => trivial) ?_ ?_
  · rintro n x H1 H1' hn ⟨s1, hd1⟩ ⟨rfl, rfl⟩
    have hn' : n < pp := by omega
    refine ⟨rfl, ?_⟩
    refine ⟨_, rfl, _, _, rfl, rfl, _, rfl, by omega, by omega, fun e1 ne1 => ?_⟩
    refine lc_it walk_range (fun r H' => Same H1' H' ∧ H' e1 = some (.lst (nrs (fun i => f1 i * g1 (n - i)) r))) ⟨same_new ne1 _, upd_same⟩ (fun _ _ _ _ => trivial) ?_ ?_
    · rintro r x H2 H2' hr2 ⟨s2, hd2⟩ ⟨rfl, rfl⟩
      have hr' : r ≤ n := by omega
      have a1 : atI (nrs f1 pp) ((0 : Int) + ((r : Nat) : Int)) = some (.int ((f1 r : Nat) : Int)) := by rw [show (0 : Int) + ((r : Nat) : Int) = ((r : Nat) : Int) by omega]; exact atI_nat (nrs_get (by omega))
      have a2 : atI (nrs g1 pp) ((0 : Int) + ((n : Nat) : Int) - (0 + ((r : Nat) : Int))) = some (.int ((g1 (n - r) : Nat) : Int)) := by rw [show (0 : Int) + ((n : Nat) : Int) - (0 + ((r : Nat) : Int)) = ((n - r : Nat) : Int) by omega]; exact atI_nat (nrs_get (by omega))
      refine ⟨rfl, ?_⟩
      refine ⟨_, rfl, _, rfl, a, _, _, _, rfl, rfl, SqL.of (s2 _ _ (s1 _ _ ha)), a1, ?_⟩
      refine ⟨_, rfl, _, rfl, _, rfl, _, _, rfl, rfl, b, _, _, _, rfl, rfl, SqL.of (s2 _ _ (s1 _ _ hb)), a2, ?_⟩
      refine ⟨_, _, rfl, rfl, hm r (n - r) (by omega), _, hd2, ?_, fun z o e => ?_, ?_⟩
      · rw [nrs_len]
        exact Nat.lt_of_lt_of_le (show r < 7 by omega) (by decide)
      · rw [upd_ne (ne_of_none e ne1)]; exact s2 z o e
      · rw [upd_same, nrs_snoc]
        rfl
    · rintro H2 ⟨s2, hd2⟩
      have en : ((0 : Int) + ((n : Nat) : Int) + 1).toNat = n + 1 := by omega
      rw [en] at hd2
      refine ⟨e1, (List.range (n + 1)).map fun i => ((f1 i * g1 (n - i) : Nat) : Int), rfl, SqL.of ?_, _, s2 _ _ hd1, ?_, fun z o e => ?_, ?_⟩
      · rw [hd2, List.map_map]; rfl
      · rw [nrs_len]
        exact Nat.lt_of_lt_of_le (show n < 7 by omega) (by decide)
      · rw [upd_ne (ne_of_none e ndl)]; exact s2 _ _ (s1 z o e)
      · rw [upd_same, nrs_snoc, sum_nrs (fun i => f1 i * g1 (n - i)) (n + 1), ← cv_sm]
  · rintro H1 ⟨s1, hd1⟩
    rw [Int.toNat_natCast] at hd1
    exact k dl H1 ndl s1 hd1
end
end Pk

set_option maxRecDepth 100000
set_option maxHeartbeats 4000000
set_option pp.maxSteps 600
namespace Pk
open PySem PySem.Spec PyProof.Rows L2
section
variable {X : Cx}
def rEqNilT (K : PySem.W.Frag) : R2 := fun x y H Q => ∃ a b xs, x = .ref a ∧ y = .ref b ∧ SqT K H a xs ∧ SqT K H b [] ∧ Q (.bl xs.isEmpty) H
theorem tup_isTuple {h : Heap} {a : Addr} {items : Array Value} (x : IsTup h a items) : h.IsTuple a items := x
theorem op_eqNilT (hu : X.A.units + 64 < cLine) : OpR X (compareOp .Eq) (rEqNilT X.K) := by
  intro pins s σ H x y v u Q I rx ry h
  obtain ⟨a, b, xs, rfl, rfl, ha, hb, q⟩ := h
  cases rx
  cases ry
  obtain ⟨its, r1, p1, _⟩ := I.tuple ha
  obtain ⟨its2, r2, p2, _⟩ := I.tuple hb
  cases r2
  have hu' : X.A.units < cLine := by omega
  refine SeqAt.eq_tupleAt (e := fun _ => true) p1 p2 hu' (fun j h1 h2 => by simp at h2) ⟨.bl xs.isEmpty, H, I, ?_, q⟩
  cases r1 <;> rfl
def rNeNilT (K : PySem.W.Frag) : R2 := fun x y H Q => ∃ a b xs, x = .ref a ∧ y = .ref b ∧ SqT K H a xs ∧ SqT K H b [] ∧ Q (.bl (!xs.isEmpty)) H
theorem op_neNilT (hu : X.A.units + 64 < cLine) : OpR X (compareOp .NotEq) (rNeNilT X.K) := by
  intro pins s σ H x y v u Q I rx ry h
  obtain ⟨a, b, xs, rfl, rfl, ha, hb, q⟩ := h
  cases rx
  cases ry
  obtain ⟨its, r1, p1, _⟩ := I.tuple ha
  obtain ⟨its2, r2, p2, _⟩ := I.tuple hb
  cases r2
  have hu' : X.A.units < cLine := by omega
  refine SeqAt.RcNeAt.tuples (e := fun _ => true) p1 p2 hu' (fun j h1 h2 => by simp at h2) _ _ _ _ ⟨.bl (!xs.isEmpty), H, I, ?_, q⟩
  cases r1 <;> rfl
end
/-! ### _kind_pieces -/
def strD (s : Str) : D := .at (.str s)
theorem rep_str {K : PySem.W.Frag} {H : Hp} (s : Str) : Rep K H (.str s) (strD s) := .at rfl
/-- the pieces of one argument's text -/
def pcs1 (a : D) : List D := if (inn a).isEmpty = true then [strD "o", strD " -> "] else [strD "(", a, strD ")", strD " -> "]
def pcs : List D → List D
  | [] => []
  | a :: l => pcs1 a ++ pcs l
theorem pcs_snoc : ∀ (l : List D) (a : D), pcs (l ++ [a]) = pcs l ++ pcs1 a
  | [], a => List.append_nil _
  | b :: l, a => by
    show pcs1 b ++ pcs (l ++ [a]) = pcs1 b ++ pcs l ++ pcs1 a
    rw [pcs_snoc l a, List.append_assoc]
theorem pcs_len : ∀ l : List D, (pcs l).length ≤ 4 * l.length
  | [] => Nat.zero_le _
  | a :: l => by
    show (pcs1 a ++ pcs l).length ≤ 4 * (l.length + 1)
    have := pcs_len l
    rw [List.length_append]
    unfold pcs1
    split <;> (simp only [List.length_cons, List.length_nil]; omega)
section
variable {P : Program} {w : World} {K : PySem.W.Frag} {mg : Str → Option Value} {base : Heap}
def spPc (K : PySem.W.Frag) : Sp := fun vs H Q _ => ∃ (v : V) (ts : List D), vs = [v] ∧ Rep K H v (.tup ts) ∧ isKs ts = true ∧ ts.length ≤ 100000 ∧ ∀ (l : Addr) (H' : Hp) (xs : List V), H l = none → Same H H' → H' l = some (.lst xs) → Reps K H' xs (pcs ts ++ [strD "o"]) → Q (.ref l) H'
theorem ok_pcs {f : Addr} {fd : FuncData} (D__kind_pieces : Df K mg "_kind_pieces" s__kind_pieces ["kind"] f fd) (B : Bt mg) : FnOk P w K mg base CX0 1 f fd ["kind"] (spPc K) := by
  refine D__kind_pieces.ok c__kind_pieces (fun vs H Q E h => ?_) (fun cdv A outer s H vs Q E hr h => ?_)
  · obtain ⟨v, ts, rfl, _⟩ := h
    rfl
  obtain ⟨v, ts, rfl, rv, kts, hlen, k⟩ := h
  have nd := c__kind_pieces.nd
  refine ⟨_, (pss_cons (ps_set (i := 1) nd rfl (Or.inl rfl) (pe_lst pa_nil))
  (pss_cons (ps_for PassesOwn.never rfl (pi_tup (pv 0)) (pg_name (i := 2) nd rfl (Or.inl rfl)) (pss_cons (ps_if (pt_cmpR (op_eqNilT hr.units) (pv 2) (pe_tup pa_nil) (nomark _)) (pss_one (ps_expr (pe_bm PySem.F.plainAttrs_list PySem.F.slot_list_append PySem.F.type_list_append mt_append (pv 1) (pa_cons pe_str pa_nil)))) (pss_one (ps_expr (pe_bm PySem.F.plainAttrs_list PySem.F.slot_list_extend PySem.F.type_list_extend mt_extend (pv 1) (pa_cons (pe_lst (pa_cons pe_str (pa_cons (pv 2) (pa_cons pe_str pa_nil)))) pa_nil)))))
  (pss_one (ps_expr (pe_bm PySem.F.plainAttrs_list PySem.F.slot_list_append PySem.F.type_list_append mt_append (pv 1) (pa_cons pe_str pa_nil))))))
  (pss_cons (ps_expr (pe_bm PySem.F.plainAttrs_list PySem.F.slot_list_append PySem.F.type_list_append mt_append (pv 1) (pa_cons pe_str pa_nil)))
  (pss_one (ps_ret (pv 1)))))), ?_⟩
  obtain ⟨a, zs, rfl, ha, rzs⟩ := rv.inv
  have lz := rzs.length
  refine ⟨Nat.zero_le _, fun p np => ?_⟩
  have s0 : Same H (upd H p (.lst [])) := same_new np _
  refine ⟨_, rfl, a, rfl, ⟨_, (ha.same s0).sq⟩, for_tup (K := K) (a := a) (xs := zs) (fun i σ H' => ∃ (xs : List V) (y2 : Option V), σ = [some (.ref a), some (.ref p), y2] ∧ Same H H' ∧ H' p = some (.lst xs) ∧ Reps K H' xs (pcs (ts.take i)))
    ⟨[], none, rfl, s0, upd_same, .nil⟩ (fun i σ H' hi ⟨xs, y2, _, s1, _⟩ => (ha.same s1).sq) ?_ ?_⟩
  · rintro i x σ H1 hx ⟨xs, y2, rfl, s1, hp1, rx1⟩
    obtain ⟨ad, had, rx⟩ := (rzs.mono (kx_same s1)).get hx
    have ham : ad ∈ ts := List.mem_of_getElem? had
    obtain ⟨ead, kus⟩ := inn_k (isK_mem kts ham)
    have rx' := rx
    rw [ead] at rx'
    obtain ⟨b, us, rfl, hb, rus⟩ := rx'.inv
    have lx := rx1.length
    have lp := pcs_len (ts.take i)
    have lt : (ts.take i).length ≤ ts.length := by rw [List.length_take]; omega
    have eT : ts.take (i + 1) = ts.take i ++ [ad] := by rw [List.take_add_one, had]; rfl
    have lus := rus.length
    refine ⟨_, rfl, Nat.zero_le _, fun q nq => ⟨b, q, us, rfl, rfl, (hb.same (same_new nq _)).sq, SqT.of upd_same, _, rfl, ite2 (fun z => ?_) (fun z => ?_)⟩⟩
    all_goals
      have s2 : Same H (upd H1 q (.tup [])) := s1.trans (same_new nq _)
      have hp2 : (upd H1 q (.tup [])) p = some (.lst xs) := same_new nq _ _ _ hp1
      have rx2 := rx1.mono (kx_same (same_new nq (.tup [])))
      have rv2 := rx.mono (kx_same (same_new nq (.tup [])))
      generalize (upd H1 q (.tup [])) = H2 at s2 hp2 rx2 rv2 ⊢
    · have e1 : pcs1 ad = [strD "o", strD " -> "] := by
        unfold pcs1
        rw [if_pos (by cases us with | nil => (cases q2 : inn ad with | nil => rfl | cons c d => (rw [q2] at lus; cases lus)) | cons c d => cases z)]
      refine ⟨_, rfl, .inl ⟨rfl, _, SqL.of hp2⟩, p, xs, .str "o", rfl, rfl, hp2, Nat.lt_of_lt_of_le (show xs.length < 500000 by omega) (by decide), ?_⟩
      refine ⟨_, rfl, .inl ⟨rfl, _, SqL.of upd_same⟩, p, xs ++ [.str "o"], .str " -> ", rfl, rfl, upd_same, Nat.lt_of_lt_of_le (show (xs ++ [V.str "o"]).length < 500000 by rw [List.length_append]; show xs.length + 1 < 500000; omega) (by decide), ?_⟩
      have k2 := (kx_list hp2 (xs ++ [.str "o"])).trans (kx_list (upd_same) ((xs ++ [.str "o"]) ++ [.str " -> "]))
      refine ⟨_, _, rfl, fun t o e => ?_, upd_same, ?_⟩
      · rw [upd_ne (ne_of_none e np), upd_ne (ne_of_none e np)]; exact s2 t o e
      · rw [eT, pcs_snoc, e1, show ∀ l : List D, l ++ [strD "o", strD " -> "] = (l ++ [strD "o"]) ++ [strD " -> "] from fun l => by rw [List.append_assoc]; rfl]
        exact ((rx2.mono k2).append (.one (rep_str _))).append (.one (rep_str _))
    · have e1 : pcs1 ad = [strD "(", ad, strD ")", strD " -> "] := by
        unfold pcs1
        rw [if_neg (by cases us with | nil => exact absurd rfl z | cons c d => (cases q2 : inn ad with | nil => (rw [q2] at lus; cases lus) | cons c d => (intro w; cases w)))]
      refine ⟨_, rfl, .inl ⟨rfl, _, SqL.of hp2⟩, _, rfl, (by decide : 3 ≤ sizeLine), fun e2 ne2 => ⟨p, e2, xs, _, rfl, rfl, same_new ne2 _ _ _ hp2, upd_same, ?_, ?_⟩⟩
      · exact Nat.le_trans (show xs.length + 3 ≤ 500000 by omega) (by decide)
      have s3 := s2.trans (same_new ne2 (.lst [.str "(", .ref b, .str ")"]))
      have hp3 := same_new ne2 (.lst [.str "(", .ref b, .str ")"]) _ _ hp2
      have k3 := kx_same (same_new ne2 (.lst [.str "(", .ref b, .str ")"]))
      refine ⟨_, rfl, .inl ⟨rfl, _, SqL.of upd_same⟩, p, xs ++ [.str "(", .ref b, .str ")"], .str " -> ", rfl, rfl, upd_same, Nat.lt_of_lt_of_le (show (xs ++ [V.str "(", .ref b, .str ")"]).length < 500000 by rw [List.length_append]; show xs.length + 3 < 500000; omega) (by decide), ?_⟩
      have k4 := (k3.trans (kx_list hp3 (xs ++ [.str "(", .ref b, .str ")"]))).trans (kx_list (upd_same) ((xs ++ [.str "(", .ref b, .str ")"]) ++ [.str " -> "]))
      refine ⟨_, _, rfl, fun t o e => ?_, upd_same, ?_⟩
      · rw [upd_ne (ne_of_none e np), upd_ne (ne_of_none e np)]; exact s3 t o e
      · rw [eT, pcs_snoc, e1, show ∀ l : List D, l ++ [strD "(", ad, strD ")", strD " -> "] = (l ++ [strD "(", ad, strD ")"]) ++ [strD " -> "] from fun l => by rw [List.append_assoc]; rfl]
        exact ((rx2.mono k4).append (.cons (rep_str _) (.cons (rv2.mono k4) (.one (rep_str _))))).append (.one (rep_str _))
  · rintro σ H1 ⟨xs, y2, rfl, s1, hp1, rx1⟩
    have lx := rx1.length
    have lp := pcs_len ts
    rw [List.take_of_length_le (by omega)] at rx1 lx
    refine ⟨_, rfl, .inl ⟨rfl, _, SqL.of hp1⟩, p, xs, .str "o", rfl, rfl, hp1, Nat.lt_of_lt_of_le (show xs.length < 500000 by omega) (by decide), ?_⟩
    refine ⟨_, rfl, k p _ _ np (fun t o e => ?_) upd_same ((rx1.mono (kx_list hp1 _)).append (.cons (rep_str _) .nil))⟩
    rw [upd_ne (ne_of_none e np)]; exact s1 t o e
end
end Pk

set_option maxRecDepth 100000
set_option maxHeartbeats 4000000
set_option pp.maxSteps 600
namespace Pk
open PySem PySem.Spec PyProof.Rows L2
/-! ### the text of a kind tells the kind -/
def brk : Bool → List Nat → List Nat
  | true, _ => [111]
  | false, x => 40 :: (x ++ [111, 41])
mutual
def wkA : D → List Nat
  | .tup ts => brk ts.isEmpty (wkLs ts)
  | .at _ => []
  | .lst => []
def wkLs : List D → List Nat
  | [] => []
  | a :: l => wkA a ++ (32 :: 45 :: 62 :: 32 :: wkLs l)
end
theorem wk_inj : ∀ (n : Nat) {as bs : List D}, szs as ≤ n → isKs as = true → isKs bs = true → ∀ {r r' : List Nat}, (∀ x, r ≠ 32 :: x) → (∀ x, r' ≠ 32 :: x) → wkLs as ++ 111 :: r = wkLs bs ++ 111 :: r' → as = bs ∧ r = r'
  | n, [], [], _, _, _, r, r', _, _, e => ⟨rfl, (List.cons.inj e).2⟩
  | n, [], b :: bs, _, _, kb, r, r', h, h', e => by
    have kb' := Bool.and_eq_true_iff.mp (show (isK b && isKs bs) = true from kb)
    obtain ⟨eb, _⟩ := inn_k kb'.1
    rw [eb] at e
    cases q : inn b with
    | nil =>
      rw [q] at e
      have e' : 111 :: r = 111 :: 32 :: (45 :: 62 :: 32 :: wkLs bs ++ 111 :: r') := e
      exact absurd (List.cons.inj e').2 (h _)
    | cons c cs =>
      rw [q] at e
      have e' : 111 :: r = 40 :: _ := e
      injection e' with e1
      cases e1
  | n, a :: as, [], _, ka, _, r, r', h, h', e => by
    have ka' := Bool.and_eq_true_iff.mp (show (isK a && isKs as) = true from ka)
    obtain ⟨ea, _⟩ := inn_k ka'.1
    rw [ea] at e
    cases q : inn a with
    | nil =>
      rw [q] at e
      have e' : 111 :: 32 :: (45 :: 62 :: 32 :: wkLs as ++ 111 :: r) = 111 :: r' := e
      exact absurd (List.cons.inj e').2.symm (h' _)
    | cons c cs =>
      rw [q] at e
      have e' : 40 :: _ = 111 :: r' := e
      injection e' with e1
      cases e1
  | 0, a :: as, b :: bs, hn, _, _, r, r', _, _, _ => by
    have : sz a + szs as ≤ 0 := hn
    have := sz_pos a
    omega
  | n + 1, a :: as, b :: bs, hn, ka, kb, r, r', h, h', e => by
    have ka' := Bool.and_eq_true_iff.mp (show (isK a && isKs as) = true from ka)
    have kb' := Bool.and_eq_true_iff.mp (show (isK b && isKs bs) = true from kb)
    obtain ⟨ea, ia⟩ := inn_k ka'.1
    obtain ⟨eb, ib⟩ := inn_k kb'.1
    have hn' : sz a + szs as ≤ n + 1 := hn
    have pa := sz_pos a
    rw [ea, eb] at e
    have sa : szs (inn a) + 1 = sz a := by
      have : sz (.tup (inn a)) = sz a := by rw [← ea]
      exact this
    cases q : inn a with
    | nil =>
      cases q2 : inn b with
      | nil =>
        rw [q, q2] at e
        have e' : 111 :: 32 :: 45 :: 62 :: 32 :: (wkLs as ++ 111 :: r) = 111 :: 32 :: 45 :: 62 :: 32 :: (wkLs bs ++ 111 :: r') := e
        injection e' with _ e1; injection e1 with _ e1; injection e1 with _ e1; injection e1 with _ e1; injection e1 with _ e1
        obtain ⟨x, y⟩ := wk_inj n (show szs as ≤ n by omega) ka'.2 kb'.2 h h' e1
        exact ⟨by rw [ea, eb, q, q2, x], y⟩
      | cons c cs =>
        rw [q, q2] at e
        have e' : 111 :: _ = 40 :: _ := e
        injection e' with e1
        cases e1
    | cons c cs =>
      cases q2 : inn b with
      | nil =>
        rw [q, q2] at e
        have e' : 40 :: _ = 111 :: _ := e
        injection e' with e1
        cases e1
      | cons c2 cs2 =>
        have wa : wkLs (.tup (inn a) :: as) ++ 111 :: r = 40 :: (wkLs (inn a) ++ 111 :: (41 :: 32 :: 45 :: 62 :: 32 :: (wkLs as ++ 111 :: r))) := by
          rw [q]
          show (40 :: (wkLs (c :: cs) ++ [111, 41]) ++ (32 :: 45 :: 62 :: 32 :: wkLs as)) ++ 111 :: r = _
          simp
        have wb : wkLs (.tup (inn b) :: bs) ++ 111 :: r' = 40 :: (wkLs (inn b) ++ 111 :: (41 :: 32 :: 45 :: 62 :: 32 :: (wkLs bs ++ 111 :: r'))) := by
          rw [q2]
          show (40 :: (wkLs (c2 :: cs2) ++ [111, 41]) ++ (32 :: 45 :: 62 :: 32 :: wkLs bs)) ++ 111 :: r' = _
          simp
        rw [wa, wb] at e
        injection e with _ e1
        obtain ⟨x, y⟩ := wk_inj n (show szs (inn a) ≤ n by omega) ia ib (fun _ z => by cases z) (fun _ z => by cases z) e1
        injection y with _ y1; injection y1 with _ y1; injection y1 with _ y1; injection y1 with _ y1; injection y1 with _ y1
        obtain ⟨x2, y2⟩ := wk_inj n (show szs as ≤ n by omega) ka'.2 kb'.2 h h' y1
        exact ⟨by rw [ea, eb, x, x2], y2⟩
/-- the text of a piece -/
def itT : D → List Nat
  | .at (.str s) => TL.tl s
  | .tup ts => wkLs ts ++ [111]
  | _ => []
def itTs : List D → List Nat
  | [] => []
  | a :: l => itT a ++ itTs l
theorem itTs_app : ∀ (a b : List D), itTs (a ++ b) = itTs a ++ itTs b
  | [], b => rfl
  | x :: a, b => by
    show itT x ++ itTs (a ++ b) = itT x ++ itTs a ++ itTs b
    rw [itTs_app a b, List.append_assoc]
theorem itT_str (s : Str) : itT (strD s) = TL.tl s := rfl
theorem tl_o : TL.tl "o" = [111] := by decide +kernel
theorem tl_ar : TL.tl " -> " = [32, 45, 62, 32] := by decide +kernel
theorem tl_b1 : TL.tl "(" = [40] := by decide +kernel
theorem tl_b2 : TL.tl ")" = [41] := by decide +kernel
theorem itTs_pcs1 {a : D} (h : isK a = true) : itTs (pcs1 a) = wkA a ++ [32, 45, 62, 32] := by
  obtain ⟨e, _⟩ := inn_k h
  unfold pcs1
  cases q : inn a with
  | nil =>
    rw [if_pos (show ([] : List D).isEmpty = true from rfl), e, q]
    show TL.tl "o" ++ (TL.tl " -> " ++ []) = [111] ++ [32, 45, 62, 32]
    rw [tl_o, tl_ar]; rfl
  | cons c cs =>
    rw [if_neg (show ¬ (c :: cs).isEmpty = true by intro z; cases z)]
    show TL.tl "(" ++ (itT a ++ (TL.tl ")" ++ (TL.tl " -> " ++ []))) = _
    rw [tl_b1, tl_b2, tl_ar, e, q]
    show [40] ++ ((wkLs (c :: cs) ++ [111]) ++ ([41] ++ ([32, 45, 62, 32] ++ []))) = 40 :: (wkLs (c :: cs) ++ [111, 41]) ++ [32, 45, 62, 32]
    simp
theorem itTs_pcs : ∀ {ts : List D}, isKs ts = true → itTs (pcs ts) = wkLs ts
  | [], _ => rfl
  | a :: l, h => by
    have h' := Bool.and_eq_true_iff.mp (show (isK a && isKs l) = true from h)
    show itTs (pcs1 a ++ pcs l) = wkA a ++ (32 :: 45 :: 62 :: 32 :: wkLs l)
    rw [itTs_app, itTs_pcs1 h'.1, itTs_pcs h'.2, List.append_assoc]; rfl
/-- the text of a kind -/
def wkT (d : D) : List Nat := wkLs (inn d) ++ [111]
theorem itTs_kind {ts : List D} (h : isKs ts = true) : itTs (pcs ts ++ [strD "o"]) = wkLs ts ++ [111] := by
  rw [itTs_app, itTs_pcs h]
  show _ ++ (TL.tl "o" ++ []) = _
  rw [tl_o]; rfl
theorem wkT_inj {a b : D} (ka : isK a = true) (kb : isK b = true) (e : wkT a = wkT b) : a = b := by
  obtain ⟨ea, ia⟩ := inn_k ka
  obtain ⟨eb, ib⟩ := inn_k kb
  have := (wk_inj (szs (inn a)) (Nat.le_refl _) ia ib (r := []) (r' := []) (fun _ z => by cases z) (fun _ z => by cases z) e).1
  rw [ea, eb, this]
mutual
def wt : D → Nat
  | .tup ts => 2 + wts ts
  | .at _ => 1
  | .lst => 1
def wts : List D → Nat
  | [] => 0
  | a :: l => 4 + wt a + wts l
end
def wtl : List D → Nat
  | [] => 0
  | a :: l => wt a + wtl l
theorem wtl_app : ∀ (a b : List D), wtl (a ++ b) = wtl a + wtl b
  | [], b => (Nat.zero_add _).symm
  | x :: a, b => by
    show wt x + wtl (a ++ b) = wt x + wtl a + wtl b
    rw [wtl_app a b]; omega
theorem wtl_rev : ∀ l : List D, wtl l.reverse = wtl l
  | [] => rfl
  | a :: l => by
    rw [List.reverse_cons, wtl_app, wtl_rev l]
    show wtl l + (wt a + 0) = wt a + wtl l
    omega
theorem wtl_pcs1 (a : D) : wtl (pcs1 a) ≤ 4 + wt a := by
  unfold pcs1
  split
  · show 1 + (1 + 0) ≤ _; omega
  · show 1 + (wt a + (1 + (1 + 0))) ≤ _; omega
theorem wtl_pcs : ∀ l : List D, wtl (pcs l) ≤ wts l
  | [] => Nat.zero_le _
  | a :: l => by
    show wtl (pcs1 a ++ pcs l) ≤ 4 + wt a + wts l
    rw [wtl_app]
    have := wtl_pcs1 a
    have := wtl_pcs l
    omega
theorem wt_pos : ∀ d : D, 0 < wt d
  | .tup ts => by show 0 < 2 + wts ts; omega
  | .at _ => Nat.one_pos
  | .lst => Nat.one_pos
theorem len_wtl : ∀ l : List D, l.length ≤ wtl l
  | [] => Nat.zero_le _
  | a :: l => by
    show l.length + 1 ≤ wt a + wtl l
    have := wt_pos a
    have := len_wtl l
    omega
mutual
theorem wt_sz : ∀ d : D, wt d + 4 ≤ 6 * sz d
  | .tup ts => by
    show 2 + wts ts + 4 ≤ 6 * (szs ts + 1)
    have := wts_sz ts
    omega
  | .at _ => by show 1 + 4 ≤ 6 * 1; omega
  | .lst => by show 1 + 4 ≤ 6 * 1; omega
theorem wts_sz : ∀ l : List D, wts l ≤ 6 * szs l
  | [] => Nat.zero_le _
  | a :: l => by
    show 4 + wt a + wts l ≤ 6 * (sz a + szs l)
    have := wt_sz a
    have := wts_sz l
    omega
end
end Pk

set_option maxRecDepth 100000
set_option maxHeartbeats 4000000
set_option pp.maxSteps 600
namespace Pk
open PySem PySem.Spec PyProof.Rows L2
/-! ### write_kind -/
section
variable {P : Program} {w : World} {K : PySem.W.Frag} {mg : Str → Option Value} {base : Heap}
def PcOk (x : D) : Prop := isK x = true ∨ ∃ s, x = strD s ∧ s.length ≤ 4
theorem pcs_ok : ∀ {ts : List D}, isKs ts = true → ∀ x, x ∈ pcs ts → PcOk x
  | [], _, x, h => by cases h
  | a :: l, k, x, h => by
    have k' := Bool.and_eq_true_iff.mp (show (isK a && isKs l) = true from k)
    rcases List.mem_append.mp h with q | q
    · unfold pcs1 at q
      split at q
      · rcases List.mem_cons.mp q with rfl | q
        · exact .inr ⟨_, rfl, by decide +kernel⟩
        · rw [List.mem_singleton.mp q]; exact .inr ⟨_, rfl, by decide +kernel⟩
      · rcases List.mem_cons.mp q with rfl | q
        · exact .inr ⟨_, rfl, by decide +kernel⟩
        rcases List.mem_cons.mp q with rfl | q
        · exact .inl k'.1
        rcases List.mem_cons.mp q with rfl | q
        · exact .inr ⟨_, rfl, by decide +kernel⟩
        · rw [List.mem_singleton.mp q]; exact .inr ⟨_, rfl, by decide +kernel⟩
    · exact pcs_ok k'.2 x q
theorem pcs_sz {n : Nat} : ∀ {ts : List D}, szs ts + 1 ≤ n → ∀ x, x ∈ pcs ts → sz x ≤ n
  | [], _, x, h => by cases h
  | a :: l, k, x, h => by
    have k' : sz a + szs l + 1 ≤ n := k
    have one : ∀ s : Str, sz (strD s) ≤ n := fun s => by show 1 ≤ n; omega
    rcases List.mem_append.mp h with q | q
    · unfold pcs1 at q
      split at q
      · rcases List.mem_cons.mp q with rfl | q
        · exact one _
        · rw [List.mem_singleton.mp q]; exact one _
      · rcases List.mem_cons.mp q with rfl | q
        · exact one _
        rcases List.mem_cons.mp q with rfl | q
        · omega
        rcases List.mem_cons.mp q with rfl | q
        · exact one _
        · rw [List.mem_singleton.mp q]; exact one _
    · exact pcs_sz (show szs l + 1 ≤ n by omega) x q
theorem sum_le4 : ∀ {ws : List Str}, (∀ s, s ∈ ws → s.length ≤ 4) → (ws.map (·.length)).sum ≤ 4 * ws.length
  | [], _ => Nat.zero_le _
  | a :: l, h => by
    show a.length + (l.map (·.length)).sum ≤ 4 * (l.length + 1)
    have := h a (List.mem_cons_self ..)
    have := sum_le4 (ws := l) fun s hs => h s (List.mem_cons_of_mem _ hs)
    omega
theorem joinL_nil : ∀ l : List (List Nat), TL.joinL [] l = l.flatten
  | [] => rfl
  | [p] => by show p = p ++ []; rw [List.append_nil]
  | p :: q :: r => by
    show p ++ ([] ++ TL.joinL [] (q :: r)) = p ++ (q :: r).flatten
    rw [joinL_nil (q :: r)]; rfl
theorem tl_joined (ws : List Str) : TL.tl (Txt.join "" ws) = (ws.map TL.tl).flatten := by
  rw [TL.join_eq, TL.tl_join, show TL.tl "" = [] from by decide +kernel, joinL_nil]
def spWk (K : PySem.W.Frag) : Sp := fun vs H Q _ => ∃ (v : V) (d : D), vs = [v] ∧ Rep K H v d ∧ isK d = true ∧ sz d ≤ 100000 ∧ ∀ (H' : Hp) (s : Str), Same H H' → TL.tl s = wkT d → Q (.str s) H'
theorem ok_wk {f e : Addr} {fd ed : FuncData} (D_write_kind : Df K mg "write_kind" s_write_kind ["kind"] f fd) (D__kind_pieces : Df K mg "_kind_pieces" s__kind_pieces ["kind"] e ed) (B : Bt mg) : FnOk P w K mg base CX0 2 f fd ["kind"] (spWk K) := by
  have G__kind_pieces : FnOk P w K mg base CX0 1 e ed ["kind"] (spPc K) := ok_pcs D__kind_pieces B
  refine D_write_kind.ok c_write_kind (fun vs H Q E h => ?_) (fun cdv A outer s H vs Q E hr h => ?_)
  · obtain ⟨v, d, rfl, _⟩ := h
    rfl
  obtain ⟨v, d, rfl, rv, kd, hsz, k⟩ := h
  have nd := c_write_kind.nd
  refine ⟨_, (pss_cons (ps_set (i := 1) nd rfl (Or.inl rfl) (pe_lst pa_nil))
  (pss_cons (ps_set (i := 2) nd rfl (Or.inl rfl) (pe_lst (pa_cons (pv 0) pa_nil)))
  (pss_cons (ps_while PassesOwn.never (pt_truth (pv 2) (by intro _; rfl)) (pss_cons (ps_set (i := 3) nd rfl (Or.inl rfl) (pe_bm0 PySem.F.plainAttrs_list PySem.F.slot_list_pop PySem.F.type_list_pop mt_pop (pv 2)))
  (pss_one (ps_if (pt_val (pe_callB call_isi (by rfl) B.b_isinstance (by decide +kernel) (pa_cons (pv 3) (pa_cons (pe_bltn (v := .ty "str") (by rfl) B.b_str (by decide +kernel) rfl) pa_nil)))) (pss_one (ps_expr (pe_bm PySem.F.plainAttrs_list PySem.F.slot_list_append PySem.F.type_list_append mt_append (pv 1) (pa_cons (pv 3) pa_nil)))) (pss_one (ps_expr (pe_bm PySem.F.plainAttrs_list PySem.F.slot_list_extend PySem.F.type_list_extend mt_extend (pv 2) (pa_cons (pe_revL (pe_call G__kind_pieces (hr.mono (by first | decide | omega)) (by rfl) D__kind_pieces.m D__kind_pieces.kp D__kind_pieces.b .nil pass0 (pa_cons (pv 3) pa_nil))) pa_nil))))))))
  (pss_one (ps_ret (pe_join pe_str (pv 1))))))), ?_⟩
  refine ⟨Nat.zero_le _, fun t nt => ⟨_, rfl, (by decide : 1 ≤ sizeLine), fun p np => ?_⟩⟩
  have np' : H p = none := (same_new nt (.lst [])).free np
  have ntp : t ≠ p := ne_of_none upd_same np
  have s0 : Same H (upd (upd H t (.lst [])) p (.lst [v])) := (same_new nt _).trans (same_new np _)
  have ht0 : (upd (upd H t (.lst [])) p (.lst [v])) t = some (.lst []) := by rw [upd_ne ntp]; exact upd_same
  have hp0 : (upd (upd H t (.lst [])) p (.lst [v])) p = some (.lst [v]) := upd_same
  generalize (upd (upd H t (.lst [])) p (.lst [v])) = H0 at s0 ht0 hp0 ⊢
  obtain ⟨ed, kts⟩ := inn_k kd
  obtain ⟨W, hW⟩ : ∃ W : Nat → L2.St → Hp → Prop, ∀ m σ H', W m σ H' ↔ (∃ (ws : List Str) (xs : List V) (ds : List D) (y3 : Option V), σ = [some v, some (.ref t), some (.ref p), y3] ∧ Same H H' ∧ H' t = some (.lst (ws.map V.str)) ∧ H' p = some (.lst xs) ∧ Reps K H' xs ds ∧ (∀ x, x ∈ ds → PcOk x) ∧ (∀ x, x ∈ ds → sz x ≤ 100000) ∧ (∀ s, s ∈ ws → s.length ≤ 4) ∧ ws.length + wtl ds ≤ 700000 ∧ (ws.map TL.tl).flatten ++ itTs ds.reverse = wkT d ∧ m = wtl ds) :=
    ⟨fun m σ H' => _, fun m σ H' => Iff.rfl⟩
  refine ⟨W, ⟨wtl [d], (hW _ _ _).mpr ⟨[], [v], [d], none, rfl, s0, ht0, hp0, .one (rv.mono (kx_same s0)), fun x hx => by rw [List.mem_singleton.mp hx]; exact .inl kd, fun x hx => by rw [List.mem_singleton.mp hx]; exact hsz, fun s h => (by cases h), ?_, ?_, rfl⟩⟩, ?_⟩
  · show 0 + (wt d + 0) ≤ 700000
    have := wt_sz d
    omega
  · show itT d ++ [] = wkT d
    rw [List.append_nil]
    conv => lhs; rw [ed]
    rfl
  intro m σ H1 hw
  obtain ⟨ws, xs, ds, y3, rfl, s1, ht1, hp1, rx, hok, hsd, hws, hwt, htx, rfl⟩ := (hW _ _ _).mp hw
  refine ⟨_, rfl, _, .inl ⟨xs, SqL.of hp1, rfl⟩, ?_⟩
  cases xs with
  | nil =>
    have e0 : ds = [] := List.eq_nil_of_length_eq_zero rx.length.symm
    subst e0
    refine iteF ?_
    refine ⟨⟨_, rfl⟩, _, rfl, _, t, ws, rfl, rfl, .inl (SqL.of ht1), ?_, k H1 _ s1 ?_⟩
    · have a := sum_le4 hws
      have b : ws.length ≤ 700000 := by omega
      rw [show ("" : Str).length = 0 from by decide +kernel]
      omega
    · rw [tl_joined]
      have h2 : (ws.map TL.tl).flatten ++ [] = wkT d := htx
      rw [List.append_nil] at h2
      exact h2
  | cons x0 r0 =>
    refine iteT ⟨fun σ' H' => ∃ m', m' < wtl ds ∧ W m' σ' H', fun _ _ h => h, ?_⟩
    obtain ⟨y, x, es, hlast, rfl, re, res⟩ := rx.last (fun z => by cases z)
    refine ⟨_, rfl, .inl ⟨rfl, _, SqL.of hp1⟩, p, _, y, rfl, rfl, hp1, hlast, ?_⟩
    have k2 : Kx H1 (upd H1 p (.lst (x0 :: r0).dropLast)) := kx_list hp1 _
    have s2 : Same H (upd H1 p (.lst (x0 :: r0).dropLast)) := fun z o e => by rw [upd_ne (ne_of_none e np')]; exact s1 z o e
    have ntp1 : t ≠ p := ntp
    have ht2 : (upd H1 p (.lst (x0 :: r0).dropLast)) t = some (.lst (ws.map V.str)) := by rw [upd_ne ntp1]; exact ht1
    have hp2 : (upd H1 p (.lst (x0 :: r0).dropLast)) p = some (.lst (x0 :: r0).dropLast) := upd_same
    have re2 := re.mono k2
    have res2 := res.mono k2
    have nt' : H t = none := nt
    generalize (x0 :: r0).dropLast = xr at *
    generalize (upd H1 p (.lst xr)) = H2 at s2 ht2 hp2 re2 res2 ⊢
    rw [wtl_app] at hwt
    have hwx : wtl [x] = wt x := Nat.add_zero _
    rw [hwx] at hwt
    have px := wt_pos x
    rw [List.reverse_append] at htx
    have htx' : (ws.map TL.tl).flatten ++ (itT x ++ itTs es.reverse) = wkT d := htx
    have lt : wtl es < wtl (es ++ [x]) := by rw [wtl_app, hwx]; omega
    have les := len_wtl es
    have lrx := res2.length
    rcases hok x (List.mem_append_right _ (List.mem_singleton.mpr rfl)) with kx | ⟨s, rfl, ls⟩
    · obtain ⟨ex, kus⟩ := inn_k kx
      have hszx := hsd x (List.mem_append_right _ (List.mem_singleton.mpr rfl))
      have re3 := re2
      rw [ex] at re3
      have hsx : szs (inn x) + 1 ≤ 100000 := by
        have : sz (.tup (inn x)) ≤ 100000 := by rw [← ex]; exact hszx
        exact this
      have hwx2 : wt x = 2 + wts (inn x) := by
        conv => lhs; rw [ex]
        rfl
      have hlx := len_szs (inn x)
      refine ⟨_, rfl, _, _, _, _, _, rfl, .ty _, rep_ty re3, kit_ty (show kitB "tuple" "str" = some false by decide +kernel), ⟨_, rfl, iteF ?_⟩⟩
      refine ⟨_, rfl, .inl ⟨rfl, _, SqL.of hp2⟩, _, rfl, y, inn x, rfl, re3, kus, by omega, fun l H3 zs nl s3 hl3 rz => ?_⟩
      refine ⟨l, zs, rfl, SqL.of hl3, fun l2 nl2 => ⟨p, l2, xr, zs.reverse, rfl, rfl, ?_, upd_same, ?_, ?_⟩⟩
      · rw [upd_ne (ne_of_none (s3 _ _ hp2) nl2)]; exact s3 _ _ hp2
      · have a := rz.length
        have b := pcs_len (inn x)
        rw [List.length_append] at a
        have c : zs.length ≤ 500000 := by
          show zs.length ≤ 500000
          have : [strD "o"].length = 1 := rfl
          omega
        rw [List.length_reverse]
        exact Nat.le_trans (show xr.length + zs.length ≤ 2000000 by omega) (by decide)
      · have k5 : Kx H2 (upd (upd H3 l2 (.lst zs.reverse)) p (.lst (xr ++ zs.reverse))) := ((kx_same s3).trans (kx_same (same_new nl2 _))).trans (kx_list (same_new nl2 _ _ _ (s3 _ _ hp2)) _)
        have k6 : Kx H3 (upd (upd H3 l2 (.lst zs.reverse)) p (.lst (xr ++ zs.reverse))) := (kx_same (same_new nl2 _)).trans (kx_list (same_new nl2 _ _ _ (s3 _ _ hp2)) _)
        have wp := wtl_pcs (inn x)
        have ew : wtl (es ++ (pcs (inn x) ++ [strD "o"]).reverse) = wtl es + (wtl (pcs (inn x)) + 1) := by
          rw [wtl_app, wtl_rev, wtl_app]; rfl
        refine ⟨_, (show wtl (es ++ (pcs (inn x) ++ [strD "o"]).reverse) < wtl (es ++ [x]) by rw [ew, wtl_app, hwx, hwx2]; omega), (hW _ _ _).mpr ⟨ws, _, es ++ (pcs (inn x) ++ [strD "o"]).reverse, _, rfl, fun z o e => ?_, ?_, upd_same, (res2.mono k5).append (rz.reverse.mono k6), fun u hu => ?_, fun u hu => ?_, hws, by rw [ew]; omega, ?_, rfl⟩⟩
        · rw [upd_ne (ne_of_none e np')]
          exact same_new nl2 _ _ _ (s3 _ _ (s2 _ _ e))
        · rw [upd_ne ntp1]
          exact same_new nl2 _ _ _ (s3 _ _ ht2)
        · rcases List.mem_append.mp hu with q | q
          · exact hok u (List.mem_append_left _ q)
          · rcases List.mem_append.mp (List.mem_reverse.mp q) with q | q
            · exact pcs_ok kus u q
            · rw [List.mem_singleton.mp q]; exact .inr ⟨_, rfl, by decide +kernel⟩
        · rcases List.mem_append.mp hu with q | q
          · exact hsd u (List.mem_append_left _ q)
          · rcases List.mem_append.mp (List.mem_reverse.mp q) with q | q
            · exact pcs_sz hsx u q
            · rw [List.mem_singleton.mp q]; show 1 ≤ 100000; omega
        · rw [List.reverse_append, List.reverse_reverse, itTs_app, itTs_kind kus]
          have : itT x = wkLs (inn x) ++ [111] := by
            conv => lhs; rw [ex]
            rfl
          rw [← this]; exact htx'
    · obtain ⟨rfl, _⟩ := re2.inva
      refine ⟨_, rfl, _, _, _, _, _, rfl, .ty _, rep_ty re2, kit_ty (show kitB "str" "str" = some true by decide +kernel), ⟨_, rfl, iteT ?_⟩⟩
      have e1 : (ws ++ [s]).map V.str = ws.map V.str ++ [V.str s] := by rw [List.map_append]; rfl
      refine ⟨_, rfl, .inl ⟨rfl, _, SqL.of ht2⟩, _, rfl, t, ws.map V.str, .str s, rfl, rfl, ht2, ?_, ?_⟩
      · rw [List.length_map]
        exact Nat.lt_of_lt_of_le (show ws.length < 800000 by omega) (by decide)
      · have k5 : Kx H2 (upd H2 t (.lst (ws.map V.str ++ [V.str s]))) := kx_list ht2 _
        have w1 : wt (strD s) = 1 := rfl
        refine ⟨_, lt, (hW _ _ _).mpr ⟨ws ++ [s], xr, es, _, rfl, fun z o e => ?_, by rw [e1]; exact upd_same, by rw [upd_ne (Ne.symm ntp1)]; exact hp2, res2.mono k5, fun u hu => hok u (List.mem_append_left _ hu), fun u hu => hsd u (List.mem_append_left _ hu), fun u hu => ?_, ?_, ?_, rfl⟩⟩
        · rw [upd_ne (ne_of_none e nt')]; exact s2 z o e
        · rcases List.mem_append.mp hu with q | q
          · exact hws u q
          · rw [List.mem_singleton.mp q]; exact ls
        · rw [List.length_append]
          show ws.length + 1 + wtl es ≤ 700000
          omega
        · rw [List.map_append, List.flatten_append, List.append_assoc]
          show (ws.map TL.tl).flatten ++ ((TL.tl s ++ []) ++ itTs es.reverse) = wkT d
          rw [List.append_nil]
          exact htx'
end
end Pk

set_option maxRecDepth 100000
set_option maxHeartbeats 4000000
set_option pp.maxSteps 600
namespace Pk
open PySem PySem.Spec PyProof.Rows L2
/-! ### what the program counted already -/
def keyB (s : Str) (m : Nat) : D := .tup [.at (.str s), .at (.int ((m : Nat) : Int))]
theorem keyB_inj {s s' : Str} {m m' : Nat} (e : kyD (keyB s m) = kyD (keyB s' m')) : s = s' ∧ m = m' := by
  have e' : NestedKey.tup [NestedKey.text s, .num ((m : Nat) : Int)] = NestedKey.tup [NestedKey.text s', .num ((m' : Nat) : Int)] := e
  injection e' with e1
  injection e1 with e2 e3
  injection e2 with e4
  injection e3 with e5
  injection e5 with e6
  exact ⟨e4, by omega⟩
/-- a kind, as the tuple of what is around, and so many asks -/
abbrev BRow := D × Nat
def EntB (K : PySem.W.Frag) (H : Hp) (e : Ent) (r : BRow) : Prop := ∃ s : Str, TL.tl s = wkT r.1 ∧ isK r.1 = true ∧ e.1 = kyD (keyB s r.2) ∧ KeyAt K H e.1 e.2.1 ∧ e.2.2 = .int ((nbd (inn r.1) r.2 : Nat) : Int)
theorem entB_mono {K : PySem.W.Frag} {H H' : Hp} (k : Kx H H') : ∀ {xs : List Ent} {rows : List BRow}, Paired (EntB K H) xs rows → Paired (EntB K H') xs rows
  | _, _, .nil => .nil
  | _, _, .cons ⟨s, h1, h2, h3, h4, h5⟩ t => .cons ⟨s, h1, h2, h3, h4.mono k, h5⟩ (entB_mono k t)
theorem entB_app {K : PySem.W.Frag} {H : Hp} : ∀ {xs ys : List Ent} {rows rs : List BRow}, Paired (EntB K H) xs rows → Paired (EntB K H) ys rs → Paired (EntB K H) (xs ++ ys) (rows ++ rs)
  | _, _, _, _, .nil, q => q
  | _, _, _, _, .cons h t, q => .cons h (entB_app t q)
theorem entB_key {K : PySem.W.Frag} {H : Hp} : ∀ {xs : List Ent} {rows : List BRow}, Paired (EntB K H) xs rows → ∀ e, e ∈ xs → KeyAt K H e.1 e.2.1
  | _, _, .nil, e, h => by cases h
  | x :: xs, r :: rows, .cons ⟨s, h1, h2, h3, h4, h5⟩ t, e, h => by
    rcases List.mem_cons.mp h with rfl | h
    · exact h4
    · exact entB_key t e h
theorem entB_hit {K : PySem.W.Frag} {H : Hp} {d : D} {m : Nat} {s : Str} (hk : isK d = true) (hs : TL.tl s = wkT d) : ∀ {xs : List Ent} {rows : List BRow}, Paired (EntB K H) xs rows → (d, m) ∈ rows → atV xs (kyD (keyB s m)) = some (.int ((nbd (inn d) m : Nat) : Int))
  | _, _, .nil, h => by cases h
  | x :: xs, r :: rows, .cons ⟨s', h1, h2, h3, h4, h5⟩ t, h => by
    rw [atVC_cons]
    by_cases e : x.1 = kyD (keyB s m)
    · rw [if_pos e, h5]
      obtain ⟨e1, e2⟩ := keyB_inj (h3.symm.trans e)
      subst e1
      have e3 : r.1 = d := wkT_inj h2 hk (h1.symm.trans hs)
      rw [e3, e2]
    · rw [if_neg e]
      refine entB_hit hk hs t ?_
      rcases List.mem_cons.mp h with q | q
      · refine absurd ?_ e
        rw [h3, ← q]
        have : s' = s := TL.ext_tl (by rw [h1, hs, ← q])
        rw [this]
      · exact q
theorem entB_miss {K : PySem.W.Frag} {H : Hp} {d : D} {m : Nat} {s : Str} (hk : isK d = true) (hs : TL.tl s = wkT d) : ∀ {xs : List Ent} {rows : List BRow}, Paired (EntB K H) xs rows → (d, m) ∉ rows → atV xs (kyD (keyB s m)) = none
  | _, _, .nil, h => rfl
  | x :: xs, r :: rows, .cons ⟨s', h1, h2, h3, h4, h5⟩ t, h => by
    rw [atVC_cons]
    by_cases e : x.1 = kyD (keyB s m)
    · obtain ⟨e1, e2⟩ := keyB_inj (h3.symm.trans e)
      subst e1
      have e3 : r.1 = d := wkT_inj h2 hk (h1.symm.trans hs)
      refine absurd ?_ h
      obtain ⟨a, b⟩ := r
      cases e3
      cases e2
      exact List.mem_cons_self ..
    · rw [if_neg e]
      exact entB_miss hk hs t fun q => h (List.mem_cons_of_mem _ q)
section
variable {P : Program} {w : World} {K : PySem.W.Frag}
/-- a dict of numbers counted, one for each of some rows -/
def MemB (P : Program) (w : World) (K : PySem.W.Frag) (H : Hp) (d : Addr) (rows : List BRow) : Prop := ∃ xs, H d = some (DkO P w d xs) ∧ Paired (EntB K H) xs rows
theorem MemB.same {H H' : Hp} {d : Addr} {rows : List BRow} (x : MemB P w K H d rows) (s : Same H H') : MemB P w K H' d rows :=
  let ⟨xs, h, p⟩ := x; ⟨xs, s _ _ h, entB_mono (kx_same s) p⟩
theorem MemB.kx {H H' : Hp} {d : Addr} {rows : List BRow} (x : MemB P w K H d rows) (s : SB d H H') : Kx H H' :=
  let ⟨_, h, _⟩ := x
  ⟨fun q zs e => s _ _ (ne_of e h (by intro z; cases z)) e, fun q zs e => ⟨zs, s _ _ (ne_of e h (by intro z; cases z)) e⟩⟩
theorem MemB.lst {H H' : Hp} {d q : Addr} {zs : List V} {rows : List BRow} (x : MemB P w K H d rows) (s : SB d H H') (e : H q = some (.lst zs)) : H' q = some (.lst zs) :=
  let ⟨_, h, _⟩ := x
  s _ _ (ne_of e h (by intro z; cases z)) e
theorem MemB.new {H : Hp} {d : Addr} (h : H d = none) : MemB P w K (upd H d (DkO P w d [])) d [] := ⟨[], upd_same, .nil⟩
theorem MemB.put {H : Hp} {d b : Addr} {m : Nat} {kd : D} {s : Str} {xs : List Ent} {rows : List BRow} (h : H d = some (DkO P w d xs)) (p : Paired (EntB K H) xs rows) (hk : isK kd = true) (hs : TL.tl s = wkT kd) (hn : (kd, m) ∉ rows) (hb : KeyAt K H (kyD (keyB s m)) b) :
    MemB P w K (upd H d (DkO P w d (putV xs (kyD (keyB s m)) b (.int ((nbd (inn kd) m : Nat) : Int))))) d (rows ++ [(kd, m)]) := by
  have k : Kx H (upd H d (DkO P w d (putV xs (kyD (keyB s m)) b (.int ((nbd (inn kd) m : Nat) : Int))))) :=
    ⟨fun q zs e => by rw [upd_ne (ne_of e h (by intro z; cases z))]; exact e, fun q zs e => ⟨zs, by rw [upd_ne (ne_of e h (by intro z; cases z))]; exact e⟩⟩
  have no := entB_miss hk hs p hn
  refine ⟨_, upd_same, entB_mono k ?_⟩
  unfold putV
  rw [no]
  exact entB_app p (.cons ⟨s, hs, hk, rfl, hb, rfl⟩ .nil)
theorem MemB.len {H : Hp} {xs : List Ent} {rows : List BRow} (p : Paired (EntB K H) xs rows) : xs.length = rows.length := Paired.length p
end
theorem keyB_noLd (s : Str) (m : Nat) : noLd (keyB s m) = true := rfl
theorem keyB_dep (s : Str) (m : Nat) : dep (keyB s m) ≤ 7 := by
  show max (0 + 1) (max (0 + 1) 0) ≤ 7
  omega
/-! ### how much the dict may grow -/
/-- by the keys of one kind, up to j asks -/
def sB : Nat → Nat
  | 0 => 0
  | j + 1 => sB j + (1 + 5 * sB j)
theorem sB_mono : ∀ {i j : Nat}, i ≤ j → sB i ≤ sB j
  | i, 0, h => by
    have : i = 0 := by omega
    rw [this]; exact Nat.le_refl _
  | i, j + 1, h => by
    by_cases c : i = j + 1
    · rw [c]; exact Nat.le_refl _
    · have := sB_mono (i := i) (j := j) (by omega)
      show sB i ≤ sB j + (1 + 5 * sB j)
      omega
theorem sB_5 : sB 5 = 1555 := by decide
/-- the kinds within which a body of so many asks may be counted, in any order -/
theorem OkL.perm {m : Nat} {L L' : List D} (p : L.Perm L') (h : OkL m L) : OkL m L' := by
  refine ⟨by rw [← p.length_eq]; exact h.len, ?_, fun a ha => h.s a (p.mem_iff.mpr ha), fun a ha => h.d a (p.mem_iff.mpr ha)⟩
  rw [isKs_all, List.all_eq_true]
  intro a ha
  exact isK_mem h.k (p.mem_iff.mpr ha)
theorem prs_perm {L L' : List D} (p : L.Perm L') : prs L = prs L' := sumL_perm p
end Pk

set_option maxRecDepth 100000
set_option maxHeartbeats 4000000
set_option pp.maxSteps 600
namespace Pk
open PySem PySem.Spec PyProof.Rows L2
open LamX
/-! ### class BodyCounts -/
abbrev s_BodyCounts___init__ : Stmt := inClass (top 13) 0
-- BodyCounts___init__: slots 0 self; cells []
theorem c_BodyCounts___init__ : FnScope ["self"] ["self"] (defScope s_BodyCounts___init__) := ⟨rfl, rfl, rfl, by decide +kernel, rfl, by decide +kernel, by decide +kernel⟩
abbrev s_BodyCounts_of_bodies : Stmt := inClass (top 13) 1
-- BodyCounts_of_bodies: slots 0 self, 1 around, 2 many, 3 key, 4 asked; cells ['self', 'around', 'many']
theorem c_BodyCounts_of_bodies : FnScope ["self", "around", "many", "key", "asked"] ["self", "around", "many"] (defScope s_BodyCounts_of_bodies) := ⟨rfl, rfl, rfl, by decide +kernel, rfl, by decide +kernel, by decide +kernel⟩
abbrev s_BodyCounts_of_asks : Stmt := inClass (top 13) 2
-- BodyCounts_of_asks: slots 0 self, 1 around, 2 asked, 3 many, 4 counts, 5 within, 6 kind, 7 inner, 8 few; cells ['self', 'around', 'kind']
theorem c_BodyCounts_of_asks : FnScope ["self", "around", "asked", "many", "counts", "within", "kind", "inner", "few"] ["self", "around", "asked", "many"] (defScope s_BodyCounts_of_asks) := ⟨rfl, rfl, rfl, by decide +kernel, rfl, by decide +kernel, by decide +kernel⟩
structure Dm (K : PySem.W.Frag) (C : Addr) (x q : Str) (st : Stmt) (ps : List Str) (f : Addr) (fd : FuncData) : Prop where
  F : FunD K x q (defArgs st) (defBody st) (defScope st) [] [] f fd
  b : Binds K fd ps []
theorem Dm.ok {P : Program} {w : World} {K : PySem.W.Frag} {mg : Str → Option Value} {base : Heap} {C : Addr} {x q : Str} {st : Stmt} {ps : List Str} {f : Addr} {fd : FuncData} {N : List Str} {k : Nat} {sp : Sp} (D : Dm K C x q st ps f fd) (S : FnScope N ps (defScope st)) (len : ∀ vs H Q E, sp vs H Q E → vs.length = ps.length)
    (hbody : ∀ (cdv : Value) (A : Around) (outer : List Env) (s : Shared) (H : Hp) (vs : List V) (Q : VK) (E : XK), Room k (A.deeper (envOfC q (defScope st) s.heap.objs.size f cdv)) → sp vs H Q E →
      ∃ t, PSs (cxOf CX0 P w K mg base N q (defScope st) f cdv A outer s H E).nox (defBody st) t ∧ t { nx := fun _ H' => Q .non H', rt := Q } (start N vs) H) : FnOk P w K mg base CX0 (k + 1) f fd ps sp :=
  D.F.ok S len fun cdv A outer s H vs Q E hr hsp => let ⟨t, h, q⟩ := hbody cdv A outer s H vs Q E hr hsp; ⟨t, h.nox, q⟩
/-- what is known of the class: none of its attributes has the field's name -/
structure BcT (K : PySem.W.Frag) (C : Addr) : Prop where
  cl : Cls K C
  nK : NoAttr K C "known"
def bf (l : Addr) : List (Str × V) := [("known", .ref l)]
theorem bf1 (l : V) : putF "known" l ([] : List (Str × V)) = ([("known", l)] : List (Str × V)) := rfl
theorem bf_k {l : Addr} : (bf l).lookup ("known" : Str) = some (.ref l) := by kernel_rfl
theorem bf_b {l : Addr} : (bf l).lookup ("of_bodies" : Str) = none := by kernel_rfl
theorem bf_a {l : Addr} : (bf l).lookup ("of_asks" : Str) = none := by kernel_rfl
section
variable {P : Program} {w : World} {K : PySem.W.Frag} {mg : Str → Option Value} {base : Heap} {C : Addr}
def spMkB (P : Program) (w : World) (C : Addr) : Sp := fun vs H Q _ => ∃ (p dx : Addr), vs = [.ref p] ∧ H p = some (.ins C dx []) ∧
  ∀ (l : Addr) (H' : Hp), (∀ b o, b ≠ p → H b = some o → H' b = some o) → H' p = some (.ins C dx (bf l)) → H l = none → H' l = some (DkO P w l []) → Q .non H'
theorem ok_mkB {f : Addr} {fd : FuncData} (D : Dm K C "__init__" "BodyCounts.__init__" s_BodyCounts___init__ ["self"] f fd) (FT : BcT K C) : FnOk P w K mg base CX0 1 f fd ["self"] (spMkB P w C) := by
  refine D.ok c_BodyCounts___init__ (fun vs H Q E h => ?_) (fun cdv A outer s0 H vs Q E hr h => ?_)
  · obtain ⟨p, dx, rfl, _⟩ := h
    rfl
  obtain ⟨p, dx, rfl, hp, q⟩ := h
  refine ⟨_, (pss_one (ps_fld (pv 0) (show PE _ _ (tDkNew P w) from pe_dkNew) rfl)), ?_⟩
  refine fun l nl => ?_
  have npl : p ≠ l := ne_of_none hp nl
  refine ⟨_, rfl, p, C, dx, _, rfl, by rw [upd_ne npl]; exact hp, FT.cl, FT.nK, (by show 0 < 1000; decide), ?_⟩
  rw [bf1]
  refine q l _ (fun b o hb ho => ?_) upd_same nl ?_
  · rw [upd_ne hb, upd_ne (ne_of_none ho nl)]
    exact ho
  · rw [upd_ne npl.symm, upd_same]
end
end Pk

set_option maxRecDepth 100000
set_option maxHeartbeats 4000000
set_option pp.maxSteps 600
namespace Pk
open PySem PySem.Spec PyProof.Rows L2
/-! ### of_bodies, of_asks -/
/-- a kind within which bodies of so many asks are counted -/
structure OkB (m : Nat) (kd : D) : Prop where
  k : isK kd = true
  o : OkL m (inn kd)
  p : prs (inn kd) ≤ 4
theorem OkB.le {m n : Nat} {kd : D} (h : OkB m kd) (l : n ≤ m) : OkB n kd := ⟨h.k, h.o.le l, h.p⟩
theorem szs_le {n : Nat} : ∀ {l : List D}, (∀ a, a ∈ l → sz a ≤ n) → szs l ≤ l.length * n
  | [], _ => Nat.zero_le _
  | a :: l, h => by
    show sz a + szs l ≤ (l.length + 1) * n
    have x := h a (List.mem_cons_self ..)
    have y := szs_le (l := l) fun b hb => h b (List.mem_cons_of_mem _ hb)
    rw [Nat.succ_mul]; omega
theorem okB_sz {m : Nat} {kd : D} (h : OkB m kd) : sz kd ≤ 100000 := by
  obtain ⟨e, _⟩ := inn_k h.k
  have a := szs_le h.o.s
  have b := h.o.len
  have c : sz (.tup (inn kd)) = szs (inn kd) + 1 := rfl
  rw [← e] at c
  omega
section
variable {P : Program} {w : World} {K : PySem.W.Frag} {mg : Str → Option Value} {base : Heap} {C : Addr}
theorem sum_map_int (f : D → Nat) : ∀ l : List D, (l.map fun a => ((f a : Nat) : Int)).sum = ((sumL f l : Nat) : Int)
  | [] => rfl
  | a :: l => by
    show ((f a : Nat) : Int) + (l.map fun a => ((f a : Nat) : Int)).sum = ((f a + sumL f l : Nat) : Int)
    rw [sum_map_int f l]; omega
open Classical in
noncomputable def grB (rows : List BRow) (kd : D) (m : Nat) : Nat := if (kd, m) ∈ rows then 0 else 1 + 5 * sB (m - 1)
def spOb (P : Program) (w : World) (K : PySem.W.Frag) (C : Addr) (n : Nat) : Sp := fun vs H Q _ => ∃ (p dx l : Addr) (v : V) (kd : D) (m : Nat) (rows : List BRow), vs = [.ref p, v, .int ((m : Nat) : Int)] ∧ m < n ∧ m ≤ 5 ∧ H p = some (.ins C dx (bf l)) ∧ MemB P w K H l rows ∧ Rep K H v kd ∧ OkB m kd ∧ rows.length + 2 * sB m ≤ 100000 ∧
  ∀ (H' : Hp) (rows' : List BRow), SB l H H' → MemB P w K H' l rows' → (∀ r, r ∈ rows → r ∈ rows') → (∀ r, r ∈ rows' → r ∈ rows ∨ r.2 ≤ m) → (0 < m → (kd, m) ∈ rows') → rows'.length ≤ rows.length + (if m = 0 then 0 else grB rows kd m) → Q (.int ((nbd (inn kd) m : Nat) : Int)) H'
open Classical in
/-- what the calls for the kind around add -/
noncomputable def grA (rows : List BRow) (kd : D) (m : Nat) : Nat := if ∀ i, 0 < i → i ≤ m → (kd, i) ∈ rows then 0 else sB m
def spOa (P : Program) (w : World) (K : PySem.W.Frag) (C : Addr) (n : Nat) : Sp := fun vs H Q _ => ∃ (p dx l : Addr) (v v2 : V) (kd ad : D) (m : Nat) (rows : List BRow), vs = [.ref p, v, v2, .int ((m : Nat) : Int)] ∧ m < n ∧ m ≤ 4 ∧ H p = some (.ins C dx (bf l)) ∧ MemB P w K H l rows ∧ Rep K H v kd ∧ Rep K H v2 ad ∧ OkB (m + 1) kd ∧ ad ∈ inn kd ∧ rows.length + 7 * sB m ≤ 100000 ∧
  ∀ (H' : Hp) (rows' : List BRow), SB l H H' → MemB P w K H' l rows' → (∀ r, r ∈ rows → r ∈ rows') → (∀ r, r ∈ rows' → r ∈ rows ∨ r.2 ≤ m) → (∀ i, 0 < i → i ≤ m → (kd, i) ∈ rows') → rows'.length ≤ rows.length + (inn ad).length * sB m + grA rows kd m → Q (.int ((askc nbd (inn kd) (inn ad) m : Nat) : Int)) H'
theorem ok_ob {n j : Nat} {f f2 fw fp : Addr} {fd f2d wd pd : FuncData} (FT : BcT K C) (mOa : Meth K C "of_asks" f2) (M_of_bodies : Dm K C "of_bodies" "BodyCounts.of_bodies" s_BodyCounts_of_bodies ["self", "around", "many"] f fd) (M_of_asks : Dm K C "of_asks" "BodyCounts.of_asks" s_BodyCounts_of_asks ["self", "around", "asked", "many"] f2 f2d)
    (D_write_kind : Df K mg "write_kind" s_write_kind ["kind"] fw wd) (D__kind_pieces : Df K mg "_kind_pieces" s__kind_pieces ["kind"] fp pd) (B : Bt mg) {en : Addr} (hEN : mg "_ENDS" = some (.ref en)) (hE3 : ∃ ys : List V, ys.length = 3 ∧ ∀ H, SqT K H en ys)
    (G_of_asks : FnOk P w K mg base CX0 (j + 2) f2 f2d ["self", "around", "asked", "many"] (spOa P w K C n)) : FnOk P w K mg base CX0 (j + 3) f fd ["self", "around", "many"] (spOb P w K C (n + 1)) := by
  have G_write_kind : FnOk P w K mg base CX0 2 fw wd ["kind"] (spWk K) := ok_wk D_write_kind D__kind_pieces B
  refine M_of_bodies.ok c_BodyCounts_of_bodies (fun vs H Q E h => ?_) (fun cdv A outer s H vs Q E hr h => ?_)
  · obtain ⟨p, dx, l, v, kd, m, rows, rfl, _⟩ := h
    rfl
  obtain ⟨p, dx, l, v, kd, m, rows, rfl, hmn, h5, hp, hM, rv, ok, hl, q⟩ := h
  have nd := c_BodyCounts_of_bodies.nd
  refine ⟨_, (pss_cons (ps_if (pt_cmpR op_eq (pv 2) pe_int (nomark _)) (pss_one (ps_ret (pe_callB call_len_seq (by rfl) B.b_len PySem.boot_len (pa_cons (pe_glob rfl hEN (rel_ref _)) pa_nil)))) pss_nil)
  (pss_cons (ps_set (i := 3) nd rfl (Or.inl rfl) (pe_tup (pa_cons (pe_call G_write_kind (hr.mono (by first | decide | omega)) (by rfl) D_write_kind.m D_write_kind.kp D_write_kind.b .nil pass0 (pa_cons (pv 1) pa_nil)) (pa_cons (pv 2) pa_nil))))
  (pss_cons (ps_if (pt_cmp (show PC _ _ _ _ (tDkIn P w K true _ _) from pc_dkNotIn hr.units (pv 3) (pe_fld (pv 0) rfl))) (pss_one (show PS _ _ (tDkPut P w K _ _ _) from ps_dkPut hr.units (pe_fld (pv 0) rfl) (pv 3) (pe_callB (cr_sum rfl) (by rfl) B.b_sum (by decide +kernel) (pa_cons (pe_lc (own := [("asked", 4)]) (g := (gName 4)) (tt := tYes) rfl nd (pi_tup (pv 1)) (blkOk_by (own := [("asked", 4)]) (N := ["self", "around", "many", "key", "asked"]) (sc := defScope s_BodyCounts_of_bodies) (by decide +kernel)) (fun _ _ _ _ _ => (pg_name (i := 4) nd rfl (Or.inl rfl))) (fun _ _ _ _ _ => pts_nil) (fun _ _ _ _ _ => (pe_meth (pv 0) FT.cl mOa G_of_asks hr M_of_asks.b .nil pass0 (pa_cons (pv 1) (pa_cons (pv 4) (pa_cons (pe_op op_sub (pv 2) pe_int) pa_nil)))))) pa_nil)) rfl)) pss_nil)
  (pss_one (ps_ret (show PE _ _ (tDkGet P w K _ _) from pe_dkGet hr.units (pe_fld (pv 0) rfl) (pv 3) (fun _ _ => rfl))))))), ?_⟩
  refine ⟨_, rfl, rfl, _, rfl, ite2 (fun z => ?_) (fun z => ?_)⟩
  · have m0 : m = 0 := by
      have := of_decide_eq_true z
      injection this with e
      omega
    subst m0
    obtain ⟨ys, ly, hys⟩ := hE3
    refine ⟨en, ys, rfl, .inr (hys H), ?_⟩
    rw [ly]
    exact q H rows (SB.refl _ _) hM (fun _ h => h) (fun _ h => .inl h) (fun h => by omega) (by rw [if_pos rfl]; omega)
  have m0 : 0 < m := by
    rcases Nat.eq_zero_or_pos m with h | h
    · subst h
      exact absurd (decide_eq_true rfl) z
    · exact h
  refine ⟨_, rfl, v, kd, rfl, rv, ok.k, okB_sz ok, fun H1 s s1 hs => ⟨_, rfl, (by decide : 2 ≤ sizeLine), fun b nb => ?_⟩⟩
  have s2 : Same H (upd H1 b (.tup [.str s, .int ((m : Nat) : Int)])) := s1.trans (same_new nb _)
  have rk : Rep K (upd H1 b (.tup [.str s, .int ((m : Nat) : Int)])) (.ref b) (keyB s m) := .tup' upd_same (.cons (.at rfl) (.cons (.at rfl) .nil))
  generalize (upd H1 b (.tup [.str s, .int ((m : Nat) : Int)])) = H2 at s2 rk ⊢
  have ka : ∀ H', Kx H2 H' → KeyAt K H' (kyD (keyB s m)) b := fun H' k => ⟨_, rk.mono k, keyB_noLd _ _, keyB_dep _ _, rfl⟩
  have hM2 := hM.same s2
  obtain ⟨xs, hx, px⟩ := hM2
  have hp2 := s2 _ _ hp
  have npl : p ≠ l := ne_of hp2 hx (by intro z; cases z)
  refine nx_rest (fun σ' H' => ∃ (y4 : Option V) (rows' : List BRow), σ' = [some (.ref p), some v, some (.int ((m : Nat) : Int)), some (.ref b), y4] ∧ SB l H2 H' ∧ MemB P w K H' l rows' ∧ (∀ r, r ∈ rows → r ∈ rows') ∧ (∀ r, r ∈ rows' → r ∈ rows ∨ r.2 ≤ m) ∧ (kd, m) ∈ rows' ∧ rows'.length ≤ rows.length + grB rows kd m) (fun fin => ?_) ?_
  · refine ⟨_, rfl, _, rfl, p, C, dx, _, _, rfl, hp2, FT.cl, FT.nK, bf_k, l, b, xs, _, rfl, rfl, ⟨.inl hx, entB_key px⟩, ka _ (Kx.refl _), _, rfl, ite2 (fun z3 => ?_) (fun z3 => ?_)⟩
    · have hnm : (kd, m) ∉ rows := fun hm => by
        have z4 : (!(atV xs (kyD (keyB s m))).isSome) = true := z3
        rw [entB_hit ok.k hs px hm] at z4
        cases z4
      obtain ⟨ekd, kks⟩ := inn_k ok.k
      have rv2 := rv.mono (kx_same s2)
      have rv3 := rv2
      rw [ekd] at rv3
      obtain ⟨a, zs, rfl, hta, rzs⟩ := rv3.inv
      have lz := rzs.length
      cases m with
      | zero => omega
      | succ m =>
      have em : ((m + 1 : Nat) : Int) - 1 = ((m : Nat) : Int) := by omega
      have hM2 : MemB P w K H2 l rows := ⟨xs, hx, px⟩
      have esB : sB (m + 1) = sB m + (1 + 5 * sB m) := rfl
      have hp4 := ok.p
      refine ⟨_, rfl, a, rfl, ⟨_, hta.sq⟩, fun dl ndl => ?_⟩
      have ndl' : dl ≠ l := fun z => by rw [z, hx] at ndl; cases ndl
      refine lc_it walk_tup (fun i H' => ∃ ri : List BRow, SB l H2 H' ∧ MemB P w K H' l ri ∧ (∀ r, r ∈ rows → r ∈ ri) ∧ (∀ r, r ∈ ri → r ∈ rows ∨ r.2 ≤ m) ∧ H' dl = some (.lst ((((inn kd).take i).map fun a => ((askc nbd (inn kd) (inn a) m : Nat) : Int)).map V.int)) ∧ (0 < i → ∀ e, 0 < e → e ≤ m → (kd, e) ∈ ri) ∧ ri.length ≤ rows.length + prs ((inn kd).take i) * sB m + (if i = 0 then 0 else sB m))
        ⟨rows, sb_same (same_new ndl _), hM2.same (same_new ndl _), fun _ h => h, fun _ h => .inl h, by rw [List.take_zero]; exact upd_same, fun h => by omega, by rw [if_pos rfl]; omega⟩ (fun i H' _ ⟨ri, sb, _⟩ => (hta.kx (hM2.kx sb)).sq) ?_ ?_
      · rintro i x H4 H4' hi ⟨ri, sb4, M4, sub4, up4, hd4, kn4, len4⟩ ⟨rfl, hxi⟩
        obtain ⟨ad, had, rx⟩ := (rzs.mono (hM2.kx sb4)).get hxi
        have ham : ad ∈ inn kd := List.mem_of_getElem? had
        have eT : (inn kd).take (i + 1) = (inn kd).take i ++ [ad] := by rw [List.take_add_one, had]; rfl
        have hpr : prs ((inn kd).take (i + 1)) = prs ((inn kd).take i) + (inn ad).length := by rw [eT, prs_app]; rfl
        have hpl : prs ((inn kd).take (i + 1)) ≤ 4 := by
          have e := congrArg prs (List.take_append_drop (i + 1) (inn kd))
          rw [prs_app] at e
          omega
        have hmul : prs ((inn kd).take (i + 1)) * sB m = prs ((inn kd).take i) * sB m + (inn ad).length * sB m := by rw [hpr, Nat.add_mul]
        have hmul4 : prs ((inn kd).take (i + 1)) * sB m ≤ 4 * sB m := Nat.mul_le_mul_right _ hpl
        have hif : (if i = 0 then 0 else sB m) ≤ sB m := by split <;> omega
        have hlr : ri.length + 7 * sB m ≤ 100000 := by omega
        refine ⟨rfl, ?_⟩
        refine ⟨_, rfl, p, dx, _, rfl, sb4 _ _ npl hp2, bf_a, _, rfl, _, rfl, _, rfl, _, _, rfl, rfl, p, dx, l, .ref a, x, kd, ad, m, ri, by show [V.ref p, V.ref a, x, V.int (((m + 1 : Nat) : Int) - 1)] = _; rw [em], by omega, by omega, sb4 _ _ npl hp2, M4, rv2.mono (hM2.kx sb4), rx, ok, ham, hlr, fun H5 r5 sb5 M5 sub5 up5 kn5 len5 => ?_⟩
        refine ⟨_, M4.lst sb5 hd4, ?_, r5, ?_, ?_, fun r hr => sub5 r (sub4 r hr), fun r hr => (up5 r hr).elim (up4 r) .inr, ?_, fun _ e h1 h2 => kn5 e h1 h2, ?_⟩
        · rw [List.length_map, List.length_map, List.length_take]
          have := ok.o.len
          exact Nat.lt_of_lt_of_le (show min i (inn kd).length < 100 by omega) (by decide)
        · exact fun z o nz ez => by rw [upd_ne (ne_of_none ez ndl)]; exact sb5 z o nz (sb4 z o nz ez)
        · obtain ⟨xs5, h5', p5⟩ := M5
          exact ⟨xs5, by rw [upd_ne (Ne.symm ndl')]; exact h5', entB_mono (kx_list (M4.lst sb5 hd4) _) p5⟩
        · rw [upd_same, eT, List.map_append, List.map_append]; rfl
        · rw [if_neg (by omega)]
          by_cases i0 : i = 0
          · rw [if_pos i0] at len4
            have : grA ri kd m ≤ sB m := by unfold grA; split <;> omega
            omega
          · rw [if_neg i0] at len4
            have : grA ri kd m = 0 := if_pos (kn4 (by omega))
            omega
      · rintro H4 ⟨ri, sb4, M4, sub4, up4, hd4, kn4, len4⟩
        rw [List.take_of_length_le (by omega)] at hd4 len4
        have hnr : (kd, m + 1) ∉ ri := fun hr => by
          rcases up4 _ hr with h | h
          · exact hnm h
          · have : m + 1 ≤ m := h
            omega
        obtain ⟨xs4, h4, p4⟩ := M4
        have k4 := hM2.kx sb4
        have hsum : ((inn kd).map fun a => ((askc nbd (inn kd) (inn a) m : Nat) : Int)).sum = ((nbd (inn kd) (m + 1) : Nat) : Int) := by rw [nbd_succ, sum_map_int]
        have hmul4 : prs (inn kd) * sB m ≤ 4 * sB m := Nat.mul_le_mul_right _ hp4
        have hif : (if zs.length = 0 then 0 else sB m) ≤ sB m := by split <;> omega
        have l4 := MemB.len p4
        refine ⟨dl, _, rfl, SqL.of hd4, _, rfl, p, C, dx, _, _, rfl, sb4 _ _ npl hp2, FT.cl, FT.nK, bf_k, _, rfl, l, b, xs4, _, rfl, rfl, h4, entB_key p4, ka _ k4, by omega, ?_⟩
        rw [hsum]
        refine fin _ _ ⟨_, ri ++ [(kd, m + 1)], rfl, fun z o nz ez => by rw [upd_ne nz]; exact sb4 z o nz ez, MemB.put h4 p4 ok.k hs hnr (ka _ k4), fun r hr => List.mem_append_left _ (sub4 r hr), fun r hr => ?_, List.mem_append_right _ (List.mem_singleton.mpr rfl), ?_⟩
        · rcases List.mem_append.mp hr with h | h
          · exact (up4 r h).elim .inl fun h => .inr (by omega)
          · rw [List.mem_singleton.mp h]; exact .inr (Nat.le_refl _)
        · rw [List.length_append, show grB rows kd (m + 1) = 1 + 5 * sB m from if_neg hnm]
          show ri.length + 1 ≤ _
          omega
    · have hm : (kd, m) ∈ rows := by
        by_cases c : (kd, m) ∈ rows
        · exact c
        · refine absurd ?_ z3
          show (!(atV xs (kyD (keyB s m))).isSome) = true
          rw [entB_miss ok.k hs px c]; rfl
      exact fin _ _ ⟨none, rows, rfl, SB.refl _ _, ⟨xs, hx, px⟩, fun _ h => h, fun _ h => .inl h, hm, by omega⟩
  · rintro σ' H' ⟨y4, rows', rfl, sb, ⟨xs', hx', px'⟩, hsub, hup, hmem, hlen⟩
    have k2 : Kx H2 H' := MemB.kx ⟨xs, hx, px⟩ sb
    refine ⟨_, rfl, p, C, dx, _, _, rfl, sb _ _ npl hp2, FT.cl, FT.nK, bf_k, _, rfl, l, b, xs', _, _, rfl, rfl, ⟨.inl hx', entB_key px'⟩, ka _ k2, entB_hit ok.k hs px' hmem, ?_⟩
    exact q H' rows' (fun z o nz ez => sb z o nz (s2 _ _ ez)) ⟨xs', hx', px'⟩ hsub hup (fun _ => hmem) (by rw [if_neg (by omega)]; exact hlen)
end
end Pk

set_option maxRecDepth 100000
set_option maxHeartbeats 4000000
set_option pp.maxSteps 600
namespace Pk
open PySem PySem.Spec PyProof.Rows L2
def rTupOf (K : PySem.W.Frag) : List V → Hp → VK → Prop := fun xs H Q => ∃ p ys, xs = [.ref p] ∧ ((SqL K H p ys ∧ ∀ l, H l = none → Q (.ref l) (upd H l (.tup ys))) ∨ (SqT K H p ys ∧ Q (.ref p) H))
theorem paired_app {α β : Type} {R : α → β → Prop} : ∀ {xs ys : List α} {as bs : List β}, Paired R xs as → Paired R ys bs → Paired R (xs ++ ys) (as ++ bs)
  | _, _, _, _, .nil, q => q
  | _, _, _, _, .cons h t, q => .cons h (paired_app t q)
def cvl (p : Nat → Nat) : List D → (Nat → Nat)
  | [] => p
  | k :: ks => cvl (cv p (nbd (inn k))) ks
theorem cvl_app : ∀ (a b : List D) (p : Nat → Nat), cvl p (a ++ b) = cvl (cvl p a) b
  | [], b, p => rfl
  | k :: a, b, p => cvl_app a b _
theorem cvl_le {m : Nat} (hm : m ≤ 4) : ∀ (ks : List D) (p : Nat → Nat) (A : Nat), (∀ i, i ≤ m → p i ≤ A * cB ^ i) → (∀ k, k ∈ ks → ∀ i, i ≤ m → nbd (inn k) i ≤ 3 * cB ^ i) → ∀ i, i ≤ m → cvl p ks i ≤ A * 15 ^ ks.length * cB ^ i
  | [], p, A, hp, _, i, hi => by
    show p i ≤ A * 1 * cB ^ i
    rw [Nat.mul_one]; exact hp i hi
  | k :: ks, p, A, hp, h, i, hi => by
    show cvl (cv p (nbd (inn k))) ks i ≤ A * 15 ^ (ks.length + 1) * cB ^ i
    have e : A * 15 ^ (ks.length + 1) = (5 * (A * 3)) * 15 ^ ks.length := by rw [Nat.pow_succ, Nat.mul_comm (15 ^ ks.length), ← Nat.mul_assoc]; congr 1; omega
    rw [e]
    exact cvl_le hm ks _ _ (fun j hj => cv_le (fun t ht => hp t (by omega)) (fun t ht => h k (List.mem_cons_self ..) t (by omega)) (by omega)) (fun y hy => h y (List.mem_cons_of_mem _ hy)) i hi
theorem cvl_prF {L : List D} : ∀ {ks xs : List D}, Paired (fun k x => isK k = true ∧ (inn k).Perm (L ++ inn x)) ks xs → ∀ (p : Nat → Nat), cvl p ks = prF nbd L p xs
  | _, _, .nil, p => rfl
  | k :: ks, x :: xs, .cons ⟨_, h⟩ t, p => by
    show cvl (cv p (nbd (inn k))) ks = prF nbd L (cv p (nbd (L ++ inn x))) xs
    rw [cvl_prF t, show nbd (inn k) = nbd (L ++ inn x) from funext fun i => nbd_perm i i (Nat.le_refl _) h]
theorem okB_app {m : Nat} {kd ad x k : D} (ok : OkB (m + 1) kd) (h4 : m ≤ 4) (ha : ad ∈ inn kd) (hx : x ∈ inn ad) (hk : isK k = true) (hp : (inn k).Perm (inn kd ++ inn x)) : OkB m k := by
  obtain ⟨e, kk⟩ := inn_k ok.k
  have oc : OkC (m + 1) [kd] := by
    refine ⟨?_, by show 1 + (m + 1) ≤ 8; omega, fun b hb => ?_, by rw [flt_one]; exact ok.o, by rw [flt_one]; exact ok.p⟩
    · show (isK kd && true) = true
      rw [ok.k]; rfl
    · rw [List.mem_singleton.mp hb, e]
      exact deps_le ok.o.d
  obtain ⟨_, _, p0⟩ := oc.part (by rw [flt_one]; exact ha) hx
  refine ⟨hk, (ok.o.app ha hx).perm hp.symm, ?_⟩
  rw [prs_perm hp, prs_app, p0]
  exact ok.p
section
variable {P : Program} {w : World} {K : PySem.W.Frag} {mg : Str → Option Value} {base : Heap} {C : Addr}
theorem ok_oa {n j : Nat} {f f2 ft : Addr} {fd f2d td : FuncData} (FT : BcT K C) (mOb : Meth K C "of_bodies" f) (M_of_bodies : Dm K C "of_bodies" "BodyCounts.of_bodies" s_BodyCounts_of_bodies ["self", "around", "many"] f fd) (M_of_asks : Dm K C "of_asks" "BodyCounts.of_asks" s_BodyCounts_of_asks ["self", "around", "asked", "many"] f2 f2d)
    (D__times : Df K mg "_times" s__times ["left", "right"] ft td) (B : Bt mg)
    (G_of_bodies : FnOk P w K mg base CX0 (j + 1) f fd ["self", "around", "many"] (spOb P w K C n)) : FnOk P w K mg base CX0 (j + 2) f2 f2d ["self", "around", "asked", "many"] (spOa P w K C n) := by
  have G__times : FnOk P w K mg base CX0 1 ft td ["left", "right"] spTi := ok_tms D__times B
  refine M_of_asks.ok c_BodyCounts_of_asks (fun vs H Q E h => ?_) (fun cdv A outer s H vs Q E hr h => ?_)
  · obtain ⟨p, dx, l, v, v2, kd, ad, m, rows, rfl, _⟩ := h
    rfl
  obtain ⟨p, dx, l, v, v2, kd, ad, m, rows, rfl, hmn, h4, hp, hM, rv, rv2, ok, ham, hl, q⟩ := h
  have nd := c_BodyCounts_of_asks.nd
  refine ⟨_, (pss_cons (ps_set (i := 4) nd rfl (Or.inl rfl) (pe_op op_cat (pe_lst (pa_cons pe_int pa_nil)) (pe_op op_rep (pe_lst (pa_cons pe_int pa_nil)) (pv 3))))
  (pss_cons (ps_set (i := 5) nd rfl (Or.inl rfl) (pe_op op_cat (pe_lc (own := [("inner", 7)]) (g := (gName 7)) (tt := tYes) rfl nd (pi_tup (pv 2)) (blkOk_by (own := [("inner", 7)]) (N := ["self", "around", "asked", "many", "counts", "within", "kind", "inner", "few"]) (sc := defScope s_BodyCounts_of_asks) (by decide +kernel)) (fun _ _ _ _ _ => (pg_name (i := 7) nd rfl (Or.inl rfl))) (fun _ _ _ _ _ => pts_nil) (fun _ _ _ _ _ => (pe_callTy (show CallR _ (.type "tuple") (rTupOf K) from call_tuple_of) (by rfl) B.b_tuple (by decide +kernel) (pa_cons (pe_callB (show CallR _ (.builtin "sorted") (rSortK K) from cr_sortK hr.units) (by rfl) B.b_sorted (by decide +kernel) (pa_cons (pe_op (show OpR _ (binaryOp .Add) (rCatP K) from op_catP) (pv 1) (pv 7)) pa_nil)) pa_nil)))) (pe_lst (pa_cons (pv 1) (pa_cons (pv 1) pa_nil)))))
  (pss_cons (ps_for PassesOwn.never rfl (pi_list (pv 5)) (pg_name (i := 6) nd rfl (Or.inr rfl)) (pss_one (ps_set (i := 4) nd rfl (Or.inl rfl) (pe_call G__times (hr.mono (by first | decide | omega)) (by rfl) D__times.m D__times.kp D__times.b .nil pass0 (pa_cons (pv 4) (pa_cons (pe_lc (own := [("few", 8)]) (g := (gName 8)) (tt := tYes) rfl nd (pi_range1 (by rfl) B.b_range (pa_cons (pe_op op_add (pv 3) pe_int) pa_nil)) (blkOk_by (own := [("few", 8)]) (N := ["self", "around", "asked", "many", "counts", "within", "kind", "inner", "few"]) (sc := defScope s_BodyCounts_of_asks) (by decide +kernel)) (fun _ _ _ _ _ => (pg_name (i := 8) nd rfl (Or.inl rfl))) (fun _ _ _ _ _ => pts_nil) (fun _ _ _ _ _ => (pe_meth (pv 0) FT.cl mOb G_of_bodies hr M_of_bodies.b .nil pass0 (pa_cons (pv 6) (pa_cons (pv 8) pa_nil))))) pa_nil))))))
  (pss_one (ps_ret (pe_ix ix_list (pv 4) (pv 3) (fun _ _ => rfl))))))), ?_⟩
  refine ⟨by decide, fun p1 n1 => ⟨by decide, fun p2 n2 => ⟨_, rfl, p2, _, _, rfl, rfl, upd_same, by omega, by omega, ?hs, fun p3 n3 => ?_⟩⟩⟩
  case hs =>
    refine Nat.le_trans (m := 5) ?_ (by decide)
    show 1 * ((m : Nat) : Int).toNat ≤ 5
    omega
  refine ⟨p1, p3, _, _, rfl, rfl, same_new n3 _ _ _ (same_new n2 _ _ _ upd_same), upd_same, ?hs2, fun p4 n4 => ?_⟩
  case hs2 =>
    rw [Int.toNat_natCast, nrs_rep, nrs_len]
    exact Nat.le_trans (show 1 + m ≤ 5 by omega) (by decide)
  have s4 : Same H (upd (upd (upd (upd H p1 (.lst [.int 1])) p2 (.lst [.int 0])) p3 (.lst (List.replicate ((m : Nat) : Int).toNat [V.int 0]).flatten)) p4 (.lst ([.int 1] ++ (List.replicate ((m : Nat) : Int).toNat [V.int 0]).flatten))) := ((same_new n1 _).trans (same_new n2 _)).trans ((same_new n3 _).trans (same_new n4 _))
  have hp4 : (upd (upd (upd (upd H p1 (.lst [.int 1])) p2 (.lst [.int 0])) p3 (.lst (List.replicate ((m : Nat) : Int).toNat [V.int 0]).flatten)) p4 (.lst ([.int 1] ++ (List.replicate ((m : Nat) : Int).toNat [V.int 0]).flatten))) p4 = some (.lst (nrs cv1 (m + 1))) := by
    rw [upd_same, Int.toNat_natCast, nrs_rep, nrs_cons]; rfl
  generalize (upd (upd (upd (upd H p1 (.lst [.int 1])) p2 (.lst [.int 0])) p3 (.lst (List.replicate ((m : Nat) : Int).toNat [V.int 0]).flatten)) p4 (.lst ([.int 1] ++ (List.replicate ((m : Nat) : Int).toNat [V.int 0]).flatten))) = H1 at s4 hp4 ⊢
  obtain ⟨ekd, kks⟩ := inn_k ok.k
  have kad := isK_mem kks ham
  obtain ⟨ead, kas⟩ := inn_k kad
  have rv3 := rv
  rw [ekd] at rv3
  obtain ⟨a, zs, rfl, hta, rzs⟩ := rv3.inv
  have rv4 := rv2
  rw [ead] at rv4
  obtain ⟨b, us, rfl, htb, rus⟩ := rv4.inv
  have lz := rzs.length
  have lu := rus.length
  have hlk := ok.o.len
  have hla := ok.o.inn ham
  refine ⟨_, rfl, b, rfl, ⟨_, (htb.same s4).sq⟩, fun dl ndl => ?_⟩
  refine lc_it walk_tup (fun i H' => Same H1 H' ∧ ∃ (ws : List V) (ks : List D), H' dl = some (.lst ws) ∧ Reps K H' ws ks ∧ Paired (fun k x => isK k = true ∧ (inn k).Perm (inn kd ++ inn x)) ks ((inn ad).take i)) ⟨same_new ndl _, [], [], upd_same, .nil, .nil⟩ (fun i H' _ h => ((htb.same s4).same h.1).sq) ?_ ?_
  · rintro i x H4 H4' hi ⟨s5, ws, ks, hd5, rw5, pk5⟩ ⟨rfl, hxi⟩
    obtain ⟨xd, hxd, rx⟩ := (rus.mono (kx_same (s4.trans s5))).get hxi
    have hxm : xd ∈ inn ad := List.mem_of_getElem? hxd
    have oks := ok.o.app ham hxm
    obtain ⟨exd, kxs⟩ := inn_k (isK_mem kas hxm)
    have eT : (inn ad).take (i + 1) = (inn ad).take i ++ [xd] := by rw [List.take_add_one, hxd]; rfl
    have rx2 := rx
    rw [exd] at rx2
    obtain ⟨b2, vs, rfl, htc, rvs⟩ := rx2.inv
    have lv := rvs.length
    have lks := oks.len
    rw [List.length_append] at lks
    have lw := rw5.length
    have lp := pk5.length
    have lt : ((inn ad).take i).length ≤ 3 := by rw [List.length_take]; omega
    refine ⟨rfl, ?_⟩
    refine ⟨_, rfl, _, rfl, a, b2, zs, vs, rfl, rfl, hta.same (s4.trans s5), htc, Nat.le_trans (show zs.length + vs.length ≤ 100 by omega) (by decide), fun c H5 s6 tc => ?_⟩
    have rcat : Reps K H5 (zs ++ vs) (inn kd ++ inn xd) := (rzs.mono (kx_same ((s4.trans s5).trans s6))).append (rvs.mono (kx_same s6))
    refine ⟨c, _, _, rfl, tc.sq, by rw [List.length_append]; omega, rcat, oks.k, fun z hz => by have := oks.d z hz; omega, fun ys es p5 perm rys n5 => ?_⟩
    refine ⟨p5, ys, rfl, .inl ⟨SqL.of upd_same, fun p6 n6 => ?_⟩⟩
    have s7 : Same H5 (upd (upd H5 p5 (.lst ys)) p6 (.tup ys)) := (same_new n5 _).trans (same_new n6 _)
    have hp6 : (upd (upd H5 p5 (.lst ys)) p6 (.tup ys)) p6 = some (.tup ys) := upd_same
    generalize (upd (upd H5 p5 (.lst ys)) p6 (.tup ys)) = H6 at s7 hp6 ⊢
    have s46 := s6.trans s7
    have k7 : Kx H6 (upd H6 dl (.lst (ws ++ [.ref p6]))) := kx_list (s46 _ _ hd5) _
    have kes : isKs es = true := by
      rw [isKs_all, List.all_eq_true]
      intro z hz
      exact isK_mem oks.k (perm.mem_iff.mp hz)
    refine ⟨ws, s46 _ _ hd5, Nat.lt_of_lt_of_le (show ws.length < 100 by omega) (by decide), fun z o e => by rw [upd_ne (ne_of_none e ndl)]; exact s46 _ _ (s5 z o e), ws ++ [.ref p6], ks ++ [.tup es], upd_same, ((rw5.mono (kx_same s46)).append (.one (.tup' hp6 (rys.mono (kx_same s7))))).mono k7, ?_⟩
    rw [eT]
    exact paired_app pk5 (.cons ⟨kes, perm⟩ .nil)
  · rintro H4 ⟨s5, ws, ks, hd5, rw5, pk5⟩
    rw [List.take_of_length_le (by omega)] at pk5
    have lw := rw5.length
    have lp := pk5.length
    refine ⟨_, rfl, _, rfl, (by decide : 2 ≤ sizeLine), fun q1 nq1 => ⟨dl, q1, ws, _, rfl, rfl, same_new nq1 _ _ _ hd5, upd_same, Nat.le_trans (show ws.length + 2 ≤ 100 by omega) (by decide), fun W nW => ?_⟩⟩
    have s54 := (same_new nq1 (.lst [.ref a, .ref a])).trans (same_new nW (.lst (ws ++ [.ref a, .ref a])))
    have hW : (upd (upd H4 q1 (.lst [.ref a, .ref a])) W (.lst (ws ++ [.ref a, .ref a]))) W = some (.lst (ws ++ [.ref a, .ref a])) := upd_same
    generalize (upd (upd H4 q1 (.lst [.ref a, .ref a])) W (.lst (ws ++ [.ref a, .ref a]))) = H5 at s54 hW ⊢
    have s8 : Same H H5 := (s4.trans s5).trans s54
    have rva := rv.mono (kx_same s8)
    have rW : Reps K H5 (ws ++ [.ref a, .ref a]) (ks ++ [kd, kd]) := (rw5.mono (kx_same s54)).append (.cons rva (.one rva))
    have hp5 : H5 p4 = some (.lst (nrs cv1 (m + 1))) := s54 _ _ (s5 _ _ hp4)
    have M5 := hM.same s8
    have hpi := s8 _ _ hp
    have npl : p ≠ l := by
      obtain ⟨xs, hx, _⟩ := M5
      exact ne_of hpi hx (by intro z; cases z)
    have okK : ∀ i k, (ks ++ [kd, kd])[i]? = some k → isK k = true ∧ OkB m k := fun i k hk => by
      rcases List.mem_append.mp (List.mem_of_getElem? hk) with h | h
      · obtain ⟨j, hj⟩ := List.mem_iff_getElem?.mp h
        obtain ⟨x, hx, h1, h2⟩ := paired_get pk5 hj
        exact ⟨h1, okB_app ok h4 ham (List.mem_of_getElem? hx) h1 h2⟩
      · have : k = kd := by
          rcases List.mem_cons.mp h with h | h
          · exact h
          · exact List.mem_singleton.mp h
        rw [this]
        exact ⟨ok.k, ok.le (by omega)⟩
    have hla2 : (inn ad).length * sB m ≤ 3 * sB m := Nat.mul_le_mul_right _ hla
    have hgr : grA rows kd m ≤ sB m := by unfold grA; split <;> omega
    refine ⟨_, rfl, W, rfl, ⟨_, SqL.of hW⟩, for_list (K := K) (a := W) (xs := ws ++ [.ref a, .ref a]) (fun i σ H' => ∃ (cp : Addr) (ri : List BRow) (y6 y7 y8 : Option V), σ = [some (.ref p), some (.ref a), some (.ref b), some (.int ((m : Nat) : Int)), some (.ref cp), some (.ref W), y6, y7, y8] ∧ SB l H5 H' ∧ MemB P w K H' l ri ∧ (∀ r, r ∈ rows → r ∈ ri) ∧ (∀ r, r ∈ ri → r ∈ rows ∨ r.2 ≤ m) ∧ H' cp = some (.lst (nrs (cvl cv1 ((ks ++ [kd, kd]).take i)) (m + 1))) ∧ ri.length ≤ rows.length + (min i ks.length) * sB m + (if i ≤ ks.length then 0 else grA rows kd m) ∧ (ks.length < i → ∀ e, 0 < e → e ≤ m → (kd, e) ∈ ri))
      ⟨p4, rows, none, none, none, rfl, SB.refl _ _, M5, fun _ h => h, fun _ h => .inl h, hp5, by rw [if_pos (Nat.zero_le _)]; omega, fun h => by omega⟩ (fun i σ H' _ ⟨cp, ri, y6, y7, y8, _, sb, _⟩ => SqL.of (M5.lst sb hW)) ?_ ?_⟩
    · rintro i x σ H6 hx ⟨cp, ri, y6, y7, y8, rfl, sb6, M6, sub6, up6, hcp, len6, kn6⟩
      obtain ⟨k, hk, rx⟩ := (rW.mono (M5.kx sb6)).get hx
      obtain ⟨kk, okk⟩ := okK i k hk
      have eT : (ks ++ [kd, kd]).take (i + 1) = (ks ++ [kd, kd]).take i ++ [k] := by rw [List.take_add_one, hk]; rfl
      have hmin : (min i ks.length) * sB m ≤ 3 * sB m := Nat.mul_le_mul_right _ (by omega)
      have hif : (if i ≤ ks.length then 0 else grA rows kd m) ≤ sB m := by split <;> omega
      refine ⟨_, rfl, _, rfl, _, _, rfl, rfl, _, rfl, by omega, by omega, fun el nel => ?_⟩
      have nell : el ≠ l := fun z => by obtain ⟨xs, hx6, _⟩ := M6; rw [z, hx6] at nel; cases nel
      refine lc_it walk_range (fun t H' => ∃ rn : List BRow, SB l H6 H' ∧ MemB P w K H' l rn ∧ (∀ r, r ∈ ri → r ∈ rn) ∧ (∀ r, r ∈ rn → r ∈ ri ∨ r.2 ≤ m) ∧ H' el = some (.lst (nrs (nbd (inn k)) t)) ∧ (∀ e, 0 < e → e < t → (k, e) ∈ rn) ∧ rn.length ≤ ri.length + sB (t - 1) ∧ ((∀ e, 0 < e → e ≤ m → (k, e) ∈ ri) → rn.length ≤ ri.length))
        ⟨ri, sb_same (same_new nel _), M6.same (same_new nel _), fun _ h => h, fun _ h => .inl h, upd_same, fun e h1 h2 => by omega, by omega, fun _ => Nat.le_refl _⟩ (fun _ _ _ _ => trivial) ?_ ?_
      · rintro t x7 H7 H7' ht ⟨rn, sb7, M7, sub7, up7, hel, kn7, len7, same7⟩ ⟨rfl, rfl⟩
        have htm : t ≤ m := by omega
        have e0 : (0 : Int) + ((t : Nat) : Int) = ((t : Nat) : Int) := by omega
        have hs1 : sB (t - 1) ≤ sB m := sB_mono (by omega)
        have hs2 : sB t ≤ sB m := sB_mono htm
        refine ⟨rfl, ?_⟩
        refine ⟨_, rfl, p, dx, _, rfl, sb7 _ _ npl (sb6 _ _ npl hpi), bf_b, _, rfl, _, rfl, p, dx, l, x, k, t, rn, by show [V.ref p, x, V.int ((0 : Int) + ((t : Nat) : Int))] = _; rw [e0], by omega, by omega, sb7 _ _ npl (sb6 _ _ npl hpi), M7, rx.mono (M6.kx sb7), okk.le htm, by omega, fun H8 r8 sb8 M8 sub8 up8 kn8 len8 => ?_⟩
        refine ⟨_, M7.lst sb8 hel, ?_, r8, ?_, ?_, fun r hr => sub8 r (sub7 r hr), fun r hr => (up8 r hr).elim (up7 r) (fun h => .inr (by omega)), ?_, fun e h1 h2 => ?_, ?_, fun hall => ?_⟩
        · rw [nrs_len]
          exact Nat.lt_of_lt_of_le (show t < 7 by omega) (by decide)
        · exact fun z o nz ez => by rw [upd_ne (ne_of_none ez nel)]; exact sb8 z o nz (sb7 z o nz ez)
        · obtain ⟨xs8, h8, p8⟩ := M8
          exact ⟨xs8, by rw [upd_ne (Ne.symm nell)]; exact h8, entB_mono (kx_list (M7.lst sb8 hel) _) p8⟩
        · rw [upd_same, nrs_snoc]
        · by_cases c : e = t
          · rw [c]; exact kn8 (by omega)
          · exact sub8 _ (kn7 e h1 (by omega))
        · cases t with
          | zero => rw [if_pos rfl] at len8; exact Nat.le_trans len8 (by omega)
          | succ t =>
            rw [if_neg (by omega)] at len8
            have g : grB rn k (t + 1) ≤ 1 + 5 * sB t := by unfold grB; split <;> first | omega | exact Nat.le_refl _
            have l7 : rn.length ≤ ri.length + sB t := len7
            show r8.length ≤ ri.length + (sB t + (1 + 5 * sB t))
            omega
        · have l7 := same7 hall
          by_cases c : t = 0
          · rw [if_pos c] at len8; omega
          · rw [if_neg c, show grB rn k t = 0 from if_pos (sub7 _ (hall t (by omega) htm))] at len8
            omega
      · rintro H7 ⟨rn, sb7, M7, sub7, up7, hel, kn7, len7, same7⟩
        have en : (((m : Nat) : Int) + 1).toNat = m + 1 := by omega
        rw [en] at hel kn7 len7
        have len7' : rn.length ≤ ri.length + sB m := len7
        have lKs : ((ks ++ [kd, kd]).take i).length ≤ 5 := by
          rw [List.length_take, List.length_append]
          show min i (ks.length + 2) ≤ 5
          omega
        have sp : Sma m (cvl cv1 ((ks ++ [kd, kd]).take i)) := fun j hj => by
          refine Nat.le_trans (cvl_le h4 _ cv1 1 (fun i _ => by unfold cv1; split <;> rename_i q <;> first | (subst q; decide) | exact Nat.zero_le _) (fun k' hk' e he => ?_) j hj) (Nat.mul_le_mul_right _ ?_)
          · obtain ⟨j', hj'⟩ := List.mem_iff_getElem?.mp (mem_take_of hk')
            exact nbd_le e e (Nat.le_refl _) (by omega) ((okK j' k' hj').2.o.le he)
          · rw [Nat.one_mul]
            exact Nat.le_trans (Nat.pow_le_pow_right (by decide) lKs) (by decide)
        have sx := sma_nbd okk.o (by omega)
        have kkd : ks.length ≤ i → k = kd := fun hle => by
          rw [List.getElem?_append_right hle] at hk
          cases e : i - ks.length with
          | zero => rw [e] at hk; cases hk; rfl
          | succ t =>
            rw [e] at hk
            cases t with
            | zero => cases hk; rfl
            | succ t => cases hk
        refine ⟨cp, el, _, _, m + 1, rfl, M6.lst sb7 hcp, hel, by omega, fun i j hij => sp.mul sx h4 (by omega), fun c2 H8 nc2 s82 hc2 => ?_⟩
        refine ⟨c2, rn, _, y7, y8, rfl, sb6.trans (sb7.trans (sb_same s82)), M7.same s82, fun r hr => sub7 r (sub6 r hr), fun r hr => (up7 r hr).elim (up6 r) .inr, by rw [eT, cvl_app]; exact hc2, ?_, fun hlt e h1 h2 => ?_⟩
        · by_cases c : i < ks.length
          · rw [if_pos (by omega)] at len6
            rw [if_pos (by omega), show min (i + 1) ks.length = i + 1 by omega, Nat.succ_mul]
            rw [show min i ks.length = i by omega] at len6
            omega
          · have ek := kkd (by omega)
            rw [if_neg (by omega), show min (i + 1) ks.length = ks.length by omega]
            rw [show min i ks.length = ks.length by omega] at len6
            by_cases c2 : i = ks.length
            · rw [if_pos (by omega)] at len6
              by_cases hall : ∀ e, 0 < e → e ≤ m → (kd, e) ∈ rows
              · have := same7 (by rw [ek]; exact fun e h1 h2 => sub6 _ (hall e h1 h2))
                omega
              · rw [show grA rows kd m = sB m from if_neg hall]; omega
            · rw [if_neg (by omega)] at len6
              have := same7 (by rw [ek]; exact kn6 (by omega))
              omega
        · rw [← kkd (by omega)]
          exact kn7 e h1 (by omega)
    · rintro σ H6 ⟨cp, ri, y6, y7, y8, rfl, sb6, M6, sub6, up6, hcp, len6, kn6⟩
      have lKs : (ws ++ [V.ref a, .ref a]).length = (ks ++ [kd, kd]).length := rW.length
      have lKs2 : (ks ++ [kd, kd]).length = ks.length + 2 := List.length_append
      rw [lKs, List.take_of_length_le (Nat.le_refl _)] at hcp
      rw [lKs, lKs2] at len6 kn6
      rw [if_neg (by omega), show min (ks.length + 2) ks.length = ks.length by omega, lp] at len6
      have ev : cvl cv1 (ks ++ [kd, kd]) m = askc nbd (inn kd) (inn ad) m := by
        rw [cvl_app, cvl_prF pk5]; rfl
      have at1 : atI (nrs (cvl cv1 (ks ++ [kd, kd])) (m + 1)) ((m : Nat) : Int) = some (.int ((askc nbd (inn kd) (inn ad) m : Nat) : Int)) := by
        rw [← ev]; exact atI_nat (nrs_get (by omega))
      exact ⟨_, rfl, _, rfl, cp, _, _, _, rfl, rfl, SqL.of hcp, at1, q H6 ri (fun z o nz ez => sb6 z o nz (s8 _ _ ez)) M6 sub6 up6 (kn6 (by omega)) len6⟩
end
end Pk

set_option maxRecDepth 100000
set_option maxHeartbeats 4000000
set_option pp.maxSteps 600
namespace Pk
open PySem PySem.Spec PyProof.Rows L2
section
variable {P : Program} {w : World} {K : PySem.W.Frag} {mg : Str → Option Value} {base : Heap} {C : Addr}
theorem ok_asks {f f2 fw fp ft : Addr} {fd f2d wd pd td : FuncData} (FT : BcT K C) (mOb : Meth K C "of_bodies" f) (mOa : Meth K C "of_asks" f2) (M_of_bodies : Dm K C "of_bodies" "BodyCounts.of_bodies" s_BodyCounts_of_bodies ["self", "around", "many"] f fd) (M_of_asks : Dm K C "of_asks" "BodyCounts.of_asks" s_BodyCounts_of_asks ["self", "around", "asked", "many"] f2 f2d)
    (D_write_kind : Df K mg "write_kind" s_write_kind ["kind"] fw wd) (D__kind_pieces : Df K mg "_kind_pieces" s__kind_pieces ["kind"] fp pd) (D__times : Df K mg "_times" s__times ["left", "right"] ft td) (B : Bt mg) {en : Addr} (hEN : mg "_ENDS" = some (.ref en)) (hE3 : ∃ ys : List V, ys.length = 3 ∧ ∀ H, SqT K H en ys) :
    ∀ n : Nat, FnOk P w K mg base CX0 (2 * n + 2) f2 f2d ["self", "around", "asked", "many"] (spOa P w K C n)
  | 0 => (fn_none (fun vs H Q E h => by obtain ⟨p, dx, l, v, v2, kd, ad, m, rows, _, h0, _⟩ := h; omega)).mono (by omega)
  | n + 1 => ok_oa FT mOb M_of_bodies M_of_asks D__times B (n := n + 1) (j := 2 * n + 2) (ok_ob FT mOa M_of_bodies M_of_asks D_write_kind D__kind_pieces B hEN hE3 (n := n) (j := 2 * n) (ok_asks FT mOb mOa M_of_bodies M_of_asks D_write_kind D__kind_pieces D__times B hEN hE3 n))
def spCount (K : PySem.W.Frag) : Sp := fun vs H Q _ => ∃ (v : V) (kd : D) (m : Nat), vs = [v, .int ((m : Nat) : Int)] ∧ Rep K H v kd ∧ OkB 5 kd ∧ m ≤ 5 ∧ ∀ H', Same H H' → Q (.int ((nbd (inn kd) m : Nat) : Int)) H'
theorem ok_count {f0 f f2 fw fp ft fi : Addr} {fd0 fd f2d wd pd td idd : FuncData} (D_count : Df K mg "count" s_count ["kind", "many"] f0 fd0) (FT : BcT K C) (hMC : mg "BodyCounts" = some (.ref C)) (hMk : Mk K C fi) (mOb : Meth K C "of_bodies" f) (mOa : Meth K C "of_asks" f2)
    (M_make : Dm K C "__init__" "BodyCounts.__init__" s_BodyCounts___init__ ["self"] fi idd) (M_of_bodies : Dm K C "of_bodies" "BodyCounts.of_bodies" s_BodyCounts_of_bodies ["self", "around", "many"] f fd) (M_of_asks : Dm K C "of_asks" "BodyCounts.of_asks" s_BodyCounts_of_asks ["self", "around", "asked", "many"] f2 f2d)
    (D_write_kind : Df K mg "write_kind" s_write_kind ["kind"] fw wd) (D__kind_pieces : Df K mg "_kind_pieces" s__kind_pieces ["kind"] fp pd) (D__times : Df K mg "_times" s__times ["left", "right"] ft td) (B : Bt mg) {en : Addr} (hEN : mg "_ENDS" = some (.ref en)) (hE3 : ∃ ys : List V, ys.length = 3 ∧ ∀ H, SqT K H en ys) :
    FnOk P w K mg base CX0 14 f0 fd0 ["kind", "many"] (spCount K) := by
  have G_of_bodies : FnOk P w K mg base CX0 13 f fd ["self", "around", "many"] (spOb P w K C 6) := ok_ob FT mOa M_of_bodies M_of_asks D_write_kind D__kind_pieces B hEN hE3 (n := 5) (j := 10) (ok_asks FT mOb mOa M_of_bodies M_of_asks D_write_kind D__kind_pieces D__times B hEN hE3 5)
  have G_make : FnOk P w K mg base CX0 1 fi idd ["self"] (spMkB P w C) := ok_mkB M_make FT
  refine D_count.ok c_count (fun vs H Q E h => ?_) (fun cdv A outer s H vs Q E hr h => ?_)
  · obtain ⟨v, kd, m, rfl, _⟩ := h
    rfl
  obtain ⟨v, kd, m, rfl, rv, ok, h5, q⟩ := h
  have nd := c_count.nd
  refine ⟨_, (pss_one (ps_ret (pe_meth (pe_make0 hMk G_make (hr.mono (by first | decide | omega)) (by rfl) hMC M_make.b .nil pass0) FT.cl mOb G_of_bodies hr M_of_bodies.b .nil pass0 (pa_cons (pe_callTy (show CallR _ (.type "tuple") (rTupOf K) from call_tuple_of) (by rfl) B.b_tuple (by decide +kernel) (pa_cons (pe_callB (show CallR _ (.builtin "sorted") (rSortK K) from cr_sortK hr.units) (by rfl) B.b_sorted (by decide +kernel) (pa_cons (pv 0) pa_nil)) pa_nil)) (pa_cons (pv 1) pa_nil))))), ?_⟩
  obtain ⟨ekd, kks⟩ := inn_k ok.k
  have rv3 := rv
  rw [ekd] at rv3
  obtain ⟨a, zs, rfl, hta, rzs⟩ := rv3.inv
  have lz := rzs.length
  have hlk := ok.o.len
  refine fun p dx np ndx ne => ⟨p, dx, rfl, upd_same, fun l H1 keep hp1 nl hl1 => ⟨rfl, p, dx, _, rfl, hp1, bf_b, ?_⟩⟩
  have s1 : Same H H1 := fun b o e => keep b o (ne_of_none e np) (by rw [upd_ne (ne_of_none e np), upd_ne (ne_of_none e ndx)]; exact e)
  refine ⟨_, rfl, a, zs, inn kd, rfl, (hta.same s1).sq, by omega, rzs.mono (kx_same s1), kks, fun z hz => by have := ok.o.d z hz; omega, fun ys es p5 perm rys n5 => ⟨p5, ys, rfl, .inl ⟨SqL.of upd_same, fun p6 n6 => ?_⟩⟩⟩
  have s7 : Same H1 (upd (upd H1 p5 (.lst ys)) p6 (.tup ys)) := (same_new n5 _).trans (same_new n6 _)
  have hp6 : (upd (upd H1 p5 (.lst ys)) p6 (.tup ys)) p6 = some (.tup ys) := upd_same
  generalize (upd (upd H1 p5 (.lst ys)) p6 (.tup ys)) = H2 at s7 hp6 ⊢
  have oke : OkB 5 (.tup es) := by
    have o2 : OkL 5 es := ok.o.perm perm.symm
    refine ⟨o2.k, o2, ?_⟩
    show prs es ≤ 4
    rw [prs_perm perm]; exact ok.p
  have hm5 : sB m ≤ 1555 := by rw [← sB_5]; exact sB_mono h5
  refine ⟨_, rfl, p, dx, l, .ref p6, .tup es, m, [], rfl, by omega, h5, s7 _ _ hp1, ⟨[], s7 _ _ hl1, .nil⟩, .tup' hp6 (rys.mono (kx_same s7)), oke.le h5, by show 0 + 2 * sB m ≤ 100000; omega, fun H' rows' sb _ _ _ _ _ => ?_⟩
  have e : nbd (inn (.tup es)) m = nbd (inn kd) m := nbd_perm m m (Nat.le_refl _) perm
  rw [e]
  refine q H' fun b o eb => sb b o (fun z => ?_) (s7 _ _ (s1 _ _ eb))
  subst z
  rw [upd_ne (ne_of_none eb np), upd_ne (ne_of_none eb ndx)] at nl
  rw [eb] at nl
  cases nl
end
end Pk

set_option maxRecDepth 100000
set_option maxHeartbeats 4000000
set_option pp.maxSteps 600
namespace Pk
open PySem PySem.Spec PyProof.Rows L2
/-! ### all bodies -/
def nD (n : Nat) : D := .at (.int ((n : Nat) : Int))
def prD (m : Nat) (b : D) : D := .tup [.at (.str "program"), nD m, b]
def sayD (v : Nat) : D := .tup [.at (.str "say"), nD v]
def stopD : D := .tup [.at (.str "stop")]
def ends : List D := [sayD 0, sayD 1, stopD]
def prZ (as row : List D) : List D := List.zipWith (fun d b => prD (inn d).length b) as row
/-- an ask of an argument of the kind a, with its parts: the bodies of its arguments, then zero, then one -/
def mkA (up k : Nat) (a : D) (row : List D) : D := .tup [.at (.str "ask"), nD up, nD k, .tup (prZ (inn a) row), row.getD (inn a).length stopD, row.getD ((inn a).length + 1) stopD]
def sideL (F : List D → Nat → List D) : List (List D) → Nat → List (List D)
  | [], n => if n = 0 then [[]] else []
  | k :: ks, n => (List.range (n + 1)).flatMap fun few => (F k few).flatMap fun b => (sideL F ks (n - few)).map (b :: ·)
def prts (ks : List D) (a : D) : List (List D) := (inn a).map (fun x => ks ++ [x]) ++ [ks, ks]
def upsOf (r : Bool) (ks : List D) : List (D × Nat) := if r then ks.reverse.zipIdx else ks.reverse.zipIdx.reverse
def asksOf (F : List D → Nat → List D) (ks : List D) (n : Nat) (p : D × Nat) : List D := (inn p.1).zipIdx.flatMap fun q => (sideL F (prts ks q.1) n).map (mkA p.2 q.2 q.1)
def bdL (r : Bool) : Nat → List D → Nat → List D
  | 0, _, _ => ends
  | m + 1, ks, i => if i ≤ m then bdL r m ks i else (upsOf r ks).flatMap (asksOf (bdL r m) ks m)
def bds (r : Bool) (ks : List D) (m : Nat) : List D := bdL r m ks m
theorem flatMap_ext {α β : Type} {f g : α → List β} : ∀ {l : List α}, (∀ a, a ∈ l → f a = g a) → l.flatMap f = l.flatMap g
  | [], _ => rfl
  | a :: l, h => by rw [List.flatMap_cons, List.flatMap_cons, h a (List.mem_cons_self ..), flatMap_ext fun b hb => h b (List.mem_cons_of_mem _ hb)]
theorem sideL_congr {F G : List D → Nat → List D} {m : Nat} : ∀ {ks : List (List D)} {n : Nat}, n ≤ m → (∀ k, k ∈ ks → ∀ i, i ≤ m → F k i = G k i) → sideL F ks n = sideL G ks n
  | [], n, _, _ => rfl
  | k :: ks, n, hn, h => flatMap_ext fun few hf => by
    have hf' := List.mem_range.mp hf
    rw [h k (List.mem_cons_self ..) few (by omega)]
    exact flatMap_ext fun b _ => by rw [sideL_congr (m := m) (n := n - few) (by omega) fun k' hk' => h k' (List.mem_cons_of_mem _ hk')]
theorem bdL_bds {r : Bool} : ∀ (m : Nat) (ks : List D) (i : Nat), i ≤ m → bdL r m ks i = bds r ks i
  | 0, ks, i, h => by
    obtain rfl : i = 0 := by omega
    rfl
  | m + 1, ks, i, h => by
    by_cases c : i ≤ m
    · rw [bdL, if_pos c]; exact bdL_bds m ks i c
    · obtain rfl : i = m + 1 := by omega
      rfl
theorem bds_zero (r : Bool) (ks : List D) : bds r ks 0 = ends := rfl
theorem bds_succ (r : Bool) (ks : List D) (m : Nat) : bds r ks (m + 1) = (upsOf r ks).flatMap (asksOf (bds r) ks m) := by
  show bdL r (m + 1) ks (m + 1) = _
  rw [bdL, if_neg (by omega)]
  refine flatMap_ext fun p _ => flatMap_ext fun q _ => ?_
  rw [sideL_congr (m := m) (Nat.le_refl _) fun k _ i hi => bdL_bds m k i hi]
/-! #### the two orders -/
theorem flatMap_permF {α β : Type} {f g : α → List β} : ∀ {l : List α}, (∀ a, a ∈ l → (f a).Perm (g a)) → (l.flatMap f).Perm (l.flatMap g)
  | [], _ => .refl _
  | a :: l, h => by
    rw [List.flatMap_cons, List.flatMap_cons]
    exact (h a (List.mem_cons_self ..)).append (flatMap_permF fun b hb => h b (List.mem_cons_of_mem _ hb))
theorem flatMap_permL {α β : Type} {f : α → List β} {l l' : List α} (p : l.Perm l') : (l.flatMap f).Perm (l'.flatMap f) := by
  induction p with
  | nil => exact .refl _
  | cons a _ ih =>
    rw [List.flatMap_cons, List.flatMap_cons]
    exact ih.append_left _
  | swap a b l =>
    rw [List.flatMap_cons, List.flatMap_cons, List.flatMap_cons, List.flatMap_cons, ← List.append_assoc, ← List.append_assoc]
    exact List.perm_append_comm.append_right _
  | trans _ _ a b => exact a.trans b
theorem sideL_perm {F G : List D → Nat → List D} {m : Nat} : ∀ {ks : List (List D)} {n : Nat}, n ≤ m → (∀ k, k ∈ ks → ∀ i, i ≤ m → (F k i).Perm (G k i)) → (sideL F ks n).Perm (sideL G ks n)
  | [], n, _, _ => .refl _
  | k :: ks, n, hn, h => flatMap_permF fun few hf => by
    have hf' := List.mem_range.mp hf
    refine (flatMap_permL (h k (List.mem_cons_self ..) few (by omega))).trans (flatMap_permF fun b _ => ?_)
    exact (sideL_perm (m := m) (n := n - few) (by omega) fun k' hk' => h k' (List.mem_cons_of_mem _ hk')).map _
theorem ups_perm (ks : List D) : (upsOf true ks).Perm (upsOf false ks) := (List.reverse_perm _).symm
theorem bds_perm : ∀ (n m : Nat), m ≤ n → ∀ ks : List D, (bds true ks m).Perm (bds false ks m)
  | _, 0, _, ks => .refl _
  | 0, m + 1, h, _ => by omega
  | n + 1, m + 1, h, ks => by
    rw [bds_succ, bds_succ]
    refine (flatMap_permL (ups_perm ks)).trans (flatMap_permF fun p _ => flatMap_permF fun q _ => ?_)
    exact (sideL_perm (m := m) (Nat.le_refl _) fun k _ i hi => bds_perm n i (by omega) k).map _
/-! #### how many -/
def cvs : List (Nat → Nat) → Nat → Nat
  | [] => cv1
  | f :: fs => cv f (cvs fs)
theorem len_flat {α β : Type} {f : α → List β} {c : Nat} : ∀ {l : List α}, (∀ a, a ∈ l → (f a).length = c) → (l.flatMap f).length = l.length * c
  | [], _ => (Nat.zero_mul _).symm
  | a :: l, h => by rw [List.flatMap_cons, List.length_append, h a (List.mem_cons_self ..), len_flat fun b hb => h b (List.mem_cons_of_mem _ hb), List.length_cons, Nat.succ_mul, Nat.add_comm]
theorem len_range {β : Type} (f : Nat → List β) : ∀ n, ((List.range n).flatMap f).length = sm (fun i => (f i).length) n
  | 0 => rfl
  | n + 1 => by rw [List.range_succ, List.flatMap_append, List.length_append, len_range f n, List.flatMap_cons, List.flatMap_nil, List.append_nil]; rfl
theorem len_side {F : List D → Nat → List D} : ∀ (ks : List (List D)) (n : Nat), (sideL F ks n).length = cvs (ks.map fun k i => (F k i).length) n
  | [], n => by
    show (if n = 0 then [[]] else ([] : List (List D))).length = if n = 0 then 1 else 0
    by_cases c : n = 0
    · rw [if_pos c, if_pos c]; rfl
    · rw [if_neg c, if_neg c]; rfl
  | k :: ks, n => by
    show ((List.range (n + 1)).flatMap _).length = cv (fun i => (F k i).length) (cvs (ks.map fun k i => (F k i).length)) n
    rw [cv_sm, len_range]
    refine sm_congr _ fun i hi => ?_
    show ((F k i).flatMap _).length = _
    rw [len_flat (c := cvs (ks.map fun k i => (F k i).length) (n - i)) fun b _ => by rw [List.length_map, len_side ks (n - i)]]
theorem cvs_congr {m : Nat} {f g : List D → Nat → Nat} : ∀ {ks : List (List D)} {n : Nat}, n ≤ m → (∀ k, k ∈ ks → ∀ i, i ≤ m → f k i = g k i) → cvs (ks.map f) n = cvs (ks.map g) n
  | [], _, _, _ => rfl
  | k :: ks, n, hn, h => cv_congr n (fun i hi => h k (List.mem_cons_self ..) i (by omega)) fun i hi => cvs_congr (m := m) (by omega) fun k' hk' => h k' (List.mem_cons_of_mem _ hk')
theorem cvs_app : ∀ (fs gs : List (Nat → Nat)) (n : Nat), cvs (fs ++ gs) n = cv (cvs fs) (cvs gs) n
  | [], gs, n => (cv_one n _).symm
  | f :: fs, gs, n => by
    show cv f (cvs (fs ++ gs)) n = cv (cv f (cvs fs)) (cvs gs) n
    rw [cv_assoc]
    exact cv_congr n (fun _ _ => rfl) fun i _ => cvs_app fs gs i
theorem cvs_one (f : Nat → Nat) (n : Nat) : cvs [f] n = f n := by
  show cv f cv1 n = f n
  rw [cv_comm, cv_one]
theorem prF_cvs {F : List D → Nat → Nat} {L : List D} : ∀ (xs : List D) (p : Nat → Nat) (n : Nat), prF F L p xs n = cv p (cvs (xs.map fun x => F (L ++ inn x))) n
  | [], p, n => by
    show p n = cv p cv1 n
    rw [cv_comm, cv_one]
  | x :: xs, p, n => by
    show prF F L (cv p (F (L ++ inn x))) xs n = cv p (cv (F (L ++ inn x)) (cvs (xs.map fun x => F (L ++ inn x)))) n
    rw [prF_cvs xs, cv_assoc]
theorem askc_cvs (F : List D → Nat → Nat) (L ins : List D) (n : Nat) : askc F L ins n = cvs (ins.map (fun x => F (L ++ inn x)) ++ [F L, F L]) n := by
  rw [cvs_app]
  show cv (cv (prF F L cv1 ins) (F L)) (F L) n = cv (cvs (ins.map fun x => F (L ++ inn x))) (cv (F L) (cvs [F L])) n
  rw [cv_assoc]
  refine cv_congr n (fun i _ => ?_) fun i _ => cv_congr i (fun _ _ => rfl) fun j _ => (cvs_one _ j).symm
  rw [prF_cvs, cv_one]
/-- how many rows of bodies there are -/
def sfc (parts : List (List D)) (n : Nat) : Nat := cvs (parts.map fun k => nbd (flt k)) n
theorem sfc_prts (ks : List D) (a : D) (n : Nat) : sfc (prts ks a) n = askc nbd (flt ks) (inn a) n := by
  rw [askc_cvs]
  unfold sfc prts
  rw [List.map_append, List.map_map]
  congr 1
  show List.map ((fun k => nbd (flt k)) ∘ fun x => ks ++ [x]) (inn a) ++ [nbd (flt ks), nbd (flt ks)] = _
  congr 1
  refine List.map_congr_left fun x _ => ?_
  show nbd (flt (ks ++ [x])) = _
  rw [flt_app, flt_one]
theorem sumL_flat {β : Type} {f : D × Nat → List β} {h : D → Nat} : ∀ {l : List (D × Nat)}, (∀ p, p ∈ l → (f p).length = h p.1) → (l.flatMap f).length = sumL h (l.map Prod.fst)
  | [], _ => rfl
  | p :: l, q => by
    rw [List.flatMap_cons, List.length_append, q p (List.mem_cons_self ..), sumL_flat fun b hb => q b (List.mem_cons_of_mem _ hb)]; rfl
theorem sumL_flt {f : D → Nat} : ∀ ks : List D, sumL f (flt ks) = sumL (fun k => sumL f (inn k)) ks
  | [] => rfl
  | k :: ks => by
    show sumL f (inn k ++ flt ks) = sumL f (inn k) + _
    rw [sumL_app, sumL_flt ks]
theorem bds_lenT : ∀ (n m : Nat), m ≤ n → ∀ ks : List D, (bds true ks m).length = nbd (flt ks) m
  | _, 0, _, ks => rfl
  | 0, m + 1, h, _ => by omega
  | n + 1, m + 1, h, ks => by
    rw [bds_succ, nbd_succ, sumL_flt, sumL_flat (h := fun k => sumL (fun a => askc nbd (flt ks) (inn a) m) (inn k)) fun p _ => ?_]
    · show sumL _ ((ks.reverse.zipIdx).map Prod.fst) = _
      rw [show (ks.reverse.zipIdx).map Prod.fst = ks.reverse from List.zipIdx_map_fst ..]
      exact sumL_perm (List.reverse_perm _)
    · unfold asksOf
      rw [sumL_flat (h := fun a => askc nbd (flt ks) (inn a) m) fun q _ => ?_, show ((inn p.1).zipIdx).map Prod.fst = inn p.1 from List.zipIdx_map_fst ..]
      rw [List.length_map, len_side, ← sfc_prts]
      exact cvs_congr (m := m) (Nat.le_refl _) fun k _ i hi => bds_lenT n i (by omega) k
theorem bds_len (r : Bool) (ks : List D) (m : Nat) : (bds r ks m).length = nbd (flt ks) m := by
  cases r with
  | true => exact bds_lenT m m (Nat.le_refl _) ks
  | false => rw [← (bds_perm m m (Nat.le_refl _) ks).length_eq]; exact bds_lenT m m (Nat.le_refl _) ks
theorem side_len (r : Bool) (parts : List (List D)) (n : Nat) : (sideL (bds r) parts n).length = sfc parts n := by
  rw [len_side]
  exact cvs_congr (m := n) (Nat.le_refl _) fun k _ i _ => bds_len r k i
/-! #### how great these get -/
theorem cv_geL (f g : Nat → Nat) : ∀ n, f 0 * g n ≤ cv f g n
  | 0 => Nat.le_refl _
  | n + 1 => Nat.le_add_right _ _
theorem cv_geR (f g : Nat → Nat) (n : Nat) : f n * g 0 ≤ cv f g n := by
  rw [cv_comm, Nat.mul_comm]
  exact cv_geL g f n
theorem cv_mono {f g : Nat → Nat} (hg : ∀ i, g i ≤ g (i + 1)) : ∀ n, cv f g n ≤ cv f g (n + 1) := by
  intro n
  rw [cv_right]
  have : cv f g n ≤ cv f (fun i => g (i + 1)) n := by
    rw [cv_sm, cv_sm]
    have key : ∀ (h k : Nat → Nat) (m : Nat), (∀ i, i < m → h i ≤ k i) → sm h m ≤ sm k m := fun h k m => by
      induction m with
      | zero => intro _; exact Nat.le_refl _
      | succ m ih => intro q; exact Nat.add_le_add (ih fun i hi => q i (by omega)) (q m (by omega))
    exact key _ _ _ fun i _ => Nat.mul_le_mul_left _ (hg _)
  omega
theorem nbd_ge : ∀ {L : List D}, L ≠ [] → ∀ m, nbd L m ≤ nbd L (m + 1)
  | [], h, _ => absurd rfl h
  | a :: L, _, m => by
    rw [nbd_succ]
    have e : askc nbd (a :: L) (inn a) m ≤ sumL (fun b => askc nbd (a :: L) (inn b) m) (a :: L) := Nat.le_add_right _ _
    refine Nat.le_trans ?_ e
    have h1 : ∀ (fs : List (Nat → Nat)), (∀ f, f ∈ fs → f 0 = 3) → 1 ≤ cvs fs 0 := fun fs => by
      induction fs with
      | nil => intro _; exact Nat.le_refl _
      | cons f fs ih =>
        intro h
        show 1 ≤ f 0 * cvs fs 0
        rw [h f (List.mem_cons_self ..)]
        have := ih fun g hg => h g (List.mem_cons_of_mem _ hg)
        omega
    rw [askc_cvs, show ∀ (xs : List (Nat → Nat)) (p q : Nat → Nat), xs ++ [p, q] = (xs ++ [p]) ++ [q] from fun xs p q => by rw [List.append_assoc]; rfl, cvs_app]
    refine Nat.le_trans ?_ (cv_geL _ _ m)
    rw [cvs_one]
    refine Nat.le_trans (Nat.le_of_eq (Nat.one_mul _).symm) (Nat.mul_le_mul_right _ (h1 _ fun f hf => ?_))
    rcases List.mem_append.mp hf with h | h
    · obtain ⟨x, _, rfl⟩ := List.mem_map.mp h
      rfl
    · rw [List.mem_singleton.mp h]; rfl
theorem nbd_pos {L : List D} (h : L ≠ []) : ∀ m, 3 ≤ nbd L m
  | 0 => Nat.le_refl _
  | m + 1 => Nat.le_trans (nbd_pos h m) (nbd_ge h m)
theorem sfc_zero : ∀ parts : List (List D), 1 ≤ sfc parts 0
  | [] => Nat.le_refl _
  | k :: ks => by
    show 1 ≤ 3 * sfc ks 0
    have := sfc_zero ks
    omega
/-- rows that are few, up to so many asks -/
def SmS (parts : List (List D)) (n : Nat) : Prop := ∀ r, r ≤ n → sfc parts r ≤ 2000
theorem SmS.tail {k : List D} {ks : List (List D)} {n m : Nat} (h : SmS (k :: ks) n) (hm : m ≤ n) : SmS ks m := fun r hr => by
  have a := h r (by omega)
  have b := cv_geL (nbd (flt k)) (sfc ks) r
  have e : nbd (flt k) 0 = 3 := rfl
  rw [e] at b
  have c : cv (nbd (flt k)) (sfc ks) r = sfc (k :: ks) r := rfl
  omega
theorem SmS.head {k : List D} {ks : List (List D)} {n r : Nat} (h : SmS (k :: ks) n) (hr : r ≤ n) : nbd (flt k) r ≤ 2000 := by
  have a := h r hr
  have b := cv_geR (nbd (flt k)) (sfc ks) r
  have z := sfc_zero ks
  have c : cv (nbd (flt k)) (sfc ks) r = sfc (k :: ks) r := rfl
  have d : nbd (flt k) r * 1 ≤ nbd (flt k) r * sfc ks 0 := Nat.mul_le_mul_left _ z
  omega
theorem sfc_snoc (xs : List (List D)) (k : List D) (n : Nat) : sfc (xs ++ [k]) n = cv (sfc xs) (nbd (flt k)) n := by
  unfold sfc
  rw [List.map_append, cvs_app]
  exact cv_congr n (fun _ _ => rfl) fun i _ => cvs_one _ i
theorem sfc_mono {xs : List (List D)} {k : List D} (h : flt k ≠ []) {r n : Nat} (hr : r ≤ n) : sfc (xs ++ [k]) r ≤ sfc (xs ++ [k]) n := by
  induction n with
  | zero =>
    obtain rfl : r = 0 := by omega
    exact Nat.le_refl _
  | succ n ih =>
    rcases Nat.lt_or_ge n r with c | c
    · obtain rfl : r = n + 1 := by omega
      exact Nat.le_refl _
    · refine Nat.le_trans (ih c) ?_
      rw [sfc_snoc, sfc_snoc]
      exact cv_mono (fun i => nbd_ge h i) n
theorem sumL_mem {f : D → Nat} : ∀ {l : List D} {a : D}, a ∈ l → f a ≤ sumL f l
  | b :: l, a, h => by
    show f a ≤ f b + sumL f l
    rcases List.mem_cons.mp h with rfl | h
    · omega
    · have := sumL_mem (f := f) h
      omega
theorem prts_snoc (ks : List D) (a : D) : prts ks a = ((inn a).map (fun x => ks ++ [x]) ++ [ks]) ++ [ks] := by
  unfold prts; rw [List.append_assoc]; rfl
theorem sms_prts {ks : List D} {a : D} {m : Nat} (ha : a ∈ flt ks) (h : nbd (flt ks) (m + 1) ≤ 2000) : SmS (prts ks a) m := fun r hr => by
  have ne : flt ks ≠ [] := fun z => by rw [z] at ha; cases ha
  have e := sumL_mem (f := fun b => askc nbd (flt ks) (inn b) m) ha
  rw [← nbd_succ] at e
  have e2 : sfc (prts ks a) m ≤ nbd (flt ks) (m + 1) := by rw [sfc_prts]; exact e
  have e3 : sfc (prts ks a) r ≤ sfc (prts ks a) m := by
    rw [prts_snoc]
    exact sfc_mono ne hr
  omega
end Pk

set_option maxRecDepth 100000
set_option maxHeartbeats 4000000
set_option pp.maxSteps 600
namespace Pk
open PySem PySem.Spec PyProof.Rows L2
/-! ### what bodies are: their order, size and depth -/
theorem side_rows {F : List D → Nat → List D} : ∀ {ks : List (List D)} {n : Nat} {row : List D}, row ∈ sideL F ks n → row.length = ks.length ∧ ∀ (i : Nat) (k : List D) (b : D), ks[i]? = some k → row[i]? = some b → ∃ few, few ≤ n ∧ b ∈ F k few
  | [], n, row, h => by
    have h' : row ∈ (if n = 0 then [[]] else ([] : List (List D))) := h
    by_cases c : n = 0
    · rw [if_pos c] at h'
      rw [List.mem_singleton.mp h']
      exact ⟨rfl, fun i k b e => by cases e⟩
    · rw [if_neg c] at h'; cases h'
  | k :: ks, n, row, h => by
    obtain ⟨few, hf, h1⟩ := List.mem_flatMap.mp h
    obtain ⟨b, hb, h2⟩ := List.mem_flatMap.mp h1
    obtain ⟨r, hr, rfl⟩ := List.mem_map.mp h2
    obtain ⟨e, hi⟩ := side_rows hr
    have hf' := List.mem_range.mp hf
    refine ⟨congrArg (· + 1) e, fun i k' b' e1 e2 => ?_⟩
    cases i with
    | zero => cases e1; cases e2; exact ⟨few, by omega, hb⟩
    | succ i =>
      obtain ⟨f', l, m⟩ := hi i k' b' e1 e2
      exact ⟨f', by omega, m⟩
theorem prts_len (ks : List D) (a : D) : (prts ks a).length = (inn a).length + 2 := by
  unfold prts; rw [List.length_append, List.length_map]; rfl
theorem prts_get {ks : List D} {a : D} {i : Nat} {k : List D} (h : (prts ks a)[i]? = some k) : k = ks ∨ ∃ x, (inn a)[i]? = some x ∧ k = ks ++ [x] := by
  unfold prts at h
  by_cases c : i < (inn a).length
  · rw [List.getElem?_append_left (by rw [List.length_map]; exact c), List.getElem?_map] at h
    cases e : (inn a)[i]? with
    | none => rw [e] at h; cases h
    | some x => rw [e] at h; cases h; exact .inr ⟨x, rfl, rfl⟩
  · rw [List.getElem?_append_right (by rw [List.length_map]; omega), List.length_map] at h
    refine .inl ?_
    have m := List.mem_of_getElem? h
    rcases List.mem_cons.mp m with e | e
    · exact e
    · exact List.mem_singleton.mp e
/-- an ask's body: its row is one of those within its parts -/
inductive IsB (F : List D → Nat → List D) (ks : List D) (m : Nat) : D → Prop where
  | say (v : Nat) : IsB F ks m (sayD v)
  | stop : IsB F ks m stopD
  | ask {up k n : Nat} {kd a : D} {row : List D} (hn : n < m) (e1 : ks.reverse[up]? = some kd) (e2 : (inn kd)[k]? = some a) (hr : row ∈ sideL F (prts ks a) n) : IsB F ks m (mkA up k a row)
theorem isB_of {r : Bool} {ks : List D} {m : Nat} {b : D} (h : b ∈ bds r ks m) : IsB (bds r) ks m b := by
  cases m with
  | zero =>
    rw [bds_zero] at h
    rcases List.mem_cons.mp h with rfl | h
    · exact .say 0
    rcases List.mem_cons.mp h with rfl | h
    · exact .say 1
    rw [List.mem_singleton.mp h]
    exact .stop
  | succ m =>
    rw [bds_succ] at h
    obtain ⟨⟨kd, up⟩, hp, h1⟩ := List.mem_flatMap.mp h
    obtain ⟨⟨a, k⟩, hq, h2⟩ := List.mem_flatMap.mp h1
    obtain ⟨row, hr, rfl⟩ := List.mem_map.mp h2
    have hp' : (kd, up) ∈ ks.reverse.zipIdx := by
      cases r with
      | true => exact hp
      | false => exact List.mem_reverse.mp hp
    exact .ask (Nat.lt_succ_self m) (List.mem_zipIdx_iff_getElem?.mp hp') (List.mem_zipIdx_iff_getElem?.mp hq) hr
theorem cpbs_mk {x y : PyData} {xs ys : List PyData} (h : cpb x y = true) (t : PyData.eqv x y = true → cpbs xs ys = true) : cpbs (x :: xs) (y :: ys) = true := by
  rw [cpbs, h, Bool.true_and]
  cases e : PyData.eqv x y with
  | false => rfl
  | true => rw [t e]; rfl
theorem eqv_nD {i j : Nat} (h : PyData.eqv (toPy (nD i)) (toPy (nD j)) = true) : i = j := by
  have h' : PyData.eqv (.int ((i : Nat) : Int)) (.int ((j : Nat) : Int)) = true := h
  rw [int_eqv'] at h'
  have := of_decide_eq_true h'
  omega
theorem cpb_nD (i j : Nat) : cpb (toPy (nD i)) (toPy (nD j)) = true := rfl
theorem cpb_pr {m : Nat} {b c : D} (h : cpb (toPy b) (toPy c) = true) : cpb (toPy (prD m b)) (toPy (prD m c)) = true := by
  show cpbs (toPys [.at (.str "program"), nD m, b]) (toPys [.at (.str "program"), nD m, c]) = true
  exact cpbs_mk rfl fun _ => cpbs_mk rfl fun _ => cpbs_mk h fun _ => rfl
theorem cpb_prZ : ∀ {as row row' : List D}, (∀ (i : Nat) (d b c : D), as[i]? = some d → row[i]? = some b → row'[i]? = some c → cpb (toPy b) (toPy c) = true) → cpbs (toPys (prZ as row)) (toPys (prZ as row')) = true
  | [], _, _, _ => rfl
  | _ :: _, [], row', _ => by cases row' <;> rfl
  | _ :: _, _ :: _, [], _ => rfl
  | a :: as, b :: row, c :: row', h => cpbs_mk (cpb_pr (h 0 a b c rfl rfl rfl)) fun _ => cpb_prZ fun i d b' c' e1 e2 e3 => h (i + 1) d b' c' e1 e2 e3
theorem row_get {row : List D} {i : Nat} (h : i < row.length) : row[i]? = some (row.getD i stopD) := by
  rw [List.getD_eq_getElem?_getD, List.getElem?_eq_getElem h]; rfl
theorem prts_at {ks : List D} {a x : D} {i : Nat} (h : (inn a)[i]? = some x) : (prts ks a)[i]? = some (ks ++ [x]) := by
  have hi := (List.getElem?_eq_some_iff.mp h).1
  unfold prts
  rw [List.getElem?_append_left (by rw [List.length_map]; exact hi), List.getElem?_map, h]; rfl
theorem prts_z (ks : List D) (a : D) : (prts ks a)[(inn a).length]? = some ks ∧ (prts ks a)[(inn a).length + 1]? = some ks := by
  unfold prts
  constructor
  · rw [List.getElem?_append_right (by rw [List.length_map]; omega), List.length_map, Nat.sub_self]; rfl
  · rw [List.getElem?_append_right (by rw [List.length_map]; omega), List.length_map, Nat.add_sub_cancel_left]; rfl
theorem cpb_bds {r : Bool} : ∀ (N m m' : Nat), m ≤ N → m' ≤ N → ∀ {ks : List D} {b c : D}, b ∈ bds r ks m → c ∈ bds r ks m' → cpb (toPy b) (toPy c) = true := by
  intro N
  induction N with
  | zero =>
    intro m m' h h' ks b c hb hc
    obtain rfl : m = 0 := by omega
    obtain rfl : m' = 0 := by omega
    rw [bds_zero] at hb hc
    have key : ∀ x ∈ ends, ∀ y ∈ ends, cpb (toPy x) (toPy y) = true := by decide +kernel
    exact key b hb c hc
  | succ N ih =>
    intro m m' h h' ks b c hb hc
    have kb := isB_of hb
    have kc := isB_of hc
    have other : ∀ (x y : Str) (xs ys : List D), x ≠ y → cpb (toPy (.tup (.at (.str x) :: xs))) (toPy (.tup (.at (.str y) :: ys))) = true := fun x y xs ys hn => by
      refine cpbs_mk rfl fun e => absurd e ?_
      show ¬ PyData.eqv (.str x) (.str y) = true
      intro z
      exact hn (by simpa [PyData.eqv] using z)
    cases kb with
    | say v =>
      cases kc with
      | say u => exact cpbs_mk rfl fun _ => cpbs_mk rfl fun _ => rfl
      | stop => exact other _ _ _ _ (by decide)
      | ask _ _ _ _ => exact other _ _ _ _ (by decide)
    | stop =>
      cases kc with
      | say u => exact other _ _ _ _ (by decide)
      | stop => exact cpbs_mk rfl fun _ => rfl
      | ask _ _ _ _ => exact other _ _ _ _ (by decide)
    | @ask up k n kd a row hn e1 e2 hr =>
      cases kc with
      | say u => exact other _ _ _ _ (by decide)
      | stop => exact other _ _ _ _ (by decide)
      | @ask up' k' n' kd' a' row' hn' e1' e2' hr' =>
        obtain ⟨l1, p1⟩ := side_rows hr
        obtain ⟨l2, p2⟩ := side_rows hr'
        rw [prts_len] at l1 l2
        refine cpbs_mk rfl fun _ => cpbs_mk (cpb_nD _ _) fun eu => cpbs_mk (cpb_nD _ _) fun ek => ?_
        obtain rfl := eqv_nD eu
        obtain rfl := eqv_nD ek
        rw [e1] at e1'
        cases e1'
        rw [e2] at e2'
        cases e2'
        have at_ : ∀ (i : Nat) (kk : List D) (x y : D), (prts ks a)[i]? = some kk → row[i]? = some x → row'[i]? = some y → cpb (toPy x) (toPy y) = true := fun i kk x y e f g => by
          obtain ⟨w, hw, mw⟩ := p1 i kk x e f
          obtain ⟨w', hw', mw'⟩ := p2 i kk y e g
          exact ih w w' (by omega) (by omega) mw mw'
        obtain ⟨z1, z2⟩ := prts_z ks a
        refine cpbs_mk (cpb_prZ fun i d x y e f g => at_ i _ x y (prts_at e) f g) fun _ => cpbs_mk (at_ _ _ _ _ z1 (row_get (by omega)) (row_get (by omega))) fun _ => cpbs_mk (at_ _ _ _ _ z2 (row_get (by omega)) (row_get (by omega))) fun _ => rfl
/-! #### plain data -/
mutual
def isP : D → Bool
  | .at (.int _) => true
  | .at (.str _) => true
  | .at _ => false
  | .lst => false
  | .tup ts => isPs ts
def isPs : List D → Bool
  | [] => true
  | t :: r => isP t && isPs r
end
mutual
theorem isP_inj : ∀ {d e : D}, isP d = true → isP e = true → toPy d = toPy e → d = e
  | .lst, _, h, _, _ => by cases h
  | .at v, .lst, _, h, _ => by cases h
  | .tup _, .lst, _, h, _ => by cases h
  | .at v, .at u, h1, h2, e => by cases v <;> cases u <;> first | (cases h1; done) | (cases h2; done) | (cases e; rfl) | (cases e; done)
  | .at v, .tup _, h1, _, e => by cases v <;> first | (cases h1; done) | (cases e; done)
  | .tup _, .at v, _, h2, e => by cases v <;> first | (cases h2; done) | (cases e; done)
  | .tup ts, .tup us, h1, h2, e => by
    injection e with e
    rw [isPs_inj (d := ts) (e := us) h1 h2 e]
theorem isPs_inj : ∀ {d e : List D}, isPs d = true → isPs e = true → toPys d = toPys e → d = e
  | [], [], _, _, _ => rfl
  | [], _ :: _, _, _, h => by cases h
  | _ :: _, [], _, _, h => by cases h
  | a :: as, b :: bs, h1, h2, h => by
    injection h with e1 e2
    have k1 := Bool.and_eq_true_iff.mp (show (isP a && isPs as) = true from h1)
    have k2 := Bool.and_eq_true_iff.mp (show (isP b && isPs bs) = true from h2)
    rw [isP_inj k1.1 k2.1 e1, isPs_inj k1.2 k2.2 e2]
end
mutual
theorem isP_nol : ∀ {d : D}, isP d = true → noLd d = true ∧ noL d = true
  | .lst, h => by cases h
  | .at v, h => ⟨rfl, rfl⟩
  | .tup ts, h => isPs_nol (l := ts) h
theorem isPs_nol : ∀ {l : List D}, isPs l = true → noLds l = true ∧ noLs l = true
  | [], _ => ⟨rfl, rfl⟩
  | t :: r, h => by
    have k := Bool.and_eq_true_iff.mp (show (isP t && isPs r) = true from h)
    obtain ⟨a, b⟩ := isP_nol k.1
    obtain ⟨c, d⟩ := isPs_nol k.2
    refine ⟨?_, ?_⟩
    · show (noLd t && noLds r) = true
      rw [a, c]; rfl
    · show (noL t && noLs r) = true
      rw [b, d]; rfl
end
/-- of a body with so many asks: plain, not deep, not great -/
structure Fine (m : Nat) (b : D) : Prop where
  p : isP b = true
  d : dep b ≤ 1 + 3 * m
  s : sz b ≤ 3 + 26 * m
theorem Fine.le {m n : Nat} {b : D} (h : Fine m b) (l : m ≤ n) : Fine n b := ⟨h.p, by have := h.d; omega, by have := h.s; omega⟩
/-- rows: sizes add up -/
theorem side_fine {F : List D → Nat → List D} {M : Nat} : ∀ {ks : List (List D)} {n : Nat} {row : List D}, n ≤ M → (∀ k, k ∈ ks → ∀ few, few ≤ M → ∀ b, b ∈ F k few → Fine few b) → row ∈ sideL F ks n → (∀ b, b ∈ row → Fine n b) ∧ szs row ≤ 3 * ks.length + 26 * n
  | [], n, row, _, _, h => by
    have e := (side_rows h).1
    cases row with
    | nil => exact ⟨fun b hb => (by cases hb), Nat.zero_le _⟩
    | cons _ _ => cases e
  | k :: ks, n, row, hM, hF, h => by
    obtain ⟨few, hf, h1⟩ := List.mem_flatMap.mp h
    obtain ⟨b, hb, h2⟩ := List.mem_flatMap.mp h1
    obtain ⟨r, hr, rfl⟩ := List.mem_map.mp h2
    have hf' := List.mem_range.mp hf
    obtain ⟨a1, a2⟩ := side_fine (M := M) (by omega) (fun k' hk' => hF k' (List.mem_cons_of_mem _ hk')) hr
    have fb := hF k (List.mem_cons_self ..) few (by omega) b hb
    refine ⟨fun c hc => ?_, ?_⟩
    · rcases List.mem_cons.mp hc with rfl | hc
      · exact fb.le (by omega)
      · exact (a1 c hc).le (by omega)
    · show sz b + szs r ≤ 3 * (ks.length + 1) + 26 * n
      have := fb.s
      omega
theorem prZ_fine {n : Nat} : ∀ {as row : List D}, (∀ b, b ∈ row → Fine n b) → isPs (prZ as row) = true ∧ deps (prZ as row) ≤ 3 + 3 * n ∧ ∀ k, szs (prZ as row) ≤ 3 * as.length + szs (row.take as.length) + k
  | [], _, _ => ⟨rfl, Nat.zero_le _, fun _ => Nat.zero_le _⟩
  | _ :: _, [], _ => ⟨rfl, Nat.zero_le _, fun _ => Nat.zero_le _⟩
  | a :: as, b :: row, h => by
    obtain ⟨h1, h2, h3⟩ := prZ_fine (as := as) (row := row) fun c hc => h c (List.mem_cons_of_mem _ hc)
    have fb := h b (List.mem_cons_self ..)
    refine ⟨?_, ?_, fun k => ?_⟩
    · show (isP (prD _ b) && isPs (prZ as row)) = true
      rw [h1, Bool.and_true]
      show (true && (true && (isP b && true))) = true
      rw [fb.p]; rfl
    · show max (dep (prD _ b) + 1) (deps (prZ as row)) ≤ 3 + 3 * n
      have e : dep (prD (inn a).length b) = max (0 + 1) (max (0 + 1) (max (dep b + 1) 0)) := rfl
      have := fb.d
      omega
    · show sz (prD _ b) + szs (prZ as row) ≤ 3 * (as.length + 1) + (sz b + szs (row.take as.length)) + k
      have e : sz (prD (inn a).length b) = (1 + (1 + (sz b + 0))) + 1 := rfl
      have := h3 k
      omega
theorem szs_split : ∀ (l : List D) (n : Nat), n + 2 = l.length → szs l = szs (l.take n) + sz (l.getD n stopD) + sz (l.getD (n + 1) stopD)
  | [x, y], 0, _ => by
    show sz x + (sz y + 0) = 0 + sz x + sz y
    omega
  | x :: l, n + 1, h => by
    show sz x + szs l = sz x + szs (l.take n) + sz (l.getD n stopD) + sz (l.getD (n + 1) stopD)
    rw [szs_split l n (by simpa using h)]; omega
  | [], _, h => by simp at h
  | [_], 0, h => by simp at h
  | _ :: _ :: _ :: _, 0, h => by simp at h
theorem okL_rev {ks : List D} {up k : Nat} {kd a : D} (e1 : ks.reverse[up]? = some kd) (e2 : (inn kd)[k]? = some a) : a ∈ flt ks :=
  flt_mem (List.mem_reverse.mp (List.mem_of_getElem? e1)) (List.mem_of_getElem? e2)
theorem fine_bds {r : Bool} : ∀ (N m : Nat), m ≤ N → ∀ {ks : List D} {b : D}, OkC m ks → b ∈ bds r ks m → Fine m b := by
  intro N
  induction N with
  | zero =>
    intro m h ks b _ hb
    obtain rfl : m = 0 := by omega
    rw [bds_zero] at hb
    rcases List.mem_cons.mp hb with rfl | hb
    · exact ⟨rfl, by decide, by decide⟩
    rcases List.mem_cons.mp hb with rfl | hb
    · exact ⟨rfl, by decide, by decide⟩
    rw [List.mem_singleton.mp hb]
    exact ⟨rfl, by decide, by decide⟩
  | succ N ih =>
    intro m h ks b ok hb
    have kb := isB_of hb
    cases kb with
    | say v => exact ⟨rfl, by show max (0 + 1) (max (0 + 1) 0) ≤ _; omega, by show (1 + (1 + 0)) + 1 ≤ _; omega⟩
    | stop => exact ⟨rfl, by show max (0 + 1) 0 ≤ _; omega, by show (1 + 0) + 1 ≤ _; omega⟩
    | @ask up k n kd a row hn e1 e2 hr =>
      have ham := okL_rev e1 e2
      have la := ok.o.inn ham
      obtain ⟨l1, _⟩ := side_rows hr
      rw [prts_len] at l1
      obtain ⟨f1, f2⟩ := side_fine (M := n) (Nat.le_refl _) (fun kk hk few hf b hb => by
        obtain ⟨i, hi⟩ := List.mem_iff_getElem?.mp hk
        have okk : OkC few kk := by
          rcases prts_get hi with rfl | ⟨x, hx, rfl⟩
          · exact ok.le (by omega)
          · exact (OkC.app (m := m - 1) (by rw [show m - 1 + 1 = m by omega]; exact ok) ham (List.mem_of_getElem? hx)).le (by omega)
        exact ih few (by omega) okk hb) hr
      rw [prts_len] at f2
      obtain ⟨q1, q2, q3⟩ := prZ_fine (as := inn a) f1
      have m1 : row.getD (inn a).length stopD ∈ row := List.mem_of_getElem? (row_get (i := (inn a).length) (by omega))
      have m2 : row.getD ((inn a).length + 1) stopD ∈ row := List.mem_of_getElem? (row_get (i := (inn a).length + 1) (by omega))
      have s1 := szs_split row (inn a).length (by omega)
      refine ⟨?_, ?_, ?_⟩
      · show (true && (true && (true && (isPs (prZ (inn a) row) && (isP (row.getD (inn a).length stopD) && (isP (row.getD ((inn a).length + 1) stopD) && true)))))) = true
        rw [q1, (f1 _ m1).p, (f1 _ m2).p]; rfl
      · show max (0 + 1) (max (0 + 1) (max (0 + 1) (max (deps (prZ (inn a) row) + 1) (max (dep (row.getD (inn a).length stopD) + 1) (max (dep (row.getD ((inn a).length + 1) stopD) + 1) 0))))) ≤ 1 + 3 * m
        have d1 := (f1 _ m1).d
        have d2 := (f1 _ m2).d
        omega
      · show (1 + (1 + (1 + ((szs (prZ (inn a) row) + 1) + (sz (row.getD (inn a).length stopD) + (sz (row.getD ((inn a).length + 1) stopD) + 0)))))) + 1 ≤ 3 + 26 * m
        have := q3 0
        omega
end Pk

set_option maxRecDepth 100000
set_option maxHeartbeats 4000000
set_option pp.maxSteps 600
namespace Pk
open PySem PySem.Spec PyProof.Rows L2
/-! ### body_of -/
theorem walk_zip2 {K : PySem.W.Frag} {a b : Addr} {xs ys : List V} {n : Nat} (hn : n = min xs.length ys.length) : Walk (RZ.ItzT K a b) n (fun H => SqT K H a xs ∧ SqT K H b ys) (YPair (fun i => xs[i]?) (fun i => ys[i]?)) := by
  subst hn
  refine ⟨fun i _ hi q => ?_, fun _ q => ⟨xs, ys, q.1, q.2, by omega⟩, fun i H v H' _ q y => ?_⟩
  · have h1 : i < xs.length := by omega
    have h2 : i < ys.length := by omega
    exact ⟨xs, ys, xs[i], ys[i], q.1, q.2, List.getElem?_eq_getElem h1, List.getElem?_eq_getElem h2⟩
  · obtain ⟨T, x, z, h1, h2, h3, h4, h5⟩ := y
    exact ⟨T, x, z, h1, h2, h3, h4 xs q.1, h5 ys q.2⟩
theorem idx1 {xs : List V} {v : V} (h : xs[xs.length - 1]? = some v) (hl : 1 ≤ xs.length) : atI xs (-1) = some v := by
  unfold atI ixN
  rw [if_neg (by omega), if_pos (by omega)]
  show xs[((-1 : Int) + ((xs.length : Nat) : Int)).toNat]? = some v
  rw [show ((-1 : Int) + ((xs.length : Nat) : Int)).toNat = xs.length - 1 by omega]
  exact h
theorem idx2 {xs : List V} {v : V} (h : xs[xs.length - 2]? = some v) (hl : 2 ≤ xs.length) : atI xs (-2) = some v := by
  unfold atI ixN
  rw [if_neg (by omega), if_pos (by omega)]
  show xs[((-2 : Int) + ((xs.length : Nat) : Int)).toNat]? = some v
  rw [show ((-2 : Int) + ((xs.length : Nat) : Int)).toNat = xs.length - 2 by omega]
  exact h
theorem prZ_get {as row : List D} {i : Nat} {d b : D} (h : as[i]? = some d) (g : row[i]? = some b) : (prZ as row)[i]? = some (prD (inn d).length b) := by
  unfold prZ
  rw [List.getElem?_zipWith, h, g]
theorem prZ_len {as row : List D} (h : as.length ≤ row.length) : (prZ as row).length = as.length := by
  unfold prZ
  rw [List.length_zipWith]; omega
section
variable {P : Program} {w : World} {K : PySem.W.Frag} {mg : Str → Option Value} {base : Heap}
def rLenS (K : PySem.W.Frag) : List V → Hp → VK → Prop := fun xs H Q => ∃ p ys, xs = [V.ref p] ∧ (SqL K H p ys ∨ SqT K H p ys) ∧ Q (V.int ↑ys.length) H
def spBo (K : PySem.W.Frag) : Sp := fun vs H Q _ => ∃ (nt pt : Addr) (kv : V) (up k : Nat) (a : D) (ps : List V) (row : List D), vs = [.ref nt, .ref pt] ∧ TupAt K H nt [.str "ask", .int ((up : Nat) : Int), .int ((k : Nat) : Int), kv] ∧ Rep K H kv a ∧ isK a = true ∧ (inn a).length ≤ 1000 ∧ TupAt K H pt ps ∧ Reps K H ps row ∧ row.length = (inn a).length + 2 ∧
  ∀ (v : V) (H' : Hp), Same H H' → Rep K H' v (mkA up k a row) → Q v H'
theorem ok_bo {f : Addr} {fd : FuncData} (D_body_of : Df K mg "body_of" s_body_of ["note", "parts"] f fd) (B : Bt mg) : FnOk P w K mg base CX0 1 f fd ["note", "parts"] (spBo K) := by
  refine D_body_of.ok c_body_of (fun vs H Q E h => ?_) (fun cdv A outer s0 H vs Q E hr h => ?_)
  · obtain ⟨nt, pt, kv, up, k, a, ps, row, rfl, _⟩ := h
    rfl
  obtain ⟨nt, pt, kv, up, k, a, ps, row, rfl, hn, rk, hk, hl, hp, rps, hrow, q⟩ := h
  have nd := c_body_of.nd
  refine ⟨_, (pss_cons (ps_if (pt_cmpR op_ne (pe_ix ix_tup (pv 0) pe_int (fun _ _ => rfl)) pe_str (nomark _)) (pss_one (ps_ret (pv 0))) pss_nil)
  (pss_cons (ps_asg (pv 0) (pg_tup rfl (pgs_cons (pg_name (i := 2) nd rfl (Or.inl rfl)) (pgs_cons (pg_name (i := 3) nd rfl (Or.inl rfl)) (pgs_cons (pg_name (i := 4) nd rfl (Or.inl rfl)) (pgs_cons (pg_name (i := 5) nd rfl (Or.inl rfl)) pgs_nil))))))
  (pss_cons (ps_set (i := 6) nd rfl (Or.inl rfl) (pe_callTy call_tuple_of (by rfl) B.b_tuple (by decide +kernel) (pa_cons (pe_lc (own := [("kind", 7), ("body", 8)]) (g := (gTup K 2 (gCons (gName 7) (gCons (gName 8) gNil)))) (tt := tYes) rfl nd (RZ.pi_zipA (by rfl) B.b_zip (pa_cons (pv 5) (pa_cons (pv 1) pa_nil))) (blkOk_by (own := [("kind", 7), ("body", 8)]) (N := ["note", "parts", "_", "up", "k", "asked", "arguments", "kind", "body"]) (sc := defScope s_body_of) (by decide +kernel)) (fun _ _ _ _ _ => (pg_tup rfl (pgs_cons (pg_name (i := 7) nd rfl (Or.inl rfl)) (pgs_cons (pg_name (i := 8) nd rfl (Or.inl rfl)) pgs_nil)))) (fun _ _ _ _ _ => pts_nil) (fun _ _ _ _ _ => (pe_tup (pa_cons pe_str (pa_cons (pe_callB (show CallR _ (.builtin "len") (rLenS K) from call_len_seq) (by rfl) B.b_len PySem.boot_len (pa_cons (pv 7) pa_nil)) (pa_cons (pv 8) pa_nil)))))) pa_nil)))
  (pss_one (ps_ret (pe_tup (pa_cons pe_str (pa_cons (pv 3) (pa_cons (pv 4) (pa_cons (pv 6) (pa_cons (pe_ix ix_tup (pv 1) (pe_un un_neg pe_int) (fun _ _ => rfl)) (pa_cons (pe_ix ix_tup (pv 1) (pe_un un_neg pe_int) (fun _ _ => rfl)) pa_nil)))))))))))), ?_⟩
  obtain ⟨ea, ka⟩ := inn_k hk
  obtain ⟨b, kxs, rfl, hb, rkx⟩ := Rep.inv (ts := inn a) (by rw [← ea]; exact rk)
  have lk := rkx.length
  have lp := rps.length
  refine ⟨_, rfl, nt, _, 0, _, rfl, rfl, hn.sq, rfl, rfl, _, rfl, ?_⟩
  rw [show decide (V.str "ask" = V.str (Str.ofString "ask")) = true by decide]
  refine iteF ?_
  refine ⟨_, rfl, nt, _, rfl, hn.sq, rfl, _, _, rfl, _, _, rfl, _, _, rfl, _, _, rfl, rfl, ?_⟩
  refine ⟨_, rfl, _, rfl, b, pt, kxs, ps, rfl, .inr ⟨hb.sq, hp.sq, fun d hd => ?_⟩⟩
  have lz := prZ_len (as := inn a) (row := row) (by omega)
  refine lc_it (walk_zip2 (n := (inn a).length) (by omega)) (fun i H' => Same H H' ∧ ∃ acc, H' d = some (.lst acc) ∧ acc.length = i ∧ Reps K H' acc ((prZ (inn a) row).take i)) ⟨same_new hd _, [], upd_same, rfl, .nil⟩ (fun i H' _ h => ⟨(hb.same h.1).sq, (hp.same h.1).sq⟩) ?_ ?_
  · rintro i x H1 H1' hi ⟨s1, acc, hd1, la, ra⟩ ⟨T, x1, y1, rfl, nT, rfl, hx1, hy1⟩
    have he : (inn a)[i]? = some (inn a)[i] := List.getElem?_eq_getElem hi
    have hdi : row[i]? = some (row[i]'(by omega)) := List.getElem?_eq_getElem (by omega)
    obtain ⟨x', hx', rx⟩ := rkx.getD he
    obtain ⟨y', hy', ry⟩ := rps.getD hdi
    have hx1 : kxs[i]? = some x1 := hx1
    have hy1 : ps[i]? = some y1 := hy1
    rw [hx1] at hx'
    rw [hy1] at hy'
    obtain rfl := Option.some.inj hx'
    obtain rfl := Option.some.inj hy'
    obtain ⟨ei, _⟩ := inn_k (isK_mem ka (List.getElem_mem hi))
    obtain ⟨c, cxs, rfl, hc, rc⟩ := Rep.inv (ts := inn (inn a)[i]) (by rw [← ei]; exact rx)
    have lc := rc.length
    have sT := same_new nT (.tup [.ref c, y1])
    have s1T := s1.trans sT
    have hT : upd H1 T (.tup [.ref c, y1]) T = some (.tup [.ref c, y1]) := upd_same
    have hd2 := sT _ _ hd1
    have ra2 := ra.mono (kx_same sT)
    generalize upd H1 T (.tup [.ref c, y1]) = H2 at *
    refine ⟨T, _, rfl, SqT.of hT, rfl, _, _, rfl, _, _, rfl, rfl, rfl, yes_go ⟨_, rfl, c, cxs, rfl, .inr (hc.same s1T).sq, _, rfl, (by show 3 ≤ sizeLine; decide), fun t nt => ?_⟩⟩
    have s3 := same_new nt (.tup [.str "program", .int ((cxs.length : Nat) : Int), y1])
    have ht : upd H2 t (.tup [.str "program", .int ((cxs.length : Nat) : Int), y1]) t = some (.tup [.str "program", .int ((cxs.length : Nat) : Int), y1]) := upd_same
    have s13 := s1T.trans s3
    have hd3 := s3 _ _ hd2
    have ra3 := ra2.mono (kx_same s3)
    generalize upd H2 t (.tup [.str "program", .int ((cxs.length : Nat) : Int), y1]) = H3 at *
    have k4 : Kx H3 (upd H3 d (.lst (acc ++ [.ref t]))) := kx_list hd3 _
    refine ⟨acc, hd3, small6 (by omega), fun o u e => ?_, acc ++ [.ref t], upd_same, by rw [List.length_append, List.length_singleton, la], ?_⟩
    · rw [upd_ne (ne_of_none e hd)]
      exact s13 _ _ e
    · rw [List.take_add_one, prZ_get he hdi]
      refine (ra3.mono k4).append (.one (Rep.mono k4 (Rep.tup' ht (.cons (.at rfl) (.cons ?_ (.one (ry.mono (kx_same s13))))))))
      rw [lc]
      exact .at rfl
  · rintro H1 ⟨s1, acc, hd1, la, ra⟩
    rw [← lz, List.take_length] at ra
    refine ⟨d, acc, rfl, .inl ⟨SqL.of hd1, fun t nt => ?_⟩⟩
    have s2 := same_new nt (.tup acc)
    have ht : upd H1 t (.tup acc) t = some (.tup acc) := upd_same
    have s12 := s1.trans s2
    have ra2 := ra.mono (kx_same s2)
    generalize upd H1 t (.tup acc) = H2 at *
    obtain ⟨v1, hv1, rv1⟩ := rps.getD (row_get (row := row) (i := (inn a).length) (by omega))
    obtain ⟨v2, hv2, rv2⟩ := rps.getD (row_get (row := row) (i := (inn a).length + 1) (by omega))
    have a1 : atI ps (-1) = some v2 := idx1 (by rw [lp, hrow]; exact hv2) (by omega)
    have a2 : atI ps (-2) = some v1 := idx2 (by rw [lp, hrow]; exact hv1) (by omega)
    refine ⟨_, rfl, _, rfl, _, rfl, _, rfl, _, rfl, pt, ps, _, _, rfl, rfl, (hp.same s12).sq, a2, _, rfl, _, rfl, pt, ps, _, _, rfl, rfl, (hp.same s12).sq, a1, (by show 6 ≤ sizeLine; decide), fun u nu => ?_⟩
    have s3 := same_new nu (.tup [.str "ask", .int (up : Nat), .int (k : Nat), .ref t, v1, v2])
    have k13 := kx_same (s12.trans s3)
    refine q _ _ (s12.trans s3) ?_
    exact .tup' upd_same (.cons (.at rfl) (.cons (.at rfl) (.cons (.at rfl) (.cons (.tup' (s3 _ _ ht) (ra2.mono (kx_same s3))) (.cons (rv1.mono k13) (.one (rv2.mono k13)))))))
end
end Pk

set_option maxRecDepth 100000
set_option maxHeartbeats 4000000
set_option pp.maxSteps 600
namespace Pk
open PySem PySem.Spec PyProof.Rows L2
/-! ### _side_by_side -/
section
variable {K : PySem.W.Frag}
theorem loop_w {J : It} {n : Nat} {G : Hp → Prop} {Y : Nat → Hp → V → Hp → Prop} (w : Walk J n G Y) {g : TG} {tt : TT} {rest : TR} {vs : List Nat} {σ : L2.St} {H : Hp} {Nx : Hp → Prop} (Pv : Nat → Hp → Prop) (h0 : Pv 0 H) (hG : ∀ i H, i ≤ n → Pv i H → G H)
    (hs : ∀ i x H H', i < n → Pv i H → Y i H x H' → g x (wipe σ vs) H' fun σ2 G2 => wipe σ2 vs = wipe σ vs ∧ tt σ2 G2 fun b G3 => if b = true then rest σ2 G3 (Pv (i + 1)) else Pv (i + 1) G3) (hd : ∀ H, Pv n H → Nx H) : tLoop g tt rest vs J σ H Nx :=
  loop_it Pv h0 (fun i H hi p => w.goes i H hi (hG i H (Nat.le_of_lt hi) p)) (fun H p => w.stops H (hG n H (Nat.le_refl _) p)) (fun i x A A' hi p y => hs i x A A' hi p (w.yields i A x A' hi (hG i A (Nat.le_of_lt hi) p) y)) hd
end
def fdD (p : List D × Nat) : D := .tup [.tup p.1, nD p.2]
def stepO (F : List D → Nat → List D) (k : List D) (p : List D × Nat) (few : Nat) : List (List D × Nat) := (F k few).map fun b => (p.1 ++ [b], p.2 - few)
def stepP (F : List D → Nat → List D) (k : List D) (p : List D × Nat) : List (List D × Nat) := (List.range (p.2 + 1)).flatMap (stepO F k p)
def stepL (F : List D → Nat → List D) (k : List D) (fd : List (List D × Nat)) : List (List D × Nat) := fd.flatMap (stepP F k)
def partL (F : List D → Nat → List D) : List (List D) → List (List D × Nat) → List (List D × Nat)
  | [], fd => fd
  | k :: ks, fd => partL F ks (stepL F k fd)
def okF (p : List D × Nat) : Option (List D) := if p.2 = 0 then some p.1 else none
theorem partL_app (F : List D → Nat → List D) : ∀ (a b : List (List D)) (fd : List (List D × Nat)), partL F (a ++ b) fd = partL F b (partL F a fd)
  | [], _, _ => rfl
  | k :: a, b, fd => partL_app F a b _
theorem flat_flat {α β γ : Type} (f : α → List β) (g : β → List γ) : ∀ l : List α, (l.flatMap f).flatMap g = l.flatMap fun a => (f a).flatMap g
  | [] => rfl
  | a :: l => by rw [List.flatMap_cons, List.flatMap_append, List.flatMap_cons, flat_flat f g l]
theorem flat_map {α β γ : Type} (f : α → β) (g : β → List γ) : ∀ l : List α, (l.map f).flatMap g = l.flatMap fun a => g (f a)
  | [] => rfl
  | a :: l => by rw [List.map_cons, List.flatMap_cons, List.flatMap_cons, flat_map f g l]
theorem map_flat {α β γ : Type} (f : α → List β) (g : β → γ) : ∀ l : List α, (l.flatMap f).map g = l.flatMap fun a => (f a).map g
  | [] => rfl
  | a :: l => by rw [List.flatMap_cons, List.map_append, List.flatMap_cons, map_flat f g l]
theorem part_fin (F : List D → Nat → List D) : ∀ (ks : List (List D)) (fd : List (List D × Nat)), (partL F ks fd).filterMap okF = fd.flatMap fun p => (sideL F ks p.2).map (p.1 ++ ·)
  | [], [] => rfl
  | [], p :: fd => by
    have ih := part_fin F [] fd
    show (p :: fd).filterMap okF = (sideL F [] p.2).map (p.1 ++ ·) ++ fd.flatMap fun p => (sideL F [] p.2).map (p.1 ++ ·)
    rw [← ih]
    show (p :: fd).filterMap okF = (if p.2 = 0 then [[]] else ([] : List (List D))).map (p.1 ++ ·) ++ fd.filterMap okF
    rw [List.filterMap_cons]
    unfold okF
    by_cases c : p.2 = 0
    · rw [if_pos c, if_pos c]
      show p.1 :: _ = [p.1 ++ []] ++ _
      rw [List.append_nil]; rfl
    · rw [if_neg c, if_neg c]; rfl
  | k :: ks, fd => by
    show (partL F ks (stepL F k fd)).filterMap okF = _
    rw [part_fin F ks]
    unfold stepL
    rw [flat_flat]
    refine flatMap_ext fun p _ => ?_
    unfold stepP
    rw [flat_flat]
    show _ = List.map (p.1 ++ ·) ((List.range (p.2 + 1)).flatMap fun few => (F k few).flatMap fun b => (sideL F ks (p.2 - few)).map (b :: ·))
    rw [map_flat]
    refine flatMap_ext fun few _ => ?_
    unfold stepO
    rw [flat_map, map_flat]
    refine flatMap_ext fun b _ => ?_
    rw [List.map_map]
    refine List.map_congr_left fun r _ => ?_
    show p.1 ++ [b] ++ r = p.1 ++ (b :: r)
    rw [List.append_assoc]; rfl
theorem part_le {F : List D → Nat → List D} {n : Nat} : ∀ {ks : List (List D)} {fd : List (List D × Nat)}, (∀ p, p ∈ fd → p.2 ≤ n) → ∀ p, p ∈ partL F ks fd → p.2 ≤ n
  | [], fd, h => h
  | k :: ks, fd, h => part_le (ks := ks) fun p hp => by
    obtain ⟨q, hq, h1⟩ := List.mem_flatMap.mp hp
    obtain ⟨few, _, h2⟩ := List.mem_flatMap.mp h1
    obtain ⟨b, _, rfl⟩ := List.mem_map.mp h2
    have := h q hq
    show q.2 - few ≤ n
    omega
theorem part_rows {F : List D → Nat → List D} : ∀ {ks : List (List D)} {fd : List (List D × Nat)} {c : Nat}, (∀ p, p ∈ fd → p.1.length ≤ c) → ∀ p, p ∈ partL F ks fd → p.1.length ≤ c + ks.length
  | [], fd, c, h => h
  | k :: ks, fd, c, h => fun p hp => by
    have := part_rows (ks := ks) (c := c + 1) (fun p hp => by
      obtain ⟨q, hq, h1⟩ := List.mem_flatMap.mp hp
      obtain ⟨few, _, h2⟩ := List.mem_flatMap.mp h1
      obtain ⟨b, _, rfl⟩ := List.mem_map.mp h2
      have := h q hq
      show (q.1 ++ [b]).length ≤ c + 1
      rw [List.length_append]
      exact Nat.succ_le_succ this) p hp
    rw [List.length_cons]; omega
theorem len_le_flat {α β : Type} {f : α → List β} : ∀ {l : List α}, (∀ a, a ∈ l → 1 ≤ (f a).length) → l.length ≤ (l.flatMap f).length
  | [], _ => Nat.le_refl _
  | a :: l, h => by
    rw [List.flatMap_cons, List.length_append, List.length_cons]
    have := h a (List.mem_cons_self ..)
    have := len_le_flat fun b hb => h b (List.mem_cons_of_mem _ hb)
    omega
theorem flat_len_le {α β : Type} {f : α → List β} {c : Nat} : ∀ {l : List α}, (∀ a, a ∈ l → (f a).length ≤ c) → (l.flatMap f).length ≤ l.length * c
  | [], _ => Nat.zero_le _
  | a :: l, h => by
    rw [List.flatMap_cons, List.length_append, List.length_cons, Nat.succ_mul]
    have := h a (List.mem_cons_self ..)
    have := flat_len_le fun b hb => h b (List.mem_cons_of_mem _ hb)
    omega
theorem sms_mem {k : List D} {r : Nat} : ∀ {parts : List (List D)} {n : Nat}, SmS parts n → k ∈ parts → r ≤ n → nbd (flt k) r ≤ 2000
  | k' :: ks, n, h, hk, hr => by
    rcases List.mem_cons.mp hk with rfl | hk
    · exact h.head hr
    · exact sms_mem (h.tail (Nat.le_refl _)) hk hr
/-- the last of some parts can be given any number of asks -/
def PosS (parts : List (List D)) : Prop := ∃ front k, parts = front ++ [k] ∧ flt k ≠ []
theorem pos_drop {parts : List (List D)} (h : PosS parts) {i : Nat} (hi : i < parts.length) (r : Nat) : 1 ≤ sfc (parts.drop i) r := by
  obtain ⟨front, k, rfl, hk⟩ := h
  rw [List.length_append] at hi
  rw [List.drop_append_of_le_length (by have : [k].length = 1 := rfl; omega), sfc_snoc]
  refine Nat.le_trans ?_ (cv_geL _ _ r)
  have a := sfc_zero (front.drop i)
  have b := nbd_pos hk r
  exact Nat.mul_le_mul a (Nat.le_trans (by decide : 1 ≤ 3) b)
theorem part_few {parts : List (List D)} {n i : Nat} (hs : SmS parts n) (hp : PosS parts) (hi : i < parts.length) : (partL (bds true) (parts.take i) [([], n)]).length ≤ 2000 := by
  have e := part_fin (bds true) (parts.drop i) (partL (bds true) (parts.take i) [([], n)])
  rw [← partL_app, List.take_append_drop, part_fin] at e
  have l := congrArg List.length e
  have one : ([([], n)] : List (List D × Nat)).flatMap (fun p => (sideL (bds true) parts p.2).map (p.1 ++ ·)) = sideL (bds true) parts n := by
    rw [List.flatMap_cons, List.flatMap_nil, List.append_nil]
    exact List.map_id' _
  rw [one, side_len] at l
  have h := hs n (Nat.le_refl _)
  have g := len_le_flat (f := fun p : List D × Nat => (sideL (bds true) (parts.drop i) p.2).map (p.1 ++ ·)) (l := partL (bds true) (parts.take i) [([], n)]) fun p hp' => by
    rw [List.length_map, side_len]
    exact pos_drop hp hi _
  omega
theorem stepO_len {k : List D} {p : List D × Nat} {few : Nat} : (stepO (bds true) k p few).length = nbd (flt k) few := by
  unfold stepO
  rw [List.length_map, bds_len]
theorem step_len {parts : List (List D)} {n i : Nat} {k : List D} (hs : SmS parts n) (hp : PosS parts) (hn : n ≤ 3) (hk : parts[i]? = some k) : (stepL (bds true) k (partL (bds true) (parts.take i) [([], n)])).length ≤ 16000000 := by
  have hi := (List.getElem?_eq_some_iff.mp hk).1
  have a := part_few hs hp hi
  have km := List.mem_of_getElem? hk
  refine Nat.le_trans (flat_len_le (c := 8000) fun p hp' => ?_) (by omega)
  have hp2 : p.2 ≤ n := part_le (fun q hq => by rw [List.mem_singleton.mp hq]; exact Nat.le_refl _) p hp'
  refine Nat.le_trans (flat_len_le (c := 2000) fun few hf => ?_) (by rw [List.length_range]; omega)
  have hf' := List.mem_range.mp hf
  rw [stepO_len]
  exact sms_mem hs km (by omega)
theorem flat_pre {α β : Type} {f : α → List β} {l : List α} {i : Nat} {x : α} (h : l[i]? = some x) : ((l.take i).flatMap f).length + (f x).length ≤ (l.flatMap f).length := by
  have e := congrArg (fun l => (l.flatMap f).length) (split_at h)
  have e' : (l.flatMap f).length = ((l.take i ++ x :: l.drop (i + 1)).flatMap f).length := e
  rw [List.flatMap_append, List.flatMap_cons, List.length_append, List.length_append] at e'
  omega
theorem range_pre {β : Type} {f : Nat → List β} {n i : Nat} (h : i < n) : ((List.range i).flatMap f).length + (f i).length ≤ ((List.range n).flatMap f).length := by
  have e := flat_pre (f := f) (List.getElem?_range h)
  rw [List.take_range, Nat.min_eq_left (by omega)] at e
  exact e
section
variable {P : Program} {w : World} {K : PySem.W.Frag} {mg : Str → Option Value} {base : Heap}
def spBds (K : PySem.W.Frag) (n : Nat) : Sp := fun vs H Q _ => ∃ (v : V) (ks : List D) (m : Nat), vs = [v, .int ((m : Nat) : Int)] ∧ m < n ∧ m ≤ 3 ∧ Rep K H v (.tup ks) ∧ OkC m ks ∧ nbd (flt ks) m ≤ 2000 ∧
  ∀ (a : Addr) (xs : List V) (H' : Hp), H a = none → Same H H' → H' a = some (.lst xs) → Reps K H' xs (bds true ks m) → Q (.ref a) H'
def spSbs (K : PySem.W.Frag) (n : Nat) : Sp := fun vs H Q _ => ∃ (a : Addr) (xs : List V) (parts : List (List D)) (m : Nat), vs = [.ref a, .int ((m : Nat) : Int)] ∧ m < n ∧ m ≤ 3 ∧ H a = some (.lst xs) ∧ Reps K H xs (parts.map .tup) ∧ (∀ k, k ∈ parts → OkC m k) ∧ SmS parts m ∧ PosS parts ∧ parts.length ≤ 100 ∧
  ∀ (b : Addr) (ys : List V) (H' : Hp), H b = none → Same H H' → H' b = some (.lst ys) → Reps K H' ys ((sideL (bds true) parts m).map .tup) → Q (.ref b) H'
/-- lists of bodies, by their asks -/
def ChAt (K : PySem.W.Frag) (H : Hp) (k : List D) (cs : List V) : Prop := ∀ i, i < cs.length → ∃ c ys, cs[i]? = some (.ref c) ∧ H c = some (.lst ys) ∧ Reps K H ys (bds true k i)
theorem ChAt.same {H H' : Hp} {k : List D} {cs : List V} (h : ChAt K H k cs) (s : Same H H') : ChAt K H' k cs := fun i hi => by
  obtain ⟨c, ys, e, hc, r⟩ := h i hi
  exact ⟨c, ys, e, s _ _ hc, r.mono (kx_same s)⟩
end
end Pk

set_option maxRecDepth 100000
set_option maxHeartbeats 4000000
set_option pp.maxSteps 600
namespace Pk
open PySem PySem.Spec PyProof.Rows L2
section
variable {P : Program} {w : World} {K : PySem.W.Frag} {mg : Str → Option Value} {base : Heap}
theorem ok_sbs {n j : Nat} {f f2 : Addr} {fd f2d : FuncData} (D__side_by_side : Df K mg "_side_by_side" s__side_by_side ["within", "many"] f fd) (D__bodies : Df K mg "_bodies" s__bodies ["kinds", "many"] f2 f2d) (B : Bt mg)
    (G__bodies : FnOk P w K mg base CX0 (j + 1) f2 f2d ["kinds", "many"] (spBds K n)) : FnOk P w K mg base CX0 (j + 2) f fd ["within", "many"] (spSbs K n) := by
  refine D__side_by_side.ok c__side_by_side (fun vs H Q E h => ?_) (fun cdv A outer s H vs Q E hr h => ?_)
  · obtain ⟨a, xs, parts, m, rfl, _⟩ := h
    rfl
  obtain ⟨a, xs, parts, m, rfl, hmn, h3, ha, rxs, hok, hs, hpos, hpl, q⟩ := h
  have nd := c__side_by_side.nd
  have lx := rxs.length
  rw [List.length_map] at lx
  refine ⟨_, (pss_cons (ps_set (i := 2) nd rfl (Or.inl rfl) (pe_lst (pa_cons (pe_tup (pa_cons (pe_tup pa_nil) (pa_cons (pv 1) pa_nil))) pa_nil)))
  (pss_cons (ps_for PassesOwn.never rfl (pi_list (pv 0)) (pg_name (i := 3) nd rfl (Or.inr rfl)) (pss_cons (ps_set (i := 4) nd rfl (Or.inr rfl) (pe_lc (own := [("few", 7)]) (g := (gName 7)) (tt := tYes) rfl nd (pi_range1 (by rfl) B.b_range (pa_cons (pe_op op_add (pv 1) pe_int) pa_nil)) (blkOk_by (own := [("few", 7)]) (N := ["within", "many", "found", "kinds", "choices", "parts", "left", "few", "body"]) (sc := defScope s__side_by_side) (by decide +kernel)) (fun _ _ _ _ _ => (pg_name (i := 7) nd rfl (Or.inl rfl))) (fun _ _ _ _ _ => pts_nil) (fun _ _ _ _ _ => (pe_call G__bodies (hr.mono (by first | decide | omega)) (by rfl) D__bodies.m D__bodies.kp D__bodies.b .nil pass0 (pa_cons (pv 3) (pa_cons (pv 7) pa_nil))))))
  (pss_one (ps_setLcN (i := 2) (own := [("parts", 5), ("left", 6), ("few", 7), ("body", 8)]) rfl nd rfl rfl (sw_true rfl rfl rfl (by decide +kernel)) (pi_list (pv 2)) (blkOk_by (own := [("parts", 5), ("left", 6), ("few", 7), ("body", 8)]) (N := ["within", "many", "found", "kinds", "choices", "parts", "left", "few", "body"]) (sc := defScope s__side_by_side) (by decide +kernel)) (lp3 (vs1 := [7, 8]) (vs2 := [8]) (g := (gTup K 2 (gCons (gName 5) (gCons (gName 6) gNil)))) (g1 := (gName 7)) (g2 := (gName 8)) (tt := tYes) (tt1 := tYes) (tt2 := tYes) rfl (by decide) (by decide) (fun _ _ _ _ _ => (pg_tup rfl (pgs_cons (pg_name (i := 5) nd rfl (Or.inl rfl)) (pgs_cons (pg_name (i := 6) nd rfl (Or.inl rfl)) pgs_nil)))) (fun _ _ _ _ _ => pts_nil) (fun _ _ _ _ _ => (pi_range1 (by rfl) B.b_range (pa_cons (pe_op op_add (pv 6) pe_int) pa_nil))) (fun _ _ _ _ _ => (pg_name (i := 7) nd rfl (Or.inl rfl))) (fun _ _ _ _ _ => pts_nil) (fun _ _ _ _ _ => (show PI _ _ _ (iList K _) from pi_list (pe_ix (show IxR _ (rIxL K) from ix_list) (pv 4) (pv 7) (fun _ _ => rfl)))) (fun _ _ _ _ _ => (pg_name (i := 8) nd rfl (Or.inl rfl))) (fun _ _ _ _ _ => pts_nil) (fun _ _ _ _ _ => (pe_tup (pa_cons (pe_op (show OpR _ (binaryOp .Add) (rCatP K) from op_catP) (pv 5) (pe_tup (pa_cons (pv 8) pa_nil))) (pa_cons (pe_op op_sub (pv 6) (pv 7)) pa_nil)))))))))
  (pss_one (ps_ret (pe_lc (own := [("parts", 5), ("left", 6)]) (g := (gTup K 2 (gCons (gName 5) (gCons (gName 6) gNil)))) (tt := _) rfl nd (pi_list (pv 2)) (blkOk_by (own := [("parts", 5), ("left", 6)]) (N := ["within", "many", "found", "kinds", "choices", "parts", "left", "few", "body"]) (sc := defScope s__side_by_side) (by decide +kernel)) (fun _ _ _ _ _ => (pg_tup rfl (pgs_cons (pg_name (i := 5) nd rfl (Or.inl rfl)) (pgs_cons (pg_name (i := 6) nd rfl (Or.inl rfl)) pgs_nil)))) (fun _ _ _ _ _ => (pts_one (pt_cmpR op_eq (pv 6) pe_int (nomark _)))) (fun _ _ _ _ _ => (pv 5))))))), ?_⟩
  refine ⟨by decide, fun e0 n0 => ⟨_, rfl, (by show 2 ≤ sizeLine; decide), fun t0 nt0 => ⟨(by show 1 ≤ sizeLine; decide), fun l0 nl0 => ?_⟩⟩⟩
  have s0 : Same H (upd (upd (upd H e0 (.tup [])) t0 (.tup [.ref e0, .int ((m : Nat) : Int)])) l0 (.lst [.ref t0])) := ((same_new n0 _).trans (same_new nt0 _)).trans (same_new nl0 _)
  have hl0 : (upd (upd (upd H e0 (.tup [])) t0 (.tup [.ref e0, .int ((m : Nat) : Int)])) l0 (.lst [.ref t0])) l0 = some (.lst [.ref t0]) := upd_same
  have r0 : Reps K (upd (upd (upd H e0 (.tup [])) t0 (.tup [.ref e0, .int ((m : Nat) : Int)])) l0 (.lst [.ref t0])) [.ref t0] ([([], m)].map fdD) := .one (.tup' (same_new nl0 _ _ _ upd_same) (.cons (.tup' (same_new nl0 _ _ _ (same_new nt0 _ _ _ upd_same)) .nil) (.one (.at rfl))))
  have f0 : H l0 = none := new_none ((same_new n0 (.tup [])).trans (same_new nt0 _)) nl0
  generalize (upd (upd (upd H e0 (.tup [])) t0 (.tup [.ref e0, .int ((m : Nat) : Int)])) l0 (.lst [.ref t0])) = H0 at s0 hl0 r0 ⊢
  refine ⟨_, rfl, a, rfl, ⟨_, SqL.of (s0 _ _ ha)⟩, for_list (K := K) (a := a) (xs := xs) (fun i σ H' => ∃ (fp : Addr) (fxs : List V) (y3 y4 y5 y6 y7 y8 : Option V), σ = [some (.ref a), some (.int ((m : Nat) : Int)), some (.ref fp), y3, y4, y5, y6, y7, y8] ∧ Same H0 H' ∧ H' fp = some (.lst fxs) ∧ Reps K H' fxs ((partL (bds true) (parts.take i) [([], m)]).map fdD))
    ⟨l0, _, none, none, none, none, none, none, rfl, Same.refl _, hl0, r0⟩ (fun i σ H' _ ⟨_, _, _, _, _, _, _, _, _, sm, _⟩ => SqL.of (sm _ _ (s0 _ _ ha))) ?_ ?_⟩
  · rintro i x σ H6 hx ⟨fp, fxs, y3, y4, y5, y6, y7, y8, rfl, s6, hfp, rf⟩
    obtain ⟨kd, hkd, rx⟩ := (rxs.mono (kx_same (s0.trans s6))).get hx
    rw [List.getElem?_map] at hkd
    cases hk : parts[i]? with
    | none => rw [hk] at hkd; cases hkd
    | some k =>
    rw [hk] at hkd
    cases hkd
    have km := List.mem_of_getElem? hk
    refine ⟨_, rfl, _, _, rfl, rfl, _, rfl, by omega, by omega, fun el nel => ?_⟩
    refine lc_it walk_range (fun t H' => Same H6 H' ∧ ∃ cs, H' el = some (.lst cs) ∧ cs.length = t ∧ ChAt K H' k cs ∧ ∀ c, V.ref c ∈ cs → c ≠ el) ⟨same_new nel _, [], upd_same, rfl, fun i hi => (by cases hi), fun c hc => (by cases hc)⟩ (fun _ _ _ _ => trivial) ?_ ?_
    · rintro t x7 H7 H7' ht ⟨s7, cs, hel, lcs, ch, nin⟩ ⟨rfl, rfl⟩
      have htm : t ≤ m := by omega
      have e0 : (0 : Int) + ((t : Nat) : Int) = ((t : Nat) : Int) := by omega
      refine ⟨rfl, ?_⟩
      refine ⟨_, rfl, _, rfl, x, k, t, by show [x, V.int ((0 : Int) + ((t : Nat) : Int))] = _; rw [e0], by omega, by omega, rx.mono (kx_same s7), (hok k km).le htm, sms_mem hs km htm, fun c ys H8 nc s8 hc r8 => ?_⟩
      have nce : c ≠ el := fun z => by rw [z, hel] at nc; cases nc
      have kl := kx_list (s8 _ _ hel) (cs ++ [.ref c])
      refine ⟨cs, s8 _ _ hel, small6 (by omega), fun z o e => by rw [upd_ne (ne_of_none e nel)]; exact s8 _ _ (s7 _ _ e), cs ++ [.ref c], upd_same, by rw [List.length_append, lcs]; rfl, fun i hi => ?_, fun c' hc' => ?_⟩
      rotate_left
      · rcases List.mem_append.mp hc' with z | z
        · exact nin c' z
        · have := List.mem_singleton.mp z
          injection this with this
          rw [this]; exact nce
      rw [List.length_append] at hi
      have hi' : i < cs.length + 1 := hi
      by_cases lt : i < cs.length
      · obtain ⟨c', ys', g1, g2, g3⟩ := ch i lt
        have nce' : c' ≠ el := nin c' (List.mem_of_getElem? g1)
        exact ⟨c', ys', by rw [List.getElem?_append_left lt]; exact g1, by rw [upd_ne nce']; exact s8 _ _ g2, (g3.mono (kx_same s8)).mono kl⟩
      · obtain rfl : i = cs.length := by omega
        refine ⟨c, ys, by rw [List.getElem?_append_right (Nat.le_refl _), Nat.sub_self]; rfl, by rw [upd_ne nce]; exact hc, ?_⟩
        rw [lcs]
        exact r8.mono kl
    · rintro H7 ⟨s7, cs, hel, lcs, ch, nin⟩
      have lcs' : cs.length = m + 1 := by rw [lcs]; omega
      have s67 := s6.trans s7
      have hfp7 := s7 _ _ hfp
      have rf7 := rf.mono (kx_same s7)
      have hT := step_len hs hpos h3 hk
      generalize hfd : partL (bds true) (parts.take i) [([], m)] = fd at rf7 hT
      have lef : ∀ p, p ∈ fd → p.2 ≤ m := fun p hp => part_le (F := bds true) (ks := parts.take i) (fd := [([], m)]) (fun q hq => by rw [List.mem_singleton.mp hq]; exact Nat.le_refl m) p (by rw [hfd]; exact hp)
      have enx : partL (bds true) (parts.take (i + 1)) [([], m)] = stepL (bds true) k fd := by
        rw [List.take_add_one, hk, ← hfd, partL_app]; rfl
      have lfx := rf7.length
      rw [List.length_map] at lfx
      refine ⟨_, rfl, fp, rfl, ⟨_, SqL.of hfp7⟩, fun dl ndl => ?_⟩
      show tLoop _ _ _ _ _ [some (.ref a), some (.int ((m : Nat) : Int)), some (.ref fp), some x, some (.ref el), none, none, none, none] _ _
      refine loop_w walk_list (fun e H' => Same H7 H' ∧ ∃ acc, H' dl = some (.lst acc) ∧ Reps K H' acc (((fd.take e).flatMap (stepP (bds true) k)).map fdD)) ⟨same_new ndl _, [], upd_same, .nil⟩ (fun e H' _ h => SqL.of (h.1 _ _ hfp7)) ?_ ?_
      · rintro e x8 H8 H8' he ⟨s8, acc, hdl, ra⟩ ⟨rfl, hx8⟩
        obtain ⟨pd, hpd, rx8⟩ := rf7.get hx8
        rw [List.getElem?_map] at hpd
        cases hp : fd[e]? with
        | none => rw [hp] at hpd; cases hpd
        | some p =>
        rw [hp] at hpd
        cases hpd
        have hp2 := lef p (List.mem_of_getElem? hp)
        have hp1 : p.1.length ≤ 100 := by
          have h := part_rows (F := bds true) (ks := parts.take i) (fd := [([], m)]) (c := 0) (fun q hq => by rw [List.mem_singleton.mp hq]; exact Nat.le_refl 0) p (by rw [hfd]; exact List.mem_of_getElem? hp)
          rw [List.length_take] at h
          omega
        obtain ⟨T, txs, rfl, hT8, rt⟩ := Rep.inv (ts := [.tup p.1, nD p.2]) rx8
        obtain ⟨pv, rfl, rp1⟩ : ∃ pv, txs = [pv, .int ((p.2 : Nat) : Int)] ∧ Rep K H7 pv (.tup p.1) := by
          cases rt with
          | cons r1 rt =>
            cases rt with
            | cons r2 rt =>
              cases rt
              obtain ⟨rfl, _⟩ := Rep.inva r2
              exact ⟨_, rfl, r1⟩
        obtain ⟨pt, pxs, rfl, hpt, rpx⟩ := rp1.inv
        refine ⟨T, _, rfl, (hT8.same s8).sq, rfl, _, _, rfl, _, _, rfl, rfl, ?_⟩
        refine ⟨rfl, ?_⟩
        refine ⟨_, rfl, _, _, rfl, rfl, _, rfl, by omega, by omega, ?_⟩
        have preP := flat_pre (f := stepP (bds true) k) hp
        show tLoop _ _ _ _ _ [some (.ref a), some (.int ((m : Nat) : Int)), some (.ref fp), some x, some (.ref el), some (.ref pt), some (.int ((p.2 : Nat) : Int)), none, none] _ _
        refine loop_w walk_range (fun few H' => Same H7 H' ∧ ∃ acc, H' dl = some (.lst acc) ∧ Reps K H' acc (((fd.take e).flatMap (stepP (bds true) k) ++ (List.range few).flatMap (stepO (bds true) k p)).map fdD)) ⟨s8, acc, hdl, by rw [show (List.range 0).flatMap (stepO (bds true) k p) = [] from rfl, List.append_nil]; exact ra⟩ (fun _ _ _ _ => trivial) ?_ ?_
        · rintro few x9 H9 H9' hf ⟨s9, acc9, hdl9, ra9⟩ ⟨rfl, rfl⟩
          have hf' : few ≤ p.2 := by omega
          have e9 : (0 : Int) + ((few : Nat) : Int) = ((few : Nat) : Int) := by omega
          obtain ⟨c, cys, hcs, hc, rc⟩ := ch few (by omega)
          have lrc := rc.length
          have preO := range_pre (f := stepO (bds true) k p) (n := p.2 + 1) (i := few) (by omega)
          rw [stepO_len] at preO
          refine ⟨rfl, ?_⟩
          refine ⟨_, rfl, _, rfl, el, cs, _, _, rfl, rfl, SqL.of (s9 _ _ hel), by rw [e9]; exact atI_nat hcs, c, rfl, ⟨_, SqL.of (s9 _ _ hc)⟩, ?_⟩
          show tLoop _ _ _ _ _ [some (.ref a), some (.int ((m : Nat) : Int)), some (.ref fp), some x, some (.ref el), some (.ref pt), some (.int ((p.2 : Nat) : Int)), some (.int (0 + ((few : Nat) : Int))), none] _ _
          refine loop_w walk_list (fun b H' => Same H7 H' ∧ ∃ acc, H' dl = some (.lst acc) ∧ Reps K H' acc (((fd.take e).flatMap (stepP (bds true) k) ++ (List.range few).flatMap (stepO (bds true) k p) ++ (((bds true k few).take b).map fun d => (p.1 ++ [d], p.2 - few))).map fdD)) ⟨s9, acc9, hdl9, by rw [List.take_zero, List.map_nil, List.append_nil]; exact ra9⟩ (fun _ H' _ h => SqL.of (h.1 _ _ hc)) ?_ ?_
          · rintro b x10 G G' hb ⟨sG, accG, hdG, raG⟩ ⟨rfl, hx10⟩
            obtain ⟨bd, hbd, rx10⟩ := (rc.mono (kx_same sG)).get hx10
            have s8G := sG
            refine ⟨rfl, ?_⟩
            refine ⟨_, rfl, _, rfl, (by show 1 ≤ sizeLine; decide), fun t1 nt1 => ⟨pt, t1, pxs, [x10], rfl, rfl, (hpt.same s8G).same (same_new nt1 _), .inl upd_same, small6' ?_, fun c2 G2 sG2 tc => ⟨_, rfl, _, rfl, _, _, rfl, rfl, (by show 2 ≤ sizeLine; decide), fun t2 nt2 => ?_⟩⟩⟩
            · have := rpx.length
              show pxs.length + 1 ≤ 1000000
              omega
            · have hGG := (same_new nt1 (.tup [x10])).trans (sG2.trans (same_new nt2 (.tup [.ref c2, .int ((p.2 : Int) - (0 + (few : Int)))])))
              have lra := raG.length
              have kl := kx_list (hGG _ _ hdG) (accG ++ [.ref t2])
              refine ⟨accG, hGG _ _ hdG, ?_, fun z o ez => ?_, accG ++ [.ref t2], upd_same, ?_⟩
              · rw [List.length_map, List.length_append, List.length_append, List.length_map, List.length_take] at lra
                have hT' : (List.flatMap (stepP (bds true) k) fd).length ≤ 16000000 := hT
                have preP' : (List.flatMap (stepP (bds true) k) (List.take e fd)).length + ((List.range (p.2 + 1)).flatMap (stepO (bds true) k p)).length ≤ (List.flatMap (stepP (bds true) k) fd).length := preP
                have lb := bds_len true k few
                rw [sizeLine_eq]
                omega
              · rw [upd_ne (ne_of_none ez ndl)]
                exact hGG _ _ (sG _ _ ez)
              · have et : (bds true k few).take (b + 1) = (bds true k few).take b ++ [bd] := by rw [List.take_add_one, hbd]; rfl
                have e5 : (List.flatMap (stepP (bds true) k) (List.take e fd) ++ List.flatMap (stepO (bds true) k p) (List.range few) ++ ((bds true k few).take b ++ [bd]).map (fun d => (p.1 ++ [d], p.2 - few))).map fdD = (List.flatMap (stepP (bds true) k) (List.take e fd) ++ List.flatMap (stepO (bds true) k p) (List.range few) ++ ((bds true k few).take b).map (fun d => (p.1 ++ [d], p.2 - few))).map fdD ++ [fdD (p.1 ++ [bd], p.2 - few)] := by
                  simp only [List.map_append, List.map_cons, List.map_nil, List.append_assoc]
                rw [et, e5]
                refine ((raG.mono (kx_same hGG)).mono kl).append (.one (Rep.mono kl ?_))
                have ed : ((p.2 : Nat) : Int) - (0 + ((few : Nat) : Int)) = ((p.2 - few : Nat) : Int) := by omega
                refine .tup' upd_same (.cons (.tup (tc.same (same_new nt2 _)) ((rpx.mono (kx_same (s8G.trans hGG))).append (.one (rx10.mono (kx_same hGG))))) (.one ?_))
                show Rep K _ (V.int (((p.2 : Nat) : Int) - (0 + ((few : Nat) : Int)))) (nD (p.2 - few))
                rw [ed]
                exact .at rfl
          · rintro G ⟨sG, accG, hdG, raG⟩
            rw [lrc, List.take_length] at raG
            refine ⟨sG, accG, hdG, ?_⟩
            rw [List.range_succ, List.flatMap_append, ← List.append_assoc]
            have e1 : [few].flatMap (stepO (bds true) k p) = (bds true k few).map fun d => (p.1 ++ [d], p.2 - few) := by rw [List.flatMap_cons, List.flatMap_nil, List.append_nil]; rfl
            rw [e1]
            exact raG
        · rintro G ⟨sG, accG, hdG, raG⟩
          have en : (((p.2 : Nat) : Int) + 1).toNat = p.2 + 1 := by omega
          rw [en] at raG
          refine ⟨sG, accG, hdG, ?_⟩
          rw [List.take_add_one, hp, List.flatMap_append]
          have e1 : (some p).toList.flatMap (stepP (bds true) k) = (List.range (p.2 + 1)).flatMap (stepO (bds true) k p) := by
            show [p].flatMap (stepP (bds true) k) = _
            rw [List.flatMap_cons, List.flatMap_nil, List.append_nil]; rfl
          rw [e1]
          exact raG
      · rintro G ⟨sG, accG, hdG, raG⟩
        rw [lfx, List.take_length] at raG
        refine ⟨dl, accG, _, _, _, _, _, _, rfl, s67.trans sG, hdG, ?_⟩
        rw [enx]
        exact raG
  · rintro σ H6 ⟨fp, fxs, y3, y4, y5, y6, y7, y8, rfl, s6, hfp, rf⟩
    rw [lx, List.take_length] at rf
    have lfx := rf.length
    rw [List.length_map] at lfx
    refine ⟨_, rfl, fp, rfl, ⟨_, SqL.of hfp⟩, fun dl ndl => ?_⟩
    have fin := part_fin (bds true) parts [([], m)]
    have one : ([([], m)] : List (List D × Nat)).flatMap (fun p => (sideL (bds true) parts p.2).map (p.1 ++ ·)) = sideL (bds true) parts m := by
      rw [List.flatMap_cons, List.flatMap_nil, List.append_nil]
      exact List.map_id' _
    rw [one] at fin
    have hL : (sideL (bds true) parts m).length ≤ 2000 := by rw [side_len]; exact hs m (Nat.le_refl _)
    generalize partL (bds true) parts [([], m)] = fd at rf fin lfx
    refine lc_it walk_list (fun e H' => Same H6 H' ∧ ∃ acc, H' dl = some (.lst acc) ∧ Reps K H' acc (((fd.take e).filterMap okF).map .tup)) ⟨same_new ndl _, [], upd_same, .nil⟩ (fun e H' _ h => SqL.of (h.1 _ _ hfp)) ?_ ?_
    · rintro e x8 H8 H8' he ⟨s8, acc, hdl, ra⟩ ⟨rfl, hx8⟩
      obtain ⟨pd, hpd, rx8⟩ := (rf.mono (kx_same s8)).get hx8
      rw [List.getElem?_map] at hpd
      cases hp : fd[e]? with
      | none => rw [hp] at hpd; cases hpd
      | some p =>
      rw [hp] at hpd
      cases hpd
      obtain ⟨T, txs, rfl, hT8, rt⟩ := Rep.inv (ts := [.tup p.1, nD p.2]) rx8
      obtain ⟨pv, rfl, rp1⟩ : ∃ pv, txs = [pv, .int ((p.2 : Nat) : Int)] ∧ Rep K H8' pv (.tup p.1) := by
        cases rt with
        | cons r1 rt =>
          cases rt with
          | cons r2 rt =>
            cases rt
            obtain ⟨rfl, _⟩ := Rep.inva r2
            exact ⟨_, rfl, r1⟩
      obtain ⟨pt, pxs, rfl, hpt, rpx⟩ := rp1.inv
      have et : ((fd.take (e + 1)).filterMap okF) = ((fd.take e).filterMap okF) ++ (if p.2 = 0 then [p.1] else []) := by
        rw [List.take_add_one, hp, List.filterMap_append]
        congr 1
        show [p].filterMap okF = _
        rw [List.filterMap_cons]
        unfold okF
        by_cases c : p.2 = 0
        · rw [if_pos c, if_pos c]; rfl
        · rw [if_neg c, if_neg c]; rfl
      refine ⟨T, _, rfl, hT8.sq, rfl, _, _, rfl, _, _, rfl, rfl, ?_⟩
      refine ⟨rfl, ?_⟩
      refine ⟨_, rfl, rfl, _, rfl, ite2 (fun z => ?_) (fun z => ?_)⟩
      · have p0 : p.2 = 0 := by
          have := V.int.inj (of_decide_eq_true z)
          omega
        have lra := ra.length
        have hpre : ((fd.take e).filterMap okF).length ≤ 2000 := by
          rw [← fin] at hL
          refine Nat.le_trans ?_ hL
          exact List.Sublist.length_le (List.Sublist.filterMap okF (List.take_sublist e fd))
        rw [List.length_map] at lra
        have kl := kx_list hdl (acc ++ [.ref pt])
        refine ⟨_, rfl, acc, hdl, small6 (by omega), fun z o ez => by rw [upd_ne (ne_of_none ez ndl)]; exact s8 _ _ ez, acc ++ [.ref pt], upd_same, ?_⟩
        rw [et, if_pos p0, List.map_append]
        exact (ra.mono kl).append (.one (.tup (hpt.kx kl) (rpx.mono kl)))
      · have p0 : p.2 ≠ 0 := fun e => by
          refine z ?_
          rw [e]; rfl
        refine ⟨s8, acc, hdl, ?_⟩
        rw [et, if_neg p0, List.append_nil]
        exact ra
    · rintro H7 ⟨s7, acc, hdl, ra⟩
      rw [lfx, List.take_length, fin] at ra
      exact q dl acc H7 (new_none (s0.trans s6) ndl) (s0.trans (s6.trans s7)) hdl ra
end
end Pk

set_option maxRecDepth 100000
set_option maxHeartbeats 4000000
set_option pp.maxSteps 600
namespace Pk
open PySem PySem.Spec PyProof.Rows L2
/-! ### _bodies -/
theorem zip_get {l : List D} {i : Nat} {x : D} (h : l[i]? = some x) : l.zipIdx[i]? = some (x, i) := by
  rw [List.getElem?_zipIdx, h]
  show some (x, 0 + i) = _
  rw [Nat.zero_add]
theorem walk_enT {K : PySem.W.Frag} {a : Addr} {xs : List V} : Walk (Itet K a) xs.length (fun H => SqT K H a xs) (YPair (fun i => some (.int (i : Nat))) (fun i => xs[i]?)) :=
  ⟨fun i _ hi q => ⟨xs, xs[i], q, List.getElem?_eq_getElem hi⟩, fun _ q => ⟨xs, q, Nat.le_refl _⟩, fun i H v H' _ q y => by
    obtain ⟨T, x, h1, h2, h3, h4⟩ := y
    exact ⟨T, .int (i : Nat), x, h1, h2, h3, rfl, h4 xs q⟩⟩
section
variable {P : Program} {w : World} {K : PySem.W.Frag} {mg : Str → Option Value} {base : Heap}
theorem ok_bod {n j : Nat} {f f2 f3 : Addr} {fd f2d f3d : FuncData} (D__bodies : Df K mg "_bodies" s__bodies ["kinds", "many"] f fd) (D__side_by_side : Df K mg "_side_by_side" s__side_by_side ["within", "many"] f2 f2d) (D_body_of : Df K mg "body_of" s_body_of ["note", "parts"] f3 f3d) (B : Bt mg) {en : Addr} (hEN : mg "_ENDS" = some (.ref en)) (hE : ∀ H, Rep K H (.ref en) (.tup ends))
    (G__side_by_side : FnOk P w K mg base CX0 (j + 2) f2 f2d ["within", "many"] (spSbs K n)) : FnOk P w K mg base CX0 (j + 3) f fd ["kinds", "many"] (spBds K (n + 1)) := by
  have G_body_of : FnOk P w K mg base CX0 1 f3 f3d ["note", "parts"] (spBo K) := ok_bo D_body_of B
  refine D__bodies.ok c__bodies (fun vs H Q E h => ?_) (fun cdv A outer s H vs Q E hr h => ?_)
  · obtain ⟨v, ks, m, rfl, _⟩ := h
    rfl
  obtain ⟨v, ks, m, rfl, hmn, h3, rv, ok, hsm, q⟩ := h
  have nd := c__bodies.nd
  refine ⟨_, (pss_cons (ps_if (pt_cmpR op_eq (pv 1) pe_int (nomark _)) (pss_one (ps_ret (pe_callTy call_list_of (by rfl) B.b_list (by decide +kernel) (pa_cons (pe_glob rfl hEN (rel_ref _)) pa_nil)))) pss_nil)
  (pss_cons (ps_set (i := 2) nd rfl (Or.inl rfl) (pe_lst pa_nil))
  (pss_cons (ps_for PassesOwn.never rfl (pi_enumT (by rfl) B.b_enumerate (pa_cons (pe_revT (pv 0)) pa_nil)) (pg_tup rfl (pgs_cons (pg_name (i := 3) nd rfl (Or.inr rfl)) (pgs_cons (pg_name (i := 4) nd rfl (Or.inl rfl)) pgs_nil))) (pss_one (ps_for PassesOwn.never rfl (pi_enumT (by rfl) B.b_enumerate (pa_cons (pv 4) pa_nil)) (pg_tup rfl (pgs_cons (pg_name (i := 5) nd rfl (Or.inr rfl)) (pgs_cons (pg_name (i := 6) nd rfl (Or.inr rfl)) pgs_nil))) (pss_cons (ps_set (i := 7) nd rfl (Or.inl rfl) (pe_op op_cat (pe_lc (own := [("inner", 8)]) (g := (gName 8)) (tt := tYes) rfl nd (pi_tup (pv 6)) (blkOk_by (own := [("inner", 8)]) (N := ["kinds", "many", "found", "up", "kind", "k", "asked", "within", "inner", "parts"]) (sc := defScope s__bodies) (by decide +kernel)) (fun _ _ _ _ _ => (pg_name (i := 8) nd rfl (Or.inl rfl))) (fun _ _ _ _ _ => pts_nil) (fun _ _ _ _ _ => (pe_op (show OpR _ (binaryOp .Add) (rCatP K) from op_catP) (pv 0) (pe_tup (pa_cons (pv 8) pa_nil))))) (pe_lst (pa_cons (pv 0) (pa_cons (pv 0) pa_nil)))))
  (pss_one (ps_expr (pe_bm PySem.F.plainAttrs_list PySem.F.slot_list_extend PySem.F.type_list_extend mt_extend (pv 2) (pa_cons (pe_lc (own := [("parts", 9)]) (g := (gName 9)) (tt := tYes) rfl nd (pi_list (pe_call G__side_by_side (hr.mono (by first | decide | omega)) (by rfl) D__side_by_side.m D__side_by_side.kp D__side_by_side.b .nil pass0 (pa_cons (pv 7) (pa_cons (pe_op op_sub (pv 1) pe_int) pa_nil)))) (blkOk_by (own := [("parts", 9)]) (N := ["kinds", "many", "found", "up", "kind", "k", "asked", "within", "inner", "parts"]) (sc := defScope s__bodies) (by decide +kernel)) (fun _ _ _ _ _ => (pg_name (i := 9) nd rfl (Or.inl rfl))) (fun _ _ _ _ _ => pts_nil) (fun _ _ _ _ _ => (pe_call G_body_of (hr.mono (by first | decide | omega)) (by rfl) D_body_of.m D_body_of.kp D_body_of.b .nil pass0 (pa_cons (pe_tup (pa_cons pe_str (pa_cons (pv 3) (pa_cons (pv 5) (pa_cons (pv 6) pa_nil))))) (pa_cons (pv 9) pa_nil))))) pa_nil))))))))
  (pss_one (ps_ret (pv 2)))))), ?_⟩
  obtain ⟨a, zs, rfl, hta, rzs⟩ := rv.inv
  have lz := rzs.length
  have hlk := ok.l
  refine ⟨_, rfl, rfl, _, rfl, ite2 (fun z => ?_) (fun z => ?_)⟩
  · have m0 : m = 0 := by
      have := V.int.inj (of_decide_eq_true z)
      omega
    subst m0
    obtain ⟨en', exs, e1, h1, r1⟩ := (hE H).inv
    cases e1
    refine ⟨en, exs, rfl, .inr h1.sq, fun l nl => ?_⟩
    exact q l exs _ nl (same_new nl _) upd_same (r1.mono (kx_same (same_new nl _)))
  obtain ⟨m', rfl⟩ : ∃ m', m = m' + 1 := ⟨m - 1, by
    have : m ≠ 0 := fun e => z (by rw [e]; rfl)
    omega⟩
  refine ⟨(by show 0 ≤ sizeLine; decide), fun fl nfl => ?_⟩
  refine ⟨_, rfl, a, zs, rfl, (hta.same (same_new nfl _)).sq, fun rp ro nrp _ _ => ?_⟩
  have sR : Same H (upd (upd H fl (.lst [])) rp (.frz ro (.tup zs.reverse))) := (same_new nfl _).trans (same_new nrp _)
  have hfl : (upd (upd H fl (.lst [])) rp (.frz ro (.tup zs.reverse))) fl = some (.lst []) := same_new nrp _ _ _ upd_same
  have hrp : (upd (upd H fl (.lst [])) rp (.frz ro (.tup zs.reverse))) rp = some (.frz ro (.tup zs.reverse)) := upd_same
  generalize (upd (upd H fl (.lst [])) rp (.frz ro (.tup zs.reverse))) = Hr at sR hfl hrp ⊢
  have rpf : rp ≠ fl := ne_of hrp hfl (by intro z; cases z)
  have rrev := (rzs.mono (kx_same sR)).reverse
  have htaR := hta.same sR
  have lrev : zs.reverse.length = ks.length := by rw [List.length_reverse, lz]
  have hL : (bds true ks (m' + 1)).length ≤ 2000 := by rw [bds_len]; exact hsm
  rw [bds_succ] at hL
  refine ⟨rp, zs.reverse, rfl, .inl (.inr ⟨ro, hrp⟩), for_it walk_enT (fun u σ H' => SB fl Hr H' ∧ (∃ acc, H' fl = some (.lst acc) ∧ Reps K H' acc (((upsOf true ks).take u).flatMap (asksOf (bds true) ks m'))) ∧ ∃ (y3 y4 y5 y6 y7 y8 y9 : Option V), σ = [some (.ref a), some (.int (((m' + 1 : Nat)) : Int)), some (.ref fl), y3, y4, y5, y6, y7, y8, y9])
    ⟨SB.refl _ _, ⟨[], hfl, .nil⟩, none, none, none, none, none, none, none, rfl⟩ (fun u σ H' _ h => .inl (.inr ⟨ro, h.1 _ _ rpf hrp⟩)) ?_ ?_⟩
  · rintro u x σ H1 H1' hu ⟨sb1, ⟨acc1, hf1, ra1⟩, y3, y4, y5, y6, y7, y8, y9, rfl⟩ ⟨T, x1, y1, rfl, nT, rfl, hx1, hy1⟩
    have hx2 : V.int (u : Nat) = x1 := Option.some.inj hx1
    subst hx2
    have hy2 : zs.reverse[u]? = some y1 := hy1
    obtain ⟨kd, hkd, ry⟩ := rrev.get hy2
    have hup : (upsOf true ks)[u]? = some (kd, u) := zip_get hkd
    have kdm : kd ∈ ks := List.mem_reverse.mp (List.mem_of_getElem? hkd)
    obtain ⟨ekd, kkd⟩ := inn_k (isK_mem ok.k kdm)
    obtain ⟨b, us, rfl, hb, rus⟩ := Rep.inv (ts := inn kd) (by rw [← ekd]; exact ry)
    have lu := rus.length
    have sT := same_new nT (.tup [.int (u : Nat), .ref b])
    have pre1 := flat_pre (f := asksOf (bds true) ks m') hup
    refine ⟨T, _, rfl, SqT.of upd_same, rfl, _, _, rfl, _, _, rfl, rfl, ?_⟩
    have sb1T : SB fl Hr (upd H1 T (.tup [.int (u : Nat), .ref b])) := fun z o nz ez => sT _ _ (sb1 z o nz ez)
    have hf1T := sT _ _ hf1
    have ra1T := ra1.mono (kx_same sT)
    generalize (upd H1 T (.tup [.int (u : Nat), .ref b])) = H2 at sb1T hf1T ra1T ⊢
    have kR : ∀ {H' : Hp} {ys : List V}, SB fl Hr H' → H' fl = some (.lst ys) → Kx Hr H' := fun sb h => sb_kx sb hfl h
    refine ⟨_, rfl, b, us, rfl, (hb.kx (kR sb1T hf1T)).sq, for_it walk_enT (fun k σ H' => SB fl Hr H' ∧ (∃ acc, H' fl = some (.lst acc) ∧ Reps K H' acc (((upsOf true ks).take u).flatMap (asksOf (bds true) ks m') ++ ((inn kd).zipIdx.take k).flatMap fun q => (sideL (bds true) (prts ks q.1) m').map (mkA u q.2 q.1))) ∧ ∃ (y5 y6 y7 y8 y9 : Option V), σ = [some (.ref a), some (.int (((m' + 1 : Nat)) : Int)), some (.ref fl), some (.int (u : Nat)), some (.ref b), y5, y6, y7, y8, y9])
      ⟨sb1T, ⟨acc1, hf1T, by rw [List.take_zero, List.flatMap_nil, List.append_nil]; exact ra1T⟩, _, _, _, _, _, rfl⟩ (fun k σ H' _ h => by
        obtain ⟨sb, ⟨ac, hf, _⟩, _⟩ := h
        exact (hb.kx (kR sb hf)).sq) ?_ ?_⟩
    · rintro k x σ H3 H3' hk ⟨sb3, ⟨acc3, hf3, ra3⟩, y5, y6, y7, y8, y9, rfl⟩ ⟨T2, x3, y3, rfl, nT2, rfl, hx3, hy3⟩
      have hx4 : V.int (k : Nat) = x3 := Option.some.inj hx3
      subst hx4
      have hy4 : us[k]? = some y3 := hy3
      obtain ⟨ad, had, ryA⟩ := rus.get hy4
      have hqk : (inn kd).zipIdx[k]? = some (ad, k) := zip_get had
      have ham : ad ∈ flt ks := flt_mem kdm (List.mem_of_getElem? had)
      obtain ⟨ead, kad⟩ := inn_k (isK_mem kkd (List.mem_of_getElem? had))
      obtain ⟨c, ws, rfl, hc, rws⟩ := Rep.inv (ts := inn ad) (by rw [← ead]; exact ryA)
      have lw := rws.length
      have la := ok.o.inn ham
      have sT2 := same_new nT2 (.tup [.int (k : Nat), .ref c])
      have pre2 := flat_pre (f := fun q : D × Nat => (sideL (bds true) (prts ks q.1) m').map (mkA u q.2 q.1)) hqk
      refine ⟨T2, _, rfl, SqT.of upd_same, rfl, _, _, rfl, _, _, rfl, rfl, ?_⟩
      have sb3T : SB fl Hr (upd H3 T2 (.tup [.int (k : Nat), .ref c])) := fun z o nz ez => sT2 _ _ (sb3 z o nz ez)
      have hf3T := sT2 _ _ hf3
      have ra3T := ra3.mono (kx_same sT2)
      generalize (upd H3 T2 (.tup [.int (k : Nat), .ref c])) = H4 at sb3T hf3T ra3T ⊢
      have k4 := kR sb3T hf3T
      have hc4 := hc.kx k4
      have rws4 := rws.mono k4
      have hta4 := htaR.kx k4
      have rzs4 := (rzs.mono (kx_same sR)).mono k4
      refine ⟨_, rfl, c, rfl, ⟨_, hc4.sq⟩, fun wl nwl => ?_⟩
      refine lc_it walk_tup (fun e H' => Same H4 H' ∧ ∃ acc, H' wl = some (.lst acc) ∧ Reps K H' acc (((inn ad).take e).map fun x => .tup (ks ++ [x]))) ⟨same_new nwl _, [], upd_same, .nil⟩ (fun e H' _ h => (hc4.same h.1).sq) ?_ ?_
      · rintro e x5 H5 H5' he ⟨s5, acc5, hw5, rw5⟩ ⟨rfl, hx5⟩
        obtain ⟨xd, hxd, rx5⟩ := (rws4.mono (kx_same s5)).get hx5
        have lacc := rw5.length
        rw [List.length_map, List.length_take] at lacc
        refine ⟨rfl, ?_⟩
        refine ⟨_, rfl, _, rfl, (by show 1 ≤ sizeLine; decide), fun t1 nt1 => ⟨a, t1, zs, [x5], rfl, rfl, (hta4.same s5).same (same_new nt1 _), .inl upd_same, small6' (by show zs.length + 1 ≤ 1000000; omega), fun c2 G2 sG2 tc => ?_⟩⟩
        have hGG := (same_new nt1 (.tup [x5])).trans sG2
        have kl := kx_list (hGG _ _ hw5) (acc5 ++ [.ref c2])
        refine ⟨acc5, hGG _ _ hw5, small6 (by omega), fun z o ez => by rw [upd_ne (ne_of_none ez nwl)]; exact hGG _ _ (s5 _ _ ez), acc5 ++ [.ref c2], upd_same, ?_⟩
        rw [List.take_add_one, hxd, List.map_append]
        exact ((rw5.mono (kx_same hGG)).mono kl).append (.one (Rep.mono kl (.tup tc ((rzs4.mono (kx_same (s5.trans hGG))).append (.one (rx5.mono (kx_same hGG)))))))
      · rintro H5 ⟨s5, acc5, hw5, rw5⟩
        rw [lw, List.take_length] at rw5
        have lacc := rw5.length
        rw [List.length_map] at lacc
        refine ⟨_, rfl, _, rfl, (by show 2 ≤ sizeLine; decide), fun q1 nq1 => ⟨wl, q1, acc5, _, rfl, rfl, same_new nq1 _ _ _ hw5, upd_same, small6' (by show acc5.length + 2 ≤ 1000000; omega), fun W nW => ?_⟩⟩
        have s6 := (same_new nq1 (.lst [.ref a, .ref a])).trans (same_new nW (.lst (acc5 ++ [.ref a, .ref a])))
        have hW : (upd (upd H5 q1 (.lst [.ref a, .ref a])) W (.lst (acc5 ++ [.ref a, .ref a]))) W = some (.lst (acc5 ++ [.ref a, .ref a])) := upd_same
        generalize (upd (upd H5 q1 (.lst [.ref a, .ref a])) W (.lst (acc5 ++ [.ref a, .ref a]))) = H6 at s6 hW ⊢
        have s46 := s5.trans s6
        have rka : Rep K H6 (.ref a) (.tup ks) := .tup (hta4.same s46) (rzs4.mono (kx_same s46))
        have rW : Reps K H6 (acc5 ++ [.ref a, .ref a]) ((prts ks ad).map .tup) := by
          unfold prts
          rw [List.map_append, List.map_map]
          exact (rw5.mono (kx_same s6)).append (.cons rka (.one rka))
        have em : ((m' + 1 : Nat) : Int) - 1 = ((m' : Nat) : Int) := by omega
        have okp : ∀ kk, kk ∈ prts ks ad → OkC m' kk := fun kk hkk => by
          obtain ⟨i, hi⟩ := List.mem_iff_getElem?.mp hkk
          rcases prts_get hi with rfl | ⟨x, hx, rfl⟩
          · exact ok.le (by omega)
          · exact ok.app ham (List.mem_of_getElem? hx)
        have hneL : flt ks ≠ [] := fun z => by rw [z] at ham; cases ham
        refine ⟨_, rfl, .inl ⟨rfl, _, SqL.of (s46 _ _ hf3T)⟩, _, rfl, _, rfl, _, _, rfl, rfl, W, acc5 ++ [.ref a, .ref a], prts ks ad, m', by show [V.ref W, V.int (((m' + 1 : Nat) : Int) - 1)] = _; rw [em], by omega, by omega, hW, rW, okp, sms_prts ham hsm, ⟨_, ks, prts_snoc ks ad, hneL⟩, by rw [prts_len]; omega, fun b2 ys H7 nb2 s7 hb2 rb2 => ⟨b2, rfl, ⟨_, SqL.of hb2⟩, fun dl ndl => ?_⟩⟩
        have s47 := s46.trans s7
        have lyb := rb2.length
        rw [List.length_map] at lyb
        have nfd : fl ≠ dl := ne_of_none (s47 _ _ hf3T) ndl
        have hpl : ((sideL (bds true) (prts ks ad) m').map (mkA u k ad)).length ≤ 2000 := by
          have h1 := pre2
          have h2 := pre1
          unfold asksOf at h2
          show ((sideL (bds true) (prts ks (ad, k).1) m').map (mkA u (ad, k).2 (ad, k).1)).length ≤ 2000
          have h3 : (asksOf (bds true) ks m' (kd, u)).length ≤ _ := Nat.le_trans (Nat.le_add_left _ _) h2
          have h4 : ((inn kd).zipIdx.flatMap fun q => (sideL (bds true) (prts ks q.1) m').map (mkA u q.2 q.1)).length ≤ (List.flatMap (asksOf (bds true) ks m') (upsOf true ks)).length := h3
          omega
        refine lc_it walk_list (fun e H' => Same H7 H' ∧ ∃ acc, H' dl = some (.lst acc) ∧ Reps K H' acc (((sideL (bds true) (prts ks ad) m').take e).map (mkA u k ad))) ⟨same_new ndl _, [], upd_same, .nil⟩ (fun e H' _ h => SqL.of (h.1 _ _ hb2)) ?_ ?_
        · rintro e x8 H8 H8' he ⟨s8, acc8, hd8, rd8⟩ ⟨rfl, hx8⟩
          obtain ⟨rdd, hrd, rx8⟩ := (rb2.mono (kx_same s8)).get hx8
          rw [List.getElem?_map] at hrd
          cases hrow : (sideL (bds true) (prts ks ad) m')[e]? with
          | none => rw [hrow] at hrd; cases hrd
          | some row =>
          rw [hrow] at hrd
          cases hrd
          obtain ⟨pt, pxs, rfl, hpt, rpx⟩ := rx8.inv
          obtain ⟨lrow, _⟩ := side_rows (List.mem_of_getElem? hrow)
          rw [prts_len] at lrow
          have lra := rd8.length
          rw [List.length_map, List.length_take] at lra
          rw [List.length_map] at hpl
          have s48 := s47.trans s8
          refine ⟨rfl, ?_⟩
          refine ⟨_, rfl, _, rfl, _, rfl, (by show 4 ≤ sizeLine; decide), fun nt nnt => ⟨_, rfl, ?_⟩⟩
          have s9 := same_new nnt (.tup [.str "ask", .int (u : Nat), .int (k : Nat), .ref c])
          refine ⟨nt, pt, .ref c, u, k, ad, pxs, row, rfl, .inl upd_same, ?_, by rw [ead]; exact kad, by omega, hpt.same s9, rpx.mono (kx_same s9), lrow, fun vb H9 sb9 rvb => ?_⟩
          · rw [ead]
            exact .tup (hc4.same (s48.trans s9)) (rws4.mono (kx_same (s48.trans s9)))
          · have hGG := s9.trans sb9
            have kl := kx_list (hGG _ _ hd8) (acc8 ++ [vb])
            refine ⟨acc8, hGG _ _ hd8, small6 (by omega), fun z o ez => by rw [upd_ne (ne_of_none ez ndl)]; exact hGG _ _ (s8 _ _ ez), acc8 ++ [vb], upd_same, ?_⟩
            rw [List.take_add_one, hrow, List.map_append]
            exact ((rd8.mono (kx_same hGG)).mono kl).append (.one (rvb.mono kl))
        · rintro H8 ⟨s8, acc8, hd8, rd8⟩
          rw [lyb, List.take_length] at rd8
          have s48 := s47.trans s8
          have l8 := rd8.length
          have l3 := ra3T.length
          rw [List.length_append] at l3
          have hf8 := s48 _ _ hf3T
          have kl := kx_list hf8 (acc3 ++ acc8)
          refine ⟨fl, dl, acc3, acc8, rfl, rfl, hf8, hd8, ?_, ?_⟩
          · have h1 := pre2
            have h2 := pre1
            unfold asksOf at h2
            rw [sizeLine_eq]
            have h4 : ((upsOf true ks).take u |>.flatMap (asksOf (bds true) ks m')).length + ((inn kd).zipIdx.flatMap fun q => (sideL (bds true) (prts ks q.1) m').map (mkA u q.2 q.1)).length ≤ (List.flatMap (asksOf (bds true) ks m') (upsOf true ks)).length := h2
            have l8' : acc8.length = ((sideL (bds true) (prts ks (ad, k).1) m').map (mkA u (ad, k).2 (ad, k).1)).length := l8
            omega
          · refine ⟨fun z o nz ez => by rw [upd_ne nz]; exact s48 _ _ (sb3T z o nz ez), ⟨acc3 ++ acc8, upd_same, ?_⟩, _, _, _, _, _, rfl⟩
            rw [List.take_add_one, hqk, List.flatMap_append, ← List.append_assoc]
            have e1 : (some (ad, k)).toList.flatMap (fun q : D × Nat => (sideL (bds true) (prts ks q.1) m').map (mkA u q.2 q.1)) = (sideL (bds true) (prts ks ad) m').map (mkA u k ad) := by
              show [(ad, k)].flatMap _ = _
              rw [List.flatMap_cons, List.flatMap_nil, List.append_nil]
            rw [e1]
            exact ((ra3T.mono (kx_same s48)).append rd8).mono kl
    · rintro σ H3 ⟨sb3, ⟨acc3, hf3, ra3⟩, y5, y6, y7, y8, y9, rfl⟩
      refine ⟨sb3, ⟨acc3, hf3, ?_⟩, _, _, _, _, _, _, _, rfl⟩
      rw [List.take_add_one, hup, List.flatMap_append]
      have e1 : (some (kd, u)).toList.flatMap (asksOf (bds true) ks m') = asksOf (bds true) ks m' (kd, u) := by
        show [(kd, u)].flatMap _ = _
        rw [List.flatMap_cons, List.flatMap_nil, List.append_nil]
      rw [e1]
      rw [lu, show (inn kd).zipIdx.take (inn kd).length = (inn kd).zipIdx from List.take_of_length_le (by rw [List.length_zipIdx]; exact Nat.le_refl _)] at ra3
      exact ra3
  · rintro σ H1 ⟨sb1, ⟨acc1, hf1, ra1⟩, y3, y4, y5, y6, y7, y8, y9, rfl⟩
    rw [lrev, show (upsOf true ks).take ks.length = upsOf true ks from List.take_of_length_le (by show (ks.reverse.zipIdx).length ≤ _; rw [List.length_zipIdx, List.length_reverse]; exact Nat.le_refl _), ← bds_succ] at ra1
    exact ⟨_, rfl, q fl acc1 H1 nfl (fun z o ez => sb1 z o (ne_of_none ez nfl) (sR _ _ ez)) hf1 ra1⟩
end
end Pk

set_option maxRecDepth 100000
set_option maxHeartbeats 4000000
set_option pp.maxSteps 600
namespace Pk
open PySem PySem.Spec PyProof.Rows L2
/-! ### listed -/
theorem Df.okX {P : Program} {w : World} {K : PySem.W.Frag} {mg : Str → Option Value} {base : Heap} {x : Str} {st : Stmt} {ps : List Str} {f : Addr} {fd : FuncData} {N : List Str} {k : Nat} {sp : Sp} (D : Df K mg x st ps f fd) (S : FnScope N ps (defScope st)) (len : ∀ vs H Q E, sp vs H Q E → vs.length = ps.length)
    (hbody : ∀ (cdv : Value) (A : Around) (outer : List Env) (s : Shared) (H : Hp) (vs : List V) (Q : VK) (E : XK), Room k (A.deeper (envOfC x (defScope st) s.heap.objs.size f cdv)) → sp vs H Q E →
      ∃ t, PSs (cxOf (L2.CX P w) P w K mg base N x (defScope st) f cdv A outer s H E) (defBody st) t ∧ t { nx := fun _ H' => Q .non H', rt := Q } (start N vs) H) : FnOk P w K mg base (L2.CX P w) (k + 1) f fd ps sp :=
  D.F.ok S len hbody
theorem encS_of {β : Type} {dat : β → D} {ok : β → Prop} (p : ∀ b, ok b → isP (dat b) = true) (dp : ∀ b, ok b → dep (dat b) ≤ 40) (fst : ∀ b, ok b → ∃ x r, dat b = .tup (.at (.str x) :: r)) (cp : ∀ b c, ok b → ok c → cpb (toPy (dat b)) (toPy (dat c)) = true) : EncS dat (fun b => tkD (dat b)) ok where
  nol := fun b hb => (isP_nol (p b hb)).1
  dep := dp
  inj := fun b c _ _ h => tk_inj _ _ h
  fst := fst
  cmp := fun b c hb hc => by
    have h := cp b c hb hc
    refine ⟨h, ?_⟩
    have z := tk_lex (dat b) (dat c) (isP_nol (p b hb)).1 (isP_nol (p c hc)).1 h [] []
    rw [List.append_nil, List.append_nil] at z
    refine Eq.trans ?_ z.symm
    cases e : PyData.eqv (toPy (dat b)) (toPy (dat c)) with
    | true =>
      rw [if_pos rfl, dlt_eqv _ _ e h]
      rfl
    | false => rw [if_neg Bool.false_ne_true]
/-- a body of some list -/
def OkD (b : D) : Prop := ∃ ks m, OkC m ks ∧ m ≤ 3 ∧ b ∈ bds true ks m
theorem body_fst {r : Bool} {ks : List D} {m : Nat} {b : D} (h : b ∈ bds r ks m) : ∃ x t, b = .tup (.at (.str x) :: t) := by
  cases isB_of h with
  | say v => exact ⟨_, _, rfl⟩
  | stop => exact ⟨_, _, rfl⟩
  | ask _ _ _ _ => exact ⟨_, _, rfl⟩
section
variable {ks : List D} {m : Nat}
theorem encBd (ok : OkC m ks) (h3 : m ≤ 3) : EncS (fun b : D => b) tkD (fun b => b ∈ bds true ks m) :=
  encS_of (dat := fun b => b) (fun b hb => (fine_bds m m (Nat.le_refl _) ok hb).p) (fun b hb => Nat.le_trans (fine_bds m m (Nat.le_refl _) ok hb).d (by omega)) (fun b hb => body_fst hb) fun b c hb hc => cpb_bds m m m (Nat.le_refl _) (Nat.le_refl _) hb hc
theorem fine_any {r : Bool} (ok : OkC m ks) {b : D} (h : b ∈ bds r ks m) : Fine m b := fine_bds m m (Nat.le_refl _) ok h
theorem encPd (n : Nat) (ok : OkC m ks) (h3 : m ≤ 3) : EncS (prD n) (fun b => tkD (prD n b)) (fun b => b ∈ bds false ks m) :=
  encS_of (fun b hb => by
    show (true && (true && (isP b && true))) = true
    rw [(fine_any ok hb).p]; rfl) (fun b hb => by
    show max (0 + 1) (max (0 + 1) (max (dep b + 1) 0)) ≤ 40
    have := (fine_any ok hb).d
    omega) (fun b hb => ⟨_, _, rfl⟩) fun b c hb hc => cpb_pr (cpb_bds m m m (Nat.le_refl _) (Nat.le_refl _) hb hc)
/-- sorted ahead of the programs, or behind -/
theorem sort_one {β : Type} {tok tok' : β → List (Int ⊕ List Nat)} {l l' : List β} (hp : l.Perm l') (hle : ∀ a ∈ l, ∀ b ∈ l, LX (tok a) (tok b) = LX (tok' a) (tok' b)) (hi : ∀ a ∈ l, ∀ b ∈ l, tok' a = tok' b → a = b) : sortE tok l = sortE tok' l' := by
  have T := PySem.W.sortLe_total (listOrd itemOrd) false tok
  have T' := PySem.W.sortLe_total (listOrd itemOrd) false tok'
  have tot : ∀ a b : β, (PySem.W.sortLe (listOrd itemOrd) false tok a b || PySem.W.sortLe (listOrd itemOrd) false tok b a) = true := fun a b => by
    rw [Bool.or_eq_true]
    exact T.total a b
  have tot' : ∀ a b : β, (PySem.W.sortLe (listOrd itemOrd) false tok' a b || PySem.W.sortLe (listOrd itemOrd) false tok' b a) = true := fun a b => by
    rw [Bool.or_eq_true]
    exact T'.total a b
  have p1 := List.pairwise_mergeSort T.trans tot l
  have p2 := List.pairwise_mergeSort T'.trans tot' l'
  have m1 : ∀ a, a ∈ sortE tok l → a ∈ l := fun a h => (sortE_perm tok l).mem_iff.mp h
  have m2 : ∀ a, a ∈ sortE tok' l' → a ∈ l := fun a h => hp.mem_iff.mpr ((sortE_perm tok' l').mem_iff.mp h)
  have p1' : (sortE tok l).Pairwise (fun a b => PySem.W.sortLe (listOrd itemOrd) false tok' a b = true) := by
    refine List.Pairwise.imp_of_mem (fun {a b} ha hb h => ?_) p1
    have h' : (!LX (tok b) (tok a)) = true := h
    show (!LX (tok' b) (tok' a)) = true
    rw [← hle b (m1 b hb) a (m1 a ha)]
    exact h'
  refine List.Perm.eq_of_pairwise (le := fun a b => PySem.W.sortLe (listOrd itemOrd) false tok' a b = true) (fun a b ha hb h1 h2 => ?_) p1' p2 ((sortE_perm tok l).trans (hp.trans (sortE_perm tok' l').symm))
  refine hi a (m1 a ha) b (m2 b hb) ((listOrd itemOrd).total _ _ ?_ ?_)
  · have h2' : (!LX (tok' a) (tok' b)) = true := h2
    rw [Bool.not_eq_true'] at h2'
    exact h2'
  · have h1' : (!LX (tok' b) (tok' a)) = true := h1
    rw [Bool.not_eq_true'] at h1'
    exact h1'
theorem tk_pr (n : Nat) (b : D) : tkD (prD n b) = .inl 1 :: (tkD (.at (.str "program")) ++ (.inl 1 :: (tkD (nD n) ++ (.inl 1 :: (tkD b ++ [.inl 0]))))) := rfl
theorem lx_app (x : List (Int ⊕ List Nat)) : ∀ (p q : List (Int ⊕ List Nat)), LX (x ++ p) (x ++ q) = LX p q := by
  induction x with
  | nil => intro p q; rfl
  | cons a x ih =>
    intro p q
    show LX (a :: (x ++ p)) (a :: (x ++ q)) = LX p q
    rw [show LX (a :: (x ++ p)) (a :: (x ++ q)) = LX (x ++ p) (x ++ q) from PyProof.Rows.lex_self _ _ _]
    exact ih p q
theorem lx_pr (n : Nat) {b c : D} (hb : noLd b = true) (hc : noLd c = true) (h : cpb (toPy b) (toPy c) = true) : LX (tkD (prD n b)) (tkD (prD n c)) = LX (tkD b) (tkD c) := by
  have key : LX (tkD (prD n b)) (tkD (prD n c)) = LX (tkD b ++ [.inl 0]) (tkD c ++ [.inl 0]) := by
    have z := lx_app (.inl 1 :: (tkD (.at (.str "program")) ++ (.inl 1 :: (tkD (nD n) ++ [.inl 1])))) (tkD b ++ [.inl 0]) (tkD c ++ [.inl 0])
    rw [← z, tk_pr, tk_pr]
    simp only [List.cons_append, List.append_assoc, List.nil_append]
  have z1 := tk_lex b c hb hc h [.inl 0] [.inl 0]
  have z2 := tk_lex b c hb hc h [] []
  rw [List.append_nil, List.append_nil] at z2
  rw [key, z1, z2]
  cases PyData.eqv (toPy b) (toPy c) with
  | true => rfl
  | false => rfl
theorem tk_inj_body (ok : OkC m ks) {b c : D} (hb : b ∈ bds true ks m) (hc : c ∈ bds true ks m) (h : tkD b = tkD c) : b = c := by
  have pb := (fine_any ok hb).p
  have pc := (fine_any ok hc).p
  have nb := (isP_nol pb).1
  have nc := (isP_nol pc).1
  have h1 := cpb_bds m m m (Nat.le_refl _) (Nat.le_refl _) hb hc
  have h2 := cpb_bds m m m (Nat.le_refl _) (Nat.le_refl _) hc hc
  have eq : PyData.eqv (toPy b) (toPy c) = true := by
    cases q : PyData.eqv (toPy b) (toPy c) with
    | true => rfl
    | false =>
      have z1 := tk_lex b c nb nc h1 [] [.inl 0]
      have z2 := tk_lex b c nb nc h1 [.inl 0] []
      have er := SeqAt.eqv_refl_plain (toPy c) (plain_noL c nc)
      have same : ∀ x y, LX (tkD c ++ x) (tkD c ++ y) = LX x y := fun x y => lx_app _ x y
      rw [h, same, q, if_neg Bool.false_ne_true] at z1 z2
      rw [← z1] at z2
      cases z2
  -- equal as data
  have key : ∀ (n : Nat) (d e : D), sz d ≤ n → isP d = true → isP e = true → PyData.eqv (toPy d) (toPy e) = true → d = e := by
    intro n
    induction n with
    | zero => intro d e h; have := sz_pos d; omega
    | succ n ih =>
      intro d e hs pd pe he
      cases d with
      | lst => cases pd
      | «at» v =>
        cases e with
        | lst => cases pe
        | «at» u =>
          cases v <;> cases u <;> first
            | (cases pd; done)
            | (cases pe; done)
            | (rename_i a b
               have e : a = b := by first
                | (simpa [toPy, PyData.eqv] using he)
               rw [e])
            | (simp [toPy, PyData.eqv] at he)
        | tup us => cases v <;> first | (cases pd; done) | (simp [toPy, PyData.eqv] at he)
      | tup ts =>
        cases e with
        | lst => cases pe
        | «at» u => cases u <;> first | (cases pe; done) | (simp [toPy, PyData.eqv] at he)
        | tup us =>
          have hl : ∀ (ts us : List D), szs ts ≤ n → isPs ts = true → isPs us = true → PyData.eqvAll (toPys ts) (toPys us) = true → ts = us := by
            intro ts
            induction ts with
            | nil =>
              intro us _ _ _ h
              cases us with
              | nil => rfl
              | cons _ _ => simp [toPys, PyData.eqvAll] at h
            | cons a as ih2 =>
              intro us hz p1 p2 h
              cases us with
              | nil => simp [toPys, PyData.eqvAll] at h
              | cons b bs =>
                have k1 := Bool.and_eq_true_iff.mp (show (isP a && isPs as) = true from p1)
                have k2 := Bool.and_eq_true_iff.mp (show (isP b && isPs bs) = true from p2)
                have h' : (PyData.eqv (toPy a) (toPy b) && PyData.eqvAll (toPys as) (toPys bs)) = true := by simpa [toPys, PyData.eqvAll] using h
                have h3 := Bool.and_eq_true_iff.mp h'
                have hz' : sz a + szs as ≤ n := hz
                rw [ih a b (by omega) k1.1 k2.1 h3.1, ih2 bs (by omega) k1.2 k2.2 h3.2]
          have hs' : szs ts + 1 ≤ n + 1 := hs
          rw [hl ts us (by omega) pd pe (by simpa [toPy, PyData.eqv] using he)]
  exact key (sz b) b c (Nat.le_refl _) pb pc eq
/-- all programs of a kind, in order -/
def allP (kd : D) (m : Nat) : List D := (sortE tkD (bds true [kd] m)).map (prD (inn kd).length)
theorem allP_law {kd : D} {m : Nat} (ok : OkC m [kd]) : allP kd m = (sortE (fun b => tkD (prD (inn kd).length b)) (bds false [kd] m)).map (prD (inn kd).length) := by
  unfold allP
  congr 1
  refine sort_one (bds_perm m m (Nat.le_refl _) _) (fun a ha b hb => ?_) fun a ha b hb e => ?_
  · exact (lx_pr _ (isP_nol (fine_any ok ha).p).1 (isP_nol (fine_any ok hb).p).1 (cpb_bds m m m (Nat.le_refl _) (Nat.le_refl _) ha hb)).symm
  · refine tk_inj_body ok ha hb ?_
    rw [tk_pr, tk_pr] at e
    have e1 := (List.cons.inj e).2
    have e2 := (List.append_cancel_left e1)
    have e3 := (List.cons.inj e2).2
    have e4 := (List.append_cancel_left e3)
    have e5 := (List.cons.inj e4).2
    exact List.append_cancel_right e5
end
end Pk

set_option maxRecDepth 100000
set_option maxHeartbeats 4000000
set_option pp.maxSteps 600
namespace Pk
open PySem PySem.Spec PyProof.Rows L2
section
variable {P : Program} {w : World} {K : PySem.W.Frag} {mg : Str → Option Value} {base : Heap} {C : Addr}
theorem ok_bodies {f f2 f3 : Addr} {fd f2d f3d : FuncData} (D__bodies : Df K mg "_bodies" s__bodies ["kinds", "many"] f fd) (D__side_by_side : Df K mg "_side_by_side" s__side_by_side ["within", "many"] f2 f2d) (D_body_of : Df K mg "body_of" s_body_of ["note", "parts"] f3 f3d) (B : Bt mg) {en : Addr} (hEN : mg "_ENDS" = some (.ref en)) (hE : ∀ H, Rep K H (.ref en) (.tup ends)) :
    ∀ n : Nat, FnOk P w K mg base CX0 (2 * n + 1) f fd ["kinds", "many"] (spBds K n)
  | 0 => (fn_none (fun vs H Q E h => by obtain ⟨v, ks, m, _, h0, _⟩ := h; omega)).mono (by omega)
  | n + 1 => (ok_bod (j := 2 * n) D__bodies D__side_by_side D_body_of B hEN hE (ok_sbs (j := 2 * n) D__side_by_side D__bodies B (ok_bodies D__bodies D__side_by_side D_body_of B hEN hE n))).mono (by omega)
def spListed (K : PySem.W.Frag) (CT : Addr) : Sp := fun vs H Q E => ∃ (v : V) (kd : D) (m : Nat), vs = [v, .int ((m : Nat) : Int)] ∧ m ≤ 3 ∧ Rep K H v kd ∧ OkB 5 kd ∧ OkC m [kd] ∧
  (2000 < nbd (inn kd) m → ∀ H', Same H H' → E (.ref CT) none H') ∧ (nbd (inn kd) m ≤ 2000 → ∀ (u : V) (H' : Hp), Same H H' → Rep K H' u (.tup (allP kd m)) → Q u H')
theorem ok_listed {f f0 f1 : Addr} {fd d0 d1 : FuncData} (D_listed : Df K mg "listed" s_listed ["kind", "many"] f fd) (D_count : Df K mg "count" s_count ["kind", "many"] f0 d0) (D__bodies : Df K mg "_bodies" s__bodies ["kinds", "many"] f1 d1) (B : Bt mg) {CT CS : Addr}
    (hML : ∃ t, mg "_MOST_LISTED" = some (.int 2000 t)) (hMA : ∃ t, mg "_MOST_ASKS" = some (.int 8 t)) (hTM : mg "TooMany" = some (.ref CT)) (XF : ExF K CT CS)
    (G_count : FnOk P w K mg base CX0 14 f0 d0 ["kind", "many"] (spCount K)) (G__bodies : FnOk P w K mg base CX0 9 f1 d1 ["kinds", "many"] (spBds K 4)) : FnOk P w K mg base (L2.CX P w) 15 f fd ["kind", "many"] (spListed K CT) := by
  refine D_listed.okX c_listed (fun vs H Q E h => ?_) (fun cdv A outer s H vs Q E hr h => ?_)
  · obtain ⟨v, kd, m, rfl, _⟩ := h
    rfl
  obtain ⟨v, kd, m, rfl, h3, rv, okb, okc, qE, q⟩ := h
  have nd := c_listed.nd
  obtain ⟨tML, hML⟩ := hML
  obtain ⟨tMA, hMA⟩ := hMA
  have encB := encBd okc h3
  refine ⟨_, (pss_cons (ps_if (pt_cmpR op_gt (pe_call G_count (hr.mono (by first | decide | omega)) (by rfl) D_count.m D_count.kp D_count.b .nil pass0 (pa_cons (pv 0) (pa_cons (pe_callB (call_min2 rfl) (by rfl) B.b_min (by decide +kernel) (pa_cons (pv 1) (pa_cons (pe_glob (v := .int 8) rfl hMA ⟨_, rfl⟩) pa_nil))) pa_nil))) (pe_glob (v := .int 2000) rfl hML ⟨_, rfl⟩) (nomark _)) (pss_one (ps_raise rfl (takes_of rfl rfl rfl rfl) (pmk_own0 PySem.F.excBase_ValueError XF.q hTM XF.kp (rais XF) (by rfl)))) pss_nil)
  (pss_one (ps_ret (pe_callTy call_tuple_of (by rfl) B.b_tuple (by decide +kernel) (pa_cons (pe_lc (own := [("body", 2)]) (g := (gName 2)) (tt := tYes) rfl nd (pi_list (pe_callB (cr_sortS hr.units encB) (by rfl) B.b_sorted (by decide +kernel) (pa_cons (pe_call G__bodies (hr.mono (by first | decide | omega)) (by rfl) D__bodies.m D__bodies.kp D__bodies.b .nil pass0 (pa_cons (pe_tup (pa_cons (pv 0) pa_nil)) (pa_cons (pv 1) pa_nil))) pa_nil))) (blkOk_by (own := [("body", 2)]) (N := ["kind", "many", "body"]) (sc := defScope s_listed) (by decide +kernel)) (fun _ _ _ _ _ => (pg_name (i := 2) nd rfl (Or.inl rfl))) (fun _ _ _ _ _ => pts_nil) (fun _ _ _ _ _ => (pe_tup (pa_cons pe_str (pa_cons (pe_callB (show CallR _ (.builtin "len") (rLenS K) from call_len_seq) (by rfl) B.b_len PySem.boot_len (pa_cons (pv 0) pa_nil)) (pa_cons (pv 2) pa_nil)))))) pa_nil))))), ?_⟩
  obtain ⟨ekd, kks⟩ := inn_k okb.k
  have hif : (if (8 : Int) < ((m : Nat) : Int) then (8 : Int) else ((m : Nat) : Int)) = ((m : Nat) : Int) := if_neg (by omega)
  refine ⟨_, rfl, _, rfl, _, _, rfl, v, kd, m, by show [v, V.int (if (8 : Int) < ((m : Nat) : Int) then (8 : Int) else ((m : Nat) : Int))] = _; rw [hif], rv, okb, by omega, fun H1 s1 => ?_⟩
  refine ⟨_, _, rfl, rfl, _, rfl, ite2 (fun z => ?_) (fun z => ?_)⟩
  · have hz : (2000 : Int) < ((nbd (inn kd) m : Nat) : Int) := of_decide_eq_true z
    exact qE (by omega) H1 s1
  have hz : nbd (inn kd) m ≤ 2000 := by
    by_cases c : nbd (inn kd) m ≤ 2000
    · exact c
    · exact absurd (decide_eq_true (show (2000 : Int) < ((nbd (inn kd) m : Nat) : Int) by omega)) z
  have rv1 := rv.mono (kx_same s1)
  refine ⟨_, rfl, (by show 1 ≤ sizeLine; decide), fun t0 nt0 => ⟨_, rfl, .ref t0, [kd], m, rfl, by omega, h3, .tup' upd_same (.one (rv1.mono (kx_same (same_new nt0 _)))), okc, by rw [flt_one]; exact hz, fun a xs H2 na s2 ha ra => ?_⟩⟩
  have s12 : Same H H2 := s1.trans ((same_new nt0 (.tup [v])).trans s2)
  refine ⟨a, xs, bds true [kd] m, rfl, SqL.of ha, by rw [show (bds true [kd] m).map (fun b : D => b) = bds true [kd] m from List.map_id' _]; exact ra, fun b hb => hb, fun ys p rys np => ?_⟩
  rw [show (sortE tkD (bds true [kd] m)).map (fun b : D => b) = sortE tkD (bds true [kd] m) from List.map_id' _] at rys
  have s3 : Same H (upd H2 p (.lst ys)) := s12.trans (same_new np _)
  have hp : (upd H2 p (.lst ys)) p = some (.lst ys) := upd_same
  have rys3 := rys.mono (kx_same (same_new np (.lst ys)))
  generalize (upd H2 p (.lst ys)) = H3 at s3 hp rys3 ⊢
  have ly := rys3.length
  have lso : (sortE tkD (bds true [kd] m)).length ≤ 2000 := by
    rw [(sortE_perm tkD (bds true [kd] m)).length_eq, bds_len, flt_one]
    exact hz
  obtain ⟨c, cxs, rfl, hc, rc⟩ := Rep.inv (ts := inn kd) (by rw [← ekd]; exact rv)
  have lc := rc.length
  refine ⟨p, rfl, ⟨_, SqL.of hp⟩, fun dl ndl => ?_⟩
  refine lc_it walk_list (fun e H' => Same H3 H' ∧ ∃ acc, H' dl = some (.lst acc) ∧ Reps K H' acc (((sortE tkD (bds true [kd] m)).take e).map (prD (inn kd).length))) ⟨same_new ndl _, [], upd_same, .nil⟩ (fun e H' _ h => SqL.of (h.1 _ _ hp)) ?_ ?_
  · rintro e x8 H8 H8' he ⟨s8, acc8, hd8, rd8⟩ ⟨rfl, hx8⟩
    obtain ⟨bd, hbd, rx8⟩ := (rys3.mono (kx_same s8)).get hx8
    have lra := rd8.length
    rw [List.length_map, List.length_take] at lra
    refine ⟨rfl, ?_⟩
    refine ⟨_, rfl, c, cxs, rfl, .inr (hc.same (s3.trans s8)).sq, _, rfl, (by show 3 ≤ sizeLine; decide), fun t nt => ?_⟩
    have s9 := same_new nt (.tup [.str "program", .int ((cxs.length : Nat) : Int), x8])
    have kl := kx_list (s9 _ _ hd8) (acc8 ++ [.ref t])
    refine ⟨acc8, s9 _ _ hd8, small6 (by omega), fun z o ez => by rw [upd_ne (ne_of_none ez ndl)]; exact s9 _ _ (s8 _ _ ez), acc8 ++ [.ref t], upd_same, ?_⟩
    rw [List.take_add_one, hbd, List.map_append]
    refine ((rd8.mono (kx_same s9)).mono kl).append (.one (Rep.mono kl (.tup' upd_same (.cons (.at rfl) (.cons ?_ (.one (rx8.mono (kx_same s9))))))))
    rw [lc]
    exact .at rfl
  · rintro H8 ⟨s8, acc8, hd8, rd8⟩
    rw [ly, List.take_length] at rd8
    refine ⟨dl, acc8, rfl, .inl ⟨SqL.of hd8, fun t nt => ?_⟩⟩
    have s9 := same_new nt (.tup acc8)
    exact q hz (.ref t) _ ((s3.trans s8).trans s9) (.tup' upd_same (rd8.mono (kx_same s9)))
end
end Pk

set_option maxRecDepth 100000
set_option maxHeartbeats 4000000
set_option pp.maxSteps 600
namespace Pk
open PySem PySem.Spec PyProof.Rows L2
/-! ### _law_shared, _law_bodies -/
def LsR (K : PySem.W.Frag) (H : Hp) (v : V) (row : List D) : Prop := ∃ a ys, v = .ref a ∧ H a = some (.lst ys) ∧ Reps K H ys row
theorem LsR.same {K : PySem.W.Frag} {H H' : Hp} {v : V} {row : List D} (h : LsR K H v row) (s : Same H H') : LsR K H' v row :=
  let ⟨a, ys, e, ha, r⟩ := h; ⟨a, ys, e, s _ _ ha, r.mono (kx_same s)⟩
abbrev RowsAt (K : PySem.W.Frag) (H : Hp) : List V → List (List D) → Prop := Paired (LsR K H)
theorem rowsAt_same {K : PySem.W.Frag} {H H' : Hp} (s : Same H H') : ∀ {xs : List V} {rows : List (List D)}, RowsAt K H xs rows → RowsAt K H' xs rows
  | _, _, .nil => .nil
  | _, _, .cons h t => .cons (h.same s) (rowsAt_same s t)
theorem paired_at {α β : Type} {R : α → β → Prop} : ∀ {xs : List α} {ys : List β} {i : Nat} {x : α}, Paired R xs ys → xs[i]? = some x → ∃ y, ys[i]? = some y ∧ R x y
  | _, _, 0, x, .cons h t, e => by cases e; exact ⟨_, rfl, h⟩
  | _, _, i + 1, x, .cons h t, e => paired_at (i := i) t e
theorem paired_drop {α β : Type} {R : α → β → Prop} : ∀ {xs : List α} {ys : List β} (n : Nat), Paired R xs ys → Paired R (xs.drop n) (ys.drop n)
  | _, _, 0, h => h
  | _, _, _ + 1, .nil => .nil
  | _, _, n + 1, .cons _ t => paired_drop n t
section
variable {P : Program} {w : World} {K : PySem.W.Frag} {mg : Str → Option Value} {base : Heap}
def spLb (K : PySem.W.Frag) (n : Nat) : Sp := fun vs H Q _ => ∃ (a : Addr) (xs : List V) (ks : List D) (m : Nat), vs = [.ref a, .int ((m : Nat) : Int)] ∧ m < n ∧ m ≤ 3 ∧ H a = some (.lst xs) ∧ Reps K H xs ks ∧ OkC m ks ∧ nbd (flt ks) m ≤ 2000 ∧
  ∀ (b : Addr) (ys : List V) (H' : Hp), H b = none → Same H H' → H' b = some (.lst ys) → Reps K H' ys (bds false ks m) → Q (.ref b) H'
def spLs (K : PySem.W.Frag) (n l : Nat) : Sp := fun vs H Q _ => ∃ (a : Addr) (xs : List V) (parts : List (List D)) (m : Nat), vs = [.ref a, .int ((m : Nat) : Int)] ∧ m < n ∧ m ≤ 3 ∧ parts.length < l ∧ H a = some (.lst xs) ∧ RowsAt K H xs parts ∧ (∀ k, k ∈ parts → OkC m k) ∧ SmS parts m ∧ parts.length ≤ 100 ∧
  ∀ (b : Addr) (ys : List V) (H' : Hp), H b = none → Same H H' → H' b = some (.lst ys) → RowsAt K H' ys (sideL (bds false) parts m) → (∀ c, V.ref c ∈ ys → H c = none) → Q (.ref b) H'
theorem ok_lsh {n j : Nat} {f f2 : Addr} {fd f2d : FuncData} (D__law_shared : Df K mg "_law_shared" s__law_shared ["parts", "many"] f fd) (D__law_bodies : Df K mg "_law_bodies" s__law_bodies ["kinds", "many"] f2 f2d) (B : Bt mg)
    (G__law_bodies : FnOk P w K mg base CX0 j f2 f2d ["kinds", "many"] (spLb K n)) : ∀ l : Nat, FnOk P w K mg base CX0 (j + l) f fd ["parts", "many"] (spLs K n l)
  | 0 => (fn_none (fun vs H Q E h => by obtain ⟨a, xs, parts, m, _, _, _, h0, _⟩ := h; omega)).mono (by omega)
  | l + 1 => by
    have G__law_shared := ok_lsh D__law_shared D__law_bodies B G__law_bodies l
    show FnOk P w K mg base CX0 ((j + l) + 1) f fd ["parts", "many"] (spLs K n (l + 1))
    refine D__law_shared.ok c__law_shared (fun vs H Q E h => ?_) (fun cdv A outer s H vs Q E hr h => ?_)
    · obtain ⟨a, xs, parts, m, rfl, _⟩ := h
      rfl
    obtain ⟨a, xs, parts, m, rfl, hmn, h3, hpl, ha, rxs, hok, hs, hp1, q⟩ := h
    have nd := c__law_shared.nd
    have lx := rxs.length
    refine ⟨_, (pss_cons (ps_if (pt_cmpR op_eq (pe_callB call_len_seq (by rfl) B.b_len PySem.boot_len (pa_cons (pv 0) pa_nil)) pe_int (nomark _)) (pss_one (ps_ret (pe_op op_rep (pe_lst (pa_cons (pe_lst pa_nil) pa_nil)) (pe_callTy call_int1 (by rfl) B.b_int (by decide +kernel) (pa_cons (pe_cmpR op_eq (pv 1) pe_int (nomark _)) pa_nil))))) pss_nil)
  (pss_cons (ps_set (i := 2) nd rfl (Or.inl rfl) (pe_lst pa_nil))
  (pss_cons (ps_for PassesOwn.never rfl (pi_range1 (by rfl) B.b_range (pa_cons (pe_op op_add (pv 1) pe_int) pa_nil)) (pg_name (i := 3) nd rfl (Or.inl rfl)) (pss_cons (ps_set (i := 4) nd rfl (Or.inl rfl) (pe_call G__law_shared hr (by rfl) D__law_shared.m D__law_shared.kp D__law_shared.b .nil pass0 (pa_cons (pe_slice sl_list (pv 0) (po_some pe_int) po_none) (pa_cons (pe_op op_sub (pv 1) (pv 3)) pa_nil))))
  (pss_one (ps_if (pt_cmpR op_gt (pe_callB call_len_seq (by rfl) B.b_len PySem.boot_len (pa_cons (pv 4) pa_nil)) pe_int (nomark _)) (pss_one (ps_for PassesOwn.never rfl (pi_list (pe_call G__law_bodies (hr.mono (by first | decide | omega)) (by rfl) D__law_bodies.m D__law_bodies.kp D__law_bodies.b .nil pass0 (pa_cons (pe_ix ix_list (pv 0) pe_int (fun _ _ => rfl)) (pa_cons (pv 3) pa_nil)))) (pg_name (i := 5) nd rfl (Or.inr rfl)) (pss_one (ps_set (i := 2) nd rfl (Or.inl rfl) (pe_op op_cat (pv 2) (pe_lc (own := [("row", 6)]) (g := (gName 6)) (tt := tYes) rfl nd (pi_list (pv 4)) (blkOk_by (own := [("row", 6)]) (N := ["parts", "many", "found", "own", "rest", "body", "row"]) (sc := defScope s__law_shared) (by decide +kernel)) (fun _ _ _ _ _ => (pg_name (i := 6) nd rfl (Or.inl rfl))) (fun _ _ _ _ _ => pts_nil) (fun _ _ _ _ _ => (pe_op op_cat (pe_lst (pa_cons (pv 5) pa_nil)) (pv 6))))))))) pss_nil))))
  (pss_one (ps_ret (pv 2)))))), ?_⟩
    refine ⟨_, rfl, a, xs, rfl, .inl (SqL.of ha), rfl, _, rfl, ite2 (fun z => ?_) (fun z => ?_)⟩
    · have l0 : xs.length = 0 := by
        have := V.int.inj (of_decide_eq_true z)
        omega
      refine ⟨(by show 0 ≤ sizeLine; decide), fun l1 n1 => ⟨(by show 1 ≤ sizeLine; decide), fun l2 n2 => ?_⟩⟩
      have sL := (same_new n1 (.lst [])).trans (same_new n2 (.lst [.ref l1]))
      have h2 : (upd (upd H l1 (.lst [])) l2 (.lst [.ref l1])) l2 = some (.lst [.ref l1]) := upd_same
      have h1 : (upd (upd H l1 (.lst [])) l2 (.lst [.ref l1])) l1 = some (.lst []) := same_new n2 _ _ _ upd_same
      generalize (upd (upd H l1 (.lst [])) l2 (.lst [.ref l1])) = H1 at sL h1 h2 ⊢
      have p0 : parts = [] := by
        cases parts with
        | nil => rfl
        | cons p ps => rw [l0] at lx; cases lx
      subst p0
      have hsz : ∀ b : Bool, [V.ref l1].length * (if b = true then (1 : Int) else 0).toNat ≤ sizeLine := fun b => by
        cases b
        · show 1 * 0 ≤ sizeLine; decide
        · show 1 * 1 ≤ sizeLine; decide
      refine ⟨_, rfl, rfl, .inr ⟨_, rfl, l2, _, [.ref l1], rfl, rfl, h2, ?_, ?_, hsz _, fun r nr => ?_⟩⟩
      · split <;> decide
      · split <;> decide
      · have sr := same_new nr (.lst (List.replicate (if decide (V.int ((m : Nat) : Int) = V.int 0) = true then (1 : Int) else 0).toNat [V.ref l1]).flatten)
        refine q r _ _ (new_none sL nr) (sL.trans sr) upd_same ?_ ?_
        rotate_left 1
        · intro c hc
          obtain ⟨l', hl', hc'⟩ := List.mem_flatten.mp hc
          have e := List.eq_of_mem_replicate hl'
          rw [e] at hc'
          rw [V.ref.inj (List.mem_singleton.mp hc')]
          exact n1
        have e : sideL (bds false) [] m = if m = 0 then [[]] else [] := rfl
        rw [e]
        by_cases c : m = 0
        · subst c
          exact .cons ⟨l1, [], rfl, sr _ _ h1, .nil⟩ .nil
        · rw [if_neg c]
          have d : decide (V.int ((m : Nat) : Int) = V.int 0) = false := decide_eq_false fun z => c (by have := V.int.inj z; omega)
          rw [d]
          exact .nil
    have l0 : xs.length ≠ 0 := fun e => z (by rw [e]; rfl)
    obtain ⟨k, ks, rfl⟩ : ∃ k ks, parts = k :: ks := by
      cases parts with
      | nil => exact absurd lx (by intro e; exact l0 e)
      | cons p ps => exact ⟨p, ps, rfl⟩
    obtain ⟨x0, xt, rfl⟩ : ∃ x0 xt, xs = x0 :: xt := by
      cases xs with
      | nil => exact absurd rfl l0
      | cons p ps => exact ⟨p, ps, rfl⟩
    have hk0 : LsR K H x0 k := by
      cases rxs with
      | cons h _ => exact h
    have hkt : RowsAt K H xt ks := by
      cases rxs with
      | cons _ t => exact t
    obtain ⟨ka, kys, rfl, hka, rka⟩ := hk0
    refine ⟨(by show 0 ≤ sizeLine; decide), fun fl nfl => ?_⟩
    have sF := same_new nfl (.lst [])
    have hfl : (upd H fl (.lst [])) fl = some (.lst []) := upd_same
    generalize (upd H fl (.lst [])) = H0 at sF hfl ⊢
    have hL : (sideL (bds false) (k :: ks) m).length ≤ 2000 := by rw [side_len]; exact hs m (Nat.le_refl _)
    refine ⟨_, rfl, _, _, rfl, rfl, _, rfl, by omega, by omega, ?_⟩
    refine for_range (n := (((m : Nat) : Int) + 1).toNat) (fun own σ H' => ∃ (fp : Addr) (acc : List V) (y3 y4 y5 y6 : Option V), σ = [some (.ref a), some (.int ((m : Nat) : Int)), some (.ref fp), y3, y4, y5, y6] ∧ Same H0 H' ∧ H fp = none ∧ H' fp = some (.lst acc) ∧ RowsAt K H' acc ((List.range own).flatMap fun few => (bds false k few).flatMap fun b => (sideL (bds false) ks (m - few)).map (b :: ·)) ∧ ∀ c, V.ref c ∈ acc → H c = none)
      ⟨fl, [], none, none, none, none, rfl, Same.refl _, nfl, hfl, .nil, fun c hc => (by cases hc)⟩ ?_ ?_
    · rintro own σ H1 hown ⟨fp, acc, y3, y4, y5, y6, rfl, s1, nfp, hf1, ra1, new1⟩
      have hom : own ≤ m := by omega
      have e0 : (0 : Int) + ((own : Nat) : Int) = ((own : Nat) : Int) := by omega
      have es : ((m : Nat) : Int) - (0 + ((own : Nat) : Int)) = ((m - own : Nat) : Int) := by omega
      have ha1 := s1 _ _ (sF _ _ ha)
      have pre1 := range_pre (f := fun few => (bds false k few).flatMap fun b => (sideL (bds false) ks (m - few)).map (b :: ·)) (n := m + 1) (i := own) (by omega)
      have ec : cutV (.ref ka :: xt) (some 1) none = xt := by
        have z := cutV_from (.ref ka :: xt) 1
        exact z
      refine ⟨_, rfl, 1, rfl, a, _, rfl, SqL.of ha1, fun sl nsl => ⟨_, rfl, _, rfl, _, _, rfl, rfl, ?_⟩⟩
      rw [ec]
      have sS := same_new nsl (.lst xt)
      have hsl : (upd H1 sl (.lst xt)) sl = some (.lst xt) := upd_same
      generalize (upd H1 sl (.lst xt)) = H2 at sS hsl ⊢
      refine ⟨sl, xt, ks, m - own, by show [V.ref sl, V.int (((m : Nat) : Int) - (0 + ((own : Nat) : Int)))] = _; rw [es], by omega, by omega, by have : (k :: ks).length = ks.length + 1 := rfl; omega, hsl, rowsAt_same (sF.trans (s1.trans sS)) hkt, fun k' hk' => (hok k' (List.mem_cons_of_mem _ hk')).le (by omega), hs.tail (by omega), by have : (k :: ks).length = ks.length + 1 := rfl; omega, fun rb rys H3 nrb s3 hrb rrb _ => ?_⟩
      have s13 := s1.trans (sS.trans s3)
      have hf3 := (sS.trans s3) _ _ hf1
      have ra3 := rowsAt_same (sS.trans s3) ra1
      have lrb := rrb.length
      have enx : (List.range (own + 1)).flatMap (fun few => (bds false k few).flatMap fun b => (sideL (bds false) ks (m - few)).map (b :: ·)) = (List.range own).flatMap (fun few => (bds false k few).flatMap fun b => (sideL (bds false) ks (m - few)).map (b :: ·)) ++ (bds false k own).flatMap fun b => (sideL (bds false) ks (m - own)).map (b :: ·) := by
        rw [List.range_succ, List.flatMap_append, List.flatMap_cons, List.flatMap_nil, List.append_nil]
      refine ⟨_, rfl, rb, rys, rfl, .inl (SqL.of hrb), ?_⟩
      refine ⟨_, _, rfl, rfl, _, rfl, ite2 (fun z => ?_) (fun z => ?_)⟩
      rotate_left
      · have z0 : rys.length = 0 := by
          rcases Nat.eq_zero_or_pos rys.length with h | h
          · exact h
          · exact absurd (decide_eq_true (show (0 : Int) < ((rys.length : Nat) : Int) by omega)) z
        have R0 : sideL (bds false) ks (m - own) = [] := List.eq_nil_of_length_eq_zero (by omega)
        refine ⟨fp, acc, _, _, _, _, rfl, s13, nfp, hf3, ?_, new1⟩
        rw [enx, R0]
        have e1 : (bds false k own).flatMap (fun b => (([] : List (List D)).map (b :: ·))) = [] := by
          show (bds false k own).flatMap (fun _ => ([] : List (List D))) = []
          generalize bds false k own = l'
          induction l' with
          | nil => rfl
          | cons a l' ih => rw [List.flatMap_cons, ih]; rfl
        rw [e1, List.append_nil]
        exact ra3
      have ha3 := (sS.trans s3) _ _ ha1
      have sH3 := sF.trans s13
      have hat0 : atI (V.ref ka :: xt) 0 = some (V.ref ka) := atI_nat (j := 0) rfl
      refine ⟨_, rfl, a, _, 0, _, rfl, rfl, SqL.of ha3, hat0, _, rfl, ka, kys, k, own, by show [V.ref ka, V.int (0 + ((own : Nat) : Int))] = _; rw [e0], by omega, by omega, sH3 _ _ hka, rka.mono (kx_same sH3), (hok k (List.mem_cons_self ..)).le hom, hs.head hom, fun bb bys H4 nbb s4 hbb rbb => ?_⟩
      have lbb := rbb.length
      generalize hR : sideL (bds false) ks (m - own) = R at rrb lrb enx pre1
      refine ⟨bb, rfl, ⟨_, SqL.of hbb⟩, for_list (K := K) (a := bb) (xs := bys) (fun e σ H' => ∃ (fp : Addr) (acc : List V) (y5 y6 : Option V), σ = [some (.ref a), some (.int ((m : Nat) : Int)), some (.ref fp), some (.int (0 + ((own : Nat) : Int))), some (.ref rb), y5, y6] ∧ Same H4 H' ∧ H fp = none ∧ H' fp = some (.lst acc) ∧ RowsAt K H' acc ((List.range own).flatMap (fun few => (bds false k few).flatMap fun b => (sideL (bds false) ks (m - few)).map (b :: ·)) ++ ((bds false k own).take e).flatMap fun b => R.map (b :: ·)) ∧ ∀ c, V.ref c ∈ acc → H c = none)
        ⟨fp, acc, _, _, rfl, Same.refl _, nfp, s4 _ _ hf3, by rw [List.take_zero, List.flatMap_nil, List.append_nil]; exact rowsAt_same s4 ra3, new1⟩ (fun e σ H' _ ⟨_, _, _, _, _, sm, _⟩ => SqL.of (sm _ _ hbb)) ?_ ?_⟩
      · rintro e x σ H5 hx ⟨fp, acc, y5, y6, rfl, s5, nfp, hf5, ra5, new5⟩
        obtain ⟨bd, hbd, rx⟩ := (rbb.mono (kx_same s5)).get hx
        have hrb5 := (s4.trans s5) _ _ hrb
        have rrb5 := rowsAt_same (s4.trans s5) rrb
        have pre2 := flat_pre (f := fun b => R.map (b :: ·)) hbd
        have lra := ra5.length
        rw [List.length_append] at lra
        rw [side_len] at hL
        have hL2 : ((List.range (m + 1)).flatMap fun few => (bds false k few).flatMap fun b => (sideL (bds false) ks (m - few)).map (b :: ·)).length ≤ 2000 := by rw [← side_len false] at hL; exact hL
        refine ⟨_, rfl, _, rfl, rb, rfl, ⟨_, SqL.of hrb5⟩, fun dl ndl => ?_⟩
        refine lc_it walk_list (fun t H' => Same H5 H' ∧ ∃ ac, H' dl = some (.lst ac) ∧ RowsAt K H' ac ((R.take t).map (bd :: ·)) ∧ ∀ c, V.ref c ∈ ac → c ≠ dl ∧ H c = none) ⟨same_new ndl _, [], upd_same, .nil, fun c hc => (by cases hc)⟩ (fun t H' _ h => SqL.of (h.1 _ _ hrb5)) ?_ ?_
        · rintro t x6 H6 H6' ht ⟨s6, ac, hd6, rd6, nin⟩ ⟨rfl, hx6⟩
          obtain ⟨row, hrow, pr, pys, rfl, hpr, rpr⟩ := paired_at (rowsAt_same s6 rrb5) hx6
          have lrow := (side_rows (F := bds false) (ks := ks) (n := m - own) (row := row) (by rw [hR]; exact List.mem_of_getElem? hrow)).1
          have lpr := rpr.length
          have lks : (k :: ks).length = ks.length + 1 := rfl
          have lac := rd6.length
          rw [List.length_map, List.length_take] at lac
          rw [List.length_map] at pre2
          refine ⟨rfl, ?_⟩
          refine ⟨_, rfl, (by show 1 ≤ sizeLine; decide), fun l1 nl1 => ⟨_, rfl, l1, pr, [x], pys, rfl, rfl, upd_same, same_new nl1 _ _ _ hpr, small6' (by show 1 + pys.length ≤ 1000000; omega), fun c nc => ?_⟩⟩
          have hGG := (same_new nl1 (.lst [x])).trans (same_new nc (.lst ([x] ++ pys)))
          have ncd : c ≠ dl := fun zz => by
            have := same_new nl1 (.lst [x]) _ _ hd6
            rw [← zz, nc] at this
            cases this
          have kl := kx_list (hGG _ _ hd6) (ac ++ [.ref c])
          have keep : ∀ {v : V} {rw_ : List D}, LsR K H6' v rw_ → (∀ c', v = .ref c' → c' ≠ dl) → LsR K (upd (upd (upd H6' l1 (.lst [x])) c (.lst ([x] ++ pys))) dl (.lst (ac ++ [.ref c]))) v rw_ := fun ⟨q1, qy, e1, e2, e3⟩ hn =>
            ⟨q1, qy, e1, by rw [upd_ne (hn q1 e1)]; exact hGG _ _ e2, (e3.mono (kx_same hGG)).mono kl⟩
          have keeps : ∀ {xs : List V} {rows : List (List D)}, RowsAt K H6' xs rows → (∀ c, V.ref c ∈ xs → c ≠ dl) → RowsAt K (upd (upd (upd H6' l1 (.lst [x])) c (.lst ([x] ++ pys))) dl (.lst (ac ++ [.ref c]))) xs rows := fun {xs rows} h => by
            induction h with
            | nil => intro _; exact .nil
            | cons h t ih => intro hn; exact .cons (keep h fun c' e => hn c' (by rw [e]; exact List.mem_cons_self ..)) (ih fun c' hc' => hn c' (List.mem_cons_of_mem _ hc'))
          refine ⟨ac, hGG _ _ hd6, small6 (by omega), fun z o ez => by rw [upd_ne (ne_of_none ez ndl)]; exact hGG _ _ (s6 _ _ ez), ac ++ [.ref c], upd_same, ?_, fun c' hc' => ?_⟩
          · rw [List.take_add_one, hrow, List.map_append]
            refine paired_app (keeps rd6 fun c hc => (nin c hc).1) (.cons ⟨c, [x] ++ pys, rfl, by rw [upd_ne ncd]; exact upd_same, ?_⟩ .nil)
            exact ((Reps.one (rx.mono (kx_same (s6.trans hGG)))).append (rpr.mono (kx_same hGG))).mono kl
          · rcases List.mem_append.mp hc' with zz | zz
            · exact nin c' zz
            · have := V.ref.inj (List.mem_singleton.mp zz)
              rw [this]
              exact ⟨ncd, new_none (sH3.trans (s4.trans (s5.trans (s6.trans (same_new nl1 (.lst [x])))))) nc⟩
        · rintro H6 ⟨s6, ac, hd6, rd6, nin⟩
          rw [lrb, List.take_length] at rd6
          have lac := rd6.length
          refine ⟨fp, dl, acc, ac, rfl, rfl, s6 _ _ hf5, hd6, ?_, fun W nW => ?_⟩
          · rw [sizeLine_eq]
            have e3 : ((List.range own).flatMap (fun few => (bds false k few).flatMap fun b => (sideL (bds false) ks (m - few)).map (b :: ·))).length + ((bds false k own).flatMap fun b => R.map (b :: ·)).length ≤ 2000 := by
              have : (bds false k own).flatMap (fun b => (sideL (bds false) ks (m - own)).map (b :: ·)) = (bds false k own).flatMap fun b => R.map (b :: ·) := by rw [hR]
              have p1 := pre1
              omega
            have p2 : (((bds false k own).take e).flatMap fun b => R.map (b :: ·)).length + (R.map (bd :: ·)).length ≤ ((bds false k own).flatMap fun b => R.map (b :: ·)).length := pre2
            omega
          · have sW := same_new nW (.lst (acc ++ ac))
            refine ⟨W, acc ++ ac, _, _, rfl, s5.trans (s6.trans sW), new_none (sH3.trans (s4.trans (s5.trans s6))) nW, upd_same, ?_, fun c hc => (List.mem_append.mp hc).elim (new5 c) fun z => (nin c z).2⟩
            rw [List.take_add_one, hbd, List.flatMap_append, ← List.append_assoc]
            have e1 : (some bd).toList.flatMap (fun b => R.map (b :: ·)) = R.map (bd :: ·) := by
              show [bd].flatMap _ = _
              rw [List.flatMap_cons, List.flatMap_nil, List.append_nil]
            rw [e1]
            exact paired_app (rowsAt_same (s6.trans sW) ra5) (rowsAt_same sW rd6)
      · rintro σ H5 ⟨fp, acc, y5, y6, rfl, s5, nfp, hf5, ra5, new5⟩
        rw [lbb, List.take_length] at ra5
        refine ⟨fp, acc, _, _, _, _, rfl, s13.trans (s4.trans s5), nfp, hf5, ?_, new5⟩
        rw [enx]
        exact ra5
    · rintro σ H1 ⟨fp, acc, y3, y4, y5, y6, rfl, s1, nfp, hf1, ra1, new1⟩
      have en : (((m : Nat) : Int) + 1).toNat = m + 1 := by omega
      rw [en] at ra1
      exact ⟨_, rfl, q fp acc H1 nfp (sF.trans s1) hf1 ra1 new1⟩
end
end Pk

set_option maxRecDepth 100000
set_option maxHeartbeats 4000000
set_option pp.maxSteps 600
namespace Pk
open PySem PySem.Spec PyProof.Rows L2
theorem rev_get {l : List D} {i : Nat} {x : D} (h : l[i]? = some x) : l.reverse[l.length - 1 - i]? = some x := by
  have hi := (List.getElem?_eq_some_iff.mp h).1
  rw [List.getElem?_reverse (by omega)]
  rw [show l.length - 1 - (l.length - 1 - i) = i by omega]
  exact h
theorem ups_get {ks : List D} {i : Nat} {kd : D} (h : ks[i]? = some kd) : (upsOf false ks)[i]? = some (kd, ks.length - 1 - i) := by
  have hi := (List.getElem?_eq_some_iff.mp h).1
  show (ks.reverse.zipIdx.reverse)[i]? = _
  rw [List.getElem?_reverse (by rw [List.length_zipIdx, List.length_reverse]; exact hi), List.length_zipIdx, List.length_reverse]
  exact zip_get (rev_get h)
theorem flt_len {kd : D} : ∀ {ks : List D}, kd ∈ ks → (inn kd).length ≤ (flt ks).length
  | k :: ks, h => by
    show _ ≤ (inn k ++ flt ks).length
    rw [List.length_append]
    rcases List.mem_cons.mp h with rfl | h
    · omega
    · have := flt_len h
      omega
section
variable {P : Program} {w : World} {K : PySem.W.Frag} {mg : Str → Option Value} {base : Heap}
theorem ok_lbd {n j : Nat} {f f2 : Addr} {fd f2d : FuncData} (D__law_bodies : Df K mg "_law_bodies" s__law_bodies ["kinds", "many"] f fd) (D__law_shared : Df K mg "_law_shared" s__law_shared ["parts", "many"] f2 f2d) (B : Bt mg)
    (G__law_shared : FnOk P w K mg base CX0 j f2 f2d ["parts", "many"] (spLs K n 7)) : FnOk P w K mg base CX0 (j + 1) f fd ["kinds", "many"] (spLb K (n + 1)) := by
  refine D__law_bodies.ok c__law_bodies (fun vs H Q E h => ?_) (fun cdv A outer s H vs Q E hr h => ?_)
  · obtain ⟨a, xs, ks, m, rfl, _⟩ := h
    rfl
  obtain ⟨a, zs, ks, m, rfl, hmn, h3, ha, rzs, ok, hsm, q⟩ := h
  have nd := c__law_bodies.nd
  refine ⟨_, (pss_cons (ps_if (pt_cmpR op_eq (pv 1) pe_int (nomark _)) (pss_one (ps_ret (pe_lst (pa_cons (pe_tup (pa_cons pe_str (pa_cons pe_int pa_nil))) (pa_cons (pe_tup (pa_cons pe_str (pa_cons pe_int pa_nil))) (pa_cons (pe_tup (pa_cons pe_str pa_nil)) pa_nil)))))) pss_nil)
  (pss_cons (ps_set (i := 2) nd rfl (Or.inl rfl) (pe_lst pa_nil))
  (pss_cons (ps_for PassesOwn.never rfl (pi_range1 (by rfl) B.b_range (pa_cons (pe_callB call_len_seq (by rfl) B.b_len PySem.boot_len (pa_cons (pv 0) pa_nil)) pa_nil)) (pg_name (i := 3) nd rfl (Or.inl rfl)) (pss_one (ps_for PassesOwn.never rfl (pi_range1 (by rfl) B.b_range (pa_cons (pe_callB call_len_seq (by rfl) B.b_len PySem.boot_len (pa_cons (pe_ix ix_list (pv 0) (pv 3) (fun _ _ => rfl)) pa_nil)) pa_nil)) (pg_name (i := 4) nd rfl (Or.inl rfl)) (pss_cons (ps_set (i := 5) nd rfl (Or.inr rfl) (pe_ix ix_tup (pe_ix ix_list (pv 0) (pv 3) (fun _ _ => rfl)) (pv 4) (fun _ _ => rfl)))
  (pss_one (ps_for PassesOwn.never rfl (pi_list (pe_call G__law_shared (hr.mono (by first | decide | omega)) (by rfl) D__law_shared.m D__law_shared.kp D__law_shared.b .nil pass0 (pa_cons (pe_op op_cat (pe_lc (own := [("part", 8)]) (g := (gName 8)) (tt := tYes) rfl nd (pi_tup (pv 5)) (blkOk_by (own := [("part", 8)]) (N := ["kinds", "many", "found", "at", "k", "kind", "row", "given", "part", "j"]) (sc := defScope s__law_bodies) (by decide +kernel)) (fun _ _ _ _ _ => (pg_name (i := 8) nd rfl (Or.inl rfl))) (fun _ _ _ _ _ => pts_nil) (fun _ _ _ _ _ => (pe_op op_cat (pv 0) (pe_lst (pa_cons (pv 8) pa_nil))))) (pe_lst (pa_cons (pv 0) (pa_cons (pv 0) pa_nil)))) (pa_cons (pe_op op_sub (pv 1) pe_int) pa_nil)))) (pg_name (i := 6) nd rfl (Or.inr rfl)) (pss_cons (ps_set (i := 7) nd rfl (Or.inl rfl) (pe_callTy call_tuple_of (by rfl) B.b_tuple (by decide +kernel) (pa_cons (pe_lc (own := [("j", 9)]) (g := (gName 9)) (tt := tYes) rfl nd (pi_range1 (by rfl) B.b_range (pa_cons (pe_callB call_len_seq (by rfl) B.b_len PySem.boot_len (pa_cons (pv 5) pa_nil)) pa_nil)) (blkOk_by (own := [("j", 9)]) (N := ["kinds", "many", "found", "at", "k", "kind", "row", "given", "part", "j"]) (sc := defScope s__law_bodies) (by decide +kernel)) (fun _ _ _ _ _ => (pg_name (i := 9) nd rfl (Or.inl rfl))) (fun _ _ _ _ _ => pts_nil) (fun _ _ _ _ _ => (pe_tup (pa_cons pe_str (pa_cons (pe_callB (show CallR _ (.builtin "len") (rLenS K) from call_len_seq) (by rfl) B.b_len PySem.boot_len (pa_cons (pe_ix (show IxR _ (rIxT K) from ix_tup) (pv 5) (pv 9) (fun _ _ => rfl)) pa_nil)) (pa_cons (pe_ix (show IxR _ (rIxL K) from ix_list) (pv 6) (pv 9) (fun _ _ => rfl)) pa_nil)))))) pa_nil)))
  (pss_one (ps_expr (pe_bm PySem.F.plainAttrs_list PySem.F.slot_list_append PySem.F.type_list_append mt_append (pv 2) (pa_cons (pe_tup (pa_cons pe_str (pa_cons (pe_op op_sub (pe_op op_sub (pe_callB call_len_seq (by rfl) B.b_len PySem.boot_len (pa_cons (pv 0) pa_nil)) pe_int) (pv 3)) (pa_cons (pv 4) (pa_cons (pv 7) (pa_cons (pe_ix ix_list (pv 6) (pe_callB call_len_seq (by rfl) B.b_len PySem.boot_len (pa_cons (pv 5) pa_nil)) (fun _ _ => rfl)) (pa_cons (pe_ix ix_list (pv 6) (pe_op op_add (pe_callB call_len_seq (by rfl) B.b_len PySem.boot_len (pa_cons (pv 5) pa_nil)) pe_int) (fun _ _ => rfl)) pa_nil))))))) pa_nil)))))))))))
  (pss_one (ps_ret (pv 2)))))), ?_⟩
  have lz := rzs.length
  have hlk := ok.l
  refine ⟨_, rfl, rfl, _, rfl, ite2 (fun z => ?_) (fun z => ?_)⟩
  · have m0 : m = 0 := by
      have := V.int.inj (of_decide_eq_true z)
      omega
    subst m0
    refine ⟨(by show 2 ≤ sizeLine; decide), fun t1 n1 => ⟨(by show 2 ≤ sizeLine; decide), fun t2 n2 => ⟨(by show 1 ≤ sizeLine; decide), fun t3 n3 => ⟨(by show 3 ≤ sizeLine; decide), fun l nl => ?_⟩⟩⟩⟩
    have s3 := (same_new n1 (.tup [.str "say", .int 0])).trans ((same_new n2 (.tup [.str "say", .int 1])).trans ((same_new n3 (.tup [.str "stop"])).trans (same_new nl (.lst [.ref t1, .ref t2, .ref t3]))))
    refine q l _ _ (new_none ((same_new n1 (.tup [.str "say", .int 0])).trans ((same_new n2 (.tup [.str "say", .int 1])).trans (same_new n3 (.tup [.str "stop"])))) nl) s3 upd_same ?_
    refine .cons (.tup' (same_new nl _ _ _ (same_new n3 _ _ _ (same_new n2 _ _ _ upd_same))) (.cons (.at rfl) (.one (.at rfl)))) (.cons (.tup' (same_new nl _ _ _ (same_new n3 _ _ _ upd_same)) (.cons (.at rfl) (.one (.at rfl)))) (.one (.tup' (same_new nl _ _ _ upd_same) (.one (.at rfl)))))
  obtain ⟨m', rfl⟩ : ∃ m', m = m' + 1 := ⟨m - 1, by
    have : m ≠ 0 := fun e => z (by rw [e]; rfl)
    omega⟩
  refine ⟨(by show 0 ≤ sizeLine; decide), fun fl nfl => ?_⟩
  have sF := same_new nfl (.lst [])
  have hfl : (upd H fl (.lst [])) fl = some (.lst []) := upd_same
  generalize (upd H fl (.lst [])) = H0 at sF hfl ⊢
  have ha0 := sF _ _ ha
  have naf : a ≠ fl := ne_of_none ha nfl
  have rz0 := rzs.mono (kx_same sF)
  have hL : (bds false ks (m' + 1)).length ≤ 2000 := by rw [bds_len]; exact hsm
  rw [bds_succ] at hL
  have kR : ∀ {H' : Hp} {ys : List V}, SB fl H0 H' → H' fl = some (.lst ys) → Kx H0 H' := fun sb h => sb_kx sb hfl h
  refine ⟨_, rfl, a, zs, rfl, .inl (SqL.of ha0), _, rfl, by omega, by omega, ?_⟩
  refine for_range (n := ((zs.length : Nat) : Int).toNat) (fun u σ H' => SB fl H0 H' ∧ (∃ acc, H' fl = some (.lst acc) ∧ Reps K H' acc (((upsOf false ks).take u).flatMap (asksOf (bds false) ks m'))) ∧ ∃ (y3 y4 y5 y6 y7 y8 y9 : Option V), σ = [some (.ref a), some (.int (((m' + 1 : Nat)) : Int)), some (.ref fl), y3, y4, y5, y6, y7, y8, y9])
    ⟨SB.refl _ _, ⟨[], hfl, .nil⟩, none, none, none, none, none, none, none, rfl⟩ ?_ ?_
  · rintro u σ H1 hu ⟨sb1, ⟨acc1, hf1, ra1⟩, y3, y4, y5, y6, y7, y8, y9, rfl⟩
    have hul : u < zs.length := by omega
    have hzu : zs[u]? = some zs[u] := List.getElem?_eq_getElem hul
    obtain ⟨kd, hkd, ry⟩ := rz0.get hzu
    have hup := ups_get hkd
    have kdm : kd ∈ ks := List.mem_of_getElem? hkd
    obtain ⟨ekd, kkd⟩ := inn_k (isK_mem ok.k kdm)
    obtain ⟨b, us, eb, hb, rus⟩ := Rep.inv (ts := inn kd) (by rw [← ekd]; exact ry)
    rw [eb] at hzu
    have lu := rus.length
    have lfl := flt_len kdm
    have lfk := ok.o.len
    have eu : (0 : Int) + ((u : Nat) : Int) = ((u : Nat) : Int) := by omega
    have hatU : atI zs ((0 : Int) + ((u : Nat) : Int)) = some (.ref b) := by rw [eu]; exact atI_nat hzu
    have pre1 := flat_pre (f := asksOf (bds false) ks m') hup
    have up_eq : (((zs.length : Nat) : Int) - 1) - (0 + ((u : Nat) : Int)) = ((ks.length - 1 - u : Nat) : Int) := by omega
    refine ⟨_, rfl, _, rfl, a, zs, _, _, rfl, rfl, SqL.of (sb1 _ _ naf ha0), hatU, b, us, rfl, .inr (hb.kx (kR sb1 hf1)).sq, _, rfl, by omega, by omega, ?_⟩
    refine for_range (n := ((us.length : Nat) : Int).toNat) (fun k σ H' => SB fl H0 H' ∧ (∃ acc, H' fl = some (.lst acc) ∧ Reps K H' acc (((upsOf false ks).take u).flatMap (asksOf (bds false) ks m') ++ ((inn kd).zipIdx.take k).flatMap fun q => (sideL (bds false) (prts ks q.1) m').map (mkA (ks.length - 1 - u) q.2 q.1))) ∧ ∃ (y4 y5 y6 y7 y8 y9 : Option V), σ = [some (.ref a), some (.int (((m' + 1 : Nat)) : Int)), some (.ref fl), some (.int (0 + ((u : Nat) : Int))), y4, y5, y6, y7, y8, y9])
      ⟨sb1, ⟨acc1, hf1, by rw [List.take_zero, List.flatMap_nil, List.append_nil]; exact ra1⟩, _, _, _, _, _, _, rfl⟩ ?_ ?_
    · rintro k σ H3 hk ⟨sb3, ⟨acc3, hf3, ra3⟩, y4, y5, y6, y7, y8, y9, rfl⟩
      have hkl : k < us.length := by omega
      have huk : us[k]? = some us[k] := List.getElem?_eq_getElem hkl
      obtain ⟨ad, had, ryA⟩ := rus.get huk
      have hqk : (inn kd).zipIdx[k]? = some (ad, k) := zip_get had
      have ham : ad ∈ flt ks := flt_mem kdm (List.mem_of_getElem? had)
      obtain ⟨ead, kad⟩ := inn_k (isK_mem kkd (List.mem_of_getElem? had))
      obtain ⟨c, ws, ec, hc, rws⟩ := Rep.inv (ts := inn ad) (by rw [← ead]; exact ryA)
      rw [ec] at huk
      have lw := rws.length
      have la := ok.o.inn ham
      have ek : (0 : Int) + ((k : Nat) : Int) = ((k : Nat) : Int) := by omega
      have hatK : atI us ((0 : Int) + ((k : Nat) : Int)) = some (.ref c) := by rw [ek]; exact atI_nat huk
      have pre2 := flat_pre (f := fun q : D × Nat => (sideL (bds false) (prts ks q.1) m').map (mkA (ks.length - 1 - u) q.2 q.1)) hqk
      have k3 := kR sb3 hf3
      have ha3 := sb3 _ _ naf ha0
      have hc3 := hc.kx k3
      have rws3 := rws.mono k3
      have rz3 := rz0.mono k3
      refine ⟨_, rfl, _, rfl, a, zs, _, _, rfl, rfl, SqL.of ha3, hatU, _, rfl, b, us, _, _, rfl, rfl, (hb.kx k3).sq, hatK, ?_⟩
      refine ⟨_, rfl, c, rfl, ⟨_, hc3.sq⟩, fun wl nwl => ?_⟩
      refine lc_it walk_tup (fun e H' => Same H3 H' ∧ ∃ ac, H' wl = some (.lst ac) ∧ RowsAt K H' ac (((inn ad).take e).map fun x => ks ++ [x]) ∧ ∀ c, V.ref c ∈ ac → c ≠ wl) ⟨same_new nwl _, [], upd_same, .nil, fun c hc => (by cases hc)⟩ (fun e H' _ h => (hc3.same h.1).sq) ?_ ?_
      · rintro e x5 H5 H5' he ⟨s5, ac, hw5, rw5, nin⟩ ⟨rfl, hx5⟩
        obtain ⟨xd, hxd, rx5⟩ := (rws3.mono (kx_same s5)).get hx5
        have lacc := rw5.length
        rw [List.length_map, List.length_take] at lacc
        refine ⟨rfl, ?_⟩
        refine ⟨_, rfl, _, rfl, (by show 1 ≤ sizeLine; decide), fun l1 nl1 => ⟨a, l1, zs, [x5], rfl, rfl, same_new nl1 _ _ _ (s5 _ _ ha3), upd_same, small6' (by show zs.length + 1 ≤ 1000000; omega), fun c2 nc => ?_⟩⟩
        have hGG := (same_new nl1 (.lst [x5])).trans (same_new nc (.lst (zs ++ [x5])))
        have ncd : c2 ≠ wl := fun zz => by
          have := same_new nl1 (.lst [x5]) _ _ hw5
          rw [← zz, nc] at this
          cases this
        have kl := kx_list (hGG _ _ hw5) (ac ++ [.ref c2])
        have keeps : ∀ {xs : List V} {rows : List (List D)}, RowsAt K H5' xs rows → (∀ c, V.ref c ∈ xs → c ≠ wl) → RowsAt K (upd (upd (upd H5' l1 (.lst [x5])) c2 (.lst (zs ++ [x5]))) wl (.lst (ac ++ [.ref c2]))) xs rows := fun {xs rows} h => by
          induction h with
          | nil => intro _; exact .nil
          | cons h t ih =>
            intro hn
            obtain ⟨q1, qy, e1, e2, e3⟩ := h
            exact .cons ⟨q1, qy, e1, by rw [upd_ne (hn q1 (by rw [e1]; exact List.mem_cons_self ..))]; exact hGG _ _ e2, (e3.mono (kx_same hGG)).mono kl⟩ (ih fun c' hc' => hn c' (List.mem_cons_of_mem _ hc'))
        refine ⟨ac, hGG _ _ hw5, small6 (by omega), fun z o ez => by rw [upd_ne (ne_of_none ez nwl)]; exact hGG _ _ (s5 _ _ ez), ac ++ [.ref c2], upd_same, ?_, fun c' hc' => ?_⟩
        · rw [List.take_add_one, hxd, List.map_append]
          refine paired_app (keeps rw5 nin) (.cons ⟨c2, zs ++ [x5], rfl, by rw [upd_ne ncd]; exact upd_same, ?_⟩ .nil)
          exact ((rz3.mono (kx_same (s5.trans hGG))).append (.one (rx5.mono (kx_same hGG)))).mono kl
        · rcases List.mem_append.mp hc' with zz | zz
          · exact nin c' zz
          · have := V.ref.inj (List.mem_singleton.mp zz)
            rw [this]; exact ncd
      · rintro H5 ⟨s5, ac, hw5, rw5, nin⟩
        rw [lw, List.take_length] at rw5
        have lacc := rw5.length
        rw [List.length_map] at lacc
        refine ⟨_, rfl, _, rfl, (by show 2 ≤ sizeLine; decide), fun q1 nq1 => ⟨wl, q1, ac, _, rfl, rfl, same_new nq1 _ _ _ hw5, upd_same, small6' (by show ac.length + 2 ≤ 1000000; omega), fun W nW => ?_⟩⟩
        have s6 := (same_new nq1 (.lst [.ref a, .ref a])).trans (same_new nW (.lst (ac ++ [.ref a, .ref a])))
        have hW : (upd (upd H5 q1 (.lst [.ref a, .ref a])) W (.lst (ac ++ [.ref a, .ref a]))) W = some (.lst (ac ++ [.ref a, .ref a])) := upd_same
        generalize (upd (upd H5 q1 (.lst [.ref a, .ref a])) W (.lst (ac ++ [.ref a, .ref a]))) = H6 at s6 hW ⊢
        have s36 := s5.trans s6
        have rka : LsR K H6 (.ref a) ks := ⟨a, zs, rfl, s36 _ _ ha3, rz3.mono (kx_same s36)⟩
        have rW : RowsAt K H6 (ac ++ [.ref a, .ref a]) (prts ks ad) := by
          unfold prts
          exact paired_app (rowsAt_same s6 rw5) (.cons rka (.cons rka .nil))
        have em : ((m' + 1 : Nat) : Int) - 1 = ((m' : Nat) : Int) := by omega
        have okp : ∀ kk, kk ∈ prts ks ad → OkC m' kk := fun kk hkk => by
          obtain ⟨i, hi⟩ := List.mem_iff_getElem?.mp hkk
          rcases prts_get hi with rfl | ⟨x, hx, rfl⟩
          · exact ok.le (by omega)
          · exact ok.app ham (List.mem_of_getElem? hx)
        have lpt := prts_len ks ad
        refine ⟨_, rfl, _, _, rfl, rfl, W, ac ++ [.ref a, .ref a], prts ks ad, m', by show [V.ref W, V.int (((m' + 1 : Nat) : Int) - 1)] = _; rw [em], by omega, by omega, by omega, hW, rW, okp, sms_prts ham hsm, by omega, fun rb rys H7 nrb s7 hrb rrb newr => ?_⟩
        have nrf : rb ≠ fl := fun z => by rw [z, s36 _ _ hf3] at nrb; cases nrb
        have s37 := s36.trans s7
        have lrb := rrb.length
        have hf7 := s37 _ _ hf3
        have ra7 := ra3.mono (kx_same s37)
        have hpl : (((upsOf false ks).take u).flatMap (asksOf (bds false) ks m') ++ ((inn kd).zipIdx.take k).flatMap fun q => (sideL (bds false) (prts ks q.1) m').map (mkA (ks.length - 1 - u) q.2 q.1)).length + ((sideL (bds false) (prts ks ad) m').map (mkA (ks.length - 1 - u) k ad)).length ≤ 2000 := by
          have h1 := pre2
          have h2 := pre1
          unfold asksOf at h2
          rw [List.length_append]
          have h4 : (((upsOf false ks).take u).flatMap (asksOf (bds false) ks m')).length + ((inn kd).zipIdx.flatMap fun q => (sideL (bds false) (prts ks q.1) m').map (mkA (ks.length - 1 - u) q.2 q.1)).length ≤ (List.flatMap (asksOf (bds false) ks m') (upsOf false ks)).length := h2
          have h5 : (((inn kd).zipIdx.take k).flatMap fun q => (sideL (bds false) (prts ks q.1) m').map (mkA (ks.length - 1 - u) q.2 q.1)).length + ((sideL (bds false) (prts ks ad) m').map (mkA (ks.length - 1 - u) k ad)).length ≤ ((inn kd).zipIdx.flatMap fun q => (sideL (bds false) (prts ks q.1) m').map (mkA (ks.length - 1 - u) q.2 q.1)).length := h1
          omega
        refine ⟨rb, rfl, ⟨_, SqL.of hrb⟩, for_list (K := K) (a := rb) (xs := rys) (fun e σ H' => SB fl H7 H' ∧ (∃ acc, H' fl = some (.lst acc) ∧ Reps K H' acc ((((upsOf false ks).take u).flatMap (asksOf (bds false) ks m') ++ ((inn kd).zipIdx.take k).flatMap fun q => (sideL (bds false) (prts ks q.1) m').map (mkA (ks.length - 1 - u) q.2 q.1)) ++ ((sideL (bds false) (prts ks ad) m').take e).map (mkA (ks.length - 1 - u) k ad))) ∧ ∃ (y6 y7 y8 y9 : Option V), σ = [some (.ref a), some (.int (((m' + 1 : Nat)) : Int)), some (.ref fl), some (.int (0 + ((u : Nat) : Int))), some (.int (0 + ((k : Nat) : Int))), some (.ref c), y6, y7, y8, y9])
          ⟨SB.refl _ _, ⟨acc3, hf7, by rw [List.take_zero, List.map_nil, List.append_nil]; exact ra7⟩, _, _, _, _, rfl⟩ (fun e σ H' _ h => SqL.of (h.1 _ _ nrf hrb)) ?_ ?_⟩
        · rintro e x σ H8 hx ⟨sb8, ⟨acc8, hf8, ra8⟩, y6, y7, y8, y9, rfl⟩
          obtain ⟨row, hrow, pr, pys, rfl, hpr, rpr⟩ := paired_at rrb hx
          have npf : pr ≠ fl := fun z => by
            have := newr pr (List.mem_of_getElem? hx)
            rw [z, s36 _ _ hf3] at this
            cases this
          have k78 : Kx H7 H8 := sb_kx sb8 hf7 hf8
          have hpr8 := sb8 _ _ npf hpr
          have rpr8 := rpr.mono k78
          have lpr := rpr.length
          obtain ⟨lrow, _⟩ := side_rows (List.mem_of_getElem? hrow)
          rw [lpt] at lrow
          have hc8 := (hc3.same s37).kx k78
          have rws8 := (rws3.mono (kx_same s37)).mono k78
          have ha8 : H8 a = some (.lst zs) := sb8 _ _ naf (s37 _ _ ha3)
          have lra := ra8.length
          rw [List.length_append, List.length_map, List.length_take] at lra
          rw [List.length_map] at hpl
          have he : e < (sideL (bds false) (prts ks ad) m').length := (List.getElem?_eq_some_iff.mp hrow).1
          refine ⟨_, rfl, c, ws, rfl, .inr hc8.sq, _, rfl, by omega, by omega, fun dl ndl => ?_⟩
          have nfd : fl ≠ dl := ne_of_none hf8 ndl
          refine lc_it walk_range (fun t H' => Same H8 H' ∧ ∃ ac, H' dl = some (.lst ac) ∧ ac.length = t ∧ Reps K H' ac ((prZ (inn ad) row).take t)) ⟨same_new ndl _, [], upd_same, rfl, .nil⟩ (fun _ _ _ _ => trivial) ?_ ?_
          · rintro t x9 H9 H9' ht ⟨s9, ac, hd9, lac, rd9⟩ ⟨rfl, rfl⟩
            have htl : t < (inn ad).length := by omega
            have et : (0 : Int) + ((t : Nat) : Int) = ((t : Nat) : Int) := by omega
            have he1 : (inn ad)[t]? = some (inn ad)[t] := List.getElem?_eq_getElem htl
            have he2 : row[t]? = some (row[t]'(by omega)) := List.getElem?_eq_getElem (by omega)
            obtain ⟨v1, hv1, rv1⟩ := rws8.getD he1
            obtain ⟨v2, hv2, rv2⟩ := rpr8.getD he2
            obtain ⟨ei, _⟩ := inn_k (isK_mem kad (List.getElem_mem htl))
            obtain ⟨g, gxs, rfl, hg, rg⟩ := Rep.inv (ts := inn (inn ad)[t]) (by rw [← ei]; exact rv1)
            have lg := rg.length
            refine ⟨rfl, ?_⟩
            refine ⟨_, rfl, _, rfl, c, ws, _, _, rfl, rfl, (hc8.same s9).sq, by rw [et]; exact atI_nat hv1, g, gxs, rfl, .inr (hg.same s9).sq, _, rfl, _, rfl, pr, pys, _, _, rfl, rfl, SqL.of (s9 _ _ hpr8), by rw [et]; exact atI_nat hv2, (by show 3 ≤ sizeLine; decide), fun t1 nt1 => ?_⟩
            have sg := same_new nt1 (.tup [.str "program", .int ((gxs.length : Nat) : Int), v2])
            have kl := kx_list (sg _ _ hd9) (ac ++ [.ref t1])
            refine ⟨ac, sg _ _ hd9, small6 (by omega), fun z o ez => by rw [upd_ne (ne_of_none ez ndl)]; exact sg _ _ (s9 _ _ ez), ac ++ [.ref t1], upd_same, by rw [List.length_append, lac]; rfl, ?_⟩
            rw [List.take_add_one, prZ_get he1 he2]
            refine ((rd9.mono (kx_same sg)).mono kl).append (.one (Rep.mono kl (.tup' upd_same (.cons (.at rfl) (.cons ?_ (.one (rv2.mono (kx_same (s9.trans sg)))))))))
            rw [lg]
            exact .at rfl
          · rintro H9 ⟨s9, ac, hd9, lac, rd9⟩
            have lz9 := prZ_len (as := inn ad) (row := row) (by omega)
            rw [show (((ws.length : Nat) : Int)).toNat = (prZ (inn ad) row).length by omega, List.take_length] at rd9
            refine ⟨dl, ac, rfl, .inl ⟨SqL.of hd9, fun gt ngt => ?_⟩⟩
            have sg := same_new ngt (.tup ac)
            have hgt : (upd H9 gt (.tup ac)) gt = some (.tup ac) := upd_same
            have rgt := rd9.mono (kx_same sg)
            have s8g := s9.trans sg
            generalize (upd H9 gt (.tup ac)) = HA at sg hgt rgt s8g ⊢
            obtain ⟨v1, hv1, rv1⟩ := rpr8.getD (row_get (row := row) (i := (inn ad).length) (by omega))
            obtain ⟨v2, hv2, rv2⟩ := rpr8.getD (row_get (row := row) (i := (inn ad).length + 1) (by omega))
            have hat1 : atI pys ((ws.length : Nat) : Int) = some v1 := by rw [lw]; exact atI_nat hv1
            have hat2 : atI pys (((ws.length : Nat) : Int) + 1) = some v2 := by
              rw [lw, show (((inn ad).length : Nat) : Int) + 1 = (((inn ad).length + 1 : Nat) : Int) by omega]
              exact atI_nat hv2
            refine ⟨_, rfl, .inl ⟨rfl, _, SqL.of (s8g _ _ hf8)⟩, _, rfl, a, zs, rfl, .inl (SqL.of (s8g _ _ ha8)), _, _, rfl, rfl, _, rfl, _, _, rfl, rfl, _, rfl, _, rfl, ?_⟩
            refine ⟨_, rfl, _, rfl, c, ws, rfl, .inr (hc8.same s8g).sq, pr, pys, _, _, rfl, rfl, SqL.of (s8g _ _ hpr8), hat1, ?_⟩
            refine ⟨_, rfl, _, rfl, c, ws, rfl, .inr (hc8.same s8g).sq, _, _, rfl, rfl, pr, pys, _, _, rfl, rfl, SqL.of (s8g _ _ hpr8), hat2, (by show 6 ≤ sizeLine; decide), fun tt ntt => ?_⟩
            have st := same_new ntt (.tup [.str "ask", .int ((((zs.length : Nat) : Int) - 1) - (0 + ((u : Nat) : Int))), .int (0 + ((k : Nat) : Int)), .ref gt, v1, v2])
            have s8t := s8g.trans st
            have hf9 := s8t _ _ hf8
            have kl := kx_list hf9 (acc8 ++ [.ref tt])
            refine ⟨fl, acc8, _, rfl, rfl, hf9, small6 (by omega), ?_⟩
            refine ⟨fun z o nz ez => by rw [upd_ne nz]; exact s8t _ _ (sb8 z o nz ez), ⟨acc8 ++ [.ref tt], upd_same, ?_⟩, _, _, _, _, rfl⟩
            rw [List.take_add_one, hrow, List.map_append, ← List.append_assoc]
            refine ((ra8.mono (kx_same s8t)).mono kl).append (.one (Rep.mono kl ?_))
            show Rep K _ (.ref tt) (.tup [.at (.str "ask"), nD (ks.length - 1 - u), nD k, .tup (prZ (inn ad) row), row.getD (inn ad).length stopD, row.getD ((inn ad).length + 1) stopD])
            refine .tup' upd_same (.cons (.at rfl) (.cons ?_ (.cons ?_ (.cons (.tup' (st _ _ hgt) (rgt.mono (kx_same st))) (.cons (rv1.mono (kx_same s8t)) (.one (rv2.mono (kx_same s8t))))))))
            · rw [up_eq]; exact .at rfl
            · rw [ek]; exact .at rfl
        · rintro σ H8 ⟨sb8, ⟨acc8, hf8, ra8⟩, y6, y7, y8, y9, rfl⟩
          rw [lrb, List.take_length] at ra8
          refine ⟨fun z o nz ez => sb8 z o nz (s37 _ _ (sb3 z o nz ez)), ⟨acc8, hf8, ?_⟩, _, _, _, _, _, _, rfl⟩
          rw [List.take_add_one, hqk, List.flatMap_append, ← List.append_assoc]
          have e1 : (some (ad, k)).toList.flatMap (fun q : D × Nat => (sideL (bds false) (prts ks q.1) m').map (mkA (ks.length - 1 - u) q.2 q.1)) = (sideL (bds false) (prts ks ad) m').map (mkA (ks.length - 1 - u) k ad) := by
            show [(ad, k)].flatMap _ = _
            rw [List.flatMap_cons, List.flatMap_nil, List.append_nil]
          rw [e1]
          exact ra8
    · rintro σ H3 ⟨sb3, ⟨acc3, hf3, ra3⟩, y4, y5, y6, y7, y8, y9, rfl⟩
      refine ⟨sb3, ⟨acc3, hf3, ?_⟩, _, _, _, _, _, _, _, rfl⟩
      rw [List.take_add_one, hup, List.flatMap_append]
      have e1 : (some (kd, ks.length - 1 - u)).toList.flatMap (asksOf (bds false) ks m') = asksOf (bds false) ks m' (kd, ks.length - 1 - u) := by
        show [(kd, ks.length - 1 - u)].flatMap _ = _
        rw [List.flatMap_cons, List.flatMap_nil, List.append_nil]
      rw [e1]
      rw [show ((us.length : Nat) : Int).toNat = us.length by omega, lu, show (inn kd).zipIdx.take (inn kd).length = (inn kd).zipIdx from List.take_of_length_le (by rw [List.length_zipIdx]; exact Nat.le_refl _)] at ra3
      exact ra3
  · rintro σ H1 ⟨sb1, ⟨acc1, hf1, ra1⟩, y3, y4, y5, y6, y7, y8, y9, rfl⟩
    rw [show ((zs.length : Nat) : Int).toNat = ks.length by omega, show (upsOf false ks).take ks.length = upsOf false ks from List.take_of_length_le (by show (ks.reverse.zipIdx.reverse).length ≤ _; rw [List.length_reverse, List.length_zipIdx, List.length_reverse]; exact Nat.le_refl _), ← bds_succ] at ra1
    exact ⟨_, rfl, q fl acc1 H1 nfl (fun z o ez => sb1 z o (ne_of_none ez nfl) (sF _ _ ez)) hf1 ra1⟩
end
end Pk

set_option maxRecDepth 100000
set_option maxHeartbeats 4000000
set_option pp.maxSteps 600
namespace Pk
open PySem PySem.Spec PyProof.Rows L2
section
variable {P : Program} {w : World} {K : PySem.W.Frag} {mg : Str → Option Value} {base : Heap}
theorem ok_lbodies {f f2 : Addr} {fd f2d : FuncData} (D__law_bodies : Df K mg "_law_bodies" s__law_bodies ["kinds", "many"] f fd) (D__law_shared : Df K mg "_law_shared" s__law_shared ["parts", "many"] f2 f2d) (B : Bt mg) : ∀ n : Nat, FnOk P w K mg base CX0 (8 * n + 1) f fd ["kinds", "many"] (spLb K n)
  | 0 => (fn_none (fun vs H Q E h => by obtain ⟨a, xs, ks, m, _, h0, _⟩ := h; omega)).mono (by omega)
  | n + 1 => (ok_lbd (j := 8 * n + 1 + 7) D__law_bodies D__law_shared B (ok_lsh (j := 8 * n + 1) D__law_shared D__law_bodies B (ok_lbodies D__law_bodies D__law_shared B n) 7)).mono (by omega)
def spAll (K : PySem.W.Frag) : Sp := fun vs H Q _ => ∃ (v : V) (kd : D) (m : Nat), vs = [v, .int ((m : Nat) : Int)] ∧ m ≤ 3 ∧ Rep K H v kd ∧ isK kd = true ∧ OkC m [kd] ∧
  (2000 < nbd (inn kd) m → ∀ H', Same H H' → Q .non H') ∧ (nbd (inn kd) m ≤ 2000 → ∀ (u : V) (H' : Hp), Same H H' → Rep K H' u (.tup (allP kd m)) → Q u H')
theorem ok_all {f f0 f1 f2 f3 : Addr} {fd d0 d1 d2 d3 : FuncData} (D__law_all : Df K mg "_law_all" s__law_all ["kind", "many"] f fd) (D__law_counts : Df K mg "_law_counts" s__law_counts ["kinds", "many", "known"] f0 d0) (D__law_times : Df K mg "_law_times" s__law_times ["one", "two", "many"] f1 d1) (D__law_bodies : Df K mg "_law_bodies" s__law_bodies ["kinds", "many"] f2 d2) (D__law_shared : Df K mg "_law_shared" s__law_shared ["parts", "many"] f3 d3) (B : Bt mg) :
    FnOk P w K mg base CX0 34 f fd ["kind", "many"] (spAll K) := by
  have G__law_counts : FnOk P w K mg base CX0 7 f0 d0 ["kinds", "many", "known"] (spCn P w K 6) := ok_cn D__law_counts D__law_times B 6
  have G__law_bodies : FnOk P w K mg base CX0 33 f2 d2 ["kinds", "many"] (spLb K 4) := ok_lbodies D__law_bodies D__law_shared B 4
  refine D__law_all.ok c__law_all (fun vs H Q E h => ?_) (fun cdv A outer s H vs Q E hr h => ?_)
  · obtain ⟨v, kd, m, rfl, _⟩ := h
    rfl
  obtain ⟨v, kd, m, rfl, h3, rv, hk, okc, qN, q⟩ := h
  have nd := c__law_all.nd
  have encPr := encPd (inn kd).length okc h3
  refine ⟨_, (pss_cons (ps_if (pt_cmpR op_gt (pe_ix ix_list (pe_call G__law_counts (hr.mono (by first | decide | omega)) (by rfl) D__law_counts.m D__law_counts.kp D__law_counts.b .nil pass0 (pa_cons (pe_lst (pa_cons (pv 0) pa_nil)) (pa_cons (pv 1) (pa_cons (show PE _ _ (tDkNew P w) from pe_dkNew) pa_nil)))) (pv 1) (fun _ _ => rfl)) pe_int (nomark _)) (pss_one (ps_ret pe_non)) pss_nil)
  (pss_one (ps_ret (pe_callTy call_tuple_of (by rfl) B.b_tuple (by decide +kernel) (pa_cons (pe_callB (cr_sortS hr.units encPr) (by rfl) B.b_sorted (by decide +kernel) (pa_cons (pe_lc (own := [("body", 2)]) (g := (gName 2)) (tt := tYes) rfl nd (pi_list (pe_call G__law_bodies (hr.mono (by first | decide | omega)) (by rfl) D__law_bodies.m D__law_bodies.kp D__law_bodies.b .nil pass0 (pa_cons (pe_lst (pa_cons (pv 0) pa_nil)) (pa_cons (pv 1) pa_nil)))) (blkOk_by (own := [("body", 2)]) (N := ["kind", "many", "body"]) (sc := defScope s__law_all) (by decide +kernel)) (fun _ _ _ _ _ => (pg_name (i := 2) nd rfl (Or.inl rfl))) (fun _ _ _ _ _ => pts_nil) (fun _ _ _ _ _ => (pe_tup (pa_cons pe_str (pa_cons (pe_callB (show CallR _ (.builtin "len") (rLenS K) from call_len_seq) (by rfl) B.b_len PySem.boot_len (pa_cons (pv 0) pa_nil)) (pa_cons (pv 2) pa_nil)))))) pa_nil)) pa_nil))))), ?_⟩
  obtain ⟨ekd, kks⟩ := inn_k hk
  refine ⟨_, rfl, (by show 1 ≤ sizeLine; decide), fun q1 nq1 => ⟨_, rfl, fun dd ndd => ?_⟩⟩
  have s7 : Same H (upd (upd H q1 (.lst [v])) dd (DkO P w dd [])) := (same_new nq1 _).trans (same_new ndd _)
  have hq1 : (upd (upd H q1 (.lst [v])) dd (DkO P w dd [])) q1 = some (.lst [v]) := same_new ndd _ _ _ upd_same
  have hdd : (upd (upd H q1 (.lst [v])) dd (DkO P w dd [])) dd = some (DkO P w dd []) := upd_same
  have fdd : H dd = none := new_none (same_new nq1 (.lst [v])) ndd
  generalize (upd (upd H q1 (.lst [v])) dd (DkO P w dd [])) = H7 at s7 hq1 hdd ⊢
  refine ⟨q1, dd, [v], [kd], m, 0, rfl, by omega, by omega, hq1, .one (rv.mono (kx_same s7)), okc, ⟨[], [], hdd, .nil, Nat.le_refl _⟩, ?_, fun cc H8 sb8 M8 hcc => ?_⟩
  · have hm : m = 0 ∨ m = 1 ∨ m = 2 ∨ m = 3 := by omega
    rcases hm with rfl | rfl | rfl | rfl <;> decide
  rw [flt_one] at hcc
  have s8 : Same H H8 := fun z o ez => sb8 z o (ne_of_none ez fdd) (s7 _ _ ez)
  refine ⟨_, rfl, cc, _, _, _, rfl, rfl, SqL.of hcc, atI_nat (nrs_get (by omega)), _, _, rfl, rfl, _, rfl, ite2 (fun z => ?_) (fun z => ?_)⟩
  · have hz : (2000 : Int) < ((nbd (inn kd) m : Nat) : Int) := of_decide_eq_true z
    exact qN (by omega) H8 s8
  have hz : nbd (inn kd) m ≤ 2000 := by
    by_cases c : nbd (inn kd) m ≤ 2000
    · exact c
    · exact absurd (decide_eq_true (show (2000 : Int) < ((nbd (inn kd) m : Nat) : Int) by omega)) z
  have rv1 := rv.mono (kx_same s8)
  refine ⟨_, rfl, (by show 1 ≤ sizeLine; decide), fun t0 nt0 => ⟨_, rfl, t0, [v], [kd], m, rfl, by omega, h3, upd_same, .one (rv1.mono (kx_same (same_new nt0 _))), okc, by rw [flt_one]; exact hz, fun a xs H2 na s2 ha ra => ⟨a, rfl, ⟨_, SqL.of ha⟩, fun dl ndl => ?_⟩⟩⟩
  have s12 : Same H H2 := s8.trans ((same_new nt0 (.lst [v])).trans s2)
  have lx := ra.length
  have lbd : (bds false [kd] m).length ≤ 2000 := by rw [bds_len, flt_one]; exact hz
  obtain ⟨c, cxs, rfl, hc, rc⟩ := Rep.inv (ts := inn kd) (by rw [← ekd]; exact rv)
  have lc := rc.length
  refine lc_it walk_list (fun e H' => Same H2 H' ∧ ∃ acc, H' dl = some (.lst acc) ∧ Reps K H' acc (((bds false [kd] m).take e).map (prD (inn kd).length))) ⟨same_new ndl _, [], upd_same, .nil⟩ (fun e H' _ h => SqL.of (h.1 _ _ ha)) ?_ ?_
  · rintro e x8 H8 H8' he ⟨s9, acc8, hd8, rd8⟩ ⟨rfl, hx8⟩
    obtain ⟨bd, hbd, rx8⟩ := (ra.mono (kx_same s9)).get hx8
    have lra := rd8.length
    rw [List.length_map, List.length_take] at lra
    refine ⟨rfl, ?_⟩
    refine ⟨_, rfl, c, cxs, rfl, .inr (hc.same (s12.trans s9)).sq, _, rfl, (by show 3 ≤ sizeLine; decide), fun t nt => ?_⟩
    have sg := same_new nt (.tup [.str "program", .int ((cxs.length : Nat) : Int), x8])
    have kl := kx_list (sg _ _ hd8) (acc8 ++ [.ref t])
    refine ⟨acc8, sg _ _ hd8, small6 (by omega), fun z o ez => by rw [upd_ne (ne_of_none ez ndl)]; exact sg _ _ (s9 _ _ ez), acc8 ++ [.ref t], upd_same, ?_⟩
    rw [List.take_add_one, hbd, List.map_append]
    refine ((rd8.mono (kx_same sg)).mono kl).append (.one (Rep.mono kl (.tup' upd_same (.cons (.at rfl) (.cons ?_ (.one (rx8.mono (kx_same sg))))))))
    rw [lc]
    exact .at rfl
  · rintro H9 ⟨s9, acc8, hd8, rd8⟩
    rw [lx, List.take_length] at rd8
    refine ⟨dl, acc8, bds false [kd] m, rfl, SqL.of hd8, rd8, fun b hb => hb, fun ys p rys np => ?_⟩
    rw [← allP_law okc] at rys
    have sp1 := same_new np (.lst ys)
    refine ⟨p, ys, rfl, .inl ⟨SqL.of upd_same, fun t nt => ?_⟩⟩
    have st := sp1.trans (same_new nt (.tup ys))
    exact q hz (.ref t) _ ((s12.trans s9).trans st) (.tup' upd_same (rys.mono (kx_same st)))
end
end Pk

set_option maxRecDepth 100000
set_option maxHeartbeats 4000000
set_option pp.maxSteps 600
namespace Pk
open PySem PySem.Spec PyProof.Rows L2
/-! ### the law -/
theorem prs_le : ∀ {l : List D}, isKs l = true → prs l ≤ szs l
  | [], _ => Nat.le_refl _
  | a :: l, h => by
    have h' := Bool.and_eq_true_iff.mp (show (isK a && isKs l) = true from h)
    obtain ⟨e, _⟩ := inn_k h'.1
    have x := prs_le h'.2
    have y := len_szs (inn a)
    have z : sz (.tup (inn a)) = szs (inn a) + 1 := rfl
    rw [← e] at z
    show (inn a).length + prs l ≤ sz a + szs l
    omega
theorem okB_of {d : D} (k : isK d = true) (h : dep d ≤ 3) (s : sz d ≤ 5) : OkB 5 d := by
  obtain ⟨e, kk⟩ := inn_k k
  have z : sz (.tup (inn d)) = szs (inn d) + 1 := rfl
  rw [← e] at z
  have z2 : dep (.tup (inn d)) = deps (inn d) := rfl
  rw [← e] at z2
  have l := len_szs (inn d)
  have p := prs_le kk
  exact ⟨k, ⟨by omega, kk, fun a ha => by have := sz_mem ha; omega, fun a ha => by have := dep_mem ha; omega⟩, by omega⟩
theorem okC_of {d : D} (h : dep d ≤ 3) (o : OkB 5 d) : OkC 5 [d] := by
  refine ⟨?_, (by decide : 1 + 5 ≤ 8), fun a ha => by rw [List.mem_singleton.mp ha]; exact h, by rw [flt_one]; exact o.o, by rw [flt_one]; exact o.p⟩
  show (isK d && true) = true
  rw [o.k]; rfl
theorem isPs_all {l : List D} (h : ∀ x, x ∈ l → isP x = true) : isPs l = true := by
  induction l with
  | nil => rfl
  | cons a l ih =>
    show (isP a && isPs l) = true
    rw [h a (List.mem_cons_self ..), ih fun x hx => h x (List.mem_cons_of_mem _ hx)]; rfl
theorem allP_fine {d : D} {m : Nat} (ok : OkC m [d]) (h3 : m ≤ 3) : isPs (allP d m) = true ∧ deps (allP d m) ≤ 20 ∧ szs (allP d m) ≤ (allP d m).length * 84 := by
  have mem : ∀ x, x ∈ allP d m → ∃ b, Fine m b ∧ x = prD (inn d).length b := fun x hx => by
    unfold allP at hx
    obtain ⟨b, hb, rfl⟩ := List.mem_map.mp hx
    exact ⟨b, fine_any ok ((sortE_perm tkD (bds true [d] m)).mem_iff.mp hb), rfl⟩
  refine ⟨isPs_all fun x hx => ?_, Nat.le_trans (deps_le (n := 19) fun x hx => ?_) (by decide), szs_le fun x hx => ?_⟩
  · obtain ⟨b, fb, rfl⟩ := mem x hx
    show (true && (true && (isP b && true))) = true
    rw [fb.p]; rfl
  · obtain ⟨b, fb, rfl⟩ := mem x hx
    show max (0 + 1) (max (0 + 1) (max (dep b + 1) 0)) ≤ 19
    have := fb.d
    omega
  · obtain ⟨b, fb, rfl⟩ := mem x hx
    show (1 + (1 + (sz b + 0))) + 1 ≤ 84
    have := fb.s
    omega
def rIsN : R2 := fun x y H Q => y = V.non ∧ Q (V.bl (decide (x = V.non))) H
def rNotN : R2 := fun x y H Q => y = V.non ∧ Q (V.bl !decide (x = V.non)) H
def tbL (K : PySem.W.Frag) (CT : Addr) (W : WX) : TS := tSeq (tAsg (tCallS (spListed K CT) (WE W) (tCons (tVar 3) (tCons (tVar 4) tNil))) (gName 6)) (tIfS (tOr (tTest (tOp rIsN (tVar 5) (tC .non))) (tNot (tB (tCall (spSame K 24) [] E0 (tCons (tVar 6) (tCons (tVar 5) tNil)))))) (tRet (tC (.bl false))) tNext)
def tsL (K : PySem.W.Frag) (CT CS : Addr) (a : Addr) (cls : Value) (d : Option Addr) : TS := tIfS (tOr (tTest (tOp rNotN (tVar 5) (tC .non))) (tNot (tB (tCB (rIsEx K CT a cls d) (tCons (tVar 7) (tCons (tC (.ref CS)) tNil)))))) (tRet (tC (.bl false))) tNext
section
variable {P : Program} {w : World} {K : PySem.W.Frag} {mg : Str → Option Value} {base : Heap} {C : Addr}
def spLaw (K : PySem.W.Frag) : Sp := fun vs H Q _ => ∃ (a : Addr) (ns : List Int), vs = [.ref a] ∧ SqL K H a (ns.map V.int) ∧ ns.length ≤ 63 ∧ ∀ H', Q (.bl true) H'
theorem ok_law {g1 g2 g3 : Addr} {e1 e2 e3 : FuncData} {en CT CS : Addr} (hEN : mg "_ENDS" = some (.ref en)) (hE : ∀ H, Rep K H (.ref en) (.tup ends)) (hE3 : ∃ ys : List V, ys.length = 3 ∧ ∀ H, SqT K H en ys) (hML : ∃ t, mg "_MOST_LISTED" = some (.int 2000 t)) (hMA : ∃ t, mg "_MOST_ASKS" = some (.int 8 t)) (hTM : mg "TooMany" = some (.ref CT)) (hSF : mg "SenseFault" = some (.ref CS)) (XF : ExF K CT CS)
    (FT : BcT K C) (hMC : mg "BodyCounts" = some (.ref C)) (hMk : Mk K C g1) (mOb : Meth K C "of_bodies" g2) (mOa : Meth K C "of_asks" g3)
    (M_make : Dm K C "__init__" "BodyCounts.__init__" s_BodyCounts___init__ ["self"] g1 e1) (M_of_bodies : Dm K C "of_bodies" "BodyCounts.of_bodies" s_BodyCounts_of_bodies ["self", "around", "many"] g2 e2) (M_of_asks : Dm K C "of_asks" "BodyCounts.of_asks" s_BodyCounts_of_asks ["self", "around", "asked", "many"] g3 e3)
    {f f1 f2 f3 f4 f5 f6 f7 f8 f9 f10 f11 f12 f13 f14 f15 f16 f17 f18 f19 : Addr} {fd d1 d2 d3 d4 d5 d6 d7 d8 d9 d10 d11 d12 d13 d14 d15 d16 d17 d18 d19 : FuncData} (D_law : Df K mg "law" s_law ["script"] f fd) (B : Bt mg) (D_body_of : Df K mg "body_of" s_body_of ["note", "parts"] f1 d1) (D__kind_pieces : Df K mg "_kind_pieces" s__kind_pieces ["kind"] f2 d2) (D_write_kind : Df K mg "write_kind" s_write_kind ["kind"] f3 d3) (D__times : Df K mg "_times" s__times ["left", "right"] f4 d4) (D_count : Df K mg "count" s_count ["kind", "many"] f5 d5) (D__bodies : Df K mg "_bodies" s__bodies ["kinds", "many"] f6 d6) (D__side_by_side : Df K mg "_side_by_side" s__side_by_side ["within", "many"] f7 d7) (D_listed : Df K mg "listed" s_listed ["kind", "many"] f8 d8) (D__law_cell : Df K mg "_law_cell" s__law_cell ["script", "k"] f9 d9) (D__law_digits : Df K mg "_law_digits" s__law_digits ["script", "first", "last"] f10 d10) (D__law_draw : Df K mg "_law_draw" s__law_draw ["box", "many"] f11 d11) (D__law_box : Df K mg "_law_box" s__law_box ["script", "first", "last"] f12 d12) (D__law_same : Df K mg "_law_same" s__law_same ["actual", "expected"] f13 d13) (D__law_kind : Df K mg "_law_kind" s__law_kind ["box", "depth", "budget"] f14 d14) (D__law_all : Df K mg "_law_all" s__law_all ["kind", "many"] f15 d15) (D__law_bodies : Df K mg "_law_bodies" s__law_bodies ["kinds", "many"] f16 d16) (D__law_shared : Df K mg "_law_shared" s__law_shared ["parts", "many"] f17 d17) (D__law_counts : Df K mg "_law_counts" s__law_counts ["kinds", "many", "known"] f18 d18) (D__law_times : Df K mg "_law_times" s__law_times ["one", "two", "many"] f19 d19)
    : FnOk P w K mg base CX0 121 f fd ["script"] (spLaw K) := by
  have G__law_same : FnOk P w K mg base CX0 24 f13 d13 ["actual", "expected"] (spSame K 24) := ok_same D__law_same B 24
  have G__law_box : FnOk P w K mg base CX0 3 f12 d12 ["script", "first", "last"] (spBox K) := ok_box D__law_box D__law_digits D__law_cell B
  have G__law_draw : FnOk P w K mg base CX0 1 f11 d11 ["box", "many"] (spDraw) := ok_draw D__law_draw B
  have G__law_kind : FnOk P w K mg base CX0 5 f14 d14 ["box", "depth", "budget"] (spKind K 4) := ok_kind D__law_kind D__law_draw B 4
  have G__law_all : FnOk P w K mg base CX0 34 f15 d15 ["kind", "many"] (spAll K) := ok_all D__law_all D__law_counts D__law_times D__law_bodies D__law_shared B
  have G_count : FnOk P w K mg base CX0 14 f5 d5 ["kind", "many"] (spCount K) := ok_count D_count FT hMC hMk mOb mOa M_make M_of_bodies M_of_asks D_write_kind D__kind_pieces D__times B hEN hE3
  have G__bodies : FnOk P w K mg base CX0 9 f6 d6 ["kinds", "many"] (spBds K 4) := ok_bodies D__bodies D__side_by_side D_body_of B hEN hE 4
  have G_listed := ok_listed (P := P) (w := w) (base := base) D_listed D_count D__bodies B hML hMA hTM XF G_count G__bodies
  refine D_law.ok c_law (fun vs H Q E h => ?_) (fun cdv A outer s H vs Q E hr h => ?_)
  · obtain ⟨a, ns, rfl, _⟩ := h
    rfl
  obtain ⟨a, ns, rfl, hS, hns, q⟩ := h
  have nd := c_law.nd
  refine ⟨_, (pss_cons (ps_set (i := 1) nd rfl (Or.inl rfl) (pe_call G__law_box (hr.mono (by first | decide | omega)) (by rfl) D__law_box.m D__law_box.kp D__law_box.b .nil pass0 (pa_cons (pv 0) (pa_cons pe_int (pa_cons pe_int pa_nil)))))
  (pss_cons (ps_for PassesOwn.never rfl (pi_range1 (by rfl) B.b_range (pa_cons pe_int pa_nil)) (pg_name (i := 2) nd rfl (Or.inl rfl)) (pss_cons (ps_set (i := 3) nd rfl (Or.inl rfl) (pe_call G__law_kind (hr.mono (by first | decide | omega)) (by rfl) D__law_kind.m D__law_kind.kp D__law_kind.b .nil pass0 (pa_cons (pv 1) (pa_cons pe_int (pa_cons (pe_lst (pa_cons pe_int pa_nil)) pa_nil)))))
  (pss_cons (ps_set (i := 4) nd rfl (Or.inl rfl) (pe_call G__law_draw (hr.mono (by first | decide | omega)) (by rfl) D__law_draw.m D__law_draw.kp D__law_draw.b .nil pass0 (pa_cons (pv 1) (pa_cons pe_int pa_nil))))
  (pss_cons (ps_set (i := 5) nd rfl (Or.inl rfl) (pe_call G__law_all (hr.mono (by first | decide | omega)) (by rfl) D__law_all.m D__law_all.kp D__law_all.b .nil pass0 (pa_cons (pv 3) (pa_cons (pv 4) pa_nil))))
  (pss_one (ps_try_as (i := 7) (tb := tbL K CT) (ts := tsL K CT CS) (Wout := fun _ _ _ _ => False) rfl rfl nd rfl rfl ⟨rfl, by decide, Or.inl hTM⟩ takes0
 (fun W pn xe tk _ => (pss_cons (ps_set (i := 6) nd rfl (Or.inl rfl) (pe_callS G_listed (hr.mono (by first | decide | omega)) (by rfl) D_listed.m D_listed.kp D_listed.b (fun σ => passAt tk σ) (pa_cons (pv 3) (pa_cons (pv 4) pa_nil))))
  (pss_one (ps_if (PW.pt (pw_or (pt_cmpR op_isN (pv 5) pe_non (nomark _)) (pw_or1 (pt_not (pt_val (pe_call G__law_same (hr.mono (by first | decide | omega)) (by rfl) D__law_same.m D__law_same.kp D__law_same.b .nil pass0 (pa_cons (pv 6) (pa_cons (pv 5) pa_nil)))))))) (pss_one (ps_ret pe_bl)) pss_nil))))
 (fun a oe cls d pn hz hf => (pss_one (ps_if (PW.pt (pw_or (pt_cmpR op_notN (pv 5) pe_non (nomark _)) (pw_or1 (pt_not (pt_val (pe_callB (call_isEx XF.e hz hf) (by rfl) B.b_isinstance (by decide +kernel) (pa_cons (pv 7) (pa_cons (pe_glob rfl hSF (rel_ref _)) pa_nil)))))))) (pss_one (ps_ret pe_bl)) pss_nil)))))))))
  (pss_one (ps_ret pe_bl)))), ?_⟩
  refine ⟨_, rfl, a, ns, 0, 62, rfl, hS, by omega, by omega, fun b c H3 s3 _ _ hB3 => ?_⟩
  refine ⟨2, rfl, by decide, by decide, ?_⟩
  refine for_range (n := 2) (fun i σ H' => ∃ (y2 y3 y4 y5 y6 y7 : Option V), σ = [some (.ref a), some (.ref b), y2, y3, y4, y5, y6, y7] ∧ BoxAt H' b c) ⟨_, _, _, _, _, _, rfl, hB3⟩ ?_ ?_
  · rintro i σ H3 hi ⟨y2, y3, y4, y5, y6, y7, rfl, hB3⟩
    obtain ⟨bs, hbs⟩ := hB3.lst
    obtain ⟨cs, hcs⟩ := hB3.dst
    refine ⟨_, rfl, (by decide : 1 ≤ sizeLine), fun u nu => ?_⟩
    have sU : Same H3 (upd H3 u (.lst [.int 4])) := same_new nu _
    refine ⟨b, c, u, 3, 4, rfl, hB3.same sU, upd_same, by decide, by decide, by decide, ne_of_none hbs nu, ne_of_none hcs nu, fun v H4 d g' rv hk hdep hsz hu4 hB4 sb4 => ?_⟩
    have hd3 : dep d ≤ 3 := by omega
    have okb := okB_of hk hd3 (by omega)
    refine ⟨_, rfl, b, c, 4, rfl, hB4, by decide, fun r H5 p1 p2 hB5 sb5 => ?_⟩
    obtain ⟨bs4, hbs4⟩ := hB4.lst
    obtain ⟨bs5, hbs5⟩ := hB5.lst
    have k45 : Kx H4 H5 := sb_kx sb5 hbs4 hbs5
    obtain ⟨m, rfl⟩ : ∃ m : Nat, r = (m : Int) := ⟨r.toNat, (Int.toNat_of_nonneg p1).symm⟩
    have rv5 := rv.mono k45
    have okc := (okC_of hd3 okb).le (show m ≤ 5 by omega)
    refine ⟨_, rfl, _, rfl, v, d, m, rfl, by omega, rv5, hk, okc, fun hz H6 s6 => ?_, fun hz u2 H6 s6 ru2 => ?_⟩
    · refine ⟨_, rfl, _, rfl, v, d, m, rfl, by omega, rv5.mono (kx_same s6), okb, okc, fun _ H7 s7 => ?_, fun hz2 => absurd hz (by omega)⟩
      refine ⟨true, XF.own, fun _ ea nea => ?_, fun h => by cases h⟩
      have hB7 := hB5.same (s6.trans s7)
      refine ⟨_, rfl, rfl, _, rfl, ?_⟩
      rw [show (!decide (V.non = V.non)) = false from rfl]
      refine iteF ?_
      refine ⟨_, rfl, rfl, rfl, .ref CS, .ref CS, true, rfl, fun u hu => hu, XF.kit, ?_⟩
      exact ⟨_, rfl, iteF ⟨_, _, _, _, _, _, rfl, hB7⟩⟩
    · refine ⟨_, rfl, _, rfl, v, d, m, rfl, by omega, rv5.mono (kx_same s6), okb, okc, fun hz2 => absurd hz (by omega), fun _ u3 H7 s7 ru3 => ?_⟩
      have hB7 := hB5.same (s6.trans s7)
      obtain ⟨qa, qxs, rfl, hqa, rqa⟩ := ru2.inv
      refine ⟨_, rfl, rfl, _, rfl, ?_⟩
      rw [show (decide (V.ref qa = V.non)) = false from rfl]
      refine iteF ?_
      refine ⟨_, rfl, _, rfl, u3, .ref qa, .tup (allP d m), .tup (allP d m), rfl, ru3, .tup (hqa.same s7) (rqa.mono (kx_same s7)), ?_, ?_, ?_, fun r hr => ?_⟩
      · exact (isPs_nol (allP_fine okc (by omega)).1).2
      · have := (allP_fine okc (show m ≤ 3 by omega)).2.1
        show deps (allP d m) < 24
        omega
      · have := (allP_fine okc (show m ≤ 3 by omega)).2.2
        have l : (allP d m).length ≤ 2000 := by
          unfold allP
          rw [List.length_map, (sortE_perm tkD (bds true [d] m)).length_eq, bds_len, flt_one]
          exact hz
        have := Nat.mul_le_mul_right 84 l
        show (szs (allP d m) + 1) + 0 ≤ 1000000
        omega
      · rw [hr.mpr rfl]
        exact ⟨_, rfl, iteF ⟨_, _, _, _, _, _, rfl, hB7⟩⟩
  · rintro σ H4 ⟨y2, y3, y4, y5, y6, y7, rfl, hB4⟩
    exact q H4
end
end Pk

namespace Pk
open PySem PySem.Spec PyProof.Rows L2
set_option maxHeartbeats 0

def d_body_of : He.DefD := ⟨("body_of", none), "body_of", "body_of", defArgs s_body_of, defBody s_body_of, defScope s_body_of, [], []⟩
def d__kind_pieces : He.DefD := ⟨("_kind_pieces", none), "_kind_pieces", "_kind_pieces", defArgs s__kind_pieces, defBody s__kind_pieces, defScope s__kind_pieces, [], []⟩
def d_write_kind : He.DefD := ⟨("write_kind", none), "write_kind", "write_kind", defArgs s_write_kind, defBody s_write_kind, defScope s_write_kind, [], []⟩
def d__times : He.DefD := ⟨("_times", none), "_times", "_times", defArgs s__times, defBody s__times, defScope s__times, [], []⟩
def d_count : He.DefD := ⟨("count", none), "count", "count", defArgs s_count, defBody s_count, defScope s_count, [], []⟩
def d__bodies : He.DefD := ⟨("_bodies", none), "_bodies", "_bodies", defArgs s__bodies, defBody s__bodies, defScope s__bodies, [], []⟩
def d__side_by_side : He.DefD := ⟨("_side_by_side", none), "_side_by_side", "_side_by_side", defArgs s__side_by_side, defBody s__side_by_side, defScope s__side_by_side, [], []⟩
def d_listed : He.DefD := ⟨("listed", none), "listed", "listed", defArgs s_listed, defBody s_listed, defScope s_listed, [], []⟩
def d__law_cell : He.DefD := ⟨("_law_cell", none), "_law_cell", "_law_cell", defArgs s__law_cell, defBody s__law_cell, defScope s__law_cell, [], []⟩
def d__law_digits : He.DefD := ⟨("_law_digits", none), "_law_digits", "_law_digits", defArgs s__law_digits, defBody s__law_digits, defScope s__law_digits, [], []⟩
def d__law_draw : He.DefD := ⟨("_law_draw", none), "_law_draw", "_law_draw", defArgs s__law_draw, defBody s__law_draw, defScope s__law_draw, [], []⟩
def d__law_box : He.DefD := ⟨("_law_box", none), "_law_box", "_law_box", defArgs s__law_box, defBody s__law_box, defScope s__law_box, [], []⟩
def d__law_same : He.DefD := ⟨("_law_same", none), "_law_same", "_law_same", defArgs s__law_same, defBody s__law_same, defScope s__law_same, [], []⟩
def d__law_kind : He.DefD := ⟨("_law_kind", none), "_law_kind", "_law_kind", defArgs s__law_kind, defBody s__law_kind, defScope s__law_kind, [], []⟩
def d__law_all : He.DefD := ⟨("_law_all", none), "_law_all", "_law_all", defArgs s__law_all, defBody s__law_all, defScope s__law_all, [], []⟩
def d__law_bodies : He.DefD := ⟨("_law_bodies", none), "_law_bodies", "_law_bodies", defArgs s__law_bodies, defBody s__law_bodies, defScope s__law_bodies, [], []⟩
def d__law_shared : He.DefD := ⟨("_law_shared", none), "_law_shared", "_law_shared", defArgs s__law_shared, defBody s__law_shared, defScope s__law_shared, [], []⟩
def d__law_counts : He.DefD := ⟨("_law_counts", none), "_law_counts", "_law_counts", defArgs s__law_counts, defBody s__law_counts, defScope s__law_counts, [], []⟩
def d__law_times : He.DefD := ⟨("_law_times", none), "_law_times", "_law_times", defArgs s__law_times, defBody s__law_times, defScope s__law_times, [], []⟩
def d_law : He.DefD := ⟨("law", none), "law", "law", defArgs s_law, defBody s_law, defScope s_law, [], []⟩
def d_BodyCounts___init__ : He.DefD := ⟨("BodyCounts", some "__init__"), "__init__", "BodyCounts.__init__", defArgs s_BodyCounts___init__, defBody s_BodyCounts___init__, defScope s_BodyCounts___init__, [], []⟩
def d_BodyCounts_of_bodies : He.DefD := ⟨("BodyCounts", some "of_bodies"), "of_bodies", "BodyCounts.of_bodies", defArgs s_BodyCounts_of_bodies, defBody s_BodyCounts_of_bodies, defScope s_BodyCounts_of_bodies, [], []⟩
def d_BodyCounts_of_asks : He.DefD := ⟨("BodyCounts", some "of_asks"), "of_asks", "BodyCounts.of_asks", defArgs s_BodyCounts_of_asks, defBody s_BodyCounts_of_asks, defScope s_BodyCounts_of_asks, [], []⟩
def fn : List He.DefD := [d_body_of, d__kind_pieces, d_write_kind, d__times, d_count, d__bodies, d__side_by_side, d_listed, d__law_cell, d__law_digits, d__law_draw, d__law_box, d__law_same, d__law_kind, d__law_all, d__law_bodies, d__law_shared, d__law_counts, d__law_times, d_law, d_BodyCounts___init__, d_BodyCounts_of_bodies, d_BodyCounts_of_asks]
def fa : List He.Fa := [.glo "body_of", .glo "_kind_pieces", .glo "write_kind", .glo "_times", .glo "count", .glo "_bodies", .glo "_side_by_side", .glo "listed", .glo "_law_cell", .glo "_law_digits", .glo "_law_draw", .glo "_law_box", .glo "_law_same", .glo "_law_kind", .glo "_law_all", .glo "_law_bodies", .glo "_law_shared", .glo "_law_counts", .glo "_law_times", .glo "law", .free "tuple", .free "zip", .free "len", .free "isinstance", .free "str", .free "range", .free "sum", .free "sorted", .free "list", .free "enumerate", .free "min", .free "int", .free "bool", .glo "_ENDS", .int "_MOST_LISTED" 2000, .int "_MOST_ASKS" 8, .glo "TooMany", .glo "SenseFault", .glo "BodyCounts", .cls "BodyCounts", .noat "BodyCounts" "known", .mkr "BodyCounts", .meth "BodyCounts" "of_bodies", .meth "BodyCounts" "of_asks"]
abbrev R : PySem.W.OpenRow := PySem.W.OpenLaw.row PySem.Challenge.rw_playsense_k81_all_programs
def adK (K : PySem.W.Frag) (a : Addr) (i : Nat) : Addr := match K.lookup a with
  | some ⟨_, _, .seq its _, _⟩ => (match its[i]? with
    | some (.ref b) => b
    | _ => 0)
  | _ => 0
def tupK (K : PySem.W.Frag) (a : Addr) (vs : List V) : Bool := match K.lookup a with
  | some ⟨.type c, _, .seq its _, _⟩ => decide (c = "tuple") && (decide (its.size ≤ sizeLine) && He.relAll vs its.toList)
  | _ => false
theorem tupK_ok {K : PySem.W.Frag} {a : Addr} {vs : List V} (h : tupK K a vs = true) (H : Hp) : TupAt K H a vs := by
  unfold tupK at h
  split at h
  · next c d its n sl e =>
    obtain ⟨h1, h2⟩ := Bool.and_eq_true_iff.mp h
    obtain ⟨h2, h3⟩ := Bool.and_eq_true_iff.mp h2
    have ec := of_decide_eq_true h1
    subst ec
    exact .inr ⟨_, its, n, e, rfl, rfl, of_decide_eq_true h2, He.relAll_ok h3⟩
  · cases h
def bg0 (K : PySem.W.Frag) : Addr := He.ga K "_ENDS"
def exE (K : PySem.W.Frag) : Bool := tupK K (bg0 K) [.ref (adK K (bg0 K) 0), .ref (adK K (bg0 K) 1), .ref (adK K (bg0 K) 2)] && (tupK K (adK K (bg0 K) 0) [.str "say", .int 0] && (tupK K (adK K (bg0 K) 1) [.str "say", .int 1] && tupK K (adK K (bg0 K) 2) [.str "stop"]))
def exX (K : PySem.W.Frag) (D C2 : Addr) : Bool := PySem.W.excIn K D [Value.type "ValueError", Value.type "Exception", Value.type "BaseException", Value.type "object"] "ValueError.__new__" && (PySem.W.keepIn K (.ref D) && (PySem.W.typeIn K (.ref D) == some (.type "type") && (PySem.W.exmOne K (.ref D) (.ref D) == some true && (PySem.W.kitOne K (.ref D) (.ref C2) == some true &&
  (PySem.W.findIn K (.ref D) "__getattribute__" == some (some (.builtin "BaseException.__getattribute__")) && (PySem.W.findIn K (.ref D) "__getattr__" == some none && (PySem.W.subIn K (.ref D) (.type "BaseException") == some true && (PySem.W.hasDictIn K D && (PySem.W.findIn K (.ref D) "__class__" == some (some (.builtin "object.__class__")) &&
  (PySem.W.specialIn K (.builtin "object.__class__") "__get__" == some (some (.builtin "getset_descriptor.__get__")) && (PySem.W.takesIn K (.builtin "object.__class__") == some true && PySem.W.mroIn K D (.type "object") == some true)))))))))))
def exB (K : PySem.W.Frag) : Bool := exE K && exX K (He.ga K "TooMany") (He.ga K "SenseFault")
theorem ends_rep {K : PySem.W.Frag} (h : exE K = true) (H : Hp) : Rep K H (.ref (bg0 K)) (.tup ends) := by
  unfold exE at h
  simp only [Bool.and_eq_true] at h
  obtain ⟨h0, h1, h2, h3⟩ := h
  exact .tup (tupK_ok h0 H) (.cons (.tup (tupK_ok h1 H) (.cons (.at rfl) (.one (.at rfl)))) (.cons (.tup (tupK_ok h2 H) (.cons (.at rfl) (.one (.at rfl)))) (.one (.tup (tupK_ok h3 H) (.one (.at rfl))))))
theorem ends_sq {K : PySem.W.Frag} (h : exE K = true) : ∃ ys : List V, ys.length = 3 ∧ ∀ H, SqT K H (bg0 K) ys := by
  unfold exE at h
  simp only [Bool.and_eq_true] at h
  exact ⟨_, rfl, fun H => (tupK_ok h.1 H).sq⟩
theorem exX_ok {K : PySem.W.Frag} {D C2 : Addr} (h : exX K D C2 = true) : ExF K D C2 := by
  unfold exX at h
  simp only [Bool.and_eq_true, beq_iff_eq] at h
  obtain ⟨a1, a2, a3, a4, a5, b1, b2, b3, b4, b5, b6, b7, b8⟩ := h
  exact ⟨a1, a2, a3, a4, a5, ⟨b1, b2, b3, b4, b5, b6, b7, b8⟩⟩
abbrev hk : PySem.W.Hook := He.hookX 6 fa fn [] [] exB
def ob (s : PySem.W.SharedT) : He.AlX := He.obsX 6 fa fn [] [] exB (HandSHeadRun.getT s)
theorem ob_eq (s : PySem.W.SharedT) : ob s = hk.obs s.abs := He.obsX_eq (HandSHeadRun.getT_eq s)
def names0 : List PySem.Str := ["__name__", "SenseFault", "TooMany", "body_of", "_kind_pieces", "write_kind", "_ENDS", "_MOST_LISTED", "_MOST_ASKS", "_times", "BodyCounts", "count", "_bodies", "_side_by_side", "listed", "_law_cell", "_law_digits", "_law_draw", "_law_box", "_law_same", "_law_kind", "_law_all", "_law_bodies", "_law_shared", "_law_counts", "_law_times"]
abbrev names : List PySem.Str := names0
theorem run (w : World) : HandSHeadRun.RunEq R (PySem.W.view R.prog [30]) hk ob 4000 names w := by
  intro os
  kernel_rfl

theorem facts {P : Program} {w : World} {K : PySem.W.Frag} {h : Heap} {mg : Str → Option Value} {f : Addr} (X : K.In h) (G : h.Ns mainGlobals mg) (hfa : mg ("law" : Str) = some (.ref f)) (cX : He.SaysX fa fn [] [] exB w h K) :
    ∃ fd : FuncData, (∀ (s : Shared) (v : Value), BindsTo s fd ⟨[v], []⟩ [("script", v)]) ∧ ∀ base : Heap, K.In base → base.Ns mainGlobals mg → FnOk P w K mg base CX0 121 f fd ["script"] (spLaw K) := by
  have c := cX.t.d
  have xb := Bool.and_eq_true_iff.mp cX.more
  have hEN : mg "_ENDS" = some (.ref (bg0 K)) := He.glo_ok X G (c.fact 33 (f := .glo "_ENDS") rfl)
  have hE : ∀ H, Rep K H (.ref (bg0 K)) (.tup ends) := ends_rep xb.1
  have hE3 : ∃ ys : List V, ys.length = 3 ∧ ∀ H, SqT K H (bg0 K) ys := ends_sq xb.1
  have hML := He.int_ok X G (c.fact 34 (f := .int "_MOST_LISTED" 2000) rfl)
  have hMA := He.int_ok X G (c.fact 35 (f := .int "_MOST_ASKS" 8) rfl)
  have hTM : mg "TooMany" = some (.ref (He.ga K "TooMany")) := He.glo_ok X G (c.fact 36 (f := .glo "TooMany") rfl)
  have hSF : mg "SenseFault" = some (.ref (He.ga K "SenseFault")) := He.glo_ok X G (c.fact 37 (f := .glo "SenseFault") rfl)
  have XF := exX_ok xb.2
  obtain ⟨fd_body_of, F_body_of⟩ := c.def_ 0 (d := d_body_of) rfl
  have D_body_of : Df K mg "body_of" s_body_of ["note", "parts"] _ fd_body_of := ⟨F_body_of, F_body_of.bindsN fun _ _ _ _ _ _ us hl => match us, hl with | [_, _], _ => rfl, He.glo_ok X G (c.fact 0 (f := .glo "body_of") rfl)⟩
  obtain ⟨fd__kind_pieces, F__kind_pieces⟩ := c.def_ 1 (d := d__kind_pieces) rfl
  have D__kind_pieces : Df K mg "_kind_pieces" s__kind_pieces ["kind"] _ fd__kind_pieces := ⟨F__kind_pieces, F__kind_pieces.bindsN fun _ _ _ _ _ _ us hl => match us, hl with | [_], _ => rfl, He.glo_ok X G (c.fact 1 (f := .glo "_kind_pieces") rfl)⟩
  obtain ⟨fd_write_kind, F_write_kind⟩ := c.def_ 2 (d := d_write_kind) rfl
  have D_write_kind : Df K mg "write_kind" s_write_kind ["kind"] _ fd_write_kind := ⟨F_write_kind, F_write_kind.bindsN fun _ _ _ _ _ _ us hl => match us, hl with | [_], _ => rfl, He.glo_ok X G (c.fact 2 (f := .glo "write_kind") rfl)⟩
  obtain ⟨fd__times, F__times⟩ := c.def_ 3 (d := d__times) rfl
  have D__times : Df K mg "_times" s__times ["left", "right"] _ fd__times := ⟨F__times, F__times.bindsN fun _ _ _ _ _ _ us hl => match us, hl with | [_, _], _ => rfl, He.glo_ok X G (c.fact 3 (f := .glo "_times") rfl)⟩
  obtain ⟨fd_count, F_count⟩ := c.def_ 4 (d := d_count) rfl
  have D_count : Df K mg "count" s_count ["kind", "many"] _ fd_count := ⟨F_count, F_count.bindsN fun _ _ _ _ _ _ us hl => match us, hl with | [_, _], _ => rfl, He.glo_ok X G (c.fact 4 (f := .glo "count") rfl)⟩
  obtain ⟨fd__bodies, F__bodies⟩ := c.def_ 5 (d := d__bodies) rfl
  have D__bodies : Df K mg "_bodies" s__bodies ["kinds", "many"] _ fd__bodies := ⟨F__bodies, F__bodies.bindsN fun _ _ _ _ _ _ us hl => match us, hl with | [_, _], _ => rfl, He.glo_ok X G (c.fact 5 (f := .glo "_bodies") rfl)⟩
  obtain ⟨fd__side_by_side, F__side_by_side⟩ := c.def_ 6 (d := d__side_by_side) rfl
  have D__side_by_side : Df K mg "_side_by_side" s__side_by_side ["within", "many"] _ fd__side_by_side := ⟨F__side_by_side, F__side_by_side.bindsN fun _ _ _ _ _ _ us hl => match us, hl with | [_, _], _ => rfl, He.glo_ok X G (c.fact 6 (f := .glo "_side_by_side") rfl)⟩
  obtain ⟨fd_listed, F_listed⟩ := c.def_ 7 (d := d_listed) rfl
  have D_listed : Df K mg "listed" s_listed ["kind", "many"] _ fd_listed := ⟨F_listed, F_listed.bindsN fun _ _ _ _ _ _ us hl => match us, hl with | [_, _], _ => rfl, He.glo_ok X G (c.fact 7 (f := .glo "listed") rfl)⟩
  obtain ⟨fd__law_cell, F__law_cell⟩ := c.def_ 8 (d := d__law_cell) rfl
  have D__law_cell : Df K mg "_law_cell" s__law_cell ["script", "k"] _ fd__law_cell := ⟨F__law_cell, F__law_cell.bindsN fun _ _ _ _ _ _ us hl => match us, hl with | [_, _], _ => rfl, He.glo_ok X G (c.fact 8 (f := .glo "_law_cell") rfl)⟩
  obtain ⟨fd__law_digits, F__law_digits⟩ := c.def_ 9 (d := d__law_digits) rfl
  have D__law_digits : Df K mg "_law_digits" s__law_digits ["script", "first", "last"] _ fd__law_digits := ⟨F__law_digits, F__law_digits.bindsN fun _ _ _ _ _ _ us hl => match us, hl with | [_, _, _], _ => rfl, He.glo_ok X G (c.fact 9 (f := .glo "_law_digits") rfl)⟩
  obtain ⟨fd__law_draw, F__law_draw⟩ := c.def_ 10 (d := d__law_draw) rfl
  have D__law_draw : Df K mg "_law_draw" s__law_draw ["box", "many"] _ fd__law_draw := ⟨F__law_draw, F__law_draw.bindsN fun _ _ _ _ _ _ us hl => match us, hl with | [_, _], _ => rfl, He.glo_ok X G (c.fact 10 (f := .glo "_law_draw") rfl)⟩
  obtain ⟨fd__law_box, F__law_box⟩ := c.def_ 11 (d := d__law_box) rfl
  have D__law_box : Df K mg "_law_box" s__law_box ["script", "first", "last"] _ fd__law_box := ⟨F__law_box, F__law_box.bindsN fun _ _ _ _ _ _ us hl => match us, hl with | [_, _, _], _ => rfl, He.glo_ok X G (c.fact 11 (f := .glo "_law_box") rfl)⟩
  obtain ⟨fd__law_same, F__law_same⟩ := c.def_ 12 (d := d__law_same) rfl
  have D__law_same : Df K mg "_law_same" s__law_same ["actual", "expected"] _ fd__law_same := ⟨F__law_same, F__law_same.bindsN fun _ _ _ _ _ _ us hl => match us, hl with | [_, _], _ => rfl, He.glo_ok X G (c.fact 12 (f := .glo "_law_same") rfl)⟩
  obtain ⟨fd__law_kind, F__law_kind⟩ := c.def_ 13 (d := d__law_kind) rfl
  have D__law_kind : Df K mg "_law_kind" s__law_kind ["box", "depth", "budget"] _ fd__law_kind := ⟨F__law_kind, F__law_kind.bindsN fun _ _ _ _ _ _ us hl => match us, hl with | [_, _, _], _ => rfl, He.glo_ok X G (c.fact 13 (f := .glo "_law_kind") rfl)⟩
  obtain ⟨fd__law_all, F__law_all⟩ := c.def_ 14 (d := d__law_all) rfl
  have D__law_all : Df K mg "_law_all" s__law_all ["kind", "many"] _ fd__law_all := ⟨F__law_all, F__law_all.bindsN fun _ _ _ _ _ _ us hl => match us, hl with | [_, _], _ => rfl, He.glo_ok X G (c.fact 14 (f := .glo "_law_all") rfl)⟩
  obtain ⟨fd__law_bodies, F__law_bodies⟩ := c.def_ 15 (d := d__law_bodies) rfl
  have D__law_bodies : Df K mg "_law_bodies" s__law_bodies ["kinds", "many"] _ fd__law_bodies := ⟨F__law_bodies, F__law_bodies.bindsN fun _ _ _ _ _ _ us hl => match us, hl with | [_, _], _ => rfl, He.glo_ok X G (c.fact 15 (f := .glo "_law_bodies") rfl)⟩
  obtain ⟨fd__law_shared, F__law_shared⟩ := c.def_ 16 (d := d__law_shared) rfl
  have D__law_shared : Df K mg "_law_shared" s__law_shared ["parts", "many"] _ fd__law_shared := ⟨F__law_shared, F__law_shared.bindsN fun _ _ _ _ _ _ us hl => match us, hl with | [_, _], _ => rfl, He.glo_ok X G (c.fact 16 (f := .glo "_law_shared") rfl)⟩
  obtain ⟨fd__law_counts, F__law_counts⟩ := c.def_ 17 (d := d__law_counts) rfl
  have D__law_counts : Df K mg "_law_counts" s__law_counts ["kinds", "many", "known"] _ fd__law_counts := ⟨F__law_counts, F__law_counts.bindsN fun _ _ _ _ _ _ us hl => match us, hl with | [_, _, _], _ => rfl, He.glo_ok X G (c.fact 17 (f := .glo "_law_counts") rfl)⟩
  obtain ⟨fd__law_times, F__law_times⟩ := c.def_ 18 (d := d__law_times) rfl
  have D__law_times : Df K mg "_law_times" s__law_times ["one", "two", "many"] _ fd__law_times := ⟨F__law_times, F__law_times.bindsN fun _ _ _ _ _ _ us hl => match us, hl with | [_, _, _], _ => rfl, He.glo_ok X G (c.fact 18 (f := .glo "_law_times") rfl)⟩
  obtain ⟨fd_law, F_law⟩ := c.def_ 19 (d := d_law) rfl
  have e := hfa.symm.trans (He.glo_ok X G (c.fact 19 (f := .glo "law") rfl))
  cases e
  have D_law : Df K mg "law" s_law ["script"] _ fd_law := ⟨F_law, F_law.bindsN fun _ _ _ _ _ _ us hl => match us, hl with | [_], _ => rfl, hfa⟩
  obtain ⟨fd_BodyCounts___init__, F_BodyCounts___init__⟩ := c.def_ 20 (d := d_BodyCounts___init__) rfl
  have M_make : Dm K (He.ga K "BodyCounts") "__init__" "BodyCounts.__init__" s_BodyCounts___init__ ["self"] _ fd_BodyCounts___init__ := ⟨F_BodyCounts___init__, F_BodyCounts___init__.bindsN fun _ _ _ _ _ _ us hl => match us, hl with | [_], _ => rfl⟩
  obtain ⟨fd_BodyCounts_of_bodies, F_BodyCounts_of_bodies⟩ := c.def_ 21 (d := d_BodyCounts_of_bodies) rfl
  have M_of_bodies : Dm K (He.ga K "BodyCounts") "of_bodies" "BodyCounts.of_bodies" s_BodyCounts_of_bodies ["self", "around", "many"] _ fd_BodyCounts_of_bodies := ⟨F_BodyCounts_of_bodies, F_BodyCounts_of_bodies.bindsN fun _ _ _ _ _ _ us hl => match us, hl with | [_, _, _], _ => rfl⟩
  obtain ⟨fd_BodyCounts_of_asks, F_BodyCounts_of_asks⟩ := c.def_ 22 (d := d_BodyCounts_of_asks) rfl
  have M_of_asks : Dm K (He.ga K "BodyCounts") "of_asks" "BodyCounts.of_asks" s_BodyCounts_of_asks ["self", "around", "asked", "many"] _ fd_BodyCounts_of_asks := ⟨F_BodyCounts_of_asks, F_BodyCounts_of_asks.bindsN fun _ _ _ _ _ _ us hl => match us, hl with | [_, _, _, _], _ => rfl⟩
  have FT : BcT K (He.ga K "BodyCounts") := ⟨He.cls_ok (c.fact 39 (f := .cls "BodyCounts") rfl), He.noat_ok (c.fact 40 (f := .noat "BodyCounts" "known") rfl)⟩
  have hMC := He.glo_ok X G (c.fact 38 (f := .glo "BodyCounts") rfl)
  have hMk := He.mkr_ok (c.fact 41 (f := .mkr "BodyCounts") rfl)
  have mOb := He.meth_ok (c.fact 42 (f := .meth "BodyCounts" "of_bodies") rfl)
  have mOa := He.meth_ok (c.fact 43 (f := .meth "BodyCounts" "of_asks") rfl)
  have B : Bt mg := ⟨He.free_ok X G (c.fact 20 (f := .free "tuple") rfl), He.free_ok X G (c.fact 21 (f := .free "zip") rfl), He.free_ok X G (c.fact 22 (f := .free "len") rfl), He.free_ok X G (c.fact 23 (f := .free "isinstance") rfl), He.free_ok X G (c.fact 24 (f := .free "str") rfl), He.free_ok X G (c.fact 25 (f := .free "range") rfl), He.free_ok X G (c.fact 26 (f := .free "sum") rfl), He.free_ok X G (c.fact 27 (f := .free "sorted") rfl), He.free_ok X G (c.fact 28 (f := .free "list") rfl), He.free_ok X G (c.fact 29 (f := .free "enumerate") rfl), He.free_ok X G (c.fact 30 (f := .free "min") rfl), He.free_ok X G (c.fact 31 (f := .free "int") rfl), He.free_ok X G (c.fact 32 (f := .free "bool") rfl)⟩
  have b := FunD.bindsA (ps := ["script"]) F_law fun _ _ _ _ _ _ us hl => match us, hl with | [_], _ => rfl
  exact ⟨fd_law, fun s v => b s [v] rfl, fun base _ _ => ok_law hEN hE hE3 hML hMA hTM hSF XF FT hMC hMk mOb mOa M_make M_of_bodies M_of_asks D_law B D_body_of D__kind_pieces D_write_kind D__times D_count D__bodies D__side_by_side D_listed D__law_cell D__law_digits D__law_draw D__law_box D__law_same D__law_kind D__law_all D__law_bodies D__law_shared D__law_counts D__law_times⟩
end Pk
open PySem PySem.W PySem.Calls PyProof.Rows
set_option maxHeartbeats 0
theorem PySem.Challenge.cw_playsense_k81_all_programs_holds : PySem.Challenge.rw_playsense_k81_all_programs.Holds := by
  w_on; o_law
  refine HandSHeadRun.head_any (r := OpenLaw.row PySem.Challenge.rw_playsense_k81_all_programs) (q := view (OpenLaw.row PySem.Challenge.rw_playsense_k81_all_programs).prog [30]) (H := Pk.hk) (ob := Pk.ob) (M := 4000) (loose := Pk.names) (d := HandSHeadRun.topDef (OpenLaw.row PySem.Challenge.rw_playsense_k81_all_programs).prog 30) (kwd := []) Pk.ob_eq
    (by kernel_rfl) (fun s => by kernel_rfl) Pk.run (by kernel_rfl) (by kernel_rfl) (by kernel_rfl) (by rfl) (by first | assumption | decide +kernel) (by decide +kernel) ⟨rfl, rfl, rfl, rfl, rfl, by decide +kernel⟩ ?hw ?hc
  case hw => w_witness2
  case hc =>
    refine L2.walk_ofE (l := PySem.Challenge.rw_playsense_k81_all_programs) (n := 63) (k := 121) (x := "script") (CX := L2.CX0) rfl (by decide) (by kernel_rfl) ⟨rfl, by decide, by decide⟩ ?F (fun _ _ _ _ z => z)
    intro w mg fa h Y G hmg0
    obtain ⟨K, KX, c⟩ := Y
    have hmg : mg ("law" : PySem.Str) = some (.ref fa) := by
      have e : (HandSHeadRun.topDef (OpenLaw.row PySem.Challenge.rw_playsense_k81_all_programs).prog 30).name = ("law" : PySem.Str) := by kernel_rfl
      rw [← e]
      exact hmg0
    obtain ⟨fd, hb, hF⟩ := Pk.facts (P := (PySem.Challenge.rw_playsense_k81_all_programs).prog) (w := w) KX G hmg c
    exact ⟨K, fd, Pk.spLaw K, KX, hb, fun H a ns hl _ hS => ⟨a, ns, rfl, hS, hl, fun _ => rfl⟩, hF⟩
