import PyProof.Rows.All
import Wide.All
import OpenK.AllK
import Wide.FinOn
import PyProof.EqAt
import PyProof.EqKinds
import PyProof.TupleCall
import HandS.ForMost
import HandS.TupAny
import HandS.TupMul
import HandS.TupLe
import HandS.IsInst
import KE.GoesMore
import KE.KRevSl
import KE.LtSeq
import KE.LtData
import KE.SortCalls
import KE.SortData
import KE.DataEq
import HandS.NoneIn
import KE.KDictLaw
import KE.KeyNested
import KE.KDictKeyed
import KE.KDictWalk
import KE.KDictList
import KE.KDictSum
import HandS.Lambda
import HandS.Flow
import KE.DataCmp
import PyProof.DelItemList
import PyProof.RulesDelMore
import HandS.List
import KE.KIndexOf
import HandS.Zip
import HandS.Walk
import PyProof.EnumIter
import HandS.DictTup
import HandS.Iter
import HandS.DictComp
import HandS.SetFor
import HandS.Conv
import HandS.CallLocal
import HandS.Star
import KE.KStateDown
import HandS.Base
import HandS.Call
import HandS.Ends
import HandS.More
import HandS.Words
import HandS.WordsExc
import HandS.Defaults
import HandS.Head0
import HandS.Head1
import HandS.Head2
import HandS.HeadEnd
import HandS.HeadHook1
import HandS.HeadHook2
import HandS.HeadHook3
import HandS.HeadHook4
import HandS.EndTab
import PySem.Challenge.RW_playsense_k97_whole_plays_tell_the_least
set_option Elab.async false
set_option linter.all false
set_option maxRecDepth 100000
set_option maxHeartbeats 4000000
/-! Rules of our own: list.extend of a tuple, xs[::-1], enumerate of a tuple, () * k. -/
namespace Pk
open PySem PySem.Spec PyProof.Rows L2

/-! ### list.extend(tuple) -/
theorem list_extend_tupW (l : Addr) (items : Array Value) (n : Nat) (b : Addr) (items2 : Array Value) (n2 : Nat) (dd : Option Addr) (sl : Array (Option Value))
    (hs0 : ¬(!items.isEmpty && Builtin.List.listTooLong (items.size + items2.size)) = true) (hs1 : items.size ≤ sizeLine) (hs2 : items.size + items2.size ≤ sizeLine + 1) :
    Meets (Builtin.«list.extend» ⟨[.ref l, .ref b], []⟩) (fun _ R s => s.heap.get? l = some { cls := .type "list", dict := none, data := .seq items n, slots := #[] } ∧ s.heap.get? b = some { cls := .type "tuple", dict := dd, data := .seq items2 n2, slots := sl } ∧
      R (.ok (.ret Value.none)) { s with heap := s.heap.update l (Obj.mapSeq fun x => x ++ items2), toks := s.toks }) :=
  .of_wp fun prog w A R s h => by
    obtain ⟨hp, g, d, tk, os⟩ := s
    obtain ⟨hl, hb, h⟩ := h
    have f1 := AutoSeq1.idx_int
    have f2 := AutoSeq1.sub_tuple_tuple
    have f3 := AutoSeq1.sub_list_list
    have f4 := AutoSeq1.sub_tuple_list
    have f5 := AutoSeq1.sub_list_tuple
    have hz' : (items ++ items2).size ≤ sizeLine + 1 := by rw [Array.size_append]; exact hs2
    wp_walk using (wpAny_updateSeq hl rfl (hz := hs1) (_hz' := hz')), AutoSeq1.wpAny_loadPart' hl, AutoSeq1.wpAny_loadPart' hb
    exact ⟨_, rfl, h⟩
def rExtendT (K : PySem.W.Frag) : V → List V → Hp → VK → Prop := fun x vs H Q => ∃ l b xs zs, x = .ref l ∧ vs = [.ref b] ∧ H l = some (.lst xs) ∧ SqT K H b zs ∧ xs.length + zs.length ≤ sizeLine ∧ Q .non (upd H l (.lst (xs ++ zs)))
section
variable {X : Cx}
theorem mt_extendT : MtM X "list.extend" (rExtendT X.K) := by
  intro pins s σ H x vs v us Q I rx rv h
  obtain ⟨l, b, xs, zs, rfl, rfl, hH, hB, hz, q⟩ := h
  cases rx
  obtain ⟨u, rfl, ru⟩ := rv.one
  cases ru
  obtain ⟨z, its, n, r, hl, e⟩ := I.lstM hH
  obtain ⟨its2, r2, ⟨⟨cls, dd, data, sl⟩, ho, hc, n2, hd⟩, hz2⟩ := I.tuple hB
  simp only at hc hd
  subst hc hd
  have hl2 := r2.length
  have hsz : its.toArray.size + its2.toArray.size ≤ sizeLine := by rw [List.size_toArray, List.size_toArray]; omega
  have hlong : ¬ (!its.toArray.isEmpty && Builtin.List.listTooLong (its.toArray.size + its2.toArray.size)) = true := by
    rw [notLongL hsz, Bool.and_false]
    exact Bool.false_ne_true
  refine call_meets F.slot_list_extend ⟨_, e, rfl⟩ F.entry_list_extend (F.args_list_extend_2 _ _)
    (list_extend_tupW l its.toArray n b its2.toArray n2 dd sl hlong (by rw [List.size_toArray]; omega) (by omega)) ⟨e, ho, ?_⟩
  refine ⟨.non, _, I.lset (its' := its ++ its2) hH e (by simp) (r.append r2) ?_, rfl, q⟩
  rw [List.length_append]
  omega

/-! ### xs[::-1] -/
def tRevL (K : PySem.W.Frag) (te : TE) : TE := fun σ H Q => te σ H fun x H1 => ∃ a xs, x = .ref a ∧ SqL K H1 a xs ∧ ∀ p, H1 p = none → Q (.ref p) (upd H1 p (.lst xs.reverse))
theorem pe_revL {e : Expr} {te : TE} {j : Nat} {p2 p3 p4 pos : Pos} (he : PE X e te) : PE X (.Subscript e (.Slice none none (some (.UnaryOp .USub (.Constant (.int 1) j p4) p3)) p2) pos) (tRevL X.K te) := by
  refine ⟨fun pins s σ H Q I h => ?_⟩
  refine Subscript_ (thn (he.run pins s σ H _ I h) fun v s1 ⟨x, H1, I1, r1, q1⟩ => ?_)
  have hst := po_some (X := X) (pe_un (pos := p3) un_neg (pe_int (i := 1) (j := j) (pos := p4)))
  refine wpAny_Slice ?_
  rw [evalPart_none]
  refine wpAny_pure ?_
  refine wpAny_pure ?_
  refine thn (hst.run pins s1 σ H1 (fun o H' => o = some (-1) ∧ H' = H1) I1 ?_) fun vs s3 ⟨o, H3, I3, ps, q3⟩ => ?_
  · exact ⟨1, rfl, -1, rfl, rfl, rfl⟩
  obtain ⟨rfl, rfl⟩ := q3
  obtain ⟨a, xs, rfl, hx, q⟩ := q1
  cases r1
  have I4 : Inv X pins σ H3 { s3 with heap := s3.heap.push { cls := .type "slice", data := .fields #[.none, .none, vs] } } := I3.kept (t' := s3.toks) fun b ob q => Heap.get?_push_of_some _ q
  obtain ⟨its, r, ht, hz⟩ := I4.list hx
  have hlen := r.length
  show wpAny (model X.prog X.w) X.A (subscriptTail e (.Slice none none (some (.UnaryOp .USub (.Constant (.int 1) j p4) p3)) p2) (.ref a) (.ref s3.heap.objs.size)) (EP X pins σ Q) X.xe { s3 with heap := s3.heap.push { cls := .type "slice", data := .fields #[.none, .none, vs] } }
  refine tail_any (ops := _) ht.isList.typeIs slot_list_getitem.lookup ?_ (by with_unfolding_all rfl)
  refine wpAny_getItem_list_slice ht.isList (Heap.IsSliceOf.new ..) .none .none ps (by decide) ?_ (by rw [List.size_toArray]; omega)
  have ep : slicePick its.toArray none none (some (-1)) = its.reverse.toArray := PySem.W.krv_pick _
  rw [ep]
  refine ⟨.ref _, _, I4.laid (t' := s3.toks) (o := .lst xs.reverse) (fun b ob q => Heap.get?_push_of_some _ q) (Nat.le_refl _) ?_, rfl, q _ (I4.hok.fresh (Nat.le_refl _))⟩
  exact ⟨by rw [List.length_reverse]; exact hz, _, 0, r.reverse, Heap.get?_push_size _ rfl⟩

/-! ### () * k -/
theorem tuple_mul0 (l : Addr) (items : Array Value) (n : Nat) (dd : Option Addr) (sl : Array (Option Value)) (x : Int) (u : Tok) (c0 : (decide (x < -(2 ^ 63)) || decide (x ≥ 2 ^ 63)) = false) (c1 : (items.isEmpty || x == 1) = true) :
    Meets (Builtin.«tuple.__mul__» ⟨[.ref l, .int x u], []⟩) (fun _ R s => s.heap.get? l = some { cls := .type "tuple", dict := dd, data := .seq items n, slots := sl } ∧ R (.ok (.ret (Value.ref l))) s) :=
  .of_wp fun prog w A R s h => by
    obtain ⟨hp, g, d, tk, os⟩ := s
    obtain ⟨hl, h⟩ := h
    have f1 := AutoSeq1.idx_int
    wp_walk using AutoSeq1.wpAny_loadPart' hl
    repeat (first
      | (refine wpAny_ite_false (decide_eq_false (by rw [c0]; exact Bool.false_ne_true)) ?_; wp_walk using AutoSeq1.wpAny_loadPart' hl)
      | (refine wpAny_ite_true (decide_eq_true (by rw [c1])) ?_; wp_walk using AutoSeq1.wpAny_loadPart' hl))
    exact ⟨_, rfl, h⟩
def rRep0 (K : PySem.W.Frag) : R2 := fun x y H Q => ∃ l k, x = .ref l ∧ y = .int k ∧ SqT K H l [] ∧ 2 ≤ k ∧ k ≤ 1000 ∧ Q (.ref l) H
theorem op_rep0 : OpR X (binaryOp .Mult) (rRep0 X.K) := by
  intro pins s σ H x y v u Q I rx ry h
  obtain ⟨l, k, rfl, rfl, hT, h1, h2, q⟩ := h
  cases rx
  obtain ⟨t, rfl⟩ := ry
  obtain ⟨its, r, ⟨⟨cls, dd, data, sl⟩, ho, hc, n, hd⟩, hs⟩ := I.tuple hT
  simp only at hc hd
  subst hc hd
  cases r
  have c0 : (decide (k < -(2 ^ 63)) || decide (k ≥ 2 ^ 63)) = false := by
    rw [decide_eq_false (by omega), decide_eq_false (by omega)] <;> rfl
  refine wpAny_binaryOp_repeat_ref (T := "tuple") (U := "int") (by decide) ⟨_, ho, rfl⟩ (fun s' => typeIs_int s' k t) noFill_tuple_mul F.fills_int_mul F.slot_int_rmul repeat_tuple F.slot_int_index.lookup
    (call_meets F.slot_int_rmul (typeIs_int s k t) F.entry_int_rmul (F.args_int_rmul_2 _ _) (int_rmul_tuple k t l _ n dd sl)
      ⟨ho, rfl, ⟨_, ho, rfl⟩, call_meets F.slot_tuple_mul ⟨_, ho, rfl⟩ F.entry_tuple_mul (F.args_tuple_mul_2 _ _) (tuple_mul0 l _ n dd sl k t c0 rfl) ⟨ho, ?_⟩⟩)
  exact ⟨.ref l, H, I, rfl, q⟩
end

/-! ### t + u of tracked tuples, one way on -/
section
variable {X : Cx}
def rCatR : R2 := fun x y H Q => ∃ a b xs ys, x = .ref a ∧ y = .ref b ∧ H a = some (.tup xs) ∧ H b = some (.tup ys) ∧ xs.length + ys.length ≤ sizeLine ∧ ∀ (c : Addr) (H' : Hp), Same H H' → H' c = some (.tup (xs ++ ys)) → Q (.ref c) H'
theorem op_catR : OpR X (binaryOp .Add) rCatR := by
  intro pins s σ H x y v u Q I rx ry h
  obtain ⟨a, b, xs, ys, rfl, rfl, ha, hb, hz, q⟩ := h
  refine op_catA pins s σ H _ _ v u Q I rx ry ⟨a, b, xs, ys, rfl, rfl, SqT.of ha, SqT.of hb, hz, fun e => ?_, fun _ e => ?_, fun _ _ p np => ?_⟩
  · subst e
    exact q b H (Same.refl H) hb
  · subst e
    exact q a H (Same.refl H) (by rw [List.append_nil]; exact ha)
  · exact q p _ (fun c o e => by rw [upd_ne (ne_of_none e np)]; exact e) upd_same
end

/-! ### t[lo:hi] of a tracked tuple, one way on -/
theorem cutV_whole {xs : List V} {lo hi : Option Int} (h : HT.sIx xs.length 0 lo = 0 ∧ HT.sIx xs.length xs.length hi = xs.length) : cutV xs lo hi = xs := by
  unfold cutV
  rw [h.1, h.2, List.drop_zero, Nat.sub_zero, List.take_length]
theorem cutV_to (xs : List V) (k : Nat) : cutV xs none (some (k : Int)) = xs.take k := by
  unfold cutV
  rw [HT.sIx_none, HT.sIx_nat, List.drop_zero, Nat.sub_zero]
  by_cases h : k ≤ xs.length
  · rw [Nat.min_eq_left h]
  · rw [Nat.min_eq_right (by omega), List.take_length, List.take_of_length_le (by omega)]
theorem cutV_from (xs : List V) (k : Nat) : cutV xs (some (k : Int)) none = xs.drop k := by
  unfold cutV
  rw [HT.sIx_none, HT.sIx_nat]
  by_cases h : k ≤ xs.length
  · rw [Nat.min_eq_left h]
    exact List.take_of_length_le (by rw [List.length_drop]; exact Nat.le_refl _)
  · rw [Nat.min_eq_right (by omega), List.drop_length, List.drop_of_length_le (by omega)]
    exact List.take_nil
section
variable {X : Cx}
def rSlR : V → Option Int → Option Int → Hp → VK → Prop := fun x lo hi H Q => ∃ a xs, x = .ref a ∧ H a = some (.tup xs) ∧ ∀ (c : Addr) (H' : Hp), Same H H' → H' c = some (.tup (cutV xs lo hi)) → Q (.ref c) H'
theorem sl_tupR : SlR X rSlR := by
  intro pins s σ H x v vl vu lo hi sl Q I rx hs pl pu h
  obtain ⟨a, xs, rfl, hx, q⟩ := h
  refine sl_tupA pins s σ H _ v vl vu lo hi sl Q I rx hs pl pu ⟨a, xs, rfl, SqT.of hx, fun z => ?_, fun _ p np => ?_⟩
  · exact q a H (Same.refl H) (by rw [cutV_whole z]; exact hx)
  · exact q p _ (fun c o e => by rw [upd_ne (ne_of_none e np)]; exact e) upd_same
end

/-! ### t * k of a tracked tuple, one way on -/
section
variable {X : Cx}
theorem rep_nil {α : Type} : ∀ k : Nat, (List.replicate k ([] : List α)).flatten = []
  | 0 => rfl
  | k + 1 => by
    rw [List.replicate_succ, List.flatten_cons, rep_nil k]
    rfl
def rRepR : R2 := fun x y H Q => ∃ l k xs, x = .ref l ∧ y = .int k ∧ H l = some (.tup xs) ∧ 2 ≤ k ∧ k ≤ 1000 ∧ xs.length ≤ 1000 ∧ ∀ (c : Addr) (H' : Hp), Same H H' → H' c = some (.tup (List.replicate k.toNat xs).flatten) → Q (.ref c) H'
theorem op_repR : OpR X (binaryOp .Mult) rRepR := by
  intro pins s σ H x y v u Q I rx ry h
  obtain ⟨l, k, xs, rfl, rfl, hx, h1, h2, hz, q⟩ := h
  by_cases e : xs = []
  · subst e
    exact op_rep0 pins s σ H _ _ v u Q I rx ry ⟨l, k, rfl, rfl, SqT.of hx, h1, h2, q l H (Same.refl H) (by rw [rep_nil]; exact hx)⟩
  · exact op_repT pins s σ H _ _ v u Q I rx ry ⟨l, k, xs, rfl, rfl, SqT.of hx, e, h1, h2, hz, fun p np => q p _ (fun c o z => by rw [upd_ne (ne_of_none z np)]; exact z) upd_same⟩
end

/-! ### xs == [] -/
section
variable {X : Cx}
def rEqNil (K : PySem.W.Frag) : R2 := fun x y H Q => ∃ a b xs, x = .ref a ∧ y = .ref b ∧ SqL K H a xs ∧ SqL K H b [] ∧ Q (.bl xs.isEmpty) H
theorem op_eqNil (hu : X.A.units + 64 < cLine) : OpR X (compareOp .Eq) (rEqNil X.K) := by
  intro pins s σ H x y v u Q I rx ry h
  obtain ⟨a, b, xs, rfl, rfl, ha, hb, q⟩ := h
  cases rx
  cases ry
  obtain ⟨its, r1, p1, _⟩ := I.list ha
  obtain ⟨its2, r2, p2, _⟩ := I.list hb
  cases r2
  have hu' : X.A.units < cLine := by omega
  cases r1 with
  | nil => exact SeqAt.eq_listAt (e := fun _ => true) p1.isList p2.isList rfl hu' (fun j h1 h2 => by simp at h1) ⟨.bl true, H, I, rfl, q⟩
  | cons r t => exact SeqAt.eq_list_lengthsAt p1.isList p2.isList rfl hu' ⟨.bl false, H, I, rfl, q⟩
end

/-! ### enumerate(tuple) -/
theorem meets_enumerate_newT (l : Addr) (items : Array Value) (n : Nat) (dct : Option Addr) (sl : Array (Option Value)) :
    Meets (Builtin.«enumerate.__new__» ⟨[.type "enumerate", .ref l], []⟩) (fun _ R s => s.heap.get? l = some { cls := .type "tuple", dict := dct, data := .seq items n, slots := sl } ∧
      R (.ok (.ret (.ref (s.heap.push { cls := .type "tuple_iterator", data := .fields #[.ref l, .int 0 0] }).objs.size)))
        { s with heap := (s.heap.push { cls := .type "tuple_iterator", data := .fields #[.ref l, .int 0 0] }).push { cls := .type "enumerate", data := .fields #[.none, .bool false, .ref s.heap.objs.size, rawInt 0, .none, .none] } }) :=
  .of_wp fun prog w A R s h => by
    obtain ⟨hp, g, d, tk, os⟩ := s; obtain ⟨hl, h⟩ := h
    have hsub := sub_enumerate
    have hL : Heap.IsTuple (Shared.heap ⟨hp, g, d, tk, os⟩) l items := ⟨_, hl, rfl, n, rfl⟩
    wp_walk using AutoSeq1.wpAny_loadPart' hl
    refine wpAny_stack_any fun st => wpAny_pure ?_
    split
    · rename_i c _ _ _ _ _
      cases (c == Value.type "enumerate")
      · wp_walk using AutoSeq1.wpAny_loadPart' hl, wpAny_pyIter_tuple hL
        exact ⟨_, rfl, h⟩
      · wp_walk using AutoSeq1.wpAny_loadPart' hl, wpAny_pyIter_tuple hL
        exact ⟨_, rfl, h⟩
    · wp_walk using AutoSeq1.wpAny_loadPart' hl, wpAny_pyIter_tuple hL
      exact ⟨_, rfl, h⟩
section
variable {prog : Program} {w : World} {A : Around} {E : Value → Shared → Prop} {s : Shared}
theorem call_enumerate_tup {l : Addr} {items : Array Value} {Q : Value → Shared → Prop} (hL : IsTup s.heap l items)
    (h : ∀ h', IsEnum h' (s.heap.objs.size + 1) s.heap.objs.size 0 .none → h'.IsTupleIter s.heap.objs.size l 0 → h'.objs.size = s.heap.objs.size + 2 →
      (∀ b o, s.heap.get? b = some o → h'.get? b = some o) → Q (.ref (s.heap.objs.size + 1)) { s with heap := h' }) :
    wpAny (model prog w) A (call (.type "enumerate") [.ref l]) Q E s := by
  obtain ⟨⟨c, dct, dt, sl⟩, hl, hc, n, hd⟩ := hL
  replace hc : c = .type "tuple" := hc
  replace hd : dt = .seq items n := hd
  subst hc hd
  refine callType_new F.called_enumerate (by decide) (F.typeCall_enumerate_1 _) (F.newCall_enumerate_1 _) (fun obj => F.args_object_init_2 obj _) F.entry_enumerate_new
    (meets_enumerate_newT l items n dct sl) ⟨hl, ?_⟩
  have hz : (s.heap.push { cls := .type "tuple_iterator", data := .fields #[.ref l, .int 0 0] }).objs.size = s.heap.objs.size + 1 := Heap.size_push ..
  show _ ∧ _
  rw [hz]
  have he : IsEnum ((s.heap.push { cls := .type "tuple_iterator", data := .fields #[.ref l, .int 0 0] }).push
      { cls := .type "enumerate", data := .fields #[.none, .bool false, .ref s.heap.objs.size, rawInt 0, .none, .none] }) (s.heap.objs.size + 1) s.heap.objs.size 0 .none := by
    have := Heap.get?_push_size (s.heap.push { cls := .type "tuple_iterator", data := .fields #[.ref l, .int 0 0] })
      (o := { cls := .type "enumerate", data := .fields #[.none, .bool false, .ref s.heap.objs.size, rawInt 0, .none, .none] }) rfl
    rw [hz] at this; exact this
  refine ⟨⟨_, he, rfl⟩, h _ he ⟨_, Heap.get?_push_of_some _ (Heap.get?_push_size _ rfl), rfl, rfl⟩ (by rw [Heap.size_push, hz]) fun b o x => Heap.get?_push_of_some _ (Heap.get?_push_of_some _ x)⟩
theorem wpAny_pyNext_enumT_end {e it l : Addr} {i : Nat} {items : Array Value} {old : Value} {Q : Option Value → Shared → Prop} (hh : A.handled = none)
    (he : IsEnum s.heap e it i old) (hit : s.heap.IsTupleIter it l i) (hl : IsTup s.heap l items) (hx : items[i]? = none)
    (hQ : ∀ h', Heap.ExtBut it s.heap h' → Q none { s with heap := h' }) : wpAny (model prog w) A (pyNext (.ref e)) Q E s := by
  have hTy : s.TypeIs (.ref e) "enumerate" := ⟨_, he, rfl⟩
  unfold pyNext
  refine wpAny_bind (wpAny_attempt (wpAny_callSpecial?_slot (name := Str.ofString "__next__") hTy F.slot_enumerate_next
    (wpAny_call_entry F.slot_enumerate_next hTy F.entry_enumerate_next ?_ (F.args_enumerate_next_1 _))))
  show wpAny _ _ (field (.ref e) 2 >>= _) _ _ _
  refine wpAny_bind (wpAny_field he rfl (x := .ref it) rfl ?_)
  refine wpAny_bind (wpAny_nextOf_tuple_end hh hit hl hx fun h' x he' hx' => ?_)
  obtain ⟨o, ho, hc⟩ := hx'
  refine wpAny_bind (wpAny_isInstance (T := "StopIteration") (b := true) ⟨o, ho, hc⟩ isSubtype_stop ?_)
  exact wpAny_pure (hQ _ he')
end
def Itet (K : PySem.W.Frag) (a : Addr) : It :=
  ⟨fun i H => ∃ (xs : List V) (x : V), SqT K H a xs ∧ xs[i]? = some x, fun i H v H' => ∃ T x, v = .ref T ∧ H T = none ∧ H' = upd H T (.tup [.int (i : Nat), x]) ∧ ∀ xs, SqT K H a xs → xs[i]? = some x, fun i H => ∃ xs : List V, SqT K H a xs ∧ xs.length ≤ i⟩
theorem turn_enumT {P : Program} {w : World} {K : PySem.W.Frag} {elts : List Expr} {kk : Nat} {tpos : Pos} (a e it : Addr) (hai : a ≠ it) :
    Turn P w K (.Tuple elts kk tpos) (Itet K a) [e, it] e (fun i h => (∃ old, IsEnum h e it ((i : Nat) : Int) old) ∧ h.IsTupleIter it a i ∧ e ≠ it ∧ e ≠ a) where
  mem := by simp
  obj := fun i h st b hb => by
    obtain ⟨⟨old, he⟩, ⟨o, ho, hc, hd⟩, _⟩ := st
    have e' : b = e ∨ b = it := by simpa using hb
    rcases e' with z | z
    · rw [z]; exact ⟨_, he, fun v q => nomatch q⟩
    · rw [z]; exact ⟨o, ho, fun v q => by rw [hd] at q; cases q⟩
  keep := fun i h h' st k => let ⟨⟨old, he⟩, hi, hne⟩ := st; ⟨⟨old, k e (by simp) _ he⟩, hi.at fun o q => k it (by simp) o q, hne⟩
  item := by
    intro X hP hw hK hc i pins s σ H E I hf st hg
    subst hP hw hK
    obtain ⟨⟨old, he⟩, hit, hne, hea⟩ := st
    obtain ⟨xs, x, hq, hx⟩ := hg
    obtain ⟨its, rv, p, hz⟩ := I.tuple hq
    obtain ⟨u, hu, ru⟩ := rv.get hx
    have hel : e < s.heap.objs.size := Heap.lt_size he
    have hil : it < s.heap.objs.size := by obtain ⟨_, q, _⟩ := hit; exact Heap.lt_size q
    have hlt : i < its.toArray.size := by
      have z1 := (List.getElem?_eq_some_iff.mp hu).1
      rw [List.size_toArray]
      exact z1
    refine wpAny_pyNext_enum_itemD (Draws.tuple (prog := X.prog) (w := X.w) (A := X.A.in1) (I.ok.hd hc) it a hai its.toArray) he ⟨hit, p⟩ hlt hne (by simp; exact ⟨hne, hea⟩) fun x' h' tk hP' ho' st' hT hsz hk => ?_
    have ex : x' = u := by
      have z1 : its.toArray[i]? = some u := by simpa using hu
      rw [z1] at hP'
      exact (Option.some.inj hP').symm
    subst ex
    refine ⟨_, rfl, wpAny_letOwnedTupleGo_enum (s := { s with heap := h', toks := tk + 1 }) ho' fun h'' he' sb => ?_⟩
    have hT2 : h''.get? s.heap.objs.size = some { cls := .type "tuple", data := .seq #[.int i tk, x'] } := (sb.2 _ (Nat.ne_of_gt hel)).trans hT
    have new : ObjOk X.prog X.w (upd H s.heap.objs.size (.tup [.int (i : Nat), x])) h'' s.heap.objs.size (.tup [.int (i : Nat), x]) :=
      ⟨by show 2 ≤ sizeLine; decide, [.int i tk, x'], .cons ⟨_, rfl⟩ (.cons ru .nil), ⟨_, hT2, rfl, _, rfl⟩⟩
    have I1 : Inv X pins σ (upd H s.heap.objs.size (.tup [.int (i : Nat), x])) { s with heap := h'', toks := tk + 1 } :=
      I.turnedNew (ch := [e, it]) (fun b ob hb q => (sb.2 b (fun z => hb (by simp [z]))).trans (hk b ob (fun z => hb (by simp [z])) (fun z => hb (by simp [z])) q)) hf (Nat.le_refl _) new
    refine ⟨.ref s.heap.objs.size, _, I1, rfl, ⟨_, x, rfl, I.hok.fresh (Nat.le_refl _), rfl, fun ys hy => by rw [I.tuple_inj hy hq]; exact hx⟩, ⟨⟨x', ?_⟩, st'.1.at fun o q => (sb.2 it (Ne.symm hne)).trans q, hne, hea⟩, fun b hb => ?_⟩
    · have e1 : ((i + 1 : Nat) : Int) = (i : Int) + 1 := by omega
      rw [e1]; exact he'
    · have hb' : b < s.heap.objs.size := by
        have e' : b = e ∨ b = it := by simpa using hb
        rcases e' with z | z
        · rw [z]; exact hel
        · rw [z]; exact hil
      rw [upd_ne (Nat.ne_of_lt hb')]
      exact (hf b hb).1
  done := by
    intro X hP hw hK hc i pins s σ H E I hf st hg
    subst hP hw hK
    obtain ⟨⟨old, he⟩, hit, hne, hea⟩ := st
    obtain ⟨xs, hq, hx⟩ := hg
    obtain ⟨its, rv, p, hz⟩ := I.tuple hq
    obtain ⟨f0, f1, f2, f3, f4, f5⟩ := hf it (by simp)
    have hl := rv.length
    exact wpAny_pyNext_enumT_end (I.ok.hd hc) he hit p (by simp; omega) fun h' eb => ⟨rfl, I.turned (t' := s.toks) (fun b o hb q => eb b o hb q) f0 f1 f3 f4 f5⟩
  self := fun A i s Q E st h => let ⟨⟨_, he⟩, _⟩ := st; wpAny_pyIter_enum he h
def iEnumT (K : PySem.W.Frag) (ta : TA) : TI := fun σ H R => ta σ H fun vs H1 => ∃ a xs, vs = [.ref a] ∧ SqT K H1 a xs ∧ R (Itet K a) H1
theorem pi_enumT {X : Cx} {e : Expr} {ta : TA} {p pos tpos : Pos} {elts : List Expr} {kk : Nat} (hg : Gl X "enumerate") (hm : X.mg "enumerate" = none) (ha : PA X [e] ta) (hs : starEach [e] X.env = [(false, eval e X.env)] := by rfl) :
    PI X (.Tuple elts kk tpos) (.Call (.Name "enumerate" p) [e] [] pos) (iEnumT X.K ta) := by
  refine ⟨fun pins s σ H R I h => ?_⟩
  refine Call_ (ld_blt I hg hm boot_enumerate (PyProof.Rows.callWith_type1 (thn (ha.run pos pins s σ H _ I h) fun us s1 ⟨vs, H1, I1, r1, q1⟩ => ?_) hs rfl))
  obtain ⟨a, xs, ex, hq, q⟩ := q1
  subst ex
  cases r1 with
  | cons r rr =>
    cases rr
    cases r
    obtain ⟨its, rv, p', hz⟩ := I1.tuple hq
    have hal : a < s1.heap.objs.size := p'.lt
    refine call_enumerate_tup p' fun h' he hit hsz hk => wpAny_pyIter_enum he ?_
    have I2 : Inv X pins σ H1 { s1 with heap := h' } := I1.kept (t' := s1.toks) hk
    refine ⟨s1.heap.objs.size + 1, [s1.heap.objs.size + 1, s1.heap.objs.size], _, _, H1, rfl, I2, turn_enumT a (s1.heap.objs.size + 1) s1.heap.objs.size (Nat.ne_of_lt hal), ⟨⟨.none, he⟩, hit, Nat.succ_ne_self _, Nat.ne_of_gt (Nat.lt_succ_of_lt hal)⟩, fun b hb => ?_, q⟩
    have e' : b = s1.heap.objs.size + 1 ∨ b = s1.heap.objs.size := by simpa using hb
    have hle : s1.heap.objs.size ≤ b := by
      rcases e' with z | z
      · rw [z]; exact Nat.le_add_right _ _
      · rw [z]; exact Nat.le_refl _
    exact I1.fpOk hle (I1.hok.fresh hle)
theorem lc_enumT {K : PySem.W.Frag} {a : Addr} {xs : List V} {g : TG} {tt : TT} {te : TE} {vs : List Nat} {σ : L2.St} {H1 : Hp} {D : Addr} {Qd : Hp → Prop} (Pv : Nat → Hp → Prop) (h0 : Pv 0 (upd H1 D (.lst []))) (hl : ∀ i H, i ≤ xs.length → Pv i H → SqT K H a xs)
    (hs : ∀ i x T H, xs[i]? = some x → Pv i H → H T = none → g (.ref T) (wipe σ vs) (upd H T (.tup [.int (i : Nat), x])) fun σ2 H2 => wipe σ2 vs = wipe σ vs ∧ tt σ2 H2 fun b H3 =>
      if b = true then te σ2 H3 fun y H4 => ∃ acc, H4 D = some (.lst acc) ∧ acc.length < sizeLine ∧ Pv (i + 1) (upd H4 D (.lst (acc ++ [y]))) else Pv (i + 1) H3) (hd : ∀ H, Pv xs.length H → Qd H) :
    ∃ W : Nat → Nat → Hp → Prop, (∃ m, W 0 m (upd H1 D (.lst []))) ∧ ∀ i m H, W i m H →
      ((Itet K a).stop i H ∧ Qd H) ∨ ((Itet K a).go i H ∧ ∃ Nx : Hp → Prop, (∀ H', Nx H' → ∃ m', m' < m ∧ W (i + 1) m' H') ∧ ∀ x H', (Itet K a).yld i H x H' → g x (wipe σ vs) H' fun σ2 H2 => wipe σ2 vs = wipe σ vs ∧ tt σ2 H2 fun b H3 =>
        if b = true then te σ2 H3 fun y H4 => ∃ acc, H4 D = some (.lst acc) ∧ acc.length < sizeLine ∧ Nx (upd H4 D (.lst (acc ++ [y]))) else Nx H3) := by
  refine ⟨fun i m H => m = xs.length - i ∧ i ≤ xs.length ∧ Pv i H, ⟨xs.length, by simp, Nat.zero_le _, h0⟩, ?_⟩
  rintro i m H ⟨rfl, hi, p⟩
  have q := hl i H hi p
  by_cases hlt : i < xs.length
  · refine .inr ⟨⟨xs, xs[i], q, by simp [hlt]⟩, Pv (i + 1), fun H' p' => ⟨xs.length - (i + 1), by omega, rfl, hlt, p'⟩, fun x H' y => ?_⟩
    obtain ⟨T, x', rfl, nT, rfl, y⟩ := y
    exact hs i x' T H (y xs q) p nT
  · have e : i = xs.length := by omega
    subst e
    exact .inl ⟨⟨xs, q, Nat.le_refl _⟩, hd H p⟩
end Pk

set_option maxRecDepth 100000
set_option maxHeartbeats 1000000
namespace Pk
open PySem PySem.Spec PyProof.Rows L2

/-! ### data: an atom, some list, a tuple of data -/
inductive D where
  | at (v : V)
  | lst
  | tup (l : List D)
def flat4 : V → Bool
  | .non => true
  | .bl _ => true
  | .int _ => true
  | .str _ => true
  | _ => false
/-- a tuple that stands: tracked, or of the written part -/
def TupAt (K : PySem.W.Frag) (H : Hp) (a : Addr) (xs : List V) : Prop :=
  H a = some (.tup xs) ∨ ∃ (o : Obj) (its : Array Value) (n : Nat), K.lookup a = some o ∧ o.cls = .type "tuple" ∧ o.data = .seq its n ∧ its.size ≤ sizeLine ∧ Vals xs its.toList
theorem TupAt.sq {K : PySem.W.Frag} {H : Hp} {a : Addr} {xs : List V} (h : TupAt K H a xs) : SqT K H a xs := by
  rcases h with h | h
  · exact .inl (.inl h)
  · exact .inr h
theorem TupAt.same {K : PySem.W.Frag} {H H' : Hp} {a : Addr} {xs : List V} (h : TupAt K H a xs) (s : Same H H') : TupAt K H' a xs := by
  rcases h with h | h
  · exact .inl (s _ _ h)
  · exact .inr h
mutual
inductive Rep (K : PySem.W.Frag) (H : Hp) : V → D → Prop where
  | at {v : V} (h : flat4 v = true) : Rep K H v (.at v)
  | lst {a : Addr} {xs : List V} (h : H a = some (.lst xs)) : Rep K H (.ref a) .lst
  | tup {a : Addr} {xs : List V} {ts : List D} (h : TupAt K H a xs) (r : Reps K H xs ts) : Rep K H (.ref a) (.tup ts)
inductive Reps (K : PySem.W.Frag) (H : Hp) : List V → List D → Prop where
  | nil : Reps K H [] []
  | cons {x : V} {t : D} {xs : List V} {ts : List D} (h : Rep K H x t) (r : Reps K H xs ts) : Reps K H (x :: xs) (t :: ts)
end
theorem Rep.tup' {K : PySem.W.Frag} {H : Hp} {a : Addr} {xs : List V} {ts : List D} (h : H a = some (.tup xs)) (r : Reps K H xs ts) : Rep K H (.ref a) (.tup ts) := .tup (.inl h) r
/-- tuples stand as they are, lists stay lists -/
structure Kx (H H' : Hp) : Prop where
  t : ∀ a xs, H a = some (.tup xs) → H' a = some (.tup xs)
  l : ∀ a xs, H a = some (.lst xs) → ∃ ys, H' a = some (.lst ys)
theorem Kx.refl (H : Hp) : Kx H H := ⟨fun _ _ h => h, fun _ xs h => ⟨xs, h⟩⟩
theorem Kx.trans {H H1 H2 : Hp} (a : Kx H H1) (b : Kx H1 H2) : Kx H H2 := ⟨fun q xs h => b.t q xs (a.t q xs h), fun q xs h => let ⟨ys, h1⟩ := a.l q xs h; b.l q ys h1⟩
theorem kx_same {H H' : Hp} (s : Same H H') : Kx H H' := ⟨fun a xs h => s _ _ h, fun a xs h => ⟨xs, s _ _ h⟩⟩
theorem same_new {H : Hp} {p : Addr} (h : H p = none) (o : HO) : Same H (upd H p o) := fun b u q => by rw [upd_ne (ne_of_none q h)]; exact q
theorem kx_new {H : Hp} {p : Addr} (h : H p = none) (o : HO) : Kx H (upd H p o) := kx_same (same_new h o)
theorem kx_list {H : Hp} {p : Addr} {xs : List V} (h : H p = some (.lst xs)) (ys : List V) : Kx H (upd H p (.lst ys)) := by
  refine ⟨fun a zs e => ?_, fun a zs e => ?_⟩
  · rw [upd_ne (ne_of e h (by intro q; cases q))]
    exact e
  · by_cases ha : a = p
    · subst ha
      exact ⟨ys, upd_same⟩
    · rw [upd_ne ha]
      exact ⟨zs, e⟩
/-- all but what stands at b is as it was -/
def SB (b : Addr) (H H' : Hp) : Prop := ∀ q o, q ≠ b → H q = some o → H' q = some o
theorem SB.refl (b : Addr) (H : Hp) : SB b H H := fun _ _ _ h => h
theorem SB.trans {b : Addr} {H H1 H2 : Hp} (x : SB b H H1) (y : SB b H1 H2) : SB b H H2 := fun q o n h => y q o n (x q o n h)
theorem sb_same {b : Addr} {H H' : Hp} (s : Same H H') : SB b H H' := fun q o _ h => s q o h
theorem sb_upd {b : Addr} {H : Hp} (o : HO) : SB b H (upd H b o) := fun q u n h => by rw [upd_ne n]; exact h
theorem sb_new {b : Addr} {H H' : Hp} (n : H b = none) (s : SB b H H') : Same H H' := fun q o h => s q o (ne_of_none h n) h
theorem sb_kx {b : Addr} {H H' : Hp} {xs ys : List V} (s : SB b H H') (h : H b = some (.lst xs)) (h' : H' b = some (.lst ys)) : Kx H H' := by
  refine ⟨fun a zs e => s _ _ (ne_of e h (by intro q; cases q)) e, fun a zs e => ?_⟩
  by_cases ha : a = b
  · subst ha
    exact ⟨ys, h'⟩
  · exact ⟨zs, s _ _ ha e⟩
theorem TupAt.kx {K : PySem.W.Frag} {H H' : Hp} {a : Addr} {xs : List V} (h : TupAt K H a xs) (k : Kx H H') : TupAt K H' a xs := by
  rcases h with h | h
  · exact .inl (k.t _ _ h)
  · exact .inr h
mutual
theorem Rep.mono {K : PySem.W.Frag} {H H' : Hp} (k : Kx H H') : ∀ {v : V} {d : D}, Rep K H v d → Rep K H' v d
  | _, _, .at h => .at h
  | _, _, .lst h => let ⟨_, h'⟩ := k.l _ _ h; .lst h'
  | _, _, .tup h r => .tup (h.kx k) (Reps.mono k r)
theorem Reps.mono {K : PySem.W.Frag} {H H' : Hp} (k : Kx H H') : ∀ {xs : List V} {ds : List D}, Reps K H xs ds → Reps K H' xs ds
  | _, _, .nil => .nil
  | _, _, .cons h r => .cons (Rep.mono k h) (Reps.mono k r)
end
section
variable {K : PySem.W.Frag} {H : Hp}
theorem Rep.inv {v : V} {ts : List D} (r : Rep K H v (.tup ts)) : ∃ a xs, v = .ref a ∧ TupAt K H a xs ∧ Reps K H xs ts := by
  cases r with
  | tup h r => exact ⟨_, _, rfl, h, r⟩
theorem Rep.inva {v w : V} (r : Rep K H v (.at w)) : v = w ∧ flat4 v = true := by
  cases r with
  | «at» h => exact ⟨rfl, h⟩
theorem Reps.length : ∀ {xs : List V} {ds : List D}, Reps K H xs ds → xs.length = ds.length
  | _, _, .nil => rfl
  | _, _, .cons _ r => congrArg Nat.succ r.length
theorem Reps.get : ∀ {xs : List V} {ds : List D} {i : Nat} {x : V}, Reps K H xs ds → xs[i]? = some x → ∃ d, ds[i]? = some d ∧ Rep K H x d
  | _, _, _, _, .nil, e => by simp at e
  | _, _, 0, _, .cons h _, e => by simp at e; subst e; exact ⟨_, rfl, h⟩
  | _, _, i + 1, x, .cons _ r, e => by
    obtain ⟨d, h1, h2⟩ := Reps.get (i := i) (x := x) r (by simpa using e)
    exact ⟨d, by simpa using h1, h2⟩
theorem Reps.getD : ∀ {xs : List V} {ds : List D} {i : Nat} {d : D}, Reps K H xs ds → ds[i]? = some d → ∃ x, xs[i]? = some x ∧ Rep K H x d := fun {xs ds i d} r e => by
  have hl := r.length
  have hi : i < ds.length := (List.getElem?_eq_some_iff.mp e).1
  obtain ⟨d', h1, h2⟩ := r.get (i := i) (x := xs[i]'(by omega)) (by first | (simp; done) | (simp; omega))
  rw [e] at h1
  cases h1
  exact ⟨_, by first | (simp; done) | (simp; omega), h2⟩
theorem Reps.append : ∀ {xs ys : List V} {ds es : List D}, Reps K H xs ds → Reps K H ys es → Reps K H (xs ++ ys) (ds ++ es)
  | _, _, _, _, .nil, s => s
  | _, _, _, _, .cons h r, s => .cons h (Reps.append r s)
theorem Reps.one {x : V} {d : D} (h : Rep K H x d) : Reps K H [x] [d] := .cons h .nil
theorem Reps.take : ∀ {xs : List V} {ds : List D} (n : Nat), Reps K H xs ds → Reps K H (xs.take n) (ds.take n)
  | _, _, 0, _ => .nil
  | _, _, _ + 1, .nil => .nil
  | _, _, n + 1, .cons h r => .cons h (Reps.take n r)
theorem Reps.drop : ∀ {xs : List V} {ds : List D} (n : Nat), Reps K H xs ds → Reps K H (xs.drop n) (ds.drop n)
  | _, _, 0, r => r
  | _, _, _ + 1, .nil => .nil
  | _, _, n + 1, .cons _ r => Reps.drop n r
theorem Reps.reverse : ∀ {xs : List V} {ds : List D}, Reps K H xs ds → Reps K H xs.reverse ds.reverse
  | _, _, .nil => .nil
  | _, _, .cons h r => by
    rw [List.reverse_cons, List.reverse_cons]
    exact Reps.append (Reps.reverse r) (.one h)
/-- the last one, and those before it -/
theorem Reps.last {xs : List V} {ds : List D} (r : Reps K H xs ds) (h : xs ≠ []) : ∃ x d es, xs[xs.length - 1]? = some x ∧ ds = es ++ [d] ∧ Rep K H x d ∧ Reps K H xs.dropLast es := by
  have hl := r.length
  have hp : 0 < xs.length := List.length_pos_iff.mpr h
  obtain ⟨d, h1, h2⟩ := r.get (i := xs.length - 1) (x := xs[xs.length - 1]'(by omega)) (by first | (simp; done) | (simp; omega))
  refine ⟨_, d, ds.dropLast, by first | (simp; done) | (simp; omega), ?_, h2, ?_⟩
  · have hd : ds ≠ [] := fun e => by
      rw [e] at hl
      simp at hl
      exact h hl
    have q : ds.getLast hd = d := by
      rw [List.getLast_eq_getElem]
      rw [hl, List.getElem?_eq_getElem (by omega)] at h1
      exact Option.some.inj h1
    rw [← q]
    exact (List.dropLast_concat_getLast hd).symm
  · rw [List.dropLast_eq_take, List.dropLast_eq_take, hl]
    exact r.take _
end
/-! ### kinds, sizes, depths -/
mutual
def isK : D → Bool
  | .tup ts => isKs ts
  | _ => false
def isKs : List D → Bool
  | [] => true
  | t :: r => isK t && isKs r
end
mutual
def sz : D → Nat
  | .tup ts => szs ts + 1
  | _ => 1
def szs : List D → Nat
  | [] => 0
  | t :: r => sz t + szs r
end
mutual
def dep : D → Nat
  | .tup ts => deps ts
  | _ => 0
def deps : List D → Nat
  | [] => 0
  | t :: r => max (dep t + 1) (deps r)
end
theorem isKs_append : ∀ (a b : List D), isKs (a ++ b) = (isKs a && isKs b)
  | [], b => by simp [isKs]
  | t :: r, b => by
    show (isK t && isKs (r ++ b)) = ((isK t && isKs r) && isKs b)
    rw [isKs_append r b, Bool.and_assoc]
theorem szs_append : ∀ (a b : List D), szs (a ++ b) = szs a + szs b
  | [], b => by simp [szs]
  | t :: r, b => by
    show sz t + szs (r ++ b) = (sz t + szs r) + szs b
    rw [szs_append r b]
    omega
theorem deps_append : ∀ (a b : List D), deps (a ++ b) = max (deps a) (deps b)
  | [], b => by simp [deps]
  | t :: r, b => by
    show max (dep t + 1) (deps (r ++ b)) = max (max (dep t + 1) (deps r)) (deps b)
    rw [deps_append r b]
    omega
theorem sz_pos : ∀ d : D, 0 < sz d
  | .tup _ => Nat.succ_pos _
  | .at _ => Nat.one_pos
  | .lst => Nat.one_pos
theorem len_szs : ∀ l : List D, l.length ≤ szs l
  | [] => Nat.le_refl _
  | t :: r => by
    have h1 := sz_pos t
    have h2 := len_szs r
    show r.length + 1 ≤ sz t + szs r
    omega
theorem sz_mem : ∀ {l : List D} {d : D}, d ∈ l → sz d ≤ szs l
  | t :: r, d, h => by
    show sz d ≤ sz t + szs r
    rcases List.mem_cons.mp h with e | h
    · rw [e]
      omega
    · have := sz_mem h
      omega
theorem dep_mem : ∀ {l : List D} {d : D}, d ∈ l → dep d + 1 ≤ deps l
  | t :: r, d, h => by
    show dep d + 1 ≤ max (dep t + 1) (deps r)
    rcases List.mem_cons.mp h with e | h
    · rw [e]
      omega
    · have := dep_mem h
      omega
theorem isK_mem : ∀ {l : List D}, isKs l = true → ∀ {d : D}, d ∈ l → isK d = true
  | t :: r, hk, d, h => by
    have hk' : (isK t && isKs r) = true := hk
    rw [Bool.and_eq_true] at hk'
    rcases List.mem_cons.mp h with e | h
    · rw [e]
      exact hk'.1
    · exact isK_mem hk'.2 h
theorem isK_inv {d : D} (h : isK d = true) : ∃ ts, d = .tup ts ∧ isKs ts = true := by
  cases d with
  | tup ts => exact ⟨ts, rfl, h⟩
  | «at» v => cases h
  | lst => cases h
theorem isKs_all : ∀ (l : List D), isKs l = l.all isK
  | [] => rfl
  | t :: r => by
    show (isK t && isKs r) = (isK t && r.all isK)
    rw [isKs_all r]
theorem dep_lt_sz : ∀ d : D, dep d < sz d := by
  have key : ∀ n : Nat, (∀ d : D, sz d ≤ n → dep d < sz d) := by
    intro n
    induction n with
    | zero => intro d h; have := sz_pos d; omega
    | succ n ih =>
      intro d h
      cases d with
      | «at» v => exact Nat.one_pos
      | lst => exact Nat.one_pos
      | tup ts =>
        show deps ts < szs ts + 1
        have h' : szs ts + 1 ≤ n + 1 := h
        have gen : ∀ l : List D, szs l ≤ n → deps l ≤ szs l := by
          intro l
          induction l with
          | nil => intro _; exact Nat.le_refl _
          | cons t r ih2 =>
            intro hl
            have hl' : sz t + szs r ≤ n := hl
            have a1 := ih t (by omega)
            have a2 := ih2 (by omega)
            show max (dep t + 1) (deps r) ≤ sz t + szs r
            omega
        have := gen ts (by omega)
        omega
  exact fun d => key (sz d) d (Nat.le_refl _)
/-! ### data as the library's == reads it -/
mutual
def toPy : D → PyData
  | .at .non => .none
  | .at (.bl b) => .bool b
  | .at (.int i) => .int i
  | .at (.str x) => .str x
  | .at _ => .none
  | .lst => .none
  | .tup ts => .tuple (toPys ts)
def toPys : List D → List PyData
  | [] => []
  | t :: r => toPy t :: toPys r
end
mutual
theorem dp_kind {K : PySem.W.Frag} {H : Hp} : ∀ {v : V} {d : D}, Rep K H v d → isK d = true → Dp K H v (toPy d)
  | _, _, .at _, k => by cases k
  | _, _, .lst _, k => by cases k
  | _, _, .tup h r, k => .tup h.sq (dp_kinds r k)
theorem dp_kinds {K : PySem.W.Frag} {H : Hp} : ∀ {xs : List V} {ds : List D}, Reps K H xs ds → isKs ds = true → DpAll K H xs (toPys ds)
  | _, _, .nil, _ => .nil
  | _, _, .cons h r, k => by
    have k' := Bool.and_eq_true_iff.mp k
    exact .cons (dp_kind h k'.1) (dp_kinds r k'.2)
end
mutual
theorem lay_kind : ∀ {d : D}, isK d = true → PyData.canLay0 (toPy d) = true
  | .at _, k => by cases k
  | .lst, k => by cases k
  | .tup ts, k => lay_kinds (l := ts) k
theorem lay_kinds : ∀ {l : List D}, isKs l = true → PyData.canLayAll0 (toPys l) = true
  | [], _ => rfl
  | t :: r, k => by
    have k' := Bool.and_eq_true_iff.mp k
    show (PyData.canLay0 (toPy t) && PyData.canLayAll0 (toPys r)) = true
    rw [lay_kind k'.1, lay_kinds k'.2]
    rfl
end
mutual
theorem depth_kind : ∀ {d : D}, isK d = true → PyData.depth (toPy d) ≤ dep d + 1
  | .at _, k => by cases k
  | .lst, k => by cases k
  | .tup ts, k => by
    have := depth_kinds (l := ts) k
    show PyData.depthAll (toPys ts) + 1 ≤ deps ts + 1
    omega
theorem depth_kinds : ∀ {l : List D}, isKs l = true → PyData.depthAll (toPys l) ≤ deps l
  | [], _ => Nat.le_refl _
  | t :: r, k => by
    have k' := Bool.and_eq_true_iff.mp k
    have h1 := depth_kind k'.1
    have h2 := depth_kinds k'.2
    show max (PyData.depth (toPy t)) (PyData.depthAll (toPys r)) ≤ max (dep t + 1) (deps r)
    omega
end
theorem shaped_kind {d : D} (k : isK d = true) (h : dep d ≤ 60) : SeqAt.shaped (toPy d) = true := by
  unfold SeqAt.shaped
  have := depth_kind k
  rw [lay_kind k, decide_eq_true (by omega)]
  rfl
/-! ### operators on tuples that stand, one way on -/
section
variable {X : Cx}
def rCatP (K : PySem.W.Frag) : R2 := fun x y H Q => ∃ a b xs ys, x = .ref a ∧ y = .ref b ∧ TupAt K H a xs ∧ TupAt K H b ys ∧ xs.length + ys.length ≤ sizeLine ∧ ∀ (c : Addr) (H' : Hp), Same H H' → TupAt K H' c (xs ++ ys) → Q (.ref c) H'
theorem op_catP : OpR X (binaryOp .Add) (rCatP X.K) := by
  intro pins s σ H x y v u Q I rx ry h
  obtain ⟨a, b, xs, ys, rfl, rfl, ha, hb, hz, q⟩ := h
  refine op_catA pins s σ H _ _ v u Q I rx ry ⟨a, b, xs, ys, rfl, rfl, ha.sq, hb.sq, hz, fun e => ?_, fun _ e => ?_, fun _ _ p np => ?_⟩
  · subst e
    exact q b H (Same.refl H) hb
  · subst e
    exact q a H (Same.refl H) (by rw [List.append_nil]; exact ha)
  · exact q p _ (fun c o e => by rw [upd_ne (ne_of_none e np)]; exact e) (.inl upd_same)
def rSlP (K : PySem.W.Frag) : V → Option Int → Option Int → Hp → VK → Prop := fun x lo hi H Q => ∃ a xs, x = .ref a ∧ TupAt K H a xs ∧ ∀ (c : Addr) (H' : Hp), Same H H' → TupAt K H' c (cutV xs lo hi) → Q (.ref c) H'
theorem sl_tupP : SlR X (rSlP X.K) := by
  intro pins s σ H x v vl vu lo hi sl Q I rx hs pl pu h
  obtain ⟨a, xs, rfl, hx, q⟩ := h
  refine sl_tupA pins s σ H _ v vl vu lo hi sl Q I rx hs pl pu ⟨a, xs, rfl, hx.sq, fun z => ?_, fun _ p np => ?_⟩
  · exact q a H (Same.refl H) (by rw [cutV_whole z]; exact hx)
  · exact q p _ (fun c o e => by rw [upd_ne (ne_of_none e np)]; exact e) (.inl upd_same)
end
end Pk

set_option maxRecDepth 100000
set_option maxHeartbeats 1000000
/-! a list of data whose items compare, place by place, as far as they are asked: sorted -/
namespace Pk
open PySem PySem.Spec PyProof.Rows L2 PySem.SeqAt

/-! ### a < b of two tuples: what stands behind the first place that differs is never asked -/
section
open AutoSeq1 (wpAny_loadPart')
open MeetsSeq MeetsSeq2 MeetsSeq3 SeqRoads2
theorem tupLt_first (p q : Addr) (us ws : Array Value) (np nq : Nat) (dp dq : Option Addr) (sp sq : Array (Option Value)) (same less : Nat → Bool) :
    Meets (Builtin.«tuple.__lt__» ⟨[.ref p, .ref q], []⟩) (fun A R s =>
      s.heap.get? p = some { cls := .type "tuple", dict := dp, data := .seq us np, slots := sp } ∧
      s.heap.get? q = some { cls := .type "tuple", dict := dq, data := .seq ws nq, slots := sq } ∧
      (∀ j (a1 : j < us.size) (a2 : j < ws.size), EqAt A.in1 s us[j] ws[j] (same j)) ∧
      (∀ j (a1 : j < us.size) (a2 : j < ws.size), (∀ m, m < j → same m = true) → same j = false → RcLt A.in1 s us[j] ws[j] (less j)) ∧
      R (.ok (.ret (.bool (firstLt same less (decide (us.size < ws.size)) (List.range (min us.size ws.size)))))) s) :=
  .of_wp fun prog w A R s all => by
    obtain ⟨h0, g0, d0, t0, o0⟩ := s
    obtain ⟨gp, gq, heq, hlt, hR⟩ := all
    have tt := AutoSeq1.sub_tuple_tuple
    have lz : (us.toList.zip ws.toList).length = min us.size ws.size := by simp
    wp_walk using wpAny_loadPart' gp, wpAny_loadPart' gq, wpAny_forIn_list _ (fun rest c s' => c.1 = none ∧ s' = ⟨h0, g0, d0, t0, o0⟩ ∧ ∃ k, rest = (us.toList.zip ws.toList).drop k ∧ (∀ m, m < k → same m = true) ∧
      R (.ok (.ret (.bool (firstLt same less (decide (us.size < ws.size)) ((List.range (min us.size ws.size)).drop k))))) ⟨h0, g0, d0, t0, o0⟩) _
    case turn =>
      rintro ⟨u, v⟩ rest c s' ⟨hc, rfl, k, hk, hs, hR'⟩
      have kz : k < (us.toList.zip ws.toList).length := by
        rcases Nat.lt_or_ge k (us.toList.zip ws.toList).length with z | z
        · exact z
        · rw [List.drop_of_length_le z] at hk
          cases hk
      have km : k < min us.size ws.size := by omega
      have k1 : k < us.size := by omega
      have k2 : k < ws.size := by omega
      rw [List.drop_eq_getElem_cons kz] at hk
      obtain ⟨huv, hrest⟩ := List.cons.inj hk
      obtain rfl : u = us[k] := by simpa using congrArg Prod.fst huv
      obtain rfl : v = ws[k] := by simpa using congrArg Prod.snd huv
      have hr : (List.range (min us.size ws.size)).drop k = k :: (List.range (min us.size ws.size)).drop (k + 1) := by
        rw [List.drop_eq_getElem_cons (by simpa using km)]
        simp
      rw [hr] at hR'
      refine wpAny_bind (heq k k1 k2 prog w _ _ ?_)
      cases sk : same k with
      | true =>
        rw [firstLt_yes sk] at hR'
        wp_walk
        refine ⟨rfl, rfl, k + 1, hrest, fun m hm => ?_, hR'⟩
        by_cases e : m = k
        · rw [e]
          exact sk
        · exact hs m (by omega)
      | false =>
        rw [firstLt_no sk] at hR'
        rw [if_pos (show (!false) = true from rfl)]
        refine wpAny_bind (wpAny_rule ?_)
        refine wpAny_bind (hlt k k1 k2 hs sk prog w _ _ ?_)
        wp_walk
        exact ⟨_, rfl, hR'⟩
    case fin =>
      rintro ⟨c1, c2⟩ s' ⟨hc, rfl, k, hk, hs, hR'⟩
      simp only at hc
      subst hc
      have kz : min us.size ws.size ≤ k := by
        rcases Nat.lt_or_ge k (us.toList.zip ws.toList).length with z | z
        · rw [List.drop_eq_getElem_cons z] at hk
          cases hk
        · omega
      rw [List.drop_of_length_le (by simpa using kz)] at hR'
      wp_walk
      exact ⟨_, rfl, by simpa [Builtin.Tuple.tupleCompareSizes, firstLt] using hR'⟩
    case h =>
      exact ⟨rfl, rfl, 0, rfl, fun m hm => absurd hm (Nat.not_lt_zero m), by simpa using hR⟩
end
theorem rcLt_first {A : Around} {s : Shared} {p q : Addr} {us ws : Array Value} {same less : Nat → Bool} (hp : s.heap.IsTuple p us) (hq : s.heap.IsTuple q ws) (hu : A.units < cLine)
    (heq : ∀ j (a1 : j < us.size) (a2 : j < ws.size), EqAt A.in1 s us[j] ws[j] (same j)) (hlt : ∀ j (a1 : j < us.size) (a2 : j < ws.size), (∀ m, m < j → same m = true) → same j = false → RcLt A.in1 s us[j] ws[j] (less j)) :
    RcLt A s (.ref p) (.ref q) (firstLt same less (decide (us.size < ws.size)) (List.range (min us.size ws.size))) := by
  intro prog w E Q hQ
  obtain ⟨⟨c1, d1, x1, l1⟩, g1, e1, n1, y1⟩ := id hp
  obtain ⟨⟨c2, d2, x2, l2⟩, g2, e2, n2, y2⟩ := id hq
  simp only at e1 y1 e2 y2
  subst e1 y1 e2 y2
  refine richCompare_meets_room (op := .Lt) ⟨_, g1, rfl⟩ ⟨_, g2, rfl⟩ F.slot_tuple_lt F.entry_tuple_lt (F.args_tuple_lt_2 _ _) (tupLt_first p q us ws n1 n2 d1 d2 l1 l2 same less) ⟨g1, g2, heq, hlt, ?_⟩ hu
  show Value.bool _ ≠ Value.notImplemented ∧ Q _ s
  exact ⟨(fun z => nomatch z), hQ⟩

/-! ### data that compare as far as they are asked -/
mutual
def cpb : PyData → PyData → Bool
  | .none, .none => true
  | .bool _, .bool _ => true
  | .int _, .int _ => true
  | .str _, .str _ => true
  | .tuple xs, .tuple ys => cpbs xs ys
  | _, _ => false
def cpbs : List PyData → List PyData → Bool
  | x :: xs, y :: ys => cpb x y && (PyData.eqv x y == false || cpbs xs ys)
  | [], _ => true
  | _ :: _, [] => true
end
mutual
def dlt : PyData → PyData → Bool
  | .bool x, .bool y => decide (b2i x < b2i y)
  | .int x, .int y => decide (x < y)
  | .str x, .str y => decide (x.cps.toList < y.cps.toList)
  | .tuple xs, .tuple ys => dlts xs ys
  | _, _ => false
def dlts : List PyData → List PyData → Bool
  | x :: xs, y :: ys => if PyData.eqv x y = true then dlts xs ys else dlt x y
  | [], [] => false
  | [], _ :: _ => true
  | _ :: _, [] => false
end
theorem cpbs_cons {x y : PyData} {xs ys : List PyData} (h : cpbs (x :: xs) (y :: ys) = true) : cpb x y = true ∧ (PyData.eqv x y = true → cpbs xs ys = true) := by
  rw [cpbs] at h
  have k := Bool.and_eq_true_iff.mp h
  refine ⟨k.1, fun e => ?_⟩
  have k2 := k.2
  rw [e] at k2
  exact k2
theorem cpb_none {x y : PyData} (h : cpb x y = true) (e : PyData.eqv x y = false) : x ≠ .none := by
  rintro rfl
  cases y with
  | none => exact absurd e (by simp [PyData.eqv])
  | _ => exact absurd h (by simp [cpb])
theorem firstLt_dlts : ∀ (xs ys : List PyData),
    firstLt (pairEq xs ys) (fun j => dlt (xs.getD j .none) (ys.getD j .none)) (decide (xs.length < ys.length)) (List.range (min xs.length ys.length)) = dlts xs ys
  | [], [] => by simp [firstLt, dlts]
  | [], y :: ys => by simp [firstLt, dlts]
  | x :: xs, [] => by simp [firstLt, dlts]
  | x :: xs, y :: ys => by
    have more := firstLt_dlts xs ys
    have lm : min (x :: xs).length (y :: ys).length = min xs.length ys.length + 1 := by
      simp only [List.length_cons]
      omega
    have ld : decide ((x :: xs).length < (y :: ys).length) = decide (xs.length < ys.length) := by
      simp only [List.length_cons]
      exact decide_eq_decide.mpr (by omega)
    rw [lm, ld, List.range_succ_eq_map, dlts]
    cases hxy : PyData.eqv x y with
    | true =>
      rw [firstLt_yes (show pairEq (x :: xs) (y :: ys) 0 = true from hxy), PySem.W.firstLt_map, if_pos rfl, ← more]
      rfl
    | false =>
      rw [firstLt_no (show pairEq (x :: xs) (y :: ys) 0 = false from hxy), if_neg Bool.false_ne_true]
      rfl
mutual
theorem rcLt_cpb : ∀ (da db : PyData) (A : Around) (s : Shared) (a b : Value) (as bs : List Addr), Reads s.heap a da as → Reads s.heap b db bs → da.plain = true → db.plain = true → cpb da db = true → da ≠ .none →
    A.units + min da.depth db.depth < cLine → RcLt A s a b (dlt da db)
  | .none, _, _, _, _, _, _, _, _, _, _, _, _, no, _ => absurd rfl no
  | .bool x, db, _, _, _, _, _, _, ra, rb, _, _, h, _, _ => by
    cases db with
    | bool y =>
      cases ra
      cases rb
      exact fun prog w E Q q => lt_bool q
    | _ => cases h
  | .int x, db, _, _, _, _, _, _, ra, rb, _, _, h, _, _ => by
    cases db with
    | int y =>
      cases ra
      cases rb
      exact fun prog w E Q q => PyProof.Rows.lt_int q
    | _ => cases h
  | .str x, db, _, _, _, _, _, _, ra, rb, _, _, h, _, _ => by
    cases db with
    | str y =>
      cases ra
      cases rb
      exact fun prog w E Q q => PyProof.Rows.lt_str q
    | _ => cases h
  | .tuple xs, db, A, s, a, b, as, bs, ra, rb, pa, pb, h, _, hu => by
    cases db with
    | tuple ys =>
      have hc : cpbs xs ys = true := h
      cases ra with
      | @tuple l o vs n _ _ e1 e2 e3 e4 =>
        cases rb with
        | @tuple l' o' vs' n' _ _ f1 f2 f3 f4 =>
          have n1 : vs.size = xs.length := by simpa using ReadsAll.length _ _ _ e4
          have n2 : vs'.size = ys.length := by simpa using ReadsAll.length _ _ _ f4
          show RcLt A s (.ref l) (.ref l') (dlts xs ys)
          rw [← firstLt_dlts xs ys, ← n1, ← n2]
          refine rcLt_first ⟨_, e1, e2, _, e3⟩ ⟨_, f1, f2, _, f3⟩ (room_here hu) (fun j j1 j2 => ?_) (fun j j1 j2 hm hj => ?_)
          · have z := eqAt_plainAll xs ys A.in1 s vs.toList vs'.toList _ _ e4 f4 pa pb (room_in hu) j (by simpa using j1) (by simpa using j2)
            simpa using z
          · have z := rcLt_cpbs xs ys A.in1 s vs.toList vs'.toList _ _ e4 f4 pa pb hc (room_in hu) j (by simpa using j1) (by simpa using j2) hm hj
            simpa using z
    | _ => cases h
  | .list _, db, _, _, _, _, _, _, _, _, _, _, h, _, _ => by cases db <;> cases h
  | .dict _, db, _, _, _, _, _, _, _, _, _, _, h, _, _ => by cases db <;> cases h
theorem rcLt_cpbs : ∀ (xs ys : List PyData) (A : Around) (s : Shared) (vs ws : List Value) (as bs : List Addr), ReadsAll s.heap vs xs as → ReadsAll s.heap ws ys bs → PyData.plainAll xs = true → PyData.plainAll ys = true → cpbs xs ys = true →
    A.units + min (PyData.depthAll xs) (PyData.depthAll ys) < cLine → ∀ j (h1 : j < vs.length) (h2 : j < ws.length), (∀ m, m < j → pairEq xs ys m = true) → pairEq xs ys j = false → RcLt A s vs[j] ws[j] (dlt (xs.getD j .none) (ys.getD j .none))
  | [], _, _, _, _, _, _, _, ra, _, _, _, _, _, j, h1, _, _, _ => by
    cases ra
    exact absurd h1 (Nat.not_lt_zero j)
  | _ :: _, [], _, _, _, _, _, _, _, rb, _, _, _, _, j, _, h2, _, _ => by
    cases rb
    exact absurd h2 (Nat.not_lt_zero j)
  | x :: xs, y :: ys, A, s, _, _, _, _, ra, rb, pa, pb, hc, hu, j, h1, h2, hm, hj => by
    have pa' : x.plain = true ∧ PyData.plainAll xs = true := by simpa [PyData.plainAll] using pa
    have pb' : y.plain = true ∧ PyData.plainAll ys = true := by simpa [PyData.plainAll] using pb
    obtain ⟨c1, c2⟩ := cpbs_cons hc
    cases ra with
    | cons r rs =>
      cases rb with
      | cons t ts =>
        cases j with
        | zero => exact rcLt_cpb x y A s _ _ _ _ r t pa'.1 pb'.1 c1 (cpb_none c1 hj) (room_head hu)
        | succ j => exact rcLt_cpbs xs ys A s _ _ _ _ rs ts pa'.2 pb'.2 (c2 (hm 0 (Nat.succ_pos j))) (room_tail hu) j (Nat.lt_of_succ_lt_succ h1) (Nat.lt_of_succ_lt_succ h2) (fun m hmj => hm (m + 1) (Nat.succ_lt_succ hmj)) hj
end
/-! ### sorting them -/
section
variable {prog : Program} {w : World} {A : Around} {E : Value → Shared → Prop} {s : Shared}
theorem kat_cpbs {fin : Bool} {Q : Bool → Shared → Prop} : ∀ (xs ys : List PyData) (i : Nat) (vs ws : List Value) (as bs : List Addr), ReadsAll s.heap vs xs as → ReadsAll s.heap ws ys bs → PyData.plainAll xs = true → PyData.plainAll ys = true → cpbs xs ys = true →
    A.units + min (PyData.depthAll xs) (PyData.depthAll ys) < cLine → fin = decide (xs.length < ys.length) → Q (dlts xs ys) s → PySem.W.KatLex prog w A false fin Q (vs.zip ws) i s
  | [], [], i, _, _, _, _, ra, rb, _, _, _, _, hf, hq => by
    cases ra
    cases rb
    rw [show fin = false from hf]
    exact PySem.W.kat_nil hq
  | [], y :: ys, i, _, _, _, _, ra, rb, _, _, _, _, hf, hq => by
    cases ra
    rw [List.zip_nil_left, show fin = true from hf.trans (decide_eq_true (Nat.succ_pos _))]
    exact PySem.W.kat_nil hq
  | x :: xs, [], i, _, _, _, _, ra, rb, _, _, _, _, hf, hq => by
    cases rb
    rw [List.zip_nil_right, show fin = false from hf.trans (decide_eq_false (Nat.not_lt_zero _))]
    exact PySem.W.kat_nil hq
  | x :: xs, y :: ys, i, _, _, _, _, ra, rb, pa, pb, hc, hu, hf, hq => by
    have pa' : x.plain = true ∧ PyData.plainAll xs = true := by simpa [PyData.plainAll] using pa
    have pb' : y.plain = true ∧ PyData.plainAll ys = true := by simpa [PyData.plainAll] using pb
    obtain ⟨c1, c2⟩ := cpbs_cons hc
    cases ra with
    | cons r rs =>
      cases rb with
      | cons t ts =>
        refine PySem.W.kat_cons (eqAt_plain x y A s _ _ _ _ r t pa'.1 pb'.1 (room_head hu) prog w _ _ ?_)
        rw [dlts] at hq
        cases e : PyData.eqv x y with
        | true =>
          rw [e, if_pos rfl] at hq
          exact PySem.W.kat_yes (kat_cpbs xs ys (i + 1) _ _ _ _ rs ts pa'.2 pb'.2 (c2 e) (room_tail hu) (hf.trans (decide_eq_decide.mpr (by simp only [List.length_cons]; omega))) hq)
        | false =>
          rw [e, if_neg Bool.false_ne_true] at hq
          refine PySem.W.kat_no ?_
          rw [Bool.false_and]
          exact PySem.W.kat_one _ _ (rcLt_cpb x y A s _ _ _ _ r t pa'.1 pb'.1 c1 (cpb_none c1 e) (room_head hu) prog w _ _ hq)
/-- items that stand as data by enc, ordered by tok -/
noncomputable def encKind {β : Type} (h : Heap) (bs : List β) (enc : β → PyData) (tok : β → List (Int ⊕ List Nat)) : PyProof.Rows.KeyKind where
  toKeyOrd := listOrd itemOrd
  keyOf v := open Classical in if q : ∃ b, b ∈ bs ∧ ∃ as, Reads h v (enc b) as then some (tok q.choose) else none
  dflt := ([] : List (Int ⊕ List Nat))
variable {β : Type} {enc : β → PyData} {tok : β → List (Int ⊕ List Nat)} {bs : List β}
theorem encKind_some {h : Heap} (pl : ∀ b ∈ bs, (enc b).plain = true) (inj : ∀ b ∈ bs, ∀ c ∈ bs, enc b = enc c → tok b = tok c) {v : Value} {b : β} {as : List Addr} (hb : b ∈ bs) (r : Reads h v (enc b) as) : (encKind h bs enc tok).keyOf v = some (tok b) := by
  have q : ∃ b, b ∈ bs ∧ ∃ as, Reads h v (enc b) as := ⟨b, hb, as, r⟩
  have e : (encKind h bs enc tok).keyOf v = some (tok q.choose) := dif_pos q
  obtain ⟨h1, as', h2⟩ := q.choose_spec
  rw [e, inj _ h1 _ hb (SeqAt.plain_unique _ _ _ _ _ (pl _ h1) h2 r)]
theorem encKind_inv {h : Heap} {v : Value} {k : List (Int ⊕ List Nat)} (e : (encKind h bs enc tok).keyOf v = some k) : ∃ b as, b ∈ bs ∧ Reads h v (enc b) as ∧ k = tok b := by
  by_cases q : ∃ b, b ∈ bs ∧ ∃ as, Reads h v (enc b) as
  · have e' : (encKind h bs enc tok).keyOf v = some (tok q.choose) := dif_pos q
    obtain ⟨h1, as', h2⟩ := q.choose_spec
    rw [e'] at e
    exact ⟨_, as', h1, h2, (Option.some.inj e).symm⟩
  · have e' : (encKind h bs enc tok).keyOf v = none := dif_neg q
    rw [e'] at e
    cases e
theorem sortsAt_enc {vs : List Value} (e : PySem.W.EachIs (fun v b => ∃ as, Reads s.heap v (enc b) as) vs bs) (pl : ∀ b ∈ bs, (enc b).plain = true) (inj : ∀ b ∈ bs, ∀ c ∈ bs, enc b = enc c → tok b = tok c)
    (tt : ∀ b ∈ bs, ∃ x r, enc b = .tuple (.tuple x :: r)) (cmp : ∀ b ∈ bs, ∀ c ∈ bs, cpb (enc b) (enc c) = true ∧ dlt (enc b) (enc c) = PyProof.Rows.lexLt itemOrd (tok b) (tok c)) (hu : ∀ b ∈ bs, A.units + (enc b).depth < cLine) :
    PySem.W.SortsAt prog w A s (encKind s.heap bs enc tok) vs := by
  refine ⟨fun v hv => ?_, tuples' false, ?_, fun h2 E Q hq => ?_⟩
  · obtain ⟨b, hb, as, r⟩ := e.left v hv
    exact ⟨_, encKind_some pl inj hb r⟩
  · intro E x y a b Q ha hb hq
    obtain ⟨d, as, hd, ra, rfl⟩ := encKind_inv ha
    obtain ⟨c, cs, hc, rb, rfl⟩ := encKind_inv hb
    obtain ⟨c1, c2⟩ := cmp d hd c hc
    have hq' : Q (dlt (enc d) (enc c)) s := by
      rw [c2]
      exact hq
    have p1 := pl d hd
    have p2 := pl c hc
    have room : A.units + min (enc d).depth (enc c).depth < cLine := Nat.lt_of_le_of_lt (Nat.add_le_add_left (Nat.min_le_left _ _) _) (hu d hd)
    obtain ⟨x1, r1, e1⟩ := tt d hd
    obtain ⟨x2, r2, e2⟩ := tt c hc
    rw [e1] at ra hq' c1 p1 room
    rw [e2] at rb hq' c1 p2 room
    cases ra with
    | @tuple l o us n _ _ g1 g2 g3 g4 =>
      cases rb with
      | @tuple l' o' us' n' _ _ k1 k2 k3 k4 =>
        have n1 : us.size = (PyData.tuple x1 :: r1).length := by simpa using ReadsAll.length _ _ _ g4
        have n2 : us'.size = (PyData.tuple x2 :: r2).length := by simpa using ReadsAll.length _ _ _ k4
        exact PySem.W.kat_lt g1 g3 k1 k3 (kat_cpbs _ _ 0 _ _ _ _ g4 k4 p1 p2 c1 (by have z := room_in room; omega) (by rw [n1, n2]) hq')
  · have e3 : PySem.W.EachIs (fun v d => ∃ as, Reads s.heap v d as) vs (bs.map enc) := PySem.W.each_map (R := fun v d => ∃ as, Reads s.heap v d as) enc e
    obtain ⟨fs, t1, t2, t3⟩ := PySem.W.each_katTups e3 (fun d hd => by
      obtain ⟨b, hb, rfl⟩ := List.mem_map.mp hd
      obtain ⟨x, r, e⟩ := tt b hb
      exact ⟨_, _, e⟩)
    refine PySem.W.kat_kind (T := .type "tuple") t1 (by omega) (fun f hf => ?_) (beq_self_eq_true _) ?_
    · obtain ⟨x, r, as, m1, m2⟩ := t3 f hf
      obtain ⟨b, hb, e1⟩ := List.mem_map.mp m1
      obtain ⟨x', r', e2⟩ := tt b hb
      rw [e2] at e1
      injection e1 with e1
      obtain ⟨rfl, _⟩ := List.cons.inj e1
      exact PySem.W.looks_reads m2
    · have z : (Value.type "tuple" != Value.type "tuple") = false := by first | decide +kernel | rfl
      rw [z]
      exact hq
end

/-! ### as a rule of the layer: sorted of a list of data -/
mutual
def noLd : D → Bool
  | .tup ts => noLds ts
  | .at _ => true
  | .lst => false
def noLds : List D → Bool
  | [] => true
  | t :: r => noLd t && noLds r
end
mutual
theorem dp_noL {K : PySem.W.Frag} {H : Hp} : ∀ {v : V} {d : D}, Rep K H v d → noLd d = true → Dp K H v (toPy d)
  | v, _, .at h, _ => by
    cases v with
    | non => exact .non
    | bl b => exact .bl b
    | int i => exact .int i
    | str x => exact .str x
    | byt _ => cases h
    | flt _ => cases h
    | ref _ => cases h
    | ty _ => cases h
  | _, _, .lst _, k => by cases k
  | _, _, .tup h r, k => .tup h.sq (dp_noLs r k)
theorem dp_noLs {K : PySem.W.Frag} {H : Hp} : ∀ {xs : List V} {ds : List D}, Reps K H xs ds → noLds ds = true → DpAll K H xs (toPys ds)
  | _, _, .nil, _ => .nil
  | _, _, .cons h r, k => by
    have k' := Bool.and_eq_true_iff.mp k
    exact .cons (dp_noL h k'.1) (dp_noLs r k'.2)
end
mutual
theorem plain_noL : ∀ d : D, noLd d = true → (toPy d).plain = true
  | .at v, _ => by cases v <;> rfl
  | .lst, k => by cases k
  | .tup ts, k => plain_noLs ts k
theorem plain_noLs : ∀ l : List D, noLds l = true → PyData.plainAll (toPys l) = true
  | [], _ => rfl
  | t :: r, k => by
    have k' := Bool.and_eq_true_iff.mp k
    show ((toPy t).plain && PyData.plainAll (toPys r)) = true
    rw [plain_noL t k'.1, plain_noLs r k'.2]
    rfl
end
mutual
theorem depth_noL : ∀ d : D, (toPy d).depth ≤ dep d + 1
  | .at v => by cases v <;> exact Nat.zero_le _
  | .lst => Nat.zero_le _
  | .tup ts => Nat.succ_le_succ (depth_noLs ts)
theorem depth_noLs : ∀ l : List D, PyData.depthAll (toPys l) ≤ deps l
  | [] => Nat.zero_le _
  | t :: r => by
    have h1 := depth_noL t
    have h2 := depth_noLs r
    show max (toPy t).depth (PyData.depthAll (toPys r)) ≤ max (dep t + 1) (deps r)
    omega
end
section
variable {β : Type} {R : Value → β → Prop}
/-- the items sorted -/
def sortE (tok : β → List (Int ⊕ List Nat)) (bs : List β) : List β := bs.mergeSort (PySem.W.sortLe (listOrd itemOrd) false tok)
theorem sortE_perm (tok : β → List (Int ⊕ List Nat)) (bs : List β) : (sortE tok bs).Perm bs := List.mergeSort_perm _ _
/-- what is to be known of an encoding -/
structure Enc (dat : β → D) (tok : β → List (Int ⊕ List Nat)) (ok : β → Prop) : Prop where
  nol : ∀ b, ok b → noLd (dat b) = true
  dep : ∀ b, ok b → dep (dat b) ≤ 30
  inj : ∀ b c, ok b → ok c → toPy (dat b) = toPy (dat c) → tok b = tok c
  tup : ∀ b, ok b → ∃ x r, dat b = .tup (.tup x :: r)
  cmp : ∀ b c, ok b → ok c → cpb (toPy (dat b)) (toPy (dat c)) = true ∧ dlt (toPy (dat b)) (toPy (dat c)) = PyProof.Rows.lexLt itemOrd (tok b) (tok c)
def rSortE (K : PySem.W.Frag) (dat : β → D) (tok : β → List (Int ⊕ List Nat)) (ok : β → Prop) : List V → Hp → VK → Prop := fun vs H Q => ∃ (a : Addr) (xs : List V) (bs : List β), vs = [V.ref a] ∧ SqL K H a xs ∧ Reps K H xs (bs.map dat) ∧ (∀ b ∈ bs, ok b) ∧
  ∀ (ys : List V) (p : Addr), Reps K H ys ((sortE tok bs).map dat) → H p = none → Q (.ref p) (upd H p (.lst ys))
theorem reps_each {X : Cx} {pins : List (Addr × Obj)} {σ : L2.St} {H : Hp} {s : Shared} (I : Inv X pins σ H s) {dat : β → D} : ∀ {xs : List V} {us : List Value} {bs : List β}, Reps X.K H xs (bs.map dat) → Vals xs us → (∀ b ∈ bs, noLd (dat b) = true) →
    PySem.W.EachIs (fun v b => (∃ as, Reads s.heap v (toPy (dat b)) as) ∧ ∃ x, RelV x v ∧ Rep X.K H x (dat b)) us bs
  | [], us, bs, r, rv, hk => by
    cases rv
    cases bs with
    | nil => exact .nil
    | cons b bs => cases r
  | x :: xs, us, bs, r, rv, hk => by
    cases bs with
    | nil => cases r
    | cons b bs =>
      cases rv with
      | cons rv0 rvs =>
        cases r with
        | cons r0 rs =>
          obtain ⟨as, z⟩ := Dp.reads I (toPy (dat b)) x _ (dp_noL r0 (hk b (List.mem_cons_self ..))) rv0
          exact .cons ⟨⟨as, z⟩, x, rv0, r0⟩ (reps_each I rs rvs fun c hc => hk c (List.mem_cons_of_mem _ hc))
theorem each_back {K : PySem.W.Frag} {H : Hp} {dat : β → D} : ∀ {us : List Value} {bs : List β}, PySem.W.EachIs (fun v b => ∃ x, RelV x v ∧ Rep K H x (dat b)) us bs → ∃ xs, Vals xs us ∧ Reps K H xs (bs.map dat)
  | _, _, .nil => ⟨[], .nil, .nil⟩
  | _, _, .cons ⟨x, h1, h2⟩ t => by
    obtain ⟨xs, r1, r2⟩ := each_back t
    exact ⟨x :: xs, .cons h1 r1, .cons h2 r2⟩
theorem cr_sortE {X : Cx} {dat : β → D} {tok : β → List (Int ⊕ List Nat)} {ok : β → Prop} (hu : X.A.units + 64 < cLine) (N : Enc dat tok ok) : CallR X (.builtin "sorted") (rSortE X.K dat tok ok) := by
  intro pins s σ H vs us Q I r h
  obtain ⟨a, xs, bs, rfl, hs, hr, hok, q⟩ := h
  obtain ⟨its, rv, hl, hz⟩ := I.list hs
  obtain ⟨u, rfl, ru⟩ := vals1 r
  obtain rfl : u = Value.ref a := ru
  have each := reps_each I hr rv fun b hb => N.nol b (hok b hb)
  have hlen : its.length ≤ sizeLine := by
    rw [← rv.length]
    exact hz
  have keep : ∀ b o, s.heap.get? b = some o → (PySem.W.sortingHeap (PySem.W.copyHeap s.heap its) (s.heap.objs.size + 1) its).get? b = some o := fun b o e => PySem.W.sorting_copy_old e
  have S : PySem.W.SortsAt X.prog X.w X.A.in1.in1 { s with heap := PySem.W.sortingHeap (PySem.W.copyHeap s.heap its) (s.heap.objs.size + 1) its } (encKind (PySem.W.sortingHeap (PySem.W.copyHeap s.heap its) (s.heap.objs.size + 1) its) bs (fun b => toPy (dat b)) tok) its := by
    refine sortsAt_enc (each.mono fun v b z => ?_) (fun b hb => plain_noL _ (N.nol b (hok b hb))) (fun b hb c hc => N.inj b c (hok b hb) (hok c hc)) (fun b hb => ?_) (fun b hb c hc => N.cmp b c (hok b hb) (hok c hc)) (fun b hb => ?_)
    · obtain ⟨⟨as, r⟩, _⟩ := z
      exact ⟨as, Reads.keeps keep r⟩
    · obtain ⟨x, r, e⟩ := N.tup b (hok b hb)
      rw [e]
      exact ⟨_, _, rfl⟩
    · have h1 := depth_noL (dat b)
      have h2 := N.dep b (hok b hb)
      show X.A.units + 1 + 1 + (toPy (dat b)).depth < cLine
      omega
  refine PySem.W.sorted_vals hl.isList S hlen ?_
  have out : PySem.W.EachIs (fun v b => ∃ x, RelV x v ∧ Rep X.K H x (dat b)) (PySem.W.sortVals (encKind (PySem.W.sortingHeap (PySem.W.copyHeap s.heap its) (s.heap.objs.size + 1) its) bs (fun b => toPy (dat b)) tok) false its its) (sortE tok bs) := by
    refine PySem.W.sortVals_each (κ := encKind (PySem.W.sortingHeap (PySem.W.copyHeap s.heap its) (s.heap.objs.size + 1) its) bs (fun b => toPy (dat b)) tok) tok (each.mono fun v b z => z.2) ?_
    refine (PySem.W.each_mem each).mono fun v b z => ?_
    obtain ⟨⟨⟨as, r⟩, _⟩, hb⟩ := z
    exact encKind_some (fun b hb => plain_noL _ (N.nol b (hok b hb))) (fun b hb c hc => N.inj b c (hok b hb) (hok c hc)) hb (Reads.keeps keep r)
  obtain ⟨ys, v1, r1⟩ := each_back out
  have hl2 := v1.length
  rw [PySem.W.sortVals_length _ rfl] at hl2
  obtain ⟨n, hn⟩ := PyProof.Rows.sortedAll_at s.heap its (PySem.W.sortVals (encKind (PySem.W.sortingHeap (PySem.W.copyHeap s.heap its) (s.heap.objs.size + 1) its) bs (fun b => toPy (dat b)) tok) false its its).toArray
  refine ⟨.ref _, _, I.laid (t' := s.toks) (o := .lst ys) (fun b o e => PyProof.Rows.sortedAll_old e) (Nat.le_succ _) ⟨?_, _, n, v1, hn⟩, rfl, q ys _ r1 (I.hok.fresh (Nat.le_succ _))⟩
  omega
end
end Pk

set_option maxRecDepth 100000
set_option maxHeartbeats 1000000
/-! a dict whose keys are None, ints and texts, by what it answers -/
namespace Pk
open PySem PySem.Spec PyProof.Rows L2
/-- a key as a value -/
def kVN : Option L2.Key → V
  | none => .non
  | some k => kV k
theorem kVN_is {P : Program} {w : World} {k : Option L2.Key} {u : Value} (r : RelV (kVN k) u) : (noneKind P w).is k u = true := by
  cases k with
  | none =>
    cases r
    rfl
  | some k => exact kV_is (P := P) (w := w) r
/-- at a: a dict of at most n pairs, g what it answers -/
def NkR (P : Program) (w : World) (a : Addr) (g : Option L2.Key → Option V) (n : Nat) (h : Heap) : Prop :=
  (a == sysModules) = false ∧ ∃ vs : List (Option L2.Key × Value), vs.length ≤ n ∧ (∀ k, RelO (g k) (valueAt vs k)) ∧ h.DictOf (noneKind P w) a vs
theorem NkR.at {P : Program} {w : World} {a : Addr} {g : Option L2.Key → Option V} {n : Nat} {h h' : Heap} (r : NkR P w a g n h) (k : ∀ o, h.get? a = some o → h'.get? a = some o) : NkR P w a g n h' := by
  obtain ⟨h1, vs, h2, h3, o, es, ep, h4, h5⟩ := r
  exact ⟨h1, vs, h2, h3, o, es, ep, k _ h4, h5⟩
def NkO (P : Program) (w : World) (a : Addr) (g : Option L2.Key → Option V) (n : Nat) : HO := .ext (NkR P w a g n)
def putN (g : Option L2.Key → Option V) (k : Option L2.Key) (v : V) : Option L2.Key → Option V := fun j => if j = k then some v else g j
theorem nk_ok {P : Program} {w : World} {H : Hp} {h : Heap} {a : Addr} {g : Option L2.Key → Option V} {n : Nat} (r : NkR P w a g n h) : ObjOk P w H h a (NkO P w a g n) := by
  have r' := r
  obtain ⟨h1, vs, h2, h3, o, es, ep, h4, h5⟩ := r
  exact ⟨r', ⟨o, h4⟩, fun x y p k => p.at k⟩
theorem nk_get {X : Cx} {pins : List (Addr × Obj)} {σ : L2.St} {H : Hp} {s : Shared} {a : Addr} {g : Option L2.Key → Option V} {n : Nat} (I : Inv X pins σ H s) (ha : H a = some (NkO X.prog X.w a g n)) : NkR X.prog X.w a g n s.heap := (I.hok a _ ha).1
section
variable {X : Cx}
/-- {None: None} -/
def tNkNew (P : Program) (w : World) : TE := fun σ H Q => ∀ p, H p = none → Q (.ref p) (upd H p (NkO P w p (putN (fun _ => none) none .non) 1))
theorem pe_nkNew {pos p1 p2 : Pos} {i j : Nat} : PE X (.Dict [some (.Constant .none i p1)] [.Constant .none j p2] pos) (tNkNew X.prog X.w) := by
  refine ⟨fun pins s σ H Q I q => ?_⟩
  have hn := I.hok.fresh (Nat.le_refl s.heap.objs.size)
  refine wpAny_Dict_walk (knd := noneKind X.prog X.w) (by rfl) rfl (by simp) (by show 1 ≤ 15; omega) ?_
  refine pairTrees_cons_walk (PyProof.Rows.Constant_none (PyProof.Rows.Constant_none (pairTrees_nil_walk ?_)))
  refine ⟨[(none, .none)], ⟨rfl, rfl, True.intro⟩, Heap.DictOf.new _, fun h' dd hs => ?_⟩
  refine ⟨.ref s.heap.objs.size, upd H s.heap.objs.size (NkO X.prog X.w s.heap.objs.size (putN (fun _ => none) none .non) 1), I.laid (fun b o e => ?_) (Nat.le_refl _) (nk_ok ⟨beq_eq_false_iff_ne.mpr (Ne.symm (Nat.ne_of_lt I.big)), _, ?_, fun k => ?_, dd⟩), rfl, q _ hn⟩
  · rw [hs.2 b (Nat.ne_of_lt (Heap.lt_size e))]
    exact Heap.get?_push_of_some _ e
  · exact Nat.le_refl 1
  · cases k with
    | none => exact rfl
    | some k => exact True.intro
/-- d[i] = v -/
def tNkPut (P : Program) (w : World) (td ty tv : TE) : TS := fun D σ H => tv σ H fun v H1 => td σ H1 fun x H2 => ty σ H2 fun y H3 => ∃ (a : Addr) (g : Option L2.Key → Option V) (n : Nat) (k : Option L2.Key), x = .ref a ∧ y = kVN k ∧ H3 a = some (NkO P w a g n) ∧ n < 1000000 ∧ D.nx σ (upd H3 a (NkO P w a (putN g k v) (n + 1)))
variable {o i value : Expr} {td ty tv : TE} {pos pos' : Pos}
theorem ps_nkPut (ho : PE X o td) (hi : PE X i ty) (hv : PE X value tv) (hs : swapsWith value (some (.Subscript o i pos')) pos.line X.env = pure false) : PS X (.Assign [.Subscript o i pos'] value pos) (tNkPut X.prog X.w td ty tv) := by
  refine ⟨fun pins s σ H D I h => ?_⟩
  refine wpAny_Assign_Subscript (thn (hv.run pins s σ H _ I h) fun r s1 ⟨v, H1, I1, rv, q1⟩ => thn (ho.run pins s1 σ H1 _ I1 q1) fun u s2 ⟨x, H2, I2, rx, q2⟩ => thn (hi.run pins s2 σ H2 _ I2 q2) fun iv s3 ⟨y, H3, I3, ry, a, g, n, k, ex, ey, ha, hn, q3⟩ => ?_) hs
  subst ex ey
  obtain rfl : u = Value.ref a := rx
  have R := nk_get I3 ha
  obtain ⟨h1, vs, h2, h3, dd⟩ := R
  have hz : vs.length ≤ sizeLine := by
    rw [sizeLine_eq]
    omega
  refine wpAny_setItem_pairs (hsz := hz) (kVN_is ry) dd fun h' dd' hs' => ?_
  have he : ∃ q, h'.get? a = some q := let ⟨q, _, _, hq, _⟩ := dd'; ⟨q, hq⟩
  refine ⟨σ, _, I3.write (e := a) (by rw [ha]; trivial) (.inl rfl) (fun b w hb z => (hs'.2 b hb).trans z) he (nk_ok ⟨h1, _, ?_, fun j => ?_, dd'⟩), q3⟩
  · have := stored_length_le vs k r
    omega
  · rw [valueAt_stored]
    unfold putN
    by_cases e : j = k
    · rw [if_pos e, if_pos e]
      exact rv
    · rw [if_neg e, if_neg e]
      exact h3 j
/-- d[i], which is there -/
def tNkGet (P : Program) (w : World) (td ty : TE) : TE := fun σ H Q => td σ H fun x H1 => ty σ H1 fun y H2 => ∃ (a : Addr) (g : Option L2.Key → Option V) (n : Nat) (k : Option L2.Key) (v : V), x = .ref a ∧ y = kVN k ∧ H2 a = some (NkO P w a g n) ∧ g k = some v ∧ Q v H2
theorem pe_nkGet (ho : PE X o td) (hi : PE X i ty) (hs : NoSl i) : PE X (.Subscript o i pos) (tNkGet X.prog X.w td ty) := by
  refine ⟨fun pins s σ H Q I h => ?_⟩
  refine subD_of PySem.F.slot_dict_getitem.lookup hs (thn (ho.run pins s σ H _ I h) fun u s1 ⟨x, H1, I1, rx, q1⟩ => thn (hi.run pins s1 σ H1 _ I1 q1) fun iv s2 ⟨y, H2, I2, ry, a, g, n, k, v, ex, ey, ha, hg, q2⟩ => ?_)
  subst ex ey
  obtain rfl : u = Value.ref a := rx
  obtain ⟨h1, vs, h2, h3, dd⟩ := nk_get I2 ha
  have z := h3 k
  rw [hg] at z
  obtain ⟨w', hw, rw'⟩ := RelO.some_of (v := v) (o := valueAt vs k) z
  exact ⟨dd.typeIs, wpAny_getItem_of (kVN_is ry) dd.mapOf hw ⟨v, H2, I2.tok _, rw', q2⟩⟩
end
end Pk

set_option maxRecDepth 100000
set_option maxHeartbeats 1000000
/-! plays as data -/
namespace Pk
open PySem PySem.Spec PyProof.Rows L2
inductive Mv where
  | ask (p : List Nat)
  | say (v : Nat)
  deriving DecidableEq
structure Stp where
  mv : Mv
  back : Option Nat
  deriving DecidableEq
def numD' (k : Nat) : D := .at (.int (k : Nat))
def plD (p : List Nat) : D := .tup (p.map numD')
def mvD : Mv → D
  | .ask p => .tup [.at (.str "ask"), plD p]
  | .say v => .tup [.at (.str "say"), numD' v]
def bkD : Option Nat → D
  | none => .at .non
  | some j => numD' j
def stD (s : Stp) : D := .tup [mvD s.mv, bkD s.back]
def playD (pl : List Stp) : D := .tup (pl.map stD)
/-! ### steps in order -/
def bkN (s : Stp) : Int := ((s.back.getD 0 : Nat) : Int)
def tokS (s : Stp) : List (Int ⊕ List Nat) := match s.mv with
  | .ask p => .inl 0 :: (p.map (fun k => Sum.inl ((k : Nat) : Int)) ++ [.inl (-1), .inl (bkN s)])
  | .say v => [.inl 1, .inl ((v : Nat) : Int), .inl (bkN s)]
def okS (s : Stp) : Prop := s.back ≠ none
theorem deps_nums : ∀ p : List Nat, deps (p.map numD') ≤ 1
  | [] => Nat.zero_le _
  | k :: r => by
    have := deps_nums r
    show max (0 + 1) (deps (r.map numD')) ≤ 1
    omega
theorem noLd_nums : ∀ p : List Nat, noLds (p.map numD') = true
  | [] => rfl
  | k :: r => noLd_nums r
theorem toPys_inj : ∀ p q : List Nat, toPys (p.map numD') = toPys (q.map numD') → p = q
  | [], [], _ => rfl
  | [], _ :: _, h => by cases h
  | _ :: _, [], h => by cases h
  | a :: p, b :: q, h => by
    injection h with h1 h2
    injection h1 with h1
    rw [toPys_inj p q h2, show a = b by omega]
theorem eqv_nums : ∀ p q : List Nat, PyData.eqvAll (toPys (p.map numD')) (toPys (q.map numD')) = decide (p = q)
  | [], [] => by simp [toPys, PyData.eqvAll]
  | [], _ :: _ => by simp [toPys, PyData.eqvAll]
  | _ :: _, [] => by simp [toPys, PyData.eqvAll]
  | a :: p, b :: q => by
    have := eqv_nums p q
    show PyData.eqvAll (.int (a : Nat) :: toPys (p.map numD')) (.int (b : Nat) :: toPys (q.map numD')) = _
    rw [PyData.eqvAll, this, PyData.eqv]
    by_cases h : a = b
    · subst h
      by_cases h2 : p = q
      · subst h2
        simp
      · rw [decide_eq_false h2, decide_eq_false (fun z => h2 (List.cons.inj z).2), Bool.and_false]
    · rw [decide_eq_false (fun z => h (List.cons.inj z).1)]
      have : ((a : Int) == (b : Int)) = false := by
        rw [beq_eq_false_iff_ne]
        omega
      rw [this, Bool.false_and]
theorem cpb_nums : ∀ p q : List Nat, cpbs (toPys (p.map numD')) (toPys (q.map numD')) = true
  | [], _ => by simp [toPys, cpbs]
  | _ :: _, [] => by simp [toPys, cpbs]
  | a :: p, b :: q => by
    have := cpb_nums p q
    show cpbs (.int (a : Nat) :: toPys (p.map numD')) (.int (b : Nat) :: toPys (q.map numD')) = true
    rw [cpbs, this, cpb, Bool.or_true]
    rfl
theorem dlt_nums (j j' : Int) : ∀ p q : List Nat, PyProof.Rows.lexLt itemOrd (p.map (fun k => Sum.inl ((k : Nat) : Int)) ++ [.inl (-1), .inl j]) (q.map (fun k => Sum.inl ((k : Nat) : Int)) ++ [.inl (-1), .inl j']) = if p = q then decide (j < j') else dlts (toPys (p.map numD')) (toPys (q.map numD'))
  | [], [] => by
    rw [if_pos rfl]
    show PyProof.Rows.lexLt itemOrd [.inl (-1), .inl j] [.inl (-1), .inl j'] = _
    rw [lex_self]
    exact PySem.W.lex_one _ _
  | [], b :: q => by
    rw [if_neg (fun z => by cases z)]
    show PyProof.Rows.lexLt itemOrd (.inl (-1) :: _) (.inl (b : Int) :: _) = dlts [] (_ :: _)
    rw [lex_diff (O := itemOrd) (by intro z; injection z with z; omega), dlts]
    exact decide_eq_true (p := (-1 : Int) < (b : Int)) (by omega)
  | a :: p, [] => by
    rw [if_neg (fun z => by cases z)]
    show PyProof.Rows.lexLt itemOrd (.inl (a : Int) :: _) (.inl (-1) :: _) = dlts (_ :: _) []
    rw [lex_diff (O := itemOrd) (by intro z; injection z with z; omega), dlts]
    exact decide_eq_false (p := (a : Int) < -1) (by omega)
  | a :: p, b :: q => by
    have ih := dlt_nums j j' p q
    show PyProof.Rows.lexLt itemOrd (.inl (a : Int) :: (p.map _ ++ _)) (.inl (b : Int) :: (q.map _ ++ _)) = if a :: p = b :: q then _ else dlts (.int (a : Nat) :: toPys (p.map numD')) (.int (b : Nat) :: toPys (q.map numD'))
    by_cases h : a = b
    · subst h
      rw [lex_self, ih, dlts, PyData.eqv, show ((a : Int) == (a : Int)) = true from beq_self_eq_true _, if_pos rfl]
      by_cases h2 : p = q
      · subst h2
        rw [if_pos rfl, if_pos rfl]
      · rw [if_neg h2, if_neg (fun z => h2 (List.cons.inj z).2)]
    · have hb : ((a : Int) == (b : Int)) = false := by
        rw [beq_eq_false_iff_ne]
        omega
      rw [lex_diff (O := itemOrd) (by intro z; injection z with z; omega), if_neg (fun z => h (List.cons.inj z).1), dlts, PyData.eqv, hb, if_neg Bool.false_ne_true, dlt]
      rfl
theorem str_askSay : PyData.eqv (.str "ask") (.str "say") = false := by decide +kernel
theorem str_sayAsk : PyData.eqv (.str "say") (.str "ask") = false := by decide +kernel
theorem lt_askSay : dlt (.str "ask") (.str "say") = true := by decide +kernel
theorem lt_sayAsk : dlt (.str "say") (.str "ask") = false := by decide +kernel
theorem str_self (x : Str) : PyData.eqv (.str x) (.str x) = true := by
  rw [PyData.eqv]
  exact beq_self_eq_true _
theorem int_eqv (i j : Int) : PyData.eqv (.int i) (.int j) = decide (i = j) := by
  rw [PyData.eqv]
  by_cases h : i = j
  · rw [h, decide_eq_true rfl]
    exact beq_self_eq_true _
  · rw [decide_eq_false h]
    exact beq_eq_false_iff_ne.mpr h
/-- two steps, their moves compared as they must -/
theorem step_cmp {A B : PyData} {j j' : Int} {e l : Bool} (he : PyData.eqv A B = e) (hc : cpb A B = true) (hl : dlt A B = l) :
    cpb (.tuple [A, .int j]) (.tuple [B, .int j']) = true ∧ dlt (.tuple [A, .int j]) (.tuple [B, .int j']) = if e = true then decide (j < j') else l := by
  constructor
  · show cpbs [A, .int j] [B, .int j'] = true
    rw [cpbs, hc, Bool.true_and, he]
    cases e with
    | false => rfl
    | true =>
      show cpbs [.int j] [.int j'] = true
      rw [cpbs, cpb, Bool.true_and]
      show (_ || cpbs [] []) = true
      rw [cpbs, Bool.or_true]
  · show dlts [A, .int j] [B, .int j'] = _
    rw [dlts, he, hl]
    cases e with
    | false => rfl
    | true =>
      rw [if_pos rfl, if_pos rfl, dlts, int_eqv]
      by_cases h : j = j'
      · rw [if_pos (decide_eq_true h), dlts, decide_eq_false (by omega)]
      · rw [if_neg (by rw [decide_eq_false h]; exact Bool.false_ne_true), dlt]
theorem encS : Enc stD tokS okS where
  nol b hb := by
    obtain ⟨m, k⟩ := b
    cases k with
    | none => exact absurd rfl hb
    | some j =>
      cases m with
      | say v => rfl
      | ask p =>
        show ((true && (noLds (p.map numD') && true)) && (true && true)) = true
        rw [noLd_nums]
        rfl
  dep b hb := by
    obtain ⟨m, k⟩ := b
    have hk : dep (bkD k) = 0 := by cases k <;> rfl
    cases m with
    | say v =>
      show max (dep (mvD (.say v)) + 1) (max (dep (bkD k) + 1) 0) ≤ 30
      rw [hk]
      show max (max (0 + 1) (max (0 + 1) 0) + 1) (max (0 + 1) 0) ≤ 30
      omega
    | ask p =>
      have := deps_nums p
      show max (max (0 + 1) (max (deps (p.map numD') + 1) 0) + 1) (max (dep (bkD k) + 1) 0) ≤ 30
      omega
  inj b c hb hc h := by
    obtain ⟨m, k⟩ := b
    obtain ⟨n, l⟩ := c
    cases k with
    | none => exact absurd rfl hb
    | some j =>
      cases l with
      | none => exact absurd rfl hc
      | some i =>
        injection h with h
        injection h with h1 h2
        injection h2 with h2 _
        injection h2 with h2
        have eji : j = i := by omega
        subst eji
        cases m with
        | say v =>
          cases n with
          | say u =>
            injection h1 with h1
            injection h1 with _ h1
            injection h1 with h1 _
            injection h1 with h1
            rw [show v = u by omega]
          | ask q =>
            injection h1 with h1
            injection h1 with _ h1
            injection h1 with h1 _
            cases h1
        | ask p =>
          cases n with
          | say u =>
            injection h1 with h1
            injection h1 with _ h1
            injection h1 with h1 _
            cases h1
          | ask q =>
            injection h1 with h1
            injection h1 with _ h1
            injection h1 with h1 _
            injection h1 with h1
            rw [toPys_inj p q h1]
  tup b hb := by
    obtain ⟨m, k⟩ := b
    cases m <;> exact ⟨_, _, rfl⟩
  cmp b c hb hc := by
    obtain ⟨m, k⟩ := b
    obtain ⟨n, l⟩ := c
    cases k with
    | none => exact absurd rfl hb
    | some j =>
    cases l with
    | none => exact absurd rfl hc
    | some i =>
    cases m with
    | say v =>
      cases n with
      | say u =>
        have h1 : PyData.eqv (toPy (mvD (.say v))) (toPy (mvD (.say u))) = decide ((v : Int) = (u : Int)) := by
          show PyData.eqvAll [.str "say", .int (v : Nat)] [.str "say", .int (u : Nat)] = _
          rw [PyData.eqvAll, str_self, PyData.eqvAll, int_eqv, PyData.eqvAll, Bool.true_and, Bool.and_true]
        have h2 : cpb (toPy (mvD (.say v))) (toPy (mvD (.say u))) = true := by
          show cpbs [.str "say", .int (v : Nat)] [.str "say", .int (u : Nat)] = true
          rw [cpbs, cpb, str_self, cpbs, cpb, cpbs, Bool.or_true]
          rfl
        have h3 : dlt (toPy (mvD (.say v))) (toPy (mvD (.say u))) = if (v : Int) = (u : Int) then false else decide ((v : Int) < (u : Int)) := by
          show dlts [.str "say", .int (v : Nat)] [.str "say", .int (u : Nat)] = _
          rw [dlts, str_self, if_pos rfl, dlts, int_eqv]
          by_cases h : (v : Int) = (u : Int)
          · rw [if_pos (decide_eq_true h), if_pos h, dlts]
          · rw [if_neg (by rw [decide_eq_false h]; exact Bool.false_ne_true), if_neg h, dlt]
        have z := step_cmp (j := (j : Int)) (j' := (i : Int)) h1 h2 h3
        refine ⟨z.1, z.2.trans ?_⟩
        show _ = PyProof.Rows.lexLt itemOrd [.inl 1, .inl (v : Int), .inl (j : Int)] [.inl 1, .inl (u : Int), .inl (i : Int)]
        rw [lex_self]
        by_cases h : (v : Int) = (u : Int)
        · rw [if_pos (decide_eq_true h), h, lex_self, PySem.W.lex_one]
          rfl
        · rw [if_neg (by rw [decide_eq_false h]; exact Bool.false_ne_true), if_neg h, lex_diff (O := itemOrd) (by intro y; injection y with y; exact h y)]
          rfl
      | ask q =>
        have h1 : PyData.eqv (toPy (mvD (.say v))) (toPy (mvD (.ask q))) = false := by
          show PyData.eqvAll [.str "say", .int (v : Nat)] [.str "ask", toPy (plD q)] = _
          rw [PyData.eqvAll, str_sayAsk, Bool.false_and]
        have h2 : cpb (toPy (mvD (.say v))) (toPy (mvD (.ask q))) = true := by
          show cpbs [.str "say", .int (v : Nat)] [.str "ask", toPy (plD q)] = true
          rw [cpbs, cpb, str_sayAsk]
          rfl
        have h3 : dlt (toPy (mvD (.say v))) (toPy (mvD (.ask q))) = false := by
          show dlts [.str "say", .int (v : Nat)] [.str "ask", toPy (plD q)] = _
          rw [dlts, str_sayAsk, if_neg Bool.false_ne_true, lt_sayAsk]
        have z := step_cmp (j := (j : Int)) (j' := (i : Int)) h1 h2 h3
        refine ⟨z.1, z.2.trans ?_⟩
        show false = PyProof.Rows.lexLt itemOrd (.inl 1 :: _) (.inl 0 :: _)
        rw [lex_diff (O := itemOrd) (by intro y; injection y with y; omega)]
        rfl
    | ask p =>
      cases n with
      | say u =>
        have h1 : PyData.eqv (toPy (mvD (.ask p))) (toPy (mvD (.say u))) = false := by
          show PyData.eqvAll [.str "ask", toPy (plD p)] [.str "say", .int (u : Nat)] = _
          rw [PyData.eqvAll, str_askSay, Bool.false_and]
        have h2 : cpb (toPy (mvD (.ask p))) (toPy (mvD (.say u))) = true := by
          show cpbs [.str "ask", toPy (plD p)] [.str "say", .int (u : Nat)] = true
          rw [cpbs, cpb, str_askSay]
          rfl
        have h3 : dlt (toPy (mvD (.ask p))) (toPy (mvD (.say u))) = true := by
          show dlts [.str "ask", toPy (plD p)] [.str "say", .int (u : Nat)] = _
          rw [dlts, str_askSay, if_neg Bool.false_ne_true, lt_askSay]
        have z := step_cmp (j := (j : Int)) (j' := (i : Int)) h1 h2 h3
        refine ⟨z.1, z.2.trans ?_⟩
        show true = PyProof.Rows.lexLt itemOrd (.inl 0 :: _) (.inl 1 :: _)
        rw [lex_diff (O := itemOrd) (by intro y; injection y with y; omega)]
        rfl
      | ask q =>
        have h1 : PyData.eqv (toPy (mvD (.ask p))) (toPy (mvD (.ask q))) = decide (p = q) := by
          show PyData.eqvAll [.str "ask", toPy (plD p)] [.str "ask", toPy (plD q)] = _
          rw [PyData.eqvAll, str_self, PyData.eqvAll, PyData.eqvAll, Bool.true_and, Bool.and_true]
          exact eqv_nums p q
        have h2 : cpb (toPy (mvD (.ask p))) (toPy (mvD (.ask q))) = true := by
          show cpbs [.str "ask", toPy (plD p)] [.str "ask", toPy (plD q)] = true
          rw [cpbs, cpb, str_self, cpbs, cpbs, Bool.or_true, show cpb (toPy (plD p)) (toPy (plD q)) = true from cpb_nums p q]
          rfl
        have h3 : dlt (toPy (mvD (.ask p))) (toPy (mvD (.ask q))) = if p = q then false else dlts (toPys (p.map numD')) (toPys (q.map numD')) := by
          show dlts [.str "ask", toPy (plD p)] [.str "ask", toPy (plD q)] = _
          rw [dlts, str_self, if_pos rfl, dlts, show PyData.eqv (toPy (plD p)) (toPy (plD q)) = decide (p = q) from eqv_nums p q]
          by_cases h : p = q
          · rw [if_pos (decide_eq_true h), if_pos h, dlts]
          · rw [if_neg (by rw [decide_eq_false h]; exact Bool.false_ne_true), if_neg h]
            rfl
        have z := step_cmp (j := (j : Int)) (j' := (i : Int)) h1 h2 h3
        refine ⟨z.1, z.2.trans ?_⟩
        show _ = PyProof.Rows.lexLt itemOrd (.inl 0 :: _) (.inl 0 :: _)
        rw [lex_self]
        refine Eq.trans ?_ (dlt_nums (j : Int) (i : Int) p q).symm
        by_cases h : p = q
        · rw [if_pos (decide_eq_true h), if_pos h]
        · rw [if_neg (by rw [decide_eq_false h]; exact Bool.false_ne_true), if_neg h, if_neg h]
end Pk

set_option maxRecDepth 100000
set_option maxHeartbeats 1000000
/-! open asks, sights, and what stands alone -/
namespace Pk
open PySem PySem.Spec PyProof.Rows L2
/-! ### asks that are open -/
def opnS (rows : List Nat) (n : Nat) (s : Stp) : List Nat := match s.mv with
  | .ask _ => rows ++ [n]
  | .say _ => rows.filter fun j => decide (some j ≠ s.back)
def opens (pl : List Stp) : Nat → List Nat
  | 0 => []
  | m + 1 => match pl[m]? with
    | some s => opnS (opens pl m) m s
    | none => opens pl m
theorem opens_succ {pl : List Stp} {m : Nat} {s : Stp} (h : pl[m]? = some s) : opens pl (m + 1) = opnS (opens pl m) m s := by
  show (match pl[m]? with | some s => opnS (opens pl m) m s | none => opens pl m) = _
  rw [h]
theorem opens_lt (pl : List Stp) : ∀ m, ∀ j ∈ opens pl m, j < m
  | 0, j, h => by cases h
  | m + 1, j, h => by
    have ih := opens_lt pl m
    cases hs : pl[m]? with
    | none =>
      have e : opens pl (m + 1) = opens pl m := by
        show (match pl[m]? with | some s => opnS (opens pl m) m s | none => opens pl m) = _
        rw [hs]
      rw [e] at h
      have := ih j h
      omega
    | some s =>
      rw [opens_succ hs] at h
      unfold opnS at h
      split at h
      · rcases List.mem_append.mp h with h | h
        · have := ih j h
          omega
        · rw [List.mem_singleton.mp h]
          omega
      · have := ih j (List.mem_filter.mp h).1
        omega
theorem opens_up (pl : List Stp) : ∀ m, (opens pl m).Pairwise (· < ·)
  | 0 => List.Pairwise.nil
  | m + 1 => by
    have ih := opens_up pl m
    cases hs : pl[m]? with
    | none =>
      have e : opens pl (m + 1) = opens pl m := by
        show (match pl[m]? with | some s => opnS (opens pl m) m s | none => opens pl m) = _
        rw [hs]
      rw [e]
      exact ih
    | some s =>
      rw [opens_succ hs]
      unfold opnS
      split
      · refine List.pairwise_append.mpr ⟨ih, List.pairwise_singleton _ _, fun a ha b hb => ?_⟩
        rw [List.mem_singleton.mp hb]
        exact opens_lt pl m a ha
      · exact ih.filter _
theorem opens_take (pl : List Stp) (k : Nat) : ∀ m, m ≤ k → opens (pl.take k) m = opens pl m
  | 0, _ => rfl
  | m + 1, h => by
    show (match (pl.take k)[m]? with | some s => opnS (opens (pl.take k) m) m s | none => opens (pl.take k) m) = (match pl[m]? with | some s => opnS (opens pl m) m s | none => opens pl m)
    rw [List.getElem?_take_of_lt (by omega), opens_take pl k m (by omega)]
theorem opens_ask (pl : List Stp) : ∀ m, ∀ j ∈ opens pl m, ∃ p b, pl[j]? = some ⟨.ask p, b⟩
  | 0, j, h => by cases h
  | m + 1, j, h => by
    have ih := opens_ask pl m
    cases hs : pl[m]? with
    | none =>
      have e : opens pl (m + 1) = opens pl m := by
        show (match pl[m]? with | some s => opnS (opens pl m) m s | none => opens pl m) = _
        rw [hs]
      rw [e] at h
      exact ih j h
    | some s =>
      rw [opens_succ hs] at h
      obtain ⟨mv, b⟩ := s
      cases mv with
      | ask p =>
        rcases List.mem_append.mp h with h | h
        · exact ih j h
        · rw [List.mem_singleton.mp h]
          exact ⟨p, b, hs⟩
      | say v => exact ih j (List.mem_filter.mp h).1
/-! ### sights -/
def bk (pl : List Stp) (n : Nat) : Nat := (((pl[n]?).bind Stp.back).getD 0)
def sgt (pl : List Stp) : Nat → Nat → List Nat
  | 0, _ => []
  | f + 1, n => if n = 0 then [0] else if bk pl n = 0 then [0, n] else sgt pl f (bk pl n - 1) ++ [bk pl n, n]
/-- backs go back -/
structure WB (pl : List Stp) : Prop where
  first : ∀ s, pl[0]? = some s → s = ⟨.ask [], none⟩
  later : ∀ n s, 0 < n → pl[n]? = some s → ∃ j, s.back = some j ∧ j < n
theorem WB.bk_lt {pl : List Stp} (h : WB pl) {n : Nat} (h0 : 0 < n) (hn : n < pl.length) : bk pl n < n := by
  obtain ⟨j, e, hj⟩ := h.later n _ h0 (List.getElem?_eq_getElem hn)
  unfold bk
  rw [List.getElem?_eq_getElem hn]
  show (pl[n].back).getD 0 < n
  rw [e]
  exact hj
theorem sgt_fuel {pl : List Stp} (h : WB pl) : ∀ (n f g : Nat), n < pl.length → n < f → n < g → sgt pl f n = sgt pl g n := by
  intro n
  induction n using Nat.strongRecOn with
  | ind n ih =>
    intro f g hn hf hg
    cases f with
    | zero => omega
    | succ f =>
      cases g with
      | zero => omega
      | succ g =>
        unfold sgt
        by_cases h0 : n = 0
        · rw [if_pos h0, if_pos h0]
        · rw [if_neg h0, if_neg h0]
          by_cases h1 : bk pl n = 0
          · rw [if_pos h1, if_pos h1]
          · have hb := h.bk_lt (Nat.pos_of_ne_zero h0) hn
            rw [if_neg h1, if_neg h1, ih (bk pl n - 1) (by omega) f g (by omega) (by omega) (by omega)]
def sight (pl : List Stp) (n : Nat) : List Nat := sgt pl (n + 1) n
theorem sight_zero (pl : List Stp) : sight pl 0 = [0] := rfl
theorem sight_one {pl : List Stp} {n : Nat} (h0 : 0 < n) (hb : bk pl n = 0) : sight pl n = [0, n] := by
  unfold sight sgt
  rw [if_neg (by omega), if_pos hb]
theorem sight_more {pl : List Stp} (h : WB pl) {n : Nat} (h0 : 0 < n) (hn : n < pl.length) (hb : bk pl n ≠ 0) : sight pl n = sight pl (bk pl n - 1) ++ [bk pl n, n] := by
  have hl := h.bk_lt h0 hn
  have e : sight pl n = sgt pl n (bk pl n - 1) ++ [bk pl n, n] := by
    show (if n = 0 then [0] else if bk pl n = 0 then [0, n] else sgt pl n (bk pl n - 1) ++ [bk pl n, n]) = _
    rw [if_neg (by omega), if_neg hb]
  rw [e, sgt_fuel h (bk pl n - 1) n (bk pl n - 1 + 1) (by omega) (by omega) (by omega)]
  rfl
theorem bk_take (pl : List Stp) {k n : Nat} (h : n < k) : bk (pl.take k) n = bk pl n := by
  unfold bk
  rw [List.getElem?_take_of_lt h]
theorem WB.take {pl : List Stp} (h : WB pl) (k : Nat) : WB (pl.take k) :=
  ⟨fun s e => h.first s (by
    have hk : 0 < k := by
      cases k with
      | zero =>
        rw [List.take_zero] at e
        cases e
      | succ k => omega
    rw [List.getElem?_take_of_lt hk] at e
    exact e), fun n s h0 e => h.later n s h0 (by
    by_cases hk : n < k
    · rw [List.getElem?_take_of_lt hk] at e
      exact e
    · rw [List.getElem?_eq_none (by rw [List.length_take]; omega)] at e
      cases e)⟩
theorem sgt_take {pl : List Stp} (h : WB pl) (k : Nat) : ∀ (f n : Nat), n < k → n < pl.length → sgt (pl.take k) f n = sgt pl f n
  | 0, _, _, _ => rfl
  | f + 1, n, hk, hn => by
    unfold sgt
    rw [bk_take pl hk]
    by_cases h0 : n = 0
    · rw [if_pos h0, if_pos h0]
    · rw [if_neg h0, if_neg h0]
      have hb := h.bk_lt (Nat.pos_of_ne_zero h0) hn
      by_cases h1 : bk pl n = 0
      · rw [if_pos h1, if_pos h1]
      · rw [if_neg h1, if_neg h1, sgt_take h k f (bk pl n - 1) (by omega) (by omega)]
theorem sight_take {pl : List Stp} (h : WB pl) {k n : Nat} (hk : n < k) (hn : n < pl.length) : sight (pl.take k) n = sight pl n := sgt_take h k (n + 1) n hk hn
theorem sight_up {pl : List Stp} (h : WB pl) : ∀ n, n < pl.length → (sight pl n).Pairwise (· < ·) ∧ ∀ j ∈ sight pl n, j ≤ n := by
  intro n
  induction n using Nat.strongRecOn with
  | ind n ih =>
    intro hn
    by_cases h0 : n = 0
    · subst h0
      rw [sight_zero]
      exact ⟨List.pairwise_singleton _ _, fun j hj => by rw [List.mem_singleton.mp hj]; exact Nat.le_refl 0⟩
    · have hp := Nat.pos_of_ne_zero h0
      have hb := h.bk_lt hp hn
      by_cases h1 : bk pl n = 0
      · rw [sight_one hp h1]
        refine ⟨List.pairwise_cons.mpr ⟨fun a ha => by rw [List.mem_singleton.mp ha]; exact hp, List.pairwise_singleton _ _⟩, fun j hj => ?_⟩
        simp only [List.mem_cons, List.not_mem_nil, or_false] at hj
        omega
      · obtain ⟨i1, i2⟩ := ih (bk pl n - 1) (by omega) (by omega)
        rw [sight_more h hp hn h1]
        refine ⟨List.pairwise_append.mpr ⟨i1, List.pairwise_cons.mpr ⟨fun a ha => by rw [List.mem_singleton.mp ha]; exact hb, List.pairwise_singleton _ _⟩, fun a ha b hb' => ?_⟩, fun j hj => ?_⟩
        · have := i2 a ha
          simp only [List.mem_cons, List.not_mem_nil, or_false] at hb'
          omega
        · rcases List.mem_append.mp hj with hj | hj
          · have := i2 j hj
            omega
          · simp only [List.mem_cons, List.not_mem_nil, or_false] at hj
            omega
theorem sight_len {pl : List Stp} (h : WB pl) (n : Nat) (hn : n < pl.length) : (sight pl n).length ≤ n + 1 := by
  induction n using Nat.strongRecOn with
  | ind n ih =>
    by_cases h0 : n = 0
    · subst h0
      exact Nat.le_refl 1
    · have hp := Nat.pos_of_ne_zero h0
      have hb := h.bk_lt hp hn
      by_cases h1 : bk pl n = 0
      · rw [sight_one hp h1]
        show 2 ≤ n + 1
        omega
      · have := ih (bk pl n - 1) (by omega) (by omega)
        rw [sight_more h hp hn h1, List.length_append]
        show _ + 2 ≤ n + 1
        omega
/-- each back is in sight -/
def WS (pl : List Stp) : Prop := ∀ n, 0 < n → n < pl.length → bk pl n ∈ sight pl (n - 1)
/-- closed under backs -/
def Cl (pl : List Stp) (ns : List Nat) : Prop := ∀ n ∈ ns, n < pl.length ∧ (n = 0 ∨ bk pl n ∈ ns)
theorem sight_cl {pl : List Stp} (h : WB pl) (w : WS pl) : ∀ n, n < pl.length → Cl pl (sight pl n) := by
  intro n
  induction n using Nat.strongRecOn with
  | ind n ih =>
    intro hn
    by_cases h0 : n = 0
    · subst h0
      intro m hm
      rw [List.mem_singleton.mp hm]
      exact ⟨hn, .inl rfl⟩
    · have hp := Nat.pos_of_ne_zero h0
      have hb := h.bk_lt hp hn
      by_cases h1 : bk pl n = 0
      · rw [sight_one hp h1]
        intro m hm
        simp only [List.mem_cons, List.not_mem_nil, or_false] at hm
        rcases hm with rfl | rfl
        · exact ⟨by omega, .inl rfl⟩
        · exact ⟨hn, .inr (by rw [h1]; exact List.mem_cons_self ..)⟩
      · have i := ih (bk pl n - 1) (by omega) (by omega)
        rw [sight_more h hp hn h1]
        intro m hm
        rcases List.mem_append.mp hm with hm | hm
        · obtain ⟨i1, i2⟩ := i m hm
          exact ⟨i1, i2.imp id (List.mem_append_left _)⟩
        · simp only [List.mem_cons, List.not_mem_nil, or_false] at hm
          rcases hm with rfl | rfl
          · exact ⟨by omega, .inr (List.mem_append_left _ (w _ (Nat.pos_of_ne_zero h1) (by omega)))⟩
          · exact ⟨hn, .inr (List.mem_append_right _ (List.mem_cons_self ..))⟩
/-! ### alone -/
def apS (pl : List Stp) (ns : List Nat) (n : Nat) : Stp := ⟨((pl[n]?).map Stp.mv).getD (.say 0), ((pl[n]?).bind Stp.back).map fun j => ns.idxOf j⟩
def apart (pl : List Stp) (ns : List Nat) : List Stp := ns.map (apS pl ns)
end Pk

set_option maxRecDepth 100000
set_option maxHeartbeats 1000000
/-! one list of signs for each datum, so that sorting data is sorting these lists -/
namespace Pk
open PySem PySem.Spec PyProof.Rows L2
open PySem.SeqAt
abbrev LX := PyProof.Rows.lexLt itemOrd
mutual
def tkD : D → List (Int ⊕ List Nat)
  | .at (.bl b) => [.inl (b2i b)]
  | .at (.int i) => [.inl i]
  | .at (.str x) => [.inr x.cps.toList]
  | .at _ => []
  | .lst => []
  | .tup ts => tkDs ts
def tkDs : List D → List (Int ⊕ List Nat)
  | [] => [.inl 0]
  | t :: r => .inl 1 :: (tkD t ++ tkDs r)
end
theorem str_ext {x y : Str} (h : x.cps.toList = y.cps.toList) : x = y := by
  cases x
  cases y
  exact congrArg _ (Array.toList_inj.mp h)
theorem int_eqv' (i j : Int) : PyData.eqv (.int i) (.int j) = decide (i = j) := by
  rw [PyData.eqv]
  by_cases h : i = j
  · rw [h, decide_eq_true rfl]
    exact beq_self_eq_true _
  · rw [decide_eq_false h]
    exact beq_eq_false_iff_ne.mpr h
theorem b2i_inj {a b : Bool} (h : b2i a = b2i b) : a = b := by
  cases a <;> cases b <;> first | rfl | exact absurd h (by decide)
mutual
theorem tk_lex : ∀ (d e : D), noLd d = true → noLd e = true → cpb (toPy d) (toPy e) = true → ∀ x y, LX (tkD d ++ x) (tkD e ++ y) = if PyData.eqv (toPy d) (toPy e) = true then LX x y else dlt (toPy d) (toPy e)
  | .lst, _, h, _, _, _, _ => by cases h
  | .at v, .lst, _, h, _, _, _ => by cases h
  | .at v, .at u, _, _, h, x, y => by
    cases v with
    | bl a =>
      cases u with
      | bl b =>
        show LX (.inl (b2i a) :: x) (.inl (b2i b) :: y) = if PyData.eqv (.bool a) (.bool b) = true then LX x y else decide (b2i a < b2i b)
        by_cases e : a = b
        · subst e
          rw [if_pos (by cases a <;> simp [PyData.eqv])]
          exact lex_self _ _ _
        · rw [if_neg (by intro z; apply e; cases a <;> cases b <;> simp_all [PyData.eqv])]
          exact lex_diff (O := itemOrd) (by intro z; injection z with z; exact e (b2i_inj z))
      | _ => cases h
    | int i =>
      cases u with
      | int j =>
        show LX (.inl i :: x) (.inl j :: y) = if PyData.eqv (.int i) (.int j) = true then LX x y else decide (i < j)
        rw [int_eqv']
        by_cases e : i = j
        · subst e
          rw [decide_eq_true rfl, if_pos rfl]
          exact lex_self _ _ _
        · rw [decide_eq_false e, if_neg Bool.false_ne_true]
          exact lex_diff (O := itemOrd) (by intro z; injection z with z; exact e z)
      | _ => cases h
    | str a =>
      cases u with
      | str b =>
        show LX (.inr a.cps.toList :: x) (.inr b.cps.toList :: y) = if PyData.eqv (.str a) (.str b) = true then LX x y else decide (a.cps.toList < b.cps.toList)
        by_cases e : a = b
        · subst e
          rw [if_pos (by simp [PyData.eqv])]
          exact lex_self _ _ _
        · rw [if_neg (by intro z; exact e (by simpa [PyData.eqv] using z))]
          refine (lex_diff (O := itemOrd) (by intro z; injection z with z; exact e (str_ext z))).trans ?_
          rfl
      | _ => cases h
    | non =>
      cases u with
      | bl _ => cases h
      | int _ => cases h
      | str _ => cases h
      | _ =>
        show LX x y = if PyData.eqv .none .none = true then LX x y else _
        rw [if_pos (by simp [PyData.eqv])]
    | byt _ =>
      cases u with
      | bl _ => cases h
      | int _ => cases h
      | str _ => cases h
      | _ =>
        show LX x y = if PyData.eqv .none .none = true then LX x y else _
        rw [if_pos (by simp [PyData.eqv])]
    | flt _ =>
      cases u with
      | bl _ => cases h
      | int _ => cases h
      | str _ => cases h
      | _ =>
        show LX x y = if PyData.eqv .none .none = true then LX x y else _
        rw [if_pos (by simp [PyData.eqv])]
    | ref _ =>
      cases u with
      | bl _ => cases h
      | int _ => cases h
      | str _ => cases h
      | _ =>
        show LX x y = if PyData.eqv .none .none = true then LX x y else _
        rw [if_pos (by simp [PyData.eqv])]
    | ty _ =>
      cases u with
      | bl _ => cases h
      | int _ => cases h
      | str _ => cases h
      | _ =>
        show LX x y = if PyData.eqv .none .none = true then LX x y else _
        rw [if_pos (by simp [PyData.eqv])]
  | .at v, .tup _, _, _, h, _, _ => by cases v <;> cases h
  | .tup _, .at v, _, _, h, _, _ => by cases v <;> cases h
  | .tup _, .lst, _, h, _, _, _ => by cases h
  | .tup ts, .tup us, h1, h2, h, x, y => by
    show LX (tkDs ts ++ x) (tkDs us ++ y) = if PyData.eqvAll (toPys ts) (toPys us) = true then LX x y else dlts (toPys ts) (toPys us)
    exact tk_lexs ts us h1 h2 h x y
theorem tk_lexs : ∀ (d e : List D), noLds d = true → noLds e = true → cpbs (toPys d) (toPys e) = true → ∀ x y, LX (tkDs d ++ x) (tkDs e ++ y) = if PyData.eqvAll (toPys d) (toPys e) = true then LX x y else dlts (toPys d) (toPys e)
  | [], [], _, _, _, x, y => by
    show LX (.inl 0 :: x) (.inl 0 :: y) = _
    rw [show PyData.eqvAll (toPys []) (toPys []) = true by simp [toPys, PyData.eqvAll], if_pos rfl]
    exact lex_self _ _ _
  | [], b :: bs, _, _, _, x, y => by
    show LX (.inl 0 :: x) (.inl 1 :: ((tkD b ++ tkDs bs) ++ y)) = _
    rw [show PyData.eqvAll (toPys []) (toPys (b :: bs)) = false by simp [toPys, PyData.eqvAll], if_neg Bool.false_ne_true]
    refine (lex_diff (O := itemOrd) (by intro z; injection z with z; exact absurd z (by decide))).trans ?_
    rfl
  | a :: as, [], _, _, _, x, y => by
    show LX (.inl 1 :: ((tkD a ++ tkDs as) ++ x)) (.inl 0 :: y) = _
    rw [show PyData.eqvAll (toPys (a :: as)) (toPys []) = false by simp [toPys, PyData.eqvAll], if_neg Bool.false_ne_true]
    refine (lex_diff (O := itemOrd) (by intro z; injection z with z; exact absurd z (by decide))).trans ?_
    rfl
  | a :: as, b :: bs, h1, h2, h, x, y => by
    have k1 := Bool.and_eq_true_iff.mp h1
    have k2 := Bool.and_eq_true_iff.mp h2
    obtain ⟨c1, c2⟩ := cpbs_cons (x := toPy a) (y := toPy b) (xs := toPys as) (ys := toPys bs) h
    show LX (.inl 1 :: ((tkD a ++ tkDs as) ++ x)) (.inl 1 :: ((tkD b ++ tkDs bs) ++ y)) = if PyData.eqvAll (toPy a :: toPys as) (toPy b :: toPys bs) = true then LX x y else dlts (toPy a :: toPys as) (toPy b :: toPys bs)
    rw [show LX (.inl 1 :: ((tkD a ++ tkDs as) ++ x)) (.inl 1 :: ((tkD b ++ tkDs bs) ++ y)) = LX ((tkD a ++ tkDs as) ++ x) ((tkD b ++ tkDs bs) ++ y) from lex_self _ _ _, List.append_assoc, List.append_assoc, tk_lex a b k1.1 k2.1 c1, PyData.eqvAll, dlts]
    cases e : PyData.eqv (toPy a) (toPy b) with
    | true =>
      rw [if_pos rfl, if_pos rfl, Bool.true_and]
      exact tk_lexs as bs k1.2 k2.2 (c2 e) x y
    | false => rw [if_neg Bool.false_ne_true, Bool.false_and, if_neg Bool.false_ne_true, if_neg Bool.false_ne_true]
end
mutual
theorem tk_inj : ∀ d e : D, toPy d = toPy e → tkD d = tkD e
  | .lst, e, h => by
    cases e with
    | lst => rfl
    | tup _ => cases h
    | «at» v => cases v <;> first | rfl | cases h
  | .at v, e, h => by
    cases e with
    | lst => cases v <;> first | rfl | cases h
    | tup _ => cases v <;> cases h
    | «at» u =>
      cases v <;> cases u <;> first
        | rfl
        | (cases h; done)
        | (cases h; rfl)
  | .tup ts, e, h => by
    cases e with
    | lst => cases h
    | «at» v => cases v <;> cases h
    | tup us =>
      injection h with h
      exact tks_inj ts us h
theorem tks_inj : ∀ d e : List D, toPys d = toPys e → tkDs d = tkDs e
  | [], [], _ => rfl
  | [], _ :: _, h => by cases h
  | _ :: _, [], h => by cases h
  | a :: as, b :: bs, h => by
    injection h with h1 h2
    show Sum.inl 1 :: (tkD a ++ tkDs as) = .inl 1 :: (tkD b ++ tkDs bs)
    rw [tk_inj a b h1, tks_inj as bs h2]
end
mutual
theorem dlt_eqv : ∀ x y : PyData, PyData.eqv x y = true → cpb x y = true → dlt x y = false
  | .bool a, .bool b, h, _ => by cases a <;> cases b <;> simp_all [PyData.eqv, dlt, b2i]
  | .int a, .int b, h, _ => by
    rw [int_eqv'] at h
    rw [of_decide_eq_true h, dlt]
    exact decide_eq_false (by omega)
  | .str a, .str b, h, _ => by
    have e : a = b := by simpa [PyData.eqv] using h
    rw [e, dlt]
    exact decide_eq_false (List.lt_irrefl _)
  | .tuple as, .tuple bs, h, hc => by
    rw [dlt]
    exact dlts_eqv as bs (by rw [PyData.eqv] at h; exact h) (by rw [cpb] at hc; exact hc)
  | .none, y, _, hc => by cases y <;> first | rfl | cases hc
  | .list _, y, _, hc => by cases y <;> cases hc
  | .dict _, y, _, hc => by cases y <;> cases hc
  | .bool _, .none, _, hc => by cases hc
  | .bool _, .int _, _, hc => by cases hc
  | .bool _, .str _, _, hc => by cases hc
  | .bool _, .tuple _, _, hc => by cases hc
  | .bool _, .list _, _, hc => by cases hc
  | .bool _, .dict _, _, hc => by cases hc
  | .int _, .none, _, hc => by cases hc
  | .int _, .bool _, _, hc => by cases hc
  | .int _, .str _, _, hc => by cases hc
  | .int _, .tuple _, _, hc => by cases hc
  | .int _, .list _, _, hc => by cases hc
  | .int _, .dict _, _, hc => by cases hc
  | .str _, .none, _, hc => by cases hc
  | .str _, .bool _, _, hc => by cases hc
  | .str _, .int _, _, hc => by cases hc
  | .str _, .tuple _, _, hc => by cases hc
  | .str _, .list _, _, hc => by cases hc
  | .str _, .dict _, _, hc => by cases hc
  | .tuple _, .none, _, hc => by cases hc
  | .tuple _, .bool _, _, hc => by cases hc
  | .tuple _, .int _, _, hc => by cases hc
  | .tuple _, .str _, _, hc => by cases hc
  | .tuple _, .list _, _, hc => by cases hc
  | .tuple _, .dict _, _, hc => by cases hc
theorem dlts_eqv : ∀ xs ys : List PyData, PyData.eqvAll xs ys = true → cpbs xs ys = true → dlts xs ys = false
  | [], [], _, _ => rfl
  | [], _ :: _, h, _ => by rw [PyData.eqvAll] at h; cases h
  | _ :: _, [], h, _ => by rw [PyData.eqvAll] at h; cases h
  | x :: xs, y :: ys, h, hc => by
    rw [PyData.eqvAll, Bool.and_eq_true] at h
    obtain ⟨c1, c2⟩ := cpbs_cons hc
    rw [dlts, if_pos h.1]
    exact dlts_eqv xs ys h.2 (c2 h.1)
end
/-- sorting data of a class whose members compare -/
theorem encU {β : Type} {dat : β → D} {ok : β → Prop} (nol : ∀ b, ok b → noLd (dat b) = true) (dp : ∀ b, ok b → dep (dat b) ≤ 30) (tup : ∀ b, ok b → ∃ x r, dat b = .tup (.tup x :: r))
    (cp : ∀ b c, ok b → ok c → cpb (toPy (dat b)) (toPy (dat c)) = true) : Enc dat (fun b => tkD (dat b)) ok where
  nol := nol
  dep := dp
  inj := fun b c _ _ h => tk_inj _ _ h
  tup := tup
  cmp := fun b c hb hc => by
    have h := cp b c hb hc
    refine ⟨h, ?_⟩
    have z := tk_lex (dat b) (dat c) (nol b hb) (nol c hc) h [] []
    rw [List.append_nil, List.append_nil] at z
    refine Eq.trans ?_ z.symm
    cases e : PyData.eqv (toPy (dat b)) (toPy (dat c)) with
    | true =>
      rw [if_pos rfl, dlt_eqv _ _ e h]
      rfl
    | false => rw [if_neg Bool.false_ne_true]
end Pk

set_option maxRecDepth 100000
set_option maxHeartbeats 1000000
/-! dicts whose keys are data: tuples of numbers, texts, None, truth values, and of such -/
namespace Pk
open PySem PySem.Spec PyProof.Rows L2
mutual
/-- data as a key -/
def kyD : D → NestedKey
  | .at .non => .none
  | .at (.int i) => .num i
  | .at (.str x) => .text x
  | .at (.bl b) => .num (if b = true then 1 else 0)
  | .at _ => .none
  | .lst => .none
  | .tup ts => .tup (kyDs ts)
def kyDs : List D → List NestedKey
  | [] => []
  | t :: r => kyD t :: kyDs r
end
mutual
theorem ky_depth : ∀ d : D, (kyD d).depth ≤ dep d + 1
  | .at v => by cases v <;> exact Nat.zero_le _
  | .lst => Nat.zero_le _
  | .tup ts => Nat.succ_le_succ (ky_depths ts)
theorem ky_depths : ∀ l : List D, NestedKey.depthAll (kyDs l) ≤ deps l
  | [] => Nat.le_refl _
  | t :: r => by
    have h1 := ky_depth t
    have h2 := ky_depths r
    show max (kyD t).depth (NestedKey.depthAll (kyDs r)) ≤ max (dep t + 1) (deps r)
    omega
end
section
variable {X : Cx} {pins : List (Addr × Obj)} {σ : L2.St} {H : Hp} {s : Shared}
mutual
theorem nest_is (I : Inv X pins σ H s) : ∀ {v : V} {d : D} {u : Value}, Rep X.K H v d → noLd d = true → RelV v u → NestedIs s.heap (kyD d) u
  | v, _, u, .at h, _, r => by
    cases v with
    | non => cases r; exact .none
    | bl b => cases r; exact .bool rfl
    | int i => obtain ⟨t, rfl⟩ := r; exact .int _ _
    | str x => obtain ⟨t, rfl⟩ := r; exact .text _ _
    | byt _ => cases h
    | flt _ => cases h
    | ref _ => cases h
    | ty _ => cases h
  | _, _, _, .lst _, k, _ => by cases k
  | _, _, u, .tup h rs, k, r => by
    obtain ⟨its, rv, p, hz⟩ := I.tuple h.sq
    obtain ⟨⟨cls, dd, data, sl⟩, ho, hc, n, hd⟩ := p
    cases r
    exact .tup ho hc hd (nest_all I rs k rv)
theorem nest_all (I : Inv X pins σ H s) : ∀ {xs : List V} {ds : List D} {us : List Value}, Reps X.K H xs ds → noLds ds = true → Vals xs us → NestedAll s.heap (kyDs ds) us
  | _, _, _, .nil, _, rv => by cases rv; exact .nil
  | _, _, _, .cons h rs, k, rv => by
    have k' := Bool.and_eq_true_iff.mp k
    cases rv with
    | cons r0 rv => exact .cons (nest_is I h k'.1 r0) (nest_all I rs k'.2 rv)
end
end
/-- the tuple at b is the key k -/
def KeyAt (K : PySem.W.Frag) (H : Hp) (k : NestedKey) (b : Addr) : Prop := ∃ d, Rep K H (.ref b) d ∧ noLd d = true ∧ dep d ≤ 7 ∧ kyD d = k
theorem KeyAt.mono {K : PySem.W.Frag} {H H' : Hp} {k : NestedKey} {b : Addr} (x : KeyAt K H k b) (m : Kx H H') : KeyAt K H' k b :=
  let ⟨d, r, n, z, e⟩ := x; ⟨d, r.mono m, n, z, e⟩
theorem KeyAt.is {X : Cx} {pins : List (Addr × Obj)} {σ : L2.St} {H : Hp} {s : Shared} {k : NestedKey} {b : Addr} (I : Inv X pins σ H s) (x : KeyAt X.K H k b) : (nestedKind X.prog X.w).is s.heap k b := by
  obtain ⟨d, r, n, z, rfl⟩ := x
  refine ⟨nest_is I r n rfl, ?_⟩
  have := ky_depth d
  omega
abbrev Ent := NestedKey × Addr × V
abbrev QR : List Ent → List (NestedKey × Addr × Value) → Prop := Paired fun p q => p.1 = q.1 ∧ p.2.1 = q.2.1 ∧ RelV p.2.2 q.2.2
def atV (xs : List Ent) (k : NestedKey) : Option V := (xs.find? fun x => decide (x.1 = k)).map (·.2.2)
def putV (xs : List Ent) (k : NestedKey) (a : Addr) (v : V) : List Ent :=
  if (atV xs k).isSome then xs.map (fun x => if x.1 = k then (x.1, x.2.1, v) else x) else xs ++ [(k, a, v)]
theorem QR.val : ∀ {xs : List Ent} {vs : List (NestedKey × Addr × Value)}, QR xs vs → ∀ k, RelO (atV xs k) ((atKey vs k).map (·.2))
  | _, _, .nil, k => True.intro
  | x :: xs, y :: vs, .cons ⟨h1, h2, h3⟩ t, k => by
    have ih := QR.val t k
    unfold atV atKey at ih ⊢
    rw [List.find?_cons, List.find?_cons, ← h1]
    by_cases e : x.1 = k
    · rw [decide_eq_true e]
      exact h3
    · rw [decide_eq_false e]
      exact ih
theorem QR.repl {k : NestedKey} {v : V} {r : Value} (rv : RelV v r) : ∀ {xs : List Ent} {vs : List (NestedKey × Addr × Value)}, QR xs vs → QR (xs.map (fun x => if x.1 = k then (x.1, x.2.1, v) else x)) (vs.map (putAt k r))
  | _, _, .nil => .nil
  | x :: xs, y :: vs, .cons ⟨h1, h2, h3⟩ t => by
    refine .cons ?_ (QR.repl rv t)
    unfold putAt
    dsimp only
    rw [← h1]
    by_cases e : x.1 = k
    · rw [if_pos e, if_pos e]
      exact ⟨rfl, h2, rv⟩
    · rw [if_neg e, if_neg e]
      exact ⟨h1, h2, h3⟩
theorem QR.app : ∀ {xs xs' : List Ent} {vs vs' : List (NestedKey × Addr × Value)}, QR xs vs → QR xs' vs' → QR (xs ++ xs') (vs ++ vs')
  | _, _, _, _, .nil, s => s
  | _, _, _, _, .cons h t, s => .cons h (QR.app t s)
theorem isSome_val {o : Option V} {u : Option (Addr × Value)} (h : RelO o (u.map (·.2))) : o.isSome = u.isSome := by
  have := h.isSome_eq
  rwa [Option.isSome_map] at this
theorem QR.put {xs : List Ent} {vs : List (NestedKey × Addr × Value)} (q : QR xs vs) (k : NestedKey) (a : Addr) {v : V} {r : Value} (rv : RelV v r) : QR (putV xs k a v) (storedH vs k a r) := by
  have e := isSome_val (q.val k)
  unfold putV storedH
  rw [e]
  by_cases h : (atKey vs k).isSome = true
  · rw [if_pos h, if_pos h]
    exact q.repl rv
  · rw [if_neg h, if_neg h]
    exact q.app (.cons ⟨rfl, rfl, rv⟩ .nil)
theorem QR.length {xs : List Ent} {vs : List (NestedKey × Addr × Value)} (q : QR xs vs) : xs.length = vs.length := Paired.length q
theorem length_putV (xs : List Ent) (k : NestedKey) (a : Addr) (v : V) : (putV xs k a v).length ≤ xs.length + 1 := by
  unfold putV
  split
  · rw [List.length_map]
    omega
  · rw [List.length_append]
    exact Nat.le_refl _
/-- at a: a dict of these keys, their tuples, their values -/
def DkR (P : Program) (w : World) (a : Addr) (xs : List Ent) (h : Heap) : Prop :=
  (a == sysModules) = false ∧ ∃ vs, QR xs vs ∧ ∃ o es ep, h.get? a = some o ∧ o.ExactDict ∧ o.data = .dict es ep ∧ es.toList = vs.map (entryOfKey (nestedKind P w)) ∧ (vs.map (·.1)).Nodup
def DkO (P : Program) (w : World) (a : Addr) (xs : List Ent) : HO := .ext (DkR P w a xs)
theorem dk_ok {P : Program} {w : World} {H : Hp} {h : Heap} {a : Addr} {xs : List Ent} (r : DkR P w a xs h) : ObjOk P w H h a (DkO P w a xs) := by
  have r' := r
  obtain ⟨h1, vs, q, o, es, ep, h2, h3⟩ := r
  refine ⟨r', ⟨o, h2⟩, fun x y p k => ?_⟩
  obtain ⟨g1, vs, q, o, es, ep, g2, g3⟩ := p
  exact ⟨g1, vs, q, o, es, ep, k _ g2, g3⟩
/-- a dict that may be read at a, its keys as tuples that stand -/
structure DkT (P : Program) (w : World) (K : PySem.W.Frag) (H : Hp) (a : Addr) (xs : List Ent) : Prop where
  rd : Rd H a (DkO P w a xs)
  ks : ∀ e ∈ xs, KeyAt K H e.1 e.2.1
section
variable {X : Cx} {pins : List (Addr × Obj)} {σ : L2.St} {H : Hp} {s : Shared} {a : Addr} {xs : List Ent}
theorem DkT.of (I : Inv X pins σ H s) (d : DkT X.prog X.w X.K H a xs) : (a == sysModules) = false ∧ ∃ vs, QR xs vs ∧ s.heap.DictOfH (nestedKind X.prog X.w) a vs := by
  obtain ⟨h1, vs, q, o, es, ep, h2, h3, h4, h5, h6⟩ := (d.rd.ok I.hok).1
  refine ⟨h1, vs, q, o, es, ep, h2, h3, h4, h5, fun y hy => ?_, h6⟩
  obtain ⟨j, hj⟩ := List.mem_iff_getElem?.mp hy
  have lq := q.length
  have hl := (List.getElem?_eq_some_iff.mp hj).1
  have hx : xs[j]? = some (xs[j]'(by omega)) := List.getElem?_eq_getElem _
  obtain ⟨b, hb, e1, e2, _⟩ := paired_get q hx
  rw [hj] at hb
  cases hb
  have := (d.ks _ (List.mem_of_getElem? hx)).is I
  rw [e1, e2] at this
  exact this
theorem DkT.put_ok {h' : Heap} {k : NestedKey} {b : Addr} {v : V} {r : Value} {vs : List (NestedKey × Addr × Value)} (P : Program) (w : World) (q : QR xs vs) (rv : RelV v r) (hd : (a == sysModules) = false) (d : h'.DictOfH (nestedKind P w) a (storedH vs k b r)) {H' : Hp} : ObjOk P w H' h' a (DkO P w a (putV xs k b v)) := by
  obtain ⟨o, es, ep, h2, h3, h4, h5, _, h6⟩ := d
  exact dk_ok ⟨hd, _, q.put k b rv, o, es, ep, h2, h3, h4, h5, h6⟩
end
/-! ### {} -/
section
variable {X : Cx}
def tDkNew (P : Program) (w : World) : TE := fun _ H Q => ∀ p, H p = none → Q (.ref p) (upd H p (DkO P w p []))
theorem pe_dkNew {pos : Pos} : PE X (.Dict [] [] pos) (tDkNew X.prog X.w) := ⟨fun pins s σ H Q I h =>
  wpAny_Dict_empty ⟨.ref s.heap.objs.size, _, I.laid (a := s.heap.objs.size) (o := DkO X.prog X.w s.heap.objs.size []) (t' := s.toks) (fun _ _ q => Heap.get?_push_of_some _ q) (Nat.le_refl _)
    (dk_ok ⟨beq_eq_false_iff_ne.mpr (Ne.symm (Nat.ne_of_lt I.big)), [], .nil, _, #[], 0, Heap.get?_push_size _ rfl, ⟨rfl, rfl, rfl⟩, rfl, rfl, List.nodup_nil⟩), rfl, h _ (I.hok.fresh (Nat.le_refl _))⟩⟩
variable {o i value : Expr} {td ty tv : TE} {pos pos' : Pos}
/-! ### d[k] -/
def tDkGet (P : Program) (w : World) (K : PySem.W.Frag) (td ty : TE) : TE := fun σ H Q => td σ H fun x H1 => ty σ H1 fun y H2 => ∃ (a b : Addr) (xs : List Ent) (k : NestedKey) (v : V), x = .ref a ∧ y = .ref b ∧ DkT P w K H2 a xs ∧ KeyAt K H2 k b ∧ atV xs k = some v ∧ Q v H2
theorem room8 {A : Around} (hu : A.units + 64 < cLine) : A.in1.units + 8 < cLine := by
  show A.units + 1 + 8 < cLine
  omega
theorem pe_dkGet (hu : X.A.units + 64 < cLine) (ho : PE X o td) (hi : PE X i ty) (hs : NoSl i) : PE X (.Subscript o i pos) (tDkGet X.prog X.w X.K td ty) := by
  refine ⟨fun pins s σ H Q I h => ?_⟩
  refine subD_of PySem.F.slot_dict_getitem.lookup hs (thn (ho.run pins s σ H _ I h) fun u s1 ⟨x, H1, I1, rx, q1⟩ => thn (hi.run pins s1 σ H1 _ I1 q1) fun iv s2 ⟨y, H2, I2, ry, a, b, xs, k, v, ex, ey, hd, hk, hv, q2⟩ => ?_)
  subst ex ey
  obtain rfl : u = Value.ref a := rx
  obtain rfl : iv = Value.ref b := ry
  obtain ⟨h1, vs, q, dd⟩ := hd.of I2
  have z := q.val k
  rw [hv] at z
  obtain ⟨w', hw, rw'⟩ := RelO.some_of (v := v) (o := (atKey vs k).map (·.2)) z
  obtain ⟨p, hp, hp2⟩ := Option.map_eq_some_iff.mp hw
  refine ⟨dd.typeIs, wpAny_getItem_heap (knd := nestedKind X.prog X.w) (room8 hu) (hk.is I2) dd hp ?_⟩
  rw [hp2]
  exact ⟨v, H2, I2.tok _, rw', q2⟩
/-! ### d.get(k) -/
def tDkGet1 (P : Program) (w : World) (K : PySem.W.Frag) (td ty : TE) : TE := fun σ H Q => td σ H fun x H1 => ∃ (a : Addr) (xs : List Ent), x = .ref a ∧ DkT P w K H1 a xs ∧ ty σ H1 fun y H2 => ∃ (b : Addr) (xs : List Ent) (k : NestedKey), y = .ref b ∧ DkT P w K H2 a xs ∧ KeyAt K H2 k b ∧ Q ((atV xs k).getD .non) H2
theorem pe_dkGet1 {e : Expr} {apos cpos : Pos} (hu : X.A.units + 64 < cLine) (ho : PE X o td) (he : PE X e ty) (m : M1 X o "get" apos e cpos) : PE X (.Call (.Attribute o "get" apos) [e] [] cpos) (tDkGet1 X.prog X.w X.K td ty) := by
  refine ⟨fun pins s σ H Q I h => ?_⟩
  refine wpAny_Call_method m.base m.few m.line PySem.F.plainAttrs_dict PySem.F.slot_dict_get PySem.F.type_dict_get (thn (ho.run pins s σ H _ I h) fun u s1 ⟨x, H1, I1, rx, a, xs1, ex, d, q1⟩ => ?_)
  subst ex
  obtain rfl : u = Value.ref a := rx
  obtain ⟨g1, vs1, g2, g3⟩ := d.of I1
  refine ⟨g3.typeIs, fun c q => ?_, ?_⟩
  · cases q
    obtain ⟨ob, _, _, h1, h2, _⟩ := g3
    exact ⟨ob, h1, h2.2.1⟩
  rw [m.trees]
  refine Calls.callWith_builtin rfl (Calls.evalArgs_plain (Calls.spliced_cons (thn (he.run pins s1 σ H1 _ I1 q1) fun iv s2 ⟨y, H2, I2, ry, b, xs, k, ey, hd, hk, q2⟩ => Calls.spliced_nil ?_)))
  subst ey
  obtain rfl : iv = Value.ref b := ry
  obtain ⟨h1, vs, q, dd⟩ := hd.of I2
  refine call_meetsIn PySem.F.slot_dict_get dd.typeIs PySem.F.entry_dict_get (PySem.F.args_dict_get_2 _ _) (meetsH_dict_get (nestedKind X.prog X.w) a b h1) ⟨room8 (A := X.A) (by omega), k, vs, hk.is I2, dd, ⟨_, H2, I2.tok _, ?_, q2⟩⟩
  exact (q.val k).getD rfl
/-! ### k in d, k not in d -/
def tDkIn (P : Program) (w : World) (K : PySem.W.Frag) (neg : Bool) (ty td : TE) : TE := fun σ H Q => ty σ H fun y H1 => td σ H1 fun x H2 => ∃ (a b : Addr) (xs : List Ent) (k : NestedKey), x = .ref a ∧ y = .ref b ∧ DkT P w K H2 a xs ∧ KeyAt K H2 k b ∧ Q (.bl (if neg = true then !(atV xs k).isSome else (atV xs k).isSome)) H2
theorem pc_dkIn (hu : X.A.units + 64 < cLine) (hi : PE X i ty) (ho : PE X o td) : PC X .In i o (tDkIn X.prog X.w X.K false ty td) := by
  refine ⟨fun pins s σ H Q I h => ?_⟩
  refine thn (hi.run pins s σ H _ I h) fun iv s1 ⟨y, H1, I1, ry, q1⟩ => thn (ho.run pins s1 σ H1 _ I1 q1) fun u s2 ⟨x, H2, I2, rx, a, b, xs, k, ex, ey, hd, hk, q2⟩ => ?_
  subst ex ey
  obtain rfl : u = Value.ref a := rx
  obtain rfl : iv = Value.ref b := ry
  obtain ⟨h1, vs, q, dd⟩ := hd.of I2
  refine wpAny_in_heap (knd := nestedKind X.prog X.w) (room8 hu) (hk.is I2) h1 dd ?_
  rw [← isSome_val (q.val k)]
  exact ⟨.bl (atV xs k).isSome, H2, I2.tok _, rfl, q2⟩
theorem pc_dkNotIn (hu : X.A.units + 64 < cLine) (hi : PE X i ty) (ho : PE X o td) : PC X .NotIn i o (tDkIn X.prog X.w X.K true ty td) := by
  refine ⟨fun pins s σ H Q I h => ?_⟩
  refine thn (hi.run pins s σ H _ I h) fun iv s1 ⟨y, H1, I1, ry, q1⟩ => thn (ho.run pins s1 σ H1 _ I1 q1) fun u s2 ⟨x, H2, I2, rx, a, b, xs, k, ex, ey, hd, hk, q2⟩ => ?_
  subst ex ey
  obtain rfl : u = Value.ref a := rx
  obtain rfl : iv = Value.ref b := ry
  obtain ⟨h1, vs, q, dd⟩ := hd.of I2
  refine wpAny_notIn_heap (knd := nestedKind X.prog X.w) (room8 hu) (hk.is I2) h1 dd ?_
  rw [← isSome_val (q.val k)]
  exact ⟨.bl (!(atV xs k).isSome), H2, I2.tok _, rfl, q2⟩
/-! ### d[k] = v -/
def tDkPut (P : Program) (w : World) (K : PySem.W.Frag) (td ty tv : TE) : TS := fun D σ H => tv σ H fun v H1 => td σ H1 fun x H2 => ty σ H2 fun y H3 => ∃ (a b : Addr) (xs : List Ent) (k : NestedKey), x = .ref a ∧ y = .ref b ∧ H3 a = some (DkO P w a xs) ∧ (∀ e ∈ xs, KeyAt K H3 e.1 e.2.1) ∧ KeyAt K H3 k b ∧ xs.length < 1000000 ∧ D.nx σ (upd H3 a (DkO P w a (putV xs k b v)))
theorem ps_dkPut (hu : X.A.units + 64 < cLine) (ho : PE X o td) (hi : PE X i ty) (hv : PE X value tv) (hs : swapsWith value (some (.Subscript o i pos')) pos.line X.env = pure false) : PS X (.Assign [.Subscript o i pos'] value pos) (tDkPut X.prog X.w X.K td ty tv) := by
  refine ⟨fun pins s σ H D I h => ?_⟩
  refine wpAny_Assign_Subscript (thn (hv.run pins s σ H _ I h) fun r s1 ⟨v, H1, I1, rv, q1⟩ => thn (ho.run pins s1 σ H1 _ I1 q1) fun u s2 ⟨x, H2, I2, rx, q2⟩ => thn (hi.run pins s2 σ H2 _ I2 q2) fun iv s3 ⟨y, H3, I3, ry, a, b, xs, k, ex, ey, ha, hks, hk, hn, q3⟩ => ?_) hs
  subst ex ey
  obtain rfl : u = Value.ref a := rx
  obtain rfl : iv = Value.ref b := ry
  obtain ⟨h1, vs, q, dd⟩ := DkT.of I3 ⟨.inl ha, hks⟩
  have hz : vs.length ≤ sizeLine := by
    rw [← q.length, sizeLine_eq]
    omega
  refine wpAny_setItem_heap (knd := nestedKind X.prog X.w) (hsz := hz) (room8 hu) (hk.is I3) dd fun h' dd' hs' => ?_
  have he : ∃ q, h'.get? a = some q := let ⟨q, _, _, hq, _⟩ := dd'; ⟨q, hq⟩
  exact ⟨σ, _, d_write I3 (by rw [ha]; trivial) hs' he (DkT.put_ok _ _ q rv h1 dd'), q3⟩
end
end Pk

set_option maxRecDepth 100000
set_option maxHeartbeats 1000000
/-! walks over such dicts: sorted(d), list(d), for k in d -/
namespace Pk
open PySem PySem.Spec PyProof.Rows L2
open PySem.W PySem.Calls
theorem raw_lt {h : Heap} {d : Addr} {es : Array DictEntry} {ep : Nat} (x : h.DictRaw d es ep) : d < h.objs.size := let ⟨_, ho, _⟩ := x; Heap.lt_size ho
theorem DkT.raw {X : Cx} {pins : List (Addr × Obj)} {σ : L2.St} {H : Hp} {s : Shared} {a : Addr} {xs : List Ent} (I : Inv X pins σ H s) (d : DkT X.prog X.w X.K H a xs) :
    (a == sysModules) = false ∧ ∃ es ep, s.heap.DictRaw a es ep ∧ es.size = xs.length ∧ (∀ i (hi : i < es.size), ∃ e u, xs[i]? = some e ∧ es[i].key = .ref e.2.1 ∧ RelV e.2.2 u ∧ es[i].val = u) := by
  obtain ⟨h1, vs, q, dd⟩ := d.of I
  obtain ⟨es, ep, h2, h3, h4⟩ := dd.raw
  refine ⟨h1, es, ep, h2, by rw [h3, q.length], fun i hi => ?_⟩
  obtain ⟨y, hy, k1, k2, _⟩ := h4 i hi
  have lq := q.length
  have hl := (List.getElem?_eq_some_iff.mp hy).1
  have hx : xs[i]? = some (xs[i]'(by omega)) := List.getElem?_eq_getElem _
  obtain ⟨b, hb, e1, e2, e3⟩ := paired_get q hx
  rw [hy] at hb
  cases hb
  exact ⟨_, _, hx, by rw [k1, e2], e3, k2⟩
theorem src_raw {prog : Program} {w : World} {d : Addr} {es : Array DictEntry} {ep : Nat} (lo : (d == sysModules) = false) : KdlSrc prog w "dict" d d es.size (fun i v => ∃ hi : i < es.size, v = es[i].key) (fun h => h.DictRaw d es ep) where
  type := fun _ hm => hm.typeIs
  there := fun _ hm => ⟨raw_lt hm, raw_lt hm⟩
  keep := fun _ _ hm hk => hm.at fun o e => hk d (.inl rfl) o e
  notList := by decide
  notTuple := by decide
  hint := fun _ _ _ _ hm hq => kdl_hint_dict hm.typeIs hq
  iter := fun _ _ hh hm => ⟨_, _, (fun _ _ hq => wpAny_pyIter_dict_raw lo hm hq), Walks.rawKeys hh _ d (Nat.ne_of_lt (raw_lt hm)) es ep, ⟨⟨_, Heap.get?_push_size _ rfl, rfl, rfl⟩, hm.at fun _ e => Heap.get?_push_of_some _ e⟩⟩
theorem acc_keys {xs : List Ent} {es : Array DictEntry} {acc : Array Value} (hs : es.size = xs.length) (hx : ∀ i (hi : i < es.size), ∃ e u, xs[i]? = some e ∧ es[i].key = .ref e.2.1 ∧ RelV e.2.2 u ∧ es[i].val = u) (ha : ItemsOf (fun i v => ∃ hi : i < es.size, v = es[i].key) acc es.size) :
    acc.toList = xs.map fun e => Value.ref e.2.1 := by
  refine List.ext_getElem? fun i => ?_
  by_cases hi : i < es.size
  · obtain ⟨e, u, h1, h2, _⟩ := hx i hi
    have hl : i < acc.size := by rw [ha.1]; exact hi
    have e1 : acc[i]? = some acc[i] := Array.getElem?_eq_getElem hl
    obtain ⟨_, h3⟩ := ha.2 i _ e1
    rw [Array.getElem?_toList, e1, List.getElem?_map, h1, h3, h2]
    rfl
  · rw [List.getElem?_eq_none (by rw [Array.length_toList, ha.1]; omega), List.getElem?_eq_none (by rw [List.length_map]; omega)]
theorem vals_keys : ∀ xs : List Ent, Vals (xs.map fun e => V.ref e.2.1) (xs.map fun e => Value.ref e.2.1)
  | [] => .nil
  | _ :: r => .cons rfl (vals_keys r)
section
variable {X : Cx} {β : Type}
def rSortDk (P : Program) (w : World) (K : PySem.W.Frag) (dat : β → D) (tok : β → List (Int ⊕ List Nat)) (ok : β → Prop) : List V → Hp → VK → Prop := fun vs H Q => ∃ (a : Addr) (xs : List Ent) (bs : List β), vs = [V.ref a] ∧ DkT P w K H a xs ∧ xs.length ≤ 1000000 ∧
  Reps K H (xs.map fun e => V.ref e.2.1) (bs.map dat) ∧ (∀ b ∈ bs, ok b) ∧ ∀ (ys : List V) (p : Addr), Reps K H ys ((sortE tok bs).map dat) → H p = none → Q (.ref p) (upd H p (.lst ys))
theorem cr_sortDk {dat : β → D} {tok : β → List (Int ⊕ List Nat)} {ok : β → Prop} (hc : X.calm = true) (hu : X.A.units + 64 < cLine) (N : Enc dat tok ok) : CallR X (.builtin "sorted") (rSortDk X.prog X.w X.K dat tok ok) := by
  intro pins s σ H vs us Q I r h
  obtain ⟨a, xs, bs, rfl, hd, hlen, hr, hok, q⟩ := h
  obtain ⟨u, rfl, ru⟩ := vals1 r
  obtain rfl : u = Value.ref a := ru
  obtain ⟨lo, es, ep, hraw, hes, hx⟩ := hd.raw I
  have hn : es.size ≤ sizeLine := by
    rw [sizeLine_eq]
    omega
  refine call_function_entry kind_sorted plain_sorted entry_sorted (args_sorted1 _) ?_
  unfold Builtin.«sorted»
  refine wpAny_bind (m := checkCount "sorted" 1 1 _) (wpAny_pure ?_)
  refine wpAny_bind (kdu_collect (A := X.A.in1) (src_raw lo) (I.ok.hd hc) hraw hn fun h' tk acc hk hacc => ?_)
  have eacc := acc_keys hes hx hacc
  rw [eacc]
  have I1 : Inv X pins σ H { s with heap := h', toks := tk } := I.kept (t' := tk) hk
  have hl : (xs.map fun e => Value.ref e.2.1).length ≤ sizeLine := by
    rw [List.length_map, ← hes]
    exact hn
  generalize hvs : (xs.map fun e => Value.ref e.2.1) = vs at hl
  have rv : Vals (xs.map fun e => V.ref e.2.1) vs := by
    rw [← hvs]
    exact vals_keys xs
  have each := reps_each I1 hr rv fun b hb => N.nol b (hok b hb)
  refine wpAny_bind (wpAny_newList ?_ hl)
  have ho : (h'.push (seqObj "list" vs.toArray 0)).get? h'.objs.size = some (seqObj "list" vs.toArray 0) := Heap.get?_push_size _ rfl
  have keep : ∀ b o, h'.get? b = some o → (sortingHeap (h'.push (seqObj "list" vs.toArray 0)) h'.objs.size vs).get? b = some o := fun b o e => sortingHeap_old (Nat.ne_of_lt (Heap.lt_size e)) (Heap.get?_push_of_some _ e)
  have S : SortsAt X.prog X.w X.A.in1.in1 { s with heap := sortingHeap (h'.push (seqObj "list" vs.toArray 0)) h'.objs.size vs, toks := tk } (encKind (sortingHeap (h'.push (seqObj "list" vs.toArray 0)) h'.objs.size vs) bs (fun b => toPy (dat b)) tok) vs := by
    refine sortsAt_enc (each.mono fun v b z => ?_) (fun b hb => plain_noL _ (N.nol b (hok b hb))) (fun b hb c hc => N.inj b c (hok b hb) (hok c hc)) (fun b hb => ?_) (fun b hb c hc => N.cmp b c (hok b hb) (hok c hc)) (fun b hb => ?_)
    · obtain ⟨⟨as, r⟩, _⟩ := z
      exact ⟨as, Reads.keeps keep r⟩
    · obtain ⟨x, r, e⟩ := N.tup b (hok b hb)
      rw [e]
      exact ⟨_, _, rfl⟩
    · have h1 := depth_noL (dat b)
      have h2 := N.dep b (hok b hb)
      show X.A.units + 1 + 1 + (toPy (dat b)).depth < cLine
      omega
  have out : EachIs (fun v b => ∃ x, RelV x v ∧ Rep X.K H x (dat b)) (sortVals (encKind (sortingHeap (h'.push (seqObj "list" vs.toArray 0)) h'.objs.size vs) bs (fun b => toPy (dat b)) tok) false vs vs) (sortE tok bs) := by
    refine sortVals_each (κ := encKind (sortingHeap (h'.push (seqObj "list" vs.toArray 0)) h'.objs.size vs) bs (fun b => toPy (dat b)) tok) tok (each.mono fun v b z => z.2) ?_
    refine (each_mem each).mono fun v b z => ?_
    obtain ⟨⟨⟨as, r⟩, _⟩, hb⟩ := z
    exact encKind_some (fun b hb => plain_noL _ (N.nol b (hok b hb))) (fun b hb c hc => N.inj b c (hok b hb) (hok c hc)) hb (Reads.keeps keep r)
  obtain ⟨ys, v1, r1⟩ := each_back out
  have hl2 := v1.length
  rw [sortVals_length _ rfl] at hl2
  obtain ⟨n, hn⟩ := PyProof.Rows.sortedHeap_at (out := (sortVals (encKind (sortingHeap (h'.push (seqObj "list" vs.toArray 0)) h'.objs.size vs) bs (fun b => toPy (dat b)) tok) false vs vs).toArray) ho
  refine wpAny_bind (wpAny_holding (wpAny_call_entry slot_list_sort ⟨_, ho, rfl⟩ entry_list_sort ?_ (args_list_sort _)))
  refine wpAny_mono (list_sort_vals (s := { s with heap := h'.push (seqObj "list" vs.toArray 0), toks := tk }) (P := fun f s' => f = .done (.ret .none) ∧ s' = { s with heap := PyProof.Rows.sortedHeap (h'.push (seqObj "list" vs.toArray 0)) h'.objs.size vs (sortVals (encKind (sortingHeap (h'.push (seqObj "list" vs.toArray 0)) h'.objs.size vs) bs (fun b => toPy (dat b)) tok) false vs vs).toArray, toks := tk }) ho S hl ⟨rfl, rfl⟩) (fun f s' hf => ?_) fun _ _ e => e
  obtain ⟨rfl, rfl⟩ := hf
  refine ⟨_, rfl, wpAny_pure ⟨_, rfl, ?_⟩⟩
  refine ⟨.ref _, _, I1.laid (a := h'.objs.size) (t' := tk) (o := .lst ys) (fun b o e => ?_) (Nat.le_refl _) ⟨by omega, _, n, v1, hn⟩, rfl, q ys _ r1 (I1.hok.fresh (Nat.le_refl _))⟩
  rw [PyProof.Rows.sortedHeap_old (Nat.ne_of_lt (Heap.lt_size e)) (by rw [Heap.size_push]; exact Nat.lt_succ_of_lt (Heap.lt_size e))]
  exact Heap.get?_push_of_some _ e
end
end Pk

set_option maxRecDepth 100000
set_option maxHeartbeats 2000000
/-! a lambda of one parameter, handed to a def behind its first argument and called there -/
namespace Pk
open PySem PySem.Spec PyProof.Rows L2 LamX
/-- one parameter, a plain local; captured names and globals besides -/
structure LamP (sc scope : Scope) (a : Str) : Prop where
  fun_ : scope.kind = .function
  noC : scope.isCoroutine = false
  noG : scope.isGenerator = false
  par : scope.names.lookup a = some .local
  own : ∀ y ∈ scope.names, y.2 ≠ .cell ∧ (y.2 = .local → y.1 = a)
  caught : ∀ y ∈ scope.names, y.2 = .free → sc.names.lookup y.1 = some .cell ∨ sc.names.lookup y.1 = some .free
def lamPB (sc scope : Scope) (a : Str) : Bool :=
  decide (scope.kind = .function) && (!scope.isCoroutine && (!scope.isGenerator && (decide (scope.names.lookup a = some .local) && scope.names.all fun y => !decide (y.2 = .cell) && ((!decide (y.2 = .local) || decide (y.1 = a)) && (!decide (y.2 = .free) || (decide (sc.names.lookup y.1 = some .cell) || decide (sc.names.lookup y.1 = some .free)))))))
theorem lamP_by {sc scope : Scope} {a : Str} (h : lamPB sc scope a = true) : LamP sc scope a := by
  unfold lamPB at h
  simp only [Bool.and_eq_true, Bool.or_eq_true, Bool.not_eq_true', decide_eq_true_eq, decide_eq_false_iff_not, List.all_eq_true] at h
  obtain ⟨k, c, g, p, o⟩ := h
  refine ⟨k, c, g, p, fun y hy => ⟨(o y hy).1, fun e => ?_⟩, fun y hy e => ?_⟩
  · rcases (o y hy).2.1 with z | z
    · exact absurd e z
    · exact z
  · rcases (o y hy).2.2 with z | z
    · exact absurd e z
    · exact z
theorem LamP.has {X : Cx} {scope : Scope} {a : Str} (L : LamP X.env.scope scope a) (ok : X.Ok) : ∀ y ∈ scope.names, y.2 = .free → ∃ c, X.env.cells.lookup y.1 = some c := by
  intro y hy e
  exact ok.has _ (L.caught y hy e)
section
variable {X : Cx} {pins : List (Addr × Obj)} {σ : L2.St} {H HZ : Hp} {s s1 : Shared}
/-- the lambda's body begins: what was captured stands in the slots, the argument at j -/
theorem lamP_start {A : Around} {outer : List Env} {E : XK} {scope : Scope} {a : Str} {f c' : Addr} {h₁ : Heap} {tk j : Nat} {v : V} {u : Value} (I : Inv X pins σ H s) (L : LamP X.env.scope scope a) (hj : X.N[j]? = some a) (hN : X.N.Nodup) (rv : RelV v u)
    (e0 : Env0 X.prog X.w X.K X.mg X.base A outer s1 HZ) (hd : A.handled = none) (un : Un (frs X.stack) [] H HZ s.heap s1.heap) (hns : h₁.Ns s1.heap.objs.size fun y => ([(a, u)] : List (Str × Value)).reverse.lookup y) (kp : ∀ b o, s1.heap.get? b = some o → h₁.get? b = some o) :
    Inv (lamCx X A outer s1 HZ E scope f c') [] (σ.set j (some v)) HZ { s1 with heap := h₁, toks := tk } := by
  have caught := L.has I.ok
  have back : ∀ {y c}, (cloFrom X.env.cells scope.names []).lookup y = some c → X.env.cells.lookup y = some c := by
    intro y c e
    rcases cloFrom_mem (PySem.mem_of_lookup e) with m | ⟨m1, m2⟩
    · cases m
    · obtain ⟨c1, hc⟩ := caught _ m1 rfl
      have hc : X.env.cells.lookup y = some c1 := hc
      have : c = c1 := by
        rw [m2, hc] <;> rfl
      rw [this]
      exact hc
  have there : ∀ {y}, scope.names.lookup y = some .free → ∃ c, (cloFrom X.env.cells scope.names []).lookup y = some c := by
    intro y hl
    have my : (y, NameKind.free) ∈ scope.names := PySem.mem_of_lookup hl
    exact mem_lookup (cloFrom_has (cells := X.env.cells) (acc := []) my)
  have cells : ∀ {c : Addr} {z : Option Value}, H c = none → s.heap.IsCell c z → h₁.IsCell c z := by
    intro c z n hz
    obtain ⟨o, ho, hdt⟩ := hz
    obtain ⟨sl, q⟩ := un.any ho n (by simp)
    exact ⟨_, kp _ _ q, hdt⟩
  have noEx : ∀ b : Addr, b ∉ (lamCx X A outer s1 HZ E scope f c').ex := fun b z => by
    cases (show b ∈ ([] : List Addr) from z)
  have lj : j < σ.length := by
    rw [I.len]
    exact (List.getElem?_eq_some_iff.mp hj).1
  refine { ok := ?_, os := rfl, bare := e0.bare, base := Un.kept kp, loc := ⟨_, hns, ?_⟩, cell := ?_, free := e0.hok.fresh (Nat.le_refl _), freeC := ?_, pin := ?_, hok := e0.hok.kept kp, len := by rw [List.length_set]; exact I.len }
  · refine { mod := e0.mod, kind := L.fun_, glob := rfl, blt := rfl, above := Nat.le_refl _, inj := fun y z c e1 e2 => I.ok.inj y z c (back e1) (back e2), has := ?_, cab := ?_, hd := fun _ => hd, frames := Around.frames_deeper e0.frames, stk := .inr ⟨rfl, rfl⟩, exf := fun b z => absurd z (noEx b), bs := e0.bs, bsz := e0.bsz, noex := fun b _ _ => noEx b, exfs := fun b z => absurd z (noEx b), funs := e0.funs, frf := e0.frf }
    · intro y hy
      have hy : scope.names.lookup y = some .cell ∨ scope.names.lookup y = some .free := hy
      rcases hy with hy | hy
      · exact absurd rfl (L.own _ (PySem.mem_of_lookup hy)).1
      · exact there hy
    · intro y c z _
      cases (show false = true from z)
  · intro i y v' e1 e2 e3
    have e1 : X.N[i]? = some y := e1
    by_cases hij : i = j
    · subst hij
      rw [hj] at e1
      obtain rfl := Option.some.inj e1
      rw [List.getElem?_set_self lj] at e2
      obtain rfl := Option.some.inj (Option.some.inj e2)
      refine ⟨u, rv, .inl ⟨L.par, ?_⟩⟩
      show ([(a, u)] : List (Str × Value)).lookup a = some u
      simp [List.lookup]
    · rw [List.getElem?_set_ne (Ne.symm hij)] at e2
      have ya : y ≠ a := fun z => by
        subst z
        have hi := (List.getElem?_eq_some_iff.mp e1).1
        have hj' := (List.getElem?_eq_some_iff.mp hj).1
        rw [List.getElem?_eq_getElem hi] at e1
        rw [List.getElem?_eq_getElem hj'] at hj
        exact hij ((List.getElem_inj hN).mp ((Option.some.inj e1).trans (Option.some.inj hj).symm))
      have e3 : Vis scope y := e3
      rcases e3 with k | k | k
      · exact absurd ((L.own _ (PySem.mem_of_lookup k)).2 rfl) ya
      · exact absurd rfl (L.own _ (PySem.mem_of_lookup k)).1
      · obtain ⟨m, hn, hl⟩ := I.loc
        have vis : Vis X.env.scope y := (L.caught _ (PySem.mem_of_lookup k) rfl).elim (fun k => .inr (.inl k)) (fun k => .inr (.inr k))
        obtain ⟨w', r, q⟩ := hl i y v' e1 e2 vis
        obtain ⟨c2, h2⟩ := there k
        refine ⟨w', r, .inr ⟨.inr k, c2, h2, ?_⟩⟩
        have c1 := back h2
        rcases q with ⟨k', _⟩ | ⟨_, c3, e', z⟩
        · have k' : X.env.scope.names.lookup y = some .local := k'
          rcases L.caught _ (PySem.mem_of_lookup k) rfl with k2 | k2
          · rw [show X.env.scope.names.lookup y = _ from k2] at k'
            cases k'
          · rw [show X.env.scope.names.lookup y = _ from k2] at k'
            cases k'
        · rw [c1] at e'
          obtain rfl := Option.some.inj e'
          exact cells (I.freeC y _ c1) z
  · intro y c e
    obtain ⟨w', z⟩ := I.cell y c (back e)
    exact ⟨w', cells (I.freeC y c (back e)) z⟩
  · intro y c e
    obtain ⟨v, o, ho, hdt⟩ := I.cell y c (back e)
    exact un.free c o ho (I.freeC y c (back e)) (by simp)
  · intro q hq
    cases (show q ∈ ([] : List (Addr × Obj)) ++ [] from hq)
/-- changed(e), in the def that got the lambda: that def's context was entered at s, right behind the making -/
theorem pe_actP {CXg : CXT} {Eg : XK} {Ng : List Str} {qg : Str} {sg : Scope} {g f c' : Addr} {cdg pm ctv : Value} {params : Arguments} {body e : Expr} {scope : Scope} {k i j : Nat} {a x : Str} {ta tb : TE} {p1 p2 : Pos}
    (I : Inv X pins σ H s) (L : LamP X.env.scope scope a) (hj : X.N[j]? = some a) (hND : X.N.Nodup) (hf : s.heap.get? f = some (PySem.W.kla_obj "<lambda>" (X.env.qual ++ "<lambda>") params body scope (cloFrom X.env.cells scope.names []) pm c' ctv)) (hfn : H f = none) (hfr : f ∉ frs X.stack)
    (hbind : ∀ u : Value, bindArgs (PySem.W.kla_fn "<lambda>" (X.env.qual ++ "<lambda>") params body scope (cloFrom X.env.cells scope.names []) pm (.ref c') ctv) ⟨[u], []⟩ = pure [(a, u)])
    (hr : Room (k + 1) (X.A.deeper (envOfC qg sg s.heap.objs.size g cdg)))
    (hbody : ∀ (A : Around) (outer : List Env) (s : Shared) (H : Hp), Room k (A.deeper (lamEnv X scope s.heap.objs.size f c')) → PE (lamCx X A outer s H E0 scope f c').nox body tb)
    (ha : PE (cxOf CXg X.prog X.w X.K X.mg X.base Ng qg sg g cdg X.A X.stack s H Eg).nox e ta)
    (hN : Ng[i]? = some x) (hv : Vis sg x) (hd : (x == ("__debug__" : Str)) = false := by decide) (hcd : (x == ("__classdict__" : Str)) = false := by decide)
    (hs : starEach [e] (cxOf CXg X.prog X.w X.K X.mg X.base Ng qg sg g cdg X.A X.stack s H Eg).nox.env = (false, eval e (cxOf CXg X.prog X.w X.K X.mg X.base Ng qg sg g cdg X.A X.stack s H Eg).nox.env) :: starEach [] (cxOf CXg X.prog X.w X.K X.mg X.base Ng qg sg g cdg X.A X.stack s H Eg).nox.env := by rfl) :
    PE (cxOf CXg X.prog X.w X.K X.mg X.base Ng qg sg g cdg X.A X.stack s H Eg).nox (.Call (.Name x p1) [e] [] p2)
      (fun σZ HZ Q => σZ[i]? = some (some (.ref f)) ∧ ta σZ HZ fun v H1 => H1 c' = some (CodeO c' (X.env.qual ++ "<lambda>")) ∧ tb (σ.set j (some v)) H1 Q) := by
  refine ⟨fun pinsZ sZ σZ HZ Q IZ h => ?_⟩
  obtain ⟨hslot, ht⟩ := h
  refine wpAny_Call_Name_kw (thn ((pe_var (pos := p1) (i := i) hN hv hd hcd).run pinsZ sZ σZ HZ (fun v H1 => v = .ref f ∧ H1 = HZ) IZ ⟨.ref f, hslot, rfl, rfl⟩) fun u0 s1 ⟨v0, H1, I1, r1, q1⟩ => ?_)
  obtain ⟨rfl, rfl⟩ := q1
  obtain rfl : u0 = Value.ref f := r1
  have keepF : ∀ {s2 : Shared} {σ2 : L2.St} {H2 : Hp} {ps2 : List (Addr × Obj)}, Inv (cxOf CXg X.prog X.w X.K X.mg X.base Ng qg sg g cdg X.A X.stack s H Eg).nox ps2 σ2 H2 s2 → s2.heap.get? f = some (PySem.W.kla_obj "<lambda>" (X.env.qual ++ "<lambda>") params body scope (cloFrom X.env.cells scope.names []) pm c' ctv) := by
    intro s2 σ2 H2 ps2 I2
    exact I2.base.keep f _ hf hfn hfr (fun z => nomatch (show f ∈ ([] : List Addr) from z))
  refine PySem.W.callWith_F (first := []) ⟨_, _, _, _, keepF I1⟩ ?_ hs rfl
  rw [hs]
  show wpAny _ _ (spliced ((false, eval e _) :: backTo p2 (starEach [] _))) _ _ s1
  refine Calls.spliced_cons (thn (ha.run pinsZ s1 σZ _ _ I1 ht) fun u s2 ⟨v, H2, I2, r2, hc, q2⟩ => Calls.spliced_nil ⟨⟨_, _, _, _, keepF I2⟩, ?_⟩)
  have un : Un (frs X.stack) [] H H2 s.heap s2.heap := I2.base
  obtain ⟨⟨oc, vs, t, hoc, hdc, hvc⟩, _, _⟩ := I2.hok c' _ hc
  have rc : codeAny (model X.prog X.w) (X.A.deeper (envOfC qg sg s.heap.objs.size g cdg)) (.call (.ref f) ⟨[u], []⟩) (CR CX0 (envOfC qg sg s.heap.objs.size g cdg :: X.stack) X.prog X.w H2 s2 Q E0) s2 := by
    refine PySem.W.kla_callFunE hr.depth (keepF I2) rfl L.noC L.noG rfl ⟨c', oc, vs, t, rfl, hoc, hdc, hvc⟩ ?_
    rw [hbind u]
    refine wpAny_pure (wpAny_newFunctionEnv (fun y hy => (L.own y hy).1) (fun y hy => ?_) (fun h₁ hns hsb => ⟨I2.nolimit.fresh _ hsb, ?_⟩) L.fun_)
    · rw [List.mem_singleton.mp hy]
      exact L.par
    · show codeAny _ _ (.expr body (lamEnv X scope s2.heap.objs.size f c')) _ _
      have kp : ∀ b o, s2.heap.get? b = some o → h₁.get? b = some o := fun b o e => hsb.extBut b o (Nat.ne_of_lt (Heap.lt_size e)) (Heap.get?_push_of_some _ e)
      have J : Inv (lamCx X (X.A.deeper (envOfC qg sg s.heap.objs.size g cdg)) (envOfC qg sg s.heap.objs.size g cdg :: X.stack) s2 H2 E0 scope f c').nox [] (σ.set j (some v)) H2 { s2 with heap := h₁, toks := s2.toks + ([(a, u)] : List (Str × Value)).length } :=
        (lamP_start I L hj hND r2 I2.env0 hr.hd un hns kp).wish _
      refine PySem.W.kla_codeExpr (wpAny_mono ((hbody _ _ s2 H2 (hr.deeper _)).run [] _ _ H2 Q J q2) (fun w' s' hq => ?_) fun e' s' hq => hq.elim)
      obtain ⟨z, H', J', rv, q⟩ := hq
      exact ⟨z, H', J'.os, J'.bare, J'.base, J'.hok, rv, q⟩
  refine wpAny_call (codeAny_mono rc fun r s' hq => ?_)
  cases r with
  | error e' => exact hq.elim
  | ok fl =>
    cases fl with
    | ret z => exact I2.after hq
    | next => exact False.elim hq
    | brk => exact False.elim hq
    | cont => exact False.elim hq
end
/-- the context of the def x that gets the lambda, entered at s from X -/
abbrev zCx (X : Cx) (Ng : List Str) (x : Str) (sg : Scope) (g : Addr) (cdg : Value) (s : Shared) (H : Hp) : Cx := (cxOf CX0 X.prog X.w X.K X.mg X.base Ng x sg g cdg X.A X.stack s H E0).nox
/-- what x makes of its first argument and of the lambda's reading tl: TT; x calls the lambda by its own name pf -/
def GivesP (X : Cx) (Ng : List Str) (x : Str) (sg : Scope) (g : Addr) (cdg : Value) (bg : List Stmt) (i : Nat) (pf q : Str) (TT : V → (V → Hp → VK → Prop) → Hp → VK → Prop) : Prop :=
  ∀ (f c' : Addr) (s : Shared) (H : Hp) (Q : VK) (v1 : V) (tl : V → Hp → VK → Prop),
    (∀ (e : Expr) (ta : TE) (p1 p2 : Pos), PE (zCx X Ng x sg g cdg s H) e ta → starEach [e] (zCx X Ng x sg g cdg s H).env = (false, eval e (zCx X Ng x sg g cdg s H).env) :: starEach [] (zCx X Ng x sg g cdg s H).env →
      PE (zCx X Ng x sg g cdg s H) (.Call (.Name pf p1) [e] [] p2) (fun σZ HZ Q => σZ[i]? = some (some (.ref f)) ∧ ta σZ HZ fun v H1 => H1 c' = some (CodeO c' q) ∧ tl v H1 Q)) →
    H c' = some (CodeO c' q) → TT v1 tl H Q →
    ∃ t, PSs (zCx X Ng x sg g cdg s H) bg t ∧ t { nx := fun _ H' => Q .non H', rt := Q } (L2.start Ng [v1, .ref f]) H
def tLamP (T : List (Addr × Str)) (j : Nat) (TT : V → (V → Hp → VK → Prop) → Hp → VK → Prop) (t1 tb : TE) : TE := fun σ H Q => t1 σ H fun v1 H1 => Tabs T H1 ∧ ∀ H2, ExtN H1 H2 → Tabs T H2 → TT v1 (fun v H' Q' => tb (σ.set j (some v)) H' Q') H2 Q
section
variable {X : Cx}
/-- x(e1, lambda a: body) -/
theorem pe_lamcallP {T : List (Addr × Str)} {TT : V → (V → Hp → VK → Prop) → Hp → VK → Prop} {x a p1n pf : Str} {g c P : Addr} {k i j : Nat} {pg : Arguments} {bg : List Stmt} {sg : Scope} {fdg : FuncData} {Ng : List Str} {params : Arguments} {body e1 : Expr} {scope : Scope} {t1 tb : TE} {p lpos pos : Pos}
    (F : FunD X.K x x pg bg sg [] [] g fdg) (hb : L2.Binds X.K fdg [p1n, pf] []) (hg : Gl X x) (hm : X.mg x = some (.ref g)) (Sg : FnScope Ng [p1n, pf] sg) (hNg : Ng[i]? = some pf) (hv : Vis sg pf)
    (hG : ∀ cdg, GivesP X Ng x sg g cdg bg i pf (X.env.qual ++ "<lambda>") TT) (TB : TabB X.base X.mg c P) (hcode : X.env.code = .ref c) (hmT : (P, X.env.qual ++ "<lambda>") ∈ T) (hu : ∀ p ∈ T, p.1 = P → p.2 = X.env.qual ++ "<lambda>") (hr : Room (k + 2) X.A)
    (L : LamP X.env.scope scope a) (hj : X.N[j]? = some a) (hND : X.N.Nodup) (hdef : defaultsOf params X.env = ([], []))
    (hbind : ∀ (q : Str) (cl : List (Str × Addr)) (pm cv ctv u : Value), bindArgs (PySem.W.kla_fn "<lambda>" q params body scope cl pm cv ctv) ⟨[u], []⟩ = pure [(a, u)])
    (h1 : PE X e1 t1) (hbody : ∀ (A : Around) (outer : List Env) (s : Shared) (H : Hp) (f c' : Addr) (B : Addr), Room k (A.deeper (lamEnv X scope B f c')) → PE (lamCx X A outer s H E0 scope f c').nox body tb)
    (hs1 : starEach [e1, .Lambda params body scope lpos] X.env = (false, eval e1 X.env) :: starEach [.Lambda params body scope lpos] X.env := by rfl)
    (hdb : (x == ("__debug__" : Str)) = false := by decide) (hd : (pf == ("__debug__" : Str)) = false := by decide) (hcd : (pf == ("__classdict__" : Str)) = false := by decide) :
    PE X (.Call (.Name x p) [e1, .Lambda params body scope lpos] [] pos) (tLamP T j TT t1 tb) := by
  obtain ⟨oc, od, dV, kV, doc, pm, an, cdv, ct, osl, rfl, lk, hcdv, _, _⟩ := F.ex
  refine ⟨fun pins s σ H Q I h => ?_⟩
  refine wpAny_Call_Name_kw (ld_glob I hg hm ?_ hdb)
  refine PySem.W.callWith_K (h₀ := X.base) I.ok.mod.kin F.kp ?_ hs1 (by rfl)
  rw [hs1]
  show wpAny _ _ (spliced ((false, eval e1 X.env) :: (false, eval (.Lambda params body scope lpos) X.env) :: backTo pos (starEach [] X.env))) _ _ s
  refine Calls.spliced_cons (thn (h1.run pins s σ H _ I h) fun u1 s1 ⟨v1, H1, I1, r1, hT, q1⟩ => Calls.spliced_cons (lam_make2 I1 TB hcode hmT hu hT hdef (L.has I1.ok) fun f c' pm' ctv H2 s' I2 eN T1 hf hfn hfr hco => Calls.spliced_nil ⟨I2.kIn, ?_⟩))
  have rc : codeAny (model X.prog X.w) X.A (.call (.ref g) ⟨[u1, .ref f], []⟩) (CR CX0 X.stack X.prog X.w H2 s' Q E0) s' := by
    refine run_ofS (N := Ng) (ps := [p1n, pf]) (us := [u1, .ref f]) (vs := [v1, .ref f]) lk hcdv Sg hr I2.env0 (hb s' [u1, .ref f] I2.kIn rfl) (.cons r1 (.cons rfl .nil)) rfl fun hr' => ?_
    obtain ⟨t', ht', hq'⟩ := hG cdv f c' s' H2 Q v1 (fun v H' Q' => tb (σ.set j (some v)) H' Q') (fun e ta p1 p2 he hs => pe_actP (i := i) (k := k) I2 L hj hND hf hfn hfr (fun u => hbind _ _ _ _ _ u) hr' (fun A outer s H hr2 => hbody A outer s H f c' _ hr2) he hNg hv hd hcd hs) hco (q1 H2 eN T1)
    exact ⟨t', ht'.nox, hq'⟩
  refine wpAny_call (codeAny_mono rc fun r s2 hq => ?_)
  cases r with
  | error e' => exact hq.elim
  | ok fl =>
    cases fl with
    | ret z => exact I2.after hq
    | next => exact False.elim hq
    | brk => exact False.elim hq
    | cont => exact False.elim hq
end
end Pk

set_option maxRecDepth 100000
set_option maxHeartbeats 2000000
/-! a lambda of one parameter, handed to a def between its first argument and a def's name -/
namespace Pk
open PySem PySem.Spec PyProof.Rows L2 LamX
def GivesP3 (X : Cx) (Ng : List Str) (x : Str) (sg : Scope) (g : Addr) (cdg : Value) (bg : List Stmt) (i : Nat) (pf q : Str) (g3 : Addr) (rk : Nat) (TT : V → (V → Hp → VK → Prop) → Hp → VK → Prop) : Prop :=
  ∀ (f c' : Addr) (s : Shared) (H : Hp) (Q : VK) (v1 : V) (tl : V → Hp → VK → Prop),
    (∀ (e : Expr) (ta : TE) (p1 p2 : Pos), PE (zCx X Ng x sg g cdg s H) e ta → starEach [e] (zCx X Ng x sg g cdg s H).env = (false, eval e (zCx X Ng x sg g cdg s H).env) :: starEach [] (zCx X Ng x sg g cdg s H).env →
      PE (zCx X Ng x sg g cdg s H) (.Call (.Name pf p1) [e] [] p2) (fun σZ HZ Q => σZ[i]? = some (some (.ref f)) ∧ ta σZ HZ fun v H1 => H1 c' = some (CodeO c' q) ∧ tl v H1 Q)) →
    H c' = some (CodeO c' q) → Room rk (zCx X Ng x sg g cdg s H).A → TT v1 tl H Q →
    ∃ t, PSs (zCx X Ng x sg g cdg s H) bg t ∧ t { nx := fun _ H' => Q .non H', rt := Q } (L2.start Ng [v1, .ref f, .ref g3]) H
section
variable {X : Cx}
/-- x(e1, lambda a: body, y) -/
theorem pe_lamcallP3 {T : List (Addr × Str)} {TT : V → (V → Hp → VK → Prop) → Hp → VK → Prop} {x y a p1n pf p3n : Str} {g g3 c P : Addr} {k i j : Nat} {pg : Arguments} {bg : List Stmt} {sg : Scope} {fdg : FuncData} {Ng : List Str} {params : Arguments} {body e1 : Expr} {scope : Scope} {t1 tb : TE} {p p3 lpos pos : Pos}
    (F : FunD X.K x x pg bg sg [] [] g fdg) (hb : L2.Binds X.K fdg [p1n, pf, p3n] []) (hg : Gl X x) (hm : X.mg x = some (.ref g)) (hgy : Gl X y) (hmy : X.mg y = some (.ref g3)) (Sg : FnScope Ng [p1n, pf, p3n] sg) (hNg : Ng[i]? = some pf) (hv : Vis sg pf)
    {rk : Nat} (hrk : rk ≤ k + 1) (hG : ∀ cdg, GivesP3 X Ng x sg g cdg bg i pf (X.env.qual ++ "<lambda>") g3 rk TT) (TB : TabB X.base X.mg c P) (hcode : X.env.code = .ref c) (hmT : (P, X.env.qual ++ "<lambda>") ∈ T) (hu : ∀ p ∈ T, p.1 = P → p.2 = X.env.qual ++ "<lambda>") (hr : Room (k + 2) X.A)
    (L : LamP X.env.scope scope a) (hj : X.N[j]? = some a) (hND : X.N.Nodup) (hdef : defaultsOf params X.env = ([], []))
    (hbind : ∀ (q : Str) (cl : List (Str × Addr)) (pm cv ctv u : Value), bindArgs (PySem.W.kla_fn "<lambda>" q params body scope cl pm cv ctv) ⟨[u], []⟩ = pure [(a, u)])
    (h1 : PE X e1 t1) (hbody : ∀ (A : Around) (outer : List Env) (s : Shared) (H : Hp) (f c' : Addr) (B : Addr), Room k (A.deeper (lamEnv X scope B f c')) → PE (lamCx X A outer s H E0 scope f c').nox body tb)
    (hs1 : starEach [e1, .Lambda params body scope lpos, .Name y p3] X.env = (false, eval e1 X.env) :: starEach [.Lambda params body scope lpos, .Name y p3] X.env := by rfl)
    (hdb : (x == ("__debug__" : Str)) = false := by decide) (hdy : (y == ("__debug__" : Str)) = false := by decide) (hd : (pf == ("__debug__" : Str)) = false := by decide) (hcd : (pf == ("__classdict__" : Str)) = false := by decide) :
    PE X (.Call (.Name x p) [e1, .Lambda params body scope lpos, .Name y p3] [] pos) (tLamP T j TT t1 tb) := by
  obtain ⟨oc, od, dV, kV, doc, pm, an, cdv, ct, osl, rfl, lk, hcdv, _, _⟩ := F.ex
  refine ⟨fun pins s σ H Q I h => ?_⟩
  refine wpAny_Call_Name_kw (ld_glob I hg hm ?_ hdb)
  refine PySem.W.callWith_K (h₀ := X.base) I.ok.mod.kin F.kp ?_ hs1 (by rfl)
  rw [hs1]
  show wpAny _ _ (spliced ((false, eval e1 X.env) :: (false, eval (.Lambda params body scope lpos) X.env) :: (false, eval (.Name y p3) X.env) :: backTo pos (starEach [] X.env))) _ _ s
  refine Calls.spliced_cons (thn (h1.run pins s σ H _ I h) fun u1 s1 ⟨v1, H1, I1, r1, hT, q1⟩ => Calls.spliced_cons (lam_make2 I1 TB hcode hmT hu hT hdef (L.has I1.ok) fun f c' pm' ctv H2 s' I2 eN T1 hf hfn hfr hco => Calls.spliced_cons (ld_glob I2 hgy hmy (Calls.spliced_nil ⟨I2.kIn, ?_⟩) hdy)))
  have rc : codeAny (model X.prog X.w) X.A (.call (.ref g) ⟨[u1, .ref f, .ref g3], []⟩) (CR CX0 X.stack X.prog X.w H2 s' Q E0) s' := by
    refine run_ofS (N := Ng) (ps := [p1n, pf, p3n]) (us := [u1, .ref f, .ref g3]) (vs := [v1, .ref f, .ref g3]) lk hcdv Sg hr I2.env0 (hb s' [u1, .ref f, .ref g3] I2.kIn rfl) (.cons r1 (.cons rfl (.cons rfl .nil))) rfl fun hr' => ?_
    obtain ⟨t', ht', hq'⟩ := hG cdv f c' s' H2 Q v1 (fun v H' Q' => tb (σ.set j (some v)) H' Q') (fun e ta p1 p2 he hs => pe_actP (i := i) (k := k) I2 L hj hND hf hfn hfr (fun u => hbind _ _ _ _ _ u) hr' (fun A outer s H hr2 => hbody A outer s H f c' _ hr2) he hNg hv hd hcd hs) hco (hr'.mono hrk) (q1 H2 eN T1)
    exact ⟨t', ht'.nox, hq'⟩
  refine wpAny_call (codeAny_mono rc fun r s2 hq => ?_)
  cases r with
  | error e' => exact hq.elim
  | ok fl =>
    cases fl with
    | ret z => exact I2.after hq
    | next => exact False.elim hq
    | brk => exact False.elim hq
    | cont => exact False.elim hq
end
end Pk

set_option maxRecDepth 100000
set_option maxHeartbeats 1000000
namespace Pk
open PySem PySem.Spec PyProof.Rows L2 PySem.SeqAt
/-! ### a <= b of two tuples: what stands behind the first place that differs is never asked -/
section
open AutoSeq1 (wpAny_loadPart')
open MeetsSeq MeetsSeq2 MeetsSeq3 SeqRoads2
theorem tupLe_first (p q : Addr) (us ws : Array Value) (np nq : Nat) (dp dq : Option Addr) (sp sq : Array (Option Value)) (same less : Nat → Bool) :
    Meets (Builtin.«tuple.__le__» ⟨[.ref p, .ref q], []⟩) (fun A R s =>
      s.heap.get? p = some { cls := .type "tuple", dict := dp, data := .seq us np, slots := sp } ∧
      s.heap.get? q = some { cls := .type "tuple", dict := dq, data := .seq ws nq, slots := sq } ∧
      (∀ j (a1 : j < us.size) (a2 : j < ws.size), EqAt A.in1 s us[j] ws[j] (same j)) ∧
      (∀ j (a1 : j < us.size) (a2 : j < ws.size), (∀ m, m < j → same m = true) → same j = false → RcOp .LtE A.in1 s us[j] ws[j] (less j)) ∧
      R (.ok (.ret (.bool (firstLt same less (decide (us.size ≤ ws.size)) (List.range (min us.size ws.size)))))) s) :=
  .of_wp fun prog w A R s all => by
    obtain ⟨h0, g0, d0, t0, o0⟩ := s
    obtain ⟨gp, gq, heq, hlt, hR⟩ := all
    have tt := AutoSeq1.sub_tuple_tuple
    have lz : (us.toList.zip ws.toList).length = min us.size ws.size := by simp
    wp_walk using wpAny_loadPart' gp, wpAny_loadPart' gq, wpAny_forIn_list _ (fun rest c s' => c.1 = none ∧ s' = ⟨h0, g0, d0, t0, o0⟩ ∧ ∃ k, rest = (us.toList.zip ws.toList).drop k ∧ (∀ m, m < k → same m = true) ∧
      R (.ok (.ret (.bool (firstLt same less (decide (us.size ≤ ws.size)) ((List.range (min us.size ws.size)).drop k))))) ⟨h0, g0, d0, t0, o0⟩) _
    case turn =>
      rintro ⟨u, v⟩ rest c s' ⟨hc, rfl, k, hk, hs, hR'⟩
      have kz : k < (us.toList.zip ws.toList).length := by
        rcases Nat.lt_or_ge k (us.toList.zip ws.toList).length with z | z
        · exact z
        · rw [List.drop_of_length_le z] at hk
          cases hk
      have km : k < min us.size ws.size := by omega
      have k1 : k < us.size := by omega
      have k2 : k < ws.size := by omega
      rw [List.drop_eq_getElem_cons kz] at hk
      obtain ⟨huv, hrest⟩ := List.cons.inj hk
      obtain rfl : u = us[k] := by simpa using congrArg Prod.fst huv
      obtain rfl : v = ws[k] := by simpa using congrArg Prod.snd huv
      have hr : (List.range (min us.size ws.size)).drop k = k :: (List.range (min us.size ws.size)).drop (k + 1) := by
        rw [List.drop_eq_getElem_cons (by simpa using km)]
        simp
      rw [hr] at hR'
      refine wpAny_bind (heq k k1 k2 prog w _ _ ?_)
      cases sk : same k with
      | true =>
        rw [firstLt_yes sk] at hR'
        wp_walk
        refine ⟨rfl, rfl, k + 1, hrest, fun m hm => ?_, hR'⟩
        by_cases e : m = k
        · rw [e]
          exact sk
        · exact hs m (by omega)
      | false =>
        rw [firstLt_no sk] at hR'
        rw [if_pos (show (!false) = true from rfl)]
        refine wpAny_bind (wpAny_rule ?_)
        refine wpAny_bind (hlt k k1 k2 hs sk prog w _ _ ?_)
        wp_walk
        exact ⟨_, rfl, hR'⟩
    case fin =>
      rintro ⟨c1, c2⟩ s' ⟨hc, rfl, k, hk, hs, hR'⟩
      simp only at hc
      subst hc
      have kz : min us.size ws.size ≤ k := by
        rcases Nat.lt_or_ge k (us.toList.zip ws.toList).length with z | z
        · rw [List.drop_eq_getElem_cons z] at hk
          cases hk
        · omega
      rw [List.drop_of_length_le (by simpa using kz)] at hR'
      wp_walk
      exact ⟨_, rfl, by simpa [Builtin.Tuple.tupleCompareSizes, firstLt] using hR'⟩
    case h =>
      exact ⟨rfl, rfl, 0, rfl, fun m hm => absurd hm (Nat.not_lt_zero m), by simpa using hR⟩
end
theorem rcLe_first {A : Around} {s : Shared} {p q : Addr} {us ws : Array Value} {same less : Nat → Bool} (hp : s.heap.IsTuple p us) (hq : s.heap.IsTuple q ws) (hu : A.units < cLine)
    (heq : ∀ j (a1 : j < us.size) (a2 : j < ws.size), EqAt A.in1 s us[j] ws[j] (same j)) (hlt : ∀ j (a1 : j < us.size) (a2 : j < ws.size), (∀ m, m < j → same m = true) → same j = false → RcOp .LtE A.in1 s us[j] ws[j] (less j)) :
    RcOp .LtE A s (.ref p) (.ref q) (firstLt same less (decide (us.size ≤ ws.size)) (List.range (min us.size ws.size))) := by
  intro prog w E Q hQ
  obtain ⟨⟨c1, d1, x1, l1⟩, g1, e1, n1, y1⟩ := id hp
  obtain ⟨⟨c2, d2, x2, l2⟩, g2, e2, n2, y2⟩ := id hq
  simp only at e1 y1 e2 y2
  subst e1 y1 e2 y2
  refine richCompare_meets_room (op := .LtE) ⟨_, g1, rfl⟩ ⟨_, g2, rfl⟩ F.slot_tuple_le F.entry_tuple_le (F.args_tuple_le_2 _ _) (tupLe_first p q us ws n1 n2 d1 d2 l1 l2 same less) ⟨g1, g2, heq, hlt, ?_⟩ hu
  show Value.bool _ ≠ Value.notImplemented ∧ Q _ s
  exact ⟨(fun z => nomatch z), hQ⟩

mutual
def dle : PyData → PyData → Bool
  | .bool x, .bool y => decide (b2i x ≤ b2i y)
  | .int x, .int y => decide (x ≤ y)
  | .str x, .str y => !decide (y.cps.toList < x.cps.toList)
  | .tuple xs, .tuple ys => dles xs ys
  | _, _ => false
def dles : List PyData → List PyData → Bool
  | x :: xs, y :: ys => if PyData.eqv x y = true then dles xs ys else dle x y
  | [], [] => true
  | [], _ :: _ => true
  | _ :: _, [] => false
end
theorem firstLe_dles : ∀ (xs ys : List PyData),
    firstLt (pairEq xs ys) (fun j => dle (xs.getD j .none) (ys.getD j .none)) (decide (xs.length ≤ ys.length)) (List.range (min xs.length ys.length)) = dles xs ys
  | [], [] => by simp [firstLt, dles]
  | [], y :: ys => by simp [firstLt, dles]
  | x :: xs, [] => by simp [firstLt, dles]
  | x :: xs, y :: ys => by
    have more := firstLe_dles xs ys
    have lm : min (x :: xs).length (y :: ys).length = min xs.length ys.length + 1 := by
      simp only [List.length_cons]
      omega
    have ld : decide ((x :: xs).length ≤ (y :: ys).length) = decide (xs.length ≤ ys.length) := by
      simp only [List.length_cons]
      exact decide_eq_decide.mpr (by omega)
    rw [lm, ld, List.range_succ_eq_map, dles]
    cases hxy : PyData.eqv x y with
    | true =>
      rw [firstLt_yes (show pairEq (x :: xs) (y :: ys) 0 = true from hxy), PySem.W.firstLt_map, if_pos rfl, ← more]
      rfl
    | false =>
      rw [firstLt_no (show pairEq (x :: xs) (y :: ys) 0 = false from hxy), if_neg Bool.false_ne_true]
      rfl
mutual
theorem rcLe_cpb : ∀ (da db : PyData) (A : Around) (s : Shared) (a b : Value) (as bs : List Addr), Reads s.heap a da as → Reads s.heap b db bs → da.plain = true → db.plain = true → cpb da db = true → da ≠ .none →
    A.units + min da.depth db.depth < cLine → RcOp .LtE A s a b (dle da db)
  | .none, _, _, _, _, _, _, _, _, _, _, _, _, no, _ => absurd rfl no
  | .bool x, db, _, _, _, _, _, _, ra, rb, _, _, h, _, _ => by
    cases db with
    | bool y =>
      cases ra
      cases rb
      exact fun prog w E Q q => PyProof.Rows.le_bool q
    | _ => cases h
  | .int x, db, _, _, _, _, _, _, ra, rb, _, _, h, _, _ => by
    cases db with
    | int y =>
      cases ra
      cases rb
      exact fun prog w E Q q => PyProof.Rows.le_int q
    | _ => cases h
  | .str x, db, _, _, _, _, _, _, ra, rb, _, _, h, _, _ => by
    cases db with
    | str y =>
      cases ra
      cases rb
      exact fun prog w E Q q => P.le_str q
    | _ => cases h
  | .tuple xs, db, A, s, a, b, as, bs, ra, rb, pa, pb, h, _, hu => by
    cases db with
    | tuple ys =>
      have hc : cpbs xs ys = true := h
      cases ra with
      | @tuple l o vs n _ _ e1 e2 e3 e4 =>
        cases rb with
        | @tuple l' o' vs' n' _ _ f1 f2 f3 f4 =>
          have n1 : vs.size = xs.length := by simpa using ReadsAll.length _ _ _ e4
          have n2 : vs'.size = ys.length := by simpa using ReadsAll.length _ _ _ f4
          show RcOp .LtE A s (.ref l) (.ref l') (dles xs ys)
          rw [← firstLe_dles xs ys, ← n1, ← n2]
          refine rcLe_first ⟨_, e1, e2, _, e3⟩ ⟨_, f1, f2, _, f3⟩ (room_here hu) (fun j j1 j2 => ?_) (fun j j1 j2 hm hj => ?_)
          · have z := eqAt_plainAll xs ys A.in1 s vs.toList vs'.toList _ _ e4 f4 pa pb (room_in hu) j (by simpa using j1) (by simpa using j2)
            simpa using z
          · have z := rcLe_cpbs xs ys A.in1 s vs.toList vs'.toList _ _ e4 f4 pa pb hc (room_in hu) j (by simpa using j1) (by simpa using j2) hm hj
            simpa using z
    | _ => cases h
  | .list _, db, _, _, _, _, _, _, _, _, _, _, h, _, _ => by cases db <;> cases h
  | .dict _, db, _, _, _, _, _, _, _, _, _, _, h, _, _ => by cases db <;> cases h
theorem rcLe_cpbs : ∀ (xs ys : List PyData) (A : Around) (s : Shared) (vs ws : List Value) (as bs : List Addr), ReadsAll s.heap vs xs as → ReadsAll s.heap ws ys bs → PyData.plainAll xs = true → PyData.plainAll ys = true → cpbs xs ys = true →
    A.units + min (PyData.depthAll xs) (PyData.depthAll ys) < cLine → ∀ j (h1 : j < vs.length) (h2 : j < ws.length), (∀ m, m < j → pairEq xs ys m = true) → pairEq xs ys j = false → RcOp .LtE A s vs[j] ws[j] (dle (xs.getD j .none) (ys.getD j .none))
  | [], _, _, _, _, _, _, _, ra, _, _, _, _, _, j, h1, _, _, _ => by
    cases ra
    exact absurd h1 (Nat.not_lt_zero j)
  | _ :: _, [], _, _, _, _, _, _, _, rb, _, _, _, _, j, _, h2, _, _ => by
    cases rb
    exact absurd h2 (Nat.not_lt_zero j)
  | x :: xs, y :: ys, A, s, _, _, _, _, ra, rb, pa, pb, hc, hu, j, h1, h2, hm, hj => by
    have pa' : x.plain = true ∧ PyData.plainAll xs = true := by simpa [PyData.plainAll] using pa
    have pb' : y.plain = true ∧ PyData.plainAll ys = true := by simpa [PyData.plainAll] using pb
    obtain ⟨c1, c2⟩ := cpbs_cons hc
    cases ra with
    | cons r rs =>
      cases rb with
      | cons t ts =>
        cases j with
        | zero => exact rcLe_cpb x y A s _ _ _ _ r t pa'.1 pb'.1 c1 (cpb_none c1 hj) (room_head hu)
        | succ j => exact rcLe_cpbs xs ys A s _ _ _ _ rs ts pa'.2 pb'.2 (c2 (hm 0 (Nat.succ_pos j))) (room_tail hu) j (Nat.lt_of_succ_lt_succ h1) (Nat.lt_of_succ_lt_succ h2) (fun m hmj => hm (m + 1) (Nat.succ_lt_succ hmj)) hj
end

section
variable {X : Cx}
def rLeD (K : PySem.W.Frag) : R2 := fun x y H Q => ∃ d e : D, Rep K H x d ∧ Rep K H y e ∧ noLd d = true ∧ noLd e = true ∧ cpb (toPy d) (toPy e) = true ∧ toPy d ≠ .none ∧ dep d ≤ 60 ∧ Q (.bl (dle (toPy d) (toPy e))) H
theorem op_leD (hu : X.A.units + 64 < cLine) : OpR X (compareOp .LtE) (rLeD X.K) := by
  intro pins s σ H x y v u Q I rx ry h
  obtain ⟨d, e, hd, he, nd, ne, hc, hn, hp, q⟩ := h
  obtain ⟨as, r1⟩ := Dp.reads I _ x v (dp_noL hd nd) rx
  obtain ⟨bs, r2⟩ := Dp.reads I _ y u (dp_noL he ne) ry
  have := depth_noL d
  have m := Nat.min_le_left (toPy d).depth (toPy e).depth
  have z : wpAny (model X.prog X.w) X.A (compareOp .LtE v u) (EP X pins σ Q) X.xe s := rcLe_cpb _ _ X.A s v u as bs r1 r2 (plain_noL d nd) (plain_noL e ne) hc hn (by omega) X.prog X.w X.xe _ ⟨.bl _, H, I, rfl, q⟩
  exact z
end
end Pk

set_option maxRecDepth 100000
set_option maxHeartbeats 1000000
/-! del xs[a:] -/
namespace L2
open PySem PySem.Spec PyProof.Rows
theorem filt_take {α : Type} {p : Nat → Bool} {a : Nat} : ∀ (l : List α) (i : Nat), (∀ k, i ≤ k → k < i + l.length → p k = decide (a ≤ k)) →
    (l.zipIdx i).filterMap (fun q : α × Nat => if p q.2 = true then none else some q.1) = l.take (a - i)
  | [], i, _ => by simp
  | x :: l, i, h => by
    have h0 := h i (Nat.le_refl _) (by rw [List.length_cons]; omega)
    have ih := filt_take l (i + 1) (a := a) (p := p) fun k h1 h2 => h k (by omega) (by rw [List.length_cons]; omega)
    rw [List.zipIdx_cons]
    by_cases hai : a ≤ i
    · rw [List.filterMap_cons]
      show (match (if p i = true then none else some x) with | none => _ | some b => _) = _
      rw [h0, decide_eq_true hai, if_pos rfl]
      show (l.zipIdx (i + 1)).filterMap _ = _
      rw [ih, show a - (i + 1) = 0 by omega, show a - i = 0 by omega]
      rfl
    · rw [List.filterMap_cons]
      show (match (if p i = true then none else some x) with | none => _ | some b => _) = _
      rw [h0, decide_eq_false hai, if_neg Bool.false_ne_true]
      show x :: (l.zipIdx (i + 1)).filterMap _ = _
      rw [ih, show a - i = (a - (i + 1)) + 1 by omega]
      rfl
section
open MeetsSeq
variable {prog : Program} {w : World} {A : Around} {E : Value → Shared → Prop} {s : Shared}
theorem bounds_from {a n : Nat} (ha : a ≤ n) : sliceBounds (some (a : Int)) none none n = ((a : Int), (n : Int), 1) := by
  simp only [sliceBounds, Option.getD_none]
  have h1 : ¬ ((a : Int) < 0) := by omega
  simp only [h1, if_false, show (1 : Int) > 0 by decide, if_true]
  congr 1
  omega
theorem delItem_from {l sl : Addr} {items : Array Value} {n : Nat} {vl vu : Value} {a : Nat} {Q : Unit → Shared → Prop}
    (e : s.heap.get? l = some { cls := .type "list", data := .seq items n }) (hs : s.heap.IsSliceOf sl vl vu .none) (pl : IsPart vl (some (a : Int))) (pu : IsPart vu none) (ha : a ≤ items.size)
    (hsz : items.size ≤ sizeLine) (h : ∀ f : Array Value → Array Value, f items = (items.toList.take a).toArray → Q () { s with heap := s.heap.update l (Obj.mapSeq f) }) :
    wpAny (model prog w) A (delItem (.ref l) (.ref sl)) Q E s := by
  have hl : s.heap.IsList l items := PySem.IsL.isList e
  obtain ⟨os, hos, hcs, hds⟩ := id hs
  have hTs : s.TypeIs (.ref sl) "slice" := ⟨os, hos, hcs⟩
  have hstep : ¬ ((rawPart none == rawInt 0) = true) := Bool.false_ne_true
  unfold delItem
  refine wpAny_holding ?_
  refine wpAny_bind (wpAny_sequenceKey hl.typeIs (by decide) ?_)
  refine wpAny_bind (wpAny_callSpecial?_slot (name := Str.ofString "__delitem__") hl.typeIs F.slot_list_delitem
    (wpAny_call_entry F.slot_list_delitem hl.typeIs F.entry_list_delitem ?_ (F.args_list_delitem_2 _ _)))
  show wpAny _ _ (Builtin.List.listSubscript? (.ref sl) >>= _) _ _ s
  refine wpAny_bind ?_
  unfold Builtin.List.listSubscript?
  refine wpAny_bind (wpAny_specialOf hTs slice_no_index ?_)
  simp only [Option.isNone_none, if_true]
  refine wpAny_pure ?_
  show wpAny _ _ (typeOf (.ref sl) >>= _) _ _ s
  refine wpAny_bind (wpAny_typeOf hTs ?_)
  first
    | rw [if_neg (by decide)]
    | refine PySem.W.KFB.if_not (by decide) ?_
  rw [listSliceParts_eq]
  refine wpAny_bind (wpAny_bind (wpAny_field hos hds (x := .none) rfl (wpAny_bind (wpAny_listPart .none ?_))))
  rw [if_neg hstep]
  refine wpAny_bind (wpAny_field hos hds (x := vl) rfl (wpAny_bind (wpAny_listPart pl ?_)))
  refine wpAny_bind (wpAny_field hos hds (x := vu) rfl (wpAny_bind (wpAny_listPart pu (wpAny_pure ?_))))
  dsimp only
  unfold Builtin.List.listItems
  refine wpAny_bind (wpAny_bind (wpAny_seqItems e rfl (wpAny_pure ?_)))
  refine wpAny_bind (wpAny_of_eq ((sliceIndices_raw (some (a : Int)) none none items.size (by simp)).trans (congrArg (pure : Int × Int × Int → Sem (Int × Int × Int)) (bounds_from ha))) ?_)
  dsimp only
  refine wpAny_bind (wpAny_rule ?_)
  have hf : ∀ (p : Nat → Bool), (p = fun k : Nat => (decide ((a : Int) ≤ (k : Int)) && decide ((k : Int) < (items.size : Int)) && (((k : Int) - (a : Int)) % 1 == 0))) → ((items.toList.zipIdx.filterMap fun q : Value × Nat => if p q.2 = true then none else some q.1)).toArray = (items.toList.take a).toArray := fun p hp => by
    rw [filt_take items.toList 0 (a := a) (p := p) fun k _ hk => ?_]
    · rfl
    · rw [hp]
      have hk' : k < items.size := by simpa using hk
      have e1 : decide ((k : Int) < (items.size : Int)) = true := decide_eq_true (by omega)
      have e2 : ((((k : Int) - (a : Int)) % 1 == 0)) = true := by
        rw [Int.emod_one]
        rfl
      show (decide ((a : Int) ≤ (k : Int)) && decide ((k : Int) < (items.size : Int)) && (((k : Int) - (a : Int)) % 1 == 0)) = decide (a ≤ k)
      rw [e1, e2, Bool.and_true, Bool.and_true]
      exact decide_eq_decide.mpr (by omega)
  have hk := hf _ rfl
  have hz' : ((items.toList.take a).toArray).size ≤ sizeLine + 1 := by
    rw [List.size_toArray, List.length_take, Array.length_toList]
    omega
  refine wpAny_bind ?_
  unfold Builtin.List.listUpdate
  refine wpAny_updateSeq (hz := hsz) (_hz' := Nat.le_trans (Nat.le_of_eq (congrArg Array.size hk)) hz') e rfl ?_
  refine wpAny_bind (wpAny_letGo ?_)
  exact wpAny_pure ⟨.none, rfl, wpAny_pure (h _ hk)⟩
end
section
variable {X : Cx} {e lo : Expr} {te tl : TE} {tpos p2 pos : Pos}
/-- del xs[a:] -/
def tDelF (te tl : TE) : TS := fun D σ H => te σ H fun x H1 => tl σ H1 fun y H2 => ∃ (l : Addr) (xs : List V) (a : Nat), x = .ref l ∧ y = .int (a : Nat) ∧ H2 l = some (.lst xs) ∧ a ≤ xs.length ∧ D.nx σ (upd H2 l (.lst (xs.take a)))
theorem ps_delF (he : PE X e te) (hl : PE X lo tl) : PS X (.Delete [.Subscript e (.Slice (some lo) none none p2) tpos] pos) (tDelF te tl) := by
  refine ⟨fun pins s σ H D I h => ?_⟩
  refine wpAny_Delete (wpAny_deleteEach_cons (wpAny_delete_Subscript (thn (he.run pins s σ H _ I h) fun u s1 ⟨x, H1, I1, rx, q1⟩ => ?_)))
  refine wpAny_Slice ?_
  rw [evalPart_some]
  refine thn (hl.run pins s1 σ H1 _ I1 q1) fun vl s2 ⟨y, H2, I2, ry, q2⟩ => ?_
  obtain ⟨l, xs, a, ex, ey, hx, ha, q⟩ := q2
  subst ex ey
  obtain rfl : u = Value.ref l := rx
  obtain ⟨t, rfl⟩ := (show ∃ t, vl = Value.int (a : Nat) t from ry)
  rw [evalPart_none]
  refine wpAny_pure ?_
  refine wpAny_pure ?_
  have I4 : Inv X pins σ H2 { s2 with heap := s2.heap.push { cls := .type "slice", data := .fields #[.int (a : Nat) t, .none, .none] } } := I2.kept (t' := s2.toks) fun b ob q => Heap.get?_push_of_some _ q
  obtain ⟨z, its, n, r, hln, eo⟩ := I4.lstM hx
  refine delItem_from (a := a) eo (Heap.IsSliceOf.new ..) (.int _ _) .none (by rw [List.size_toArray, ← hln]; exact ha) (by rw [List.size_toArray]; omega) fun f hf => ?_
  refine wpAny_deleteEach_nil ⟨σ, _, I4.lset (its' := its.take a) (t' := s2.toks) hx eo ?_ (r.take _) ?_, q⟩
  · show f its.toArray = (its.take a).toArray
    rw [hf]
  · rw [List.length_take]
    omega
end
end L2

set_option maxRecDepth 100000
set_option maxHeartbeats 1000000
/-! t.index(k), of numbers -/
namespace Pk
open PySem PySem.Spec PyProof.Rows L2
/-- a tuple of numbers whose object is known -/
def FzT (H : Hp) (a : Addr) (ns : List Int) : Prop := ∃ o : Obj, H a = some (.frz o (.tup (ns.map V.int))) ∧ o.cls = .type "tuple" ∧ o.dict = none
section
variable {X : Cx} {o : Expr} {td ty : TE}
theorem mt_tupIx (pins : List (Addr × Obj)) (s : Shared) (σ : L2.St) (H : Hp) (p : Addr) (ns : List Int) (k : Int) (u : Value) (Q : VK) (I : Inv X pins σ H s) (ru : RelV (.int k) u) (hs : SqT X.K H p (ns.map V.int)) (hk : k ∈ ns) (q : Q (.int (ns.idxOf k : Nat)) H) :
    wpAny (model X.prog X.w) X.A (call (.builtin "tuple.index") [.ref p, u]) (EP X pins σ Q) X.xe s := by
  obtain ⟨t, rfl⟩ := ru
  obtain ⟨its, rv, p1, hlen⟩ := I.tuple hs
  have i1 : IntsAre its ns := Vals.ints rv
  exact SeqAt.tuple_index_ints p1 i1 hk ⟨.int (ns.idxOf k : Nat), H, I.tok _, ⟨_, rfl⟩, q⟩
def tTupIx (K : PySem.W.Frag) (td ty : TE) : TE := fun σ H Q => td σ H fun x H1 => ∃ (a : Addr) (ns : List Int), x = .ref a ∧ FzT H1 a ns ∧ ty σ H1 fun y H2 => ∃ k : Int, y = .int k ∧ FzT H2 a ns ∧ k ∈ ns ∧ Q (.int (ns.idxOf k : Nat)) H2
theorem pe_tupIx {e : Expr} {apos cpos : Pos} (ho : PE X o td) (he : PE X e ty) (m : M1 X o "index" apos e cpos) : PE X (.Call (.Attribute o "index" apos) [e] [] cpos) (tTupIx X.K td ty) := by
  refine ⟨fun pins s σ H Q I h => ?_⟩
  refine wpAny_Call_method m.base m.few m.line PySem.F.plainAttrs_tuple PySem.F.slot_tuple_index PySem.F.type_tuple_index (thn (ho.run pins s σ H _ I h) fun u s1 ⟨x, H1, I1, rx, a, ns, ex, ⟨ob, hf, hc, hd⟩, q1⟩ => ?_)
  subst ex
  obtain rfl : u = Value.ref a := rx
  have ok : ObjOk X.prog X.w H1 s1.heap a (.frz ob (.tup (ns.map V.int))) := I1.hok a _ hf
  refine ⟨⟨ob, ok.1, hc⟩, fun c q => ?_, ?_⟩
  · cases q
    exact ⟨ob, ok.1, hd⟩
  rw [m.trees]
  refine Calls.callWith_builtin rfl (Calls.evalArgs_plain (Calls.spliced_cons (thn (he.run pins s1 σ H1 _ I1 q1) fun iv s2 ⟨y, H2, I2, ry, k, ey, ⟨ob2, hf2, _, _⟩, hk, q2⟩ => Calls.spliced_nil ?_)))
  subst ey
  exact mt_tupIx pins s2 σ H2 a ns k iv Q I2 ry (.inl (.inr ⟨ob2, hf2⟩)) hk q2
/-- tuple(l) of a list of numbers: the object is known -/
def rTupF (K : PySem.W.Frag) : List V → Hp → VK → Prop := fun vs H Q => ∃ (p : Addr) (ys : List V), vs = [V.ref p] ∧ SqL K H p ys ∧ ∀ (l : Addr) (o : Obj), H l = none → o.cls = .type "tuple" → o.dict = none → Q (.ref l) (upd H l (.frz o (.tup ys)))
theorem cr_tupF : CallR X (.type "tuple") (rTupF X.K) := by
  intro pins s σ H xs us Q I r h
  obtain ⟨p, ys, rfl, hq, q⟩ := h
  obtain ⟨u, rfl, rx⟩ := vals1 r
  cases rx
  obtain ⟨its, r', pl, hz⟩ := I.list hq
  have hlen := r'.length
  refine call_tuple_list pl.isList (fun h' kp => ?_) (by simp only [List.size_toArray] <;> omega)
  have I1 : Inv X pins σ H { s with heap := h' } := I.kept (t' := s.toks) kp
  have I2 : Inv X pins σ (upd H h'.objs.size (.frz { cls := .type "tuple", data := .seq its.toArray } (.tup ys))) { s with heap := h'.push { cls := .type "tuple", data := .seq its.toArray } } :=
    I1.laid (t' := s.toks) (fun b o e => Heap.get?_push_of_some _ e) (Nat.le_refl _) (show ObjOk X.prog X.w _ _ _ (.frz _ (.tup ys)) from ⟨Heap.get?_push_size _ rfl, hz, its, r', IsTup.new _ _⟩)
  exact ⟨.ref h'.objs.size, _, I2, rfl, q _ _ (I1.hok.fresh (Nat.le_refl _)) rfl rfl⟩
end
end Pk

set_option maxRecDepth 100000
set_option maxHeartbeats 1000000
/-! t[::-1] of a tuple: its object is known -/
namespace HT
open PySem PyProof.Rows
section
variable {prog : Program} {w : World} {A : Around} {E : Value → Shared → Prop} {s : Shared}
theorem sliceApplied_rev {sl : Addr} {t : Tok} {n : Nat} {Q : Int × Int × Nat → Shared → Prop} (hs : s.heap.IsSliceOf sl .none .none (.int (-1) t))
    (h : Q ((n : Int) - 1, -1, n) s) : wpAny (model prog w) A (Builtin.Slice.sliceApplied (.ref sl) (pure (n : Int))) Q E s := by
  obtain ⟨os, hos, hcs, hds⟩ := id hs
  unfold Builtin.Slice.sliceApplied Builtin.Slice.sliceFields
  refine wpAny_bind (wpAny_bind (wpAny_field hos hds (x := .none) rfl (wpAny_bind (wpAny_field hos hds (x := .none) rfl (wpAny_bind (wpAny_field hos hds (x := .int (-1) t) rfl (wpAny_pure ?_)))))))
  refine wpAny_bind (slicePart_int ?_)
  show wpAny _ _ (if ((-1 : Int) == 0) = true then _ else _) _ _ s
  rw [if_neg (by decide)]
  refine wpAny_bind (slicePart_none (wpAny_bind (slicePart_none (wpAny_bind (wpAny_pure ?_)))))
  have e1 : Builtin.Slice.sliceAdjust none none (-1) (n : Int) = ((n : Int) - 1, -1) := by
    unfold Builtin.Slice.sliceAdjust
    simp only [show ((-1 : Int) < 0) by decide, if_true]
  have e2 : Builtin.Slice.slicePlaces ((n : Int) - 1) (-1) (-1) = n := by
    unfold Builtin.Slice.slicePlaces
    simp only [show ¬ ((-1 : Int) > 0) by decide, if_false]
    rw [show -(-1 : Int) = 1 by decide, Int.ediv_one]
    split <;> omega
  show wpAny _ _ (match Builtin.Slice.sliceAdjust none none (-1) (n : Int) with | (lo, hi) => pure (lo, (-1 : Int), Builtin.Slice.slicePlaces lo hi (-1))) _ _ s
  rw [e1]
  show wpAny _ _ (pure ((n : Int) - 1, (-1 : Int), Builtin.Slice.slicePlaces ((n : Int) - 1) (-1) (-1))) _ _ s
  rw [e2]
  exact wpAny_pure h
theorem filt_all {α β : Type} {f : α → Option β} {g : α → β} : ∀ {l : List α}, (∀ m ∈ l, f m = some (g m)) → l.filterMap f = l.map g
  | [], _ => rfl
  | x :: l, h => by
    rw [List.filterMap_cons, h x (List.mem_cons_self ..), filt_all fun m hm => h m (List.mem_cons_of_mem _ hm)]
    rfl
theorem pick_rev (xs : Array Value) : ((List.range xs.size).filterMap fun (m : Nat) => xs[(((xs.size : Nat) : Int) - 1 + (m : Int) * (-1)).toNat]?).toArray = xs.toList.reverse.toArray := by
  congr 1
  rw [filt_all (g := fun m => xs.getD (xs.size - 1 - m) .none) fun m hm => ?_]
  · refine List.ext_getElem? fun i => ?_
    by_cases hi : i < xs.size
    · rw [List.getElem?_map, List.getElem?_range hi, List.getElem?_reverse (by rw [Array.length_toList]; exact hi), Array.length_toList]
      have : xs.size - 1 - i < xs.size := by omega
      simp [Array.getD, this]
    · rw [List.getElem?_eq_none (by rw [List.length_map, List.length_range]; omega), List.getElem?_eq_none (by rw [List.length_reverse, Array.length_toList]; omega)]
  · have hm' : m < xs.size := List.mem_range.mp hm
    have : xs.size - 1 - m < xs.size := by omega
    rw [show (((xs.size : Nat) : Int) - 1 + (m : Int) * (-1)).toNat = xs.size - 1 - m by omega]
    simp [Array.getD, this]
theorem getItem_tuple_rev {t sl : Addr} {items : Array Value} {tk : Tok} {Q : Value → Shared → Prop} (ht : IsTup s.heap t items) (hs : s.heap.IsSliceOf sl .none .none (.int (-1) tk))
    (h : Q (.ref s.heap.objs.size) { s with heap := s.heap.push { cls := .type "tuple", data := .seq items.toList.reverse.toArray } })
    (hsz : items.size ≤ sizeLine) : wpAny (model prog w) A (getItem (.ref t) (.ref sl)) Q E s := by
  have htake : sizeOk (.seq items.toList.reverse.toArray) := by
    show items.toList.reverse.toArray.size ≤ sizeLine
    rw [List.size_toArray, List.length_reverse, Array.length_toList]
    exact hsz
  obtain ⟨os, hos, hcs, hds⟩ := id hs
  have hTs : s.TypeIs (.ref sl) "slice" := ⟨os, hos, hcs⟩
  unfold getItem
  try with_reducible refine wpAny_holding ?_
  first | refine wpAny_bind (wpAny_pure ?_) | skip
  refine wpAny_bind (wpAny_sequenceKey ht.typeIs (by decide) ?_)
  refine wpAny_bind (wpAny_callSpecial?_slot (name := Str.ofString "__getitem__") ht.typeIs PyProof.Rows.slot_tuple_getitem
    (wpAny_call_entry PyProof.Rows.slot_tuple_getitem ht.typeIs entry_tuple_getitem ?_ (args_tuple_getitem _ _)))
  show wpAny _ _ (Builtin.Tuple.tupleItemsOf (.ref t) >>= _) _ _ s
  refine wpAny_bind (tupleItemsOf_ ht ?_)
  refine wpAny_bind (wpAny_typeOf hTs ?_)
  rw [if_pos (by decide)]
  refine wpAny_bind (sliceApplied_rev hs ?_)
  have hno : ¬ (((((items.size : Nat) : Int) - 1) == 0 && (-1 : Int) == 1 && items.size == items.size) = true) := by
    intro q
    rw [Bool.and_eq_true, Bool.and_eq_true] at q
    exact absurd q.1.2 (by decide)
  show wpAny _ _ (if ((((items.size : Nat) : Int) - 1) == 0 && (-1 : Int) == 1 && items.size == items.size) = true then _ else _) _ _ s
  rw [if_neg hno, pick_rev]
  first
    | exact wpAny_bind (m := Builtin.Tuple.tupleExact _) (wpAny_newObj_type (wpAny_pure ⟨_, rfl, wpAny_pure h⟩) htake)
    | exact wpAny_bind (m := Builtin.Tuple.tupleExact _) (wpAny_newObj_type (wpAny_bind (wpAny_pure (wpAny_pure ⟨_, rfl, wpAny_pure h⟩))) htake)
end
end HT
namespace Pk
open PySem PySem.Spec PyProof.Rows L2
section
variable {X : Cx}
def tRevT (K : PySem.W.Frag) (te : TE) : TE := fun σ H Q => te σ H fun x H1 => ∃ a xs, x = .ref a ∧ SqT K H1 a xs ∧ ∀ (p : Addr) (o : Obj), H1 p = none → o.cls = .type "tuple" → o.dict = none → Q (.ref p) (upd H1 p (.frz o (.tup xs.reverse)))
theorem pe_revT {e : Expr} {te : TE} {j : Nat} {p2 p3 p4 pos : Pos} (he : PE X e te) : PE X (.Subscript e (.Slice none none (some (.UnaryOp .USub (.Constant (.int 1) j p4) p3)) p2) pos) (tRevT X.K te) := by
  refine ⟨fun pins s σ H Q I h => ?_⟩
  refine Subscript_ (thn (he.run pins s σ H _ I h) fun v s1 ⟨x, H1, I1, r1, q1⟩ => ?_)
  have hst := po_some (X := X) (pe_un (pos := p3) un_neg (pe_int (i := 1) (j := j) (pos := p4)))
  refine wpAny_Slice ?_
  rw [evalPart_none]
  refine wpAny_pure ?_
  refine wpAny_pure ?_
  refine thn (hst.run pins s1 σ H1 (fun o H' => o = some (-1) ∧ H' = H1) I1 ?_) fun vs s3 ⟨o, H3, I3, ps, q3⟩ => ?_
  · exact ⟨1, rfl, -1, rfl, rfl, rfl⟩
  obtain ⟨rfl, rfl⟩ := q3
  obtain ⟨a, xs, rfl, hx, q⟩ := q1
  cases r1
  cases ps with
  | int i tk =>
    have I4 : Inv X pins σ H3 { s3 with heap := s3.heap.push { cls := .type "slice", data := .fields #[.none, .none, .int (-1) tk] } } := I3.kept (t' := s3.toks) fun b ob q => Heap.get?_push_of_some _ q
    obtain ⟨its, r, ht, hz⟩ := I4.tuple hx
    have hlen := r.length
    show wpAny (model X.prog X.w) X.A (subscriptTail e (.Slice none none (some (.UnaryOp .USub (.Constant (.int 1) j p4) p3)) p2) (.ref a) (.ref s3.heap.objs.size)) (EP X pins σ Q) X.xe { s3 with heap := s3.heap.push { cls := .type "slice", data := .fields #[.none, .none, .int (-1) tk] } }
    refine tail_any (ops := _) ht.typeIs PyProof.Rows.slot_tuple_getitem.lookup ?_ (by with_unfolding_all rfl)
    refine HT.getItem_tuple_rev ht (Heap.IsSliceOf.new ..) ?_ (by rw [List.size_toArray]; omega)
    refine ⟨.ref _, _, I4.laid (t' := s3.toks) (o := .frz { cls := .type "tuple", data := .seq its.reverse.toArray } (.tup xs.reverse)) (fun b ob q => Heap.get?_push_of_some _ q) (Nat.le_refl _) ?_, rfl, q _ _ (I4.hok.fresh (Nat.le_refl _)) rfl rfl⟩
    exact ⟨Heap.get?_push_size _ rfl, by rw [List.length_reverse]; exact hz, its.reverse, r.reverse, IsTup.new _ _⟩
end
end Pk

set_option maxRecDepth 100000
set_option maxHeartbeats 1000000
/-! zip of a tuple and a list: zip of any two feeds -/
namespace Pk
open PySem PySem.Spec PyProof.Rows L2
/-- the iterator at it over what stands at l; St: the place it stands at -/
structure Feed (it l : Addr) (St : Nat → Heap → Prop) (xs : Array Value) : Prop where
  keep : ∀ {k : Nat} {h h' : Heap}, St k h → (∀ c, c = it ∨ c = l → ∀ o, h.get? c = some o → h'.get? c = some o) → St k h'
  item : ∀ {prog : Program} {w : World} {A : Around} {E : Value → Shared → Prop} {s : Shared} {k : Nat} {x : Value} {Q : Value → Shared → Prop}, St k s.heap → xs[k]? = some x →
    (∀ h', St (k + 1) h' → Heap.SameBut it s.heap h' → Q x { s with heap := h' }) → wpAny (model prog w) A (Builtin.SmallTypes.nextOf (.ref it)) Q E s
  stop : ∀ {prog : Program} {w : World} {A : Around} {E : Value → Shared → Prop} {s : Shared} {k : Nat} {Q : Value → Shared → Prop}, A.handled = none → St k s.heap → xs[k]? = none →
    (∀ h' e, Heap.ExtBut it s.heap h' → (∃ o, h'.get? e = some o ∧ o.cls = .type "StopIteration") → E (.ref e) { s with heap := h' }) → wpAny (model prog w) A (Builtin.SmallTypes.nextOf (.ref it)) Q E s
def StT (it l : Addr) (xs : Array Value) (k : Nat) (h : Heap) : Prop := h.IsTupleIter it l k ∧ h.IsTuple l xs
def StL (it l : Addr) (xs : Array Value) (k : Nat) (h : Heap) : Prop := h.IsListIter it l k ∧ h.IsList l xs
theorem feedT {it l : Addr} {xs : Array Value} (hne : l ≠ it) : Feed it l (StT it l xs) xs where
  keep := fun ⟨a, b⟩ e => ⟨a.at fun o q => e it (.inl rfl) o q, b.at fun o q => e l (.inr rfl) o q⟩
  item := fun ⟨a, b⟩ hx hq => RZ.nextOf_tuple_item a b hx fun h' a' sb => hq h' ⟨a', b.at fun o q => sb.extBut _ _ hne q⟩ sb
  stop := fun hh ⟨a, b⟩ hx he => RZ.nextOf_tuple_end hh a b hx he
theorem feedL {it l : Addr} {xs : Array Value} (hne : l ≠ it) : Feed it l (StL it l xs) xs where
  keep := fun ⟨a, b⟩ e => ⟨a.at fun o q => e it (.inl rfl) o q, b.at fun o q => e l (.inr rfl) o q⟩
  item := fun ⟨a, b⟩ hx hq => wpAny_nextOf_list_item a b hx fun h' a' sb => hq h' ⟨a', b.at fun o q => sb.extBut _ _ hne q⟩ sb
  stop := fun hh ⟨a, b⟩ hx he => wpAny_nextOf_list_end hh a b hx he
section
variable {prog : Program} {w : World} {A : Around} {E : Value → Shared → Prop} {s : Shared} {z TI TO i1 i2 l1 l2 : Addr} {S1 S2 : Nat → Heap → Prop} {xs ys : Array Value} {k1 k2 : Nat} {a b : Value}
/-- one step of zip up to its feeds -/
theorem zip_open {R : Fin → Shared → Prop} (D : ZipApart z TI TO i1 i2 l1 l2) (hz : IsZip s.heap z TI TO .none) (hTI : IsPair s.heap TI (.ref i1) (.ref i2)) (hTO : IsPair s.heap TO a b)
    (f1 : Feed i1 l1 S1 xs) (f2 : Feed i2 l2 S2 ys) (h1 : S1 k1 s.heap) (h2 : S2 k2 s.heap) (hh : A.handled = none)
    (hgo : ∀ x y, xs[k1]? = some x → ys[k2]? = some y → ∀ h', IsZip h' z TI TO (rawInt s.heap.objs.size) → IsPair h' TO x y → S1 (k1 + 1) h' → S2 (k2 + 1) h' → IsPair h' s.heap.objs.size x y →
      (∀ c o, c ≠ z → c ≠ TO → c ≠ i1 → c ≠ i2 → s.heap.get? c = some o → h'.get? c = some o) → R (.done (.ret (.ref s.heap.objs.size))) { s with heap := h' })
    (hend : (xs[k1]? = none ∨ ys[k2]? = none) → ∀ h' e, (∀ c o, c ≠ z → c ≠ TO → c ≠ i1 → c ≠ i2 → s.heap.get? c = some o → h'.get? c = some o) → (∃ o, h'.get? e = some o ∧ o.cls = .type "StopIteration") → E (.ref e) { s with heap := h' }) :
    wpAny (model prog w) A (Builtin.«zip.__next__» ⟨[.ref z], []⟩) R E s := by
  show wpAny _ _ (field (.ref z) 2 >>= _) _ _ _
  refine wpAny_bind (wpAny_field hz rfl (x := .bool false) rfl ?_)
  show wpAny _ _ (field (.ref z) 3 >>= _) _ _ _
  refine wpAny_bind (wpAny_field hz rfl (x := .ref TI) rfl (wpAny_bind (wpAny_seqItems hTI rfl ?_)))
  show wpAny _ _ (Builtin.SmallTypes.ownedTupleIsFree (.ref z) >>= _) _ _ _
  unfold Builtin.SmallTypes.ownedTupleIsFree
  refine wpAny_bind (wpAny_bind (wpAny_field hz rfl (x := .none) rfl (wpAny_pure ?_)))
  simp only [if_true]
  refine wpAny_bind (wpAny_rule (wpAny_bind (wpAny_field hz rfl (x := .ref TO) rfl (wpAny_bind (wpAny_setField_rec hz (by simp) fun ha za sa => ?_)))))
  replace za : IsZip ha z TI TO .ellipsis := za
  have ka : ∀ c o, c ≠ z → s.heap.get? c = some o → ha.get? c = some o := fun c o n e => sa.extBut c o n e
  refine wpAny_bind ?_
  simp only [List.zipIdx_cons, List.zipIdx_nil, List.forIn_cons, List.forIn_nil]
  refine wpAny_bind (wpAny_bind (wpAny_onRaise ?_))
  show wpAny _ _ (Builtin.SmallTypes.nextOf (.ref i1) >>= _) _ _ _
  have h1a : S1 k1 ha := f1.keep h1 fun c hc o e => ka c o (by rcases hc with q | q <;> rw [q]; exact D.i1z; exact D.l1z) e
  cases hx : xs[k1]? with
  | none =>
    refine wpAny_bind (f1.stop hh h1a hx fun hb e sb he => ?_)
    obtain ⟨oe, hoe, hce⟩ := he
    have zb : IsZip hb z TI TO .ellipsis := sb _ _ D.i1z.symm za
    have nez : e ≠ z := fun q => by
      subst q
      rw [zb] at hoe
      cases hoe
      simp at hce
    exact wpAny_setField_rec zb (by simp) fun hc _ sc => hend (.inl hx) hc e (fun c o n1 _ n3 _ q => sc.extBut _ _ n1 (sb _ _ n3 (ka _ _ n1 q))) ⟨oe, sc.extBut _ _ nez hoe, hce⟩
  | some x =>
    refine wpAny_bind (f1.item h1a hx fun hb h1b sb => wpAny_pure ?_)
    have kb : ∀ c o, c ≠ z → c ≠ i1 → s.heap.get? c = some o → hb.get? c = some o := fun c o n1 n2 e => sb.extBut _ _ n2 (ka c o n1 e)
    have TOb : IsPair hb TO a b := kb _ _ D.TOz D.TOi1 hTO
    refine wpAny_bind (wpAny_seqItems TOb rfl (wpAny_bind (wpAny_updateSeq_pair TOb fun hc TOc sc => wpAny_bind (wpAny_letGo (wpAny_pure ?_)))))
    replace TOc : IsPair hc TO x b := TOc
    have kc : ∀ c o, c ≠ z → c ≠ i1 → c ≠ TO → s.heap.get? c = some o → hc.get? c = some o := fun c o n1 n2 n3 e => sc.extBut _ _ n3 (kb c o n1 n2 e)
    have zc : IsZip hc z TI TO .ellipsis := sc.extBut _ _ D.TOz.symm (sb.extBut _ _ D.i1z.symm za)
    have h1c : S1 (k1 + 1) hc := f1.keep h1b fun c hcc o e => sc.extBut _ _ (by rcases hcc with q | q <;> rw [q]; exact D.TOi1.symm; exact D.l1TO) e
    have h2c : S2 k2 hc := f2.keep h2 fun c hcc o e => by
      rcases hcc with q | q <;> subst q
      · exact kc _ _ D.i2z D.i12.symm D.TOi2.symm e
      · exact kc _ _ D.l2z D.l2i1 D.l2TO e
    refine wpAny_bind (wpAny_bind (wpAny_onRaise ?_))
    show wpAny _ _ (Builtin.SmallTypes.nextOf (.ref i2) >>= _) _ _ _
    cases hy : ys[k2]? with
    | none =>
      refine wpAny_bind (f2.stop hh h2c hy fun hd e sd he => ?_)
      obtain ⟨oe, hoe, hce⟩ := he
      have zd : IsZip hd z TI TO .ellipsis := sd _ _ D.i2z.symm zc
      have nez : e ≠ z := fun q => by
        subst q
        rw [zd] at hoe
        cases hoe
        simp at hce
      exact wpAny_setField_rec zd (by simp) fun hf _ sf => hend (.inr hy) hf e (fun c o n1 n2 n3 n4 q => sf.extBut _ _ n1 (sd _ _ n4 (kc _ _ n1 n3 n2 q))) ⟨oe, sf.extBut _ _ nez hoe, hce⟩
    | some y =>
      refine wpAny_bind (f2.item h2c hy fun hd h2d sd => wpAny_pure ?_)
      have TOd : IsPair hd TO x b := sd.extBut _ _ D.TOi2 TOc
      refine wpAny_bind (wpAny_seqItems TOd rfl (wpAny_bind (wpAny_updateSeq_pair TOd fun he TOe se => wpAny_bind (wpAny_letGo (wpAny_pure (wpAny_pure ?_))))))
      replace TOe : IsPair he TO x y := TOe
      refine wpAny_bind (wpAny_seqItems TOe rfl (wpAny_bind (wpAny_newTuple ?_)))
      have sz : he.objs.size = s.heap.objs.size := by rw [se.1, sd.1, sc.1, sb.1, sa.1]
      have ze : IsZip he z TI TO .ellipsis := se.extBut _ _ D.TOz.symm (sd.extBut _ _ D.i2z.symm zc)
      have ke : ∀ c o, c ≠ z → c ≠ TO → c ≠ i1 → c ≠ i2 → s.heap.get? c = some o → he.get? c = some o := fun c o n1 n2 n3 n4 e => se.extBut _ _ n2 (sd.extBut _ _ n4 (kc c o n1 n3 n2 e))
      have h1e : S1 (k1 + 1) he := f1.keep h1c fun c hcc o e => by
        rcases hcc with q | q <;> subst q
        · exact se.extBut _ _ D.TOi1.symm (sd.extBut _ _ D.i12 e)
        · exact se.extBut _ _ D.l1TO (sd.extBut _ _ D.l1i2 e)
      have h2e : S2 (k2 + 1) he := f2.keep h2d fun c hcc o e => by
        rcases hcc with q | q <;> subst q
        · exact se.extBut _ _ D.TOi2.symm e
        · exact se.extBut _ _ D.l2TO e
      have lz : z < he.objs.size := Heap.lt_size ze
      show wpAny _ _ (Builtin.SmallTypes.ownedTupleHandOut (.ref z) (.ref he.objs.size) >>= _) _ _ _
      unfold Builtin.SmallTypes.ownedTupleHandOut
      have zf : IsZip (he.push { cls := .type "tuple", data := .seq #[x, y] }) z TI TO .ellipsis := Heap.get?_push_of_some _ ze
      refine wpAny_bind (wpAny_bind (wpAny_setField_rec zf (by simp) fun hg zg sg => ?_))
      replace zg : IsZip hg z TI TO (rawInt he.objs.size) := zg
      refine wpAny_setField_rec zg (by simp) fun hi zi si => ?_
      replace zi : IsZip hi z TI TO (rawInt he.objs.size) := zi
      have up : ∀ c o, c ≠ z → he.get? c = some o → hi.get? c = some o := fun c o n e => si.extBut _ _ n (sg.extBut _ _ n (Heap.get?_push_of_some _ e))
      have Ti : IsPair hi he.objs.size x y := si.extBut _ _ (Nat.ne_of_gt lz) (sg.extBut _ _ (Nat.ne_of_gt lz) (Heap.get?_push_size _ rfl))
      rw [sz] at zi Ti
      refine wpAny_pure ?_
      show R (.done (.ret (.ref he.objs.size))) _
      rw [sz]
      refine hgo x y hx hy hi zi (up _ _ D.TOz TOe) (f1.keep h1e fun c hcc o e => up c o (by rcases hcc with q | q <;> rw [q]; exact D.i1z; exact D.l1z) e) (f2.keep h2e fun c hcc o e => up c o (by rcases hcc with q | q <;> rw [q]; exact D.i2z; exact D.l2z) e) Ti fun c o n1 n2 n3 n4 e => up c o n1 (ke c o n1 n2 n3 n4 e)
theorem pyNext_open {Q : Option Value → Shared → Prop} (D : ZipApart z TI TO i1 i2 l1 l2) (hz : IsZip s.heap z TI TO .none) (hTI : IsPair s.heap TI (.ref i1) (.ref i2)) (hTO : IsPair s.heap TO a b)
    (f1 : Feed i1 l1 S1 xs) (f2 : Feed i2 l2 S2 ys) (h1 : S1 k1 s.heap) (h2 : S2 k2 s.heap) (hh : A.handled = none)
    (hgo : ∀ x y, xs[k1]? = some x → ys[k2]? = some y → ∀ h', IsZip h' z TI TO (rawInt s.heap.objs.size) → IsPair h' TO x y → S1 (k1 + 1) h' → S2 (k2 + 1) h' → IsPair h' s.heap.objs.size x y →
      (∀ c o, c ≠ z → c ≠ TO → c ≠ i1 → c ≠ i2 → s.heap.get? c = some o → h'.get? c = some o) → Q (some (.ref s.heap.objs.size)) { s with heap := h' })
    (hend : (xs[k1]? = none ∨ ys[k2]? = none) → ∀ h', (∀ c o, c ≠ z → c ≠ TO → c ≠ i1 → c ≠ i2 → s.heap.get? c = some o → h'.get? c = some o) → Q none { s with heap := h' }) :
    wpAny (model prog w) A (pyNext (.ref z)) Q E s := by
  have tz : s.TypeIs (.ref z) "zip" := ⟨_, hz, rfl⟩
  unfold pyNext
  refine wpAny_bind (wpAny_attempt (wpAny_callSpecial?_slot (name := Str.ofString "__next__") tz F.slot_zip_next (wpAny_call_entry F.slot_zip_next tz F.entry_zip_next (zip_open D hz hTI hTO f1 f2 h1 h2 hh ?_ ?_) (F.args_zip_next_1 _))))
  · exact fun x y hx hy h' a1 a2 a3 a4 a5 a6 => ⟨_, rfl, wpAny_pure (hgo x y hx hy h' a1 a2 a3 a4 a5 a6)⟩
  · intro hn h' e hk ⟨o, ho, hc⟩
    exact wpAny_bind (wpAny_isInstance (T := "StopIteration") (b := true) ⟨o, ho, hc⟩ isSubtype_stop (wpAny_pure (hend hn h' hk)))
end
abbrev mzA (h : Heap) (l1 : Addr) : Heap := h.push { cls := .type "tuple_iterator", data := .fields #[.ref l1, .int 0 0] }
abbrev mzB (h : Heap) (l1 l2 : Addr) : Heap := (mzA h l1).push { cls := .type "list_iterator", data := .fields #[.ref l2, .int 0 0] }
abbrev mzC (h : Heap) (l1 l2 : Addr) : Heap := (mzB h l1 l2).push { cls := .type "tuple", data := .seq #[.ref h.objs.size, .ref (mzA h l1).objs.size] }
abbrev mzD (h : Heap) (l1 l2 : Addr) : Heap := (mzC h l1 l2).push { cls := .type "tuple", data := .seq #[.none, .none] }
abbrev mzE (h : Heap) (l1 l2 : Addr) : Heap := (mzD h l1 l2).push { cls := .type "zip", data := .fields #[.none, .bool false, .bool false, .ref (mzB h l1 l2).objs.size, .ref (mzC h l1 l2).objs.size] }
theorem mz_new (l1 l2 : Addr) (xs ys : Array Value) :
    Meets (Builtin.«zip.__new__» ⟨[.type "zip", .ref l1, .ref l2], []⟩) (fun _ R s => s.heap.IsTuple l1 xs ∧ s.heap.IsList l2 ys ∧ R (.ok (.ret (.ref (mzD s.heap l1 l2).objs.size))) { s with heap := mzE s.heap l1 l2 }) :=
  .of_wp fun prog w A R s h => by
    obtain ⟨h0, g0, d0, t0, o0⟩ := s
    obtain ⟨q1, q2, q⟩ := h
    have tt := sub_zip
    have p1 : Heap.IsTuple (Shared.heap ⟨h0, g0, d0, t0, o0⟩) l1 xs := q1
    have p2 : Heap.IsList (Shared.heap ⟨mzA h0 l1, g0, d0, t0, o0⟩) l2 ys := Heap.IsList.push q2 _
    wp_walk using wpAny_pyIter_tuple p1, wpAny_pyIter_list p2
    exact ⟨_, rfl, q⟩
section
variable {prog : Program} {w : World} {A : Around} {E : Value → Shared → Prop} {s : Shared}
theorem call_zipM {l1 l2 : Addr} {xs ys : Array Value} {Q : Value → Shared → Prop} (q1 : s.heap.IsTuple l1 xs) (q2 : s.heap.IsList l2 ys)
    (h : ∀ h' z TI TO i1 i2, z = s.heap.objs.size + 4 → TI = s.heap.objs.size + 2 → TO = s.heap.objs.size + 3 → i1 = s.heap.objs.size → i2 = s.heap.objs.size + 1 → IsZip h' z TI TO .none → IsPair h' TI (.ref i1) (.ref i2) → IsPair h' TO .none .none → h'.IsTupleIter i1 l1 0 → h'.IsListIter i2 l2 0 →
      (∀ c o, s.heap.get? c = some o → h'.get? c = some o) → Q (.ref z) { s with heap := h' }) :
    wpAny (model prog w) A (call (.type "zip") [.ref l1, .ref l2]) Q E s := by
  refine callType_new F.called_zip (by decide) (F.typeCall_zip_2 _ _) (F.newCall_zip_2 _ _) (fun obj => F.args_object_init_3 obj _ _) F.entry_zip_new (mz_new l1 l2 xs ys) ⟨q1, q2, ?_⟩
  have n1 : (mzA s.heap l1).objs.size = s.heap.objs.size + 1 := Heap.size_push ..
  have n2 : (mzB s.heap l1 l2).objs.size = s.heap.objs.size + 2 := by rw [Heap.size_push, n1]
  have n3 : (mzC s.heap l1 l2).objs.size = s.heap.objs.size + 3 := by rw [Heap.size_push, n2]
  have n4 : (mzD s.heap l1 l2).objs.size = s.heap.objs.size + 4 := by rw [Heap.size_push, n3]
  have e5 : (mzE s.heap l1 l2).get? (mzD s.heap l1 l2).objs.size = some _ := Heap.get?_push_size _ rfl
  have e4 : (mzE s.heap l1 l2).get? (mzC s.heap l1 l2).objs.size = some _ := Heap.get?_push_of_some _ (Heap.get?_push_size _ rfl)
  have e3 : (mzE s.heap l1 l2).get? (mzB s.heap l1 l2).objs.size = some _ := Heap.get?_push_of_some _ (Heap.get?_push_of_some _ (Heap.get?_push_size _ rfl))
  have e2 : (mzE s.heap l1 l2).get? (mzA s.heap l1).objs.size = some _ := Heap.get?_push_of_some _ (Heap.get?_push_of_some _ (Heap.get?_push_of_some _ (Heap.get?_push_size _ rfl)))
  have e1 : (mzE s.heap l1 l2).get? s.heap.objs.size = some _ := Heap.get?_push_of_some _ (Heap.get?_push_of_some _ (Heap.get?_push_of_some _ (Heap.get?_push_of_some _ (Heap.get?_push_size _ rfl))))
  show _ ∧ _
  rw [n2, n3, n4] at e5
  rw [n1, n2] at e3
  rw [n3] at e4
  rw [n1] at e2
  rw [n4]
  exact ⟨⟨_, e5, rfl⟩, h _ _ _ _ _ _ rfl rfl rfl rfl rfl e5 e3 e4 ⟨_, e1, rfl, rfl⟩ ⟨_, e2, rfl, rfl⟩ fun c o q =>
    Heap.get?_push_of_some _ (Heap.get?_push_of_some _ (Heap.get?_push_of_some _ (Heap.get?_push_of_some _ (Heap.get?_push_of_some _ q))))⟩
end
/-- a tuple at a, a list at b, as they stand at each turn -/
def ItzM (K : PySem.W.Frag) (a b : Addr) : It :=
  ⟨fun i H => ∃ (xs ys : List V) (x y : V), SqT K H a xs ∧ SqL K H b ys ∧ xs[i]? = some x ∧ ys[i]? = some y,
    fun i H v H' => ∃ T x y, v = .ref T ∧ H T = none ∧ H' = upd H T (.tup [x, y]) ∧ (∀ xs, SqT K H a xs → xs[i]? = some x) ∧ ∀ ys, SqL K H b ys → ys[i]? = some y,
    fun i H => ∃ xs ys : List V, SqT K H a xs ∧ SqL K H b ys ∧ (xs.length ≤ i ∨ ys.length ≤ i)⟩
def ZmS (z TI TO i1 i2 a b : Addr) (i : Nat) (h : Heap) : Prop := IsZip h z TI TO .none ∧ IsPair h TI (.ref i1) (.ref i2) ∧ (∃ x y, IsPair h TO x y) ∧ h.IsTupleIter i1 a i ∧ h.IsListIter i2 b i
theorem five {z TI TO i1 i2 c : Addr} (h : c ∈ [z, TI, TO, i1, i2]) : c = z ∨ c = TI ∨ c = TO ∨ c = i1 ∨ c = i2 := by simpa using h
theorem turn_zipM {P : Program} {w : World} {K : PySem.W.Frag} {elts : List Expr} {kk : Nat} {tpos : Pos} {a b z TI TO i1 i2 : Addr} (D : ZipApart z TI TO i1 i2 a b) : Turn P w K (.Tuple elts kk tpos) (ItzM K a b) [z, TI, TO, i1, i2] z (ZmS z TI TO i1 i2 a b) where
  mem := by simp
  obj := fun i h st c hc => by
    obtain ⟨hz, hTI, ⟨x, y, hTO⟩, ⟨o1, e1, _, d1⟩, ⟨o2, e2, _, d2⟩⟩ := st
    rcases five hc with q | q | q | q | q <;> rw [q]
    · exact ⟨_, hz, fun v q => nomatch q⟩
    · exact ⟨_, hTI, fun v q => nomatch q⟩
    · exact ⟨_, hTO, fun v q => nomatch q⟩
    · exact ⟨o1, e1, fun v q => by rw [d1] at q; cases q⟩
    · exact ⟨o2, e2, fun v q => by rw [d2] at q; cases q⟩
  keep := fun i h h' st k => by
    obtain ⟨hz, hTI, ⟨x, y, hTO⟩, h1, h2⟩ := st
    exact ⟨k z (by simp) _ hz, k TI (by simp) _ hTI, ⟨x, y, k TO (by simp) _ hTO⟩, h1.at fun o q => k i1 (by simp) o q, h2.at fun o q => k i2 (by simp) o q⟩
  item := by
    intro X hP hw hK hc i pins s σ H E I hf st hg
    subst hP hw hK
    obtain ⟨hz, hTI, ⟨x0, y0, hTO⟩, h1, h2⟩ := st
    obtain ⟨xs, ys, x, y, gx, gy, hx, hy⟩ := hg
    obtain ⟨its, rv, p, _⟩ := I.tuple gx
    obtain ⟨its2, rv2, p2, _⟩ := I.list gy
    obtain ⟨u, hu, ru⟩ := rv.get hx
    obtain ⟨u2, hu2, ru2⟩ := rv2.get hy
    have lz : z < s.heap.objs.size := Heap.lt_size hz
    refine pyNext_open D hz hTI hTO (feedT D.l1i1) (feedL D.l2i2) (k1 := i) (k2 := i) ⟨h1, p⟩ ⟨h2, p2.isList⟩ (I.ok.hd hc) (fun v1 v2 hv1 hv2 h' z' TO' f1 f2 hT hk => ?_) fun hn => ?_
    · have e1 : v1 = u := by
        have : its.toArray[i]? = some u := by simpa using hu
        rw [hv1] at this
        exact Option.some.inj this
      have e2 : v2 = u2 := by
        have : its2.toArray[i]? = some u2 := by simpa using hu2
        rw [hv2] at this
        exact Option.some.inj this
      subst e1 e2
      refine ⟨_, rfl, wpAny_letOwnedTupleGo_zip (s := { s with heap := h' }) z' fun h'' z'' sb => ?_⟩
      have hT2 : h''.get? s.heap.objs.size = some { cls := .type "tuple", data := .seq #[v1, v2] } := (sb.2 _ (Nat.ne_of_gt lz)).trans hT
      have new : ObjOk X.prog X.w (upd H s.heap.objs.size (.tup [x, y])) h'' s.heap.objs.size (.tup [x, y]) :=
        ⟨by show 2 ≤ sizeLine; decide, [v1, v2], .cons ru (.cons ru2 .nil), ⟨_, hT2, rfl, _, rfl⟩⟩
      have no : ∀ c, c ∉ [z, TI, TO, i1, i2] → c ≠ z ∧ c ≠ TO ∧ c ≠ i1 ∧ c ≠ i2 := fun c hb => ⟨fun q => hb (by simp [q]), fun q => hb (by simp [q]), fun q => hb (by simp [q]), fun q => hb (by simp [q])⟩
      have I1 : Inv X pins σ (upd H s.heap.objs.size (.tup [x, y])) { s with heap := h'' } :=
        I.turnedNew (t' := s.toks) (ch := [z, TI, TO, i1, i2]) (fun c o hb q => by
          obtain ⟨m1, m2, m3, m4⟩ := no c hb
          exact (sb.2 c m1).trans (hk c o m1 m2 m3 m4 q)) hf (Nat.le_refl _) new
      refine ⟨.ref s.heap.objs.size, _, I1, rfl, ⟨_, x, y, rfl, I.hok.fresh (Nat.le_refl _), rfl, fun l hl => by rw [I.tuple_inj hl gx]; exact hx, fun l hl => by rw [I.list_inj hl gy]; exact hy⟩, ⟨z'', ?_, ⟨v1, v2, ?_⟩, ?_, ?_⟩, fun c hcm => ?_⟩
      · exact (sb.2 _ D.TIz).trans (hk _ _ D.TIz D.TITO D.TIi1 D.TIi2 hTI)
      · exact (sb.2 _ D.TOz).trans TO'
      · exact f1.1.at fun o q => (sb.2 _ D.i1z).trans q
      · exact f2.1.at fun o q => (sb.2 _ D.i2z).trans q
      · have lc : c < s.heap.objs.size := by
          rcases five hcm with q | q | q | q | q <;> rw [q]
          · exact lz
          · exact Heap.lt_size hTI
          · exact Heap.lt_size hTO
          · obtain ⟨_, e1, _⟩ := h1
            exact Heap.lt_size e1
          · obtain ⟨_, e2, _⟩ := h2
            exact Heap.lt_size e2
        rw [upd_ne (Nat.ne_of_lt lc)]
        exact (hf c hcm).1
    · exfalso
      rcases hn with q | q
      · rw [show its.toArray[i]? = some u by simpa using hu] at q
        cases q
      · rw [show its2.toArray[i]? = some u2 by simpa using hu2] at q
        cases q
  done := by
    intro X hP hw hK hc i pins s σ H E I hf st hg
    subst hP hw hK
    obtain ⟨hz, hTI, ⟨x0, y0, hTO⟩, h1, h2⟩ := st
    obtain ⟨xs, ys, gx, gy, hend⟩ := hg
    obtain ⟨its, rv, p, _⟩ := I.tuple gx
    obtain ⟨its2, rv2, p2, _⟩ := I.list gy
    have l1 := rv.length
    have l2 := rv2.length
    refine pyNext_open D hz hTI hTO (feedT D.l1i1) (feedL D.l2i2) (k1 := i) (k2 := i) ⟨h1, p⟩ ⟨h2, p2.isList⟩ (I.ok.hd hc) (fun v1 v2 hv1 hv2 => ?_) fun _ h' hk => ?_
    · exfalso
      have m1 : i < its.length := by simpa using (Array.getElem?_eq_some_iff.mp hv1).1
      have m2 : i < its2.length := by simpa using (Array.getElem?_eq_some_iff.mp hv2).1
      omega
    · exact ⟨rfl, I.turnedL (t' := s.toks) (ch := [z, TI, TO, i1, i2]) (fun c o hb q => hk c o (fun q' => hb (by simp [q'])) (fun q' => hb (by simp [q'])) (fun q' => hb (by simp [q'])) (fun q' => hb (by simp [q'])) q) hf⟩
  self := fun A i s Q E st h => wpAny_pyIter_zip st.1 h
def iZipM (K : PySem.W.Frag) (ta : TA) : TI := fun σ H R => ta σ H fun vs H1 => ∃ a b xs ys, vs = [.ref a, .ref b] ∧ SqT K H1 a xs ∧ SqL K H1 b ys ∧ R (ItzM K a b) H1
theorem pi_zipM {X : Cx} {e e2 : Expr} {ta : TA} {p pos tpos : Pos} {elts : List Expr} {kk : Nat} (hg : Gl X "zip") (hm : X.mg "zip" = none) (ha : PA X [e, e2] ta)
    (hs : starEach [e, e2] X.env = (false, eval e X.env) :: starEach [e2] X.env := by rfl) (hpl : (backTo pos (starEach [e2] X.env)).any (·.1) = false := by rfl) :
    PI X (.Tuple elts kk tpos) (.Call (.Name "zip" p) [e, e2] [] pos) (iZipM X.K ta) := by
  refine ⟨fun pins s σ H R I h => ?_⟩
  refine Call_ (ld_blt I hg hm PyProof.Rows.boot_zip (PyProof.Rows.callWith_type1 (thn (ha.run pos pins s σ H _ I h) fun us s1 ⟨vs, H1, I1, r1, q1⟩ => ?_) hs hpl))
  obtain ⟨a, b, xs, ys, ex, gx, gy, q⟩ := q1
  subst ex
  cases r1 with
  | cons r rr =>
    cases rr with
    | cons r' rr =>
      cases rr
      cases r
      cases r'
      obtain ⟨its, rv, p1, _⟩ := I1.tuple gx
      obtain ⟨its2, rv2, p2, _⟩ := I1.list gy
      obtain ⟨o1, ho1, _⟩ := id p1
      refine call_zipM (show s1.heap.IsTuple a its.toArray from p1) p2.isList fun h' z TI TO i1 i2 ez eTI eTO e1 e2 hz hTI hTO h1 h2 hk => wpAny_pyIter_zip hz ?_
      have I2 : Inv X pins σ H1 { s1 with heap := h' } := I1.kept (t' := s1.toks) hk
      have D : ZipApart z TI TO i1 i2 a b := by
        rw [ez, eTI, eTO, e1, e2]
        exact PySem.W.ktu_apart s1.heap.objs.size a b (Heap.lt_size ho1) p2.lt
      refine ⟨z, [z, TI, TO, i1, i2], _, _, H1, rfl, I2, turn_zipM D, ⟨hz, hTI, ⟨_, _, hTO⟩, h1, h2⟩, fun c hcm => ?_, q⟩
      have le : s1.heap.objs.size ≤ c := by
        rcases five hcm with q | q | q | q | q <;> rw [q]
        · rw [ez]; exact Nat.le_add_right _ _
        · rw [eTI]; exact Nat.le_add_right _ _
        · rw [eTO]; exact Nat.le_add_right _ _
        · rw [e1]; exact Nat.le_refl _
        · rw [e2]; exact Nat.le_add_right _ _
      exact I1.fpOk le (I1.hok.fresh le)
theorem walk_zipM {K : PySem.W.Frag} {a b : Addr} {xs ys : List V} {n : Nat} (hn : n = min xs.length ys.length) : Walk (ItzM K a b) n (fun H => SqT K H a xs ∧ SqL K H b ys) (YPair (fun i => xs[i]?) (fun i => ys[i]?)) where
  goes := fun i H hi g => ⟨xs, ys, xs[i]'(by omega), ys[i]'(by omega), g.1, g.2, List.getElem?_eq_getElem _, List.getElem?_eq_getElem _⟩
  stops := fun H g => ⟨xs, ys, g.1, g.2, by omega⟩
  yields := fun i H v H' _ g y => by
    obtain ⟨t, p, q, e1, e2, e3, e4, e5⟩ := y
    exact ⟨t, p, q, e1, e2, e3, e4 xs g.1, e5 ys g.2⟩
end Pk

set_option maxRecDepth 100000
set_option maxHeartbeats 1000000
/-! d.items() of such dicts, sorted(d.items()) -/
namespace Pk
open PySem PySem.Spec PyProof.Rows L2
open PySem.W PySem.Calls
section
variable {X : Cx}
def rItemsDk (P : Program) (w : World) (K : PySem.W.Frag) : V → List V → Hp → VK → Prop := fun x xs H Q => ∃ (a : Addr) (es : List Ent), x = .ref a ∧ xs = [] ∧ DkT P w K H a es ∧ ∀ p, H p = none → Q (.ref p) (upd H p (L2.DX.itemsO p a))
theorem mt_itemsDk : MtR X "dict.items" (rItemsDk X.prog X.w X.K) := by
  intro pins s σ H x xs v us Q I rx rxs h
  obtain ⟨a, es, rfl, rfl, hd, q⟩ := h
  cases rx
  cases rxs
  obtain ⟨lo, ds, ep, hraw, _, _⟩ := hd.raw I
  refine DT.callItems (es := ds) (ep := ep) lo hraw ?_
  have hf : H s.heap.objs.size = none := I.hok.fresh (Nat.le_refl _)
  exact ⟨.ref s.heap.objs.size, upd H s.heap.objs.size (L2.DX.itemsO s.heap.objs.size a), I.laid (t' := s.toks) (fun b u e => Heap.get?_push_of_some _ e) (Nat.le_refl _) (L2.DX.itemsO_ok (Heap.get?_push_size _ rfl)), rfl, q _ hf⟩
def ItRep (K : PySem.W.Frag) (H : Hp) (e : Ent) (d : D) : Prop := ∃ d1 d2, d = .tup [d1, d2] ∧ Rep K H (.ref e.2.1) d1 ∧ Rep K H e.2.2 d2
variable {β : Type}
def rSortIt (P : Program) (w : World) (K : PySem.W.Frag) (dat : β → D) (tok : β → List (Int ⊕ List Nat)) (ok : β → Prop) : List V → Hp → VK → Prop := fun vs H Q => ∃ (p a : Addr) (xs : List Ent) (bs : List β), vs = [V.ref p] ∧ H p = some (L2.DX.itemsO p a) ∧ DkT P w K H a xs ∧ xs.length ≤ 1000000 ∧
  xs.length = bs.length ∧ (∀ (i : Nat) (e : Ent) (b : β), xs[i]? = some e → bs[i]? = some b → ItRep K H e (dat b)) ∧ (∀ b ∈ bs, ok b) ∧ ∀ (H1 : Hp) (ys : List V) (l : Addr), Same H H1 → Reps K H1 ys ((sortE tok bs).map dat) → H1 l = none → Q (.ref l) (upd H1 l (.lst ys))
theorem reps_at {K : PySem.W.Frag} {H : Hp} : ∀ {xs : List V} {ds : List D}, xs.length = ds.length → (∀ (i : Nat) (x : V) (d : D), xs[i]? = some x → ds[i]? = some d → Rep K H x d) → Reps K H xs ds
  | [], [], _, _ => .nil
  | [], _ :: _, h, _ => nomatch h
  | _ :: _, [], h, _ => nomatch h
  | x :: xs, d :: ds, h, f => .cons (f 0 x d rfl rfl) (reps_at (Nat.succ.inj h) fun i y e h1 h2 => f (i + 1) y e h1 h2)
theorem vals_refs : ∀ as : List Addr, Vals (as.map V.ref) (as.map Value.ref)
  | [] => .nil
  | _ :: r => .cons rfl (vals_refs r)
theorem cr_sortIt {dat : β → D} {tok : β → List (Int ⊕ List Nat)} {ok : β → Prop} (hc : X.calm = true) (hu : X.A.units + 64 < cLine) (N : Enc dat tok ok) : CallR X (.builtin "sorted") (rSortIt X.prog X.w X.K dat tok ok) := by
  intro pins s σ H vs us Q I r h
  obtain ⟨p, a, xs, bs, rfl, hp, hd, hlen, hlb, hit, hok, q⟩ := h
  obtain ⟨u, rfl, ru⟩ := vals1 r
  obtain rfl : u = Value.ref p := ru
  have view : s.heap.IsItemsView p a := (show ObjOk X.prog X.w H s.heap p (L2.DX.itemsO p a) from I.hok p _ hp).1
  obtain ⟨lo, es, ep, hraw, hes, hx⟩ := hd.raw I
  have hh : X.A.handled = none := I.ok.hd hc
  have hn : es.size ≤ sizeLine := by
    rw [sizeLine_eq]
    omega
  refine DT.sortedI (es := es) (ep := ep) hh view hraw hn fun h' tk as hk hlt hl hG => ?_
  have nd : as.Nodup := List.Pairwise.imp (fun h => Nat.ne_of_lt h) hG.rise
  -- the pairs that were made
  have pr : ∀ (j : Nat) (b : Addr), as[j]? = some b → ∃ (e : Ent) (u : Value), xs[j]? = some e ∧ RelV e.2.2 u ∧ h'.get? b = some { cls := .type "tuple", data := .seq #[Value.ref e.2.1, u] } := by
    intro j b hj
    obtain ⟨en, he, hg⟩ := hG.pairs j b hj
    obtain ⟨hjs, e1⟩ := Array.getElem?_eq_some_iff.mp he
    obtain ⟨e, u, h1, h2, h3, h4⟩ := hx j hjs
    refine ⟨e, u, h1, h3, ?_⟩
    rw [hg, ← e1, h2, h4]
  have I1 : Inv X pins σ H { s with heap := h', toks := tk } := I.kept (t' := tk) hk
  obtain ⟨H1, I2, gr, qt⟩ := L2.DX.takeT (P := fun b vs => ∃ (j : Nat) (e : Ent), as[j]? = some b ∧ xs[j]? = some e ∧ vs = [.ref e.2.1, e.2.2]) I as H I1 nd fun b hb => by
    obtain ⟨j, hj⟩ := List.mem_iff_getElem?.mp hb
    obtain ⟨e, u, he, ru, hg⟩ := pr j b hj
    have hbl : s.heap.objs.size ≤ b := Nat.le_of_lt (hG.above b hb)
    exact ⟨hbl, I.hok.fresh hbl, [.ref e.2.1, e.2.2], ⟨j, e, hj, he, rfl⟩, fun H3 => ⟨(by rw [sizeLine_eq]; show 2 ≤ 16777216; omega), [Value.ref e.2.1, u], .cons rfl (.cons ru .nil), ⟨_, hg, rfl, 0, rfl⟩⟩⟩
  have sm : Same H H1 := gr
  have hr : Reps X.K H1 (as.map V.ref) (bs.map dat) := by
    refine reps_at (by rw [List.length_map, List.length_map]; omega) fun i x d h1 h2 => ?_
    rw [List.getElem?_map] at h1 h2
    obtain ⟨b, hb, rfl⟩ := Option.map_eq_some_iff.mp h1
    obtain ⟨c, hc, rfl⟩ := Option.map_eq_some_iff.mp h2
    obtain ⟨vs, ⟨j, e, j1, j2, ev⟩, hH⟩ := qt b (List.mem_of_getElem? hb)
    have eij : i = j := (List.getElem?_inj (List.getElem?_eq_some_iff.mp hb).1 nd).mp (hb.trans j1.symm)
    subst eij
    obtain ⟨d1, d2, ed, r1, r2⟩ := hit i e c j2 hc
    rw [ed]
    rw [ev] at hH
    exact .tup' hH (.cons (r1.mono (kx_same sm)) (.one (r2.mono (kx_same sm))))
  have hl : (as.map Value.ref).length ≤ sizeLine := by
    rw [List.length_map, hl]
    exact hn
  have rv := vals_refs as
  generalize as.map Value.ref = vs at hl rv ⊢
  have each := reps_each I2 hr rv fun b hb => N.nol b (hok b hb)
  have ho : (h'.push (seqObj "list" vs.toArray 0)).get? h'.objs.size = some (seqObj "list" vs.toArray 0) := Heap.get?_push_size _ rfl
  have keep : ∀ b o, h'.get? b = some o → (sortingHeap (h'.push (seqObj "list" vs.toArray 0)) h'.objs.size vs).get? b = some o := fun b o e => sortingHeap_old (Nat.ne_of_lt (Heap.lt_size e)) (Heap.get?_push_of_some _ e)
  have S : SortsAt X.prog X.w X.A.in1.in1 { s with heap := sortingHeap (h'.push (seqObj "list" vs.toArray 0)) h'.objs.size vs, toks := tk } (encKind (sortingHeap (h'.push (seqObj "list" vs.toArray 0)) h'.objs.size vs) bs (fun b => toPy (dat b)) tok) vs := by
    refine sortsAt_enc (each.mono fun v b z => ?_) (fun b hb => plain_noL _ (N.nol b (hok b hb))) (fun b hb c hc => N.inj b c (hok b hb) (hok c hc)) (fun b hb => ?_) (fun b hb c hc => N.cmp b c (hok b hb) (hok c hc)) (fun b hb => ?_)
    · obtain ⟨⟨as, r⟩, _⟩ := z
      exact ⟨as, Reads.keeps keep r⟩
    · obtain ⟨x, r, e⟩ := N.tup b (hok b hb)
      rw [e]
      exact ⟨_, _, rfl⟩
    · have h1 := depth_noL (dat b)
      have h2 := N.dep b (hok b hb)
      show X.A.units + 1 + 1 + (toPy (dat b)).depth < cLine
      omega
  have out : EachIs (fun v b => ∃ x, RelV x v ∧ Rep X.K H1 x (dat b)) (sortVals (encKind (sortingHeap (h'.push (seqObj "list" vs.toArray 0)) h'.objs.size vs) bs (fun b => toPy (dat b)) tok) false vs vs) (sortE tok bs) := by
    refine sortVals_each (κ := encKind (sortingHeap (h'.push (seqObj "list" vs.toArray 0)) h'.objs.size vs) bs (fun b => toPy (dat b)) tok) tok (each.mono fun v b z => z.2) ?_
    refine (each_mem each).mono fun v b z => ?_
    obtain ⟨⟨⟨as, r⟩, _⟩, hb⟩ := z
    exact encKind_some (fun b hb => plain_noL _ (N.nol b (hok b hb))) (fun b hb c hc => N.inj b c (hok b hb) (hok c hc)) hb (Reads.keeps keep r)
  obtain ⟨ys, v1, r1⟩ := each_back out
  have hl2 := v1.length
  rw [sortVals_length _ rfl] at hl2
  obtain ⟨n, hn2⟩ := PyProof.Rows.sortedHeap_at (out := (sortVals (encKind (sortingHeap (h'.push (seqObj "list" vs.toArray 0)) h'.objs.size vs) bs (fun b => toPy (dat b)) tok) false vs vs).toArray) ho
  refine wpAny_call_entry slot_list_sort ⟨_, ho, rfl⟩ entry_list_sort ?_ (args_list_sort _)
  refine wpAny_mono (list_sort_vals (s := { s with heap := h'.push (seqObj "list" vs.toArray 0), toks := tk }) (P := fun f s' => f = .done (.ret .none) ∧ s' = { s with heap := PyProof.Rows.sortedHeap (h'.push (seqObj "list" vs.toArray 0)) h'.objs.size vs (sortVals (encKind (sortingHeap (h'.push (seqObj "list" vs.toArray 0)) h'.objs.size vs) bs (fun b => toPy (dat b)) tok) false vs vs).toArray, toks := tk }) ho S hl ⟨rfl, rfl⟩) (fun f s' hf => ?_) fun _ _ e => e
  obtain ⟨rfl, rfl⟩ := hf
  refine ⟨_, rfl, ?_⟩
  refine ⟨.ref _, _, I2.laid (a := h'.objs.size) (t' := tk) (o := .lst ys) (fun b o e => ?_) (Nat.le_refl _) ⟨by omega, _, n, v1, hn2⟩, rfl, q H1 ys _ sm r1 (I2.hok.fresh (Nat.le_refl _))⟩
  rw [PyProof.Rows.sortedHeap_old (Nat.ne_of_lt (Heap.lt_size e)) (by rw [Heap.size_push]; exact Nat.lt_succ_of_lt (Heap.lt_size e))]
  exact Heap.get?_push_of_some _ e
/-! ### d.items() -/
variable {o : Expr} {td : TE}
def tDkItems (P : Program) (w : World) (K : PySem.W.Frag) (td : TE) : TE := fun σ H Q => td σ H fun x H1 => ∃ (a : Addr) (es : List Ent), x = .ref a ∧ DkT P w K H1 a es ∧ ∀ p, H1 p = none → Q (.ref p) (upd H1 p (L2.DX.itemsO p a))
theorem pe_dkItems {apos cpos : Pos} (ho : PE X o td) (hbase : attributeBase o "items" X.env (eval o X.env) = eval o X.env := by rfl) (hline : (apos.endLine == cpos.line) = true := by rfl) : PE X (.Call (.Attribute o "items" apos) [] [] cpos) (tDkItems X.prog X.w X.K td) := by
  refine ⟨fun pins s σ H Q I h => ?_⟩
  refine wpAny_Call_method0_late hbase hline (thn (ho.run pins s σ H _ I h) fun v s1 ⟨x, H1, I1, r1, a, es, ex, d, q1⟩ => ?_)
  subst ex
  obtain rfl : v = Value.ref a := r1
  obtain ⟨g1, vs1, g2, g3⟩ := d.of I1
  refine ⟨"dict", "dict.items", PySem.F.plainAttrs_dict, PySem.F.slot_dict_items, PySem.F.type_dict_items, g3.typeIs, fun c q => ?_, ?_⟩
  · cases q
    obtain ⟨ob, _, _, h1, h2, _⟩ := g3
    exact ⟨ob, h1, h2.2.1⟩
  exact Calls.callWith_builtin rfl (PySem.evalArgs_none (mt_itemsDk pins s1 σ H1 (.ref a) [] (.ref a) [] Q I1 rfl .nil ⟨a, es, rfl, rfl, d, q1⟩))
end
end Pk

set_option maxRecDepth 100000
set_option maxHeartbeats 1000000
/-! for a, b in d.items(), d such a dict, locked -/
namespace Pk
open PySem PySem.Spec PyProof.Rows L2
open PySem.W PySem.Calls
def Lk (P : Program) (w : World) (H : Hp) (d : Addr) (o : Obj) (xs : List Ent) : Prop := H d = some (.frz o (DkO P w d xs))
def ItDk (P : Program) (w : World) (d : Addr) (o : Obj) (xs : List Ent) : It where
  go := fun i H => Lk P w H d o xs ∧ i < xs.length
  yld := fun i H x H' => ∃ (t : Addr) (e : Ent), xs[i]? = some e ∧ x = V.ref t ∧ H t = none ∧ H' = upd H t (.tup [.ref e.2.1, e.2.2])
  stop := fun i H => Lk P w H d o xs ∧ xs.length ≤ i
section
variable {X : Cx} {pins : List (Addr × Obj)} {σ : L2.St} {H : Hp} {s : Shared} {d : Addr} {o : Obj} {xs : List Ent}
/-- the entries of a locked one, in its object -/
theorem lk_raw (I : Inv X pins σ H s) (h : Lk X.prog X.w H d o xs) : (d == sysModules) = false ∧ ∃ (es : Array DictEntry) (ep : Nat), o.data = .dict es ep ∧ s.heap.DictRaw d es ep ∧ es.size = xs.length ∧
    ∀ (i : Nat) (hi : i < es.size), ∃ e u, xs[i]? = some e ∧ es[i].key = .ref e.2.1 ∧ RelV e.2.2 u ∧ es[i].val = u := by
  have ok : ObjOk X.prog X.w H s.heap d (.frz o (DkO X.prog X.w d xs)) := I.hok d _ h
  obtain ⟨g0, ⟨g1, vs, q, o', es, ep, g2, g3, g4, g5, g6⟩, _⟩ := ok
  rw [g0] at g2
  cases g2
  have lq := q.length
  have ls : es.size = vs.length := size_of_entries g5
  refine ⟨g1, es, ep, g4, ⟨o, g0, g3, g4⟩, by omega, fun i hi => ?_⟩
  have hx : xs[i]? = some (xs[i]'(by omega)) := List.getElem?_eq_getElem _
  obtain ⟨y, hy, e1, e2, e3⟩ := paired_get q hx
  have ea := entry_at g5 i
  rw [hy, Array.getElem?_eq_getElem hi] at ea
  have eb : es[i] = entryOfKey (nestedKind X.prog X.w) y := Option.some.inj ea
  refine ⟨_, y.2.2, hx, ?_, e3, ?_⟩
  · rw [eb, e2]
    rfl
  · rw [eb]
    rfl
end
section
variable {P : Program} {w : World} {K : PySem.W.Frag} {d : Addr} {o : Obj} {xs : List Ent}
/-- what the iterator at it is, behind i of them -/
def ItAt (es : Array DictEntry) (ep : Nat) (it d : Addr) (i : Nat) (h : Heap) : Prop := ∃ ok ov : Value, IsItemIter h it d i es.size ep ok ov
theorem turnDk {es : Array DictEntry} {ep : Nat} {elts : List Expr} {kk : Nat} {tp : Pos} (it : Addr) (hod : o.data = .dict es ep) : Turn P w K (.Tuple elts kk tp) (ItDk P w d o xs) [it] it (ItAt es ep it d) := by
  have one : ∀ {b : Addr}, b ∈ [it] → b = it := fun h => List.mem_singleton.mp h
  refine ⟨List.mem_singleton.mpr rfl, fun i h st b hb => ?_, fun i h h' st kp => ?_, fun X hP hw hK hc i pins s σ H E I hf st hg => ?_, fun X hP hw hK hc i pins s σ H E I hf st hg => ?_, fun A i s Q E st h => ?_⟩
  · obtain ⟨ok, ov, e⟩ := st
    rw [one hb]
    exact ⟨_, e, fun v z => nomatch z⟩
  · obtain ⟨ok, ov, e⟩ := st
    exact ⟨ok, ov, kp it (List.mem_singleton.mpr rfl) _ e⟩
  · subst hP hw hK
    obtain ⟨hl, hi⟩ := hg
    obtain ⟨_, es', ep', h4, hraw, hsz, hent⟩ := lk_raw I hl
    rw [hod] at h4
    cases h4
    obtain ⟨ok, ov, hit⟩ := st
    have hi' : i < es.size := by omega
    obtain ⟨e, u, hx, hkey, hrel, hval⟩ := hent i hi'
    have lit : it < s.heap.objs.size := Heap.lt_size hit
    refine wpAny_pyNext_items_item_raw hit hraw hi' fun h1 out ht _ kp => ⟨_, rfl, ?_⟩
    refine wpAny_letOwnedTupleGo_items (s := { s with heap := h1 }) out fun h2 hit2 sb => ?_
    have kp2 : ∀ b ob, b ∉ [it] → s.heap.get? b = some ob → h2.get? b = some ob := fun b ob nb e => (sb.2 b (fun z => nb (by rw [z]; exact List.mem_singleton.mpr rfl))).trans (kp b ob (fun z => nb (by rw [z]; exact List.mem_singleton.mpr rfl)) e)
    have tup2 : h2.get? s.heap.objs.size = some { cls := .type "tuple", data := .seq #[es[i].key, es[i].val] } := (sb.2 _ (Nat.ne_of_gt lit)).trans ht
    rw [hkey, hval] at tup2
    have okT : ObjOk X.prog X.w (upd H s.heap.objs.size (.tup [.ref e.2.1, e.2.2])) h2 s.heap.objs.size (.tup [.ref e.2.1, e.2.2]) :=
      ⟨by show 2 ≤ sizeLine; decide, [Value.ref e.2.1, u], .cons rfl (.cons hrel .nil), ⟨_, tup2, rfl, _, rfl⟩⟩
    refine ⟨.ref s.heap.objs.size, _, I.turnedNew (t' := s.toks) (ch := [it]) kp2 hf (Nat.le_refl _) okT, rfl, ⟨_, e, hx, rfl, I.hok.fresh (Nat.le_refl _), rfl⟩, ⟨_, _, hit2⟩, fun b hb => ?_⟩
    rw [one hb, upd_ne (Nat.ne_of_lt lit)]
    exact (hf it (List.mem_singleton.mpr rfl)).1
  · subst hP hw hK
    obtain ⟨hl, hi⟩ := hg
    obtain ⟨_, es', ep', h4, hraw, hsz, _⟩ := lk_raw I hl
    rw [hod] at h4
    cases h4
    obtain ⟨ok, ov, hit⟩ := st
    obtain ⟨f0, f1, f2, f3, f4, f5⟩ := hf it (List.mem_singleton.mpr rfl)
    exact wpAny_pyNext_items_end_raw (I.ok.hd hc) hit hraw (by omega) fun h1 kp => ⟨rfl, I.turned (t' := s.toks) (fun b ob nb e => kp b ob nb e) f0 f1 f3 f4 f5⟩
  · obtain ⟨ok, ov, e⟩ := st
    exact wpAny_pyIter_itemiter e h
/-- as a walk -/
theorem walkDk : Walk (ItDk P w d o xs) xs.length (fun H => Lk P w H d o xs) (YPair (fun i => (xs[i]?).map fun e => V.ref e.2.1) (fun i => (xs[i]?).map fun e => e.2.2)) where
  goes := fun i H h g => ⟨g, h⟩
  stops := fun H g => ⟨g, Nat.le_refl _⟩
  yields := fun i H x H' hi g y => by
    obtain ⟨t, e, he, rfl, nt, rfl⟩ := y
    exact ⟨t, _, _, rfl, nt, rfl, by show Option.map _ xs[i]? = _; rw [he]; rfl, by show Option.map _ xs[i]? = _; rw [he]; rfl⟩
end
section
variable {X : Cx} {e : Expr} {td : TE} {apos cpos : Pos}
def iItDk (P : Program) (w : World) (td : TE) : TI := fun σ H R => td σ H fun x H1 => ∃ (d : Addr) (o : Obj) (xs : List Ent), x = V.ref d ∧ Lk P w H1 d o xs ∧ R (ItDk P w d o xs) H1
theorem pi_itDk {elts : List Expr} {kk : Nat} {tp : Pos} (he : PE X e td) (hbase : attributeBase e "items" X.env (eval e X.env) = eval e X.env := by rfl) (hline : (apos.endLine == cpos.line) = true := by rfl) :
    PI X (.Tuple elts kk tp) (.Call (.Attribute e "items" apos) [] [] cpos) (iItDk X.prog X.w td) := by
  refine ⟨fun pins s σ H R I h => wpAny_Call_method0_late hbase hline (thn (he.run pins s σ H _ I h) fun v s1 ⟨x, H1, I1, r1, d, o, xs, ex, hl, q1⟩ => ?_)⟩
  subst ex
  obtain rfl : v = Value.ref d := r1
  obtain ⟨g0, es, ep, h4, hraw, hsz, _⟩ := lk_raw I1 hl
  refine ⟨"dict", "dict.items", PySem.F.plainAttrs_dict, PySem.F.slot_dict_items, PySem.F.type_dict_items, hraw.typeIs, fun c q => ?_, ?_⟩
  · cases q
    obtain ⟨ob, h1, h2, _⟩ := hraw
    exact ⟨ob, h1, h2.2.1⟩
  refine Calls.callWith_builtin rfl (PySem.evalArgs_none (DT.callItems (es := es) (ep := ep) g0 hraw ?_))
  have I2 : Inv X pins σ H1 { s1 with heap := s1.heap.push { cls := .type "dict_items", data := .fields #[.ref d] } } := I1.kept (t' := s1.toks) fun b ob q => Heap.get?_push_of_some _ q
  refine wpAny_pyIter_items_raw (d := d) (es := es) (ep := ep) ⟨_, Heap.get?_push_size _ rfl, rfl, rfl⟩ (hraw.at fun o e => Heap.get?_push_of_some _ e) ?_
  exact pi_one (tk := s1.toks) I2 _ (turnDk _ h4) ⟨_, _, Heap.get?_push_size _ rfl⟩ q1
end
end Pk

set_option maxRecDepth 100000
set_option maxHeartbeats 1000000
/-! {k: v for .. in ..}, the keys nested data -/
namespace Pk
open PySem PySem.Spec PyProof.Rows L2
section
variable {X : Cx}
/-- the entry of a turn is put -/
theorem dk_set {pins : List (Addr × Obj)} {σ : L2.St} {H : Hp} {s : Shared} {E : Value → Shared → Prop} {D b : Addr} {xs : List Ent} {k : NestedKey} {v : V} {r : Value} {Q : Unit → Shared → Prop} (hu : X.A.units + 64 < cLine) (I : Inv X pins σ H s) (hD : H D = some (DkO X.prog X.w D xs))
    (ks : ∀ e ∈ xs, KeyAt X.K H e.1 e.2.1) (kb : KeyAt X.K H k b) (n : xs.length < 1000000) (rv : RelV v r) (fin : ∀ s', Inv X pins σ (upd H D (DkO X.prog X.w D (putV xs k b v))) s' → Q () s') : wpAny (model X.prog X.w) X.A (dictSet D (.ref b) r) Q E s := by
  obtain ⟨h1, vs, q, dd⟩ := DkT.of I ⟨.inl hD, ks⟩
  have lq := q.length
  have hz : vs.length ≤ sizeLine := by
    rw [sizeLine_eq]
    omega
  refine wpAny_dictSet_heap (knd := nestedKind X.prog X.w) (hsz := hz) (by show X.A.units + 8 < cLine; omega) (kb.is I) dd fun h' dd' same => fin _ ?_
  have there : ∃ ob, h'.get? D = some ob := let ⟨ob, _, _, hob, _⟩ := dd'; ⟨ob, hob⟩
  exact d_write I (by rw [hD]; trivial) same there (DkT.put_ok _ _ q rv h1 dd')
def tDcK (P : Program) (w : World) (K : PySem.W.Frag) (wi : TI) (g : TG) (tt : TT) (tk tv : TE) (vs : List Nat) : TE := fun σ H Q => wi σ H fun J H1 => ∀ D, H1 D = none → ∃ W : Nat → Nat → Hp → Prop, (∃ m, W 0 m (upd H1 D (DkO P w D []))) ∧ ∀ i m H, W i m H →
  (J.stop i H ∧ Q (.ref D) H) ∨ (J.go i H ∧ ∃ Nx : Hp → Prop, (∀ H', Nx H' → ∃ m', m' < m ∧ W (i + 1) m' H') ∧ ∀ x H', J.yld i H x H' → g x (wipe σ vs) H' fun σ2 H2 => wipe σ2 vs = wipe σ vs ∧ tt σ2 H2 fun t H3 =>
    if t = true then tk σ2 H3 fun y H4 => tv σ2 H4 fun z H5 => ∃ (xs : List Ent) (k : NestedKey) (b : Addr), y = V.ref b ∧ H5 D = some (DkO P w D xs) ∧ (∀ e ∈ xs, KeyAt K H5 e.1 e.2.1) ∧ KeyAt K H5 k b ∧ xs.length < 1000000 ∧ Nx (upd H5 D (DkO P w D (putV xs k b z))) else Nx H3)
variable {kx vx tg iter : Expr} {ifs : List Expr} {scope : Scope} {own : List (Str × Nat)} {pos : Pos} {wi : TI} {g : TG} {tt : TT} {tk tv : TE}
theorem pe_dcK (hc : X.calm = true) (hN : X.N.Nodup) (hu : ∀ (s : Shared) (H : Hp) (C : Addr) (cl : List (Str × Addr)) (fp : List Addr), (X.blk s H scope (compEnvC scope cl C X.env) fp).A.units + 64 < cLine) (hi : PI X tg iter wi) (ok : BlkOk X.N X.env.scope scope own)
    (hg : ∀ (s : Shared) (H : Hp) (C : Addr) (cl : List (Str × Addr)) (fp : List Addr), PG (X.blk s H scope (compEnvC scope cl C X.env) fp) tg g) (ht : ∀ (s : Shared) (H : Hp) (C : Addr) (cl : List (Str × Addr)) (fp : List Addr), PTs (X.blk s H scope (compEnvC scope cl C X.env) fp) ifs tt)
    (hk : ∀ (s : Shared) (H : Hp) (C : Addr) (cl : List (Str × Addr)) (fp : List Addr), PE (X.blk s H scope (compEnvC scope cl C X.env) fp) kx tk) (hv : ∀ (s : Shared) (H : Hp) (C : Addr) (cl : List (Str × Addr)) (fp : List Addr), PE (X.blk s H scope (compEnvC scope cl C X.env) fp) vx tv)
    (hs : ∀ x, foldedSetIterable iter X.env x = pure x := by intro _; rfl) : PE X (.DictComp kx vx [⟨tg, iter, ifs, 0⟩] scope pos) (tDcK X.prog X.w X.K wi g tt tk tv (own.map (·.2))) := by
  refine ⟨fun pins s σ H Q I h => ?_⟩
  have captured : ∀ y ∈ scope.names, y.2 = .free → ∃ c, X.env.cells.lookup y.1 = some c := fun y hy e => (ok.free y hy e).elim (fun k => I.ok.has _ (.inl k)) (fun k => I.ok.has _ (.inr k))
  rw [arm_eval_DictComp]
  refine wpAny_comprehension_free rfl hs (closure_ok captured) ok.kind (fun y hy e => by rw [ok.uniq y hy, e]) (thn (hi.run pins s σ H _ I h) fun xv s1 hx => thn hx fun itv s2 got => ?_)
  obtain ⟨it, fp, tn, J, H2, rfl, I2, T, start2, free2, wish⟩ := got
  refine wpAny_newObj_type (newEnv_comp ?_)
  -- the new dict
  generalize hD : s2.heap.objs.size = D
  have noD : H2 D = none := I2.hok.fresh (Nat.le_of_eq hD)
  obtain ⟨W, ⟨m0, w0⟩, turn⟩ := wish D noD
  generalize hs3 : ({ s2 with heap := s2.heap.push { cls := .type "dict", data := .dict #[] } } : Shared) = s3
  have heap3 : s3.heap = s2.heap.push { cls := .type "dict", data := .dict #[] } := by rw [← hs3]
  have I3 : Inv X pins σ (upd H2 D (DkO X.prog X.w D [])) s3 := by
    subst hs3
    refine I2.laid (t' := s2.toks) (fun _ _ e => Heap.get?_push_of_some _ e) (Nat.le_of_eq hD) ?_
    subst hD
    exact dk_ok ⟨beq_eq_false_iff_ne.mpr (Ne.symm (Nat.ne_of_lt I2.big)), [], .nil, _, #[], 0, Heap.get?_push_size _ rfl, ⟨rfl, rfl, rfl⟩, rfl, rfl, List.nodup_nil⟩
  have free3 : ∀ b ∈ fp, FpOk X pins (upd H2 D (DkO X.prog X.w D [])) b ∧ b < s3.heap.objs.size := fun b hb => by
    obtain ⟨o, e, _⟩ := T.obj _ _ start2 b hb
    have below : b < s2.heap.objs.size := Heap.lt_size e
    have apart : b ≠ D := by rw [← hD]; exact Nat.ne_of_lt below
    refine ⟨⟨?_, (free2 b hb).2⟩, by rw [heap3, Heap.size_push]; exact Nat.lt_succ_of_lt below⟩
    rw [upd_ne apart]
    exact (free2 b hb).1
  have start3 : tn 0 s3.heap := T.keep _ _ _ start2 fun b _ o e => by rw [heap3]; exact Heap.get?_push_of_some _ e
  have I4 := block_start I3 ok hN free3
  have unseen : ∀ b ∈ fp, (upd H2 D (DkO X.prog X.w D [])) b = none := fun b hb => (free3 b hb).1.1
  show codeAny _ _ (.compStart (.DictComp kx vx [⟨tg, iter, ifs, 0⟩] scope pos) 0 (.ref it) (.ref D) (compEnvC scope (cellsFrom (s3.heap.objs.size + 1) scope.names (cloFrom X.env.cells scope.names [])) s3.heap.objs.size X.env)) (compPost (model X.prog X.w) X.A X.xe _ _ (.ref D) s3.heap.objs.size) { s3 with heap := pushCells (s3.heap.push { cls := .type "dict", data := .dict #[] }) scope.names }
  -- the block's context
  generalize cellsFrom (s3.heap.objs.size + 1) scope.names (cloFrom X.env.cells scope.names []) = cl at I4 ⊢
  have pg := hg s3 (upd H2 D (DkO X.prog X.w D [])) s3.heap.objs.size cl fp
  have pt := ht s3 (upd H2 D (DkO X.prog X.w D [])) s3.heap.objs.size cl fp
  have pk := hk s3 (upd H2 D (DkO X.prog X.w D [])) s3.heap.objs.size cl fp
  have pw := hv s3 (upd H2 D (DkO X.prog X.w D [])) s3.heap.objs.size cl fp
  have un := hu s3 (upd H2 D (DkO X.prog X.w D [])) s3.heap.objs.size cl fp
  generalize hH3 : upd H2 D (DkO X.prog X.w D []) = H3 at I3 I4 pg pt pk pw un w0 unseen free3
  generalize hs4 : ({ s3 with heap := pushCells (s3.heap.push { cls := .type "dict", data := .dict #[] }) scope.names } : Shared) = s4 at I4 ⊢
  have start4 : tn 0 s4.heap := T.keep _ _ _ start3 fun b _ o e => by rw [← hs4]; exact pushCells_keeps _ _ _ _ (Heap.get?_push_of_some _ e)
  generalize hce : compEnvC scope cl s3.heap.objs.size X.env = ce at I4 pg pt pk pw un ⊢
  have locals_ : ce.locals = s3.heap.objs.size := by subst hce; rfl
  have kept : ∀ {σ' : L2.St} {H' : Hp} {s' : Shared}, Inv (X.blk s3 H3 scope ce fp) [] σ' H' s' → (∀ b ∈ fp, H' b = none) → ∀ b ∈ fp, FpOk (X.blk s3 H3 scope ce fp) [] H' b := fun {σ' H' s'} J none_ b hb =>
    ⟨none_ b hb, (J.ok.exf b hb).1, J.ok.exfs b hb, .inl hb, fun x c e => (J.ok.exf b hb).2 x c e, fun p hp => absurd (show p ∈ ([] : List (Addr × Obj)) ++ [] from hp) (by simp)⟩
  suffices loop : codeAny (model X.prog X.w) X.A (.compLoop (.DictComp kx vx [⟨tg, iter, ifs, 0⟩] scope pos) 0 (.ref it) (.ref D) ce) (compPost (model X.prog X.w) X.A X.xe none (EP X pins σ Q) (.ref D) s3.heap.objs.size) s4 from codeAny_compStart_dict loop (T.self X.A 0 _ _ _ start4 loop)
  refine compLoop_anyD (fun n s' => ∃ i H', Inv (X.blk s3 H3 scope ce fp) [] (wipe σ (own.map (·.2))) H' s' ∧ tn i s'.heap ∧ (∀ b ∈ fp, H' b = none) ∧ W i n H') (fun n s5 at5 => ?_) m0 ⟨0, H3, I4, start4, unseen, w0⟩
  obtain ⟨i, H5, I5, tn5, no5, w5⟩ := at5
  rcases turn i n H5 w5 with ⟨stop, last⟩ | ⟨go, Nx, further, each⟩
  · -- the end
    refine thnF (T.done (X.blk s3 H3 scope ce fp) rfl rfl rfl hc i [] s5 _ H5 (fun _ _ => False) I5 (kept I5 no5) tn5 stop) fun r s6 ⟨hr, I6⟩ => ?_
    subst hr
    have I7 : Inv X pins σ H5 s6 := I3.call' (ch := fp) I6.os I6.base I6.hok I6.bare fun b hb => ⟨(free3 b hb).1.2.2.2.1, (free3 b hb).1.2.1, (free3 b hb).1.2.2.2.2.1, (free3 b hb).1.2.2.2.2.2⟩
    have noC : H5 s3.heap.objs.size = none := by
      rw [← locals_]
      exact I6.free
    obtain ⟨m, ns, _⟩ := I6.loc
    have ns' : s6.heap.Ns s3.heap.objs.size m := by
      rw [← locals_]
      exact ns
    obtain ⟨f0, f1, f2, f3, f4, f5⟩ := I3.fpOk (H := H3) (Nat.le_refl _) (by rw [← hs4] at start4; exact I3.hok.fresh (Nat.le_refl _))
    refine ⟨m, ns', fun h'' sb => ⟨.ref D, H5, I7.turned (t' := s6.toks) (fun b o hb e => (sb.2 b hb).trans e) noC f1 f3 f4 f5, rfl, last⟩⟩
  · -- one turn
    refine thnF (T.item (X.blk s3 H3 scope ce fp) rfl rfl rfl hc i [] s5 _ H5 (fun _ _ => False) I5 (kept I5 no5) tn5 go) fun r s6 ⟨u, hr, next⟩ => ?_
    subst hr
    refine thnF next fun _ s7 ⟨x, H7, I7, rx, yld, tn7, no7⟩ => ?_
    have I7p := I7.pinned (kept I7 no7) (T.obj _ _ tn7)
    refine thnF (pg.run _ s7 _ H7 x u _ I7p rx (each x H7 yld)) fun _ s8 ⟨σ8, H8, I8, w8, q8⟩ => ?_
    refine thnF (pt.run _ s8 σ8 H8 _ I8 q8) fun t s9 ⟨H9, I9, q9⟩ => ?_
    have close : ∀ {s' : Shared} {H' : Hp}, Inv (X.blk s3 H3 scope ce fp) ([] ++ pinsAt fp s7.heap) σ8 H' s' → Nx H' → ∃ m, m < n ∧ ∃ i H', Inv (X.blk s3 H3 scope ce fp) [] (wipe σ (own.map (·.2))) H' s' ∧ tn i s'.heap ∧ (∀ b ∈ fp, H' b = none) ∧ W i m H' := fun {s' H'} J nx => by
      obtain ⟨m', less, w'⟩ := further H' nx
      have pinned_ : ∀ b ∈ fp, ∀ o, s7.heap.get? b = some o → s'.heap.get? b = some o ∧ H' b = none := fun b hb o e => by
        obtain ⟨z1, z2, _⟩ := J.pin (b, o) (List.mem_append_right _ (List.mem_append_right _ (mem_pinsAt hb e)))
        exact ⟨z1, z2⟩
      refine ⟨m', less, i + 1, H', (J.unpinned (pins := [])).weak (by rw [← w8, wipe_length]) (fun j v e => ?_), T.keep _ _ _ tn7 fun b hb o e => (pinned_ b hb o e).1, fun b hb => ?_, w'⟩
      · rw [← w8] at e
        exact (wipe_some e).1
      · obtain ⟨o, e, _⟩ := T.obj _ _ tn7 b hb
        exact (pinned_ b hb o e).2
    cases t with
    | false =>
      rw [if_neg Bool.false_ne_true] at q9
      exact close I9 q9
    | true =>
      rw [if_pos rfl] at q9
      refine thnF (pk.run _ s9 σ8 H9 _ I9 q9) fun z s10 ⟨yk, H10, I10, rk, q10⟩ => ?_
      refine thnF (pw.run _ s10 σ8 H10 _ I10 q10) fun z2 s11 ⟨yv, H11, I11, rv, xs, k, b, eb, hD11, ks, kb, few, nx⟩ => ?_
      subst eb
      obtain rfl : z = Value.ref b := rk
      exact dk_set (X := X.blk s3 H3 scope ce fp) un I11 hD11 ks kb few rv fun s12 I12 => close I12 nx
end
/-- over any walk -/
theorem dc_it {P : Program} {w : World} {K : PySem.W.Frag} {J : It} {n : Nat} {G : Hp → Prop} {Y : Nat → Hp → V → Hp → Prop} (walk : Walk J n G Y) {g : TG} {tt : TT} {tk tv : TE} {vs : List Nat} {σ : L2.St} {H1 : Hp} {D : Addr} {Qd : Hp → Prop} (Pv : Nat → Hp → Prop) (h0 : Pv 0 (upd H1 D (DkO P w D [])))
    (hG : ∀ i H, i ≤ n → Pv i H → G H)
    (hs : ∀ i x H H', i < n → Pv i H → Y i H x H' → g x (wipe σ vs) H' fun σ2 H2 => wipe σ2 vs = wipe σ vs ∧ tt σ2 H2 fun t H3 =>
      if t = true then tk σ2 H3 fun y H4 => tv σ2 H4 fun z H5 => ∃ (xs : List Ent) (k : NestedKey) (b : Addr), y = V.ref b ∧ H5 D = some (DkO P w D xs) ∧ (∀ e ∈ xs, KeyAt K H5 e.1 e.2.1) ∧ KeyAt K H5 k b ∧ xs.length < 1000000 ∧ Pv (i + 1) (upd H5 D (DkO P w D (putV xs k b z))) else Pv (i + 1) H3)
    (hd : ∀ H, Pv n H → Qd H) : ∃ W : Nat → Nat → Hp → Prop, (∃ m, W 0 m (upd H1 D (DkO P w D []))) ∧ ∀ i m H, W i m H →
  (J.stop i H ∧ Qd H) ∨ (J.go i H ∧ ∃ Nx : Hp → Prop, (∀ H', Nx H' → ∃ m', m' < m ∧ W (i + 1) m' H') ∧ ∀ x H', J.yld i H x H' → g x (wipe σ vs) H' fun σ2 H2 => wipe σ2 vs = wipe σ vs ∧ tt σ2 H2 fun t H3 =>
    if t = true then tk σ2 H3 fun y H4 => tv σ2 H4 fun z H5 => ∃ (xs : List Ent) (k : NestedKey) (b : Addr), y = V.ref b ∧ H5 D = some (DkO P w D xs) ∧ (∀ e ∈ xs, KeyAt K H5 e.1 e.2.1) ∧ KeyAt K H5 k b ∧ xs.length < 1000000 ∧ Nx (upd H5 D (DkO P w D (putV xs k b z))) else Nx H3) := by
  refine ⟨fun i m H => (m = n - i ∧ i ≤ n) ∧ Pv i H, ⟨n, ⟨rfl, Nat.zero_le _⟩, h0⟩, fun i m H ⟨⟨em, hi⟩, p⟩ => ?_⟩
  have gH := hG i H hi p
  rcases Nat.lt_or_ge i n with less | more
  · refine .inr ⟨walk.goes i H less gH, Pv (i + 1), fun H' p' => ⟨n - (i + 1), by omega, ⟨rfl, less⟩, p'⟩, fun x H' y => hs i x H H' less p (walk.yields i H x H' less gH y)⟩
  · have e : i = n := by omega
    subst e
    exact .inl ⟨walk.stops H gH, hd H p⟩
end Pk

set_option maxRecDepth 100000
set_option maxHeartbeats 4000000
set_option pp.maxSteps 600
namespace Pk
open PySem PySem.Spec PyProof.Rows L2
def top (i : Nat) : Stmt := PySem.Challenge.pw_playsense_k97_whole_plays_tell_the_least.main.body.getD i (.Pass ⟨0, 0, 0, 0⟩)
abbrev s_is_kind : Stmt := top 1
abbrev s_kind_at : Stmt := top 2
abbrev s_is_whole : Stmt := top 4
abbrev s_is_answer : Stmt := top 5
abbrev s_is_tuple_of : Stmt := top 6
abbrev s__is_move : Stmt := top 9
abbrev s__is_later_step : Stmt := top 10
abbrev s__is_placed : Stmt := top 11
abbrev s__reason_against : Stmt := top 12
abbrev s__note_open : Stmt := top 13
abbrev s_fault_of : Stmt := top 14
abbrev s__sight_behind : Stmt := top 15
abbrev s_program_sight : Stmt := top 16
abbrev s_alone : Stmt := top 17
abbrev s_pairs : Stmt := top 19
abbrev s_learned : Stmt := top 20
abbrev s__steps_of : Stmt := top 21
abbrev s_is_within : Stmt := top 22
abbrev s_grown : Stmt := top 24
abbrev s_body_of : Stmt := top 26
abbrev s__is_row : Stmt := top 28
abbrev s_is_strategy : Stmt := top 29
abbrev s__sights_behind : Stmt := top 30
abbrev s__step_of_body : Stmt := top 31
abbrev s_meaning : Stmt := top 32
abbrev s__spread_sight : Stmt := top 33
abbrev s_program_of : Stmt := top 34
abbrev s__step_at : Stmt := top 35
abbrev s_reply : Stmt := top 36
abbrev s_fault_in : Stmt := top 37
abbrev s__law_cell : Stmt := top 39
abbrev s__law_digits : Stmt := top 40
abbrev s__law_draw : Stmt := top 41
abbrev s__law_box : Stmt := top 42
abbrev s__law_same : Stmt := top 43
abbrev s__law_kind : Stmt := top 44
abbrev s__law_body : Stmt := top 45
abbrev s__law_program : Stmt := top 46
abbrev s__law_sight : Stmt := top 47
abbrev s__law_asker_sight : Stmt := top 48
abbrev s__law_alone : Stmt := top 49
abbrev s__law_open : Stmt := top 50
abbrev s__law_at : Stmt := top 51
abbrev s__law_goes_on : Stmt := top 52
abbrev s__law_after : Stmt := top 53
abbrev s__law_rows_behind : Stmt := top 54
abbrev s__law_rows : Stmt := top 55
abbrev s__law_reply : Stmt := top 56
abbrev s__law_play : Stmt := top 57
abbrev s_law : Stmt := top 58
-- is_kind: slots 0 value, 1 pending, 2 part; cells []
theorem c_is_kind : FnScope ["value", "pending", "part"] ["value"] (defScope s_is_kind) := ⟨rfl, rfl, rfl, by decide +kernel, rfl, by decide +kernel, by decide +kernel⟩
-- kind_at: slots 0 kind, 1 place, 2 number; cells []
theorem c_kind_at : FnScope ["kind", "place", "number"] ["kind", "place"] (defScope s_kind_at) := ⟨rfl, rfl, rfl, by decide +kernel, rfl, by decide +kernel, by decide +kernel⟩
-- is_whole: slots 0 value; cells []
theorem c_is_whole : FnScope ["value"] ["value"] (defScope s_is_whole) := ⟨rfl, rfl, rfl, by decide +kernel, rfl, by decide +kernel, by decide +kernel⟩
-- is_answer: slots 0 value; cells []
theorem c_is_answer : FnScope ["value"] ["value"] (defScope s_is_answer) := ⟨rfl, rfl, rfl, by decide +kernel, rfl, by decide +kernel, by decide +kernel⟩
-- is_tuple_of: slots 0 value, 1 many; cells []
theorem c_is_tuple_of : FnScope ["value", "many"] ["value", "many"] (defScope s_is_tuple_of) := ⟨rfl, rfl, rfl, by decide +kernel, rfl, by decide +kernel, by decide +kernel⟩
-- _is_move: slots 0 value, 1 word, 2 told, 3 number; cells []
theorem c__is_move : FnScope ["value", "word", "told", "number"] ["value"] (defScope s__is_move) := ⟨rfl, rfl, rfl, by decide +kernel, rfl, by decide +kernel, by decide +kernel⟩
-- _is_later_step: slots 0 value, 1 number; cells []
theorem c__is_later_step : FnScope ["value", "number"] ["value", "number"] (defScope s__is_later_step) := ⟨rfl, rfl, rfl, by decide +kernel, rfl, by decide +kernel, by decide +kernel⟩
-- _is_placed: slots 0 kind, 1 move, 2 answered, 3 place; cells []
theorem c__is_placed : FnScope ["kind", "move", "answered", "place"] ["kind", "move", "answered"] (defScope s__is_placed) := ⟨rfl, rfl, rfl, by decide +kernel, rfl, by decide +kernel, by decide +kernel⟩
-- _reason_against: slots 0 kind, 1 play, 2 waiting, 3 step, 4 number, 5 move, 6 back; cells []
theorem c__reason_against : FnScope ["kind", "play", "waiting", "step", "number", "move", "back"] ["kind", "play", "waiting", "step"] (defScope s__reason_against) := ⟨rfl, rfl, rfl, by decide +kernel, rfl, by decide +kernel, by decide +kernel⟩
-- _note_open: slots 0 waiting, 1 number, 2 step, 3 move, 4 back; cells []
theorem c__note_open : FnScope ["waiting", "number", "step", "move", "back"] ["waiting", "number", "step"] (defScope s__note_open) := ⟨rfl, rfl, rfl, by decide +kernel, rfl, by decide +kernel, by decide +kernel⟩
-- fault_of: slots 0 kind, 1 play, 2 waiting, 3 number, 4 step, 5 reason; cells []
theorem c_fault_of : FnScope ["kind", "play", "waiting", "number", "step", "reason"] ["kind", "play"] (defScope s_fault_of) := ⟨rfl, rfl, rfl, by decide +kernel, rfl, by decide +kernel, by decide +kernel⟩
-- _sight_behind: slots 0 play, 1 found, 2 number, 3 back; cells []
theorem c__sight_behind : FnScope ["play", "found", "number", "back"] ["play"] (defScope s__sight_behind) := ⟨rfl, rfl, rfl, by decide +kernel, rfl, by decide +kernel, by decide +kernel⟩
-- program_sight: slots 0 play; cells []
theorem c_program_sight : FnScope ["play"] ["play"] (defScope s_program_sight) := ⟨rfl, rfl, rfl, by decide +kernel, rfl, by decide +kernel, by decide +kernel⟩
-- alone: slots 0 play, 1 numbers, 2 anew, 3 at, 4 number; cells ['play', 'anew']
theorem c_alone : FnScope ["play", "numbers", "anew", "at", "number"] ["play", "numbers"] (defScope s_alone) := ⟨rfl, rfl, rfl, by decide +kernel, rfl, by decide +kernel, by decide +kernel⟩
-- pairs: slots 0 play, 1 found, 2 number, 3 move, 4 back, 5 sight; cells []
theorem c_pairs : FnScope ["play", "found", "number", "move", "back", "sight"] ["play"] (defScope s_pairs) := ⟨rfl, rfl, rfl, by decide +kernel, rfl, by decide +kernel, by decide +kernel⟩
-- learned: slots 0 kind, 1 plays, 2 steps, 3 first_told, 4 j, 5 play, 6 at, 7 sight, 8 step, 9 n; cells []
theorem c_learned : FnScope ["kind", "plays", "steps", "first_told", "j", "play", "at", "sight", "step", "n"] ["kind", "plays"] (defScope s_learned) := ⟨rfl, rfl, rfl, by decide +kernel, rfl, by decide +kernel, by decide +kernel⟩
-- _steps_of: slots 0 strategy, 1 sight, 2 step; cells []
theorem c__steps_of : FnScope ["strategy", "sight", "step"] ["strategy"] (defScope s__steps_of) := ⟨rfl, rfl, rfl, by decide +kernel, rfl, by decide +kernel, by decide +kernel⟩
-- is_within: slots 0 strategy, 1 other, 2 other_steps, 3 sight, 4 step; cells ['other_steps']
theorem c_is_within : FnScope ["strategy", "other", "other_steps", "sight", "step"] ["strategy", "other"] (defScope s_is_within) := ⟨rfl, rfl, rfl, by decide +kernel, rfl, by decide +kernel, by decide +kernel⟩
-- grown: slots 0 root, 1 spread, 2 put_together, 3 notes, 4 pending, 5 note, 6 inner, 7 made, 8 many, 9 first, 10 parts; cells []
theorem c_grown : FnScope ["root", "spread", "put_together", "notes", "pending", "note", "inner", "made", "many", "first", "parts"] ["root", "spread", "put_together"] (defScope s_grown) := ⟨rfl, rfl, rfl, by decide +kernel, rfl, by decide +kernel, by decide +kernel⟩
-- body_of: slots 0 note, 1 parts, 2 _, 3 up, 4 k, 5 asked, 6 arguments, 7 kind, 8 body; cells []
theorem c_body_of : FnScope ["note", "parts", "_", "up", "k", "asked", "arguments", "kind", "body"] ["note", "parts"] (defScope s_body_of) := ⟨rfl, rfl, rfl, by decide +kernel, rfl, by decide +kernel, by decide +kernel⟩
-- _is_row: slots 0 kind, 1 value, 2 sight, 3 step, 4 number; cells ['sight']
theorem c__is_row : FnScope ["kind", "value", "sight", "step", "number"] ["kind", "value"] (defScope s__is_row) := ⟨rfl, rfl, rfl, by decide +kernel, rfl, by decide +kernel, by decide +kernel⟩
-- is_strategy: slots 0 value, 1 word, 2 kind, 3 rows, 4 steps, 5 last, 6 row, 7 sight, 8 step; cells []
theorem c_is_strategy : FnScope ["value", "word", "kind", "rows", "steps", "last", "row", "sight", "step"] ["value"] (defScope s_is_strategy) := ⟨rfl, rfl, rfl, by decide +kernel, rfl, by decide +kernel, by decide +kernel⟩
-- _sights_behind: slots 0 play, 1 many, 2 calls, 3 number, 4 place, 5 found, 6 i, 7 answer; cells ['play', 'calls', 'number', 'place']
theorem c__sights_behind : FnScope ["play", "many", "calls", "number", "place", "found", "i", "answer"] ["play", "many", "calls"] (defScope s__sights_behind) := ⟨rfl, rfl, rfl, by decide +kernel, rfl, by decide +kernel, by decide +kernel⟩
-- _step_of_body: slots 0 body, 1 sight, 2 calls, 3 call, 4 place; cells []
theorem c__step_of_body : FnScope ["body", "sight", "calls", "call", "place"] ["body", "sight", "calls"] (defScope s__step_of_body) := ⟨rfl, rfl, rfl, by decide +kernel, rfl, by decide +kernel, by decide +kernel⟩
-- meaning: slots 0 kind, 1 program, 2 rows, 3 pending, 4 body, 5 sight, 6 calls, 7 step, 8 _, 9 arguments, 10 zero, 11 one, 12 bodies, 13 sights, 14 argument, 15 inner, 16 behind; cells []
theorem c_meaning : FnScope ["kind", "program", "rows", "pending", "body", "sight", "calls", "step", "_", "arguments", "zero", "one", "bodies", "sights", "argument", "inner", "behind"] ["kind", "program"] (defScope s_meaning) := ⟨rfl, rfl, rfl, by decide +kernel, rfl, by decide +kernel, by decide +kernel⟩
-- _spread_sight: slots 0 strategy, 1 node, 2 sight, 3 calls, 4 step, 5 move, 6 back, 7 asked, 8 up; cells []
theorem c__spread_sight : FnScope ["strategy", "node", "sight", "calls", "step", "move", "back", "asked", "up"] ["strategy", "node"] (defScope s__spread_sight) := ⟨rfl, rfl, rfl, by decide +kernel, rfl, by decide +kernel, by decide +kernel⟩
-- program_of: slots 0 strategy, 1 beginning, 2 body, 3 node; cells ['strategy']
theorem c_program_of : FnScope ["strategy", "beginning", "body", "node"] ["strategy"] (defScope s_program_of) := ⟨rfl, rfl, rfl, by decide +kernel, rfl, by decide +kernel, by decide +kernel⟩
-- _step_at: slots 0 strategy, 1 sight, 2 rows, 3 low, 4 high, 5 middle; cells []
theorem c__step_at : FnScope ["strategy", "sight", "rows", "low", "high", "middle"] ["strategy", "sight"] (defScope s__step_at) := ⟨rfl, rfl, rfl, by decide +kernel, rfl, by decide +kernel, by decide +kernel⟩
-- reply: slots 0 strategy, 1 play, 2 sight, 3 step, 4 move, 5 back; cells []
theorem c_reply : FnScope ["strategy", "play", "sight", "step", "move", "back"] ["strategy", "play"] (defScope s_reply) := ⟨rfl, rfl, rfl, by decide +kernel, rfl, by decide +kernel, by decide +kernel⟩
-- fault_in: slots 0 strategy, 1 play, 2 number; cells []
theorem c_fault_in : FnScope ["strategy", "play", "number"] ["strategy", "play"] (defScope s_fault_in) := ⟨rfl, rfl, rfl, by decide +kernel, rfl, by decide +kernel, by decide +kernel⟩
-- _law_cell: slots 0 script, 1 k; cells []
theorem c__law_cell : FnScope ["script", "k"] ["script", "k"] (defScope s__law_cell) := ⟨rfl, rfl, rfl, by decide +kernel, rfl, by decide +kernel, by decide +kernel⟩
-- _law_digits: slots 0 script, 1 first, 2 last, 3 digits, 4 k, 5 cell, 6 turn, 7 seed; cells []
theorem c__law_digits : FnScope ["script", "first", "last", "digits", "k", "cell", "turn", "seed"] ["script", "first", "last"] (defScope s__law_digits) := ⟨rfl, rfl, rfl, by decide +kernel, rfl, by decide +kernel, by decide +kernel⟩
-- _law_draw: slots 0 box, 1 many, 2 at; cells []
theorem c__law_draw : FnScope ["box", "many", "at"] ["box", "many"] (defScope s__law_draw) := ⟨rfl, rfl, rfl, by decide +kernel, rfl, by decide +kernel, by decide +kernel⟩
-- _law_box: slots 0 script, 1 first, 2 last; cells []
theorem c__law_box : FnScope ["script", "first", "last"] ["script", "first", "last"] (defScope s__law_box) := ⟨rfl, rfl, rfl, by decide +kernel, rfl, by decide +kernel, by decide +kernel⟩
-- _law_same: slots 0 actual, 1 expected, 2 k; cells []
theorem c__law_same : FnScope ["actual", "expected", "k"] ["actual", "expected"] (defScope s__law_same) := ⟨rfl, rfl, rfl, by decide +kernel, rfl, by decide +kernel, by decide +kernel⟩
-- _law_kind: slots 0 box, 1 depth, 2 budget, 3 parts, 4 k; cells []
theorem c__law_kind : FnScope ["box", "depth", "budget", "parts", "k"] ["box", "depth", "budget"] (defScope s__law_kind) := ⟨rfl, rfl, rfl, by decide +kernel, rfl, by decide +kernel, by decide +kernel⟩
-- _law_body: slots 0 box, 1 kinds, 2 budget, 3 around, 4 up, 5 number, 6 kind, 7 arguments, 8 part, 9 zero, 10 one; cells []
theorem c__law_body : FnScope ["box", "kinds", "budget", "around", "up", "number", "kind", "arguments", "part", "zero", "one"] ["box", "kinds", "budget"] (defScope s__law_body) := ⟨rfl, rfl, rfl, by decide +kernel, rfl, by decide +kernel, by decide +kernel⟩
-- _law_program: slots 0 box, 1 kind, 2 most; cells []
theorem c__law_program : FnScope ["box", "kind", "most"] ["box", "kind", "most"] (defScope s__law_program) := ⟨rfl, rfl, rfl, by decide +kernel, rfl, by decide +kernel, by decide +kernel⟩
-- _law_sight: slots 0 play, 1 n, 2 j; cells []
theorem c__law_sight : FnScope ["play", "n", "j"] ["play"] (defScope s__law_sight) := ⟨rfl, rfl, rfl, by decide +kernel, rfl, by decide +kernel, by decide +kernel⟩
-- _law_asker_sight: slots 0 play, 1 n, 2 j, 3 before; cells []
theorem c__law_asker_sight : FnScope ["play", "n", "j", "before"] ["play"] (defScope s__law_asker_sight) := ⟨rfl, rfl, rfl, by decide +kernel, rfl, by decide +kernel, by decide +kernel⟩
-- _law_alone: slots 0 play, 1 numbers, 2 found, 3 n, 4 back; cells []
theorem c__law_alone : FnScope ["play", "numbers", "found", "n", "back"] ["play", "numbers"] (defScope s__law_alone) := ⟨rfl, rfl, rfl, by decide +kernel, rfl, by decide +kernel, by decide +kernel⟩
-- _law_open: slots 0 play, 1 still, 2 n; cells []
theorem c__law_open : FnScope ["play", "still", "n"] ["play"] (defScope s__law_open) := ⟨rfl, rfl, rfl, by decide +kernel, rfl, by decide +kernel, by decide +kernel⟩
-- _law_at: slots 0 kind, 1 place, 2 k; cells []
theorem c__law_at : FnScope ["kind", "place", "k"] ["kind", "place"] (defScope s__law_at) := ⟨rfl, rfl, rfl, by decide +kernel, rfl, by decide +kernel, by decide +kernel⟩
-- _law_goes_on: slots 0 kind, 1 play, 2 step, 3 n, 4 move, 5 back, 6 place, 7 still; cells []
theorem c__law_goes_on : FnScope ["kind", "play", "step", "n", "move", "back", "place", "still"] ["kind", "play", "step"] (defScope s__law_goes_on) := ⟨rfl, rfl, rfl, by decide +kernel, rfl, by decide +kernel, by decide +kernel⟩
-- _law_after: slots 0 kind, 1 play, 2 found, 3 back, 4 moves, 5 place, 6 move, 7 k; cells ['kind', 'play', 'back', 'place']
theorem c__law_after : FnScope ["kind", "play", "found", "back", "moves", "place", "move", "k"] ["kind", "play"] (defScope s__law_after) := ⟨rfl, rfl, rfl, by decide +kernel, rfl, by decide +kernel, by decide +kernel⟩
-- _law_rows_behind: slots 0 rows, 1 body, 2 sight, 3 calls, 4 call, 5 place, 6 n, 7 longer, 8 k; cells []
theorem c__law_rows_behind : FnScope ["rows", "body", "sight", "calls", "call", "place", "n", "longer", "k"] ["rows", "body", "sight", "calls"] (defScope s__law_rows_behind) := ⟨rfl, rfl, rfl, by decide +kernel, rfl, by decide +kernel, by decide +kernel⟩
-- _law_rows: slots 0 program; cells []
theorem c__law_rows : FnScope ["program"] ["program"] (defScope s__law_rows) := ⟨rfl, rfl, rfl, by decide +kernel, rfl, by decide +kernel, by decide +kernel⟩
-- _law_reply: slots 0 rows, 1 play, 2 numbers, 3 step; cells []
theorem c__law_reply : FnScope ["rows", "play", "numbers", "step"] ["rows", "play"] (defScope s__law_reply) := ⟨rfl, rfl, rfl, by decide +kernel, rfl, by decide +kernel, by decide +kernel⟩
-- _law_play: slots 0 box, 1 kind, 2 rows, 3 most, 4 free, 5 play, 6 turn, 7 steps, 8 step; cells []
theorem c__law_play : FnScope ["box", "kind", "rows", "most", "free", "play", "turn", "steps", "step"] ["box", "kind", "rows", "most", "free"] (defScope s__law_play) := ⟨rfl, rfl, rfl, by decide +kernel, rfl, by decide +kernel, by decide +kernel⟩
-- law: slots 0 script, 1 box, 2 kind, 3 k, 4 programs, 5 mixed, 6 plays, 7 found, 8 strategies, 9 steps, 10 i, 11 n, 12 numbers, 13 strategy, 14 play, 15 other, 16 has, 17 program; cells ['box', 'kind', 'other']
theorem c_law : FnScope ["script", "box", "kind", "k", "programs", "mixed", "plays", "found", "strategies", "steps", "i", "n", "numbers", "strategy", "play", "other", "has", "program"] ["script"] (defScope s_law) := ⟨rfl, rfl, rfl, by decide +kernel, rfl, by decide +kernel, by decide +kernel⟩
structure Bt (mg : Str → Option Value) : Prop where
  b_isinstance : mg "isinstance" = none
  b_tuple : mg "tuple" = none
  b_len : mg "len" = none
  b_int : mg "int" = none
  b_bool : mg "bool" = none
  b_all : mg "all" = none
  b_enumerate : mg "enumerate" = none
  b_range : mg "range" = none
  b_sorted : mg "sorted" = none
  b_zip : mg "zip" = none
  b_str : mg "str" = none
/-- a def of the text: its object, how it is bound, its name -/
structure Df (K : PySem.W.Frag) (mg : Str → Option Value) (x : Str) (st : Stmt) (ps : List Str) (f : Addr) (fd : FuncData) : Prop where
  F : FunD K x x (defArgs st) (defBody st) (defScope st) [] [] f fd
  b : Binds K fd ps []
  m : mg x = some (.ref f)
theorem Df.kp {K : PySem.W.Frag} {mg : Str → Option Value} {x : Str} {st : Stmt} {ps : List Str} {f : Addr} {fd : FuncData} (D : Df K mg x st ps f fd) : PySem.W.keepIn K (.ref f) = true := D.F.kp
theorem Df.ok {P : Program} {w : World} {K : PySem.W.Frag} {mg : Str → Option Value} {base : Heap} {x : Str} {st : Stmt} {ps : List Str} {f : Addr} {fd : FuncData} {N : List Str} {k : Nat} {sp : Sp} (D : Df K mg x st ps f fd) (S : FnScope N ps (defScope st)) (len : ∀ vs H Q E, sp vs H Q E → vs.length = ps.length)
    (hbody : ∀ (cdv : Value) (A : Around) (outer : List Env) (s : Shared) (H : Hp) (vs : List V) (Q : VK) (E : XK), Room k (A.deeper (envOfC x (defScope st) s.heap.objs.size f cdv)) → sp vs H Q E →
      ∃ t, PSs (cxOf CX0 P w K mg base N x (defScope st) f cdv A outer s H E).nox (defBody st) t ∧ t { nx := fun _ H' => Q .non H', rt := Q } (start N vs) H) : FnOk P w K mg base CX0 (k + 1) f fd ps sp :=
  D.F.ok S len fun cdv A outer s H vs Q E hr hsp => let ⟨t, h, q⟩ := hbody cdv A outer s H vs Q E hr hsp; ⟨t, h.nox, q⟩
/-- what stood stands, a new list at p besides -/
structure Nw (p : Addr) (H0 H : Hp) (xs : List V) : Prop where
  s : Same H0 H
  n : H0 p = none
  h : H p = some (.lst xs)
theorem Nw.put {p : Addr} {H0 H : Hp} {xs : List V} (w : Nw p H0 H xs) (ys : List V) : Nw p H0 (upd H p (.lst ys)) ys :=
  ⟨fun b o e => by rw [upd_ne (ne_of_none e w.n)]; exact w.s b o e, w.n, upd_same⟩
theorem Nw.app {p : Addr} {H0 H : Hp} {ds : List Int} {x : Int} (w : Nw p H0 H (ds.map V.int)) : Nw p H0 (upd H p (.lst (ds.map V.int ++ [V.int x]))) ((ds ++ [x]).map V.int) := by
  have e : (ds ++ [x]).map V.int = ds.map V.int ++ [V.int x] := by rw [List.map_append] <;> rfl
  rw [e]
  exact w.put _
theorem Nw.new {p : Addr} {H : Hp} (n : H p = none) (xs : List V) : Nw p H (upd H p (.lst xs)) xs := ⟨same_new n _, n, upd_same⟩
theorem Nw.step {p : Addr} {H0 H H1 : Hp} {xs : List V} (w : Nw p H0 H xs) (s : Same H H1) : Nw p H0 H1 xs := ⟨w.s.trans s, w.n, s _ _ w.h⟩
theorem Same.tup {K : PySem.W.Frag} {H H' : Hp} {a : Addr} {xs : List V} (e : Same H H') (h : SqT K H a xs) : SqT K H' a xs := by
  rcases h with (h | ⟨o, h⟩) | h
  · exact .inl (.inl (e _ _ h))
  · exact .inl (.inr ⟨o, e _ _ h⟩)
  · exact .inr h
theorem small6 {n : Nat} (h : n ≤ 1000000) : n < sizeLine := by rw [sizeLine_eq]; omega
theorem small6' {n : Nat} (h : n ≤ 1000000) : n ≤ sizeLine := by rw [sizeLine_eq]; omega
theorem yes_go {σ : L2.St} {H : Hp} {A B : Hp → Prop} (h : A H) : tYes σ H fun b H3 => if b = true then A H3 else B H3 := by
  show (if true = true then A H else B H)
  exact iteT h
section
variable {P : Program} {w : World} {K : PySem.W.Frag} {mg : Str → Option Value} {base : Heap}
/-! ### _law_cell -/
def spCell (K : PySem.W.Frag) : Sp := fun vs H Q _ => ∃ (a : Addr) (ns : List Int) (k : Int), vs = [.ref a, .int k] ∧ SqL K H a (ns.map V.int) ∧ 0 ≤ k ∧ ∀ i : Int, Q (.int i) H
theorem ok_cell {f : Addr} {fd : FuncData} (D : Df K mg "_law_cell" s__law_cell ["script", "k"] f fd) (B : Bt mg) : FnOk P w K mg base CX0 1 f fd ["script", "k"] (spCell K) := by
  refine D.ok c__law_cell (fun vs H Q E h => ?_) (fun cdv A outer s H vs Q E hr h => ?_)
  · obtain ⟨a, ns, k, rfl, _⟩ := h
    rfl
  obtain ⟨a, ns, k, rfl, hS, h0, q⟩ := h
  have nd := c__law_cell.nd
  refine ⟨_, (pss_cons (ps_if (pt_cmpR op_lt (pv 1) (pe_callB call_len_seq (by rfl) B.b_len PySem.boot_len (pa_cons (pv 0) pa_nil)) (nomark _)) (pss_one (ps_ret (pe_ix ix_list (pv 0) (pv 1) (fun _ _ => rfl)))) pss_nil)
  (pss_one (ps_ret pe_int))), ?_⟩
  have hl : (ns.map V.int).length = ns.length := List.length_map _
  refine ⟨_, rfl, _, rfl, a, _, rfl, .inl hS, _, _, rfl, rfl, _, rfl, ?_⟩
  refine ite2 (fun c => ?_) (fun c => ?_)
  · have c' : k < (((ns.map V.int).length : Nat) : Int) := of_decide_eq_true c
    rw [hl] at c'
    have hk : k.toNat < ns.length := by omega
    have ek : k = ((k.toNat : Nat) : Int) := by omega
    have q1 : atI (ns.map V.int) ((k.toNat : Nat) : Int) = some (.int ns[k.toNat]) := atI_nat (by rw [List.getElem?_map, List.getElem?_eq_getElem hk] <;> rfl)
    rw [← ek] at q1
    exact ⟨_, rfl, _, rfl, a, _, _, _, rfl, rfl, hS, q1, q _⟩
  · exact q _
/-! ### _law_digits -/
def spDigits (K : PySem.W.Frag) : Sp := fun vs H Q _ => ∃ (a : Addr) (ns : List Int) (lo n : Nat), vs = [.ref a, .int lo, .int ((lo : Int) + n)] ∧ SqL K H a (ns.map V.int) ∧ lo ≤ 100 ∧ n ≤ 100 ∧
  ∀ (p : Addr) (H' : Hp) (ds : List Int), Nw p H H' (ds.map V.int) → Q (.ref p) H'
theorem ok_digits {f g : Addr} {fd gd : FuncData} (D : Df K mg "_law_digits" s__law_digits ["script", "first", "last"] f fd) (B : Bt mg)
    (D__law_cell : Df K mg "_law_cell" s__law_cell ["script", "k"] g gd) : FnOk P w K mg base CX0 2 f fd ["script", "first", "last"] (spDigits K) := by
  have G__law_cell : FnOk P w K mg base CX0 1 g gd ["script", "k"] (spCell K) := ok_cell D__law_cell B
  refine D.ok c__law_digits (fun vs H Q E h => ?_) (fun cdv A outer s H vs Q E hr h => ?_)
  · obtain ⟨a, ns, lo, n, rfl, _⟩ := h
    rfl
  obtain ⟨a, ns, lo, n, rfl, hS, hlo, hn, q⟩ := h
  have nd := c__law_digits.nd
  refine ⟨_, (pss_cons (ps_set (i := 3) nd rfl (Or.inl rfl) (pe_lst pa_nil))
  (pss_cons (ps_for PassesOwn.never rfl (pi_range2 (by rfl) B.b_range (pa_cons (pv 1) (pa_cons (pv 2) pa_nil))) (pg_name (i := 4) nd rfl (Or.inl rfl)) (pss_cons (ps_set (i := 5) nd rfl (Or.inl rfl) (pe_call G__law_cell (hr.mono (by first | decide | omega)) (by rfl) D__law_cell.m D__law_cell.kp D__law_cell.b .nil pass0 (pa_cons (pv 0) (pa_cons (pv 4) pa_nil))))
  (pss_cons (ps_if (pt_cmpR op_lt (pv 5) pe_int (nomark _)) (pss_one (ps_set (i := 5) nd rfl (Or.inl rfl) (pe_op op_sub pe_int (pe_op op_mul pe_int (pv 5))))) pss_nil)
  (pss_one (ps_if (pt_cmpR op_ge (pv 5) (pe_op op_pow pe_int pe_int) (nomark _)) (pss_one (ps_for PassesOwn.never rfl (pi_range1 (by rfl) B.b_range (pa_cons pe_int pa_nil)) (pg_name (i := 6) nd rfl (Or.inl rfl)) (pss_one (ps_if (pt_cmpR op_gt (pv 5) pe_int (nomark _)) (pss_cons (ps_expr (pe_bm PySem.F.plainAttrs_list PySem.F.slot_list_append PySem.F.type_list_append mt_append (pv 3) (pa_cons (pe_op op_mod (pe_callTy call_int1 (by rfl) B.b_int (by decide +kernel) (pa_cons (pv 5) pa_nil)) pe_int) pa_nil)))
  (pss_one (ps_set (i := 5) nd rfl (Or.inl rfl) (pe_op op_fdiv (pv 5) pe_int)))) pss_nil)))) (pss_cons (ps_set (i := 7) nd rfl (Or.inl rfl) (pe_op op_mod (pe_callTy call_int1 (by rfl) B.b_int (by decide +kernel) (pa_cons (pe_op op_add (pe_op op_add (pe_op op_mul (pv 5) pe_int) (pe_op op_mul (pv 4) pe_int)) pe_int) pa_nil)) pe_int))
  (pss_one (ps_for PassesOwn.never rfl (pi_range1 (by rfl) B.b_range (pa_cons pe_int pa_nil)) (pg_name (i := 6) nd rfl (Or.inl rfl)) (pss_cons (ps_set (i := 7) nd rfl (Or.inl rfl) (pe_op op_mod (pe_callTy call_int1 (by rfl) B.b_int (by decide +kernel) (pa_cons (pe_op op_add (pe_op op_add (pe_op op_mul (pv 7) pe_int) (pe_op op_mul pe_int (pv 6))) pe_int) pa_nil)) pe_int))
  (pss_one (ps_expr (pe_bm PySem.F.plainAttrs_list PySem.F.slot_list_append PySem.F.type_list_append mt_append (pv 3) (pa_cons (pe_op op_mod (pe_callTy call_int1 (by rfl) B.b_int (by decide +kernel) (pa_cons (pe_op op_fdiv (pv 7) pe_int) pa_nil)) pe_int) pa_nil)))))))))))))
  (pss_one (ps_ret (pv 3))))), ?_⟩
  refine ⟨Nat.zero_le _, fun p np => ?_⟩
  refine ⟨_, rfl, _, rfl, _, _, rfl, ⟨by omega, by omega, by omega, by omega⟩, ?_⟩
  refine for_range (lo := (lo : Int)) (n := ((lo : Int) + n - lo).toNat) (fun i σ H' => ∃ (ds : List Int) (y4 y5 y6 y7 : Option V), σ = [some (.ref a), some (.int lo), some (.int ((lo : Int) + n)), some (.ref p), y4, y5, y6, y7] ∧ Nw p H H' (ds.map V.int) ∧ ds.length ≤ 60 * i)
    ⟨[], none, none, none, none, rfl, Nw.new np _, Nat.zero_le _⟩ ?_ ?_
  · rintro i σ H1 hi ⟨ds, y4, y5, y6, y7, rfl, hw, hd⟩
    have hi2 : i < n := by omega
    refine ⟨_, rfl, _, rfl, a, ns, (lo : Int) + i, rfl, hw.s.seq hS, by omega, fun c => ?_⟩
    refine ⟨_, rfl, _, _, rfl, rfl, _, rfl, ite2 (fun e1 => ⟨_, rfl, _, _, rfl, rfl, .inl ⟨by decide, by decide⟩, _, _, rfl, rfl, ?_⟩) (fun e1 => ?_)⟩
    all_goals
      refine ⟨_, rfl, _, _, rfl, rfl, ⟨by decide, by decide, by decide⟩, _, _, rfl, rfl, _, rfl, ite2 (fun e2 => ?_) (fun e2 => ?_)⟩
      · refine ⟨60, rfl, by decide, by decide, for_range (n := 60) (fun j σ H' => ∃ (es : List Int) (c' : Int) (y6 y7 : Option V), σ = [some (.ref a), some (.int lo), some (.int ((lo : Int) + n)), some (.ref p), some (.int ((lo : Int) + i)), some (.int c'), y6, y7] ∧ Nw p H H' (es.map V.int) ∧ es.length ≤ 60 * i + j)
          ⟨ds, _, _, _, rfl, hw, hd⟩ ?_ ?_⟩
        · rintro j σ H2 hj ⟨es, c', y6, y7, rfl, hw2, he⟩
          refine ⟨_, rfl, _, _, rfl, rfl, _, rfl, ite2 (fun e3 => ?_) (fun e3 => ⟨es, c', _, _, rfl, hw2, by omega⟩)⟩
          refine ⟨_, rfl, .inl ⟨rfl, _, SqL.of hw2.h⟩, _, rfl, .inl ⟨_, rfl, _, _, rfl, rfl, (by show (0 : Int) < 1000; decide), _, _, _, rfl, rfl, hw2.h, small6 (by rw [List.length_map]; omega), ?_⟩⟩
          refine ⟨_, rfl, _, _, rfl, rfl, ⟨by decide, by decide⟩, es ++ [_], _, _, _, rfl, hw2.app, ?_⟩
          rw [List.length_append, List.length_singleton]
          omega
        · rintro σ H2 ⟨es, c', y6, y7, rfl, hw2, he⟩
          exact ⟨es, _, _, _, _, rfl, hw2, by omega⟩
      · refine ⟨_, rfl, _, _, rfl, rfl, .inr ⟨by decide, by decide⟩, _, rfl, _, _, rfl, rfl, .inr ⟨by decide, by decide⟩, _, _, rfl, rfl, _, _, rfl, rfl, .inl ⟨_, rfl, _, _, rfl, rfl, (by show (0 : Int) < 2147483647; decide), ?_⟩⟩
        refine ⟨12, rfl, by decide, by decide, for_range (n := 12) (fun j σ H' => ∃ (es : List Int) (c' z : Int) (y6 : Option V), σ = [some (.ref a), some (.int lo), some (.int ((lo : Int) + n)), some (.ref p), some (.int ((lo : Int) + i)), some (.int c'), y6, some (.int z)] ∧ Nw p H H' (es.map V.int) ∧ es.length ≤ 60 * i + j)
          ⟨ds, _, _, _, rfl, hw, hd⟩ ?_ ?_⟩
        · rintro j σ H2 hj ⟨es, c', z, y6, rfl, hw2, he⟩
          refine ⟨_, rfl, _, _, rfl, rfl, .inr ⟨by decide, by decide⟩, _, rfl, _, _, rfl, rfl, .inl ⟨by decide, by decide⟩, _, _, rfl, rfl, _, _, rfl, rfl, .inl ⟨_, rfl, _, _, rfl, rfl, (by show (0 : Int) < 2147483647; decide), ?_⟩⟩
          refine ⟨_, rfl, .inl ⟨rfl, _, SqL.of hw2.h⟩, _, rfl, _, _, rfl, rfl, ⟨by decide, by decide⟩, .inl ⟨_, rfl, _, _, rfl, rfl, (by show (0 : Int) < 1000; decide), _, _, _, rfl, rfl, hw2.h, small6 (by rw [List.length_map]; omega), ?_⟩⟩
          refine ⟨es ++ [_], _, _, _, rfl, hw2.app, ?_⟩
          rw [List.length_append, List.length_singleton]
          omega
        · rintro σ H2 ⟨es, c', z, y6, rfl, hw2, he⟩
          exact ⟨es, _, _, _, _, rfl, hw2, by omega⟩
  · rintro σ H1 ⟨ds, y4, y5, y6, y7, rfl, hw, hd⟩
    exact ⟨_, rfl, q p H1 ds hw⟩
end

/-! ### the box -/
def BoxAt (H : Hp) (b d : Addr) : Prop := ∃ (ds : List Int) (n : Int), H b = some (.lst [.ref d, .int n]) ∧ H d = some (.lst (ds.map V.int)) ∧ d ≠ b ∧ 0 ≤ n
theorem BoxAt.lst {H : Hp} {b d : Addr} (x : BoxAt H b d) : ∃ xs, H b = some (.lst xs) := let ⟨_, _, h, _⟩ := x; ⟨_, h⟩
theorem BoxAt.dst {H : Hp} {b d : Addr} (x : BoxAt H b d) : ∃ xs, H d = some (.lst xs) := let ⟨_, _, _, h, _⟩ := x; ⟨_, h⟩
theorem BoxAt.keep {H H' : Hp} {b d : Addr} (x : BoxAt H b d) (h1 : ∀ o, H b = some o → H' b = some o) (h2 : ∀ o, H d = some o → H' d = some o) : BoxAt H' b d := let ⟨ds, n, a1, a2, a3, a4⟩ := x; ⟨ds, n, h1 _ a1, h2 _ a2, a3, a4⟩
theorem BoxAt.same {H H' : Hp} {b d : Addr} (x : BoxAt H b d) (s : Same H H') : BoxAt H' b d := x.keep (fun _ => s _ _) (fun _ => s _ _)
theorem BoxAt.other {H : Hp} {b d u : Addr} (o : HO) (x : BoxAt H b d) (hb : u ≠ b) (hd : u ≠ d) : BoxAt (upd H u o) b d := x.keep (fun _ h => by rw [upd_ne hb.symm]; exact h) (fun _ h => by rw [upd_ne hd.symm]; exact h)
theorem box_kx {H H' : Hp} {b d : Addr} (x : BoxAt H b d) (y : BoxAt H' b d) (s : SB b H H') : Kx H H' := let ⟨_, h⟩ := x.lst; let ⟨_, h'⟩ := y.lst; sb_kx s h h'
section
variable {P : Program} {w : World} {K : PySem.W.Frag} {mg : Str → Option Value} {base : Heap}
def spDraw : Sp := fun vs H Q _ => ∃ (b d : Addr) (m : Int), vs = [.ref b, .int m] ∧ BoxAt H b d ∧ 0 < m ∧ ∀ (r : Int) (H' : Hp), 0 ≤ r → r < m → BoxAt H' b d → SB b H H' → Q (.int r) H'
theorem ok_draw {f : Addr} {fd : FuncData} (D : Df K mg "_law_draw" s__law_draw ["box", "many"] f fd) (B : Bt mg) : FnOk P w K mg base CX0 1 f fd ["box", "many"] spDraw := by
  refine D.ok c__law_draw (fun vs H Q E h => ?_) (fun cdv A outer s H vs Q E hr h => ?_)
  · obtain ⟨b, d, m, rfl, _⟩ := h
    rfl
  obtain ⟨b, d, m, rfl, ⟨ds, n, hb, hd, hdb, hn⟩, hm, q⟩ := h
  have nd := c__law_draw.nd
  refine ⟨_, (pss_cons (ps_set (i := 2) nd rfl (Or.inl rfl) (pe_ix ix_list (pv 0) pe_int (fun _ _ => rfl)))
  (pss_cons (ps_asg (pe_op op_add (pv 2) pe_int) (pg_sub (pv 0) pe_int set_list))
  (pss_cons (ps_if (pt_cmpR op_lt (pv 2) (pe_callB call_len_seq (by rfl) B.b_len PySem.boot_len (pa_cons (pe_ix ix_list (pv 0) pe_int (fun _ _ => rfl)) pa_nil)) (nomark _)) (pss_one (ps_ret (pe_op op_mod (pe_callTy call_int1 (by rfl) B.b_int (by decide +kernel) (pa_cons (pe_ix ix_list (pe_ix ix_list (pv 0) pe_int (fun _ _ => rfl)) (pv 2) (fun _ _ => rfl)) pa_nil)) (pv 1)))) pss_nil)
  (pss_one (ps_ret pe_int))))), ?_⟩
  refine ⟨_, rfl, b, _, 1, _, rfl, rfl, SqL.of hb, rfl, ?_⟩
  refine ⟨_, rfl, _, _, rfl, rfl, _, rfl, b, _, 1, 1, rfl, rfl, hb, rfl, ?_⟩
  have hb' : (upd H b (.lst [.ref d, .int (n + 1)])) b = some (.lst [.ref d, .int (n + 1)]) := upd_same
  have hd' : (upd H b (.lst [.ref d, .int (n + 1)])) d = some (.lst (ds.map V.int)) := by rw [upd_ne hdb]; exact hd
  have hB : BoxAt (upd H b (.lst [.ref d, .int (n + 1)])) b d := ⟨ds, n + 1, hb', hd', hdb, by omega⟩
  refine ⟨_, rfl, _, rfl, b, _, 0, _, rfl, rfl, SqL.of hb', rfl, d, _, rfl, .inl (SqL.of hd'), _, _, rfl, rfl, _, rfl, ite2 (fun c => ?_) (fun c => ?_)⟩
  · have c' : n < (((ds.map V.int).length : Nat) : Int) := of_decide_eq_true c
    rw [List.length_map] at c'
    have hk : n.toNat < ds.length := by omega
    have q1 : atI (ds.map V.int) ((n.toNat : Nat) : Int) = some (.int ds[n.toNat]) := atI_nat (by rw [List.getElem?_map, List.getElem?_eq_getElem hk] <;> rfl)
    have ek : ((n.toNat : Nat) : Int) = n := by omega
    rw [ek] at q1
    refine ⟨_, rfl, b, _, 0, _, rfl, rfl, SqL.of hb', rfl, _, rfl, d, _, _, _, rfl, rfl, SqL.of hd', q1, .inl ⟨_, rfl, _, rfl, _, _, rfl, rfl, hm, ?_⟩⟩
    exact q _ _ (Int.emod_nonneg _ (by omega)) (Int.emod_lt_of_pos _ hm) hB (sb_upd _)
  · exact q 0 _ (Int.le_refl _) hm hB (sb_upd _)
def spBox (K : PySem.W.Frag) : Sp := fun vs H Q _ => ∃ (a : Addr) (ns : List Int) (lo n : Nat), vs = [.ref a, .int lo, .int ((lo : Int) + n)] ∧ SqL K H a (ns.map V.int) ∧ lo ≤ 100 ∧ n ≤ 100 ∧
  ∀ (p d : Addr) (H' : Hp), Same H H' → H p = none → H d = none → BoxAt H' p d → Q (.ref p) H'
theorem ok_box {f g e : Addr} {fd gd ed : FuncData} (D : Df K mg "_law_box" s__law_box ["script", "first", "last"] f fd) (D__law_digits : Df K mg "_law_digits" s__law_digits ["script", "first", "last"] g gd) (D__law_cell : Df K mg "_law_cell" s__law_cell ["script", "k"] e ed) (B : Bt mg) :
    FnOk P w K mg base CX0 3 f fd ["script", "first", "last"] (spBox K) := by
  have G__law_digits : FnOk P w K mg base CX0 2 g gd ["script", "first", "last"] (spDigits K) := ok_digits D__law_digits B D__law_cell
  refine D.ok c__law_box (fun vs H Q E h => ?_) (fun cdv A outer s H vs Q E hr h => ?_)
  · obtain ⟨a, ns, lo, n, rfl, _⟩ := h
    rfl
  obtain ⟨a, ns, lo, n, rfl, hS, hlo, hn, q⟩ := h
  have nd := c__law_box.nd
  refine ⟨_, (pss_one (ps_ret (pe_lst (pa_cons (pe_call G__law_digits (hr.mono (by first | decide | omega)) (by rfl) D__law_digits.m D__law_digits.kp D__law_digits.b .nil pass0 (pa_cons (pv 0) (pa_cons (pv 1) (pa_cons (pv 2) pa_nil)))) (pa_cons pe_int pa_nil))))), ?_⟩
  refine ⟨_, rfl, _, rfl, _, rfl, a, ns, lo, n, rfl, hS, hlo, hn, fun p H1 ds hw => ⟨(by show 2 ≤ sizeLine; decide), fun r hr' => ?_⟩⟩
  have hne : p ≠ r := ne_of_none hw.h hr'
  have s1 : Same H1 (upd H1 r (.lst [.ref p, .int 0])) := same_new hr' _
  exact q r p _ (hw.s.trans s1) (hw.s.free hr') hw.n ⟨ds, 0, upd_same, s1 _ _ hw.h, hne, Int.le_refl _⟩
end
/-! ### isinstance -/
def tyD : D → String
  | .at .non => "NoneType"
  | .at (.bl _) => "bool"
  | .at (.int _) => "int"
  | .at _ => "str"
  | .lst => "list"
  | .tup _ => "tuple"
def isTup : D → Bool
  | .tup _ => true
  | _ => false
def isBool : D → Bool
  | .at (.bl _) => true
  | _ => false
def isInt : D → Bool
  | .at (.int _) => true
  | .at (.bl _) => true
  | _ => false
def isStr : D → Bool
  | .at .non => false
  | .at (.bl _) => false
  | .at (.int _) => false
  | .at _ => true
  | _ => false
theorem tup_ty {K : PySem.W.Frag} {H : Hp} {a : Addr} {xs : List V} (h : TupAt K H a xs) : TyX K H (.ref a) (.type "tuple") := by
  rcases h with h | ⟨o, its, n, h, c, _⟩
  · exact .base (.tup h)
  · exact .kTuple h c
theorem rep_ty {K : PySem.W.Frag} {H : Hp} {x : V} {d : D} (r : Rep K H x d) : TyX K H x (.type (tyD d)) := by
  cases r with
  | lst h => exact .base (.lst h)
  | tup h _ => exact tup_ty h
  | «at» h =>
    cases x with
    | non => exact .base .non
    | bl b => exact .base (.bl b)
    | int i => exact .base (.int i)
    | str s => exact .base (.str s)
    | byt _ => cases h
    | flt _ => cases h
    | ref _ => cases h
    | ty _ => cases h
theorem kit_tup (d : D) : kitB (tyD d) "tuple" = some (isTup d) := by
  have h_NoneType : kitB "NoneType" "tuple" = some false := by decide +kernel
  have h_bool : kitB "bool" "tuple" = some false := by decide +kernel
  have h_int : kitB "int" "tuple" = some false := by decide +kernel
  have h_str : kitB "str" "tuple" = some false := by decide +kernel
  have h_list : kitB "list" "tuple" = some false := by decide +kernel
  have h_tuple : kitB "tuple" "tuple" = some true := by decide +kernel
  cases d with
  | tup _ => exact h_tuple
  | lst => exact h_list
  | «at» v =>
    cases v with
    | non => exact h_NoneType
    | bl _ => exact h_bool
    | int _ => exact h_int
    | _ => exact h_str
theorem kit_bool (d : D) : kitB (tyD d) "bool" = some (isBool d) := by
  have h_NoneType : kitB "NoneType" "bool" = some false := by decide +kernel
  have h_bool : kitB "bool" "bool" = some true := by decide +kernel
  have h_int : kitB "int" "bool" = some false := by decide +kernel
  have h_str : kitB "str" "bool" = some false := by decide +kernel
  have h_list : kitB "list" "bool" = some false := by decide +kernel
  have h_tuple : kitB "tuple" "bool" = some false := by decide +kernel
  cases d with
  | tup _ => exact h_tuple
  | lst => exact h_list
  | «at» v =>
    cases v with
    | non => exact h_NoneType
    | bl _ => exact h_bool
    | int _ => exact h_int
    | _ => exact h_str
theorem kit_int (d : D) : kitB (tyD d) "int" = some (isInt d) := by
  have h_NoneType : kitB "NoneType" "int" = some false := by decide +kernel
  have h_bool : kitB "bool" "int" = some true := by decide +kernel
  have h_int : kitB "int" "int" = some true := by decide +kernel
  have h_str : kitB "str" "int" = some false := by decide +kernel
  have h_list : kitB "list" "int" = some false := by decide +kernel
  have h_tuple : kitB "tuple" "int" = some false := by decide +kernel
  cases d with
  | tup _ => exact h_tuple
  | lst => exact h_list
  | «at» v =>
    cases v with
    | non => exact h_NoneType
    | bl _ => exact h_bool
    | int _ => exact h_int
    | _ => exact h_str
theorem kit_str (d : D) : kitB (tyD d) "str" = some (isStr d) := by
  have h_NoneType : kitB "NoneType" "str" = some false := by decide +kernel
  have h_bool : kitB "bool" "str" = some false := by decide +kernel
  have h_int : kitB "int" "str" = some false := by decide +kernel
  have h_str : kitB "str" "str" = some true := by decide +kernel
  have h_list : kitB "list" "str" = some false := by decide +kernel
  have h_tuple : kitB "tuple" "str" = some false := by decide +kernel
  cases d with
  | tup _ => exact h_tuple
  | lst => exact h_list
  | «at» v =>
    cases v with
    | non => exact h_NoneType
    | bl _ => exact h_bool
    | int _ => exact h_int
    | _ => exact h_str
theorem isi {K : PySem.W.Frag} {H : Hp} {x : V} {d : D} {T : String} {b : Bool} {Q : VK} (r : Rep K H x d) (h : kitB (tyD d) T = some b) (q : Q (.bl b) H) : rIsi K [x, .ty T] H Q :=
  ⟨x, .ty T, .type (tyD d), .type T, b, rfl, .ty T, rep_ty r, kit_ty h, q⟩
/-! ### data without lists -/
mutual
def noL : D → Bool
  | .tup ts => noLs ts
  | .lst => false
  | .at _ => true
def noLs : List D → Bool
  | [] => true
  | t :: r => noL t && noLs r
end
theorem noL_mem : ∀ {l : List D}, noLs l = true → ∀ {d : D}, d ∈ l → noL d = true
  | t :: r, hk, d, h => by
    have hk' : (noL t && noLs r) = true := hk
    rw [Bool.and_eq_true] at hk'
    rcases List.mem_cons.mp h with e | h
    · rw [e]
      exact hk'.1
    · exact noL_mem hk'.2 h
/-! ### _law_same -/
section
variable {P : Program} {w : World} {K : PySem.W.Frag} {mg : Str → Option Value} {base : Heap}
def spSame (K : PySem.W.Frag) (n : Nat) : Sp := fun vs H Q _ => ∃ (x y : V) (d e : D), vs = [x, y] ∧ Rep K H x d ∧ Rep K H y e ∧ noL e = true ∧ dep e < n ∧ szs [e] ≤ 1000000 ∧ ∀ r : Bool, (r = true ↔ d = e) → Q (.bl r) H
theorem ok_same0 {f : Addr} {fd : FuncData} : FnOk P w K mg base CX0 0 f fd ["actual", "expected"] (spSame K 0) := by
  have no : ∀ vs H Q E, ¬ spSame K 0 vs H Q E := fun vs H Q E h => by
    obtain ⟨x, y, d, e, _, _, _, _, h1, _⟩ := h
    omega
  exact ⟨fun vs H Q E h => absurd h (no vs H Q E), fun A outer s H args us vs Q E _ _ _ _ h => absurd h (no vs H Q E)⟩
theorem ok_same {f : Addr} {fd : FuncData} (D__law_same : Df K mg "_law_same" s__law_same ["actual", "expected"] f fd) (B : Bt mg) : ∀ n : Nat, FnOk P w K mg base CX0 n f fd ["actual", "expected"] (spSame K n)
  | 0 => ok_same0
  | n + 1 => by
    have G__law_same := ok_same D__law_same B n
    refine D__law_same.ok c__law_same (fun vs H Q E h => ?_) (fun cdv A outer s H vs Q E hr h => ?_)
    · obtain ⟨x, y, d, e, rfl, _⟩ := h
      rfl
    obtain ⟨x, y, d, e, rfl, rx, ry, hnl, hdp, hsz, q⟩ := h
    have nd := c__law_same.nd
    refine ⟨_, (pss_cons (ps_if (pt_val (pe_callB call_isi (by rfl) B.b_isinstance (by decide +kernel) (pa_cons (pv 1) (pa_cons (pe_bltn (v := .ty "tuple") (by rfl) B.b_tuple (by decide +kernel) rfl) pa_nil)))) (pss_cons (ps_if (PW.pt (pw_or (pt_not (pt_val (pe_callB call_isi (by rfl) B.b_isinstance (by decide +kernel) (pa_cons (pv 0) (pa_cons (pe_bltn (v := .ty "tuple") (by rfl) B.b_tuple (by decide +kernel) rfl) pa_nil))))) (pw_or1 (pt_cmpR op_ne (pe_callB call_len_seq (by rfl) B.b_len PySem.boot_len (pa_cons (pv 0) pa_nil)) (pe_callB call_len_seq (by rfl) B.b_len PySem.boot_len (pa_cons (pv 1) pa_nil)) (nomark _))))) (pss_one (ps_ret pe_bl)) pss_nil)
  (pss_cons (ps_for PassesOwn.never rfl (pi_range1 (by rfl) B.b_range (pa_cons (pe_callB call_len_seq (by rfl) B.b_len PySem.boot_len (pa_cons (pv 1) pa_nil)) pa_nil)) (pg_name (i := 2) nd rfl (Or.inl rfl)) (pss_one (ps_if (pt_not (pt_val (pe_call G__law_same hr (by rfl) D__law_same.m D__law_same.kp D__law_same.b .nil pass0 (pa_cons (pe_ix ix_tup (pv 0) (pv 2) (fun _ _ => rfl)) (pa_cons (pe_ix ix_tup (pv 1) (pv 2) (fun _ _ => rfl)) pa_nil))))) (pss_one (ps_ret pe_bl)) pss_nil)))
  (pss_one (ps_ret pe_bl)))) pss_nil)
  (pss_cons (ps_if (pt_cmpR op_isN (pv 1) pe_non (nomark _)) (pss_one (ps_ret (pe_cmpR op_isN (pv 0) pe_non (nomark _)))) pss_nil)
  (pss_cons (ps_if (pt_val (pe_callB call_isi (by rfl) B.b_isinstance (by decide +kernel) (pa_cons (pv 1) (pa_cons (pe_bltn (v := .ty "bool") (by rfl) B.b_bool (by decide +kernel) rfl) pa_nil)))) (pss_one (ps_ret (pe_and (pe_callB call_isi (by rfl) B.b_isinstance (by decide +kernel) (pa_cons (pv 0) (pa_cons (pe_bltn (v := .ty "bool") (by rfl) B.b_bool (by decide +kernel) rfl) pa_nil))) (pe_one (pe_cmpR op_eq (pv 0) (pv 1) (nomark _)))))) pss_nil)
  (pss_cons (ps_if (pt_val (pe_callB call_isi (by rfl) B.b_isinstance (by decide +kernel) (pa_cons (pv 1) (pa_cons (pe_bltn (v := .ty "int") (by rfl) B.b_int (by decide +kernel) rfl) pa_nil)))) (pss_one (ps_ret (pe_and (pe_callB call_isi (by rfl) B.b_isinstance (by decide +kernel) (pa_cons (pv 0) (pa_cons (pe_bltn (v := .ty "int") (by rfl) B.b_int (by decide +kernel) rfl) pa_nil))) (pe_and (pe_not (pe_callB call_isi (by rfl) B.b_isinstance (by decide +kernel) (pa_cons (pv 0) (pa_cons (pe_bltn (v := .ty "bool") (by rfl) B.b_bool (by decide +kernel) rfl) pa_nil)))) (pe_one (pe_cmpR op_eq (pv 0) (pv 1) (nomark _))))))) pss_nil)
  (pss_one (ps_ret (pe_and (pe_callB call_isi (by rfl) B.b_isinstance (by decide +kernel) (pa_cons (pv 0) (pa_cons (pe_bltn (v := .ty "str") (by rfl) B.b_str (by decide +kernel) rfl) pa_nil))) (pe_one (pe_cmpR op_eq (pv 0) (pv 1) (nomark _)))))))))), ?_⟩
    refine ⟨y, rfl, _, _, _, _, _, rfl, .ty _, rep_ty ry, kit_ty (kit_tup _), ⟨_, rfl, ?_⟩⟩
    cases e with
    | lst => cases hnl
    | tup ts =>
      refine iteT ?_
      refine ⟨x, rfl, _, _, _, _, _, rfl, .ty _, rep_ty rx, kit_ty (kit_tup _), ⟨_, rfl, ?_⟩⟩
      obtain ⟨b, ys, rfl, hy, ry'⟩ := ry.inv
      have hts : ts.length ≤ 1000000 := by
        have h1 := len_szs ts
        have h2 : szs ts + 1 + 0 ≤ 1000000 := hsz
        omega
      have lts : (ts.length : Int) ≤ 1000000 := by omega
      cases d with
      | lst => exact iteT (q false ⟨fun z => (nomatch z), fun z => (nomatch z)⟩)
      | «at» v => exact iteT (q false ⟨fun z => (nomatch z), fun z => (nomatch z)⟩)
      | tup us =>
        obtain ⟨a, xs, rfl, hx, rx'⟩ := rx.inv
        have lx := rx'.length
        have ly := ry'.length
        refine iteF ?_
        refine ⟨_, rfl, a, xs, rfl, .inr (hx.sq), _, rfl, b, ys, rfl, .inr (hy.sq), rfl, _, rfl, ite2 (fun c => ?_) (fun c => ?_)⟩
        · refine q false ⟨fun z => (nomatch z), fun z => ?_⟩
          cases z
          rw [lx, ly, decide_eq_true rfl] at c
          cases c
        · have el : xs.length = ys.length := by
            by_cases z : V.int ((xs.length : Nat) : Int) = V.int ((ys.length : Nat) : Int)
            · exact Int.ofNat.inj (V.int.inj z)
            · rw [decide_eq_false z] at c
              exact absurd rfl c
          refine ⟨_, rfl, b, ys, rfl, .inr (hy.sq), _, rfl, by omega, by omega, for_range (n := ((ys.length : Nat) : Int).toNat) (fun i σ H' => H' = H ∧ us.take i = ts.take i ∧ ∃ y2, σ = [some (.ref a), some (.ref b), y2])
            ⟨rfl, rfl, _, rfl⟩ ?_ ?_⟩
          · rintro i σ H' hi ⟨rfl, ht, y2, rfl⟩
            have hi' : i < ys.length := by omega
            have iy : ys[i]? = some ys[i] := List.getElem?_eq_getElem hi'
            have ix : xs[i]? = some (xs[i]'(by omega)) := List.getElem?_eq_getElem (by omega)
            obtain ⟨du, hdu, ru⟩ := rx'.get ix
            obtain ⟨dt, hdt, rt⟩ := ry'.get iy
            have mt : dt ∈ ts := List.mem_of_getElem? hdt
            have ez : (0 : Int) + (i : Nat) = ((i : Nat) : Int) := by omega
            have ax : atI xs ((0 : Int) + (i : Nat)) = some (xs[i]'(by omega)) := by rw [ez]; exact atI_nat ix
            have ay : atI ys ((0 : Int) + (i : Nat)) = some ys[i] := by rw [ez]; exact atI_nat iy
            have z1 := dep_mem mt
            have z2 := sz_mem mt
            have z3 : deps ts < n + 1 := hdp
            have z4 : szs ts + 1 + 0 ≤ 1000000 := hsz
            refine ⟨_, rfl, _, rfl, a, xs, _, _, rfl, rfl, hx.sq, ax, _, rfl, _, rfl, b, ys, _, _, rfl, rfl, hy.sq, ay, _, _, du, dt, rfl, ru, rt, noL_mem hnl mt, by omega, by show sz dt + 0 ≤ 1000000; omega, fun r hr => ⟨_, rfl, ?_⟩⟩
            cases r with
            | true =>
              refine iteF ⟨rfl, ?_, _, rfl⟩
              rw [List.take_add_one, List.take_add_one, hdu, hdt, ht, hr.mp rfl]
            | false =>
              refine iteT (q false ⟨fun z => (nomatch z), fun z => ?_⟩)
              cases z
              rw [hdu] at hdt
              cases hdt
              exact hr.mpr rfl
          · rintro σ H' ⟨rfl, ht, y2, rfl⟩
            refine q true ⟨fun _ => ?_, fun _ => rfl⟩
            have e1 : us.take ((ys.length : Nat) : Int).toNat = us := List.take_of_length_le (by omega)
            have e2 : ts.take ((ys.length : Nat) : Int).toNat = ts := List.take_of_length_le (by omega)
            rw [← e1, ← e2, ht]
    | «at» v =>
      obtain ⟨rfl, hf⟩ := ry.inva
      refine iteF ?_
      refine ⟨_, rfl, rfl, _, rfl, ite2 (fun c => ?_) (fun c => ?_)⟩
      · have ev : y = .non := of_decide_eq_true c
        subst ev
        refine ⟨_, rfl, rfl, ?_⟩
        refine q _ ⟨fun z => ?_, fun z => ?_⟩
        · have ex : x = .non := of_decide_eq_true z
          subst ex
          cases rx
          rfl
        · subst z
          obtain ⟨rfl, _⟩ := rx.inva
          exact decide_eq_true rfl
      have hv : y ≠ .non := fun z => c (decide_eq_true z)
      refine ⟨y, rfl, _, _, _, _, _, rfl, .ty _, rep_ty ry, kit_ty (kit_bool _), ⟨_, rfl, ?_⟩⟩
      cases y with
      | non => exact absurd rfl hv
      | byt _ => cases hf
      | flt _ => cases hf
      | ref _ => cases hf
      | ty _ => cases hf
      | bl b =>
        refine iteT ⟨x, rfl, _, _, _, _, _, rfl, .ty _, rep_ty rx, kit_ty (kit_bool _), ⟨_, rfl, ?_⟩⟩
        cases d with
        | tup _ => exact iteF (q false ⟨fun z => (nomatch z), fun z => (nomatch z)⟩)
        | lst => exact iteF (q false ⟨fun z => (nomatch z), fun z => (nomatch z)⟩)
        | «at» v =>
          obtain ⟨rfl, _⟩ := rx.inva
          cases x with
          | bl b2 =>
            refine iteT ⟨_, rfl, _, rfl, rfl, q _ ⟨fun z => ?_, fun z => ?_⟩⟩
            · rw [of_decide_eq_true z]
            · cases z
              exact decide_eq_true rfl
          | _ => exact iteF (q false ⟨fun z => (nomatch z), fun z => (nomatch z)⟩)
      | int i =>
        refine iteF ⟨_, rfl, _, _, _, _, _, rfl, .ty _, rep_ty ry, kit_ty (kit_int _), ⟨_, rfl, iteT ⟨x, rfl, _, _, _, _, _, rfl, .ty _, rep_ty rx, kit_ty (kit_int _), ⟨_, rfl, ?_⟩⟩⟩⟩
        cases d with
        | tup _ => exact iteF (q false ⟨fun z => (nomatch z), fun z => (nomatch z)⟩)
        | lst => exact iteF (q false ⟨fun z => (nomatch z), fun z => (nomatch z)⟩)
        | «at» v =>
          obtain ⟨rfl, _⟩ := rx.inva
          cases x with
          | bl b2 => exact iteT ⟨_, rfl, _, _, _, _, _, rfl, .ty _, rep_ty rx, kit_ty (kit_bool _), ⟨_, rfl, ⟨_, rfl, iteF (q false ⟨fun z => (nomatch z), fun z => (nomatch z)⟩)⟩⟩⟩
          | int i2 =>
            refine iteT ⟨_, rfl, _, _, _, _, _, rfl, .ty _, rep_ty rx, kit_ty (kit_bool _), ⟨_, rfl, ⟨_, rfl, iteT ?_⟩⟩⟩
            refine ⟨_, rfl, _, rfl, rfl, q _ ⟨fun z => ?_, fun z => ?_⟩⟩
            · rw [of_decide_eq_true z]
            · cases z
              exact decide_eq_true rfl
          | _ => exact iteF (q false ⟨fun z => (nomatch z), fun z => (nomatch z)⟩)
      | str z =>
        refine iteF ⟨_, rfl, _, _, _, _, _, rfl, .ty _, rep_ty ry, kit_ty (kit_int _), ⟨_, rfl, iteF ⟨x, rfl, _, _, _, _, _, rfl, .ty _, rep_ty rx, kit_ty (kit_str _), ⟨_, rfl, ?_⟩⟩⟩⟩
        cases d with
        | tup _ => exact iteF (q false ⟨fun z => (nomatch z), fun z => (nomatch z)⟩)
        | lst => exact iteF (q false ⟨fun z => (nomatch z), fun z => (nomatch z)⟩)
        | «at» v =>
          obtain ⟨rfl, _⟩ := rx.inva
          cases x with
          | str b2 =>
            refine iteT ⟨_, rfl, _, rfl, rfl, q _ ⟨fun z => ?_, fun z => ?_⟩⟩
            · rw [of_decide_eq_true z]
            · cases z
              exact decide_eq_true rfl
          | byt _ => cases rx with | «at» hh => cases hh
          | flt _ => cases rx with | «at» hh => cases hh
          | ref _ => cases rx with | «at» hh => cases hh
          | ty _ => cases rx with | «at» hh => cases hh
          | _ => exact iteF (q false ⟨fun z => (nomatch z), fun z => (nomatch z)⟩)
end
end Pk

set_option maxRecDepth 100000
set_option maxHeartbeats 4000000
set_option pp.maxSteps 600
namespace Pk
open PySem PySem.Spec PyProof.Rows L2
theorem fn_none {P : Program} {w : World} {K : PySem.W.Frag} {mg : Str → Option Value} {base : Heap} {f : Addr} {fd : FuncData} {ps : List Str} {sp : Sp} (no : ∀ vs H Q E, ¬ sp vs H Q E) : FnOk P w K mg base CX0 0 f fd ps sp :=
  ⟨fun vs H Q E h => absurd h (no vs H Q E), fun A outer s H args us vs Q E _ _ _ _ h => absurd h (no vs H Q E)⟩
/-! ### _law_kind -/
section
variable {P : Program} {w : World} {K : PySem.W.Frag} {mg : Str → Option Value} {base : Heap}
/-- all but what stands at b and at u is as it was -/
def SB2 (b u : Addr) (H H' : Hp) : Prop := ∀ q o, q ≠ b → q ≠ u → H q = some o → H' q = some o
def spKind (K : PySem.W.Frag) (n : Nat) : Sp := fun vs H Q _ => ∃ (b c u : Addr) (dp : Int) (g : Nat), vs = [.ref b, .int dp, .ref u] ∧ BoxAt H b c ∧ H u = some (.lst [.int g]) ∧ 0 ≤ dp ∧ dp < n ∧ g ≤ 100 ∧ b ≠ u ∧ c ≠ u ∧
  ∀ (v : V) (H' : Hp) (d : D) (g' : Nat), Rep K H' v d → isK d = true → (dep d : Int) ≤ dp → sz d + g' ≤ g + 1 → H' u = some (.lst [.int g']) → BoxAt H' b c → SB2 b u H H' → Q v H'
theorem ok_kind0 {f : Addr} {fd : FuncData} : FnOk P w K mg base CX0 0 f fd ["box", "depth", "budget"] (spKind K 0) := by
  have no : ∀ vs H Q E, ¬ spKind K 0 vs H Q E := fun vs H Q E h => by
    obtain ⟨b, c, u, dp, g, _, _, _, h0, h1, _⟩ := h
    omega
  exact ⟨fun vs H Q E h => absurd h (no vs H Q E), fun A outer s H args us vs Q E _ _ _ _ h => absurd h (no vs H Q E)⟩
theorem sb2_kx {b u d : Addr} {H H' : Hp} (x : BoxAt H b d) (y : BoxAt H' b d) {us vs : List V} (hu : H u = some (.lst us)) (hu' : H' u = some (.lst vs)) (s : SB2 b u H H') : Kx H H' := by
  obtain ⟨bs, hb⟩ := x.lst
  obtain ⟨bs', hb'⟩ := y.lst
  refine ⟨fun a zs e => s _ _ (ne_of e hb (by intro q; cases q)) (ne_of e hu (by intro q; cases q)) e, fun a zs e => ?_⟩
  by_cases ha : a = b
  · subst ha
    exact ⟨bs', hb'⟩
  · by_cases ha' : a = u
    · subst ha'
      exact ⟨vs, hu'⟩
    · exact ⟨zs, s _ _ ha ha' e⟩
theorem ok_kind {f e : Addr} {fd ed : FuncData} (D__law_kind : Df K mg "_law_kind" s__law_kind ["box", "depth", "budget"] f fd) (D__law_draw : Df K mg "_law_draw" s__law_draw ["box", "many"] e ed) (B : Bt mg) :
    ∀ n : Nat, FnOk P w K mg base CX0 (n + 1) f fd ["box", "depth", "budget"] (spKind K n)
  | 0 => (ok_kind0 (f := f) (fd := fd)).mono (by omega)
  | n + 1 => by
    have G__law_kind := ok_kind D__law_kind D__law_draw B n
    have G__law_draw : FnOk P w K mg base CX0 1 e ed ["box", "many"] spDraw := ok_draw D__law_draw B
    refine D__law_kind.ok c__law_kind (fun vs H Q E h => ?_) (fun cdv A outer s H vs Q E hr h => ?_)
    · obtain ⟨b, c, u, dp, g, rfl, _⟩ := h
      rfl
    obtain ⟨b, c, u, dp, g, rfl, hB, hu, h0, h1, hg, hbu, hcu, q⟩ := h
    have nd := c__law_kind.nd
    refine ⟨_, (pss_cons (ps_set (i := 3) nd rfl (Or.inl rfl) (pe_lst pa_nil))
  (pss_cons (ps_if (pt_cmpR op_gt (pv 1) pe_int (nomark _)) (pss_one (ps_for PassesOwn.never rfl (pi_range1 (by rfl) B.b_range (pa_cons (pe_call G__law_draw (hr.mono (by first | decide | omega)) (by rfl) D__law_draw.m D__law_draw.kp D__law_draw.b .nil pass0 (pa_cons (pv 0) (pa_cons pe_int pa_nil))) pa_nil)) (pg_name (i := 4) nd rfl (Or.inl rfl)) (pss_one (ps_if (pt_cmpR op_gt (pe_ix ix_list (pv 2) pe_int (fun _ _ => rfl)) pe_int (nomark _)) (pss_cons (ps_asg (pe_op op_sub (pe_ix ix_list (pv 2) pe_int (fun _ _ => rfl)) pe_int) (pg_sub (pv 2) pe_int set_list))
  (pss_one (ps_expr (pe_bm PySem.F.plainAttrs_list PySem.F.slot_list_append PySem.F.type_list_append mt_append (pv 3) (pa_cons (pe_call G__law_kind hr (by rfl) D__law_kind.m D__law_kind.kp D__law_kind.b .nil pass0 (pa_cons (pv 0) (pa_cons (pe_op op_sub (pv 1) pe_int) (pa_cons (pv 2) pa_nil)))) pa_nil))))) pss_nil)))) pss_nil)
  (pss_one (ps_ret (pe_callTy call_tuple_of (by rfl) B.b_tuple (by decide +kernel) (pa_cons (pv 3) pa_nil)))))), ?_⟩
    refine ⟨Nat.zero_le _, fun p np => ?_⟩
    have hbl := hB.lst
    obtain ⟨bs, hbs⟩ := hbl
    have npb : b ≠ p := ne_of_none hbs np
    have npu : u ≠ p := ne_of_none hu np
    have s1 : Same H (upd H p (.lst [])) := same_new np _
    obtain ⟨cs, hcs⟩ := hB.dst
    have npc : c ≠ p := ne_of_none hcs np
    have fin : ∀ (y4 : Option V) (xs : List V) (ds : List D) (g' : Nat) (H1 : Hp), H1 p = some (.lst xs) → Reps K H1 xs ds → isKs ds = true → (deps ds : Int) ≤ dp → szs ds + g' ≤ g → H1 u = some (.lst [.int g']) → BoxAt H1 b c → SB2 b u H H1 →
        ∃ a ys, [V.ref p] = [.ref a] ∧ ((SqL K H1 a ys ∧ ∀ l, H1 l = none → Q (.ref l) (upd H1 l (.tup ys))) ∨ (SqT K H1 a ys ∧ Q (.ref a) H1)) := by
      intro y4 xs ds g' H1 hp hr' hk hd hs hu1 hb1 hsb
      refine ⟨p, xs, rfl, .inl ⟨SqL.of hp, fun l hl => ?_⟩⟩
      have sl : Same H1 (upd H1 l (.tup xs)) := same_new hl _
      refine q _ _ (.tup ds) g' (.tup' upd_same (hr'.mono (kx_same sl))) hk hd (by show szs ds + 1 + g' ≤ g + 1; omega) (sl _ _ hu1) (hb1.same sl) (fun z o n1 n2 e => sl _ _ (hsb z o n1 n2 e))
    refine ⟨_, rfl, _, _, rfl, rfl, _, rfl, ite2 (fun z => ?_) (fun z => ?_)⟩
    · have c' : (0 : Int) < dp := of_decide_eq_true z
      refine ⟨_, rfl, b, c, 4, rfl, hB.same s1, by decide, fun r H1 hr0 hr5 hB1 hs1 => ⟨r, rfl, by omega, by omega, ?_⟩⟩
      refine for_range (n := r.toNat) (fun i σ H' => ∃ (xs : List V) (ds : List D) (g' : Nat) (y4 : Option V), σ = [some (.ref b), some (.int dp), some (.ref u), some (.ref p), y4] ∧ H' p = some (.lst xs) ∧ Reps K H' xs ds ∧ isKs ds = true ∧ (deps ds : Int) ≤ dp ∧ szs ds + g' ≤ g ∧ H' u = some (.lst [.int g']) ∧ BoxAt H' b c ∧ SB2 b u H H')
        ⟨[], [], g, none, rfl, hs1 _ _ npb.symm upd_same, .nil, rfl, h0, by show 0 + g ≤ g; omega, hs1 _ _ hbu.symm (s1 _ _ hu), hB1, fun z o n1 n2 e => hs1 _ _ n1 (s1 _ _ e)⟩ ?_ ?_
      · rintro i σ H2 hi ⟨xs, ds, g', y4, rfl, hp, hrs, hk, hd, hs, hu2, hb2, hsb⟩
        refine ⟨_, rfl, u, _, 0, _, rfl, rfl, SqL.of hu2, rfl, _, _, rfl, rfl, _, rfl, ite2 (fun e => ?_) (fun e => ⟨xs, ds, g', _, rfl, hp, hrs, hk, hd, hs, hu2, hb2, hsb⟩)⟩
        have e' : (0 : Int) < (g' : Int) := of_decide_eq_true e
        have eg : (g' : Int) - 1 = ((g' - 1 : Nat) : Int) := by omega
        refine ⟨_, rfl, u, _, 0, _, rfl, rfl, SqL.of hu2, rfl, _, _, rfl, rfl, _, rfl, u, _, 0, 0, rfl, rfl, hu2, rfl, ?_⟩
        have hu3 : (upd H2 u (.lst [.int ((g' : Int) - 1)])) u = some (.lst [.int ((g' - 1 : Nat) : Int)]) := by rw [upd_same, eg]
        have hp3 : (upd H2 u (.lst [.int ((g' : Int) - 1)])) p = some (.lst xs) := by rw [upd_ne npu.symm]; exact hp
        have hb3 : BoxAt (upd H2 u (.lst [.int ((g' : Int) - 1)])) b c := hb2.other _ hbu.symm hcu.symm
        have k3 : Kx H2 (upd H2 u (.lst [.int ((g' : Int) - 1)])) := kx_list hu2 _
        refine ⟨_, rfl, .inl ⟨rfl, _, SqL.of hp3⟩, _, rfl, _, rfl, _, _, rfl, rfl, _, rfl, b, c, u, dp - 1, g' - 1, rfl, hb3, hu3, by omega, by omega, by omega, hbu, hcu, fun v H4 d g4 rv kv dv sv hu4 hb4 hsb4 => ?_⟩
        have hp4 : H4 p = some (.lst xs) := hsb4 _ _ npb.symm npu.symm hp3
        have k4 := sb2_kx hb3 hb4 hu3 hu4 hsb4
        have hrs4 := hrs.mono (k3.trans k4)
        have hlen := hrs.length
        have hlz := len_szs ds
        refine ⟨p, xs, v, rfl, rfl, hp4, small6 (by omega), ?_⟩
        have k5 : Kx H4 (upd H4 p (.lst (xs ++ [v]))) := kx_list hp4 _
        refine ⟨xs ++ [v], ds ++ [d], g4, _, rfl, upd_same, (hrs4.append (.one rv)).mono k5, ?_, ?_, ?_, by rw [upd_ne npu]; exact hu4, ?_, ?_⟩
        · rw [isKs_append, hk]
          show (true && (isK d && true)) = true
          rw [kv]
          rfl
        · rw [deps_append]
          show ((max (deps ds) (max (dep d + 1) 0) : Nat) : Int) ≤ dp
          omega
        · rw [szs_append]
          show szs ds + (sz d + 0) + g4 ≤ g
          omega
        · exact hb4.other _ npb.symm npc.symm
        · intro z o n1 n2 e1
          rw [upd_ne (ne_of_none e1 np)]
          refine hsb4 _ _ n1 n2 ?_
          rw [upd_ne n2]
          exact hsb z o n1 n2 e1
      · rintro σ H2 ⟨xs, ds, g', y4, rfl, hp, hrs, hk, hd, hs, hu2, hb2, hsb⟩
        exact ⟨_, rfl, fin y4 xs ds g' H2 hp hrs hk hd hs hu2 hb2 hsb⟩
    · exact ⟨_, rfl, fin none [] [] g _ upd_same .nil rfl h0 (by show 0 + g ≤ g; omega) (s1 _ _ hu) (hB.same s1) (fun z o _ _ e => s1 _ _ e)⟩
end
/-! ### programs as the laws write them -/
inductive T where
  | say (v : Nat)
  | stop
  | ask (up k : Nat) (as : List T) (zero one : T)
  | prog (many : Nat) (b : T)
mutual
def toD : T → D
  | .say v => .tup [.at (.str "say"), .at (.int (v : Nat))]
  | .stop => .tup [.at (.str "stop")]
  | .ask up k as z o => .tup [.at (.str "ask"), .at (.int (up : Nat)), .at (.int (k : Nat)), .tup (toDs as), toD z, toD o]
  | .prog m b => .tup [.at (.str "program"), .at (.int (m : Nat)), toD b]
def toDs : List T → List D
  | [] => []
  | t :: r => toD t :: toDs r
end
def args : D → List D
  | .tup ts => ts
  | _ => []
mutual
/-- a body, the kinds of the programs around it from the innermost on -/
def wfB : List D → T → Bool
  | _, .say v => decide (v < 2)
  | _, .stop => true
  | ks, .ask up k as z o => (match ks[up]? with
    | some kd => (match (args kd)[k]? with
      | some a => wfPs ks (args a) as
      | none => false)
    | none => false) && (wfB ks z && wfB ks o)
  | _, .prog _ _ => false
def wfP : List D → D → T → Bool
  | ks, kd, .prog m b => decide (m = (args kd).length) && wfB (kd :: ks) b
  | _, _, _ => false
def wfPs : List D → List D → List T → Bool
  | _, [], [] => true
  | ks, d :: ds, t :: ts => wfP ks d t && wfPs ks ds ts
  | _, _, _ => false
end
mutual
def nasks : T → Nat
  | .say _ => 0
  | .stop => 0
  | .ask _ _ as z o => 1 + (nasksL as + (nasks z + nasks o))
  | .prog _ b => nasks b
def nasksL : List T → Nat
  | [] => 0
  | t :: r => nasks t + nasksL r
end
/-! ### _law_body -/
theorem toDs_append : ∀ a b : List T, toDs (a ++ b) = toDs a ++ toDs b
  | [], b => rfl
  | t :: r, b => by
    show toD t :: toDs (r ++ b) = toD t :: (toDs r ++ toDs b)
    rw [toDs_append r b]
theorem toDs_len : ∀ a : List T, (toDs a).length = a.length
  | [] => rfl
  | t :: r => congrArg Nat.succ (toDs_len r)
theorem nasksL_append : ∀ a b : List T, nasksL (a ++ b) = nasksL a + nasksL b
  | [], b => by show nasksL b = 0 + nasksL b; omega
  | t :: r, b => by
    show nasks t + nasksL (r ++ b) = (nasks t + nasksL r) + nasksL b
    rw [nasksL_append r b]
    omega
theorem wfPs_snoc {ks : List D} : ∀ {ds : List D} {ts : List T} {d : D} {t : T}, wfPs ks ds ts = true → wfP ks d t = true → wfPs ks (ds ++ [d]) (ts ++ [t]) = true
  | [], [], d, t, _, h => by
    show (wfP ks d t && wfPs ks [] []) = true
    rw [h]
    rfl
  | a :: ds, b :: ts, d, t, h1, h2 => by
    have k := Bool.and_eq_true_iff.mp h1
    show (wfP ks a b && wfPs ks (ds ++ [d]) (ts ++ [t])) = true
    rw [k.1, wfPs_snoc k.2 h2]
    rfl
  | [], _ :: _, _, _, h, _ => by cases h
  | _ :: _, [], _, _, h, _ => by cases h
def upkD (x : Nat × Nat) : D := .tup [.at (.int (x.1 : Nat)), .at (.int (x.2 : Nat))]
/-- a kind of the laws: its size is bounded -/
def Kd (d : D) : Prop := isK d = true ∧ sz d ≤ 1000
theorem Kd.sub {d a : D} {k : Nat} (h : Kd d) (e : (args d)[k]? = some a) : Kd a := by
  obtain ⟨ts, rfl, hks⟩ := isK_inv h.1
  have m : a ∈ ts := List.mem_of_getElem? e
  have := sz_mem m
  have h2 : szs ts + 1 ≤ 1000 := h.2
  exact ⟨isK_mem hks m, by omega⟩
theorem rev_at {α : Type} (l : List α) (i : Nat) (h : i < l.length) : l.reverse[l.length - 1 - i]? = l[i]? := by
  rw [List.getElem?_reverse (by omega)]
  congr 1
  omega
theorem up_at {K : PySem.W.Frag} {H : Hp} {xs : List V} {ks : List D} (rx : Reps K H xs ks.reverse) {i : Nat} (hi : i < ks.length) {z : Int} (hz : z = ((xs.length : Nat) : Int) - 1 - (i : Nat)) :
    ∃ x kd, atI xs z = some x ∧ ks[i]? = some kd ∧ Rep K H x kd := by
  have lx := rx.length
  rw [List.length_reverse] at lx
  have hk : xs.length - 1 - i < xs.length := by omega
  obtain ⟨kd, h1, h2⟩ := rx.get (List.getElem?_eq_getElem hk)
  have q := atI_nat (List.getElem?_eq_getElem hk)
  rw [show ((xs.length - 1 - i : Nat) : Int) = z by omega] at q
  rw [lx, rev_at ks i hi] at h1
  exact ⟨_, kd, q, h1, h2⟩
theorem pickP {K : PySem.W.Frag} {H : Hp} {xs : List V} {ds : List D} {r : Int} (h : Reps K H xs ds) (h0 : 0 ≤ r) (h1 : r < (xs.length : Nat)) : ∃ (v : V) (e : D) (i : Nat), atI xs r = some v ∧ ds[i]? = some e ∧ Rep K H v e := by
  have hk : r.toNat < xs.length := by omega
  obtain ⟨e, he, re⟩ := h.get (List.getElem?_eq_getElem hk)
  have q := atI_nat (List.getElem?_eq_getElem hk)
  rw [show ((r.toNat : Nat) : Int) = r by omega] at q
  exact ⟨_, e, r.toNat, q, he, re⟩
theorem toDs_at : ∀ {l : List T} {i : Nat} {e : D}, (toDs l)[i]? = some e → ∃ t, l[i]? = some t ∧ e = toD t
  | [], _, _, h => by simp [toDs] at h
  | t :: r, 0, e, h => ⟨t, rfl, (Option.some.inj h).symm⟩
  | t :: r, i + 1, e, h => toDs_at (l := r) (i := i) h
theorem say_reps {K : PySem.W.Frag} {M : Hp} {t1 t2 t3 t4 t5 : Addr} (h1 : M t1 = some (.tup [.str "say", .int 0])) (h2 : M t2 = some (.tup [.str "say", .int 1])) (h3 : M t3 = some (.tup [.str "say", .int 0])) (h4 : M t4 = some (.tup [.str "say", .int 1])) (h5 : M t5 = some (.tup [.str "stop"])) :
    Reps K M [.ref t1, .ref t2, .ref t3, .ref t4, .ref t5] (toDs [.say 0, .say 1, .say 0, .say 1, .stop]) :=
  .cons (.tup' h1 (.cons (.at rfl) (.one (.at rfl)))) (.cons (.tup' h2 (.cons (.at rfl) (.one (.at rfl)))) (.cons (.tup' h3 (.cons (.at rfl) (.one (.at rfl)))) (.cons (.tup' h4 (.cons (.at rfl) (.one (.at rfl)))) (.one (.tup' h5 (.one (.at rfl)))))))
theorem say_ok {ks : List D} {i : Nat} {t : T} (h : ([.say 0, .say 1, .say 0, .say 1, .stop] : List T)[i]? = some t) : wfB ks t = true ∧ nasks t = 0 := by
  have m : t ∈ ([.say 0, .say 1, .say 0, .say 1, .stop] : List T) := List.mem_of_getElem? h
  simp only [List.mem_cons, List.not_mem_nil, or_false] at m
  rcases m with rfl | rfl | rfl | rfl | rfl <;> exact ⟨by simp [wfB], rfl⟩
section
variable {P : Program} {w : World} {K : PySem.W.Frag} {mg : Str → Option Value} {base : Heap}
def spBody (K : PySem.W.Frag) (n : Nat) : Sp := fun vs H Q _ => ∃ (b c u : Addr) (v : V) (ks : List D) (g : Nat), vs = [.ref b, v, .ref u] ∧ BoxAt H b c ∧ H u = some (.lst [.int g]) ∧ Rep K H v (.tup ks.reverse) ∧ (∀ k ∈ ks, Kd k) ∧ ks.length + g ≤ 200 ∧ g < n ∧ b ≠ u ∧ c ≠ u ∧
  ∀ (z : V) (H' : Hp) (t : T) (g' : Nat), Rep K H' z (toD t) → wfB ks t = true → nasks t + g' ≤ g → H' u = some (.lst [.int g']) → BoxAt H' b c → SB2 b u H H' → Q z H'
theorem SB2.refl (b u : Addr) (H : Hp) : SB2 b u H H := fun _ _ _ _ h => h
theorem SB2.trans {b u : Addr} {H H1 H2 : Hp} (x : SB2 b u H H1) (y : SB2 b u H1 H2) : SB2 b u H H2 := fun q o n1 n2 h => y q o n1 n2 (x q o n1 n2 h)
theorem sb2_same {b u : Addr} {H H' : Hp} (s : Same H H') : SB2 b u H H' := fun q o _ _ h => s q o h
theorem sb2_sb {b u : Addr} {H H' : Hp} (s : SB b H H') : SB2 b u H H' := fun q o n _ h => s q o n h
theorem ok_body {f e : Addr} {fd ed : FuncData} (D__law_body : Df K mg "_law_body" s__law_body ["box", "kinds", "budget"] f fd) (D__law_draw : Df K mg "_law_draw" s__law_draw ["box", "many"] e ed) (B : Bt mg) :
    ∀ n : Nat, FnOk P w K mg base CX0 (n + 1) f fd ["box", "kinds", "budget"] (spBody K n)
  | 0 => (fn_none (f := f) (fd := fd) fun vs H Q E h => by
    obtain ⟨b, c, u, v, ks, g, _, _, _, _, _, _, h1, _⟩ := h
    omega).mono (by omega)
  | n + 1 => by
    have G__law_body := ok_body D__law_body D__law_draw B n
    have G__law_draw : FnOk P w K mg base CX0 1 e ed ["box", "many"] spDraw := ok_draw D__law_draw B
    refine D__law_body.ok c__law_body (fun vs H Q E h => ?_) (fun cdv A outer s H vs Q E hr h => ?_)
    · obtain ⟨b, c, u, v, ks, g, rfl, _⟩ := h
      rfl
    obtain ⟨b, c, u, v, ks, g, rfl, hB, hu, rv, hks, hlen, hg, hbu, hcu, q⟩ := h
    have nd := c__law_body.nd
    refine ⟨_, (pss_cons (ps_set (i := 3) nd rfl (Or.inl rfl) (pe_lst pa_nil))
  (pss_cons (ps_for PassesOwn.never rfl (pi_range1 (by rfl) B.b_range (pa_cons (pe_callB call_len_seq (by rfl) B.b_len PySem.boot_len (pa_cons (pv 1) pa_nil)) pa_nil)) (pg_name (i := 4) nd rfl (Or.inl rfl)) (pss_one (ps_for PassesOwn.never rfl (pi_range1 (by rfl) B.b_range (pa_cons (pe_callB call_len_seq (by rfl) B.b_len PySem.boot_len (pa_cons (pe_ix ix_tup (pv 1) (pe_op op_sub (pe_op op_sub (pe_callB call_len_seq (by rfl) B.b_len PySem.boot_len (pa_cons (pv 1) pa_nil)) pe_int) (pv 4)) (fun _ _ => rfl)) pa_nil)) pa_nil)) (pg_name (i := 5) nd rfl (Or.inl rfl)) (pss_one (ps_expr (pe_bm PySem.F.plainAttrs_list PySem.F.slot_list_append PySem.F.type_list_append mt_append (pv 3) (pa_cons (pe_tup (pa_cons (pv 4) (pa_cons (pv 5) pa_nil))) pa_nil)))))))
  (pss_cons (ps_if (PW.pt (pw_or (pt_cmpR op_eq (pe_callB call_len_seq (by rfl) B.b_len PySem.boot_len (pa_cons (pv 3) pa_nil)) pe_int (nomark _)) (pw_or (pt_cmpR op_eq (pe_ix ix_list (pv 2) pe_int (fun _ _ => rfl)) pe_int (nomark _)) (pw_or1 (pt_cmpR op_eq (pe_call G__law_draw (hr.mono (by first | decide | omega)) (by rfl) D__law_draw.m D__law_draw.kp D__law_draw.b .nil pass0 (pa_cons (pv 0) (pa_cons pe_int pa_nil))) pe_int (nomark _)))))) (pss_one (ps_ret (pe_ix ix_list (pe_lst (pa_cons (pe_tup (pa_cons pe_str (pa_cons pe_int pa_nil))) (pa_cons (pe_tup (pa_cons pe_str (pa_cons pe_int pa_nil))) (pa_cons (pe_tup (pa_cons pe_str (pa_cons pe_int pa_nil))) (pa_cons (pe_tup (pa_cons pe_str (pa_cons pe_int pa_nil))) (pa_cons (pe_tup (pa_cons pe_str pa_nil)) pa_nil)))))) (pe_call G__law_draw (hr.mono (by first | decide | omega)) (by rfl) D__law_draw.m D__law_draw.kp D__law_draw.b .nil pass0 (pa_cons (pv 0) (pa_cons pe_int pa_nil))) (fun _ _ => rfl)))) pss_nil)
  (pss_cons (ps_asg (pe_op op_sub (pe_ix ix_list (pv 2) pe_int (fun _ _ => rfl)) pe_int) (pg_sub (pv 2) pe_int set_list))
  (pss_cons (ps_asg (pe_ix ix_list (pv 3) (pe_op op_mod (pe_callTy call_int1 (by rfl) B.b_int (by decide +kernel) (pa_cons (pe_call G__law_draw (hr.mono (by first | decide | omega)) (by rfl) D__law_draw.m D__law_draw.kp D__law_draw.b .nil pass0 (pa_cons (pv 0) (pa_cons pe_int pa_nil))) pa_nil)) (pe_callB call_len_seq (by rfl) B.b_len PySem.boot_len (pa_cons (pv 3) pa_nil))) (fun _ _ => rfl)) (pg_tup rfl (pgs_cons (pg_name (i := 4) nd rfl (Or.inl rfl)) (pgs_cons (pg_name (i := 5) nd rfl (Or.inl rfl)) pgs_nil))))
  (pss_cons (ps_set (i := 6) nd rfl (Or.inl rfl) (pe_ix ix_tup (pe_ix ix_tup (pv 1) (pe_op op_sub (pe_op op_sub (pe_callB call_len_seq (by rfl) B.b_len PySem.boot_len (pa_cons (pv 1) pa_nil)) pe_int) (pv 4)) (fun _ _ => rfl)) (pv 5) (fun _ _ => rfl)))
  (pss_cons (ps_set (i := 7) nd rfl (Or.inl rfl) (pe_lst pa_nil))
  (pss_cons (ps_for PassesOwn.never rfl (pi_tup (pv 6)) (pg_name (i := 8) nd rfl (Or.inl rfl)) (pss_one (ps_expr (pe_bm PySem.F.plainAttrs_list PySem.F.slot_list_append PySem.F.type_list_append mt_append (pv 7) (pa_cons (pe_tup (pa_cons pe_str (pa_cons (pe_callB call_len_seq (by rfl) B.b_len PySem.boot_len (pa_cons (pv 8) pa_nil)) (pa_cons (pe_call G__law_body hr (by rfl) D__law_body.m D__law_body.kp D__law_body.b .nil pass0 (pa_cons (pv 0) (pa_cons (pe_op op_catP (pv 1) (pe_tup (pa_cons (pv 8) pa_nil))) (pa_cons (pv 2) pa_nil)))) pa_nil)))) pa_nil)))))
  (pss_cons (ps_set (i := 9) nd rfl (Or.inl rfl) (pe_call G__law_body hr (by rfl) D__law_body.m D__law_body.kp D__law_body.b .nil pass0 (pa_cons (pv 0) (pa_cons (pv 1) (pa_cons (pv 2) pa_nil)))))
  (pss_cons (ps_set (i := 10) nd rfl (Or.inl rfl) (pe_call G__law_body hr (by rfl) D__law_body.m D__law_body.kp D__law_body.b .nil pass0 (pa_cons (pv 0) (pa_cons (pv 1) (pa_cons (pv 2) pa_nil)))))
  (pss_one (ps_ret (pe_tup (pa_cons pe_str (pa_cons (pv 4) (pa_cons (pv 5) (pa_cons (pe_callTy call_tuple_of (by rfl) B.b_tuple (by decide +kernel) (pa_cons (pv 7) pa_nil)) (pa_cons (pv 9) (pa_cons (pv 10) pa_nil))))))))))))))))))), ?_⟩
    obtain ⟨a, xs, rfl, hx, rx⟩ := rv.inv
    have lx := rx.length
    rw [List.length_reverse] at lx
    refine ⟨Nat.zero_le _, fun p np => ?_⟩
    have s1 := same_new np (.lst [])
    refine ⟨_, rfl, a, xs, rfl, .inr (hx.same s1).sq, _, rfl, by omega, by omega, ?_⟩
    refine for_range (n := ((xs.length : Nat) : Int).toNat) (fun i σ H' => ∃ (ys : List V) (l : List (Nat × Nat)) (y4 y5 y6 y7 y8 y9 y10 : Option V), σ = [some (.ref b), some (.ref a), some (.ref u), some (.ref p), y4, y5, y6, y7, y8, y9, y10] ∧ Nw p H H' ys ∧ Reps K H' ys (l.map upkD) ∧ l.length ≤ 1000 * i ∧ ∀ x ∈ l, ∃ kd, ks[x.1]? = some kd ∧ x.2 < (args kd).length)
      ⟨[], [], none, none, none, none, none, none, none, rfl, Nw.new np _, .nil, Nat.zero_le _, fun x hx => by cases hx⟩ ?_ ?_
    · rintro i σ H1 hi ⟨ys, l, y4, y5, y6, y7, y8, y9, y10, rfl, hn, ry, hl, hp⟩
      have hi' : i < ks.length := by omega
      have hx1 := hx.same hn.s
      obtain ⟨x, kd, hat, hkd, rk⟩ := up_at (rx.mono (kx_same hn.s)) hi' (z := ((xs.length : Nat) : Int) - 1 - ((0 : Int) + (i : Nat))) (by omega)
      obtain ⟨kk, ksz⟩ := hks kd (List.mem_of_getElem? hkd)
      obtain ⟨ts, rfl, hts⟩ := isK_inv kk
      obtain ⟨ka, kxs, rfl, hka, rka⟩ := rk.inv
      have lk := rka.length
      have lz := len_szs ts
      have ksz' : szs ts + 1 ≤ 1000 := ksz
      refine ⟨_, rfl, _, rfl, a, xs, rfl, .inr hx1.sq, _, _, rfl, rfl, _, rfl, _, _, rfl, rfl, a, xs, _, _, rfl, rfl, hx1.sq, hat, ka, kxs, rfl, .inr hka.sq, _, rfl, by omega, by omega, ?_⟩
      refine for_range (n := ((kxs.length : Nat) : Int).toNat) (fun j σ H' => ∃ (ys : List V) (l : List (Nat × Nat)) (y5 y6 y7 y8 y9 y10 : Option V), σ = [some (.ref b), some (.ref a), some (.ref u), some (.ref p), some (.int ((0 : Int) + (i : Nat))), y5, y6, y7, y8, y9, y10] ∧ Nw p H H' ys ∧ Reps K H' ys (l.map upkD) ∧ l.length ≤ 1000 * i + j ∧ ∀ x ∈ l, ∃ kd, ks[x.1]? = some kd ∧ x.2 < (args kd).length)
        ⟨ys, l, _, _, _, _, _, _, rfl, hn, ry, by omega, hp⟩ ?_ ?_
      · rintro j σ H2 hj ⟨ys, l, y5, y6, y7, y8, y9, y10, rfl, hn, ry, hl, hp⟩
        have ly := ry.length
        rw [List.length_map] at ly
        refine ⟨_, rfl, .inl ⟨rfl, _, SqL.of hn.h⟩, _, rfl, _, rfl, (by show 2 ≤ sizeLine; decide), fun t nt => ?_⟩
        have s2 := same_new nt (.tup [.int ((0 : Int) + (i : Nat)), .int ((0 : Int) + (j : Nat))])
        have hn2 := hn.step s2
        refine ⟨p, ys, _, rfl, rfl, hn2.h, small6 (by omega), ?_⟩
        have k3 := kx_list hn2.h (ys ++ [.ref t])
        refine ⟨ys ++ [.ref t], l ++ [(i, j)], _, _, _, _, _, _, rfl, hn2.put _, ?_, by rw [List.length_append, List.length_singleton]; omega, ?_⟩
        · rw [List.map_append]
          refine ((ry.mono (kx_same s2)).mono k3).append (.one (.tup' (k3.t _ _ upd_same) (.cons ?_ (.one ?_))))
          · rw [show (0 : Int) + (i : Nat) = ((i : Nat) : Int) by omega]
            exact .at rfl
          · rw [show (0 : Int) + (j : Nat) = ((j : Nat) : Int) by omega]
            exact .at rfl
        · intro x hx
          rcases List.mem_append.mp hx with hx | hx
          · exact hp x hx
          · rw [List.mem_singleton.mp hx]
            exact ⟨_, hkd, by show j < ts.length; omega⟩
      · rintro σ H2 ⟨ys, l, y5, y6, y7, y8, y9, y10, rfl, hn, ry, hl, hp⟩
        exact ⟨ys, l, _, _, _, _, _, _, _, rfl, hn, ry, by omega, hp⟩
    · rintro σ H1 ⟨ys, l, y4, y5, y6, y7, y8, y9, y10, rfl, hn, ry, hl, hp⟩
      have ly := ry.length
      rw [List.length_map] at ly
      have hB1 := hB.same hn.s
      have hu1 := hn.s _ _ hu
      have sb1 : SB2 b u H H1 := sb2_same hn.s
      have hx1 := hx.same hn.s
      refine ⟨_, rfl, p, ys, rfl, .inl (SqL.of hn.h), rfl, _, rfl, ite2 (fun z => ?_) (fun z => ?_)⟩
      · -- len(around) == 0
        refine ⟨(by show 2 ≤ sizeLine; decide), fun t1 n1 => ⟨(by show 2 ≤ sizeLine; decide), fun t2 n2 => ⟨(by show 2 ≤ sizeLine; decide), fun t3 n3 => ⟨(by show 2 ≤ sizeLine; decide), fun t4 n4 => ⟨(by show 1 ≤ sizeLine; decide), fun t5 n5 => ⟨(by show 5 ≤ sizeLine; decide), fun l nl => ?_⟩⟩⟩⟩⟩⟩
        have u6 := same_new nl (.lst [.ref t1, .ref t2, .ref t3, .ref t4, .ref t5])
        have u5 := (same_new n5 _).trans u6
        have u4 := (same_new n4 _).trans u5
        have u3 := (same_new n3 _).trans u4
        have u2 := (same_new n2 _).trans u3
        have u1 := (same_new n1 _).trans u2
        have RM := say_reps (K := K) (u2 _ _ upd_same) (u3 _ _ upd_same) (u4 _ _ upd_same) (u5 _ _ upd_same) (u6 _ _ upd_same)
        have hBM := hB1.same u1
        have nlb : l ≠ b := fun z => by
          subst z
          obtain ⟨bs, hbs⟩ := (hB1.same ((same_new n1 _).trans ((same_new n2 _).trans ((same_new n3 _).trans ((same_new n4 _).trans (same_new n5 _)))))).lst
          rw [nl] at hbs
          cases hbs
        refine ⟨_, rfl, b, c, 5, rfl, hBM, by decide, fun r9 H9 r90 r95 hB9 sb9 => ?_⟩
        obtain ⟨y, ey, iy, hy, he, rey⟩ := pickP RM r90 r95
        obtain ⟨t, ht, rfl⟩ := toDs_at he
        obtain ⟨w1, w2⟩ := say_ok (ks := ks) ht
        refine ⟨l, _, _, y, rfl, rfl, SqL.of (sb9 _ _ nlb upd_same), hy, ?_⟩
        exact q y H9 t g (rey.mono (box_kx hBM hB9 sb9)) w1 (by omega) (sb9 _ _ hbu.symm (u1 _ _ hu1)) hB9 (sb1.trans ((sb2_same u1).trans (sb2_sb sb9)))
      have z1 : ys.length ≠ 0 := fun e => by
        rw [e] at z
        exact z rfl
      refine ⟨_, rfl, u, _, 0, _, rfl, rfl, SqL.of hu1, rfl, rfl, _, rfl, ite2 (fun y => ?_) (fun y => ?_)⟩
      · -- budget[0] == 0
        refine ⟨(by show 2 ≤ sizeLine; decide), fun t1 n1 => ⟨(by show 2 ≤ sizeLine; decide), fun t2 n2 => ⟨(by show 2 ≤ sizeLine; decide), fun t3 n3 => ⟨(by show 2 ≤ sizeLine; decide), fun t4 n4 => ⟨(by show 1 ≤ sizeLine; decide), fun t5 n5 => ⟨(by show 5 ≤ sizeLine; decide), fun l nl => ?_⟩⟩⟩⟩⟩⟩
        have u6 := same_new nl (.lst [.ref t1, .ref t2, .ref t3, .ref t4, .ref t5])
        have u5 := (same_new n5 _).trans u6
        have u4 := (same_new n4 _).trans u5
        have u3 := (same_new n3 _).trans u4
        have u2 := (same_new n2 _).trans u3
        have u1 := (same_new n1 _).trans u2
        have RM := say_reps (K := K) (u2 _ _ upd_same) (u3 _ _ upd_same) (u4 _ _ upd_same) (u5 _ _ upd_same) (u6 _ _ upd_same)
        have hBM := hB1.same u1
        have nlb : l ≠ b := fun z => by
          subst z
          obtain ⟨bs, hbs⟩ := (hB1.same ((same_new n1 _).trans ((same_new n2 _).trans ((same_new n3 _).trans ((same_new n4 _).trans (same_new n5 _)))))).lst
          rw [nl] at hbs
          cases hbs
        refine ⟨_, rfl, b, c, 5, rfl, hBM, by decide, fun r9 H9 r90 r95 hB9 sb9 => ?_⟩
        obtain ⟨y, ey, iy, hy, he, rey⟩ := pickP RM r90 r95
        obtain ⟨t, ht, rfl⟩ := toDs_at he
        obtain ⟨w1, w2⟩ := say_ok (ks := ks) ht
        refine ⟨l, _, _, y, rfl, rfl, SqL.of (sb9 _ _ nlb upd_same), hy, ?_⟩
        exact q y H9 t g (rey.mono (box_kx hBM hB9 sb9)) w1 (by omega) (sb9 _ _ hbu.symm (u1 _ _ hu1)) hB9 (sb1.trans ((sb2_same u1).trans (sb2_sb sb9)))
      have g1 : g ≠ 0 := fun e => by
        subst e
        exact y rfl
      refine ⟨_, rfl, b, c, 5, rfl, hB1, by decide, fun r H2 r0 r5 hB2 sbx => ⟨rfl, _, rfl, ite2 (fun x => ?_) (fun x => ?_)⟩⟩
      · -- _law_draw(box, 5) == 0
        have hu2 := sbx _ _ hbu.symm hu1
        have sb2 : SB2 b u H H2 := sb1.trans (sb2_sb sbx)
        refine ⟨(by show 2 ≤ sizeLine; decide), fun t1 n1 => ⟨(by show 2 ≤ sizeLine; decide), fun t2 n2 => ⟨(by show 2 ≤ sizeLine; decide), fun t3 n3 => ⟨(by show 2 ≤ sizeLine; decide), fun t4 n4 => ⟨(by show 1 ≤ sizeLine; decide), fun t5 n5 => ⟨(by show 5 ≤ sizeLine; decide), fun l nl => ?_⟩⟩⟩⟩⟩⟩
        have u6 := same_new nl (.lst [.ref t1, .ref t2, .ref t3, .ref t4, .ref t5])
        have u5 := (same_new n5 _).trans u6
        have u4 := (same_new n4 _).trans u5
        have u3 := (same_new n3 _).trans u4
        have u2 := (same_new n2 _).trans u3
        have u1 := (same_new n1 _).trans u2
        have RM := say_reps (K := K) (u2 _ _ upd_same) (u3 _ _ upd_same) (u4 _ _ upd_same) (u5 _ _ upd_same) (u6 _ _ upd_same)
        have hBM := hB2.same u1
        have nlb : l ≠ b := fun z => by
          subst z
          obtain ⟨bs, hbs⟩ := (hB2.same ((same_new n1 _).trans ((same_new n2 _).trans ((same_new n3 _).trans ((same_new n4 _).trans (same_new n5 _)))))).lst
          rw [nl] at hbs
          cases hbs
        refine ⟨_, rfl, b, c, 5, rfl, hBM, by decide, fun r9 H9 r90 r95 hB9 sb9 => ?_⟩
        obtain ⟨y, ey, iy, hy, he, rey⟩ := pickP RM r90 r95
        obtain ⟨t, ht, rfl⟩ := toDs_at he
        obtain ⟨w1, w2⟩ := say_ok (ks := ks) ht
        refine ⟨l, _, _, y, rfl, rfl, SqL.of (sb9 _ _ nlb upd_same), hy, ?_⟩
        exact q y H9 t g (rey.mono (box_kx hBM hB9 sb9)) w1 (by omega) (sb9 _ _ hbu.symm (u1 _ _ hu2)) hB9 (sb2.trans ((sb2_same u1).trans (sb2_sb sb9)))
      have hu2 := sbx _ _ hbu.symm hu1
      have sb2 : SB2 b u H H2 := sb1.trans (sb2_sb sbx)
      have npb : b ≠ p := by
        obtain ⟨bs, hbs⟩ := hB.lst
        exact ne_of_none hbs hn.n
      have npu : u ≠ p := ne_of_none hu hn.n
      have hp2 := sbx _ _ npb.symm hn.h
      have k12 := box_kx hB1 hB2 sbx
      have eg : (g : Int) - 1 = ((g - 1 : Nat) : Int) := by omega
      refine ⟨_, rfl, u, _, 0, _, rfl, rfl, SqL.of hu2, rfl, _, _, rfl, rfl, _, rfl, u, _, 0, 0, rfl, rfl, hu2, rfl, ?_⟩
      have hu3 : (upd H2 u (.lst [.int ((g : Int) - 1)])) u = some (.lst [.int ((g - 1 : Nat) : Int)]) := by rw [upd_same, eg]
      have hp3 : (upd H2 u (.lst [.int ((g : Int) - 1)])) p = some (.lst ys) := by rw [upd_ne npu.symm]; exact hp2
      have hB3 : BoxAt (upd H2 u (.lst [.int ((g : Int) - 1)])) b c := hB2.other _ hbu.symm hcu.symm
      have k03 : Kx H (upd H2 u (.lst [.int ((g : Int) - 1)])) := ((kx_same hn.s).trans k12).trans (kx_list hu2 _)
      have sb3 : SB2 b u H (upd H2 u (.lst [.int ((g : Int) - 1)])) := fun o v2 n1 n2 e => by rw [upd_ne n2]; exact sb2 o v2 n1 n2 e
      have ry3 := (ry.mono k12).mono (kx_list hu2 [.int ((g : Int) - 1)])
      refine ⟨_, rfl, _, rfl, b, c, 1000, rfl, hB3, by decide, fun r4 H4 r40 r41 hB4 sb4 => .inl ⟨_, rfl, ?_⟩⟩
      have k34 := box_kx hB3 hB4 sb4
      have hp4 := sb4 _ _ npb.symm hp3
      have hu4 := sb4 _ _ hbu.symm hu3
      have ry4 := ry3.mono k34
      have hpos : (0 : Int) < ((ys.length : Nat) : Int) := by omega
      obtain ⟨tv, te, ti, hat1, hte, rte⟩ := pickP ry4 (r := r4 % ((ys.length : Nat) : Int)) (Int.emod_nonneg _ (by omega)) (Int.emod_lt_of_pos _ hpos)
      rw [List.getElem?_map] at hte
      obtain ⟨⟨iu, jn⟩, hl1, rfl⟩ := Option.map_eq_some_iff.mp hte
      obtain ⟨kd, hkd, hjn⟩ := hp _ (List.mem_of_getElem? hl1)
      obtain ⟨ta, txs, rfl, hta, rta⟩ := rte.inv
      cases rta with
      | cons r1 rta =>
        cases rta with
        | cons r2 rta =>
          cases rta
          obtain ⟨rfl, _⟩ := r1.inva
          obtain ⟨rfl, _⟩ := r2.inva
          refine ⟨_, rfl, p, ys, rfl, .inl (SqL.of hp4), _, _, rfl, rfl, hpos, p, ys, _, _, rfl, rfl, SqL.of hp4, hat1, ta, _, rfl, hta.sq, rfl, _, _, rfl, _, _, rfl, rfl, ?_⟩
          have k04 := k03.trans k34
          have sb04 : SB2 b u H H4 := sb3.trans (sb2_sb sb4)
          have hx4 := hx.kx k04
          have rx4 := rx.mono k04
          have hiu : iu < ks.length := (List.getElem?_eq_some_iff.mp hkd).1
          obtain ⟨kv, kd', hat2, hkd', rk⟩ := up_at rx4 hiu (z := ((xs.length : Nat) : Int) - 1 - ((iu : Nat) : Int)) rfl
          have hkd2 : ks[iu]? = some kd := hkd
          rw [hkd2] at hkd'
          cases hkd'
          have KD := hks kd (List.mem_of_getElem? hkd2)
          obtain ⟨ts, rfl, hts⟩ := isK_inv KD.1
          obtain ⟨ka, kxs, rfl, hka, rka⟩ := rk.inv
          have lk := rka.length
          have hjn' : jn < kxs.length := by
            have : jn < ts.length := hjn
            omega
          obtain ⟨ca, hca1, hca2⟩ := rka.get (List.getElem?_eq_getElem hjn')
          have CA : Kd ca := KD.sub (k := jn) hca1
          obtain ⟨cts, rfl, hcts⟩ := isK_inv CA.1
          obtain ⟨cad, cxs, hcv, hcad, rcx⟩ := hca2.inv
          have lcx := rcx.length
          have lcz := len_szs cts
          have ccz : szs cts + 1 ≤ 1000 := CA.2
          refine ⟨_, rfl, _, rfl, a, xs, rfl, .inr hx4.sq, _, _, rfl, rfl, _, rfl, _, _, rfl, rfl, a, xs, _, _, rfl, rfl, hx4.sq, hat2, _, rfl, ka, kxs, _, _, rfl, rfl, hka.sq, atI_nat (List.getElem?_eq_getElem hjn'), ?_⟩
          rw [hcv]
          refine ⟨Nat.zero_le _, fun pa npa => ?_⟩
          have s5 := same_new npa (.lst [])
          have nbpa : b ≠ pa := by
            obtain ⟨bs, hbs⟩ := hB4.lst
            exact ne_of_none hbs npa
          have nupa : u ≠ pa := ne_of_none hu4 npa
          have ncpa : c ≠ pa := by
            obtain ⟨bs, hbs⟩ := hB4.dst
            exact ne_of_none hbs npa
          refine ⟨_, rfl, cad, rfl, ⟨_, (hcad.same s5).sq⟩, for_tup (K := K) (a := cad) (xs := cxs) (fun m σ H' => ∃ (zs : List V) (tl : List T) (gm : Nat) (y8 y9 y10 : Option V), σ = [some (.ref b), some (.ref a), some (.ref u), some (.ref p), some (.int (iu : Nat)), some (.int (jn : Nat)), some (.ref cad), some (.ref pa), y8, y9, y10] ∧
              Kx H4 H' ∧ H' pa = some (.lst zs) ∧ Reps K H' zs (toDs tl) ∧ wfPs ks (cts.take m) tl = true ∧ tl.length = m ∧ nasksL tl + gm ≤ g - 1 ∧ H' u = some (.lst [.int gm]) ∧ BoxAt H' b c ∧ SB2 b u H4 H')
            ⟨[], [], g - 1, _, _, _, rfl, kx_same s5, upd_same, .nil, rfl, rfl, by show 0 + (g - 1) ≤ g - 1; omega, s5 _ _ hu4, hB4.same s5, sb2_same s5⟩ (fun m σ H' _ h => by
              obtain ⟨zs, tl, gm, y8, y9, y10, _, k', _⟩ := h
              exact (hcad.kx k').sq) ?_ ?_⟩
          · rintro m x σ H6 hm ⟨zs, tl, gm, y8, y9, y10, rfl, k46, hpa6, rzs, hwf, htl, hng, hu6, hB6, sb46⟩
            have hml : m < cxs.length := (List.getElem?_eq_some_iff.mp hm).1
            obtain ⟨pd, hpd, rpd⟩ := rcx.get hm
            have PD : Kd pd := CA.sub (k := m) hpd
            obtain ⟨pts, rfl, hpts⟩ := isK_inv PD.1
            obtain ⟨pad, pxs, rfl, hpad, rpx⟩ := (rpd.mono k46).inv
            have lpx := rpx.length
            have hx6 := hx4.kx k46
            have rx6 := rx4.mono k46
            refine ⟨_, rfl, .inl ⟨rfl, _, SqL.of hpa6⟩, _, rfl, pad, pxs, rfl, .inr hpad.sq, _, rfl, _, rfl, _, rfl, (by show 1 ≤ sizeLine; decide), fun t1 n1 => ?_⟩
            have s7 := same_new n1 (.tup [.ref pad])
            refine ⟨a, t1, xs, _, rfl, rfl, hx6.same s7, .inl upd_same, small6' (by show xs.length + 1 ≤ 1000000; omega), fun c1 H8 s8 hc1 => ?_⟩
            have s68 := s7.trans s8
            have hu8 := s68 _ _ hu6
            have hB8 := hB6.same s68
            have rk8 : Reps K H8 (xs ++ [.ref pad]) (((.tup pts) :: ks).reverse) := by
              rw [List.reverse_cons]
              exact (rx6.mono (kx_same s68)).append (.one ((rpd.mono k46).mono (kx_same s68)))
            refine ⟨_, rfl, b, c, u, .ref c1, (.tup pts) :: ks, gm, rfl, hB8, hu8, .tup hc1 rk8, (fun k hk => ?_), by rw [List.length_cons]; omega, by omega, hbu, hcu, fun z H9 t g2 rz wz nz hu9 hB9 sb9 => ?_⟩
            · rcases List.mem_cons.mp hk with e | hk
              · rw [e]
                exact PD
              · exact hks k hk
            have k89 := sb2_kx hB8 hB9 hu8 hu9 sb9
            refine ⟨(by show 3 ≤ sizeLine; decide), fun t2 n2 => ?_⟩
            have s10 := same_new n2 (.tup [.str "program", .int ((pxs.length : Nat) : Int), z])
            have hpa10 := s10 _ _ (sb9 _ _ nbpa.symm nupa.symm (s68 _ _ hpa6))
            have lzs := rzs.length
            rw [toDs_len] at lzs
            refine ⟨pa, zs, _, rfl, rfl, hpa10, small6 (by omega), ?_⟩
            have k11 := kx_list hpa10 (zs ++ [.ref t2])
            have k69 := (kx_same s68).trans k89
            have k610 := k69.trans (kx_same s10)
            refine ⟨zs ++ [.ref t2], tl ++ [.prog pts.length t], g2, _, _, _, rfl, k46.trans (k610.trans k11), upd_same, ?_, ?_, by rw [List.length_append, List.length_singleton]; omega, ?_, ?_, ?_, ?_⟩
            · rw [toDs_append]
              refine (rzs.mono (k610.trans k11)).append (.one (.tup' (k11.t _ _ upd_same) (.cons (.at rfl) (.cons ?_ (.one ((rz.mono (kx_same s10)).mono k11))))))
              rw [lpx]
              exact .at rfl
            · rw [List.take_add_one, hpd]
              refine wfPs_snoc hwf ?_
              show (decide (pts.length = pts.length) && wfB ((.tup pts) :: ks) t) = true
              rw [decide_eq_true rfl, wz]
              rfl
            · rw [nasksL_append]
              show nasksL tl + (nasks t + 0) + g2 ≤ g - 1
              omega
            · rw [upd_ne nupa]
              exact s10 _ _ hu9
            · exact (hB9.same s10).other _ nbpa.symm ncpa.symm
            · intro o v2 o1 o2 e
              rw [upd_ne (ne_of_none e npa)]
              exact s10 _ _ (sb9 _ _ o1 o2 (s68 _ _ (sb46 _ _ o1 o2 e)))
          · rintro σ H6 ⟨zs, tl, gm, y8, y9, y10, rfl, k46, hpa6, rzs, hwf, htl, hng, hu6, hB6, sb46⟩
            rw [lcx, List.take_length] at hwf
            have hx6 := hx4.kx k46
            have rx6 := rx4.mono k46
            refine ⟨_, rfl, _, rfl, _, rfl, b, c, u, .ref a, ks, gm, rfl, hB6, hu6, .tup hx6 rx6, hks, by omega, by omega, hbu, hcu, fun z0 H7 t0 g0 rz0 wz0 nz0 hu7 hB7 sb7 => ?_⟩
            have k67 := sb2_kx hB6 hB7 hu6 hu7 sb7
            refine ⟨_, rfl, _, rfl, _, rfl, b, c, u, .ref a, ks, g0, rfl, hB7, hu7, .tup (hx6.kx k67) (rx6.mono k67), hks, by omega, by omega, hbu, hcu, fun z1 H8 t1 g1' rz1 wz1 nz1 hu8 hB8 sb8 => ?_⟩
            have k78 := sb2_kx hB7 hB8 hu7 hu8 sb8
            have hpa8 := sb8 _ _ nbpa.symm nupa.symm (sb7 _ _ nbpa.symm nupa.symm hpa6)
            refine ⟨_, rfl, _, rfl, _, rfl, pa, zs, rfl, .inl ⟨SqL.of hpa8, fun tt ntt => ?_⟩⟩
            have s9 := same_new ntt (.tup zs)
            refine ⟨_, rfl, _, rfl, (by show 6 ≤ sizeLine; decide), fun tr ntr => ?_⟩
            have s10 := same_new ntr (.tup [.str "ask", .int (iu : Nat), .int (jn : Nat), .ref tt, z0, z1])
            have k810 := (kx_same s9).trans (kx_same s10)
            refine q _ _ (.ask iu jn tl t0 t1) g1' (.tup' upd_same (.cons (.at rfl) (.cons (.at rfl) (.cons (.at rfl) (.cons (.tup' (s10 _ _ upd_same) ((((rzs.mono k67).mono k78)).mono k810)) (.cons ((rz0.mono k78).mono k810) (.one (rz1.mono k810)))))))) ?_ ?_ (s10 _ _ (s9 _ _ hu8)) ((hB8.same s9).same s10) ?_
            · show ((match ks[iu]? with
                | some kd => (match (args kd)[jn]? with
                  | some a => wfPs ks (args a) tl
                  | none => false)
                | none => false) && (wfB ks t0 && wfB ks t1)) = true
              have e1 : (args (.tup ts))[jn]? = some (.tup cts) := hca1
              rw [hkd2]
              show ((match (args (.tup ts))[jn]? with
                  | some a => wfPs ks (args a) tl
                  | none => false) && (wfB ks t0 && wfB ks t1)) = true
              rw [e1]
              show (wfPs ks cts tl && (wfB ks t0 && wfB ks t1)) = true
              rw [hwf, wz0, wz1]
              rfl
            · show 1 + (nasksL tl + (nasks t0 + nasks t1)) + g1' ≤ g
              omega
            · exact sb04.trans (sb46.trans (sb7.trans (sb8.trans ((sb2_same s9).trans (sb2_same s10)))))
end
/-! ### _law_program -/
section
variable {P : Program} {w : World} {K : PySem.W.Frag} {mg : Str → Option Value} {base : Heap}
def spProg (K : PySem.W.Frag) : Sp := fun vs H Q _ => ∃ (b c : Addr) (v : V) (d : D) (m : Nat), vs = [.ref b, v, .int m] ∧ BoxAt H b c ∧ Rep K H v d ∧ Kd d ∧ m ≤ 100 ∧
  ∀ (z : V) (H' : Hp) (t : T), Rep K H' z (toD t) → wfP [] d t = true → nasks t ≤ m → BoxAt H' b c → SB b H H' → Q z H'
theorem ok_prog {f g e : Addr} {fd gd ed : FuncData} (D__law_program : Df K mg "_law_program" s__law_program ["box", "kind", "most"] f fd) (D__law_body : Df K mg "_law_body" s__law_body ["box", "kinds", "budget"] g gd) (D__law_draw : Df K mg "_law_draw" s__law_draw ["box", "many"] e ed) (B : Bt mg) :
    FnOk P w K mg base CX0 103 f fd ["box", "kind", "most"] (spProg K) := by
  have G__law_body : FnOk P w K mg base CX0 102 g gd ["box", "kinds", "budget"] (spBody K 101) := ok_body D__law_body D__law_draw B 101
  refine D__law_program.ok c__law_program (fun vs H Q E h => ?_) (fun cdv A outer s H vs Q E hr h => ?_)
  · obtain ⟨b, c, v, d, m, rfl, _⟩ := h
    rfl
  obtain ⟨b, c, v, d, m, rfl, hB, rv, hk, hm, q⟩ := h
  have nd := c__law_program.nd
  refine ⟨_, (pss_one (ps_ret (pe_tup (pa_cons pe_str (pa_cons (pe_callB call_len_seq (by rfl) B.b_len PySem.boot_len (pa_cons (pv 1) pa_nil)) (pa_cons (pe_call G__law_body (hr.mono (by first | decide | omega)) (by rfl) D__law_body.m D__law_body.kp D__law_body.b .nil pass0 (pa_cons (pv 0) (pa_cons (pe_tup (pa_cons (pv 1) pa_nil)) (pa_cons (pe_lst (pa_cons (pv 2) pa_nil)) pa_nil)))) pa_nil)))))), ?_⟩
  obtain ⟨ts, rfl, hts⟩ := isK_inv hk.1
  obtain ⟨a, xs, rfl, hx, rx⟩ := rv.inv
  have lx := rx.length
  refine ⟨_, rfl, a, xs, rfl, .inr hx.sq, _, rfl, _, rfl, (by show 1 ≤ sizeLine; decide), fun t1 n1 => ⟨_, rfl, (by show 1 ≤ sizeLine; decide), fun u nu => ?_⟩⟩
  have s1 := same_new n1 (.tup [.ref a])
  have s2 := same_new nu (.lst [.int (m : Nat)])
  have s12 := s1.trans s2
  obtain ⟨bs, hbs⟩ := (hB.same s1).lst
  obtain ⟨cs, hcs⟩ := (hB.same s1).dst
  refine ⟨b, c, u, .ref t1, [.tup ts], m, rfl, hB.same s12, upd_same, .tup' (s2 _ _ upd_same) (.one (rv.mono (kx_same s12))), (fun k hk' => ?_), by show 1 + m ≤ 200; omega, by omega, ne_of_none hbs nu, ne_of_none hcs nu, fun z H3 t g' rz wz nz hu3 hB3 sb3 => ?_⟩
  · rw [List.mem_singleton.mp hk']
    exact hk
  refine ⟨(by show 3 ≤ sizeLine; decide), fun t2 n2 => ?_⟩
  have s3 := same_new n2 (.tup [.str "program", .int ((xs.length : Nat) : Int), z])
  refine q _ _ (.prog ts.length t) (.tup' upd_same (.cons (.at rfl) (.cons ?_ (.one (rz.mono (kx_same s3)))))) ?_ ?_ (hB3.same s3) ?_
  · rw [lx]
    exact .at rfl
  · show (decide (ts.length = ts.length) && wfB [.tup ts] t) = true
    rw [decide_eq_true rfl, wz]
    rfl
  · show nasks t ≤ m
    omega
  · intro o v2 n e
    exact s3 _ _ (sb3 _ _ n (fun z => by
      subst z
      have := s1 _ _ e
      rw [nu] at this
      cases this) (s12 _ _ e))
end
end Pk

set_option maxRecDepth 100000
set_option maxHeartbeats 4000000
set_option pp.maxSteps 600
namespace Pk
open PySem PySem.Spec PyProof.Rows L2
/-! ### rows of programs -/
abbrev Row := List Stp × Stp
def BEG : Stp := ⟨.ask [], none⟩
def plc (s : List Stp) (c : Nat) : List Nat := match s[c]? with
  | some ⟨.ask p, _⟩ => p
  | _ => []
def asK (s : List Stp) (c k : Nat) : Stp := ⟨.ask (plc s c ++ [k]), some c⟩
mutual
/-- the rows of a body behind the sight s; cs: the calls of the programs around it, the innermost first -/
def rowsB : T → List Stp → List Nat → List Row
  | .say v, s, cs => [(s, ⟨.say v, some (cs.getD 0 0)⟩)]
  | .stop, _, _ => []
  | .ask up k as z o, s, cs => (s, asK s (cs.getD up 0) k) :: (rowsB z (s ++ [asK s (cs.getD up 0) k] ++ [⟨.say 0, some s.length⟩]) cs ++ (rowsB o (s ++ [asK s (cs.getD up 0) k] ++ [⟨.say 1, some s.length⟩]) cs ++
      rowsPs as (plc s (cs.getD up 0) ++ [k]) (s ++ [asK s (cs.getD up 0) k]) s.length cs 0))
  | .prog _ _, _, _ => []
def rowsPs : List T → List Nat → List Stp → Nat → List Nat → Nat → List Row
  | [], _, _, _, _, _ => []
  | .prog _ b :: r, p, l, n, cs, i => rowsB b (l ++ [⟨.ask (p ++ [i]), some n⟩]) ((n + 1) :: cs) ++ rowsPs r p l n cs (i + 1)
  | .say _ :: r, p, l, n, cs, i => rowsPs r p l n cs (i + 1)
  | .stop :: r, p, l, n, cs, i => rowsPs r p l n cs (i + 1)
  | .ask _ _ _ _ _ :: r, p, l, n, cs, i => rowsPs r p l n cs (i + 1)
end
theorem pre_snoc {s t : List Stp} {x : List Stp} (h : s ++ x <+: t) : s <+: t := (List.prefix_append s x).trans h
mutual
theorem rowsB_pre : ∀ (t : T) (s : List Stp) (cs : List Nat), ∀ e ∈ rowsB t s cs, s <+: e.1
  | .say v, s, cs, e, h => by
    rw [List.mem_singleton.mp h]
    exact List.prefix_refl s
  | .stop, s, cs, e, h => by cases h
  | .prog _ _, s, cs, e, h => by cases h
  | .ask up k as z o, s, cs, e, h => by
    rcases List.mem_cons.mp h with h | h
    · rw [h]
      exact List.prefix_refl s
    rcases List.mem_append.mp h with h | h
    · exact pre_snoc (pre_snoc (rowsB_pre z _ _ e h))
    rcases List.mem_append.mp h with h | h
    · exact pre_snoc (pre_snoc (rowsB_pre o _ _ e h))
    · obtain ⟨j, _, _, h⟩ := rowsPs_pre as _ _ _ _ _ e h
      exact pre_snoc (pre_snoc h)
theorem rowsPs_pre : ∀ (ts : List T) (p : List Nat) (l : List Stp) (n : Nat) (cs : List Nat) (i : Nat), ∀ e ∈ rowsPs ts p l n cs i, ∃ j, i ≤ j ∧ j < i + ts.length ∧ l ++ [⟨.ask (p ++ [j]), some n⟩] <+: e.1
  | [], _, _, _, _, _, _, h => by cases h
  | .prog _ b :: r, p, l, n, cs, i, e, h => by
    rw [List.length_cons]
    rcases List.mem_append.mp h with h | h
    · exact ⟨i, Nat.le_refl _, by omega, rowsB_pre b _ _ e h⟩
    · obtain ⟨j, h1, h3, h2⟩ := rowsPs_pre r p l n cs (i + 1) e h
      exact ⟨j, by omega, by omega, h2⟩
  | .say _ :: r, p, l, n, cs, i, e, h => by
    rw [List.length_cons]
    obtain ⟨j, h1, h3, h2⟩ := rowsPs_pre r p l n cs (i + 1) e h
    exact ⟨j, by omega, by omega, h2⟩
  | .stop :: r, p, l, n, cs, i, e, h => by
    rw [List.length_cons]
    obtain ⟨j, h1, h3, h2⟩ := rowsPs_pre r p l n cs (i + 1) e h
    exact ⟨j, by omega, by omega, h2⟩
  | .ask _ _ _ _ _ :: r, p, l, n, cs, i, e, h => by
    rw [List.length_cons]
    obtain ⟨j, h1, h3, h2⟩ := rowsPs_pre r p l n cs (i + 1) e h
    exact ⟨j, by omega, by omega, h2⟩
end
/-- two that go on in different ways from one have nothing behind them in common -/
theorem pre_two {l t : List Stp} {a b : Stp} (h1 : l ++ [a] <+: t) (h2 : l ++ [b] <+: t) : a = b := by
  obtain ⟨x, rfl⟩ := h1
  obtain ⟨y, hy⟩ := h2
  rw [List.append_assoc, List.append_assoc] at hy
  have := List.append_cancel_left hy
  injection this with h _
  exact h.symm
theorem pre_long {l t : List Stp} {a : Stp} (h1 : l ++ [a] <+: t) : t ≠ l := fun e => by
  subst e
  have := h1.length_le
  rw [List.length_append, List.length_singleton] at this
  omega
abbrev keysR (rows : List Row) : List (List Stp) := rows.map Prod.fst
theorem mem_keys {rows : List Row} {s : List Stp} (h : s ∈ keysR rows) : ∃ e ∈ rows, e.1 = s := List.mem_map.mp h
mutual
theorem rowsB_nodup : ∀ (t : T) (s : List Stp) (cs : List Nat), (keysR (rowsB t s cs)).Nodup
  | .say v, s, cs => by
    show [s].Nodup
    exact List.pairwise_singleton _ _
  | .stop, s, cs => List.Pairwise.nil
  | .prog _ _, s, cs => List.Pairwise.nil
  | .ask up k as z o, s, cs => by
    show (s :: keysR (_ ++ (_ ++ _))).Nodup
    unfold keysR
    rw [List.map_append, List.map_append]
    refine List.nodup_cons.mpr ⟨fun h => ?_, List.nodup_append.mpr ⟨rowsB_nodup z _ _, List.nodup_append.mpr ⟨rowsB_nodup o _ _, rowsPs_nodup as _ _ _ _ _, fun a ha b hb e => ?_⟩, fun a ha b hb e => ?_⟩⟩
    · rcases List.mem_append.mp h with h | h
      · obtain ⟨e, he, h⟩ := mem_keys h
        exact pre_long (l := s) (a := _) (pre_snoc (rowsB_pre z _ _ e he)) h
      rcases List.mem_append.mp h with h | h
      · obtain ⟨e, he, h⟩ := mem_keys h
        exact pre_long (l := s) (a := _) (pre_snoc (rowsB_pre o _ _ e he)) h
      · obtain ⟨e, he, h⟩ := mem_keys h
        obtain ⟨j, _, _, q⟩ := rowsPs_pre as _ _ _ _ _ e he
        exact pre_long (l := s) (a := _) (pre_snoc q) h
    · subst e
      obtain ⟨e1, h1, rfl⟩ := mem_keys ha
      obtain ⟨e2, h2, q⟩ := mem_keys hb
      obtain ⟨j, _, _, p2⟩ := rowsPs_pre as _ _ _ _ _ e2 h2
      rw [q] at p2
      have := pre_two (rowsB_pre o _ _ e1 h1) p2
      injection this with this _
      cases this
    · subst e
      obtain ⟨e1, h1, rfl⟩ := mem_keys ha
      rcases List.mem_append.mp hb with hb | hb
      · obtain ⟨e2, h2, q⟩ := mem_keys hb
        have p2 := rowsB_pre o _ _ e2 h2
        rw [q] at p2
        have := pre_two (rowsB_pre z _ _ e1 h1) p2
        injection this with this _
        injection this with this
        cases this
      · obtain ⟨e2, h2, q⟩ := mem_keys hb
        obtain ⟨j, _, _, p2⟩ := rowsPs_pre as _ _ _ _ _ e2 h2
        rw [q] at p2
        have := pre_two (rowsB_pre z _ _ e1 h1) p2
        injection this with this _
        cases this
theorem rowsPs_nodup : ∀ (ts : List T) (p : List Nat) (l : List Stp) (n : Nat) (cs : List Nat) (i : Nat), (keysR (rowsPs ts p l n cs i)).Nodup
  | [], _, _, _, _, _ => List.Pairwise.nil
  | .prog _ b :: r, p, l, n, cs, i => by
    show (keysR (_ ++ _)).Nodup
    unfold keysR
    rw [List.map_append]
    refine List.nodup_append.mpr ⟨rowsB_nodup b _ _, rowsPs_nodup r p l n cs (i + 1), fun a ha b2 hb e => ?_⟩
    subst e
    obtain ⟨e1, h1, rfl⟩ := mem_keys ha
    obtain ⟨e2, h2, q⟩ := mem_keys hb
    obtain ⟨j, hj, _, p2⟩ := rowsPs_pre r _ _ _ _ _ e2 h2
    rw [q] at p2
    have := pre_two (rowsB_pre b _ _ e1 h1) p2
    injection this with this _
    injection this with this
    have := List.append_cancel_left this
    injection this with this _
    omega
  | .say _ :: r, p, l, n, cs, i => rowsPs_nodup r p l n cs (i + 1)
  | .stop :: r, p, l, n, cs, i => rowsPs_nodup r p l n cs (i + 1)
  | .ask _ _ _ _ _ :: r, p, l, n, cs, i => rowsPs_nodup r p l n cs (i + 1)
end
/-! ### sights: the beginning, then steps with a back; places no longer than the steps before -/
structure OkS (s : List Stp) : Prop where
  beg : s[0]? = some BEG
  bk : ∀ (i : Nat) (x : Stp), 0 < i → s[i]? = some x → x.back ≠ none
  pl : ∀ (i : Nat) (p : List Nat) (b : Option Nat), s[i]? = some ⟨.ask p, b⟩ → p.length ≤ i
theorem OkS.snoc {s : List Stp} (h : OkS s) {x : Stp} (hb : x.back ≠ none) (hp : ∀ p, x.mv = .ask p → p.length ≤ s.length) : OkS (s ++ [x]) := by
  have h0 : 0 < s.length := (List.getElem?_eq_some_iff.mp h.beg).1
  refine ⟨by rw [List.getElem?_append_left h0]; exact h.beg, fun i y hi hy => ?_, fun i p b hy => ?_⟩
  · by_cases hl : i < s.length
    · rw [List.getElem?_append_left hl] at hy
      exact h.bk i y hi hy
    · rw [List.getElem?_append_right (by omega)] at hy
      by_cases e : i - s.length = 0
      · rw [e] at hy
        cases hy
        exact hb
      · rw [List.getElem?_eq_none (by rw [List.length_singleton]; omega)] at hy
        cases hy
  · by_cases hl : i < s.length
    · rw [List.getElem?_append_left hl] at hy
      exact h.pl i p b hy
    · rw [List.getElem?_append_right (by omega)] at hy
      by_cases e : i - s.length = 0
      · rw [e] at hy
        cases hy
        have := hp p rfl
        omega
      · rw [List.getElem?_eq_none (by rw [List.length_singleton]; omega)] at hy
        cases hy
theorem OkS.one : OkS [BEG] := by
  refine ⟨rfl, fun i x hi h => ?_, fun i p b h => ?_⟩
  · rw [List.getElem?_eq_none (by rw [List.length_singleton]; omega)] at h
    cases h
  · by_cases hi : i = 0
    · subst hi
      cases h
      exact Nat.le_refl _
    · rw [List.getElem?_eq_none (by rw [List.length_singleton]; omega)] at h
      cases h
/-- the calls lie in the sight, and are asks -/
def OkC (s : List Stp) (cs : List Nat) : Prop := ∀ c ∈ cs, ∃ p b, s[c]? = some ⟨.ask p, b⟩
theorem OkC.lt {s : List Stp} {cs : List Nat} (h : OkC s cs) {c : Nat} (m : c ∈ cs) : c < s.length := let ⟨_, _, e⟩ := h c m; (List.getElem?_eq_some_iff.mp e).1
theorem OkC.snoc {s : List Stp} {cs : List Nat} (h : OkC s cs) (x : Stp) : OkC (s ++ [x]) cs := fun c m => by
  obtain ⟨p, b, e⟩ := h c m
  exact ⟨p, b, by rw [List.getElem?_append_left (h.lt m)]; exact e⟩
theorem plc_at {s : List Stp} {c : Nat} {p : List Nat} {b : Option Nat} (h : s[c]? = some ⟨.ask p, b⟩) : plc s c = p := by
  unfold plc
  rw [h]
theorem OkS.plc {s : List Stp} (h : OkS s) (c : Nat) : (plc s c).length ≤ c := by
  unfold Pk.plc
  split
  · next p b e => exact h.pl c p b e
  · exact Nat.zero_le _
theorem mem_getD {cs : List Nat} {i : Nat} (h : i < cs.length) : cs.getD i 0 ∈ cs := by
  have e : cs.getD i 0 = cs[i] := by
    rw [List.getD_eq_getElem?_getD, List.getElem?_eq_getElem h]
    rfl
  rw [e]
  exact List.getElem_mem h
/-- a sight that a body goes on from -/
theorem OkS.asked {s : List Stp} {cs : List Nat} (h : OkS s) (hc : OkC s cs) {up : Nat} (hu : up < cs.length) (k : Nat) : OkS (s ++ [asK s (cs.getD up 0) k]) := by
  refine h.snoc (fun z => nomatch z) fun p e => ?_
  have e' : Mv.ask (Pk.plc s (cs.getD up 0) ++ [k]) = .ask p := e
  injection e' with e'
  have h1 := h.plc (cs.getD up 0)
  have h2 := hc.lt (mem_getD hu)
  rw [← e', List.length_append, List.length_singleton]
  omega
theorem OkS.say {s : List Stp} (h : OkS s) (v n : Nat) : OkS (s ++ [⟨.say v, some n⟩]) := h.snoc (fun z => nomatch z) fun p e => nomatch e
theorem OkS.arg {s : List Stp} (h : OkS s) {p : List Nat} {n i : Nat} (hp : p.length < s.length) : OkS (s ++ [⟨.ask (p ++ [i]), some n⟩]) := by
  refine h.snoc (fun z => nomatch z) fun q e => ?_
  have e' : Mv.ask (p ++ [i]) = .ask q := e
  injection e' with e'
  rw [← e', List.length_append, List.length_singleton]
  omega
theorem OkC.more {s : List Stp} {cs : List Nat} (h : OkC s cs) (x : Stp) (p : List Nat) (b : Option Nat) : OkC (s ++ [x] ++ [⟨.ask p, b⟩]) ((s.length + 1) :: cs) := fun c m => by
  rcases List.mem_cons.mp m with rfl | m
  · refine ⟨p, b, ?_⟩
    rw [List.getElem?_append_right (by rw [List.length_append, List.length_singleton]; exact Nat.le_refl _), List.length_append, List.length_singleton, Nat.sub_self]
    rfl
  · exact ((h.snoc x).snoc _) c m
theorem wfP_inv {ks : List D} {kd : D} {t : T} (h : wfP ks kd t = true) : ∃ m b, t = .prog m b ∧ m = (args kd).length ∧ wfB (kd :: ks) b = true := by
  cases t with
  | prog m b =>
    have k := Bool.and_eq_true_iff.mp (show (decide (m = (args kd).length) && wfB (kd :: ks) b) = true from h)
    exact ⟨m, b, rfl, of_decide_eq_true k.1, k.2⟩
  | _ => cases h
theorem wfB_ask {ks : List D} {up k : Nat} {as : List T} {z o : T} (h : wfB ks (.ask up k as z o) = true) : ∃ kd a, ks[up]? = some kd ∧ (args kd)[k]? = some a ∧ wfPs ks (args a) as = true ∧ wfB ks z = true ∧ wfB ks o = true := by
  have h1 := Bool.and_eq_true_iff.mp (show ((match ks[up]? with
    | some kd => (match (args kd)[k]? with
      | some a => wfPs ks (args a) as
      | none => false)
    | none => false) && (wfB ks z && wfB ks o)) = true from h)
  obtain ⟨h1, h2⟩ := h1
  have h2 := Bool.and_eq_true_iff.mp h2
  cases e1 : ks[up]? with
  | none =>
    rw [e1] at h1
    cases h1
  | some kd =>
    rw [e1] at h1
    dsimp only at h1
    cases e2 : (args kd)[k]? with
    | none =>
      rw [e2] at h1
      cases h1
    | some a =>
      rw [e2] at h1
      exact ⟨kd, a, rfl, e2, h1, h2.1, h2.2⟩
theorem wfPs_cons {ks ds : List D} {t : T} {ts : List T} (h : wfPs ks ds (t :: ts) = true) : ∃ d ds', ds = d :: ds' ∧ wfP ks d t = true ∧ wfPs ks ds' ts = true := by
  cases ds with
  | nil => cases h
  | cons d ds' =>
    have k := Bool.and_eq_true_iff.mp (show (wfP ks d t && wfPs ks ds' ts) = true from h)
    exact ⟨d, ds', rfl, k.1, k.2⟩
mutual
theorem rowsB_ok : ∀ (t : T) (ks : List D) (s : List Stp) (cs : List Nat), wfB ks t = true → cs.length = ks.length → OkS s → OkC s cs → ∀ e ∈ rowsB t s cs, OkS e.1 ∧ e.2.back ≠ none ∧ (∀ p, e.2.mv = .ask p → p.length ≤ e.1.length)
  | .say v, ks, s, cs, _, _, hs, _, e, h => by
    rw [List.mem_singleton.mp h]
    exact ⟨hs, fun z => (nomatch z), fun p z => (nomatch z)⟩
  | .stop, _, _, _, _, _, _, _, e, h => by cases h
  | .prog _ _, _, _, _, _, _, _, _, e, h => by cases h
  | .ask up k as z o, ks, s, cs, hw, hl, hs, hc, e, h => by
    obtain ⟨kd, a, e1, e2, w1, w2, w3⟩ := wfB_ask hw
    have hu : up < cs.length := by
      have := (List.getElem?_eq_some_iff.mp e1).1
      omega
    have hA := hs.asked hc hu k
    have cA := hc.snoc (asK s (cs.getD up 0) k)
    rcases List.mem_cons.mp h with h | h
    · rw [h]
      refine ⟨hs, fun z => (nomatch z), fun p e => ?_⟩
      have e' : Mv.ask (plc s (cs.getD up 0) ++ [k]) = .ask p := e
      injection e' with e'
      have h1 := hs.plc (cs.getD up 0)
      have h2 := hc.lt (mem_getD hu)
      rw [← e', List.length_append, List.length_singleton]
      show _ ≤ s.length
      omega
    rcases List.mem_append.mp h with h | h
    · exact rowsB_ok z ks _ cs w2 hl (hA.say 0 _) (cA.snoc _) e h
    rcases List.mem_append.mp h with h | h
    · exact rowsB_ok o ks _ cs w3 hl (hA.say 1 _) (cA.snoc _) e h
    · refine rowsPs_ok as ks (args a) (plc s (cs.getD up 0) ++ [k]) s (asK s (cs.getD up 0) k) cs 0 w1 hl hA hc ?_ e h
      have h1 := hs.plc (cs.getD up 0)
      have h2 := hc.lt (mem_getD hu)
      rw [List.length_append, List.length_singleton]
      omega
theorem rowsPs_ok : ∀ (ts : List T) (ks ds : List D) (p : List Nat) (s : List Stp) (x : Stp) (cs : List Nat) (i : Nat), wfPs ks ds ts = true → cs.length = ks.length → OkS (s ++ [x]) → OkC s cs → p.length ≤ s.length →
    ∀ e ∈ rowsPs ts p (s ++ [x]) s.length cs i, OkS e.1 ∧ e.2.back ≠ none ∧ (∀ p, e.2.mv = .ask p → p.length ≤ e.1.length)
  | [], _, _, _, _, _, _, _, _, _, _, _, _, e, h => by cases h
  | t :: ts, ks, ds, p, s, x, cs, i, hw, hl, hs, hc, hp, e, h => by
    obtain ⟨d, ds', rfl, w1, w2⟩ := wfPs_cons hw
    obtain ⟨m, b, rfl, _, w3⟩ := wfP_inv w1
    rcases List.mem_append.mp h with h | h
    · refine rowsB_ok b (d :: ks) _ _ w3 (by rw [List.length_cons, List.length_cons, hl]) (hs.arg (by rw [List.length_append, List.length_singleton]; omega)) ?_ e h
      exact hc.more x (p ++ [i]) (some s.length)
    · exact rowsPs_ok ts ks ds' p s x cs (i + 1) w2 hl hs hc hp e h
end
/-! ### how many -/
mutual
def szT : T → Nat
  | .say _ => 1
  | .stop => 1
  | .ask _ _ as z o => 1 + (szT z + (szT o + szTs as))
  | .prog _ b => szT b
def szTs : List T → Nat
  | [] => 0
  | t :: r => szT t + szTs r
end
mutual
theorem rowsB_len : ∀ (t : T) (s : List Stp) (cs : List Nat), (rowsB t s cs).length ≤ szT t
  | .say v, s, cs => Nat.le_refl 1
  | .stop, s, cs => Nat.zero_le _
  | .prog _ _, s, cs => Nat.zero_le _
  | .ask up k as z o, s, cs => by
    rw [rowsB, List.length_cons, List.length_append, List.length_append]
    have h1 := rowsB_len z (s ++ [asK s (cs.getD up 0) k] ++ [⟨.say 0, some s.length⟩]) cs
    have h2 := rowsB_len o (s ++ [asK s (cs.getD up 0) k] ++ [⟨.say 1, some s.length⟩]) cs
    have h3 := rowsPs_len as (plc s (cs.getD up 0) ++ [k]) (s ++ [asK s (cs.getD up 0) k]) s.length cs 0
    show _ ≤ 1 + (szT z + (szT o + szTs as))
    omega
theorem rowsPs_len : ∀ (ts : List T) (p : List Nat) (l : List Stp) (n : Nat) (cs : List Nat) (i : Nat), (rowsPs ts p l n cs i).length ≤ szTs ts
  | [], _, _, _, _, _ => Nat.le_refl _
  | .prog _ b :: r, p, l, n, cs, i => by
    rw [rowsPs, List.length_append]
    show _ ≤ szT b + szTs r
    have h1 := rowsB_len b (l ++ [⟨.ask (p ++ [i]), some n⟩]) ((n + 1) :: cs)
    have h2 := rowsPs_len r p l n cs (i + 1)
    omega
  | .say _ :: r, p, l, n, cs, i => by
    have h2 := rowsPs_len r p l n cs (i + 1)
    show _ ≤ 1 + szTs r
    exact Nat.le_trans h2 (by omega)
  | .stop :: r, p, l, n, cs, i => by
    have h2 := rowsPs_len r p l n cs (i + 1)
    show _ ≤ 1 + szTs r
    exact Nat.le_trans h2 (by omega)
  | .ask _ _ _ _ _ :: r, p, l, n, cs, i => by
    have h2 := rowsPs_len r p l n cs (i + 1)
    show _ ≤ _ + szTs r
    exact Nat.le_trans h2 (by omega)
end
/-- all kinds have at most M places -/
def KM (M : Nat) (ks : List D) : Prop := ∀ k ∈ ks, isK k = true ∧ sz k ≤ M
theorem KM.sub {M : Nat} {kd a : D} {k : Nat} (h : isK kd = true ∧ sz kd ≤ M) (e : (args kd)[k]? = some a) : isK a = true ∧ sz a ≤ M := by
  obtain ⟨ts, rfl, hks⟩ := isK_inv h.1
  have m : a ∈ ts := List.mem_of_getElem? e
  have := sz_mem m
  have h2 : szs ts + 1 ≤ M := h.2
  exact ⟨isK_mem hks m, by omega⟩
theorem KM.len {M : Nat} {a : D} (h : isK a = true ∧ sz a ≤ M) : (args a).length + 1 ≤ M := by
  obtain ⟨ts, rfl, hks⟩ := isK_inv h.1
  have := len_szs ts
  have h2 : szs ts + 1 ≤ M := h.2
  show ts.length + 1 ≤ M
  omega
mutual
theorem szT_le (M : Nat) : ∀ (t : T) (ks : List D), wfB ks t = true → KM M ks → szT t ≤ 1 + (M + 2) * nasks t
  | .say _, ks, _, _ => by show 1 ≤ 1 + _; omega
  | .stop, ks, _, _ => by show 1 ≤ 1 + _; omega
  | .prog _ _, ks, h, _ => by cases h
  | .ask up k as z o, ks, hw, hk => by
    obtain ⟨kd, a, e1, e2, w1, w2, w3⟩ := wfB_ask hw
    have ha := KM.sub (hk kd (List.mem_of_getElem? e1)) e2
    have h1 := szT_le M z ks w2 hk
    have h2 := szT_le M o ks w3 hk
    have h3 := szTs_le M as ks (args a) w1 hk (fun d hd => by
      obtain ⟨j, hj⟩ := List.mem_iff_getElem?.mp hd
      exact KM.sub ha hj)
    have h4 := KM.len ha
    show 1 + (szT z + (szT o + szTs as)) ≤ 1 + (M + 2) * (1 + (nasksL as + (nasks z + nasks o)))
    rw [Nat.mul_add, Nat.mul_add, Nat.mul_add, Nat.mul_one]
    omega
theorem szTs_le (M : Nat) : ∀ (ts : List T) (ks ds : List D), wfPs ks ds ts = true → KM M ks → KM M ds → szTs ts ≤ ds.length + (M + 2) * nasksL ts
  | [], ks, ds, _, _, _ => Nat.zero_le _
  | t :: ts, ks, ds, hw, hk, hd => by
    obtain ⟨d, ds', rfl, w1, w2⟩ := wfPs_cons hw
    obtain ⟨m, b, rfl, _, w3⟩ := wfP_inv w1
    have h1 := szT_le M b (d :: ks) w3 (fun k hm => by
      rcases List.mem_cons.mp hm with rfl | hm
      · exact hd _ (List.mem_cons_self ..)
      · exact hk k hm)
    have h2 := szTs_le M ts ks ds' w2 hk (fun k hm => hd k (List.mem_cons_of_mem _ hm))
    show szT b + szTs ts ≤ (ds'.length + 1) + (M + 2) * (nasks b + nasksL ts)
    rw [Nat.mul_add]
    omega
end
/-! ### sights and rows as data, in order -/
def rowD (r : Row) : D := .tup [playD r.1, stD r.2]
theorem noLd_st (x : Stp) : noLd (stD x) = true := by
  obtain ⟨m, k⟩ := x
  have h1 : noLd (bkD k) = true := by cases k <;> rfl
  have h2 : noLd (mvD m) = true := by
    cases m with
    | say v => rfl
    | ask p =>
      show (true && (noLds (p.map numD') && true)) = true
      rw [noLd_nums]
      rfl
  show (noLd (mvD m) && (noLd (bkD k) && true)) = true
  rw [h1, h2]
  rfl
theorem noLds_sts : ∀ s : List Stp, noLds (s.map stD) = true
  | [] => rfl
  | x :: r => by
    show (noLd (stD x) && noLds (r.map stD)) = true
    rw [noLd_st, noLds_sts r]
    rfl
theorem noLd_row (r : Row) : noLd (rowD r) = true := by
  show (noLds (r.1.map stD) && (noLd (stD r.2) && true)) = true
  rw [noLds_sts, noLd_st]
  rfl
theorem noLd_play (s : List Stp) : noLd (playD s) = true := noLds_sts s
theorem dep_st (x : Stp) : dep (stD x) ≤ 3 := by
  obtain ⟨m, k⟩ := x
  have hk : dep (bkD k) = 0 := by cases k <;> rfl
  have hm : dep (mvD m) ≤ 2 := by
    cases m with
    | say v =>
      show max (0 + 1) (max (0 + 1) 0) ≤ 2
      omega
    | ask p =>
      have := deps_nums p
      show max (0 + 1) (max (deps (p.map numD') + 1) 0) ≤ 2
      omega
  show max (dep (mvD m) + 1) (max (dep (bkD k) + 1) 0) ≤ 3
  omega
theorem deps_sts : ∀ s : List Stp, deps (s.map stD) ≤ 4
  | [] => Nat.zero_le _
  | x :: r => by
    have h1 := dep_st x
    have h2 := deps_sts r
    show max (dep (stD x) + 1) (deps (r.map stD)) ≤ 4
    omega
theorem dep_play (s : List Stp) : dep (playD s) ≤ 4 := deps_sts s
theorem dep_row (r : Row) : dep (rowD r) ≤ 5 := by
  have h1 := dep_play r.1
  have h2 := dep_st r.2
  show max (dep (playD r.1) + 1) (max (dep (stD r.2) + 1) 0) ≤ 5
  omega
theorem mv_inj {m n : Mv} (h : toPy (mvD m) = toPy (mvD n)) : m = n := by
  cases m with
  | say v =>
    cases n with
    | say u =>
      injection h with h
      injection h with _ h
      injection h with h _
      injection h with h
      rw [show v = u by omega]
    | ask q =>
      injection h with h
      injection h with _ h
      injection h with h _
      cases h
  | ask p =>
    cases n with
    | say u =>
      injection h with h
      injection h with _ h
      injection h with h _
      cases h
    | ask q =>
      injection h with h
      injection h with _ h
      injection h with h _
      injection h with h
      rw [toPys_inj p q h]
theorem st_inj {x y : Stp} (h : toPy (stD x) = toPy (stD y)) : x = y := by
  obtain ⟨m, k⟩ := x
  obtain ⟨n, l⟩ := y
  injection h with h
  injection h with h1 h
  injection h with h2 _
  have h1' : toPy (mvD m) = toPy (mvD n) := h1
  have h2' : toPy (bkD k) = toPy (bkD l) := h2
  clear h1 h2
  rw [mv_inj h1']
  cases k with
  | none =>
    cases l with
    | none => rfl
    | some j => cases h2'
  | some i =>
    cases l with
    | none => cases h2'
    | some j =>
      injection h2' with h2'
      rw [show i = j by omega]
theorem sts_inj : ∀ {s t : List Stp}, toPys (s.map stD) = toPys (t.map stD) → s = t
  | [], [], _ => rfl
  | [], _ :: _, h => by cases h
  | _ :: _, [], h => by cases h
  | x :: r, y :: t, h => by
    injection h with h1 h2
    rw [st_inj h1, sts_inj h2]
theorem play_inj {s t : List Stp} (h : toPy (playD s) = toPy (playD t)) : s = t := by
  injection h with h
  exact sts_inj h
theorem row_inj {r t : Row} (h : toPy (rowD r) = toPy (rowD t)) : r = t := by
  injection h with h
  injection h with h1 h
  injection h with h2 _
  exact Prod.ext (play_inj h1) (st_inj h2)
theorem cpb_st {x y : Stp} (hx : x.back ≠ none) (hy : y.back ≠ none) : cpb (toPy (stD x)) (toPy (stD y)) = true := (encS.cmp x y hx hy).1
theorem cpb_beg : cpb (toPy (stD BEG)) (toPy (stD BEG)) = true := by decide +kernel
theorem cpbs_sts : ∀ (s t : List Stp), (∀ x ∈ s, x.back ≠ none) → (∀ x ∈ t, x.back ≠ none) → cpbs (toPys (s.map stD)) (toPys (t.map stD)) = true
  | [], _, _, _ => by simp [toPys, cpbs]
  | _ :: _, [], _, _ => by simp [toPys, cpbs]
  | x :: r, y :: t, h1, h2 => by
    show (cpb (toPy (stD x)) (toPy (stD y)) && (_ || cpbs (toPys (r.map stD)) (toPys (t.map stD)))) = true
    rw [cpb_st (h1 x (List.mem_cons_self ..)) (h2 y (List.mem_cons_self ..)), cpbs_sts r t (fun z hz => h1 z (List.mem_cons_of_mem _ hz)) (fun z hz => h2 z (List.mem_cons_of_mem _ hz)), Bool.or_true]
    rfl
theorem OkS.inv {s : List Stp} (h : OkS s) : ∃ r, s = BEG :: r ∧ ∀ x ∈ r, x.back ≠ none := by
  cases s with
  | nil => cases h.beg
  | cons x r =>
    have e : x = BEG := Option.some.inj h.beg
    subst e
    refine ⟨r, rfl, fun x hx => ?_⟩
    obtain ⟨j, hj⟩ := List.mem_iff_getElem?.mp hx
    exact h.bk (j + 1) x (Nat.succ_pos j) hj
theorem cpb_play {s t : List Stp} (hs : OkS s) (ht : OkS t) : cpb (toPy (playD s)) (toPy (playD t)) = true := by
  obtain ⟨r, rfl, h1⟩ := hs.inv
  obtain ⟨u, rfl, h2⟩ := ht.inv
  show cpbs (toPy (stD BEG) :: toPys (r.map stD)) (toPy (stD BEG) :: toPys (u.map stD)) = true
  rw [cpbs, cpb_beg, cpbs_sts r u h1 h2, Bool.or_true]
  rfl
def OkR (r : Row) : Prop := OkS r.1 ∧ r.2.back ≠ none
theorem cpb_row {r t : Row} (hr : OkR r) (ht : OkR t) : cpb (toPy (rowD r)) (toPy (rowD t)) = true := by
  show cpbs [toPy (playD r.1), toPy (stD r.2)] [toPy (playD t.1), toPy (stD t.2)] = true
  rw [cpbs, cpbs, cpb_play hr.1 ht.1, cpb_st hr.2 ht.2]
  simp [cpbs]
theorem encP : Enc playD (fun s => tkD (playD s)) OkS := encU (fun s _ => noLds_sts s) (fun s _ => Nat.le_trans (dep_play s) (by decide)) (fun s hs => by
  obtain ⟨r, rfl, _⟩ := hs.inv
  exact ⟨_, _, rfl⟩) fun s t hs ht => cpb_play hs ht
theorem encR : Enc rowD (fun r => tkD (rowD r)) OkR := encU (fun r _ => noLd_row r) (fun r _ => Nat.le_trans (dep_row r) (by decide)) (fun r _ => ⟨_, _, rfl⟩) fun r t hr ht => cpb_row hr ht
/-! ### sorted in one way -/
theorem sort_one {β : Type} {tok tok' : β → List (Int ⊕ List Nat)} {l l' : List β} (hp : l.Perm l') (hle : ∀ a ∈ l, ∀ b ∈ l, LX (tok a) (tok b) = LX (tok' a) (tok' b)) (hi : ∀ a ∈ l, ∀ b ∈ l, tok' a = tok' b → a = b) : sortE tok l = sortE tok' l' := by
  have T := PySem.W.sortLe_total (listOrd itemOrd) false tok
  have T' := PySem.W.sortLe_total (listOrd itemOrd) false tok'
  have tot : ∀ a b : β, (PySem.W.sortLe (listOrd itemOrd) false tok a b || PySem.W.sortLe (listOrd itemOrd) false tok b a) = true := fun a b => by
    rw [Bool.or_eq_true]
    exact T.total a b
  have tot' : ∀ a b : β, (PySem.W.sortLe (listOrd itemOrd) false tok' a b || PySem.W.sortLe (listOrd itemOrd) false tok' b a) = true := fun a b => by
    rw [Bool.or_eq_true]
    exact T'.total a b
  have p1 := List.pairwise_mergeSort T.trans tot l
  have p2 := List.pairwise_mergeSort T'.trans tot' l'
  have m1 : ∀ a, a ∈ sortE tok l → a ∈ l := fun a h => (sortE_perm tok l).mem_iff.mp h
  have m2 : ∀ a, a ∈ sortE tok' l' → a ∈ l := fun a h => hp.mem_iff.mpr ((sortE_perm tok' l').mem_iff.mp h)
  have p1' : (sortE tok l).Pairwise (fun a b => PySem.W.sortLe (listOrd itemOrd) false tok' a b = true) := by
    refine List.Pairwise.imp_of_mem (fun {a b} ha hb h => ?_) p1
    have h' : (!LX (tok b) (tok a)) = true := h
    show (!LX (tok' b) (tok' a)) = true
    rw [← hle b (m1 b hb) a (m1 a ha)]
    exact h'
  refine List.Perm.eq_of_pairwise (le := fun a b => PySem.W.sortLe (listOrd itemOrd) false tok' a b = true) (fun a b ha hb h1 h2 => ?_) p1' p2 ((sortE_perm tok l).trans (hp.trans (sortE_perm tok' l').symm))
  refine hi a (m1 a ha) b (m2 b hb) ((listOrd itemOrd).total _ _ ?_ ?_)
  · have h2' : (!LX (tok' a) (tok' b)) = true := h2
    rw [Bool.not_eq_true'] at h2'
    exact h2'
  · have h1' : (!LX (tok' b) (tok' a)) = true := h1
    rw [Bool.not_eq_true'] at h1'
    exact h1'
theorem LX_diff {d e : D} (h1 : noLd d = true) (h2 : noLd e = true) (hc : cpb (toPy d) (toPy e) = true) (hn : PyData.eqv (toPy d) (toPy e) = false) (x y : List (Int ⊕ List Nat)) : LX (tkD d ++ x) (tkD e ++ y) = LX (tkD d) (tkD e) := by
  have z := tk_lex d e h1 h2 hc [] []
  rw [List.append_nil, List.append_nil] at z
  rw [z, tk_lex d e h1 h2 hc x y, hn, if_neg Bool.false_ne_true, if_neg Bool.false_ne_true]
theorem LX_same {d e : D} (h1 : noLd d = true) (h2 : noLd e = true) (hc : cpb (toPy d) (toPy e) = true) (hn : PyData.eqv (toPy d) (toPy e) = true) (x y : List (Int ⊕ List Nat)) : LX (tkD d ++ x) (tkD e ++ y) = LX x y := by
  rw [tk_lex d e h1 h2 hc x y, hn, if_pos rfl]
mutual
theorem eqv_toPy : ∀ d e : D, noLd d = true → noLd e = true → PyData.eqv (toPy d) (toPy e) = true → cpb (toPy d) (toPy e) = true → toPy d = toPy e
  | .lst, _, h, _, _, _ => by cases h
  | _, .lst, _, h, _, _ => by cases h
  | .at v, .at u, g1, g2, h, hc => by
    clear g1 g2
    cases v <;> cases u <;> first
      | rfl
      | (cases hc; done)
      | (rename_i a b
         have e : a = b := by first
          | (cases a <;> cases b <;> simp_all [toPy, PyData.eqv]; done)
          | (simpa [toPy, PyData.eqv] using h)
         rw [e])
  | .at v, .tup _, _, _, _, hc => by cases v <;> cases hc
  | .tup _, .at v, _, _, _, hc => by cases v <;> cases hc
  | .tup ts, .tup us, h1, h2, h, hc => by
    show PyData.tuple (toPys ts) = .tuple (toPys us)
    rw [eqvs_toPy ts us h1 h2 (by simpa [toPy, PyData.eqv] using h) hc]
theorem eqvs_toPy : ∀ d e : List D, noLds d = true → noLds e = true → PyData.eqvAll (toPys d) (toPys e) = true → cpbs (toPys d) (toPys e) = true → toPys d = toPys e
  | [], [], _, _, _, _ => rfl
  | [], _ :: _, _, _, h, _ => by simp [toPys, PyData.eqvAll] at h
  | _ :: _, [], _, _, h, _ => by simp [toPys, PyData.eqvAll] at h
  | a :: as, b :: bs, h1, h2, h, hc => by
    have k1 := Bool.and_eq_true_iff.mp h1
    have k2 := Bool.and_eq_true_iff.mp h2
    have h' : (PyData.eqv (toPy a) (toPy b) && PyData.eqvAll (toPys as) (toPys bs)) = true := by simpa [toPys, PyData.eqvAll] using h
    have h3 := Bool.and_eq_true_iff.mp h'
    obtain ⟨c1, c2⟩ := cpbs_cons (x := toPy a) (y := toPy b) (xs := toPys as) (ys := toPys bs) hc
    show toPy a :: toPys as = toPy b :: toPys bs
    rw [eqv_toPy a b k1.1 k2.1 h3.1 c1, eqvs_toPy as bs k1.2 k2.2 h3.2 (c2 h3.1)]
end
theorem tkD_eqv {d e : D} (h1 : noLd d = true) (h2 : noLd e = true) (hc : cpb (toPy d) (toPy e) = true) (he : cpb (toPy e) (toPy e) = true) (h : tkD d = tkD e) : toPy d = toPy e := by
  cases q : PyData.eqv (toPy d) (toPy e) with
  | true => exact eqv_toPy d e h1 h2 q hc
  | false =>
    have z1 := tk_lex d e h1 h2 hc [] [.inl 0]
    have z2 := tk_lex d e h1 h2 hc [.inl 0] []
    have er := SeqAt.eqv_refl_plain (toPy e) (plain_noL e h2)
    rw [h, LX_same h2 h2 he er, q, if_neg Bool.false_ne_true] at z1 z2
    rw [← z1] at z2
    cases z2
theorem tkP_inj {s t : List Stp} (hs : OkS s) (ht : OkS t) (h : tkD (playD s) = tkD (playD t)) : s = t :=
  play_inj (tkD_eqv (noLd_play s) (noLd_play t) (cpb_play hs ht) (cpb_play ht ht) h)
theorem tkR_inj {r t : Row} (hr : OkR r) (ht : OkR t) (h : tkD (rowD r) = tkD (rowD t)) : r = t :=
  row_inj (tkD_eqv (noLd_row r) (noLd_row t) (cpb_row hr ht) (cpb_row ht ht) h)
/-- rows whose sights differ: in the order of their sights -/
theorem LX_rows {r t : Row} (hr : OkR r) (ht : OkR t) (hn : r.1 = t.1 → r = t) : LX (tkD (rowD r)) (tkD (rowD t)) = LX (tkD (playD r.1)) (tkD (playD t.1)) := by
  show LX (.inl 1 :: (tkD (playD r.1) ++ _)) (.inl 1 :: (tkD (playD t.1) ++ _)) = _
  rw [show LX (.inl 1 :: (tkD (playD r.1) ++ tkDs [stD r.2])) (.inl 1 :: (tkD (playD t.1) ++ tkDs [stD t.2])) = LX (tkD (playD r.1) ++ tkDs [stD r.2]) (tkD (playD t.1) ++ tkDs [stD t.2]) from PyProof.Rows.lex_self _ _ _]
  cases q : PyData.eqv (toPy (playD r.1)) (toPy (playD t.1)) with
  | false => exact LX_diff (noLd_play _) (noLd_play _) (cpb_play hr.1 ht.1) q _ _
  | true =>
    have e := play_inj (eqv_toPy _ _ (noLd_play _) (noLd_play _) q (cpb_play hr.1 ht.1))
    have e2 := hn e
    subst e2
    rw [show ∀ a, LX a a = false from fun a => (listOrd itemOrd).irrefl a, show ∀ a, LX a a = false from fun a => (listOrd itemOrd).irrefl a]
/-- the rows in order -/
abbrev sortR (rows : List Row) : List Row := sortE (fun r => tkD (rowD r)) rows
abbrev sortP (ss : List (List Stp)) : List (List Stp) := sortE (fun s => tkD (playD s)) ss
theorem sortR_perm {rows rows' : List Row} (h : rows.Perm rows') (hk : ∀ r ∈ rows, OkR r) : sortR rows = sortR rows' :=
  sort_one h (fun _ _ _ _ => rfl) fun a ha b hb e => tkR_inj (hk a ha) (hk b hb) e
theorem key_one {rows : List Row} (hn : (keysR rows).Nodup) {a b : Row} (ha : a ∈ rows) (hb : b ∈ rows) (e : a.1 = b.1) : a = b := by
  obtain ⟨i, hi⟩ := List.mem_iff_getElem?.mp ha
  obtain ⟨j, hj⟩ := List.mem_iff_getElem?.mp hb
  have hi' : (keysR rows)[i]? = some a.1 := by rw [List.getElem?_map, hi]; rfl
  have hj' : (keysR rows)[j]? = some a.1 := by rw [List.getElem?_map, hj, e]; rfl
  have := (List.getElem?_inj (List.getElem?_eq_some_iff.mp hi').1 hn).mp (hi'.trans hj'.symm)
  subst this
  rw [hi] at hj
  exact Option.some.inj hj
theorem map_sort {α β : Type} (tok : β → List (Int ⊕ List Nat)) (f : α → β) (l : List α) : (sortE (fun a => tok (f a)) l).map f = sortE tok (l.map f) := by
  unfold sortE
  refine List.map_mergeSort (fun a ha b hb => rfl)
/-- the keys in order, each with its step: the rows in order -/
theorem sort_rows {rows : List Row} (hn : (keysR rows).Nodup) (hk : ∀ r ∈ rows, OkR r) (f : List Stp → Stp) (hf : ∀ r ∈ rows, f r.1 = r.2) : (sortP (keysR rows)).map (fun s => (s, f s)) = sortR rows := by
  have e1 : sortP (keysR rows) = (sortE (fun r : Row => tkD (playD r.1)) rows).map Prod.fst := (map_sort (fun s => tkD (playD s)) Prod.fst rows).symm
  have e2 : sortE (fun r : Row => tkD (playD r.1)) rows = sortR rows := sort_one (List.Perm.refl _) (fun a ha b hb => (LX_rows (hk a ha) (hk b hb) fun e => key_one hn ha hb e).symm) fun a ha b hb e => tkR_inj (hk a ha) (hk b hb) e
  rw [e1, e2, List.map_map]
  have m : ∀ r ∈ sortR rows, ((fun s => (s, f s)) ∘ Prod.fst) r = r := fun r hr => by
    have := hf r ((sortE_perm _ rows).mem_iff.mp hr)
    show (r.1, f r.1) = r
    rw [this]
  rw [List.map_congr_left m]
  exact List.map_id' _
end Pk

set_option maxRecDepth 100000
set_option maxHeartbeats 4000000
set_option pp.maxSteps 600
namespace Pk
open PySem PySem.Spec PyProof.Rows L2
theorem seq_rest {t u : TS} {D : Ends} {σ : L2.St} {H : Hp} (F : L2.St → Hp → Prop) (main : (∀ σ' H', F σ' H' → u D σ' H') → tSeq t u D σ H) (rest : ∀ σ' H', F σ' H' → u D σ' H') : tSeq t u D σ H := main rest
theorem nx_rest {t u : TS} {D : Ends} {σ : L2.St} {H : Hp} (F : L2.St → Hp → Prop) (main : (∀ σ' H', F σ' H' → u D σ' H') → tSeq t u D σ H) (rest : ∀ σ' H', F σ' H' → u D σ' H') : tNext { D with nx := tSeq t u D } σ H := main rest
theorem rel_ref (a : Addr) : RelV (V.ref a) (Value.ref a) := rfl
theorem new_none {H H' : Hp} (s : Same H H') {p : Addr} (h : H' p = none) : H p = none := by
  cases h0 : H p with
  | none => rfl
  | some o => rw [s _ _ h0] at h; cases h
theorem walk_enumT {K : PySem.W.Frag} {a : Addr} {xs : List V} : Walk (Itet K a) xs.length (fun H => SqT K H a xs) (YPair (fun i => some (.int (i : Nat))) (fun i => xs[i]?)) := by
  refine ⟨fun i H hi q => ⟨xs, xs[i], q, List.getElem?_eq_getElem hi⟩, fun H q => ⟨xs, q, Nat.le_refl _⟩, fun i H v H' hi q y => ?_⟩
  obtain ⟨T, x, h1, h2, h3, h4⟩ := y
  exact ⟨T, .int (i : Nat), x, h1, h2, h3, rfl, h4 xs q⟩
def nats (ns : List Nat) : List V := ns.map fun k => V.int (k : Nat)
theorem nats_len (ns : List Nat) : (nats ns).length = ns.length := List.length_map _
theorem nats_snoc (ns : List Nat) (k : Nat) : nats ns ++ [V.int (k : Nat)] = nats (ns ++ [k]) := by
  unfold nats
  rw [List.map_append]
  rfl
theorem reps_nats {K : PySem.W.Frag} {H : Hp} : ∀ ns : List Nat, Reps K H (nats ns) (ns.map numD')
  | [] => .nil
  | k :: r => .cons (.at rfl) (reps_nats r)
theorem rep_nats_inv {K : PySem.W.Frag} {H : Hp} : ∀ {ns : List Nat} {xs : List V}, Reps K H xs (ns.map numD') → xs = nats ns
  | [], xs, r => by
    cases r
    rfl
  | k :: ns, xs, r => by
    cases r with
    | cons r0 rs =>
      obtain ⟨e, _⟩ := Rep.inva r0
      rw [e, rep_nats_inv rs]
      rfl
section
variable {K : PySem.W.Frag} {H : Hp}
/-- a step as it stands -/
theorem step_inv {v : V} {s : Stp} (r : Rep K H v (stD s)) : ∃ a m b, v = .ref a ∧ TupAt K H a [m, b] ∧ Rep K H m (mvD s.mv) ∧ Rep K H b (bkD s.back) := by
  obtain ⟨a, xs, rfl, h, rs⟩ := Rep.inv (ts := [mvD s.mv, bkD s.back]) r
  cases rs with
  | @cons m _ _ _ r0 rs =>
    cases rs with
    | @cons b _ _ _ r1 rs =>
      cases rs
      exact ⟨a, m, b, rfl, h, r0, r1⟩
theorem ask_inv {m : V} {p : List Nat} (r : Rep K H m (mvD (.ask p))) : ∃ a q, m = .ref a ∧ TupAt K H a [.str "ask", q] ∧ Rep K H q (plD p) := by
  obtain ⟨a, xs, rfl, h, rs⟩ := Rep.inv (ts := [.at (.str "ask"), plD p]) r
  cases rs with
  | cons r0 rs =>
    cases rs with
    | cons r1 rs =>
      cases rs
      obtain ⟨rfl, _⟩ := r0.inva
      exact ⟨a, _, rfl, h, r1⟩
theorem say_inv {m : V} {v : Nat} (r : Rep K H m (mvD (.say v))) : ∃ a, m = .ref a ∧ TupAt K H a [.str "say", .int (v : Nat)] := by
  obtain ⟨a, xs, rfl, h, rs⟩ := Rep.inv (ts := [.at (.str "say"), numD' v]) r
  cases rs with
  | cons r0 rs =>
    cases rs with
    | cons r1 rs =>
      cases rs
      obtain ⟨rfl, _⟩ := r0.inva
      obtain ⟨rfl, _⟩ := Rep.inva r1
      exact ⟨a, rfl, h⟩
theorem play_inv {v : V} {pl : List Stp} (r : Rep K H v (playD pl)) : ∃ a xs, v = .ref a ∧ TupAt K H a xs ∧ Reps K H xs (pl.map stD) ∧ xs.length = pl.length := by
  obtain ⟨a, xs, e, h, rs⟩ := Rep.inv (ts := pl.map stD) r
  have := rs.length
  rw [List.length_map] at this
  exact ⟨a, xs, e, h, rs, this⟩
theorem play_at {xs : List V} {pl : List Stp} {n : Nat} {s : Stp} (r : Reps K H xs (pl.map stD)) (e : pl[n]? = some s) : ∃ x, xs[n]? = some x ∧ Rep K H x (stD s) := by
  have e2 : (pl.map stD)[n]? = some (stD s) := by rw [List.getElem?_map, e]; rfl
  exact r.getD e2
end
/-! ### a dict from sights to steps -/
def kyP (s : List Stp) : NestedKey := kyD (playD s)
theorem kyDs_nums : ∀ p q : List Nat, kyDs (p.map numD') = kyDs (q.map numD') → p = q
  | [], [], _ => rfl
  | [], _ :: _, h => by cases h
  | _ :: _, [], h => by cases h
  | a :: p, b :: q, h => by
    injection h with h1 h2
    injection h1 with h1
    rw [kyDs_nums p q h2, show a = b by omega]
theorem kyM_inj {m n : Mv} (h : kyD (mvD m) = kyD (mvD n)) : m = n := by
  cases m with
  | say v =>
    cases n with
    | say u =>
      injection h with h
      injection h with _ h
      injection h with h _
      injection h with h
      rw [show v = u by omega]
    | ask q =>
      injection h with h
      injection h with h _
      injection h with h
      exact absurd h (by decide +kernel)
  | ask p =>
    cases n with
    | say u =>
      injection h with h
      injection h with h _
      injection h with h
      exact absurd h (by decide +kernel)
    | ask q =>
      injection h with h
      injection h with _ h
      injection h with h _
      injection h with h
      rw [kyDs_nums p q h]
theorem kyS_inj {x y : Stp} (h : kyD (stD x) = kyD (stD y)) : x = y := by
  obtain ⟨m, k⟩ := x
  obtain ⟨n, l⟩ := y
  injection h with h
  injection h with h1 h
  injection h with h2 _
  have h1' : kyD (mvD m) = kyD (mvD n) := h1
  have h2' : kyD (bkD k) = kyD (bkD l) := h2
  clear h1 h2
  rw [kyM_inj h1']
  cases k with
  | none =>
    cases l with
    | none => rfl
    | some j => cases h2'
  | some i =>
    cases l with
    | none => cases h2'
    | some j =>
      injection h2' with h2'
      rw [show i = j by omega]
theorem kySs_inj : ∀ {s t : List Stp}, kyDs (s.map stD) = kyDs (t.map stD) → s = t
  | [], [], _ => rfl
  | [], _ :: _, h => by cases h
  | _ :: _, [], h => by cases h
  | x :: r, y :: t, h => by
    injection h with h1 h2
    rw [kyS_inj h1, kySs_inj h2]
theorem kyP_inj {s t : List Stp} (h : kyP s = kyP t) : s = t := by
  injection h with h
  exact kySs_inj h
theorem keyP {K : PySem.W.Frag} {H : Hp} {b : Addr} {s : List Stp} (r : Rep K H (.ref b) (playD s)) : KeyAt K H (kyP s) b := ⟨_, r, noLd_play s, Nat.le_trans (dep_play s) (by decide), rfl⟩
abbrev EntR (K : PySem.W.Frag) (H : Hp) : Ent → Row → Prop := fun x r => x.1 = kyP r.1 ∧ Rep K H (.ref x.2.1) (playD r.1) ∧ Rep K H x.2.2 (stD r.2)
theorem entR_mono {K : PySem.W.Frag} {H H' : Hp} (k : Kx H H') : ∀ {xs : List Ent} {rows : List Row}, Paired (EntR K H) xs rows → Paired (EntR K H') xs rows
  | _, _, .nil => .nil
  | _, _, .cons ⟨h1, h2, h3⟩ t => .cons ⟨h1, h2.mono k, h3.mono k⟩ (entR_mono k t)
theorem entR_keys {K : PySem.W.Frag} {H : Hp} : ∀ {xs : List Ent} {rows : List Row}, Paired (EntR K H) xs rows → ∀ e ∈ xs, KeyAt K H e.1 e.2.1
  | _, _, .nil, e, he => by cases he
  | x :: xs, r :: rows, .cons ⟨h1, h2, h3⟩ t, e, he => by
    rcases List.mem_cons.mp he with rfl | he
    · rw [h1]
      exact keyP h2
    · exact entR_keys t e he
theorem entR_app {K : PySem.W.Frag} {H : Hp} : ∀ {xs ys : List Ent} {rows rows' : List Row}, Paired (EntR K H) xs rows → Paired (EntR K H) ys rows' → Paired (EntR K H) (xs ++ ys) (rows ++ rows')
  | _, _, _, _, .nil, s => s
  | _, _, _, _, .cons h t, s => .cons h (entR_app t s)
theorem entR_reps {K : PySem.W.Frag} {H : Hp} : ∀ {xs : List Ent} {rows : List Row}, Paired (EntR K H) xs rows → Reps K H (xs.map fun e => V.ref e.2.1) ((keysR rows).map playD)
  | _, _, .nil => .nil
  | _, _, .cons ⟨_, h2, _⟩ t => .cons h2 (entR_reps t)
/-- what the rows hold at a sight -/
def lkR (rows : List Row) (s : List Stp) : Option Stp := (rows.find? fun r => decide (r.1 = s)).map Prod.snd
theorem lkR_cons (r : Row) (rows : List Row) (s : List Stp) : lkR (r :: rows) s = if r.1 = s then some r.2 else lkR rows s := by
  unfold lkR
  rw [List.find?_cons]
  by_cases h : r.1 = s
  · rw [if_pos h, decide_eq_true h]
    rfl
  · rw [if_neg h, decide_eq_false h]
theorem lkR_none {rows : List Row} {s : List Stp} (h : s ∉ keysR rows) : lkR rows s = none := by
  induction rows with
  | nil => rfl
  | cons r rows ih =>
    rw [lkR_cons, if_neg (fun e => h (by rw [← e]; exact List.mem_cons_self ..))]
    exact ih fun m => h (List.mem_cons_of_mem _ m)
theorem lkR_mem {rows : List Row} {s : List Stp} {x : Stp} (h : lkR rows s = some x) : (s, x) ∈ rows := by
  induction rows with
  | nil => cases h
  | cons r rows ih =>
    rw [lkR_cons] at h
    by_cases e : r.1 = s
    · rw [if_pos e] at h
      have e2 := Option.some.inj h
      subst e e2
      exact List.mem_cons_self ..
    · rw [if_neg e] at h
      exact List.mem_cons_of_mem _ (ih h)
theorem lkR_some {rows : List Row} (hn : (keysR rows).Nodup) {r : Row} (h : r ∈ rows) : lkR rows r.1 = some r.2 := by
  induction rows with
  | nil => cases h
  | cons q rows ih =>
    rw [lkR_cons]
    obtain ⟨n1, n2⟩ := List.nodup_cons.mp (show (q.1 :: keysR rows).Nodup from hn)
    rcases List.mem_cons.mp h with rfl | h
    · rw [if_pos rfl]
    · rw [if_neg (fun e => n1 (by rw [e]; exact List.mem_map.mpr ⟨r, h, rfl⟩))]
      exact ih n2 h
theorem lkR_append (rows rows' : List Row) (s : List Stp) : lkR (rows ++ rows') s = (lkR rows s).or (lkR rows' s) := by
  induction rows with
  | nil => rfl
  | cons r rows ih =>
    show lkR (r :: (rows ++ rows')) s = _
    rw [lkR_cons, lkR_cons, ih]
    by_cases h : r.1 = s
    · rw [if_pos h, if_pos h]
      rfl
    · rw [if_neg h, if_neg h]
theorem atV_cons (x : Ent) (xs : List Ent) (k : NestedKey) : atV (x :: xs) k = if x.1 = k then some x.2.2 else atV xs k := by
  unfold atV
  rw [List.find?_cons]
  by_cases h : x.1 = k
  · rw [if_pos h, decide_eq_true h]
    rfl
  · rw [if_neg h, decide_eq_false h]
theorem entR_at {K : PySem.W.Frag} {H : Hp} : ∀ {xs : List Ent} {rows : List Row}, Paired (EntR K H) xs rows → ∀ s, (lkR rows s = none ∧ atV xs (kyP s) = none) ∨ ∃ x v, lkR rows s = some x ∧ atV xs (kyP s) = some v ∧ Rep K H v (stD x)
  | _, _, .nil, s => .inl ⟨rfl, rfl⟩
  | x :: xs, r :: rows, .cons ⟨h1, h2, h3⟩ t, s => by
    rw [lkR_cons, atV_cons]
    by_cases e : r.1 = s
    · rw [if_pos e, if_pos (by rw [h1, e])]
      exact .inr ⟨_, _, rfl, rfl, h3⟩
    · rw [if_neg e, if_neg (fun z => e (kyP_inj (h1.symm.trans z)))]
      exact entR_at t s
theorem entR_some {K : PySem.W.Frag} {H : Hp} {xs : List Ent} {rows : List Row} (p : Paired (EntR K H) xs rows) {s : List Stp} {x : Stp} (h : lkR rows s = some x) : ∃ v, atV xs (kyP s) = some v ∧ Rep K H v (stD x) := by
  rcases entR_at p s with ⟨h1, _⟩ | ⟨y, v, h1, h2, h3⟩
  · rw [h] at h1
    cases h1
  · rw [h] at h1
    cases h1
    exact ⟨v, h2, h3⟩
theorem entR_none {K : PySem.W.Frag} {H : Hp} {xs : List Ent} {rows : List Row} (p : Paired (EntR K H) xs rows) {s : List Stp} (h : lkR rows s = none) : atV xs (kyP s) = none := by
  rcases entR_at p s with ⟨_, h1⟩ | ⟨y, v, h1, h2, h3⟩
  · exact h1
  · rw [h] at h1
    cases h1
theorem putV_new {xs : List Ent} {k : NestedKey} (h : atV xs k = none) (a : Addr) (v : V) : putV xs k a v = xs ++ [(k, a, v)] := by
  unfold putV
  rw [h]
  rfl
/-- a dict of rows at a -/
def DR (P : Program) (w : World) (K : PySem.W.Frag) (H : Hp) (a : Addr) (rows : List Row) : Prop := ∃ xs, H a = some (DkO P w a xs) ∧ Paired (EntR K H) xs rows
theorem ne_ext {H : Hp} {a b : Addr} {P : Program} {w : World} {xs : List Ent} {o : HO} (h : H a = some (DkO P w a xs)) (h' : H b = some o) (n : ∀ φ, o ≠ .ext φ) : b ≠ a := ne_of h' h (n _)
/-- all but a dict is as it was -/
theorem sb_kxE {P : Program} {w : World} {H H' : Hp} {a : Addr} {xs : List Ent} (h : H a = some (DkO P w a xs)) (s : SB a H H') : Kx H H' :=
  ⟨fun b zs e => s _ _ (ne_ext h e (fun _ q => nomatch q)) e, fun b zs e => ⟨zs, s _ _ (ne_ext h e (fun _ q => nomatch q)) e⟩⟩
theorem DR.sbkx {P : Program} {w : World} {K : PySem.W.Frag} {H H' : Hp} {a : Addr} {rows : List Row} (d : DR P w K H a rows) (s : SB a H H') : Kx H H' := let ⟨_, h, _⟩ := d; sb_kxE h s
theorem DR.same {P : Program} {w : World} {K : PySem.W.Frag} {H H' : Hp} {a : Addr} {rows : List Row} (d : DR P w K H a rows) (s : Same H H') : DR P w K H' a rows := let ⟨xs, h, p⟩ := d; ⟨xs, s _ _ h, entR_mono (kx_same s) p⟩
theorem DR.len {K : PySem.W.Frag} {H : Hp} {rows : List Row} {xs : List Ent} (p : Paired (EntR K H) xs rows) : xs.length = rows.length := Paired.length p
/-- the dict with one more row -/
theorem DR.put {P : Program} {w : World} {K : PySem.W.Frag} {H : Hp} {a b : Addr} {rows : List Row} {xs : List Ent} {s : List Stp} {x : Stp} {v : V} (h : H a = some (DkO P w a xs)) (p : Paired (EntR K H) xs rows) (hn : lkR rows s = none) (rs : Rep K H (.ref b) (playD s)) (rv : Rep K H v (stD x)) :
    DR P w K (upd H a (DkO P w a (putV xs (kyP s) b v))) a (rows ++ [(s, x)]) := by
  rw [putV_new (entR_none p hn)]
  have k : Kx H (upd H a (DkO P w a (xs ++ [(kyP s, b, v)]))) := sb_kxE h (sb_upd _)
  refine ⟨_, upd_same, ?_⟩
  exact entR_app (entR_mono k p) (.cons ⟨rfl, rs.mono k, rv.mono k⟩ .nil)
end Pk

set_option maxRecDepth 100000
set_option maxHeartbeats 4000000
set_option pp.maxSteps 600
namespace Pk
open PySem PySem.Spec PyProof.Rows L2
/-! ### parts of programs as they stand -/
section
variable {K : PySem.W.Frag} {H : Hp}
theorem saysay_inv {x : V} {v : Nat} (r : Rep K H x (toD (.say v))) : ∃ a, x = .ref a ∧ TupAt K H a [.str "say", .int (v : Nat)] := by
  obtain ⟨a, xs, rfl, h, rs⟩ := Rep.inv (ts := [.at (.str "say"), .at (.int (v : Nat))]) r
  cases rs with
  | cons r0 rs =>
    cases rs with
    | cons r1 rs =>
      cases rs
      obtain ⟨rfl, _⟩ := Rep.inva r0
      obtain ⟨rfl, _⟩ := Rep.inva r1
      exact ⟨a, rfl, h⟩
theorem stop_inv {x : V} (r : Rep K H x (toD .stop)) : ∃ a, x = .ref a ∧ TupAt K H a [.str "stop"] := by
  obtain ⟨a, xs, rfl, h, rs⟩ := Rep.inv (ts := [.at (.str "stop")]) r
  cases rs with
  | cons r0 rs =>
    cases rs
    obtain ⟨rfl, _⟩ := Rep.inva r0
    exact ⟨a, rfl, h⟩
theorem askb_inv {x : V} {up k : Nat} {as : List T} {z o : T} (r : Rep K H x (toD (.ask up k as z o))) : ∃ a b xs zv ov, x = .ref a ∧ TupAt K H a [.str "ask", .int (up : Nat), .int (k : Nat), .ref b, zv, ov] ∧ TupAt K H b xs ∧ Reps K H xs (toDs as) ∧ Rep K H zv (toD z) ∧ Rep K H ov (toD o) := by
  obtain ⟨a, xs, rfl, h, rs⟩ := Rep.inv (ts := [.at (.str "ask"), .at (.int (up : Nat)), .at (.int (k : Nat)), .tup (toDs as), toD z, toD o]) r
  cases rs with
  | cons r0 rs =>
    cases rs with
    | cons r1 rs =>
      cases rs with
      | cons r2 rs =>
        cases rs with
        | cons r3 rs =>
          cases rs with
          | cons r4 rs =>
            cases rs with
            | cons r5 rs =>
              cases rs
              obtain ⟨rfl, _⟩ := Rep.inva r0
              obtain ⟨rfl, _⟩ := Rep.inva r1
              obtain ⟨rfl, _⟩ := Rep.inva r2
              obtain ⟨b, xs, rfl, hb, rb⟩ := r3.inv
              exact ⟨a, b, xs, _, _, rfl, h, hb, rb, r4, r5⟩
theorem prog_inv {x : V} {m : Nat} {b : T} (r : Rep K H x (toD (.prog m b))) : ∃ a bv, x = .ref a ∧ TupAt K H a [.str "program", .int (m : Nat), bv] ∧ Rep K H bv (toD b) := by
  obtain ⟨a, xs, rfl, h, rs⟩ := Rep.inv (ts := [.at (.str "program"), .at (.int (m : Nat)), toD b]) r
  cases rs with
  | cons r0 rs =>
    cases rs with
    | cons r1 rs =>
      cases rs with
      | cons r2 rs =>
        cases rs
        obtain ⟨rfl, _⟩ := Rep.inva r0
        obtain ⟨rfl, _⟩ := Rep.inva r1
        exact ⟨a, _, rfl, h, r2⟩
theorem toDs_get : ∀ {l : List T} {i : Nat} {t : T}, l[i]? = some t → (toDs l)[i]? = some (toD t)
  | [], _, _, h => by simp at h
  | t :: r, 0, e, h => by
    cases Option.some.inj h
    rfl
  | t :: r, i + 1, e, h => toDs_get (l := r) (i := i) h
end
theorem wfPs_at : ∀ {ks ds : List D} {ts : List T} {i : Nat} {t : T}, wfPs ks ds ts = true → ts[i]? = some t → ∃ d, ds[i]? = some d ∧ wfP ks d t = true
  | ks, ds, [], i, t, _, h => by simp at h
  | ks, ds, u :: ts, 0, t, hw, h => by
    obtain ⟨d, ds', rfl, w1, w2⟩ := wfPs_cons hw
    cases Option.some.inj h
    exact ⟨d, rfl, w1⟩
  | ks, ds, u :: ts, i + 1, t, hw, h => by
    obtain ⟨d, ds', rfl, w1, w2⟩ := wfPs_cons hw
    exact wfPs_at (ts := ts) (i := i) w2 h
theorem wfPs_len : ∀ {ks ds : List D} {ts : List T}, wfPs ks ds ts = true → ts.length = ds.length
  | ks, [], [], _ => rfl
  | ks, ds, u :: ts, hw => by
    obtain ⟨d, ds', rfl, w1, w2⟩ := wfPs_cons hw
    exact congrArg Nat.succ (wfPs_len w2)
  | ks, _ :: _, [], h => by cases h
theorem nasksL_at : ∀ {ts : List T} {i : Nat} {t : T}, ts[i]? = some t → nasks t ≤ nasksL ts
  | [], _, _, h => by simp at h
  | u :: ts, 0, t, h => by
    cases Option.some.inj h
    exact Nat.le_add_right _ _
  | u :: ts, i + 1, t, h => Nat.le_trans (nasksL_at (ts := ts) (i := i) h) (Nat.le_add_left _ _)
theorem szTs_at : ∀ {ts : List T} {i : Nat} {t : T}, ts[i]? = some t → szTs (ts.take i) + szT t ≤ szTs ts
  | [], _, _, h => by simp at h
  | u :: ts, 0, t, h => by
    cases Option.some.inj h
    show 0 + szT u ≤ szT u + szTs ts
    omega
  | u :: ts, i + 1, t, h => by
    have := szTs_at (ts := ts) (i := i) h
    show szT u + szTs (ts.take i) + szT t ≤ szT u + szTs ts
    omega
theorem rowsPs_snoc : ∀ {ts : List T} {i : Nat} {m : Nat} {b : T} (p : List Nat) (l : List Stp) (n : Nat) (cs : List Nat) (j : Nat), ts[i]? = some (.prog m b) → rowsPs (ts.take (i + 1)) p l n cs j = rowsPs (ts.take i) p l n cs j ++ rowsB b (l ++ [⟨.ask (p ++ [j + i]), some n⟩]) ((n + 1) :: cs)
  | [], _, _, _, _, _, _, _, _, h => by simp at h
  | u :: ts, 0, m, b, p, l, n, cs, j, h => by
    cases Option.some.inj h
    show rowsB b _ _ ++ rowsPs (ts.take 0) p l n cs (j + 1) = [] ++ rowsB b _ _
    rw [List.take_zero]
    show rowsB b _ _ ++ [] = _
    rw [List.append_nil, List.nil_append]
    rfl
  | u :: ts, i + 1, m, b, p, l, n, cs, j, h => by
    have ih := rowsPs_snoc (ts := ts) (i := i) p l n cs (j + 1) h
    have e : j + 1 + i = j + (i + 1) := by omega
    rw [e] at ih
    cases u with
    | prog m2 b2 =>
      show rowsB b2 _ _ ++ rowsPs (ts.take (i + 1)) p l n cs (j + 1) = (rowsB b2 _ _ ++ rowsPs (ts.take i) p l n cs (j + 1)) ++ _
      rw [ih, List.append_assoc]
    | say v => exact ih
    | stop => exact ih
    | ask _ _ _ _ _ => exact ih
/-! ### _law_rows_behind -/
section
variable {P : Program} {w : World} {K : PySem.W.Frag} {mg : Str → Option Value} {base : Heap}
def spRB (P : Program) (w : World) (K : PySem.W.Frag) (n : Nat) : Sp := fun vs H Q _ => ∃ (a c : Addr) (bv sv : V) (t : T) (ks : List D) (s : List Stp) (cs : List Nat) (rows : List Row), vs = [.ref a, bv, sv, .ref c] ∧ DR P w K H a rows ∧ Rep K H bv (toD t) ∧ Rep K H sv (playD s) ∧ H c = some (.lst (nats cs.reverse)) ∧
  wfB ks t = true ∧ cs.length = ks.length ∧ ks ≠ [] ∧ OkS s ∧ OkC s cs ∧ nasks t < n ∧ s.length + 2 * nasks t ≤ 1000 ∧ ks.length + nasks t ≤ 1000 ∧ (∀ k ∈ ks, Kd k) ∧ rows.length + szT t ≤ 100000 ∧ (∀ e ∈ rows, ¬ s <+: e.1) ∧
  ∀ (H' : Hp), DR P w K H' a (rows ++ rowsB t s cs) → SB a H H' → Q (.ref a) H'
theorem call_at {cs : List Nat} {up : Nat} (hu : up < cs.length) : atI (nats cs.reverse) (((nats cs.reverse).length : Nat) - 1 - (up : Nat) : Int) = some (.int (cs.getD up 0 : Nat)) := by
  have hl : (nats cs.reverse).length = cs.length := by rw [nats_len, List.length_reverse]
  have e : (((nats cs.reverse).length : Nat) - 1 - (up : Nat) : Int) = ((cs.length - 1 - up : Nat) : Int) := by omega
  rw [e]
  refine atI_nat ?_
  unfold nats
  rw [List.getElem?_map, rev_at cs up hu, List.getElem?_eq_getElem hu]
  rw [List.getD_eq_getElem?_getD, List.getElem?_eq_getElem hu]
  rfl
theorem fresh_key {rows : List Row} {s : List Stp} (h : ∀ e ∈ rows, ¬ s <+: e.1) : lkR rows s = none := lkR_none fun m => by
  obtain ⟨e, he, rfl⟩ := mem_keys m
  exact h e he (List.prefix_refl _)
theorem fresh_of {l t : List Stp} {x y : Stp} (h : l ++ [x] <+: t) (n : x ≠ y) : ¬ l ++ [y] <+: t := fun z => n (pre_two h z)
theorem rb_body {u : Addr} {K : PySem.W.Frag} {H : Hp} {xs : List V} {as : List T} {i m : Nat} {b : T} (r : Reps K H xs (toDs as)) (h : as[i]? = some (.prog m b)) : ∃ a bv, xs[i]? = some (.ref a) ∧ TupAt K H a [.str "program", .int (m : Nat), bv] ∧ Rep K H bv (toD b) := by
  obtain ⟨x, hx, rx⟩ := r.getD (toDs_get h)
  obtain ⟨a, bv, rfl, h1, h2⟩ := prog_inv rx
  exact ⟨a, bv, hx, h1, h2⟩
theorem snoc_rep {K : PySem.W.Frag} {H H' : Hp} {a p q r : Addr} {xs : List V} {s : List Stp} {x : Stp} (rs : Reps K H xs (s.map stD)) (m : Kx H H') (h : TupAt K H' a (xs ++ [.ref p])) (rx : Rep K H' (.ref p) (stD x)) : Rep K H' (.ref a) (playD (s ++ [x])) := by
  unfold playD
  rw [List.map_append]
  exact .tup h ((rs.mono m).append (.one rx))
theorem ok_rb {f : Addr} {fd : FuncData} (D__law_rows_behind : Df K mg "_law_rows_behind" s__law_rows_behind ["rows", "body", "sight", "calls"] f fd) (B : Bt mg) : ∀ n : Nat, FnOk P w K mg base CX0 n f fd ["rows", "body", "sight", "calls"] (spRB P w K n)
  | 0 => fn_none fun vs H Q E h => by
    obtain ⟨a, c, bv, sv, t, ks, s, cs, rows, _, _, _, _, _, _, _, _, _, _, h1, _⟩ := h
    omega
  | n + 1 => by
    have G__law_rows_behind := ok_rb D__law_rows_behind B n
    refine D__law_rows_behind.ok c__law_rows_behind (fun vs H Q E h => ?_) (fun cdv A outer s0 H vs Q E hr h => ?_)
    · obtain ⟨a, c, bv, sv, t, ks, s, cs, rows, rfl, _⟩ := h
      rfl
    obtain ⟨a, c, bv, sv, t, ks, s, cs, rows, rfl, hD, rb, rs, hc, hw, hlen, hne, hs, hcs, hn, hsl, hkl, hks, hsz, hfr, q⟩ := h
    have nd := c__law_rows_behind.nd
    refine ⟨_, (pss_cons (ps_if (pt_cmpR op_eq (pe_ix ix_tup (pv 1) pe_int (fun _ _ => rfl)) pe_str (nomark _)) (pss_one (show PS _ _ (tDkPut P w K _ _ _) from ps_dkPut hr.units (pv 0) (pv 2) (pe_tup (pa_cons (pe_tup (pa_cons pe_str (pa_cons (pe_ix ix_tup (pv 1) pe_int (fun _ _ => rfl)) pa_nil))) (pa_cons (pe_ix ix_list (pv 3) (pe_op op_sub (pe_callB call_len_seq (by rfl) B.b_len PySem.boot_len (pa_cons (pv 3) pa_nil)) pe_int) (fun _ _ => rfl)) pa_nil))) rfl)) (pss_one (ps_if (pt_cmpR op_eq (pe_ix ix_tup (pv 1) pe_int (fun _ _ => rfl)) pe_str (nomark _)) (pss_cons (ps_set (i := 4) nd rfl (Or.inl rfl) (pe_ix ix_list (pv 3) (pe_op op_sub (pe_op op_sub (pe_callB call_len_seq (by rfl) B.b_len PySem.boot_len (pa_cons (pv 3) pa_nil)) pe_int) (pe_ix ix_tup (pv 1) pe_int (fun _ _ => rfl))) (fun _ _ => rfl)))
  (pss_cons (ps_set (i := 5) nd rfl (Or.inl rfl) (pe_op op_catP (pe_ix ix_tup (pe_ix ix_tup (pe_ix ix_tup (pv 2) (pv 4) (fun _ _ => rfl)) pe_int (fun _ _ => rfl)) pe_int (fun _ _ => rfl)) (pe_tup (pa_cons (pe_ix ix_tup (pv 1) pe_int (fun _ _ => rfl)) pa_nil))))
  (pss_cons (show PS _ _ (tDkPut P w K _ _ _) from ps_dkPut hr.units (pv 0) (pv 2) (pe_tup (pa_cons (pe_tup (pa_cons pe_str (pa_cons (pv 5) pa_nil))) (pa_cons (pv 4) pa_nil))) rfl)
  (pss_cons (ps_set (i := 6) nd rfl (Or.inl rfl) (pe_callB call_len_seq (by rfl) B.b_len PySem.boot_len (pa_cons (pv 2) pa_nil)))
  (pss_cons (ps_set (i := 7) nd rfl (Or.inl rfl) (pe_op op_catP (pv 2) (pe_tup (pa_cons (show PE _ _ (tDkGet P w K _ _) from pe_dkGet hr.units (pv 0) (pv 2) (fun _ _ => rfl)) pa_nil))))
  (pss_cons (ps_expr (pe_call G__law_rows_behind hr (by rfl) D__law_rows_behind.m D__law_rows_behind.kp D__law_rows_behind.b .nil pass0 (pa_cons (pv 0) (pa_cons (pe_ix ix_tup (pv 1) pe_int (fun _ _ => rfl)) (pa_cons (pe_op op_catP (pv 7) (pe_tup (pa_cons (pe_tup (pa_cons (pe_tup (pa_cons pe_str (pa_cons pe_int pa_nil))) (pa_cons (pv 6) pa_nil))) pa_nil))) (pa_cons (pv 3) pa_nil))))))
  (pss_cons (ps_expr (pe_call G__law_rows_behind hr (by rfl) D__law_rows_behind.m D__law_rows_behind.kp D__law_rows_behind.b .nil pass0 (pa_cons (pv 0) (pa_cons (pe_ix ix_tup (pv 1) pe_int (fun _ _ => rfl)) (pa_cons (pe_op op_catP (pv 7) (pe_tup (pa_cons (pe_tup (pa_cons (pe_tup (pa_cons pe_str (pa_cons pe_int pa_nil))) (pa_cons (pv 6) pa_nil))) pa_nil))) (pa_cons (pv 3) pa_nil))))))
  (pss_one (ps_for PassesOwn.never rfl (pi_range1 (by rfl) B.b_range (pa_cons (pe_callB call_len_seq (by rfl) B.b_len PySem.boot_len (pa_cons (pe_ix ix_tup (pv 1) pe_int (fun _ _ => rfl)) pa_nil)) pa_nil)) (pg_name (i := 8) nd rfl (Or.inl rfl)) (pss_one (ps_expr (pe_call G__law_rows_behind hr (by rfl) D__law_rows_behind.m D__law_rows_behind.kp D__law_rows_behind.b .nil pass0 (pa_cons (pv 0) (pa_cons (pe_ix ix_tup (pe_ix ix_tup (pe_ix ix_tup (pv 1) pe_int (fun _ _ => rfl)) (pv 8) (fun _ _ => rfl)) pe_int (fun _ _ => rfl)) (pa_cons (pe_op op_catP (pv 7) (pe_tup (pa_cons (pe_tup (pa_cons (pe_tup (pa_cons pe_str (pa_cons (pe_op op_catP (pv 5) (pe_tup (pa_cons (pv 8) pa_nil))) pa_nil))) (pa_cons (pv 6) pa_nil))) pa_nil))) (pa_cons (pe_op op_cat (pv 3) (pe_lst (pa_cons (pe_op op_add (pv 6) pe_int) pa_nil))) pa_nil)))))))))))))))) pss_nil)))
  (pss_one (ps_ret (pv 0)))), ?_⟩
    have hkp : 0 < ks.length := List.length_pos_iff.mpr hne
    have hcl : (nats cs.reverse).length = cs.length := by rw [nats_len, List.length_reverse]
    obtain ⟨sa, sxs, rfl, hsa, rsx, lsx⟩ := play_inv rs
    refine seq_rest (fun σ' H' => ∃ (y4 y5 y6 y7 y8 : Option V), σ' = [some (.ref a), some bv, some (.ref sa), some (.ref c), y4, y5, y6, y7, y8] ∧ DR P w K H' a (rows ++ rowsB t s cs) ∧ SB a H H') (fun rest => ?_) ?_
    · cases t with
      | prog _ _ => cases hw
      | say v =>
        obtain ⟨ba, rfl, hb⟩ := saysay_inv rb
        refine ⟨_, rfl, ba, _, 0, _, rfl, rfl, hb.sq, rfl, rfl, _, rfl, iteT ?_⟩
        refine ⟨_, rfl, ba, _, 1, _, rfl, rfl, hb.sq, rfl, (by show 2 ≤ sizeLine; decide), fun t1 n1 => ?_⟩
        have s1 := same_new n1 (.tup [.str "say", .int (v : Nat)])
        have hc1 := s1 _ _ hc
        have ecal := call_at (cs := cs) (up := 0) (by omega)
        refine ⟨_, rfl, _, rfl, c, _, rfl, .inl (SqL.of hc1), _, _, rfl, rfl, c, _, _, _, rfl, rfl, SqL.of hc1, by rw [← ecal]; congr 1; omega, (by show 2 ≤ sizeLine; decide), fun t2 n2 => ?_⟩
        have s2 := same_new n2 (.tup [.ref t1, .int (cs.getD 0 0 : Nat)])
        have s12 := s1.trans s2
        obtain ⟨xs, hx, px⟩ := hD.same s12
        refine ⟨_, rfl, _, rfl, a, sa, xs, kyP s, rfl, rfl, hx, entR_keys px, keyP (rs.mono (kx_same s12)), by rw [DR.len px]; omega, ?_⟩
        refine rest _ _ ⟨_, _, _, _, _, rfl, DR.put (x := ⟨.say v, some (cs.getD 0 0)⟩) hx px (fresh_key hfr) (rs.mono (kx_same s12)) ?_, (sb_same s12).trans (sb_upd _)⟩
        exact .tup' (upd_same) (.cons (.tup' (s2 _ _ upd_same) (.cons (.at rfl) (.one (.at rfl)))) (.one (.at rfl)))
      | stop =>
        obtain ⟨ba, rfl, hb⟩ := stop_inv rb
        refine ⟨_, rfl, ba, _, 0, _, rfl, rfl, hb.sq, rfl, rfl, _, rfl, iteF ?_⟩
        refine ⟨_, rfl, ba, _, 0, _, rfl, rfl, hb.sq, rfl, rfl, _, rfl, iteF ?_⟩
        refine rest _ _ ⟨_, _, _, _, _, rfl, ?_, SB.refl a H⟩
        show DR P w K H a (rows ++ [])
        rw [List.append_nil]
        exact hD
      | ask up k as z o =>
        obtain ⟨ba, asa, axs, zv, ov, rfl, hb, has, ras, rz, ro⟩ := askb_inv rb
        obtain ⟨kd, ad, e1, e2, w1, w2, w3⟩ := wfB_ask hw
        have hup : up < cs.length := by
          have := (List.getElem?_eq_some_iff.mp e1).1
          omega
        have hA := hs.asked hcs hup k
        have cA := hcs.snoc (asK s (cs.getD up 0) k)
        obtain ⟨p, pb, hstep⟩ := hcs _ (mem_getD hup)
        have eplc := plc_at hstep
        have hpl := hs.plc (cs.getD up 0)
        have hclt := hcs.lt (mem_getD hup)
        have hnz : 1 + (nasksL as + (nasks z + nasks o)) < n + 1 := hn
        have hsl' : s.length + 2 * (1 + (nasksL as + (nasks z + nasks o))) ≤ 1000 := hsl
        have hkl' : ks.length + (1 + (nasksL as + (nasks z + nasks o))) ≤ 1000 := hkl
        have hsz' : rows.length + (1 + (szT z + (szT o + szTs as))) ≤ 100000 := hsz
        refine ⟨_, rfl, ba, _, 0, _, rfl, rfl, hb.sq, rfl, rfl, _, rfl, iteF ?_⟩
        refine ⟨_, rfl, ba, _, 0, _, rfl, rfl, hb.sq, rfl, rfl, _, rfl, iteT ?_⟩
        refine ⟨_, rfl, _, rfl, c, _, rfl, .inl (SqL.of hc), _, _, rfl, rfl, _, rfl, ba, _, 1, _, rfl, rfl, hb.sq, rfl, _, _, rfl, rfl, c, _, _, _, rfl, rfl, SqL.of hc, call_at hup, ?_⟩
        generalize hcall : cs.getD up 0 = call at *
        obtain ⟨x, hx, rx⟩ := play_at rsx hstep
        obtain ⟨a2, m2, b2, rfl, ha2, rm2, rb2⟩ := step_inv rx
        obtain ⟨a3, qv, rfl, ha3, rq⟩ := ask_inv rm2
        obtain ⟨pa, pxs, rfl, hpa, rpx⟩ := Rep.inv (ts := p.map numD') rq
        have ep := rep_nats_inv rpx
        subst ep
        refine ⟨_, rfl, _, rfl, sa, sxs, _, _, rfl, rfl, hsa.sq, atI_nat hx, a2, _, 0, _, rfl, rfl, ha2.sq, rfl, a3, _, 1, _, rfl, rfl, ha3.sq, rfl, ?_⟩
        refine ⟨_, rfl, ba, _, 2, _, rfl, rfl, hb.sq, rfl, (by show 1 ≤ sizeLine; decide), fun t1 n1 => ?_⟩
        have s1 := same_new n1 (.tup [.int (k : Nat)])
        refine ⟨pa, t1, _, _, rfl, rfl, hpa.same s1, .inl upd_same, small6' (by rw [nats_len, ← eplc]; show (plc s call).length + 1 ≤ 1000000; omega), fun pc H2 s2 hpc => ?_⟩
        rw [nats_snoc] at hpc
        have s12 := s1.trans s2
        refine ⟨_, rfl, (by show 2 ≤ sizeLine; decide), fun t2 n2 => ?_⟩
        have s3 := same_new n2 (.tup [.str "ask", .ref pc])
        refine ⟨_, rfl, (by show 2 ≤ sizeLine; decide), fun t3 n3 => ?_⟩
        have s4 := same_new n3 (.tup [.ref t2, .int (call : Nat)])
        have s14 := s12.trans (s3.trans s4)
        have k14 := kx_same s14
        obtain ⟨xs, hxs, pxs⟩ := hD.same s14
        refine ⟨_, rfl, _, rfl, a, sa, xs, kyP s, rfl, rfl, hxs, entR_keys pxs, keyP (rs.mono k14), by rw [DR.len pxs]; omega, ?_⟩
        have hst : Rep K (upd (upd H2 t2 (.tup [.str "ask", .ref pc])) t3 (.tup [.ref t2, .int (call : Nat)])) (.ref t3) (stD (asK s call k)) := by
          refine .tup' upd_same (.cons (.tup' (s4 _ _ upd_same) (.cons (.at rfl) (.one ?_))) (.one (.at rfl)))
          rw [eplc]
          exact .tup ((hpc.same s3).same s4) (reps_nats _)
        have hD5 := DR.put (x := asK s call k) hxs pxs (fresh_key hfr) (rs.mono k14) hst
        have k5 : Kx _ _ := sb_kxE (H' := upd (upd (upd H2 t2 (.tup [.str "ask", .ref pc])) t3 (.tup [.ref t2, .int (call : Nat)])) a (DkO P w a (putV xs (kyP s) sa (.ref t3)))) hxs (sb_upd _)
        have sb5 : SB a H (upd (upd (upd H2 t2 (.tup [.str "ask", .ref pc])) t3 (.tup [.ref t2, .int (call : Nat)])) a (DkO P w a (putV xs (kyP s) sa (.ref t3)))) := (sb_same s14).trans (sb_upd _)
        have k05 := hD.sbkx sb5
        have hc5 := sb5 _ _ (fun e => by
          obtain ⟨_, h5, _⟩ := hD
          subst e
          rw [hc] at h5
          cases h5) hc
        have hst5 := hst.mono k5
        have hpc5 : TupAt K _ pc (nats (p ++ [k])) := (((hpc.same s3).same s4).kx k5)
        clear hst k5 hxs pxs
        generalize upd (upd (upd H2 t2 (.tup [.str "ask", .ref pc])) t3 (.tup [.ref t2, .int (call : Nat)])) a (DkO P w a (putV xs (kyP s) sa (.ref t3))) = H5 at *
        have hsa5 := hsa.kx k05
        refine ⟨_, rfl, sa, sxs, rfl, .inr hsa5.sq, ?_⟩
        obtain ⟨xs5, hx5, px5⟩ := hD5
        obtain ⟨v5, hv5, rv5⟩ := entR_some px5 (s := s) (x := asK s call k) (by
          rw [lkR_append, fresh_key hfr, lkR_cons, if_pos rfl]
          rfl)
        refine ⟨_, rfl, _, rfl, _, rfl, a, sa, xs5, kyP s, v5, rfl, rfl, ⟨.inl hx5, entR_keys px5⟩, keyP (rs.mono k05), hv5, (by show 1 ≤ sizeLine; decide), fun t4 n4 => ?_⟩
        have s6 := same_new n4 (.tup [v5])
        refine ⟨sa, t4, _, _, rfl, rfl, hsa5.same s6, .inl upd_same, small6' (by show sxs.length + 1 ≤ 1000000; omega), fun la H7 s7 hla => ?_⟩
        have s57 := s6.trans s7
        have k57 := kx_same s57
        have k07 := k05.trans k57
        have hD7 : DR P w K H7 a (rows ++ [(s, asK s call k)]) := DR.same ⟨xs5, hx5, px5⟩ s57
        have hc7 := s57 _ _ hc5
        have hla7 : Rep K H7 (.ref la) (playD (s ++ [asK s call k])) := by
          unfold playD
          rw [List.map_append]
          exact .tup hla ((rsx.mono k07).append (.one (rv5.mono k57)))
        have hpc7 := hpc5.kx k57
        have sb7 : SB a H H7 := sb5.trans (sb_same s57)
        have hb7 := hb.kx k07
        have rz7 := rz.mono k07
        have ro7 := ro.mono k07
        have has7 := has.kx k07
        have ras7 := ras.mono k07
        have lla : (sxs ++ [v5]).length = s.length + 1 := by rw [List.length_append, List.length_singleton, lsx]
        clear hx5 px5 hv5 rv5 hla k57 k05 hpc5 hst5 hc5 hsa5 sb5 s57 s6 s7
        obtain ⟨la', lxs, ela, hla, rla, llx⟩ := play_inv hla7
        cases ela
        rw [List.length_append, List.length_singleton] at llx
        have hac : c ≠ a := fun e => by
          obtain ⟨_, h5, _⟩ := hD
          subst e
          rw [hc] at h5
          cases h5
        -- the sight behind an answer
        have goS : ∀ (u : Nat) (H8 : Hp) (t5 t6 t7 : Addr), SB a H7 H8 → H8 t5 = none → (upd H8 t5 (.tup [.str "say", .int (u : Nat)])) t6 = none → (upd (upd H8 t5 (.tup [.str "say", .int (u : Nat)])) t6 (.tup [.ref t5, .int ((sxs.length : Nat) : Int)])) t7 = none →
            TupAt K (upd (upd (upd H8 t5 (.tup [.str "say", .int (u : Nat)])) t6 (.tup [.ref t5, .int ((sxs.length : Nat) : Int)])) t7 (.tup [.ref t6])) la lxs ∧
            ∀ (lc : Addr) (H9 : Hp), Same (upd (upd (upd H8 t5 (.tup [.str "say", .int (u : Nat)])) t6 (.tup [.ref t5, .int ((sxs.length : Nat) : Int)])) t7 (.tup [.ref t6])) H9 → TupAt K H9 lc (lxs ++ [.ref t6]) →
              Rep K H9 (.ref lc) (playD (s ++ [asK s call k] ++ [⟨.say u, some s.length⟩])) ∧ Same H8 H9 := by
          intro u H8 t5 t6 t7 sb78 n5 n6 n7
          have u3 := same_new n7 (.tup [.ref t6])
          have u2 := (same_new n6 (.tup [.ref t5, .int ((sxs.length : Nat) : Int)])).trans u3
          have u1 := (same_new n5 (.tup [.str "say", .int (u : Nat)])).trans u2
          have k78 := hD7.sbkx sb78
          refine ⟨(hla.kx k78).same u1, fun lc H9 s9 hlc => ⟨?_, u1.trans s9⟩⟩
          unfold playD
          rw [List.map_append]
          refine .tup hlc ((rla.mono (k78.trans (kx_same (u1.trans s9)))).append (.one (.tup' (s9 _ _ (u3 _ _ upd_same)) (.cons (.tup' (s9 _ _ (u2 _ _ upd_same)) (.cons (.at rfl) (.one (.at rfl)))) (.one ?_)))))
          rw [lsx]
          exact .at rfl
        have lens : ∀ u : Nat, (s ++ [asK s call k] ++ [(⟨.say u, some s.length⟩ : Stp)]).length = s.length + 2 := fun u => by rw [List.length_append, List.length_append, List.length_singleton, List.length_singleton]
        have frz : ∀ (u : Nat) (r : Row), r ∈ rows ++ [(s, asK s call k)] → ¬ s ++ [asK s call k] ++ [⟨.say u, some s.length⟩] <+: r.1 := fun u r hr' z => by
          rcases List.mem_append.mp hr' with m | m
          · exact hfr r m (pre_snoc (pre_snoc z))
          · rw [List.mem_singleton.mp m] at z
            exact pre_long (pre_snoc z) rfl
        refine ⟨_, rfl, _, rfl, ba, _, 4, _, rfl, rfl, hb7.sq, rfl, _, rfl, (by show 2 ≤ sizeLine; decide), fun t5 n5 => ⟨_, rfl, (by show 2 ≤ sizeLine; decide), fun t6 n6 => ⟨(by show 1 ≤ sizeLine; decide), fun t7 n7 => ?_⟩⟩⟩
        obtain ⟨g1, g2⟩ := goS 0 H7 t5 t6 t7 (SB.refl a H7) n5 n6 n7
        refine ⟨la, t7, lxs, _, rfl, rfl, g1, .inl upd_same, small6' (by rw [llx]; show s.length + 1 + 1 ≤ 1000000; omega), fun lc H9 s9 hlc => ?_⟩
        obtain ⟨g3, g4⟩ := g2 lc H9 s9 hlc
        refine ⟨_, rfl, a, c, zv, .ref lc, z, ks, s ++ [asK s call k] ++ [⟨.say 0, some s.length⟩], cs, rows ++ [(s, asK s call k)], rfl, hD7.same g4, rz7.mono (kx_same g4), g3, g4 _ _ hc7, w2, hlen, hne, hA.say 0 _, cA.snoc _, by omega, by rw [lens]; omega, by omega, hks, by rw [List.length_append, List.length_singleton]; omega, frz 0, fun H10 hD10 sb910 => ?_⟩
        have sb710 : SB a H7 H10 := (sb_same g4).trans sb910
        clear g1 g2 g3 g4 s9 hlc n5 n6 n7 sb910
        have hb10 := hb7.kx (hD7.sbkx sb710)
        have lz := rowsB_len z (s ++ [asK s call k] ++ [⟨.say 0, some s.length⟩]) cs
        refine ⟨_, rfl, _, rfl, ba, _, 5, _, rfl, rfl, hb10.sq, rfl, _, rfl, (by show 2 ≤ sizeLine; decide), fun t5 n5 => ⟨_, rfl, (by show 2 ≤ sizeLine; decide), fun t6 n6 => ⟨(by show 1 ≤ sizeLine; decide), fun t7 n7 => ?_⟩⟩⟩
        obtain ⟨g1, g2⟩ := goS 1 H10 t5 t6 t7 sb710 n5 n6 n7
        refine ⟨la, t7, lxs, _, rfl, rfl, g1, .inl upd_same, small6' (by rw [llx]; show s.length + 1 + 1 ≤ 1000000; omega), fun lc H11 s11 hlc => ?_⟩
        obtain ⟨g3, g4⟩ := g2 lc H11 s11 hlc
        refine ⟨_, rfl, a, c, ov, .ref lc, o, ks, s ++ [asK s call k] ++ [⟨.say 1, some s.length⟩], cs, rows ++ [(s, asK s call k)] ++ rowsB z (s ++ [asK s call k] ++ [⟨.say 0, some s.length⟩]) cs, rfl, hD10.same g4, (ro7.mono (hD7.sbkx sb710)).mono (kx_same g4), g3, g4 _ _ (sb710 _ _ hac hc7), w3, hlen, hne, hA.say 1 _, cA.snoc _, by omega, by rw [lens]; omega, by omega, hks, by rw [List.length_append, List.length_append, List.length_singleton]; omega, fun r hr' => ?_, fun H12 hD12 sb1112 => ?_⟩
        · rcases List.mem_append.mp hr' with m | m
          · exact frz 1 r m
          · exact fresh_of (rowsB_pre z _ _ r m) (fun e => by
              injection e with e
              injection e with e
              cases e)
        have sb712 : SB a H7 H12 := sb710.trans ((sb_same g4).trans sb1112)
        clear g1 g2 g3 g4 s11 hlc n5 n6 n7 sb1112
        have lo := rowsB_len o (s ++ [asK s call k] ++ [⟨.say 1, some s.length⟩]) cs
        have k712 := hD7.sbkx sb712
        have hb12 := hb7.kx k712
        have las := ras7.length
        rw [toDs_len] at las
        have lwf := wfPs_len w1
        have KD : Kd ad := (hks kd (List.mem_of_getElem? e1)).sub e2
        have lad : (args ad).length ≤ 1000 := by
          obtain ⟨ts, rfl, _⟩ := isK_inv KD.1
          have h1 := len_szs ts
          have h2 : szs ts + 1 ≤ 1000 := KD.2
          show ts.length ≤ 1000
          omega
        refine ⟨_, rfl, ba, _, 3, _, rfl, rfl, hb12.sq, rfl, asa, axs, rfl, .inr (has7.kx k712).sq, _, rfl, by omega, by omega, ?_⟩
        refine for_range (n := ((axs.length : Nat) : Int).toNat) (fun i σ H' => ∃ (y8 : Option V), σ = [some (.ref a), some (.ref ba), some (.ref sa), some (.ref c), some (.int (call : Nat)), some (.ref pc), some (.int ((sxs.length : Nat) : Int)), some (.ref la), y8] ∧ SB a H7 H' ∧
            DR P w K H' a (rows ++ [(s, asK s call k)] ++ rowsB z (s ++ [asK s call k] ++ [⟨.say 0, some s.length⟩]) cs ++ rowsB o (s ++ [asK s call k] ++ [⟨.say 1, some s.length⟩]) cs ++ rowsPs (as.take i) (p ++ [k]) (s ++ [asK s call k]) s.length cs 0))
          ⟨_, rfl, sb712, by
            show DR P w K H12 a (_ ++ [])
            rw [List.append_nil]
            exact hD12⟩ ?_ ?_
        · rintro i σ H13 hi ⟨y8, rfl, sb713, hD13⟩
          have hi' : i < as.length := by omega
          obtain ⟨d, hd, wd⟩ := wfPs_at w1 (List.getElem?_eq_getElem hi')
          obtain ⟨m, b, eb, em, wb⟩ := wfP_inv wd
          have hib : as[i]? = some (.prog m b) := by rw [List.getElem?_eq_getElem hi', eb]
          have k713 := hD7.sbkx sb713
          obtain ⟨pg, bv, hpg, hpt, rbv⟩ := rb_body (u := a) (ras7.mono k713) hib
          have hb13 := hb7.kx k713
          have has13 := has7.kx k713
          have hpc13 := hpc7.kx k713
          have ei : (0 : Int) + (i : Nat) = ((i : Nat) : Int) := by omega
          refine ⟨_, rfl, _, rfl, ba, _, 3, _, rfl, rfl, hb13.sq, rfl, _, rfl, asa, axs, _, _, rfl, rfl, has13.sq, by rw [ei]; exact atI_nat hpg, pg, _, 2, _, rfl, rfl, hpt.sq, rfl, ?_⟩
          refine ⟨_, rfl, _, rfl, _, rfl, (by show 1 ≤ sizeLine; decide), fun u1 m1 => ?_⟩
          have v1 := same_new m1 (.tup [.int ((0 : Int) + (i : Nat))])
          refine ⟨pc, u1, _, _, rfl, rfl, hpc13.same v1, .inl upd_same, small6' (by rw [nats_len, List.length_append, List.length_singleton]; show p.length + 1 + 1 ≤ 1000000; rw [← eplc]; omega), fun pk H14 v2 hpk => ⟨(by show 2 ≤ sizeLine; decide), fun u2 m2 => ⟨_, rfl, (by show 2 ≤ sizeLine; decide), fun u3 m3 => ⟨(by show 1 ≤ sizeLine; decide), fun u4 m4 => ?_⟩⟩⟩⟩
          rw [ei, nats_snoc] at hpk
          have v3 := same_new m2 (.tup [.str "ask", .ref pk])
          have v4 := same_new m3 (.tup [.ref u2, .int ((sxs.length : Nat) : Int)])
          have v5 := same_new m4 (.tup [.ref u3])
          have v15 := v1.trans (v2.trans (v3.trans (v4.trans v5)))
          refine ⟨la, u4, lxs, _, rfl, rfl, (hla.kx k713).same v15, .inl upd_same, small6' (by rw [llx]; show s.length + 1 + 1 ≤ 1000000; omega), fun lc H15 v6 hlc => ?_⟩
          have v16 := v15.trans v6
          have hc15 := v16 _ _ (sb713 _ _ hac hc7)
          have rlc : Rep K H15 (.ref lc) (playD (s ++ [asK s call k] ++ [⟨.ask ((p ++ [k]) ++ [0 + i]), some s.length⟩])) := by
            unfold playD
            rw [List.map_append]
            refine .tup hlc ((rla.mono (k713.trans (kx_same v16))).append (.one (.tup' (v6 _ _ (v5 _ _ upd_same)) (.cons (.tup' (v6 _ _ (v5 _ _ (v4 _ _ upd_same))) (.cons (.at rfl) (.one ?_))) (.one ?_)))))
            · rw [Nat.zero_add]
              exact .tup (((hpk.same v3).same v4).same (v5.trans v6)) (reps_nats _)
            · rw [lsx]
              exact .at rfl
          refine ⟨_, rfl, _, rfl, _, _, rfl, rfl, (by show 1 ≤ sizeLine; decide), fun q1 nq1 => ?_⟩
          have v7 := same_new nq1 (.lst [.int (((sxs.length : Nat) : Int) + 1)])
          refine ⟨c, q1, _, _, rfl, rfl, v7 _ _ hc15, upd_same, small6' (by rw [hcl]; show cs.length + 1 ≤ 1000000; omega), fun q2 nq2 => ?_⟩
          have v8 := same_new nq2 (.lst (nats cs.reverse ++ [.int (((sxs.length : Nat) : Int) + 1)]))
          have v18 := v16.trans (v7.trans v8)
          have hszs := szTs_at hib
          have hnas := nasksL_at hib
          have lps := rowsPs_len (as.take i) (p ++ [k]) (s ++ [asK s call k]) s.length cs 0
          have nb : nasks (.prog m b) = nasks b := rfl
          have sb' : szT (.prog m b) = szT b := rfl
          refine ⟨a, q2, bv, .ref lc, b, d :: ks, s ++ [asK s call k] ++ [⟨.ask ((p ++ [k]) ++ [0 + i]), some s.length⟩], (s.length + 1) :: cs, _, rfl, hD13.same v18, rbv.mono (kx_same v18), rlc.mono (kx_same (v7.trans v8)), ?_, wb, by rw [List.length_cons, List.length_cons, hlen], List.cons_ne_nil _ _,
            hA.arg (by rw [List.length_append, List.length_append, List.length_singleton, List.length_singleton, ← eplc]; omega), hcs.more _ _ _, by omega, by rw [List.length_append, List.length_append, List.length_singleton, List.length_singleton]; omega, by rw [List.length_cons]; omega, ?_, ?_, ?_, fun H16 hD16 sb16 => ?_⟩
          · rw [upd_same]
            show some (HO.lst (nats cs.reverse ++ [V.int (((sxs.length : Nat) : Int) + 1)])) = _
            rw [List.reverse_cons, show (((sxs.length : Nat) : Int) + 1) = ((s.length + 1 : Nat) : Int) by omega, nats_snoc]
          · intro k' hk'
            rcases List.mem_cons.mp hk' with rfl | hk'
            · exact KD.sub hd
            · exact hks k' hk'
          · rw [List.length_append, List.length_append, List.length_append, List.length_append, List.length_singleton]
            omega
          · intro r hr' zz
            rcases List.mem_append.mp hr' with mm | mm
            · rcases List.mem_append.mp mm with mm | mm
              · rcases List.mem_append.mp mm with mm | mm
                · rcases List.mem_append.mp mm with mm | mm
                  · exact hfr r mm (pre_snoc (pre_snoc zz))
                  · rw [List.mem_singleton.mp mm] at zz
                    exact pre_long (pre_snoc zz) rfl
                · exact fresh_of (rowsB_pre z _ _ r mm) (fun e => by
                    injection e with e
                    cases e) zz
              · exact fresh_of (rowsB_pre o _ _ r mm) (fun e => by
                  injection e with e
                  cases e) zz
            · obtain ⟨j, hj0, hj1, hj⟩ := rowsPs_pre (as.take i) _ _ _ _ _ r mm
              rw [List.length_take] at hj1
              refine fresh_of hj (fun e => ?_) zz
              injection e with e
              injection e with e
              have e := List.append_cancel_left e
              injection e with e
              omega
          · refine ⟨_, rfl, sb713.trans ((sb_same v18).trans sb16), ?_⟩
            rw [rowsPs_snoc (p ++ [k]) (s ++ [asK s call k]) s.length cs 0 hib, ← List.append_assoc]
            exact hD16
        · rintro σ H13 ⟨y8, rfl, sb713, hD13⟩
          refine rest _ _ ⟨_, _, _, _, _, rfl, ?_, sb7.trans sb713⟩
          have et : as.take ((axs.length : Nat) : Int).toNat = as := List.take_of_length_le (by omega)
          rw [et] at hD13
          have er : rows ++ rowsB (.ask up k as z o) s cs = rows ++ [(s, asK s call k)] ++ rowsB z (s ++ [asK s call k] ++ [⟨.say 0, some s.length⟩]) cs ++ rowsB o (s ++ [asK s call k] ++ [⟨.say 1, some s.length⟩]) cs ++ rowsPs as (p ++ [k]) (s ++ [asK s call k]) s.length cs 0 := by
            show rows ++ ((s, asK s (cs.getD up 0) k) :: (_ ++ (_ ++ _))) = _
            rw [hcall, eplc]
            simp only [List.append_assoc, List.cons_append, List.nil_append]
          rw [er]
          exact hD13
    · rintro σ H1 ⟨y4, y5, y6, y7, y8, rfl, hD1, sb1⟩
      exact ⟨_, rfl, q H1 hD1 sb1⟩
end
end Pk

set_option maxRecDepth 100000
set_option maxHeartbeats 4000000
set_option pp.maxSteps 600
namespace Pk
open PySem PySem.Spec PyProof.Rows L2
/-! ### _law_rows, _law_told_rows, _law_meaning -/
section
variable {P : Program} {w : World} {K : PySem.W.Frag} {mg : Str → Option Value} {base : Heap}
def progB : T → T
  | .prog _ b => b
  | t => t
abbrev rowsT (t : T) : List Row := rowsB (progB t) [BEG] [0]
def spRows (P : Program) (w : World) (K : PySem.W.Frag) : Sp := fun vs H Q _ => ∃ (v : V) (t : T) (kd : D), vs = [v] ∧ Rep K H v (toD t) ∧ wfP [] kd t = true ∧ Kd kd ∧ nasks t ≤ 100 ∧ szT t ≤ 90000 ∧
  ∀ (a : Addr) (H' : Hp), DR P w K H' a (rowsT t) → Same H H' → H a = none → Q (.ref a) H'
theorem ok_rows {f g : Addr} {fd gd : FuncData} (D__law_rows : Df K mg "_law_rows" s__law_rows ["program"] f fd) (D__law_rows_behind : Df K mg "_law_rows_behind" s__law_rows_behind ["rows", "body", "sight", "calls"] g gd) (B : Bt mg) : FnOk P w K mg base CX0 102 f fd ["program"] (spRows P w K) := by
  have G__law_rows_behind : FnOk P w K mg base CX0 101 g gd ["rows", "body", "sight", "calls"] (spRB P w K 101) := ok_rb D__law_rows_behind B 101
  refine D__law_rows.ok c__law_rows (fun vs H Q E h => ?_) (fun cdv A outer s0 H vs Q E hr h => ?_)
  · obtain ⟨v, t, kd, rfl, _⟩ := h
    rfl
  obtain ⟨v, t, kd, rfl, rv, hw, hk, hn, hz, q⟩ := h
  have nd := c__law_rows.nd
  refine ⟨_, (pss_one (ps_ret (pe_call G__law_rows_behind (hr.mono (by first | decide | omega)) (by rfl) D__law_rows_behind.m D__law_rows_behind.kp D__law_rows_behind.b .nil pass0 (pa_cons (show PE _ _ (tDkNew P w) from pe_dkNew) (pa_cons (pe_ix ix_tup (pv 0) pe_int (fun _ _ => rfl)) (pa_cons (pe_tup (pa_cons (pe_tup (pa_cons (pe_tup (pa_cons pe_str (pa_cons (pe_tup pa_nil) pa_nil))) (pa_cons pe_non pa_nil))) pa_nil)) (pa_cons (pe_lst (pa_cons pe_int pa_nil)) pa_nil))))))), ?_⟩
  obtain ⟨m, b, rfl, em, wb⟩ := wfP_inv hw
  obtain ⟨pa, bv, rfl, hp, rb⟩ := prog_inv rv
  refine fun a na => ?_
  have s0 := same_new na (DkO P w a [])
  refine ⟨_, rfl, pa, _, 2, _, rfl, rfl, (hp.same s0).sq, rfl, (by show 0 ≤ sizeLine; decide), fun t1 n1 => ⟨(by show 2 ≤ sizeLine; decide), fun t2 n2 => ⟨(by show 2 ≤ sizeLine; decide), fun t3 n3 => ⟨(by show 1 ≤ sizeLine; decide), fun t4 n4 => ⟨(by show 1 ≤ sizeLine; decide), fun c nc => ?_⟩⟩⟩⟩⟩
  have u5 := same_new nc (.lst [.int 0])
  have u4 := (same_new n4 (.tup [.ref t3])).trans u5
  have u3 := (same_new n3 (.tup [.ref t2, .non])).trans u4
  have u2 := (same_new n2 (.tup [.str "ask", .ref t1])).trans u3
  have u1 := (same_new n1 (.tup [])).trans u2
  have s1 := s0.trans u1
  refine ⟨a, c, bv, .ref t4, b, [kd], [BEG], [0], [], rfl, ⟨[], u1 _ _ upd_same, .nil⟩, rb.mono (kx_same s1), ?_, upd_same, wb, rfl, List.cons_ne_nil _ _, OkS.one, ?_, by show nasks b < 101; exact Nat.lt_succ_of_le hn, ?_, ?_, ?_, ?_, ?_, fun H' hD sb => ?_⟩
  · exact .tup' (u5 _ _ upd_same) (.one (.tup' (u4 _ _ upd_same) (.cons (.tup' (u3 _ _ upd_same) (.cons (.at rfl) (.one (.tup' (u2 _ _ upd_same) .nil)))) (.one (.at rfl)))))
  · intro x hx
    rw [List.mem_singleton.mp hx]
    exact ⟨[], none, rfl⟩
  · have : nasks b ≤ 100 := hn
    show 1 + 2 * nasks b ≤ 1000
    omega
  · have : nasks b ≤ 100 := hn
    show 1 + nasks b ≤ 1000
    omega
  · intro k hk'
    rw [List.mem_singleton.mp hk']
    exact hk
  · have : szT b ≤ 90000 := hz
    show 0 + szT b ≤ 100000
    omega
  · intro e he
    cases he
  · refine q a H' hD (fun o u e => sb o u (ne_of_none e na) (s1 _ _ e)) na
def stratD (kd : D) (rows : List Row) : D := .tup [.at (.str "strategy"), kd, .tup (rows.map rowD)]
def spTold (P : Program) (w : World) (K : PySem.W.Frag) : Sp := fun vs H Q _ => ∃ (v : V) (kd : D) (a : Addr) (rows : List Row), vs = [v, .ref a] ∧ Rep K H v kd ∧ DR P w K H a rows ∧ (keysR rows).Nodup ∧ (∀ r ∈ rows, OkR r) ∧ rows.length ≤ 500000 ∧
  ∀ (z : V) (H' : Hp), Same H H' → Rep K H' z (stratD kd (sortR rows)) → Q z H'
theorem sortP_len (rows : List Row) : (sortP (keysR rows)).length = rows.length := by
  rw [(sortE_perm _ _).length_eq]
  exact List.length_map _
theorem rowsT_ok {kd : D} {t : T} (hw : wfP [] kd t = true) : ∀ r ∈ rowsT t, OkR r := fun r hr => by
  obtain ⟨m, b, rfl, em, wb⟩ := wfP_inv hw
  have := rowsB_ok b [kd] [BEG] [0] wb rfl OkS.one (fun x hx => by
    rw [List.mem_singleton.mp hx]
    exact ⟨[], none, rfl⟩) r hr
  exact ⟨this.1, this.2.1⟩
theorem rowsT_len (t : T) : (rowsT t).length ≤ szT (progB t) := rowsB_len _ _ _
end
end Pk

set_option maxRecDepth 100000
set_option maxHeartbeats 4000000
set_option pp.maxSteps 600
namespace Pk
open PySem PySem.Spec PyProof.Rows L2
def OpOk (pl : List Stp) : Prop := ∀ n u b, pl[n]? = some ⟨.say u, b⟩ → ∃ j, b = some j ∧ j ∈ opens pl n
theorem opens_len (pl : List Stp) (m : Nat) : (opens pl m).length ≤ m := by
  induction m with
  | zero => exact Nat.le_refl 0
  | succ m ih =>
    cases hs : pl[m]? with
    | none =>
      have e : opens pl (m + 1) = opens pl m := by
        show (match pl[m]? with | some s => opnS (opens pl m) m s | none => opens pl m) = _
        rw [hs]
      rw [e]
      omega
    | some s =>
      rw [opens_succ hs]
      unfold opnS
      split
      · rw [List.length_append, List.length_singleton]
        omega
      · have := List.length_filter_le (fun j => decide (some j ≠ s.back)) (opens pl m)
        omega
/-! ### the kind at a place -/
def atD : D → List Nat → Option D
  | d, [] => some d
  | .tup ts, k :: p => match ts[k]? with
    | some t => atD t p
    | none => none
  | _, _ :: _ => none
theorem atD_cons {d e : D} {k : Nat} {p : List Nat} (h : atD d (k :: p) = some e) : ∃ ts t, d = .tup ts ∧ ts[k]? = some t ∧ atD t p = some e := by
  cases d with
  | «at» _ => cases h
  | lst => cases h
  | tup ts =>
    have h' : (match ts[k]? with | some t => atD t p | none => none) = some e := h
    cases ht : ts[k]? with
    | none =>
      rw [ht] at h'
      cases h'
    | some t =>
      rw [ht] at h'
      exact ⟨ts, t, rfl, ht, h'⟩
theorem atD_snoc : ∀ (p : List Nat) (d : D) (ts : List D) (k : Nat) (t : D), atD d p = some (.tup ts) → ts[k]? = some t → atD d (p ++ [k]) = some t
  | [], d, ts, k, t, h, hk => by
    have e : d = .tup ts := by
      cases d <;> exact Option.some.inj h
    subst e
    show (match ts[k]? with | some t => atD t [] | none => none) = some t
    rw [hk]
    cases t <;> rfl
  | j :: p, d, ts, k, t, h, hk => by
    obtain ⟨us, u, rfl, hu, h'⟩ := atD_cons h
    show (match us[j]? with | some t => atD t (p ++ [k]) | none => none) = some t
    rw [hu]
    exact atD_snoc p u ts k t h' hk
theorem atD_kind : ∀ (p : List Nat) (d e : D), isK d = true → atD d p = some e → isK e = true ∧ sz e ≤ sz d
  | [], d, e, hk, h => by
    have e0 : d = e := by cases d <;> exact Option.some.inj h
    subst e0
    exact ⟨hk, Nat.le_refl _⟩
  | k :: p, d, e, hk, h => by
    obtain ⟨ts, t, rfl, ht, h'⟩ := atD_cons h
    have m := List.mem_of_getElem? ht
    obtain ⟨i1, i2⟩ := atD_kind p t e (isK_mem hk m) h'
    have := sz_mem m
    exact ⟨i1, by show sz e ≤ szs ts + 1; omega⟩
/-! ### plays that go on legally -/
structure LP (kd : D) (pl : List Stp) : Prop where
  wb : WB pl
  ws : WS pl
  op : OpOk pl
  pa : ∀ (n : Nat) (p : List Nat) (b : Option Nat), pl[n]? = some (Stp.mk (.ask p) b) → ∃ e, atD kd p = some e
  len : pl.length ≤ 40
def Nxt (kd : D) (pl : List Stp) (s : Stp) : Prop := (pl = [] ∧ s = ⟨.ask [], none⟩) ∨ (pl ≠ [] ∧ ∃ j, s.back = some j ∧ j ∈ sight pl (pl.length - 1) ∧ ((∃ p e, s.mv = .ask p ∧ atD kd p = some e) ∨ ∃ v, s.mv = .say v ∧ j ∈ opens pl pl.length))
theorem LP.nil (kd : D) : LP kd [] := by
  refine ⟨⟨fun s e => ?_, fun n s _ e => ?_⟩, fun n _ h => absurd h (Nat.not_lt_zero n), fun n u b e => ?_, fun n p b e => ?_, Nat.zero_le _⟩
  all_goals simp at e
theorem LP.snoc {kd : D} {pl : List Stp} {s : Stp} (h : LP kd pl) (n : Nxt kd pl s) (hl : pl.length < 40) : LP kd (pl ++ [s]) := by
  have old : ∀ {m : Nat}, m < pl.length → (pl ++ [s])[m]? = pl[m]? := fun hm => List.getElem?_append_left hm
  have new : (pl ++ [s])[pl.length]? = some s := by
    rw [List.getElem?_append_right (Nat.le_refl _), Nat.sub_self]
    rfl
  have none_ : ∀ {m : Nat}, pl.length < m → (pl ++ [s])[m]? = none := fun hm => List.getElem?_eq_none (by rw [List.length_append, List.length_singleton]; omega)
  have back : pl ≠ [] → ∃ j, s.back = some j ∧ j ∈ sight pl (pl.length - 1) ∧ j < pl.length := fun hne => by
    rcases n with ⟨e, _⟩ | ⟨_, j, e1, e2, _⟩
    · exact absurd e hne
    · have hp : 0 < pl.length := List.length_pos_iff.mpr hne
      have := (sight_up h.wb (pl.length - 1) (by omega)).2 j e2
      exact ⟨j, e1, e2, by omega⟩
  have w : WB (pl ++ [s]) := by
    refine ⟨fun t e => ?_, fun m t h0 e => ?_⟩
    · by_cases hne : pl = []
      · subst hne
        rcases n with ⟨_, e2⟩ | ⟨e2, _⟩
        · have : some s = some t := e
          rw [← Option.some.inj this]
          exact e2
        · exact absurd rfl e2
      · rw [old (List.length_pos_iff.mpr hne)] at e
        exact h.wb.first t e
    · rcases Nat.lt_trichotomy m pl.length with hm | hm | hm
      · rw [old hm] at e
        exact h.wb.later m t h0 e
      · subst hm
        rw [new] at e
        obtain ⟨j, e1, _, e3⟩ := back (List.length_pos_iff.mp h0)
        rw [← Option.some.inj e]
        exact ⟨j, e1, e3⟩
      · rw [none_ hm] at e
        cases e
  have et : (pl ++ [s]).take pl.length = pl := by
    rw [List.take_append_of_le_length (Nat.le_refl _), List.take_length]
  have sg : ∀ m, m < pl.length → sight (pl ++ [s]) m = sight pl m := fun m hm => by
    have := sight_take w (k := pl.length) hm (by rw [List.length_append]; omega)
    rw [et] at this
    exact this.symm
  have so : ∀ m, m ≤ pl.length → opens (pl ++ [s]) m = opens pl m := fun m hm => by
    have := opens_take (pl ++ [s]) pl.length m hm
    rw [et] at this
    exact this.symm
  have sb : ∀ m, m < pl.length → bk (pl ++ [s]) m = bk pl m := fun m hm => by
    unfold bk
    rw [old hm]
  refine ⟨w, fun m h0 hm => ?_, fun m u b e => ?_, fun m p b e => ?_, by rw [List.length_append, List.length_singleton]; omega⟩
  · rw [List.length_append, List.length_singleton] at hm
    by_cases hlt : m < pl.length
    · rw [sb m hlt, sg (m - 1) (by omega)]
      exact h.ws m h0 hlt
    · have em : m = pl.length := by omega
      subst em
      obtain ⟨j, e1, e2, e3⟩ := back (List.length_pos_iff.mp h0)
      have eb : bk (pl ++ [s]) pl.length = j := by
        unfold bk
        rw [new]
        show (s.back).getD 0 = j
        rw [e1]
        rfl
      rw [eb, sg (pl.length - 1) (by omega)]
      exact e2
  · rcases Nat.lt_trichotomy m pl.length with hm | hm | hm
    · rw [old hm] at e
      rw [so m (by omega)]
      exact h.op m u b e
    · subst hm
      rw [new] at e
      have es := Option.some.inj e
      rw [so pl.length (Nat.le_refl _)]
      rcases n with ⟨_, e2⟩ | ⟨_, j, e1, _, ⟨p, _, e3, _⟩ | ⟨v, e3, e4⟩⟩
      · rw [es] at e2
        cases e2
      · rw [es] at e3
        cases e3
      · rw [es] at e1
        exact ⟨j, e1, e4⟩
    · rw [none_ hm] at e
      cases e
  · rcases Nat.lt_trichotomy m pl.length with hm | hm | hm
    · rw [old hm] at e
      exact h.pa m p b e
    · subst hm
      rw [new] at e
      have es := Option.some.inj e
      rcases n with ⟨_, e2⟩ | ⟨_, j, e1, _, ⟨q, e', e3, e4⟩ | ⟨v, e3, e4⟩⟩
      · rw [es] at e2
        injection e2 with e2 _
        injection e2 with e2
        subst e2
        exact ⟨kd, by cases kd <;> rfl⟩
      · rw [es] at e3
        injection e3 with e3
        subst e3
        exact ⟨e', e4⟩
      · rw [es] at e3
        cases e3
    · rw [none_ hm] at e
      cases e
theorem LP.take {kd : D} {pl : List Stp} (h : LP kd pl) (k : Nat) : LP kd (pl.take k) := by
  have old : ∀ {m : Nat}, m < k → (pl.take k)[m]? = pl[m]? := fun hm => List.getElem?_take_of_lt hm
  have lk : (pl.take k).length ≤ pl.length := by rw [List.length_take]; omega
  have hk : ∀ {m : Nat} {s : Stp}, (pl.take k)[m]? = some s → m < k := fun e => by
    have := (List.getElem?_eq_some_iff.mp e).1
    rw [List.length_take] at this
    omega
  refine ⟨h.wb.take k, fun m h0 hm => ?_, fun m u b e => ?_, fun m p b e => ?_, Nat.le_trans lk h.len⟩
  · rw [List.length_take] at hm
    rw [bk_take pl (by omega), sight_take h.wb (by omega) (by omega)]
    exact h.ws m h0 (by omega)
  · have hm := hk e
    rw [old hm] at e
    rw [opens_take pl k m (by omega)]
    exact h.op m u b e
  · have hm := hk e
    rw [old hm] at e
    exact h.pa m p b e
/-! ### the rows that go on legally, as they are made -/
def lastL (ns : List Nat) : List Nat := ns.drop (ns.length - 1)
theorem lastL_mem {ns : List Nat} {j : Nat} : j ∈ lastL ns ↔ ns.getLast? = some j := by
  unfold lastL
  rcases List.eq_nil_or_concat ns with rfl | ⟨r, a, rfl⟩
  · simp
  · rw [List.concat_eq_append, List.length_append, List.length_singleton, Nat.add_sub_cancel, List.drop_left, List.getLast?_append]
    simp [eq_comm]
theorem lastL_nodup (ns : List Nat) : (lastL ns).Nodup := by
  unfold lastL
  rcases List.eq_nil_or_concat ns with rfl | ⟨r, a, rfl⟩
  · simp
  · rw [List.concat_eq_append, List.length_append, List.length_singleton, Nat.add_sub_cancel, List.drop_left]
    simp
def kids (kd : D) (p : List Nat) : Nat := match atD kd p with
  | some (.tup ts) => ts.length
  | _ => 0
def askPl (pl : List Stp) (j : Nat) : Option (List Nat) := match pl[j]? with
  | some ⟨.ask p, _⟩ => some p
  | _ => none
def kidsOf (kd : D) (p : List Nat) (j : Nat) (k : Nat) : List Stp := (List.range k).map fun k => ⟨.ask (p ++ [k]), some j⟩
def says (j : Nat) : List Stp := [⟨.say 0, some j⟩, ⟨.say 1, some j⟩]
def asksAt (kd : D) (pl : List Stp) (j : Nat) : List Stp := match askPl pl j with
  | some p => kidsOf kd p j (kids kd p)
  | none => []
def stepsTo (kd : D) (pl : List Stp) (j : Nat) : List Stp := match askPl pl j with
  | some p => kidsOf kd p j (kids kd p) ++ says j
  | none => []
def askRows (kd : D) (pl : List Stp) (j : Nat) : List Stp := if (pl.length - j) % 2 = 1 then asksAt kd pl j else []
def sayRows (pl : List Stp) (j : Nat) : List Stp := if j ∈ sight pl (pl.length - 1) ∧ (pl.length - j) % 2 = 1 then says j else []
def rows (kd : D) (pl : List Stp) : List Stp := (sight pl (pl.length - 1)).flatMap (askRows kd pl) ++ (lastL (opens pl pl.length)).flatMap (sayRows pl)
def lawR (kd : D) (pl : List Stp) : List Stp := if pl = [] then [BEG] else sortE tokS (rows kd pl)
def plB (kd : D) (pl : List Stp) (j : Nat) (m : Mv) : Bool := match askPl pl j with
  | none => false
  | some q => match m with
    | .say _ => true
    | .ask p => decide (p ≠ []) && (decide (p.dropLast = q) && (atD kd p).isSome)
def lgB (kd : D) (pl : List Stp) (ns : List Nat) (s : Stp) : Bool := match s.back with
  | none => false
  | some j => decide ((pl.length - j) % 2 = 1) && (plB kd pl j s.mv && ((match s.mv with
    | .ask _ => true
    | .say _ => decide (ns.getLast? = some j)) && decide (j ∈ sight pl (pl.length - 1))))
/-- a say says 0 or 1 -/
def ShS (s : Stp) : Prop := ∀ u, s.mv = .say u → u ≤ 1
theorem mem_kids {kd : D} {p : List Nat} {j n : Nat} {s : Stp} : s ∈ kidsOf kd p j n ↔ ∃ k, k < n ∧ s = ⟨.ask (p ++ [k]), some j⟩ := by
  unfold kidsOf
  rw [List.mem_map]
  exact ⟨fun ⟨k, h, e⟩ => ⟨k, List.mem_range.mp h, e.symm⟩, fun ⟨k, h, e⟩ => ⟨k, List.mem_range.mpr h, e.symm⟩⟩
theorem mem_says {j : Nat} {s : Stp} : s ∈ says j ↔ ∃ u, u ≤ 1 ∧ s = ⟨.say u, some j⟩ := by
  unfold says
  rw [List.mem_cons, List.mem_singleton]
  constructor
  · rintro (rfl | rfl)
    · exact ⟨0, by omega, rfl⟩
    · exact ⟨1, by omega, rfl⟩
  · rintro ⟨u, h, rfl⟩
    have : u = 0 ∨ u = 1 := by omega
    rcases this with rfl | rfl
    · exact .inl rfl
    · exact .inr rfl
theorem askPl_some {pl : List Stp} {j : Nat} {p : List Nat} (h : askPl pl j = some p) : ∃ b, pl[j]? = some ⟨.ask p, b⟩ := by
  unfold askPl at h
  split at h
  · next q b e =>
    cases h
    exact ⟨b, e⟩
  · cases h
theorem askPl_of {pl : List Stp} {j : Nat} {p : List Nat} {b : Option Nat} (h : pl[j]? = some ⟨.ask p, b⟩) : askPl pl j = some p := by
  unfold askPl
  rw [h]
theorem askPl_say {pl : List Stp} {j v : Nat} {b : Option Nat} (h : pl[j]? = some ⟨.say v, b⟩) : askPl pl j = none := by
  unfold askPl
  rw [h]
/-- an ask's kid stands in the kind, as many as there are -/
theorem kids_at {kd : D} (hk : isK kd = true) {p : List Nat} {k : Nat} : k < kids kd p ↔ (atD kd (p ++ [k])).isSome = true := by
  constructor
  · intro h
    unfold kids at h
    split at h
    · next ts e =>
      rw [atD_snoc p kd ts k _ e (List.getElem?_eq_getElem h)]
      rfl
    · omega
  · intro h
    obtain ⟨e, he⟩ := Option.isSome_iff_exists.mp h
    have key : ∀ (p : List Nat) (d : D), atD d (p ++ [k]) = some e → ∃ ts, atD d p = some (.tup ts) ∧ k < ts.length := by
      intro p
      induction p with
      | nil =>
        intro d h
        obtain ⟨ts, t, rfl, ht, _⟩ := atD_cons h
        exact ⟨ts, rfl, (List.getElem?_eq_some_iff.mp ht).1⟩
      | cons i p ih =>
        intro d h
        obtain ⟨ts, t, rfl, ht, h'⟩ := atD_cons (k := i) (p := p ++ [k]) h
        obtain ⟨us, h1, h2⟩ := ih t h'
        refine ⟨us, ?_, h2⟩
        show (match ts[i]? with | some t => atD t p | none => none) = some (.tup us)
        rw [ht]
        exact h1
    obtain ⟨ts, h1, h2⟩ := key p kd he
    unfold kids
    rw [h1]
    exact h2
theorem dl_snoc {p q : List Nat} (h : p ≠ []) (e : p.dropLast = q) : ∃ k, p = q ++ [k] := by
  rcases List.eq_nil_or_concat p with rfl | ⟨r, a, rfl⟩
  · exact absurd rfl h
  · rw [List.concat_eq_append, List.dropLast_concat] at e
    exact ⟨a, by rw [List.concat_eq_append, e]⟩
theorem plB_ask {kd : D} (hk : isK kd = true) {pl : List Stp} {j : Nat} {p : List Nat} : plB kd pl j (.ask p) = true ↔ ∃ q k, askPl pl j = some q ∧ k < kids kd q ∧ p = q ++ [k] := by
  unfold plB
  cases hq : askPl pl j with
  | none => exact ⟨fun h => (by cases h), fun ⟨_, _, h, _⟩ => (by cases h)⟩
  | some q =>
    show (decide (p ≠ []) && (decide (p.dropLast = q) && (atD kd p).isSome)) = true ↔ _
    constructor
    · intro h
      obtain ⟨h1, h2⟩ := Bool.and_eq_true_iff.mp h
      obtain ⟨h2, h3⟩ := Bool.and_eq_true_iff.mp h2
      obtain ⟨k, rfl⟩ := dl_snoc (of_decide_eq_true h1) (of_decide_eq_true h2)
      exact ⟨q, k, rfl, (kids_at hk).mpr h3, rfl⟩
    · rintro ⟨q', k, e, h, rfl⟩
      cases e
      rw [(kids_at hk).mp h, List.dropLast_concat, decide_eq_true rfl, decide_eq_true (by simp)]
      rfl
theorem plB_say {kd : D} {pl : List Stp} {j v : Nat} : plB kd pl j (.say v) = true ↔ ∃ q, askPl pl j = some q := by
  unfold plB
  cases hq : askPl pl j with
  | none => exact ⟨fun h => (by cases h), fun ⟨_, h⟩ => (by cases h)⟩
  | some q => exact ⟨fun _ => ⟨q, rfl⟩, fun _ => rfl⟩
theorem lg_ask {kd : D} (hk : isK kd = true) {pl : List Stp} {ns : List Nat} {p : List Nat} {b : Option Nat} :
    lgB kd pl ns ⟨.ask p, b⟩ = true ↔ ∃ j q k, b = some j ∧ (pl.length - j) % 2 = 1 ∧ askPl pl j = some q ∧ k < kids kd q ∧ p = q ++ [k] ∧ j ∈ sight pl (pl.length - 1) := by
  cases b with
  | none => exact ⟨fun h => (by cases h), fun ⟨_, _, _, h, _⟩ => (by cases h)⟩
  | some j =>
    show (decide ((pl.length - j) % 2 = 1) && (plB kd pl j (.ask p) && (true && decide (j ∈ sight pl (pl.length - 1))))) = true ↔ _
    simp only [Bool.and_eq_true, decide_eq_true_eq, Bool.true_and, plB_ask hk]
    constructor
    · rintro ⟨h1, ⟨q, k, h2, h3, h4⟩, h5⟩
      exact ⟨j, q, k, rfl, h1, h2, h3, h4, h5⟩
    · rintro ⟨j', q, k, e, h1, h2, h3, h4, h5⟩
      cases e
      exact ⟨h1, ⟨q, k, h2, h3, h4⟩, h5⟩
theorem lg_say {kd : D} {pl : List Stp} {ns : List Nat} {v : Nat} {b : Option Nat} :
    lgB kd pl ns ⟨.say v, b⟩ = true ↔ ∃ j q, b = some j ∧ (pl.length - j) % 2 = 1 ∧ askPl pl j = some q ∧ ns.getLast? = some j ∧ j ∈ sight pl (pl.length - 1) := by
  cases b with
  | none => exact ⟨fun h => (by cases h), fun ⟨_, _, h, _⟩ => (by cases h)⟩
  | some j =>
    show (decide ((pl.length - j) % 2 = 1) && (plB kd pl j (.say v) && (decide (ns.getLast? = some j) && decide (j ∈ sight pl (pl.length - 1))))) = true ↔ _
    simp only [Bool.and_eq_true, decide_eq_true_eq, plB_say]
    constructor
    · rintro ⟨h1, ⟨q, h2⟩, h3, h5⟩
      exact ⟨j, q, rfl, h1, h2, h3, h5⟩
    · rintro ⟨j', q, e, h1, h2, h3, h5⟩
      cases e
      exact ⟨h1, ⟨q, h2⟩, h3, h5⟩
theorem mem_rows {kd : D} (hk : isK kd = true) {pl : List Stp} {s : Stp} : s ∈ rows kd pl ↔ lgB kd pl (opens pl pl.length) s = true ∧ ShS s := by
  unfold rows
  rw [List.mem_append, List.mem_flatMap, List.mem_flatMap]
  obtain ⟨m, b⟩ := s
  cases m with
  | ask p =>
    rw [lg_ask hk]
    constructor
    · rintro (⟨j, hj, h⟩ | ⟨j, hj, h⟩)
      · unfold askRows at h
        split at h
        · next ho =>
          unfold asksAt at h
          split at h
          · next q hq =>
            obtain ⟨k, hk2, e⟩ := mem_kids.mp h
            cases e
            exact ⟨⟨j, q, k, rfl, ho, hq, hk2, rfl, hj⟩, fun u e => by cases e⟩
          · cases h
        · cases h
      · unfold sayRows at h
        split at h
        · obtain ⟨u, _, e⟩ := mem_says.mp h
          cases e
        · cases h
    · rintro ⟨⟨j, q, k, rfl, ho, hq, hk2, rfl, hj⟩, _⟩
      refine .inl ⟨j, hj, ?_⟩
      unfold askRows asksAt
      rw [if_pos ho, hq]
      exact mem_kids.mpr ⟨k, hk2, rfl⟩
  | say v =>
    rw [lg_say]
    constructor
    · rintro (⟨j, hj, h⟩ | ⟨j, hj, h⟩)
      · unfold askRows at h
        split at h
        · unfold asksAt at h
          split at h
          · obtain ⟨k, _, e⟩ := mem_kids.mp h
            cases e
          · cases h
        · cases h
      · unfold sayRows at h
        split at h
        · next hs =>
          obtain ⟨u, hu, e⟩ := mem_says.mp h
          cases e
          have hl := lastL_mem.mp hj
          obtain ⟨q, b, hq⟩ := opens_ask pl pl.length j (List.mem_of_getLast? hl)
          exact ⟨⟨j, q, rfl, hs.2, askPl_of hq, hl, hs.1⟩, fun u e => by cases e; exact hu⟩
        · cases h
    · rintro ⟨⟨j, q, rfl, ho, hq, hl, hj⟩, hs⟩
      refine .inr ⟨j, lastL_mem.mpr hl, ?_⟩
      unfold sayRows
      rw [if_pos ⟨hj, ho⟩]
      exact mem_says.mpr ⟨v, hs v rfl, rfl⟩
/-! ### no row twice -/
theorem kids_nodup (kd : D) (p : List Nat) (j n : Nat) : (kidsOf kd p j n).Nodup := by
  unfold kidsOf
  refine List.pairwise_map.mpr (List.nodup_range.imp fun {a b} h e => h ?_)
  injection e with e _
  injection e with e
  have := List.append_cancel_left e
  injection this
theorem says_nodup (j : Nat) : (says j).Nodup := by
  unfold says
  refine List.pairwise_cons.mpr ⟨fun a ha e => ?_, List.pairwise_singleton _ _⟩
  rw [List.mem_singleton.mp ha] at e
  injection e with e _
  injection e with e
  cases e
theorem stepsTo_back {kd : D} {pl : List Stp} {j : Nat} {s : Stp} (h : s ∈ stepsTo kd pl j) : s.back = some j := by
  unfold stepsTo at h
  split at h
  · rcases List.mem_append.mp h with h | h
    · obtain ⟨k, _, rfl⟩ := mem_kids.mp h
      rfl
    · obtain ⟨u, _, rfl⟩ := mem_says.mp h
      rfl
  · cases h
theorem stepsTo_nodup (kd : D) (pl : List Stp) (j : Nat) : (stepsTo kd pl j).Nodup := by
  unfold stepsTo
  split
  · refine List.nodup_append.mpr ⟨kids_nodup _ _ _ _, says_nodup _, fun a ha b hb e => ?_⟩
    subst e
    obtain ⟨k, _, rfl⟩ := mem_kids.mp ha
    obtain ⟨u, _, e⟩ := mem_says.mp hb
    cases e
  · exact List.nodup_nil
theorem flat_nodup {f : Nat → List Stp} {ns : List Nat} (hn : ns.Nodup) (h1 : ∀ j, (f j).Nodup) (h2 : ∀ j s, s ∈ f j → s.back = some j) : (ns.flatMap f).Nodup := by
  refine List.pairwise_flatMap.mpr ⟨fun j _ => h1 j, hn.imp fun {a b} hab x hx y hy e => hab ?_⟩
  subst e
  have := (h2 a x hx).symm.trans (h2 b x hy)
  exact Option.some.inj this
theorem askRows_sub {kd : D} {pl : List Stp} {j : Nat} {s : Stp} (h : s ∈ askRows kd pl j) : ∃ p k, s = ⟨.ask (p ++ [k]), some j⟩ := by
  unfold askRows at h
  split at h
  · unfold asksAt at h
    split at h
    · next q _ =>
      obtain ⟨k, _, e⟩ := mem_kids.mp h
      exact ⟨q, k, e⟩
    · cases h
  · cases h
theorem sayRows_sub {pl : List Stp} {j : Nat} {s : Stp} (h : s ∈ sayRows pl j) : ∃ u, s = ⟨.say u, some j⟩ := by
  unfold sayRows at h
  split at h
  · obtain ⟨u, _, e⟩ := mem_says.mp h
    exact ⟨u, e⟩
  · cases h
theorem rows_nodup (kd : D) {pl : List Stp} (hn : (sight pl (pl.length - 1)).Nodup) : (rows kd pl).Nodup := by
  refine List.nodup_append.mpr ⟨flat_nodup hn (fun j => ?_) (fun j s h => ?_), flat_nodup (lastL_nodup _) (fun j => ?_) (fun j s h => ?_), fun a ha b hb e => ?_⟩
  · unfold askRows asksAt
    split
    · split
      · exact kids_nodup _ _ _ _
      · exact List.nodup_nil
    · exact List.nodup_nil
  · obtain ⟨_, _, rfl⟩ := askRows_sub h
    rfl
  · unfold sayRows
    split
    · exact says_nodup _
    · exact List.nodup_nil
  · obtain ⟨_, rfl⟩ := sayRows_sub h
    rfl
  · subst e
    obtain ⟨_, _, h1⟩ := List.mem_flatMap.mp ha
    obtain ⟨_, _, h2⟩ := List.mem_flatMap.mp hb
    obtain ⟨_, _, rfl⟩ := askRows_sub h1
    obtain ⟨_, e⟩ := sayRows_sub h2
    cases e
/-- the program's way to the rows -/
def progR (kd : D) (pl : List Stp) : List Stp := ((sight pl (pl.length - 1)).flatMap (stepsTo kd pl)).filter (lgB kd pl (opens pl pl.length))
theorem mem_progR {kd : D} (hk : isK kd = true) {pl : List Stp} {s : Stp} : s ∈ progR kd pl ↔ lgB kd pl (opens pl pl.length) s = true ∧ ShS s := by
  unfold progR
  rw [List.mem_filter, List.mem_flatMap]
  constructor
  · rintro ⟨⟨j, hj, h⟩, hl⟩
    refine ⟨hl, fun u e => ?_⟩
    unfold stepsTo at h
    split at h
    · rcases List.mem_append.mp h with h | h
      · obtain ⟨k, _, rfl⟩ := mem_kids.mp h
        cases e
      · obtain ⟨v, hv, rfl⟩ := mem_says.mp h
        cases e
        exact hv
    · cases h
  · rintro ⟨hl, hs⟩
    refine ⟨?_, hl⟩
    obtain ⟨m, b⟩ := s
    cases m with
    | ask p =>
      obtain ⟨j, q, k, rfl, ho, hq, hk2, rfl, hj⟩ := (lg_ask hk).mp hl
      refine ⟨j, hj, ?_⟩
      unfold stepsTo
      rw [hq]
      exact List.mem_append_left _ (mem_kids.mpr ⟨k, hk2, rfl⟩)
    | say v =>
      obtain ⟨j, q, rfl, ho, hq, hl, hj⟩ := lg_say.mp hl
      refine ⟨j, hj, ?_⟩
      unfold stepsTo
      rw [hq]
      exact List.mem_append_right _ (mem_says.mpr ⟨v, hs v rfl, rfl⟩)
theorem progR_perm {kd : D} (hk : isK kd = true) {pl : List Stp} (hn : (sight pl (pl.length - 1)).Nodup) : (progR kd pl).Perm (rows kd pl) := by
  refine (List.perm_ext_iff_of_nodup ?_ (rows_nodup kd hn)).mpr fun s => by rw [mem_progR hk, mem_rows hk]
  exact (flat_nodup hn (fun j => stepsTo_nodup kd pl j) (fun j s h => stepsTo_back h)).filter _
/-! ### sorted in one way -/
theorem sortE_eq {bs cs : List Stp} (h : bs.Perm cs) (hi : ∀ b ∈ bs, ∀ c ∈ bs, tokS b = tokS c → b = c) : sortE tokS bs = sortE tokS cs := by
  have T := PySem.W.sortLe_total (listOrd itemOrd) false tokS
  have tot : ∀ a b : Stp, (PySem.W.sortLe (listOrd itemOrd) false tokS a b || PySem.W.sortLe (listOrd itemOrd) false tokS b a) = true := fun a b => by
    rw [Bool.or_eq_true]
    exact T.total a b
  refine List.Perm.eq_of_pairwise (le := fun a b => PySem.W.sortLe (listOrd itemOrd) false tokS a b = true) (fun a b ha hb h1 h2 => ?_) (List.pairwise_mergeSort T.trans tot bs) (List.pairwise_mergeSort T.trans tot cs)
    ((sortE_perm tokS bs).trans (h.trans (sortE_perm tokS cs).symm))
  have ha' := (sortE_perm tokS bs).mem_iff.mp ha
  have hb' := h.mem_iff.mpr ((sortE_perm tokS cs).mem_iff.mp hb)
  refine hi a ha' b hb' ((listOrd itemOrd).total _ _ ?_ ?_)
  · have h2' : (!(listOrd itemOrd).blt (tokS a) (tokS b)) = true := h2
    rw [Bool.not_eq_true'] at h2'
    exact h2'
  · have h1' : (!(listOrd itemOrd).blt (tokS b) (tokS a)) = true := h1
    rw [Bool.not_eq_true'] at h1'
    exact h1'
theorem inl_nums : ∀ p q : List Nat, p.map (fun k => (Sum.inl ((k : Nat) : Int) : Int ⊕ List Nat)) = q.map (fun k => Sum.inl ((k : Nat) : Int)) → p = q
  | [], [], _ => rfl
  | [], _ :: _, h => by cases h
  | _ :: _, [], h => by cases h
  | a :: p, b :: q, h => by
    injection h with h1 h2
    injection h1 with h1
    rw [inl_nums p q h2, show a = b by omega]
theorem tokS_inj {b c : Stp} (hb : okS b) (hc : okS c) (h : tokS b = tokS c) : b = c := by
  obtain ⟨m, k⟩ := b
  obtain ⟨n, l⟩ := c
  cases k with
  | none => exact absurd rfl hb
  | some j =>
    cases l with
    | none => exact absurd rfl hc
    | some i =>
      cases m with
      | ask p =>
        cases n with
        | ask q =>
          injection h with _ h
          have h' : p.map (fun k => (Sum.inl ((k : Nat) : Int) : Int ⊕ List Nat)) ++ [Sum.inl (-1), Sum.inl ((j : Nat) : Int)] = q.map (fun k => Sum.inl ((k : Nat) : Int)) ++ [Sum.inl (-1), Sum.inl ((i : Nat) : Int)] := h
          obtain ⟨h1, h2⟩ := List.append_inj' h' rfl
          have := inl_nums p q h1
          injection h2 with _ h2
          injection h2 with h2 _
          injection h2 with h2
          rw [this, show j = i by omega]
        | say v =>
          injection h with h _
          injection h with h
          cases h
      | say v =>
        cases n with
        | ask q =>
          injection h with h _
          injection h with h
          cases h
        | say u =>
          injection h with _ h
          injection h with h1 h
          injection h with h2 _
          injection h1 with h1
          injection h2 with h2
          have e1 : (j : Int) = (i : Int) := h2
          rw [show v = u by omega, show j = i by omega]
theorem rows_ok {kd : D} (hk : isK kd = true) {pl : List Stp} {s : Stp} (h : s ∈ rows kd pl) : okS s := by
  obtain ⟨h1, _⟩ := (mem_rows hk).mp h
  intro e
  unfold lgB at h1
  rw [e] at h1
  cases h1
theorem progR_sort {kd : D} (hk : isK kd = true) {pl : List Stp} (hn : (sight pl (pl.length - 1)).Nodup) : sortE tokS (progR kd pl) = sortE tokS (rows kd pl) := by
  have pm := progR_perm (kd := kd) hk hn
  exact sortE_eq pm fun b hb c hc e => tokS_inj (rows_ok hk (pm.mem_iff.mp hb)) (rows_ok hk (pm.mem_iff.mp hc)) e
/-! ### legal plays -/
structure LQ (kd : D) (pl : List Stp) : Prop where
  lp : LP kd pl
  rs : ∀ n s, pl[n]? = some s → s ∈ lawR kd (pl.take n)
def NxR (kd : D) (pl : List Stp) (s : Stp) : Prop := s ∈ lawR kd pl
theorem lawR_mem {kd : D} {pl : List Stp} (hp : pl ≠ []) {s : Stp} : s ∈ lawR kd pl ↔ s ∈ rows kd pl := by
  unfold lawR
  rw [if_neg hp]
  exact (sortE_perm tokS (rows kd pl)).mem_iff
theorem lawR_nil (kd : D) : lawR kd [] = [BEG] := rfl
theorem nxt_of {kd : D} (hk : isK kd = true) {pl : List Stp} {s : Stp} (h : NxR kd pl s) : Nxt kd pl s := by
  by_cases hp : pl = []
  · subst hp
    exact .inl ⟨rfl, List.mem_singleton.mp h⟩
  · obtain ⟨h1, h2⟩ := (mem_rows hk).mp ((lawR_mem hp).mp h)
    obtain ⟨m, b⟩ := s
    cases m with
    | ask p =>
      obtain ⟨j, q, k, rfl, ho, hq, hk2, rfl, hj⟩ := (lg_ask hk).mp h1
      obtain ⟨e, he⟩ := Option.isSome_iff_exists.mp ((kids_at hk).mp hk2)
      exact .inr ⟨hp, j, rfl, hj, .inl ⟨_, e, rfl, he⟩⟩
    | say v =>
      obtain ⟨j, q, rfl, ho, hq, hl, hj⟩ := lg_say.mp h1
      exact .inr ⟨hp, j, rfl, hj, .inr ⟨v, rfl, List.mem_of_getLast? hl⟩⟩
theorem LQ.nil (kd : D) : LQ kd [] := ⟨LP.nil kd, fun n s e => by simp at e⟩
theorem LQ.snoc {kd : D} {pl : List Stp} {s : Stp} (hk : isK kd = true) (h : LQ kd pl) (n : NxR kd pl s) (hl : pl.length < 40) : LQ kd (pl ++ [s]) := by
  refine ⟨h.lp.snoc (nxt_of hk n) hl, fun m t e => ?_⟩
  rcases Nat.lt_trichotomy m pl.length with hm | hm | hm
  · rw [List.getElem?_append_left hm] at e
    rw [List.take_append_of_le_length (by omega)]
    exact h.rs m t e
  · subst hm
    rw [List.getElem?_append_right (Nat.le_refl _), Nat.sub_self] at e
    cases e
    rw [List.take_left]
    exact n
  · rw [List.getElem?_eq_none (by rw [List.length_append, List.length_singleton]; omega)] at e
    cases e
theorem LQ.take {kd : D} {pl : List Stp} (h : LQ kd pl) (k : Nat) : LQ kd (pl.take k) := by
  refine ⟨h.lp.take k, fun n s e => ?_⟩
  have hn := (List.getElem?_eq_some_iff.mp e).1
  rw [List.length_take] at hn
  rw [List.getElem?_take_of_lt (by omega)] at e
  rw [List.take_take, Nat.min_eq_left (by omega)]
  exact h.rs n s e
end Pk

set_option maxRecDepth 100000
set_option maxHeartbeats 4000000
set_option pp.maxSteps 600
namespace Pk
open PySem PySem.Spec PyProof.Rows L2
theorem WB.at {pl : List Stp} (h : WB pl) {n : Nat} (h0 : 0 < n) (hn : n < pl.length) : ∃ m, pl[n]? = some ⟨m, some (bk pl n)⟩ := by
  obtain ⟨j, e, hj⟩ := h.later n _ h0 (List.getElem?_eq_getElem hn)
  refine ⟨pl[n].mv, ?_⟩
  have e2 : bk pl n = j := by
    unfold bk
    rw [List.getElem?_eq_getElem hn]
    show (pl[n].back).getD 0 = j
    rw [e]
    rfl
  rw [List.getElem?_eq_getElem hn, e2, ← e]
theorem erase_eq {ns : List Nat} (h : ns.Pairwise (· < ·)) {j : Nat} (hj : j ∈ ns) : ∃ i, ns[i]? = some j ∧ (∀ m, m < i → ns[m]? ≠ some j) ∧ ns.eraseIdx i = ns.filter fun k => decide (some k ≠ some j) := by
  induction ns with
  | nil => cases hj
  | cons a r ih =>
    have h2 := List.pairwise_cons.mp h
    by_cases e : a = j
    · subst e
      refine ⟨0, rfl, fun m hm => absurd hm (Nat.not_lt_zero m), ?_⟩
      show r = _
      rw [List.filter_cons_of_neg (by simp), List.filter_eq_self.mpr]
      intro k hk
      have := h2.1 k hk
      refine decide_eq_true fun z => ?_
      have := Option.some.inj z
      omega
    · obtain ⟨i, i1, i2, i3⟩ := ih h2.2 ((List.mem_cons.mp hj).resolve_left fun z => e z.symm)
      refine ⟨i + 1, i1, fun m hm => ?_, ?_⟩
      · cases m with
        | zero => exact fun z => e (Option.some.inj z)
        | succ m => exact i2 m (by omega)
      · show a :: r.eraseIdx i = _
        have z : decide (some a ≠ some j) = true := decide_eq_true fun z => e (Option.some.inj z)
        rw [i3, List.filter_cons]
        exact (if_pos z).symm
theorem nats_erase : ∀ (ns : List Nat) (i : Nat), (((ns.map fun k : Nat => ((k : Nat) : Int))).eraseIdx i).map V.int = nats (ns.eraseIdx i)
  | [], _ => rfl
  | a :: r, 0 => by
    show (r.map fun k : Nat => ((k : Nat) : Int)).map V.int = nats r
    rw [List.map_map]
    rfl
  | a :: r, i + 1 => by
    have := nats_erase r i
    show V.int _ :: _ = V.int _ :: _
    rw [this]
    rfl
theorem nats_int (ns : List Nat) : (ns.map fun k : Nat => ((k : Nat) : Int)).map V.int = nats ns := by
  rw [List.map_map]
  rfl
/-! ### the statement's sights -/
section
variable {P : Program} {w : World} {K : PySem.W.Frag} {mg : Str → Option Value} {base : Heap}
/-- each back is the other player's -/
def Par (pl : List Stp) : Prop := ∀ n, 0 < n → n < pl.length → (n + bk pl n) % 2 = 1
theorem Par.take {pl : List Stp} (h : Par pl) (k : Nat) : Par (pl.take k) := fun n h0 hn => by
  rw [List.length_take] at hn
  rw [bk_take pl (by omega)]
  exact h n h0 (by omega)
def spSg (K : PySem.W.Frag) (odd : Nat) (n : Nat) : Sp := fun vs H Q _ => ∃ (v : V) (pl : List Stp), vs = [v] ∧ Rep K H v (playD pl) ∧ WB pl ∧ Par pl ∧ pl.length % 2 = odd ∧ 0 < pl.length ∧ pl.length < n ∧ n ≤ 500 ∧
  ∀ (p : Addr) (H' : Hp), Nw p H H' (nats (sight pl (pl.length - 1))) → Q (.ref p) H'
theorem play_take {K : PySem.W.Frag} {H H' : Hp} {a c : Addr} {xs : List V} {pl : List Stp} {k : Nat} (r : Reps K H xs (pl.map stD)) (m : Kx H H') (h : TupAt K H' c (xs.take k)) : Rep K H' (.ref c) (playD (pl.take k)) := by
  unfold playD
  rw [List.map_take]
  exact .tup h ((r.mono m).take k)
theorem back_at {K : PySem.W.Frag} {H : Hp} {xs : List V} {pl : List Stp} (r : Reps K H xs (pl.map stD)) (hwb : WB pl) {n : Nat} (h0 : 0 < n) (hn : n < pl.length) : ∃ a m, xs[n]? = some (.ref a) ∧ TupAt K H a [m, .int (bk pl n : Nat)] := by
  obtain ⟨mv, em⟩ := hwb.at h0 hn
  obtain ⟨x, hx, rx⟩ := play_at r em
  obtain ⟨a2, m2, b2, rfl, ha2, rm2, rb2⟩ := step_inv rx
  obtain ⟨rfl, _⟩ := Rep.inva (w := V.int (bk pl n : Nat)) rb2
  exact ⟨a2, m2, hx, ha2⟩
theorem ok_sg {f : Addr} {fd : FuncData} (D__law_sight : Df K mg "_law_sight" s__law_sight ["play"] f fd) (B : Bt mg) : ∀ n : Nat, FnOk P w K mg base CX0 n f fd ["play"] (spSg K 1 n)
  | 0 => fn_none fun vs H Q E h => by
    obtain ⟨v, pl, _, _, _, _, _, _, h1, _⟩ := h
    omega
  | n + 1 => by
    have G__law_sight := ok_sg D__law_sight B n
    refine D__law_sight.ok c__law_sight (fun vs H Q E h => ?_) (fun cdv A outer s0 H vs Q E hr h => ?_)
    · obtain ⟨v, pl, rfl, _⟩ := h
      rfl
    obtain ⟨v, pl, rfl, rv, hwb, hpar, hodd, hp, hlen, hn5, q⟩ := h
    have nd := c__law_sight.nd
    refine ⟨_, (pss_cons (ps_set (i := 1) nd rfl (Or.inl rfl) (pe_op op_sub (pe_callB call_len_seq (by rfl) B.b_len PySem.boot_len (pa_cons (pv 0) pa_nil)) pe_int))
  (pss_cons (ps_if (pt_cmpR op_eq (pv 1) pe_int (nomark _)) (pss_one (ps_ret (pe_lst (pa_cons pe_int pa_nil)))) pss_nil)
  (pss_cons (ps_set (i := 2) nd rfl (Or.inl rfl) (pe_ix ix_tup (pe_ix ix_tup (pv 0) (pv 1) (fun _ _ => rfl)) pe_int (fun _ _ => rfl)))
  (pss_one (ps_ret (pe_op op_cat (pe_call G__law_sight hr (by rfl) D__law_sight.m D__law_sight.kp D__law_sight.b .nil pass0 (pa_cons (pe_slice sl_tupP (pv 0) po_none (po_some (pv 2))) pa_nil)) (pe_lst (pa_cons (pv 2) (pa_cons (pv 1) pa_nil))))))))), ?_⟩
    obtain ⟨a, xs, rfl, ha, rxs, lx⟩ := play_inv rv
    refine ⟨_, rfl, a, xs, rfl, .inr ha.sq, _, _, rfl, rfl, _, rfl, rfl, _, rfl, ite2 (fun z => ?_) (fun z => ?_)⟩
    · have z' : ((xs.length : Nat) : Int) - 1 = 0 := V.int.inj (of_decide_eq_true z)
      have e1 : pl.length - 1 = 0 := by omega
      refine ⟨(by show 1 ≤ sizeLine; decide), fun p np => q p _ ?_⟩
      rw [e1, sight_zero]
      exact Nw.new np _
    · have h0 : 0 < pl.length - 1 := by
        rcases Nat.eq_zero_or_pos (pl.length - 1) with e | e
        · exact absurd (decide_eq_true (show V.int (((xs.length : Nat) : Int) - 1) = V.int 0 by rw [show ((xs.length : Nat) : Int) - 1 = 0 by omega])) z
        · exact e
      obtain ⟨a2, m2, hx, ha2⟩ := back_at rxs hwb h0 (by omega)
      have en : (((xs.length : Nat) : Int) - 1) = ((pl.length - 1 : Nat) : Int) := by omega
      have hx' := atI_nat hx
      rw [← en] at hx'
      have hpr := hpar (pl.length - 1) h0 (by omega)
      have hb := hwb.bk_lt h0 (show pl.length - 1 < pl.length by omega)
      have hsm := sight_more hwb h0 (show pl.length - 1 < pl.length by omega) (show bk pl (pl.length - 1) ≠ 0 by omega)
      generalize hj : bk pl (pl.length - 1) = j at *
      refine ⟨_, rfl, _, rfl, a, xs, _, _, rfl, rfl, ha.sq, hx', a2, _, 1, _, rfl, rfl, ha2.sq, rfl, ?_⟩
      refine ⟨_, rfl, _, rfl, _, rfl, a, xs, rfl, ha, fun c H1 s1 hc => ?_⟩
      rw [cutV_to] at hc
      have ltk : (pl.take j).length = j := by rw [List.length_take]; omega
      refine ⟨.ref c, pl.take j, rfl, play_take (a := a) rxs (kx_same s1) hc, hwb.take j, hpar.take j, by rw [ltk]; omega, by rw [ltk]; omega, by rw [ltk]; omega, by omega, fun p H2 hp2 => ?_⟩
      rw [ltk, sight_take hwb (show j - 1 < j by omega) (by omega)] at hp2
      refine ⟨_, rfl, _, rfl, (by show 2 ≤ sizeLine; decide), fun e ne => ?_⟩
      have s3 := same_new ne (.lst [.int (j : Nat), .int (((xs.length : Nat) : Int) - 1)])
      have lsg := sight_len hwb (j - 1) (by omega)
      refine ⟨p, e, _, _, rfl, rfl, s3 _ _ hp2.h, upd_same, small6' (by rw [nats_len]; show (sight pl (j - 1)).length + 2 ≤ 1000000; omega), fun r nr => ?_⟩
      have s4 := same_new nr (.lst (nats (sight pl (j - 1)) ++ [.int (j : Nat), .int (((xs.length : Nat) : Int) - 1)]))
      have s14 := s1.trans (hp2.s.trans (s3.trans s4))
      have nrH : H r = none := new_none (s1.trans (hp2.s.trans s3)) nr
      refine q r _ ⟨s14, nrH, ?_⟩
      rw [upd_same, hsm]
      show some (HO.lst (nats (sight pl (j - 1)) ++ [V.int (j : Nat), V.int (((xs.length : Nat) : Int) - 1)])) = _
      rw [en]
      unfold nats
      rw [List.map_append]
      rfl
theorem ok_asg {f : Addr} {fd : FuncData} (D__law_asker_sight : Df K mg "_law_asker_sight" s__law_asker_sight ["play"] f fd) (B : Bt mg) : ∀ n : Nat, FnOk P w K mg base CX0 n f fd ["play"] (spSg K 0 n)
  | 0 => fn_none fun vs H Q E h => by
    obtain ⟨v, pl, _, _, _, _, _, _, h1, _⟩ := h
    omega
  | n + 1 => by
    have G__law_asker_sight := ok_asg D__law_asker_sight B n
    refine D__law_asker_sight.ok c__law_asker_sight (fun vs H Q E h => ?_) (fun cdv A outer s0 H vs Q E hr h => ?_)
    · obtain ⟨v, pl, rfl, _⟩ := h
      rfl
    obtain ⟨v, pl, rfl, rv, hwb, hpar, hodd, hp, hlen, hn5, q⟩ := h
    have nd := c__law_asker_sight.nd
    refine ⟨_, (pss_cons (ps_set (i := 1) nd rfl (Or.inl rfl) (pe_op op_sub (pe_callB call_len_seq (by rfl) B.b_len PySem.boot_len (pa_cons (pv 0) pa_nil)) pe_int))
  (pss_cons (ps_set (i := 2) nd rfl (Or.inl rfl) (pe_ix ix_tup (pe_ix ix_tup (pv 0) (pv 1) (fun _ _ => rfl)) pe_int (fun _ _ => rfl)))
  (pss_cons (ps_set (i := 3) nd rfl (Or.inl rfl) (pe_lst pa_nil))
  (pss_cons (ps_if (pt_cmpR op_gt (pv 2) pe_int (nomark _)) (pss_one (ps_set (i := 3) nd rfl (Or.inl rfl) (pe_call G__law_asker_sight hr (by rfl) D__law_asker_sight.m D__law_asker_sight.kp D__law_asker_sight.b .nil pass0 (pa_cons (pe_slice sl_tupP (pv 0) po_none (po_some (pv 2))) pa_nil)))) pss_nil)
  (pss_one (ps_ret (pe_op op_cat (pv 3) (pe_lst (pa_cons (pv 2) (pa_cons (pv 1) pa_nil)))))))))), ?_⟩
    obtain ⟨a, xs, rfl, ha, rxs, lx⟩ := play_inv rv
    have h0 : 0 < pl.length - 1 := by omega
    obtain ⟨a2, m2, hx, ha2⟩ := back_at rxs hwb h0 (by omega)
    have en : (((xs.length : Nat) : Int) - 1) = ((pl.length - 1 : Nat) : Int) := by omega
    have hx' := atI_nat hx
    rw [← en] at hx'
    have hpr := hpar (pl.length - 1) h0 (by omega)
    have hb := hwb.bk_lt h0 (show pl.length - 1 < pl.length by omega)
    have hone := sight_one (pl := pl) (n := pl.length - 1) h0
    have hsm := sight_more hwb h0 (show pl.length - 1 < pl.length by omega)
    generalize hj : bk pl (pl.length - 1) = j at *
    refine ⟨_, rfl, a, xs, rfl, .inr ha.sq, _, _, rfl, rfl, ?_⟩
    refine ⟨_, rfl, _, rfl, a, xs, _, _, rfl, rfl, ha.sq, hx', a2, _, 1, _, rfl, rfl, ha2.sq, rfl, ?_⟩
    refine ⟨(by show 0 ≤ sizeLine; decide), fun p0 np0 => ?_⟩
    have s0' := same_new np0 (.lst [])
    refine nx_rest (fun σ' H' => ∃ p, σ' = [some (.ref a), some (.int (((xs.length : Nat) : Int) - 1)), some (.int (j : Nat)), some (.ref p)] ∧ Same H H' ∧ H' p = some (.lst (nats (if j = 0 then [] else sight pl (j - 1))))) (fun rest => ?_) ?_
    · refine ⟨_, rfl, _, _, rfl, rfl, _, rfl, ite2 (fun z => ?_) (fun z => ?_)⟩
      · have z' : (0 : Int) < (j : Nat) := of_decide_eq_true z
        refine ⟨_, rfl, _, rfl, _, rfl, a, xs, rfl, ha.same s0', fun c H1 s1 hc => ?_⟩
        rw [cutV_to] at hc
        have ltk : (pl.take j).length = j := by rw [List.length_take]; omega
        refine ⟨.ref c, pl.take j, rfl, play_take (a := a) rxs (kx_same (s0'.trans s1)) hc, hwb.take j, hpar.take j, by rw [ltk]; omega, by rw [ltk]; omega, by rw [ltk]; omega, by omega, fun p H2 hp2 => ?_⟩
        rw [ltk, sight_take hwb (show j - 1 < j by omega) (by omega)] at hp2
        refine rest _ _ ⟨p, rfl, s0'.trans (s1.trans hp2.s), ?_⟩
        rw [if_neg (by omega)]
        exact hp2.h
      · have z' : j = 0 := by
          rcases Nat.eq_zero_or_pos j with e | e
          · exact e
          · exact absurd (decide_eq_true (show (0 : Int) < (j : Nat) by omega)) z
        refine rest _ _ ⟨p0, rfl, s0', ?_⟩
        rw [if_pos z', upd_same]
        rfl
    · rintro σ H2 ⟨p, rfl, s2, hp2⟩
      refine ⟨_, rfl, _, rfl, _, rfl, (by show 2 ≤ sizeLine; decide), fun e ne => ?_⟩
      have s3 := same_new ne (.lst [.int (j : Nat), .int (((xs.length : Nat) : Int) - 1)])
      have lsg : (if j = 0 then [] else sight pl (j - 1)).length ≤ 500 := by
        split
        · exact Nat.zero_le _
        · have := sight_len hwb (j - 1) (by omega)
          omega
      refine ⟨p, e, _, _, rfl, rfl, s3 _ _ hp2, upd_same, small6' (by rw [nats_len]; show _ + 2 ≤ 1000000; omega), fun r nr => ?_⟩
      have s4 := same_new nr (.lst (nats (if j = 0 then [] else sight pl (j - 1)) ++ [.int (j : Nat), .int (((xs.length : Nat) : Int) - 1)]))
      refine q r _ ⟨s2.trans (s3.trans s4), new_none (s2.trans s3) nr, ?_⟩
      rw [upd_same]
      show some (HO.lst (nats (if j = 0 then [] else sight pl (j - 1)) ++ [V.int (j : Nat), V.int (((xs.length : Nat) : Int) - 1)])) = _
      rw [en]
      by_cases hj0 : j = 0
      · rw [if_pos hj0, hone hj0, hj0]
        rfl
      · rw [if_neg hj0, hsm hj0]
        unfold nats
        rw [List.map_append]
        rfl
end
end Pk

set_option maxRecDepth 100000
set_option maxHeartbeats 4000000
set_option pp.maxSteps 600
namespace Pk
open PySem PySem.Spec PyProof.Rows L2
/-! ### the statement's _law_alone, _law_open, _law_at -/
section
variable {P : Program} {w : World} {K : PySem.W.Frag} {mg : Str → Option Value} {base : Heap}
theorem nats_at {ns : List Nat} {i : Nat} {x : V} (h : (nats ns)[i]? = some x) : ∃ k, ns[i]? = some k ∧ x = V.int (k : Nat) := by
  unfold nats at h
  rw [List.getElem?_map] at h
  obtain ⟨k, hk, e⟩ := Option.map_eq_some_iff.mp h
  exact ⟨k, hk, e.symm⟩
theorem nats_get {ns : List Nat} {i k : Nat} (h : ns[i]? = some k) : (nats ns)[i]? = some (.int (k : Nat)) := by
  unfold nats
  rw [List.getElem?_map, h]
  rfl
theorem eqV_nat (i j : Nat) : eqV (.int (i : Nat)) (.int (j : Nat)) = decide (i = j) := by
  show ((i : Int) == (j : Int)) = _
  by_cases h : i = j
  · subst h
    rw [decide_eq_true rfl]
    exact beq_self_eq_true _
  · rw [decide_eq_false h]
    exact beq_eq_false_iff_ne.mpr (by omega)
theorem flat_nats (ns : List Nat) : (nats ns).all flatV = true := by
  rw [List.all_eq_true]
  intro x hx
  obtain ⟨k, _, rfl⟩ := List.mem_map.mp hx
  rfl
theorem idx_at {ns : List Nat} {j : Nat} (h : j ∈ ns) : ns[ns.idxOf j]? = some j ∧ ns.idxOf j < ns.length ∧ ∀ m, m < ns.idxOf j → ns[m]? ≠ some j := by
  have hl := List.idxOf_lt_length_of_mem h
  refine ⟨?_, hl, fun m hm e => ?_⟩
  · rw [List.getElem?_eq_getElem hl, List.getElem_idxOf hl]
  · have := List.not_of_lt_findIdx (p := fun x => x == j) (xs := ns) (i := m) (by simpa [List.idxOf] using hm)
    obtain ⟨hml, e2⟩ := List.getElem?_eq_some_iff.mp e
    rw [e2] at this
    simp at this
/-- numbers.index(j) -/
theorem index_nats {ns : List Nat} {j : Nat} (h : j ∈ ns) : (nats ns)[ns.idxOf j]? = some (.int (j : Nat)) ∧ eqV (.int (j : Nat)) (.int (j : Nat)) = true ∧ ∀ (m : Nat) (z : V), m < ns.idxOf j → (nats ns)[m]? = some z → eqV z (.int (j : Nat)) = false := by
  obtain ⟨h1, h2, h3⟩ := idx_at h
  refine ⟨nats_get h1, ?_, fun m z hm hz => ?_⟩
  · rw [eqV_nat]
    exact decide_eq_true rfl
  · obtain ⟨k, hk, rfl⟩ := nats_at hz
    rw [eqV_nat]
    exact decide_eq_false fun e => h3 m hm (by rw [hk, e])
def spLAl (K : PySem.W.Frag) : Sp := fun vs H Q _ => ∃ (v : V) (b : Addr) (pl : List Stp) (ns : List Nat), vs = [v, .ref b] ∧ Rep K H v (playD pl) ∧ H b = some (.lst (nats ns)) ∧ WB pl ∧ Cl pl ns ∧ ns.length ≤ 500 ∧ ∀ z H', Same H H' → Rep K H' z (playD (apart pl ns)) → Q z H'
theorem ok_lal {f : Addr} {fd : FuncData} (D__law_alone : Df K mg "_law_alone" s__law_alone ["play", "numbers"] f fd) (B : Bt mg) : FnOk P w K mg base CX0 1 f fd ["play", "numbers"] (spLAl K) := by
  refine D__law_alone.ok c__law_alone (fun vs H Q E h => ?_) (fun cdv A outer s H vs Q E hr h => ?_)
  · obtain ⟨v, b, pl, ns, rfl, _⟩ := h
    rfl
  obtain ⟨v, b, pl, ns, rfl, rv, hb, hwb, hcl, hlen, q⟩ := h
  have nd := c__law_alone.nd
  refine ⟨_, (pss_cons (ps_set (i := 2) nd rfl (Or.inl rfl) (pe_lst pa_nil))
  (pss_cons (ps_for PassesOwn.never rfl (pi_list (pv 1)) (pg_name (i := 3) nd rfl (Or.inl rfl)) (pss_cons (ps_set (i := 4) nd rfl (Or.inl rfl) (pe_ix ix_tup (pe_ix ix_tup (pv 0) (pv 3) (fun _ _ => rfl)) pe_int (fun _ _ => rfl)))
  (pss_cons (ps_if (pt_cmpR op_notN (pv 4) pe_non (nomark _)) (pss_one (ps_set (i := 4) nd rfl (Or.inl rfl) (pe_bm PySem.F.plainAttrs_list PySem.F.slot_list_index PySem.F.type_list_index mt_index (pv 1) (pa_cons (pv 4) pa_nil)))) pss_nil)
  (pss_one (ps_expr (pe_bm PySem.F.plainAttrs_list PySem.F.slot_list_append PySem.F.type_list_append mt_append (pv 2) (pa_cons (pe_tup (pa_cons (pe_ix ix_tup (pe_ix ix_tup (pv 0) (pv 3) (fun _ _ => rfl)) pe_int (fun _ _ => rfl)) (pa_cons (pv 4) pa_nil))) pa_nil)))))))
  (pss_one (ps_ret (pe_callTy call_tuple_of (by rfl) B.b_tuple (by decide +kernel) (pa_cons (pv 2) pa_nil)))))), ?_⟩
  obtain ⟨a, xs, rfl, ha, rxs, lx⟩ := play_inv rv
  refine ⟨(by show 0 ≤ sizeLine; decide), fun r nr => ?_⟩
  have hbr := (same_new nr (.lst [])) _ _ hb
  refine ⟨_, rfl, b, rfl, ⟨_, SqL.of hbr⟩, for_list (xs := nats ns) (fun i σ H' => ∃ (acc : List V) (y3 y4 : Option V), σ = [some (.ref a), some (.ref b), some (.ref r), y3, y4] ∧ Nw r H H' acc ∧ acc.length ≤ i ∧ Reps K H' acc (((ns.take i).map (apS pl ns)).map stD))
    ⟨[], none, none, rfl, Nw.new nr _, Nat.le_refl _, .nil⟩ (fun i σ H' _ h => by
      obtain ⟨acc, y3, y4, _, hn, _⟩ := h
      exact SqL.of (hn.s _ _ hb)) ?_ ?_⟩
  · rintro i x σ H1 hi ⟨acc, y3, y4, rfl, hn, lacc, racc⟩
    obtain ⟨k, hk, rfl⟩ := nats_at hi
    have hil := (List.getElem?_eq_some_iff.mp hk).1
    obtain ⟨c1, c2⟩ := hcl k (List.mem_of_getElem? hk)
    have ep : pl[k]? = some pl[k] := List.getElem?_eq_getElem c1
    obtain ⟨y, hy, ry⟩ := play_at rxs ep
    obtain ⟨a2, m2, b2, rfl, ha2, rm2, rb2⟩ := step_inv ry
    have ha1 := ha.same hn.s
    have ha21 := ha2.same hn.s
    have hb1 := hn.s _ _ hb
    refine ⟨_, rfl, _, rfl, a, xs, _, _, rfl, rfl, ha1.sq, atI_nat hy, a2, _, 1, _, rfl, rfl, ha21.sq, rfl, ?_⟩
    refine nx_rest (fun σ' H' => ∃ r2, σ' = [some (.ref a), some (.ref b), some (.ref r), some (.int (k : Nat)), some r2] ∧ H' = H1 ∧ ∀ H', Rep K H' r2 (bkD ((pl[k].back).map fun j => ns.idxOf j))) (fun rest => ?_) ?_
    · by_cases h0 : k = 0
      · have ef := hwb.first pl[k] (by rw [← ep, h0])
        have eb : pl[k].back = none := by rw [ef]
        rw [eb] at rb2 rest
        obtain ⟨rfl, _⟩ := Rep.inva (w := V.non) rb2
        exact ⟨_, rfl, rfl, _, rfl, iteF (rest _ _ ⟨.non, rfl, rfl, fun H' => .at rfl⟩)⟩
      · obtain ⟨mv, em⟩ := hwb.at (Nat.pos_of_ne_zero h0) c1
        rw [ep] at em
        have eb : pl[k].back = some (bk pl k) := by rw [Option.some.inj em]
        rw [eb] at rb2 rest
        obtain ⟨rfl, _⟩ := Rep.inva (w := V.int (bk pl k : Nat)) rb2
        have hm := c2.resolve_left h0
        obtain ⟨i1, i2, i3⟩ := index_nats hm
        exact ⟨_, rfl, rfl, _, rfl, iteT ⟨_, rfl, .inl ⟨rfl, _, SqL.of hb1⟩, _, rfl, b, nats ns, .int (bk pl k : Nat), ns.idxOf (bk pl k), .int (bk pl k : Nat), rfl, rfl, SqL.of hb1, rfl, flat_nats ns, i1, i2, i3, rest _ _ ⟨_, rfl, rfl, fun H' => .at rfl⟩⟩⟩
    · rintro σ H2 ⟨r2, rfl, rfl, hr2⟩
      refine ⟨_, rfl, .inl ⟨rfl, _, SqL.of hn.h⟩, _, rfl, _, rfl, a, xs, _, _, rfl, rfl, ha1.sq, atI_nat hy, a2, _, 0, _, rfl, rfl, ha21.sq, rfl, _, rfl, (by show 2 ≤ sizeLine; decide), fun u nu => ?_⟩
      have su := same_new nu (.tup [m2, r2])
      have hn2 := hn.step su
      have kl := kx_list hn2.h (acc ++ [.ref u])
      refine ⟨r, _, _, rfl, rfl, hn2.h, small6 (by omega), acc ++ [.ref u], _, _, rfl, hn2.put _, by rw [List.length_append, List.length_singleton]; omega, ?_⟩
      have e3 : (((ns.take (i + 1)).map (apS pl ns)).map stD) = (((ns.take i).map (apS pl ns)).map stD) ++ [stD (apS pl ns k)] := by
        rw [List.take_add_one, hk, List.map_append, List.map_append]
        rfl
      rw [e3]
      refine (racc.mono ((kx_same su).trans kl)).append (.one (.tup (xs := [m2, r2]) (.inl (kl.t _ _ upd_same)) (.cons ?_ (.one ?_))))
      · have e4 : (apS pl ns k).mv = pl[k].mv := by
          unfold apS
          rw [ep]
          rfl
        rw [e4]
        exact (rm2.mono (kx_same (hn.s.trans su))).mono kl
      · have e5 : (apS pl ns k).back = (pl[k].back).map fun j => ns.idxOf j := by
          unfold apS
          rw [ep]
          rfl
        rw [e5]
        exact hr2 _
  · rintro σ H1 ⟨acc, y3, y4, rfl, hn, lacc, racc⟩
    rw [nats_len, List.take_length] at racc
    refine ⟨_, rfl, r, _, rfl, .inl ⟨SqL.of hn.h, fun t nt => ?_⟩⟩
    have st := same_new nt (.tup acc)
    exact q _ _ (hn.s.trans st) (.tup' upd_same (racc.mono (kx_same st)))
def spOp (K : PySem.W.Frag) : Sp := fun vs H Q _ => ∃ (v : V) (pl : List Stp), vs = [v] ∧ Rep K H v (playD pl) ∧ OpOk pl ∧ pl.length ≤ 500 ∧ ∀ p H', Nw p H H' (nats (opens pl pl.length)) → Q (.ref p) H'
theorem ok_lop {f : Addr} {fd : FuncData} (D__law_open : Df K mg "_law_open" s__law_open ["play"] f fd) (B : Bt mg) : FnOk P w K mg base CX0 1 f fd ["play"] (spOp K) := by
  refine D__law_open.ok c__law_open (fun vs H Q E h => ?_) (fun cdv A outer s H vs Q E hr h => ?_)
  · obtain ⟨v, pl, rfl, _⟩ := h
    rfl
  obtain ⟨v, pl, rfl, rv, hop, hlen, q⟩ := h
  have nd := c__law_open.nd
  refine ⟨_, (pss_cons (ps_set (i := 1) nd rfl (Or.inl rfl) (pe_lst pa_nil))
  (pss_cons (ps_for PassesOwn.never rfl (pi_range1 (by rfl) B.b_range (pa_cons (pe_callB call_len_seq (by rfl) B.b_len PySem.boot_len (pa_cons (pv 0) pa_nil)) pa_nil)) (pg_name (i := 2) nd rfl (Or.inl rfl)) (pss_one (ps_if (pt_cmpR op_eq (pe_ix ix_tup (pe_ix ix_tup (pe_ix ix_tup (pv 0) (pv 2) (fun _ _ => rfl)) pe_int (fun _ _ => rfl)) pe_int (fun _ _ => rfl)) pe_str (nomark _)) (pss_one (ps_expr (pe_bm PySem.F.plainAttrs_list PySem.F.slot_list_append PySem.F.type_list_append mt_append (pv 1) (pa_cons (pv 2) pa_nil)))) (pss_one (ps_expr (pe_bm PySem.F.plainAttrs_list PySem.F.slot_list_remove PySem.F.type_list_remove mt_remove (pv 1) (pa_cons (pe_ix ix_tup (pe_ix ix_tup (pv 0) (pv 2) (fun _ _ => rfl)) pe_int (fun _ _ => rfl)) pa_nil)))))))
  (pss_one (ps_ret (pv 1))))), ?_⟩
  obtain ⟨a, xs, rfl, ha, rxs, lx⟩ := play_inv rv
  refine ⟨(by show 0 ≤ sizeLine; decide), fun l nl => ?_⟩
  refine ⟨_, rfl, a, xs, rfl, .inr (ha.same (same_new nl _)).sq, _, rfl, by omega, by omega, ?_⟩
  refine for_range (n := ((xs.length : Nat) : Int).toNat) (fun i σ H' => ∃ (y2 : Option V), σ = [some (.ref a), some (.ref l), y2] ∧ Nw l H H' (nats (opens pl i)))
    ⟨none, rfl, Nw.new nl _⟩ ?_ ?_
  · rintro i σ H1 hi ⟨y2, rfl, hn⟩
    have hip : i < pl.length := by omega
    have ep : pl[i]? = some pl[i] := List.getElem?_eq_getElem hip
    obtain ⟨x, hx, rx⟩ := play_at rxs ep
    obtain ⟨a2, m, b, rfl, ha2, rm, rb⟩ := step_inv rx
    have hol := opens_len pl i
    have ez : (0 : Int) + (i : Nat) = ((i : Nat) : Int) := Int.zero_add _
    have hx' := atI_nat hx
    rw [← ez] at hx'
    have ha1 := ha.same hn.s
    have ha21 := ha2.same hn.s
    cases hmv : pl[i].mv with
    | ask p =>
      rw [hmv] at rm
      obtain ⟨a3, y, rfl, ha3, _⟩ := ask_inv rm
      refine ⟨_, rfl, _, rfl, a, xs, _, _, rfl, rfl, ha1.sq, hx', a2, _, 0, _, rfl, rfl, ha21.sq, rfl, a3, _, 0, _, rfl, rfl, (ha3.same hn.s).sq, rfl, rfl, _, rfl, iteT ⟨_, rfl, .inl ⟨rfl, _, SqL.of hn.h⟩, _, rfl, l, _, _, rfl, rfl, hn.h, small6 (by rw [nats_len]; omega), _, rfl, ?_⟩⟩
      rw [ez, nats_snoc, opens_succ ep]
      have eo : opnS (opens pl i) i pl[i] = opens pl i ++ [i] := by
        unfold opnS
        rw [hmv]
      rw [eo]
      exact hn.put _
    | say u =>
      rw [hmv] at rm
      obtain ⟨a3, rfl, ha3⟩ := say_inv rm
      have ep' : pl[i]? = some ⟨.say u, pl[i].back⟩ := by
        rw [ep, ← hmv]
      obtain ⟨j, ej, hj⟩ := hop i u _ ep'
      rw [ej] at rb
      obtain ⟨rfl, _⟩ := Rep.inva (w := V.int (j : Nat)) rb
      obtain ⟨i0, i1, i2, i3⟩ := erase_eq (opens_up pl i) hj
      refine ⟨_, rfl, _, rfl, a, xs, _, _, rfl, rfl, ha1.sq, hx', a2, _, 0, _, rfl, rfl, ha21.sq, rfl, a3, _, 0, _, rfl, rfl, (ha3.same hn.s).sq, rfl, rfl, _, rfl, iteF ⟨_, rfl, .inl ⟨rfl, _, SqL.of hn.h⟩, _, rfl, _, rfl, a, xs, _, _, rfl, rfl, ha1.sq, hx', a2, _, 1, _, rfl, rfl, ha21.sq, rfl,
        l, (opens pl i).map (fun k : Nat => ((k : Nat) : Int)), (j : Int), i0, rfl, rfl, ?_, ?_, fun m hm => ?_, _, rfl, ?_⟩⟩
      · rw [nats_int]
        exact hn.h
      · rw [List.getElem?_map, i1]
        rfl
      · rw [List.getElem?_map]
        intro z
        obtain ⟨k, hk, e⟩ := Option.map_eq_some_iff.mp z
        exact i2 m hm (by rw [hk, show k = j by omega])
      · rw [nats_erase, i3, opens_succ ep]
        have eo : opnS (opens pl i) i pl[i] = (opens pl i).filter fun k => decide (some k ≠ some j) := by
          unfold opnS
          rw [hmv, ej]
        rw [eo]
        exact hn.put _
  · rintro σ H1 ⟨y2, rfl, hn⟩
    have el : ((xs.length : Nat) : Int).toNat = pl.length := by omega
    rw [el] at hn
    exact ⟨_, rfl, q l H1 hn⟩
def AtIs (K : PySem.W.Frag) (H : Hp) (o : Option D) (z : V) : Prop := match o with
  | some e => Rep K H z e ∧ isK e = true
  | none => z = .non
def spAtO (K : PySem.W.Frag) : Sp := fun vs H Q _ => ∃ (v x : V) (d : D) (p : List Nat), vs = [v, x] ∧ Rep K H v d ∧ isK d = true ∧ sz d ≤ 1000 ∧ Rep K H x (plD p) ∧ ∀ z, AtIs K H (atD d p) z → Q z H
theorem atD_tup (ts : List D) (k : Nat) (p : List Nat) : atD (.tup ts) (k :: p) = match ts[k]? with
  | some t => atD t p
  | none => none := by
  cases h : ts[k]? with
  | none =>
    conv => lhs; unfold atD
    rw [h]
  | some t =>
    conv => lhs; unfold atD
    rw [h]
theorem atD_nil (d : D) : atD d [] = some d := by cases d <;> rfl
theorem ok_latO {f : Addr} {fd : FuncData} (D__law_at : Df K mg "_law_at" s__law_at ["kind", "place"] f fd) (B : Bt mg) : FnOk P w K mg base CX0 1 f fd ["kind", "place"] (spAtO K) := by
  refine D__law_at.ok c__law_at (fun vs H Q E h => ?_) (fun cdv A outer s H vs Q E hr h => ?_)
  · obtain ⟨v, x, d, p, rfl, _⟩ := h
    rfl
  obtain ⟨v, x, d, p, rfl, rv, hk, hz, rx, q⟩ := h
  have nd := c__law_at.nd
  refine ⟨_, (pss_cons (ps_for PassesOwn.never rfl (pi_tup (pv 1)) (pg_name (i := 2) nd rfl (Or.inl rfl)) (pss_cons (ps_if (pt_cmpR op_ge (pv 2) (pe_callB call_len_seq (by rfl) B.b_len PySem.boot_len (pa_cons (pv 0) pa_nil)) (nomark _)) (pss_one (ps_ret pe_non)) pss_nil)
  (pss_one (ps_set (i := 0) nd rfl (Or.inl rfl) (pe_ix ix_tup (pv 0) (pv 2) (fun _ _ => rfl))))))
  (pss_one (ps_ret (pv 0)))), ?_⟩
  obtain ⟨a, xs, rfl, hx, rxs⟩ := Rep.inv (ts := p.map numD') rx
  have ex := rep_nats_inv rxs
  subst ex
  refine ⟨_, rfl, a, rfl, ⟨_, hx.sq⟩, for_tup (K := K) (a := a) (xs := nats p) (fun i σ H' => H' = H ∧ ∃ (v' : V) (d' : D) (y2 : Option V), σ = [some v', some (.ref a), y2] ∧ Rep K H v' d' ∧ isK d' = true ∧ sz d' ≤ 1000 ∧ atD d' (p.drop i) = atD d p)
    ⟨rfl, v, d, none, rfl, rv, hk, hz, rfl⟩ (fun i σ H' _ h => by rw [h.1]; exact hx.sq) ?_ ?_⟩
  · rintro i x σ H' hi ⟨rfl, v', d', y2, rfl, rv', hk', hz', e'⟩
    obtain ⟨k, hpk, rfl⟩ := nats_at hi
    have hil := (List.getElem?_eq_some_iff.mp hpk).1
    obtain ⟨ts, rfl, hts⟩ := isK_inv hk'
    obtain ⟨b, ys, rfl, hy, ry⟩ := rv'.inv
    have ly := ry.length
    have ed : p.drop i = k :: p.drop (i + 1) := by
      rw [List.drop_eq_getElem_cons hil]
      rw [List.getElem?_eq_getElem hil] at hpk
      rw [Option.some.inj hpk]
    rw [ed, atD_tup] at e'
    refine ⟨_, rfl, _, rfl, b, ys, rfl, .inr hy.sq, _, _, rfl, rfl, _, rfl, ite2 (fun c => ?_) (fun c => ?_)⟩
    · have c' : ((ys.length : Nat) : Int) ≤ ((k : Nat) : Int) := of_decide_eq_true c
      rw [List.getElem?_eq_none (by omega)] at e'
      refine q .non ?_
      rw [← e']
      rfl
    · have c' : k < ys.length := by
        rcases Nat.lt_or_ge k ys.length with h | h
        · exact h
        · exact absurd (decide_eq_true (show ((ys.length : Nat) : Int) ≤ ((k : Nat) : Int) by omega)) c
      have et : ts[k]? = some (ts[k]'(by omega)) := List.getElem?_eq_getElem _
      rw [et] at e'
      obtain ⟨y, hy2, ry2⟩ := ry.getD et
      have m := List.mem_of_getElem? et
      have hz2 := sz_mem m
      have hz3 : szs ts + 1 ≤ 1000 := hz'
      exact ⟨_, rfl, _, rfl, b, ys, _, _, rfl, rfl, hy.sq, atI_nat hy2, rfl, _, _, _, rfl, ry2, isK_mem hts m, by omega, e'⟩
  · rintro σ H' ⟨rfl, v', d', y2, rfl, rv', hk', hz', e'⟩
    rw [nats_len, List.drop_length, atD_nil] at e'
    refine ⟨_, rfl, q _ ?_⟩
    rw [← e']
    exact ⟨rv', hk'⟩
end
end Pk

set_option maxRecDepth 100000
set_option maxHeartbeats 4000000
set_option pp.maxSteps 600
namespace Pk
open PySem PySem.Spec PyProof.Rows L2
/-! ### plays whose steps are seen, and of the other player's turn -/
structure LW (kd : D) (pl : List Stp) : Prop where
  lp : LP kd pl
  par : Par pl
  tg : ∀ n, 0 < n → n < pl.length → ∃ p b, pl[bk pl n]? = some (Stp.mk (.ask p) b)
  dl : ∀ (n : Nat) (p : List Nat) (b : Option Nat), 0 < n → pl[n]? = some (Stp.mk (.ask p) b) → ∃ q b' k, pl[bk pl n]? = some (Stp.mk (.ask q) b') ∧ p = q ++ [k]
structure NxW (kd : D) (pl : List Stp) (s : Stp) : Prop where
  nx : Nxt kd pl s
  tg : pl ≠ [] → ∃ j p b, s.back = some j ∧ (pl.length + j) % 2 = 1 ∧ pl[j]? = some (Stp.mk (.ask p) b) ∧ ∀ r, s.mv = .ask r → ∃ k, r = p ++ [k]
theorem LW.nil (kd : D) : LW kd [] := ⟨LP.nil kd, fun n _ h => absurd h (Nat.not_lt_zero n), fun n _ h => absurd h (Nat.not_lt_zero n), fun n p b _ e => by simp at e⟩
theorem LW.take {kd : D} {pl : List Stp} (h : LW kd pl) (k : Nat) : LW kd (pl.take k) := by
  refine ⟨h.lp.take k, h.par.take k, fun n h0 hn => ?_, fun n p b h0 e => ?_⟩
  · rw [List.length_take] at hn
    have hb := h.lp.wb.bk_lt h0 (show n < pl.length by omega)
    rw [bk_take pl (by omega), List.getElem?_take_of_lt (by omega)]
    exact h.tg n h0 (by omega)
  · have hn := (List.getElem?_eq_some_iff.mp e).1
    rw [List.length_take] at hn
    have hb := h.lp.wb.bk_lt h0 (show n < pl.length by omega)
    rw [List.getElem?_take_of_lt (by omega)] at e
    rw [bk_take pl (by omega), List.getElem?_take_of_lt (by omega)]
    exact h.dl n p b h0 e
theorem bk_snoc {pl : List Stp} {s : Stp} {j : Nat} (e : s.back = some j) : bk (pl ++ [s]) pl.length = j := by
  unfold bk
  rw [List.getElem?_append_right (Nat.le_refl _), Nat.sub_self]
  show (s.back).getD 0 = j
  rw [e]
  rfl
theorem bk_old {pl : List Stp} {s : Stp} {n : Nat} (h : n < pl.length) : bk (pl ++ [s]) n = bk pl n := by
  unfold bk
  rw [List.getElem?_append_left h]
theorem LW.snoc {kd : D} {pl : List Stp} {s : Stp} (h : LW kd pl) (n : NxW kd pl s) (hl : pl.length < 40) : LW kd (pl ++ [s]) := by
  refine ⟨h.lp.snoc n.nx hl, fun m h0 hm => ?_, fun m h0 hm => ?_, fun m p b h0 e => ?_⟩
  · rw [List.length_append, List.length_singleton] at hm
    by_cases hlt : m < pl.length
    · rw [bk_old hlt]
      exact h.par m h0 hlt
    · have em : m = pl.length := by omega
      subst em
      obtain ⟨j, p, b, e1, e2, e3, _⟩ := n.tg (List.length_pos_iff.mp h0)
      rw [bk_snoc e1]
      exact e2
  · rw [List.length_append, List.length_singleton] at hm
    by_cases hlt : m < pl.length
    · rw [bk_old hlt, List.getElem?_append_left (by have := h.lp.wb.bk_lt h0 hlt; omega)]
      exact h.tg m h0 hlt
    · have em : m = pl.length := by omega
      subst em
      obtain ⟨j, p, b, e1, e2, e3, _⟩ := n.tg (List.length_pos_iff.mp h0)
      rw [bk_snoc e1, List.getElem?_append_left (List.getElem?_eq_some_iff.mp e3).1]
      exact ⟨p, b, e3⟩
  · have hm := (List.getElem?_eq_some_iff.mp e).1
    rw [List.length_append, List.length_singleton] at hm
    by_cases hlt : m < pl.length
    · rw [List.getElem?_append_left hlt] at e
      rw [bk_old hlt, List.getElem?_append_left (by have := h.lp.wb.bk_lt h0 hlt; omega)]
      exact h.dl m p b h0 e
    · have em : m = pl.length := by omega
      subst em
      obtain ⟨j, q, b', e1, e2, e3, e4⟩ := n.tg (List.length_pos_iff.mp h0)
      rw [List.getElem?_append_right (Nat.le_refl _), Nat.sub_self] at e
      have es : s = ⟨.ask p, b⟩ := Option.some.inj e
      obtain ⟨k, ek⟩ := e4 p (by rw [es])
      rw [bk_snoc e1, List.getElem?_append_left (List.getElem?_eq_some_iff.mp e3).1]
      exact ⟨q, b', k, e3, ek⟩
theorem nxw_of {kd : D} (hk : isK kd = true) {pl : List Stp} (h : LW kd pl) {s : Stp} (m : NxR kd pl s) : NxW kd pl s := by
  refine ⟨nxt_of hk m, fun hp => ?_⟩
  have hpos : 0 < pl.length := List.length_pos_iff.mpr hp
  obtain ⟨h1, h2⟩ := (mem_rows hk).mp ((lawR_mem hp).mp m)
  obtain ⟨mv, b⟩ := s
  have key : ∀ j q, askPl pl j = some q → j ∈ sight pl (pl.length - 1) → (pl.length - j) % 2 = 1 → (pl.length + j) % 2 = 1 ∧ ∃ b, pl[j]? = some (Stp.mk (.ask q) b) := fun j q hq hj ho => by
    have := (sight_up h.lp.wb (pl.length - 1) (by omega)).2 j hj
    exact ⟨by omega, askPl_some hq⟩
  cases mv with
  | ask p =>
    obtain ⟨j, q, k, rfl, ho, hq, hk2, rfl, hj⟩ := (lg_ask hk).mp h1
    obtain ⟨k1, b, k2⟩ := key j q hq hj ho
    exact ⟨j, q, b, rfl, k1, k2, fun r e => by injection e with e; exact ⟨k, e.symm⟩⟩
  | say v =>
    obtain ⟨j, q, rfl, ho, hq, hl, hj⟩ := lg_say.mp h1
    obtain ⟨k1, b, k2⟩ := key j q hq hj ho
    exact ⟨j, q, b, rfl, k1, k2, fun r e => nomatch e⟩
/-- what an answered ask hides -/
theorem view_out {pl : List Stp} (hw : WB pl) (hp : Par pl) {x m : Nat} (hx : x < m) (hbm : bk pl m = x) : ∀ (n c : Nat), c < n → m ≤ c → c < pl.length → (∀ c', m < c' → c' ≤ c → ¬ (x ≤ bk pl c' ∧ bk pl c' ≤ m)) →
    ∀ j ∈ sight pl c, x ≤ j → j ≤ m → (c + m) % 2 = 0 ∧ (j = m ∨ j = x)
  | 0, c, hn, _, _, _, _, _, _, _ => absurd hn (Nat.not_lt_zero c)
  | n + 1, c, hn, hc, hl, ih, j, hj, h1, h2 => by
    have hc0 : 0 < c := by omega
    have hb := hw.bk_lt hc0 hl
    by_cases hcm : c = m
    · subst hcm
      refine ⟨by omega, ?_⟩
      by_cases hb0 : bk pl c = 0
      · rw [sight_one hc0 hb0] at hj
        simp only [List.mem_cons, List.not_mem_nil, or_false] at hj
        omega
      · rw [sight_more hw hc0 hl hb0] at hj
        rcases List.mem_append.mp hj with hj | hj
        · have := (sight_up hw (bk pl c - 1) (by omega)).2 j hj
          omega
        · simp only [List.mem_cons, List.not_mem_nil, or_false] at hj
          omega
    · have hmc : m < c := by omega
      have hno := ih c hmc (Nat.le_refl c)
      have hpar := hp c hc0 hl
      by_cases hb0 : bk pl c = 0
      · rw [sight_one hc0 hb0] at hj
        simp only [List.mem_cons, List.not_mem_nil, or_false] at hj
        omega
      · rw [sight_more hw hc0 hl hb0] at hj
        rcases List.mem_append.mp hj with hj | hj
        · have hle := (sight_up hw (bk pl c - 1) (by omega)).2 j hj
          have hgt : m < bk pl c := by omega
          have r := view_out hw hp hx hbm n (bk pl c - 1) (by omega) (by omega) (by omega) (fun c' g1 g2 => ih c' g1 (by omega)) j hj h1 h2
          exact ⟨by omega, r.2⟩
        · simp only [List.mem_cons, List.not_mem_nil, or_false] at hj
          omega
theorem hidden {kd : D} {pl : List Stp} (h : LW kd pl) {x m u : Nat} (hm0 : 0 < m) (em : pl[m]? = some ⟨.say u, some x⟩) : ∀ n, m < n → n < pl.length → ¬ (x ≤ bk pl n ∧ bk pl n ≤ m) := by
  have hml := (List.getElem?_eq_some_iff.mp em).1
  have hbm : bk pl m = x := by
    unfold bk
    rw [em]
    rfl
  have hx : x < m := by
    have := h.lp.wb.bk_lt hm0 hml
    omega
  intro n
  induction n using Nat.strongRecOn with
  | ind n ih =>
    intro hn hl ⟨g1, g2⟩
    have hv := h.lp.ws n (by omega) hl
    obtain ⟨r1, r2⟩ := view_out h.lp.wb h.par hx hbm n (n - 1) (by omega) (by omega) (by omega) (fun c' a1 a2 => ih c' (by omega) a1 (by omega)) _ hv g1 g2
    have p1 := h.par n (by omega) hl
    have p2 := h.par m hm0 hml
    rcases r2 with r2 | r2
    · obtain ⟨p, b, e⟩ := h.tg n (by omega) hl
      rw [r2, em] at e
      cases e
    · omega
theorem opens_keep {pl : List Stp} {j : Nat} {p : List Nat} {b : Option Nat} (ej : pl[j]? = some ⟨.ask p, b⟩) (hn : ∀ n u, j < n → pl[n]? = some ⟨.say u, some j⟩ → False) : ∀ m, j < m → m ≤ pl.length → j ∈ opens pl m
  | 0, h, _ => absurd h (Nat.not_lt_zero j)
  | m + 1, h, hl => by
    have es : pl[m]? = some pl[m] := List.getElem?_eq_getElem (by omega)
    rw [opens_succ es]
    unfold opnS
    by_cases hjm : j = m
    · subst hjm
      rw [es] at ej
      rw [Option.some.inj ej]
      exact List.mem_append_right _ (List.mem_singleton.mpr rfl)
    · have ih := opens_keep ej hn m (by omega) (by omega)
      split
      · exact List.mem_append_left _ ih
      · next v hv =>
        refine List.mem_filter.mpr ⟨ih, decide_eq_true fun e => ?_⟩
        refine hn m v (by omega) ?_
        rw [es]
        cases hs : pl[m] with
        | mk mv bb =>
          rw [hs] at hv e
          have hv' : mv = .say v := hv
          have e' : some j = bb := e
          rw [hv', e']
/-- an ask in sight, of the player that was at turn, is open -/
theorem in_sight_open {kd : D} {pl : List Stp} (h : LW kd pl) {j : Nat} {p : List Nat} {b : Option Nat} (hj : j ∈ sight pl (pl.length - 1)) (ej : pl[j]? = some ⟨.ask p, b⟩) (ho : (pl.length + j) % 2 = 1) : j ∈ opens pl pl.length := by
  have hjl := (List.getElem?_eq_some_iff.mp ej).1
  refine opens_keep ej (fun m u hjm em => ?_) pl.length hjl (Nat.le_refl _)
  have hml := (List.getElem?_eq_some_iff.mp em).1
  have hbm : bk pl m = j := by
    unfold bk
    rw [em]
    rfl
  have hid := hidden h (show 0 < m by omega) em
  obtain ⟨r1, _⟩ := view_out h.lp.wb h.par hjm hbm pl.length (pl.length - 1) (by omega) (by omega) (by omega) (fun c' g1 g2 => hid c' g1 (by omega)) j hj (Nat.le_refl _) (by omega)
  have := h.par m (by omega) hml
  omega
theorem sight_par {pl : List Stp} (hw : WB pl) (hp : Par pl) : ∀ (f n : Nat), n < f → n < pl.length → n % 2 = 0 → (sight pl n).length % 2 = 1 ∧ ∀ i k, (sight pl n)[i]? = some k → k % 2 = i % 2
  | 0, n, h, _, _ => absurd h (Nat.not_lt_zero n)
  | f + 1, n, hf, hl, h2 => by
    by_cases h0 : n = 0
    · subst h0
      rw [sight_zero]
      refine ⟨rfl, fun i k e => ?_⟩
      match i, e with
      | 0, e => cases e; rfl
    · have hn0 : 0 < n := by omega
      have hpar := hp n hn0 hl
      have hb := hw.bk_lt hn0 hl
      rw [sight_more hw hn0 hl (by omega)]
      obtain ⟨i1, i2⟩ := sight_par hw hp f (bk pl n - 1) (by omega) (by omega) (by omega)
      refine ⟨by rw [List.length_append]; show (_ + 2) % 2 = 1; omega, fun i k e => ?_⟩
      rcases Nat.lt_or_ge i (sight pl (bk pl n - 1)).length with hi | hi
      · rw [List.getElem?_append_left hi] at e
        exact i2 i k e
      · rw [List.getElem?_append_right hi] at e
        generalize hd : i - (sight pl (bk pl n - 1)).length = d at e
        match d, e with
        | 0, e => cases e; omega
        | 1, e => cases e; omega
theorem plc_app {s x : List Stp} {c : Nat} (h : c < s.length) : plc (s ++ x) c = plc s c := by
  unfold plc
  rw [List.getElem?_append_left h]
/-- the calls stand in the kind -/
structure InK (kd : D) (ks : List D) (s : List Stp) (cs : List Nat) : Prop where
  l : cs.length = ks.length
  c : OkC s cs
  e : ∀ c ∈ cs, c % 2 = 0
  k : ∀ (i c : Nat) (k : D), cs[i]? = some c → ks[i]? = some k → atD kd (plc s c) = some k
theorem InK.app {kd : D} {ks : List D} {s : List Stp} {cs : List Nat} (h : InK kd ks s cs) (x : Stp) : InK kd ks (s ++ [x]) cs :=
  ⟨h.l, h.c.snoc x, h.e, fun i c k e1 e2 => by rw [plc_app (h.c.lt (List.mem_of_getElem? e1))]; exact h.k i c k e1 e2⟩
def LegR (kd : D) (e : Row) : Prop := ∃ c p b, e.2.back = some c ∧ c % 2 = 0 ∧ e.1[c]? = some (Stp.mk (.ask p) b) ∧ ∀ q, e.2.mv = .ask q → (∃ d, atD kd q = some d) ∧ ∃ k, q = p ++ [k]
theorem args_at {kd a : D} {k : Nat} (h : (args kd)[k]? = some a) : ∃ ts, kd = .tup ts ∧ ts[k]? = some a := by
  cases kd with
  | «at» _ => cases h
  | lst => cases h
  | tup ts => exact ⟨ts, rfl, h⟩
mutual
theorem rowsB_leg {kd : D} : ∀ (t : T) (ks : List D) (s : List Stp) (cs : List Nat), wfB ks t = true → cs ≠ [] → s.length % 2 = 1 → InK kd ks s cs → ∀ e ∈ rowsB t s cs, LegR kd e
  | .say v, ks, s, cs, _, hne, _, hi, e, h => by
    rw [List.mem_singleton.mp h]
    have hm : cs.getD 0 0 ∈ cs := mem_getD (List.length_pos_iff.mpr hne)
    obtain ⟨p, b, e1⟩ := hi.c _ hm
    exact ⟨cs.getD 0 0, p, b, rfl, hi.e _ hm, e1, fun q z => (nomatch z)⟩
  | .stop, _, _, _, _, _, _, _, e, h => by cases h
  | .prog _ _, _, _, _, _, _, _, _, e, h => by cases h
  | .ask up k as z o, ks, s, cs, hw, hne, hs, hi, e, h => by
    obtain ⟨kd', a, e1, e2, w1, w2, w3⟩ := wfB_ask hw
    have hu : up < cs.length := by
      have := (List.getElem?_eq_some_iff.mp e1).1
      rw [hi.l]
      exact this
    have hm := mem_getD hu
    have ec : cs[up]? = some (cs.getD up 0) := by
      rw [List.getElem?_eq_getElem hu, List.getD_eq_getElem?_getD, List.getElem?_eq_getElem hu]
      rfl
    have hat := hi.k up _ kd' ec e1
    obtain ⟨ts, rfl, hts⟩ := args_at e2
    have hat2 := atD_snoc _ kd ts k a hat hts
    have iA := hi.app (asK s (cs.getD up 0) k)
    have lA : (s ++ [asK s (cs.getD up 0) k] ++ [(⟨.say 0, some s.length⟩ : Stp)]).length % 2 = 1 := by
      rw [List.length_append, List.length_append]
      show (s.length + 1 + 1) % 2 = 1
      omega
    rcases List.mem_cons.mp h with h | h
    · rw [h]
      obtain ⟨p, b, ep⟩ := hi.c _ hm
      refine ⟨cs.getD up 0, p, b, rfl, hi.e _ hm, ep, fun q z => ?_⟩
      have z' : Mv.ask (plc s (cs.getD up 0) ++ [k]) = .ask q := z
      injection z' with z'
      exact ⟨⟨a, by rw [← z']; exact hat2⟩, k, by rw [← z', plc_at ep]⟩
    rcases List.mem_append.mp h with h | h
    · exact rowsB_leg z ks _ cs w2 hne lA (iA.app _) e h
    rcases List.mem_append.mp h with h | h
    · exact rowsB_leg o ks _ cs w3 hne (by rw [List.length_append, List.length_append]; show (s.length + 1 + 1) % 2 = 1; omega) (iA.app _) e h
    · exact rowsPs_leg as ks (args a) (plc s (cs.getD up 0) ++ [k]) s (asK s (cs.getD up 0) k) cs 0 w1 hs iA (fun i d hd => by
        obtain ⟨us, rfl, hus⟩ := args_at hd
        rw [Nat.zero_add]
        exact atD_snoc _ kd us i d hat2 hus) e h
theorem rowsPs_leg {kd : D} : ∀ (ts : List T) (ks ds : List D) (p : List Nat) (s : List Stp) (x : Stp) (cs : List Nat) (i : Nat), wfPs ks ds ts = true → s.length % 2 = 1 → InK kd ks (s ++ [x]) cs →
    (∀ j d, ds[j]? = some d → atD kd (p ++ [i + j]) = some d) → ∀ e ∈ rowsPs ts p (s ++ [x]) s.length cs i, LegR kd e
  | [], _, _, _, _, _, _, _, _, _, _, _, e, h => by cases h
  | t :: ts, ks, ds, p, s, x, cs, i, hw, hs, hi, hd, e, h => by
    obtain ⟨d, ds', rfl, w1, w2⟩ := wfPs_cons hw
    obtain ⟨m, b, rfl, _, w3⟩ := wfP_inv w1
    have ls : (s ++ [x]).length = s.length + 1 := by rw [List.length_append, List.length_singleton]
    rcases List.mem_append.mp h with h | h
    · have hix := hi.app (⟨.ask (p ++ [i]), some s.length⟩ : Stp)
      have enew : (s ++ [x] ++ [(⟨.ask (p ++ [i]), some s.length⟩ : Stp)])[s.length + 1]? = some ⟨.ask (p ++ [i]), some s.length⟩ := by
        rw [List.getElem?_append_right (by omega), ls, Nat.sub_self]
        rfl
      refine rowsB_leg b (d :: ks) _ _ w3 (List.cons_ne_nil _ _) (by rw [List.length_append, ls]; show (s.length + 1 + 1) % 2 = 1; omega) ⟨by rw [List.length_cons, List.length_cons, hi.l], fun c m => ?_, fun c m => ?_, fun j c k e1 e2 => ?_⟩ e h
      · rcases List.mem_cons.mp m with rfl | m
        · exact ⟨_, _, enew⟩
        · exact hix.c c m
      · rcases List.mem_cons.mp m with rfl | m
        · omega
        · exact hix.e c m
      · cases j with
        | zero =>
          have e1' : s.length + 1 = c := Option.some.inj e1
          have e2' : d = k := Option.some.inj e2
          rw [← e1', ← e2', plc_at enew]
          exact hd 0 d rfl
        | succ j => exact hix.k j c k e1 e2
    · refine rowsPs_leg ts ks ds' p s x cs (i + 1) w2 hs hi (fun j d' hd' => ?_) e h
      have := hd (j + 1) d' hd'
      rw [show i + (j + 1) = i + 1 + j by omega] at this
      exact this
end
theorem rowsT_leg {kd : D} {t : T} (hw : wfP [] kd t = true) : ∀ r ∈ rowsT t, LegR kd r := fun r hr => by
  obtain ⟨m, b, rfl, em, wb⟩ := wfP_inv hw
  refine rowsB_leg b [kd] [BEG] [0] wb (List.cons_ne_nil _ _) rfl ⟨rfl, fun c m => ?_, fun c m => ?_, fun i c k e1 e2 => ?_⟩ r hr
  · rw [List.mem_singleton.mp m]
    exact ⟨[], none, rfl⟩
  · rw [List.mem_singleton.mp m]
  · cases i with
    | zero =>
      have e1' : 0 = c := Option.some.inj e1
      have e2' : kd = k := Option.some.inj e2
      rw [← e1', ← e2']
      exact atD_nil kd
    | succ i => cases e1
/-! ### the reply of a strategy -/
def sgl (pl : List Stp) : List Nat := sight pl (pl.length - 1)
def backN (pl : List Stp) (x : Stp) : Stp := ⟨x.mv, x.back.map fun c => (sgl pl).getD c 0⟩
def repl (rows : List Row) (pl : List Stp) : Option Stp := (lkR rows (apart pl (sgl pl))).map (backN pl)
theorem apart_at {pl : List Stp} {ns : List Nat} {c : Nat} {mv : Mv} {b : Option Nat} (hn : ∀ n ∈ ns, n < pl.length) (h : (apart pl ns)[c]? = some ⟨mv, b⟩) : ∃ n b', ns[c]? = some n ∧ pl[n]? = some ⟨mv, b'⟩ := by
  unfold apart at h
  rw [List.getElem?_map] at h
  obtain ⟨n, hc, e⟩ := Option.map_eq_some_iff.mp h
  have hl := hn n (List.mem_of_getElem? hc)
  refine ⟨n, (pl[n]).back, hc, ?_⟩
  have es : pl[n]? = some pl[n] := List.getElem?_eq_getElem hl
  unfold apS at e
  rw [es] at e
  have e1 : (pl[n]).mv = mv := congrArg Stp.mv e
  rw [es, ← e1]
theorem repl_legal {kd : D} {t : T} (hw : wfP [] kd t = true) {pl : List Stp} (h : LW kd pl) (ho : pl.length % 2 = 1) {s : Stp} (e : repl (rowsT t) pl = some s) : NxW kd pl s ∧ ∃ (c j : Nat), s.back = some j ∧ (sgl pl)[c]? = some j := by
  obtain ⟨x, hx, rfl⟩ := Option.map_eq_some_iff.mp e
  obtain ⟨c, p, b, e1, e2, e3, e4⟩ := rowsT_leg hw _ (lkR_mem hx)
  have hlp : 0 < pl.length := by omega
  have up := sight_up h.lp.wb (pl.length - 1) (by omega)
  obtain ⟨j, b', hc, ej⟩ := apart_at (fun n hn => by have := up.2 n hn; omega) e3
  have hjs : j ∈ sgl pl := List.mem_of_getElem? hc
  have hpar := (sight_par h.lp.wb h.par pl.length (pl.length - 1) (by omega) (by omega) (by omega)).2 c j hc
  have eb : (backN pl x).back = some j := by
    show x.back.map (fun c => (sgl pl).getD c 0) = some j
    have e1' : x.back = some c := e1
    rw [e1']
    show some ((sgl pl).getD c 0) = some j
    rw [List.getD_eq_getElem?_getD, hc]
    rfl
  have hod : (pl.length + j) % 2 = 1 := by omega
  refine ⟨⟨.inr ⟨List.length_pos_iff.mp hlp, j, eb, hjs, ?_⟩, fun _ => ⟨j, p, b', eb, hod, ej, fun r e => (e4 r e).2⟩⟩, c, j, eb, hc⟩
  cases hm : x.mv with
  | ask q =>
    obtain ⟨⟨d, hd⟩, _⟩ := e4 q hm
    exact .inl ⟨q, d, hm, hd⟩
  | say u => exact .inr ⟨u, hm, in_sight_open h hjs ej hod⟩
theorem sight_oks {kd : D} {pl : List Stp} (h : LW kd pl) {n : Nat} (hn : n < pl.length) (h0 : (sight pl n)[0]? = some 0) : OkS (apart pl (sight pl n)) := by
  have up := sight_up h.lp.wb n hn
  have cl := sight_cl h.lp.wb h.lp.ws n hn
  have at_ : ∀ (i : Nat) (x : Stp), (apart pl (sight pl n))[i]? = some x → ∃ k, (sight pl n)[i]? = some k ∧ k < pl.length ∧ x = apS pl (sight pl n) k := fun i x e => by
    unfold apart at e
    rw [List.getElem?_map] at e
    obtain ⟨k, hk, ex⟩ := Option.map_eq_some_iff.mp e
    exact ⟨k, hk, (cl k (List.mem_of_getElem? hk)).1, ex.symm⟩
  have hp : 0 < pl.length := by omega
  refine ⟨?_, fun i x hi e => ?_, fun i => ?_⟩
  · unfold apart
    rw [List.getElem?_map, h0]
    show some (apS pl (sight pl n) 0) = _
    have ep : pl[0]? = some pl[0] := List.getElem?_eq_getElem hp
    have ef := h.lp.wb.first _ ep
    unfold apS
    rw [ep, ef]
    rfl
  · obtain ⟨k, hk, hkl, rfl⟩ := at_ i x e
    have hk0 : 0 < k := by
      have hil := (List.getElem?_eq_some_iff.mp hk)
      have h0l := (List.getElem?_eq_some_iff.mp h0)
      obtain ⟨l1, e1⟩ := hil
      obtain ⟨l2, e2⟩ := h0l
      have := List.pairwise_iff_getElem.mp up.1 0 i l2 l1 hi
      omega
    have ep : pl[k]? = some pl[k] := List.getElem?_eq_getElem hkl
    obtain ⟨j, ej, _⟩ := h.lp.wb.later k _ hk0 ep
    unfold apS
    rw [ep]
    show ((pl[k]).back.map _) ≠ none
    rw [ej]
    exact fun z => nomatch z
  · induction i using Nat.strongRecOn with
    | ind i ih =>
      intro p b e
      obtain ⟨k, hk, hkl, ex⟩ := at_ i _ e
      have ep : pl[k]? = some pl[k] := List.getElem?_eq_getElem hkl
      have em : (pl[k]).mv = .ask p := by
        unfold apS at ex
        rw [ep] at ex
        injection ex with e1 _
        exact e1.symm
      have epk : pl[k]? = some ⟨.ask p, (pl[k]).back⟩ := by rw [ep, ← em]
      by_cases hk0 : k = 0
      · subst hk0
        have ef := h.lp.wb.first _ epk
        injection ef with ef _
        injection ef with ef
        rw [ef]
        exact Nat.zero_le _
      · obtain ⟨q, b', c, e1, rfl⟩ := h.dl k p _ (by omega) epk
        have hbm := (cl k (List.mem_of_getElem? hk)).2.resolve_left hk0
        obtain ⟨i', hi'⟩ := List.mem_iff_getElem?.mp hbm
        have hlt : i' < i := by
          have hb := h.lp.wb.bk_lt (by omega) hkl
          obtain ⟨l1, f1⟩ := List.getElem?_eq_some_iff.mp hk
          obtain ⟨l2, f2⟩ := List.getElem?_eq_some_iff.mp hi'
          rcases Nat.lt_trichotomy i' i with g | g | g
          · exact g
          · subst g
            rw [hk] at hi'
            have := Option.some.inj hi'
            omega
          · have := List.pairwise_iff_getElem.mp up.1 i i' l1 l2 g
            omega
        have ea : (apart pl (sight pl n))[i']? = some ⟨.ask q, (apS pl (sight pl n) (bk pl k)).back⟩ := by
          unfold apart
          rw [List.getElem?_map, hi']
          show some (apS pl (sight pl n) (bk pl k)) = _
          congr 1
          unfold apS
          rw [e1]
          rfl
        have := ih i' hlt q _ ea
        rw [List.length_append, List.length_singleton]
        omega
end Pk

set_option maxRecDepth 100000
set_option maxHeartbeats 4000000
set_option pp.maxSteps 600
namespace Pk
open PySem PySem.Spec PyProof.Rows L2
/-! ### data of plays may be laid -/
theorem lay_nums : ∀ p : List Nat, PyData.canLayAll0 (toPys (p.map numD')) = true
  | [] => rfl
  | k :: p => lay_nums p
theorem lay_bk (k : Option Nat) : PyData.canLay0 (toPy (bkD k)) = true := by cases k <;> rfl
theorem lay_mv (m : Mv) : PyData.canLay0 (toPy (mvD m)) = true := by
  cases m with
  | say v =>
    show (PyData.canLay0 (.str "say") && (true && true)) = true
    decide +kernel
  | ask p =>
    show (PyData.canLay0 (.str "ask") && (PyData.canLayAll0 (toPys (p.map numD')) && true)) = true
    rw [lay_nums]
    decide +kernel
theorem lay_st (s : Stp) : PyData.canLay0 (toPy (stD s)) = true := by
  show (PyData.canLay0 (toPy (mvD s.mv)) && (PyData.canLay0 (toPy (bkD s.back)) && true)) = true
  rw [lay_mv, lay_bk]
  rfl
theorem lay_sts : ∀ l : List Stp, PyData.canLayAll0 (toPys (l.map stD)) = true
  | [] => rfl
  | s :: r => by
    show (PyData.canLay0 (toPy (stD s)) && PyData.canLayAll0 (toPys (r.map stD))) = true
    rw [lay_st, lay_sts r]
    rfl
theorem shaped_of {d : D} (h : PyData.canLay0 (toPy d) = true) (hd : dep d ≤ 60) : SeqAt.shaped (toPy d) = true := by
  unfold SeqAt.shaped
  have := depth_noL d
  rw [h, decide_eq_true (by omega)]
  rfl
theorem shaped_pl (p : List Nat) : SeqAt.shaped (toPy (plD p)) = true := shaped_of (lay_nums p) (by have := deps_nums p; show deps (p.map numD') ≤ 60; omega)
theorem shaped_st (s : Stp) : SeqAt.shaped (toPy (stD s)) = true := shaped_of (lay_st s) (by have := dep_st s; omega)
theorem shaped_play (l : List Stp) : SeqAt.shaped (toPy (playD l)) = true := shaped_of (lay_sts l) (by have := deps_sts l; show deps (l.map stD) ≤ 60; omega)
theorem eqv_pl (p q : List Nat) : PyData.eqv (toPy (plD p)) (toPy (plD q)) = decide (p = q) := eqv_nums p q
theorem inV_nats {ns : List Nat} {j : Nat} (h : inV (.int (j : Nat)) (nats ns) = true) : j ∈ ns := by
  unfold inV at h
  obtain ⟨x, hx, e⟩ := List.any_eq_true.mp h
  obtain ⟨k, hk, rfl⟩ := List.mem_map.mp hx
  have e2 : ((k : Int) == (j : Int)) = true := e
  rw [beq_iff_eq] at e2
  rw [show j = k by omega]
  exact hk
theorem inV_of {ns : List Nat} {j : Nat} (h : j ∈ ns) : inV (.int (j : Nat)) (nats ns) = true := by
  unfold inV
  refine List.any_eq_true.mpr ⟨_, List.mem_map.mpr ⟨j, h, rfl⟩, ?_⟩
  show ((j : Int) == (j : Int)) = true
  exact beq_self_eq_true _
theorem inV_iff {ns : List Nat} {j : Nat} : inV (.int (j : Nat)) (nats ns) = decide (j ∈ ns) := by
  cases h : inV (.int (j : Nat)) (nats ns) with
  | true => exact (decide_eq_true (inV_nats h)).symm
  | false => exact (decide_eq_false fun z => by rw [inV_of z] at h; cases h).symm
/-! ### _law_goes_on -/
section
variable {P : Program} {w : World} {K : PySem.W.Frag} {mg : Str → Option Value} {base : Heap}
def spGo (K : PySem.W.Frag) : Sp := fun vs H Q _ => ∃ (kv v sv : V) (kd : D) (pl : List Stp) (s : Stp) (j : Nat), vs = [kv, v, sv] ∧ Rep K H kv kd ∧ isK kd = true ∧ sz kd ≤ 1000 ∧ Rep K H v (playD pl) ∧ LW kd pl ∧ pl ≠ [] ∧ Rep K H sv (stD s) ∧ s.back = some j ∧ j < pl.length ∧ (∀ p, s.mv = .ask p → p.length ≤ 1000) ∧
  ∀ (b : Bool) H', Same H H' → lgB kd pl (opens pl pl.length) s = b → Q (.bl b) H'
theorem last_of {ns : List Nat} (h : ns ≠ []) : atI (nats ns) (((ns.length : Nat) : Int) - 1) = some (V.int (ns.getLast h : Nat)) := by
  have hl : 0 < ns.length := List.length_pos_iff.mpr h
  have e : (((ns.length : Nat) : Int) - 1) = ((ns.length - 1 : Nat) : Int) := by omega
  rw [e]
  refine atI_nat ?_
  unfold nats
  rw [List.getElem?_map, ← List.getLast?_eq_getElem?, List.getLast?_eq_some_getLast h]
  rfl
theorem ok_lgo {f f1 f2 f3 f4 : Addr} {fd d1 d2 d3 d4 : FuncData} (D__law_goes_on : Df K mg "_law_goes_on" s__law_goes_on ["kind", "play", "step"] f fd) (D__law_sight : Df K mg "_law_sight" s__law_sight ["play"] f1 d1) (D__law_asker_sight : Df K mg "_law_asker_sight" s__law_asker_sight ["play"] f2 d2)
    (D__law_open : Df K mg "_law_open" s__law_open ["play"] f3 d3) (D__law_at : Df K mg "_law_at" s__law_at ["kind", "place"] f4 d4) (B : Bt mg) : FnOk P w K mg base CX0 42 f fd ["kind", "play", "step"] (spGo K) := by
  have G__law_sight : FnOk P w K mg base CX0 41 f1 d1 ["play"] (spSg K 1 41) := ok_sg D__law_sight B 41
  have G__law_asker_sight : FnOk P w K mg base CX0 41 f2 d2 ["play"] (spSg K 0 41) := ok_asg D__law_asker_sight B 41
  have G__law_open : FnOk P w K mg base CX0 1 f3 d3 ["play"] (spOp K) := ok_lop D__law_open B
  have G__law_at : FnOk P w K mg base CX0 1 f4 d4 ["kind", "place"] (spAtO K) := ok_latO D__law_at B
  refine D__law_goes_on.ok c__law_goes_on (fun vs H Q E h => ?_) (fun cdv A outer s0 H vs Q E hr h => ?_)
  · obtain ⟨kv, v, sv, kd, pl, s, j, rfl, _⟩ := h
    rfl
  obtain ⟨kv, v, sv, kd, pl, st, j, rfl, rk, hk, hz, rv, hL, hne, rs, hb, hj, hsl, q⟩ := h
  have nd := c__law_goes_on.nd
  refine ⟨_, (pss_cons (ps_set (i := 3) nd rfl (Or.inl rfl) (pe_callB call_len_seq (by rfl) B.b_len PySem.boot_len (pa_cons (pv 1) pa_nil)))
  (pss_cons (ps_asg (pv 2) (pg_tup rfl (pgs_cons (pg_name (i := 4) nd rfl (Or.inl rfl)) (pgs_cons (pg_name (i := 5) nd rfl (Or.inl rfl)) pgs_nil))))
  (pss_cons (ps_if (pt_cmpR op_eq (pv 3) pe_int (nomark _)) (pss_one (ps_ret (pe_cmpR (op_eqD hr.units) (pv 2) (pe_tup (pa_cons (pe_tup (pa_cons pe_str (pa_cons (pe_tup pa_nil) pa_nil))) (pa_cons pe_non pa_nil))) (nomark _)))) pss_nil)
  (pss_cons (ps_if (PW.pt (pw_or (pt_cmpR op_eq (pe_op op_mod (pe_callTy call_int1 (by rfl) B.b_int (by decide +kernel) (pa_cons (pe_op op_add (pv 3) (pv 5)) pa_nil)) pe_int) pe_int (nomark _)) (pw_or1 (pt_cmpR op_ne (pe_ix ix_tup (pe_ix ix_tup (pe_ix ix_tup (pv 1) (pv 5) (fun _ _ => rfl)) pe_int (fun _ _ => rfl)) pe_int (fun _ _ => rfl)) pe_str (nomark _))))) (pss_one (ps_ret pe_bl)) pss_nil)
  (pss_cons (ps_if (pt_cmpR op_eq (pe_ix ix_tup (pv 4) pe_int (fun _ _ => rfl)) pe_str (nomark _)) (pss_cons (ps_set (i := 6) nd rfl (Or.inl rfl) (pe_ix ix_tup (pe_ix ix_tup (pe_ix ix_tup (pv 1) (pv 5) (fun _ _ => rfl)) pe_int (fun _ _ => rfl)) pe_int (fun _ _ => rfl)))
  (pss_one (ps_if (PW.pt (pw_or (pt_cmpR op_ne (pe_callB call_len_seq (by rfl) B.b_len PySem.boot_len (pa_cons (pe_ix ix_tup (pv 4) pe_int (fun _ _ => rfl)) pa_nil)) (pe_op op_add (pe_callB call_len_seq (by rfl) B.b_len PySem.boot_len (pa_cons (pv 6) pa_nil)) pe_int) (nomark _)) (pw_or (pt_cmpR (op_neD hr.units) (pe_slice sl_tupP (pe_ix ix_tup (pv 4) pe_int (fun _ _ => rfl)) po_none (po_some (pe_callB call_len_seq (by rfl) B.b_len PySem.boot_len (pa_cons (pv 6) pa_nil)))) (pv 6) (nomark _)) (pw_or1 (pt_cmpR op_isN (pe_call G__law_at (hr.mono (by first | decide | omega)) (by rfl) D__law_at.m D__law_at.kp D__law_at.b .nil pass0 (pa_cons (pv 0) (pa_cons (pe_ix ix_tup (pv 4) pe_int (fun _ _ => rfl)) pa_nil))) pe_non (nomark _)))))) (pss_one (ps_ret pe_bl)) pss_nil))) (pss_cons (ps_set (i := 7) nd rfl (Or.inl rfl) (pe_call G__law_open (hr.mono (by first | decide | omega)) (by rfl) D__law_open.m D__law_open.kp D__law_open.b .nil pass0 (pa_cons (pv 1) pa_nil)))
  (pss_one (ps_if (PW.pt (pw_or (pt_cmpR op_eq (pe_callB call_len_seq (by rfl) B.b_len PySem.boot_len (pa_cons (pv 7) pa_nil)) pe_int (nomark _)) (pw_or1 (pt_cmpR op_ne (pe_ix ix_list (pv 7) (pe_op op_sub (pe_callB call_len_seq (by rfl) B.b_len PySem.boot_len (pa_cons (pv 7) pa_nil)) pe_int) (fun _ _ => rfl)) (pv 5) (nomark _))))) (pss_one (ps_ret pe_bl)) pss_nil))))
  (pss_cons (ps_if (pt_cmpR op_eq (pe_op op_mod (pe_callTy call_int1 (by rfl) B.b_int (by decide +kernel) (pa_cons (pv 3) pa_nil)) pe_int) pe_int (nomark _)) (pss_one (ps_ret (pe_cmpR op_in_seq (pv 5) (pe_call G__law_sight (hr.mono (by first | decide | omega)) (by rfl) D__law_sight.m D__law_sight.kp D__law_sight.b .nil pass0 (pa_cons (pv 1) pa_nil)) rfl))) pss_nil)
  (pss_one (ps_ret (pe_cmpR op_in_seq (pv 5) (pe_call G__law_asker_sight (hr.mono (by first | decide | omega)) (by rfl) D__law_asker_sight.m D__law_asker_sight.kp D__law_asker_sight.b .nil pass0 (pa_cons (pv 1) pa_nil)) rfl))))))))), ?_⟩
  obtain ⟨a, xs, rfl, ha, rxs, lx⟩ := play_inv rv
  obtain ⟨b, m, bv, rfl, hbs, rm, rb⟩ := step_inv rs
  rw [hb] at rb
  obtain ⟨rfl, _⟩ := Rep.inva (w := V.int (j : Nat)) rb
  have hp : 0 < pl.length := List.length_pos_iff.mpr hne
  have hlen := hL.lp.len
  have el : lgB kd pl (opens pl pl.length) st = (decide ((pl.length - j) % 2 = 1) && (plB kd pl j st.mv && ((match st.mv with
    | .ask _ => true
    | .say _ => decide ((opens pl pl.length).getLast? = some j)) && decide (j ∈ sight pl (pl.length - 1))))) := by
    unfold lgB
    rw [hb] <;> rfl
  rw [el] at q
  refine ⟨_, rfl, a, xs, rfl, .inr ha.sq, ?_⟩
  refine ⟨_, rfl, b, _, rfl, hbs.sq, rfl, _, _, rfl, _, _, rfl, rfl, ?_⟩
  refine ⟨_, rfl, rfl, _, rfl, ite2 (fun z => ?_) (fun _ => ?_)⟩
  · have := V.int.inj (of_decide_eq_true z)
    omega
  refine ⟨_, rfl, _, rfl, _, _, rfl, rfl, .inl ⟨_, rfl, _, _, rfl, rfl, (by show (0 : Int) < 2; decide), rfl, _, rfl, ite2 (fun z => ?_) (fun z => ?_)⟩⟩
  · have h0 : (((xs.length : Nat) : Int) + (j : Int)) % 2 = 0 := V.int.inj (of_decide_eq_true z)
    exact q false _ (Same.refl _) (by rw [decide_eq_false (by omega), Bool.false_and])
  have hodd : (pl.length - j) % 2 = 1 := by
    have h0 : ¬ (((xs.length : Nat) : Int) + (j : Int)) % 2 = 0 := fun e => z (decide_eq_true (congrArg V.int e))
    omega
  rw [decide_eq_true hodd, Bool.true_and] at q
  have ep : pl[j]? = some pl[j] := List.getElem?_eq_getElem hj
  obtain ⟨x, hx, rx⟩ := play_at rxs ep
  obtain ⟨a2, m2, b2, rfl, ha2, rm2, rb2⟩ := step_inv rx
  cases hmj : pl[j].mv with
  | say u =>
    rw [hmj] at rm2
    obtain ⟨a3, rfl, ha3⟩ := say_inv rm2
    have ep' : pl[j]? = some ⟨.say u, pl[j].back⟩ := by rw [ep, ← hmj]
    have epl : plB kd pl j st.mv = false := by
      unfold plB
      rw [askPl_say ep']
    rw [epl] at q
    exact ⟨_, rfl, _, rfl, a, xs, _, _, rfl, rfl, ha.sq, atI_nat hx, a2, _, 0, _, rfl, rfl, ha2.sq, rfl, a3, _, 0, _, rfl, rfl, ha3.sq, rfl, rfl, _, rfl, iteT (q false _ (Same.refl _) rfl)⟩
  | ask r =>
    rw [hmj] at rm2
    obtain ⟨a3, y3, rfl, ha3, ry3⟩ := ask_inv rm2
    have ep' : pl[j]? = some ⟨.ask r, pl[j].back⟩ := by rw [ep, ← hmj]
    refine ⟨_, rfl, _, rfl, a, xs, _, _, rfl, rfl, ha.sq, atI_nat hx, a2, _, 0, _, rfl, rfl, ha2.sq, rfl, a3, _, 0, _, rfl, rfl, ha3.sq, rfl, rfl, _, rfl, iteF ?_⟩
    obtain ⟨rb3, rs3, rfl, hr3, rrs⟩ := Rep.inv (ts := r.map numD') ry3
    have er := rep_nats_inv rrs
    subst er
    have hword : ∃ c y, m = .ref c ∧ TupAt K H c [.str (match st.mv with | .ask _ => "ask" | .say _ => "say"), y] ∧ ∀ p, st.mv = .ask p → Rep K H y (plD p) := by
      cases hmv : st.mv with
      | ask p =>
        rw [hmv] at rm
        obtain ⟨c, y, rfl, hc, ry⟩ := ask_inv rm
        exact ⟨c, y, rfl, hc, fun p e => by injection e with e; rw [← e]; exact ry⟩
      | say u =>
        rw [hmv] at rm
        obtain ⟨c, rfl, hc⟩ := say_inv rm
        exact ⟨c, _, rfl, hc, fun p e => nomatch e⟩
    obtain ⟨c, y, rfl, hc, hy⟩ := hword
    refine nx_rest (fun σ' H' => Same H H' ∧ (∃ y6 y7, σ' = [some kv, some (.ref a), some (.ref b), some (.int ((xs.length : Nat) : Int)), some (.ref c), some (.int (j : Nat)), y6, y7]) ∧ plB kd pl j st.mv = true ∧ (match st.mv with
      | .ask _ => true
      | .say _ => decide ((opens pl pl.length).getLast? = some j)) = true) (fun rest => ?_) ?_
    · cases hmv : st.mv with
      | say u =>
        rw [hmv] at hc q
        have epl : plB kd pl j (.say u) = true := by
          unfold plB
          rw [askPl_of ep']
        rw [epl, Bool.true_and] at q
        refine ⟨_, rfl, c, _, 0, _, rfl, rfl, hc.sq, rfl, rfl, _, rfl, iteF ?_⟩
        refine ⟨_, rfl, .ref a, pl, rfl, rv, hL.lp.op, by omega, fun p H1 h1 => ?_⟩
        by_cases h0 : opens pl pl.length = []
        · have hl0 : H1 p = some (.lst (nats [])) := by rw [← h0]; exact h1.h
          refine ⟨_, rfl, p, _, rfl, .inl (SqL.of hl0), rfl, _, rfl, iteT (q false _ h1.s ?_)⟩
          rw [h0]
          rfl
        · refine ⟨_, rfl, p, _, rfl, .inl (SqL.of h1.h), rfl, _, rfl, ite2 (fun z => ?_) (fun z => ?_)⟩
          · have z' := V.int.inj (of_decide_eq_true z)
            have := List.length_pos_iff.mpr h0
            rw [nats_len] at z'
            omega
          · have hlast := last_of h0
            rw [← nats_len] at hlast
            refine ⟨_, rfl, _, rfl, p, _, rfl, .inl (SqL.of h1.h), _, _, rfl, rfl, p, _, _, _, rfl, rfl, SqL.of h1.h, hlast, _, rfl, rfl, _, rfl, ?_⟩
            rw [List.getLast?_eq_some_getLast h0] at q
            by_cases hjl : (opens pl pl.length).getLast h0 = j
            · rw [hjl]
              rw [show (!decide (V.int (j : Nat) = V.int (j : Nat))) = false by rw [decide_eq_true rfl]; rfl]
              refine iteF (rest _ _ ⟨h1.s, ⟨_, _, rfl⟩, by rw [hmv]; exact epl, ?_⟩)
              rw [hmv]
              show decide _ = true
              rw [List.getLast?_eq_some_getLast h0, hjl]
              exact decide_eq_true rfl
            · rw [show (!decide (V.int ((opens pl pl.length).getLast h0 : Nat) = V.int (j : Nat))) = true by rw [decide_eq_false (fun e => hjl (by have := V.int.inj e; omega))]; rfl]
              refine iteT (q false _ h1.s ?_)
              show (decide _ && _) = false
              rw [decide_eq_false (fun e => hjl (Option.some.inj e)), Bool.false_and]
      | ask p =>
        rw [hmv] at hc q
        have ry := hy p hmv
        obtain ⟨yb, ys, rfl, hyb, rys⟩ := Rep.inv (ts := p.map numD') ry
        have ey := rep_nats_inv rys
        subst ey
        have lpz := hsl p hmv
        refine ⟨_, rfl, c, _, 0, _, rfl, rfl, hc.sq, rfl, rfl, _, rfl, iteT ?_⟩
        refine ⟨_, rfl, _, rfl, a, xs, _, _, rfl, rfl, ha.sq, atI_nat hx, a2, _, 0, _, rfl, rfl, ha2.sq, rfl, a3, _, 1, _, rfl, rfl, ha3.sq, rfl, ?_⟩
        have epl : plB kd pl j (.ask p) = (decide (p ≠ []) && (decide (p.dropLast = r) && (atD kd p).isSome)) := by
          unfold plB
          rw [askPl_of ep']
        have lenl : p.length = r.length + 1 ∧ p.take r.length = r → p ≠ [] ∧ p.dropLast = r := fun ⟨e1, e2⟩ => by
          refine ⟨fun e => (by rw [e] at e1; cases e1), ?_⟩
          rw [List.dropLast_eq_take, e1]
          exact e2
        have lenr : p ≠ [] → p.dropLast = r → p.length = r.length + 1 ∧ p.take r.length = r := fun e1 e2 => by
          have h0 := List.length_pos_iff.mpr e1
          have e3 : r.length = p.length - 1 := by rw [← e2, List.length_dropLast]
          refine ⟨by omega, ?_⟩
          rw [e3, ← List.dropLast_eq_take]
          exact e2
        have no : ¬ (p.length = r.length + 1 ∧ p.take r.length = r) → plB kd pl j (.ask p) = false := fun n => by
          rw [epl]
          by_cases h1 : p ≠ []
          · by_cases h2 : p.dropLast = r
            · exact absurd (lenr h1 h2) n
            · rw [decide_eq_false h2, Bool.false_and, Bool.and_false]
          · rw [decide_eq_false h1, Bool.false_and]
        refine ⟨_, rfl, c, _, 1, _, rfl, rfl, hc.sq, rfl, yb, _, rfl, .inr hyb.sq, _, rfl, rb3, _, rfl, .inr hr3.sq, _, _, rfl, rfl, rfl, _, rfl, ite2 (fun z => ?_) (fun z => ?_)⟩
        · refine q false _ (Same.refl _) ?_
          rw [no (fun e => ?_), Bool.false_and]
          rw [nats_len, nats_len, e.1] at z
          simp at z
        have e1 : p.length = r.length + 1 := by
          rw [nats_len, nats_len] at z
          rcases Nat.lt_trichotomy p.length (r.length + 1) with h | h | h
          · exact absurd (by rw [decide_eq_false (fun e => by have := V.int.inj e; omega)]; rfl) z
          · exact h
          · exact absurd (by rw [decide_eq_false (fun e => by have := V.int.inj e; omega)]; rfl) z
        refine ⟨_, rfl, c, _, 1, _, rfl, rfl, hc.sq, rfl, _, rfl, rb3, _, rfl, .inr hr3.sq, _, rfl, yb, nats p, rfl, hyb, fun z1 H1 s1 hz1 => ?_⟩
        rw [cutV_to, nats_len] at hz1
        have et : (nats p).take r.length = nats (p.take r.length) := by
          unfold nats
          rw [List.map_take]
        rw [et] at hz1
        refine ⟨_, rfl, _, _, dp_noL (.tup hz1 (reps_nats _) : Rep K H1 (.ref z1) (plD (p.take r.length))) (noLd_nums _), dp_noL (ry3.mono (kx_same s1)) (noLd_nums _), shaped_pl _, shaped_pl _, _, rfl, ?_⟩
        rw [show PyData.eqv (toPy (D.tup ((p.take r.length).map numD'))) (toPy (plD r)) = decide (p.take r.length = r) from eqv_pl _ _]
        by_cases e2 : p.take r.length = r
        · rw [decide_eq_true e2]
          obtain ⟨n1, n2⟩ := lenl ⟨e1, e2⟩
          rw [decide_eq_true n1, decide_eq_true n2, Bool.true_and, Bool.true_and] at epl
          refine iteF ⟨_, rfl, _, rfl, c, _, 1, _, rfl, rfl, (hc.same s1).sq, rfl, kv, .ref yb, kd, p, rfl, rk.mono (kx_same s1), hk, hz, ry.mono (kx_same s1), fun zv hzv => ?_⟩
          cases hat : atD kd p with
          | none =>
            rw [hat] at hzv epl
            have ez : zv = .non := hzv
            subst ez
            rw [epl] at q
            exact ⟨rfl, _, rfl, iteT (q false _ s1 rfl)⟩
          | some e =>
            rw [hat] at hzv epl
            obtain ⟨rz, kz⟩ := hzv
            obtain ⟨ts, rfl, _⟩ := isK_inv kz
            obtain ⟨a4, x4, rfl, _⟩ := rz.inv
            exact ⟨rfl, _, rfl, iteF (rest _ _ ⟨s1, ⟨_, _, rfl⟩, by rw [hmv]; exact epl, by rw [hmv]⟩)⟩
        · rw [decide_eq_false e2]
          exact iteT (q false _ s1 (by rw [no (fun e => e2 e.2), Bool.false_and]))
    · rintro σ H1 ⟨s1, ⟨y6, y7, rfl⟩, hpl, hm⟩
      rw [hpl, hm, Bool.true_and, Bool.true_and] at q
      have fin : ∀ (p : Addr) (H2 : Hp), Nw p H1 H2 (nats (sight pl (pl.length - 1))) → ∃ p' xs', V.ref p = .ref p' ∧ (SqL K H2 p' xs' ∨ SqT K H2 p' xs') ∧ flatV (.int (j : Nat)) = true ∧ xs'.all flatV = true ∧ Q (.bl (if false = true then !inV (.int (j : Nat)) xs' else inV (.int (j : Nat)) xs')) H2 := fun p H2 h2 => by
        refine ⟨p, _, rfl, .inl (SqL.of h2.h), rfl, flat_nats _, ?_⟩
        show Q (.bl (inV (.int (j : Nat)) (nats (sight pl (pl.length - 1))))) H2
        rw [inV_iff]
        exact q _ H2 (s1.trans h2.s) rfl
      refine ⟨_, rfl, .inl ⟨_, rfl, _, _, rfl, rfl, (by show (0 : Int) < 2; decide), rfl, _, rfl, ite2 (fun z => ?_) (fun z => ?_)⟩⟩
      · have h0 : (((xs.length : Nat) : Int)) % 2 = 1 := V.int.inj (of_decide_eq_true z)
        exact ⟨_, rfl, _, rfl, .ref a, pl, rfl, rv.mono (kx_same s1), hL.lp.wb, hL.par, by omega, hp, by omega, by omega, fin⟩
      · have h0 : ¬ (((xs.length : Nat) : Int)) % 2 = 1 := fun e => z (decide_eq_true (congrArg V.int e))
        exact ⟨_, rfl, _, rfl, .ref a, pl, rfl, rv.mono (kx_same s1), hL.lp.wb, hL.par, by omega, hp, by omega, by omega, fin⟩
end
end Pk

set_option maxRecDepth 100000
set_option maxHeartbeats 4000000
set_option pp.maxSteps 600
namespace Pk
open PySem PySem.Spec PyProof.Rows L2
/-! ### _law_after -/
def movs (kd : D) (pl : List Stp) (j : Nat) : List Mv := [.say 0, .say 1] ++ (match askPl pl j with
  | some p => (List.range (kids kd p)).map fun k => .ask (p ++ [k])
  | none => [])
def cand (kd : D) (pl : List Stp) (j : Nat) : List Stp := ((movs kd pl j).map fun m => (⟨m, some j⟩ : Stp)).filter (lgB kd pl (opens pl pl.length))
def fnd (kd : D) (pl : List Stp) (n : Nat) : List Stp := (List.range n).flatMap (cand kd pl)
theorem fnd_succ (kd : D) (pl : List Stp) (n : Nat) : fnd kd pl (n + 1) = fnd kd pl n ++ cand kd pl n := by
  unfold fnd
  rw [List.range_succ, List.flatMap_append]
  show _ ++ (cand kd pl n ++ []) = _
  rw [List.append_nil]
theorem mem_movs {kd : D} {pl : List Stp} {j : Nat} {m : Mv} : m ∈ movs kd pl j ↔ (∃ u, u ≤ 1 ∧ m = .say u) ∨ ∃ p k, askPl pl j = some p ∧ k < kids kd p ∧ m = .ask (p ++ [k]) := by
  unfold movs
  rw [List.mem_append]
  refine or_congr ?_ ?_
  · simp only [List.mem_cons, List.not_mem_nil, or_false]
    constructor
    · rintro (rfl | rfl)
      · exact ⟨0, by omega, rfl⟩
      · exact ⟨1, by omega, rfl⟩
    · rintro ⟨u, h, rfl⟩
      have : u = 0 ∨ u = 1 := by omega
      rcases this with rfl | rfl
      · exact .inl rfl
      · exact .inr rfl
  · cases h : askPl pl j with
    | none => simp
    | some p =>
      simp only [List.mem_map, List.mem_range]
      constructor
      · rintro ⟨k, hk, e⟩
        exact ⟨p, k, rfl, hk, e.symm⟩
      · rintro ⟨q, k, e, hk, rfl⟩
        cases e
        exact ⟨k, hk, rfl⟩
theorem movs_nodup (kd : D) (pl : List Stp) (j : Nat) : (movs kd pl j).Nodup := by
  unfold movs
  refine List.nodup_append.mpr ⟨by simp, ?_, ?_⟩
  · cases h : askPl pl j with
    | none => exact List.nodup_nil
    | some p =>
      refine List.Pairwise.map _ (fun a b hab e => ?_) (List.nodup_range (n := kids kd p))
      injection e with e
      exact hab (List.cons.inj (List.append_cancel_left e)).1
  · intro a ha b hb e
    subst e
    cases h : askPl pl j with
    | none =>
      rw [h] at hb
      cases hb
    | some p =>
      rw [h] at hb
      obtain ⟨k, _, rfl⟩ := List.mem_map.mp hb
      simp at ha
theorem cand_back {kd : D} {pl : List Stp} {j : Nat} {s : Stp} (h : s ∈ cand kd pl j) : s.back = some j := by
  obtain ⟨h1, _⟩ := List.mem_filter.mp h
  obtain ⟨m, _, rfl⟩ := List.mem_map.mp h1
  rfl
theorem fnd_nodup (kd : D) (pl : List Stp) (n : Nat) : (fnd kd pl n).Nodup := by
  refine flat_nodup List.nodup_range (fun j => ?_) (fun j s h => cand_back h)
  refine List.Pairwise.filter _ (List.Pairwise.map _ (fun a b hab e => ?_) (movs_nodup kd pl j))
  injection e with e
  exact hab e
theorem mem_fnd {kd : D} (hk : isK kd = true) {pl : List Stp} (h : LW kd pl) (hne : pl ≠ []) {s : Stp} : s ∈ fnd kd pl pl.length ↔ s ∈ rows kd pl := by
  have hp : 0 < pl.length := List.length_pos_iff.mpr hne
  rw [mem_rows hk]
  unfold fnd cand
  rw [List.mem_flatMap]
  constructor
  · rintro ⟨j, hj, hs⟩
    obtain ⟨h1, h2⟩ := List.mem_filter.mp hs
    obtain ⟨m, hm, rfl⟩ := List.mem_map.mp h1
    refine ⟨h2, fun u e => ?_⟩
    have e' : m = .say u := e
    subst e'
    rcases mem_movs.mp hm with ⟨v, hv, e⟩ | ⟨p, k, _, _, e⟩
    · injection e with e
      omega
    · cases e
  · rintro ⟨h1, h2⟩
    have hj : ∀ j ∈ sight pl (pl.length - 1), j < pl.length := fun j m => by
      have := (sight_up h.lp.wb (pl.length - 1) (by omega)).2 j m
      omega
    obtain ⟨mv, b⟩ := s
    cases mv with
    | ask p =>
      obtain ⟨j, q, k, rfl, _, hq, hk2, rfl, hm⟩ := (lg_ask hk).mp h1
      exact ⟨j, List.mem_range.mpr (hj j hm), List.mem_filter.mpr ⟨List.mem_map.mpr ⟨_, mem_movs.mpr (.inr ⟨q, k, hq, hk2, rfl⟩), rfl⟩, h1⟩⟩
    | say v =>
      obtain ⟨j, q, rfl, _, hq, _, hm⟩ := lg_say.mp h1
      exact ⟨j, List.mem_range.mpr (hj j hm), List.mem_filter.mpr ⟨List.mem_map.mpr ⟨_, mem_movs.mpr (.inl ⟨v, h2 v rfl, rfl⟩), rfl⟩, h1⟩⟩
theorem sight_nodup {pl : List Stp} (h : WB pl) {n : Nat} (hn : n < pl.length) : (sight pl n).Nodup := (sight_up h n hn).1.imp fun hab e => by omega
theorem fnd_sort {kd : D} (hk : isK kd = true) {pl : List Stp} (h : LW kd pl) (hne : pl ≠ []) : sortE tokS (fnd kd pl pl.length) = lawR kd pl := by
  have hp : 0 < pl.length := List.length_pos_iff.mpr hne
  unfold lawR
  rw [if_neg hne]
  have hn := rows_nodup kd (sight_nodup h.lp.wb (show pl.length - 1 < pl.length by omega))
  have hok : ∀ s ∈ fnd kd pl pl.length, okS s := fun s m => rows_ok hk ((mem_fnd hk h hne).mp m)
  exact sortE_eq ((List.perm_ext_iff_of_nodup (fnd_nodup kd pl _) hn).mpr fun s => mem_fnd hk h hne) fun b hb c hc e => tokS_inj (hok b hb) (hok c hc) e
theorem kids_le {kd : D} (hk : isK kd = true) (p : List Nat) : kids kd p ≤ sz kd := by
  unfold kids
  split
  · next ts e =>
    have := (atD_kind p kd _ hk e).2
    have h2 := len_szs ts
    have : szs ts + 1 ≤ sz kd := this
    omega
  · exact Nat.zero_le _
theorem atD_len : ∀ (p : List Nat) (d e : D), atD d p = some e → p.length ≤ sz d
  | [], _, _, _ => Nat.zero_le _
  | k :: p, d, e, h => by
    obtain ⟨us, u, rfl, hu, h'⟩ := atD_cons h
    have := atD_len p u e h'
    have := sz_mem (List.mem_of_getElem? hu)
    show p.length + 1 ≤ szs us + 1
    omega
theorem movs_len {kd : D} (hk : isK kd = true) (pl : List Stp) (j : Nat) : (movs kd pl j).length ≤ 2 + sz kd := by
  unfold movs
  rw [List.length_append]
  have : (match askPl pl j with
  | some p => (List.range (kids kd p)).map fun k => Mv.ask (p ++ [k])
  | none => []).length ≤ sz kd := by
    split
    · rw [List.length_map, List.length_range]
      exact kids_le hk _
    · exact Nat.zero_le _
  show 2 + _ ≤ _
  omega
section
variable {P : Program} {w : World} {K : PySem.W.Frag} {mg : Str → Option Value} {base : Heap}
def LsAt (K : PySem.W.Frag) (H : Hp) (l : Addr) (ss : List Stp) : Prop := ∃ xs, H l = some (.lst xs) ∧ Reps K H xs (ss.map stD)
def spAf (K : PySem.W.Frag) : Sp := fun vs H Q _ => ∃ (kv v : V) (kd : D) (pl : List Stp), vs = [kv, v] ∧ Rep K H kv kd ∧ isK kd = true ∧ sz kd ≤ 60 ∧ Rep K H v (playD pl) ∧ LW kd pl ∧
  ∀ (l : Addr) (H' : Hp), Same H H' → H l = none → LsAt K H' l (lawR kd pl) → Q (.ref l) H'
def MsAt (K : PySem.W.Frag) (H : Hp) (l : Addr) (ms : List Mv) : Prop := ∃ xs, H l = some (.lst xs) ∧ Reps K H xs (ms.map mvD)
theorem ok_laf {f f0 f1 f2 f3 f4 : Addr} {fd d0 d1 d2 d3 d4 : FuncData} (D__law_after : Df K mg "_law_after" s__law_after ["kind", "play"] f fd) (D__law_goes_on : Df K mg "_law_goes_on" s__law_goes_on ["kind", "play", "step"] f0 d0) (D__law_sight : Df K mg "_law_sight" s__law_sight ["play"] f1 d1) (D__law_asker_sight : Df K mg "_law_asker_sight" s__law_asker_sight ["play"] f2 d2)
    (D__law_open : Df K mg "_law_open" s__law_open ["play"] f3 d3) (D__law_at : Df K mg "_law_at" s__law_at ["kind", "place"] f4 d4) (B : Bt mg) : FnOk P w K mg base CX0 43 f fd ["kind", "play"] (spAf K) := by
  have G__law_goes_on : FnOk P w K mg base CX0 42 f0 d0 ["kind", "play", "step"] (spGo K) := ok_lgo D__law_goes_on D__law_sight D__law_asker_sight D__law_open D__law_at B
  have G__law_at : FnOk P w K mg base CX0 1 f4 d4 ["kind", "place"] (spAtO K) := ok_latO D__law_at B
  refine D__law_after.ok c__law_after (fun vs H Q E h => ?_) (fun cdv A outer s0 H vs Q E hr h => ?_)
  · obtain ⟨kv, v, kd, pl, rfl, _⟩ := h
    rfl
  obtain ⟨kv, v, kd, pl, rfl, rk, hk, hz, rv, hL, q⟩ := h
  have nd := c__law_after.nd
  refine ⟨_, (pss_cons (ps_if (pt_cmpR op_eq (pe_callB call_len_seq (by rfl) B.b_len PySem.boot_len (pa_cons (pv 1) pa_nil)) pe_int (nomark _)) (pss_one (ps_ret (pe_lst (pa_cons (pe_tup (pa_cons (pe_tup (pa_cons pe_str (pa_cons (pe_tup pa_nil) pa_nil))) (pa_cons pe_non pa_nil))) pa_nil)))) pss_nil)
  (pss_cons (ps_set (i := 2) nd rfl (Or.inl rfl) (pe_lst pa_nil))
  (pss_cons (ps_for PassesOwn.never rfl (pi_range1 (by rfl) B.b_range (pa_cons (pe_callB call_len_seq (by rfl) B.b_len PySem.boot_len (pa_cons (pv 1) pa_nil)) pa_nil)) (pg_name (i := 3) nd rfl (Or.inr rfl)) (pss_cons (ps_set (i := 4) nd rfl (Or.inl rfl) (pe_lst (pa_cons (pe_tup (pa_cons pe_str (pa_cons pe_int pa_nil))) (pa_cons (pe_tup (pa_cons pe_str (pa_cons pe_int pa_nil))) pa_nil))))
  (pss_cons (ps_if (pt_cmpR op_eq (pe_ix ix_tup (pe_ix ix_tup (pe_ix ix_tup (pv 1) (pv 3) (fun _ _ => rfl)) pe_int (fun _ _ => rfl)) pe_int (fun _ _ => rfl)) pe_str (nomark _)) (pss_cons (ps_set (i := 5) nd rfl (Or.inr rfl) (pe_ix ix_tup (pe_ix ix_tup (pe_ix ix_tup (pv 1) (pv 3) (fun _ _ => rfl)) pe_int (fun _ _ => rfl)) pe_int (fun _ _ => rfl)))
  (pss_one (ps_set (i := 4) nd rfl (Or.inl rfl) (pe_op op_cat (pv 4) (pe_lc (own := [("k", 7)]) (g := (gName 7)) (tt := tYes) rfl nd (pi_range1 (by rfl) B.b_range (pa_cons (pe_callB call_len_seq (by rfl) B.b_len PySem.boot_len (pa_cons (pe_call G__law_at (hr.mono (by first | decide | omega)) (by rfl) D__law_at.m D__law_at.kp D__law_at.b .nil pass0 (pa_cons (pv 0) (pa_cons (pv 5) pa_nil))) pa_nil)) pa_nil)) (blkOk_by (own := [("k", 7)]) (N := ["kind", "play", "found", "back", "moves", "place", "move", "k"]) (sc := defScope s__law_after) (by decide +kernel)) (fun _ _ _ _ _ => (pg_name (i := 7) nd rfl (Or.inl rfl))) (fun _ _ _ _ _ => pts_nil) (fun _ _ _ _ _ => (pe_tup (pa_cons pe_str (pa_cons (pe_op (show OpR _ (binaryOp .Add) (rCatP K) from op_catP) (pv 5) (pe_tup (pa_cons (pv 7) pa_nil))) pa_nil))))))))) pss_nil)
  (pss_one (ps_set (i := 2) nd rfl (Or.inl rfl) (pe_op op_cat (pv 2) (pe_lc (own := [("move", 6)]) (g := (gName 6)) (tt := _) rfl nd (pi_list (pv 4)) (blkOk_by (own := [("move", 6)]) (N := ["kind", "play", "found", "back", "moves", "place", "move", "k"]) (sc := defScope s__law_after) (by decide +kernel)) (fun _ _ _ _ _ => (pg_name (i := 6) nd rfl (Or.inl rfl))) (fun _ _ _ _ _ => (pts_one (pt_val (pe_call G__law_goes_on (hr.mono (by first | decide | omega)) (by rfl) D__law_goes_on.m D__law_goes_on.kp D__law_goes_on.b .nil pass0 (pa_cons (pv 0) (pa_cons (pv 1) (pa_cons (pe_tup (pa_cons (pv 6) (pa_cons (pv 3) pa_nil))) pa_nil))))))) (fun _ _ _ _ _ => (pe_tup (pa_cons (pv 6) (pa_cons (pv 3) pa_nil)))))))))))
  (pss_one (ps_ret (pe_callB (cr_sortE hr.units encS) (by rfl) B.b_sorted (by decide +kernel) (pa_cons (pv 2) pa_nil))))))), ?_⟩
  obtain ⟨a, xs, rfl, ha, rxs, lx⟩ := play_inv rv
  have hlen := hL.lp.len
  refine ⟨_, rfl, a, xs, rfl, .inr ha.sq, rfl, _, rfl, ite2 (fun z => ?_) (fun z => ?_)⟩
  · have z' := V.int.inj (of_decide_eq_true z)
    have e0 : pl = [] := List.eq_nil_of_length_eq_zero (by omega)
    subst e0
    rw [lawR_nil] at q
    refine ⟨(by show 0 ≤ sizeLine; decide), fun t1 n1 => ⟨(by show 2 ≤ sizeLine; decide), fun t2 n2 => ⟨(by show 2 ≤ sizeLine; decide), fun t3 n3 => ⟨(by show 1 ≤ sizeLine; decide), fun l nl => ?_⟩⟩⟩⟩
    have u4 := same_new nl (.lst [.ref t3])
    have u3 := (same_new n3 (.tup [.ref t2, .non])).trans u4
    have u2 := (same_new n2 (.tup [.str "ask", .ref t1])).trans u3
    have u1 := (same_new n1 (.tup [])).trans u2
    refine q l _ u1 (new_none ((same_new n1 _).trans ((same_new n2 _).trans (same_new n3 _))) nl) ⟨_, upd_same, .one (.tup' (u4 _ _ upd_same) (.cons (.tup' (u3 _ _ upd_same) (.cons (.at rfl) (.one (.tup' (u2 _ _ upd_same) .nil)))) (.one (.at rfl))))⟩
  have hne : pl ≠ [] := fun e => z (decide_eq_true (by rw [e] at lx; rw [show xs.length = 0 from lx]; rfl))
  have hp : 0 < pl.length := List.length_pos_iff.mpr hne
  refine ⟨(by show 0 ≤ sizeLine; decide), fun l0 nl0 => ?_⟩
  refine ⟨_, rfl, a, xs, rfl, .inr (ha.same (same_new nl0 _)).sq, _, rfl, by omega, by omega, ?_⟩
  refine for_range (n := ((xs.length : Nat) : Int).toNat) (fun i σ H' => ∃ (l : Addr) (y3 y4 y5 y6 y7 : Option V), σ = [some kv, some (.ref a), some (.ref l), y3, y4, y5, y6, y7] ∧ Same H H' ∧ H l = none ∧ (∃ ys, H' l = some (.lst ys) ∧ Reps K H' ys ((fnd kd pl i).map stD) ∧ ys.length ≤ 62 * i))
    ⟨l0, none, none, none, none, none, rfl, same_new nl0 _, nl0, [], upd_same, .nil, Nat.zero_le _⟩ ?_ ?_
  · rintro i σ H1 hi ⟨l, y3, y4, y5, y6, y7, rfl, s1, nl, ys, hl, rys, lys⟩
    have hip : i < pl.length := by omega
    have ez : (0 : Int) + (i : Nat) = ((i : Nat) : Int) := Int.zero_add _
    have ep : pl[i]? = some pl[i] := List.getElem?_eq_getElem hip
    obtain ⟨x, hx, rx⟩ := play_at rxs ep
    obtain ⟨a2, m2, b2, rfl, ha2, rm2, rb2⟩ := step_inv rx
    have hx' := atI_nat hx
    rw [← ez] at hx'
    refine ⟨(by show 2 ≤ sizeLine; decide), fun t1 n1 => ⟨(by show 2 ≤ sizeLine; decide), fun t2 n2 => ⟨(by show 2 ≤ sizeLine; decide), fun l1 nl1 => ?_⟩⟩⟩
    have u3 := same_new nl1 (.lst [.ref t1, .ref t2])
    have u2 := (same_new n2 (.tup [.str "say", .int 1])).trans u3
    have u1 := (same_new n1 (.tup [.str "say", .int 0])).trans u2
    have rm0 : Reps K (upd (upd (upd H1 t1 (.tup [.str "say", .int 0])) t2 (.tup [.str "say", .int 1])) l1 (.lst [.ref t1, .ref t2])) [V.ref t1, .ref t2] ([Mv.say 0, .say 1].map mvD) := .cons (.tup' (u2 _ _ upd_same) (.cons (.at rfl) (.one (.at rfl)))) (.one (.tup' (u3 _ _ upd_same) (.cons (.at rfl) (.one (.at rfl)))))
    have hl1 : (upd (upd (upd H1 t1 (.tup [.str "say", .int 0])) t2 (.tup [.str "say", .int 1])) l1 (.lst [.ref t1, .ref t2])) l1 = some (.lst [.ref t1, .ref t2]) := upd_same
    have s2 := s1.trans u1
    have hl2 := u1 _ _ hl
    have rys2 := rys.mono (kx_same u1)
    generalize upd (upd (upd H1 t1 (.tup [.str "say", .int 0])) t2 (.tup [.str "say", .int 1])) l1 (.lst [.ref t1, .ref t2]) = H2 at *
    refine nx_rest (fun σ' H' => ∃ (lm : Addr) (y5 y6 y7 : Option V), σ' = [some kv, some (.ref a), some (.ref l), some (.int ((0 : Int) + (i : Nat))), some (.ref lm), y5, y6, y7] ∧ Same H2 H' ∧ MsAt K H' lm (movs kd pl i)) (fun rest => ?_) ?_
    · cases hmv : pl[i].mv with
      | say u =>
        rw [hmv] at rm2
        obtain ⟨a3, rfl, ha3⟩ := say_inv rm2
        refine ⟨_, rfl, _, rfl, a, xs, _, _, rfl, rfl, (ha.same s2).sq, hx', a2, _, 0, _, rfl, rfl, (ha2.same s2).sq, rfl, a3, _, 0, _, rfl, rfl, (ha3.same s2).sq, rfl, rfl, _, rfl, iteF (rest _ _ ⟨l1, _, _, _, rfl, Same.refl _, [.ref t1, .ref t2], hl1, ?_⟩)⟩
        unfold movs
        rw [askPl_say (v := u) (b := pl[i].back) (by rw [ep, ← hmv])]
        exact rm0
      | ask p =>
        rw [hmv] at rm2
        obtain ⟨a3, y3', rfl, ha3, ry3⟩ := ask_inv rm2
        have eap : askPl pl i = some p := askPl_of (b := pl[i].back) (by rw [ep, ← hmv])
        obtain ⟨e, he⟩ := hL.lp.pa i p pl[i].back (by rw [ep, ← hmv])
        obtain ⟨ke, ze⟩ := atD_kind p kd e hk he
        obtain ⟨ts, rfl, hts⟩ := isK_inv ke
        have ek : kids kd p = ts.length := by
          unfold kids
          rw [he]
        have hpl := atD_len p kd _ he
        have hkl := kids_le hk p
        rw [ek] at hkl
        have em : movs kd pl i = [.say 0, .say 1] ++ (List.range ts.length).map fun k => .ask (p ++ [k]) := by
          unfold movs
          rw [eap, ← ek]
        rw [em] at rest
        refine ⟨_, rfl, _, rfl, a, xs, _, _, rfl, rfl, (ha.same s2).sq, hx', a2, _, 0, _, rfl, rfl, (ha2.same s2).sq, rfl, a3, _, 0, _, rfl, rfl, (ha3.same s2).sq, rfl, rfl, _, rfl, iteT ?_⟩
        refine ⟨_, rfl, _, rfl, a, xs, _, _, rfl, rfl, (ha.same s2).sq, hx', a2, _, 0, _, rfl, rfl, (ha2.same s2).sq, rfl, a3, _, 1, _, rfl, rfl, (ha3.same s2).sq, rfl, ?_⟩
        refine ⟨_, rfl, _, rfl, _, rfl, kv, y3', kd, p, rfl, rk.mono (kx_same s2), hk, by omega, ry3.mono (kx_same s2), fun zv hzv => ?_⟩
        rw [he] at hzv
        obtain ⟨rz, _⟩ := hzv
        obtain ⟨a4, x4, rfl, ha4, rx4⟩ := rz.inv
        have l4 := rx4.length
        obtain ⟨qa, qx, rfl, hqa, rqx⟩ := Rep.inv (ts := p.map numD') ry3
        have eqx := rep_nats_inv rqx
        subst eqx
        refine ⟨a4, x4, rfl, .inr ha4.sq, _, rfl, by omega, by omega, fun d hd => ?_⟩
        refine lc_range (n := x4.length) (fun k H' => Same H2 H' ∧ ∃ acc, H' d = some (.lst acc) ∧ Reps K H' acc (((List.range k).map fun k => Mv.ask (p ++ [k])).map mvD) ∧ acc.length ≤ k) ⟨same_new hd _, [], upd_same, .nil, Nat.le_refl _⟩ ?_ ?_
        · rintro k H3 hk3 ⟨s3, acc, hd3, rcs, hcl⟩
          have ez3 : (0 : Int) + (k : Nat) = ((k : Nat) : Int) := Int.zero_add _
          refine ⟨rfl, yes_go ⟨_, rfl, _, rfl, (by show 1 ≤ sizeLine; decide), fun w1 m1 => ?_⟩⟩
          have v1 := same_new m1 (.tup [.int ((0 : Int) + (k : Nat))])
          refine ⟨qa, w1, nats p, _, rfl, rfl, ((hqa.same s2).same s3).same v1, .inl upd_same, small6' (by rw [nats_len]; show p.length + 1 ≤ 1000000; omega), fun cc H4 s4 hcc => ⟨(by show 2 ≤ sizeLine; decide), fun w2 m2 => ?_⟩⟩
          have v2 := same_new m2 (.tup [.str "ask", .ref cc])
          have s35 := v1.trans (s4.trans v2)
          have hd5 := s35 _ _ hd3
          have kl := kx_list hd5 (acc ++ [.ref w2])
          refine ⟨acc, hd5, small6 (by omega), fun o x e => ?_, acc ++ [.ref w2], upd_same, ?_, by rw [List.length_append, List.length_singleton]; omega⟩
          · rw [upd_ne (ne_of_none e hd)]
            exact s35 _ _ (s3 _ _ e)
          · rw [List.range_succ, List.map_append, List.map_append]
            refine (rcs.mono ((kx_same s35).trans kl)).append (.one (.tup (xs := [.str "ask", .ref cc]) (.inl (kl.t _ _ upd_same)) (.cons (.at rfl) (.one (.tup (xs := nats p ++ [.int ((0 : Int) + (k : Nat))]) ((hcc.same v2).kx kl) ?_)))))
            rw [ez3, nats_snoc]
            exact reps_nats _
        · rintro H3 ⟨s3, acc, hd3, rcs, hcl⟩
          rw [l4] at rcs hcl
          refine ⟨l1, d, _, _, rfl, rfl, s3 _ _ hl1, hd3, small6' (by show 2 + _ ≤ 1000000; omega), fun p3 np3 => ?_⟩
          have w6 := same_new np3 (.lst ([.ref t1, .ref t2] ++ acc))
          refine rest _ _ ⟨p3, _, _, _, rfl, s3.trans w6, [.ref t1, .ref t2] ++ acc, upd_same, ?_⟩
          rw [List.map_append]
          exact (rm0.mono (kx_same (s3.trans w6))).append (rcs.mono (kx_same w6))
    · rintro σ H3 ⟨lm, y5, y6, y7, rfl, s3, zs, hlm, rzs⟩
      have lzs := rzs.length
      rw [List.length_map] at lzs
      have hml := movs_len hk pl i
      refine ⟨_, rfl, _, rfl, lm, rfl, ⟨_, SqL.of hlm⟩, fun d nd' => ?_⟩
      have s23 := s2.trans s3
      refine lc_list (xs := zs) (fun k H' => Same H3 H' ∧ ∃ acc, H' d = some (.lst acc) ∧ acc.length ≤ k ∧ Reps K H' acc (((((movs kd pl i).take k).map fun m => (⟨m, some i⟩ : Stp)).filter (lgB kd pl (opens pl pl.length))).map stD)) ⟨same_new nd' _, [], upd_same, Nat.le_refl _, .nil⟩ (fun k H' _ h => SqL.of (h.1 _ _ hlm)) ?_ ?_
      · rintro k y H4 hk4 ⟨s4, acc, hd4, lacc, racc⟩
        obtain ⟨dd, hdd, rdd⟩ := rzs.get hk4
        rw [List.getElem?_map] at hdd
        obtain ⟨m, hm, rfl⟩ := Option.map_eq_some_iff.mp hdd
        have hkl := (List.getElem?_eq_some_iff.mp hm).1
        have etk : (((movs kd pl i).take (k + 1)).map fun m => (⟨m, some i⟩ : Stp)).filter (lgB kd pl (opens pl pl.length)) = (((movs kd pl i).take k).map fun m => (⟨m, some i⟩ : Stp)).filter (lgB kd pl (opens pl pl.length)) ++ [(⟨m, some i⟩ : Stp)].filter (lgB kd pl (opens pl pl.length)) := by
          rw [List.take_add_one, hm, List.map_append, List.filter_append]
          rfl
        have hmm := List.mem_of_getElem? hm
        refine ⟨rfl, _, rfl, _, rfl, _, rfl, _, rfl, (by show 2 ≤ sizeLine; decide), fun t nt => ?_⟩
        have v1 := same_new nt (.tup [y, .int ((0 : Int) + (i : Nat))])
        have s34 := s23.trans (s4.trans v1)
        have rst : Rep K _ (.ref t) (stD ⟨m, some i⟩) := .tup' upd_same (.cons (rdd.mono (kx_same (s4.trans v1))) (.one (by rw [ez]; exact .at rfl)))
        refine ⟨kv, .ref a, .ref t, kd, pl, ⟨m, some i⟩, i, rfl, rk.mono (kx_same s34), hk, by omega, rv.mono (kx_same s34), hL, hne, rst, rfl, hip, fun p e => ?_, fun b H5 s5 hb => ?_⟩
        · have e' : m = .ask p := e
          subst e'
          rcases mem_movs.mp hmm with ⟨u, _, e⟩ | ⟨q', k', hq, _, e⟩
          · cases e
          · injection e with e
            obtain ⟨bb, hbb⟩ := askPl_some hq
            obtain ⟨e2, he2⟩ := hL.lp.pa i q' bb hbb
            have := atD_len q' kd _ he2
            rw [e, List.length_append, List.length_singleton]
            omega
        · have hd5 := (v1.trans s5) _ _ hd4
          cases b with
          | false =>
            refine ⟨_, rfl, iteF ⟨(s4.trans v1).trans s5, acc, hd5, by omega, ?_⟩⟩
            rw [etk, List.filter_cons_of_neg (by rw [hb]; decide), List.filter_nil, List.append_nil]
            exact racc.mono (kx_same (v1.trans s5))
          | true =>
            refine ⟨_, rfl, iteT ⟨_, rfl, _, rfl, (by show 2 ≤ sizeLine; decide), fun t6 nt6 => ?_⟩⟩
            have v6 := same_new nt6 (.tup [y, .int ((0 : Int) + (i : Nat))])
            have s46 := v1.trans (s5.trans v6)
            have hd6 := s46 _ _ hd4
            have kl := kx_list hd6 (acc ++ [.ref t6])
            refine ⟨acc, hd6, small6 (by omega), fun o x e => ?_, acc ++ [.ref t6], upd_same, by rw [List.length_append, List.length_singleton]; omega, ?_⟩
            · rw [upd_ne (ne_of_none e nd')]
              exact s46 _ _ (s4 _ _ e)
            · rw [etk, List.filter_cons_of_pos hb, List.filter_nil, List.map_append]
              refine (racc.mono ((kx_same s46).trans kl)).append (.one (.tup' (kl.t _ _ upd_same) (.cons (rdd.mono ((kx_same (s4.trans s46)).trans kl)) (.one (by rw [ez]; exact .at rfl)))))
      · rintro H4 ⟨s4, acc, hd4, lacc, racc⟩
        rw [lzs, List.take_length] at racc
        rw [lzs] at lacc
        have hl4 := (s3.trans s4) _ _ hl2
        refine ⟨l, d, _, _, rfl, rfl, hl4, hd4, small6' (by omega), fun p3 np3 => ?_⟩
        have w6 := same_new np3 (.lst (ys ++ acc))
        have nn : H p3 = none := new_none (s23.trans s4) np3
        refine ⟨p3, _, _, _, _, _, rfl, (s23.trans s4).trans w6, nn, ys ++ acc, upd_same, ?_, by rw [List.length_append]; omega⟩
        rw [fnd_succ, List.map_append]
        exact (rys2.mono (kx_same (s3.trans (s4.trans w6)))).append (racc.mono (kx_same w6))
  · rintro σ H1 ⟨l, y3, y4, y5, y6, y7, rfl, s1, nl, ys, hl, rys, lys⟩
    have elx : ((xs.length : Nat) : Int).toNat = pl.length := by omega
    rw [elx] at rys lys
    refine ⟨_, rfl, l, ys, fnd kd pl pl.length, rfl, SqL.of hl, rys, fun s hs => rows_ok hk ((mem_fnd hk hL hne).mp hs), fun zs p rzs np => ?_⟩
    rw [fnd_sort hk hL hne] at rzs
    have w6 := same_new np (.lst zs)
    exact q p _ (s1.trans w6) (new_none s1 np) ⟨zs, upd_same, rzs.mono (kx_same w6)⟩
end
end Pk

set_option maxRecDepth 100000
set_option maxHeartbeats 4000000
set_option pp.maxSteps 600
namespace Pk
open PySem PySem.Spec PyProof.Rows L2
/-! ### _law_reply, _law_play -/
section
variable {P : Program} {w : World} {K : PySem.W.Frag} {mg : Str → Option Value} {base : Heap}
def RpAt (K : PySem.W.Frag) (H : Hp) (o : Option Stp) (z : V) : Prop := match o with
  | some s => Rep K H z (stD s)
  | none => z = .non
theorem RpAt.mono {K : PySem.W.Frag} {H H' : Hp} (k : Kx H H') {o : Option Stp} {z : V} (h : RpAt K H o z) : RpAt K H' o z := by
  cases o with
  | none => exact h
  | some s => exact Rep.mono k h
def Legs (rows : List Row) (pl : List Stp) : Prop := ∀ x, lkR rows (apart pl (sgl pl)) = some x → ∃ (c j : Nat), x.back = some c ∧ (sgl pl)[c]? = some j
theorem legs_of {kd : D} {t : T} (hw : wfP [] kd t = true) {pl : List Stp} (h : LW kd pl) (ho : pl.length % 2 = 1) : Legs (rowsT t) pl := fun x hx => by
  obtain ⟨c, p, b, e1, e2, e3, e4⟩ := rowsT_leg hw _ (lkR_mem hx)
  have up := sight_up h.lp.wb (pl.length - 1) (by omega)
  obtain ⟨j, b', hc, ej⟩ := apart_at (fun n hn => by have := up.2 n hn; omega) e3
  exact ⟨c, j, e1, hc⟩
def spRp (P : Program) (w : World) (K : PySem.W.Frag) : Sp := fun vs H Q _ => ∃ (d : Addr) (v : V) (kd : D) (rows : List Row) (pl : List Stp), vs = [.ref d, v] ∧ DR P w K H d rows ∧ Rep K H v (playD pl) ∧ LW kd pl ∧ pl.length % 2 = 1 ∧ Legs rows pl ∧
  ∀ z H', Same H H' → RpAt K H' (repl rows pl) z → Q z H'
theorem ok_lrp {f f1 f2 : Addr} {fd d1 d2 : FuncData} (D__law_reply : Df K mg "_law_reply" s__law_reply ["rows", "play"] f fd) (D__law_sight : Df K mg "_law_sight" s__law_sight ["play"] f1 d1) (D__law_alone : Df K mg "_law_alone" s__law_alone ["play", "numbers"] f2 d2) (B : Bt mg) :
    FnOk P w K mg base CX0 42 f fd ["rows", "play"] (spRp P w K) := by
  have G__law_sight : FnOk P w K mg base CX0 41 f1 d1 ["play"] (spSg K 1 41) := ok_sg D__law_sight B 41
  have G__law_alone : FnOk P w K mg base CX0 1 f2 d2 ["play", "numbers"] (spLAl K) := ok_lal D__law_alone B
  refine D__law_reply.ok c__law_reply (fun vs H Q E h => ?_) (fun cdv A outer s0 H vs Q E hr h => ?_)
  · obtain ⟨d, v, kd, rows, pl, rfl, _⟩ := h
    rfl
  obtain ⟨d, v, kd, rows, pl, rfl, hD, rv, hL, hodd, hleg, q⟩ := h
  have nd := c__law_reply.nd
  refine ⟨_, (pss_cons (ps_set (i := 2) nd rfl (Or.inl rfl) (pe_call G__law_sight (hr.mono (by first | decide | omega)) (by rfl) D__law_sight.m D__law_sight.kp D__law_sight.b .nil pass0 (pa_cons (pv 1) pa_nil)))
  (pss_cons (ps_set (i := 3) nd rfl (Or.inl rfl) (show PE _ _ (tDkGet1 P w K _ _) from pe_dkGet1 hr.units (pv 0) (pe_call G__law_alone (hr.mono (by first | decide | omega)) (by rfl) D__law_alone.m D__law_alone.kp D__law_alone.b .nil pass0 (pa_cons (pv 1) (pa_cons (pv 2) pa_nil))) ⟨rfl, rfl, rfl, rfl⟩))
  (pss_cons (ps_if (pt_cmpR op_isN (pv 3) pe_non (nomark _)) (pss_one (ps_ret pe_non)) pss_nil)
  (pss_one (ps_ret (pe_tup (pa_cons (pe_ix ix_tup (pv 3) pe_int (fun _ _ => rfl)) (pa_cons (pe_ix ix_list (pv 2) (pe_ix ix_tup (pv 3) pe_int (fun _ _ => rfl)) (fun _ _ => rfl)) pa_nil)))))))), ?_⟩
  have hlen := hL.lp.len
  have hp : 0 < pl.length := by omega
  refine ⟨_, rfl, v, pl, rfl, rv, hL.lp.wb, hL.par, hodd, hp, by omega, by omega, fun b H1 h1 => ?_⟩
  have s1 := h1.s
  have hsl := sight_len hL.lp.wb (pl.length - 1) (by omega)
  obtain ⟨xs, hx, px⟩ := hD.same s1
  refine ⟨_, rfl, d, xs, rfl, ⟨.inl hx, entR_keys px⟩, _, rfl, _, rfl, v, b, pl, sight pl (pl.length - 1), rfl, rv.mono (kx_same s1), h1.h, hL.lp.wb, sight_cl hL.lp.wb hL.lp.ws _ (by omega), by omega, fun z H2 s2 rz => ?_⟩
  have hx2 := s2 _ _ hx
  have px2 := entR_mono (kx_same s2) px
  obtain ⟨kb, ks, rfl, hkb, _, _⟩ := play_inv rz
  refine ⟨kb, xs, kyP (apart pl (sight pl (pl.length - 1))), rfl, ⟨.inl hx2, entR_keys px2⟩, keyP rz, ?_⟩
  have s12 := s1.trans s2
  rcases entR_at px2 (apart pl (sight pl (pl.length - 1))) with ⟨g1, g2⟩ | ⟨x, vx, g1, g2, g3⟩
  · have er : repl rows pl = none := by
      unfold repl sgl
      rw [g1]
      rfl
    rw [er] at q
    rw [g2]
    exact ⟨_, rfl, rfl, _, rfl, iteT (q _ _ s12 rfl)⟩
  · obtain ⟨c, j, e1, e2⟩ := hleg x g1
    have er : repl rows pl = some ⟨x.mv, some j⟩ := by
      unfold repl
      have g1' : lkR rows (apart pl (sgl pl)) = some x := g1
      rw [g1']
      show some (Stp.mk x.mv (x.back.map fun c => (sgl pl).getD c 0)) = _
      rw [e1]
      show some (Stp.mk x.mv (some ((sgl pl).getD c 0))) = _
      rw [List.getD_eq_getElem?_getD, e2]
      rfl
    rw [er] at q
    rw [g2]
    obtain ⟨a2, m2, b2, rfl, ha2, rm2, rb2⟩ := step_inv g3
    rw [e1] at rb2
    obtain ⟨rfl, _⟩ := Rep.inva (w := V.int (c : Nat)) rb2
    have hb2 := s2 _ _ h1.h
    refine ⟨_, rfl, rfl, _, rfl, iteF ?_⟩
    refine ⟨_, rfl, a2, _, 0, _, rfl, rfl, ha2.sq, rfl, _, rfl, _, rfl, a2, _, 1, _, rfl, rfl, ha2.sq, rfl, b, _, _, _, rfl, rfl, SqL.of hb2, atI_nat (nats_get e2), (by show 2 ≤ sizeLine; decide), fun t nt => ?_⟩
    have s3 := same_new nt (.tup [m2, .int (j : Nat)])
    exact q _ _ (s12.trans s3) (.tup' upd_same (.cons (rm2.mono (kx_same s3)) (.one (.at rfl))))
theorem DR.sbx {H H' : Hp} {d b : Addr} {rows : List Row} (h : DR P w K H d rows) {xs : List V} (hb : H b = some (.lst xs)) (s : SB b H H') (k : Kx H H') : DR P w K H' d rows := by
  obtain ⟨ys, hy, py⟩ := h
  refine ⟨ys, s _ _ (fun e => ?_) hy, entR_mono k py⟩
  subst e
  rw [hb] at hy
  cases hy
def OwnP (rows : List Row) (pl : List Stp) : Prop := ∀ n, n < pl.length → n % 2 = 1 → repl rows (pl.take n) = pl[n]?
theorem OwnP.nil (rows : List Row) : OwnP rows [] := fun n h => absurd h (Nat.not_lt_zero n)
theorem OwnP.snoc {rows : List Row} {pl : List Stp} {s : Stp} (h : OwnP rows pl) (hs : pl.length % 2 = 1 → repl rows pl = some s) : OwnP rows (pl ++ [s]) := fun n hn hm => by
  rw [List.length_append, List.length_singleton] at hn
  by_cases e : n < pl.length
  · rw [List.take_append_of_le_length (by omega), List.getElem?_append_left e]
    exact h n e hm
  · have e' : n = pl.length := by omega
    subst e'
    rw [List.take_left, List.getElem?_append_right (Nat.le_refl _), Nat.sub_self]
    exact hs hm
def spPlay (P : Program) (w : World) (K : PySem.W.Frag) : Sp := fun vs H Q _ => ∃ (b c d : Addr) (kv : V) (kd : D) (t : T) (free : Int) (mo : Nat), vs = [.ref b, kv, .ref d, .int (mo : Nat), .int free] ∧ mo ≤ 39 ∧ BoxAt H b c ∧ Rep K H kv kd ∧ isK kd = true ∧ sz kd ≤ 60 ∧ DR P w K H d (rowsT t) ∧ wfP [] kd t = true ∧
  ∀ (z : V) (pl : List Stp) (H' : Hp), Rep K H' z (playD pl) → LW kd pl → (free = 0 → OwnP (rowsT t) pl) → pl.length ≤ mo → BoxAt H' b c → SB b H H' → Q z H'
theorem ok_lpl {f f0 f1 f2 f3 f4 f5 f6 f7 f8 : Addr} {fd d0 d1 d2 d3 d4 d5 d6 d7 d8 : FuncData} (D__law_play : Df K mg "_law_play" s__law_play ["box", "kind", "rows", "most", "free"] f fd) (D__law_goes_on : Df K mg "_law_goes_on" s__law_goes_on ["kind", "play", "step"] f0 d0) (D__law_sight : Df K mg "_law_sight" s__law_sight ["play"] f1 d1) (D__law_asker_sight : Df K mg "_law_asker_sight" s__law_asker_sight ["play"] f2 d2)
    (D__law_open : Df K mg "_law_open" s__law_open ["play"] f3 d3) (D__law_at : Df K mg "_law_at" s__law_at ["kind", "place"] f4 d4) (D__law_after : Df K mg "_law_after" s__law_after ["kind", "play"] f5 d5) (D__law_reply : Df K mg "_law_reply" s__law_reply ["rows", "play"] f6 d6) (D__law_alone : Df K mg "_law_alone" s__law_alone ["play", "numbers"] f7 d7)
    (D__law_draw : Df K mg "_law_draw" s__law_draw ["box", "many"] f8 d8) (B : Bt mg) : FnOk P w K mg base CX0 44 f fd ["box", "kind", "rows", "most", "free"] (spPlay P w K) := by
  have G__law_after : FnOk P w K mg base CX0 43 f5 d5 ["kind", "play"] (spAf K) := ok_laf D__law_after D__law_goes_on D__law_sight D__law_asker_sight D__law_open D__law_at B
  have G__law_reply : FnOk P w K mg base CX0 42 f6 d6 ["rows", "play"] (spRp P w K) := ok_lrp D__law_reply D__law_sight D__law_alone B
  have G__law_draw : FnOk P w K mg base CX0 1 f8 d8 ["box", "many"] spDraw := ok_draw D__law_draw B
  refine D__law_play.ok c__law_play (fun vs H Q E h => ?_) (fun cdv A outer s0 H vs Q E hr h => ?_)
  · obtain ⟨b, c, d, kv, kd, t, free, mo, rfl, _⟩ := h
    rfl
  obtain ⟨b, c, d, kv, kd, t, free, mo, rfl, hmo, hB, rk, hk, hz, hD, hw, q⟩ := h
  have nd := c__law_play.nd
  refine ⟨_, (pss_cons (ps_set (i := 5) nd rfl (Or.inl rfl) (pe_tup pa_nil))
  (pss_cons (ps_for PassesOwn.never rfl (pi_range1 (by rfl) B.b_range (pa_cons (pv 3) pa_nil)) (pg_name (i := 6) nd rfl (Or.inl rfl)) (pss_cons (ps_set (i := 7) nd rfl (Or.inl rfl) (pe_call G__law_after (hr.mono (by first | decide | omega)) (by rfl) D__law_after.m D__law_after.kp D__law_after.b .nil pass0 (pa_cons (pv 1) (pa_cons (pv 5) pa_nil))))
  (pss_cons (ps_if (pt_cmpR op_eq (pe_callB call_len_seq (by rfl) B.b_len PySem.boot_len (pa_cons (pv 7) pa_nil)) pe_int (nomark _)) (pss_one (ps_ret (pv 5))) pss_nil)
  (pss_cons (ps_set (i := 8) nd rfl (Or.inl rfl) (pe_ix ix_list (pv 7) (pe_op op_mod (pe_callTy call_int1 (by rfl) B.b_int (by decide +kernel) (pa_cons (pe_call G__law_draw (hr.mono (by first | decide | omega)) (by rfl) D__law_draw.m D__law_draw.kp D__law_draw.b .nil pass0 (pa_cons (pv 0) (pa_cons pe_int pa_nil))) pa_nil)) (pe_callB call_len_seq (by rfl) B.b_len PySem.boot_len (pa_cons (pv 7) pa_nil))) (fun _ _ => rfl)))
  (pss_cons (ps_if (PW.pt (pw_and (pt_cmpR op_eq (pe_op op_mod (pe_callTy call_int1 (by rfl) B.b_int (by decide +kernel) (pa_cons (pe_callB call_len_seq (by rfl) B.b_len PySem.boot_len (pa_cons (pv 5) pa_nil)) pa_nil)) pe_int) pe_int (nomark _)) (pw_and1 (pt_cmpR op_ge (pe_call G__law_draw (hr.mono (by first | decide | omega)) (by rfl) D__law_draw.m D__law_draw.kp D__law_draw.b .nil pass0 (pa_cons (pv 0) (pa_cons pe_int pa_nil))) (pv 4) (nomark _))))) (pss_cons (ps_set (i := 8) nd rfl (Or.inl rfl) (pe_call G__law_reply (hr.mono (by first | decide | omega)) (by rfl) D__law_reply.m D__law_reply.kp D__law_reply.b .nil pass0 (pa_cons (pv 2) (pa_cons (pv 5) pa_nil))))
  (pss_one (ps_if (pt_cmpR op_isN (pv 8) pe_non (nomark _)) (pss_one (ps_ret (pv 5))) pss_nil))) pss_nil)
  (pss_one (ps_set (i := 5) nd rfl (Or.inl rfl) (pe_op op_catP (pv 5) (pe_tup (pa_cons (pv 8) pa_nil))))))))))
  (pss_one (ps_ret (pv 5))))), ?_⟩
  refine ⟨(by show 0 ≤ sizeLine; decide), fun p0 np0 => ?_⟩
  have s0' := same_new np0 (.tup [])
  refine ⟨_, rfl, _, rfl, by omega, by omega, for_range (n := ((mo : Nat) : Int).toNat) (fun i σ H' => ∃ (pv : V) (pl : List Stp) (y6 y7 y8 : Option V), σ = [some (.ref b), some kv, some (.ref d), some (.int (mo : Nat)), some (.int free), some pv, y6, y7, y8] ∧ Rep K H' pv (playD pl) ∧ LW kd pl ∧ (free = 0 → OwnP (rowsT t) pl) ∧ pl.length ≤ i ∧ BoxAt H' b c ∧ SB b H H')
    ⟨.ref p0, [], none, none, none, rfl, .tup' upd_same .nil, LW.nil kd, (fun _ => OwnP.nil _), Nat.zero_le _, hB.same s0', sb_same s0'⟩ ?_ ?_⟩
  · rintro i σ H1 hi ⟨pv', pl, y6, y7, y8, rfl, rv, hL, hOw, hli, hB1, sb1⟩
    have k1 := box_kx hB hB1 sb1
    have rk1 := rk.mono k1
    obtain ⟨bs1, hbs1⟩ := hB1.lst
    obtain ⟨bs, hbs⟩ := hB.lst
    refine ⟨_, rfl, _, rfl, kv, pv', kd, pl, rfl, rk1, hk, hz, rv, hL, fun l H2 s2 nl hls => ?_⟩
    obtain ⟨zs, hl2, rzs⟩ := hls
    have lzs := rzs.length
    have hB2 := hB1.same s2
    refine ⟨_, rfl, l, zs, rfl, .inl (SqL.of hl2), rfl, _, rfl, ite2 (fun z => ?_) (fun z => ?_)⟩
    · exact ⟨_, rfl, q _ pl _ (rv.mono (kx_same s2)) hL hOw (by omega) hB2 (sb1.trans (sb_same s2))⟩
    · have hpos : (0 : Int) < ((zs.length : Nat) : Int) := by
        rcases Nat.eq_zero_or_pos zs.length with e | e
        · exact absurd (decide_eq_true (by rw [e]; rfl)) z
        · omega
      refine ⟨_, rfl, _, rfl, b, c, 1000, rfl, hB2, by decide, fun r4 H4 r40 r41 hB4 sb4 => .inl ⟨_, rfl, ?_⟩⟩
      have nlb : l ≠ b := (ne_of_none hbs1 nl).symm
      have hl4 := sb4 _ _ nlb hl2
      have k24 := box_kx hB2 hB4 sb4
      have rzs4 := rzs.mono k24
      obtain ⟨tv, te, ti, hat1, hte, rte⟩ := pickP rzs4 (r := r4 % ((zs.length : Nat) : Int)) (Int.emod_nonneg _ (by omega)) (Int.emod_lt_of_pos _ hpos)
      rw [List.getElem?_map] at hte
      obtain ⟨s, hs, rfl⟩ := Option.map_eq_some_iff.mp hte
      have hnx := nxw_of hk hL (List.mem_of_getElem? hs : NxR kd pl s)
      have sb14 : SB b H1 H4 := (sb_same s2).trans sb4
      have k14 := (kx_same s2).trans k24
      refine ⟨_, rfl, l, zs, rfl, .inl (SqL.of hl4), _, _, rfl, rfl, hpos, l, zs, _, _, rfl, rfl, SqL.of hl4, hat1, ?_⟩
      have rv4 := rv.mono k14
      obtain ⟨pa, ps, rfl, hpa, rps, lps⟩ := play_inv rv4
      refine nx_rest (fun σ' H' => ∃ (x' : V) (s' : Stp), σ' = [some (.ref b), some kv, some (.ref d), some (.int (mo : Nat)), some (.int free), some (.ref pa), some (.int ((0 : Int) + (i : Nat))), some (.ref l), some x'] ∧ SB b H4 H' ∧ BoxAt H' b c ∧ Rep K H' x' (stD s') ∧ NxW kd pl s' ∧ (free = 0 → pl.length % 2 = 1 → repl (rowsT t) pl = some s')) (fun rest => ?_) ?_
      · refine ⟨_, rfl, pa, ps, rfl, .inr hpa.sq, .inl ⟨_, rfl, _, _, rfl, rfl, (by show (0 : Int) < 2; decide), rfl, _, rfl, ite2 (fun z1 => ?_) (fun z1 => ?_)⟩⟩
        · have hodd : pl.length % 2 = 1 := by
            have h0 : ((ps.length : Nat) : Int) % 2 = 1 := V.int.inj (of_decide_eq_true z1)
            omega
          refine ⟨_, rfl, b, c, 4, rfl, hB4, by decide, fun r5 H5 r50 r51 hB5 sb5 => ⟨_, rfl, _, _, rfl, rfl, _, rfl, ite2 (fun z2 => ?_) (fun z2 => ?_)⟩⟩
          · have k45 := box_kx hB4 hB5 sb5
            have sb05 := (sb1.trans sb14).trans sb5
            have hD5 := hD.sbx hbs sb05 (box_kx hB hB5 sb05)
            refine ⟨_, rfl, _, rfl, d, .ref pa, kd, rowsT t, pl, rfl, hD5, rv4.mono k45, hL, hodd, legs_of hw hL hodd, fun z H6 s6 hz6 => ?_⟩
            cases hr6 : repl (rowsT t) pl with
            | none =>
              rw [hr6] at hz6
              have ez : z = .non := hz6
              subst ez
              exact ⟨_, rfl, rfl, _, rfl, iteT ⟨_, rfl, q _ pl _ ((rv4.mono k45).mono (kx_same s6)) hL hOw (by omega) (hB5.same s6) (sb05.trans (sb_same s6))⟩⟩
            | some s' =>
              rw [hr6] at hz6
              have rz : Rep K H6 z (stD s') := hz6
              have hnx' := (repl_legal hw hL hodd hr6).1
              obtain ⟨a6, m6, b6, rfl, ha6, _, _⟩ := step_inv rz
              exact ⟨_, rfl, rfl, _, rfl, iteF (rest _ _ ⟨_, s', rfl, sb5.trans (sb_same s6), hB5.same s6, rz, hnx', fun _ _ => hr6⟩)⟩
          · exact rest _ _ ⟨tv, s, rfl, sb5, hB5, rte.mono (box_kx hB4 hB5 sb5), hnx, fun e0 _ => absurd (decide_eq_true (by omega)) z2⟩
        · exact rest _ _ ⟨tv, s, rfl, SB.refl _ _, hB4, rte, hnx, fun _ e1 => absurd (decide_eq_true (by show V.int (((ps.length : Nat) : Int) % 2) = V.int 1; rw [show ((ps.length : Nat) : Int) % 2 = 1 by omega])) z1⟩
      · rintro σ H5 ⟨x', s', rfl, sb5, hB5, rx', hnx', hre⟩
        have k45 := box_kx hB4 hB5 sb5
        obtain ⟨a6, m6, b6, rfl, ha6, _, _⟩ := step_inv rx'
        refine ⟨_, rfl, _, rfl, (by show 1 ≤ sizeLine; decide), fun t1 n1 => ?_⟩
        have v1 := same_new n1 (.tup [.ref a6])
        have hpa5 := hpa.kx k45
        refine ⟨pa, t1, ps, _, rfl, rfl, (hpa5.same v1), .inl upd_same, small6' (by show ps.length + 1 ≤ 1000000; omega), fun cc H6 s6 hcc => ?_⟩
        have s56 := v1.trans s6
        refine ⟨.ref cc, pl ++ [s'], _, _, _, rfl, snoc_rep (q := a6) (r := a6) rps (k45.trans (kx_same s56)) hcc (rx'.mono (kx_same s56)), hL.snoc hnx' (by omega), (fun e0 => (hOw e0).snoc (hre e0)), by rw [List.length_append, List.length_singleton]; omega, hB5.same s56, ((sb1.trans sb14).trans sb5).trans (sb_same s56)⟩
  · rintro σ H1 ⟨pv', pl, y6, y7, y8, rfl, rv, hL, hOw, hli, hB1, sb1⟩
    exact ⟨_, rfl, q _ pl _ rv hL hOw (by omega) hB1 sb1⟩
end
end Pk

set_option maxRecDepth 100000
set_option maxHeartbeats 4000000
set_option pp.maxSteps 600
namespace Pk
open PySem PySem.Spec PyProof.Rows L2
/-! ### d < e, of data that compare -/
section
variable {X : Cx}
def rLtD (K : PySem.W.Frag) : R2 := fun x y H Q => ∃ d e : D, Rep K H x d ∧ Rep K H y e ∧ noLd d = true ∧ noLd e = true ∧ cpb (toPy d) (toPy e) = true ∧ toPy d ≠ .none ∧ dep d ≤ 60 ∧ Q (.bl (dlt (toPy d) (toPy e))) H
theorem op_ltD (hu : X.A.units + 64 < cLine) : OpR X (compareOp .Lt) (rLtD X.K) := by
  intro pins s σ H x y v u Q I rx ry h
  obtain ⟨d, e, hd, he, nd, ne, hc, hn, hp, q⟩ := h
  obtain ⟨as, r1⟩ := Dp.reads I _ x v (dp_noL hd nd) rx
  obtain ⟨bs, r2⟩ := Dp.reads I _ y u (dp_noL he ne) ry
  have := depth_noL d
  have m := Nat.min_le_left (toPy d).depth (toPy e).depth
  have z : wpAny (model X.prog X.w) X.A (compareOp .Lt v u) (EP X pins σ Q) X.xe s := rcLt_cpb _ _ X.A s v u as bs r1 r2 (plain_noL d nd) (plain_noL e ne) hc hn (by omega) X.prog X.w X.xe _ ⟨.bl _, H, I, rfl, q⟩
  exact z
end
theorem dlt_LX {d e : D} (h1 : noLd d = true) (h2 : noLd e = true) (hc : cpb (toPy d) (toPy e) = true) : dlt (toPy d) (toPy e) = LX (tkD d) (tkD e) := by
  have z := tk_lex d e h1 h2 hc [] []
  rw [List.append_nil, List.append_nil] at z
  refine Eq.trans ?_ z.symm
  cases q : PyData.eqv (toPy d) (toPy e) with
  | true =>
    rw [if_pos rfl, dlt_eqv _ _ q hc]
    rfl
  | false => rw [if_neg Bool.false_ne_true]
/-- sights: the beginning, then steps with a back -/
def WkS (s : List Stp) : Prop := ∃ r, s = BEG :: r ∧ ∀ x ∈ r, x.back ≠ none
theorem cpb_wk {s t : List Stp} (hs : WkS s) (ht : WkS t) : cpb (toPy (playD s)) (toPy (playD t)) = true := by
  obtain ⟨r, rfl, h1⟩ := hs
  obtain ⟨u, rfl, h2⟩ := ht
  show cpbs (toPy (stD BEG) :: toPys (r.map stD)) (toPy (stD BEG) :: toPys (u.map stD)) = true
  rw [cpbs, cpb_beg, cpbs_sts r u h1 h2, Bool.or_true]
  rfl
abbrev ltP (s t : List Stp) : Bool := LX (tkD (playD s)) (tkD (playD t))
theorem dlt_wk {s t : List Stp} (hs : WkS s) (ht : WkS t) : dlt (toPy (playD s)) (toPy (playD t)) = ltP s t := dlt_LX (noLd_play s) (noLd_play t) (cpb_wk hs ht)
theorem eqv_wk {s t : List Stp} (hs : WkS s) (ht : WkS t) : PyData.eqv (toPy (playD s)) (toPy (playD t)) = decide (s = t) := by
  cases q : PyData.eqv (toPy (playD s)) (toPy (playD t)) with
  | true => exact (decide_eq_true (play_inj (eqv_toPy _ _ (noLd_play _) (noLd_play _) q (cpb_wk hs ht)))).symm
  | false =>
    refine (decide_eq_false fun e => ?_).symm
    subst e
    have z : PyData.eqv (toPy (playD s)) (toPy (playD s)) = true := by
      exact SeqAt.eqv_refl_plain _ (plain_noL _ (noLd_play s))
    rw [z] at q
    cases q
/-! ### the rows in order, by their sights -/
theorem ltP_irr (s : List Stp) : ltP s s = false := (listOrd itemOrd).irrefl _
theorem ltP_trans {s t u : List Stp} (h1 : ltP s t = true) (h2 : ltP t u = true) : ltP s u = true := (listOrd itemOrd).trans _ _ _ h1 h2
theorem ltP_tot {s t : List Stp} (hs : OkS s) (ht : OkS t) (h1 : ltP s t = false) (h2 : ltP t s = false) : s = t := tkP_inj hs ht ((listOrd itemOrd).total _ _ h1 h2)
theorem sorted_rows {rows : List Row} (hn : (keysR rows).Nodup) (hk : ∀ r ∈ rows, OkR r) {i j : Nat} {r t : Row} (hi : (sortR rows)[i]? = some r) (hj : (sortR rows)[j]? = some t) (hij : i < j) : ltP r.1 t.1 = true := by
  have T := PySem.W.sortLe_total (listOrd itemOrd) false (fun r : Row => tkD (rowD r))
  have tot : ∀ a b : Row, (PySem.W.sortLe (listOrd itemOrd) false (fun r : Row => tkD (rowD r)) a b || PySem.W.sortLe (listOrd itemOrd) false (fun r : Row => tkD (rowD r)) b a) = true := fun a b => by
    rw [Bool.or_eq_true]
    exact T.total a b
  have p1 := List.pairwise_mergeSort T.trans tot rows
  have li := (List.getElem?_eq_some_iff.mp hi)
  have lj := (List.getElem?_eq_some_iff.mp hj)
  obtain ⟨l1, e1⟩ := li
  obtain ⟨l2, e2⟩ := lj
  have h := List.pairwise_iff_getElem.mp p1 i j l1 l2 hij
  have h' : (!LX (tkD (rowD ((sortR rows)[j]))) (tkD (rowD ((sortR rows)[i])))) = true := h
  rw [e1, e2, Bool.not_eq_true'] at h'
  have mi : r ∈ rows := (sortE_perm _ rows).mem_iff.mp (List.mem_of_getElem? hi)
  have mj : t ∈ rows := (sortE_perm _ rows).mem_iff.mp (List.mem_of_getElem? hj)
  rw [LX_rows (hk t mj) (hk r mi) (fun e => key_one hn mj mi e)] at h'
  cases q : ltP r.1 t.1 with
  | true => rfl
  | false =>
    have e := ltP_tot (hk r mi).1 (hk t mj).1 q h'
    have er := key_one hn mi mj e
    have hnd : (keysR (sortR rows)).Nodup := ((sortE_perm (fun r : Row => tkD (rowD r)) rows).map Prod.fst).nodup_iff.mpr hn
    have hi' : (keysR (sortR rows))[i]? = some r.1 := by rw [List.getElem?_map, hi]; rfl
    have hj' : (keysR (sortR rows))[j]? = some r.1 := by rw [List.getElem?_map, hj, er]; rfl
    have := (List.getElem?_inj (List.getElem?_eq_some_iff.mp hi').1 hnd).mp (hi'.trans hj'.symm)
    omega
section
variable {P : Program} {w : World} {K : PySem.W.Frag} {mg : Str → Option Value} {base : Heap}
/-! ### _sight_behind -/
def spSB (K : PySem.W.Frag) : Sp := fun vs H Q _ => ∃ (v : V) (pl : List Stp), vs = [v] ∧ Rep K H v (playD pl) ∧ WB pl ∧ 0 < pl.length ∧ pl.length ≤ 500 ∧ ∀ z H', Same H H' → Rep K H' z (plD (sight pl (pl.length - 1))) → Q z H'
/-- the sight as far as it is not yet found -/
def rest (pl : List Stp) (n : Int) : List Nat := if n < 0 then [] else sight pl n.toNat
theorem rest_step {pl : List Stp} (h : WB pl) {n : Nat} (h0 : 0 < n) (hn : n < pl.length) : sight pl n = rest pl ((bk pl n : Int) - 1) ++ [bk pl n, n] := by
  unfold rest
  by_cases hb : bk pl n = 0
  · rw [sight_one h0 hb, hb, if_pos (by decide)]
    rfl
  · rw [sight_more h h0 hn hb, if_neg (by omega)]
    rw [show ((bk pl n : Int) - 1).toNat = bk pl n - 1 by omega]
theorem nats_rev (ns : List Nat) : (nats ns).reverse = nats ns.reverse := by
  unfold nats
  rw [List.map_reverse]
theorem ok_sb {f : Addr} {fd : FuncData} (D__sight_behind : Df K mg "_sight_behind" s__sight_behind ["play"] f fd) (B : Bt mg) : FnOk P w K mg base CX0 1 f fd ["play"] (spSB K) := by
  refine D__sight_behind.ok c__sight_behind (fun vs H Q E h => ?_) (fun cdv A outer s H vs Q E hr h => ?_)
  · obtain ⟨v, pl, rfl, _⟩ := h
    rfl
  obtain ⟨v, pl, rfl, rv, hwb, hp, hlen, q⟩ := h
  have nd := c__sight_behind.nd
  refine ⟨_, (pss_cons (ps_set (i := 1) nd rfl (Or.inl rfl) (pe_lst pa_nil))
  (pss_cons (ps_set (i := 2) nd rfl (Or.inl rfl) (pe_op op_sub (pe_callB call_len_seq (by rfl) B.b_len PySem.boot_len (pa_cons (pv 0) pa_nil)) pe_int))
  (pss_cons (ps_while PassesOwn.never (pt_cmpR op_gt (pv 2) pe_int (nomark _)) (pss_cons (ps_set (i := 3) nd rfl (Or.inl rfl) (pe_ix ix_tup (pe_ix ix_tup (pv 0) (pv 2) (fun _ _ => rfl)) pe_int (fun _ _ => rfl)))
  (pss_cons (ps_expr (pe_bm PySem.F.plainAttrs_list PySem.F.slot_list_extend PySem.F.type_list_extend mt_extend (pv 1) (pa_cons (pe_lst (pa_cons (pv 2) (pa_cons (pv 3) pa_nil))) pa_nil)))
  (pss_one (ps_set (i := 2) nd rfl (Or.inl rfl) (pe_op op_sub (pv 3) pe_int))))))
  (pss_cons (ps_if (pt_cmpR op_eq (pv 2) pe_int (nomark _)) (pss_one (ps_expr (pe_bm PySem.F.plainAttrs_list PySem.F.slot_list_append PySem.F.type_list_append mt_append (pv 1) (pa_cons pe_int pa_nil)))) pss_nil)
  (pss_one (ps_ret (pe_callTy call_tuple_of (by rfl) B.b_tuple (by decide +kernel) (pa_cons (pe_revL (pv 1)) pa_nil)))))))), ?_⟩
  obtain ⟨a, xs, rfl, ha, rxs, lx⟩ := play_inv rv
  refine ⟨(by show 0 ≤ sizeLine; decide), fun l nl => ⟨_, rfl, a, xs, rfl, .inr (ha.same (same_new nl _)).sq, _, _, rfl, rfl, ?_⟩⟩
  obtain ⟨W, hW⟩ : ∃ W : Nat → L2.St → Hp → Prop, ∀ m σ H', W m σ H' ↔ (∃ (F : List Nat) (n : Int) (y3 : Option V), σ = [some (.ref a), some (.ref l), some (.int n), y3] ∧ Nw l H H' (nats F) ∧ sight pl (pl.length - 1) = rest pl n ++ F.reverse ∧ -1 ≤ n ∧ n < pl.length ∧ m = (n + 1).toNat ∧ F.length + m ≤ pl.length) := ⟨_, fun _ _ _ => Iff.rfl⟩
  refine ⟨W, ⟨pl.length, (hW _ _ _).mpr ⟨[], ((xs.length : Nat) : Int) - 1, none, rfl, ⟨same_new nl _, nl, upd_same⟩, ?_, by omega, by omega, by omega, by show 0 + pl.length ≤ pl.length; omega⟩⟩, ?_⟩
  · unfold rest
    rw [if_neg (by omega), show (((xs.length : Nat) : Int) - 1).toNat = pl.length - 1 by omega]
    exact (List.append_nil _).symm
  intro m σ H1 hw
  obtain ⟨F, n, y3, rfl, hn, hs, hn1, hn2, rfl, hF⟩ := (hW _ _ _).mp hw
  refine ⟨_, rfl, _, _, rfl, rfl, _, rfl, ite2 (fun z => ⟨fun σ' H' => ∃ m', m' < (n + 1).toNat ∧ W m' σ' H', fun _ _ h => h, ?_⟩) (fun z => ?_)⟩
  · have z' : (0 : Int) < n := of_decide_eq_true z
    obtain ⟨k, rfl⟩ : ∃ k : Nat, n = (k : Int) := ⟨n.toNat, by omega⟩
    have hk0 : 0 < k := by omega
    have hkl : k < pl.length := by omega
    obtain ⟨mv, ek⟩ := hwb.at hk0 hkl
    obtain ⟨x, hx, rx⟩ := play_at rxs ek
    obtain ⟨a2, m2, b2, rfl, ha2, rm2, rb2⟩ := step_inv rx
    obtain ⟨rfl, _⟩ := Rep.inva (w := V.int (bk pl k : Nat)) rb2
    refine ⟨_, rfl, _, rfl, a, xs, _, _, rfl, rfl, (ha.same hn.s).sq, atI_nat hx, a2, _, 1, _, rfl, rfl, (ha2.same hn.s).sq, atI_nat (j := 1) rfl, ?_⟩
    refine ⟨_, rfl, .inl ⟨rfl, _, SqL.of hn.h⟩, _, rfl, _, rfl, (by show 2 ≤ sizeLine; decide), fun l2 nl2 => ?_⟩
    have s2 := same_new nl2 (.lst [.int (k : Nat), .int (bk pl k : Nat)])
    have hn3 := hn.step s2
    refine ⟨l, l2, _, _, rfl, rfl, hn3.h, upd_same, small6' (by rw [nats_len]; show F.length + 2 ≤ 1000000; omega), ?_⟩
    have hn4 := hn3.put (nats F ++ [.int (k : Nat), .int (bk pl k : Nat)])
    have hb := hwb.bk_lt hk0 hkl
    refine ⟨_, rfl, _, _, rfl, rfl, ?_⟩
    have eF : nats F ++ [.int (k : Nat), .int (bk pl k : Nat)] = nats (F ++ [k, bk pl k]) := by
      unfold nats
      rw [List.map_append]
      rfl
    rw [eF] at hn4 ⊢
    refine ⟨_, ?_, (hW _ _ _).mpr ⟨F ++ [k, bk pl k], (bk pl k : Int) - 1, _, rfl, hn4, ?_, by omega, by omega, rfl, ?_⟩⟩
    · omega
    · rw [hs]
      have e1 : rest pl (k : Int) = sight pl k := by
        unfold rest
        rw [if_neg (by omega)]
        rfl
      rw [e1, rest_step hwb hk0 hkl, List.reverse_append, List.append_assoc]
      rfl
    · rw [List.length_append]
      show F.length + 2 + _ ≤ _
      omega
  · have z' : ¬ (0 : Int) < n := fun e => z (decide_eq_true e)
    have fin : ∀ (G : List Nat) (H2 : Hp), Nw l H H2 (nats G) → sight pl (pl.length - 1) = G.reverse → G.length ≤ pl.length → ∃ a1 ys, V.ref l = .ref a1 ∧ SqL K H2 a1 ys ∧ ∀ p, H2 p = none → ∃ p2 zs, [V.ref p] = [.ref p2] ∧ ((SqL K (upd H2 p (.lst ys.reverse)) p2 zs ∧ ∀ t, (upd H2 p (.lst ys.reverse)) t = none → Q (.ref t) (upd (upd H2 p (.lst ys.reverse)) t (.tup zs))) ∨ (SqT K (upd H2 p (.lst ys.reverse)) p2 zs ∧ Q (.ref p2) (upd H2 p (.lst ys.reverse)))) := by
      intro G H2 hG eG lG
      refine ⟨l, _, rfl, SqL.of hG.h, fun p np => ⟨p, _, rfl, .inl ⟨SqL.of upd_same, fun t nt => ?_⟩⟩⟩
      rw [nats_rev, ← eG] at *
      have s1 := hG.s.trans ((same_new np (.lst (nats (sight pl (pl.length - 1))))).trans (same_new nt (.tup (nats (sight pl (pl.length - 1))))))
      exact q _ _ s1 (.tup' upd_same (reps_nats _))
    refine ⟨_, rfl, rfl, _, rfl, ite2 (fun y => ?_) (fun y => ?_)⟩
    · have y' : n = 0 := V.int.inj (of_decide_eq_true y)
      subst y'
      refine ⟨_, rfl, .inl ⟨rfl, _, SqL.of hn.h⟩, l, _, _, rfl, rfl, hn.h, small6 (by rw [nats_len]; omega), ?_⟩
      have e0 : V.int 0 = V.int ((0 : Nat) : Int) := rfl
      rw [e0, nats_snoc]
      have hn3 := hn.put (nats (F ++ [0]))
      refine ⟨_, rfl, fin (F ++ [0]) _ hn3 ?_ ?_⟩
      · rw [hs, List.reverse_append]
        rfl
      · rw [List.length_append, List.length_singleton]
        have : ((0 : Int) + 1).toNat = 1 := rfl
        omega
    · have y' : n < 0 := by
        have : n ≠ 0 := fun e => y (decide_eq_true (by rw [e]))
        omega
      refine ⟨_, rfl, fin F H1 hn ?_ (by omega)⟩
      rw [hs]
      unfold rest
      rw [if_pos y']
      rfl
theorem ok_ps {f g : Addr} {fd gd : FuncData} (D_program_sight : Df K mg "program_sight" s_program_sight ["play"] f fd) (D__sight_behind : Df K mg "_sight_behind" s__sight_behind ["play"] g gd) (B : Bt mg) : FnOk P w K mg base CX0 2 f fd ["play"] (spSB K) := by
  have G__sight_behind : FnOk P w K mg base CX0 1 g gd ["play"] (spSB K) := ok_sb D__sight_behind B
  refine D_program_sight.ok c_program_sight (fun vs H Q E h => ?_) (fun cdv A outer s H vs Q E hr h => ?_)
  · obtain ⟨v, pl, rfl, _⟩ := h
    rfl
  obtain ⟨v, pl, rfl, h⟩ := h
  have nd := c_program_sight.nd
  refine ⟨_, (pss_one (ps_ret (pe_call G__sight_behind (hr.mono (by first | decide | omega)) (by rfl) D__sight_behind.m D__sight_behind.kp D__sight_behind.b .nil pass0 (pa_cons (pv 0) pa_nil)))), ?_⟩
  exact ⟨_, rfl, v, pl, rfl, h⟩
/-! ### alone -/
def spAl (K : PySem.W.Frag) : Sp := fun vs H Q _ => ∃ (v x : V) (pl : List Stp) (ns : List Nat), vs = [v, x] ∧ Rep K H v (playD pl) ∧ Rep K H x (plD ns) ∧ WB pl ∧ Cl pl ns ∧ ns.Pairwise (· < ·) ∧ ns.length ≤ 500 ∧ ∀ z H', Same H H' → Rep K H' z (playD (apart pl ns)) → Q z H'
theorem at_one1 {xs : List V} {v : V} (h : xs[1]? = some v) : atI xs (1 : Int) = some v := atI_nat (j := 1) h
def keyN (n : Nat) : Option L2.Key := some (Sum.inl ((n : Nat) : Int))
theorem keyN_inj {m n : Nat} (h : keyN m = keyN n) : m = n := by
  have := Sum.inl.inj (Option.some.inj h)
  omega
/-- what the dict answers behind the first i numbers -/
structure Anew (ns : List Nat) (i : Nat) (g : Option L2.Key → Option V) : Prop where
  non : g none = some .non
  has : ∀ k n, k < i → ns[k]? = some n → g (keyN n) = some (.int (k : Nat))
theorem Anew.put {ns : List Nat} {i n : Nat} {g : Option L2.Key → Option V} (h : Anew ns i g) (up : ns.Pairwise (· < ·)) (e : ns[i]? = some n) : Anew ns (i + 1) (putN g (keyN n) (.int (i : Nat))) := by
  refine ⟨?_, fun k m hk hm => ?_⟩
  · unfold putN
    rw [if_neg (fun z => by cases z)]
    exact h.non
  · unfold putN
    by_cases hki : k = i
    · subst hki
      rw [e] at hm
      rw [Option.some.inj hm, if_pos rfl]
    · have hlt : k < i := by omega
      have hne : keyN m ≠ keyN n := fun z => by
        have z' := keyN_inj z
        obtain ⟨a1, a2⟩ := List.getElem?_eq_some_iff.mp e
        obtain ⟨b1, b2⟩ := List.getElem?_eq_some_iff.mp hm
        have := List.pairwise_iff_getElem.mp up k i b1 a1 hlt
        omega
      rw [if_neg hne]
      exact h.has k m hlt hm
theorem idx_up {ns : List Nat} (up : ns.Pairwise (· < ·)) {j : Nat} (h : j ∈ ns) : ns[ns.idxOf j]? = some j ∧ ns.idxOf j < ns.length := by
  have hl := List.idxOf_lt_length_of_mem h
  refine ⟨?_, hl⟩
  rw [List.getElem?_eq_getElem hl, List.getElem_idxOf hl]
theorem ok_al {f : Addr} {fd : FuncData} (D_alone : Df K mg "alone" s_alone ["play", "numbers"] f fd) (B : Bt mg) : FnOk P w K mg base CX0 1 f fd ["play", "numbers"] (spAl K) := by
  refine D_alone.ok c_alone (fun vs H Q E h => ?_) (fun cdv A outer s H vs Q E hr h => ?_)
  · obtain ⟨v, x, pl, ns, rfl, _⟩ := h
    rfl
  obtain ⟨v, x, pl, ns, rfl, rv, rx, hwb, hcl, up, hlen, q⟩ := h
  have nd := c_alone.nd
  refine ⟨_, (pss_cons (ps_set (i := 2) nd rfl (Or.inr rfl) pe_nkNew)
  (pss_cons (ps_for PassesOwn.never rfl (pi_enumT (by rfl) B.b_enumerate (pa_cons (pv 1) pa_nil)) (pg_tup rfl (pgs_cons (pg_name (i := 3) nd rfl (Or.inl rfl)) (pgs_cons (pg_name (i := 4) nd rfl (Or.inl rfl)) pgs_nil))) (pss_one (ps_nkPut (pv 2) (pv 4) (pv 3) rfl)))
  (pss_one (ps_ret (pe_callTy call_tuple_of (by rfl) B.b_tuple (by decide +kernel) (pa_cons (pe_lc (own := [("number", 4)]) (g := (gName 4)) (tt := tYes) rfl nd (pi_tup (pv 1)) (blkOk_by (own := [("number", 4)]) (N := ["play", "numbers", "anew", "at", "number"]) (sc := defScope s_alone) (by decide +kernel)) (fun _ _ _ _ _ => (pg_name (i := 4) nd rfl (Or.inl rfl))) (fun _ _ _ _ _ => pts_nil) (fun _ _ _ _ _ => (pe_tup (pa_cons (pe_ix (show IxR _ (rIxT K) from ix_tup) (pe_ix (show IxR _ (rIxT K) from ix_tup) (pv 0) (pv 4) (fun _ _ => rfl)) pe_int (fun _ _ => rfl)) (pa_cons (show PE _ _ (tNkGet P w _ _) from pe_nkGet (pv 2) (pe_ix (show IxR _ (rIxT K) from ix_tup) (pe_ix (show IxR _ (rIxT K) from ix_tup) (pv 0) (pv 4) (fun _ _ => rfl)) pe_int (fun _ _ => rfl)) (fun _ _ => rfl)) pa_nil))))) pa_nil)))))), ?_⟩
  obtain ⟨a, xs, rfl, ha, rxs, lx⟩ := play_inv rv
  obtain ⟨b, zs, rfl, hb, rzs⟩ := Rep.inv (ts := ns.map numD') rx
  have ezs := rep_nats_inv rzs
  subst ezs
  refine fun d hd => ?_
  have s0 := same_new hd (NkO P w d (putN (fun _ => none) none .non) 1)
  refine ⟨_, rfl, b, _, rfl, (hb.same s0).sq, for_it walk_enumT (fun i σ H' => (∃ g n, H' d = some (NkO P w d g n) ∧ n ≤ i + 1 ∧ Anew ns i g) ∧ Same H H' ∧ ∃ (y3 y4 : Option V), σ = [some (.ref a), some (.ref b), some (.ref d), y3, y4])
    ⟨⟨_, 1, upd_same, Nat.le_refl _, ⟨rfl, fun k n hk _ => absurd hk (Nat.not_lt_zero k)⟩⟩, s0, none, none, rfl⟩ (fun i σ H' _ h => (hb.same h.2.1).sq) ?_ ?_⟩
  · rintro i x σ H1 H1' hi ⟨⟨g, n, hdn, hn, hA⟩, s1, y3, y4, rfl⟩ ⟨T, x1, y1, rfl, nT, rfl, hx1, hy1⟩
    have hx2 : V.int (i : Nat) = x1 := Option.some.inj hx1
    subst hx2
    rw [nats_len] at hi
    have hy2 : (nats ns)[i]? = some y1 := hy1
    have e1 : ns[i]? = some ns[i] := List.getElem?_eq_getElem hi
    have hy3 : y1 = V.int (ns[i] : Nat) := by
      unfold nats at hy2
      rw [List.getElem?_map, e1] at hy2
      exact (Option.some.inj hy2).symm
    subst hy3
    have sT := same_new nT (.tup [.int (i : Nat), .int (ns[i] : Nat)])
    refine ⟨T, _, rfl, SqT.of upd_same, rfl, _, _, rfl, _, _, rfl, rfl, ?_⟩
    have hd2 := sT _ _ hdn
    refine ⟨_, rfl, _, rfl, _, rfl, d, g, n, keyN ns[i], rfl, rfl, hd2, by omega, ⟨_, _, upd_same, by omega, hA.put up e1⟩, fun z o e => ?_, _, _, rfl⟩
    rw [upd_ne (ne_of_none e hd)]
    exact sT _ _ (s1 _ _ e)
  · rintro σ H1 ⟨⟨g, n, hdn, hn, hA⟩, s1, y3, y4, rfl⟩
    rw [nats_len] at hn hA
    refine ⟨_, rfl, b, rfl, ⟨_, (hb.same s1).sq⟩, fun l nl => ?_⟩
    refine lc_tup (K := K) (a := b) (xs := nats ns) (fun i H' => Same H1 H' ∧ ∃ acc, H' l = some (.lst acc) ∧ acc.length ≤ i ∧ Reps K H' acc (((ns.take i).map (apS pl ns)).map stD))
      ⟨same_new nl _, [], upd_same, Nat.le_refl _, .nil⟩ (fun i H' _ h => (hb.same (s1.trans h.1)).sq) ?_ ?_
    · rintro i x H3 hi ⟨s3, acc, hl3, lacc, racc⟩
      have hil : i < ns.length := by
        have := (List.getElem?_eq_some_iff.mp hi).1
        rw [nats_len] at this
        exact this
      have e1 : ns[i]? = some ns[i] := List.getElem?_eq_getElem hil
      have hx3 : x = V.int (ns[i] : Nat) := by
        unfold nats at hi
        rw [List.getElem?_map, e1] at hi
        exact (Option.some.inj hi).symm
      subst hx3
      obtain ⟨c1, c2⟩ := hcl ns[i] (List.getElem_mem hil)
      have hpl : pl[ns[i]]? = some pl[ns[i]] := List.getElem?_eq_getElem c1
      obtain ⟨y, hy, ry⟩ := play_at rxs hpl
      obtain ⟨a2, m2, b2, rfl, ha2, rm2, rb2⟩ := step_inv ry
      have s13 := s1.trans s3
      have sq1 := (ha.same s13).sq
      have sq2 := (ha2.same s13).sq
      -- what the dict answers of the back
      have hk : ∃ (k : Option L2.Key) (r : V), b2 = kVN k ∧ g k = some r ∧ ∀ H', Rep K H' r (bkD ((pl[ns[i]].back).map fun j => ns.idxOf j)) := by
        by_cases h0 : ns[i] = 0
        · have e0 : pl[0]? = some pl[ns[i]] := by
            rw [← h0]
            exact hpl
          have ef := hwb.first _ e0
          rw [ef] at rb2 ⊢
          obtain ⟨rfl, _⟩ := Rep.inva (w := V.non) rb2
          exact ⟨none, .non, rfl, hA.non, fun H' => .at rfl⟩
        · obtain ⟨mv, em⟩ := hwb.at (Nat.pos_of_ne_zero h0) c1
          rw [hpl] at em
          have ef := Option.some.inj em
          rw [ef] at rb2 ⊢
          obtain ⟨rfl, _⟩ := Rep.inva (w := V.int (bk pl ns[i] : Nat)) rb2
          obtain ⟨i1, i2⟩ := idx_up up (c2.resolve_left h0)
          exact ⟨keyN (bk pl ns[i]), .int (ns.idxOf (bk pl ns[i]) : Nat), rfl, hA.has _ _ i2 i1, fun H' => .at rfl⟩
      obtain ⟨k, r, ek, gk, rr⟩ := hk
      subst ek
      refine ⟨rfl, yes_go ⟨_, rfl, _, rfl, a, xs, _, _, rfl, rfl, sq1, atI_nat hy, a2, _, 0, _, rfl, rfl, sq2, atI_nat (j := 0) rfl, ?_⟩⟩
      refine ⟨_, rfl, _, rfl, _, rfl, a, xs, _, _, rfl, rfl, sq1, atI_nat hy, a2, _, 1, _, rfl, rfl, sq2, at_one1 rfl, d, g, n, k, r, rfl, rfl, s3 _ _ hdn, gk, (by show 2 ≤ sizeLine; decide), fun t nt => ?_⟩
      have st := same_new nt (.tup [m2, r])
      have hl4 := st _ _ hl3
      have kl := kx_list hl4 (acc ++ [.ref t])
      refine ⟨acc, hl4, small6 (by omega), fun z o e => ?_, acc ++ [.ref t], upd_same, by rw [List.length_append, List.length_singleton]; omega, ?_⟩
      · rw [upd_ne (ne_of_none e nl)]
        exact st _ _ (s3 _ _ e)
      · have e3 : (((ns.take (i + 1)).map (apS pl ns)).map stD) = (((ns.take i).map (apS pl ns)).map stD) ++ [stD (apS pl ns ns[i])] := by
          rw [List.take_add_one, e1, List.map_append, List.map_append]
          rfl
        rw [e3]
        refine (racc.mono ((kx_same st).trans kl)).append (.one (.tup (xs := [m2, r]) (.inl (kl.t _ _ upd_same)) (.cons ?_ (.one ?_))))
        · have e4 : (apS pl ns ns[i]).mv = pl[ns[i]].mv := by
            unfold apS
            rw [hpl]
            rfl
          rw [e4]
          exact (rm2.mono (kx_same (s13.trans st))).mono kl
        · have e5 : (apS pl ns ns[i]).back = (pl[ns[i]].back).map fun j => ns.idxOf j := by
            unfold apS
            rw [hpl]
            rfl
          rw [e5]
          exact rr _
    · rintro H3 ⟨s3, acc, hl3, lacc, racc⟩
      rw [nats_len, List.take_length] at racc
      refine ⟨l, _, rfl, .inl ⟨SqL.of hl3, fun t nt => ?_⟩⟩
      have st := same_new nt (.tup acc)
      exact q _ _ (s1.trans (s3.trans st)) (.tup' upd_same (racc.mono (kx_same st)))
def spSBF (K : PySem.W.Frag) : Sp := fun vs H Q _ => ∃ (v : V) (pl : List Stp), vs = [v] ∧ Rep K H v (playD pl) ∧ WB pl ∧ 0 < pl.length ∧ pl.length ≤ 500 ∧ ∀ t H', Same H H' → H t = none → FzT H' t ((sight pl (pl.length - 1)).map fun k : Nat => ((k : Nat) : Int)) → Q (.ref t) H'
theorem ok_sbF {f : Addr} {fd : FuncData} (D__sight_behind : Df K mg "_sight_behind" s__sight_behind ["play"] f fd) (B : Bt mg) : FnOk P w K mg base CX0 1 f fd ["play"] (spSBF K) := by
  refine D__sight_behind.ok c__sight_behind (fun vs H Q E h => ?_) (fun cdv A outer s H vs Q E hr h => ?_)
  · obtain ⟨v, pl, rfl, _⟩ := h
    rfl
  obtain ⟨v, pl, rfl, rv, hwb, hp, hlen, q⟩ := h
  have nd := c__sight_behind.nd
  refine ⟨_, (pss_cons (ps_set (i := 1) nd rfl (Or.inl rfl) (pe_lst pa_nil))
  (pss_cons (ps_set (i := 2) nd rfl (Or.inl rfl) (pe_op op_sub (pe_callB call_len_seq (by rfl) B.b_len PySem.boot_len (pa_cons (pv 0) pa_nil)) pe_int))
  (pss_cons (ps_while PassesOwn.never (pt_cmpR op_gt (pv 2) pe_int (nomark _)) (pss_cons (ps_set (i := 3) nd rfl (Or.inl rfl) (pe_ix ix_tup (pe_ix ix_tup (pv 0) (pv 2) (fun _ _ => rfl)) pe_int (fun _ _ => rfl)))
  (pss_cons (ps_expr (pe_bm PySem.F.plainAttrs_list PySem.F.slot_list_extend PySem.F.type_list_extend mt_extend (pv 1) (pa_cons (pe_lst (pa_cons (pv 2) (pa_cons (pv 3) pa_nil))) pa_nil)))
  (pss_one (ps_set (i := 2) nd rfl (Or.inl rfl) (pe_op op_sub (pv 3) pe_int))))))
  (pss_cons (ps_if (pt_cmpR op_eq (pv 2) pe_int (nomark _)) (pss_one (ps_expr (pe_bm PySem.F.plainAttrs_list PySem.F.slot_list_append PySem.F.type_list_append mt_append (pv 1) (pa_cons pe_int pa_nil)))) pss_nil)
  (pss_one (ps_ret (pe_callTy cr_tupF (by rfl) B.b_tuple (by decide +kernel) (pa_cons (pe_revL (pv 1)) pa_nil)))))))), ?_⟩
  obtain ⟨a, xs, rfl, ha, rxs, lx⟩ := play_inv rv
  refine ⟨(by show 0 ≤ sizeLine; decide), fun l nl => ⟨_, rfl, a, xs, rfl, .inr (ha.same (same_new nl _)).sq, _, _, rfl, rfl, ?_⟩⟩
  obtain ⟨W, hW⟩ : ∃ W : Nat → L2.St → Hp → Prop, ∀ m σ H', W m σ H' ↔ (∃ (F : List Nat) (n : Int) (y3 : Option V), σ = [some (.ref a), some (.ref l), some (.int n), y3] ∧ Nw l H H' (nats F) ∧ sight pl (pl.length - 1) = rest pl n ++ F.reverse ∧ -1 ≤ n ∧ n < pl.length ∧ m = (n + 1).toNat ∧ F.length + m ≤ pl.length) := ⟨_, fun _ _ _ => Iff.rfl⟩
  refine ⟨W, ⟨pl.length, (hW _ _ _).mpr ⟨[], ((xs.length : Nat) : Int) - 1, none, rfl, ⟨same_new nl _, nl, upd_same⟩, ?_, by omega, by omega, by omega, by show 0 + pl.length ≤ pl.length; omega⟩⟩, ?_⟩
  · unfold rest
    rw [if_neg (by omega), show (((xs.length : Nat) : Int) - 1).toNat = pl.length - 1 by omega]
    exact (List.append_nil _).symm
  intro m σ H1 hw
  obtain ⟨F, n, y3, rfl, hn, hs, hn1, hn2, rfl, hF⟩ := (hW _ _ _).mp hw
  refine ⟨_, rfl, _, _, rfl, rfl, _, rfl, ite2 (fun z => ⟨fun σ' H' => ∃ m', m' < (n + 1).toNat ∧ W m' σ' H', fun _ _ h => h, ?_⟩) (fun z => ?_)⟩
  · have z' : (0 : Int) < n := of_decide_eq_true z
    obtain ⟨k, rfl⟩ : ∃ k : Nat, n = (k : Int) := ⟨n.toNat, by omega⟩
    have hk0 : 0 < k := by omega
    have hkl : k < pl.length := by omega
    obtain ⟨mv, ek⟩ := hwb.at hk0 hkl
    obtain ⟨x, hx, rx⟩ := play_at rxs ek
    obtain ⟨a2, m2, b2, rfl, ha2, rm2, rb2⟩ := step_inv rx
    obtain ⟨rfl, _⟩ := Rep.inva (w := V.int (bk pl k : Nat)) rb2
    refine ⟨_, rfl, _, rfl, a, xs, _, _, rfl, rfl, (ha.same hn.s).sq, atI_nat hx, a2, _, 1, _, rfl, rfl, (ha2.same hn.s).sq, atI_nat (j := 1) rfl, ?_⟩
    refine ⟨_, rfl, .inl ⟨rfl, _, SqL.of hn.h⟩, _, rfl, _, rfl, (by show 2 ≤ sizeLine; decide), fun l2 nl2 => ?_⟩
    have s2 := same_new nl2 (.lst [.int (k : Nat), .int (bk pl k : Nat)])
    have hn3 := hn.step s2
    refine ⟨l, l2, _, _, rfl, rfl, hn3.h, upd_same, small6' (by rw [nats_len]; show F.length + 2 ≤ 1000000; omega), ?_⟩
    have hn4 := hn3.put (nats F ++ [.int (k : Nat), .int (bk pl k : Nat)])
    have hb := hwb.bk_lt hk0 hkl
    refine ⟨_, rfl, _, _, rfl, rfl, ?_⟩
    have eF : nats F ++ [.int (k : Nat), .int (bk pl k : Nat)] = nats (F ++ [k, bk pl k]) := by
      unfold nats
      rw [List.map_append]
      rfl
    rw [eF] at hn4 ⊢
    refine ⟨_, ?_, (hW _ _ _).mpr ⟨F ++ [k, bk pl k], (bk pl k : Int) - 1, _, rfl, hn4, ?_, by omega, by omega, rfl, ?_⟩⟩
    · omega
    · rw [hs]
      have e1 : rest pl (k : Int) = sight pl k := by
        unfold rest
        rw [if_neg (by omega)]
        rfl
      rw [e1, rest_step hwb hk0 hkl, List.reverse_append, List.append_assoc]
      rfl
    · rw [List.length_append]
      show F.length + 2 + _ ≤ _
      omega
  · have z' : ¬ (0 : Int) < n := fun e => z (decide_eq_true e)
    have fin : ∀ (G : List Nat) (H2 : Hp), Nw l H H2 (nats G) → sight pl (pl.length - 1) = G.reverse → G.length ≤ pl.length → ∃ a1 ys, V.ref l = .ref a1 ∧ SqL K H2 a1 ys ∧ ∀ p, H2 p = none → ∃ p2 zs, [V.ref p] = [.ref p2] ∧ SqL K (upd H2 p (.lst ys.reverse)) p2 zs ∧ ∀ (t : Addr) (o : Obj), (upd H2 p (.lst ys.reverse)) t = none → o.cls = .type "tuple" → o.dict = none → Q (.ref t) (upd (upd H2 p (.lst ys.reverse)) t (.frz o (.tup zs))) := by
      intro G H2 hG eG lG
      refine ⟨l, _, rfl, SqL.of hG.h, fun p np => ⟨p, _, rfl, SqL.of upd_same, fun t o nt oc od => ?_⟩⟩
      rw [nats_rev, ← eG] at *
      have s1 := hG.s.trans ((same_new np (.lst (nats (sight pl (pl.length - 1))))).trans (same_new nt (.frz o (.tup (nats (sight pl (pl.length - 1)))))))
      refine q _ _ s1 (new_none (hG.s.trans (same_new np _)) nt) ⟨o, ?_, oc, od⟩
      rw [nats_int]
      exact upd_same
    refine ⟨_, rfl, rfl, _, rfl, ite2 (fun y => ?_) (fun y => ?_)⟩
    · have y' : n = 0 := V.int.inj (of_decide_eq_true y)
      subst y'
      refine ⟨_, rfl, .inl ⟨rfl, _, SqL.of hn.h⟩, l, _, _, rfl, rfl, hn.h, small6 (by rw [nats_len]; omega), ?_⟩
      have e0 : V.int 0 = V.int ((0 : Nat) : Int) := rfl
      rw [e0, nats_snoc]
      have hn3 := hn.put (nats (F ++ [0]))
      refine ⟨_, rfl, fin (F ++ [0]) _ hn3 ?_ ?_⟩
      · rw [hs, List.reverse_append]
        rfl
      · rw [List.length_append, List.length_singleton]
        have : ((0 : Int) + 1).toNat = 1 := rfl
        omega
    · have y' : n < 0 := by
        have : n ≠ 0 := fun e => y (decide_eq_true (by rw [e]))
        omega
      refine ⟨_, rfl, fin F H1 hn ?_ (by omega)⟩
      rw [hs]
      unfold rest
      rw [if_pos y']
      rfl
theorem ok_psF {f g : Addr} {fd gd : FuncData} (D_program_sight : Df K mg "program_sight" s_program_sight ["play"] f fd) (D__sight_behind : Df K mg "_sight_behind" s__sight_behind ["play"] g gd) (B : Bt mg) : FnOk P w K mg base CX0 2 f fd ["play"] (spSBF K) := by
  have G__sight_behind : FnOk P w K mg base CX0 1 g gd ["play"] (spSBF K) := ok_sbF D__sight_behind B
  refine D_program_sight.ok c_program_sight (fun vs H Q E h => ?_) (fun cdv A outer s H vs Q E hr h => ?_)
  · obtain ⟨v, pl, rfl, _⟩ := h
    rfl
  obtain ⟨v, pl, rfl, h⟩ := h
  have nd := c_program_sight.nd
  refine ⟨_, (pss_one (ps_ret (pe_call G__sight_behind (hr.mono (by first | decide | omega)) (by rfl) D__sight_behind.m D__sight_behind.kp D__sight_behind.b .nil pass0 (pa_cons (pv 0) pa_nil)))), ?_⟩
  exact ⟨_, rfl, v, pl, rfl, h⟩

def spAlF (K : PySem.W.Frag) : Sp := fun vs H Q _ => ∃ (v : V) (b : Addr) (pl : List Stp) (ns : List Nat), vs = [v, .ref b] ∧ Rep K H v (playD pl) ∧ (∀ H', Same H H' → SqT K H' b (nats ns)) ∧ WB pl ∧ Cl pl ns ∧ ns.Pairwise (· < ·) ∧ ns.length ≤ 500 ∧ ∀ z H', Same H H' → Rep K H' z (playD (apart pl ns)) → Q z H'
theorem ok_alF {f : Addr} {fd : FuncData} (D_alone : Df K mg "alone" s_alone ["play", "numbers"] f fd) (B : Bt mg) : FnOk P w K mg base CX0 1 f fd ["play", "numbers"] (spAlF K) := by
  refine D_alone.ok c_alone (fun vs H Q E h => ?_) (fun cdv A outer s H vs Q E hr h => ?_)
  · obtain ⟨v, b, pl, ns, rfl, _⟩ := h
    rfl
  obtain ⟨v, b, pl, ns, rfl, rv, hb, hwb, hcl, up, hlen, q⟩ := h
  have nd := c_alone.nd
  refine ⟨_, (pss_cons (ps_set (i := 2) nd rfl (Or.inr rfl) pe_nkNew)
  (pss_cons (ps_for PassesOwn.never rfl (pi_enumT (by rfl) B.b_enumerate (pa_cons (pv 1) pa_nil)) (pg_tup rfl (pgs_cons (pg_name (i := 3) nd rfl (Or.inl rfl)) (pgs_cons (pg_name (i := 4) nd rfl (Or.inl rfl)) pgs_nil))) (pss_one (ps_nkPut (pv 2) (pv 4) (pv 3) rfl)))
  (pss_one (ps_ret (pe_callTy call_tuple_of (by rfl) B.b_tuple (by decide +kernel) (pa_cons (pe_lc (own := [("number", 4)]) (g := (gName 4)) (tt := tYes) rfl nd (pi_tup (pv 1)) (blkOk_by (own := [("number", 4)]) (N := ["play", "numbers", "anew", "at", "number"]) (sc := defScope s_alone) (by decide +kernel)) (fun _ _ _ _ _ => (pg_name (i := 4) nd rfl (Or.inl rfl))) (fun _ _ _ _ _ => pts_nil) (fun _ _ _ _ _ => (pe_tup (pa_cons (pe_ix (show IxR _ (rIxT K) from ix_tup) (pe_ix (show IxR _ (rIxT K) from ix_tup) (pv 0) (pv 4) (fun _ _ => rfl)) pe_int (fun _ _ => rfl)) (pa_cons (show PE _ _ (tNkGet P w _ _) from pe_nkGet (pv 2) (pe_ix (show IxR _ (rIxT K) from ix_tup) (pe_ix (show IxR _ (rIxT K) from ix_tup) (pv 0) (pv 4) (fun _ _ => rfl)) pe_int (fun _ _ => rfl)) (fun _ _ => rfl)) pa_nil))))) pa_nil)))))), ?_⟩
  obtain ⟨a, xs, rfl, ha, rxs, lx⟩ := play_inv rv
  refine fun d hd => ?_
  have s0 := same_new hd (NkO P w d (putN (fun _ => none) none .non) 1)
  refine ⟨_, rfl, b, _, rfl, hb _ s0, for_it walk_enumT (fun i σ H' => (∃ g n, H' d = some (NkO P w d g n) ∧ n ≤ i + 1 ∧ Anew ns i g) ∧ Same H H' ∧ ∃ (y3 y4 : Option V), σ = [some (.ref a), some (.ref b), some (.ref d), y3, y4])
    ⟨⟨_, 1, upd_same, Nat.le_refl _, ⟨rfl, fun k n hk _ => absurd hk (Nat.not_lt_zero k)⟩⟩, s0, none, none, rfl⟩ (fun i σ H' _ h => hb _ h.2.1) ?_ ?_⟩
  · rintro i x σ H1 H1' hi ⟨⟨g, n, hdn, hn, hA⟩, s1, y3, y4, rfl⟩ ⟨T, x1, y1, rfl, nT, rfl, hx1, hy1⟩
    have hx2 : V.int (i : Nat) = x1 := Option.some.inj hx1
    subst hx2
    rw [nats_len] at hi
    have hy2 : (nats ns)[i]? = some y1 := hy1
    have e1 : ns[i]? = some ns[i] := List.getElem?_eq_getElem hi
    have hy3 : y1 = V.int (ns[i] : Nat) := by
      unfold nats at hy2
      rw [List.getElem?_map, e1] at hy2
      exact (Option.some.inj hy2).symm
    subst hy3
    have sT := same_new nT (.tup [.int (i : Nat), .int (ns[i] : Nat)])
    refine ⟨T, _, rfl, SqT.of upd_same, rfl, _, _, rfl, _, _, rfl, rfl, ?_⟩
    have hd2 := sT _ _ hdn
    refine ⟨_, rfl, _, rfl, _, rfl, d, g, n, keyN ns[i], rfl, rfl, hd2, by omega, ⟨_, _, upd_same, by omega, hA.put up e1⟩, fun z o e => ?_, _, _, rfl⟩
    rw [upd_ne (ne_of_none e hd)]
    exact sT _ _ (s1 _ _ e)
  · rintro σ H1 ⟨⟨g, n, hdn, hn, hA⟩, s1, y3, y4, rfl⟩
    rw [nats_len] at hn hA
    refine ⟨_, rfl, b, rfl, ⟨_, hb _ s1⟩, fun l nl => ?_⟩
    refine lc_tup (K := K) (a := b) (xs := nats ns) (fun i H' => Same H1 H' ∧ ∃ acc, H' l = some (.lst acc) ∧ acc.length ≤ i ∧ Reps K H' acc (((ns.take i).map (apS pl ns)).map stD))
      ⟨same_new nl _, [], upd_same, Nat.le_refl _, .nil⟩ (fun i H' _ h => hb _ (s1.trans h.1)) ?_ ?_
    · rintro i x H3 hi ⟨s3, acc, hl3, lacc, racc⟩
      have hil : i < ns.length := by
        have := (List.getElem?_eq_some_iff.mp hi).1
        rw [nats_len] at this
        exact this
      have e1 : ns[i]? = some ns[i] := List.getElem?_eq_getElem hil
      have hx3 : x = V.int (ns[i] : Nat) := by
        unfold nats at hi
        rw [List.getElem?_map, e1] at hi
        exact (Option.some.inj hi).symm
      subst hx3
      obtain ⟨c1, c2⟩ := hcl ns[i] (List.getElem_mem hil)
      have hpl : pl[ns[i]]? = some pl[ns[i]] := List.getElem?_eq_getElem c1
      obtain ⟨y, hy, ry⟩ := play_at rxs hpl
      obtain ⟨a2, m2, b2, rfl, ha2, rm2, rb2⟩ := step_inv ry
      have s13 := s1.trans s3
      have sq1 := (ha.same s13).sq
      have sq2 := (ha2.same s13).sq
      -- what the dict answers of the back
      have hk : ∃ (k : Option L2.Key) (r : V), b2 = kVN k ∧ g k = some r ∧ ∀ H', Rep K H' r (bkD ((pl[ns[i]].back).map fun j => ns.idxOf j)) := by
        by_cases h0 : ns[i] = 0
        · have e0 : pl[0]? = some pl[ns[i]] := by
            rw [← h0]
            exact hpl
          have ef := hwb.first _ e0
          rw [ef] at rb2 ⊢
          obtain ⟨rfl, _⟩ := Rep.inva (w := V.non) rb2
          exact ⟨none, .non, rfl, hA.non, fun H' => .at rfl⟩
        · obtain ⟨mv, em⟩ := hwb.at (Nat.pos_of_ne_zero h0) c1
          rw [hpl] at em
          have ef := Option.some.inj em
          rw [ef] at rb2 ⊢
          obtain ⟨rfl, _⟩ := Rep.inva (w := V.int (bk pl ns[i] : Nat)) rb2
          obtain ⟨i1, i2⟩ := idx_up up (c2.resolve_left h0)
          exact ⟨keyN (bk pl ns[i]), .int (ns.idxOf (bk pl ns[i]) : Nat), rfl, hA.has _ _ i2 i1, fun H' => .at rfl⟩
      obtain ⟨k, r, ek, gk, rr⟩ := hk
      subst ek
      refine ⟨rfl, yes_go ⟨_, rfl, _, rfl, a, xs, _, _, rfl, rfl, sq1, atI_nat hy, a2, _, 0, _, rfl, rfl, sq2, atI_nat (j := 0) rfl, ?_⟩⟩
      refine ⟨_, rfl, _, rfl, _, rfl, a, xs, _, _, rfl, rfl, sq1, atI_nat hy, a2, _, 1, _, rfl, rfl, sq2, at_one1 rfl, d, g, n, k, r, rfl, rfl, s3 _ _ hdn, gk, (by show 2 ≤ sizeLine; decide), fun t nt => ?_⟩
      have st := same_new nt (.tup [m2, r])
      have hl4 := st _ _ hl3
      have kl := kx_list hl4 (acc ++ [.ref t])
      refine ⟨acc, hl4, small6 (by omega), fun z o e => ?_, acc ++ [.ref t], upd_same, by rw [List.length_append, List.length_singleton]; omega, ?_⟩
      · rw [upd_ne (ne_of_none e nl)]
        exact st _ _ (s3 _ _ e)
      · have e3 : (((ns.take (i + 1)).map (apS pl ns)).map stD) = (((ns.take i).map (apS pl ns)).map stD) ++ [stD (apS pl ns ns[i])] := by
          rw [List.take_add_one, e1, List.map_append, List.map_append]
          rfl
        rw [e3]
        refine (racc.mono ((kx_same st).trans kl)).append (.one (.tup (xs := [m2, r]) (.inl (kl.t _ _ upd_same)) (.cons ?_ (.one ?_))))
        · have e4 : (apS pl ns ns[i]).mv = pl[ns[i]].mv := by
            unfold apS
            rw [hpl]
            rfl
          rw [e4]
          exact (rm2.mono (kx_same (s13.trans st))).mono kl
        · have e5 : (apS pl ns ns[i]).back = (pl[ns[i]].back).map fun j => ns.idxOf j := by
            unfold apS
            rw [hpl]
            rfl
          rw [e5]
          exact rr _
    · rintro H3 ⟨s3, acc, hl3, lacc, racc⟩
      rw [nats_len, List.take_length] at racc
      refine ⟨l, _, rfl, .inl ⟨SqL.of hl3, fun t nt => ?_⟩⟩
      have st := same_new nt (.tup acc)
      exact q _ _ (s1.trans (s3.trans st)) (.tup' upd_same (racc.mono (kx_same st)))

end
end Pk

set_option maxRecDepth 100000
set_option maxHeartbeats 4000000
set_option pp.maxSteps 600
namespace Pk
open PySem PySem.Spec PyProof.Rows L2
/-! ### _step_at, reply -/
theorem sight_head {pl : List Stp} (h : WB pl) : ∀ (f n : Nat), n < f → n < pl.length → (sight pl n)[0]? = some 0
  | 0, n, hf, _ => absurd hf (Nat.not_lt_zero n)
  | f + 1, n, hf, hn => by
    by_cases h0 : n = 0
    · subst h0
      rfl
    · have hp : 0 < n := by omega
      have hb := h.bk_lt hp hn
      by_cases hb0 : bk pl n = 0
      · rw [sight_one hp hb0]
        rfl
      · rw [sight_more h hp hn hb0]
        have ih := sight_head h f (bk pl n - 1) (by omega) (by omega)
        rw [List.getElem?_append_left (List.getElem?_eq_some_iff.mp ih).1]
        exact ih
theorem wk_sight {pl : List Stp} (h : WB pl) (hp : 0 < pl.length) : WkS (apart pl (sgl pl)) := by
  have hd := sight_head h pl.length (pl.length - 1) (by omega) (by omega)
  have up := sight_up h (pl.length - 1) (by omega)
  unfold sgl
  generalize sight pl (pl.length - 1) = ns at *
  cases ns with
  | nil => cases hd
  | cons n r =>
    have e0 : n = 0 := Option.some.inj hd
    subst e0
    refine ⟨r.map (apS pl (0 :: r)), ?_, fun x hx => ?_⟩
    · show apS pl (0 :: r) 0 :: r.map (apS pl (0 :: r)) = _
      have ep : pl[0]? = some pl[0] := List.getElem?_eq_getElem hp
      have ef := h.first _ ep
      have e1 : apS pl (0 :: r) 0 = BEG := by
        unfold apS
        rw [ep, ef]
        rfl
      rw [e1]
    · obtain ⟨k, hk, rfl⟩ := List.mem_map.mp hx
      have hk0 : 0 < k := (List.pairwise_cons.mp up.1).1 k hk
      have hkl : k < pl.length := by have := up.2 k (List.mem_cons_of_mem _ hk); omega
      have ep : pl[k]? = some pl[k] := List.getElem?_eq_getElem hkl
      obtain ⟨j, ej, _⟩ := h.later k _ hk0 ep
      unfold apS
      rw [ep]
      show ((pl[k]).back.map _) ≠ none
      rw [ej]
      exact fun z => nomatch z
theorem row_inv {K : PySem.W.Frag} {H : Hp} {x : V} {r : Row} (h : Rep K H x (rowD r)) : ∃ a k y, x = .ref a ∧ TupAt K H a [k, y] ∧ Rep K H k (playD r.1) ∧ Rep K H y (stD r.2) := by
  obtain ⟨a, xs, rfl, ha, rx⟩ := Rep.inv (ts := [playD r.1, stD r.2]) h
  cases rx with
  | cons r1 rx =>
    cases rx with
    | cons r2 rx =>
      cases rx
      exact ⟨a, _, _, rfl, ha, r1, r2⟩
theorem strat_inv {K : PySem.W.Frag} {H : Hp} {x : V} {kd : D} {L : List Row} (h : Rep K H x (stratD kd L)) : ∃ a s k b xs, x = .ref a ∧ TupAt K H a [s, k, .ref b] ∧ TupAt K H b xs ∧ Reps K H xs (L.map rowD) ∧ xs.length = L.length := by
  obtain ⟨a, xs, rfl, ha, rx⟩ := Rep.inv (ts := [.at (.str "strategy"), kd, .tup (L.map rowD)]) h
  cases rx with
  | cons r1 rx =>
    cases rx with
    | cons r2 rx =>
      cases rx with
      | cons r3 rx =>
        cases rx
        obtain ⟨b, ys, rfl, hb, ry⟩ := r3.inv
        have := ry.length
        rw [List.length_map] at this
        exact ⟨a, _, _, b, ys, rfl, ha, hb, ry, this⟩
theorem rows_at {K : PySem.W.Frag} {H : Hp} {xs : List V} {L : List Row} {i : Nat} {r : Row} (h : Reps K H xs (L.map rowD)) (e : L[i]? = some r) : ∃ x, xs[i]? = some x ∧ Rep K H x (rowD r) := h.getD (by rw [List.getElem?_map, e]; rfl)
section
variable {P : Program} {w : World} {K : PySem.W.Frag} {mg : Str → Option Value} {base : Heap}
def spSA (K : PySem.W.Frag) : Sp := fun vs H Q _ => ∃ (v z : V) (kd : D) (rows : List Row) (s : List Stp), vs = [v, z] ∧ Rep K H v (stratD kd (sortR rows)) ∧ (keysR rows).Nodup ∧ (∀ r ∈ rows, OkR r) ∧ Rep K H z (playD s) ∧ WkS s ∧ ∀ y, RpAt K H (lkR rows s) y → Q y H
theorem wk_of {s : List Stp} (h : OkS s) : WkS s := h.inv
theorem ok_sa {f : Addr} {fd : FuncData} (D__step_at : Df K mg "_step_at" s__step_at ["strategy", "sight"] f fd) (B : Bt mg) : FnOk P w K mg base CX0 1 f fd ["strategy", "sight"] (spSA K) := by
  refine D__step_at.ok c__step_at (fun vs H Q E h => ?_) (fun cdv A outer s0 H vs Q E hr h => ?_)
  · obtain ⟨v, z, kd, rows, s, rfl, _⟩ := h
    rfl
  obtain ⟨v, z, kd, rows, s, rfl, rv, hn, hk, rz, hs, q⟩ := h
  have nd := c__step_at.nd
  refine ⟨_, (pss_cons (ps_set (i := 2) nd rfl (Or.inl rfl) (pe_ix ix_tup (pv 0) pe_int (fun _ _ => rfl)))
  (pss_cons (ps_set (i := 3) nd rfl (Or.inl rfl) pe_int)
  (pss_cons (ps_set (i := 4) nd rfl (Or.inl rfl) (pe_callB call_len_seq (by rfl) B.b_len PySem.boot_len (pa_cons (pv 2) pa_nil)))
  (pss_cons (ps_while PassesOwn.never (pt_cmpR op_lt (pv 3) (pv 4) (nomark _)) (pss_cons (ps_set (i := 5) nd rfl (Or.inl rfl) (pe_op op_fdiv (pe_op op_add (pv 3) (pv 4)) pe_int))
  (pss_one (ps_if (pt_cmpR (op_ltD hr.units) (pe_ix ix_tup (pe_ix ix_tup (pv 2) (pv 5) (fun _ _ => rfl)) pe_int (fun _ _ => rfl)) (pv 1) (nomark _)) (pss_one (ps_set (i := 3) nd rfl (Or.inl rfl) (pe_op op_add (pv 5) pe_int))) (pss_one (ps_set (i := 4) nd rfl (Or.inl rfl) (pv 5)))))))
  (pss_cons (ps_if (PW.pt (pw_and (pt_cmpR op_lt (pv 3) (pe_callB call_len_seq (by rfl) B.b_len PySem.boot_len (pa_cons (pv 2) pa_nil)) (nomark _)) (pw_and1 (pt_cmpR (op_eqD hr.units) (pe_ix ix_tup (pe_ix ix_tup (pv 2) (pv 3) (fun _ _ => rfl)) pe_int (fun _ _ => rfl)) (pv 1) (nomark _))))) (pss_one (ps_ret (pe_ix ix_tup (pe_ix ix_tup (pv 2) (pv 3) (fun _ _ => rfl)) pe_int (fun _ _ => rfl)))) pss_nil)
  (pss_one (ps_ret pe_non))))))), ?_⟩
  obtain ⟨a, sv, kv, b, xs, rfl, ha, hb, rxs, lx⟩ := strat_inv rv
  have hL : ∀ {i : Nat} {r : Row}, (sortR rows)[i]? = some r → r ∈ rows := fun e => (sortE_perm _ rows).mem_iff.mp (List.mem_of_getElem? e)
  have srt := @sorted_rows rows hn hk
  refine ⟨_, rfl, a, _, 2, _, rfl, rfl, ha.sq, rfl, ?_⟩
  refine ⟨_, rfl, b, xs, rfl, .inr hb.sq, ?_⟩
  obtain ⟨W, hW⟩ : ∃ W : Nat → L2.St → Hp → Prop, ∀ m σ H', W m σ H' ↔ (∃ (lo hi : Nat) (y5 : Option V), σ = [some (.ref a), some z, some (.ref b), some (.int (lo : Nat)), some (.int (hi : Nat)), y5] ∧ H' = H ∧ lo ≤ hi ∧ hi ≤ xs.length ∧
    (∀ i r, i < lo → (sortR rows)[i]? = some r → ltP r.1 s = true) ∧ (∀ i r, hi ≤ i → (sortR rows)[i]? = some r → ltP r.1 s = false) ∧ m = hi - lo) := ⟨_, fun _ _ _ => Iff.rfl⟩
  refine ⟨W, ⟨xs.length, (hW _ _ _).mpr ⟨0, xs.length, none, rfl, rfl, Nat.zero_le _, Nat.le_refl _, fun i r hi => absurd hi (Nat.not_lt_zero i), fun i r hi e => ?_, rfl⟩⟩, ?_⟩
  · have := (List.getElem?_eq_some_iff.mp e).1
    omega
  intro m σ H1 hw
  obtain ⟨lo, hi, y5, rfl, rfl, hlh, hhl, hlow, hhigh, rfl⟩ := (hW _ _ _).mp hw
  refine ⟨_, rfl, _, rfl, _, _, rfl, rfl, _, rfl, ite2 (fun y => ⟨fun σ' H' => ∃ m', m' < hi - lo ∧ W m' σ' H', fun _ _ h => h, ?_⟩) (fun y => ?_)⟩
  · have y' : (lo : Int) < (hi : Int) := of_decide_eq_true y
    obtain ⟨mid, hm⟩ : ∃ mid, mid = (lo + hi) / 2 := ⟨_, rfl⟩
    have hm1 : lo ≤ mid ∧ mid < hi := by omega
    have em : ((lo : Int) + (hi : Int)) / 2 = ((mid : Nat) : Int) := by omega
    have er : (sortR rows)[mid]? = some (sortR rows)[mid] := List.getElem?_eq_getElem (by omega)
    generalize (sortR rows)[mid] = r at er
    obtain ⟨x, hx, rx⟩ := rows_at rxs er
    obtain ⟨ra, k, st, rfl, hra, rk, rst⟩ := row_inv rx
    have ok := (hk r (hL er)).1
    have hx' := atI_nat hx
    rw [← em] at hx'
    refine ⟨_, rfl, _, rfl, _, _, rfl, rfl, _, _, rfl, rfl, ⟨by decide, by decide⟩, ?_⟩
    refine ⟨_, rfl, _, rfl, b, xs, _, _, rfl, rfl, hb.sq, hx', ra, _, 0, _, rfl, rfl, hra.sq, rfl, _, rfl, playD r.1, playD s, rk, rz, noLd_play _, noLd_play _, cpb_wk (wk_of ok) hs, (fun e => nomatch e), Nat.le_trans (dep_play _) (by decide), ?_⟩
    rw [dlt_wk (wk_of ok) hs]
    cases hlt : ltP r.1 s with
    | true =>
      refine ⟨_, rfl, iteT ⟨_, rfl, _, _, rfl, rfl, hi - (mid + 1), by omega, (hW _ _ _).mpr ⟨mid + 1, hi, some (.int (((lo : Int) + (hi : Int)) / 2)), ?_, rfl, by omega, hhl, fun i t h1 h2 => ?_, hhigh, rfl⟩⟩⟩
      · show [some (V.ref a), some z, some (V.ref b), some (V.int (((lo : Int) + (hi : Int)) / 2 + 1)), some (V.int (hi : Nat)), some (V.int (((lo : Int) + (hi : Int)) / 2))] = _
        rw [em]
        rfl
      · rcases Nat.lt_or_ge i mid with h | h
        · exact ltP_trans (srt h2 er h) hlt
        · have : i = mid := by omega
          subst this
          rw [er] at h2
          cases h2
          exact hlt
    | false =>
      refine ⟨_, rfl, iteF ⟨_, rfl, mid - lo, by omega, (hW _ _ _).mpr ⟨lo, mid, some (.int (((lo : Int) + (hi : Int)) / 2)), ?_, rfl, by omega, by omega, hlow, fun i t h1 h2 => ?_, rfl⟩⟩⟩
      · show [some (V.ref a), some z, some (V.ref b), some (V.int (lo : Nat)), some (V.int (((lo : Int) + (hi : Int)) / 2)), some (V.int (((lo : Int) + (hi : Int)) / 2))] = _
        rw [em]
      · rcases Nat.lt_or_ge mid i with h | h
        · cases hts : ltP t.1 s with
          | false => rfl
          | true =>
            have := ltP_trans (srt er h2 h) hts
            rw [hlt] at this
            cases this
        · have : i = mid := by omega
          subst this
          rw [er] at h2
          cases h2
          exact hlt
  · have y' : ¬ (lo : Int) < (hi : Int) := fun e => y (decide_eq_true e)
    have e1 : lo = hi := by omega
    subst e1
    -- where s stands, if it stands
    have miss : (∀ r, (sortR rows)[lo]? = some r → r.1 ≠ s) → lkR rows s = none := fun no => lkR_none fun mem => by
      obtain ⟨r, hr, e⟩ := mem_keys mem
      obtain ⟨i, hi⟩ := List.mem_iff_getElem?.mp ((sortE_perm (fun r : Row => tkD (rowD r)) rows).mem_iff.mpr hr)
      rcases Nat.lt_trichotomy i lo with h | h | h
      · have := hlow i r h hi
        rw [e, ltP_irr] at this
        cases this
      · subst h
        exact no r hi e
      · have hl2 : i < (sortR rows).length := (List.getElem?_eq_some_iff.mp hi).1
        have hl3 : lo < (sortR rows).length := by omega
        have e2 : (sortR rows)[lo]? = some (sortR rows)[lo] := List.getElem?_eq_getElem hl3
        have h1 := srt e2 hi h
        rw [e] at h1
        rw [hhigh lo _ (Nat.le_refl _) e2] at h1
        cases h1
    refine ⟨_, rfl, _, rfl, b, xs, rfl, .inr hb.sq, _, _, rfl, rfl, _, rfl, ite2 (fun x1 => ?_) (fun x1 => ?_)⟩
    · have x1' : (lo : Int) < ((xs.length : Nat) : Int) := of_decide_eq_true x1
      have er : (sortR rows)[lo]? = some (sortR rows)[lo] := List.getElem?_eq_getElem (by omega)
      generalize (sortR rows)[lo] = r at er
      obtain ⟨x, hx, rx⟩ := rows_at rxs er
      obtain ⟨ra, k, st, rfl, hra, rk, rst⟩ := row_inv rx
      have ok := (hk r (hL er)).1
      refine ⟨_, rfl, _, rfl, b, xs, _, _, rfl, rfl, hb.sq, atI_nat hx, ra, _, 0, _, rfl, rfl, hra.sq, rfl, _, rfl, _, _, dp_noL rk (noLd_play _), dp_noL rz (noLd_play _), shaped_play _, shaped_play _, _, rfl, ?_⟩
      rw [eqv_wk (wk_of ok) hs]
      by_cases hrs : r.1 = s
      · rw [decide_eq_true hrs]
        have e2 := lkR_some hn (hL er)
        rw [hrs] at e2
        rw [e2] at q
        exact iteT ⟨_, rfl, _, rfl, b, xs, _, _, rfl, rfl, hb.sq, atI_nat hx, ra, _, 1, _, rfl, rfl, hra.sq, rfl, q _ rst⟩
      · rw [decide_eq_false hrs]
        refine iteF ?_
        rw [miss (fun t ht => by rw [er] at ht; cases ht; exact hrs)] at q
        exact q .non rfl
    · have x1' : ¬ (lo : Int) < ((xs.length : Nat) : Int) := fun e => x1 (decide_eq_true e)
      rw [miss (fun t ht => absurd (List.getElem?_eq_some_iff.mp ht).1 (by omega))] at q
      exact q .non rfl
def spRep (K : PySem.W.Frag) : Sp := fun vs H Q _ => ∃ (v z : V) (kd kd' : D) (rows : List Row) (pl : List Stp), vs = [v, z] ∧ Rep K H v (stratD kd (sortR rows)) ∧ (keysR rows).Nodup ∧ (∀ r ∈ rows, OkR r) ∧ Rep K H z (playD pl) ∧ LW kd' pl ∧ 0 < pl.length ∧ Legs rows pl ∧
  ∀ y H', Same H H' → RpAt K H' (repl rows pl) y → Q y H'
theorem ok_rep {f f1 f2 f3 f4 : Addr} {fd d1 d2 d3 d4 : FuncData} (D_reply : Df K mg "reply" s_reply ["strategy", "play"] f fd) (D__step_at : Df K mg "_step_at" s__step_at ["strategy", "sight"] f1 d1) (D_alone : Df K mg "alone" s_alone ["play", "numbers"] f2 d2) (D_program_sight : Df K mg "program_sight" s_program_sight ["play"] f3 d3)
    (D__sight_behind : Df K mg "_sight_behind" s__sight_behind ["play"] f4 d4) (B : Bt mg) : FnOk P w K mg base CX0 3 f fd ["strategy", "play"] (spRep K) := by
  have G__step_at : FnOk P w K mg base CX0 1 f1 d1 ["strategy", "sight"] (spSA K) := ok_sa D__step_at B
  have G_alone : FnOk P w K mg base CX0 1 f2 d2 ["play", "numbers"] (spAl K) := ok_al D_alone B
  have G_program_sight : FnOk P w K mg base CX0 2 f3 d3 ["play"] (spSB K) := ok_ps D_program_sight D__sight_behind B
  refine D_reply.ok c_reply (fun vs H Q E h => ?_) (fun cdv A outer s0 H vs Q E hr h => ?_)
  · obtain ⟨v, z, kd, kd', rows, pl, rfl, _⟩ := h
    rfl
  obtain ⟨v, z, kd, kd', rows, pl, rfl, rv, hn, hk, rz, hL, hp, hleg, q⟩ := h
  have nd := c_reply.nd
  refine ⟨_, (pss_cons (ps_set (i := 2) nd rfl (Or.inl rfl) (pe_call G_program_sight (hr.mono (by first | decide | omega)) (by rfl) D_program_sight.m D_program_sight.kp D_program_sight.b .nil pass0 (pa_cons (pv 1) pa_nil)))
  (pss_cons (ps_set (i := 3) nd rfl (Or.inl rfl) (pe_call G__step_at (hr.mono (by first | decide | omega)) (by rfl) D__step_at.m D__step_at.kp D__step_at.b .nil pass0 (pa_cons (pv 0) (pa_cons (pe_call G_alone (hr.mono (by first | decide | omega)) (by rfl) D_alone.m D_alone.kp D_alone.b .nil pass0 (pa_cons (pv 1) (pa_cons (pv 2) pa_nil))) pa_nil))))
  (pss_cons (ps_if (pt_cmpR op_isN (pv 3) pe_non (nomark _)) (pss_one (ps_ret pe_non)) pss_nil)
  (pss_cons (ps_asg (pv 3) (pg_tup rfl (pgs_cons (pg_name (i := 4) nd rfl (Or.inl rfl)) (pgs_cons (pg_name (i := 5) nd rfl (Or.inl rfl)) pgs_nil))))
  (pss_one (ps_ret (pe_tup (pa_cons (pv 4) (pa_cons (pe_ix ix_tup (pv 2) (pv 5) (fun _ _ => rfl)) pa_nil))))))))), ?_⟩
  have hlen := hL.lp.len
  refine ⟨_, rfl, z, pl, rfl, rz, hL.lp.wb, hp, by omega, fun y H1 s1 ry => ?_⟩
  have up := sight_up hL.lp.wb (pl.length - 1) (by omega)
  have hsl := sight_len hL.lp.wb (pl.length - 1) (by omega)
  refine ⟨_, rfl, _, rfl, _, rfl, z, y, pl, sight pl (pl.length - 1), rfl, rz.mono (kx_same s1), ry, hL.lp.wb, sight_cl hL.lp.wb hL.lp.ws _ (by omega), up.1, by omega, fun x H2 s2 rx => ?_⟩
  have s12 := s1.trans s2
  refine ⟨v, x, kd, rows, apart pl (sight pl (pl.length - 1)), rfl, rv.mono (kx_same s12), hn, hk, rx, wk_sight hL.lp.wb hp, fun t ht => ?_⟩
  cases hl : lkR rows (apart pl (sight pl (pl.length - 1))) with
  | none =>
    rw [hl] at ht
    have e : t = .non := ht
    subst e
    have er : repl rows pl = none := by
      unfold repl sgl
      rw [hl]
      rfl
    rw [er] at q
    exact ⟨_, rfl, rfl, _, rfl, iteT (q _ _ s12 rfl)⟩
  | some u =>
    rw [hl] at ht
    have rt : Rep K H2 t (stD u) := ht
    obtain ⟨c, j, e1, e2⟩ := hleg u hl
    have er : repl rows pl = some ⟨u.mv, some j⟩ := by
      unfold repl
      have g1' : lkR rows (apart pl (sgl pl)) = some u := hl
      rw [g1']
      show some (Stp.mk u.mv (u.back.map fun c => (sgl pl).getD c 0)) = _
      rw [e1]
      show some (Stp.mk u.mv (some ((sgl pl).getD c 0))) = _
      rw [List.getD_eq_getElem?_getD, e2]
      rfl
    rw [er] at q
    obtain ⟨a2, m2, b2, rfl, ha2, rm2, rb2⟩ := step_inv rt
    rw [e1] at rb2
    obtain ⟨rfl, _⟩ := Rep.inva (w := V.int (c : Nat)) rb2
    obtain ⟨ya, ys, rfl, hya, rys⟩ := Rep.inv (ts := (sight pl (pl.length - 1)).map numD') (ry.mono (kx_same s2))
    have eys := rep_nats_inv rys
    subst eys
    refine ⟨_, rfl, rfl, _, rfl, iteF ?_⟩
    refine ⟨_, rfl, a2, _, rfl, ha2.sq, rfl, _, _, rfl, _, _, rfl, rfl, ?_⟩
    refine ⟨_, rfl, _, rfl, _, rfl, ya, _, _, _, rfl, rfl, hya.sq, atI_nat (nats_get e2), (by show 2 ≤ sizeLine; decide), fun t' nt => ?_⟩
    have s3 := same_new nt (.tup [m2, .int (j : Nat)])
    exact q _ _ (s12.trans s3) (.tup' upd_same (.cons (rm2.mono (kx_same s3)) (.one (.at rfl))))
end
end Pk

set_option maxRecDepth 100000
set_option maxHeartbeats 4000000
set_option pp.maxSteps 600
namespace Pk
open PySem PySem.Spec PyProof.Rows L2
theorem szT_progB (t : T) : szT (progB t) = szT t := by cases t <;> rfl
/-! ### how great strategies are -/
mutual
theorem noL_of : ∀ d : D, noLd d = true → noL d = true
  | .at _, _ => rfl
  | .lst, h => by cases h
  | .tup ts, h => noLs_of ts h
theorem noLs_of : ∀ l : List D, noLds l = true → noLs l = true
  | [], _ => rfl
  | t :: r, h => by
    have k := Bool.and_eq_true_iff.mp h
    show (noL t && noLs r) = true
    rw [noL_of t k.1, noLs_of r k.2]
    rfl
end
mutual
theorem noLd_kind : ∀ d : D, isK d = true → noLd d = true
  | .at _, h => by cases h
  | .lst, h => by cases h
  | .tup ts, h => noLds_kind ts h
theorem noLds_kind : ∀ l : List D, isKs l = true → noLds l = true
  | [], _ => rfl
  | t :: r, h => by
    have k := Bool.and_eq_true_iff.mp h
    show (noLd t && noLds r) = true
    rw [noLd_kind t k.1, noLds_kind r k.2]
    rfl
end
theorem noLds_rows : ∀ l : List Row, noLds (l.map rowD) = true
  | [] => rfl
  | r :: l => by
    show (noLd (rowD r) && noLds (l.map rowD)) = true
    rw [noLd_row, noLds_rows l]
    rfl
theorem noLd_strat {kd : D} (hk : isK kd = true) (rows : List Row) : noLd (stratD kd rows) = true := by
  show (true && (noLd kd && (noLds (rows.map rowD) && true))) = true
  rw [noLd_kind kd hk, noLds_rows]
  rfl
theorem deps_rows : ∀ l : List Row, deps (l.map rowD) ≤ 6
  | [] => Nat.zero_le _
  | r :: l => by
    have h1 := dep_row r
    have h2 := deps_rows l
    show max (dep (rowD r) + 1) (deps (l.map rowD)) ≤ 6
    omega
theorem dep_strat {kd : D} (hk : dep kd ≤ 5) (rows : List Row) : dep (stratD kd rows) ≤ 7 := by
  have := deps_rows rows
  show max (0 + 1) (max (dep kd + 1) (max (deps (rows.map rowD) + 1) 0)) ≤ 7
  omega
theorem szs_numD : ∀ p : List Nat, szs (p.map numD') = p.length
  | [] => rfl
  | k :: r => by
    have := szs_numD r
    show 1 + szs (r.map numD') = r.length + 1
    omega
theorem sz_st (x : Stp) (L : Nat) (h : ∀ p, x.mv = .ask p → p.length ≤ L) : sz (stD x) ≤ 5 + L := by
  obtain ⟨m, k⟩ := x
  have hk : sz (bkD k) = 1 := by cases k <;> rfl
  have hm : sz (mvD m) ≤ 3 + L := by
    cases m with
    | say v =>
      show 1 + (1 + 0) + 1 ≤ 3 + L
      omega
    | ask p =>
      have h1 := szs_numD p
      have h2 := h p rfl
      show 1 + ((szs (p.map numD') + 1) + 0) + 1 ≤ 3 + L
      omega
  show sz (mvD m) + (sz (bkD k) + 0) + 1 ≤ 5 + L
  omega
theorem szs_sts (L : Nat) : ∀ s : List Stp, (∀ x ∈ s, ∀ p, x.mv = .ask p → p.length ≤ L) → szs (s.map stD) ≤ s.length * (5 + L)
  | [], _ => Nat.zero_le _
  | x :: r, h => by
    have h1 := sz_st x L (h x (List.mem_cons_self ..))
    have h2 := szs_sts L r fun y hy => h y (List.mem_cons_of_mem _ hy)
    show sz (stD x) + szs (r.map stD) ≤ (r.length + 1) * (5 + L)
    rw [Nat.add_mul]
    omega
/-- a row whose sight is no longer than L -/
structure SmR (L : Nat) (r : Row) : Prop where
  s : OkS r.1
  l : r.1.length ≤ L
  p : ∀ p, r.2.mv = .ask p → p.length ≤ r.1.length
theorem sz_row {L : Nat} {r : Row} (h : SmR L r) : sz (rowD r) ≤ (L + 1) * (5 + L) + 2 := by
  have h1 := szs_sts L r.1 fun x hx p e => by
    obtain ⟨i, hi⟩ := List.mem_iff_getElem?.mp hx
    obtain ⟨m, b⟩ := x
    have e' : m = .ask p := e
    subst e'
    have := h.s.pl i p b hi
    have := (List.getElem?_eq_some_iff.mp hi).1
    have := h.l
    omega
  have h2 := sz_st r.2 L fun p e => Nat.le_trans (h.p p e) h.l
  have h3 : r.1.length * (5 + L) ≤ L * (5 + L) := Nat.mul_le_mul_right _ h.l
  show (szs (r.1.map stD) + 1) + (sz (stD r.2) + 0) + 1 ≤ (L + 1) * (5 + L) + 2
  rw [Nat.add_mul]
  omega
theorem szs_rows {L : Nat} : ∀ l : List Row, (∀ r ∈ l, SmR L r) → szs (l.map rowD) ≤ l.length * ((L + 1) * (5 + L) + 2)
  | [], _ => Nat.zero_le _
  | r :: l, h => by
    have h1 := sz_row (h r (List.mem_cons_self ..))
    have h2 := szs_rows l fun x hx => h x (List.mem_cons_of_mem _ hx)
    show sz (rowD r) + szs (l.map rowD) ≤ (l.length + 1) * ((L + 1) * (5 + L) + 2)
    rw [Nat.add_mul]
    omega
mutual
theorem rowsB_long : ∀ (t : T) (s : List Stp) (cs : List Nat), ∀ e ∈ rowsB t s cs, e.1.length ≤ s.length + 2 * nasks t
  | .say v, s, cs, e, h => by
    rw [List.mem_singleton.mp h]
    exact Nat.le_add_right _ _
  | .stop, s, cs, e, h => by cases h
  | .prog _ _, s, cs, e, h => by cases h
  | .ask up k as z o, s, cs, e, h => by
    show e.1.length ≤ s.length + 2 * (1 + (nasksL as + (nasks z + nasks o)))
    rcases List.mem_cons.mp h with h | h
    · rw [h]
      exact Nat.le_add_right _ _
    rcases List.mem_append.mp h with h | h
    · have := rowsB_long z _ _ e h
      rw [List.length_append, List.length_append, List.length_singleton, List.length_singleton] at this
      omega
    rcases List.mem_append.mp h with h | h
    · have := rowsB_long o _ _ e h
      rw [List.length_append, List.length_append, List.length_singleton, List.length_singleton] at this
      omega
    · have := rowsPs_long as _ _ _ _ _ e h
      rw [List.length_append, List.length_singleton] at this
      omega
theorem rowsPs_long : ∀ (ts : List T) (p : List Nat) (l : List Stp) (n : Nat) (cs : List Nat) (i : Nat), ∀ e ∈ rowsPs ts p l n cs i, e.1.length ≤ l.length + 1 + 2 * nasksL ts
  | [], _, _, _, _, _, _, h => by cases h
  | .prog _ b :: r, p, l, n, cs, i, e, h => by
    show e.1.length ≤ l.length + 1 + 2 * (nasks b + nasksL r)
    rcases List.mem_append.mp h with h | h
    · have := rowsB_long b _ _ e h
      rw [List.length_append, List.length_singleton] at this
      omega
    · have := rowsPs_long r p l n cs (i + 1) e h
      omega
  | .say _ :: r, p, l, n, cs, i, e, h => by
    have := rowsPs_long r p l n cs (i + 1) e h
    show _ ≤ l.length + 1 + 2 * (0 + nasksL r)
    omega
  | .stop :: r, p, l, n, cs, i, e, h => by
    have := rowsPs_long r p l n cs (i + 1) e h
    show _ ≤ l.length + 1 + 2 * (0 + nasksL r)
    omega
  | .ask _ _ _ _ _ :: r, p, l, n, cs, i, e, h => by
    have := rowsPs_long r p l n cs (i + 1) e h
    show _ ≤ l.length + 1 + 2 * (_ + nasksL r)
    omega
end
theorem rowsT_small {kd : D} {t : T} {N : Nat} (hw : wfP [] kd t = true) (hn : nasks t ≤ N) : ∀ r ∈ rowsT t, SmR (1 + 2 * N) r := fun r hr => by
  obtain ⟨m, b, rfl, em, wb⟩ := wfP_inv hw
  have h1 := rowsB_ok b [kd] [BEG] [0] wb rfl OkS.one (fun x hx => by
    rw [List.mem_singleton.mp hx]
    exact ⟨[], none, rfl⟩) r hr
  have h2 := rowsB_long b [BEG] [0] r hr
  have h3 : nasks b ≤ N := hn
  have h4 : ([BEG] : List Stp).length = 1 := rfl
  exact ⟨h1.1, by omega, h1.2.2⟩
theorem szT_prog {M : Nat} {kd : D} {t : T} (hw : wfP [] kd t = true) (hk : isK kd = true ∧ sz kd ≤ M) : szT t ≤ 1 + (M + 2) * nasks t := by
  obtain ⟨m, b, rfl, em, wb⟩ := wfP_inv hw
  exact szT_le M b [kd] wb fun k hk' => by
    rw [List.mem_singleton.mp hk']
    exact hk
/-- a strategy of a program with at most N asks, of a kind of at most M places -/
theorem strat_small {kd : D} {t : T} {N M : Nat} (hw : wfP [] kd t = true) (hn : nasks t ≤ N) (hk : isK kd = true ∧ sz kd ≤ M) : szs [stratD kd (sortR (rowsT t))] ≤ 3 + M + (1 + (M + 2) * N) * ((1 + 2 * N + 1) * (5 + (1 + 2 * N)) + 2) := by
  have h1 := szs_rows (L := 1 + 2 * N) (sortR (rowsT t)) fun r hr => rowsT_small hw hn r ((sortE_perm _ _).mem_iff.mp hr)
  have h2 : (sortR (rowsT t)).length = (rowsT t).length := (sortE_perm _ _).length_eq
  have h3 := rowsT_len t
  have h4 := szT_prog hw hk
  have h5 := szT_progB t
  have h6 : (M + 2) * nasks t ≤ (M + 2) * N := Nat.mul_le_mul_left _ hn
  have h7 : (sortR (rowsT t)).length * ((1 + 2 * N + 1) * (5 + (1 + 2 * N)) + 2) ≤ (1 + (M + 2) * N) * ((1 + 2 * N + 1) * (5 + (1 + 2 * N)) + 2) := Nat.mul_le_mul_right _ (by omega)
  have h8 := hk.2
  show (1 + (sz kd + ((szs ((sortR (rowsT t)).map rowD) + 1) + 0)) + 1) + 0 ≤ _
  omega
section
variable {P : Program} {w : World} {K : PySem.W.Frag} {mg : Str → Option Value} {base : Heap}
def optD : Option Stp → D
  | some s => stD s
  | none => .at .non
theorem RpAt.rep {K : PySem.W.Frag} {H : Hp} {o : Option Stp} {z : V} (h : RpAt K H o z) : Rep K H z (optD o) := by
  cases o with
  | none =>
    have e : z = .non := h
    subst e
    exact .at rfl
  | some s => exact h
theorem noLd_opt (o : Option Stp) : noLd (optD o) = true := by
  cases o with
  | none => rfl
  | some s => exact noLd_st s
theorem dep_opt (o : Option Stp) : dep (optD o) ≤ 3 := by
  cases o with
  | none => exact Nat.zero_le _
  | some s => exact dep_st s
theorem sz_opt {o : Option Stp} {L : Nat} (h : ∀ s, o = some s → ∀ p, s.mv = .ask p → p.length ≤ L) : sz (optD o) ≤ 5 + L := by
  cases o with
  | none => show 1 ≤ 5 + L; omega
  | some s => exact sz_st s L (h s rfl)
theorem nx_place {kd : D} {pl : List Stp} {s : Stp} (h : Nxt kd pl s) (p : List Nat) (e : s.mv = .ask p) : p.length ≤ sz kd := by
  rcases h with ⟨_, rfl⟩ | ⟨_, j, _, _, ⟨q, d, e1, e2⟩ | ⟨u, e1, _⟩⟩
  · injection e with e
    rw [← e]
    exact Nat.zero_le _
  · rw [e] at e1
    injection e1 with e1
    rw [e1]
    exact atD_len q kd d e2
  · rw [e] at e1
    cases e1
end
section
variable {P : Program} {w : World} {K : PySem.W.Frag} {mg : Str → Option Value} {base : Heap}
/-! ### fault_in -/
theorem lay_opt (o : Option Stp) : SeqAt.shaped (toPy (optD o)) = true := by
  cases o with
  | none => decide +kernel
  | some s => exact shaped_st s
theorem eqv_st2 {x y : Stp} (hx : x.back ≠ none) (hy : y.back ≠ none) : PyData.eqv (toPy (stD x)) (toPy (stD y)) = decide (x = y) := by
  cases q : PyData.eqv (toPy (stD x)) (toPy (stD y)) with
  | true => exact (decide_eq_true (st_inj (eqv_toPy _ _ (noLd_st _) (noLd_st _) q (cpb_st hx hy)))).symm
  | false =>
    refine (decide_eq_false fun e => ?_).symm
    subst e
    have z : PyData.eqv (toPy (stD x)) (toPy (stD x)) = true := SeqAt.eqv_refl_plain _ (plain_noL _ (noLd_st x))
    rw [z] at q
    cases q
theorem eqv_opt {o : Option Stp} {y : Stp} (ho : ∀ x, o = some x → x.back ≠ none) (hy : y.back ≠ none) : PyData.eqv (toPy (optD o)) (toPy (stD y)) = decide (o = some y) := by
  cases o with
  | none =>
    show PyData.eqv .none (.tuple _) = _
    rw [decide_eq_false (fun e => nomatch e)]
    rfl
  | some x =>
    show PyData.eqv (toPy (stD x)) (toPy (stD y)) = _
    rw [eqv_st2 (ho x rfl) hy]
    exact decide_eq_decide.mpr ⟨fun e => by rw [e], fun e => Option.some.inj e⟩
/-- the turn i of the program: a step that is no reply -/
def bad (rows : List Row) (pl : List Stp) (i : Nat) : Bool := !decide (repl rows (pl.take (1 + i * 2)) = pl[1 + i * 2]?)
def flt (rows : List Row) (pl : List Stp) (m : Nat) : Option Nat := (List.range m).find? (bad rows pl)
theorem flt_succ (rows : List Row) (pl : List Stp) (m : Nat) : flt rows pl (m + 1) = (flt rows pl m).or (if bad rows pl m = true then some m else none) := by
  unfold flt
  rw [List.range_succ, List.find?_append]
  congr 1
  rw [List.find?_cons]
  cases h : bad rows pl m with
  | true => rw [if_pos rfl]
  | false =>
    rw [if_neg Bool.false_ne_true]
    rfl
theorem flt_none {rows : List Row} {pl : List Stp} {m i : Nat} (h : flt rows pl m = none) (hi : i < m) : bad rows pl i = false := by
  unfold flt at h
  rw [List.find?_eq_none] at h
  have := h i (List.mem_range.mpr hi)
  cases q : bad rows pl i with
  | true => exact absurd q this
  | false => rfl
theorem flt_first {rows : List Row} {pl : List Stp} {m i : Nat} (h : flt rows pl i = none) (hb : bad rows pl i = true) (hi : i < m) : flt rows pl m = some i := by
  induction m with
  | zero => omega
  | succ m ih =>
    rw [flt_succ]
    rcases Nat.lt_or_ge i m with hm | hm
    · rw [ih hm]
      rfl
    · have e : i = m := by omega
      subst e
      rw [h, if_pos hb]
      rfl
def numO : Option Nat → D
  | some i => numD' (1 + i * 2)
  | none => .at .non
theorem rgc_half : ∀ m : Fin 40, RgC 1 (m.val : Int) 2 (m.val / 2) := by
  unfold RgC
  decide +kernel
def spFi (K : PySem.W.Frag) : Sp := fun vs H Q _ => ∃ (v z : V) (kd kd' : D) (rows : List Row) (pl : List Stp), vs = [v, z] ∧ Rep K H v (stratD kd (sortR rows)) ∧ (keysR rows).Nodup ∧ (∀ r ∈ rows, OkR r) ∧ Rep K H z (playD pl) ∧ LW kd' pl ∧ pl.length ≤ 39 ∧ (∀ k, k < pl.length → k % 2 = 1 → Legs rows (pl.take k)) ∧
  ∀ y H', Same H H' → Rep K H' y (numO (flt rows pl (pl.length / 2))) → Q y H'
theorem repl_back {rows : List Row} {pl : List Stp} (h : Legs rows pl) {s : Stp} (e : repl rows pl = some s) : s.back ≠ none := by
  obtain ⟨x, hx, rfl⟩ := Option.map_eq_some_iff.mp e
  obtain ⟨c, j, e1, _⟩ := h x hx
  show x.back.map _ ≠ none
  rw [e1]
  exact fun z => nomatch z
theorem ok_fi {f f0 f1 f2 f3 f4 : Addr} {fd d0 d1 d2 d3 d4 : FuncData} (D_fault_in : Df K mg "fault_in" s_fault_in ["strategy", "play"] f fd) (D_reply : Df K mg "reply" s_reply ["strategy", "play"] f0 d0) (D__step_at : Df K mg "_step_at" s__step_at ["strategy", "sight"] f1 d1) (D_alone : Df K mg "alone" s_alone ["play", "numbers"] f2 d2) (D_program_sight : Df K mg "program_sight" s_program_sight ["play"] f3 d3)
    (D__sight_behind : Df K mg "_sight_behind" s__sight_behind ["play"] f4 d4) (B : Bt mg) : FnOk P w K mg base CX0 4 f fd ["strategy", "play"] (spFi K) := by
  have G_reply : FnOk P w K mg base CX0 3 f0 d0 ["strategy", "play"] (spRep K) := ok_rep D_reply D__step_at D_alone D_program_sight D__sight_behind B
  refine D_fault_in.ok c_fault_in (fun vs H Q E h => ?_) (fun cdv A outer s0 H vs Q E hr h => ?_)
  · obtain ⟨v, z, kd, kd', rows, pl, rfl, _⟩ := h
    rfl
  obtain ⟨v, z, kd, kd', rows, pl, rfl, rv, hn, hk, rz, hL, hlen, hleg, q⟩ := h
  have nd := c_fault_in.nd
  refine ⟨_, (pss_cons (ps_for PassesOwn.never rfl (pi_range3 (by rfl) B.b_range (pa_cons pe_int (pa_cons (pe_callB call_len_seq (by rfl) B.b_len PySem.boot_len (pa_cons (pv 1) pa_nil)) (pa_cons pe_int pa_nil)))) (pg_name (i := 2) nd rfl (Or.inl rfl)) (pss_one (ps_if (pt_cmpR (op_neD hr.units) (pe_call G_reply (hr.mono (by first | decide | omega)) (by rfl) D_reply.m D_reply.kp D_reply.b .nil pass0 (pa_cons (pv 0) (pa_cons (pe_slice sl_tupP (pv 1) po_none (po_some (pv 2))) pa_nil))) (pe_ix ix_tup (pv 1) (pv 2) (fun _ _ => rfl)) (nomark _)) (pss_one (ps_ret (pv 2))) pss_nil)))
  (pss_one (ps_ret pe_non))), ?_⟩
  obtain ⟨pa, ps, rfl, hpa, rps, lps⟩ := play_inv rz
  have rgc := rgc_half ⟨pl.length, by omega⟩
  refine ⟨_, rfl, pa, ps, rfl, .inr hpa.sq, 1, _, 2, pl.length / 2, rfl, by rw [lps]; exact rgc, ?_⟩
  refine for_rangeC (lo := 1) (c := 2) (n := pl.length / 2) (fun m σ H' => ∃ (y2 : Option V), σ = [some v, some (.ref pa), y2] ∧ Same H H' ∧ flt rows pl m = none)
    ⟨none, rfl, Same.refl _, rfl⟩ ?_ ?_
  · rintro m σ H1 hm ⟨y2, rfl, s1, hno⟩
    obtain ⟨k, hk'⟩ : ∃ k : Nat, k = 1 + m * 2 := ⟨_, rfl⟩
    have ek : (1 : Int) + (m : Nat) * 2 = ((k : Nat) : Int) := by omega
    rw [ek]
    have hkl : k < pl.length := by omega
    have ltk : (pl.take k).length = k := by rw [List.length_take]; omega
    have hLk := hL.take k
    have hlk := hleg k hkl (by omega)
    have ep : pl[k]? = some pl[k] := List.getElem?_eq_getElem hkl
    obtain ⟨x, hx, rx⟩ := play_at rps ep
    have hyb : (pl[k]).back ≠ none := by
      obtain ⟨j, ej, _⟩ := hL.lp.wb.later k _ (by omega) ep
      rw [ej]
      exact fun z => nomatch z
    refine ⟨_, rfl, _, rfl, _, rfl, _, rfl, pa, ps, rfl, hpa.same s1, fun z1 H2 s2 hz1 => ?_⟩
    rw [cutV_to] at hz1
    have s12 := s1.trans s2
    have r1 := play_take (a := pa) rps (kx_same s12) hz1
    refine ⟨v, .ref z1, kd, kd', rows, pl.take k, rfl, rv.mono (kx_same s12), hn, hk, r1, hLk, by omega, hlk, fun y H3 s3 ry => ?_⟩
    have s13 := s12.trans s3
    refine ⟨_, rfl, _, rfl, pa, ps, _, _, rfl, rfl, (hpa.same s13).sq, atI_nat hx, _, _, dp_noL (RpAt.rep ry) (noLd_opt _), dp_noL (rx.mono (kx_same s13)) (noLd_st _), lay_opt _, shaped_st _, _, rfl, ?_⟩
    rw [eqv_opt (fun x hx => repl_back hlk hx) hyb]
    have eb : bad rows pl m = !decide (repl rows (pl.take k) = some pl[k]) := by
      unfold bad
      rw [← hk', ep]
    by_cases he : repl rows (pl.take k) = some pl[k]
    · rw [decide_eq_true he] at eb ⊢
      refine iteF ⟨_, rfl, s13, ?_⟩
      rw [flt_succ, hno, eb]
      rfl
    · rw [decide_eq_false he] at eb ⊢
      refine iteT ⟨_, rfl, q _ _ s13 ?_⟩
      rw [flt_first hno eb hm, hk']
      exact .at rfl
  · rintro σ H1 ⟨y2, rfl, s1, hno⟩
    refine q _ _ s1 ?_
    rw [hno]
    exact .at rfl
end
end Pk

set_option maxRecDepth 100000
set_option maxHeartbeats 4000000
set_option pp.maxSteps 600
namespace Pk
open PySem PySem.Spec PyProof.Rows L2
/-! ### what a play tells: pairs -/
def mvAt (pl : List Stp) (n : Nat) : Mv := ((pl[n]?).map Stp.mv).getD (.say 0)
def toldR (pl : List Stp) (i : Nat) : Row := (apart pl (sight pl (i * 2)), ⟨mvAt pl (1 + i * 2), some ((sight pl (i * 2)).idxOf (bk pl (1 + i * 2)))⟩)
def told (pl : List Stp) : List Row := (List.range (pl.length / 2)).map (toldR pl)
theorem idx_int (ns : List Nat) (k : Nat) : (ns.map fun j : Nat => ((j : Nat) : Int)).idxOf ((k : Nat) : Int) = ns.idxOf k := by
  induction ns with
  | nil => rfl
  | cons a r ih =>
    rw [List.map_cons, List.idxOf_cons, List.idxOf_cons, ih]
    by_cases h : a = k
    · subst h
      rw [beq_self_eq_true, beq_self_eq_true]
    · rw [beq_eq_false_iff_ne.mpr h, beq_eq_false_iff_ne.mpr (fun e => h (by omega))]
theorem FzT.same {H H' : Hp} {a : Addr} {ns : List Int} (h : FzT H a ns) (s : Same H H') : FzT H' a ns := let ⟨o, h1, h2⟩ := h; ⟨o, s _ _ h1, h2⟩
theorem FzT.sq {K : PySem.W.Frag} {H : Hp} {a : Addr} {ns : List Nat} (h : FzT H a (ns.map fun k : Nat => ((k : Nat) : Int))) : SqT K H a (nats ns) := by
  obtain ⟨o, h1, _⟩ := h
  rw [nats_int] at h1
  exact .inl (.inr ⟨o, h1⟩)
theorem row_rep {K : PySem.W.Frag} {H : Hp} {t : Addr} {x y : V} {r : Row} (h : H t = some (.tup [x, y])) (hx : Rep K H x (playD r.1)) (hy : Rep K H y (stD r.2)) : Rep K H (.ref t) (rowD r) := .tup' h (.cons hx (.one hy))
section
variable {P : Program} {w : World} {K : PySem.W.Frag} {mg : Str → Option Value} {base : Heap}
def spPairs (K : PySem.W.Frag) : Sp := fun vs H Q _ => ∃ (v : V) (kd : D) (pl : List Stp), vs = [v] ∧ Rep K H v (playD pl) ∧ LW kd pl ∧ pl.length ≤ 39 ∧ ∀ z H', Same H H' → Rep K H' z (.tup ((told pl).map rowD)) → Q z H'
theorem ok_pairs {f f1 f2 f3 : Addr} {fd d1 d2 d3 : FuncData} (D_pairs : Df K mg "pairs" s_pairs ["play"] f fd) (D_alone : Df K mg "alone" s_alone ["play", "numbers"] f1 d1) (D_program_sight : Df K mg "program_sight" s_program_sight ["play"] f2 d2) (D__sight_behind : Df K mg "_sight_behind" s__sight_behind ["play"] f3 d3) (B : Bt mg) :
    FnOk P w K mg base CX0 3 f fd ["play"] (spPairs K) := by
  have G_alone : FnOk P w K mg base CX0 1 f1 d1 ["play", "numbers"] (spAlF K) := ok_alF D_alone B
  have G_program_sight : FnOk P w K mg base CX0 2 f2 d2 ["play"] (spSBF K) := ok_psF D_program_sight D__sight_behind B
  refine D_pairs.ok c_pairs (fun vs H Q E h => ?_) (fun cdv A outer s0 H vs Q E hr h => ?_)
  · obtain ⟨v, kd, pl, rfl, _⟩ := h
    rfl
  obtain ⟨v, kd, pl, rfl, rv, hL, hlen, q⟩ := h
  have nd := c_pairs.nd
  refine ⟨_, (pss_cons (ps_set (i := 1) nd rfl (Or.inl rfl) (pe_lst pa_nil))
  (pss_cons (ps_for PassesOwn.never rfl (pi_range3 (by rfl) B.b_range (pa_cons pe_int (pa_cons (pe_callB call_len_seq (by rfl) B.b_len PySem.boot_len (pa_cons (pv 0) pa_nil)) (pa_cons pe_int pa_nil)))) (pg_name (i := 2) nd rfl (Or.inl rfl)) (pss_cons (ps_asg (pe_ix ix_tup (pv 0) (pv 2) (fun _ _ => rfl)) (pg_tup rfl (pgs_cons (pg_name (i := 3) nd rfl (Or.inl rfl)) (pgs_cons (pg_name (i := 4) nd rfl (Or.inl rfl)) pgs_nil))))
  (pss_cons (ps_set (i := 5) nd rfl (Or.inl rfl) (pe_call G_program_sight (hr.mono (by first | decide | omega)) (by rfl) D_program_sight.m D_program_sight.kp D_program_sight.b .nil pass0 (pa_cons (pe_slice sl_tupP (pv 0) po_none (po_some (pv 2))) pa_nil)))
  (pss_one (ps_expr (pe_bm PySem.F.plainAttrs_list PySem.F.slot_list_append PySem.F.type_list_append mt_append (pv 1) (pa_cons (pe_tup (pa_cons (pe_call G_alone (hr.mono (by first | decide | omega)) (by rfl) D_alone.m D_alone.kp D_alone.b .nil pass0 (pa_cons (pv 0) (pa_cons (pv 5) pa_nil))) (pa_cons (pe_tup (pa_cons (pv 3) (pa_cons (show PE _ _ (tTupIx K _ _) from pe_tupIx (pv 5) (pv 4) ⟨rfl, rfl, rfl, rfl⟩) pa_nil))) pa_nil))) pa_nil)))))))
  (pss_one (ps_ret (pe_callTy call_tuple_of (by rfl) B.b_tuple (by decide +kernel) (pa_cons (pv 1) pa_nil)))))), ?_⟩
  obtain ⟨pa, ps, rfl, hpa, rps, lps⟩ := play_inv rv
  refine ⟨(by show 0 ≤ sizeLine; decide), fun l nl => ?_⟩
  have s0 := same_new nl (.lst [])
  have rgc := rgc_half ⟨pl.length, by omega⟩
  refine ⟨_, rfl, pa, ps, rfl, .inr (hpa.same s0).sq, 1, _, 2, pl.length / 2, rfl, by rw [lps]; exact rgc, ?_⟩
  refine for_rangeC (lo := 1) (c := 2) (n := pl.length / 2) (fun m σ H' => ∃ (y2 y3 y4 y5 : Option V), σ = [some (.ref pa), some (.ref l), y2, y3, y4, y5] ∧ Same H H' ∧ ∃ acc, H' l = some (.lst acc) ∧ Reps K H' acc (((List.range m).map (toldR pl)).map rowD) ∧ acc.length ≤ m)
    ⟨none, none, none, none, rfl, s0, [], upd_same, .nil, Nat.zero_le _⟩ ?_ ?_
  · rintro m σ H1 hm ⟨y2, y3, y4, y5, rfl, s1, acc, hl1, racc, lacc⟩
    obtain ⟨k, hk⟩ : ∃ k : Nat, k = 1 + m * 2 := ⟨_, rfl⟩
    have ek : (1 : Int) + (m : Nat) * 2 = ((k : Nat) : Int) := by omega
    rw [ek]
    have hkl : k < pl.length := by omega
    have ltk : (pl.take k).length = k := by rw [List.length_take]; omega
    obtain ⟨mv, em⟩ := hL.lp.wb.at (show 0 < k by omega) hkl
    obtain ⟨x, hx, rx⟩ := play_at rps em
    obtain ⟨a2, m2, b2, rfl, ha2, rm2, rb2⟩ := step_inv rx
    obtain ⟨rfl, _⟩ := Rep.inva (w := V.int (bk pl k : Nat)) rb2
    refine ⟨_, rfl, _, rfl, pa, ps, _, _, rfl, rfl, (hpa.same s1).sq, atI_nat hx, a2, _, rfl, (ha2.same s1).sq, rfl, _, _, rfl, _, _, rfl, rfl, ?_⟩
    refine ⟨_, rfl, _, rfl, _, rfl, pa, ps, rfl, hpa.same s1, fun z1 H2 s2 hz1 => ?_⟩
    rw [cutV_to] at hz1
    have s12 := s1.trans s2
    have r1 := play_take (a := pa) rps (kx_same s12) hz1
    refine ⟨.ref z1, pl.take k, rfl, r1, hL.lp.wb.take k, by omega, by omega, fun t H3 s3 nt hf => ?_⟩
    have e1 : (pl.take k).length - 1 = m * 2 := by omega
    rw [e1, sight_take hL.lp.wb (show m * 2 < k by omega) (by omega)] at hf
    have s13 := s12.trans s3
    have hl3 := (s2.trans s3) _ _ hl1
    have up := sight_up hL.lp.wb (m * 2) (by omega)
    have hsl := sight_len hL.lp.wb (m * 2) (by omega)
    have hws := hL.lp.ws k (by omega) hkl
    have e2 : k - 1 = m * 2 := by omega
    rw [e2] at hws
    refine ⟨_, rfl, .inl ⟨rfl, _, SqL.of hl3⟩, _, rfl, _, rfl, .ref pa, t, pl, sight pl (m * 2), rfl, rv.mono (kx_same s13), fun H' e => (hf.same e).sq, hL.lp.wb, sight_cl hL.lp.wb hL.lp.ws _ (by omega), up.1, by omega, fun y H4 s4 ry => ?_⟩
    have hf4 := hf.same s4
    refine ⟨_, rfl, _, rfl, t, _, rfl, hf4, _, rfl, ((bk pl k : Nat) : Int), rfl, hf4, List.mem_map.mpr ⟨_, hws, rfl⟩, (by show 2 ≤ sizeLine; decide), fun t5 n5 => ⟨(by show 2 ≤ sizeLine; decide), fun t6 n6 => ?_⟩⟩
    rw [idx_int] at n6 ⊢
    have u5 := same_new n5 (.tup [m2, .int ((sight pl (m * 2)).idxOf (bk pl k) : Nat)])
    have u6 := same_new n6 (.tup [y, .ref t5])
    have s46 := s4.trans (u5.trans u6)
    have s16 := s13.trans s46
    have hl6 := s46 _ _ hl3
    have kl := kx_list hl6 (acc ++ [.ref t6])
    refine ⟨l, acc, _, rfl, rfl, hl6, small6 (by omega), _, _, _, _, rfl, fun o x e => ?_, acc ++ [.ref t6], upd_same, ?_, by rw [List.length_append, List.length_singleton]; omega⟩
    · rw [upd_ne (ne_of_none e nl)]
      exact s46 _ _ ((s2.trans s3) _ _ (s1 _ _ e))
    · rw [List.range_succ, List.map_append, List.map_append]
      refine (racc.mono (kx_same ((s2.trans s3).trans s46))).mono kl |>.append (.one ?_)
      have er : toldR pl m = (apart pl (sight pl (m * 2)), ⟨mv, some ((sight pl (m * 2)).idxOf (bk pl k))⟩) := by
        unfold toldR mvAt
        rw [← hk, em]
        rfl
      rw [er]
      refine Rep.mono kl (row_rep upd_same (ry.mono (kx_same (u5.trans u6))) (.tup' (u6 _ _ upd_same) (.cons (rm2.mono (kx_same s16)) (.one (.at rfl)))))
  · rintro σ H1 ⟨y2, y3, y4, y5, rfl, s1, acc, hl1, racc, lacc⟩
    refine ⟨_, rfl, l, acc, rfl, .inl ⟨SqL.of hl1, fun t nt => ?_⟩⟩
    have u := same_new nt (.tup acc)
    exact q _ _ (s1.trans u) (.tup' upd_same (racc.mono (kx_same u)))

end
end Pk

set_option maxRecDepth 100000
set_option maxHeartbeats 4000000
set_option pp.maxSteps 600
namespace Pk
open PySem PySem.Spec PyProof.Rows L2
section
variable {P : Program} {w : World} {K : PySem.W.Frag} {mg : Str → Option Value} {base : Heap}
/-! ### _law_pairs -/
def RwLs (K : PySem.W.Frag) (H : Hp) (l : Addr) (rs : List Row) : Prop := ∃ xs, H l = some (.lst xs) ∧ Reps K H xs (rs.map rowD)
def spLPr (K : PySem.W.Frag) : Sp := fun vs H Q _ => ∃ (v : V) (kd : D) (pl : List Stp), vs = [v] ∧ Rep K H v (playD pl) ∧ LW kd pl ∧ pl.length ≤ 39 ∧ ∀ (l : Addr) (H' : Hp), Same H H' → H l = none → RwLs K H' l (told pl) → Q (.ref l) H'
/-! ### a dict from sights to pairs of numbers -/
abbrev FRow := List Stp × (Nat × Nat)
def fsD (p : Nat × Nat) : D := .tup [numD' p.1, numD' p.2]
abbrev EntF (K : PySem.W.Frag) (H : Hp) : Ent → FRow → Prop := fun x r => x.1 = kyP r.1 ∧ Rep K H (.ref x.2.1) (playD r.1) ∧ Rep K H x.2.2 (fsD r.2)
theorem entF_mono {K : PySem.W.Frag} {H H' : Hp} (k : Kx H H') : ∀ {xs : List Ent} {rows : List FRow}, Paired (EntF K H) xs rows → Paired (EntF K H') xs rows
  | _, _, .nil => .nil
  | _, _, .cons ⟨h1, h2, h3⟩ t => .cons ⟨h1, h2.mono k, h3.mono k⟩ (entF_mono k t)
theorem entF_keys {K : PySem.W.Frag} {H : Hp} : ∀ {xs : List Ent} {rows : List FRow}, Paired (EntF K H) xs rows → ∀ e ∈ xs, KeyAt K H e.1 e.2.1
  | _, _, .nil, e, m => by cases m
  | _, _, .cons ⟨h1, h2, h3⟩ t, e, m => by
    rcases List.mem_cons.mp m with rfl | m
    · rw [h1]
      exact keyP h2
    · exact entF_keys t e m
theorem entF_app {K : PySem.W.Frag} {H : Hp} : ∀ {xs ys : List Ent} {rows rows' : List FRow}, Paired (EntF K H) xs rows → Paired (EntF K H) ys rows' → Paired (EntF K H) (xs ++ ys) (rows ++ rows')
  | _, _, _, _, .nil, q => q
  | _, _, _, _, .cons h t, q => .cons h (entF_app t q)
def lkF (rows : List FRow) (s : List Stp) : Option (Nat × Nat) := (rows.find? fun r => decide (r.1 = s)).map Prod.snd
theorem lkF_cons (r : FRow) (rows : List FRow) (s : List Stp) : lkF (r :: rows) s = if r.1 = s then some r.2 else lkF rows s := by
  unfold lkF
  rw [List.find?_cons]
  by_cases h : r.1 = s
  · rw [if_pos h, decide_eq_true h]
    rfl
  · rw [if_neg h, decide_eq_false h]
theorem entF_at {K : PySem.W.Frag} {H : Hp} : ∀ {xs : List Ent} {rows : List FRow}, Paired (EntF K H) xs rows → ∀ s, (lkF rows s = none ∧ atV xs (kyP s) = none) ∨ ∃ x v, lkF rows s = some x ∧ atV xs (kyP s) = some v ∧ Rep K H v (fsD x)
  | _, _, .nil, s => .inl ⟨rfl, rfl⟩
  | x :: xs, r :: rows, .cons ⟨h1, h2, h3⟩ t, s => by
    rw [lkF_cons, atV_cons]
    by_cases e : r.1 = s
    · rw [if_pos e, if_pos (by rw [h1, e])]
      exact .inr ⟨_, _, rfl, rfl, h3⟩
    · rw [if_neg e, if_neg (fun z => e (kyP_inj (h1.symm.trans z)))]
      exact entF_at t s
def DF (P : Program) (w : World) (K : PySem.W.Frag) (H : Hp) (a : Addr) (rows : List FRow) : Prop := ∃ xs, H a = some (DkO P w a xs) ∧ Paired (EntF K H) xs rows
theorem DF.same {H H' : Hp} {a : Addr} {rows : List FRow} (d : DF P w K H a rows) (s : Same H H') : DF P w K H' a rows := let ⟨xs, h, p⟩ := d; ⟨xs, s _ _ h, entF_mono (kx_same s) p⟩
theorem DF.put {H : Hp} {a b : Addr} {rows : List FRow} {xs : List Ent} {s : List Stp} {x : Nat × Nat} {v : V} (h : H a = some (DkO P w a xs)) (p : Paired (EntF K H) xs rows) (hn : lkF rows s = none) (rs : Rep K H (.ref b) (playD s)) (rv : Rep K H v (fsD x)) :
    DF P w K (upd H a (DkO P w a (putV xs (kyP s) b v))) a (rows ++ [(s, x)]) := by
  have hno : atV xs (kyP s) = none := by
    rcases entF_at p s with ⟨_, h1⟩ | ⟨y, v, h1, h2, h3⟩
    · exact h1
    · rw [hn] at h1
      cases h1
  rw [putV_new hno]
  have k : Kx H (upd H a (DkO P w a (xs ++ [(kyP s, b, v)]))) := sb_kxE h (sb_upd _)
  exact ⟨_, upd_same, entF_app (entF_mono k p) (.cons ⟨rfl, rs.mono k, rv.mono k⟩ .nil)⟩
/-- the other dict stays -/
theorem DF.other {H H' : Hp} {a b : Addr} {rows : List FRow} {xs : List Ent} (d : DF P w K H a rows) (h : H b = some (DkO P w b xs)) (n : a ≠ b) (s : SB b H H') : DF P w K H' a rows := let ⟨ys, h1, p⟩ := d; ⟨ys, s _ _ n h1, entF_mono (sb_kxE h s) p⟩
theorem DR.other {H H' : Hp} {a b : Addr} {rows : List Row} {xs : List Ent} (d : DR P w K H a rows) (h : H b = some (DkO P w b xs)) (n : a ≠ b) (s : SB b H H') : DR P w K H' a rows := let ⟨ys, h1, p⟩ := d; ⟨ys, s _ _ n h1, entR_mono (sb_kxE h s) p⟩
end
/-! ### what plays tell -/
structure LS where
  rows : List Row
  fst : List FRow
  due : Option ((Nat × Nat) × (Nat × Nat))
def lst (st : LS) (e : Row) (jn : Nat × Nat) : LS := match lkR st.rows e.1 with
  | none => ⟨st.rows ++ [e], st.fst ++ [(e.1, jn)], st.due⟩
  | some x => if x = e.2 then st else ⟨st.rows, st.fst, st.due.or (some ((lkF st.fst e.1).getD (0, 0), jn))⟩
def stP (j : Nat) (pl : List Stp) (st : LS) : Nat → LS
  | 0 => st
  | i + 1 => lst (stP j pl st i) (toldR pl i) (j, 2 * i + 1)
def stA (pls : List (List Stp)) : Nat → LS
  | 0 => ⟨[], [], none⟩
  | j + 1 => match pls[j]? with
    | some pl => stP j pl (stA pls j) (pl.length / 2)
    | none => stA pls j
theorem stA_succ {pls : List (List Stp)} {j : Nat} {pl : List Stp} (h : pls[j]? = some pl) : stA pls (j + 1) = stP j pl (stA pls j) (pl.length / 2) := by
  show (match pls[j]? with
    | some pl => stP j pl (stA pls j) (pl.length / 2)
    | none => stA pls j) = _
  rw [h]
theorem lst_due {st : LS} {e : Row} {jn : Nat × Nat} {d : (Nat × Nat) × (Nat × Nat)} (h : st.due = some d) : (lst st e jn).due = some d := by
  unfold lst
  split
  · exact h
  · split
    · exact h
    · show st.due.or _ = some d
      rw [h]
      rfl
theorem stP_due {j : Nat} {pl : List Stp} {st : LS} {d : (Nat × Nat) × (Nat × Nat)} {i : Nat} (h : (stP j pl st i).due = some d) : ∀ m, i ≤ m → (stP j pl st m).due = some d
  | 0, hm => by
    have : i = 0 := by omega
    rw [← this]
    exact h
  | m + 1, hm => by
    by_cases e : i = m + 1
    · rw [← e]
      exact h
    · exact lst_due (stP_due h m (by omega))
theorem stP_start {j : Nat} {pl : List Stp} {st : LS} {d : (Nat × Nat) × (Nat × Nat)} (h : st.due = some d) (m : Nat) : (stP j pl st m).due = some d := stP_due (i := 0) h m (Nat.zero_le _)
theorem stA_due {pls : List (List Stp)} {d : (Nat × Nat) × (Nat × Nat)} {j : Nat} (h : (stA pls j).due = some d) : ∀ m, j ≤ m → (stA pls m).due = some d
  | 0, hm => by
    have : j = 0 := by omega
    rw [← this]
    exact h
  | m + 1, hm => by
    by_cases e : j = m + 1
    · rw [← e]
      exact h
    · have ih := stA_due h m (by omega)
      cases hp : pls[m]? with
      | some pl =>
        rw [stA_succ hp]
        exact stP_start ih _
      | none =>
        show (match pls[m]? with
          | some pl => stP m pl (stA pls m) (pl.length / 2)
          | none => stA pls m).due = some d
        rw [hp]
        exact ih
theorem lkF_append (rows rows' : List FRow) (s : List Stp) : lkF (rows ++ rows') s = (lkF rows s).or (lkF rows' s) := by
  induction rows with
  | nil => rfl
  | cons r t ih =>
    rw [List.cons_append, lkF_cons, lkF_cons]
    split
    · rfl
    · exact ih
structure LI (st : LS) (c : Nat) : Prop where
  nd : (keysR st.rows).Nodup
  ok : ∀ r ∈ st.rows, OkR r
  ky : ∀ s, lkF st.fst s = none ↔ lkR st.rows s = none
  len : st.rows.length ≤ c
  lenF : st.fst.length ≤ c
theorem LI.zero : LI ⟨[], [], none⟩ 0 := ⟨List.nodup_nil, fun r h => (by cases h), fun s => ⟨fun _ => rfl, fun _ => rfl⟩, Nat.le_refl _, Nat.le_refl _⟩
theorem LI.step {st : LS} {c : Nat} (h : LI st c) {e : Row} (he : OkR e) (jn : Nat × Nat) : LI (lst st e jn) (c + 1) := by
  unfold lst
  cases hl : lkR st.rows e.1 with
  | none =>
    have hno : e.1 ∉ keysR st.rows := fun m => by
      obtain ⟨r, hr, er⟩ := mem_keys m
      have := lkR_some h.nd hr
      rw [er, hl] at this
      cases this
    refine ⟨?_, fun r hr => ?_, fun s => ?_, ?_, ?_⟩
    · show (keysR (st.rows ++ [e])).Nodup
      unfold keysR
      rw [List.map_append]
      exact List.nodup_append.mpr ⟨h.nd, by simp, fun a ha b hb e2 => hno (by
        rw [List.mem_singleton.mp hb] at e2
        rw [e2] at ha
        exact ha)⟩
    · rcases List.mem_append.mp hr with hr | hr
      · exact h.ok r hr
      · rw [List.mem_singleton.mp hr]
        exact he
    · show lkF (st.fst ++ [(e.1, jn)]) s = none ↔ lkR (st.rows ++ [e]) s = none
      rw [lkF_append, lkR_append, lkF_cons, lkR_cons]
      have k := h.ky s
      cases h1 : lkF st.fst s with
      | none =>
        rw [k.mp h1]
        show (if e.1 = s then some jn else lkF [] s) = none ↔ (if e.1 = s then some e.2 else lkR [] s) = none
        split
        · exact ⟨fun z => (nomatch z), fun z => (nomatch z)⟩
        · exact ⟨fun _ => rfl, fun _ => rfl⟩
      | some x =>
        cases h2 : lkR st.rows s with
        | none =>
          rw [k.mpr h2] at h1
          cases h1
        | some y => exact ⟨fun z => (nomatch z), fun z => (nomatch z)⟩
    · have := h.len
      show (st.rows ++ [e]).length ≤ c + 1
      rw [List.length_append]
      show _ + 1 ≤ _
      omega
    · have := h.lenF
      show (st.fst ++ [(e.1, jn)]).length ≤ c + 1
      rw [List.length_append]
      show _ + 1 ≤ _
      omega
  | some x =>
    show LI (if x = e.2 then st else _) (c + 1)
    split
    · exact ⟨h.nd, h.ok, h.ky, Nat.le_succ_of_le h.len, Nat.le_succ_of_le h.lenF⟩
    · exact ⟨h.nd, h.ok, h.ky, Nat.le_succ_of_le h.len, Nat.le_succ_of_le h.lenF⟩
theorem told_ok {kd : D} {pl : List Stp} (h : LW kd pl) {i : Nat} (hi : i < pl.length / 2) : OkR (toldR pl i) := by
  refine ⟨sight_oks h (by omega) (sight_head h.lp.wb (i * 2 + 1) (i * 2) (by omega) (by omega)), fun z => nomatch z⟩
theorem LI.play {st : LS} {c : Nat} (h : LI st c) {kd : D} {pl : List Stp} (hL : LW kd pl) (j : Nat) : ∀ i, i ≤ pl.length / 2 → LI (stP j pl st i) (c + i)
  | 0, _ => h
  | i + 1, hi => (LI.play h hL j i (by omega)).step (told_ok hL (by omega)) _
theorem LI.all {kd : D} {pls : List (List Stp)} (hA : ∀ pl ∈ pls, LW kd pl ∧ pl.length ≤ 39) : ∀ j, j ≤ pls.length → LI (stA pls j) (20 * j)
  | 0, _ => LI.zero
  | j + 1, hj => by
    have hp : pls[j]? = some pls[j] := List.getElem?_eq_getElem (by omega)
    obtain ⟨h1, h2⟩ := hA _ (List.mem_of_getElem? hp)
    rw [stA_succ hp]
    have h3 := (LI.all hA j (by omega)).play h1 j (pls[j].length / 2) (Nat.le_refl _)
    exact ⟨h3.nd, h3.ok, h3.ky, Nat.le_trans h3.len (by omega), Nat.le_trans h3.lenF (by omega)⟩
def disD (d : (Nat × Nat) × (Nat × Nat)) : D := .tup [.at (.str "disagree"), fsD d.1, fsD d.2]
def finD (kd : D) (st : LS) : D := match st.due with
  | some d => disD d
  | none => .tup [.at (.str "program"), stratD kd (sortR st.rows)]
theorem dp_st {K : PySem.W.Frag} {H : Hp} {v : V} {s : Stp} (r : Rep K H v (stD s)) : Dp K H v (toPy (stD s)) := dp_noL r (noLd_st s)
end Pk

set_option maxRecDepth 100000
set_option maxHeartbeats 4000000
set_option pp.maxSteps 600
namespace Pk
open PySem PySem.Spec PyProof.Rows L2
/-! ### learned -/
section
variable {P : Program} {w : World} {K : PySem.W.Frag} {mg : Str → Option Value} {base : Heap}
def spLe (K : PySem.W.Frag) : Sp := fun vs H Q _ => ∃ (kv v : V) (kd kd' : D) (pls : List (List Stp)), vs = [kv, v] ∧ Rep K H kv kd ∧ Rep K H v (.tup (pls.map playD)) ∧ (∀ pl ∈ pls, LW kd' pl ∧ pl.length ≤ 39) ∧ pls.length ≤ 100 ∧
  ∀ z H', Same H H' → Rep K H' z (finD kd (stA pls pls.length)) → Q z H'
theorem ok_learned {f f0 f1 f2 f3 : Addr} {fd d0 d1 d2 d3 : FuncData} (D_learned : Df K mg "learned" s_learned ["kind", "plays"] f fd) (D_pairs : Df K mg "pairs" s_pairs ["play"] f0 d0) (D_alone : Df K mg "alone" s_alone ["play", "numbers"] f1 d1) (D_program_sight : Df K mg "program_sight" s_program_sight ["play"] f2 d2) (D__sight_behind : Df K mg "_sight_behind" s__sight_behind ["play"] f3 d3) (B : Bt mg) :
    FnOk P w K mg base CX0 4 f fd ["kind", "plays"] (spLe K) := by
  have G_pairs : FnOk P w K mg base CX0 3 f0 d0 ["play"] (spPairs K) := ok_pairs D_pairs D_alone D_program_sight D__sight_behind B
  refine D_learned.ok c_learned (fun vs H Q E h => ?_) (fun cdv A outer s0 H vs Q E hr h => ?_)
  · obtain ⟨kv, v, kd, kd', pls, rfl, _⟩ := h
    rfl
  obtain ⟨kv, v, kd, kd', pls, rfl, rk, rv, hA, hN, q⟩ := h
  have nd := c_learned.nd
  refine ⟨_, (pss_cons (ps_set (i := 2) nd rfl (Or.inl rfl) (show PE _ _ (tDkNew P w) from pe_dkNew))
  (pss_cons (ps_set (i := 3) nd rfl (Or.inl rfl) (show PE _ _ (tDkNew P w) from pe_dkNew))
  (pss_cons (ps_for PassesOwn.never rfl (pi_enumT (by rfl) B.b_enumerate (pa_cons (pv 1) pa_nil)) (pg_tup rfl (pgs_cons (pg_name (i := 4) nd rfl (Or.inl rfl)) (pgs_cons (pg_name (i := 5) nd rfl (Or.inl rfl)) pgs_nil))) (pss_one (ps_for PassesOwn.never rfl (pi_enumT (by rfl) B.b_enumerate (pa_cons (pe_call G_pairs (hr.mono (by first | decide | omega)) (by rfl) D_pairs.m D_pairs.kp D_pairs.b .nil pass0 (pa_cons (pv 5) pa_nil)) pa_nil)) (pg_tup rfl (pgs_cons (pg_name (i := 6) nd rfl (Or.inl rfl)) (pgs_cons (pg_tup rfl (pgs_cons (pg_name (i := 7) nd rfl (Or.inl rfl)) (pgs_cons (pg_name (i := 8) nd rfl (Or.inl rfl)) pgs_nil))) pgs_nil))) (pss_cons (ps_set (i := 9) nd rfl (Or.inl rfl) (pe_op op_add (pe_op op_mul pe_int (pv 6)) pe_int))
  (pss_one (ps_if (pt_cmp (show PC _ _ _ _ (tDkIn P w K true _ _) from pc_dkNotIn hr.units (pv 7) (pv 2))) (pss_cons (show PS _ _ (tDkPut P w K _ _ _) from ps_dkPut hr.units (pv 2) (pv 7) (pv 8) rfl)
  (pss_one (show PS _ _ (tDkPut P w K _ _ _) from ps_dkPut hr.units (pv 3) (pv 7) (pe_tup (pa_cons (pv 4) (pa_cons (pv 9) pa_nil))) rfl))) (pss_one (ps_if (pt_cmpR (op_neD hr.units) (show PE _ _ (tDkGet P w K _ _) from pe_dkGet hr.units (pv 2) (pv 7) (fun _ _ => rfl)) (pv 8) (nomark _)) (pss_one (ps_ret (pe_tup (pa_cons pe_str (pa_cons (show PE _ _ (tDkGet P w K _ _) from pe_dkGet hr.units (pv 3) (pv 7) (fun _ _ => rfl)) (pa_cons (pe_tup (pa_cons (pv 4) (pa_cons (pv 9) pa_nil))) pa_nil)))))) pss_nil))))))))
  (pss_one (ps_ret (pe_tup (pa_cons pe_str (pa_cons (pe_tup (pa_cons pe_str (pa_cons (pv 0) (pa_cons (pe_callTy call_tuple_of (by rfl) B.b_tuple (by decide +kernel) (pa_cons (pe_callB (cr_sortIt rfl hr.units encR) (by rfl) B.b_sorted (by decide +kernel) (pa_cons (show PE _ _ (tDkItems P w K _) from pe_dkItems (pv 2)) pa_nil)) pa_nil)) pa_nil)))) pa_nil)))))))), ?_⟩
  obtain ⟨va, vx, rfl, hva, rvx⟩ := rv.inv
  have lvx := rvx.length
  rw [List.length_map] at lvx
  refine fun sa nsa => ?_
  have u1 := same_new nsa (DkO P w sa [])
  refine fun fa nfa => ?_
  have u2 := same_new nfa (DkO P w fa [])
  have u12 := u1.trans u2
  have nsf : sa ≠ fa := fun e => by
    rw [← e, upd_same] at nfa
    cases nfa
  have nfH : H fa = none := new_none u1 nfa
  have LIj : ∀ j, j ≤ pls.length → LI (stA pls j) (20 * j) := fun j hj => LI.all hA j hj
  refine ⟨_, rfl, va, _, rfl, (hva.same u12).sq, for_it walk_enumT (fun j σ H' => Same H H' ∧ (stA pls j).due = none ∧ DR P w K H' sa (stA pls j).rows ∧ DF P w K H' fa (stA pls j).fst ∧ ∃ (y4 y5 y6 y7 y8 y9 : Option V), σ = [some kv, some (.ref va), some (.ref sa), some (.ref fa), y4, y5, y6, y7, y8, y9])
    ⟨u12, rfl, ⟨[], u2 _ _ upd_same, .nil⟩, ⟨[], upd_same, .nil⟩, none, none, none, none, none, none, rfl⟩ (fun j σ H' _ h => (hva.same h.1).sq) ?_ ?_⟩
  · rintro j x σ H1 H1' hj ⟨s1, hdue, hD, hF, y4, y5, y6, y7, y8, y9, rfl⟩ ⟨T, x1, y1, rfl, nT, rfl, hx1, hy1⟩
    have hx2 : V.int (j : Nat) = x1 := Option.some.inj hx1
    subst hx2
    have hy2 : vx[j]? = some y1 := hy1
    have hjl : j < pls.length := by omega
    have hp : pls[j]? = some pls[j] := List.getElem?_eq_getElem hjl
    generalize hpe : pls[j] = pl at hp
    obtain ⟨hL, hlen⟩ := hA pl (List.mem_of_getElem? hp)
    have ry : Rep K H y1 (playD pl) := by
      obtain ⟨dd, hdd, rdd⟩ := rvx.get hy2
      rw [List.getElem?_map, hp] at hdd
      cases hdd
      exact rdd
    have sT := same_new nT (.tup [.int (j : Nat), y1])
    refine ⟨T, _, rfl, SqT.of upd_same, rfl, _, _, rfl, _, _, rfl, rfl, ?_⟩
    have s1T := s1.trans sT
    have hD1 := hD.same sT
    have hF1 := hF.same sT
    refine ⟨_, rfl, y1, kd', pl, rfl, ry.mono (kx_same s1T), hL, hlen, fun z H2 s2 rz => ?_⟩
    obtain ⟨za, zx, rfl, hza, rzx⟩ := rz.inv
    have lzx := rzx.length
    rw [List.length_map] at lzx
    have ltl : (told pl).length = pl.length / 2 := by unfold told; rw [List.length_map, List.length_range]
    have s12 := s1T.trans s2
    have hst := stA_succ hp
    refine ⟨za, zx, rfl, hza.sq, for_it walk_enumT (fun i σ H' => (Same H H' ∧ Kx H2 H') ∧ (stP j pl (stA pls j) i).due = none ∧ DR P w K H' sa (stP j pl (stA pls j) i).rows ∧ DF P w K H' fa (stP j pl (stA pls j) i).fst ∧ ∃ (y6 y7 y8 y9 : Option V), σ = [some kv, some (.ref va), some (.ref sa), some (.ref fa), some (.int (j : Nat)), some y1, y6, y7, y8, y9])
      ⟨⟨s12, Kx.refl _⟩, hdue, hD1.same s2, hF1.same s2, _, _, _, _, rfl⟩ (fun i σ H' _ h => (hza.kx h.1.2).sq) ?_ ?_⟩
    · rintro i x σ H3 H3' hi ⟨⟨s3, k3⟩, hdue3, hD3, hF3, y6, y7, y8, y9, rfl⟩ ⟨T3, x3, y3, rfl, nT3, rfl, hx3, hy3⟩
      have hx4 : V.int (i : Nat) = x3 := Option.some.inj hx3
      subst hx4
      have hy4 : zx[i]? = some y3 := hy3
      have hil : i < pl.length / 2 := by omega
      have rrow : Rep K H3 y3 (rowD (toldR pl i)) := by
        obtain ⟨dd, hdd, rdd⟩ := rzx.get hy4
        have et : (told pl)[i]? = some (toldR pl i) := by
          unfold told
          rw [List.getElem?_map, List.getElem?_range hil]
          rfl
        rw [List.getElem?_map, et] at hdd
        cases hdd
        exact rdd.mono k3
      have sT3 := same_new nT3 (.tup [.int (i : Nat), y3])
      have ok := told_ok hL hil
      have hLI := (LIj j (by omega)).play hL j i (by omega)
      have step_eq : stP j pl (stA pls j) (i + 1) = lst (stP j pl (stA pls j) i) (toldR pl i) (j, 2 * i + 1) := rfl
      rw [step_eq]
      have hgs0 : stP j pl (stA pls j) (i + 1) = lst (stP j pl (stA pls j) i) (toldR pl i) (j, 2 * i + 1) := rfl
      obtain ⟨st, hst0⟩ : ∃ st, st = stP j pl (stA pls j) i := ⟨_, rfl⟩
      rw [← hst0] at hD3 hF3 hdue3 hLI ⊢
      have hgs : stP j pl (stA pls j) (i + 1) = lst st (toldR pl i) (j, 2 * i + 1) := by rw [hst0]; rfl
      obtain ⟨ra, rsv, rst, rfl, hra, rs, rt⟩ := row_inv rrow
      obtain ⟨sb, sxs, rfl, hsb, _, _⟩ := play_inv rs
      refine ⟨T3, _, rfl, SqT.of upd_same, rfl, _, _, rfl, _, _, rfl, ra, _, rfl, (hra.same sT3).sq, rfl, _, _, rfl, _, _, rfl, rfl, rfl, ?_⟩
      have s3T := s3.trans sT3
      have hD4 := hD3.same sT3
      have hF4 := hF3.same sT3
      have k3T := k3.trans (kx_same sT3)
      have rs4 := rs.mono (kx_same sT3)
      have rt4 := rt.mono (kx_same sT3)
      generalize upd H3 T3 (.tup [.int (i : Nat), .ref ra]) = H4 at *
      have e2 : (2 : Int) * (i : Nat) + 1 = ((2 * i + 1 : Nat) : Int) := by omega
      refine ⟨_, rfl, _, _, rfl, rfl, .inl ⟨by decide, by decide⟩, _, _, rfl, rfl, ?_⟩
      obtain ⟨xs, hx, px⟩ := hD4
      obtain ⟨fxs, hfx, pfx⟩ := hF4
      have lxs : xs.length = st.rows.length := DR.len px
      have lfs : fxs.length = st.fst.length := Paired.length pfx
      have hl1 := hLI.len
      have hl2 := hLI.lenF
      refine ⟨_, rfl, _, rfl, sa, sb, xs, kyP (toldR pl i).1, rfl, rfl, ⟨.inl hx, entR_keys px⟩, keyP rs4, ?_⟩
      rcases entR_at px (toldR pl i).1 with ⟨g1, g2⟩ | ⟨x, vx', g1, g2, g3⟩
      · have el : lst st (toldR pl i) (j, 2 * i + 1) = ⟨st.rows ++ [toldR pl i], st.fst ++ [((toldR pl i).1, (j, 2 * i + 1))], st.due⟩ := by
          unfold lst
          rw [g1]
        rw [el, g2]
        refine ⟨_, rfl, iteT ⟨_, rfl, _, rfl, _, rfl, sa, sb, xs, kyP (toldR pl i).1, rfl, rfl, hx, entR_keys px, keyP rs4, by omega, ?_⟩⟩
        have hD5 := DR.put (x := (toldR pl i).2) hx px g1 rs4 rt4
        have sb5 : SB sa H4 (upd H4 sa (DkO P w sa (putV xs (kyP (toldR pl i).1) sb rst))) := sb_upd _
        have k5 := sb_kxE hx sb5
        have hfx5 : (upd H4 sa (DkO P w sa (putV xs (kyP (toldR pl i).1) sb rst))) fa = some (DkO P w fa fxs) := by
          rw [upd_ne nsf.symm]
          exact hfx
        have pf5 := entF_mono k5 pfx
        have rs5 := rs4.mono k5
        have s5 : Same H (upd H4 sa (DkO P w sa (putV xs (kyP (toldR pl i).1) sb rst))) := fun o u e => by
          rw [upd_ne (ne_of_none e nsa)]
          exact s3T _ _ e
        generalize upd H4 sa (DkO P w sa (putV xs (kyP (toldR pl i).1) sb rst)) = H5 at *
        refine ⟨_, rfl, _, rfl, (by show 2 ≤ sizeLine; decide), fun t nt => ⟨_, rfl, _, rfl, fa, sb, fxs, kyP (toldR pl i).1, rfl, rfl, ?_⟩⟩
        have v6 := same_new nt (.tup [.int (j : Nat), .int (2 * (i : Nat) + 1)])
        have pf6 := entF_mono (kx_same v6) pf5
        have rs6 := rs5.mono (kx_same v6)
        refine ⟨v6 _ _ hfx5, entF_keys pf6, keyP rs6, by omega, ?_⟩
        have rt6 : Rep K _ (.ref t) (fsD (j, 2 * i + 1)) := .tup' (H := upd H5 t (.tup [.int (j : Nat), .int (2 * (i : Nat) + 1)])) upd_same (.cons (.at rfl) (.one (by show Rep K _ (V.int (2 * ((i : Nat) : Int) + 1)) _; rw [e2]; exact .at rfl)))
        have hF7 := DF.put (x := (j, 2 * i + 1)) (v6 _ _ hfx5) pf6 ((hLI.ky _).mpr g1) rs6 rt6
        have sb7 : SB fa (upd H5 t (.tup [.int (j : Nat), .int (2 * (i : Nat) + 1)])) (upd (upd H5 t (.tup [.int (j : Nat), .int (2 * (i : Nat) + 1)])) fa (DkO P w fa (putV fxs (kyP (toldR pl i).1) sb (.ref t)))) := sb_upd _
        have hD7 := (hD5.same v6).other (v6 _ _ hfx5) nsf sb7
        refine ⟨⟨fun o u e => ?_, ?_⟩, hdue3, hD7, hF7, _, _, _, _, rfl⟩
        · rw [upd_ne (ne_of_none e nfH)]
          exact v6 _ _ (s5 _ _ e)
        · exact ((k3T.trans k5).trans (kx_same v6)).trans (sb_kxE (v6 _ _ hfx5) sb7)
      · have hmem := lkR_mem g1
        have hxb : x.back ≠ none := (hLI.ok _ hmem).2
        rw [g2]
        refine ⟨_, rfl, iteF ⟨_, rfl, _, rfl, sa, sb, xs, kyP (toldR pl i).1, vx', rfl, rfl, ⟨.inl hx, entR_keys px⟩, keyP rs4, g2, _, rfl, _, _, dp_st g3, dp_st rt4, shaped_st _, shaped_st _, _, rfl, ?_⟩⟩
        rw [eqv_st2 hxb ok.2]
        by_cases hxe : x = (toldR pl i).2
        · have el : lst st (toldR pl i) (j, 2 * i + 1) = st := by
            unfold lst
            rw [g1]
            exact if_pos hxe
          rw [el, decide_eq_true hxe]
          exact iteF ⟨⟨s3T, k3T⟩, hdue3, ⟨xs, hx, px⟩, ⟨fxs, hfx, pfx⟩, _, _, _, _, rfl⟩
        · rw [decide_eq_false hxe]
          rcases entF_at pfx (toldR pl i).1 with ⟨f1', f2'⟩ | ⟨fx, fv, f1', f2', f3'⟩
          · rw [(hLI.ky _).mp f1'] at g1
            cases g1
          refine iteT ⟨_, rfl, _, rfl, fa, sb, fxs, kyP (toldR pl i).1, fv, rfl, rfl, ⟨.inl hfx, entF_keys pfx⟩, keyP rs4, f2', _, rfl, _, rfl, (by show 2 ≤ sizeLine; decide), fun t1 n1 => ⟨(by show 3 ≤ sizeLine; decide), fun t2 n2 => ?_⟩⟩
          have v1 := same_new n1 (.tup [.int (j : Nat), .int (2 * (i : Nat) + 1)])
          have v2 := same_new n2 (.tup [.str "disagree", fv, .ref t1])
          have el : (lst st (toldR pl i) (j, 2 * i + 1)).due = some (fx, (j, 2 * i + 1)) := by
            unfold lst
            rw [g1]
            show (if x = (toldR pl i).2 then st else _).due = _
            rw [if_neg hxe]
            show st.due.or _ = _
            rw [hdue3, f1']
            rfl
          have efin : finD kd (stA pls pls.length) = disD (fx, (j, 2 * i + 1)) := by
            have h1 : (stP j pl (stA pls j) (i + 1)).due = some (fx, (j, 2 * i + 1)) := by rw [hgs]; exact el
            have h2 := stP_due h1 (pl.length / 2) (by omega)
            rw [← hst] at h2
            have h3 := stA_due h2 pls.length (by omega)
            unfold finD
            rw [h3]
          refine q _ _ (s3T.trans (v1.trans v2)) ?_
          rw [efin]
          exact .tup' upd_same (.cons (.at rfl) (.cons (f3'.mono (kx_same (v1.trans v2))) (.one (.tup' (v2 _ _ upd_same) (.cons (.at rfl) (.one (by show Rep K _ (V.int (2 * ((i : Nat) : Int) + 1)) _; rw [e2]; exact .at rfl)))))))
    · rintro σ H3 ⟨⟨s3, k3⟩, hdue3, hD3, hF3, y6, y7, y8, y9, rfl⟩
      have ez : zx.length = pl.length / 2 := by omega
      rw [ez, ← hst] at hdue3 hD3 hF3
      exact ⟨s3, hdue3, hD3, hF3, _, _, _, _, _, _, rfl⟩
  · rintro σ H1 ⟨s1, hdue, hD, hF, y4, y5, y6, y7, y8, y9, rfl⟩
    rw [lvx] at hdue hD hF
    have hLI := LIj pls.length (Nat.le_refl _)
    obtain ⟨xs, hx, px⟩ := hD
    have lxs : xs.length = (stA pls pls.length).rows.length := DR.len px
    have hl1 := hLI.len
    refine ⟨_, rfl, _, rfl, sa, xs, rfl, ⟨.inl hx, entR_keys px⟩, fun p np => ?_⟩
    have v1 := same_new np (L2.DX.itemsO p sa)
    have px1 := entR_mono (kx_same v1) px
    refine ⟨p, sa, xs, (stA pls pls.length).rows, rfl, upd_same, ⟨.inl (v1 _ _ hx), entR_keys px1⟩, by omega, lxs, fun i e b he hb => ?_, hLI.ok, fun H2 ys l s2 rys nl => ?_⟩
    · obtain ⟨b', hb', e1, e2, e3⟩ := paired_get px1 he
      rw [hb] at hb'
      cases hb'
      exact ⟨_, _, rfl, e2, e3⟩
    have v2 := same_new nl (.lst ys)
    refine ⟨l, ys, rfl, .inl ⟨SqL.of upd_same, fun t nt => ⟨(by show 3 ≤ sizeLine; decide), fun t2 n2 => ⟨(by show 2 ≤ sizeLine; decide), fun t3 n3 => ?_⟩⟩⟩⟩
    have v3 := same_new nt (.tup ys)
    have v4 := same_new n2 (.tup [.str "strategy", kv, .ref t])
    have v5 := same_new n3 (.tup [.str "program", .ref t2])
    have sAll := s1.trans (v1.trans (s2.trans (v2.trans (v3.trans (v4.trans v5)))))
    have efin : finD kd (stA pls pls.length) = .tup [.at (.str "program"), stratD kd (sortR (stA pls pls.length).rows)] := by
      unfold finD
      rw [hdue]
    refine q _ _ sAll ?_
    rw [efin]
    exact .tup' upd_same (.cons (.at rfl) (.one (.tup' (v5 _ _ upd_same) (.cons (.at rfl) (.cons (rk.mono (kx_same sAll)) (.one (.tup' ((v4.trans v5) _ _ upd_same) (rys.mono (kx_same (v2.trans (v3.trans (v4.trans v5))))))))))))
end
end Pk

set_option maxRecDepth 100000
set_option maxHeartbeats 4000000
set_option pp.maxSteps 600
namespace Pk
open PySem PySem.Spec PyProof.Rows L2
def rInT (K : PySem.W.Frag) : R2 := fun x y H Q => ∃ d ds, Dp K H x d ∧ Dp K H y (.tuple ds) ∧ SeqAt.shaped d = true ∧ SeqAt.shaped (.tuple ds) = true ∧ Q (.bl (ds.any fun z => PyData.eqv z d)) H
theorem op_inT (hu : X.A.units + 66 < cLine) : OpR X (compareOp .In) (rInT X.K) := by
  intro pins s σ H x y v u Q I rx ry h
  obtain ⟨d, ds, hd, he, sd, se, q⟩ := h
  obtain ⟨as, r1⟩ := Dp.reads I d x v hd rx
  obtain ⟨bs, r2⟩ := Dp.reads I (.tuple ds) y u he ry
  have := SeqAt.depth_of_shaped sd
  exact SeqAt.in_tuple_reads r2 r1 (SeqAt.canLay_of_shaped se) (SeqAt.canLay_of_shaped sd) (by omega) ⟨.bl _, H, I, rfl, q⟩
section
variable {X : Cx}
def rEqNilT (K : PySem.W.Frag) : R2 := fun x y H Q => ∃ a b xs, x = .ref a ∧ y = .ref b ∧ SqT K H a xs ∧ SqT K H b [] ∧ Q (.bl xs.isEmpty) H
theorem tup_isTuple {h : Heap} {a : Addr} {items : Array Value} (x : IsTup h a items) : h.IsTuple a items := x
theorem op_eqNilT (hu : X.A.units + 64 < cLine) : OpR X (compareOp .Eq) (rEqNilT X.K) := by
  intro pins s σ H x y v u Q I rx ry h
  obtain ⟨a, b, xs, rfl, rfl, ha, hb, q⟩ := h
  cases rx
  cases ry
  obtain ⟨its, r1, p1, _⟩ := I.tuple ha
  obtain ⟨its2, r2, p2, _⟩ := I.tuple hb
  cases r2
  have hu' : X.A.units < cLine := by omega
  refine SeqAt.eq_tupleAt (e := fun _ => true) p1 p2 hu' (fun j h1 h2 => by simp at h2) ⟨.bl xs.isEmpty, H, I, ?_, q⟩
  cases r1 <;> rfl
def rNeNilT (K : PySem.W.Frag) : R2 := fun x y H Q => ∃ a b xs, x = .ref a ∧ y = .ref b ∧ SqT K H a xs ∧ SqT K H b [] ∧ Q (.bl (!xs.isEmpty)) H
theorem op_neNilT (hu : X.A.units + 64 < cLine) : OpR X (compareOp .NotEq) (rNeNilT X.K) := by
  intro pins s σ H x y v u Q I rx ry h
  obtain ⟨a, b, xs, rfl, rfl, ha, hb, q⟩ := h
  cases rx
  cases ry
  obtain ⟨its, r1, p1, _⟩ := I.tuple ha
  obtain ⟨its2, r2, p2, _⟩ := I.tuple hb
  cases r2
  have hu' : X.A.units < cLine := by omega
  refine SeqAt.RcNeAt.tuples (e := fun _ => true) p1 p2 hu' (fun j h1 h2 => by simp at h2) _ _ _ _ ⟨.bl (!xs.isEmpty), H, I, ?_, q⟩
  cases r1 <;> rfl
end
theorem noL_st (s : Stp) : noLd (stD s) = true := noLd_st s
theorem noL_sts (l : List Stp) : noLds (l.map stD) = true := noLds_sts l
section
variable {P : Program} {w : World} {K : PySem.W.Frag} {mg : Str → Option Value} {base : Heap}
def spNO (K : PySem.W.Frag) : Sp := fun vs H Q _ => ∃ (l : Addr) (ns : List Nat) (n : Nat) (v : V) (s : Stp), vs = [.ref l, .int (n : Nat), v] ∧ H l = some (.lst (nats ns)) ∧ Rep K H v (stD s) ∧ ns.Pairwise (· < ·) ∧ ns.length ≤ 1000 ∧
  (∀ u, s.mv = .say u → ∃ j, s.back = some j ∧ j ∈ ns) ∧ Q .non (upd H l (.lst (nats (opnS ns n s))))
theorem ok_no {f : Addr} {fd : FuncData} (D__note_open : Df K mg "_note_open" s__note_open ["waiting", "number", "step"] f fd) (B : Bt mg) : FnOk P w K mg base CX0 1 f fd ["waiting", "number", "step"] (spNO K) := by
  refine D__note_open.ok c__note_open (fun vs H Q E h => ?_) (fun cdv A outer s H vs Q E hr h => ?_)
  · obtain ⟨l, ns, n, v, s, rfl, _⟩ := h
    rfl
  obtain ⟨l, ns, n, v, s, rfl, hl, rv, hup, hlen, hsay, q⟩ := h
  have nd := c__note_open.nd
  refine ⟨_, (pss_cons (ps_asg (pv 2) (pg_tup rfl (pgs_cons (pg_name (i := 3) nd rfl (Or.inl rfl)) (pgs_cons (pg_name (i := 4) nd rfl (Or.inl rfl)) pgs_nil))))
  (pss_one (ps_if (pt_cmpR op_eq (pe_ix ix_tup (pv 3) pe_int (fun _ _ => rfl)) pe_str (nomark _)) (pss_one (ps_expr (pe_bm PySem.F.plainAttrs_list PySem.F.slot_list_append PySem.F.type_list_append mt_append (pv 0) (pa_cons (pv 1) pa_nil)))) (pss_one (ps_expr (pe_bm PySem.F.plainAttrs_list PySem.F.slot_list_remove PySem.F.type_list_remove mt_remove (pv 0) (pa_cons (pv 4) pa_nil))))))), ?_⟩
  obtain ⟨a, m, b, rfl, ha, rm, rb⟩ := step_inv rv
  refine ⟨_, rfl, a, _, rfl, ha.sq, rfl, _, _, rfl, _, _, rfl, rfl, ?_⟩
  obtain ⟨mv, bck⟩ := s
  cases mv with
  | ask p =>
    obtain ⟨a2, x, rfl, ha2, _⟩ := ask_inv rm
    refine ⟨_, rfl, a2, _, 0, _, rfl, rfl, ha2.sq, atI_nat (j := 0) rfl, rfl, _, rfl, iteT ⟨_, rfl, .inl ⟨rfl, _, SqL.of hl⟩, _, rfl, l, _, _, rfl, rfl, hl, small6 (by rw [nats_len]; omega), ?_⟩⟩
    rw [nats_snoc]
    exact q
  | say u =>
    obtain ⟨a2, rfl, ha2⟩ := say_inv rm
    obtain ⟨j, ej, hj⟩ := hsay u rfl
    have ej' : bck = some j := ej
    subst ej'
    obtain ⟨rfl, _⟩ := Rep.inva rb
    obtain ⟨i, i1, i2, i3⟩ := erase_eq hup hj
    refine ⟨_, rfl, a2, _, 0, _, rfl, rfl, ha2.sq, atI_nat (j := 0) rfl, rfl, _, rfl, iteF ⟨_, rfl, .inl ⟨rfl, _, SqL.of hl⟩, _, rfl, l, ns.map (fun k : Nat => ((k : Nat) : Int)), (j : Int), i, rfl, rfl, ?_, ?_, fun m hm => ?_, ?_⟩⟩
    · rw [nats_int]
      exact hl
    · rw [List.getElem?_map, i1]
      rfl
    · rw [List.getElem?_map]
      cases e : ns[m]? with
      | none => exact fun z => by cases z
      | some k =>
        intro z
        have z2 : (k : Int) = (j : Int) := Option.some.inj z
        refine i2 m hm ?_
        rw [e, show k = j by omega]
    · rw [nats_erase, i3]
      exact q
def spOA (K : PySem.W.Frag) : Sp := fun vs H Q _ => ∃ (v : V) (pl : List Stp), vs = [v] ∧ Rep K H v (playD pl) ∧ OpOk pl ∧ pl.length ≤ 500 ∧ ∀ z H', Same H H' → Rep K H' z (plD (opens pl pl.length)) → Q z H'
def RxAt (K : PySem.W.Frag) (H : Hp) (l : Addr) (bs : List Stp) (c : Nat) : Prop := ∃ (xs : List V), H l = some (.lst xs) ∧ Reps K H xs (bs.map stD) ∧ bs.length ≤ c
theorem RxAt.same {H H' : Hp} {l : Addr} {bs : List Stp} {c : Nat} (h : RxAt K H l bs c) (s : Same H H') : RxAt K H' l bs c := by
  obtain ⟨xs, h1, h2, h4⟩ := h
  exact ⟨xs, s _ _ h1, h2.mono (kx_same s), h4⟩
theorem RxAt.le {H : Hp} {l : Addr} {bs : List Stp} {c d : Nat} (h : RxAt K H l bs c) (e : c ≤ d) : RxAt K H l bs d := by
  obtain ⟨xs, h1, h2, h4⟩ := h
  exact ⟨xs, h1, h2, Nat.le_trans h4 e⟩
theorem flat_snoc {f : Nat → List Stp} {ns : List Nat} {i j : Nat} (h : ns[i]? = some j) : (ns.take (i + 1)).flatMap f = (ns.take i).flatMap f ++ f j := by
  rw [List.take_add_one, h, List.flatMap_append]
  exact congrArg _ (List.append_nil _)
theorem kids_snoc (kd : D) (p : List Nat) (j k : Nat) : kidsOf kd p j (k + 1) = kidsOf kd p j k ++ [⟨.ask (p ++ [k]), some j⟩] := by
  unfold kidsOf
  rw [List.range_succ, List.map_append]
  rfl
end
section
variable {P : Program} {w : World} {K : PySem.W.Frag} {mg : Str → Option Value} {base : Heap}
/-! ### the program's small tests -/
def spWh : Sp := fun vs H Q _ => ∃ (n : Nat), vs = [.int (n : Nat)] ∧ Q (.bl true) H
theorem ok_wh {f : Addr} {fd : FuncData} (D_is_whole : Df K mg "is_whole" s_is_whole ["value"] f fd) (B : Bt mg) : FnOk P w K mg base CX0 1 f fd ["value"] spWh := by
  refine D_is_whole.ok c_is_whole (fun vs H Q E h => ?_) (fun cdv A outer s H vs Q E hr h => ?_)
  · obtain ⟨n, rfl, _⟩ := h
    rfl
  obtain ⟨n, rfl, q⟩ := h
  have nd := c_is_whole.nd
  have rv : Rep K H (.int (n : Nat)) (.at (.int (n : Nat))) := .at rfl
  refine ⟨_, (pss_one (ps_ret (pe_and (pe_callB call_isi (by rfl) B.b_isinstance (by decide +kernel) (pa_cons (pv 0) (pa_cons (pe_bltn (v := .ty "int") (by rfl) B.b_int (by decide +kernel) rfl) pa_nil))) (pe_and (pe_not (pe_callB call_isi (by rfl) B.b_isinstance (by decide +kernel) (pa_cons (pv 0) (pa_cons (pe_bltn (v := .ty "bool") (by rfl) B.b_bool (by decide +kernel) rfl) pa_nil)))) (pe_one (pe_cmpR op_ge (pv 0) pe_int (nomark _))))))), ?_⟩
  refine ⟨_, rfl, _, _, _, _, _, rfl, .ty _, rep_ty rv, kit_ty (kit_int _), ⟨_, rfl, ?_⟩⟩
  refine iteT ⟨_, rfl, _, _, _, _, _, rfl, .ty _, rep_ty rv, kit_ty (kit_bool _), ⟨_, rfl, ⟨_, rfl, iteT ⟨_, rfl, _, _, rfl, rfl, ?_⟩⟩⟩⟩
  show Q (.bl (decide ((0 : Int) ≤ (n : Int)))) H
  rw [decide_eq_true (by omega)]
  exact q
def spAn : Sp := fun vs H Q _ => ∃ (n : Nat), vs = [.int (n : Nat)] ∧ n ≤ 1 ∧ Q (.bl true) H
theorem ok_an {f g : Addr} {fd gd : FuncData} (D_is_answer : Df K mg "is_answer" s_is_answer ["value"] f fd) (D_is_whole : Df K mg "is_whole" s_is_whole ["value"] g gd) (B : Bt mg) : FnOk P w K mg base CX0 2 f fd ["value"] spAn := by
  have G_is_whole : FnOk P w K mg base CX0 1 g gd ["value"] spWh := ok_wh D_is_whole B
  refine D_is_answer.ok c_is_answer (fun vs H Q E h => ?_) (fun cdv A outer s H vs Q E hr h => ?_)
  · obtain ⟨n, rfl, _⟩ := h
    rfl
  obtain ⟨n, rfl, hn, q⟩ := h
  have nd := c_is_answer.nd
  refine ⟨_, (pss_one (ps_ret (pe_and (pe_call G_is_whole (hr.mono (by first | decide | omega)) (by rfl) D_is_whole.m D_is_whole.kp D_is_whole.b .nil pass0 (pa_cons (pv 0) pa_nil)) (pe_one (pe_cmpR op_le (pv 0) pe_int (nomark _)))))), ?_⟩
  refine ⟨_, rfl, n, rfl, ⟨_, rfl, iteT ⟨_, rfl, _, _, rfl, rfl, ?_⟩⟩⟩
  show Q (.bl (decide ((n : Int) ≤ 1))) H
  rw [decide_eq_true (by omega)]
  exact q
def spTu (K : PySem.W.Frag) : Sp := fun vs H Q _ => ∃ (v : V) (ts : List D), vs = [v, .int 2] ∧ Rep K H v (.tup ts) ∧ ts.length = 2 ∧ Q (.bl true) H
theorem ok_tu {f : Addr} {fd : FuncData} (D_is_tuple_of : Df K mg "is_tuple_of" s_is_tuple_of ["value", "many"] f fd) (B : Bt mg) : FnOk P w K mg base CX0 1 f fd ["value", "many"] (spTu K) := by
  refine D_is_tuple_of.ok c_is_tuple_of (fun vs H Q E h => ?_) (fun cdv A outer s H vs Q E hr h => ?_)
  · obtain ⟨v, ts, rfl, _⟩ := h
    rfl
  obtain ⟨v, ts, rfl, rv, hl, q⟩ := h
  have nd := c_is_tuple_of.nd
  refine ⟨_, (pss_one (ps_ret (pe_and (pe_callB call_isi (by rfl) B.b_isinstance (by decide +kernel) (pa_cons (pv 0) (pa_cons (pe_bltn (v := .ty "tuple") (by rfl) B.b_tuple (by decide +kernel) rfl) pa_nil))) (pe_one (pe_cmpR op_eq (pe_callB call_len_seq (by rfl) B.b_len PySem.boot_len (pa_cons (pv 0) pa_nil)) (pv 1) (nomark _)))))), ?_⟩
  refine ⟨_, rfl, _, _, _, _, _, rfl, .ty _, rep_ty rv, kit_ty (kit_tup _), ⟨_, rfl, ?_⟩⟩
  obtain ⟨a, xs, rfl, hx, rx⟩ := rv.inv
  have lx := rx.length
  refine iteT ⟨_, rfl, a, xs, rfl, .inr hx.sq, _, rfl, rfl, ?_⟩
  rw [decide_eq_true (congrArg V.int (by omega))]
  exact q
/-! ### kind_at -/
def spKA (K : PySem.W.Frag) : Sp := fun vs H Q _ => ∃ (v x : V) (d : D) (p : List Nat), vs = [v, x] ∧ Rep K H v d ∧ isK d = true ∧ Rep K H x (plD p) ∧ (atD d p = none → Q .non H) ∧ ∀ z e, atD d p = some e → Rep K H z e → Q z H
theorem ok_ka {f : Addr} {fd : FuncData} (D_kind_at : Df K mg "kind_at" s_kind_at ["kind", "place"] f fd) (B : Bt mg) : FnOk P w K mg base CX0 1 f fd ["kind", "place"] (spKA K) := by
  refine D_kind_at.ok c_kind_at (fun vs H Q E h => ?_) (fun cdv A outer s H vs Q E hr h => ?_)
  · obtain ⟨v, x, d, p, rfl, _⟩ := h
    rfl
  obtain ⟨v, x, d, p, rfl, rv, hk, rx, q0, q⟩ := h
  have nd := c_kind_at.nd
  refine ⟨_, (pss_cons (ps_for PassesOwn.never rfl (pi_tup (pv 1)) (pg_name (i := 2) nd rfl (Or.inl rfl)) (pss_cons (ps_if (pt_not (pt_chain op_le op_lt pe_int (pv 2) (pe_callB call_len_seq (by rfl) B.b_len PySem.boot_len (pa_cons (pv 0) pa_nil)))) (pss_one (ps_ret pe_non)) pss_nil)
  (pss_one (ps_set (i := 0) nd rfl (Or.inl rfl) (pe_ix ix_tup (pv 0) (pv 2) (fun _ _ => rfl))))))
  (pss_one (ps_ret (pv 0)))), ?_⟩
  obtain ⟨a, xs, rfl, hx, rxs⟩ := Rep.inv (ts := p.map numD') rx
  have ex := rep_nats_inv rxs
  subst ex
  refine ⟨_, rfl, a, rfl, ⟨_, hx.sq⟩, for_tup (K := K) (a := a) (xs := nats p) (fun i σ H' => H' = H ∧ ∃ (v' : V) (d' : D) (y2 : Option V), σ = [some v', some (.ref a), y2] ∧ Rep K H v' d' ∧ isK d' = true ∧ atD d' (p.drop i) = atD d p)
    ⟨rfl, v, d, none, rfl, rv, hk, rfl⟩ (fun i σ H' _ h => by rw [h.1]; exact hx.sq) ?_ ?_⟩
  · rintro i x σ H' hi ⟨rfl, v', d', y2, rfl, rv', hk', e'⟩
    obtain ⟨k, hk2, rfl⟩ := nats_at hi
    have hil := (List.getElem?_eq_some_iff.mp hk2).1
    have ek : p[i] = k := by
      have := List.getElem?_eq_getElem hil
      rw [hk2] at this
      exact (Option.some.inj this).symm
    rw [List.drop_eq_getElem_cons hil, ek] at e'
    obtain ⟨ts, rfl, hts⟩ := isK_inv hk'
    obtain ⟨b, ys, rfl, hy, ry⟩ := rv'.inv
    have ly := ry.length
    refine ⟨_, rfl, _, _, rfl, rfl, _, rfl, ite2 (fun _ => ?_) (fun z => absurd (decide_eq_true (by omega)) z)⟩
    refine ⟨_, rfl, b, ys, rfl, .inr hy.sq, _, _, rfl, rfl, _, rfl, ?_⟩
    by_cases hlt : k < ts.length
    · have ht : ts[k]? = some ts[k] := List.getElem?_eq_getElem hlt
      obtain ⟨y, hy2, ry2⟩ := ry.getD ht
      have e2 : atD ts[k] (p.drop (i + 1)) = atD d p := by
        rw [← e']
        show _ = (match ts[k]? with | some t => atD t (p.drop (i + 1)) | none => none)
        rw [ht]
      rw [decide_eq_true (show ((k : Nat) : Int) < ((ys.length : Nat) : Int) by omega)]
      exact iteF ⟨_, rfl, _, rfl, b, ys, _, _, rfl, rfl, hy.sq, atI_nat hy2, rfl, _, ts[k], _, rfl, ry2, isK_mem hts (List.mem_of_getElem? ht), e2⟩
    · have e2 : atD d p = none := by
        rw [← e']
        show (match ts[k]? with | some t => atD t (p.drop (i + 1)) | none => none) = none
        rw [List.getElem?_eq_none (by omega)]
      rw [decide_eq_false (show ¬ ((k : Nat) : Int) < ((ys.length : Nat) : Int) by omega)]
      exact iteT (q0 e2)
  · rintro σ H' ⟨rfl, v', d', y2, rfl, rv', hk', e'⟩
    rw [nats_len, List.drop_length] at e'
    have e0 : some d' = atD d p := by rw [← e']; cases d' <;> rfl
    exact ⟨_, rfl, q _ _ e0.symm rv'⟩
/-! ### _is_move -/
def spIM (K : PySem.W.Frag) : Sp := fun vs H Q _ => ∃ (v : V) (m : Mv), vs = [v] ∧ Rep K H v (mvD m) ∧ (∀ u, m = .say u → u ≤ 1) ∧ (∀ p, m = .ask p → p.length ≤ 1000) ∧ ∀ H', Same H H' → Q (.bl true) H'
theorem ok_im {f f1 f2 f3 : Addr} {fd d1 d2 d3 : FuncData} (D__is_move : Df K mg "_is_move" s__is_move ["value"] f fd) (D_is_tuple_of : Df K mg "is_tuple_of" s_is_tuple_of ["value", "many"] f1 d1) (D_is_whole : Df K mg "is_whole" s_is_whole ["value"] f2 d2) (D_is_answer : Df K mg "is_answer" s_is_answer ["value"] f3 d3) (B : Bt mg) :
    FnOk P w K mg base CX0 3 f fd ["value"] (spIM K) := by
  have G_is_tuple_of : FnOk P w K mg base CX0 1 f1 d1 ["value", "many"] (spTu K) := ok_tu D_is_tuple_of B
  have G_is_whole : FnOk P w K mg base CX0 1 f2 d2 ["value"] spWh := ok_wh D_is_whole B
  have G_is_answer : FnOk P w K mg base CX0 2 f3 d3 ["value"] spAn := ok_an D_is_answer D_is_whole B
  refine D__is_move.ok c__is_move (fun vs H Q E h => ?_) (fun cdv A outer s H vs Q E hr h => ?_)
  · obtain ⟨v, m, rfl, _⟩ := h
    rfl
  obtain ⟨v, m, rfl, rv, hs, hp, q⟩ := h
  have nd := c__is_move.nd
  refine ⟨_, (pss_cons (ps_if (pt_not (pt_val (pe_call G_is_tuple_of (hr.mono (by first | decide | omega)) (by rfl) D_is_tuple_of.m D_is_tuple_of.kp D_is_tuple_of.b .nil pass0 (pa_cons (pv 0) (pa_cons pe_int pa_nil))))) (pss_one (ps_ret pe_bl)) pss_nil)
  (pss_cons (ps_asg (pv 0) (pg_tup rfl (pgs_cons (pg_name (i := 1) nd rfl (Or.inl rfl)) (pgs_cons (pg_name (i := 2) nd rfl (Or.inl rfl)) pgs_nil))))
  (pss_cons (ps_if (pt_cmpR op_eq (pv 1) pe_str (nomark _)) (pss_one (ps_ret (pe_and (pe_callB call_isi (by rfl) B.b_isinstance (by decide +kernel) (pa_cons (pv 2) (pa_cons (pe_bltn (v := .ty "tuple") (by rfl) B.b_tuple (by decide +kernel) rfl) pa_nil))) (pe_one (pe_callB (cr_all rfl) (by rfl) B.b_all (by decide +kernel) (pa_cons (pe_lc (own := [("number", 3)]) (g := (gName 3)) (tt := tYes) rfl nd (pi_tup (pv 2)) (blkOk_by (own := [("number", 3)]) (N := ["value", "word", "told", "number"]) (sc := defScope s__is_move) (by decide +kernel)) (fun _ _ _ _ _ => (pg_name (i := 3) nd rfl (Or.inl rfl))) (fun _ _ _ _ _ => pts_nil) (fun _ _ _ _ _ => (pe_call G_is_whole (hr.mono (by first | decide | omega)) (by rfl) D_is_whole.m D_is_whole.kp D_is_whole.b .nil pass0 (pa_cons (pv 3) pa_nil)))) pa_nil)))))) pss_nil)
  (pss_one (ps_ret (pe_and (pe_cmpR op_eq (pv 1) pe_str (nomark _)) (pe_one (pe_call G_is_answer (hr.mono (by first | decide | omega)) (by rfl) D_is_answer.m D_is_answer.kp D_is_answer.b .nil pass0 (pa_cons (pv 2) pa_nil))))))))), ?_⟩
  cases m with
  | say u =>
    obtain ⟨a, rfl, ha⟩ := say_inv rv
    refine ⟨_, rfl, .ref a, _, rfl, rv, rfl, _, rfl, iteF ⟨_, rfl, a, _, rfl, ha.sq, rfl, _, _, rfl, _, _, rfl, rfl, ?_⟩⟩
    exact ⟨_, rfl, rfl, _, rfl, iteF ⟨_, rfl, rfl, ⟨_, rfl, iteT ⟨_, rfl, u, rfl, hs u rfl, q _ (Same.refl _)⟩⟩⟩⟩
  | ask p =>
    obtain ⟨a, x, rfl, ha, rx⟩ := ask_inv rv
    refine ⟨_, rfl, .ref a, _, rfl, rv, rfl, _, rfl, iteF ⟨_, rfl, a, _, rfl, ha.sq, rfl, _, _, rfl, _, _, rfl, rfl, ?_⟩⟩
    refine ⟨_, rfl, rfl, _, rfl, iteT ⟨_, rfl, _, _, _, _, _, rfl, .ty _, rep_ty rx, kit_ty (kit_tup _), ⟨_, rfl, iteT ?_⟩⟩⟩
    obtain ⟨b, xs, rfl, hb, rxs⟩ := Rep.inv (ts := p.map numD') rx
    have ex := rep_nats_inv rxs
    subst ex
    have hpl := hp p rfl
    refine ⟨_, rfl, b, rfl, ⟨_, hb.sq⟩, fun d hd => ?_⟩
    refine lc_tup (K := K) (a := b) (xs := nats p) (fun i H' => Same H H' ∧ H' d = some (.lst ((List.replicate i true).map V.bl))) ⟨same_new hd _, upd_same⟩ (fun i H' _ h => (hb.same h.1).sq) ?_ ?_
    · rintro i x H1 hi ⟨s1, hd1⟩
      obtain ⟨k, hk, rfl⟩ := nats_at hi
      have hil := (List.getElem?_eq_some_iff.mp hk).1
      refine ⟨rfl, yes_go ⟨_, rfl, k, rfl, _, hd1, small6 (by rw [List.length_map, List.length_replicate]; omega), fun z o e => ?_, ?_⟩⟩
      · rw [upd_ne (ne_of_none e hd)]
        exact s1 _ _ e
      · rw [upd_same, List.replicate_succ', List.map_append]
        rfl
    · rintro H1 ⟨s1, hd1⟩
      refine ⟨d, _, rfl, SqL.of hd1, ?_⟩
      have e : (List.replicate (nats p).length true).all id = true := List.all_eq_true.mpr fun b hb => (List.mem_replicate.mp hb).2
      rw [e]
      exact q _ s1
/-! ### _is_later_step -/
def spIL (K : PySem.W.Frag) : Sp := fun vs H Q _ => ∃ (v : V) (n j : Nat) (s : Stp), vs = [v, .int (n : Nat)] ∧ Rep K H v (stD s) ∧ s.back = some j ∧ j < n ∧ ShS s ∧ (∀ p, s.mv = .ask p → p.length ≤ 1000) ∧ ∀ H', Same H H' → Q (.bl true) H'
theorem ok_il {f f0 f1 f2 f3 : Addr} {fd d0 d1 d2 d3 : FuncData} (D__is_later_step : Df K mg "_is_later_step" s__is_later_step ["value", "number"] f fd) (D__is_move : Df K mg "_is_move" s__is_move ["value"] f0 d0) (D_is_tuple_of : Df K mg "is_tuple_of" s_is_tuple_of ["value", "many"] f1 d1)
    (D_is_whole : Df K mg "is_whole" s_is_whole ["value"] f2 d2) (D_is_answer : Df K mg "is_answer" s_is_answer ["value"] f3 d3) (B : Bt mg) : FnOk P w K mg base CX0 4 f fd ["value", "number"] (spIL K) := by
  have G_is_tuple_of : FnOk P w K mg base CX0 1 f1 d1 ["value", "many"] (spTu K) := ok_tu D_is_tuple_of B
  have G_is_whole : FnOk P w K mg base CX0 1 f2 d2 ["value"] spWh := ok_wh D_is_whole B
  have G__is_move : FnOk P w K mg base CX0 3 f0 d0 ["value"] (spIM K) := ok_im D__is_move D_is_tuple_of D_is_whole D_is_answer B
  refine D__is_later_step.ok c__is_later_step (fun vs H Q E h => ?_) (fun cdv A outer s H vs Q E hr h => ?_)
  · obtain ⟨v, n, j, s, rfl, _⟩ := h
    rfl
  obtain ⟨v, n, j, st, rfl, rv, hb, hj, hs, hp, q⟩ := h
  have nd := c__is_later_step.nd
  refine ⟨_, (pss_one (ps_ret (pe_and (pe_call G_is_tuple_of (hr.mono (by first | decide | omega)) (by rfl) D_is_tuple_of.m D_is_tuple_of.kp D_is_tuple_of.b .nil pass0 (pa_cons (pv 0) (pa_cons pe_int pa_nil))) (pe_and (pe_call G__is_move (hr.mono (by first | decide | omega)) (by rfl) D__is_move.m D__is_move.kp D__is_move.b .nil pass0 (pa_cons (pe_ix ix_tup (pv 0) pe_int (fun _ _ => rfl)) pa_nil)) (pe_and (pe_call G_is_whole (hr.mono (by first | decide | omega)) (by rfl) D_is_whole.m D_is_whole.kp D_is_whole.b .nil pass0 (pa_cons (pe_ix ix_tup (pv 0) pe_int (fun _ _ => rfl)) pa_nil)) (pe_one (pe_cmpR op_lt (pe_ix ix_tup (pv 0) pe_int (fun _ _ => rfl)) (pv 1) (nomark _)))))))), ?_⟩
  obtain ⟨a, m, b, rfl, ha, rm, rb⟩ := step_inv rv
  rw [hb] at rb
  obtain ⟨rfl, _⟩ := Rep.inva (w := V.int (j : Nat)) rb
  refine ⟨_, rfl, .ref a, _, rfl, rv, rfl, ⟨_, rfl, iteT ?_⟩⟩
  refine ⟨_, rfl, a, _, 0, _, rfl, rfl, ha.sq, atI_nat (j := 0) rfl, m, st.mv, rfl, rm, hs, hp, fun H1 s1 => ⟨_, rfl, iteT ?_⟩⟩
  refine ⟨_, rfl, a, _, 1, _, rfl, rfl, (ha.same s1).sq, atI_nat (j := 1) rfl, j, rfl, ⟨_, rfl, iteT ?_⟩⟩
  refine ⟨_, rfl, a, _, 1, _, rfl, rfl, (ha.same s1).sq, atI_nat (j := 1) rfl, _, rfl, _, _, rfl, rfl, ?_⟩
  show Q (.bl (decide ((j : Int) < (n : Int)))) H1
  rw [decide_eq_true (by omega)]
  exact q _ s1
theorem cut_init (p : List Nat) : cutV (nats p) none (some (-1)) = nats p.dropLast := by
  unfold cutV
  rw [nats_len]
  have e1 : HT.sIx p.length 0 none = 0 := rfl
  have e2 : HT.sIx p.length p.length (some (-1)) = p.length - 1 := by
    unfold HT.sIx
    first | (simp; omega) | (split <;> omega) | (simp only; split <;> omega)
  rw [e1, e2, List.drop_zero, Nat.sub_zero, List.dropLast_eq_take]
  unfold nats
  rw [List.map_take]
/-! ### _is_placed -/
def spPl (K : PySem.W.Frag) : Sp := fun vs H Q _ => ∃ (kv mv av : V) (kd : D) (m am : Mv) (pl : List Stp) (j : Nat) (b : Option Nat), vs = [kv, mv, av] ∧ Rep K H kv kd ∧ isK kd = true ∧ Rep K H mv (mvD m) ∧ Rep K H av (mvD am) ∧ pl[j]? = some ⟨am, b⟩ ∧ ∀ H', Same H H' → Q (.bl (plB kd pl j m)) H'
theorem ok_plc {f f1 : Addr} {fd d1 : FuncData} (D__is_placed : Df K mg "_is_placed" s__is_placed ["kind", "move", "answered"] f fd) (D_kind_at : Df K mg "kind_at" s_kind_at ["kind", "place"] f1 d1) (B : Bt mg) : FnOk P w K mg base CX0 2 f fd ["kind", "move", "answered"] (spPl K) := by
  have G_kind_at : FnOk P w K mg base CX0 1 f1 d1 ["kind", "place"] (spKA K) := ok_ka D_kind_at B
  refine D__is_placed.ok c__is_placed (fun vs H Q E h => ?_) (fun cdv A outer s H vs Q E hr h => ?_)
  · obtain ⟨kv, mv, av, kd, m, am, pl, j, b, rfl, _⟩ := h
    rfl
  obtain ⟨kv, mv, av, kd, m, am, pl, j, b, rfl, rk, hk, rm, ra, hj, q⟩ := h
  have nd := c__is_placed.nd
  refine ⟨_, (pss_cons (ps_if (pt_cmpR op_ne (pe_ix ix_tup (pv 2) pe_int (fun _ _ => rfl)) pe_str (nomark _)) (pss_one (ps_ret pe_bl)) pss_nil)
  (pss_cons (ps_if (pt_cmpR op_eq (pe_ix ix_tup (pv 1) pe_int (fun _ _ => rfl)) pe_str (nomark _)) (pss_one (ps_ret pe_bl)) pss_nil)
  (pss_cons (ps_set (i := 3) nd rfl (Or.inl rfl) (pe_ix ix_tup (pv 1) pe_int (fun _ _ => rfl)))
  (pss_one (ps_ret (pe_and (pe_cmpR (op_neNilT hr.units) (pv 3) (pe_tup pa_nil) (nomark _)) (pe_and (pe_cmpR (op_eqD hr.units) (pe_slice sl_tupP (pv 3) po_none (po_some (pe_un un_neg pe_int))) (pe_ix ix_tup (pv 2) pe_int (fun _ _ => rfl)) (nomark _)) (pe_one (pe_cmpR op_notN (pe_call G_kind_at (hr.mono (by first | decide | omega)) (by rfl) D_kind_at.m D_kind_at.kp D_kind_at.b .nil pass0 (pa_cons (pv 0) (pa_cons (pv 3) pa_nil))) pe_non (nomark _)))))))))), ?_⟩
  cases am with
  | say u =>
    obtain ⟨a, rfl, ha⟩ := say_inv ra
    have e : plB kd pl j m = false := by
      unfold plB
      rw [askPl_say hj]
    rw [e] at q
    exact ⟨_, rfl, a, _, 0, _, rfl, rfl, ha.sq, atI_nat (j := 0) rfl, rfl, _, rfl, iteT (q _ (Same.refl _))⟩
  | ask r =>
    obtain ⟨a, x, rfl, ha, rx⟩ := ask_inv ra
    refine ⟨_, rfl, a, _, 0, _, rfl, rfl, ha.sq, atI_nat (j := 0) rfl, rfl, _, rfl, iteF ?_⟩
    cases m with
    | say u =>
      obtain ⟨c, rfl, hc⟩ := say_inv rm
      have e : plB kd pl j (.say u) = true := by
        unfold plB
        rw [askPl_of hj]
      rw [e] at q
      exact ⟨_, rfl, c, _, 0, _, rfl, rfl, hc.sq, atI_nat (j := 0) rfl, rfl, _, rfl, iteT (q _ (Same.refl _))⟩
    | ask p =>
      obtain ⟨c, y, rfl, hc, ry⟩ := ask_inv rm
      have e : plB kd pl j (.ask p) = (decide (p ≠ []) && (decide (p.dropLast = r) && (atD kd p).isSome)) := by
        unfold plB
        rw [askPl_of hj]
      rw [e] at q
      refine ⟨_, rfl, c, _, 0, _, rfl, rfl, hc.sq, atI_nat (j := 0) rfl, rfl, _, rfl, iteF ?_⟩
      refine ⟨_, rfl, c, _, 1, _, rfl, rfl, hc.sq, atI_nat (j := 1) rfl, ?_⟩
      obtain ⟨yb, ys, rfl, hy, rys⟩ := Rep.inv (ts := p.map numD') ry
      have ey := rep_nats_inv rys
      subst ey
      refine ⟨_, rfl, (by show 0 ≤ sizeLine; decide), fun t nt => ⟨yb, t, nats p, rfl, rfl, ((hy.same (same_new nt _)).sq), .inl (.inl upd_same), ?_⟩⟩
      have st := same_new nt (.tup [])
      by_cases h0 : p = []
      · subst h0
        exact ⟨_, rfl, iteF (q _ st)⟩
      · have hne : (!(nats p).isEmpty) = true := by
          cases p with
          | nil => exact absurd rfl h0
          | cons _ _ => rfl
        rw [hne]
        refine ⟨_, rfl, iteT ?_⟩
        rw [decide_eq_true h0, Bool.true_and] at q
        refine ⟨_, rfl, 1, rfl, -1, rfl, yb, nats p, rfl, hy.same st, fun z H1 s1 hz => ?_⟩
        have s2 := st.trans s1
        have ec : cutV (nats p) none (some (-1)) = nats p.dropLast := cut_init p
        rw [ec] at hz
        refine ⟨_, rfl, a, _, 1, _, rfl, rfl, (ha.same s2).sq, atI_nat (j := 1) rfl, _, _, dp_noL (.tup hz (reps_nats p.dropLast) : Rep K H1 (.ref z) (plD p.dropLast)) (noLd_nums _), dp_noL (rx.mono (kx_same s2)) (noLd_nums _), shaped_pl _, shaped_pl _, ?_⟩
        rw [show PyData.eqv (toPy (D.tup (p.dropLast.map numD'))) (toPy (plD r)) = decide (p.dropLast = r) from eqv_pl _ _]
        by_cases h1 : p.dropLast = r
        · rw [decide_eq_true h1] at q ⊢
          refine ⟨_, rfl, iteT ?_⟩
          rw [Bool.true_and] at q
          refine ⟨_, rfl, _, rfl, kv, .ref yb, kd, p, rfl, rk.mono (kx_same s2), hk, ry.mono (kx_same s2), fun h2 => ?_, fun w2 e2 h2 rw2 => ?_⟩
          · rw [h2] at q
            exact ⟨rfl, q _ s2⟩
          · rw [h2] at q
            refine ⟨rfl, ?_⟩
            obtain ⟨ke, _⟩ := atD_kind p kd e2 hk h2
            obtain ⟨ts, rfl, _⟩ := isK_inv ke
            obtain ⟨a4, x4, rfl, _⟩ := rw2.inv
            exact q _ s2
        · rw [decide_eq_false h1] at q ⊢
          exact ⟨_, rfl, iteF (q _ s2)⟩
end
end Pk

set_option maxRecDepth 100000
set_option maxHeartbeats 4000000
set_option pp.maxSteps 600
namespace Pk
open PySem PySem.Spec PyProof.Rows L2
section
variable {P : Program} {w : World} {K : PySem.W.Frag} {mg : Str → Option Value} {base : Heap}
/-! ### _reason_against -/
def WtAt (K : PySem.W.Frag) (H : Hp) (l : Addr) (ns : List Nat) : Prop := SqL K H l (nats ns) ∨ SqT K H l (nats ns)
def spRA (K : PySem.W.Frag) : Sp := fun vs H Q _ => ∃ (kv v sv : V) (l : Addr) (kd : D) (pl : List Stp) (ns : List Nat) (s : Stp), vs = [kv, v, .ref l, sv] ∧ Rep K H kv kd ∧ isK kd = true ∧ Rep K H v (playD pl) ∧ WtAt K H l ns ∧ (∀ H', Same H H' → WtAt K H' l ns) ∧ Rep K H sv (stD s) ∧ WB pl ∧ pl.length ≤ 500 ∧
  ((pl = [] ∧ s = BEG ∧ ∀ H', Same H H' → Q .non H') ∨ (pl ≠ [] ∧ ∃ j, s.back = some j ∧ j < pl.length ∧ ShS s ∧ (∀ p, s.mv = .ask p → p.length ≤ 1000) ∧ (∀ H', Same H H' → lgB kd pl ns s = true → Q .non H') ∧ ∀ x H', Same H H' → lgB kd pl ns s = false → Q (.str x) H'))
theorem last_at {ns : List Nat} {k : Nat} (h : ns.getLast? = some k) : atI (nats ns) (-1) = some (V.int (k : Nat)) := by
  have hl : 0 < (nats ns).length := by
    rw [nats_len]
    cases ns with
    | nil => cases h
    | cons _ _ => exact Nat.succ_pos _
  unfold atI ixN
  rw [if_neg (by omega), if_pos (by omega)]
  show (nats ns)[(-1 + ((nats ns).length : Int)).toNat]? = _
  rw [show (-1 + ((nats ns).length : Int)).toNat = (nats ns).length - 1 by omega, nats_len]
  unfold nats
  rw [List.getElem?_map, ← List.getLast?_eq_getElem?, h]
  rfl
theorem ok_ra {bg f f0 f1 f2 f3 f4 f5 f6 f7 : Addr} {fd d0 d1 d2 d3 d4 d5 d6 d7 : FuncData} (hBG : mg "BEGINNING" = some (.ref bg)) (hKB : ∀ H, Rep K H (.ref bg) (stD BEG)) (D__reason_against : Df K mg "_reason_against" s__reason_against ["kind", "play", "waiting", "step"] f fd)
    (D__is_later_step : Df K mg "_is_later_step" s__is_later_step ["value", "number"] f0 d0) (D__is_move : Df K mg "_is_move" s__is_move ["value"] f1 d1) (D_is_tuple_of : Df K mg "is_tuple_of" s_is_tuple_of ["value", "many"] f2 d2)
    (D_is_whole : Df K mg "is_whole" s_is_whole ["value"] f3 d3) (D_is_answer : Df K mg "is_answer" s_is_answer ["value"] f4 d4) (D__is_placed : Df K mg "_is_placed" s__is_placed ["kind", "move", "answered"] f5 d5) (D_kind_at : Df K mg "kind_at" s_kind_at ["kind", "place"] f6 d6)
    (D__sight_behind : Df K mg "_sight_behind" s__sight_behind ["play"] f7 d7) (B : Bt mg) : FnOk P w K mg base CX0 5 f fd ["kind", "play", "waiting", "step"] (spRA K) := by
  have G__is_later_step : FnOk P w K mg base CX0 4 f0 d0 ["value", "number"] (spIL K) := ok_il D__is_later_step D__is_move D_is_tuple_of D_is_whole D_is_answer B
  have G__is_placed : FnOk P w K mg base CX0 2 f5 d5 ["kind", "move", "answered"] (spPl K) := ok_plc D__is_placed D_kind_at B
  have G__sight_behind : FnOk P w K mg base CX0 1 f7 d7 ["play"] (spSB K) := ok_sb D__sight_behind B
  refine D__reason_against.ok c__reason_against (fun vs H Q E h => ?_) (fun cdv A outer s H vs Q E hr h => ?_)
  · obtain ⟨kv, v, sv, l, kd, pl, ns, s, rfl, _⟩ := h
    rfl
  obtain ⟨kv, v, sv, l, kd, pl, ns, st, rfl, rk, hk, rv, hw, hws, rs, hwb, hlen, h⟩ := h
  have nd := c__reason_against.nd
  refine ⟨_, (pss_cons (ps_set (i := 4) nd rfl (Or.inl rfl) (pe_callB call_len_seq (by rfl) B.b_len PySem.boot_len (pa_cons (pv 1) pa_nil)))
  (pss_cons (ps_if (pt_cmpR op_eq (pv 4) pe_int (nomark _)) (pss_one (ps_ret (pe_ifExp (pt_cmpR (op_eqD hr.units) (pv 3) (pe_glob rfl hBG (rel_ref _)) (nomark _)) pe_non pe_str))) pss_nil)
  (pss_cons (ps_if (pt_not (pt_val (pe_call G__is_later_step (hr.mono (by first | decide | omega)) (by rfl) D__is_later_step.m D__is_later_step.kp D__is_later_step.b .nil pass0 (pa_cons (pv 3) (pa_cons (pv 4) pa_nil))))) (pss_one (ps_ret pe_str)) pss_nil)
  (pss_cons (ps_asg (pv 3) (pg_tup rfl (pgs_cons (pg_name (i := 5) nd rfl (Or.inl rfl)) (pgs_cons (pg_name (i := 6) nd rfl (Or.inl rfl)) pgs_nil))))
  (pss_cons (ps_if (pt_cmpR op_eq (pe_op op_mod (pe_op op_sub (pv 4) (pv 6)) pe_int) pe_int (nomark _)) (pss_one (ps_ret pe_str)) pss_nil)
  (pss_cons (ps_if (pt_not (pt_val (pe_call G__is_placed (hr.mono (by first | decide | omega)) (by rfl) D__is_placed.m D__is_placed.kp D__is_placed.b .nil pass0 (pa_cons (pv 0) (pa_cons (pv 5) (pa_cons (pe_ix ix_tup (pe_ix ix_tup (pv 1) (pv 6) (fun _ _ => rfl)) pe_int (fun _ _ => rfl)) pa_nil)))))) (pss_one (ps_ret pe_str)) pss_nil)
  (pss_cons (ps_if (PW.pt (pw_and (pt_cmpR op_eq (pe_ix ix_tup (pv 5) pe_int (fun _ _ => rfl)) pe_str (nomark _)) (pw_and1 (pt_cmpR op_notIn_seq (pv 6) (pv 2) rfl)))) (pss_one (ps_ret pe_str)) pss_nil)
  (pss_cons (ps_if (PW.pt (pw_and (pt_cmpR op_eq (pe_ix ix_tup (pv 5) pe_int (fun _ _ => rfl)) pe_str (nomark _)) (pw_and1 (pt_cmpR op_ne (pv 6) (pe_ix (IxR.or ix_list ix_tup) (pv 2) (pe_un un_neg pe_int) (fun _ _ => rfl)) (nomark _))))) (pss_one (ps_ret pe_str)) pss_nil)
  (pss_cons (ps_if (pt_cmpR op_notIn_seq (pv 6) (pe_call G__sight_behind (hr.mono (by first | decide | omega)) (by rfl) D__sight_behind.m D__sight_behind.kp D__sight_behind.b .nil pass0 (pa_cons (pv 1) pa_nil)) rfl) (pss_one (ps_ret pe_str)) pss_nil)
  (pss_one (ps_ret pe_non))))))))))), ?_⟩
  obtain ⟨a, xs, rfl, ha, rxs, lx⟩ := play_inv rv
  refine ⟨_, rfl, a, xs, rfl, .inr ha.sq, ?_⟩
  rcases h with ⟨e0, rfl, q⟩ | ⟨hne, j, hb, hj, hsh, hsl, q1, q2⟩
  · subst e0
    have lz : xs.length = 0 := lx
    refine ⟨_, rfl, rfl, _, rfl, ite2 (fun z => ?_) (fun z => absurd (decide_eq_true (by rw [lz]; rfl)) z)⟩
    refine ⟨_, rfl, _, _, dp_noL rs (noL_st _), dp_noL (hKB H) (noL_st _), shaped_st _, shaped_st _, _, rfl, ?_⟩
    rw [show PyData.eqv (toPy (stD BEG)) (toPy (stD BEG)) = true by decide +kernel]
    exact iteT (q _ (Same.refl _))
  have hp : 0 < pl.length := List.length_pos_iff.mpr hne
  refine ⟨_, rfl, rfl, _, rfl, ite2 (fun z => ?_) (fun _ => ?_)⟩
  · have := V.int.inj (of_decide_eq_true z)
    omega
  have eln : V.int ((xs.length : Nat) : Int) = V.int ((pl.length : Nat) : Int) := by rw [lx]
  refine ⟨_, rfl, _, rfl, sv, pl.length, j, st, by rw [lx]; rfl, rs, hb, hj, hsh, hsl, fun H1 s1 => ⟨_, rfl, iteF ?_⟩⟩
  obtain ⟨b, m, bv, rfl, hbs, rm, rb⟩ := step_inv rs
  rw [hb] at rb
  obtain ⟨rfl, _⟩ := Rep.inva (w := V.int (j : Nat)) rb
  refine ⟨_, rfl, b, _, rfl, (hbs.same s1).sq, rfl, _, _, rfl, _, _, rfl, rfl, ?_⟩
  have el : lgB kd pl ns st = (decide ((pl.length - j) % 2 = 1) && (plB kd pl j st.mv && ((match st.mv with
    | .ask _ => true
    | .say _ => decide (ns.getLast? = some j)) && decide (j ∈ sight pl (pl.length - 1))))) := by
    unfold lgB
    rw [hb] <;> rfl
  rw [el] at q1 q2
  refine ⟨_, rfl, _, rfl, _, _, rfl, rfl, _, _, rfl, rfl, (by show (0 : Int) < 2; decide), rfl, _, rfl, ite2 (fun z => ?_) (fun z => ?_)⟩
  · have h0 : (((xs.length : Nat) : Int) - (j : Int)) % 2 = 0 := V.int.inj (of_decide_eq_true z)
    refine q2 _ _ s1 ?_
    rw [decide_eq_false (by omega), Bool.false_and]
  have hodd : (pl.length - j) % 2 = 1 := by
    have h0 : ¬ (((xs.length : Nat) : Int) - (j : Int)) % 2 = 0 := fun e => z (decide_eq_true (congrArg V.int e))
    omega
  rw [decide_eq_true hodd, Bool.true_and] at q1 q2
  have ep : pl[j]? = some pl[j] := List.getElem?_eq_getElem hj
  obtain ⟨x, hx, rx⟩ := play_at rxs ep
  obtain ⟨a2, m2, b2, rfl, ha2, rm2, rb2⟩ := step_inv rx
  refine ⟨_, rfl, _, rfl, _, rfl, _, rfl, a, xs, _, _, rfl, rfl, (ha.same s1).sq, atI_nat hx, a2, _, 0, _, rfl, rfl, (ha2.same s1).sq, atI_nat (j := 0) rfl, ?_⟩
  refine ⟨kv, m, m2, kd, st.mv, pl[j].mv, pl, j, pl[j].back, rfl, rk.mono (kx_same s1), hk, rm.mono (kx_same s1), rm2.mono (kx_same s1), ep, fun H2 s2 => ⟨_, rfl, ?_⟩⟩
  have s12 := s1.trans s2
  cases hpl : plB kd pl j st.mv with
  | false =>
    rw [hpl] at q2
    exact iteT (q2 _ _ s12 rfl)
  | true =>
    rw [hpl, Bool.true_and] at q1 q2
    refine iteF ?_
    -- the word of the move
    have hword : ∃ c y, m = .ref c ∧ ∀ H', Same H H' → SqT K H' c [.str (match st.mv with | .ask _ => "ask" | .say _ => "say"), y] := by
      cases hmv : st.mv with
      | ask p =>
        rw [hmv] at rm
        obtain ⟨c, y, rfl, hc, ry⟩ := ask_inv rm
        exact ⟨c, y, rfl, fun H' e => (hc.same e).sq⟩
      | say u =>
        rw [hmv] at rm
        obtain ⟨c, rfl, hc⟩ := say_inv rm
        exact ⟨c, _, rfl, fun H' e => (hc.same e).sq⟩
    obtain ⟨c, y, rfl, hc⟩ := hword
    refine nx_rest (fun σ' H' => Same H H' ∧ σ' = [some kv, some (.ref a), some (.ref l), some (.ref b), some (.int ((xs.length : Nat) : Int)), some (.ref c), some (.int (j : Nat))] ∧ ∀ u, st.mv = .say u → j ∈ ns) (fun rest => ?_) ?_
    · cases hmv : st.mv with
      | ask p =>
        rw [hmv] at hc
        exact ⟨_, rfl, c, _, 0, _, rfl, rfl, hc _ s12, atI_nat (j := 0) rfl, rfl, _, rfl, iteF (rest _ _ ⟨s12, rfl, fun u e => by rw [hmv] at e; cases e⟩)⟩
      | say u =>
        rw [hmv] at hc q2
        refine ⟨_, rfl, c, _, 0, _, rfl, rfl, hc _ s12, atI_nat (j := 0) rfl, rfl, _, rfl, iteT ⟨_, rfl, _, rfl, l, _, rfl, hws _ s12, rfl, flat_nats _, _, rfl, ?_⟩⟩
        by_cases hjn : j ∈ ns
        · rw [show (!inV (.int (j : Nat)) (nats ns)) = false by rw [inV_of hjn]; rfl]
          exact iteF (rest _ _ ⟨s12, rfl, fun _ _ => hjn⟩)
        · rw [show (!inV (.int (j : Nat)) (nats ns)) = true by rw [inV_iff, decide_eq_false hjn]; rfl]
          refine iteT (q2 _ _ s12 ?_)
          rw [decide_eq_false (fun e => hjn (List.mem_of_getLast? e)), Bool.false_and]
    rintro σ H3 ⟨s3, rfl, hm⟩
    refine seq_rest (fun σ' H' => Same H H' ∧ σ' = [some kv, some (.ref a), some (.ref l), some (.ref b), some (.int ((xs.length : Nat) : Int)), some (.ref c), some (.int (j : Nat))] ∧ (match st.mv with
      | .ask _ => true
      | .say _ => decide (ns.getLast? = some j)) = true) (fun rest => ?_) ?_
    · cases hmv : st.mv with
      | ask p =>
        rw [hmv] at hc
        exact ⟨_, rfl, c, _, 0, _, rfl, rfl, hc _ s3, atI_nat (j := 0) rfl, rfl, _, rfl, iteF (rest _ _ ⟨s3, rfl, by rw [hmv]⟩)⟩
      | say u =>
        rw [hmv] at hc q2
        have hjn := hm u hmv
        obtain ⟨k, hk2⟩ : ∃ k, ns.getLast? = some k := by
          cases e : ns.getLast? with
          | none =>
            rw [List.getLast?_eq_none_iff.mp e] at hjn
            cases hjn
          | some k => exact ⟨k, rfl⟩
        refine ⟨_, rfl, c, _, 0, _, rfl, rfl, hc _ s3, atI_nat (j := 0) rfl, rfl, _, rfl, iteT ⟨_, rfl, _, rfl, 1, rfl, ?_⟩⟩
        have hat := last_at hk2
        refine (hws _ s3).imp (fun h => ⟨l, _, -1, _, rfl, rfl, h, hat, ?_⟩) (fun h => ⟨l, _, -1, _, rfl, rfl, h, hat, ?_⟩)
        all_goals
          refine ⟨rfl, _, rfl, ?_⟩
          by_cases hjk : k = j
          · subst hjk
            rw [show (!decide (V.int (k : Nat) = V.int (k : Nat))) = false by rw [decide_eq_true rfl]; rfl]
            exact iteF (rest _ _ ⟨s3, rfl, by rw [hmv]; exact decide_eq_true hk2⟩)
          · rw [show (!decide (V.int (j : Nat) = V.int (k : Nat))) = true by rw [decide_eq_false (fun e => hjk (by have := V.int.inj e; omega))]; rfl]
            refine iteT (q2 _ _ s3 ?_)
            rw [hk2, decide_eq_false (fun e => hjk (Option.some.inj e)), Bool.false_and]
    rintro σ H4 ⟨s4, rfl, hm2⟩
    rw [hm2, Bool.true_and] at q1 q2
    refine ⟨_, rfl, _, rfl, .ref a, pl, rfl, rv.mono (kx_same s4), hwb, hp, hlen, fun z H5 s5 rz => ?_⟩
    obtain ⟨za, zx, rfl, hza, rzx⟩ := Rep.inv (ts := (sight pl (pl.length - 1)).map numD') rz
    have ezx := rep_nats_inv rzx
    subst ezx
    have s45 := s4.trans s5
    refine ⟨za, _, rfl, .inr hza.sq, rfl, flat_nats _, _, rfl, ?_⟩
    by_cases hs : j ∈ sight pl (pl.length - 1)
    · rw [show (!inV (.int (j : Nat)) (nats (sight pl (pl.length - 1)))) = false by rw [inV_of hs]; rfl]
      exact iteF (q1 _ s45 (decide_eq_true hs))
    · rw [show (!inV (.int (j : Nat)) (nats (sight pl (pl.length - 1)))) = true by rw [inV_iff, decide_eq_false hs]; rfl]
      exact iteT (q2 _ _ s45 (decide_eq_false hs))
end
/-! ### a comprehension of two clauses -/
def InL (g1 : TG) (tt1 : TT) (te : TE) (vs1 : List Nat) (σ2 : L2.St) (D : Addr) (Nx : Hp → Prop) (J1 : It) (H4 : Hp) : Prop := ∃ W1 : Nat → Nat → Hp → Prop, (∃ m, W1 0 m H4) ∧ ∀ j k H, W1 j k H →
  (J1.stop j H ∧ Nx H) ∨ (J1.go j H ∧ ∃ Nx1 : Hp → Prop, (∀ H', Nx1 H' → ∃ k', k' < k ∧ W1 (j + 1) k' H') ∧ ∀ x H', J1.yld j H x H' → g1 x (wipe σ2 vs1) H' fun σ3 H5 => wipe σ3 vs1 = wipe σ2 vs1 ∧ tt1 σ3 H5 fun b H6 =>
    if b = true then te σ3 H6 fun y H7 => ∃ acc, H7 D = some (.lst acc) ∧ acc.length < sizeLine ∧ Nx1 (upd H7 D (.lst (acc ++ [y]))) else Nx1 H6)
theorem inl_list {K : PySem.W.Frag} {a : Addr} {xs : List V} {g1 : TG} {tt1 : TT} {te : TE} {vs1 : List Nat} {σ2 : L2.St} {D : Addr} {Nx : Hp → Prop} {H4 : Hp} (Pv : Nat → Hp → Prop) (h0 : Pv 0 H4) (hl : ∀ i H, i ≤ xs.length → Pv i H → SqL K H a xs)
    (hs : ∀ i x H, xs[i]? = some x → Pv i H → g1 x (wipe σ2 vs1) H fun σ3 H2 => wipe σ3 vs1 = wipe σ2 vs1 ∧ tt1 σ3 H2 fun b H3 =>
      if b = true then te σ3 H3 fun y H4 => ∃ acc, H4 D = some (.lst acc) ∧ acc.length < sizeLine ∧ Pv (i + 1) (upd H4 D (.lst (acc ++ [y]))) else Pv (i + 1) H3) (hd : ∀ H, Pv xs.length H → Nx H) : InL g1 tt1 te vs1 σ2 D Nx (Itl K a) H4 := by
  refine ⟨fun i m H => m = xs.length - i ∧ i ≤ xs.length ∧ Pv i H, ⟨xs.length, by simp, Nat.zero_le _, h0⟩, ?_⟩
  rintro i m H ⟨rfl, hi, p⟩
  have q := hl i H hi p
  by_cases hlt : i < xs.length
  · refine .inr ⟨⟨xs, xs[i], q, by simp [hlt]⟩, Pv (i + 1), fun H' p' => ⟨xs.length - (i + 1), by omega, rfl, hlt, p'⟩, fun x H' y => ?_⟩
    obtain ⟨e, y⟩ := y
    subst e
    exact hs i x _ (y xs q) p
  · have e : i = xs.length := by omega
    subst e
    exact .inl ⟨⟨xs, q, Nat.le_refl _⟩, hd H p⟩
theorem lc2_tup {K : PySem.W.Frag} {a : Addr} {xs : List V} {g : TG} {tt : TT} {wi1 : TI} {g1 : TG} {tt1 : TT} {te : TE} {vs vs1 : List Nat} {σ : L2.St} {H1 : Hp} {D : Addr} {Qd : Hp → Prop} (Pv : Nat → Hp → Prop) (h0 : Pv 0 (upd H1 D (.lst []))) (hl : ∀ i H, i ≤ xs.length → Pv i H → SqT K H a xs)
    (hs : ∀ i x H, xs[i]? = some x → Pv i H → g x (wipe σ vs) H fun σ2 H2 => wipe σ2 vs = wipe σ vs ∧ tt σ2 H2 fun b H3 =>
      if b = true then wi1 σ2 H3 (InL g1 tt1 te vs1 σ2 D (Pv (i + 1))) else Pv (i + 1) H3) (hd : ∀ H, Pv xs.length H → Qd H) :
    ∃ W : Nat → Nat → Hp → Prop, (∃ m, W 0 m (upd H1 D (.lst []))) ∧ ∀ i m H, W i m H →
      ((Itt K a).stop i H ∧ Qd H) ∨ ((Itt K a).go i H ∧ ∃ Nx : Hp → Prop, (∀ H', Nx H' → ∃ m', m' < m ∧ W (i + 1) m' H') ∧ ∀ x H', (Itt K a).yld i H x H' → g x (wipe σ vs) H' fun σ2 H2 => wipe σ2 vs = wipe σ vs ∧ tt σ2 H2 fun b H3 =>
        if b = true then wi1 σ2 H3 (InL g1 tt1 te vs1 σ2 D Nx) else Nx H3) := by
  refine ⟨fun i m H => m = xs.length - i ∧ i ≤ xs.length ∧ Pv i H, ⟨xs.length, by simp, Nat.zero_le _, h0⟩, ?_⟩
  rintro i m H ⟨rfl, hi, p⟩
  have q := hl i H hi p
  by_cases hlt : i < xs.length
  · refine .inr ⟨⟨xs, xs[i], q, by simp [hlt]⟩, Pv (i + 1), fun H' p' => ⟨xs.length - (i + 1), by omega, rfl, hlt, p'⟩, fun x H' y => ?_⟩
    obtain ⟨e, y⟩ := y
    subst e
    exact hs i x _ (y xs q) p
  · have e : i = xs.length := by omega
    subst e
    exact .inl ⟨⟨xs, q, Nat.le_refl _⟩, hd H p⟩
section
variable {P : Program} {w : World} {K : PySem.W.Frag} {mg : Str → Option Value} {base : Heap}
theorem LP.at {kd : D} {pl : List Stp} (h : LP kd pl) {j : Nat} {p : List Nat} (e : askPl pl j = some p) : ∃ e, atD kd p = some e := by
  obtain ⟨b, hb⟩ := askPl_some e
  exact h.pa j p b hb
/-! ### steps_to -/
def spST (K : PySem.W.Frag) : Sp := fun vs H Q _ => ∃ (kv v : V) (kd : D) (pl : List Stp) (j : Nat), vs = [kv, v, .int (j : Nat)] ∧ Rep K H kv kd ∧ isK kd = true ∧ sz kd ≤ 60 ∧ Rep K H v (playD pl) ∧ LP kd pl ∧ j < pl.length ∧
  ∀ l H', Same H H' → H l = none → RxAt K H' l (stepsTo kd pl j) 62 → Q (.ref l) H'
end
end Pk

set_option maxRecDepth 100000
set_option maxHeartbeats 4000000
set_option pp.maxSteps 600
namespace Pk
open PySem PySem.Spec PyProof.Rows L2
section
variable {P : Program} {w : World} {K : PySem.W.Frag} {mg : Str → Option Value} {base : Heap}
/-! ### fault_of -/
def spFo (K : PySem.W.Frag) : Sp := fun vs H Q _ => ∃ (kv v : V) (kd : D) (pl : List Stp) (s : Stp) (j : Nat), vs = [kv, v] ∧ Rep K H kv kd ∧ isK kd = true ∧ sz kd ≤ 60 ∧ Rep K H v (playD (pl ++ [s])) ∧ LQ kd pl ∧ pl ≠ [] ∧ s.back = some j ∧ j < pl.length ∧ ShS s ∧ (∀ p, s.mv = .ask p → p.length ≤ 1000) ∧
  (∀ H', Same H H' → lgB kd pl (opens pl pl.length) s = true → Q .non H') ∧ ∀ z x H', Same H H' → lgB kd pl (opens pl pl.length) s = false → Rep K H' z (.tup [numD' pl.length, .at (.str x)]) → Q z H'
theorem opens_app (pl : List Stp) (s : Stp) {i : Nat} (h : i ≤ pl.length) : opens (pl ++ [s]) i = opens pl i := by
  have := opens_take (pl ++ [s]) pl.length i h
  rw [List.take_left] at this
  exact this.symm
theorem ok_fo {bg f f0 f1 f2 f3 f4 f5 f6 f7 f8 f9 : Addr} {fd d0 d1 d2 d3 d4 d5 d6 d7 d8 d9 : FuncData} (hBG : mg "BEGINNING" = some (.ref bg)) (hKB : ∀ H, Rep K H (.ref bg) (stD BEG)) (D_fault_of : Df K mg "fault_of" s_fault_of ["kind", "play"] f fd)
    (D__is_later_step : Df K mg "_is_later_step" s__is_later_step ["value", "number"] f0 d0) (D__is_move : Df K mg "_is_move" s__is_move ["value"] f1 d1) (D_is_tuple_of : Df K mg "is_tuple_of" s_is_tuple_of ["value", "many"] f2 d2)
    (D_is_whole : Df K mg "is_whole" s_is_whole ["value"] f3 d3) (D_is_answer : Df K mg "is_answer" s_is_answer ["value"] f4 d4) (D__is_placed : Df K mg "_is_placed" s__is_placed ["kind", "move", "answered"] f5 d5) (D_kind_at : Df K mg "kind_at" s_kind_at ["kind", "place"] f6 d6)
    (D__sight_behind : Df K mg "_sight_behind" s__sight_behind ["play"] f7 d7) (D__reason_against : Df K mg "_reason_against" s__reason_against ["kind", "play", "waiting", "step"] f8 d8) (D__note_open : Df K mg "_note_open" s__note_open ["waiting", "number", "step"] f9 d9)
    (B : Bt mg) : FnOk P w K mg base CX0 6 f fd ["kind", "play"] (spFo K) := by
  have G__reason_against : FnOk P w K mg base CX0 5 f8 d8 ["kind", "play", "waiting", "step"] (spRA K) := ok_ra hBG hKB D__reason_against D__is_later_step D__is_move D_is_tuple_of D_is_whole D_is_answer D__is_placed D_kind_at D__sight_behind B
  have G__note_open : FnOk P w K mg base CX0 1 f9 d9 ["waiting", "number", "step"] (spNO K) := ok_no D__note_open B
  refine D_fault_of.ok c_fault_of (fun vs H Q E h => ?_) (fun cdv A outer s H vs Q E hr h => ?_)
  · obtain ⟨kv, v, kd, pl, s, j, rfl, _⟩ := h
    rfl
  obtain ⟨kv, v, kd, pl, st, j, rfl, rk, hk, hkz, rv, hLQ, hne, hb, hj, hsh, hsl, q1, q2⟩ := h
  have nd := c_fault_of.nd
  refine ⟨_, (pss_cons (ps_set (i := 2) nd rfl (Or.inl rfl) (pe_lst pa_nil))
  (pss_cons (ps_for PassesOwn.never rfl (pi_enumT (by rfl) B.b_enumerate (pa_cons (pv 1) pa_nil)) (pg_tup rfl (pgs_cons (pg_name (i := 3) nd rfl (Or.inl rfl)) (pgs_cons (pg_name (i := 4) nd rfl (Or.inl rfl)) pgs_nil))) (pss_cons (ps_set (i := 5) nd rfl (Or.inl rfl) (pe_call G__reason_against (hr.mono (by first | decide | omega)) (by rfl) D__reason_against.m D__reason_against.kp D__reason_against.b .nil pass0 (pa_cons (pv 0) (pa_cons (pe_slice sl_tupP (pv 1) po_none (po_some (pv 3))) (pa_cons (pv 2) (pa_cons (pv 4) pa_nil))))))
  (pss_cons (ps_if (pt_cmpR op_notN (pv 5) pe_non (nomark _)) (pss_one (ps_ret (pe_tup (pa_cons (pv 3) (pa_cons (pv 5) pa_nil))))) pss_nil)
  (pss_one (ps_expr (pe_call G__note_open (hr.mono (by first | decide | omega)) (by rfl) D__note_open.m D__note_open.kp D__note_open.b .nil pass0 (pa_cons (pv 2) (pa_cons (pv 3) (pa_cons (pv 4) pa_nil)))))))))
  (pss_one (ps_ret pe_non)))), ?_⟩
  obtain ⟨a, xs, rfl, ha, rxs, lx⟩ := play_inv rv
  rw [List.length_append, List.length_singleton] at lx
  have hLP := hLQ.lp
  have hlen := hLP.len
  have hp : 0 < pl.length := List.length_pos_iff.mpr hne
  -- the step at each turn
  have hat : ∀ i, i < xs.length → ∃ t, (pl ++ [st])[i]? = some t ∧ ((i < pl.length ∧ pl[i]? = some t) ∨ (i = pl.length ∧ t = st)) := fun i hi => by
    by_cases h : i < pl.length
    · exact ⟨pl[i], by rw [List.getElem?_append_left h, List.getElem?_eq_getElem h], .inl ⟨h, List.getElem?_eq_getElem h⟩⟩
    · have e : i = pl.length := by omega
      subst e
      exact ⟨st, by rw [List.getElem?_append_right (Nat.le_refl _), Nat.sub_self]; rfl, .inr ⟨rfl, rfl⟩⟩
  refine ⟨(by show 0 ≤ sizeLine; decide), fun l nl => ?_⟩
  refine ⟨_, rfl, a, xs, rfl, (ha.same (same_new nl _)).sq, for_it walk_enumT (fun i σ H' => Nw l H H' (nats (opens (pl ++ [st]) i)) ∧ (i = xs.length → lgB kd pl (opens pl pl.length) st = true) ∧ ∃ (y3 y4 y5 : Option V), σ = [some kv, some (.ref a), some (.ref l), y3, y4, y5])
    ⟨⟨same_new nl _, nl, upd_same⟩, fun e => by omega, none, none, none, rfl⟩ (fun i σ H' _ h => (ha.same h.1.s).sq) ?_ ?_⟩
  · rintro i x σ H1 H1' hi ⟨hn, _, y3, y4, y5, rfl⟩ ⟨T, x1, y1, rfl, nT, rfl, hx1, hy1⟩
    have hx1' : V.int (i : Nat) = x1 := Option.some.inj hx1
    subst hx1'
    obtain ⟨t, ht, hcase⟩ := hat i hi
    obtain ⟨y1', hy', ry⟩ := play_at rxs ht
    have hy2 : xs[i]? = some y1 := hy1
    rw [hy2] at hy'
    cases hy'
    have hil : i ≤ pl.length := by omega
    have eo : opens (pl ++ [st]) i = opens pl i := opens_app pl st hil
    rw [eo] at hn
    have sT := same_new nT (.tup [.int (i : Nat), y1])
    have hn2 := hn.step sT
    refine ⟨T, _, rfl, SqT.of upd_same, rfl, _, _, rfl, _, _, rfl, rfl, ?_⟩
    -- what stands ahead of it
    refine ⟨_, rfl, _, rfl, _, rfl, _, rfl, a, xs, rfl, ha.same hn2.s, fun cp H2 s2 hcp => ?_⟩
    rw [cutV_to] at hcp
    have rpart : Rep K H2 (.ref cp) (playD (pl.take i)) := by
      show Rep K H2 (.ref cp) (.tup ((pl.take i).map stD))
      have e : (pl.take i).map stD = ((pl ++ [st]).map stD).take i := by
        rw [← List.map_take, List.take_append_of_le_length hil]
      rw [e]
      exact .tup hcp ((rxs.mono (kx_same (hn2.s.trans s2))).take i)
    have hn3 := hn2.step s2
    have s03 := hn3.s
    have eti : (pl.take i).length = i := by
      rw [List.length_take]
      omega
    have eot : opens (pl.take i) (pl.take i).length = opens pl i := by
      rw [eti]
      exact opens_take pl i i (Nat.le_refl _)
    have hLt := hLP.take i
    have ry2 := ry.mono (kx_same s03)
    have hol := opens_len pl i
    -- behind a legal step
    have go : ∀ (H5 : Hp), Same H2 H5 → (∀ u, t.mv = .say u → ∃ k, t.back = some k ∧ k ∈ opens pl i) → (i + 1 = xs.length → lgB kd pl (opens pl pl.length) st = true) →
        Nw l H (upd H5 l (.lst (nats (opnS (opens pl i) i t)))) (nats (opens (pl ++ [st]) (i + 1))) ∧ (i + 1 = xs.length → lgB kd pl (opens pl pl.length) st = true) := fun H5 s5 hs hg => by
      refine ⟨?_, hg⟩
      rw [opens_succ ht, eo]
      exact (hn3.step s5).put _
    refine ⟨_, rfl, _, rfl, kv, .ref cp, y1, l, kd, pl.take i, opens pl i, t, rfl, rk.mono (kx_same s03), hk, rpart, .inl (SqL.of hn3.h), fun H' e => .inl (SqL.of (e _ _ hn3.h)), ry2, hLt.wb, by omega, ?_⟩
    rcases hcase with ⟨hlt, hpt⟩ | ⟨rfl, rfl⟩
    · -- a step of the legal play
      have hmem := hLQ.rs i t hpt
      by_cases h0 : i = 0
      · subst h0
        have et : t = BEG := List.mem_singleton.mp hmem
        subst et
        refine .inl ⟨rfl, rfl, fun H5 s5 => ?_⟩
        refine ⟨_, rfl, rfl, _, rfl, iteF ⟨_, rfl, _, rfl, _, rfl, l, opens pl 0, 0, y1, BEG, rfl, (hn3.step s5).h, ry2.mono (kx_same s5), opens_up pl 0, by omega, fun u e => (by cases e), ?_⟩⟩
        obtain ⟨g1, g2⟩ := go H5 s5 (fun u e => by cases e) (fun e => by omega)
        exact ⟨g1, g2, _, _, _, rfl⟩
      · have hti : pl.take i ≠ [] := fun e => by
          have := congrArg List.length e
          rw [eti] at this
          exact h0 this
        obtain ⟨hlg, hshT⟩ := (mem_rows hk).mp ((lawR_mem hti).mp hmem)
        rw [eot] at hlg
        obtain ⟨k, hk1, hk2⟩ := hLP.wb.later i t (Nat.pos_of_ne_zero h0) hpt
        have hsay : ∀ u, t.mv = .say u → ∃ k, t.back = some k ∧ k ∈ opens pl i := fun u e => by
          obtain ⟨m, b⟩ := t
          have e' : m = .say u := e
          subst e'
          exact hLP.op i u b hpt
        refine .inr ⟨hti, k, hk1, by omega, hshT, fun p e => ?_, fun H5 s5 _ => ?_, fun x5 H5 s5 hf => ?_⟩
        · obtain ⟨m, b⟩ := t
          have e' : m = .ask p := e
          subst e'
          obtain ⟨e2, he2⟩ := hLP.pa i p b hpt
          have := atD_len p kd _ he2
          omega
        · refine ⟨_, rfl, rfl, _, rfl, iteF ⟨_, rfl, _, rfl, _, rfl, l, opens pl i, i, y1, t, rfl, (hn3.step s5).h, ry2.mono (kx_same s5), opens_up pl i, by omega, hsay, ?_⟩⟩
          obtain ⟨g1, g2⟩ := go H5 s5 hsay (fun e => by omega)
          exact ⟨g1, g2, _, _, _, rfl⟩
        · rw [hlg] at hf
          cases hf
    · -- the last one
      rw [List.take_length] at rpart ⊢
      refine .inr ⟨hne, j, hb, hj, hsh, hsl, fun H5 s5 hlg => ?_, fun x5 H5 s5 hf => ?_⟩
      · have hsay : ∀ u, t.mv = .say u → ∃ k, t.back = some k ∧ k ∈ opens pl pl.length := fun u e => by
          obtain ⟨m, b⟩ := t
          have e' : m = .say u := e
          subst e'
          obtain ⟨k, q, e1, _, _, e2, _⟩ := lg_say.mp hlg
          exact ⟨k, e1, List.mem_of_getLast? e2⟩
        refine ⟨_, rfl, rfl, _, rfl, iteF ⟨_, rfl, _, rfl, _, rfl, l, opens pl pl.length, pl.length, y1, t, rfl, (hn3.step s5).h, ry2.mono (kx_same s5), opens_up pl _, by omega, hsay, ?_⟩⟩
        obtain ⟨g1, g2⟩ := go H5 s5 hsay (fun _ => hlg)
        exact ⟨g1, g2, _, _, _, rfl⟩
      · refine ⟨_, rfl, rfl, _, rfl, iteT ⟨_, rfl, _, rfl, (by show 2 ≤ sizeLine; decide), fun tt ntt => ?_⟩⟩
        have st2 := same_new ntt (.tup [.int (pl.length : Nat), .str x5])
        exact q2 _ x5 _ (s03.trans (s5.trans st2)) hf (.tup' upd_same (.cons (.at rfl) (.one (.at rfl))))
  · rintro σ H1 ⟨hn, hg, y3, y4, y5, rfl⟩
    exact q1 _ hn.s (hg rfl)
end

end Pk

set_option maxRecDepth 100000
set_option maxHeartbeats 4000000
set_option pp.maxSteps 600
namespace Pk
open PySem PySem.Spec PyProof.Rows L2
/-! ### the sights of a program's rows are legal plays -/
theorem sight_self {pl : List Stp} (h : WB pl) {n : Nat} (hn : n < pl.length) : n ∈ sight pl n := by
  by_cases h0 : n = 0
  · subst h0
    rw [sight_zero]
    exact List.mem_singleton.mpr rfl
  · by_cases hb : bk pl n = 0
    · rw [sight_one (by omega) hb]
      simp
    · rw [sight_more h (by omega) hn hb]
      simp
/-- every second step leads back to the one before it: nothing is hidden -/
theorem sight_all {pl : List Stp} (h : WB pl) (ev : ∀ i, 0 < i → i < pl.length → i % 2 = 0 → bk pl i = i - 1) : ∀ (n : Nat), n < pl.length → n % 2 = 0 → ∀ j, j ≤ n → j ∈ sight pl n := by
  intro n
  induction n using Nat.strongRecOn with
  | ind n ih =>
    intro hn he j hj
    by_cases h0 : n = 0
    · subst h0
      rw [sight_zero, show j = 0 by omega]
      exact List.mem_singleton.mpr rfl
    · have hb := ev n (by omega) hn he
      rw [sight_more h (by omega) hn (by omega), hb]
      by_cases hjn : j ≤ n - 1 - 1
      · exact List.mem_append_left _ (ih (n - 1 - 1) (by omega) (by omega) (by omega) j hjn)
      · refine List.mem_append_right _ ?_
        have : j = n - 1 ∨ j = n := by omega
        rcases this with e | e
        · rw [e]
          simp
        · rw [e]
          simp
structure VQ (kd : D) (s : List Stp) (cs : List Nat) : Prop where
  lq : LQ kd s
  odd : s.length % 2 = 1
  ev : ∀ i, 0 < i → i < s.length → i % 2 = 0 → bk s i = i - 1
  last : (opens s s.length).getLast? = some (cs.getD 0 0)
theorem lg_nx {kd : D} (hk : isK kd = true) {s : List Stp} (hs : s ≠ []) {x : Stp} (h : lgB kd s (opens s s.length) x = true) (hv : ShS x) : NxR kd s x := (lawR_mem hs).mpr ((mem_rows hk).mpr ⟨h, hv⟩)
theorem VQ.ne {kd : D} {s : List Stp} {cs : List Nat} (h : VQ kd s cs) : s ≠ [] := fun e => by
  have := h.odd
  rw [e] at this
  cases this
theorem VQ.lgAsk {kd : D} (hk : isK kd = true) {ks : List D} {s : List Stp} {cs : List Nat} (h : VQ kd s cs) (i : InK kd ks s cs) {up k : Nat} {kd' a : D} (e1 : ks[up]? = some kd') (e2 : (args kd')[k]? = some a) :
    lgB kd s (opens s s.length) (asK s (cs.getD up 0) k) = true ∧ atD kd (plc s (cs.getD up 0) ++ [k]) = some a := by
  have hu : up < cs.length := by
    have := (List.getElem?_eq_some_iff.mp e1).1
    rw [i.l]
    exact this
  have hm := mem_getD hu
  have ec : cs[up]? = some (cs.getD up 0) := by
    rw [List.getElem?_eq_getElem hu, List.getD_eq_getElem?_getD, List.getElem?_eq_getElem hu]
    rfl
  have hat := i.k up _ kd' ec e1
  obtain ⟨ts, rfl, hts⟩ := args_at e2
  have hat2 := atD_snoc _ kd ts k a hat hts
  obtain ⟨p, b, ep⟩ := i.c _ hm
  have hlt := i.c.lt hm
  have hev := i.e _ hm
  have hodd := h.odd
  refine ⟨(lg_ask hk).mpr ⟨cs.getD up 0, plc s (cs.getD up 0), k, rfl, by omega, ?_, ?_, rfl, ?_⟩, hat2⟩
  · rw [plc_at ep]
    exact askPl_of ep
  · exact (kids_at hk).mpr (by rw [hat2]; rfl)
  · exact sight_all h.lq.lp.wb h.ev _ (by omega) (by omega) _ (by omega)
theorem last_sn {s : List Stp} {x : Stp} : (s ++ [x])[s.length]? = some x := by
  rw [List.getElem?_append_right (Nat.le_refl _), Nat.sub_self]
  rfl
theorem len_sn (s : List Stp) (x : Stp) : (s ++ [x]).length = s.length + 1 := by rw [List.length_append, List.length_singleton]
theorem opens_sn (s : List Stp) (x : Stp) : opens (s ++ [x]) (s ++ [x]).length = opnS (opens s s.length) s.length x := by
  rw [len_sn, opens_succ last_sn, opens_app s x (Nat.le_refl _)]
theorem opens_askn (s : List Stp) (p : List Nat) (b : Option Nat) : opens (s ++ [⟨.ask p, b⟩]) (s ++ [(⟨.ask p, b⟩ : Stp)]).length = opens s s.length ++ [s.length] := opens_sn s _
theorem bk_two {s : List Stp} {x y : Stp} {n : Nat} (h : n < s.length) : bk (s ++ [x] ++ [y]) n = bk s n := by
  rw [bk_old (by rw [len_sn]; omega), bk_old h]
/-- behind an ask: its answer, or an ask of its argument -/
theorem VQ.go {kd : D} (hk : isK kd = true) {s : List Stp} {cs cs' : List Nat} (h : VQ kd s cs) {x y : Stp} {p : List Nat} {c : Nat} (ex : x = ⟨.ask p, some c⟩) (lx : lgB kd s (opens s s.length) x = true) (hl : s.length + 2 ≤ 40) (hb : y.back = some s.length)
    (ly : lgB kd (s ++ [x]) (opens (s ++ [x]) (s ++ [x]).length) y = true) (hv : ShS y) (hlast : (opens (s ++ [x] ++ [y]) (s ++ [x] ++ [y]).length).getLast? = some (cs'.getD 0 0)) : VQ kd (s ++ [x] ++ [y]) cs' := by
  have q1 := h.lq.snoc hk (lg_nx hk h.ne lx (fun u e => by rw [ex] at e; cases e)) (by omega)
  have q2 := q1.snoc hk (lg_nx hk (by simp) ly hv) (by rw [len_sn]; omega)
  have hodd := h.odd
  refine ⟨q2, by rw [len_sn, len_sn]; omega, fun i h0 hi he => ?_, hlast⟩
  rw [len_sn, len_sn] at hi
  by_cases hs : i < s.length
  · rw [bk_two hs]
    exact h.ev i h0 hs he
  · have e : i = (s ++ [x]).length := by
      rw [len_sn]
      omega
    rw [e, bk_snoc hb, len_sn]
    omega
theorem VQ.lgSay {kd : D} (hk : isK kd = true) {s : List Stp} {cs : List Nat} (h : VQ kd s cs) {x : Stp} {p : List Nat} {c : Nat} (ex : x = ⟨.ask p, some c⟩) (lx : lgB kd s (opens s s.length) x = true) (hl : s.length + 2 ≤ 40) (v : Nat) :
    lgB kd (s ++ [x]) (opens (s ++ [x]) (s ++ [x]).length) ⟨.say v, some s.length⟩ = true := by
  have q1 := h.lq.snoc hk (lg_nx hk h.ne lx (fun u e => by rw [ex] at e; cases e)) (by omega)
  refine lg_say.mpr ⟨s.length, p, rfl, by rw [len_sn]; omega, ?_, ?_, ?_⟩
  · refine askPl_of (b := some c) ?_
    rw [← ex]
    exact last_sn
  · rw [ex, opens_askn]
    exact List.getLast?_concat
  · rw [len_sn]
    exact sight_self q1.lp.wb (by rw [len_sn]; omega)
theorem VQ.lgArg {kd : D} (hk : isK kd = true) {s : List Stp} {cs : List Nat} (h : VQ kd s cs) {x : Stp} {p : List Nat} {c i : Nat} {d : D} (ex : x = ⟨.ask p, some c⟩) (lx : lgB kd s (opens s s.length) x = true) (hl : s.length + 2 ≤ 40) (hd : atD kd (p ++ [i]) = some d) :
    lgB kd (s ++ [x]) (opens (s ++ [x]) (s ++ [x]).length) ⟨.ask (p ++ [i]), some s.length⟩ = true := by
  have q1 := h.lq.snoc hk (lg_nx hk h.ne lx (fun u e => by rw [ex] at e; cases e)) (by omega)
  refine (lg_ask hk).mpr ⟨s.length, p, i, rfl, by rw [len_sn]; omega, ?_, ?_, rfl, ?_⟩
  · refine askPl_of (b := some c) ?_
    rw [← ex]
    exact last_sn
  · exact (kids_at hk).mpr (by rw [hd]; rfl)
  · rw [len_sn]
    exact sight_self q1.lp.wb (by rw [len_sn]; omega)
theorem opens_sayd {s : List Stp} {x : Stp} {p : List Nat} {c : Nat} (ex : x = ⟨.ask p, some c⟩) (v : Nat) : opens (s ++ [x] ++ [⟨.say v, some s.length⟩]) (s ++ [x] ++ [(⟨.say v, some s.length⟩ : Stp)]).length = opens s s.length := by
  rw [opens_sn, ex, opens_askn]
  show ((opens s s.length ++ [s.length]).filter fun j => decide (some j ≠ some s.length)) = _
  rw [List.filter_append, List.filter_eq_self.mpr fun j hj => ?_]
  · simp
  · have := opens_lt s s.length j hj
    exact decide_eq_true fun e => by
      injection e with e
      omega
theorem VQ.say {kd : D} (hk : isK kd = true) {s : List Stp} {cs : List Nat} (h : VQ kd s cs) {x : Stp} {p : List Nat} {c : Nat} (ex : x = ⟨.ask p, some c⟩) (lx : lgB kd s (opens s s.length) x = true) (hl : s.length + 2 ≤ 40) {v : Nat} (hv : v ≤ 1) :
    VQ kd (s ++ [x] ++ [⟨.say v, some s.length⟩]) cs := by
  refine h.go hk ex lx hl rfl (h.lgSay hk ex lx hl v) (fun u e => ?_) ?_
  · have e' : Mv.say v = Mv.say u := e
    injection e' with e'
    omega
  · rw [opens_sayd ex]
    exact h.last
theorem VQ.arg {kd : D} (hk : isK kd = true) {s : List Stp} {cs : List Nat} (h : VQ kd s cs) {x : Stp} {p : List Nat} {c i : Nat} {d : D} (ex : x = ⟨.ask p, some c⟩) (lx : lgB kd s (opens s s.length) x = true) (hl : s.length + 2 ≤ 40) (hd : atD kd (p ++ [i]) = some d) :
    VQ kd (s ++ [x] ++ [⟨.ask (p ++ [i]), some s.length⟩]) ((s.length + 1) :: cs) := by
  refine h.go hk ex lx hl rfl (h.lgArg hk ex lx hl hd) (fun u e => by cases e) ?_
  rw [opens_askn, len_sn]
  exact List.getLast?_concat
theorem VQ.beg {kd : D} (hk : isK kd = true) : VQ kd [BEG] [0] := by
  refine ⟨(LQ.nil kd).snoc hk (List.mem_singleton.mpr rfl) (by decide), rfl, fun i h0 hi _ => ?_, rfl⟩
  have hi : i < 1 := hi
  omega
/-- what the program's reading asks of a row -/
structure RQ (kd : D) (e : Row) : Prop where
  lq : LQ kd e.1
  odd : e.1.length % 2 = 1
  ev : ∀ i, 0 < i → i < e.1.length → i % 2 = 0 → bk e.1 i = i - 1
  lg : lgB kd e.1 (opens e.1 e.1.length) e.2 = true
  sh : ShS e.2
theorem InK.two {kd : D} {ks : List D} {s : List Stp} {cs : List Nat} (h : InK kd ks s cs) (x y : Stp) : InK kd ks (s ++ [x] ++ [y]) cs := (h.app x).app y
theorem InK.more {kd d : D} {ks : List D} {s : List Stp} {cs : List Nat} (h : InK kd ks s cs) (ho : s.length % 2 = 1) (x : Stp) {q : List Nat} (hd : atD kd q = some d) (b : Option Nat) : InK kd (d :: ks) (s ++ [x] ++ [⟨.ask q, b⟩]) ((s.length + 1) :: cs) := by
  have hix := h.two x (⟨.ask q, b⟩ : Stp)
  have enew : (s ++ [x] ++ [(⟨.ask q, b⟩ : Stp)])[s.length + 1]? = some ⟨.ask q, b⟩ := by
    rw [← len_sn s x]
    exact last_sn
  refine ⟨by rw [List.length_cons, List.length_cons, h.l], fun c m => ?_, fun c m => ?_, fun j c k e1 e2 => ?_⟩
  · rcases List.mem_cons.mp m with rfl | m
    · exact ⟨_, _, enew⟩
    · exact hix.c c m
  · rcases List.mem_cons.mp m with rfl | m
    · omega
    · exact hix.e c m
  · cases j with
    | zero =>
      have e1' : s.length + 1 = c := Option.some.inj e1
      have e2' : d = k := Option.some.inj e2
      rw [← e1', ← e2', plc_at enew]
      exact hd
    | succ j => exact hix.k j c k e1 e2
theorem arg_at {kd a d : D} {q : List Nat} {i : Nat} (h : atD kd q = some a) (e : (args a)[i]? = some d) : atD kd (q ++ [i]) = some d := by
  obtain ⟨us, rfl, hus⟩ := args_at e
  exact atD_snoc _ kd us i d h hus
mutual
theorem rowsB_rq {kd : D} (hk : isK kd = true) : ∀ (t : T) (ks : List D) (s : List Stp) (cs : List Nat), wfB ks t = true → VQ kd s cs → cs ≠ [] → InK kd ks s cs → s.length + 2 * nasks t ≤ 38 → ∀ e ∈ rowsB t s cs, RQ kd e
  | .say v, ks, s, cs, hw, h, hne, hi, _, e, he => by
    rw [List.mem_singleton.mp he]
    have hm : cs.getD 0 0 ∈ cs := mem_getD (List.length_pos_iff.mpr hne)
    obtain ⟨p, b, e1⟩ := hi.c _ hm
    have hlt := hi.c.lt hm
    have hev := hi.e _ hm
    have hodd := h.odd
    have hv : v < 2 := of_decide_eq_true hw
    refine ⟨h.lq, h.odd, h.ev, lg_say.mpr ⟨cs.getD 0 0, p, rfl, by show (s.length - _) % 2 = 1; omega, askPl_of e1, h.last, sight_all h.lq.lp.wb h.ev _ (by show s.length - 1 < s.length; omega) (by show (s.length - 1) % 2 = 0; omega) _ (by show _ ≤ s.length - 1; omega)⟩, fun u e => ?_⟩
    have e' : Mv.say v = Mv.say u := e
    injection e' with e'
    omega
  | .stop, _, _, _, _, _, _, _, _, e, h => by cases h
  | .prog _ _, _, _, _, _, _, _, _, _, e, h => by cases h
  | .ask up k as z o, ks, s, cs, hw, h, hne, hi, hl, e, he => by
    obtain ⟨kd', a, e1, e2, w1, w2, w3⟩ := wfB_ask hw
    obtain ⟨lx, hat⟩ := h.lgAsk hk hi e1 e2
    have hl' : s.length + 2 * (1 + (nasksL as + (nasks z + nasks o))) ≤ 38 := hl
    rcases List.mem_cons.mp he with he | he
    · rw [he]
      exact ⟨h.lq, h.odd, h.ev, lx, fun u e => by cases e⟩
    rcases List.mem_append.mp he with he | he
    · exact rowsB_rq hk z ks _ cs w2 (h.say hk rfl lx (by omega) (by omega)) hne (hi.two _ _) (by rw [len_sn, len_sn]; omega) e he
    rcases List.mem_append.mp he with he | he
    · exact rowsB_rq hk o ks _ cs w3 (h.say hk rfl lx (by omega) (by omega)) hne (hi.two _ _) (by rw [len_sn, len_sn]; omega) e he
    · exact rowsPs_rq hk as ks (args a) (plc s (cs.getD up 0) ++ [k]) s (cs.getD up 0) cs 0 w1 h lx hi (by omega) (fun j d hd => by
        rw [Nat.zero_add]
        exact arg_at hat hd) e he
theorem rowsPs_rq {kd : D} (hk : isK kd = true) : ∀ (ts : List T) (ks ds : List D) (p : List Nat) (s : List Stp) (c : Nat) (cs : List Nat) (i : Nat), wfPs ks ds ts = true → VQ kd s cs → lgB kd s (opens s s.length) ⟨.ask p, some c⟩ = true → InK kd ks s cs → s.length + 2 + 2 * nasksL ts ≤ 38 →
    (∀ j d, ds[j]? = some d → atD kd (p ++ [i + j]) = some d) → ∀ e ∈ rowsPs ts p (s ++ [⟨.ask p, some c⟩]) s.length cs i, RQ kd e
  | [], _, _, _, _, _, _, _, _, _, _, _, _, _, e, h => by cases h
  | t :: ts, ks, ds, p, s, c, cs, i, hw, h, lx, hi, hl, hd, e, he => by
    obtain ⟨d, ds', rfl, w1, w2⟩ := wfPs_cons hw
    obtain ⟨m, b, rfl, _, w3⟩ := wfP_inv w1
    have hl' : s.length + 2 + 2 * (nasks b + nasksL ts) ≤ 38 := hl
    have hd0 : atD kd (p ++ [i]) = some d := hd 0 d rfl
    rcases List.mem_append.mp he with he | he
    · exact rowsB_rq hk b (d :: ks) _ _ w3 (h.arg hk rfl lx (by omega) hd0) (List.cons_ne_nil _ _) (hi.more h.odd _ hd0 _) (by rw [len_sn, len_sn]; omega) e he
    · refine rowsPs_rq hk ts ks ds' p s c cs (i + 1) w2 h lx hi (by omega) (fun j d' hd' => ?_) e he
      have := hd (j + 1) d' hd'
      rw [show i + (j + 1) = i + 1 + j by omega] at this
      exact this
end
theorem rowsT_rq {kd : D} (hk : isK kd = true) {t : T} (hw : wfP [] kd t = true) (hn : nasks t ≤ 18) : ∀ r ∈ rowsT t, RQ kd r := fun r hr => by
  obtain ⟨m, b, rfl, em, wb⟩ := wfP_inv hw
  have hn' : nasks b ≤ 18 := hn
  refine rowsB_rq hk b [kd] [BEG] [0] wb (VQ.beg hk) (List.cons_ne_nil _ _) ⟨rfl, fun c m => ?_, fun c m => ?_, fun i c k e1 e2 => ?_⟩ (by show 1 + 2 * nasks b ≤ 38; omega) r hr
  · rw [List.mem_singleton.mp m]
    exact ⟨[], none, rfl⟩
  · rw [List.mem_singleton.mp m]
  · cases i with
    | zero =>
      have e1' : 0 = c := Option.some.inj e1
      have e2' : kd = k := Option.some.inj e2
      rw [← e1', ← e2']
      exact atD_nil kd
    | succ i => cases e1
/-! ### each longer sight goes on from a row -/
mutual
theorem rowsB_up : ∀ (t : T) (s : List Stp) (cs : List Nat), ∀ e ∈ rowsB t s cs, e.1 = s ∨ ∃ u x y, e.1 = u ++ [x] ++ [y] ∧ (u, x) ∈ rowsB t s cs
  | .say v, s, cs, e, h => by
    rw [List.mem_singleton.mp h]
    exact .inl rfl
  | .stop, _, _, e, h => by cases h
  | .prog _ _, _, _, e, h => by cases h
  | .ask up k as z o, s, cs, e, h => by
    rcases List.mem_cons.mp h with h | h
    · rw [h]
      exact .inl rfl
    refine .inr ?_
    rcases List.mem_append.mp h with h | h
    · rcases rowsB_up z _ cs e h with q | ⟨u, x, y, q1, q2⟩
      · exact ⟨s, _, _, q, List.mem_cons_self ..⟩
      · exact ⟨u, x, y, q1, List.mem_cons_of_mem _ (List.mem_append_left _ q2)⟩
    rcases List.mem_append.mp h with h | h
    · rcases rowsB_up o _ cs e h with q | ⟨u, x, y, q1, q2⟩
      · exact ⟨s, _, _, q, List.mem_cons_self ..⟩
      · exact ⟨u, x, y, q1, List.mem_cons_of_mem _ (List.mem_append_right _ (List.mem_append_left _ q2))⟩
    · rcases rowsPs_up as _ _ _ _ _ e h with ⟨y, q⟩ | ⟨u, x, y, q1, q2⟩
      · exact ⟨s, _, y, q, List.mem_cons_self ..⟩
      · exact ⟨u, x, y, q1, List.mem_cons_of_mem _ (List.mem_append_right _ (List.mem_append_right _ q2))⟩
theorem rowsPs_up : ∀ (ts : List T) (p : List Nat) (l : List Stp) (n : Nat) (cs : List Nat) (i : Nat), ∀ e ∈ rowsPs ts p l n cs i, (∃ y, e.1 = l ++ [y]) ∨ ∃ u x y, e.1 = u ++ [x] ++ [y] ∧ (u, x) ∈ rowsPs ts p l n cs i
  | [], _, _, _, _, _, _, h => by cases h
  | .prog _ b :: r, p, l, n, cs, i, e, h => by
    rcases List.mem_append.mp h with h | h
    · rcases rowsB_up b _ _ e h with q | ⟨u, x, y, q1, q2⟩
      · exact .inl ⟨_, q⟩
      · exact .inr ⟨u, x, y, q1, List.mem_append_left _ q2⟩
    · rcases rowsPs_up r p l n cs (i + 1) e h with q | ⟨u, x, y, q1, q2⟩
      · exact .inl q
      · exact .inr ⟨u, x, y, q1, List.mem_append_right _ q2⟩
  | .say _ :: r, p, l, n, cs, i, e, h => rowsPs_up r p l n cs (i + 1) e h
  | .stop :: r, p, l, n, cs, i, e, h => rowsPs_up r p l n cs (i + 1) e h
  | .ask _ _ _ _ _ :: r, p, l, n, cs, i, e, h => rowsPs_up r p l n cs (i + 1) e h
end
/-! ### what a sight's lookup tells of a body -/
def Sub (rows : List Row) (t : T) (s : List Stp) (cs : List Nat) : Prop := ∀ key, s <+: key → lkR rows key = lkR (rowsB t s cs) key
theorem lkR_pre_none {rows : List Row} {key : List Stp} (h : ∀ e ∈ rows, e.1 ≠ key) : lkR rows key = none := lkR_none fun m => by
  obtain ⟨e, h1, h2⟩ := mem_keys m
  exact h e h1 h2
theorem lkR_head {s : List Stp} {x : Stp} {rows : List Row} : lkR ((s, x) :: rows) s = some x := by
  rw [lkR_cons, if_pos rfl]
theorem Sub.top {t : T} {s : List Stp} {cs : List Nat} : Sub (rowsB t s cs) t s cs := fun _ _ => rfl
theorem ne_of_pre {s key : List Stp} {x y : Stp} (h : s ++ [x] ++ [y] <+: key) : s ≠ key := fun e => by
  rw [← e] at h
  have := h.length_le
  rw [len_sn, len_sn] at this
  omega
theorem pre_ne {rows : List Row} {l key : List Stp} {y : Stp} (hk : l ++ [y] <+: key) (h : ∀ e ∈ rows, ∃ x, x ≠ y ∧ l ++ [x] <+: e.1) : lkR rows key = none := lkR_pre_none fun e he q => by
  obtain ⟨x, hx, h1⟩ := h e he
  rw [q] at h1
  exact hx (pre_two h1 hk)
theorem or_none' {a : Option Stp} : a.or none = a := by cases a <;> rfl
theorem Sub.zero {rows : List Row} {up k : Nat} {as : List T} {z o : T} {s : List Stp} {cs : List Nat} (h : Sub rows (.ask up k as z o) s cs) : Sub rows z (s ++ [asK s (cs.getD up 0) k] ++ [⟨.say 0, some s.length⟩]) cs := fun key hk => by
  rw [h key (pre_snoc (pre_snoc hk))]
  show lkR ((s, asK s (cs.getD up 0) k) :: (_ ++ (_ ++ _))) key = _
  have n1 : lkR (rowsB o (s ++ [asK s (cs.getD up 0) k] ++ [⟨.say 1, some s.length⟩]) cs) key = none := pre_ne hk fun e he => ⟨_, (fun q => by injection q with q _; injection q with q; cases q), rowsB_pre o _ _ e he⟩
  have n2 : lkR (rowsPs as (plc s (cs.getD up 0) ++ [k]) (s ++ [asK s (cs.getD up 0) k]) s.length cs 0) key = none := pre_ne hk fun e he => by
    obtain ⟨j, _, _, h1⟩ := rowsPs_pre as _ _ _ _ _ e he
    exact ⟨_, (fun q => by injection q with q _; cases q), h1⟩
  rw [lkR_cons, if_neg (ne_of_pre hk), lkR_append, lkR_append, n1, n2]
  exact or_none'
theorem Sub.one {rows : List Row} {up k : Nat} {as : List T} {z o : T} {s : List Stp} {cs : List Nat} (h : Sub rows (.ask up k as z o) s cs) : Sub rows o (s ++ [asK s (cs.getD up 0) k] ++ [⟨.say 1, some s.length⟩]) cs := fun key hk => by
  rw [h key (pre_snoc (pre_snoc hk))]
  show lkR ((s, asK s (cs.getD up 0) k) :: (_ ++ (_ ++ _))) key = _
  have n1 : lkR (rowsB z (s ++ [asK s (cs.getD up 0) k] ++ [⟨.say 0, some s.length⟩]) cs) key = none := pre_ne hk fun e he => ⟨_, (fun q => by injection q with q _; injection q with q; cases q), rowsB_pre z _ _ e he⟩
  have n2 : lkR (rowsPs as (plc s (cs.getD up 0) ++ [k]) (s ++ [asK s (cs.getD up 0) k]) s.length cs 0) key = none := pre_ne hk fun e he => by
    obtain ⟨j, _, _, h1⟩ := rowsPs_pre as _ _ _ _ _ e he
    exact ⟨_, (fun q => by injection q with q _; cases q), h1⟩
  rw [lkR_cons, if_neg (ne_of_pre hk), lkR_append, lkR_append, n1, n2]
  exact or_none'
theorem lkR_Ps {p : List Nat} {l : List Stp} {n : Nat} {cs : List Nat} {key : List Stp} : ∀ (ts : List T) (i j : Nat) (m : Nat) (b : T), ts[j]? = some (.prog m b) → l ++ [⟨.ask (p ++ [i + j]), some n⟩] <+: key →
    lkR (rowsPs ts p l n cs i) key = lkR (rowsB b (l ++ [⟨.ask (p ++ [i + j]), some n⟩]) ((n + 1) :: cs)) key
  | [], _, _, _, _, h, _ => by cases h
  | t :: ts, i, 0, m, b, h, hk => by
    cases h
    show lkR (rowsB b (l ++ [⟨.ask (p ++ [i]), some n⟩]) ((n + 1) :: cs) ++ rowsPs ts p l n cs (i + 1)) key = _
    rw [lkR_append, lkR_pre_none (rows := rowsPs ts p l n cs (i + 1)) fun e he z => ?_]
    · rw [Nat.add_zero]
      cases lkR (rowsB b (l ++ [⟨.ask (p ++ [i]), some n⟩]) ((n + 1) :: cs)) key <;> rfl
    · obtain ⟨j, hj, _, h1⟩ := rowsPs_pre ts _ _ _ _ _ e he
      rw [z] at h1
      have := pre_two hk h1
      injection this with q _
      injection q with q
      have q := List.append_cancel_left q
      injection q with q
      omega
  | t :: ts, i, j + 1, m, b, h, hk => by
    have ih := lkR_Ps (cs := cs) ts (i + 1) j m b h (by rw [show i + 1 + j = i + (j + 1) by omega]; exact hk)
    rw [show i + 1 + j = i + (j + 1) by omega] at ih
    cases t with
    | prog m' b' =>
      show lkR (rowsB b' (l ++ [⟨.ask (p ++ [i]), some n⟩]) ((n + 1) :: cs) ++ rowsPs ts p l n cs (i + 1)) key = _
      rw [lkR_append, lkR_pre_none (rows := rowsB b' _ _) fun e he z => ?_]
      · exact ih
      · have h1 := rowsB_pre _ _ _ e he
        rw [z] at h1
        have := pre_two hk h1
        injection this with q _
        injection q with q
        have q := List.append_cancel_left q
        injection q with q
        omega
    | _ => exact ih
theorem Sub.arg {rows : List Row} {up k j m : Nat} {as : List T} {b z o : T} {s : List Stp} {cs : List Nat} (h : Sub rows (.ask up k as z o) s cs) (hj : as[j]? = some (.prog m b)) :
    Sub rows b (s ++ [asK s (cs.getD up 0) k] ++ [⟨.ask (plc s (cs.getD up 0) ++ [k] ++ [j]), some s.length⟩]) ((s.length + 1) :: cs) := fun key hk => by
  rw [h key (pre_snoc (pre_snoc hk))]
  show lkR ((s, asK s (cs.getD up 0) k) :: (_ ++ (_ ++ _))) key = _
  have n1 : lkR (rowsB z (s ++ [asK s (cs.getD up 0) k] ++ [⟨.say 0, some s.length⟩]) cs) key = none := pre_ne hk fun e he => ⟨_, (fun q => by injection q with q _; cases q), rowsB_pre z _ _ e he⟩
  have n2 : lkR (rowsB o (s ++ [asK s (cs.getD up 0) k] ++ [⟨.say 1, some s.length⟩]) cs) key = none := pre_ne hk fun e he => ⟨_, (fun q => by injection q with q _; cases q), rowsB_pre o _ _ e he⟩
  rw [lkR_cons, if_neg (ne_of_pre hk), lkR_append, lkR_append, n1, n2]
  have := lkR_Ps (p := plc s (cs.getD up 0) ++ [k]) (l := s ++ [asK s (cs.getD up 0) k]) (n := s.length) (cs := cs) (key := key) as 0 j m b hj (by rw [Nat.zero_add]; exact hk)
  rw [Nat.zero_add] at this
  exact this
end Pk

set_option maxRecDepth 100000
set_option maxHeartbeats 4000000
set_option pp.maxSteps 600
namespace Pk
open PySem PySem.Spec PyProof.Rows L2
theorem rgc_two : ∀ m : Nat, m < 30 → RgC 2 ((2 * m + 1 : Nat) : Int) 2 m := by
  have h : ∀ m : Nat, m < 30 → Builtin.Range.small 2 ((2 * m + 1 : Nat) : Int) 2 = true ∧ Builtin.Range.rangeSize 2 ((2 * m + 1 : Nat) : Int) 2 = (m : Int) := by decide +kernel
  exact fun m hm => ⟨by decide, by decide, (h m hm).1, (h m hm).2⟩
theorem RQ.pos {kd : D} {e : Row} (h : RQ kd e) : 0 < e.1.length := by
  have := h.odd
  omega
theorem RQ.back {kd : D} (hk : isK kd = true) {e : Row} (h : RQ kd e) : ∃ j, e.2.back = some j ∧ j < e.1.length := by
  have hp := h.pos
  have key : ∀ j, j ∈ sight e.1 (e.1.length - 1) → j < e.1.length := fun j hj => by
    have := (sight_up h.lq.lp.wb (e.1.length - 1) (by omega)).2 j hj
    omega
  have hl := h.lg
  obtain ⟨s, ⟨m, b⟩⟩ := e
  cases m with
  | ask p =>
    obtain ⟨j, q, k, rfl, _, _, _, _, hj⟩ := (lg_ask hk).mp hl
    exact ⟨j, rfl, key j hj⟩
  | say v =>
    obtain ⟨j, q, rfl, _, _, _, hj⟩ := lg_say.mp hl
    exact ⟨j, rfl, key j hj⟩
theorem RQ.askAt {kd : D} (hk : isK kd = true) {e : Row} (h : RQ kd e) {p : List Nat} (hp : e.2.mv = .ask p) : ∃ d, atD kd p = some d := by
  have hl := h.lg
  obtain ⟨s, ⟨m, b⟩⟩ := e
  have hp : m = .ask p := hp
  subst hp
  obtain ⟨j, q, k, rfl, _, hq, hk2, rfl, hj⟩ := (lg_ask hk).mp hl
  exact Option.isSome_iff_exists.mp ((kids_at hk).mp hk2)
section
variable {P : Program} {w : World} {K : PySem.W.Frag} {mg : Str → Option Value} {base : Heap}
/-! ### is_tuple_of, of three -/
def spTu3 (K : PySem.W.Frag) : Sp := fun vs H Q _ => ∃ (v : V) (ts : List D), vs = [v, .int 3] ∧ Rep K H v (.tup ts) ∧ ts.length = 3 ∧ Q (.bl true) H
theorem ok_tu3 {f : Addr} {fd : FuncData} (D_is_tuple_of : Df K mg "is_tuple_of" s_is_tuple_of ["value", "many"] f fd) (B : Bt mg) : FnOk P w K mg base CX0 1 f fd ["value", "many"] (spTu3 K) := by
  refine D_is_tuple_of.ok c_is_tuple_of (fun vs H Q E h => ?_) (fun cdv A outer s H vs Q E hr h => ?_)
  · obtain ⟨v, ts, rfl, _⟩ := h
    rfl
  obtain ⟨v, ts, rfl, rv, hl, q⟩ := h
  have nd := c_is_tuple_of.nd
  refine ⟨_, (pss_one (ps_ret (pe_and (pe_callB call_isi (by rfl) B.b_isinstance (by decide +kernel) (pa_cons (pv 0) (pa_cons (pe_bltn (v := .ty "tuple") (by rfl) B.b_tuple (by decide +kernel) rfl) pa_nil))) (pe_one (pe_cmpR op_eq (pe_callB call_len_seq (by rfl) B.b_len PySem.boot_len (pa_cons (pv 0) pa_nil)) (pv 1) (nomark _)))))), ?_⟩
  refine ⟨_, rfl, _, _, _, _, _, rfl, .ty _, rep_ty rv, kit_ty (kit_tup _), ⟨_, rfl, ?_⟩⟩
  obtain ⟨a, xs, rfl, hx, rx⟩ := rv.inv
  have lx := rx.length
  refine iteT ⟨_, rfl, a, xs, rfl, .inr hx.sq, _, rfl, rfl, ?_⟩
  rw [decide_eq_true (congrArg V.int (by omega))]
  exact q
/-! ### _is_row -/
def spRow (K : PySem.W.Frag) : Sp := fun vs H Q _ => ∃ (kv v : V) (kd : D) (r : Row), vs = [kv, v] ∧ Rep K H kv kd ∧ isK kd = true ∧ sz kd ≤ 60 ∧ Rep K H v (rowD r) ∧ RQ kd r ∧ ∀ H', Same H H' → Q (.bl true) H'
theorem ok_row {bg f f0 f1 f2 f3 f4 f5 f6 f7 f8 f9 f10 : Addr} {fd d0 d1 d2 d3 d4 d5 d6 d7 d8 d9 d10 : FuncData} (hBG : mg "BEGINNING" = some (.ref bg)) (hKB : ∀ H, Rep K H (.ref bg) (stD BEG)) (D__is_row : Df K mg "_is_row" s__is_row ["kind", "value"] f fd) (D_fault_of : Df K mg "fault_of" s_fault_of ["kind", "play"] f10 d10)
    (D__is_later_step : Df K mg "_is_later_step" s__is_later_step ["value", "number"] f0 d0) (D__is_move : Df K mg "_is_move" s__is_move ["value"] f1 d1) (D_is_tuple_of : Df K mg "is_tuple_of" s_is_tuple_of ["value", "many"] f2 d2)
    (D_is_whole : Df K mg "is_whole" s_is_whole ["value"] f3 d3) (D_is_answer : Df K mg "is_answer" s_is_answer ["value"] f4 d4) (D__is_placed : Df K mg "_is_placed" s__is_placed ["kind", "move", "answered"] f5 d5) (D_kind_at : Df K mg "kind_at" s_kind_at ["kind", "place"] f6 d6)
    (D__sight_behind : Df K mg "_sight_behind" s__sight_behind ["play"] f7 d7) (D__reason_against : Df K mg "_reason_against" s__reason_against ["kind", "play", "waiting", "step"] f8 d8) (D__note_open : Df K mg "_note_open" s__note_open ["waiting", "number", "step"] f9 d9)
    (B : Bt mg) : FnOk P w K mg base CX0 7 f fd ["kind", "value"] (spRow K) := by
  have G_is_tuple_of : FnOk P w K mg base CX0 1 f2 d2 ["value", "many"] (spTu K) := ok_tu D_is_tuple_of B
  have G_fault_of : FnOk P w K mg base CX0 6 f10 d10 ["kind", "play"] (spFo K) := ok_fo hBG hKB D_fault_of D__is_later_step D__is_move D_is_tuple_of D_is_whole D_is_answer D__is_placed D_kind_at D__sight_behind D__reason_against D__note_open B
  refine D__is_row.ok c__is_row (fun vs H Q E h => ?_) (fun cdv A outer s0 H vs Q E hr h => ?_)
  · obtain ⟨kv, v, kd, r, rfl, _⟩ := h
    rfl
  obtain ⟨kv, v, kd, r, rfl, rk, hk, hkz, rv, hq, q⟩ := h
  have nd := c__is_row.nd
  refine ⟨_, (pss_cons (ps_if (PW.pt (pw_or (pt_not (pt_val (pe_call G_is_tuple_of (hr.mono (by first | decide | omega)) (by rfl) D_is_tuple_of.m D_is_tuple_of.kp D_is_tuple_of.b .nil pass0 (pa_cons (pv 1) (pa_cons pe_int pa_nil))))) (pw_or1 (pt_not (pt_val (pe_callB call_isi (by rfl) B.b_isinstance (by decide +kernel) (pa_cons (pe_ix ix_tup (pv 1) pe_int (fun _ _ => rfl)) (pa_cons (pe_bltn (v := .ty "tuple") (by rfl) B.b_tuple (by decide +kernel) rfl) pa_nil)))))))) (pss_one (ps_ret pe_bl)) pss_nil)
  (pss_cons (ps_asg (pv 1) (pg_tup rfl (pgs_cons (pg_name (i := 2) nd rfl (Or.inr rfl)) (pgs_cons (pg_name (i := 3) nd rfl (Or.inl rfl)) pgs_nil))))
  (pss_cons (ps_if (pt_cmpR op_notN (pe_call G_fault_of (hr.mono (by first | decide | omega)) (by rfl) D_fault_of.m D_fault_of.kp D_fault_of.b .nil pass0 (pa_cons (pv 0) (pa_cons (pe_op op_catP (pv 2) (pe_tup (pa_cons (pv 3) pa_nil))) pa_nil))) pe_non (nomark _)) (pss_one (ps_ret pe_bl)) pss_nil)
  (pss_one (ps_ret (pe_and (pe_cmpR op_eq (pe_op op_mod (pe_callB call_len_seq (by rfl) B.b_len PySem.boot_len (pa_cons (pv 2) pa_nil)) pe_int) pe_int (nomark _)) (pe_one (pe_callB (cr_all rfl) (by rfl) B.b_all (by decide +kernel) (pa_cons (pe_lc (own := [("number", 4)]) (g := (gName 4)) (tt := tYes) rfl nd (pi_range3 (by rfl) B.b_range (pa_cons pe_int (pa_cons (pe_callB call_len_seq (by rfl) B.b_len PySem.boot_len (pa_cons (pv 2) pa_nil)) (pa_cons pe_int pa_nil)))) (blkOk_by (own := [("number", 4)]) (N := ["kind", "value", "sight", "step", "number"]) (sc := defScope s__is_row) (by decide +kernel)) (fun _ _ _ _ _ => (pg_name (i := 4) nd rfl (Or.inl rfl))) (fun _ _ _ _ _ => pts_nil) (fun _ _ _ _ _ => (pe_cmpR op_eq (pe_ix (show IxR _ (rIxT K) from ix_tup) (pe_ix (show IxR _ (rIxT K) from ix_tup) (pv 2) (pv 4) (fun _ _ => rfl)) pe_int (fun _ _ => rfl)) (pe_op op_sub (pv 4) pe_int) (nomark _)))) pa_nil))))))))), ?_⟩
  obtain ⟨a, sv, xv, rfl, ha, rs, rx⟩ := row_inv rv
  obtain ⟨b, xs, rfl, hb, rxs, lx⟩ := play_inv rs
  refine ⟨_, rfl, .ref a, _, rfl, rv, rfl, _, rfl, iteF ?_⟩
  refine ⟨_, rfl, a, _, 0, _, rfl, rfl, ha.sq, rfl, _, _, _, _, _, rfl, .ty _, rep_ty rs, kit_ty (kit_tup _), ⟨_, rfl, iteF ?_⟩⟩
  refine ⟨_, rfl, a, _, rfl, ha.sq, rfl, _, _, rfl, _, _, rfl, rfl, ?_⟩
  obtain ⟨j, hj, hjl⟩ := hq.back hk
  have hlen := hq.lq.lp.len
  have hpos := hq.pos
  refine ⟨_, rfl, _, rfl, _, rfl, (by show 1 ≤ sizeLine; decide), fun t1 n1 => ?_⟩
  have s1 := same_new n1 (.tup [xv])
  refine ⟨b, t1, xs, _, rfl, rfl, hb.same s1, .inl upd_same, small6' (by rw [lx]; show r.1.length + 1 ≤ 1000000; omega), fun pc H2 s2 hpc => ?_⟩
  have s02 := s1.trans s2
  have rpl : Rep K H2 (.ref pc) (playD (r.1 ++ [r.2])) := by
    unfold playD
    rw [List.map_append]
    exact .tup hpc ((rxs.mono (kx_same s02)).append (.one (rx.mono (kx_same s02))))
  refine ⟨kv, .ref pc, kd, r.1, r.2, j, rfl, rk.mono (kx_same s02), hk, hkz, rpl, hq.lq, List.length_pos_iff.mp hpos, hj, hjl, hq.sh, fun p hp => ?_, fun H3 s3 _ => ?_, fun z x H3 s3 hf => ?_⟩
  · obtain ⟨d, hd⟩ := hq.askAt hk hp
    have := atD_len p kd d hd
    omega
  · have s03 := s02.trans s3
    refine ⟨rfl, _, rfl, iteF ?_⟩
    refine ⟨_, rfl, b, xs, rfl, .inr (hb.same s03).sq, _, _, rfl, rfl, (by show (0 : Int) < 2; decide), rfl, ?_⟩
    have hodd := hq.odd
    refine ⟨_, rfl, ?_⟩
    rw [decide_eq_true (show V.int (((xs.length : Nat) : Int) % 2) = V.int 1 by congr 1; omega)]
    refine iteT ?_
    obtain ⟨m, hm⟩ : ∃ m, r.1.length = 2 * m + 1 := ⟨r.1.length / 2, by omega⟩
    refine ⟨_, rfl, b, xs, rfl, .inr (hb.same s03).sq, 2, ((xs.length : Nat) : Int), 2, m, rfl, ?_, fun d hd => ?_⟩
    · rw [lx, hm]
      exact rgc_two m (by omega)
    refine lc_it walk_rangeC (fun i H' => Same H3 H' ∧ H' d = some (.lst ((List.replicate i true).map V.bl))) ⟨same_new hd _, upd_same⟩ (fun i H' _ h => trivial) ?_ ?_
    · rintro i x H4 H4' hi ⟨s4, hd4⟩ ⟨rfl, rfl⟩
      have ei : (2 : Int) + ((i : Nat) : Int) * 2 = ((2 * i + 2 : Nat) : Int) := by omega
      have hil : 2 * i + 2 < r.1.length := by omega
      obtain ⟨y, hy, ry⟩ := play_at rxs (List.getElem?_eq_getElem hil)
      obtain ⟨a2, m2, b2, rfl, ha2, rm2, rb2⟩ := step_inv ry
      obtain ⟨jb, ejb, _⟩ := hq.lq.lp.wb.later _ _ (by omega) (List.getElem?_eq_getElem hil)
      have ebk : bk r.1 (2 * i + 2) = jb := by
        unfold bk
        rw [List.getElem?_eq_getElem hil]
        show (r.1[2 * i + 2].back).getD 0 = jb
        rw [ejb]
        rfl
      have hev := hq.ev (2 * i + 2) (by omega) hil (by omega)
      rw [ejb] at rb2
      obtain ⟨rfl, _⟩ := Rep.inva rb2
      have s14 := s03.trans s4
      have atx : atI xs ((2 : Int) + ((i : Nat) : Int) * 2) = some (.ref a2) := by
        rw [ei]
        exact atI_nat hy
      refine ⟨rfl, yes_go ⟨_, rfl, _, rfl, b, xs, _, _, rfl, rfl, (hb.same s14).sq, atx, a2, _, 1, _, rfl, rfl, (ha2.same s14).sq, rfl, ?_⟩⟩
      refine ⟨_, rfl, _, _, rfl, rfl, rfl, _, hd4, small6 (by rw [List.length_map, List.length_replicate]; omega), fun z o e => ?_, ?_⟩
      · rw [upd_ne (ne_of_none e hd)]
        exact s4 _ _ e
      · rw [upd_same, List.replicate_succ', List.map_append]
        rw [decide_eq_true (show V.int (jb : Int) = V.int ((2 : Int) + ((i : Nat) : Int) * 2 - 1) by congr 1; omega)]
        rfl
    · rintro H4 ⟨s4, hd4⟩
      refine ⟨d, _, rfl, SqL.of hd4, ?_⟩
      have e : (List.replicate m true).all id = true := List.all_eq_true.mpr fun b hb => (List.mem_replicate.mp hb).2
      rw [e]
      exact q _ (s03.trans s4)
  · rw [hq.lg] at hf
    cases hf
end
end Pk

set_option maxRecDepth 100000
set_option maxHeartbeats 4000000
set_option pp.maxSteps 600
namespace Pk
open PySem PySem.Spec PyProof.Rows L2
/-! ### a <= b, of data that compare -/
mutual
theorem dle_not : ∀ x y : PyData, cpb x y = true → x ≠ .none → dle x y = !dlt y x
  | .none, _, _, h => absurd rfl h
  | .bool a, y, h, _ => by
    cases y with
    | bool b =>
      show decide (b2i a ≤ b2i b) = !decide (b2i b < b2i a)
      by_cases q : b2i b < b2i a
      · rw [decide_eq_true q, decide_eq_false (by omega)]
        rfl
      · rw [decide_eq_false q, decide_eq_true (by omega)]
        rfl
    | _ => cases h
  | .int a, y, h, _ => by
    cases y with
    | int b =>
      show decide (a ≤ b) = !decide (b < a)
      by_cases q : b < a
      · rw [decide_eq_true q, decide_eq_false (by omega)]
        rfl
      · rw [decide_eq_false q, decide_eq_true (by omega)]
        rfl
    | _ => cases h
  | .str a, y, h, _ => by
    cases y with
    | str b => rfl
    | _ => cases h
  | .tuple xs, y, h, _ => by
    cases y with
    | tuple ys => exact dles_not xs ys h
    | _ => cases h
  | .list _, y, h, _ => by cases y <;> cases h
  | .dict _, y, h, _ => by cases y <;> cases h
theorem dles_not : ∀ xs ys : List PyData, cpbs xs ys = true → dles xs ys = !dlts ys xs
  | [], [], _ => rfl
  | [], _ :: _, _ => rfl
  | _ :: _, [], _ => rfl
  | x :: xs, y :: ys, h => by
    obtain ⟨c1, c2⟩ := cpbs_cons h
    rw [dles, dlts, PySem.W.eqv_comm y x]
    cases q : PyData.eqv x y with
    | true =>
      rw [if_pos rfl, if_pos rfl]
      exact dles_not xs ys (c2 q)
    | false =>
      rw [if_neg Bool.false_ne_true, if_neg Bool.false_ne_true]
      exact dle_not x y c1 (cpb_none c1 q)
end
theorem dle_wk {s t : List Stp} (hs : WkS s) (ht : WkS t) (h : ltP t s = true) : dle (toPy (playD s)) (toPy (playD t)) = false := by
  rw [dle_not _ _ (cpb_wk hs ht) (fun z => by cases z), dlt_wk ht hs, h]
  rfl
theorem dle_nil {s : List Stp} (hs : s ≠ []) : dle (toPy (playD s)) (toPy (playD [])) = false := by
  cases s with
  | nil => exact absurd rfl hs
  | cons x s =>
    show dles (toPy (stD x) :: toPys (s.map stD)) [] = false
    rw [dles]
theorem cpb_nil (s : List Stp) : cpb (toPy (playD s)) (toPy (playD [])) = true := by
  cases s with
  | nil => rfl
  | cons x s =>
    show cpbs (toPy (stD x) :: toPys (s.map stD)) [] = true
    rw [cpbs]
theorem dlts_pre : ∀ (s : List Stp) (y : Stp) (r : List Stp), dlts (toPys (s.map stD)) (toPys ((s ++ y :: r).map stD)) = true
  | [], y, r => rfl
  | x :: s, y, r => by
    show dlts (toPy (stD x) :: toPys (s.map stD)) (toPy (stD x) :: toPys ((s ++ y :: r).map stD)) = true
    have e : PyData.eqv (toPy (stD x)) (toPy (stD x)) = true := SeqAt.eqv_refl_plain _ (plain_noL _ (noLd_st x))
    rw [dlts, e, if_pos rfl]
    exact dlts_pre s y r
theorem ltP_pre {s : List Stp} {x y : Stp} (hs : WkS s) (ht : WkS (s ++ [x] ++ [y])) : ltP s (s ++ [x] ++ [y]) = true := by
  rw [← dlt_wk hs ht]
  have := dlts_pre s x [y]
  rw [show s ++ x :: [y] = s ++ [x] ++ [y] by simp] at this
  exact this
/-- the row that a longer sight goes on from stands before it -/
theorem before {rows : List Row} (hn : (keysR rows).Nodup) (hk : ∀ r ∈ rows, OkR r) {i : Nat} {r : Row} (hi : (sortR rows)[i]? = some r) {u : List Stp} {x y : Stp} (e : r.1 = u ++ [x] ++ [y]) (hu : (u, x) ∈ rows) : lkR ((sortR rows).take i) u = some x := by
  have pm := sortE_perm (fun r : Row => tkD (rowD r)) rows
  have mr : r ∈ rows := pm.mem_iff.mp (List.mem_of_getElem? hi)
  obtain ⟨j, hj, ej⟩ := List.mem_iff_getElem.mp (pm.mem_iff.mpr hu)
  have ej' : (sortR rows)[j]? = some (u, x) := by
    rw [List.getElem?_eq_getElem hj]
    exact congrArg some ej
  have hlt : ltP u r.1 = true := by
    rw [e]
    exact ltP_pre (wk_of (hk _ hu).1) (by rw [← e]; exact wk_of (hk _ mr).1)
  have hji : j < i := by
    rcases Nat.lt_trichotomy j i with h | h | h
    · exact h
    · subst h
      rw [hi] at ej'
      have q := Option.some.inj ej'
      rw [q] at hlt
      have := ltP_irr u
      rw [hlt] at this
      cases this
    · have h2 := sorted_rows hn hk hi ej' h
      have := ltP_trans hlt h2
      rw [ltP_irr] at this
      cases this
  have hnd : (keysR (sortR rows)).Nodup := (pm.map Prod.fst).nodup_iff.mpr hn
  have hnt : (keysR ((sortR rows).take i)).Nodup := by
    unfold keysR at hnd ⊢
    rw [List.map_take]
    exact hnd.sublist (List.take_sublist _ _)
  refine lkR_some hnt (r := (u, x)) ?_
  refine List.mem_of_getElem? (i := j) ?_
  rw [List.getElem?_take_of_lt hji]
  exact ej'
theorem fresh_take {rows : List Row} (hn : (keysR rows).Nodup) {i : Nat} {r : Row} (hi : (sortR rows)[i]? = some r) : lkR ((sortR rows).take i) r.1 = none := by
  have pm := sortE_perm (fun r : Row => tkD (rowD r)) rows
  have hnd : (keysR (sortR rows)).Nodup := (pm.map Prod.fst).nodup_iff.mpr hn
  refine lkR_none fun m => ?_
  obtain ⟨e, he, e1⟩ := mem_keys m
  obtain ⟨j, hj, ej⟩ := List.mem_iff_getElem.mp he
  rw [List.length_take] at hj
  have ej' : (sortR rows)[j]? = some e := by
    have := List.getElem?_eq_getElem (l := (sortR rows).take i) (i := j) (by rw [List.length_take]; exact hj)
    rw [List.getElem?_take_of_lt (by omega), ej] at this
    exact this
  have h1 : (keysR (sortR rows))[j]? = some r.1 := by
    unfold keysR
    rw [List.getElem?_map, ej', ← e1]
    rfl
  have h2 : (keysR (sortR rows))[i]? = some r.1 := by
    unfold keysR
    rw [List.getElem?_map, hi]
    rfl
  have := (List.getElem?_inj (List.getElem?_eq_some_iff.mp h1).1 hnd).mp (h1.trans h2.symm)
  omega
section
variable {P : Program} {w : World} {K : PySem.W.Frag} {mg : Str → Option Value} {base : Heap}
/-! ### is_kind -/
def spIK (K : PySem.W.Frag) : Sp := fun vs H Q _ => ∃ (v : V) (d : D), vs = [v] ∧ Rep K H v d ∧ sz d ≤ 1000000 ∧ ∀ H', Same H H' → Q (.bl (isK d)) H'
theorem ok_ik {f : Addr} {fd : FuncData} (D_is_kind : Df K mg "is_kind" s_is_kind ["value"] f fd) (B : Bt mg) : FnOk P w K mg base CX0 1 f fd ["value"] (spIK K) := by
  refine D_is_kind.ok c_is_kind (fun vs H Q E h => ?_) (fun cdv A outer s H vs Q E hr h => ?_)
  · obtain ⟨v, d, rfl, _⟩ := h
    rfl
  obtain ⟨v, d, rfl, rv, hsz, q⟩ := h
  have nd := c_is_kind.nd
  refine ⟨_, (pss_cons (ps_set (i := 1) nd rfl (Or.inl rfl) (pe_lst (pa_cons (pv 0) pa_nil)))
  (pss_cons (ps_while PassesOwn.never (pt_truth (pv 1) (by intro _; rfl)) (pss_cons (ps_set (i := 2) nd rfl (Or.inl rfl) (pe_bm0 PySem.F.plainAttrs_list PySem.F.slot_list_pop PySem.F.type_list_pop mt_pop (pv 1)))
  (pss_cons (ps_if (pt_not (pt_val (pe_callB call_isi (by rfl) B.b_isinstance (by decide +kernel) (pa_cons (pv 2) (pa_cons (pe_bltn (v := .ty "tuple") (by rfl) B.b_tuple (by decide +kernel) rfl) pa_nil))))) (pss_one (ps_ret pe_bl)) pss_nil)
  (pss_one (ps_expr (pe_bm PySem.F.plainAttrs_list PySem.F.slot_list_extend PySem.F.type_list_extend mt_extendT (pv 1) (pa_cons (pv 2) pa_nil)))))))
  (pss_one (ps_ret pe_bl)))), ?_⟩
  refine ⟨_, rfl, (by show 1 ≤ sizeLine; decide), fun p np => ?_⟩
  obtain ⟨W, hW⟩ : ∃ W : Nat → L2.St → Hp → Prop, ∀ m σ H', W m σ H' ↔ (∃ (xs : List V) (ds : List D) (y2 : Option V), σ = [some v, some (.ref p), y2] ∧ Nw p H H' xs ∧ Reps K H' xs ds ∧ isKs ds = isK d ∧ m = szs ds ∧ szs ds ≤ 1000000) := ⟨_, fun _ _ _ => Iff.rfl⟩
  refine ⟨W, ⟨szs [d], (hW _ _ _).mpr ⟨[v], [d], none, rfl, Nw.new np _, .one (rv.mono (kx_new np _)), by show (isK d && true) = isK d; exact Bool.and_true _, rfl, by show sz d + 0 ≤ 1000000; omega⟩⟩, ?_⟩
  intro m σ H1 hw
  obtain ⟨xs, ds, y2, rfl, hn, rx, hk, rfl, hs⟩ := (hW _ _ _).mp hw
  refine ⟨_, rfl, _, .inl ⟨xs, SqL.of hn.h, rfl⟩, ?_⟩
  cases xs with
  | nil =>
    cases rx
    refine iteF ?_
    rw [show isK d = true from hk.symm] at q
    exact q H1 hn.s
  | cons x0 r0 =>
    refine iteT ⟨fun σ' H' => ∃ m', m' < szs ds ∧ W m' σ' H', fun _ _ h => h, ?_⟩
    obtain ⟨y, e, es, hlast, rfl, re, res⟩ := rx.last (fun z => by cases z)
    rw [szs_append] at hs
    have hs' : szs es + (sz e + 0) ≤ 1000000 := hs
    refine ⟨_, rfl, .inl ⟨rfl, _, SqL.of hn.h⟩, p, _, y, rfl, rfl, hn.h, hlast, ?_⟩
    have hn2 := hn.put (x0 :: r0).dropLast
    have k2 : Kx H1 (upd H1 p (.lst (x0 :: r0).dropLast)) := kx_list hn.h _
    have re2 := re.mono k2
    have res2 := res.mono k2
    rw [isKs_append] at hk
    refine ⟨y, rfl, _, _, _, _, _, rfl, .ty _, rep_ty re2, kit_ty (kit_tup _), ⟨_, rfl, ?_⟩⟩
    have bad : isK e = false → Q (.bl false) (upd H1 p (.lst (x0 :: r0).dropLast)) := fun z => by
      have z2 : isK d = false := by
        rw [← hk]
        show (isKs es && (isK e && true)) = false
        rw [z, Bool.false_and, Bool.and_false]
      rw [z2] at q
      exact q _ hn2.s
    cases e with
    | lst => exact iteT (bad rfl)
    | «at» _ => exact iteT (bad rfl)
    | tup ts =>
      refine iteF ?_
      obtain ⟨b, ys, rfl, hy, ry⟩ := re2.inv
      have l1 := ry.length
      have l2 := res2.length
      have l3 := len_szs ts
      have l4 := len_szs es
      have l5 : sz (.tup ts) = szs ts + 1 := rfl
      refine ⟨_, rfl, .inl ⟨rfl, _, SqL.of hn2.h⟩, _, rfl, p, b, _, ys, rfl, rfl, hn2.h, hy.sq, small6' (by omega), ?_⟩
      have hn3 := hn2.put ((x0 :: r0).dropLast ++ ys)
      have k3 : Kx (upd H1 p (.lst (x0 :: r0).dropLast)) (upd (upd H1 p (.lst (x0 :: r0).dropLast)) p (.lst ((x0 :: r0).dropLast ++ ys))) := kx_list hn2.h _
      refine ⟨szs (es ++ ts), ?_, (hW _ _ _).mpr ⟨_, es ++ ts, _, rfl, hn3, (res2.mono k3).append (ry.mono k3), ?_, rfl, ?_⟩⟩
      · rw [szs_append, szs_append]
        show szs es + szs ts < szs es + (szs ts + 1 + 0)
        omega
      · rw [← hk, isKs_append]
        show (isKs es && isKs ts) = (isKs es && (isKs ts && true))
        rw [Bool.and_true]
      · rw [szs_append]
        omega
/-! ### is_strategy -/
theorem strat_inv2 {K : PySem.W.Frag} {H : Hp} {x : V} {kd : D} {L : List Row} (h : Rep K H x (stratD kd L)) : ∃ a k b xs, x = .ref a ∧ TupAt K H a [.str "strategy", k, .ref b] ∧ Rep K H k kd ∧ TupAt K H b xs ∧ Reps K H xs (L.map rowD) ∧ xs.length = L.length := by
  obtain ⟨a, xs, rfl, ha, rx⟩ := Rep.inv (ts := [.at (.str "strategy"), kd, .tup (L.map rowD)]) h
  cases rx with
  | cons r1 rx =>
    cases rx with
    | cons r2 rx =>
      cases rx with
      | cons r3 rx =>
        cases rx
        obtain ⟨b, ys, rfl, hb, ry⟩ := r3.inv
        obtain ⟨rfl, _⟩ := Rep.inva r1
        have := ry.length
        rw [List.length_map] at this
        exact ⟨a, _, b, ys, rfl, ha, r2, hb, ry, this⟩
def lastP (L : List Row) (i : Nat) : List Stp := match i with
  | 0 => []
  | j + 1 => (L[j]?.map Prod.fst).getD []
/-- what stands of a strategy's rows -/
structure SQ (kd : D) (rows : List Row) : Prop where
  kk : isK kd = true ∧ sz kd ≤ 60
  nd : (keysR rows).Nodup
  ok : ∀ r ∈ rows, OkR r
  rq : ∀ r ∈ rows, RQ kd r
  up : ∀ e ∈ rows, e.1.length = 1 ∨ ∃ u x y, e.1 = u ++ [x] ++ [y] ∧ (u, x) ∈ rows
  len : rows.length ≤ 90000
def spStrat (K : PySem.W.Frag) : Sp := fun vs H Q _ => ∃ (v : V) (kd : D) (rows : List Row), vs = [v] ∧ Rep K H v (stratD kd (sortR rows)) ∧ SQ kd rows ∧ ∀ H', Same H H' → Q (.bl true) H'
theorem ok_strat {bg f f0 f1 f2 f3 f4 f5 f6 f7 f8 f9 f10 f11 f12 : Addr} {fd d0 d1 d2 d3 d4 d5 d6 d7 d8 d9 d10 d11 d12 : FuncData} (hBG : mg "BEGINNING" = some (.ref bg)) (hKB : ∀ H, Rep K H (.ref bg) (stD BEG)) (D_is_strategy : Df K mg "is_strategy" s_is_strategy ["value"] f fd)
    (D_is_kind : Df K mg "is_kind" s_is_kind ["value"] f12 d12) (D__is_row : Df K mg "_is_row" s__is_row ["kind", "value"] f11 d11) (D_fault_of : Df K mg "fault_of" s_fault_of ["kind", "play"] f10 d10)
    (D__is_later_step : Df K mg "_is_later_step" s__is_later_step ["value", "number"] f0 d0) (D__is_move : Df K mg "_is_move" s__is_move ["value"] f1 d1) (D_is_tuple_of : Df K mg "is_tuple_of" s_is_tuple_of ["value", "many"] f2 d2)
    (D_is_whole : Df K mg "is_whole" s_is_whole ["value"] f3 d3) (D_is_answer : Df K mg "is_answer" s_is_answer ["value"] f4 d4) (D__is_placed : Df K mg "_is_placed" s__is_placed ["kind", "move", "answered"] f5 d5) (D_kind_at : Df K mg "kind_at" s_kind_at ["kind", "place"] f6 d6)
    (D__sight_behind : Df K mg "_sight_behind" s__sight_behind ["play"] f7 d7) (D__reason_against : Df K mg "_reason_against" s__reason_against ["kind", "play", "waiting", "step"] f8 d8) (D__note_open : Df K mg "_note_open" s__note_open ["waiting", "number", "step"] f9 d9)
    (B : Bt mg) : FnOk P w K mg base CX0 8 f fd ["value"] (spStrat K) := by
  have G_is_tuple_of : FnOk P w K mg base CX0 1 f2 d2 ["value", "many"] (spTu3 K) := ok_tu3 D_is_tuple_of B
  have G_is_kind : FnOk P w K mg base CX0 1 f12 d12 ["value"] (spIK K) := ok_ik D_is_kind B
  have G__is_row : FnOk P w K mg base CX0 7 f11 d11 ["kind", "value"] (spRow K) := ok_row hBG hKB D__is_row D_fault_of D__is_later_step D__is_move D_is_tuple_of D_is_whole D_is_answer D__is_placed D_kind_at D__sight_behind D__reason_against D__note_open B
  refine D_is_strategy.ok c_is_strategy (fun vs H Q E h => ?_) (fun cdv A outer s0 H vs Q E hr h => ?_)
  · obtain ⟨v, kd, rows, rfl, _⟩ := h
    rfl
  obtain ⟨v, kd, rows, rfl, rv, hq, q⟩ := h
  have nd := c_is_strategy.nd
  refine ⟨_, (pss_cons (ps_if (pt_not (pt_val (pe_call G_is_tuple_of (hr.mono (by first | decide | omega)) (by rfl) D_is_tuple_of.m D_is_tuple_of.kp D_is_tuple_of.b .nil pass0 (pa_cons (pv 0) (pa_cons pe_int pa_nil))))) (pss_one (ps_ret pe_bl)) pss_nil)
  (pss_cons (ps_asg (pv 0) (pg_tup rfl (pgs_cons (pg_name (i := 1) nd rfl (Or.inl rfl)) (pgs_cons (pg_name (i := 2) nd rfl (Or.inl rfl)) (pgs_cons (pg_name (i := 3) nd rfl (Or.inl rfl)) pgs_nil)))))
  (pss_cons (ps_if (PW.pt (pw_or (pt_cmpR op_ne (pv 1) pe_str (nomark _)) (pw_or (pt_not (pt_val (pe_call G_is_kind (hr.mono (by first | decide | omega)) (by rfl) D_is_kind.m D_is_kind.kp D_is_kind.b .nil pass0 (pa_cons (pv 2) pa_nil)))) (pw_or1 (pt_not (pt_val (pe_callB call_isi (by rfl) B.b_isinstance (by decide +kernel) (pa_cons (pv 3) (pa_cons (pe_bltn (v := .ty "tuple") (by rfl) B.b_tuple (by decide +kernel) rfl) pa_nil))))))))) (pss_one (ps_ret pe_bl)) pss_nil)
  (pss_cons (ps_set (i := 4) nd rfl (Or.inl rfl) (show PE _ _ (tDkNew P w) from pe_dkNew))
  (pss_cons (ps_set (i := 5) nd rfl (Or.inl rfl) (pe_tup pa_nil))
  (pss_cons (ps_for PassesOwn.never rfl (pi_tup (pv 3)) (pg_name (i := 6) nd rfl (Or.inl rfl)) (pss_cons (ps_if (pt_not (pt_val (pe_call G__is_row (hr.mono (by first | decide | omega)) (by rfl) D__is_row.m D__is_row.kp D__is_row.b .nil pass0 (pa_cons (pv 2) (pa_cons (pv 6) pa_nil))))) (pss_one (ps_ret pe_bl)) pss_nil)
  (pss_cons (ps_asg (pv 6) (pg_tup rfl (pgs_cons (pg_name (i := 7) nd rfl (Or.inl rfl)) (pgs_cons (pg_name (i := 8) nd rfl (Or.inl rfl)) pgs_nil))))
  (pss_cons (ps_if (PW.pt (pw_or (pt_cmpR (op_leD hr.units) (pv 7) (pv 5) (nomark _)) (pw_or1 (PW.pt (pw_and (pt_cmpR op_gt (pe_callB call_len_seq (by rfl) B.b_len PySem.boot_len (pa_cons (pv 7) pa_nil)) pe_int (nomark _)) (pw_and1 (pt_cmpR (op_neD hr.units) (show PE _ _ (tDkGet1 P w K _ _) from pe_dkGet1 hr.units (pv 4) (pe_slice sl_tupP (pv 7) po_none (po_some (pe_un un_neg pe_int))) ⟨rfl, rfl, rfl, rfl⟩) (pe_ix ix_tup (pv 7) (pe_un un_neg pe_int) (fun _ _ => rfl)) (nomark _)))))))) (pss_one (ps_ret pe_bl)) pss_nil)
  (pss_cons (show PS _ _ (tDkPut P w K _ _ _) from ps_dkPut hr.units (pv 4) (pv 7) (pv 8) rfl)
  (pss_one (ps_set (i := 5) nd rfl (Or.inl rfl) (pv 7))))))))
  (pss_one (ps_ret pe_bl)))))))), ?_⟩
  obtain ⟨a, kv, b, xs, rfl, ha, rk, hb, rxs, lx⟩ := strat_inv2 rv
  refine ⟨_, rfl, .ref a, _, rfl, rv, rfl, _, rfl, iteF ?_⟩
  refine ⟨_, rfl, a, _, rfl, ha.sq, rfl, _, _, rfl, _, _, rfl, _, _, rfl, rfl, ?_⟩
  refine ⟨_, rfl, rfl, _, rfl, iteF ?_⟩
  refine ⟨_, rfl, kv, kd, rfl, rk, by have := hq.kk.2; omega, fun H1 s1 => ?_⟩
  rw [hq.kk.1]
  refine ⟨_, rfl, iteF ?_⟩
  have rb1 : Rep K H1 (.ref b) (.tup ((sortR rows).map rowD)) := (Rep.tup hb rxs).mono (kx_same s1)
  refine ⟨_, rfl, _, _, _, _, _, rfl, .ty _, rep_ty rb1, kit_ty (kit_tup _), ⟨_, rfl, iteF ?_⟩⟩
  refine fun d nd' => ⟨(by show 0 ≤ sizeLine; decide), fun t nt => ?_⟩
  have s2 := same_new nd' (DkO P w d [])
  have s3 := same_new nt (.tup [])
  have hd3 : upd (upd H1 d (DkO P w d [])) t (.tup []) d = some (DkO P w d []) := s3 _ _ upd_same
  have ht3 : upd (upd H1 d (DkO P w d [])) t (.tup []) t = some (.tup []) := upd_same
  have s13 := s1.trans (s2.trans s3)
  have nH : H d = none := s1.free nd'
  generalize upd (upd H1 d (DkO P w d [])) t (.tup []) = H3 at *
  have pm := sortE_perm (fun r : Row => tkD (rowD r)) rows
  refine ⟨_, rfl, b, rfl, ⟨_, (hb.same s13).sq⟩, for_tup (K := K) (a := b) (xs := xs) (fun i σ H' => Same H H' ∧ DR P w K H' d ((sortR rows).take i) ∧ ∃ (y5 y6 y7 y8 : Option V) (lv : V), y5 = some lv ∧ Rep K H' lv (playD (lastP (sortR rows) i)) ∧ σ = [some (.ref a), some (.str "strategy"), some kv, some (.ref b), some (.ref d), y5, y6, y7, y8])
    ⟨s13, ⟨[], hd3, .nil⟩, some (.ref t), none, none, none, .ref t, rfl, .tup' ht3 .nil, rfl⟩ (fun i σ H' _ h => (hb.same h.1).sq) ?_ ?_⟩
  · rintro i x σ H4 hx ⟨s4, hD, y5, y6, y7, y8, lv, rfl, rl, rfl⟩
    have hi := (List.getElem?_eq_some_iff.mp hx).1
    obtain ⟨r, er⟩ : ∃ r, (sortR rows)[i]? = some r := ⟨_, List.getElem?_eq_getElem (by omega)⟩
    have mr : r ∈ rows := pm.mem_iff.mp (List.mem_of_getElem? er)
    obtain ⟨x', hx', rx⟩ := rows_at rxs er
    rw [hx] at hx'
    obtain rfl := Option.some.inj hx'
    have hR := hq.rq r mr
    have hO := hq.ok r mr
    refine ⟨_, rfl, _, rfl, kv, x, kd, r, rfl, rk.mono (kx_same s4), hq.kk.1, hq.kk.2, rx.mono (kx_same s4), hR, fun H5 s5 => ?_⟩
    have s45 := s4.trans s5
    refine ⟨_, rfl, iteF ?_⟩
    obtain ⟨ra, sv, xv, rfl, hra, rs, rxv⟩ := row_inv rx
    refine ⟨_, rfl, ra, _, rfl, (hra.same s45).sq, rfl, _, _, rfl, _, _, rfl, rfl, ?_⟩
    obtain ⟨sa, ss, rfl, hsa, rss, lss⟩ := play_inv rs
    have hWs : WkS r.1 := wk_of hO.1
    have rl5 := rl.mono (kx_same s5)
    have hlast : dle (toPy (playD r.1)) (toPy (playD (lastP (sortR rows) i))) = false ∧ cpb (toPy (playD r.1)) (toPy (playD (lastP (sortR rows) i))) = true := by
      cases i with
      | zero => exact ⟨dle_nil (List.length_pos_iff.mp hR.pos), cpb_nil _⟩
      | succ j =>
        have hj : j < (sortR rows).length := by omega
        have ej : (sortR rows)[j]? = some (sortR rows)[j] := List.getElem?_eq_getElem hj
        have mj : (sortR rows)[j] ∈ rows := pm.mem_iff.mp (List.mem_of_getElem? ej)
        have el : lastP (sortR rows) (j + 1) = ((sortR rows)[j]).1 := by
          show ((sortR rows)[j]?.map Prod.fst).getD [] = _
          rw [ej]
          rfl
        rw [el]
        have hWj : WkS ((sortR rows)[j]).1 := wk_of (hq.ok _ mj).1
        exact ⟨dle_wk hWs hWj (sorted_rows hq.nd hq.ok ej er (Nat.lt_succ_self j)), cpb_wk hWs hWj⟩
    have hD5 := hD.same s5
    refine nx_rest (fun σ' H' => σ' = [some (.ref a), some (.str "strategy"), some kv, some (.ref b), some (.ref d), some lv, some (.ref ra), some (.ref sa), some xv] ∧ Same H5 H') (fun rest => ?_) ?_
    · refine ⟨_, rfl, _, rfl, playD r.1, playD (lastP (sortR rows) i), rs.mono (kx_same s45), rl5, noLd_play _, noLd_play _, hlast.2, (fun z => by cases z), Nat.le_trans (dep_play _) (by decide), ?_⟩
      rw [hlast.1]
      refine ⟨_, rfl, iteF ?_⟩
      refine ⟨_, rfl, sa, ss, rfl, .inr (hsa.same s45).sq, _, _, rfl, rfl, ?_⟩
      refine ⟨_, rfl, ite2 (fun z => ?_) (fun z => ?_)⟩
      · have z' : (1 : Int) < ((ss.length : Nat) : Int) := of_decide_eq_true z
        rcases hq.up r mr with hu | ⟨u, x, y, eu, mu⟩
        · omega
        · have hlk := before hq.nd hq.ok er eu mu
          obtain ⟨es, he, pe⟩ := hD5
          refine ⟨_, rfl, d, es, rfl, ⟨.inl he, entR_keys pe⟩, ?_⟩
          refine ⟨_, rfl, _, rfl, _, rfl, sa, ss, rfl, (hsa.same s45), fun cp H6 s6 hcp => ?_⟩
          have lu : r.1.length = u.length + 1 + 1 := by rw [eu, len_sn, len_sn]
          have ecut : cutV ss none (some (-2)) = ss.take u.length := by
            unfold cutV
            have e1 : HT.sIx ss.length 0 none = 0 := rfl
            have e2 : HT.sIx ss.length ss.length (some (-2)) = ss.length - 2 := by
              unfold HT.sIx
              first | (simp; omega) | (split <;> omega) | (simp only; split <;> omega)
            rw [e1, e2, List.drop_zero, Nat.sub_zero, show ss.length - 2 = u.length by omega]
          rw [ecut] at hcp
          have ru : Rep K H6 (.ref cp) (playD u) := by
            have ert : (r.1.map stD).take u.length = u.map stD := by
              rw [← List.map_take, eu, List.append_assoc, List.take_left]
            show Rep K H6 (.ref cp) (.tup (u.map stD))
            rw [← ert]
            exact .tup hcp ((rss.mono (kx_same (s45.trans s6))).take _)
          have he6 := s6 _ _ he
          have pe6 := entR_mono (kx_same s6) pe
          obtain ⟨v1, ev1, rv1⟩ := entR_some pe6 hlk
          refine ⟨cp, es, kyP u, rfl, ⟨.inl he6, entR_keys pe6⟩, keyP ru, ?_⟩
          rw [ev1]
          have ex : r.1[u.length]? = some x := by
            rw [eu, List.append_assoc, List.getElem?_append_right (Nat.le_refl _), Nat.sub_self]
            rfl
          obtain ⟨v2, hv2, rv2⟩ := play_at rss ex
          have at2 : atI ss (-2) = some v2 := by
            unfold atI ixN
            rw [if_neg (by omega), if_pos (by omega)]
            show ss[((-2 : Int) + ((ss.length : Nat) : Int)).toNat]? = some v2
            rw [show ((-2 : Int) + ((ss.length : Nat) : Int)).toNat = u.length by omega]
            exact hv2
          refine ⟨_, rfl, _, rfl, sa, ss, _, _, rfl, rfl, (hsa.same (s45.trans s6)).sq, at2, toPy (stD x), toPy (stD x), dp_noL rv1 (noLd_st x), dp_noL (rv2.mono (kx_same (s45.trans s6))) (noLd_st x), shaped_st x, shaped_st x, ?_⟩
          rw [SeqAt.eqv_refl_plain _ (plain_noL _ (noLd_st x))]
          exact ⟨_, rfl, iteF (rest _ _ ⟨rfl, s6⟩)⟩
      · exact rest _ _ ⟨rfl, Same.refl _⟩
    · rintro σ' H6 ⟨rfl, s6⟩
      have s46 := s45.trans s6
      obtain ⟨es, he, pe⟩ := hD5.same s6
      have rs6 := rs.mono (kx_same s46)
      have rx6 := rxv.mono (kx_same s46)
      have hf : lkR ((sortR rows).take i) r.1 = none := fresh_take hq.nd er
      refine ⟨_, rfl, _, rfl, _, rfl, d, sa, es, kyP r.1, rfl, rfl, he, entR_keys pe, keyP rs6, ?_, ?_⟩
      · have := DR.len pe
        have h9 := hq.len
        have h8 : (sortR rows).length = rows.length := pm.length_eq
        rw [List.length_take] at this
        omega
      have hD7 := DR.put (P := P) (w := w) (x := r.2) (v := xv) he pe hf rs6 rx6
      refine ⟨_, rfl, fun o u e => ?_, ?_, _, _, _, _, .ref sa, rfl, ?_, rfl⟩
      · rw [upd_ne (ne_of_none e nH)]
        exact s46 _ _ e
      · rw [List.take_add_one, er]
        exact hD7
      · have el : lastP (sortR rows) (i + 1) = r.1 := by
          show ((sortR rows)[i]?.map Prod.fst).getD [] = _
          rw [er]
          rfl
        rw [el]
        exact rs6.mono (sb_kxE he (sb_upd _))
  · rintro σ H4 ⟨s4, hD, y5, y6, y7, y8, lv, rfl, rl, rfl⟩
    exact q _ s4
end
end Pk

set_option maxRecDepth 100000
set_option maxHeartbeats 4000000
set_option pp.maxSteps 600
namespace Pk
open PySem PySem.Spec PyProof.Rows L2
open LamX
/-! ### trees, walked from the root, put together from the leaves -/
inductive GT where
  | nd : D → List GT → GT
abbrev Nt := D × Nat
mutual
def visG : GT → List Nt
  | .nd n ks => (n, ks.length) :: visR ks
/-- the last one first -/
def visR : List GT → List Nt
  | [] => []
  | t :: r => visR r ++ visG t
end
theorem visR_app : ∀ (a b : List GT), visR (a ++ b) = visR b ++ visR a
  | [], b => by
    show visR b = visR b ++ []
    rw [List.append_nil]
  | t :: a, b => by
    show visR (a ++ b) ++ visG t = visR b ++ (visR a ++ visG t)
    rw [visR_app a b, List.append_assoc]
mutual
def foG (pt : D → List D → D) : GT → D
  | .nd n ks => pt n (foGs pt ks)
def foGs (pt : D → List D → D) : List GT → List D
  | [] => []
  | t :: r => foG pt t :: foGs pt r
end
theorem foGs_len (pt : D → List D → D) : ∀ l : List GT, (foGs pt l).length = l.length
  | [] => rfl
  | _ :: r => congrArg (· + 1) (foGs_len pt r)
theorem foGs_map (pt : D → List D → D) : ∀ l : List GT, foGs pt l = l.map (foG pt)
  | [] => rfl
  | _ :: r => congrArg (_ :: ·) (foGs_map pt r)
mutual
def okG (pt : D → List D → D) (Ok : D → List D → Prop) : GT → Prop
  | .nd n ks => Ok n (foGs pt ks) ∧ okGs pt Ok ks
def okGs (pt : D → List D → D) (Ok : D → List D → Prop) : List GT → Prop
  | [] => True
  | t :: r => okG pt Ok t ∧ okGs pt Ok r
end
mutual
def szG : GT → Nat
  | .nd _ ks => 1 + szGs ks
def szGs : List GT → Nat
  | [] => 0
  | t :: r => szG t + szGs r
end
theorem szGs_app : ∀ (a b : List GT), szGs (a ++ b) = szGs a + szGs b
  | [], b => by show szGs b = 0 + szGs b; omega
  | t :: a, b => by
    show szG t + szGs (a ++ b) = szG t + szGs a + szGs b
    rw [szGs_app a b]
    omega
theorem szGs_len : ∀ a : List GT, a.length ≤ szGs a
  | [] => Nat.le_refl _
  | .nd n ks :: a => by
    have := szGs_len a
    show a.length + 1 ≤ 1 + szGs ks + szGs a
    omega
mutual
theorem visG_len : ∀ t : GT, (visG t).length = szG t
  | .nd n ks => by
    show (visR ks).length + 1 = 1 + szGs ks
    rw [visR_len ks]
    omega
theorem visR_len : ∀ l : List GT, (visR l).length = szGs l
  | [] => rfl
  | t :: r => by
    show (visR r ++ visG t).length = szG t + szGs r
    rw [List.length_append, visR_len r, visG_len t]
    omega
end
theorem okGs_app {pt : D → List D → D} {Ok : D → List D → Prop} : ∀ {a b : List GT}, okGs pt Ok (a ++ b) ↔ okGs pt Ok a ∧ okGs pt Ok b
  | [], b => ⟨fun h => ⟨trivial, h⟩, fun h => h.2⟩
  | t :: a, b => by
    have ih := okGs_app (pt := pt) (Ok := Ok) (a := a) (b := b)
    exact ⟨fun ⟨h1, h2⟩ => ⟨⟨h1, (ih.mp h2).1⟩, (ih.mp h2).2⟩, fun ⟨⟨h1, h2⟩, h3⟩ => ⟨h1, ih.mpr ⟨h2, h3⟩⟩⟩
def runN (pt : D → List D → D) (made : List D) (q : Nt) : List D := made.take (made.length - q.2) ++ [pt q.1 (made.drop (made.length - q.2))]
def GoodN (pt : D → List D → D) (Ok : D → List D → Prop) : List D → List Nt → Prop
  | _, [] => True
  | made, q :: L => (q.2 ≤ made.length ∧ Ok q.1 (made.drop (made.length - q.2))) ∧ GoodN pt Ok (runN pt made q) L
section
variable {pt : D → List D → D} {Ok : D → List D → Prop}
theorem run_at {made ds : List D} {n : D} : runN pt (made ++ ds) (n, ds.length) = made ++ [pt n ds] := by
  unfold runN
  rw [List.length_append, show made.length + ds.length - ds.length = made.length by omega, List.take_left, List.drop_left]
mutual
theorem goodG : ∀ (t : GT) (made : List D) (L : List Nt), okG pt Ok t → GoodN pt Ok (made ++ [foG pt t]) L → GoodN pt Ok made ((visG t).reverse ++ L)
  | .nd n ks, made, L, ⟨o1, o2⟩, h => by
    show GoodN pt Ok made (((n, ks.length) :: visR ks).reverse ++ L)
    rw [List.reverse_cons, List.append_assoc]
    refine goodR ks made _ o2 ⟨⟨?_, ?_⟩, ?_⟩
    · rw [List.length_append, foGs_len]
      show ks.length ≤ _
      omega
    · show Ok n ((made ++ foGs pt ks).drop ((made ++ foGs pt ks).length - ks.length))
      rw [List.length_append, foGs_len, show made.length + ks.length - ks.length = made.length by omega, List.drop_left]
      exact o1
    · rw [← foGs_len pt ks, run_at]
      exact h
theorem goodR : ∀ (l : List GT) (made : List D) (L : List Nt), okGs pt Ok l → GoodN pt Ok (made ++ foGs pt l) L → GoodN pt Ok made ((visR l).reverse ++ L)
  | [], made, L, _, h => by
    have h' : GoodN pt Ok (made ++ []) L := h
    rw [List.append_nil] at h'
    exact h'
  | t :: r, made, L, ⟨o1, o2⟩, h => by
    show GoodN pt Ok made ((visR r ++ visG t).reverse ++ L)
    rw [List.reverse_append, List.append_assoc]
    refine goodG t made _ o1 (goodR r _ L o2 ?_)
    rw [List.append_assoc]
    exact h
end
mutual
theorem foldG : ∀ (t : GT) (made : List D), (visG t).reverse.foldl (runN pt) made = made ++ [foG pt t]
  | .nd n ks, made => by
    show ((n, ks.length) :: visR ks).reverse.foldl (runN pt) made = _
    rw [List.reverse_cons, List.foldl_append, foldR ks made, ← foGs_len pt ks]
    show runN pt (made ++ foGs pt ks) (n, (foGs pt ks).length) = _
    rw [run_at]
    rfl
theorem foldR : ∀ (l : List GT) (made : List D), (visR l).reverse.foldl (runN pt) made = made ++ foGs pt l
  | [], made => (List.append_nil made).symm
  | t :: r, made => by
    show (visR r ++ visG t).reverse.foldl (runN pt) made = _
    rw [List.reverse_append, List.foldl_append, foldG t made, foldR r _, List.append_assoc]
    rfl
end
end
def ntD (q : Nt) : D := .tup [q.1, numD' q.2]
def noteG : GT → D
  | .nd n _ => n
def kidsG : GT → List GT
  | .nd _ ks => ks
/-- the nodes' own data -/
inductive Nodes (Nr : GT → V → Hp → Prop) (H : Hp) : List V → List GT → Prop
  | nil : Nodes Nr H [] []
  | cons {v : V} {t : GT} {vs : List V} {ts : List GT} : Nr t v H → Nodes Nr H vs ts → Nodes Nr H (v :: vs) (t :: ts)
theorem Nodes.length {Nr : GT → V → Hp → Prop} {H : Hp} {vs : List V} {ts : List GT} (h : Nodes Nr H vs ts) : vs.length = ts.length := by
  induction h with
  | nil => rfl
  | cons _ _ ih => exact congrArg (· + 1) ih
theorem Nodes.mono {Nr : GT → V → Hp → Prop} {H H' : Hp} (k : ∀ t v, Nr t v H → Nr t v H') {vs : List V} {ts : List GT} (h : Nodes Nr H vs ts) : Nodes Nr H' vs ts := by
  induction h with
  | nil => exact .nil
  | cons h _ ih => exact .cons (k _ _ h) ih
theorem Nodes.append {Nr : GT → V → Hp → Prop} {H : Hp} {vs us : List V} {ts rs : List GT} (h : Nodes Nr H vs ts) (g : Nodes Nr H us rs) : Nodes Nr H (vs ++ us) (ts ++ rs) := by
  induction h with
  | nil => exact g
  | cons h _ ih => exact .cons h ih
theorem Nodes.last {Nr : GT → V → Hp → Prop} {H : Hp} : ∀ {vs : List V} {ts : List GT}, Nodes Nr H vs ts → vs ≠ [] → ∃ v t rs, ts = rs ++ [t] ∧ vs.getLast? = some v ∧ Nr t v H ∧ Nodes Nr H vs.dropLast rs
  | [v], _, .cons h .nil, _ => ⟨v, _, [], rfl, rfl, h, .nil⟩
  | v :: w :: vs, _, .cons (ts := ts) h g, _ => by
    obtain ⟨x, t, rs, e1, e2, e3, e4⟩ := g.last (List.cons_ne_nil _ _)
    subst e1
    exact ⟨x, t, _ :: rs, rfl, by rw [List.getLast?_cons_cons]; exact e2, e3, .cons h e4⟩
  | [], _, _, h => absurd rfl h
/-- put_together: from a note and the parts in a list -/
def spPt (K : PySem.W.Frag) (pt : D → List D → D) (Ok : D → List D → Prop) : Sp := fun vs H Q _ => ∃ (nv : V) (l : Addr) (ps : List V) (n : D) (ds : List D), vs = [nv, .ref l] ∧ Rep K H nv n ∧ H l = some (.lst ps) ∧ Reps K H ps ds ∧ Ok n ds ∧ ∀ z H', Same H H' → Rep K H' z (pt n ds) → Q z H'
/-- what grown makes of its root and of the way the nodes are spread -/
def TTg (K : PySem.W.Frag) (pt : D → List D → D) (Ok : D → List D → Prop) (Nr : GT → V → Hp → Prop) : V → (V → Hp → VK → Prop) → Hp → VK → Prop := fun v1 tl H Q => ∃ t : GT, Nr t v1 H ∧ okG pt Ok t ∧ szG t ≤ 100000 ∧
  (∀ t' v H1 (Q' : VK), Same H H1 → Nr t' v H1 → okG pt Ok t' → (∀ (a r : Addr) (nv : V) (acc : List V) (H2 : Hp), Same H1 H2 → H1 r = none → H2 a = some (.tup [nv, .ref r]) → Rep K H2 nv (noteG t') → H2 r = some (.lst acc) → Nodes Nr H2 acc (kidsG t') → Q' (.ref a) H2) → tl v H1 Q') ∧
  (∀ z H', Same H H' → Rep K H' z (foG pt t) → Q z H')
theorem ne_of_none' {H : Hp} {a b : Addr} {o : HO} (h : H a = none) (g : H b = some o) : a ≠ b := fun e => by
  rw [e, g] at h
  cases h
theorem ne_of_lst_tup {H : Hp} {a b : Addr} {xs ys : List V} (h : H a = some (.lst xs)) (g : H b = some (.tup ys)) : b ≠ a := fun e => by
  rw [e, h] at g
  cases g
theorem gives_grown {X : Cx} {g g3 : Addr} {cdg : Value} {q : Str} {CXp : CXT} {kp : Nat} {fd3 : FuncData} {ps3 : List Str} {pt : D → List D → D} {Ok : D → List D → Prop} {Nr : GT → V → Hp → Prop} (Nm : ∀ t v H H', Kx H H' → Nr t v H → Nr t v H')
    (G_put : FnOk X.prog X.w X.K X.mg X.base CX0 kp g3 fd3 ps3 (spPt X.K pt Ok)) (hk3 : PySem.W.keepIn X.K (.ref g3) = true) (hb3 : Binds X.K fd3 ps3 []) (B : Bt X.mg) :
    GivesP3 X ["root", "spread", "put_together", "notes", "pending", "note", "inner", "made", "many", "first", "parts"] "grown" (defScope s_grown) g cdg (defBody s_grown) 1 "spread" q g3 kp (TTg X.K pt Ok Nr) := by
  intro f c' s H Q v1 tl act hc hr h
  obtain ⟨t, rt, hok, hsz, hspr, q1⟩ := h
  have nd := c_grown.nd
  refine ⟨_, (pss_cons (ps_set (i := 3) nd rfl (Or.inl rfl) (pe_lst pa_nil))
  (pss_cons (ps_set (i := 4) nd rfl (Or.inl rfl) (pe_lst (pa_cons (pv 0) pa_nil)))
  (pss_cons (ps_while PassesOwn.never (pt_truth (pv 4) (by intro _; rfl)) (pss_cons (ps_asg (act _ _ _ _ (pe_bm0 PySem.F.plainAttrs_list PySem.F.slot_list_pop PySem.F.type_list_pop mt_pop (pv 4)) rfl) (pg_tup rfl (pgs_cons (pg_name (i := 5) nd rfl (Or.inl rfl)) (pgs_cons (pg_name (i := 6) nd rfl (Or.inl rfl)) pgs_nil))))
  (pss_cons (ps_expr (pe_bm PySem.F.plainAttrs_list PySem.F.slot_list_append PySem.F.type_list_append mt_append (pv 3) (pa_cons (pe_tup (pa_cons (pv 5) (pa_cons (pe_callB call_len_seq (by rfl) B.b_len PySem.boot_len (pa_cons (pv 6) pa_nil)) pa_nil))) pa_nil)))
  (pss_one (ps_expr (pe_bm PySem.F.plainAttrs_list PySem.F.slot_list_extend PySem.F.type_list_extend mt_extend (pv 4) (pa_cons (pv 6) pa_nil)))))))
  (pss_cons (ps_set (i := 7) nd rfl (Or.inl rfl) (pe_lst pa_nil))
  (pss_cons (ps_for PassesOwn.never rfl (pi_list (pe_revL (pv 3))) (pg_tup rfl (pgs_cons (pg_name (i := 5) nd rfl (Or.inl rfl)) (pgs_cons (pg_name (i := 8) nd rfl (Or.inl rfl)) pgs_nil))) (pss_cons (ps_set (i := 9) nd rfl (Or.inl rfl) (pe_op op_sub (pe_callB call_len_seq (by rfl) B.b_len PySem.boot_len (pa_cons (pv 7) pa_nil)) (pv 8)))
  (pss_cons (ps_set (i := 10) nd rfl (Or.inl rfl) (pe_slice sl_list (pv 7) (po_some (pv 9)) po_none))
  (pss_cons (show PS _ _ (tDelF _ _) from ps_delF (pv 7) (pv 9))
  (pss_one (ps_expr (pe_bm PySem.F.plainAttrs_list PySem.F.slot_list_append PySem.F.type_list_append mt_append (pv 7) (pa_cons (pe_callL (i := 2) G_put (hr.mono (by first | decide | omega)) rfl (Or.inl rfl) hk3 hb3 .nil pass0 (pa_cons (pv 5) (pa_cons (pv 10) pa_nil))) pa_nil))))))))
  (pss_one (ps_ret (pe_ix ix_list (pv 7) pe_int (fun _ _ => rfl))))))))), ?_⟩
  refine ⟨(by show 0 ≤ sizeLine; decide), fun nl nnl => ?_⟩
  refine ⟨_, rfl, (by show 1 ≤ sizeLine; decide), fun pd npd => ?_⟩
  have sA := same_new nnl (.lst [])
  have sB := same_new npd (.lst [v1])
  have nPd : H pd = none := sA.free npd
  have hne : nl ≠ pd := ne_of_none upd_same npd
  have hnl0 : upd (upd H nl (.lst [])) pd (.lst [v1]) nl = some (.lst []) := sB _ _ upd_same
  have hpd0 : upd (upd H nl (.lst [])) pd (.lst [v1]) pd = some (.lst [v1]) := upd_same
  have s0 := sA.trans sB
  generalize upd (upd H nl (.lst [])) pd (.lst [v1]) = H0 at *
  obtain ⟨W, hW⟩ : ∃ W : Nat → L2.St → Hp → Prop, ∀ m σ H', W m σ H' ↔ (∃ (xs ns : List V) (ts : List GT) (L : List Nt) (y5 y6 : Option V), σ = [some v1, some (.ref f), some (.ref g3), some (.ref nl), some (.ref pd), y5, y6, none, none, none, none] ∧ Same H H' ∧ H' pd = some (.lst xs) ∧ Nodes Nr H' xs ts ∧ okGs pt Ok ts ∧ H' nl = some (.lst ns) ∧ Reps X.K H' ns (L.map ntD) ∧ L ++ visR ts = visG t ∧ m = szGs ts) := ⟨_, fun _ _ _ => Iff.rfl⟩
  have hvl := visG_len t
  refine ⟨W, ⟨szGs [t], (hW _ _ _).mpr ⟨[v1], [], [t], [], none, none, rfl, s0, hpd0, .cons (Nm _ _ _ _ (kx_same s0) rt) .nil, ⟨hok, trivial⟩, hnl0, .nil, rfl, rfl⟩⟩, ?_⟩
  intro m σ H1 hw
  obtain ⟨xs, ns, ts, L, y5, y6, rfl, s1, hpd, hN, hks, hnl, rns, hL, rfl⟩ := (hW _ _ _).mp hw
  have lns : ns.length = L.length := by rw [rns.length, List.length_map]
  have hlL : L.length + szGs ts = szG t := by
    rw [← hvl, ← hL, List.length_append, visR_len]
  refine ⟨_, rfl, _, .inl ⟨xs, SqL.of hpd, rfl⟩, ?_⟩
  cases xs with
  | nil =>
    cases hN
    refine iteF ?_
    have eL : L = visG t := by
      have h0 : L ++ [] = visG t := hL
      rw [List.append_nil] at h0
      exact h0
    subst eL
    refine ⟨(by show 0 ≤ sizeLine; decide), fun md nmd => ?_⟩
    have s4 := same_new nmd (.lst [])
    have nMd : H md = none := s1.free nmd
    have hmd4 : upd H1 md (.lst []) md = some (.lst []) := upd_same
    have hnl4 := s4 _ _ hnl
    have s14 := s1.trans s4
    have rns4 := rns.mono (kx_same s4)
    generalize upd H1 md (.lst []) = H4 at *
    refine ⟨_, rfl, nl, ns, rfl, SqL.of hnl4, fun rv nrv => ?_⟩
    have s5 := same_new nrv (.lst ns.reverse)
    have hrv5 : upd H4 rv (.lst ns.reverse) rv = some (.lst ns.reverse) := upd_same
    have hmr : md ≠ rv := ne_of_none hmd4 nrv
    have hmd5 := s5 _ _ hmd4
    have s15 := s14.trans s5
    have rrv5 : Reps X.K (upd H4 rv (.lst ns.reverse)) ns.reverse ((visG t).reverse.map ntD) := by
      rw [List.map_reverse]
      exact (rns4.mono (kx_same s5)).reverse
    have lR : (visG t).reverse.length = ns.length := by rw [List.length_reverse, lns]
    generalize upd H4 rv (.lst ns.reverse) = H5 at *
    have hgood : GoodN pt Ok [] (visG t).reverse := by
      have := goodG t [] [] hok trivial
      rw [List.append_nil] at this
      exact this
    refine ⟨rv, rfl, ⟨_, SqL.of hrv5⟩, for_list (K := X.K) (a := rv) (xs := ns.reverse) (fun i σ H' => Same H H' ∧ ∃ (mxs : List V) (mds : List D) (y5 y8 y9 y10 : Option V), σ = [some v1, some (.ref f), some (.ref g3), some (.ref nl), some (.ref pd), y5, y6, some (.ref md), y8, y9, y10] ∧ H' md = some (.lst mxs) ∧ Reps X.K H' mxs mds ∧ mds.length ≤ i ∧
        H' rv = some (.lst ns.reverse) ∧ Reps X.K H' ns.reverse ((visG t).reverse.map ntD) ∧ GoodN pt Ok mds ((visG t).reverse.drop i) ∧ ((visG t).reverse.drop i).foldl (runN pt) mds = [foG pt t])
      ⟨s15, [], [], y5, none, none, none, rfl, hmd5, .nil, Nat.le_refl _, hrv5, rrv5, hgood, foldG t []⟩ (fun i σ H' _ h => ?_) ?_ ?_⟩
    · obtain ⟨_, _, _, _, _, _, _, _, _, _, _, h, _⟩ := h
      exact SqL.of h
    · rintro i x σ H6 hx ⟨s6, mxs, mds, z5, z8, z9, z10, rfl, hmd, rmd, hml, hrv, rrv, hg, hfo⟩
      have hi := (List.getElem?_eq_some_iff.mp hx).1
      rw [List.length_reverse] at hi
      have hiR : i < (visG t).reverse.length := by omega
      rw [List.drop_eq_getElem_cons hiR] at hg hfo
      generalize hq : (visG t).reverse[i] = q at hg hfo
      have hqe : ((visG t).reverse.map ntD)[i]? = some (ntD q) := by
        rw [List.getElem?_map, List.getElem?_eq_getElem hiR, hq]
        rfl
      obtain ⟨x', hx', rx⟩ := rrv.getD hqe
      rw [hx] at hx'
      obtain rfl := Option.some.inj hx'
      obtain ⟨n, m⟩ := q
      obtain ⟨a, axs, rfl, ha, rax⟩ := Rep.inv (ts := [n, numD' m]) rx
      obtain ⟨nv, mv, rfl, rnv, rmv⟩ : ∃ nv mv, axs = [nv, mv] ∧ Rep X.K H6 nv n ∧ Rep X.K H6 mv (numD' m) := by
        cases rax with
        | cons r1 rax =>
          cases rax with
          | cons r2 rax =>
            cases rax
            exact ⟨_, _, rfl, r1, r2⟩
      obtain ⟨rfl, _⟩ := Rep.inva rmv
      obtain ⟨⟨g1, g2⟩, g3⟩ := hg
      have g1 : m ≤ mds.length := g1
      have lmd := rmd.length
      refine ⟨a, _, rfl, ha.sq, rfl, _, _, rfl, _, _, rfl, rfl, ?_⟩
      refine ⟨_, rfl, md, mxs, rfl, .inl (SqL.of hmd), _, rfl, _, _, rfl, rfl, ?_⟩
      have elo : (((mxs.length : Nat) : Int) - ((m : Nat) : Int)) = ((mds.length - m : Nat) : Int) := by omega
      refine ⟨_, rfl, _, rfl, _, rfl, md, mxs, rfl, SqL.of hmd, fun p np => ?_⟩
      have s7 := same_new np (.lst (cutV mxs (some (((mxs.length : Nat) : Int) - ((m : Nat) : Int))) none))
      have hp7 : upd H6 p (.lst (cutV mxs (some (((mxs.length : Nat) : Int) - ((m : Nat) : Int))) none)) p = some (.lst (mxs.drop (mds.length - m))) := by
        rw [elo, cutV_from]
        exact upd_same
      have hmd7 := s7 _ _ hmd
      have hrv7 := s7 _ _ hrv
      have rmd7 := rmd.mono (kx_same s7)
      have rrv7 := rrv.mono (kx_same s7)
      have rnv7 := rnv.mono (kx_same s7)
      have s67 := s6.trans s7
      have hpm : p ≠ md := ne_of_none' np hmd
      generalize upd H6 p (.lst (cutV mxs (some (((mxs.length : Nat) : Int) - ((m : Nat) : Int))) none)) = H7 at *
      refine ⟨_, rfl, _, rfl, md, mxs, mds.length - m, rfl, congrArg V.int elo, hmd7, by omega, ?_⟩
      have k8 : Kx H7 (upd H7 md (.lst (mxs.take (mds.length - m)))) := kx_list hmd7 _
      have hp8 : upd H7 md (.lst (mxs.take (mds.length - m))) p = some (.lst (mxs.drop (mds.length - m))) := by
        rw [upd_ne hpm]
        exact hp7
      have hrv8 : upd H7 md (.lst (mxs.take (mds.length - m))) rv = some (.lst ns.reverse) := by
        rw [upd_ne (Ne.symm hmr)]
        exact hrv7
      have hmd8 : upd H7 md (.lst (mxs.take (mds.length - m))) md = some (.lst (mxs.take (mds.length - m))) := upd_same
      have s8 : Same H (upd H7 md (.lst (mxs.take (mds.length - m)))) := fun o u e => by
        rw [upd_ne (ne_of_none e nMd)]
        exact s67 _ _ e
      have rmd8 := rmd7.mono k8
      have rrv8 := rrv7.mono k8
      have rnv8 := rnv7.mono k8
      generalize upd H7 md (.lst (mxs.take (mds.length - m))) = H8 at *
      refine ⟨_, rfl, .inl ⟨rfl, _, SqL.of hmd8⟩, rfl, _, rfl, _, rfl, nv, p, _, n, mds.drop (mds.length - m), rfl, rnv8, hp8, rmd8.drop _, g2, fun z H9 s9 rz => ⟨md, _, z, rfl, rfl, s9 _ _ hmd8, small6 (by rw [List.length_take]; omega), ?_⟩⟩
      have hmd9 := s9 _ _ hmd8
      have k10 : Kx H9 (upd H9 md (.lst (mxs.take (mds.length - m) ++ [z]))) := kx_list hmd9 _
      refine ⟨fun o u e => ?_, mxs.take (mds.length - m) ++ [z], runN pt mds (n, m), _, _, _, _, rfl, upd_same, ?_, ?_, ?_, (rrv8.mono (kx_same s9)).mono k10, g3, hfo⟩
      · rw [upd_ne (ne_of_none e nMd)]
        exact s9 _ _ (s8 _ _ e)
      · exact (((rmd8.take _).mono (kx_same s9)).mono k10).append (.one (rz.mono k10))
      · show (mds.take (mds.length - m) ++ [_]).length ≤ i + 1
        rw [List.length_append, List.length_take, List.length_singleton]
        omega
      · rw [upd_ne (Ne.symm hmr)]
        exact s9 _ _ hrv8
    · rintro σ H6 ⟨s6, mxs, mds, z5, z8, z9, z10, rfl, hmd, rmd, hml, hrv, rrv, hg, hfo⟩
      rw [List.drop_of_length_le (by rw [lR, List.length_reverse]; exact Nat.le_refl _)] at hfo
      have hfo : mds = [foG pt t] := hfo
      subst hfo
      obtain ⟨v0, hv0, rv0⟩ := rmd.getD (i := 0) (d := foG pt t) rfl
      refine ⟨_, rfl, md, mxs, 0, v0, rfl, rfl, SqL.of hmd, atI_nat (j := 0) hv0, ?_⟩
      exact q1 _ _ s6 rv0
  | cons x0 r0 =>
    refine iteT ⟨fun σ' H' => ∃ m', m' < szGs ts ∧ W m' σ' H', fun _ _ h => h, ?_⟩
    obtain ⟨y, t', rs, es, hlast, ry, rrs⟩ := hN.last (fun z => by cases z)
    subst es
    obtain ⟨ok1, ok2, _⟩ := okGs_app.mp hks
    have hk2 : Kx H1 (upd H1 pd (.lst (x0 :: r0).dropLast)) := kx_list hpd _
    have s2 : Same H (upd H1 pd (.lst (x0 :: r0).dropLast)) := fun o u e => by
      rw [upd_ne (ne_of_none e nPd)]
      exact s1 _ _ e
    have hlast' : (x0 :: r0)[(x0 :: r0).length - 1]? = some y := by
      rw [← List.getLast?_eq_getElem?]
      exact hlast
    have hnl2 : upd H1 pd (.lst (x0 :: r0).dropLast) nl = some (.lst ns) := by
      rw [upd_ne hne]
      exact hnl
    have rns2 := rns.mono hk2
    have rrs2 : Nodes Nr (upd H1 pd (.lst (x0 :: r0).dropLast)) (x0 :: r0).dropLast rs := rrs.mono fun t v => Nm t v _ _ hk2
    have hpd2 : upd H1 pd (.lst (x0 :: r0).dropLast) pd = some (.lst (x0 :: r0).dropLast) := upd_same
    have ry2 := Nm _ _ _ _ hk2 ry
    refine ⟨rfl, _, rfl, .inl ⟨rfl, _, SqL.of hpd⟩, pd, _, y, rfl, rfl, hpd, hlast', s2 _ _ hc, ?_⟩
    generalize upd H1 pd (.lst (x0 :: r0).dropLast) = H2 at *
    refine hspr t' y _ _ s2 ry2 ok2 fun a r nv acc H3 s3 nr ha rnv hr3 hns => ?_
    obtain ⟨n, ks⟩ := t'
    have hns : Nodes Nr H3 acc ks := hns
    have rnv : Rep X.K H3 nv n := rnv
    have lac := hns.length
    have lrs := rrs.length
    have hszs : szGs (rs ++ [GT.nd n ks]) = szGs rs + (1 + szGs ks + 0) := szGs_app _ _
    have l1 := szGs_len ks
    have l2 := szGs_len rs
    refine ⟨a, _, rfl, SqT.of ha, rfl, _, _, rfl, _, _, rfl, rfl, ?_⟩
    refine ⟨_, rfl, .inl ⟨rfl, _, SqL.of (s3 _ _ hnl2)⟩, _, rfl, _, rfl, r, acc, rfl, .inl (SqL.of hr3), (by show 2 ≤ sizeLine; decide), fun tt ntt => ⟨nl, _, _, rfl, rfl, same_new ntt _ _ _ (s3 _ _ hnl2), small6 (by omega), ?_⟩⟩
    have s4 := same_new ntt (.tup [nv, .int ((acc.length : Nat) : Int)])
    have htt : upd H3 tt (.tup [nv, .int ((acc.length : Nat) : Int)]) tt = some (.tup [nv, .int ((acc.length : Nat) : Int)]) := upd_same
    have s34 := s3.trans s4
    have hnl4 := s34 _ _ hnl2
    have hpd4 := s34 _ _ hpd2
    have hr4 := s4 _ _ hr3
    have rns4 := rns2.mono (kx_same s34)
    have rrs4 : Nodes Nr _ _ _ := rrs2.mono fun t v => Nm t v _ _ (kx_same s34)
    have hns4 : Nodes Nr _ _ _ := hns.mono fun t v => Nm t v _ _ (kx_same s4)
    have rnv4 := rnv.mono (kx_same s4)
    have s24 := s2.trans s34
    have nNl : H nl = none := nnl
    generalize upd H3 tt (.tup [nv, .int ((acc.length : Nat) : Int)]) = H4 at *
    have k5 : Kx H4 (upd H4 nl (.lst (ns ++ [.ref tt]))) := kx_list hnl4 _
    have hpd5 : upd H4 nl (.lst (ns ++ [.ref tt])) pd = some (.lst (x0 :: r0).dropLast) := by
      rw [upd_ne (Ne.symm hne)]
      exact hpd4
    have hnl5 : upd H4 nl (.lst (ns ++ [.ref tt])) nl = some (.lst (ns ++ [.ref tt])) := upd_same
    have hrn : r ≠ nl := ne_of_none' nr hnl2
    have hrp : r ≠ pd := ne_of_none' nr hpd2
    have hr5 : upd H4 nl (.lst (ns ++ [.ref tt])) r = some (.lst acc) := by
      rw [upd_ne hrn]
      exact hr4
    have s5 : Same H (upd H4 nl (.lst (ns ++ [.ref tt]))) := fun o u e => by
      rw [upd_ne (ne_of_none e nNl)]
      exact s24 _ _ e
    have rns5 := rns4.mono k5
    have rrs5 : Nodes Nr _ _ _ := rrs4.mono fun t v => Nm t v _ _ k5
    have hns5 : Nodes Nr _ _ _ := hns4.mono fun t v => Nm t v _ _ k5
    have rtt : Rep X.K (upd H4 nl (.lst (ns ++ [.ref tt]))) (.ref tt) (ntD (n, ks.length)) := by
      refine Rep.tup' (xs := [nv, .int ((acc.length : Nat) : Int)]) ?_ (.cons (rnv4.mono k5) (.one ?_))
      · rw [upd_ne (ne_of_lst_tup hnl4 htt)]
        exact htt
      · rw [lac]
        exact .at rfl
    generalize upd H4 nl (.lst (ns ++ [.ref tt])) = H5 at *
    refine ⟨_, rfl, .inl ⟨rfl, _, SqL.of hpd5⟩, _, rfl, pd, r, _, acc, rfl, rfl, hpd5, hr5, small6' (by omega), ?_⟩
    have k6 : Kx H5 (upd H5 pd (.lst ((x0 :: r0).dropLast ++ acc))) := kx_list hpd5 _
    refine ⟨szGs (rs ++ ks), ?_, (hW _ _ _).mpr ⟨_, ns ++ [.ref tt], rs ++ ks, L ++ [(n, ks.length)], _, _, rfl, fun o u e => ?_, upd_same, (rrs5.mono fun t v => Nm t v _ _ k6).append (hns5.mono fun t v => Nm t v _ _ k6), okGs_app.mpr ⟨ok1, ok2.2⟩, ?_, ?_, ?_, rfl⟩⟩
    · rw [szGs_app, hszs]
      omega
    · rw [upd_ne (ne_of_none e nPd)]
      exact s5 _ _ e
    · rw [upd_ne hne]
      exact hnl5
    · rw [List.map_append]
      exact (rns5.mono k6).append (.one (rtt.mono k6))
    · rw [← hL, visR_app, visR_app, List.append_assoc]
      rfl
end Pk

set_option maxRecDepth 100000
set_option maxHeartbeats 4000000
set_option pp.maxSteps 600
namespace Pk
open PySem PySem.Spec PyProof.Rows L2
/-! ### bodies that stand behind a step, as the program finds them -/
abbrev Nd := T × List Stp × List Nat
def cal (cs : List Nat) : D := plD cs.reverse
def pairD (x : List Stp × List Nat) : D := .tup [playD x.1, cal x.2]
def ndD (x : Nd) : D := .tup [toD x.1, playD x.2.1, cal x.2.2]
def rowsN (x : Nd) : List Row := rowsB x.1 x.2.1 x.2.2
/-- the sight behind the argument i -/
def sibA (l : List Stp) (p : List Nat) (cs : List Nat) (i : Nat) : List Stp × List Nat := (l ++ [⟨.ask (p ++ [i]), some (l.length - 1)⟩], l.length :: cs)
def sibS (l : List Stp) (cs : List Nat) (u : Nat) : List Stp × List Nat := (l ++ [⟨.say u, some (l.length - 1)⟩], cs)
def sibs (l : List Stp) (p : List Nat) (cs : List Nat) (m : Nat) : List (List Stp × List Nat) := (List.range m).map (sibA l p cs) ++ [sibS l cs 0, sibS l cs 1]
def mkN (b : T) (x : List Stp × List Nat) : Nd := (b, x.1, x.2)
def kidN : T → List Stp → List Nat → List Nd
  | .ask up k as z o, s, cs => List.zipWith mkN (as.map progB ++ [z, o]) (sibs (s ++ [asK s (cs.getD up 0) k]) (plc s (cs.getD up 0) ++ [k]) cs as.length)
  | _, _, _ => []
def stepB : T → List Stp → List Nat → Option Stp
  | .say v, _, cs => some ⟨.say v, some (cs.getD 0 0)⟩
  | .ask up k _ _ _, s, cs => some (asK s (cs.getD up 0) k)
  | _, _, _ => none
def rows1 (t : T) (s : List Stp) (cs : List Nat) : List Row := match stepB t s cs with
  | some x => [(s, x)]
  | none => []
theorem zip_app {α β γ : Type} (f : α → β → γ) : ∀ (a a' : List α) (b b' : List β), a.length = b.length → List.zipWith f (a ++ a') (b ++ b') = List.zipWith f a b ++ List.zipWith f a' b'
  | [], _, [], _, _ => rfl
  | [], _, _ :: _, _, h => by cases h
  | _ :: _, _, [], _, h => by cases h
  | x :: a, a', y :: b, b', h => by
    show f x y :: List.zipWith f (a ++ a') (b ++ b') = f x y :: (List.zipWith f a b ++ List.zipWith f a' b')
    rw [zip_app f a a' b b' (Nat.succ.inj h)]
theorem kids_ask (up k : Nat) (as : List T) (z o : T) (s : List Stp) (cs : List Nat) : kidN (.ask up k as z o) s cs = List.zipWith mkN (as.map progB) ((List.range as.length).map (sibA (s ++ [asK s (cs.getD up 0) k]) (plc s (cs.getD up 0) ++ [k]) cs)) ++ [mkN z (sibS (s ++ [asK s (cs.getD up 0) k]) cs 0), mkN o (sibS (s ++ [asK s (cs.getD up 0) k]) cs 1)] := by
  show List.zipWith mkN (as.map progB ++ [z, o]) ((List.range as.length).map (sibA (s ++ [asK s (cs.getD up 0) k]) (plc s (cs.getD up 0) ++ [k]) cs) ++ [sibS (s ++ [asK s (cs.getD up 0) k]) cs 0, sibS (s ++ [asK s (cs.getD up 0) k]) cs 1]) = _
  rw [zip_app _ _ _ _ _ (by rw [List.length_map, List.length_map, List.length_range])]
  rfl
theorem rowsPs_flat : ∀ (ts : List T) (ks ds : List D) (p : List Nat) (l : List Stp) (n : Nat) (cs : List Nat) (i : Nat), wfPs ks ds ts = true → l.length = n + 1 → rowsPs ts p l n cs i = ((List.zipWith mkN (ts.map progB) ((List.range' i ts.length).map (sibA l p cs))).map rowsN).flatten
  | [], _, _, _, _, _, _, _, _, _ => rfl
  | t :: ts, ks, ds, p, l, n, cs, i, hw, hl => by
    obtain ⟨d, ds', rfl, w1, w2⟩ := wfPs_cons hw
    obtain ⟨m, b, rfl, _, w3⟩ := wfP_inv w1
    have ih := rowsPs_flat ts ks ds' p l n cs (i + 1) w2 hl
    show rowsB b (l ++ [⟨.ask (p ++ [i]), some n⟩]) ((n + 1) :: cs) ++ rowsPs ts p l n cs (i + 1) = _
    rw [ih, List.length_cons, List.range'_succ]
    show _ = rowsB b (l ++ [⟨.ask (p ++ [i]), some (l.length - 1)⟩]) (l.length :: cs) ++ _
    rw [hl, Nat.add_sub_cancel]
theorem rows_perm {t : T} {ks : List D} (s : List Stp) (cs : List Nat) (hw : wfB ks t = true) : (rowsB t s cs).Perm (rows1 t s cs ++ ((kidN t s cs).map rowsN).flatten) := by
  cases t with
  | prog _ _ => cases hw
  | say v => exact List.Perm.refl _
  | stop => exact List.Perm.refl _
  | ask up k as z o =>
    obtain ⟨kd, a, e1, e2, w1, w2, w3⟩ := wfB_ask hw
    rw [kids_ask, List.map_append, List.flatten_append]
    have e := rowsPs_flat as ks (args a) (plc s (cs.getD up 0) ++ [k]) (s ++ [asK s (cs.getD up 0) k]) s.length cs 0 w1 (by rw [List.length_append]; rfl)
    rw [← List.range_eq_range'] at e
    rw [← e]
    have el : (s ++ [asK s (cs.getD up 0) k]).length - 1 = s.length := by rw [List.length_append, List.length_singleton, Nat.add_sub_cancel]
    have ef : (List.map rowsN [mkN z (sibS (s ++ [asK s (cs.getD up 0) k]) cs 0), mkN o (sibS (s ++ [asK s (cs.getD up 0) k]) cs 1)]).flatten = rowsB z (s ++ [asK s (cs.getD up 0) k] ++ [⟨.say 0, some s.length⟩]) cs ++ rowsB o (s ++ [asK s (cs.getD up 0) k] ++ [⟨.say 1, some s.length⟩]) cs := by
      show rowsB z (_ ++ [⟨.say 0, some ((s ++ [asK s (cs.getD up 0) k]).length - 1)⟩]) cs ++ (rowsB o (_ ++ [⟨.say 1, some ((s ++ [asK s (cs.getD up 0) k]).length - 1)⟩]) cs ++ []) = _
      rw [el, List.append_nil]
    rw [ef]
    show ((s, asK s (cs.getD up 0) k) :: (_ ++ (_ ++ _))).Perm ((s, asK s (cs.getD up 0) k) :: (_ ++ (_ ++ _)))
    refine List.Perm.cons _ ?_
    rw [← List.append_assoc]
    exact List.perm_append_comm
/-- what is to be known of a node -/
structure OkN (x : Nd) : Prop where
  wf : ∃ ks, wfB ks x.1 = true ∧ x.2.2.length = ks.length ∧ ks ≠ [] ∧ (∀ k ∈ ks, Kd k) ∧ ks.length + nasks x.1 ≤ 1000
  s : OkS x.2.1
  c : OkC x.2.1 x.2.2
  l : x.2.1.length + 2 * nasks x.1 ≤ 1000
theorem OkN_kids {x : Nd} (h : OkN x) : ∀ y ∈ kidN x.1 x.2.1 x.2.2, OkN y := by
  obtain ⟨t, s, cs⟩ := x
  obtain ⟨⟨ks, hw, hlen, hne, hkd, hkl⟩, hs, hc, hl⟩ := h
  replace hs : OkS s := hs
  replace hc : OkC s cs := hc
  cases t with
  | say v => exact fun y hy => by cases hy
  | stop => exact fun y hy => by cases hy
  | prog _ _ => exact fun y hy => by cases hy
  | ask up k as z o =>
    obtain ⟨kd, a, e1, e2, w1, w2, w3⟩ := wfB_ask hw
    have hup : up < cs.length := by
      have := (List.getElem?_eq_some_iff.mp e1).1
      have : cs.length = ks.length := hlen
      omega
    have hA := hs.asked hc hup k
    have cA := hc.snoc (asK s (cs.getD up 0) k)
    have hpl := hs.plc (cs.getD up 0)
    have hclt := hc.lt (mem_getD hup)
    have KD : Kd a := (hkd kd (List.mem_of_getElem? e1)).sub e2
    have hl' : s.length + 2 * (1 + (nasksL as + (nasks z + nasks o))) ≤ 1000 := hl
    have hkl' : ks.length + (1 + (nasksL as + (nasks z + nasks o))) ≤ 1000 := hkl
    have el : (s ++ [asK s (cs.getD up 0) k]).length = s.length + 1 := by rw [List.length_append]; rfl
    have two : ∀ (t' : T) (u : Nat), wfB ks t' = true → nasks t' ≤ nasks z + nasks o → OkN (mkN t' (sibS (s ++ [asK s (cs.getD up 0) k]) cs u)) := fun t' u wt nt =>
      ⟨⟨ks, wt, hlen, hne, hkd, by show ks.length + nasks t' ≤ 1000; omega⟩, hA.say u _, cA.snoc _, by
        show (s ++ [asK s (cs.getD up 0) k] ++ [(⟨.say u, some _⟩ : Stp)]).length + 2 * nasks t' ≤ 1000
        rw [List.length_append, List.length_singleton, el]
        omega⟩
    intro y hy
    have hy' : y ∈ kidN (.ask up k as z o) s cs := hy
    rw [kids_ask] at hy'
    rcases List.mem_append.mp hy' with m | m
    · obtain ⟨j, hj⟩ := List.mem_iff_getElem?.mp m
      rw [List.getElem?_zipWith] at hj
      cases h1 : (as.map progB)[j]? with
      | none =>
        rw [h1] at hj
        cases hj
      | some b =>
        rw [h1] at hj
        cases h2 : ((List.range as.length).map (sibA (s ++ [asK s (cs.getD up 0) k]) (plc s (cs.getD up 0) ++ [k]) cs))[j]? with
        | none =>
          rw [h2] at hj
          cases hj
        | some q =>
          rw [h2] at hj
          have ey : mkN b q = y := Option.some.inj hj
          rw [List.getElem?_map] at h1 h2
          obtain ⟨t', ht', rfl⟩ := Option.map_eq_some_iff.mp h1
          obtain ⟨j', hj', rfl⟩ := Option.map_eq_some_iff.mp h2
          obtain ⟨d, hd, wd⟩ := wfPs_at w1 ht'
          obtain ⟨m', b, rfl, _, wb⟩ := wfP_inv wd
          have hn := nasksL_at ht'
          have hn' : nasks b ≤ nasksL as := hn
          subst ey
          refine ⟨⟨d :: ks, wb, ?_, List.cons_ne_nil _ _, fun k' hk' => ?_, ?_⟩, hA.arg ?_, ?_, ?_⟩
          · show (_ :: cs).length = (d :: ks).length
            rw [List.length_cons, List.length_cons]
            exact congrArg Nat.succ hlen
          · rcases List.mem_cons.mp hk' with rfl | hk'
            · exact KD.sub hd
            · exact hkd k' hk'
          · show (d :: ks).length + nasks b ≤ 1000
            rw [List.length_cons]
            omega
          · rw [List.length_append, List.length_singleton, el]
            omega
          · show OkC (s ++ [asK s (cs.getD up 0) k] ++ [⟨.ask _, some _⟩]) ((s ++ [asK s (cs.getD up 0) k]).length :: cs)
            rw [el]
            exact hc.more _ _ _
          · show (s ++ [asK s (cs.getD up 0) k] ++ [(⟨.ask _, some _⟩ : Stp)]).length + 2 * nasks b ≤ 1000
            rw [List.length_append, List.length_singleton, el]
            omega
    · simp only [List.mem_cons, List.not_mem_nil, or_false] at m
      rcases m with rfl | rfl
      · exact two z 0 w2 (Nat.le_add_right _ _)
      · exact two o 1 w3 (Nat.le_add_left _ _)
def szN (x : Nd) : Nat := szT x.1
def szNs : List Nd → Nat
  | [] => 0
  | x :: r => szN x + szNs r
theorem szNs_app : ∀ a b : List Nd, szNs (a ++ b) = szNs a + szNs b
  | [], b => by show szNs b = 0 + szNs b; omega
  | x :: r, b => by
    show szN x + szNs (r ++ b) = szN x + szNs r + szNs b
    rw [szNs_app r b]
    omega
theorem szT_pos : ∀ t : T, 0 < szT t
  | .say _ => Nat.one_pos
  | .stop => Nat.one_pos
  | .ask _ _ as z o => by show 0 < 1 + _; omega
  | .prog _ b => szT_pos b
theorem len_szNs : ∀ l : List Nd, l.length ≤ szNs l
  | [] => Nat.le_refl _
  | x :: r => by
    have := szT_pos x.1
    have := len_szNs r
    show r.length + 1 ≤ szT x.1 + szNs r
    omega
theorem szNs_zip : ∀ (ts : List T) (ys : List (List Stp × List Nat)), szNs (List.zipWith mkN (ts.map progB) ys) ≤ szTs ts
  | [], _ => Nat.zero_le _
  | _ :: _, [] => Nat.zero_le _
  | t :: ts, y :: ys => by
    have := szNs_zip ts ys
    have := szT_progB t
    show szT (progB t) + szNs (List.zipWith mkN (ts.map progB) ys) ≤ szT t + szTs ts
    omega
theorem sz_kids (t : T) (s : List Stp) (cs : List Nat) : szNs (kidN t s cs) + 1 ≤ szT t := by
  cases t with
  | say v => exact Nat.le_refl 1
  | stop => exact Nat.le_refl 1
  | prog _ b => exact szT_pos b
  | ask up k as z o =>
    rw [kids_ask, szNs_app]
    have := szNs_zip as ((List.range as.length).map (sibA (s ++ [asK s (cs.getD up 0) k]) (plc s (cs.getD up 0) ++ [k]) cs))
    show _ + (szT z + (szT o + 0)) + 1 ≤ 1 + (szT z + (szT o + szTs as))
    omega
theorem rows1_len (t : T) (s : List Stp) (cs : List Nat) : (rows1 t s cs).length ≤ 1 := by
  unfold rows1
  split
  · exact Nat.le_refl 1
  · exact Nat.zero_le _
/-! ### _step_of_body -/
section
variable {P : Program} {w : World} {K : PySem.W.Frag} {mg : Str → Option Value} {base : Heap}
def OptR (K : PySem.W.Frag) (H : Hp) (z : V) : Option Stp → Prop
  | none => z = .non
  | some x => Rep K H z (stD x)
def spStp (K : PySem.W.Frag) : Sp := fun vs H Q _ => ∃ (bv sv cv : V) (x : Nd), vs = [bv, sv, cv] ∧ Rep K H bv (toD x.1) ∧ Rep K H sv (playD x.2.1) ∧ Rep K H cv (cal x.2.2) ∧ OkN x ∧
  ∀ (z : V) (H' : Hp), Same H H' → OptR K H' z (stepB x.1 x.2.1 x.2.2) → Q z H'
theorem atI_neg {xs : List V} {j : Nat} {v : V} (h : xs.reverse[j]? = some v) : atI xs (-1 - ((j : Nat) : Int)) = some v := by
  have hj := (List.getElem?_eq_some_iff.mp h).1
  rw [List.length_reverse] at hj
  have e : xs[xs.length - 1 - j]? = some v := by
    rw [List.getElem?_reverse hj] at h
    exact h
  unfold atI ixN
  rw [if_neg (by omega), if_pos (by omega)]
  show xs[(-1 - ((j : Nat) : Int) + (xs.length : Nat)).toNat]? = some v
  rw [show (-1 - ((j : Nat) : Int) + (xs.length : Nat)).toNat = xs.length - 1 - j by omega]
  exact e
theorem nats_rev' (ns : List Nat) : (nats ns).reverse = nats ns.reverse := by
  unfold nats
  rw [List.map_reverse]
theorem cal_at {cs : List Nat} {j : Nat} (h : j < cs.length) : atI (nats cs.reverse) (-1 - ((j : Nat) : Int)) = some (.int (cs.getD j 0 : Nat)) := by
  refine atI_neg ?_
  rw [nats_rev', List.reverse_reverse]
  unfold nats
  rw [List.getElem?_map, List.getElem?_eq_getElem h, List.getD_eq_getElem?_getD, List.getElem?_eq_getElem h]
  rfl
theorem ok_stp {f : Addr} {fd : FuncData} (D__step_of_body : Df K mg "_step_of_body" s__step_of_body ["body", "sight", "calls"] f fd) (B : Bt mg) : FnOk P w K mg base CX0 1 f fd ["body", "sight", "calls"] (spStp K) := by
  refine D__step_of_body.ok c__step_of_body (fun vs H Q E h => ?_) (fun cdv A outer s0 H vs Q E hr h => ?_)
  · obtain ⟨bv, sv, cv, x, rfl, _⟩ := h
    rfl
  obtain ⟨bv, sv, cv, ⟨t, s, cs⟩, rfl, rb, rs, rc, ⟨⟨ks, hw, hlen, hne, hkd, hkl⟩, hs, hcs, hl⟩, q⟩ := h
  have nd := c__step_of_body.nd
  refine ⟨_, (pss_cons (ps_if (pt_cmpR op_eq (pe_ix ix_tup (pv 0) pe_int (fun _ _ => rfl)) pe_str (nomark _)) (pss_one (ps_ret (pe_tup (pa_cons (pe_tup (pa_cons pe_str (pa_cons (pe_ix ix_tup (pv 0) pe_int (fun _ _ => rfl)) pa_nil))) (pa_cons (pe_ix ix_tup (pv 2) (pe_un un_neg pe_int) (fun _ _ => rfl)) pa_nil))))) pss_nil)
  (pss_cons (ps_if (pt_cmpR op_eq (pe_ix ix_tup (pv 0) pe_int (fun _ _ => rfl)) pe_str (nomark _)) (pss_cons (ps_set (i := 3) nd rfl (Or.inl rfl) (pe_ix ix_tup (pv 2) (pe_op op_sub (pe_un un_neg pe_int) (pe_ix ix_tup (pv 0) pe_int (fun _ _ => rfl))) (fun _ _ => rfl)))
  (pss_cons (ps_set (i := 4) nd rfl (Or.inl rfl) (pe_ix ix_tup (pe_ix ix_tup (pe_ix ix_tup (pv 1) (pv 3) (fun _ _ => rfl)) pe_int (fun _ _ => rfl)) pe_int (fun _ _ => rfl)))
  (pss_one (ps_ret (pe_tup (pa_cons (pe_tup (pa_cons pe_str (pa_cons (pe_op op_catP (pv 4) (pe_tup (pa_cons (pe_ix ix_tup (pv 0) pe_int (fun _ _ => rfl)) pa_nil))) pa_nil))) (pa_cons (pv 3) pa_nil))))))) pss_nil)
  (pss_one (ps_ret pe_non)))), ?_⟩
  replace hs : OkS s := hs
  replace hcs : OkC s cs := hcs
  replace hlen : cs.length = ks.length := hlen
  have hkp : 0 < ks.length := List.length_pos_iff.mpr hne
  obtain ⟨ca, cxs, rfl, hca, rcx⟩ := Rep.inv (ts := cs.reverse.map numD') rc
  have ec := rep_nats_inv rcx
  subst ec
  obtain ⟨sa, sxs, rfl, hsa, rsx, lsx⟩ := play_inv rs
  cases t with
  | prog _ _ => cases hw
  | say v =>
    obtain ⟨ba, rfl, hb⟩ := saysay_inv rb
    refine ⟨_, rfl, ba, _, 0, _, rfl, rfl, hb.sq, rfl, rfl, _, rfl, iteT ?_⟩
    refine ⟨_, rfl, ba, _, 1, _, rfl, rfl, hb.sq, rfl, (by show 2 ≤ sizeLine; decide), fun t1 n1 => ?_⟩
    have s1 := same_new n1 (.tup [.str "say", .int (v : Nat)])
    refine ⟨_, rfl, _, rfl, ca, _, _, _, rfl, rfl, (hca.same s1).sq, cal_at (j := 0) (by omega), (by show 2 ≤ sizeLine; decide), fun t2 n2 => ?_⟩
    have s2 := same_new n2 (.tup [.ref t1, .int (cs.getD 0 0 : Nat)])
    exact q _ _ (s1.trans s2) (.tup' upd_same (.cons (.tup' (s2 _ _ upd_same) (.cons (.at rfl) (.one (.at rfl)))) (.one (.at rfl))))
  | stop =>
    obtain ⟨ba, rfl, hb⟩ := stop_inv rb
    refine ⟨_, rfl, ba, _, 0, _, rfl, rfl, hb.sq, rfl, rfl, _, rfl, iteF ?_⟩
    refine ⟨_, rfl, ba, _, 0, _, rfl, rfl, hb.sq, rfl, rfl, _, rfl, iteF ?_⟩
    exact q _ _ (Same.refl H) rfl
  | ask up k as z o =>
    obtain ⟨ba, asa, axs, zv, ov, rfl, hb, has, ras, rz, ro⟩ := askb_inv rb
    obtain ⟨kd, ad, e1, e2, w1, w2, w3⟩ := wfB_ask hw
    have hup : up < cs.length := by
      have := (List.getElem?_eq_some_iff.mp e1).1
      omega
    obtain ⟨p, pb, hstep⟩ := hcs _ (mem_getD hup)
    have eplc := plc_at hstep
    have hpl := hs.plc (cs.getD up 0)
    have hclt := hcs.lt (mem_getD hup)
    have hl' : s.length + 2 * nasks (.ask up k as z o) ≤ 1000 := hl
    refine ⟨_, rfl, ba, _, 0, _, rfl, rfl, hb.sq, rfl, rfl, _, rfl, iteF ?_⟩
    refine ⟨_, rfl, ba, _, 0, _, rfl, rfl, hb.sq, rfl, rfl, _, rfl, iteT ?_⟩
    refine ⟨_, rfl, _, rfl, _, rfl, ba, _, 1, _, rfl, rfl, hb.sq, rfl, _, _, rfl, rfl, ca, _, _, _, rfl, rfl, hca.sq, cal_at hup, ?_⟩
    generalize hcall : cs.getD up 0 = call at *
    obtain ⟨x, hx, rx⟩ := play_at rsx hstep
    obtain ⟨a2, m2, b2, rfl, ha2, rm2, rb2⟩ := step_inv rx
    obtain ⟨a3, qv, rfl, ha3, rq⟩ := ask_inv rm2
    obtain ⟨pa, pxs, rfl, hpa, rpx⟩ := Rep.inv (ts := p.map numD') rq
    have ep := rep_nats_inv rpx
    subst ep
    refine ⟨_, rfl, _, rfl, sa, sxs, _, _, rfl, rfl, hsa.sq, atI_nat hx, a2, _, 0, _, rfl, rfl, ha2.sq, rfl, a3, _, 1, _, rfl, rfl, ha3.sq, rfl, ?_⟩
    refine ⟨_, rfl, _, rfl, ba, _, 2, _, rfl, rfl, hb.sq, rfl, (by show 1 ≤ sizeLine; decide), fun t1 n1 => ?_⟩
    have s1 := same_new n1 (.tup [.int (k : Nat)])
    refine ⟨pa, t1, _, _, rfl, rfl, hpa.same s1, .inl upd_same, small6' (by rw [nats_len, ← eplc]; show (plc s call).length + 1 ≤ 1000000; omega), fun pc H2 s2 hpc => ?_⟩
    rw [nats_snoc] at hpc
    refine ⟨(by show 2 ≤ sizeLine; decide), fun t2 n2 => ?_⟩
    have s3 := same_new n2 (.tup [.str "ask", .ref pc])
    refine ⟨_, rfl, (by show 2 ≤ sizeLine; decide), fun t3 n3 => ?_⟩
    have s4 := same_new n3 (.tup [.ref t2, .int (call : Nat)])
    refine q _ _ (s1.trans (s2.trans (s3.trans s4))) ?_
    show Rep K _ _ (stD (asK s (cs.getD up 0) k))
    rw [hcall]
    refine .tup' upd_same (.cons (.tup' (s4 _ _ upd_same) (.cons (.at rfl) (.one ?_))) (.one (.at rfl)))
    rw [eplc]
    exact .tup ((hpc.same s3).same s4) (reps_nats _)
/-! ### _sights_behind -/
def spSib (K : PySem.W.Frag) : Sp := fun vs H Q _ => ∃ (lv cv : V) (l : List Stp) (p : List Nat) (b : Option Nat) (cs : List Nat) (m : Nat), vs = [lv, .int (m : Nat), cv] ∧ Rep K H lv (playD l) ∧ Rep K H cv (cal cs) ∧ l ≠ [] ∧ l[l.length - 1]? = some ⟨.ask p, b⟩ ∧ l.length ≤ 1000 ∧ cs.length ≤ 1000 ∧ p.length ≤ 1000 ∧ m ≤ 1000 ∧
  ∀ (r : Addr) (H' : Hp) (acc : List V), Same H H' → H r = none → H' r = some (.lst acc) → Reps K H' acc ((sibs l p cs m).map pairD) → Q (.ref r) H'
theorem pair_rep {K : PySem.W.Frag} {H : Hp} {t a b : Addr} {x : List Stp × List Nat} (h : H t = some (.tup [.ref a, .ref b])) (ra : Rep K H (.ref a) (playD x.1)) (rb : Rep K H (.ref b) (cal x.2)) : Rep K H (.ref t) (pairD x) := .tup' h (.cons ra (.one rb))
theorem ok_sib {f : Addr} {fd : FuncData} (D__sights_behind : Df K mg "_sights_behind" s__sights_behind ["play", "many", "calls"] f fd) (B : Bt mg) : FnOk P w K mg base CX0 1 f fd ["play", "many", "calls"] (spSib K) := by
  refine D__sights_behind.ok c__sights_behind (fun vs H Q E h => ?_) (fun cdv A outer s0 H vs Q E hr h => ?_)
  · obtain ⟨lv, cv, l, p, b, cs, m, rfl, _⟩ := h
    rfl
  obtain ⟨lv, cv, l, p, b, cs, m, rfl, rp, rc, hne, hlast, hl, hcl, hpl, hm, q⟩ := h
  have nd := c__sights_behind.nd
  refine ⟨_, (pss_cons (ps_set (i := 3) nd rfl (Or.inr rfl) (pe_op op_sub (pe_callB call_len_seq (by rfl) B.b_len PySem.boot_len (pa_cons (pv 0) pa_nil)) pe_int))
  (pss_cons (ps_set (i := 4) nd rfl (Or.inr rfl) (pe_ix ix_tup (pe_ix ix_tup (pe_ix ix_tup (pv 0) (pv 3) (fun _ _ => rfl)) pe_int (fun _ _ => rfl)) pe_int (fun _ _ => rfl)))
  (pss_cons (ps_setLc (i := 5) (own := [("i", 6)]) (g := (gName 6)) (tt := tYes) rfl nd rfl rfl (sw_true rfl rfl rfl (by decide +kernel)) (pi_range1 (by rfl) B.b_range (pa_cons (pv 1) pa_nil)) (blkOk_by (own := [("i", 6)]) (N := ["play", "many", "calls", "number", "place", "found", "i", "answer"]) (sc := defScope s__sights_behind) (by decide +kernel)) (fun _ _ _ _ _ => (pg_name (i := 6) nd rfl (Or.inl rfl))) (fun _ _ _ _ _ => pts_nil) (fun _ _ _ _ _ => (pe_tup (pa_cons (pe_op (show OpR _ (binaryOp .Add) (rCatP K) from op_catP) (pv 0) (pe_tup (pa_cons (pe_tup (pa_cons (pe_tup (pa_cons pe_str (pa_cons (pe_op (show OpR _ (binaryOp .Add) (rCatP K) from op_catP) (pv 4) (pe_tup (pa_cons (pv 6) pa_nil))) pa_nil))) (pa_cons (pv 3) pa_nil))) pa_nil))) (pa_cons (pe_op (show OpR _ (binaryOp .Add) (rCatP K) from op_catP) (pv 2) (pe_tup (pa_cons (pe_op op_add (pv 3) pe_int) pa_nil))) pa_nil)))))
  (pss_one (ps_ret (pe_op op_cat (pv 5) (pe_lc (own := [("answer", 7)]) (g := (gName 7)) (tt := tYes) rfl nd (pi_tup (pe_tup (pa_cons pe_int (pa_cons pe_int pa_nil)))) (blkOk_by (own := [("answer", 7)]) (N := ["play", "many", "calls", "number", "place", "found", "i", "answer"]) (sc := defScope s__sights_behind) (by decide +kernel)) (fun _ _ _ _ _ => (pg_name (i := 7) nd rfl (Or.inl rfl))) (fun _ _ _ _ _ => pts_nil) (fun _ _ _ _ _ => (pe_tup (pa_cons (pe_op (show OpR _ (binaryOp .Add) (rCatP K) from op_catP) (pv 0) (pe_tup (pa_cons (pe_tup (pa_cons (pe_tup (pa_cons pe_str (pa_cons (pv 7) pa_nil))) (pa_cons (pv 3) pa_nil))) pa_nil))) (pa_cons (pv 2) pa_nil))))))))))), ?_⟩
  have hlp : 0 < l.length := List.length_pos_iff.mpr hne
  obtain ⟨pa, pxs, rfl, hpa, rpx, lpx⟩ := play_inv rp
  obtain ⟨ca, cxs, rfl, hca, rcx⟩ := Rep.inv (ts := cs.reverse.map numD') rc
  have ec := rep_nats_inv rcx
  subst ec
  have lcs : (nats cs.reverse).length = cs.length := by rw [nats_len, List.length_reverse]
  refine ⟨_, rfl, pa, pxs, rfl, .inr hpa.sq, _, _, rfl, rfl, ?_⟩
  have en : (((pxs.length : Nat) : Int) - 1) = ((l.length - 1 : Nat) : Int) := by omega
  obtain ⟨x, hx, rx⟩ := play_at rpx hlast
  obtain ⟨a2, m2, b2, rfl, ha2, rm2, rb2⟩ := step_inv rx
  obtain ⟨a3, qv, rfl, ha3, rq⟩ := ask_inv rm2
  obtain ⟨qa, qxs, rfl, hqa, rqx⟩ := Rep.inv (ts := p.map numD') rq
  have ep := rep_nats_inv rqx
  subst ep
  have atn := atI_nat hx
  rw [← en] at atn
  have rnum : ∀ H', Rep K H' (.int (((pxs.length : Nat) : Int) - 1)) (bkD (some (l.length - 1))) := fun H' => by
    rw [en]
    exact .at rfl
  refine ⟨_, rfl, _, rfl, pa, pxs, _, _, rfl, rfl, hpa.sq, atn, a2, _, 0, _, rfl, rfl, ha2.sq, rfl, a3, _, 1, _, rfl, rfl, ha3.sq, rfl, ?_⟩
  refine ⟨_, rfl, m, rfl, by omega, by omega, fun d nd' => ?_⟩
  refine lc_range (n := m) (fun i H' => Same H H' ∧ ∃ acc, H' d = some (.lst acc) ∧ acc.length = i ∧ Reps K H' acc (((List.range i).map (sibA l p cs)).map pairD)) ⟨same_new nd' _, [], upd_same, rfl, .nil⟩ ?_ ?_
  · rintro i H1 hi ⟨s1, acc, hd1, lacc, racc⟩
    have ei : (0 : Int) + (i : Nat) = ((i : Nat) : Int) := by omega
    have hpa1 := hpa.same s1
    have hca1 := hca.same s1
    refine ⟨rfl, yes_go ⟨_, rfl, _, rfl, _, rfl, (by show 1 ≤ sizeLine; decide), fun t1 n1 => ?_⟩⟩
    have v1 := same_new n1 (.tup [.int ((0 : Int) + (i : Nat))])
    refine ⟨qa, t1, _, _, rfl, rfl, (hqa.same s1).same v1, .inl upd_same, small6' (by rw [nats_len]; show p.length + 1 ≤ 1000000; omega), fun qc H2 v2 hqc => ⟨(by show 2 ≤ sizeLine; decide), fun t2 n2 => ⟨_, rfl, (by show 2 ≤ sizeLine; decide), fun t3 n3 => ⟨(by show 1 ≤ sizeLine; decide), fun t4 n4 => ?_⟩⟩⟩⟩
    rw [ei, nats_snoc] at hqc
    have v3 := same_new n2 (.tup [.str "ask", .ref qc])
    have v4 := same_new n3 (.tup [.ref t2, .int (((pxs.length : Nat) : Int) - 1)])
    have v5 := same_new n4 (.tup [.ref t3])
    have v15 := v1.trans (v2.trans (v3.trans (v4.trans v5)))
    refine ⟨pa, t4, pxs, _, rfl, rfl, hpa1.same v15, .inl upd_same, small6' (by rw [lpx]; show l.length + 1 ≤ 1000000; omega), fun lc H5 v6 hlc => ?_⟩
    have v16 := v15.trans v6
    have rlc : Rep K H5 (.ref lc) (playD (l ++ [⟨.ask (p ++ [i]), some (l.length - 1)⟩])) := by
      unfold playD
      rw [List.map_append]
      exact .tup hlc ((rpx.mono (kx_same (s1.trans v16))).append (.one (.tup' (v6 _ _ (v5 _ _ upd_same)) (.cons (.tup' (v6 _ _ (v5 _ _ (v4 _ _ upd_same))) (.cons (.at rfl) (.one (.tup (((hqc.same v3).same v4).same (v5.trans v6)) (reps_nats _))))) (.one (rnum _))))))
    refine ⟨_, rfl, _, rfl, _, _, rfl, rfl, (by show 1 ≤ sizeLine; decide), fun t5 n5 => ?_⟩
    have v7 := same_new n5 (.tup [.int (((pxs.length : Nat) : Int) - 1 + 1)])
    refine ⟨ca, t5, _, _, rfl, rfl, (hca1.same v16).same v7, .inl upd_same, small6' (by rw [lcs]; show cs.length + 1 ≤ 1000000; omega), fun cc H6 v8 hcc => ⟨(by show 2 ≤ sizeLine; decide), fun t6 n6 => ?_⟩⟩
    have hcc' : TupAt K H6 cc (nats (l.length :: cs).reverse) := by
      rw [List.reverse_cons, ← nats_snoc]
      have e : V.int (((pxs.length : Nat) : Int) - 1 + 1) = V.int (l.length : Nat) := by congr 1; omega
      rw [← e]
      exact hcc
    have v9 := same_new n6 (.tup [.ref lc, .ref cc])
    have v79 := v7.trans (v8.trans v9)
    have v19 := v16.trans v79
    have hd9 := v19 _ _ hd1
    have kl := kx_list hd9 (acc ++ [.ref t6])
    refine ⟨acc, hd9, small6 (by omega), fun o u e => ?_, acc ++ [.ref t6], upd_same, by rw [List.length_append, List.length_singleton]; omega, ?_⟩
    · rw [upd_ne (ne_of_none e nd')]
      exact v19 _ _ (s1 _ _ e)
    · rw [List.range_succ, List.map_append, List.map_append]
      refine ((racc.mono (kx_same v19)).mono kl).append (.one (Rep.mono kl (pair_rep (x := sibA l p cs i) upd_same (rlc.mono (kx_same v79)) ?_)))
      exact .tup (hcc'.same v9) (reps_nats _)
  · rintro H1 ⟨s1, acc, hd1, lacc, racc⟩
    refine ⟨_, rfl, (by show 2 ≤ sizeLine; decide), fun tz nz => ?_⟩
    have s2 := same_new nz (.tup [.int 0, .int 1])
    have s12 := s1.trans s2
    have hd2 := s2 _ _ hd1
    have htz : (upd H1 tz (.tup [.int 0, .int 1])) tz = some (.tup [.int 0, .int 1]) := upd_same
    have racc2 := racc.mono (kx_same s2)
    generalize upd H1 tz (.tup [.int 0, .int 1]) = H2 at *
    refine ⟨tz, rfl, ⟨_, SqT.of htz⟩, fun e ne => ?_⟩
    refine lc_tup (K := K) (a := tz) (xs := [.int 0, .int 1]) (fun i H' => Same H2 H' ∧ ∃ acc, H' e = some (.lst acc) ∧ acc.length = i ∧ Reps K H' acc (((List.range i).map (sibS l cs)).map pairD)) ⟨same_new ne _, [], upd_same, rfl, .nil⟩ (fun i H' _ h => SqT.of (h.1 _ _ htz)) ?_ ?_
    · rintro i x H4 hi ⟨s4, acc2, he4, lacc2, racc4⟩
      have hx2 : x = V.int (i : Nat) ∧ i < 2 := by
        have h2 := (List.getElem?_eq_some_iff.mp hi).1
        rcases i with _ | _ | i
        · exact ⟨(Option.some.inj hi).symm, by decide⟩
        · exact ⟨(Option.some.inj hi).symm, by decide⟩
        · exact absurd h2 (by simp)
      obtain ⟨rfl, hi2⟩ := hx2
      have s14 := s12.trans s4
      have hpa4 := hpa.same s14
      refine ⟨rfl, yes_go ⟨_, rfl, _, rfl, (by show 2 ≤ sizeLine; decide), fun t2 n2 => ⟨_, rfl, (by show 2 ≤ sizeLine; decide), fun t3 n3 => ⟨(by show 1 ≤ sizeLine; decide), fun t4 n4 => ?_⟩⟩⟩⟩
      have v3 := same_new n2 (.tup [.str "say", .int (i : Nat)])
      have v4 := same_new n3 (.tup [.ref t2, .int (((pxs.length : Nat) : Int) - 1)])
      have v5 := same_new n4 (.tup [.ref t3])
      have v15 := v3.trans (v4.trans v5)
      refine ⟨pa, t4, pxs, _, rfl, rfl, hpa4.same v15, .inl upd_same, small6' (by rw [lpx]; show l.length + 1 ≤ 1000000; omega), fun lc H5 v6 hlc => ?_⟩
      have v16 := v15.trans v6
      have rlc : Rep K H5 (.ref lc) (playD (l ++ [⟨.say i, some (l.length - 1)⟩])) := by
        unfold playD
        rw [List.map_append]
        exact .tup hlc ((rpx.mono (kx_same (s14.trans v16))).append (.one (.tup' (v6 _ _ (v5 _ _ upd_same)) (.cons (.tup' (v6 _ _ (v5 _ _ (v4 _ _ upd_same))) (.cons (.at rfl) (.one (.at rfl)))) (.one (rnum _))))))
      refine ⟨_, rfl, (by show 2 ≤ sizeLine; decide), fun t6 n6 => ?_⟩
      have v9 := same_new n6 (.tup [.ref lc, .ref ca])
      have v19 := v16.trans v9
      have he9 := v19 _ _ he4
      have kl := kx_list he9 (acc2 ++ [.ref t6])
      refine ⟨acc2, he9, small6 (by omega), fun o u e' => ?_, acc2 ++ [.ref t6], upd_same, by rw [List.length_append, List.length_singleton]; omega, ?_⟩
      · rw [upd_ne (ne_of_none e' ne)]
        exact v19 _ _ (s4 _ _ e')
      · rw [List.range_succ, List.map_append, List.map_append]
        refine ((racc4.mono (kx_same v19)).mono kl).append (.one (Rep.mono kl (pair_rep (x := sibS l cs i) upd_same (rlc.mono (kx_same v9)) ?_)))
        exact .tup (hca.same (s14.trans v19)) (reps_nats _)
    · rintro H4 ⟨s4, acc2, he4, lacc2, racc4⟩
      have hd4 := s4 _ _ hd2
      have l2 : acc2.length = 2 := lacc2
      refine ⟨d, e, acc, acc2, rfl, rfl, hd4, he4, small6' (by rw [lacc, l2]; omega), fun r nr => ?_⟩
      have s5 := same_new nr (.lst (acc ++ acc2))
      refine q r _ _ (s12.trans (s4.trans s5)) ((s12.trans s4).free nr) upd_same ?_
      unfold sibs
      rw [List.map_append]
      exact (racc2.mono (kx_same (s4.trans s5))).append (racc4.mono (kx_same s5))
end

end Pk

set_option maxRecDepth 100000
set_option maxHeartbeats 4000000
set_option pp.maxSteps 600
namespace Pk
open PySem PySem.Spec PyProof.Rows L2
/-! ### meaning -/
section
variable {P : Program} {w : World} {K : PySem.W.Frag} {mg : Str → Option Value} {base : Heap}
theorem ndD_inv {K : PySem.W.Frag} {H : Hp} {v : V} {x : Nd} (r : Rep K H v (ndD x)) : ∃ a b s c, v = .ref a ∧ TupAt K H a [b, s, c] ∧ Rep K H b (toD x.1) ∧ Rep K H s (playD x.2.1) ∧ Rep K H c (cal x.2.2) := by
  obtain ⟨a, xs, rfl, h, rs⟩ := Rep.inv (ts := [toD x.1, playD x.2.1, cal x.2.2]) r
  cases rs with
  | cons r0 rs =>
    cases rs with
    | cons r1 rs =>
      cases rs with
      | cons r2 rs =>
        cases rs
        exact ⟨a, _, _, _, rfl, h, r0, r1, r2⟩
theorem pairD_inv {K : PySem.W.Frag} {H : Hp} {v : V} {x : List Stp × List Nat} (r : Rep K H v (pairD x)) : ∃ a s c, v = .ref a ∧ TupAt K H a [s, c] ∧ Rep K H s (playD x.1) ∧ Rep K H c (cal x.2) := by
  obtain ⟨a, xs, rfl, h, rs⟩ := Rep.inv (ts := [playD x.1, cal x.2]) r
  cases rs with
  | cons r0 rs =>
    cases rs with
    | cons r1 rs =>
      cases rs
      exact ⟨a, _, _, rfl, h, r0, r1⟩
theorem reps_snocI {K : PySem.W.Frag} {H : Hp} {β : Type} {f : β → D} {xs : List V} {l : List β} (r : Reps K H xs (l.map f)) (h : xs ≠ []) : ∃ x b l', xs[xs.length - 1]? = some x ∧ l = l' ++ [b] ∧ Rep K H x (f b) ∧ Reps K H xs.dropLast (l'.map f) := by
  obtain ⟨y, e, es, hlast, hde, re, res⟩ := r.last h
  have hne : l ≠ [] := fun z => by
    rw [z] at hde
    have : ([] : List D) = es ++ [e] := hde
    simp at this
  refine ⟨y, l.getLast hne, l.dropLast, hlast, (List.dropLast_concat_getLast hne).symm, ?_, ?_⟩
  all_goals
    rw [← List.dropLast_concat_getLast hne, List.map_append] at hde
    have q := List.append_inj' hde rfl
  · rw [show f (l.getLast hne) = e from (List.cons.inj q.2).1]
    exact re
  · rw [q.1]
    exact res
def spMng (K : PySem.W.Frag) : Sp := fun vs H Q _ => ∃ (v x : V) (kd : D) (t : T), vs = [v, x] ∧ Rep K H v kd ∧ Rep K H x (toD t) ∧ wfP [] kd t = true ∧ Kd kd ∧ nasks t ≤ 100 ∧ szT t ≤ 90000 ∧
  ∀ (z : V) (H' : Hp), Same H H' → Rep K H' z (stratD kd (sortR (rowsT t))) → Q z H'
/-- all but two lists is as it was, the two lists new -/
theorem sb_two {a b : Addr} {H H' : Hp} (s : SB2 a b H H') (ha : H a = none) (hb : H b = none) : Same H H' := fun o u e => s o u (ne_of_none e ha) (ne_of_none e hb) e
theorem kids_of {t : T} {s : List Stp} {cs : List Nat} {up k : Nat} {as : List T} {z o : T} (e : t = .ask up k as z o) : kidN t s cs = List.zipWith mkN (as.map progB ++ [z, o]) (sibs (s ++ [asK s (cs.getD up 0) k]) (plc s (cs.getD up 0) ++ [k]) cs as.length) := by
  subst e
  rfl
theorem toDs_map : ∀ l : List T, toDs l = l.map toD
  | [] => rfl
  | t :: r => congrArg (toD t :: ·) (toDs_map r)
theorem bods_len (as : List T) (z o : T) : (as.map progB ++ [z, o]).length = as.length + 2 := by rw [List.length_append, List.length_map]; rfl
theorem sibs_len (l : List Stp) (p : List Nat) (cs : List Nat) (m : Nat) : (sibs l p cs m).length = m + 2 := by
  unfold sibs
  rw [List.length_append, List.length_map, List.length_range]
  rfl
theorem perm_step {R r1 L : List Row} {pend kd : List Nd} {x : Nd} (h : (R ++ ((pend ++ [x]).map rowsN).flatten).Perm L) (hx : (rowsN x).Perm (r1 ++ (kd.map rowsN).flatten)) : ((R ++ r1) ++ ((pend ++ kd).map rowsN).flatten).Perm L := by
  rw [List.map_append, List.flatten_append] at h ⊢
  have e : (List.map rowsN [x]).flatten = rowsN x := List.append_nil _
  rw [e] at h
  rw [List.append_assoc]
  exact (List.Perm.append_left R ((List.perm_append_comm_assoc _ _ _).trans (List.Perm.append_left _ hx.symm))).trans h
/-- what is still to be done, and what was found -/
structure MnI (P : Program) (w : World) (K : PySem.W.Frag) (t : T) (H : Hp) (rl pl : Addr) (H' : Hp) (R : List Row) (pend : List Nd) (xs ys : List V) : Prop where
  s : Same H H'
  r0 : H rl = none
  p0 : H pl = none
  ne : rl ≠ pl
  r : H' rl = some (.lst xs)
  p : H' pl = some (.lst ys)
  rr : Reps K H' xs (R.map rowD)
  rp : Reps K H' ys (pend.map ndD)
  ok : ∀ x ∈ pend, OkN x
  perm : (R ++ (pend.map rowsN).flatten).Perm (rowsT t)
  sz : R.length + szNs pend ≤ 100000
theorem ok_mng {bg f g g2 : Addr} {fd gd g2d : FuncData} (hBG : mg "BEGINNING" = some (.ref bg)) (hKB : ∀ H, Rep K H (.ref bg) (stD BEG)) (D_meaning : Df K mg "meaning" s_meaning ["kind", "program"] f fd) (D__step_of_body : Df K mg "_step_of_body" s__step_of_body ["body", "sight", "calls"] g gd)
    (D__sights_behind : Df K mg "_sights_behind" s__sights_behind ["play", "many", "calls"] g2 g2d) (B : Bt mg) : FnOk P w K mg base CX0 2 f fd ["kind", "program"] (spMng K) := by
  have G__step_of_body : FnOk P w K mg base CX0 1 g gd ["body", "sight", "calls"] (spStp K) := ok_stp D__step_of_body B
  have G__sights_behind : FnOk P w K mg base CX0 1 g2 g2d ["play", "many", "calls"] (spSib K) := ok_sib D__sights_behind B
  refine D_meaning.ok c_meaning (fun vs H Q E h => ?_) (fun cdv A outer s0 H vs Q E hr h => ?_)
  · obtain ⟨v, x, kd, t, rfl, _⟩ := h
    rfl
  obtain ⟨v, x, kd, t, rfl, rv, rx, hw, hk, hn, hz, q⟩ := h
  have nd := c_meaning.nd
  refine ⟨_, (pss_cons (ps_set (i := 2) nd rfl (Or.inl rfl) (pe_lst pa_nil))
  (pss_cons (ps_set (i := 3) nd rfl (Or.inl rfl) (pe_lst (pa_cons (pe_tup (pa_cons (pe_ix ix_tup (pv 1) pe_int (fun _ _ => rfl)) (pa_cons (pe_tup (pa_cons (pe_glob rfl hBG (rel_ref _)) pa_nil)) (pa_cons (pe_tup (pa_cons pe_int pa_nil)) pa_nil)))) pa_nil)))
  (pss_cons (ps_while PassesOwn.never (pt_truth (pv 3) (by intro _; rfl)) (pss_cons (ps_asg (pe_bm0 PySem.F.plainAttrs_list PySem.F.slot_list_pop PySem.F.type_list_pop mt_pop (pv 3)) (pg_tup rfl (pgs_cons (pg_name (i := 4) nd rfl (Or.inl rfl)) (pgs_cons (pg_name (i := 5) nd rfl (Or.inl rfl)) (pgs_cons (pg_name (i := 6) nd rfl (Or.inl rfl)) pgs_nil)))))
  (pss_cons (ps_set (i := 7) nd rfl (Or.inl rfl) (pe_call G__step_of_body (hr.mono (by first | decide | omega)) (by rfl) D__step_of_body.m D__step_of_body.kp D__step_of_body.b .nil pass0 (pa_cons (pv 4) (pa_cons (pv 5) (pa_cons (pv 6) pa_nil)))))
  (pss_cons (ps_if (pt_cmpR op_notN (pv 7) pe_non (nomark _)) (pss_one (ps_expr (pe_bm PySem.F.plainAttrs_list PySem.F.slot_list_append PySem.F.type_list_append mt_append (pv 2) (pa_cons (pe_tup (pa_cons (pv 5) (pa_cons (pv 7) pa_nil))) pa_nil)))) pss_nil)
  (pss_one (ps_if (pt_cmpR op_eq (pe_ix ix_tup (pv 4) pe_int (fun _ _ => rfl)) pe_str (nomark _)) (pss_cons (ps_asg (pv 4) (pg_tup rfl (pgs_cons (pg_name (i := 8) nd rfl (Or.inl rfl)) (pgs_cons (pg_name (i := 8) nd rfl (Or.inl rfl)) (pgs_cons (pg_name (i := 8) nd rfl (Or.inl rfl)) (pgs_cons (pg_name (i := 9) nd rfl (Or.inl rfl)) (pgs_cons (pg_name (i := 10) nd rfl (Or.inl rfl)) (pgs_cons (pg_name (i := 11) nd rfl (Or.inl rfl)) pgs_nil))))))))
  (pss_cons (ps_set (i := 12) nd rfl (Or.inl rfl) (pe_op op_cat (pe_lc (own := [("argument", 14)]) (g := (gName 14)) (tt := tYes) rfl nd (pi_tup (pv 9)) (blkOk_by (own := [("argument", 14)]) (N := ["kind", "program", "rows", "pending", "body", "sight", "calls", "step", "_", "arguments", "zero", "one", "bodies", "sights", "argument", "inner", "behind"]) (sc := defScope s_meaning) (by decide +kernel)) (fun _ _ _ _ _ => (pg_name (i := 14) nd rfl (Or.inl rfl))) (fun _ _ _ _ _ => pts_nil) (fun _ _ _ _ _ => (pe_ix (show IxR _ (rIxT K) from ix_tup) (pv 14) pe_int (fun _ _ => rfl)))) (pe_lst (pa_cons (pv 10) (pa_cons (pv 11) pa_nil)))))
  (pss_cons (ps_set (i := 13) nd rfl (Or.inl rfl) (pe_call G__sights_behind (hr.mono (by first | decide | omega)) (by rfl) D__sights_behind.m D__sights_behind.kp D__sights_behind.b .nil pass0 (pa_cons (pe_op op_catP (pv 5) (pe_tup (pa_cons (pv 7) pa_nil))) (pa_cons (pe_callB call_len_seq (by rfl) B.b_len PySem.boot_len (pa_cons (pv 9) pa_nil)) (pa_cons (pv 6) pa_nil)))))
  (pss_one (ps_expr (pe_bm PySem.F.plainAttrs_list PySem.F.slot_list_extend PySem.F.type_list_extend mt_extend (pv 3) (pa_cons (pe_lc (own := [("inner", 15), ("behind", 16)]) (g := (gTup K 2 (gCons (gName 15) (gCons (gName 16) gNil)))) (tt := tYes) rfl nd (RZ.pi_zipA (by rfl) B.b_zip (pa_cons (pv 12) (pa_cons (pv 13) pa_nil))) (blkOk_by (own := [("inner", 15), ("behind", 16)]) (N := ["kind", "program", "rows", "pending", "body", "sight", "calls", "step", "_", "arguments", "zero", "one", "bodies", "sights", "argument", "inner", "behind"]) (sc := defScope s_meaning) (by decide +kernel)) (fun _ _ _ _ _ => (pg_tup rfl (pgs_cons (pg_name (i := 15) nd rfl (Or.inl rfl)) (pgs_cons (pg_name (i := 16) nd rfl (Or.inl rfl)) pgs_nil)))) (fun _ _ _ _ _ => pts_nil) (fun _ _ _ _ _ => (pe_tup (pa_cons (pv 15) (show PA _ _ (StX.tStar K _ _) from StX.pa_star (pv 16) pa_nil))))) pa_nil))))))) pss_nil))))))
  (pss_one (ps_ret (pe_tup (pa_cons pe_str (pa_cons (pv 0) (pa_cons (pe_callTy call_tuple_of (by rfl) B.b_tuple (by decide +kernel) (pa_cons (pe_callB (show CallR _ _ (rSortE K _ _ _) from cr_sortE hr.units encR) (by rfl) B.b_sorted (by decide +kernel) (pa_cons (pv 2) pa_nil)) pa_nil)) pa_nil))))))))), ?_⟩
  obtain ⟨m, b, rfl, em, wb⟩ := wfP_inv hw
  obtain ⟨pa, bv, rfl, hp, rb⟩ := prog_inv rx
  refine ⟨(by show 0 ≤ sizeLine; decide), fun rl nrl => ?_⟩
  have s1 := same_new nrl (.lst [])
  refine ⟨_, rfl, pa, _, 2, _, rfl, rfl, (hp.same s1).sq, rfl, (by show 1 ≤ sizeLine; decide), fun t1 n1 => ⟨(by show 1 ≤ sizeLine; decide), fun t2 n2 => ⟨(by show 3 ≤ sizeLine; decide), fun t3 n3 => ⟨(by show 1 ≤ sizeLine; decide), fun pl npl => ?_⟩⟩⟩⟩
  have s2 := same_new n1 (.tup [.ref bg])
  have s3 := same_new n2 (.tup [.int 0])
  have s4 := same_new n3 (.tup [bv, .ref t1, .ref t2])
  have s5 := same_new npl (.lst [.ref t3])
  have s25 := s2.trans (s3.trans (s4.trans s5))
  have s15 := s1.trans s25
  have okb : OkN (b, [BEG], [0]) := ⟨⟨[kd], wb, rfl, List.cons_ne_nil _ _, fun k hk' => by rw [List.mem_singleton.mp hk']; exact hk, by
    have : nasks b ≤ 100 := hn
    show 1 + nasks b ≤ 1000
    omega⟩, OkS.one, fun x hx => by
      rw [List.mem_singleton.mp hx]
      exact ⟨[], none, rfl⟩, by
    have : nasks b ≤ 100 := hn
    show 1 + 2 * nasks b ≤ 1000
    omega⟩
  obtain ⟨W, hW⟩ : ∃ W : Nat → L2.St → Hp → Prop, ∀ m σ H', W m σ H' ↔ (∃ (R : List Row) (pend : List Nd) (xs ys : List V) (y4 y5 y6 y7 y8 y9 y10 y11 y12 y13 y14 y15 y16 : Option V), σ = [some v, some (.ref pa), some (.ref rl), some (.ref pl), y4, y5, y6, y7, y8, y9, y10, y11, y12, y13, y14, y15, y16] ∧ MnI P w K (.prog (args kd).length b) H rl pl H' R pend xs ys ∧ m = szNs pend) := ⟨_, fun _ _ _ => Iff.rfl⟩
  refine ⟨W, ⟨szNs [(b, [BEG], [0])], (hW _ _ _).mpr ⟨[], [(b, [BEG], [0])], [], [.ref t3], none, none, none, none, none, none, none, none, none, none, none, none, none, by subst em; rfl, ⟨s15, nrl, ?_, ?_, s25 _ _ upd_same, upd_same, .nil, ?_, ?_, ?_, ?_⟩, rfl⟩⟩, ?_⟩
  · exact new_none (s1.trans (s2.trans (s3.trans s4))) npl
  · exact ne_of_none (s4 _ _ (s3 _ _ (s2 _ _ upd_same))) npl
  · refine .one (.tup' (s5 _ _ upd_same) (.cons (rb.mono (kx_same s15)) (.cons (.tup' (s5 _ _ (s4 _ _ (s3 _ _ upd_same))) (.one (hKB _))) (.one (.tup' (s5 _ _ (s4 _ _ upd_same)) (.one (.at rfl)))))))
  · intro x hx
    rw [List.mem_singleton.mp hx]
    exact okb
  · show (rowsB b [BEG] [0] ++ []).Perm _
    rw [List.append_nil]
    exact List.Perm.refl _
  · have : szT b ≤ 90000 := hz
    show 0 + (szT b + 0) ≤ 100000
    omega
  intro m' σ H1 hw'
  obtain ⟨R, pend, xs, ys, y4, y5, y6, y7, y8, y9, y10, y11, y12, y13, y14, y15, y16, rfl, I, rfl⟩ := (hW _ _ _).mp hw'
  refine ⟨_, rfl, _, .inl ⟨ys, SqL.of I.p, rfl⟩, ?_⟩
  cases ys with
  | nil =>
    have e0 : pend = [] := by
      have := I.rp.length
      rw [List.length_map] at this
      exact List.eq_nil_of_length_eq_zero this.symm
    subst e0
    have hperm : R.Perm (rowsT (.prog (args kd).length b)) := by
      have := I.perm
      rw [List.map_nil, List.flatten_nil, List.append_nil] at this
      exact this
    have okR : ∀ r ∈ R, OkR r := fun r hr' => rowsT_ok hw r (em ▸ hperm.mem_iff.mp hr')
    refine iteF ⟨_, rfl, _, rfl, rl, xs, R, rfl, SqL.of I.r, I.rr, okR, fun zs p rzs np => ⟨p, zs, rfl, .inl ⟨SqL.of upd_same, fun l nl => ⟨(by show 3 ≤ sizeLine; decide), fun zz nz => ?_⟩⟩⟩⟩
    have u1 := same_new np (.lst zs)
    have u2 := same_new nl (.tup zs)
    have u3 := same_new nz (.tup [.str "strategy", v, .ref l])
    have u13 := u1.trans (u2.trans u3)
    refine q _ _ (I.s.trans u13) (.tup' upd_same (.cons (.at rfl) (.cons (rv.mono (kx_same (I.s.trans u13))) (.one (.tup' (u3 _ _ upd_same) ?_)))))
    rw [show sortR (rowsT (.prog m b)) = sortR R from (sortR_perm hperm okR).symm]
    exact rzs.mono (kx_same u13)
  | cons y0 yr =>
  refine iteT ⟨fun σ' H' => ∃ m', m' < szNs pend ∧ W m' σ' H', fun _ _ h => h, ?_⟩
  obtain ⟨y, x, pend', hlast, rfl, ry, rys⟩ := reps_snocI I.rp (fun z => nomatch z)
  obtain ⟨na, nb, ns, nc, rfl, hna, rnb, rns, rnc⟩ := ndD_inv ry
  obtain ⟨bt, s, cs⟩ := x
  have okx : OkN (bt, s, cs) := I.ok _ (List.mem_append_right _ (List.mem_singleton.mpr rfl))
  refine ⟨_, rfl, .inl ⟨rfl, _, SqL.of I.p⟩, pl, _, .ref na, rfl, rfl, I.p, hlast, ?_⟩
  have k12 : Kx H1 (upd H1 pl (.lst (y0 :: yr).dropLast)) := kx_list I.p _
  have sH2 : Same H (upd H1 pl (.lst (y0 :: yr).dropLast)) := fun o u e => by
    rw [upd_ne (ne_of_none e I.p0)]
    exact I.s _ _ e
  have hr2 : (upd H1 pl (.lst (y0 :: yr).dropLast)) rl = some (.lst xs) := by
    rw [upd_ne I.ne]
    exact I.r
  have hp2 : (upd H1 pl (.lst (y0 :: yr).dropLast)) pl = some (.lst (y0 :: yr).dropLast) := upd_same
  have rr2 := I.rr.mono k12
  have rp2 := rys.mono k12
  have hna2 := hna.kx k12
  have rnb2 := rnb.mono k12
  have rns2 := rns.mono k12
  have rnc2 := rnc.mono k12
  generalize upd H1 pl (.lst (y0 :: yr).dropLast) = H2 at *
  generalize (y0 :: yr).dropLast = ys' at *
  refine ⟨na, _, rfl, hna2.sq, rfl, _, _, rfl, _, _, rfl, _, _, rfl, rfl, ?_⟩
  refine ⟨_, rfl, _, rfl, _, rfl, nb, ns, nc, (bt, s, cs), rfl, rnb2, rns2, rnc2, okx, fun z H3 s3 hz3 => ?_⟩
  have lsz := szNs_app pend' [(bt, s, cs)]
  have lsz2 : szNs [(bt, s, cs)] = szT bt + 0 := rfl
  have lkid := sz_kids bt s cs
  have lrow := rows1_len bt s cs
  have lxs := rr2.length
  rw [List.length_map] at lxs
  have lys := rp2.length
  rw [List.length_map] at lys
  have lpd := len_szNs pend'
  have hsz := I.sz
  have hr3 := s3 _ _ hr2
  have hp3 := s3 _ _ hp2
  refine nx_rest (fun σ' H' => σ' = [some v, some (.ref pa), some (.ref rl), some (.ref pl), some nb, some ns, some nc, some z, y8, y9, y10, y11, y12, y13, y14, y15, y16] ∧ Kx H3 H' ∧ Same H H' ∧ H' pl = some (.lst ys') ∧ ∃ xs', H' rl = some (.lst xs') ∧ Reps K H' xs' ((R ++ rows1 bt s cs).map rowD)) (fun rest => ?_) ?_
  · have e1 : rows1 bt s cs = match stepB bt s cs with
      | some x => [(s, x)]
      | none => [] := rfl
    have hz3' : OptR K H3 z (stepB bt s cs) := hz3
    cases hst : stepB bt s cs with
    | none =>
      rw [hst] at hz3' e1
      have ez : z = .non := hz3'
      subst ez
      refine ⟨_, rfl, rfl, _, rfl, iteF (rest _ _ ⟨rfl, Kx.refl _, sH2.trans s3, hp3, xs, hr3, ?_⟩)⟩
      rw [e1, List.append_nil]
      exact rr2.mono (kx_same s3)
    | some st =>
      rw [hst] at hz3' e1
      have rz : Rep K H3 z (stD st) := hz3'
      obtain ⟨za, zm, zb, rfl, hza, _, _⟩ := step_inv rz
      refine ⟨_, rfl, rfl, _, rfl, iteT ⟨_, rfl, .inl ⟨rfl, _, SqL.of hr3⟩, _, rfl, _, rfl, (by show 2 ≤ sizeLine; decide), fun t4 n4 => ?_⟩⟩
      have v4 := same_new n4 (.tup [ns, .ref za])
      have hr4 := v4 _ _ hr3
      have kl := kx_list hr4 (xs ++ [.ref t4])
      refine ⟨rl, xs, _, rfl, rfl, hr4, small6 (by omega), rest _ _ ⟨rfl, (kx_same v4).trans kl, fun o u e => ?_, ?_, xs ++ [.ref t4], upd_same, ?_⟩⟩
      · rw [upd_ne (ne_of_none e I.r0)]
        exact v4 _ _ (s3 _ _ (sH2 _ _ e))
      · rw [upd_ne I.ne.symm]
        exact v4 _ _ hp3
      · rw [e1, List.map_append]
        refine (((rr2.mono (kx_same s3)).mono (kx_same v4)).mono kl).append (.one (Rep.mono kl (.tup' (ts := [playD s, stD st]) upd_same (.cons (rns2.mono (kx_same (s3.trans v4))) (.one (rz.mono (kx_same v4)))))))
  rintro σ H4 ⟨rfl, k34, sH4, hp4, xs', hr4, rr4⟩
  have k24 := (kx_same s3).trans k34
  have rnb4 := rnb2.mono k24
  have rns4 := rns2.mono k24
  have rnc4 := rnc2.mono k24
  have rp4 := rp2.mono k24
  have rperm := rows_perm (t := bt) s cs okx.wf.choose_spec.1
  have perm' := perm_step I.perm rperm
  have fin : kidN bt s cs = [] → ∃ m', m' < szNs (pend' ++ [(bt, s, cs)]) ∧ W m' [some v, some (.ref pa), some (.ref rl), some (.ref pl), some nb, some ns, some nc, some z, y8, y9, y10, y11, y12, y13, y14, y15, y16] H4 := fun ek => by
    rw [ek, List.append_nil] at perm'
    refine ⟨szNs pend', by rw [lsz, lsz2]; omega, (hW _ _ _).mpr ⟨R ++ rows1 bt s cs, pend', xs', ys', _, _, _, _, _, _, _, _, _, _, _, _, _, rfl, ⟨sH4, I.r0, I.p0, I.ne, hr4, hp4, rr4, rp4, fun y hy => I.ok y (List.mem_append_left _ hy), perm', ?_⟩, rfl⟩⟩
    rw [List.length_append]
    omega
  cases bt with
  | prog _ _ => cases okx.wf.choose_spec.1
  | say u =>
    obtain ⟨ba, rfl, hb⟩ := saysay_inv rnb4
    exact ⟨_, rfl, ba, _, 0, _, rfl, rfl, hb.sq, rfl, rfl, _, rfl, iteF (fin rfl)⟩
  | stop =>
    obtain ⟨ba, rfl, hb⟩ := stop_inv rnb4
    exact ⟨_, rfl, ba, _, 0, _, rfl, rfl, hb.sq, rfl, rfl, _, rfl, iteF (fin rfl)⟩
  | ask up k as zt ot =>
    obtain ⟨ba, asa, axs, zv, ov, rfl, hb, has, ras, rz, ro⟩ := askb_inv rnb4
    refine ⟨_, rfl, ba, _, 0, _, rfl, rfl, hb.sq, rfl, rfl, _, rfl, iteT ?_⟩
    refine ⟨_, rfl, ba, _, rfl, hb.sq, rfl, _, _, rfl, _, _, rfl, _, _, rfl, _, _, rfl, _, _, rfl, _, _, rfl, rfl, ?_⟩
    obtain ⟨⟨ks, hwk, hlen, hne, hkd, hkl⟩, hs, hcs, hl⟩ := okx
    replace hs : OkS s := hs
    replace hcs : OkC s cs := hcs
    replace hlen : cs.length = ks.length := hlen
    have hl' : s.length + 2 * (1 + (nasksL as + (nasks zt + nasks ot))) ≤ 1000 := hl
    have hkl' : ks.length + (1 + (nasksL as + (nasks zt + nasks ot))) ≤ 1000 := hkl
    obtain ⟨kd', ad, e1, e2, w1, w2, w3⟩ := wfB_ask hwk
    have hup : up < cs.length := by
      have := (List.getElem?_eq_some_iff.mp e1).1
      omega
    have hpl := hs.plc (cs.getD up 0)
    have hclt := hcs.lt (mem_getD hup)
    have las := ras.length
    rw [toDs_len] at las
    have lwf := wfPs_len w1
    have KD : Kd ad := (hkd kd' (List.mem_of_getElem? e1)).sub e2
    have lad : as.length ≤ 1000 := by
      obtain ⟨ts, rfl, _⟩ := isK_inv KD.1
      have h1 := len_szs ts
      have h2 : szs ts + 1 ≤ 1000 := KD.2
      rw [lwf]
      show ts.length ≤ 1000
      omega
    have hz4 : Rep K H4 z (stD (asK s (cs.getD up 0) k)) := Rep.mono k34 (show Rep K H3 z (stD (asK s (cs.getD up 0) k)) from hz3)
    have ekid : kidN (.ask up k as zt ot) s cs = List.zipWith mkN (as.map progB ++ [zt, ot]) (sibs (s ++ [asK s (cs.getD up 0) k]) (plc s (cs.getD up 0) ++ [k]) cs as.length) := rfl
    generalize hck : cs.getD up 0 = call at *
    refine ⟨_, rfl, asa, rfl, ⟨_, has.sq⟩, fun d hd0 => ?_⟩
    refine lc_tup (K := K) (a := asa) (xs := axs) (fun i H' => Same H4 H' ∧ ∃ acc, H' d = some (.lst acc) ∧ acc.length = i ∧ Reps K H' acc (((as.take i).map progB).map toD)) ⟨same_new hd0 _, [], upd_same, rfl, .nil⟩ (fun i H' _ h => (has.same h.1).sq) ?_ ?_
    · rintro i x H5 hi ⟨s5, acc, hd5, lacc, racc⟩
      have hil := (List.getElem?_eq_some_iff.mp hi).1
      have hia : as[i]? = some (as[i]'(by omega)) := List.getElem?_eq_getElem _
      obtain ⟨dd, hdd, wd⟩ := wfPs_at w1 hia
      obtain ⟨m2, b2, eb, _, _⟩ := wfP_inv wd
      rw [eb] at hia
      obtain ⟨pg, bv2, hpg, hpt, rbv⟩ := rb_body (u := asa) (ras.mono (kx_same s5)) hia
      rw [hi] at hpg
      have ex := Option.some.inj hpg
      subst ex
      have kl := kx_list hd5 (acc ++ [bv2])
      refine ⟨rfl, yes_go ⟨_, rfl, pg, _, 2, _, rfl, rfl, hpt.sq, rfl, acc, hd5, small6 (by omega), fun o u e => ?_, acc ++ [bv2], upd_same, by rw [List.length_append, List.length_singleton]; omega, ?_⟩⟩
      · rw [upd_ne (ne_of_none e hd0)]
        exact s5 _ _ e
      · rw [List.take_add_one, hia, List.map_append, List.map_append]
        exact (racc.mono kl).append (.one (rbv.mono kl))
    rintro H5 ⟨s5, acc, hd5, lacc, racc⟩
    rw [List.take_of_length_le (by omega : as.length ≤ axs.length)] at racc
    refine ⟨_, rfl, _, rfl, (by show 2 ≤ sizeLine; decide), fun e ne => ?_⟩
    have v1 := same_new ne (.lst [zv, ov])
    refine ⟨d, e, acc, [zv, ov], rfl, rfl, v1 _ _ hd5, upd_same, small6' (by rw [lacc]; show axs.length + 2 ≤ 1000000; omega), fun bl nbl => ?_⟩
    have v2 := same_new nbl (.lst (acc ++ [zv, ov]))
    have v12 := v1.trans v2
    have s46 := s5.trans v12
    have hbl : (upd (upd H5 e (.lst [zv, ov])) bl (.lst (acc ++ [zv, ov]))) bl = some (.lst (acc ++ [zv, ov])) := upd_same
    have rbl : Reps K (upd (upd H5 e (.lst [zv, ov])) bl (.lst (acc ++ [zv, ov]))) (acc ++ [zv, ov]) ((as.map progB ++ [zt, ot]).map toD) := by
      rw [List.map_append]
      exact (racc.mono (kx_same v12)).append (.cons (rz.mono (kx_same s46)) (.one (ro.mono (kx_same s46))))
    have lbl : (acc ++ [zv, ov]).length = as.length + 2 := by rw [List.length_append, lacc, ← las]; rfl
    generalize acc ++ [zv, ov] = bxs at *
    generalize upd (upd H5 e (.lst [zv, ov])) bl (.lst bxs) = H6 at *
    have k46 := kx_same s46
    obtain ⟨sa, sxs, rfl, hsa, rsx, lsx⟩ := play_inv (rns4.mono k46)
    refine ⟨_, rfl, _, rfl, (by show 1 ≤ sizeLine; decide), fun t5 n5 => ?_⟩
    have v3 := same_new n5 (.tup [z])
    refine ⟨sa, t5, _, _, rfl, rfl, hsa.same v3, .inl upd_same, small6' (by rw [lsx]; show s.length + 1 ≤ 1000000; omega), fun lc H7 v4 hlc => ?_⟩
    have v34 := v3.trans v4
    have s47 := s46.trans v34
    have rlc : Rep K H7 (.ref lc) (playD (s ++ [asK s call k])) := by
      unfold playD
      rw [List.map_append]
      exact .tup hlc ((rsx.mono (kx_same v34)).append (.one (hz4.mono (kx_same s47))))
    refine ⟨_, rfl, asa, axs, rfl, .inr (has.same s47).sq, _, rfl, .ref lc, nc, s ++ [asK s call k], plc s call ++ [k], some call, cs, as.length, by rw [las]; rfl, rlc, rnc4.mono (kx_same s47), by simp, ?_, by rw [List.length_append]; show s.length + 1 ≤ 1000; omega, by omega, by rw [List.length_append]; show (plc s call).length + 1 ≤ 1000; omega, lad, fun sl H8 acc8 v5 _ hsl rsl => ?_⟩
    · rw [List.length_append, List.length_singleton, Nat.add_sub_cancel, List.getElem?_append_right (Nat.le_refl _), Nat.sub_self]
      rfl
    have s48 := s47.trans v5
    have s68 := v34.trans v5
    have hbl8 := s68 _ _ hbl
    have rbl8 := rbl.mono (kx_same s68)
    have hp8 := s48 _ _ hp4
    have hr8 := s48 _ _ hr4
    have lsl := rsl.length
    rw [List.length_map, sibs_len] at lsl
    have lkd : (kidN (.ask up k as zt ot) s cs).length = as.length + 2 := by
      rw [ekid, List.length_zipWith, bods_len, sibs_len, Nat.min_self]
    refine ⟨_, rfl, .inl ⟨rfl, _, SqL.of hp8⟩, _, rfl, _, rfl, bl, sl, bxs, acc8, rfl, .inl ⟨SqL.of hbl8, SqL.of hsl, fun d2 nd2 => ?_⟩⟩
    refine lc_it (walk_zip (n := as.length + 2) (by rw [lbl, lsl, Nat.min_self])) (fun i H' => Same H8 H' ∧ ∃ acc, H' d2 = some (.lst acc) ∧ acc.length = i ∧ Reps K H' acc (((kidN (.ask up k as zt ot) s cs).take i).map ndD)) ⟨same_new nd2 _, [], upd_same, rfl, .nil⟩ (fun i H' _ h => ⟨SqL.of (h.1 _ _ hbl8), SqL.of (h.1 _ _ hsl)⟩) ?_ ?_
    · rintro i x H9 H9' hi ⟨s9, acc9, hd9, lacc9, racc9⟩ ⟨T, x1, y1, rfl, nT, rfl, hx1, hy1⟩
      obtain ⟨db, hdb, rdb⟩ := rbl8.get hx1
      rw [List.getElem?_map] at hdb
      obtain ⟨bb, hbb, rfl⟩ := Option.map_eq_some_iff.mp hdb
      obtain ⟨ds, hds, rds⟩ := rsl.get hy1
      rw [List.getElem?_map] at hds
      obtain ⟨ss, hss, rfl⟩ := Option.map_eq_some_iff.mp hds
      have sT := same_new nT (.tup [x1, y1])
      have s9T := s9.trans sT
      obtain ⟨ya, s', c', rfl, hya, rs', rc'⟩ := pairD_inv (rds.mono (kx_same s9T))
      have hkk : (kidN (.ask up k as zt ot) s cs)[i]? = some (mkN bb ss) := by
        rw [ekid, List.getElem?_zipWith, hbb, hss]
      refine ⟨T, _, rfl, SqT.of upd_same, rfl, _, _, rfl, _, _, rfl, rfl, rfl, yes_go ⟨_, rfl, _, rfl, ya, [s', c'], rfl, .inl hya.sq, (by show 3 ≤ sizeLine; decide), fun t6 n6 => ?_⟩⟩
      have v6 := same_new n6 (.tup [x1, s', c'])
      have hd96 := v6 _ _ (sT _ _ hd9)
      have kl := kx_list hd96 (acc9 ++ [.ref t6])
      refine ⟨acc9, hd96, small6 (by omega), fun o u e => ?_, acc9 ++ [.ref t6], upd_same, by rw [List.length_append, List.length_singleton]; omega, ?_⟩
      · rw [upd_ne (ne_of_none e nd2)]
        exact v6 _ _ (s9T _ _ e)
      · rw [List.take_add_one, hkk, List.map_append]
        refine ((racc9.mono (kx_same (sT.trans v6))).mono kl).append (.one (Rep.mono kl (.tup' (ts := [toD bb, playD ss.1, cal ss.2]) upd_same (.cons (rdb.mono (kx_same (s9T.trans v6))) (.cons (rs'.mono (kx_same v6)) (.one (rc'.mono (kx_same v6))))))))
    · rintro H9 ⟨s9, acc9, hd9, lacc9, racc9⟩
      rw [List.take_of_length_le (by omega)] at racc9
      have s49 := s48.trans s9
      have hp9 := s49 _ _ hp4
      have hr9 := s49 _ _ hr4
      have kl := kx_list hp9 (ys' ++ acc9)
      have hsk : szNs pend' + szNs (kidN (.ask up k as zt ot) s cs) + 1 ≤ szNs (pend' ++ [(T.ask up k as zt ot, s, cs)]) := by
        rw [lsz, lsz2]
        omega
      refine ⟨pl, d2, ys', acc9, rfl, rfl, hp9, hd9, small6' (by omega), ?_⟩
      refine ⟨szNs (pend' ++ kidN (.ask up k as zt ot) s cs), by rw [szNs_app]; omega, (hW _ _ _).mpr ⟨R ++ rows1 (.ask up k as zt ot) s cs, pend' ++ kidN (.ask up k as zt ot) s cs, xs', ys' ++ acc9, _, _, _, _, _, _, _, _, _, _, _, _, _, rfl, ⟨fun o u e => ?_, I.r0, I.p0, I.ne, ?_, upd_same, (rr4.mono (kx_same s49)).mono kl, ?_, fun y hy => ?_, perm', ?_⟩, rfl⟩⟩
      · rw [upd_ne (ne_of_none e I.p0)]
        exact s49 _ _ (sH4 _ _ e)
      · rw [upd_ne I.ne]
        exact hr9
      · rw [List.map_append]
        exact ((rp4.mono (kx_same s49)).append racc9).mono kl
      · rcases List.mem_append.mp hy with m | m
        · exact I.ok y (List.mem_append_left _ m)
        · exact OkN_kids (x := (T.ask up k as zt ot, s, cs)) ⟨⟨ks, hwk, hlen, hne, hkd, hkl⟩, hs, hcs, hl⟩ y m
      · rw [List.length_append, szNs_app]
        omega
end
end Pk

set_option maxRecDepth 100000
set_option maxHeartbeats 4000000
set_option pp.maxSteps 600
namespace Pk
open PySem PySem.Spec PyProof.Rows L2
open LamX
/-! ### a program's body as a tree: notes, parts -/
def zipB (ds ps : List D) : List D := List.zipWith (fun d b => .tup [.at (.str "program"), numD' (args d).length, b]) ds ps
def ptB : D → List D → D
  | .tup [.at (.str w), u, k, .tup ds], ps => .tup [.at (.str w), u, k, .tup (zipB ds ps), ps.getD (ps.length - 2) (.tup []), ps.getD (ps.length - 1) (.tup [])]
  | n, _ => n
def askN (up k : Nat) (d : D) : D := .tup [.at (.str "ask"), numD' up, numD' k, d]
def OkB (n : D) (ps : List D) : Prop := n = toD .stop ∨ (∃ v, n = toD (.say v)) ∨ ∃ up k ds, n = askN up k (.tup ds) ∧ ps.length = ds.length + 2 ∧ isKs ds = true ∧ ds.length ≤ 1000
def kdAt (ks : List D) (up k : Nat) : D := ((ks[up]?).bind fun kd => (args kd)[k]?).getD (.tup [])
mutual
def trG : List D → T → GT
  | ks, .ask up k as z o => .nd (askN up k (kdAt ks up k)) (trPs ks (args (kdAt ks up k)) as ++ [trG ks z, trG ks o])
  | _, .say v => .nd (toD (.say v)) []
  | _, .stop => .nd (toD .stop) []
  | _, .prog _ _ => .nd (toD .stop) []
def trPs : List D → List D → List T → List GT
  | ks, d :: ds, .prog _ b :: r => trG (d :: ks) b :: trPs ks ds r
  | _, _, _ => []
end
theorem kdAt_eq {ks : List D} {up k : Nat} {kd a : D} (e1 : ks[up]? = some kd) (e2 : (args kd)[k]? = some a) : kdAt ks up k = a := by
  unfold kdAt
  rw [e1]
  show ((args kd)[k]?).getD _ = a
  rw [e2]
  rfl
theorem kd_tup {a : D} (h : isK a = true) : a = .tup (args a) := by
  cases a with
  | tup ts => rfl
  | «at» _ => cases h
  | lst => cases h
theorem foGs_app (pt : D → List D → D) : ∀ a b : List GT, foGs pt (a ++ b) = foGs pt a ++ foGs pt b
  | [], _ => rfl
  | t :: a, b => congrArg (_ :: ·) (foGs_app pt a b)
theorem zipB_app : ∀ (ds ps qs : List D), ds.length = ps.length → zipB ds (ps ++ qs) = zipB ds ps
  | [], [], qs, _ => rfl
  | [], _ :: _, _, h => by cases h
  | _ :: _, [], _, h => by cases h
  | d :: ds, p :: ps, qs, h => congrArg (_ :: ·) (zipB_app ds ps qs (Nat.succ.inj h))
theorem ptB_ask {up k : Nat} {ds ps : List D} {z o : D} (h : ds.length = ps.length) : ptB (askN up k (.tup ds)) (ps ++ [z, o]) = .tup [.at (.str "ask"), numD' up, numD' k, .tup (zipB ds ps), z, o] := by
  show D.tup [.at (.str "ask"), numD' up, numD' k, .tup (zipB ds (ps ++ [z, o])), (ps ++ [z, o]).getD ((ps ++ [z, o]).length - 2) (.tup []), (ps ++ [z, o]).getD ((ps ++ [z, o]).length - 1) (.tup [])] = _
  have l : (ps ++ [z, o]).length = ps.length + 2 := by rw [List.length_append]; rfl
  rw [zipB_app ds ps _ h, l, show ps.length + 2 - 2 = ps.length by omega, show ps.length + 2 - 1 = ps.length + 1 by omega]
  have e1 : (ps ++ [z, o]).getD ps.length (.tup []) = z := by
    rw [List.getD_eq_getElem?_getD, List.getElem?_append_right (Nat.le_refl _), Nat.sub_self]
    rfl
  have e2 : (ps ++ [z, o]).getD (ps.length + 1) (.tup []) = o := by
    rw [List.getD_eq_getElem?_getD, List.getElem?_append_right (by omega), show ps.length + 1 - ps.length = 1 by omega]
    rfl
  rw [e1, e2]
def KsK (ks : List D) : Prop := ∀ k ∈ ks, isK k = true ∧ sz k ≤ 60
theorem KsK.at {ks : List D} (h : KsK ks) {up k : Nat} {kd a : D} (e1 : ks[up]? = some kd) (e2 : (args kd)[k]? = some a) : isK a = true ∧ sz a ≤ 60 :=
  KM.sub (M := 60) (h kd (List.mem_of_getElem? e1)) e2
theorem KsK.cons {ks : List D} (h : KsK ks) {d : D} (hd : isK d = true ∧ sz d ≤ 60) : KsK (d :: ks) := fun k m => by
  rcases List.mem_cons.mp m with rfl | m
  · exact hd
  · exact h k m
mutual
theorem fo_tr : ∀ (t : T) (ks : List D), wfB ks t = true → KsK ks → foG ptB (trG ks t) = toD t ∧ okG ptB OkB (trG ks t)
  | .say v, ks, _, _ => ⟨rfl, .inr (.inl ⟨v, rfl⟩), trivial⟩
  | .stop, ks, _, _ => ⟨rfl, .inl rfl, trivial⟩
  | .prog _ _, ks, h, _ => by cases h
  | .ask up k as z o, ks, hw, hk => by
    obtain ⟨kd, a, e1, e2, w1, w2, w3⟩ := wfB_ask hw
    have ha := hk.at e1 e2
    have ea := kd_tup ha.1
    have ek := kdAt_eq e1 e2
    obtain ⟨z1, z2⟩ := fo_tr z ks w2 hk
    obtain ⟨o1, o2⟩ := fo_tr o ks w3 hk
    have hks : isKs (args a) = true := by
      rw [ea] at ha
      exact ha.1
    obtain ⟨p1, p2, p3⟩ := fo_trs as ks (args a) w1 hk (fun d hd => by
      obtain ⟨i, hi, rfl⟩ := List.mem_iff_getElem.mp hd
      exact KM.sub (M := 60) ha (List.getElem?_eq_getElem hi))
    have ef : foGs ptB (trPs ks (args a) as ++ [trG ks z, trG ks o]) = foGs ptB (trPs ks (args a) as) ++ [toD z, toD o] := by
      rw [foGs_app]
      show _ ++ [foG ptB (trG ks z), foG ptB (trG ks o)] = _
      rw [z1, o1]
    have hl := KM.len (M := 60) ha
    constructor
    · show ptB (askN up k (kdAt ks up k)) (foGs ptB (trPs ks (args (kdAt ks up k)) as ++ [trG ks z, trG ks o])) = _
      rw [ek, ef]
      rw [show askN up k a = askN up k (.tup (args a)) by rw [← ea], ptB_ask p3, p1]
      rfl
    · show OkB (askN up k (kdAt ks up k)) (foGs ptB (trPs ks (args (kdAt ks up k)) as ++ [trG ks z, trG ks o])) ∧ okGs ptB OkB (trPs ks (args (kdAt ks up k)) as ++ [trG ks z, trG ks o])
      rw [ek, ef]
      refine ⟨.inr (.inr ⟨up, k, args a, by rw [← ea], ?_, hks, by omega⟩), okGs_app.mpr ⟨p2, z2, o2, trivial⟩⟩
      rw [List.length_append, ← p3]
      rfl
theorem fo_trs : ∀ (ts : List T) (ks ds : List D), wfPs ks ds ts = true → KsK ks → (∀ d ∈ ds, isK d = true ∧ sz d ≤ 60) → zipB ds (foGs ptB (trPs ks ds ts)) = toDs ts ∧ okGs ptB OkB (trPs ks ds ts) ∧ ds.length = (foGs ptB (trPs ks ds ts)).length
  | [], ks, [], _, _, _ => ⟨rfl, trivial, rfl⟩
  | [], ks, _ :: _, h, _, _ => by cases h
  | t :: ts, ks, ds, hw, hk, hd => by
    obtain ⟨d, ds', rfl, w1, w2⟩ := wfPs_cons hw
    obtain ⟨m, b, rfl, em, w3⟩ := wfP_inv w1
    obtain ⟨b1, b2⟩ := fo_tr b (d :: ks) w3 (hk.cons (hd d (List.mem_cons_self ..)))
    obtain ⟨p1, p2, p3⟩ := fo_trs ts ks ds' w2 hk (fun x hx => hd x (List.mem_cons_of_mem _ hx))
    refine ⟨?_, ⟨b2, p2⟩, ?_⟩
    · show (D.tup [.at (.str "program"), numD' (args d).length, foG ptB (trG (d :: ks) b)] :: zipB ds' (foGs ptB (trPs ks ds' ts))) = toD (.prog m b) :: toDs ts
      rw [p1, b1, em]
      rfl
    · show ds'.length + 1 = (foGs ptB (trPs ks ds' ts)).length + 1
      rw [p3]
end
section
variable {P : Program} {w : World} {K : PySem.W.Frag} {mg : Str → Option Value} {base : Heap}
theorem atI_m1 {xs : List V} {v : V} (h : xs[xs.length - 1]? = some v) (hl : 1 ≤ xs.length) : atI xs (-1) = some v := by
  unfold atI ixN
  rw [if_neg (by omega), if_pos (by omega)]
  show xs[((-1 : Int) + ((xs.length : Nat) : Int)).toNat]? = some v
  rw [show ((-1 : Int) + ((xs.length : Nat) : Int)).toNat = xs.length - 1 by omega]
  exact h
theorem atI_m2 {xs : List V} {v : V} (h : xs[xs.length - 2]? = some v) (hl : 2 ≤ xs.length) : atI xs (-2) = some v := by
  unfold atI ixN
  rw [if_neg (by omega), if_pos (by omega)]
  show xs[((-2 : Int) + ((xs.length : Nat) : Int)).toNat]? = some v
  rw [show ((-2 : Int) + ((xs.length : Nat) : Int)).toNat = xs.length - 2 by omega]
  exact h
def rLenS (K : PySem.W.Frag) : List V → Hp → VK → Prop := fun xs H Q => ∃ p ys, xs = [V.ref p] ∧ (SqL K H p ys ∨ SqT K H p ys) ∧ Q (V.int ↑ys.length) H
/-! ### body_of -/
theorem ok_bo {f : Addr} {fd : FuncData} (D_body_of : Df K mg "body_of" s_body_of ["note", "parts"] f fd) (B : Bt mg) : FnOk P w K mg base CX0 1 f fd ["note", "parts"] (spPt K ptB OkB) := by
  refine D_body_of.ok c_body_of (fun vs H Q E h => ?_) (fun cdv A outer s0 H vs Q E hr h => ?_)
  · obtain ⟨nv, l, ps, n, ds, rfl, _⟩ := h
    rfl
  obtain ⟨nv, l, ps, n, ds, rfl, rn, hl, rps, hok, q⟩ := h
  have nd := c_body_of.nd
  refine ⟨_, (pss_cons (ps_if (pt_cmpR op_ne (pe_ix ix_tup (pv 0) pe_int (fun _ _ => rfl)) pe_str (nomark _)) (pss_one (ps_ret (pv 0))) pss_nil)
  (pss_cons (ps_asg (pv 0) (pg_tup rfl (pgs_cons (pg_name (i := 2) nd rfl (Or.inl rfl)) (pgs_cons (pg_name (i := 3) nd rfl (Or.inl rfl)) (pgs_cons (pg_name (i := 4) nd rfl (Or.inl rfl)) (pgs_cons (pg_name (i := 5) nd rfl (Or.inl rfl)) pgs_nil))))))
  (pss_cons (ps_set (i := 6) nd rfl (Or.inl rfl) (pe_callTy call_tuple_of (by rfl) B.b_tuple (by decide +kernel) (pa_cons (pe_lc (own := [("kind", 7), ("body", 8)]) (g := (gTup K 2 (gCons (gName 7) (gCons (gName 8) gNil)))) (tt := tYes) rfl nd (pi_zipM (by rfl) B.b_zip (pa_cons (pv 5) (pa_cons (pv 1) pa_nil))) (blkOk_by (own := [("kind", 7), ("body", 8)]) (N := ["note", "parts", "_", "up", "k", "asked", "arguments", "kind", "body"]) (sc := defScope s_body_of) (by decide +kernel)) (fun _ _ _ _ _ => (pg_tup rfl (pgs_cons (pg_name (i := 7) nd rfl (Or.inl rfl)) (pgs_cons (pg_name (i := 8) nd rfl (Or.inl rfl)) pgs_nil)))) (fun _ _ _ _ _ => pts_nil) (fun _ _ _ _ _ => (pe_tup (pa_cons pe_str (pa_cons (pe_callB (show CallR _ (.builtin "len") (rLenS K) from call_len_seq) (by rfl) B.b_len PySem.boot_len (pa_cons (pv 7) pa_nil)) (pa_cons (pv 8) pa_nil)))))) pa_nil)))
  (pss_one (ps_ret (pe_tup (pa_cons pe_str (pa_cons (pv 3) (pa_cons (pv 4) (pa_cons (pv 6) (pa_cons (pe_ix ix_list (pv 1) (pe_un un_neg pe_int) (fun _ _ => rfl)) (pa_cons (pe_ix ix_list (pv 1) (pe_un un_neg pe_int) (fun _ _ => rfl)) pa_nil)))))))))))), ?_⟩
  rcases hok with rfl | ⟨v, rfl⟩ | ⟨up, k, es, rfl, hlen, hks, hel⟩
  · obtain ⟨a, rfl, ha⟩ := stop_inv rn
    refine ⟨_, rfl, a, _, 0, _, rfl, rfl, ha.sq, rfl, rfl, _, rfl, ?_⟩
    rw [show decide (V.str "stop" = V.str (Str.ofString "ask")) = false by decide]
    exact iteT ⟨_, rfl, q _ _ (Same.refl _) rn⟩
  · obtain ⟨a, rfl, ha⟩ := saysay_inv rn
    refine ⟨_, rfl, a, _, 0, _, rfl, rfl, ha.sq, rfl, rfl, _, rfl, ?_⟩
    rw [show decide (V.str "say" = V.str (Str.ofString "ask")) = false by decide]
    exact iteT ⟨_, rfl, q _ _ (Same.refl _) rn⟩
  · obtain ⟨a, axs, rfl, ha, rax⟩ := Rep.inv (ts := [.at (.str "ask"), numD' up, numD' k, .tup es]) rn
    obtain ⟨b, kxs, rfl, hb, rkx⟩ : ∃ b kxs, axs = [.str "ask", .int (up : Nat), .int (k : Nat), .ref b] ∧ TupAt K H b kxs ∧ Reps K H kxs es := by
      cases rax with
      | cons r1 rax =>
        cases rax with
        | cons r2 rax =>
          cases rax with
          | cons r3 rax =>
            cases rax with
            | cons r4 rax =>
              cases rax
              obtain ⟨rfl, _⟩ := Rep.inva r1
              obtain ⟨rfl, _⟩ := Rep.inva r2
              obtain ⟨rfl, _⟩ := Rep.inva r3
              obtain ⟨b, kxs, rfl, hb, rk⟩ := r4.inv
              exact ⟨b, kxs, rfl, hb, rk⟩
    have lk := rkx.length
    have lp := rps.length
    refine ⟨_, rfl, a, _, 0, _, rfl, rfl, ha.sq, rfl, rfl, _, rfl, ?_⟩
    rw [show decide (V.str "ask" = V.str (Str.ofString "ask")) = true by decide]
    refine iteF ?_
    refine ⟨_, rfl, a, _, rfl, ha.sq, rfl, _, _, rfl, _, _, rfl, _, _, rfl, _, _, rfl, rfl, ?_⟩
    refine ⟨_, rfl, _, rfl, b, l, kxs, ps, rfl, hb.sq, SqL.of hl, fun d hd => ?_⟩
    have lz : (zipB es ds).length = es.length := by
      unfold zipB
      rw [List.length_zipWith]
      omega
    refine lc_it (walk_zipM (n := es.length) (by omega)) (fun i H' => Same H H' ∧ ∃ acc, H' d = some (.lst acc) ∧ acc.length = i ∧ Reps K H' acc ((zipB es ds).take i)) ⟨same_new hd _, [], upd_same, rfl, .nil⟩ (fun i H' _ h => ⟨(hb.same h.1).sq, SqL.of (h.1 _ _ hl)⟩) ?_ ?_
    · rintro i x H1 H1' hi ⟨s1, acc, hd1, la, ra⟩ ⟨T, x1, y1, rfl, nT, rfl, hx1, hy1⟩
      have he : es[i]? = some es[i] := List.getElem?_eq_getElem hi
      have hdi : ds[i]? = some (ds[i]'(by omega)) := List.getElem?_eq_getElem (by omega)
      obtain ⟨x', hx', rx⟩ := rkx.getD he
      obtain ⟨y', hy', ry⟩ := rps.getD hdi
      have hx1 : kxs[i]? = some x1 := hx1
      have hy1 : ps[i]? = some y1 := hy1
      rw [hx1] at hx'
      rw [hy1] at hy'
      obtain rfl := Option.some.inj hx'
      obtain rfl := Option.some.inj hy'
      have hki := isK_mem hks (List.getElem_mem hi)
      have ei := kd_tup hki
      obtain ⟨c, cxs, rfl, hc, rc⟩ := Rep.inv (ts := args es[i]) (by rw [← ei]; exact rx)
      have lc := rc.length
      have sT := same_new nT (.tup [.ref c, y1])
      have s1T := s1.trans sT
      have hT : upd H1 T (.tup [.ref c, y1]) T = some (.tup [.ref c, y1]) := upd_same
      have hd2 := sT _ _ hd1
      have ra2 := ra.mono (kx_same sT)
      generalize upd H1 T (.tup [.ref c, y1]) = H2 at *
      refine ⟨T, _, rfl, SqT.of hT, rfl, _, _, rfl, _, _, rfl, rfl, rfl, yes_go ⟨_, rfl, c, cxs, rfl, .inr (hc.same s1T).sq, _, rfl, (by show 3 ≤ sizeLine; decide), fun t nt => ?_⟩⟩
      have s3 := same_new nt (.tup [.str "program", .int ((cxs.length : Nat) : Int), y1])
      have ht : upd H2 t (.tup [.str "program", .int ((cxs.length : Nat) : Int), y1]) t = some (.tup [.str "program", .int ((cxs.length : Nat) : Int), y1]) := upd_same
      have s13 := s1T.trans s3
      have hd3 := s3 _ _ hd2
      have ra3 := ra2.mono (kx_same s3)
      generalize upd H2 t (.tup [.str "program", .int ((cxs.length : Nat) : Int), y1]) = H3 at *
      have k4 : Kx H3 (upd H3 d (.lst (acc ++ [.ref t]))) := kx_list hd3 _
      refine ⟨acc, hd3, small6 (by omega), fun o u e => ?_, acc ++ [.ref t], upd_same, by rw [List.length_append, List.length_singleton, la], ?_⟩
      · rw [upd_ne (ne_of_none e hd)]
        exact s13 _ _ e
      · have ez : (zipB es ds)[i]? = some (.tup [.at (.str "program"), numD' (args es[i]).length, ds[i]'(by omega)]) := by
          unfold zipB
          rw [List.getElem?_zipWith, he, hdi]
        rw [List.take_add_one, ez]
        refine (ra3.mono k4).append (.one (Rep.mono k4 (Rep.tup' ht (.cons (.at rfl) (.cons ?_ (.one (ry.mono (kx_same s13))))))))
        rw [lc]
        exact .at rfl
    · rintro H1 ⟨s1, acc, hd1, la, ra⟩
      rw [← lz, List.take_length] at ra
      refine ⟨d, acc, rfl, .inl ⟨SqL.of hd1, fun t nt => ?_⟩⟩
      have s2 := same_new nt (.tup acc)
      have ht : upd H1 t (.tup acc) t = some (.tup acc) := upd_same
      have s12 := s1.trans s2
      have ra2 := ra.mono (kx_same s2)
      generalize upd H1 t (.tup acc) = H2 at *
      have lds : 2 ≤ ds.length := by omega
      have e1 : ds[ds.length - 2]? = some (ds.getD (ds.length - 2) (.tup [])) := by
        rw [List.getD_eq_getElem?_getD, List.getElem?_eq_getElem (show ds.length - 2 < ds.length by omega)]
        rfl
      have e2 : ds[ds.length - 1]? = some (ds.getD (ds.length - 1) (.tup [])) := by
        rw [List.getD_eq_getElem?_getD, List.getElem?_eq_getElem (show ds.length - 1 < ds.length by omega)]
        rfl
      obtain ⟨v1, hv1, rv1⟩ := rps.getD e1
      obtain ⟨v2, hv2, rv2⟩ := rps.getD e2
      have a1 : atI ps (-1) = some v2 := atI_m1 (by rw [lp]; exact hv2) (by omega)
      have a2 : atI ps (-2) = some v1 := atI_m2 (by rw [lp]; exact hv1) (by omega)
      refine ⟨_, rfl, _, rfl, _, rfl, _, rfl, _, rfl, l, ps, _, _, rfl, rfl, SqL.of (s12 _ _ hl), a2, _, rfl, _, rfl, l, ps, _, _, rfl, rfl, SqL.of (s12 _ _ hl), a1, (by show 6 ≤ sizeLine; decide), fun u nu => ?_⟩
      have s3 := same_new nu (.tup [.str "ask", .int (up : Nat), .int (k : Nat), .ref t, v1, v2])
      have k13 := kx_same (s12.trans s3)
      refine q _ _ (s12.trans s3) ?_
      show Rep K _ _ (.tup [.at (.str "ask"), numD' up, numD' k, .tup (zipB es ds), _, _])
      exact .tup' upd_same (.cons (.at rfl) (.cons (.at rfl) (.cons (.at rfl) (.cons (.tup' (s3 _ _ ht) (ra2.mono (kx_same s3))) (.cons (rv1.mono k13) (.one (rv2.mono k13)))))))
end
end Pk

set_option maxRecDepth 100000
set_option maxHeartbeats 4000000
set_option pp.maxSteps 600
namespace Pk
open PySem PySem.Spec PyProof.Rows L2
open LamX
/-! ### the nodes of program_of's tree -/
structure NdQ (kd : D) (rows : List Row) (ks : List D) (t : T) (s : List Stp) (cs : List Nat) : Prop where
  wf : wfB ks t = true
  kk : KsK ks
  ik : InK kd ks s cs
  ne : cs ≠ []
  odd : s.length % 2 = 1
  ok : OkS s
  sub : Sub rows t s cs
  dn : cs.Pairwise (· > ·)
  len : s.length + 2 * nasks t ≤ 38
section
variable {kd : D} {rows : List Row} {ks : List D} {up k : Nat} {as : List T} {z o : T} {s : List Stp} {cs : List Nat}
theorem NdQ.upl (h : NdQ kd rows ks (.ask up k as z o) s cs) {kd' : D} (e1 : ks[up]? = some kd') : up < cs.length := by
  have := (List.getElem?_eq_some_iff.mp e1).1
  rw [h.ik.l]
  exact this
theorem NdQ.kdat (h : NdQ kd rows ks (.ask up k as z o) s cs) {kd' a : D} (e1 : ks[up]? = some kd') (e2 : (args kd')[k]? = some a) : atD kd (plc s (cs.getD up 0) ++ [k]) = some a := by
  have hu := h.upl e1
  have ec : cs[up]? = some (cs.getD up 0) := by
    rw [List.getElem?_eq_getElem hu, List.getD_eq_getElem?_getD, List.getElem?_eq_getElem hu]
    rfl
  exact arg_at (h.ik.k up _ kd' ec e1) e2
theorem NdQ.zero (h : NdQ kd rows ks (.ask up k as z o) s cs) {kd' : D} (e1 : ks[up]? = some kd') (w2 : wfB ks z = true) : NdQ kd rows ks z (s ++ [asK s (cs.getD up 0) k] ++ [⟨.say 0, some s.length⟩]) cs := by
  have hl : s.length + 2 * (1 + (nasksL as + (nasks z + nasks o))) ≤ 38 := h.len
  have hodd := h.odd
  exact ⟨w2, h.kk, h.ik.two _ _, h.ne, by rw [len_sn, len_sn]; omega, (h.ok.asked h.ik.c (h.upl e1) k).say _ _, h.sub.zero, h.dn, by rw [len_sn, len_sn]; omega⟩
theorem NdQ.one (h : NdQ kd rows ks (.ask up k as z o) s cs) {kd' : D} (e1 : ks[up]? = some kd') (w3 : wfB ks o = true) : NdQ kd rows ks o (s ++ [asK s (cs.getD up 0) k] ++ [⟨.say 1, some s.length⟩]) cs := by
  have hl : s.length + 2 * (1 + (nasksL as + (nasks z + nasks o))) ≤ 38 := h.len
  have hodd := h.odd
  exact ⟨w3, h.kk, h.ik.two _ _, h.ne, by rw [len_sn, len_sn]; omega, (h.ok.asked h.ik.c (h.upl e1) k).say _ _, h.sub.one, h.dn, by rw [len_sn, len_sn]; omega⟩
theorem NdQ.arg (h : NdQ kd rows ks (.ask up k as z o) s cs) {kd' a d : D} {i m : Nat} {b : T} (e1 : ks[up]? = some kd') (e2 : (args kd')[k]? = some a) (hd : (args a)[i]? = some d) (hb : as[i]? = some (.prog m b)) (w : wfB (d :: ks) b = true) :
    NdQ kd rows (d :: ks) b (s ++ [asK s (cs.getD up 0) k] ++ [⟨.ask (plc s (cs.getD up 0) ++ [k] ++ [i]), some s.length⟩]) ((s.length + 1) :: cs) := by
  have hl : s.length + 2 * (1 + (nasksL as + (nasks z + nasks o))) ≤ 38 := h.len
  have hodd := h.odd
  have hn : nasks b ≤ nasksL as := nasksL_at (t := .prog m b) hb
  have hu := h.upl e1
  have hp := h.ok.plc (cs.getD up 0)
  have hc := h.ik.c.lt (mem_getD hu)
  refine ⟨w, h.kk.cons (KM.sub (M := 60) (h.kk.at e1 e2) hd), h.ik.more h.odd _ (arg_at (h.kdat e1 e2) hd) _, List.cons_ne_nil _ _, by rw [len_sn, len_sn]; omega, (h.ok.asked h.ik.c hu k).arg ?_, h.sub.arg hb, List.pairwise_cons.mpr ⟨fun c hc => ?_, h.dn⟩, by rw [len_sn, len_sn]; omega⟩
  · rw [len_sn, List.length_append, List.length_singleton]
    omega
  · have := h.ik.c.lt hc
    omega
end
def NrP (K : PySem.W.Frag) (kd : D) (rows : List Row) : GT → V → Hp → Prop := fun g v H => ∃ ks t s cs, g = trG ks t ∧ NdQ kd rows ks t s cs ∧ Rep K H v (pairD (s, cs))
theorem NrP.mono {K : PySem.W.Frag} {kd : D} {rows : List Row} : ∀ g v H H', Kx H H' → NrP K kd rows g v H → NrP K kd rows g v H' := fun _ _ _ _ k ⟨ks, t, s, cs, e, h, r⟩ => ⟨ks, t, s, cs, e, h, r.mono k⟩
theorem nodes_of {K : PySem.W.Frag} {H : Hp} {kd : D} {rows : List Row} : ∀ {acc : List V} {ys : List (List Stp × List Nat)} {gs : List GT}, Reps K H acc (ys.map pairD) → gs.length = ys.length →
    (∀ (i : Nat) (g : GT) (y : List Stp × List Nat), gs[i]? = some g → ys[i]? = some y → ∃ ks t, g = trG ks t ∧ NdQ kd rows ks t y.1 y.2) → Nodes (NrP K kd rows) H acc gs
  | _, [], [], r, _, _ => by
    cases r
    exact .nil
  | _, [], _ :: _, _, h, _ => by cases h
  | _, _ :: _, [], _, h, _ => by cases h
  | _, y :: ys, g :: gs, r, h, f => by
    cases r with
    | cons r1 r2 =>
      obtain ⟨ks, t, e, hn⟩ := f 0 g y rfl rfl
      exact .cons ⟨ks, t, y.1, y.2, e, hn, r1⟩ (nodes_of r2 (Nat.succ.inj h) fun i g' y' e1 e2 => f (i + 1) g' y' e1 e2)
theorem trPs_len : ∀ (ts : List T) (ks ds : List D), wfPs ks ds ts = true → (trPs ks ds ts).length = ts.length
  | [], _, [], _ => rfl
  | [], _, _ :: _, h => by cases h
  | t :: ts, ks, ds, h => by
    obtain ⟨d, ds', rfl, w1, w2⟩ := wfPs_cons h
    obtain ⟨m, b, rfl, _, _⟩ := wfP_inv w1
    exact congrArg (· + 1) (trPs_len ts ks ds' w2)
theorem trPs_at : ∀ (ts : List T) (ks ds : List D) (i : Nat) (g : GT), wfPs ks ds ts = true → (trPs ks ds ts)[i]? = some g → ∃ d m b, ds[i]? = some d ∧ ts[i]? = some (.prog m b) ∧ g = trG (d :: ks) b ∧ wfB (d :: ks) b = true
  | [], _, [], i, _, _, e => by cases e
  | [], _, _ :: _, _, _, h, _ => by cases h
  | t :: ts, ks, ds, i, g, h, e => by
    obtain ⟨d, ds', rfl, w1, w2⟩ := wfPs_cons h
    obtain ⟨m, b, rfl, _, w3⟩ := wfP_inv w1
    cases i with
    | zero => exact ⟨d, m, b, rfl, rfl, (Option.some.inj e).symm, w3⟩
    | succ i => exact trPs_at ts ks ds' i g w2 e
theorem wfPs_len' {ks ds : List D} {ts : List T} (h : wfPs ks ds ts = true) : ts.length = ds.length := wfPs_len h
theorem kids_nodes {K : PySem.W.Frag} {H : Hp} {kd : D} {rows : List Row} {ks : List D} {up k : Nat} {as : List T} {z o : T} {s : List Stp} {cs : List Nat} {acc : List V} (h : NdQ kd rows ks (.ask up k as z o) s cs) {kd' a : D} (e1 : ks[up]? = some kd') (e2 : (args kd')[k]? = some a)
    (w1 : wfPs ks (args a) as = true) (w2 : wfB ks z = true) (w3 : wfB ks o = true) (r : Reps K H acc ((sibs (s ++ [asK s (cs.getD up 0) k]) (plc s (cs.getD up 0) ++ [k]) cs (args a).length).map pairD)) : Nodes (NrP K kd rows) H acc (trPs ks (args a) as ++ [trG ks z, trG ks o]) := by
  have l1 := trPs_len as ks _ w1
  have l2 := wfPs_len' w1
  have ln : (s ++ [asK s (cs.getD up 0) k]).length = s.length + 1 := len_sn _ _
  refine nodes_of r ?_ fun i g y eg ey => ?_
  · unfold sibs
    rw [List.length_append, List.length_append, List.length_map, List.length_range, l1, l2]
    rfl
  · unfold sibs at ey
    by_cases hi : i < (args a).length
    · rw [List.getElem?_append_left (by rw [l1]; omega)] at eg
      rw [List.getElem?_append_left (by rw [List.length_map, List.length_range]; exact hi), List.getElem?_map, List.getElem?_range hi] at ey
      obtain ⟨d, m, b, f1, f2, rfl, f4⟩ := trPs_at as ks _ i g w1 eg
      obtain rfl := Option.some.inj ey
      refine ⟨d :: ks, b, rfl, ?_⟩
      show NdQ kd rows (d :: ks) b (s ++ [asK s (cs.getD up 0) k] ++ [⟨.ask (plc s (cs.getD up 0) ++ [k] ++ [i]), some ((s ++ [asK s (cs.getD up 0) k]).length - 1)⟩]) ((s ++ [asK s (cs.getD up 0) k]).length :: cs)
      rw [ln]
      exact h.arg e1 e2 f1 f2 f4
    · rw [List.getElem?_append_right (by rw [l1]; omega), l1, l2] at eg
      rw [List.getElem?_append_right (by rw [List.length_map, List.length_range]; omega), List.length_map, List.length_range] at ey
      generalize i - (args a).length = j at eg ey
      match j, eg, ey with
      | 0, eg, ey =>
        obtain rfl := Option.some.inj eg
        obtain rfl := Option.some.inj ey
        refine ⟨ks, z, rfl, ?_⟩
        show NdQ kd rows ks z (s ++ [asK s (cs.getD up 0) k] ++ [⟨.say 0, some ((s ++ [asK s (cs.getD up 0) k]).length - 1)⟩]) cs
        rw [ln]
        exact h.zero e1 w2
      | 1, eg, ey =>
        obtain rfl := Option.some.inj eg
        obtain rfl := Option.some.inj ey
        refine ⟨ks, o, rfl, ?_⟩
        show NdQ kd rows ks o (s ++ [asK s (cs.getD up 0) k] ++ [⟨.say 1, some ((s ++ [asK s (cs.getD up 0) k]).length - 1)⟩]) cs
        rw [ln]
        exact h.one e1 w3
theorem downs_len : ∀ {cs : List Nat} {n : Nat}, cs.Pairwise (· > ·) → (∀ c ∈ cs, c < n) → cs.length ≤ n
  | [], _, _, _ => Nat.zero_le _
  | c :: cs, n, h, hc => by
    obtain ⟨h1, h2⟩ := List.pairwise_cons.mp h
    have := downs_len h2 h1
    have := hc c (List.mem_cons_self ..)
    rw [List.length_cons]
    omega
theorem idx_of {cs : List Nat} (h : cs.Pairwise (· > ·)) {up : Nat} (hu : up < cs.length) : (cs.map fun c : Nat => ((c : Nat) : Int)).idxOf ((cs.getD up 0 : Nat) : Int) = up := by
  have nd : (cs.map fun c : Nat => ((c : Nat) : Int)).Nodup := by
    refine List.pairwise_map.mpr (h.imp fun {a b} hab e => ?_)
    omega
  have hl : up < (cs.map fun c : Nat => ((c : Nat) : Int)).length := by rw [List.length_map]; exact hu
  have e : ((cs.getD up 0 : Nat) : Int) = (cs.map fun c : Nat => ((c : Nat) : Int))[up] := by
    rw [List.getElem_map, List.getD_eq_getElem?_getD, List.getElem?_eq_getElem hu]
    rfl
  rw [e]
  exact List.Nodup.idxOf_getElem nd up hl
section
variable {P : Program} {w : World} {K : PySem.W.Frag} {mg : Str → Option Value} {base : Heap}
/-! ### _spread_sight -/
def spSpr (K : PySem.W.Frag) : Sp := fun vs H Q _ => ∃ (sv nv : V) (kd : D) (rows : List Row) (g : GT), vs = [sv, nv] ∧ Rep K H sv (stratD kd (sortR rows)) ∧ (keysR rows).Nodup ∧ (∀ r ∈ rows, OkR r) ∧ isK kd = true ∧ NrP K kd rows g nv H ∧
  ∀ (a r : Addr) (nt : V) (acc : List V) (H2 : Hp), Same H H2 → H r = none → H2 a = some (.tup [nt, .ref r]) → Rep K H2 nt (noteG g) → H2 r = some (.lst acc) → Nodes (NrP K kd rows) H2 acc (kidsG g) → Q (.ref a) H2
theorem ok_spr {f f1 f2 f3 : Addr} {fd d1 d2 d3 : FuncData} (D__spread_sight : Df K mg "_spread_sight" s__spread_sight ["strategy", "node"] f fd) (D__step_at : Df K mg "_step_at" s__step_at ["strategy", "sight"] f1 d1) (D_kind_at : Df K mg "kind_at" s_kind_at ["kind", "place"] f2 d2)
    (D__sights_behind : Df K mg "_sights_behind" s__sights_behind ["play", "many", "calls"] f3 d3) (B : Bt mg) : FnOk P w K mg base CX0 2 f fd ["strategy", "node"] (spSpr K) := by
  have G__step_at : FnOk P w K mg base CX0 1 f1 d1 ["strategy", "sight"] (spSA K) := ok_sa D__step_at B
  have G_kind_at : FnOk P w K mg base CX0 1 f2 d2 ["kind", "place"] (spKA K) := ok_ka D_kind_at B
  have G__sights_behind : FnOk P w K mg base CX0 1 f3 d3 ["play", "many", "calls"] (spSib K) := ok_sib D__sights_behind B
  refine D__spread_sight.ok c__spread_sight (fun vs H Q E h => ?_) (fun cdv A outer s0 H vs Q E hr h => ?_)
  · obtain ⟨sv, nv, kd, rows, g, rfl, _⟩ := h
    rfl
  obtain ⟨sv, nv, kd, rows, g, rfl, rs, hnd, hok, hkd, ⟨ks, t, s, cs, rfl, hn, rn⟩, q⟩ := h
  have nd := c__spread_sight.nd
  refine ⟨_, (pss_cons (ps_asg (pv 1) (pg_tup rfl (pgs_cons (pg_name (i := 2) nd rfl (Or.inl rfl)) (pgs_cons (pg_name (i := 3) nd rfl (Or.inl rfl)) pgs_nil))))
  (pss_cons (ps_set (i := 4) nd rfl (Or.inl rfl) (pe_call G__step_at (hr.mono (by first | decide | omega)) (by rfl) D__step_at.m D__step_at.kp D__step_at.b .nil pass0 (pa_cons (pv 0) (pa_cons (pv 2) pa_nil))))
  (pss_cons (ps_if (pt_cmpR op_isN (pv 4) pe_non (nomark _)) (pss_one (ps_ret (pe_tup (pa_cons (pe_tup (pa_cons pe_str pa_nil)) (pa_cons (pe_lst pa_nil) pa_nil))))) pss_nil)
  (pss_cons (ps_asg (pv 4) (pg_tup rfl (pgs_cons (pg_name (i := 5) nd rfl (Or.inl rfl)) (pgs_cons (pg_name (i := 6) nd rfl (Or.inl rfl)) pgs_nil))))
  (pss_cons (ps_if (pt_cmpR op_eq (pe_ix ix_tup (pv 5) pe_int (fun _ _ => rfl)) pe_str (nomark _)) (pss_one (ps_ret (pe_tup (pa_cons (pv 5) (pa_cons (pe_lst pa_nil) pa_nil))))) pss_nil)
  (pss_cons (ps_set (i := 7) nd rfl (Or.inl rfl) (pe_call G_kind_at (hr.mono (by first | decide | omega)) (by rfl) D_kind_at.m D_kind_at.kp D_kind_at.b .nil pass0 (pa_cons (pe_ix ix_tup (pv 0) pe_int (fun _ _ => rfl)) (pa_cons (pe_ix ix_tup (pv 5) pe_int (fun _ _ => rfl)) pa_nil))))
  (pss_cons (ps_set (i := 8) nd rfl (Or.inl rfl) (show PE _ _ (tTupIx K _ _) from pe_tupIx (show PE _ _ (tRevT K _) from pe_revT (pv 3)) (pv 6) ⟨rfl, rfl, rfl, rfl⟩))
  (pss_one (ps_ret (pe_tup (pa_cons (pe_tup (pa_cons pe_str (pa_cons (pv 8) (pa_cons (pe_ix ix_tup (pe_ix ix_tup (pv 5) pe_int (fun _ _ => rfl)) (pe_un un_neg pe_int) (fun _ _ => rfl)) (pa_cons (pv 7) pa_nil))))) (pa_cons (pe_call G__sights_behind (hr.mono (by first | decide | omega)) (by rfl) D__sights_behind.m D__sights_behind.kp D__sights_behind.b .nil pass0 (pa_cons (pe_op op_catP (pv 2) (pe_tup (pa_cons (pv 4) pa_nil))) (pa_cons (pe_callB call_len_seq (by rfl) B.b_len PySem.boot_len (pa_cons (pv 7) pa_nil)) (pa_cons (pv 3) pa_nil)))) pa_nil)))))))))))), ?_⟩
  obtain ⟨na, nxs, rfl, hna, rnx⟩ := Rep.inv (ts := [playD s, cal cs]) rn
  obtain ⟨sgv, clv, rfl, rsg, rcl⟩ : ∃ sgv clv, nxs = [sgv, clv] ∧ Rep K H sgv (playD s) ∧ Rep K H clv (cal cs) := by
    cases rnx with
    | cons r1 rnx =>
      cases rnx with
      | cons r2 rnx =>
        cases rnx
        exact ⟨_, _, rfl, r1, r2⟩
  have hlk : lkR rows s = lkR (rowsB t s cs) s := hn.sub s (List.prefix_refl s)
  refine ⟨_, rfl, na, _, rfl, hna.sq, rfl, _, _, rfl, _, _, rfl, rfl, ?_⟩
  refine ⟨_, rfl, _, rfl, sv, sgv, kd, rows, s, rfl, rs, hnd, hok, rsg, wk_of hn.ok, fun y ry => ?_⟩
  rw [hlk] at ry
  cases t with
  | prog _ _ => exact absurd hn.wf (by intro z; cases z)
  | stop =>
    have ey : y = .non := ry
    subst ey
    refine ⟨_, rfl, rfl, _, rfl, iteT ?_⟩
    refine ⟨(by show 1 ≤ sizeLine; decide), fun t1 n1 => ⟨(by show 0 ≤ sizeLine; decide), fun r nr => ⟨(by show 2 ≤ sizeLine; decide), fun a na' => ?_⟩⟩⟩
    have s1 := same_new n1 (.tup [.str "stop"])
    have s2 := same_new nr (.lst [])
    have s3 := same_new na' (.tup [.ref t1, .ref r])
    refine q a r (.ref t1) [] _ (s1.trans (s2.trans s3)) (s1.free nr) upd_same ?_ (s3 _ _ upd_same) .nil
    exact .tup' (s3 _ _ (s2 _ _ upd_same)) (.one (.at rfl))
  | say v =>
    have e0 : lkR (rowsB (.say v) s cs) s = some ⟨.say v, some (cs.getD 0 0)⟩ := lkR_head
    rw [e0] at ry
    have ry : Rep K H y (stD ⟨.say v, some (cs.getD 0 0)⟩) := ry
    obtain ⟨a2, m2, b2, rfl, ha2, rm2, rb2⟩ := step_inv ry
    obtain ⟨ma, rfl, hma⟩ := say_inv rm2
    refine ⟨_, rfl, rfl, _, rfl, iteF ?_⟩
    refine ⟨_, rfl, a2, _, rfl, ha2.sq, rfl, _, _, rfl, _, _, rfl, rfl, ?_⟩
    refine ⟨_, rfl, ma, _, 0, _, rfl, rfl, hma.sq, rfl, rfl, _, rfl, ?_⟩
    rw [show decide (V.str "say" = V.str (Str.ofString "say")) = true by decide]
    refine iteT ⟨_, rfl, (by show 0 ≤ sizeLine; decide), fun r nr => ⟨(by show 2 ≤ sizeLine; decide), fun a na' => ?_⟩⟩
    have s2 := same_new nr (.lst [])
    have s3 := same_new na' (.tup [.ref ma, .ref r])
    exact q a r (.ref ma) [] _ (s2.trans s3) nr upd_same (rm2.mono (kx_same (s2.trans s3))) (s3 _ _ upd_same) .nil
  | ask up k as z o =>
    obtain ⟨kd', a, e1, e2, w1, w2, w3⟩ := wfB_ask hn.wf
    have hup := hn.upl e1
    have hat := hn.kdat e1 e2
    have e0 : lkR (rowsB (.ask up k as z o) s cs) s = some (asK s (cs.getD up 0) k) := lkR_head
    rw [e0] at ry
    have ry : Rep K H y (stD (asK s (cs.getD up 0) k)) := ry
    have hkA := hn.kk.at e1 e2
    have hl : s.length + 2 * (1 + (nasksL as + (nasks z + nasks o))) ≤ 38 := hn.len
    obtain ⟨a2, m2, b2, rfl, ha2, rm2, rb2⟩ := step_inv ry
    obtain ⟨ma, pv, rfl, hma, rpv⟩ := ask_inv rm2
    obtain ⟨rfl, _⟩ := Rep.inva (w := V.int (cs.getD up 0 : Nat)) rb2
    obtain ⟨sa, s1v, s2v, rfl, hsa, rkd⟩ : ∃ sa s1v s2v, sv = .ref sa ∧ TupAt K H sa [.str "strategy", s1v, s2v] ∧ Rep K H s1v kd := by
      obtain ⟨sa, kv, b, xs, e, h1, h2, _⟩ := strat_inv2 rs
      exact ⟨sa, kv, _, e, h1, h2⟩
    refine ⟨_, rfl, rfl, _, rfl, iteF ?_⟩
    refine ⟨_, rfl, a2, _, rfl, ha2.sq, rfl, _, _, rfl, _, _, rfl, rfl, ?_⟩
    refine ⟨_, rfl, ma, _, 0, _, rfl, rfl, hma.sq, rfl, rfl, _, rfl, ?_⟩
    rw [show decide (V.str "ask" = V.str (Str.ofString "say")) = false by decide]
    refine iteF ?_
    refine ⟨_, rfl, sa, _, 1, _, rfl, rfl, hsa.sq, rfl, _, rfl, ma, _, 1, _, rfl, rfl, hma.sq, rfl, s1v, pv, kd, plc s (cs.getD up 0) ++ [k], rfl, rkd, hkd, rpv, (fun z' => by rw [hat] at z'; cases z'), fun av e' he' rav => ?_⟩
    rw [hat] at he'
    obtain rfl := Option.some.inj he'
    obtain ⟨ca, cxs, rfl, hca, rcx⟩ := Rep.inv (ts := cs.reverse.map numD') rcl
    have ec := rep_nats_inv rcx
    subst ec
    refine ⟨_, rfl, ca, _, rfl, hca.sq, fun rv ob nrv ho1 ho2 => ?_⟩
    have erv : (nats cs.reverse).reverse = (cs.map fun c : Nat => ((c : Nat) : Int)).map V.int := by
      rw [nats_rev', List.reverse_reverse]
      unfold nats
      rw [List.map_map]
      rfl
    have s1 := same_new nrv (.frz ob (.tup (nats cs.reverse).reverse))
    have hrv : upd H rv (.frz ob (.tup (nats cs.reverse).reverse)) rv = some (.frz ob (.tup ((cs.map fun c : Nat => ((c : Nat) : Int)).map V.int))) := by
      rw [← erv]
      exact upd_same
    generalize upd H rv (.frz ob (.tup (nats cs.reverse).reverse)) = H1 at *
    refine ⟨rv, _, rfl, ⟨ob, hrv, ho1, ho2⟩, _, rfl, _, rfl, ⟨ob, hrv, ho1, ho2⟩, List.mem_map.mpr ⟨_, mem_getD hup, rfl⟩, ?_⟩
    rw [idx_of hn.dn hup]
    obtain ⟨sga, sgx, rfl, hsga, rsgx, lsg⟩ := play_inv rsg
    obtain ⟨pa, pxs, rfl, hpa, rpx⟩ := Rep.inv (ts := (plc s (cs.getD up 0) ++ [k]).map numD') rpv
    have ep := rep_nats_inv rpx
    subst ep
    have atk : atI (nats (plc s (cs.getD up 0) ++ [k])) (-1) = some (.int (k : Nat)) := last_at List.getLast?_concat
    refine ⟨_, rfl, _, rfl, ma, _, 1, _, rfl, rfl, (hma.same s1).sq, rfl, _, rfl, pa, _, _, _, rfl, rfl, (hpa.same s1).sq, atk, _, rfl, (by show 4 ≤ sizeLine; decide), fun t1 n1 => ?_⟩
    have s2 := same_new n1 (.tup [.str "ask", .int (up : Nat), .int (k : Nat), av])
    have ht1 : upd H1 t1 (.tup [.str "ask", .int (up : Nat), .int (k : Nat), av]) t1 = some (.tup [.str "ask", .int (up : Nat), .int (k : Nat), av]) := upd_same
    have s12 := s1.trans s2
    generalize upd H1 t1 (.tup [.str "ask", .int (up : Nat), .int (k : Nat), av]) = H2 at *
    refine ⟨_, rfl, _, rfl, (by show 1 ≤ sizeLine; decide), fun t2 n2 => ?_⟩
    have s3 := same_new n2 (.tup [.ref a2])
    have ht2 : upd H2 t2 (.tup [.ref a2]) t2 = some (.tup [.ref a2]) := upd_same
    have s13 := s12.trans s3
    generalize upd H2 t2 (.tup [.ref a2]) = H3 at *
    refine ⟨sga, t2, sgx, _, rfl, rfl, hsga.same s13, .inl ht2, small6' (by rw [lsg]; show s.length + 1 ≤ 1000000; omega), fun lc H4 s4 hlc => ?_⟩
    have s14 := s13.trans s4
    have rl : Rep K H4 (.ref lc) (playD (s ++ [asK s (cs.getD up 0) k])) := by
      unfold playD
      rw [List.map_append]
      exact .tup hlc ((rsgx.mono (kx_same s14)).append (.one (ry.mono (kx_same s14))))
    obtain ⟨aa, aax, rfl, haa, raa⟩ := Rep.inv (ts := args a) (by rw [← kd_tup hkA.1]; exact rav)
    have laa := raa.length
    have lka := KM.len (M := 60) hkA
    have lcs := hn.ik.l
    have hpl := hn.ok.plc (cs.getD up 0)
    have hcl := hn.ik.c.lt (mem_getD hup)
    have hcs : cs.length ≤ s.length := by
      have : cs.length ≤ s.length := downs_len hn.dn fun c hc => hn.ik.c.lt hc
      exact this
    refine ⟨_, rfl, aa, aax, rfl, .inr (haa.same s14).sq, _, rfl, .ref lc, .ref ca, s ++ [asK s (cs.getD up 0) k], plc s (cs.getD up 0) ++ [k], some (cs.getD up 0), cs, aax.length, rfl, rl, rcl.mono (kx_same s14), by simp, ?_, by rw [len_sn]; omega, by omega, ?_, by omega, fun r H5 acc s5 nr hr5 racc => ?_⟩
    · rw [len_sn, Nat.add_sub_cancel]
      exact last_sn
    · rw [List.length_append, List.length_singleton]
      omega
    · refine ⟨(by show 2 ≤ sizeLine; decide), fun a5 na5 => ?_⟩
      have s6 := same_new na5 (.tup [.ref t1, .ref r])
      have s26 := s3.trans (s4.trans (s5.trans s6))
      have s16 := s12.trans s26
      refine q a5 r (.ref t1) acc _ s16 ((s14.free nr)) upd_same ?_ (s6 _ _ hr5) ?_
      · show Rep K _ _ (askN up k (kdAt ks up k))
        rw [kdAt_eq e1 e2]
        exact .tup' (s26 _ _ ht1) (.cons (.at rfl) (.cons (.at rfl) (.cons (.at rfl) (.one (rav.mono (kx_same s16))))))
      · show Nodes _ _ _ (trPs ks (args (kdAt ks up k)) as ++ [trG ks z, trG ks o])
        rw [kdAt_eq e1 e2]
        refine kids_nodes hn e1 e2 w1 w2 w3 ?_
        rw [laa] at racc
        exact racc.mono (kx_same s6)
end
end Pk

set_option maxRecDepth 100000
set_option maxHeartbeats 4000000
set_option pp.maxSteps 600
namespace Pk
open PySem PySem.Spec PyProof.Rows L2
theorem code_ref {K : PySem.W.Frag} {cd : Value} {q : Str} (h : PySem.W.codeIn K cd q = true) : ∃ c, cd = .ref c := by
  cases cd with
  | ref c => exact ⟨c, rfl⟩
  | _ => cases h
theorem Df.okC {P : Program} {w : World} {K : PySem.W.Frag} {mg : Str → Option Value} {base : Heap} {x : Str} {st : Stmt} {ps : List Str} {f : Addr} {fd : FuncData} {N : List Str} {k : Nat} {sp : Sp} (D : Df K mg x st ps f fd) (S : FnScope N ps (defScope st)) (len : ∀ vs H Q E, sp vs H Q E → vs.length = ps.length)
    (hbody : ∀ (c : Addr) (A : Around) (outer : List Env) (s : Shared) (H : Hp) (vs : List V) (Q : VK) (E : XK), fd.code = .ref c → PySem.W.codeIn K (.ref c) x = true → Room k (A.deeper (envOfC x (defScope st) s.heap.objs.size f (.ref c))) → sp vs H Q E →
      ∃ t, PSs (cxOf CX0 P w K mg base N x (defScope st) f (.ref c) A outer s H E).nox (defBody st) t ∧ t { nx := fun _ H' => Q .non H', rt := Q } (L2.start N vs) H) : FnOk P w K mg base CX0 (k + 1) f fd ps sp := by
  obtain ⟨oc, od, dV, kV, doc, pm, an, cdv, ct, osl, rfl, lk, hcd, _, _⟩ := D.F.ex
  obtain ⟨c, rfl⟩ := code_ref hcd
  refine fn_of lk hcd S len fun A outer s H vs Q E hr hsp => ?_
  obtain ⟨t, h, q⟩ := hbody c A outer s H vs Q E rfl hcd hr hsp
  exact ⟨t, h.nox, q⟩
open LamX
theorem room_at {k : Nat} {A : Around} {e e' : Env} (r : Room k (A.deeper e)) : Room k (A.deeper e') := ⟨r.hd, r.dp, r.un⟩
theorem extN_kx {H H' : Hp} (e : ExtN H H') : Kx H H' := ⟨fun a xs h => e _ _ h (fun ps z => by cases z), fun a xs h => ⟨xs, e _ _ h (fun ps z => by cases z)⟩⟩
theorem extN_of {H H' : Hp} (s : Same H H') : ExtN H H' := ExtN.of s
theorem tupAt_kx {K : PySem.W.Frag} {H H' : Hp} {a : Addr} {xs : List V} (h : TupAt K H a xs) (k : Kx H H') : TupAt K H' a xs := h.elim (fun e => .inl (k.t _ _ e)) .inr
def qLam (x : Str) : Str := (envOfC x (defScope s_law) 0 0 .none).qual ++ "<lambda>"
theorem c_program_of2 : FnScope ["strategy", "beginning", "body", "node"] ["strategy"] (defScope s_program_of) := ⟨rfl, rfl, rfl, by decide +kernel, rfl, by decide +kernel, by decide +kernel⟩
mutual
theorem szG_tr : ∀ (t : T) (ks : List D), szG (trG ks t) ≤ szT t
  | .say v, _ => Nat.le_refl _
  | .stop, _ => Nat.le_refl _
  | .prog _ _, _ => szT_pos _
  | .ask up k as z o, ks => by
    have h1 := szG_tr z ks
    have h2 := szG_tr o ks
    have h3 := szG_trs as ks (args (kdAt ks up k))
    show 1 + szGs (trPs ks (args (kdAt ks up k)) as ++ [trG ks z, trG ks o]) ≤ 1 + (szT z + (szT o + szTs as))
    rw [szGs_app]
    show 1 + (szGs _ + (szG (trG ks z) + (szG (trG ks o) + 0))) ≤ _
    omega
theorem szG_trs : ∀ (ts : List T) (ks ds : List D), szGs (trPs ks ds ts) ≤ szTs ts
  | [], _, [] => Nat.zero_le _
  | [], _, _ :: _ => Nat.zero_le _
  | .prog m b :: ts, ks, d :: ds => by
    have h1 := szG_tr b (d :: ks)
    have h2 := szG_trs ts ks ds
    show szG (trG (d :: ks) b) + szGs (trPs ks ds ts) ≤ szT b + szTs ts
    omega
  | .prog m b :: ts, ks, [] => Nat.zero_le _
  | .say _ :: ts, ks, [] => Nat.zero_le _
  | .say _ :: ts, ks, _ :: _ => Nat.zero_le _
  | .stop :: ts, ks, [] => Nat.zero_le _
  | .stop :: ts, ks, _ :: _ => Nat.zero_le _
  | .ask _ _ _ _ _ :: ts, ks, [] => Nat.zero_le _
  | .ask _ _ _ _ _ :: ts, ks, _ :: _ => Nat.zero_le _
end
section
variable {P : Program} {w : World} {K : PySem.W.Frag} {mg : Str → Option Value} {base : Heap} {T : List (Addr × Str)}
/-! ### program_of -/
def spPO (K : PySem.W.Frag) (T : List (Addr × Str)) : Sp := fun vs H Q _ => ∃ (sv : V) (kd : D) (t : Pk.T), vs = [sv] ∧ Rep K H sv (stratD kd (sortR (rowsT t))) ∧ wfP [] kd t = true ∧ isK kd = true ∧ sz kd ≤ 60 ∧ nasks t ≤ 18 ∧ szT (progB t) ≤ 90000 ∧ Tabs T H ∧ ∀ z H', ExtN H H' → Tabs T H' → Rep K H' z (toD t) → Q z H'
theorem ok_po {bg : Addr} (hBG : mg "BEGINNING" = some (.ref bg)) (hKB : ∀ H, Rep K H (.ref bg) (stD BEG)) {f f1 f2 f3 f4 f5 f6 c0 P0 : Addr} {fd d1 d2 d3 d4 d5 d6 : FuncData} (D_program_of : Df K mg "program_of" s_program_of ["strategy"] f fd) (D_grown : Df K mg "grown" s_grown ["root", "spread", "put_together"] f1 d1) (D_body_of : Df K mg "body_of" s_body_of ["note", "parts"] f2 d2)
    (D__spread_sight : Df K mg "_spread_sight" s__spread_sight ["strategy", "node"] f3 d3) (D__step_at : Df K mg "_step_at" s__step_at ["strategy", "sight"] f4 d4) (D_kind_at : Df K mg "kind_at" s_kind_at ["kind", "place"] f5 d5) (D__sights_behind : Df K mg "_sights_behind" s__sights_behind ["play", "many", "calls"] f6 d6) (B : Bt mg)
    (hc0 : fd.code = .ref c0) (TB : TabB base mg c0 P0) (hTm : (P0, qLam "program_of") ∈ T) (hTu : ∀ p ∈ T, p.1 = P0 → p.2 = qLam "program_of") : FnOk P w K mg base CX0 5 f fd ["strategy"] (spPO K T) := by
  have G_body_of : FnOk P w K mg base CX0 1 f2 d2 ["note", "parts"] (spPt K ptB OkB) := ok_bo D_body_of B
  have G__spread_sight : FnOk P w K mg base CX0 2 f3 d3 ["strategy", "node"] (spSpr K) := ok_spr D__spread_sight D__step_at D_kind_at D__sights_behind B
  refine D_program_of.okC c_program_of2 (fun vs H Q E h => ?_) (fun c A outer s H vs Q E hfc hcd hr h => ?_)
  · obtain ⟨sv, kd, t, rfl, _⟩ := h
    rfl
  obtain ⟨sv, kd, t, rfl, rs, hw, hkd, hkz, hn, hz, hT, q⟩ := h
  have nd := c_program_of2.nd
  rw [hc0] at hfc
  obtain rfl : c0 = c := by injection hfc
  have hcode : (cxOf CX0 P w K mg base ["strategy", "beginning", "body", "node"] "program_of" (defScope s_program_of) f (.ref c0) A outer s H E).nox.env.code = .ref c0 := rfl
  refine ⟨_, (pss_cons (ps_set (i := 1) nd rfl (Or.inl rfl) (pe_tup (pa_cons (pe_tup (pa_cons (pe_glob rfl hBG (rel_ref _)) pa_nil)) (pa_cons (pe_tup (pa_cons pe_int pa_nil)) pa_nil))))
  (pss_cons (ps_set (i := 2) nd rfl (Or.inl rfl) (pe_lamcallP3 (T := T) (TT := TTg K ptB OkB (NrP K kd (rowsT t))) (k := 2) (rk := 1) (i := 1) (j := 3) (a := "node") (p1n := "root") (pf := "spread") (p3n := "put_together") D_grown.F D_grown.b (by rfl) D_grown.m (by rfl) D_body_of.m c_grown rfl (.inl rfl) (by decide) (fun cdg => gives_grown (CXp := CX0) (kp := 1) NrP.mono G_body_of D_body_of.kp D_body_of.b B) TB hcode hTm hTu hr (lamP_by (by kernel_rfl)) rfl nd rfl (fun _ _ _ _ _ _ => rfl) (pv 1) (fun A outer s H f c' B hr2 => (pe_call G__spread_sight (room_at hr2) (by rfl) D__spread_sight.m D__spread_sight.kp D__spread_sight.b .nil pass0 (pa_cons (pv 0) (pa_cons (pv 3) pa_nil))))))
  (pss_one (ps_ret (pe_tup (pa_cons pe_str (pa_cons (pe_callB call_len_seq (by rfl) B.b_len PySem.boot_len (pa_cons (pe_ix ix_tup (pv 0) pe_int (fun _ _ => rfl)) pa_nil)) (pa_cons (pv 2) pa_nil)))))))), ?_⟩
  obtain ⟨m, b, rfl, em, wb⟩ := wfP_inv hw
  have hn' : nasks b ≤ 18 := hn
  have hz' : szT b ≤ 90000 := hz
  obtain ⟨sa, kv, lb, xs, rfl, hsa, rk, hlb, rxs, lx⟩ := strat_inv2 rs
  refine ⟨(by show 1 ≤ sizeLine; decide), fun t1 n1 => ⟨(by show 1 ≤ sizeLine; decide), fun t2 n2 => ⟨(by show 2 ≤ sizeLine; decide), fun t3 n3 => ?_⟩⟩⟩
  have s1 := same_new n1 (.tup [.ref bg])
  have s2 := same_new n2 (.tup [.int 0])
  have s3 := same_new n3 (.tup [.ref t1, .ref t2])
  have s13 := s1.trans (s2.trans s3)
  have rb : Rep K (upd (upd (upd H t1 (.tup [.ref bg])) t2 (.tup [.int 0])) t3 (.tup [.ref t1, .ref t2])) (.ref t3) (pairD ([BEG], [0])) :=
    .tup' upd_same (.cons (.tup' (s3 _ _ (s2 _ _ upd_same)) (.one (hKB _))) (.one (.tup' (s3 _ _ upd_same) (.one (.at rfl)))))
  generalize upd (upd (upd H t1 (.tup [.ref bg])) t2 (.tup [.int 0])) t3 (.tup [.ref t1, .ref t2]) = H0 at *
  have hks : KsK [kd] := fun k hk => by
    rw [List.mem_singleton.mp hk]
    exact ⟨hkd, hkz⟩
  obtain ⟨fo1, fo2⟩ := fo_tr b [kd] wb hks
  have hnd : NdQ kd (rowsT (.prog m b)) [kd] b [BEG] [0] := by
    refine ⟨wb, hks, ⟨rfl, fun c m => ?_, fun c m => ?_, fun i c k e1 e2 => ?_⟩, List.cons_ne_nil _ _, rfl, OkS.one, Sub.top, List.pairwise_singleton _ _, by show 1 + 2 * nasks b ≤ 38; omega⟩
    · rw [List.mem_singleton.mp m]
      exact ⟨[], none, rfl⟩
    · rw [List.mem_singleton.mp m]
    · cases i with
      | zero =>
        have e1' : 0 = c := Option.some.inj e1
        have e2' : kd = k := Option.some.inj e2
        rw [← e1', ← e2']
        exact atD_nil kd
      | succ i => cases e1
  have hT0 : Tabs T H0 := hT.ext fun b o e => s13 _ _ e
  refine ⟨_, rfl, hT0, fun H2 eN T2 => ?_⟩
  have k02 : Kx H H2 := extN_kx ((extN_of s13).trans eN)
  refine ⟨trG [kd] b, ⟨[kd], b, [BEG], [0], rfl, hnd, rb.mono (extN_kx eN)⟩, fo2, Nat.le_trans (szG_tr b [kd]) (by omega), fun t' v H3 Q' s3 rv3 ok3 hQ => ?_, fun z H3 s3 rz => ?_⟩
  · refine ⟨_, rfl, _, rfl, .ref sa, v, kd, rowsT (.prog m b), t', rfl, (rs.mono k02).mono (kx_same s3), rowsB_nodup _ _ _, rowsT_ok hw, hkd, rv3, fun a r nt acc H4 s4 nr ha rn hr4 hns => hQ a r nt acc H4 s4 nr ha rn hr4 hns⟩
  · rw [fo1] at rz
    have k03 := k02.trans (kx_same s3)
    obtain ⟨ka, kxs, rfl, hka, rka⟩ := Rep.inv (ts := args kd) (by rw [← kd_tup hkd]; exact rk)
    have lka := rka.length
    have hsa3 := tupAt_kx hsa k03
    have hka3 := tupAt_kx hka k03
    refine ⟨_, rfl, sa, _, 1, _, rfl, rfl, hsa3.sq, rfl, ka, kxs, rfl, .inr hka3.sq, _, rfl, (by show 3 ≤ sizeLine; decide), fun u nu => ?_⟩
    have s5 := same_new nu (.tup [.str "program", .int ((kxs.length : Nat) : Int), z])
    have eA := ((extN_of s13).trans eN).trans (extN_of (s3.trans s5))
    refine q _ _ eA (T2.ext fun b o e => (s3.trans s5) _ _ e) ?_
    refine .tup' upd_same (.cons (.at rfl) (.cons ?_ (.one (rz.mono (kx_same s5)))))
    rw [lka, ← em]
    exact .at rfl
end
end Pk

set_option maxRecDepth 100000
set_option maxHeartbeats 4000000
set_option pp.maxSteps 600
namespace Pk
open PySem PySem.Spec PyProof.Rows L2
section
variable {P : Program} {w : World} {K : PySem.W.Frag} {mg : Str → Option Value} {base : Heap}
/-! ### _steps_of, is_within -/
def spSO (P : Program) (w : World) (K : PySem.W.Frag) : Sp := fun vs H Q _ => ∃ (v : V) (kd : D) (rows : List Row), vs = [v] ∧ Rep K H v (stratD kd (sortR rows)) ∧ (keysR rows).Nodup ∧ rows.length ≤ 90000 ∧ ∀ d H', Same H H' → DR P w K H' d (sortR rows) → Q (.ref d) H'
theorem ok_so {f : Addr} {fd : FuncData} (D__steps_of : Df K mg "_steps_of" s__steps_of ["strategy"] f fd) (B : Bt mg) : FnOk P w K mg base CX0 1 f fd ["strategy"] (spSO P w K) := by
  refine D__steps_of.ok c__steps_of (fun vs H Q E h => ?_) (fun cdv A outer s0 H vs Q E hr h => ?_)
  · obtain ⟨v, kd, rows, rfl, _⟩ := h
    rfl
  obtain ⟨v, kd, rows, rfl, rv, hnd, hlen, q⟩ := h
  have nd := c__steps_of.nd
  refine ⟨_, (pss_one (ps_ret (show PE _ _ (tDcK P w K _ _ _ _ _ _) from pe_dcK (own := [("sight", 1), ("step", 2)]) (g := (gTup K 2 (gCons (gName 1) (gCons (gName 2) gNil)))) (tt := tYes) rfl nd (fun _ _ _ _ _ => hr.units) (pi_tup (pe_ix ix_tup (pv 0) pe_int (fun _ _ => rfl))) (blkOk_by (own := [("sight", 1), ("step", 2)]) (N := ["strategy", "sight", "step"]) (sc := defScope s__steps_of) (by decide +kernel)) (fun _ _ _ _ _ => (pg_tup rfl (pgs_cons (pg_name (i := 1) nd rfl (Or.inl rfl)) (pgs_cons (pg_name (i := 2) nd rfl (Or.inl rfl)) pgs_nil)))) (fun _ _ _ _ _ => pts_nil) (fun _ _ _ _ _ => (pv 1)) (fun _ _ _ _ _ => (pv 2))))), ?_⟩
  obtain ⟨a, kv, b, xs, rfl, ha, rk, hb, rxs, lx⟩ := strat_inv2 rv
  have pm := sortE_perm (fun r : Row => tkD (rowD r)) rows
  have h8 : (sortR rows).length = rows.length := pm.length_eq
  refine ⟨_, rfl, a, _, 2, _, rfl, rfl, ha.sq, rfl, b, rfl, ⟨_, hb.sq⟩, fun d nd' => ?_⟩
  refine dc_it (walk_tup (K := K) (a := b) (xs := xs)) (fun i H' => Same H H' ∧ DR P w K H' d ((sortR rows).take i)) ⟨same_new nd' _, [], upd_same, .nil⟩ (fun i H' _ h => (hb.same h.1).sq) ?_ ?_
  · rintro i x H1 H1' hi ⟨s1, xs1, he, pe⟩ ⟨rfl, hx⟩
    obtain ⟨r, er⟩ : ∃ r, (sortR rows)[i]? = some r := ⟨_, List.getElem?_eq_getElem (by omega)⟩
    obtain ⟨x', hx', rx⟩ := rows_at rxs er
    rw [hx] at hx'
    obtain rfl := Option.some.inj hx'
    obtain ⟨ra, sv, xv, rfl, hra, rs, rxv⟩ := row_inv rx
    obtain ⟨sa, ss, rfl, hsa, rss, lss⟩ := play_inv rs
    have rs1 := rs.mono (kx_same s1)
    have rx1 := rxv.mono (kx_same s1)
    have hf : lkR ((sortR rows).take i) r.1 = none := fresh_take hnd er
    have lle := DR.len pe
    rw [List.length_take] at lle
    refine ⟨ra, _, rfl, (hra.same s1).sq, rfl, _, _, rfl, _, _, rfl, rfl, rfl, yes_go ⟨_, rfl, _, rfl, xs1, kyP r.1, sa, rfl, he, entR_keys pe, keyP rs1, by omega, fun o u e => ?_, ?_⟩⟩
    · rw [upd_ne (ne_of_none e nd')]
      exact s1 _ _ e
    · rw [List.take_add_one, er]
      exact DR.put (P := P) (w := w) (x := r.2) (v := xv) he pe hf rs1 rx1
  · rintro H1 ⟨s1, hD⟩
    rw [lx, List.take_length] at hD
    exact q _ _ s1 hD
def witB (rows rows2 : List Row) : Bool := (sortR rows).all fun r => decide (lkR (sortR rows2) r.1 = some r.2)
theorem eqv_none_st (s : Stp) : PyData.eqv (toPy (.at .non)) (toPy (stD s)) = false := rfl
def spWi (K : PySem.W.Frag) : Sp := fun vs H Q _ => ∃ (v v2 : V) (kd kd2 : D) (rows rows2 : List Row), vs = [v, v2] ∧ Rep K H v (stratD kd (sortR rows)) ∧ Rep K H v2 (stratD kd2 (sortR rows2)) ∧ (keysR rows2).Nodup ∧ (∀ r ∈ rows, r.2.back ≠ none) ∧ (∀ r ∈ rows2, r.2.back ≠ none) ∧ rows.length ≤ 90000 ∧ rows2.length ≤ 90000 ∧
  ∀ H', Same H H' → Q (.bl (witB rows rows2)) H'
theorem ok_wi {f f1 : Addr} {fd d1 : FuncData} (D_is_within : Df K mg "is_within" s_is_within ["strategy", "other"] f fd) (D__steps_of : Df K mg "_steps_of" s__steps_of ["strategy"] f1 d1) (B : Bt mg) : FnOk P w K mg base CX0 2 f fd ["strategy", "other"] (spWi K) := by
  have G__steps_of : FnOk P w K mg base CX0 1 f1 d1 ["strategy"] (spSO P w K) := ok_so D__steps_of B
  refine D_is_within.ok c_is_within (fun vs H Q E h => ?_) (fun cdv A outer s0 H vs Q E hr h => ?_)
  · obtain ⟨v, v2, kd, kd2, rows, rows2, rfl, _⟩ := h
    rfl
  obtain ⟨v, v2, kd, kd2, rows, rows2, rfl, rv, rv2, hnd2, hbk, hbk2, hlen, hlen2, q⟩ := h
  have nd := c_is_within.nd
  refine ⟨_, (pss_cons (ps_set (i := 2) nd rfl (Or.inr rfl) (pe_call G__steps_of (hr.mono (by first | decide | omega)) (by rfl) D__steps_of.m D__steps_of.kp D__steps_of.b .nil pass0 (pa_cons (pv 1) pa_nil)))
  (pss_one (ps_ret (pe_callB (cr_all rfl) (by rfl) B.b_all (by decide +kernel) (pa_cons (pe_lc (own := [("sight", 3), ("step", 4)]) (g := (gTup K 2 (gCons (gName 3) (gCons (gName 4) gNil)))) (tt := tYes) rfl nd (pi_tup (pe_ix ix_tup (pv 0) pe_int (fun _ _ => rfl))) (blkOk_by (own := [("sight", 3), ("step", 4)]) (N := ["strategy", "other", "other_steps", "sight", "step"]) (sc := defScope s_is_within) (by decide +kernel)) (fun _ _ _ _ _ => (pg_tup rfl (pgs_cons (pg_name (i := 3) nd rfl (Or.inl rfl)) (pgs_cons (pg_name (i := 4) nd rfl (Or.inl rfl)) pgs_nil)))) (fun _ _ _ _ _ => pts_nil) (fun _ _ _ _ _ => (pe_cmpR (show OpR _ (compareOp .Eq) (rEqD K) from op_eqD hr.units) (show PE _ _ (tDkGet1 P w K _ _) from pe_dkGet1 hr.units (pv 2) (pv 3) ⟨rfl, rfl, rfl, rfl⟩) (pv 4) (nomark _)))) pa_nil))))), ?_⟩
  obtain ⟨a, kv, b, xs, rfl, ha, rk, hb, rxs, lx⟩ := strat_inv2 rv
  have pm := sortE_perm (fun r : Row => tkD (rowD r)) rows
  have pm2 := sortE_perm (fun r : Row => tkD (rowD r)) rows2
  have h8 : (sortR rows).length = rows.length := pm.length_eq
  refine ⟨_, rfl, v2, kd2, rows2, rfl, rv2, hnd2, hlen2, fun d H1 s1 hD => ?_⟩
  refine ⟨_, rfl, a, _, 2, _, rfl, rfl, (ha.same s1).sq, rfl, b, rfl, ⟨_, (hb.same s1).sq⟩, fun l nl => ?_⟩
  refine lc_tup (K := K) (a := b) (xs := xs) (fun i H' => Same H1 H' ∧ H' l = some (.lst (((sortR rows).take i).map fun r => V.bl (decide (lkR (sortR rows2) r.1 = some r.2)))))
    ⟨same_new nl _, upd_same⟩ (fun i H' _ h => (hb.same (s1.trans h.1)).sq) ?_ ?_
  · rintro i x H2 hx ⟨s2, hl⟩
    have hi := (List.getElem?_eq_some_iff.mp hx).1
    obtain ⟨r, er⟩ : ∃ r, (sortR rows)[i]? = some r := ⟨_, List.getElem?_eq_getElem (by omega)⟩
    have mr : r ∈ rows := pm.mem_iff.mp (List.mem_of_getElem? er)
    obtain ⟨x', hx', rx⟩ := rows_at rxs er
    rw [hx] at hx'
    obtain rfl := Option.some.inj hx'
    obtain ⟨ra, sv, xv, rfl, hra, rs, rxv⟩ := row_inv rx
    obtain ⟨sa, ss, rfl, hsa, rss, lss⟩ := play_inv rs
    have s12 := s1.trans s2
    have rs1 := rs.mono (kx_same s12)
    have rx1 := rxv.mono (kx_same s12)
    obtain ⟨es, he, pe⟩ := hD.same s2
    refine ⟨ra, _, rfl, (hra.same s12).sq, rfl, _, _, rfl, _, _, rfl, rfl, rfl, yes_go ⟨_, rfl, d, es, rfl, ⟨.inl he, entR_keys pe⟩, _, rfl, sa, es, kyP r.1, rfl, ⟨.inl he, entR_keys pe⟩, keyP rs1, ?_⟩⟩
    have hrb := hbk r mr
    obtain ⟨A, z1, z2, z3⟩ : ∃ A, Dp K H2 ((atV es (kyP r.1)).getD .non) A ∧ SeqAt.shaped A = true ∧ PyData.eqv A (toPy (stD r.2)) = decide (lkR (sortR rows2) r.1 = some r.2) := by
      rcases entR_at pe r.1 with ⟨g1, g2⟩ | ⟨y, vy, g1, g2, g3⟩
      · rw [g1, g2]
        exact ⟨_, dp_noL (d := .at .non) (.at rfl) rfl, by decide, rfl⟩
      · rw [g1, g2]
        have my : y.back ≠ none := hbk2 _ (pm2.mem_iff.mp (lkR_mem g1))
        refine ⟨_, dp_st g3, shaped_st _, ?_⟩
        rw [eqv_st2 my hrb]
        exact decide_eq_decide.mpr ⟨fun e => by rw [e], fun e => Option.some.inj e⟩
    refine ⟨_, rfl, A, _, z1, dp_st rx1, z2, shaped_st _, ?_⟩
    rw [z3]
    refine ⟨_, hl, small6 (by rw [List.length_map, List.length_take]; omega), fun o u e => ?_, ?_⟩
    · rw [upd_ne (ne_of_none e nl)]
      exact s2 _ _ e
    · rw [upd_same, List.take_add_one, er, List.map_append]
      rfl
  · rintro H2 ⟨s2, hl⟩
    refine ⟨l, (sortR rows).map fun r => decide (lkR (sortR rows2) r.1 = some r.2), rfl, SqL.of ?_, ?_⟩
    · rw [hl, lx, List.take_length, List.map_map]
      rfl
    · rw [List.all_map]
      exact q _ (s1.trans s2)
end
end Pk

set_option maxRecDepth 100000
set_option maxHeartbeats 4000000
set_option pp.maxSteps 600
namespace Pk
open PySem PySem.Spec PyProof.Rows L2
/-! ### what a play tells, and what it is told by -/
theorem apart_take {pl : List Stp} {ns : List Nat} {k : Nat} (h : ∀ n ∈ ns, n < k) : apart (pl.take k) ns = apart pl ns := by
  unfold apart
  refine List.map_congr_left fun n hn => ?_
  unfold apS
  rw [List.getElem?_take_of_lt (h n hn)]
theorem legs_rows {kd : D} {rows : List Row} (hr : ∀ r ∈ rows, LegR kd r) {pl : List Stp} (h : LW kd pl) (ho : pl.length % 2 = 1) : Legs rows pl := fun x hx => by
  obtain ⟨c, p, b, e1, e2, e3, e4⟩ := hr _ (lkR_mem hx)
  have up := sight_up h.lp.wb (pl.length - 1) (by omega)
  obtain ⟨j, b', hc, ej⟩ := apart_at (fun n hn => by have := up.2 n hn; omega) e3
  exact ⟨c, j, e1, hc⟩
theorem legs_take {kd : D} {rows : List Row} (hr : ∀ r ∈ rows, LegR kd r) {pl : List Stp} (h : LW kd pl) : ∀ k, k < pl.length → k % 2 = 1 → Legs rows (pl.take k) := fun k hk ho => legs_rows hr (h.take k) (by rw [List.length_take]; omega)
def Has (rows : List Row) (pl : List Stp) : Prop := ∀ i, i < pl.length / 2 → lkR rows (toldR pl i).1 = some (toldR pl i).2
theorem own_iff {kd : D} {pl : List Stp} (hL : LW kd pl) {rows : List Row} {i : Nat} (hi : i < pl.length / 2) (hleg : Legs rows (pl.take (1 + i * 2))) :
    repl rows (pl.take (1 + i * 2)) = pl[1 + i * 2]? ↔ lkR rows (toldR pl i).1 = some (toldR pl i).2 := by
  have hk : 1 + i * 2 < pl.length := by omega
  have lk : (pl.take (1 + i * 2)).length = 1 + i * 2 := by rw [List.length_take]; omega
  have hwb := hL.lp.wb
  have up := sight_up hwb (i * 2) (by omega)
  have hsg : sgl (pl.take (1 + i * 2)) = sight pl (i * 2) := by
    unfold sgl
    rw [lk, show 1 + i * 2 - 1 = i * 2 by omega]
    exact sight_take hwb (by omega) (by omega)
  have hap : apart (pl.take (1 + i * 2)) (sight pl (i * 2)) = apart pl (sight pl (i * 2)) := apart_take fun n hn => by have := up.2 n hn; omega
  have ep : pl[1 + i * 2]? = some pl[1 + i * 2] := List.getElem?_eq_getElem hk
  generalize hs : pl[1 + i * 2] = s at ep
  obtain ⟨j, ej, _⟩ := hwb.later (1 + i * 2) s (by omega) ep
  have ebk : bk pl (1 + i * 2) = j := by
    unfold bk
    rw [ep]
    show s.back.getD 0 = j
    rw [ej]
    rfl
  have emv : mvAt pl (1 + i * 2) = s.mv := by
    unfold mvAt
    rw [ep]
    rfl
  have hjs : j ∈ sight pl (i * 2) := by
    have := hL.lp.ws (1 + i * 2) (by omega) hk
    rw [ebk, show 1 + i * 2 - 1 = i * 2 by omega] at this
    exact this
  have es : s = ⟨s.mv, some j⟩ := by rw [← ej]
  have er : repl rows (pl.take (1 + i * 2)) = (lkR rows (toldR pl i).1).map (backN (pl.take (1 + i * 2))) := by
    unfold repl toldR
    rw [hsg, hap]
  have e2 : (toldR pl i).2 = ⟨s.mv, some ((sight pl (i * 2)).idxOf j)⟩ := by
    show (⟨mvAt pl (1 + i * 2), some ((sight pl (i * 2)).idxOf (bk pl (1 + i * 2)))⟩ : Stp) = _
    rw [emv, ebk]
  have nd : (sight pl (i * 2)).Nodup := up.1.imp fun h => Nat.ne_of_lt h
  rw [er, ep, e2]
  constructor
  · intro h
    obtain ⟨x, hx, ex⟩ := Option.map_eq_some_iff.mp h
    have hleg' := hleg x
    rw [hsg, hap] at hleg'
    obtain ⟨c, j', e3, e4⟩ := hleg' hx
    have eb : backN (pl.take (1 + i * 2)) x = ⟨x.mv, some j'⟩ := by
      unfold backN
      rw [e3, hsg]
      show (⟨x.mv, some ((sight pl (i * 2)).getD c 0)⟩ : Stp) = _
      rw [List.getD_eq_getElem?_getD, e4]
      rfl
    rw [eb, es] at ex
    injection ex with ex1 ex2
    injection ex2 with ex2
    subst ex2
    obtain ⟨hc, ec⟩ := List.getElem?_eq_some_iff.mp e4
    have eix : (sight pl (i * 2)).idxOf j' = c := by
      rw [← ec]
      exact List.Nodup.idxOf_getElem nd c hc
    rw [hx, eix, ← ex1]
    congr 1
    rw [← e3]
  · intro h
    rw [h]
    show some (backN _ _) = _
    unfold backN
    rw [hsg]
    show some (⟨s.mv, some ((sight pl (i * 2)).getD ((sight pl (i * 2)).idxOf j) 0)⟩ : Stp) = _
    obtain ⟨i1, i2⟩ := idx_up up.1 hjs
    rw [List.getD_eq_getElem?_getD, i1]
    exact congrArg some es.symm
theorem flt_iff {kd : D} {pl : List Stp} (hL : LW kd pl) {rows : List Row} (hr : ∀ r ∈ rows, LegR kd r) : flt rows pl (pl.length / 2) = none ↔ Has rows pl := by
  constructor
  · intro h i hi
    have := flt_none h hi
    unfold bad at this
    exact (own_iff hL hi (legs_take hr hL _ (by omega) (by omega))).mp (of_decide_eq_true (by revert this; cases decide (repl rows (pl.take (1 + i * 2)) = pl[1 + i * 2]?) <;> intro z <;> first | rfl | cases z))
  · intro h
    unfold flt
    refine List.find?_eq_none.mpr fun i hi => ?_
    have hi := List.mem_range.mp hi
    unfold bad
    rw [decide_eq_true ((own_iff hL hi (legs_take hr hL _ (by omega) (by omega))).mpr (h i hi))]
    exact Bool.false_ne_true
theorem has_of_own {kd : D} {pl : List Stp} (hL : LW kd pl) {rows : List Row} (hr : ∀ r ∈ rows, LegR kd r) (h : OwnP rows pl) : Has rows pl := fun i hi => (own_iff hL hi (legs_take hr hL _ (by omega) (by omega))).mp (h _ (by omega) (by omega))
/-- each longer sight that is told goes on from a told row of the same play -/
theorem told_up {kd : D} {pl : List Stp} (hL : LW kd pl) {i : Nat} (h0 : 0 < i) (hi : i < pl.length / 2) : ∃ i' y, i' < i ∧ (toldR pl i).1 = (toldR pl i').1 ++ [(toldR pl i').2] ++ [y] := by
  have hwb := hL.lp.wb
  have hn0 : 0 < i * 2 := by omega
  have hnl : i * 2 < pl.length := by omega
  have hpar := hL.par (i * 2) hn0 hnl
  have hb := hwb.bk_lt hn0 hnl
  generalize hbk : bk pl (i * 2) = b at hpar hb
  obtain ⟨i', rfl⟩ : ∃ i', b = 1 + i' * 2 := ⟨b / 2, by omega⟩
  have es : sight pl (i * 2) = sight pl (i' * 2) ++ [1 + i' * 2, i * 2] := by
    rw [sight_more hwb hn0 hnl (by omega), hbk, show 1 + i' * 2 - 1 = i' * 2 by omega]
  have up := sight_up hwb (i' * 2) (by omega)
  have cl := sight_cl hwb hL.lp.ws (i' * 2) (by omega)
  have hws := hL.lp.ws (1 + i' * 2) (by omega) (by omega)
  rw [show 1 + i' * 2 - 1 = i' * 2 by omega] at hws
  refine ⟨i', apS pl (sight pl (i * 2)) (i * 2), by omega, ?_⟩
  have eS : ∀ n ∈ sight pl (i' * 2), apS pl (sight pl (i * 2)) n = apS pl (sight pl (i' * 2)) n := fun n hn => by
    unfold apS
    congr 1
    have hnl' := (cl n hn).1
    have ep : pl[n]? = some pl[n] := List.getElem?_eq_getElem hnl'
    by_cases hn0 : n = 0
    · have ef := hwb.first pl[n] (by rw [← ep, hn0])
      rw [ep, ef]
      rfl
    · have hbm := (cl n hn).2.resolve_left hn0
      obtain ⟨j, ej, _⟩ := hwb.later n _ (by omega) ep
      have ebk : bk pl n = j := by
        unfold bk
        rw [ep]
        show (pl[n]).back.getD 0 = j
        rw [ej]
        rfl
      rw [ebk] at hbm
      rw [ep]
      show (pl[n]).back.map _ = (pl[n]).back.map _
      rw [ej]
      show some ((sight pl (i * 2)).idxOf j) = some ((sight pl (i' * 2)).idxOf j)
      rw [es, List.idxOf_append, if_pos hbm]
  have ex : apS pl (sight pl (i * 2)) (1 + i' * 2) = (toldR pl i').2 := by
    have ep : pl[1 + i' * 2]? = some pl[1 + i' * 2] := List.getElem?_eq_getElem (by omega)
    obtain ⟨j, ej, _⟩ := hwb.later (1 + i' * 2) _ (by omega) ep
    have ebk : bk pl (1 + i' * 2) = j := by
      unfold bk
      rw [ep]
      show (pl[1 + i' * 2]).back.getD 0 = j
      rw [ej]
      rfl
    unfold apS toldR mvAt
    rw [ebk] at hws
    rw [ebk, ep]
    show Stp.mk (pl[1 + i' * 2]).mv ((pl[1 + i' * 2]).back.map _) = _
    rw [ej]
    show Stp.mk (pl[1 + i' * 2]).mv (some ((sight pl (i * 2)).idxOf j)) = Stp.mk (pl[1 + i' * 2]).mv (some ((sight pl (i' * 2)).idxOf j))
    rw [es, List.idxOf_append, if_pos hws]
  show apart pl (sight pl (i * 2)) = apart pl (sight pl (i' * 2)) ++ [(toldR pl i').2] ++ [_]
  rw [← ex]
  unfold apart
  rw [es, List.map_append, ← es, List.map_congr_left eS, List.append_assoc]
  rfl
end Pk

set_option maxRecDepth 100000
set_option maxHeartbeats 4000000
set_option pp.maxSteps 600
namespace Pk
open PySem PySem.Spec PyProof.Rows L2
/-! ### what is learned -/
def AtP (pls : List (List Stp)) (jn : Nat × Nat) (e : Row) : Prop := ∃ pl i, pls[jn.1]? = some pl ∧ i < pl.length / 2 ∧ jn.2 = 2 * i + 1 ∧ e = toldR pl i
structure LJ (pls : List (List Stp)) (S : Row → Prop) (st : LS) : Prop where
  rw_ : ∀ r ∈ st.rows, ∃ jn, AtP pls jn r
  al : st.due = none → ∀ e, S e → lkR st.rows e.1 = some e.2
  fs : ∀ s jn, lkF st.fst s = some jn → ∃ e, AtP pls jn e ∧ e.1 = s ∧ lkR st.rows s = some e.2
  du : ∀ a b, st.due = some (a, b) → ∃ e e', AtP pls a e ∧ AtP pls b e' ∧ e.1 = e'.1 ∧ e.2 ≠ e'.2
theorem LJ.zero (pls : List (List Stp)) : LJ pls (fun _ => False) ⟨[], [], none⟩ := ⟨fun r h => (by cases h), fun _ e h => h.elim, fun s jn h => (by cases h), fun a b h => (by cases h)⟩
theorem LJ.weak {pls : List (List Stp)} {S S' : Row → Prop} {st : LS} (h : LJ pls S st) (w : ∀ e, S' e → S e) : LJ pls S' st := ⟨h.rw_, fun d e he => h.al d e (w e he), h.fs, h.du⟩
theorem LJ.step {pls : List (List Stp)} {S : Row → Prop} {st : LS} {c : Nat} (h : LJ pls S st) (l : LI st c) {e : Row} {jn : Nat × Nat} (he : AtP pls jn e) : LJ pls (fun r => S r ∨ r = e) (lst st e jn) := by
  unfold lst
  cases hl : lkR st.rows e.1 with
  | none =>
    refine ⟨fun r hr => ?_, fun d r hr => ?_, fun s jn' hs => ?_, fun a b hd => ?_⟩
    · rcases List.mem_append.mp hr with hr | hr
      · exact h.rw_ r hr
      · rw [List.mem_singleton.mp hr]
        exact ⟨jn, he⟩
    · show lkR (st.rows ++ [e]) r.1 = _
      rw [lkR_append]
      rcases hr with hr | rfl
      · rw [h.al d r hr]
        rfl
      · rw [hl]
        exact lkR_head
    · have hs' : lkF (st.fst ++ [(e.1, jn)]) s = some jn' := hs
      rw [lkF_append] at hs'
      cases hf : lkF st.fst s with
      | some x =>
        rw [hf] at hs'
        obtain rfl := Option.some.inj (show some x = some jn' from hs')
        obtain ⟨e', a1, a2, a3⟩ := h.fs s x hf
        refine ⟨e', a1, a2, ?_⟩
        show lkR (st.rows ++ [e]) s = _
        rw [lkR_append, a3]
        rfl
      | none =>
        rw [hf] at hs'
        have hs2 : lkF [(e.1, jn)] s = some jn' := hs'
        rw [lkF_cons] at hs2
        by_cases q : e.1 = s
        · rw [if_pos q] at hs2
          obtain rfl := Option.some.inj hs2
          refine ⟨e, he, q, ?_⟩
          show lkR (st.rows ++ [e]) s = _
          rw [lkR_append, ← q, hl]
          exact lkR_head
        · rw [if_neg q] at hs2
          cases hs2
    · exact h.du a b hd
  | some x =>
    show LJ pls _ (if x = e.2 then st else _)
    by_cases q : x = e.2
    · rw [if_pos q]
      refine ⟨h.rw_, fun d r hr => ?_, h.fs, h.du⟩
      rcases hr with hr | rfl
      · exact h.al d r hr
      · rw [hl, q]
    · rw [if_neg q]
      have hF : ∃ v, lkF st.fst e.1 = some v := by
        cases hf : lkF st.fst e.1 with
        | none =>
          rw [(l.ky _).mp hf] at hl
          cases hl
        | some v => exact ⟨v, rfl⟩
      obtain ⟨v, hv⟩ := hF
      obtain ⟨e', a1, a2, a3⟩ := h.fs _ _ hv
      refine ⟨h.rw_, fun d r hr => ?_, h.fs, fun a b hd => ?_⟩
      · have d' : st.due.or (some ((lkF st.fst e.1).getD (0, 0), jn)) = none := d
        cases hd : st.due with
        | none =>
          rw [hd] at d'
          cases d'
        | some y =>
          rw [hd] at d'
          cases d'
      · have d' : st.due.or (some ((lkF st.fst e.1).getD (0, 0), jn)) = some (a, b) := hd
        cases hd2 : st.due with
        | some y =>
          rw [hd2] at d'
          have : y = (a, b) := Option.some.inj d'
          rw [this] at hd2
          exact h.du a b hd2
        | none =>
          rw [hd2, hv] at d'
          have : (v, jn) = (a, b) := Option.some.inj d'
          injection this with q1 q2
          subst q1
          subst q2
          refine ⟨e', e, a1, he, a2, fun z => q ?_⟩
          rw [hl] at a3
          rw [Option.some.inj a3, z]
theorem LJ.play {pls : List (List Stp)} {S : Row → Prop} {st : LS} {c : Nat} (h : LJ pls S st) (l : LI st c) {kd : D} {pl : List Stp} (hL : LW kd pl) {j : Nat} (hj : pls[j]? = some pl) : ∀ i, i ≤ pl.length / 2 → LJ pls (fun r => S r ∨ ∃ i', i' < i ∧ r = toldR pl i') (stP j pl st i)
  | 0, _ => h.weak fun e he => he.elim id fun ⟨i', hi, _⟩ => absurd hi (Nat.not_lt_zero _)
  | i + 1, hi => by
    have ih := LJ.play h l hL hj i (by omega)
    refine (ih.step (l.play hL j i (by omega)) (e := toldR pl i) (jn := (j, 2 * i + 1)) ⟨pl, i, hj, by omega, rfl, rfl⟩).weak fun e he => ?_
    rcases he with he | ⟨i', hi', he⟩
    · exact .inl (.inl he)
    · by_cases q : i' = i
      · subst q
        exact .inr he
      · exact .inl (.inr ⟨i', by omega, he⟩)
theorem LJ.all {kd : D} {pls : List (List Stp)} (hA : ∀ pl ∈ pls, LW kd pl ∧ pl.length ≤ 39) : ∀ j, j ≤ pls.length → LJ pls (fun r => ∃ j' pl i, j' < j ∧ pls[j']? = some pl ∧ i < pl.length / 2 ∧ r = toldR pl i) (stA pls j)
  | 0, _ => (LJ.zero pls).weak fun e ⟨j', _, _, h, _⟩ => absurd h (Nat.not_lt_zero _)
  | j + 1, hj => by
    have hp : pls[j]? = some pls[j] := List.getElem?_eq_getElem (by omega)
    obtain ⟨h1, h2⟩ := hA _ (List.mem_of_getElem? hp)
    rw [stA_succ hp]
    refine ((LJ.all hA j (by omega)).play (LI.all hA j (by omega)) h1 hp _ (Nat.le_refl _)).weak fun e ⟨j', pl, i, a1, a2, a3, a4⟩ => ?_
    by_cases q : j' = j
    · subst q
      rw [hp] at a2
      obtain rfl := Option.some.inj a2
      exact .inr ⟨i, a3, a4⟩
    · exact .inl ⟨j', pl, i, by omega, a2, a3, a4⟩
/-- no play disagrees: each has its steps among what is learned -/
theorem learn_has {kd : D} {pls : List (List Stp)} (hA : ∀ pl ∈ pls, LW kd pl ∧ pl.length ≤ 39) (hd : (stA pls pls.length).due = none) : ∀ pl ∈ pls, Has (stA pls pls.length).rows pl := fun pl hpl i hi => by
  obtain ⟨j, hj⟩ := List.mem_iff_getElem?.mp hpl
  exact (LJ.all hA _ (Nat.le_refl _)).al hd _ ⟨j, pl, i, (List.getElem?_eq_some_iff.mp hj).1, hj, hi, rfl⟩
theorem learn_row {kd : D} {pls : List (List Stp)} (hA : ∀ pl ∈ pls, LW kd pl ∧ pl.length ≤ 39) : ∀ r ∈ (stA pls pls.length).rows, ∃ pl ∈ pls, ∃ i, i < pl.length / 2 ∧ r = toldR pl i := fun r hr => by
  obtain ⟨jn, pl, i, h1, h2, _, h3⟩ := (LJ.all hA _ (Nat.le_refl _)).rw_ r hr
  exact ⟨pl, List.mem_of_getElem? h1, i, h2, h3⟩
theorem learn_due {kd : D} {pls : List (List Stp)} (hA : ∀ pl ∈ pls, LW kd pl ∧ pl.length ≤ 39) {a b : Nat × Nat} (hd : (stA pls pls.length).due = some (a, b)) : ∃ e e', AtP pls a e ∧ AtP pls b e' ∧ e.1 = e'.1 ∧ e.2 ≠ e'.2 := (LJ.all hA _ (Nat.le_refl _)).du a b hd
/-- the plays of one program agree -/
theorem learn_one {kd : D} {pls : List (List Stp)} (hA : ∀ pl ∈ pls, LW kd pl ∧ pl.length ≤ 39) {rows : List Row} (hh : ∀ pl ∈ pls, Has rows pl) : (stA pls pls.length).due = none := by
  cases hd : (stA pls pls.length).due with
  | none => rfl
  | some d =>
    obtain ⟨e, e', ⟨p1, i1, a1, a2, _, rfl⟩, ⟨p2, i2, b1, b2, _, rfl⟩, h1, h2⟩ := learn_due hA (a := d.1) (b := d.2) hd
    have q1 := hh p1 (List.mem_of_getElem? a1) i1 a2
    have q2 := hh p2 (List.mem_of_getElem? b1) i2 b2
    rw [h1, q2] at q1
    exact absurd (Option.some.inj q1).symm h2
/-- what is learned is within another strategy just if it has all the plays -/
theorem within_iff {kd : D} {pls : List (List Stp)} (hA : ∀ pl ∈ pls, LW kd pl ∧ pl.length ≤ 39) (hd : (stA pls pls.length).due = none) (rows : List Row) : (∀ r ∈ (stA pls pls.length).rows, lkR rows r.1 = some r.2) ↔ ∀ pl ∈ pls, Has rows pl := by
  constructor
  · intro h pl hpl i hi
    have := learn_has hA hd pl hpl i hi
    exact h _ (lkR_mem this)
  · intro h r hr
    obtain ⟨pl, hpl, i, hi, rfl⟩ := learn_row hA r hr
    exact h pl hpl i hi
end Pk

set_option maxRecDepth 100000
set_option maxHeartbeats 4000000
set_option pp.maxSteps 600
namespace Pk
open PySem PySem.Spec PyProof.Rows L2
/-! ### the program whose rows are learned -/
theorem clo_at {kd : D} {rows : List Row} (h : SQ kd rows) : ∀ (n : Nat), ∀ e ∈ rows, e.1.length ≤ n → ∀ s : List Stp, s.length % 2 = 1 → s <+: e.1 → s ≠ e.1 → ∃ x y, (s, x) ∈ rows ∧ s ++ [x] ++ [y] <+: e.1 := by
  intro n
  induction n with
  | zero =>
    intro e he hl
    have := (h.rq e he).odd
    omega
  | succ n ih =>
    intro e he hl s hs hp hne
    have hodd := (h.rq e he).odd
    have hlt : s.length < e.1.length := by
      rcases Nat.lt_or_ge s.length e.1.length with q | q
      · exact q
      · exact absurd (hp.eq_of_length_le q) hne
    rcases h.up e he with h1 | ⟨u, x, y, eu, mu⟩
    · omega
    · have hu : u <+: e.1 := by
        rw [eu, List.append_assoc]
        exact List.prefix_append _ _
      have lu : e.1.length = u.length + 1 + 1 := by rw [eu, len_sn, len_sn]
      have hsu : s <+: u := List.prefix_of_prefix_length_le hp hu (by omega)
      by_cases q : s = u
      · subst q
        exact ⟨x, y, mu, by rw [← eu]; exact List.prefix_refl _⟩
      · obtain ⟨x', y', h1, h2⟩ := ih (u, x) mu (by show u.length ≤ n; omega) s hs hsu q
        exact ⟨x', y', h1, h2.trans hu⟩
theorem clo_next {kd : D} (hk : isK kd = true) {rows : List Row} (h : SQ kd rows) {e : Row} (he : e ∈ rows) {s : List Stp} {x y : Stp} (hs : s.length % 2 = 1) (hx : (s, x) ∈ rows) (hp : s ++ [x] ++ [y] <+: e.1) :
    ∃ p, x.mv = .ask p ∧ ((∃ v, v ≤ 1 ∧ y = ⟨.say v, some s.length⟩) ∨ ∃ i d, atD kd (p ++ [i]) = some d ∧ y = ⟨.ask (p ++ [i]), some s.length⟩) := by
  have hq := h.rq e he
  have hlen := hp.length_le
  rw [len_sn, len_sn] at hlen
  have hy : e.1[s.length + 1]? = some y := by
    obtain ⟨r, er⟩ := hp
    rw [← er, List.getElem?_append_left (by rw [len_sn, len_sn]; omega), ← len_sn s x]
    exact last_sn
  have ht : e.1.take (s.length + 1) = s ++ [x] := by
    obtain ⟨r, er⟩ := hp
    rw [← er, List.append_assoc, ← len_sn s x]
    exact List.take_left
  have hr := hq.lq.rs _ _ hy
  rw [ht] at hr
  obtain ⟨hlg, hsh⟩ := (mem_rows hk).mp ((lawR_mem (by simp)).mp hr)
  obtain ⟨j, ej, _⟩ := hq.lq.lp.wb.later _ y (by omega) hy
  have hev := hq.ev (s.length + 1) (by omega) (by omega) (by omega)
  have ebk : bk e.1 (s.length + 1) = j := by
    unfold bk
    rw [hy]
    show y.back.getD 0 = j
    rw [ej]
    rfl
  have ejs : j = s.length := by omega
  subst ejs
  have hpl : ∀ q, askPl (s ++ [x]) s.length = some q → x.mv = .ask q := fun q hq' => by
    unfold askPl at hq'
    rw [last_sn] at hq'
    obtain ⟨m, b⟩ := x
    cases m with
    | say v => cases hq'
    | ask p =>
      have : p = q := Option.some.inj hq'
      rw [this]
  obtain ⟨m, b⟩ := y
  have eb : b = some s.length := ej
  subst eb
  cases m with
  | say v =>
    obtain ⟨j, q, e1, _, e3, _⟩ := lg_say.mp hlg
    obtain rfl := Option.some.inj e1
    exact ⟨q, hpl q e3, .inl ⟨v, hsh v rfl, rfl⟩⟩
  | ask r =>
    obtain ⟨j, q, k, e1, _, e3, e4, rfl, _⟩ := (lg_ask hk).mp hlg
    obtain rfl := Option.some.inj e1
    obtain ⟨d, hd⟩ := Option.isSome_iff_exists.mp ((kids_at hk).mp e4)
    exact ⟨q, hpl q e3, .inr ⟨k, d, hd, rfl⟩⟩
def bdPs (b : Nat → D → T) : List D → Nat → List T
  | [], _ => []
  | d :: ds, i => .prog (args d).length (b i d) :: bdPs b ds (i + 1)
theorem bdPs_wf {ks : List D} {b : Nat → D → T} : ∀ (ds : List D) (i : Nat), (∀ j d, ds[j]? = some d → wfB (d :: ks) (b (i + j) d) = true) → wfPs ks ds (bdPs b ds i) = true
  | [], _, _ => rfl
  | d :: ds, i, h => by
    show ((decide ((args d).length = (args d).length) && wfB (d :: ks) (b i d)) && wfPs ks ds (bdPs b ds (i + 1))) = true
    rw [decide_eq_true rfl, show wfB (d :: ks) (b i d) = true from h 0 d rfl, bdPs_wf ds (i + 1) fun j d' hd => by
      have := h (j + 1) d' hd
      rw [show i + (j + 1) = i + 1 + j by omega] at this
      exact this]
    rfl
theorem bdPs_rows {b : Nat → D → T} {p : List Nat} {l : List Stp} {n : Nat} {cs : List Nat} {e : Row} : ∀ (ds : List D) (i : Nat), e ∈ rowsPs (bdPs b ds i) p l n cs i ↔ ∃ j d, ds[j]? = some d ∧ e ∈ rowsB (b (i + j) d) (l ++ [⟨.ask (p ++ [i + j]), some n⟩]) ((n + 1) :: cs)
  | [], i => ⟨fun h => (by cases h), fun ⟨j, d, h, _⟩ => (by cases h)⟩
  | d :: ds, i => by
    have ih := bdPs_rows (b := b) (p := p) (l := l) (n := n) (cs := cs) (e := e) ds (i + 1)
    show e ∈ rowsB (b i d) (l ++ [⟨.ask (p ++ [i]), some n⟩]) ((n + 1) :: cs) ++ rowsPs (bdPs b ds (i + 1)) p l n cs (i + 1) ↔ _
    rw [List.mem_append, ih]
    constructor
    · rintro (h | ⟨j, d', h1, h2⟩)
      · exact ⟨0, d, rfl, h⟩
      · refine ⟨j + 1, d', h1, ?_⟩
        rw [show i + (j + 1) = i + 1 + j by omega]
        exact h2
    · rintro ⟨j, d', h1, h2⟩
      cases j with
      | zero =>
        obtain rfl := Option.some.inj (show some d = some d' from h1)
        exact .inl h2
      | succ j =>
        rw [show i + (j + 1) = i + 1 + j by omega] at h2
        exact .inr ⟨j, d', h1, h2⟩
/-- the body behind a sight, as the rows tell it -/
def bdB (rows : List Row) : Nat → List D → List Stp → List Nat → T
  | 0, _, _, _ => .stop
  | f + 1, ks, s, cs => match lkR rows s with
    | none => .stop
    | some ⟨.say v, _⟩ => .say v
    | some ⟨.ask p, b⟩ =>
      .ask (cs.idxOf (b.getD 0)) (p.getLast?.getD 0)
        (bdPs (fun i d => bdB rows f (d :: ks) (s ++ [⟨.ask p, b⟩] ++ [⟨.ask (p ++ [i]), some s.length⟩]) ((s.length + 1) :: cs)) (args (kdAt ks (cs.idxOf (b.getD 0)) (p.getLast?.getD 0))) 0)
        (bdB rows f ks (s ++ [⟨.ask p, b⟩] ++ [⟨.say 0, some s.length⟩]) cs) (bdB rows f ks (s ++ [⟨.ask p, b⟩] ++ [⟨.say 1, some s.length⟩]) cs)
structure BI (kd : D) (ks : List D) (s : List Stp) (cs : List Nat) : Prop where
  vq : VQ kd s cs
  ik : InK kd ks s cs
  ne : cs ≠ []
  kk : KsK ks
  all : ∀ c p b, c % 2 = 0 → s[c]? = some (Stp.mk (.ask p) b) → c ∈ cs
theorem all_two {s : List Stp} {cs : List Nat} (hs : s.length % 2 = 1) (h : ∀ c p b, c % 2 = 0 → s[c]? = some (Stp.mk (.ask p) b) → c ∈ cs) (x y : Stp) {c : Nat} {p : List Nat} {b : Option Nat} (hc : c % 2 = 0) (e : (s ++ [x] ++ [y])[c]? = some (Stp.mk (.ask p) b)) : c ∈ cs ∨ (c = s.length + 1 ∧ y.mv = .ask p) := by
  by_cases h1 : c < s.length
  · rw [List.append_assoc, List.getElem?_append_left h1] at e
    exact .inl (h c p b hc e)
  · have h2 := (List.getElem?_eq_some_iff.mp e).1
    rw [len_sn, len_sn] at h2
    have h3 : c = s.length + 1 := by omega
    subst h3
    rw [← len_sn s x, last_sn] at e
    exact .inr ⟨rfl, by rw [Option.some.inj e]⟩
theorem BI.say {kd : D} (hk : isK kd = true) {ks : List D} {s : List Stp} {cs : List Nat} (h : BI kd ks s cs) {p : List Nat} {c : Nat} (lx : lgB kd s (opens s s.length) ⟨.ask p, some c⟩ = true) (hl : s.length + 2 ≤ 40) {v : Nat} (hv : v ≤ 1) : BI kd ks (s ++ [⟨.ask p, some c⟩] ++ [⟨.say v, some s.length⟩]) cs :=
  ⟨h.vq.say hk rfl lx hl hv, h.ik.two _ _, h.ne, h.kk, fun c' q b hc e => (all_two h.vq.odd h.all _ _ hc e).elim id fun z => nomatch z.2⟩
theorem BI.arg {kd : D} (hk : isK kd = true) {ks : List D} {s : List Stp} {cs : List Nat} (h : BI kd ks s cs) {p : List Nat} {c i : Nat} {d : D} (lx : lgB kd s (opens s s.length) ⟨.ask p, some c⟩ = true) (hl : s.length + 2 ≤ 40) (hd : atD kd (p ++ [i]) = some d) (hkd : isK d = true ∧ sz d ≤ 60) :
    BI kd (d :: ks) (s ++ [⟨.ask p, some c⟩] ++ [⟨.ask (p ++ [i]), some s.length⟩]) ((s.length + 1) :: cs) :=
  ⟨h.vq.arg hk rfl lx hl hd, h.ik.more h.vq.odd _ hd _, List.cons_ne_nil _ _, h.kk.cons hkd, fun c' q b hc e => (all_two h.vq.odd h.all _ _ hc e).elim (List.mem_cons_of_mem _) fun z => by rw [z.1]; exact List.mem_cons_self ..⟩
theorem bd_ok {kd : D} (hk : isK kd = true) {rows : List Row} (h : SQ kd rows) (hl : ∀ e ∈ rows, e.1.length ≤ 37) : ∀ (f : Nat) (ks : List D) (s : List Stp) (cs : List Nat), BI kd ks s cs → (∀ e ∈ rows, s <+: e.1 → e.1.length < s.length + 2 * f) →
    wfB ks (bdB rows f ks s cs) = true ∧ ∀ e, e ∈ rowsB (bdB rows f ks s cs) s cs ↔ e ∈ rows ∧ s <+: e.1
  | 0, ks, s, cs, _, hf => by
    refine ⟨rfl, fun e => ⟨fun he => (by cases he), fun hh => ?_⟩⟩
    have h3 := hf e hh.1 hh.2
    have h4 := hh.2.length_le
    omega
  | f + 1, ks, s, cs, hb, hf => by
    have hodd := hb.vq.odd
    -- a row behind the sight
    have row : ∀ e ∈ rows, s <+: e.1 → (∃ x, lkR rows s = some x ∧ e = (s, x)) ∨ ∃ x y, lkR rows s = some x ∧ (s, x) ∈ rows ∧ s ++ [x] ++ [y] <+: e.1 := fun e he hp => by
      by_cases q : s = e.1
      · refine .inl ⟨e.2, ?_, ?_⟩
        · rw [q]
          exact lkR_some h.nd he
        · rw [q]
      · obtain ⟨x, y, h1, h2⟩ := clo_at h _ e he (Nat.le_refl _) s hodd hp q
        exact .inr ⟨x, y, lkR_some h.nd h1, h1, h2⟩
    unfold bdB
    cases hx : lkR rows s with
    | none =>
      refine ⟨rfl, fun e => ⟨fun he => (by cases he), fun ⟨h1, h2⟩ => ?_⟩⟩
      rcases row e h1 h2 with ⟨x, q, _⟩ | ⟨x, y, q, _⟩
      · rw [hx] at q
        cases q
      · rw [hx] at q
        cases q
    | some x =>
      have mx := lkR_mem hx
      have hq := h.rq _ mx
      have hlg : lgB kd s (opens s s.length) x = true := hq.lg
      obtain ⟨m, b⟩ := x
      cases m with
      | say v =>
        obtain ⟨j, q, e1, _, _, e4, _⟩ := lg_say.mp hlg
        subst e1
        have hj : j = cs.getD 0 0 := Option.some.inj (e4.symm.trans hb.vq.last)
        have hv : v ≤ 1 := hq.sh v rfl
        refine ⟨decide_eq_true (show v < 2 by omega), fun e => ⟨fun he => ?_, fun ⟨h1, h2⟩ => ?_⟩⟩
        · rw [List.mem_singleton.mp he, ← hj]
          exact ⟨mx, List.prefix_refl s⟩
        · rcases row e h1 h2 with ⟨x, q1, q2⟩ | ⟨x, y, q1, q2, q3⟩
          · rw [hx] at q1
            rw [q2, ← Option.some.inj q1, hj]
            exact List.mem_singleton.mpr rfl
          · rw [hx] at q1
            have := Option.some.inj q1
            subst this
            obtain ⟨p, hp, _⟩ := clo_next hk h h1 hodd q2 q3
            cases hp
      | ask p =>
        obtain ⟨c, q, k, e1, e2, e3, e4, e5, e6⟩ := (lg_ask hk).mp hlg
        subst e1
        subst e5
        have up := sight_up hb.vq.lq.lp.wb (s.length - 1) (by omega)
        have hcl : c < s.length := by have := up.2 c e6; omega
        obtain ⟨b', hsc⟩ : ∃ b', s[c]? = some (Stp.mk (.ask q) b') := by
          unfold askPl at e3
          cases hc : s[c]? with
          | none =>
            rw [hc] at e3
            cases e3
          | some t =>
            rw [hc] at e3
            obtain ⟨m, bb⟩ := t
            cases m with
            | say v => cases e3
            | ask r =>
              have : r = q := Option.some.inj e3
              rw [this]
              exact ⟨bb, rfl⟩
        have hcm : c ∈ cs := hb.all c q b' (by omega) hsc
        have hix := List.idxOf_lt_length_of_mem hcm
        have hci : cs[cs.idxOf c]? = some c := by rw [List.getElem?_eq_getElem hix, List.getElem_idxOf hix]
        obtain ⟨kd', hkd'⟩ : ∃ kd', ks[cs.idxOf c]? = some kd' := ⟨_, List.getElem?_eq_getElem (by rw [← hb.ik.l]; exact hix)⟩
        have hat := hb.ik.k _ _ _ hci hkd'
        rw [plc_at hsc] at hat
        obtain ⟨a, hak⟩ : ∃ a, (args kd')[k]? = some a := by
          unfold kids at e4
          rw [hat] at e4
          cases kd' with
          | «at» _ => exact absurd e4 (Nat.not_lt_zero _)
          | lst => exact absurd e4 (Nat.not_lt_zero _)
          | tup ts => exact ⟨_, List.getElem?_eq_getElem e4⟩
        have hat2 : atD kd (q ++ [k]) = some a := arg_at hat hak
        have eup : (some c : Option Nat).getD 0 = c := rfl
        have ek : (q ++ [k]).getLast?.getD 0 = k := by rw [List.getLast?_concat]; rfl
        have egd : cs.getD (cs.idxOf c) 0 = c := by rw [List.getD_eq_getElem?_getD, hci]; rfl
        have ex : asK s (cs.getD (cs.idxOf c) 0) k = ⟨.ask (q ++ [k]), some c⟩ := by
          unfold asK
          rw [egd, plc_at hsc]
        have hsl : s.length ≤ 37 := hl _ mx
        have haK := hb.kk.at hkd' hak
        have fuel : ∀ y : Stp, ∀ e ∈ rows, s ++ [⟨.ask (q ++ [k]), some c⟩] ++ [y] <+: e.1 → e.1.length < (s ++ [(⟨.ask (q ++ [k]), some c⟩ : Stp)] ++ [y]).length + 2 * f := fun y e he hp => by
          have := hf e he (pre_snoc (pre_snoc hp))
          rw [len_sn, len_sn]
          omega
        have z := bd_ok hk h hl f ks _ _ (hb.say hk hlg (by omega) (v := 0) (by omega)) (fuel _)
        have o := bd_ok hk h hl f ks _ _ (hb.say hk hlg (by omega) (v := 1) (by omega)) (fuel _)
        have g := fun (i : Nat) (d : D) (hd : (args a)[i]? = some d) => bd_ok hk h hl f (d :: ks) _ _ (hb.arg hk hlg (by omega) (arg_at hat2 hd) (KM.sub (M := 60) haK hd)) (fuel _)
        show wfB ks (.ask (cs.idxOf c) ((q ++ [k]).getLast?.getD 0) (bdPs _ (args (kdAt ks (cs.idxOf c) ((q ++ [k]).getLast?.getD 0))) 0) _ _) = true ∧ ∀ e, e ∈ rowsB (.ask (cs.idxOf c) ((q ++ [k]).getLast?.getD 0) (bdPs _ (args (kdAt ks (cs.idxOf c) ((q ++ [k]).getLast?.getD 0))) 0) _ _) s cs ↔ _
        rw [ek, kdAt_eq hkd' hak]
        constructor
        · show ((match ks[cs.idxOf c]? with
            | some kd => (match (args kd)[k]? with
              | some a => wfPs ks (args a) _
              | none => false)
            | none => false) && (wfB ks _ && wfB ks _)) = true
          rw [hkd']
          show ((match (args kd')[k]? with
              | some a => wfPs ks (args a) _
              | none => false) && (wfB ks _ && wfB ks _)) = true
          rw [hak]
          show (wfPs ks (args a) _ && (wfB ks _ && wfB ks _)) = true
          rw [z.1, o.1, bdPs_wf (args a) 0 fun j d hd => by rw [Nat.zero_add]; exact (g j d hd).1]
          rfl
        · intro e
          have e0 : ∀ as zt ot, e ∈ rowsB (.ask (cs.idxOf c) k as zt ot) s cs ↔ e = (s, ⟨.ask (q ++ [k]), some c⟩) ∨ e ∈ rowsB zt (s ++ [⟨.ask (q ++ [k]), some c⟩] ++ [⟨.say 0, some s.length⟩]) cs ∨ e ∈ rowsB ot (s ++ [⟨.ask (q ++ [k]), some c⟩] ++ [⟨.say 1, some s.length⟩]) cs ∨ e ∈ rowsPs as (q ++ [k]) (s ++ [⟨.ask (q ++ [k]), some c⟩]) s.length cs 0 := fun as zt ot => by
            show e ∈ (s, asK s (cs.getD (cs.idxOf c) 0) k) :: (rowsB zt (s ++ [asK s (cs.getD (cs.idxOf c) 0) k] ++ [⟨.say 0, some s.length⟩]) cs ++ (rowsB ot (s ++ [asK s (cs.getD (cs.idxOf c) 0) k] ++ [⟨.say 1, some s.length⟩]) cs ++
              rowsPs as (plc s (cs.getD (cs.idxOf c) 0) ++ [k]) (s ++ [asK s (cs.getD (cs.idxOf c) 0) k]) s.length cs 0)) ↔ _
            rw [ex, egd, plc_at hsc, List.mem_cons, List.mem_append, List.mem_append]
          rw [e0, z.2, o.2, bdPs_rows]
          constructor
          · rintro (rfl | ⟨h1, h2⟩ | ⟨h1, h2⟩ | ⟨j, d, h1, h2⟩)
            · exact ⟨mx, List.prefix_refl s⟩
            · exact ⟨h1, pre_snoc (pre_snoc h2)⟩
            · exact ⟨h1, pre_snoc (pre_snoc h2)⟩
            · rw [Nat.zero_add] at h2
              obtain ⟨h3, h4⟩ := (g j d h1).2 e |>.mp h2
              exact ⟨h3, pre_snoc (pre_snoc h4)⟩
          · rintro ⟨h1, h2⟩
            rcases row e h1 h2 with ⟨x, q1, q2⟩ | ⟨x, y, q1, q2, q3⟩
            · rw [hx] at q1
              rw [q2, ← Option.some.inj q1]
              exact .inl rfl
            · rw [hx] at q1
              have := Option.some.inj q1
              subst this
              obtain ⟨p, hp, hy⟩ := clo_next hk h h1 hodd q2 q3
              injection hp with hp
              subst hp
              rcases hy with ⟨v, hv, rfl⟩ | ⟨i, d, hd, rfl⟩
              · have : v = 0 ∨ v = 1 := by omega
                rcases this with rfl | rfl
                · exact .inr (.inl ⟨h1, q3⟩)
                · exact .inr (.inr (.inl ⟨h1, q3⟩))
              · have hdi : (args a)[i]? = some d := by
                  have hki := (kids_at hk).mpr (show (atD kd (q ++ [k] ++ [i])).isSome = true by rw [hd]; rfl)
                  unfold kids at hki
                  rw [hat2] at hki
                  cases a with
                  | «at» _ => exact absurd hki (Nat.not_lt_zero _)
                  | lst => exact absurd hki (Nat.not_lt_zero _)
                  | tup ts =>
                    have e1 := List.getElem?_eq_getElem (show i < ts.length from hki)
                    have e2 := atD_snoc _ kd ts i _ hat2 e1
                    rw [hd] at e2
                    show ts[i]? = some d
                    rw [e1, ← Option.some.inj e2]
                refine .inr (.inr (.inr ⟨i, d, hdi, ?_⟩))
                rw [Nat.zero_add]
                exact (g i d hdi).2 e |>.mpr ⟨h1, q3⟩
end Pk

set_option maxRecDepth 100000
set_option maxHeartbeats 4000000
set_option pp.maxSteps 600
namespace Pk
open PySem PySem.Spec PyProof.Rows L2
mutual
theorem nasks_rows : ∀ (t : T) (ks : List D) (s : List Stp) (cs : List Nat), wfB ks t = true → nasks t ≤ (rowsB t s cs).length
  | .say _, _, _, _, _ => Nat.zero_le _
  | .stop, _, _, _, _ => Nat.zero_le _
  | .prog _ _, _, _, _, h => by cases h
  | .ask up k as z o, ks, s, cs, h => by
    obtain ⟨kd', a, e1, e2, w1, w2, w3⟩ := wfB_ask h
    have h1 := nasks_rows z ks (s ++ [asK s (cs.getD up 0) k] ++ [⟨.say 0, some s.length⟩]) cs w2
    have h2 := nasks_rows o ks (s ++ [asK s (cs.getD up 0) k] ++ [⟨.say 1, some s.length⟩]) cs w3
    have h3 := nasks_rowsPs as ks (args a) (plc s (cs.getD up 0) ++ [k]) (s ++ [asK s (cs.getD up 0) k]) s.length cs 0 w1
    show 1 + (nasksL as + (nasks z + nasks o)) ≤ ((s, asK s (cs.getD up 0) k) :: (rowsB z _ cs ++ (rowsB o _ cs ++ rowsPs as _ _ _ cs 0))).length
    rw [List.length_cons, List.length_append, List.length_append]
    omega
theorem nasks_rowsPs : ∀ (ts : List T) (ks ds : List D) (p : List Nat) (l : List Stp) (n : Nat) (cs : List Nat) (i : Nat), wfPs ks ds ts = true → nasksL ts ≤ (rowsPs ts p l n cs i).length
  | [], _, _, _, _, _, _, _, _ => Nat.zero_le _
  | t :: ts, ks, ds, p, l, n, cs, i, h => by
    obtain ⟨d, ds', rfl, w1, w2⟩ := wfPs_cons h
    obtain ⟨m, b, rfl, em, w3⟩ := wfP_inv w1
    have h1 := nasks_rows b (d :: ks) (l ++ [⟨.ask (p ++ [i]), some n⟩]) ((n + 1) :: cs) w3
    have h2 := nasks_rowsPs ts ks ds' p l n cs (i + 1) w2
    show nasks b + nasksL ts ≤ (rowsB b (l ++ [⟨.ask (p ++ [i]), some n⟩]) ((n + 1) :: cs) ++ rowsPs ts p l n cs (i + 1)).length
    rw [List.length_append]
    omega
end
theorem nodup_of_keys {rows : List Row} (h : (keysR rows).Nodup) : rows.Nodup := (List.pairwise_map.mp h).imp fun h e => h (congrArg Prod.fst e)
theorem bi_beg {kd : D} (hk : isK kd = true ∧ sz kd ≤ 60) : BI kd [kd] [BEG] [0] := by
  refine ⟨VQ.beg hk.1, ⟨rfl, fun c m => ?_, fun c m => ?_, fun i c k e1 e2 => ?_⟩, List.cons_ne_nil _ _, fun k hm => by rw [List.mem_singleton.mp hm]; exact hk, fun c p b hc e => ?_⟩
  · rw [List.mem_singleton.mp m]
    exact ⟨[], none, rfl⟩
  · rw [List.mem_singleton.mp m]
  · cases i with
    | zero =>
      have e1' : 0 = c := Option.some.inj e1
      have e2' : kd = k := Option.some.inj e2
      rw [← e1', ← e2']
      exact atD_nil kd
    | succ i => cases e1
  · have h1 : c < 1 := (List.getElem?_eq_some_iff.mp e).1
    rw [show c = 0 by omega]
    exact List.mem_singleton.mpr rfl
/-- rows such as these are those of a program -/
theorem built {kd : D} {rows : List Row} (h : SQ kd rows) (hl : ∀ e ∈ rows, e.1.length ≤ 37) (hn : rows.length ≤ 18) : ∃ t : T, wfP [] kd t = true ∧ nasks t ≤ 18 ∧ szT (progB t) ≤ 90000 ∧ sortR (rowsT t) = sortR rows := by
  obtain ⟨w, m⟩ := bd_ok h.kk.1 h hl 20 [kd] [BEG] [0] (bi_beg h.kk) (fun e he _ => by
    have := hl e he
    show e.1.length < 1 + 40
    omega)
  generalize hb : bdB rows 20 [kd] [BEG] [0] = b at w m
  have hw : wfP [] kd (.prog (args kd).length b) = true := by
    show (decide ((args kd).length = (args kd).length) && wfB [kd] b) = true
    rw [decide_eq_true rfl, w]
    rfl
  have mem : ∀ e, e ∈ rowsT (.prog (args kd).length b) ↔ e ∈ rows := fun e => by
    refine (m e).trans ⟨fun q => q.1, fun q => ⟨q, ?_⟩⟩
    have hq := h.rq e q
    have ho := hq.odd
    obtain ⟨s, x⟩ := e
    cases s with
    | nil => cases ho
    | cons y s =>
      have : y = BEG := hq.lq.lp.wb.first y rfl
      rw [this]
      exact ⟨s, rfl⟩
  have pm : (rowsT (.prog (args kd).length b)).Perm rows := (List.perm_ext_iff_of_nodup (nodup_of_keys (rowsB_nodup _ _ _)) (nodup_of_keys h.nd)).mpr mem
  have hnk : nasks (.prog (args kd).length b) ≤ 18 := by
    have h1 := nasks_rows b [kd] [BEG] [0] w
    have h2 : (rowsB b [BEG] [0]).length = rows.length := pm.length_eq
    show nasks b ≤ 18
    omega
  refine ⟨_, hw, hnk, ?_, sortR_perm pm (rowsT_ok hw)⟩
  have := szT_prog (M := 60) hw h.kk
  rw [szT_progB]
  omega
theorem LI.all6 {kd : D} {pls : List (List Stp)} (hA : ∀ pl ∈ pls, LW kd pl ∧ pl.length ≤ 12) : ∀ j, j ≤ pls.length → LI (stA pls j) (6 * j)
  | 0, _ => LI.zero
  | j + 1, hj => by
    have hp : pls[j]? = some pls[j] := List.getElem?_eq_getElem (by omega)
    obtain ⟨h1, h2⟩ := hA _ (List.mem_of_getElem? hp)
    rw [stA_succ hp]
    have h3 := (LI.all6 hA j (by omega)).play h1 j (pls[j].length / 2) (Nat.le_refl _)
    exact ⟨h3.nd, h3.ok, h3.ky, Nat.le_trans h3.len (by omega), Nat.le_trans h3.lenF (by omega)⟩
/-- what is learned of plays of programs is what a strategy's rows are asked -/
structure PlaysOf (kd : D) (pls : List (List Stp)) : Prop where
  lw : ∀ pl ∈ pls, LW kd pl ∧ pl.length ≤ 12
  few : pls.length ≤ 3
  own : ∀ pl ∈ pls, ∃ t, wfP [] kd t = true ∧ nasks t ≤ 5 ∧ Has (rowsT t) pl
theorem PlaysOf.lw9 {kd : D} {pls : List (List Stp)} (h : PlaysOf kd pls) : ∀ pl ∈ pls, LW kd pl ∧ pl.length ≤ 39 := fun pl hp => ⟨(h.lw pl hp).1, by have := (h.lw pl hp).2; omega⟩
theorem learn_in {kd : D} {pls : List (List Stp)} (h : PlaysOf kd pls) : ∀ r ∈ (stA pls pls.length).rows, ∃ t, wfP [] kd t = true ∧ nasks t ≤ 5 ∧ r ∈ rowsT t := fun r hr => by
  obtain ⟨pl, hp, i, hi, rfl⟩ := learn_row h.lw9 r hr
  obtain ⟨t, h1, h2, h3⟩ := h.own pl hp
  exact ⟨t, h1, h2, lkR_mem (h3 i hi)⟩
theorem learn_len {kd : D} {pls : List (List Stp)} (h : PlaysOf kd pls) : (stA pls pls.length).rows.length ≤ 18 := by
  have h1 := (LI.all6 h.lw _ (Nat.le_refl _)).len
  have h2 := h.few
  omega
theorem learn_leg {kd : D} {pls : List (List Stp)} (h : PlaysOf kd pls) : ∀ r ∈ (stA pls pls.length).rows, LegR kd r := fun r hr => by
  obtain ⟨t, h1, _, h3⟩ := learn_in h r hr
  exact rowsT_leg h1 r h3
theorem learn_sq {kd : D} (hk : isK kd = true ∧ sz kd ≤ 60) {pls : List (List Stp)} (h : PlaysOf kd pls) (hd : (stA pls pls.length).due = none) : SQ kd (stA pls pls.length).rows := by
  have l := LI.all6 h.lw _ (Nat.le_refl _)
  refine ⟨hk, l.nd, l.ok, fun r hr => ?_, fun r hr => ?_, Nat.le_trans (learn_len h) (by decide)⟩
  · obtain ⟨t, h1, h2, h3⟩ := learn_in h r hr
    exact rowsT_rq hk.1 h1 (by omega) r h3
  · obtain ⟨pl, hp, i, hi, rfl⟩ := learn_row h.lw9 r hr
    by_cases h0 : i = 0
    · subst h0
      refine .inl ?_
      show (apart pl (sight pl (0 * 2))).length = 1
      unfold apart
      rw [Nat.zero_mul, List.length_map, sight_zero]
      rfl
    · obtain ⟨i', y, h1, h2⟩ := told_up (h.lw pl hp).1 (by omega) hi
      exact .inr ⟨_, _, y, h2, lkR_mem (learn_has h.lw9 hd pl hp i' (by omega))⟩
theorem learn_short {kd : D} {pls : List (List Stp)} (h : PlaysOf kd pls) : ∀ r ∈ (stA pls pls.length).rows, r.1.length ≤ 37 := fun r hr => by
  obtain ⟨pl, hp, i, hi, rfl⟩ := learn_row h.lw9 r hr
  obtain ⟨h1, h2⟩ := h.lw pl hp
  have := sight_len h1.lp.wb (i * 2) (by omega)
  show (apart pl (sight pl (i * 2))).length ≤ 37
  unfold apart
  rw [List.length_map]
  omega
theorem learn_built {kd : D} (hk : isK kd = true ∧ sz kd ≤ 60) {pls : List (List Stp)} (h : PlaysOf kd pls) (hd : (stA pls pls.length).due = none) : ∃ t : T, wfP [] kd t = true ∧ nasks t ≤ 18 ∧ szT (progB t) ≤ 90000 ∧ sortR (rowsT t) = sortR (stA pls pls.length).rows := built (learn_sq hk h hd) (learn_short h) (learn_len h)
theorem sort_lk {rows : List Row} (hn : (keysR rows).Nodup) (s : List Stp) : lkR (sortR rows) s = lkR rows s := by
  have pm := sortE_perm (fun r : Row => tkD (rowD r)) rows
  have hn2 : (keysR (sortR rows)).Nodup := (pm.map Prod.fst).nodup_iff.mpr hn
  cases h : lkR rows s with
  | some x => exact lkR_some hn2 (pm.mem_iff.mpr (lkR_mem h))
  | none =>
    cases h2 : lkR (sortR rows) s with
    | none => rfl
    | some x =>
      have := lkR_some hn (pm.mem_iff.mp (lkR_mem h2))
      rw [h] at this
      cases this
/-- is_within's answer -/
theorem wit_eq {rows rows2 : List Row} (hn2 : (keysR rows2).Nodup) {b : Bool} (h : (∀ r ∈ rows, lkR rows2 r.1 = some r.2) ↔ b = true) : witB rows rows2 = b := by
  have pm := sortE_perm (fun r : Row => tkD (rowD r)) rows
  refine Bool.eq_iff_iff.mpr (Iff.trans ?_ h)
  unfold witB
  rw [List.all_eq_true]
  constructor
  · intro q r hr
    have := of_decide_eq_true (q r (pm.mem_iff.mpr hr))
    rw [sort_lk hn2] at this
    exact this
  · intro q r hr
    refine decide_eq_true ?_
    rw [sort_lk hn2]
    exact q r (pm.mem_iff.mp hr)
end Pk

set_option maxRecDepth 100000
set_option maxHeartbeats 4000000
set_option pp.maxSteps 600
namespace Pk
open PySem PySem.Spec PyProof.Rows L2
open LamX
/-! ### how great a program is -/
mutual
theorem tS : ∀ (t : Pk.T) (ks : List D), wfB ks t = true → KsK ks → sz (toD t) ≤ 3 + 400 * nasks t ∧ dep (toD t) ≤ 1 + 3 * nasks t ∧ noL (toD t) = true
  | .say v, _, _, _ => ⟨Nat.le_refl _, Nat.le_refl _, rfl⟩
  | .stop, _, _, _ => ⟨(by show 1 + 0 + 1 ≤ 3; omega), Nat.le_refl _, rfl⟩
  | .prog _ _, _, h, _ => by cases h
  | .ask up k as z o, ks, hw, hk => by
    obtain ⟨kd, a, e1, e2, w1, w2, w3⟩ := wfB_ask hw
    have ha := hk.at e1 e2
    obtain ⟨z1, z2, z3⟩ := tS z ks w2 hk
    obtain ⟨o1, o2, o3⟩ := tS o ks w3 hk
    obtain ⟨p1, p2, p3⟩ := tSs as ks (args a) w1 hk (fun d hd => by
      obtain ⟨i, hi, rfl⟩ := List.mem_iff_getElem.mp hd
      exact KM.sub (M := 60) ha (List.getElem?_eq_getElem hi))
    have hl := KM.len (M := 60) ha
    have hl2 := wfPs_len w1
    refine ⟨?_, ?_, ?_⟩
    · show (1 + (1 + (1 + ((szs (toDs as) + 1) + (sz (toD z) + (sz (toD o) + 0)))))) + 1 ≤ 3 + 400 * (1 + (nasksL as + (nasks z + nasks o)))
      omega
    · show max (0 + 1) (max (0 + 1) (max (0 + 1) (max (deps (toDs as) + 1) (max (dep (toD z) + 1) (max (dep (toD o) + 1) 0))))) ≤ 1 + 3 * (1 + (nasksL as + (nasks z + nasks o)))
      omega
    · show (true && (true && (true && (noLs (toDs as) && (noL (toD z) && (noL (toD o) && true)))))) = true
      rw [p3, z3, o3]
      rfl
theorem tSs : ∀ (ts : List Pk.T) (ks ds : List D), wfPs ks ds ts = true → KsK ks → (∀ d ∈ ds, isK d = true ∧ sz d ≤ 60) → szs (toDs ts) ≤ 6 * ts.length + 400 * nasksL ts ∧ deps (toDs ts) ≤ 3 + 3 * nasksL ts ∧ noLs (toDs ts) = true
  | [], _, _, _, _, _ => ⟨Nat.zero_le _, Nat.zero_le _, rfl⟩
  | t :: ts, ks, ds, hw, hk, hd => by
    obtain ⟨d, ds', rfl, w1, w2⟩ := wfPs_cons hw
    obtain ⟨m, b, rfl, em, w3⟩ := wfP_inv w1
    obtain ⟨b1, b2, b3⟩ := tS b (d :: ks) w3 (hk.cons (hd d (List.mem_cons_self ..)))
    obtain ⟨p1, p2, p3⟩ := tSs ts ks ds' w2 hk (fun x hx => hd x (List.mem_cons_of_mem _ hx))
    refine ⟨?_, ?_, ?_⟩
    · show ((1 + (1 + (sz (toD b) + 0))) + 1) + szs (toDs ts) ≤ 6 * (ts.length + 1) + 400 * (nasks b + nasksL ts)
      omega
    · show max (max (0 + 1) (max (0 + 1) (max (dep (toD b) + 1) 0)) + 1) (deps (toDs ts)) ≤ 3 + 3 * (nasks b + nasksL ts)
      omega
    · show ((true && (true && (noL (toD b) && true))) && noLs (toDs ts)) = true
      rw [b3, p3]
      rfl
end
theorem prog_small {kd : D} {t : Pk.T} (hw : wfP [] kd t = true) (hk : isK kd = true ∧ sz kd ≤ 60) (hn : nasks t ≤ 6) : szs [toD t] ≤ 3000 ∧ dep (toD t) < 24 ∧ noL (toD t) = true := by
  obtain ⟨m, b, rfl, em, wb⟩ := wfP_inv hw
  have hn' : nasks b ≤ 6 := hn
  obtain ⟨b1, b2, b3⟩ := tS b [kd] wb (fun k hm => by rw [List.mem_singleton.mp hm]; exact hk)
  refine ⟨?_, ?_, ?_⟩
  · show ((1 + (1 + (sz (toD b) + 0))) + 1) + 0 ≤ 3000
    omega
  · show max (0 + 1) (max (0 + 1) (max (dep (toD b) + 1) 0)) < 24
    omega
  · show (true && (true && (noL (toD b) && true))) = true
    rw [b3]
    rfl
theorem sq_of {kd : D} {t : Pk.T} (hw : wfP [] kd t = true) (hk : isK kd = true ∧ sz kd ≤ 60) (hn : nasks t ≤ 18) (hz : szT (progB t) ≤ 90000) : SQ kd (rowsT t) :=
  ⟨hk, rowsB_nodup _ _ _, rowsT_ok hw, rowsT_rq hk.1 hw hn, fun e he => by
    rcases rowsB_up (progB t) [BEG] [0] e he with q | q
    · rw [q]
      exact .inl rfl
    · exact .inr q, Nat.le_trans (rowsT_len t) hz⟩
section
variable {P : Program} {w : World} {K : PySem.W.Frag} {mg : Str → Option Value} {base : Heap} {T : List (Addr × Str)}
theorem boxE {H H' : Hp} {b c : Addr} (h : BoxAt H b c) (e : ExtN H H') : BoxAt H' b c := by
  obtain ⟨bs, hb⟩ := h.lst
  obtain ⟨cs, hc⟩ := h.dst
  exact h.keep (fun o q => e _ _ q fun ps z => by rw [hb] at q; rw [← Option.some.inj q] at z; cases z) (fun o q => e _ _ q fun ps z => by rw [hc] at q; rw [← Option.some.inj q] at z; cases z)
theorem tabs_keep {H H' : Hp} (h : Tabs T H) (k : ∀ q o, H q = some o → (∀ xs, o ≠ .lst xs) → H' q = some o) : Tabs T H' := by
  intro p hp
  obtain ⟨ps, h1, h2, h3⟩ := h p hp
  refine ⟨ps, k _ _ h1 (fun xs z => by cases z), h2, fun pos cv hc => ?_⟩
  obtain ⟨c, e1, e2⟩ := h3 pos cv hc
  exact ⟨c, e1, k _ _ e2 (fun xs z => by unfold CodeO at z; cases z)⟩
theorem tabs_sb {H H' : Hp} {b c : Addr} (h : Tabs T H) (bx : BoxAt H b c) (sb : SB b H H') : Tabs T H' := by
  obtain ⟨bs, hb⟩ := bx.lst
  exact tabs_keep h fun q o e n => sb _ _ (fun z => by rw [z, hb] at e; exact n bs (Option.some.inj e).symm) e
theorem tabs_sb2 {H H' : Hp} {b c u : Addr} {us : List V} (h : Tabs T H) (bx : BoxAt H b c) (hu : H u = some (.lst us)) (sb : SB2 b u H H') : Tabs T H' := by
  obtain ⟨bs, hb⟩ := bx.lst
  exact tabs_keep h fun q o e n => sb _ _ (fun z => by rw [z, hb] at e; exact n bs (Option.some.inj e).symm) (fun z => by rw [z, hu] at e; exact n us (Option.some.inj e).symm) e
def trD (e : Row) : D := .tup [playD e.1, mvD e.2.mv, bkD e.2.back]
theorem noLd_tr (e : Row) : noLd (trD e) = true := by
  have h1 := noLd_play e.1
  have h2 : (noLd (mvD e.2.mv) && (noLd (bkD e.2.back) && true)) = true := noLd_st e.2
  show (noLd (playD e.1) && (noLd (mvD e.2.mv) && (noLd (bkD e.2.back) && true))) = true
  rw [h1, h2]
  rfl
theorem eqv_tr {e e' : Row} (h1 : e.2.back ≠ none) (h2 : e'.2.back ≠ none) (h : e.2 ≠ e'.2) : PyData.eqv (toPy (trD e)) (toPy (trD e')) = false := by
  have h3 := eqv_st2 h1 h2
  rw [decide_eq_false h] at h3
  have h4 : (PyData.eqv (toPy (mvD e.2.mv)) (toPy (mvD e'.2.mv)) && (PyData.eqv (toPy (bkD e.2.back)) (toPy (bkD e'.2.back)) && true)) = false := h3
  show (PyData.eqv (toPy (playD e.1)) (toPy (playD e'.1)) && (PyData.eqv (toPy (mvD e.2.mv)) (toPy (mvD e'.2.mv)) && (PyData.eqv (toPy (bkD e.2.back)) (toPy (bkD e'.2.back)) && true))) = false
  rw [h4, Bool.and_false]
theorem dep_tr (e : Row) : dep (trD e) ≤ 7 := by
  have h1 := dep_row e
  have h2 := dep_play e.1
  have h3 : max (dep (mvD e.2.mv) + 1) (max (dep (bkD e.2.back) + 1) 0) ≤ 3 := dep_st e.2
  show max (dep (playD e.1) + 1) (max (dep (mvD e.2.mv) + 1) (max (dep (bkD e.2.back) + 1) 0)) ≤ 7
  omega
theorem shaped_tr (e : Row) : SeqAt.shaped (toPy (trD e)) = true := by
  refine shaped_of ?_ (by have := dep_tr e; omega)
  show (PyData.canLayAll0 (toPys (e.1.map stD)) && (PyData.canLay0 (toPy (mvD e.2.mv)) && (PyData.canLay0 (toPy (bkD e.2.back)) && true))) = true
  rw [lay_sts, lay_mv, lay_bk]
  rfl
def TsAt (K : PySem.W.Frag) (H : Hp) (l : Addr) (kd : D) (ts : List Pk.T) : Prop := ∃ acc, H l = some (.lst acc) ∧ Reps K H acc (ts.map toD)
theorem TsAt.sbx {K : PySem.W.Frag} {H H' : Hp} {l b : Addr} {kd : D} {ts : List Pk.T} (h : TsAt K H l kd ts) (ne : l ≠ b) (s : SB b H H') (k : Kx H H') : TsAt K H' l kd ts := let ⟨acc, h1, h2⟩ := h; ⟨acc, s _ _ ne h1, h2.mono k⟩
def LpAt (K : PySem.W.Frag) (H : Hp) (l : Addr) (ps : List (List Stp)) : Prop := ∃ xs, H l = some (.lst xs) ∧ Reps K H xs (ps.map playD)
def OwnT (ts : List Pk.T) (m : Int) (pl : List Stp) : Prop := ∃ (k : Nat) (t : Pk.T), ts[k]? = some t ∧ (k : Int) < 1 + m ∧ OwnP (rowsT t) pl
def spLaw (K : PySem.W.Frag) (T : List (Addr × Str)) : Sp := fun vs H Q _ => ∃ (a : Addr) (ns : List Int), vs = [.ref a] ∧ SqL K H a (ns.map V.int) ∧ ns.length ≤ 63 ∧ Tabs T H ∧ ∀ H', Q (.bl true) H'
theorem ok_law {bg : Addr} (hBG : mg "BEGINNING" = some (.ref bg)) (hKB : ∀ H, Rep K H (.ref bg) (stD BEG)) {c1 P1 : Addr} (TB1 : TabB base mg c1 P1) (hT1 : (P1, qLam "program_of") ∈ T) (hU1 : ∀ p ∈ T, p.1 = P1 → p.2 = qLam "program_of")
    {f f1 f2 f3 f4 f5 f6 f7 f8 f9 f10 f11 f12 f13 f14 f15 f16 f17 f18 f19 f20 f21 f22 f23 f24 f25 f26 f27 f28 f29 f30 f31 f32 f33 f34 f35 f36 f37 f38 f39 f40 f41 f42 f43 f44 f45 f46 f47 f48 f49 : Addr} {fd d1 d2 d3 d4 d5 d6 d7 d8 d9 d10 d11 d12 d13 d14 d15 d16 d17 d18 d19 d20 d21 d22 d23 d24 d25 d26 d27 d28 d29 d30 d31 d32 d33 d34 d35 d36 d37 d38 d39 d40 d41 d42 d43 d44 d45 d46 d47 d48 d49 : FuncData} (D_law : Df K mg "law" s_law ["script"] f fd) (B : Bt mg) (D_is_kind : Df K mg "is_kind" s_is_kind ["value"] f1 d1) (D_kind_at : Df K mg "kind_at" s_kind_at ["kind", "place"] f2 d2) (D_is_whole : Df K mg "is_whole" s_is_whole ["value"] f3 d3) (D_is_answer : Df K mg "is_answer" s_is_answer ["value"] f4 d4) (D_is_tuple_of : Df K mg "is_tuple_of" s_is_tuple_of ["value", "many"] f5 d5) (D__is_move : Df K mg "_is_move" s__is_move ["value"] f6 d6) (D__is_later_step : Df K mg "_is_later_step" s__is_later_step ["value", "number"] f7 d7) (D__is_placed : Df K mg "_is_placed" s__is_placed ["kind", "move", "answered"] f8 d8) (D__reason_against : Df K mg "_reason_against" s__reason_against ["kind", "play", "waiting", "step"] f9 d9) (D__note_open : Df K mg "_note_open" s__note_open ["waiting", "number", "step"] f10 d10) (D_fault_of : Df K mg "fault_of" s_fault_of ["kind", "play"] f11 d11) (D__sight_behind : Df K mg "_sight_behind" s__sight_behind ["play"] f12 d12) (D_program_sight : Df K mg "program_sight" s_program_sight ["play"] f13 d13) (D_alone : Df K mg "alone" s_alone ["play", "numbers"] f14 d14) (D_pairs : Df K mg "pairs" s_pairs ["play"] f15 d15) (D_learned : Df K mg "learned" s_learned ["kind", "plays"] f16 d16) (D__steps_of : Df K mg "_steps_of" s__steps_of ["strategy"] f17 d17) (D_is_within : Df K mg "is_within" s_is_within ["strategy", "other"] f18 d18) (D_grown : Df K mg "grown" s_grown ["root", "spread", "put_together"] f19 d19) (D_body_of : Df K mg "body_of" s_body_of ["note", "parts"] f20 d20) (D__is_row : Df K mg "_is_row" s__is_row ["kind", "value"] f21 d21) (D_is_strategy : Df K mg "is_strategy" s_is_strategy ["value"] f22 d22) (D__sights_behind : Df K mg "_sights_behind" s__sights_behind ["play", "many", "calls"] f23 d23) (D__step_of_body : Df K mg "_step_of_body" s__step_of_body ["body", "sight", "calls"] f24 d24) (D_meaning : Df K mg "meaning" s_meaning ["kind", "program"] f25 d25) (D__spread_sight : Df K mg "_spread_sight" s__spread_sight ["strategy", "node"] f26 d26) (D_program_of : Df K mg "program_of" s_program_of ["strategy"] f27 d27) (D__step_at : Df K mg "_step_at" s__step_at ["strategy", "sight"] f28 d28) (D_reply : Df K mg "reply" s_reply ["strategy", "play"] f29 d29) (D_fault_in : Df K mg "fault_in" s_fault_in ["strategy", "play"] f30 d30) (D__law_cell : Df K mg "_law_cell" s__law_cell ["script", "k"] f31 d31) (D__law_digits : Df K mg "_law_digits" s__law_digits ["script", "first", "last"] f32 d32) (D__law_draw : Df K mg "_law_draw" s__law_draw ["box", "many"] f33 d33) (D__law_box : Df K mg "_law_box" s__law_box ["script", "first", "last"] f34 d34) (D__law_same : Df K mg "_law_same" s__law_same ["actual", "expected"] f35 d35) (D__law_kind : Df K mg "_law_kind" s__law_kind ["box", "depth", "budget"] f36 d36) (D__law_body : Df K mg "_law_body" s__law_body ["box", "kinds", "budget"] f37 d37) (D__law_program : Df K mg "_law_program" s__law_program ["box", "kind", "most"] f38 d38) (D__law_sight : Df K mg "_law_sight" s__law_sight ["play"] f39 d39) (D__law_asker_sight : Df K mg "_law_asker_sight" s__law_asker_sight ["play"] f40 d40) (D__law_alone : Df K mg "_law_alone" s__law_alone ["play", "numbers"] f41 d41) (D__law_open : Df K mg "_law_open" s__law_open ["play"] f42 d42) (D__law_at : Df K mg "_law_at" s__law_at ["kind", "place"] f43 d43) (D__law_goes_on : Df K mg "_law_goes_on" s__law_goes_on ["kind", "play", "step"] f44 d44) (D__law_after : Df K mg "_law_after" s__law_after ["kind", "play"] f45 d45) (D__law_rows_behind : Df K mg "_law_rows_behind" s__law_rows_behind ["rows", "body", "sight", "calls"] f46 d46) (D__law_rows : Df K mg "_law_rows" s__law_rows ["program"] f47 d47) (D__law_reply : Df K mg "_law_reply" s__law_reply ["rows", "play"] f48 d48) (D__law_play : Df K mg "_law_play" s__law_play ["box", "kind", "rows", "most", "free"] f49 d49) (hc1 : d27.code = .ref c1) : FnOk P w K mg base CX0 121 f fd ["script"] (spLaw K T) := by
  have G__law_same : FnOk P w K mg base CX0 24 f35 d35 ["actual", "expected"] (spSame K 24) := ok_same D__law_same B 24
  have G__law_box : FnOk P w K mg base CX0 3 f34 d34 ["script", "first", "last"] (spBox K) := ok_box D__law_box D__law_digits D__law_cell B
  have G__law_draw : FnOk P w K mg base CX0 1 f33 d33 ["box", "many"] (spDraw) := ok_draw D__law_draw B
  have G__law_kind : FnOk P w K mg base CX0 5 f36 d36 ["box", "depth", "budget"] (spKind K 4) := ok_kind D__law_kind D__law_draw B 4
  have G__law_program : FnOk P w K mg base CX0 103 f38 d38 ["box", "kind", "most"] (spProg K) := ok_prog D__law_program D__law_body D__law_draw B
  have G__law_rows : FnOk P w K mg base CX0 102 f47 d47 ["program"] (spRows P w K) := ok_rows D__law_rows D__law_rows_behind B
  have G__law_play : FnOk P w K mg base CX0 44 f49 d49 ["box", "kind", "rows", "most", "free"] (spPlay P w K) := ok_lpl D__law_play D__law_goes_on D__law_sight D__law_asker_sight D__law_open D__law_at D__law_after D__law_reply D__law_alone D__law_draw B
  have G_learned : FnOk P w K mg base CX0 4 f16 d16 ["kind", "plays"] (spLe K) := ok_learned D_learned D_pairs D_alone D_program_sight D__sight_behind B
  have G_meaning : FnOk P w K mg base CX0 2 f25 d25 ["kind", "program"] (spMng K) := ok_mng hBG hKB D_meaning D__step_of_body D__sights_behind B
  have G_program_sight : FnOk P w K mg base CX0 2 f13 d13 ["play"] (spSBF K) := ok_psF D_program_sight D__sight_behind B
  have G_alone : FnOk P w K mg base CX0 1 f14 d14 ["play", "numbers"] (spAlF K) := ok_alF D_alone B
  have G_fault_in : FnOk P w K mg base CX0 4 f30 d30 ["strategy", "play"] (spFi K) := ok_fi D_fault_in D_reply D__step_at D_alone D_program_sight D__sight_behind B
  have G_is_within : FnOk P w K mg base CX0 2 f18 d18 ["strategy", "other"] (spWi K) := ok_wi D_is_within D__steps_of B
  have G_is_strategy : FnOk P w K mg base CX0 8 f22 d22 ["value"] (spStrat K) := ok_strat hBG hKB D_is_strategy D_is_kind D__is_row D_fault_of D__is_later_step D__is_move D_is_tuple_of D_is_whole D_is_answer D__is_placed D_kind_at D__sight_behind D__reason_against D__note_open B
  have G_program_of : FnOk P w K mg base CX0 5 f27 d27 ["strategy"] (spPO K T) := ok_po hBG hKB D_program_of D_grown D_body_of D__spread_sight D__step_at D_kind_at D__sights_behind B hc1 TB1 hT1 hU1
  refine D_law.ok c_law (fun vs H Q E h => ?_) (fun cdv A outer s H vs Q E hr h => ?_)
  · obtain ⟨a, ns, rfl, _⟩ := h
    rfl
  obtain ⟨a, ns, rfl, hS, hns, hT, q⟩ := h
  have nd := c_law.nd
  refine ⟨_, (pss_cons (ps_set (i := 1) nd rfl (Or.inr rfl) (pe_call G__law_box (hr.mono (by first | decide | omega)) (by rfl) D__law_box.m D__law_box.kp D__law_box.b .nil pass0 (pa_cons (pv 0) (pa_cons pe_int (pa_cons pe_int pa_nil)))))
  (pss_cons (ps_set (i := 2) nd rfl (Or.inr rfl) (pe_call G__law_kind (hr.mono (by first | decide | omega)) (by rfl) D__law_kind.m D__law_kind.kp D__law_kind.b .nil pass0 (pa_cons (pv 1) (pa_cons pe_int (pa_cons (pe_lst (pa_cons pe_int pa_nil)) pa_nil)))))
  (pss_cons (ps_setLc (i := 4) (own := [("k", 3)]) (g := (gName 3)) (tt := tYes) rfl nd rfl rfl (sw_true rfl rfl rfl (by decide +kernel)) (pi_range1 (by rfl) B.b_range (pa_cons pe_int pa_nil)) (blkOk_by (own := [("k", 3)]) (N := ["script", "box", "kind", "k", "programs", "mixed", "plays", "found", "strategies", "steps", "i", "n", "numbers", "strategy", "play", "other", "has", "program"]) (sc := defScope s_law) (by decide +kernel)) (fun _ _ _ _ _ => (pg_name (i := 3) nd rfl (Or.inl rfl))) (fun _ _ _ _ _ => pts_nil) (fun _ _ _ _ _ => (pe_call G__law_program (hr.mono (by first | decide | omega)) (by rfl) D__law_program.m D__law_program.kp D__law_program.b .nil pass0 (pa_cons (pv 1) (pa_cons (pv 2) (pa_cons pe_int pa_nil))))))
  (pss_cons (ps_set (i := 5) nd rfl (Or.inl rfl) (pe_call G__law_draw (hr.mono (by first | decide | omega)) (by rfl) D__law_draw.m D__law_draw.kp D__law_draw.b .nil pass0 (pa_cons (pv 1) (pa_cons pe_int pa_nil))))
  (pss_cons (ps_set (i := 6) nd rfl (Or.inl rfl) (pe_lst pa_nil))
  (pss_cons (ps_for PassesOwn.never rfl (pi_range1 (by rfl) B.b_range (pa_cons (pe_op op_add pe_int (pe_call G__law_draw (hr.mono (by first | decide | omega)) (by rfl) D__law_draw.m D__law_draw.kp D__law_draw.b .nil pass0 (pa_cons (pv 1) (pa_cons pe_int pa_nil)))) pa_nil)) (pg_name (i := 3) nd rfl (Or.inl rfl)) (pss_one (ps_expr (pe_bm PySem.F.plainAttrs_list PySem.F.slot_list_append PySem.F.type_list_append mt_append (pv 6) (pa_cons (pe_call G__law_play (hr.mono (by first | decide | omega)) (by rfl) D__law_play.m D__law_play.kp D__law_play.b .nil pass0 (pa_cons (pv 1) (pa_cons (pv 2) (pa_cons (pe_call G__law_rows (hr.mono (by first | decide | omega)) (by rfl) D__law_rows.m D__law_rows.kp D__law_rows.b .nil pass0 (pa_cons (pe_ix ix_list (pv 4) (pe_call G__law_draw (hr.mono (by first | decide | omega)) (by rfl) D__law_draw.m D__law_draw.kp D__law_draw.b .nil pass0 (pa_cons (pv 1) (pa_cons (pe_op op_add pe_int (pv 5)) pa_nil))) (fun _ _ => rfl)) pa_nil)) (pa_cons pe_int (pa_cons pe_int pa_nil)))))) pa_nil)))))
  (pss_cons (ps_set (i := 7) nd rfl (Or.inl rfl) (pe_call G_learned (hr.mono (by first | decide | omega)) (by rfl) D_learned.m D_learned.kp D_learned.b .nil pass0 (pa_cons (pv 2) (pa_cons (pe_callTy call_tuple_of (by rfl) B.b_tuple (by decide +kernel) (pa_cons (pv 6) pa_nil)) pa_nil))))
  (pss_cons (ps_setLc (i := 8) (own := [("program", 17)]) (g := (gName 17)) (tt := tYes) rfl nd rfl rfl (sw_true rfl rfl rfl (by decide +kernel)) (pi_list (pv 4)) (blkOk_by (own := [("program", 17)]) (N := ["script", "box", "kind", "k", "programs", "mixed", "plays", "found", "strategies", "steps", "i", "n", "numbers", "strategy", "play", "other", "has", "program"]) (sc := defScope s_law) (by decide +kernel)) (fun _ _ _ _ _ => (pg_name (i := 17) nd rfl (Or.inl rfl))) (fun _ _ _ _ _ => pts_nil) (fun _ _ _ _ _ => (pe_call G_meaning (hr.mono (by first | decide | omega)) (by rfl) D_meaning.m D_meaning.kp D_meaning.b .nil pass0 (pa_cons (pv 2) (pa_cons (pv 17) pa_nil)))))
  (pss_cons (ps_if (pt_cmpR op_eq (pe_ix ix_tup (pv 7) pe_int (fun _ _ => rfl)) pe_str (nomark _)) (pss_cons (ps_set (i := 9) nd rfl (Or.inl rfl) (pe_lst pa_nil))
  (pss_cons (ps_for PassesOwn.never rfl (pi_tup (pe_slice sl_tupP (pv 7) (po_some pe_int) po_none)) (pg_tup rfl (pgs_cons (pg_name (i := 10) nd rfl (Or.inl rfl)) (pgs_cons (pg_name (i := 11) nd rfl (Or.inl rfl)) pgs_nil))) (pss_cons (ps_set (i := 12) nd rfl (Or.inl rfl) (pe_call G_program_sight (hr.mono (by first | decide | omega)) (by rfl) D_program_sight.m D_program_sight.kp D_program_sight.b .nil pass0 (pa_cons (pe_slice sl_tupP (pe_ix ix_list (pv 6) (pv 10) (fun _ _ => rfl)) po_none (po_some (pv 11))) pa_nil)))
  (pss_one (ps_expr (pe_bm PySem.F.plainAttrs_list PySem.F.slot_list_append PySem.F.type_list_append mt_append (pv 9) (pa_cons (pe_tup (pa_cons (pe_call G_alone (hr.mono (by first | decide | omega)) (by rfl) D_alone.m D_alone.kp D_alone.b .nil pass0 (pa_cons (pe_ix ix_list (pv 6) (pv 10) (fun _ _ => rfl)) (pa_cons (pv 12) pa_nil))) (pa_cons (pe_ix ix_tup (pe_ix ix_tup (pe_ix ix_list (pv 6) (pv 10) (fun _ _ => rfl)) (pv 11) (fun _ _ => rfl)) pe_int (fun _ _ => rfl)) (pa_cons (show PE _ _ (tTupIx K _ _) from pe_tupIx (pv 12) (pe_ix ix_tup (pe_ix ix_tup (pe_ix ix_list (pv 6) (pv 10) (fun _ _ => rfl)) (pv 11) (fun _ _ => rfl)) pe_int (fun _ _ => rfl)) ⟨rfl, rfl, rfl, rfl⟩) pa_nil)))) pa_nil))))))
  (pss_one (ps_if (PW.pt (pw_or (pt_cmpR (op_neD hr.units) (pe_ix ix_tup (pe_ix ix_list (pv 9) pe_int (fun _ _ => rfl)) pe_int (fun _ _ => rfl)) (pe_ix ix_tup (pe_ix ix_list (pv 9) pe_int (fun _ _ => rfl)) pe_int (fun _ _ => rfl)) (nomark _)) (pw_or (pt_cmpR (op_eqD hr.units) (pe_ix ix_list (pv 9) pe_int (fun _ _ => rfl)) (pe_ix ix_list (pv 9) pe_int (fun _ _ => rfl)) (nomark _)) (pw_or1 (pt_cmpR op_eq (pv 5) pe_int (nomark _)))))) (pss_one (ps_ret pe_bl)) pss_nil)))) (pss_cons (ps_set (i := 13) nd rfl (Or.inl rfl) (pe_ix ix_tup (pv 7) pe_int (fun _ _ => rfl)))
  (pss_cons (ps_if (PW.pt (pw_or (pt_cmpR op_ne (pe_ix ix_tup (pv 7) pe_int (fun _ _ => rfl)) pe_str (nomark _)) (pw_or1 (pt_cmpR op_isnot_bl (pe_call G_is_strategy (hr.mono (by first | decide | omega)) (by rfl) D_is_strategy.m D_is_strategy.kp D_is_strategy.b .nil pass0 (pa_cons (pv 13) pa_nil)) pe_bl (nomark _))))) (pss_one (ps_ret pe_bl)) pss_nil)
  (pss_cons (ps_for PassesOwn.never rfl (pi_list (pv 6)) (pg_name (i := 14) nd rfl (Or.inl rfl)) (pss_one (ps_if (pt_cmpR op_notN (pe_call G_fault_in (hr.mono (by first | decide | omega)) (by rfl) D_fault_in.m D_fault_in.kp D_fault_in.b .nil pass0 (pa_cons (pv 13) (pa_cons (pv 14) pa_nil))) pe_non (nomark _)) (pss_one (ps_ret pe_bl)) pss_nil)))
  (pss_cons (ps_if (pt_not (pt_val (pe_call G__law_same (hr.mono (by first | decide | omega)) (by rfl) D__law_same.m D__law_same.kp D__law_same.b .nil pass0 (pa_cons (pe_call G_meaning (hr.mono (by first | decide | omega)) (by rfl) D_meaning.m D_meaning.kp D_meaning.b .nil pass0 (pa_cons (pv 2) (pa_cons (pe_call G_program_of (hr.mono (by first | decide | omega)) (by rfl) D_program_of.m D_program_of.kp D_program_of.b .nil pass0 (pa_cons (pv 13) pa_nil)) pa_nil))) (pa_cons (pv 13) pa_nil))))) (pss_one (ps_ret pe_bl)) pss_nil)
  (pss_one (ps_for PassesOwn.never rfl (pi_list (pv 8)) (pg_name (i := 15) nd rfl (Or.inr rfl)) (pss_cons (ps_set (i := 16) nd rfl (Or.inl rfl) (pe_cmpR op_eq (pe_callB call_len_seq (by rfl) B.b_len PySem.boot_len (pa_cons (pe_lc (own := [("play", 14)]) (g := (gName 14)) (tt := _) rfl nd (pi_list (pv 6)) (blkOk_by (own := [("play", 14)]) (N := ["script", "box", "kind", "k", "programs", "mixed", "plays", "found", "strategies", "steps", "i", "n", "numbers", "strategy", "play", "other", "has", "program"]) (sc := defScope s_law) (by decide +kernel)) (fun _ _ _ _ _ => (pg_name (i := 14) nd rfl (Or.inl rfl))) (fun _ _ _ _ _ => (pts_one (pt_cmpR op_notN (pe_call G_fault_in (hr.mono (by first | decide | omega)) (by rfl) D_fault_in.m D_fault_in.kp D_fault_in.b .nil pass0 (pa_cons (pv 15) (pa_cons (pv 14) pa_nil))) pe_non (nomark _)))) (fun _ _ _ _ _ => (pv 14))) pa_nil)) pe_int (nomark _)))
  (pss_one (ps_if (pt_not (pt_val (pe_call G__law_same (hr.mono (by first | decide | omega)) (by rfl) D__law_same.m D__law_same.kp D__law_same.b .nil pass0 (pa_cons (pe_call G_is_within (hr.mono (by first | decide | omega)) (by rfl) D_is_within.m D_is_within.kp D_is_within.b .nil pass0 (pa_cons (pv 13) (pa_cons (pv 15) pa_nil))) (pa_cons (pv 16) pa_nil))))) (pss_one (ps_ret pe_bl)) pss_nil))))))))))
  (pss_one (ps_ret pe_bl))))))))))), ?_⟩
  refine ⟨_, rfl, a, ns, 0, 62, rfl, hS, by omega, by omega, fun b c H3 s3 _ _ hB3 => ?_⟩
  have T3 : Tabs T H3 := hT.ext fun x o e => s3 _ _ e
  refine ⟨_, rfl, (by show 1 ≤ sizeLine; decide), fun u nu => ?_⟩
  have s6 := same_new nu (.lst [.int 5])
  obtain ⟨bs3, hbs3⟩ := hB3.lst
  obtain ⟨cs3, hcs3⟩ := hB3.dst
  have nbu : b ≠ u := ne_of_none hbs3 nu
  have ncu : c ≠ u := ne_of_none hcs3 nu
  refine ⟨b, c, u, 3, 5, rfl, hB3.same s6, upd_same, by decide, by decide, by decide, nbu, ncu, fun v H7 d g' rv kd dd sd hu7 hB7 sb7 => ?_⟩
  have T7 : Tabs T H7 := tabs_sb2 (T3.ext fun x o e => s6 _ _ e) (hB3.same s6) upd_same sb7
  have hd7 : sz d ≤ 7 := by omega
  have hKd : Kd d := ⟨kd, by omega⟩
  have hk60 : isK d = true ∧ sz d ≤ 60 := ⟨kd, by omega⟩
  obtain ⟨bs7, hbs7⟩ := hB7.lst
  obtain ⟨cs7, hcs7⟩ := hB7.dst
  -- the programs
  refine ⟨2, rfl, by decide, by decide, fun lp nlp => ?_⟩
  have nbl : b ≠ lp := ne_of_none hbs7 nlp
  have ncl : c ≠ lp := ne_of_none hcs7 nlp
  have s70 := same_new nlp (.lst [])
  refine lc_range (n := 2) (fun i H' => SB b H7 H' ∧ BoxAt H' b c ∧ Tabs T H' ∧ ∃ ts, TsAt K H' lp d ts ∧ ts.length = i ∧ ∀ t ∈ ts, wfP [] d t = true ∧ nasks t ≤ 5) ⟨sb_same s70, hB7.same s70, T7.ext fun x o e => s70 _ _ e, [], ⟨[], upd_same, .nil⟩, rfl, fun x hx => by cases hx⟩ ?_ ?_
  · rintro i H8 hi ⟨sb8, hB8, T8, ts, ⟨acc, h1, h2⟩, lts, hts⟩
    have rv8 := rv.mono (box_kx hB7 hB8 sb8)
    obtain ⟨bs8, hbs8⟩ := hB8.lst
    refine ⟨rfl, yes_go ⟨_, rfl, _, rfl, b, c, v, d, 5, rfl, hB8, rv8, hKd, by decide, fun pv H9 t rt wt nt hB9 sb9 => ?_⟩⟩
    have k89 := box_kx hB8 hB9 sb9
    have h19 := sb9 _ _ nbl.symm h1
    have kl := kx_list h19 (acc ++ [pv])
    have la := h2.length
    rw [List.length_map] at la
    refine ⟨acc, h19, small6 (by omega), fun o x no e => ?_, hB9.other _ nbl.symm ncl.symm, tabs_keep (tabs_sb T8 hB8 sb9) fun q o e n => ?_, ts ++ [t], ⟨acc ++ [pv], upd_same, ?_⟩, by rw [List.length_append, List.length_singleton, lts], fun x hx => ?_⟩
    · have : o ≠ lp := fun e2 => by rw [e2, nlp] at e; cases e
      rw [upd_ne this]
      exact sb9 _ _ no (sb8 _ _ no e)
    · have : q ≠ lp := fun e2 => by
        rw [e2, h19] at e
        exact n _ (Option.some.inj e).symm
      rw [upd_ne this]
      exact e
    · rw [List.map_append]
      exact ((h2.mono k89).mono kl).append (.one (rt.mono kl))
    · rcases List.mem_append.mp hx with hx | hx
      · exact hts x hx
      · rw [List.mem_singleton.mp hx]
        exact ⟨wt, nt⟩
  rintro H8 ⟨sb8, hB8, T8, ts, hP8, lts, hts⟩
  have rv8 := rv.mono (box_kx hB7 hB8 sb8)
  refine ⟨_, rfl, b, c, 2, rfl, hB8, by decide, fun mx H9 m0 m2 hB9 sb9 => ?_⟩
  have k89 := box_kx hB8 hB9 sb9
  have hP9 := hP8.sbx nbl.symm sb9 k89
  have rv9 := rv8.mono k89
  have T9 := tabs_sb T8 hB8 sb9
  -- the plays
  refine ⟨(by show 0 ≤ sizeLine; decide), fun ll nll => ?_⟩
  have s10 := same_new nll (.lst [])
  have hB10 := hB9.same s10
  obtain ⟨bs9, hbs9⟩ := hB9.lst
  obtain ⟨cs9, hcs9⟩ := hB9.dst
  have nbl2 : b ≠ ll := ne_of_none hbs9 nll
  have ncl2 : c ≠ ll := ne_of_none hcs9 nll
  have npl : lp ≠ ll := by
    obtain ⟨acc, h1, _⟩ := hP9
    exact ne_of_none h1 nll
  have T10 : Tabs T _ := T9.ext fun x o e => s10 _ _ e
  refine ⟨_, rfl, b, c, 3, rfl, hB10, by decide, fun r H11 r0 r3 hB11 sb11 => ?_⟩
  have k10 := box_kx hB10 hB11 sb11
  have T11 := tabs_sb T10 hB10 sb11
  refine ⟨_, _, rfl, rfl, _, rfl, by omega, by omega, ?_⟩
  refine for_range (n := ((1 : Int) + r).toNat) (fun i σ H' => ∃ (y3 : Option V) (pls : List (List Stp)), σ = [some (.ref a), some (.ref b), some v, y3, some (.ref lp), some (.int mx), some (.ref ll), none, none, none, none, none, none, none, none, none, none, none] ∧ BoxAt H' b c ∧ Tabs T H' ∧ Rep K H' v d ∧ TsAt K H' lp d ts ∧ LpAt K H' ll pls ∧ pls.length ≤ i ∧ ∀ pl ∈ pls, LW d pl ∧ pl.length ≤ 12 ∧ OwnT ts mx pl)
    ⟨_, [], rfl, hB11, T11, (rv9.mono (kx_same s10)).mono k10, (hP9.sbx nbl.symm (sb_same s10) (kx_same s10)).sbx nbl.symm sb11 k10, ⟨[], sb11 _ _ nbl2.symm upd_same, .nil⟩, Nat.zero_le _, fun pl h => by cases h⟩ ?_ ?_
  · rintro i σ H12 hi ⟨y3, pls, rfl, hB12, T12, rv12, hP12, ⟨lx, hlx, rlx⟩, hli, hA⟩
    have llx := rlx.length
    rw [List.length_map] at llx
    refine ⟨_, rfl, .inl ⟨rfl, _, SqL.of hlx⟩, _, rfl, _, rfl, _, rfl, _, rfl, ?_⟩
    refine ⟨_, rfl, _, _, rfl, rfl, b, c, 1 + mx, rfl, hB12, by omega, fun r1 H13 r10 r12 hB13 sb13 => ?_⟩
    obtain ⟨bs12, hbs12⟩ := hB12.lst
    have k13 := box_kx hB12 hB13 sb13
    obtain ⟨acc, h1, h2⟩ := hP12.sbx nbl.symm sb13 k13
    have la := h2.length
    rw [List.length_map] at la
    obtain ⟨k, rfl⟩ : ∃ k : Nat, r1 = (k : Int) := ⟨r1.toNat, by omega⟩
    obtain ⟨t, ht⟩ : ∃ t, ts[k]? = some t := ⟨_, List.getElem?_eq_getElem (by omega)⟩
    obtain ⟨pv, hpv, rpv⟩ := h2.getD (show (ts.map toD)[k]? = some (toD t) by rw [List.getElem?_map, ht]; rfl)
    obtain ⟨wt, nt⟩ := hts t (List.mem_of_getElem? ht)
    have hz9 : szT t ≤ 90000 := by
      have := szT_prog (M := 7) wt ⟨kd, hd7⟩
      omega
    refine ⟨lp, acc, _, _, rfl, rfl, SqL.of h1, atI_nat hpv, pv, t, d, rfl, rpv, wt, hKd, by omega, hz9, fun da H14 hD14 s14 nda => ?_⟩
    have hB14 := hB13.same s14
    have rv14 := (rv12.mono k13).mono (kx_same s14)
    refine ⟨b, c, da, v, d, t, 0, 12, rfl, by decide, hB14, rv14, kd, by omega, hD14, wt, fun z pl H15 rz hL hOw hlen hB15 sb15 => ?_⟩
    have k15 := box_kx hB14 hB15 sb15
    have sb1 : SB b H12 H15 := (sb13.trans (sb_same s14)).trans sb15
    have k1 : Kx H12 H15 := box_kx hB12 hB15 sb1
    have hlx15 := sb1 _ _ nbl2.symm hlx
    have kl := kx_list hlx15 (lx ++ [z])
    have T15 := tabs_sb T12 hB12 sb1
    refine ⟨ll, lx, _, rfl, rfl, hlx15, small6 (by omega), _, pls ++ [pl], rfl, hB15.other _ nbl2.symm ncl2.symm, tabs_keep T15 fun q o e n => ?_, (rv12.mono k1).mono kl, (hP12.sbx nbl.symm sb1 k1).sbx npl (sb_upd _) kl, ⟨lx ++ [z], upd_same, ?_⟩, by rw [List.length_append, List.length_singleton]; omega, fun p hp => ?_⟩
    · have : q ≠ ll := fun e2 => by
        rw [e2, hlx15] at e
        exact n _ (Option.some.inj e).symm
      rw [upd_ne this]
      exact e
    · rw [List.map_append]
      exact ((rlx.mono k1).mono kl).append (.one (rz.mono kl))
    · rcases List.mem_append.mp hp with hp | hp
      · exact hA p hp
      · rw [List.mem_singleton.mp hp]
        exact ⟨hL, hlen, k, t, ht, r12, hOw rfl⟩
  · rintro σ H12 ⟨y3, pls, rfl, hB12, T12, rv12, ⟨acc, hacc, racc⟩, ⟨lx, hlx, rlx⟩, hli, hA⟩
    have llx := rlx.length
    rw [List.length_map] at llx
    have la := racc.length
    rw [List.length_map] at la
    have hN : pls.length ≤ 3 := by omega
    have hPO : PlaysOf d pls := ⟨fun pl h => ⟨(hA pl h).1, (hA pl h).2.1⟩, hN, fun pl h => by
      obtain ⟨hL, _, k, t, ht, _, hO⟩ := hA pl h
      obtain ⟨wt, nt⟩ := hts t (List.mem_of_getElem? ht)
      exact ⟨t, wt, nt, has_of_own hL (rowsT_leg wt) hO⟩⟩
    have hA39 := hPO.lw9
    refine ⟨_, rfl, _, rfl, ll, lx, rfl, .inl ⟨SqL.of hlx, fun tp ntp => ?_⟩⟩
    have s13 := same_new ntp (.tup lx)
    refine ⟨v, .ref tp, d, d, pls, rfl, rv12.mono (kx_same s13), .tup' upd_same (rlx.mono (kx_same s13)), hA39, by omega, fun z H13 s14 rz => ?_⟩
    have s1 := s13.trans s14
    -- their strategies
    refine ⟨_, rfl, lp, rfl, ⟨_, SqL.of (s1 _ _ hacc)⟩, fun ls nls => ?_⟩
    refine lc_list (K := K) (a := lp) (xs := acc) (fun i H' => Same H13 H' ∧ ∃ zs, H' ls = some (.lst zs) ∧ zs.length ≤ i ∧ Reps K H' zs ((ts.take i).map fun t => stratD d (sortR (rowsT t))))
      ⟨same_new nls _, [], upd_same, Nat.le_refl _, .nil⟩ (fun i H' _ h => SqL.of (h.1 _ _ (s1 _ _ hacc))) ?_ ?_
    · rintro i x H14 hx ⟨s2, zs, hls, lzs, rzs⟩
      have hi := (List.getElem?_eq_some_iff.mp hx).1
      obtain ⟨t, ht⟩ : ∃ t, ts[i]? = some t := ⟨_, List.getElem?_eq_getElem (by omega)⟩
      obtain ⟨pv, hpv, rpv⟩ := racc.getD (show (ts.map toD)[i]? = some (toD t) by rw [List.getElem?_map, ht]; rfl)
      rw [hx] at hpv
      obtain rfl := Option.some.inj hpv
      obtain ⟨wt, nt⟩ := hts t (List.mem_of_getElem? ht)
      have hz9 : szT t ≤ 90000 := by
        have := szT_prog (M := 7) wt ⟨kd, hd7⟩
        omega
      have s12 := s1.trans s2
      refine ⟨rfl, yes_go ⟨_, rfl, _, rfl, v, x, d, t, rfl, rv12.mono (kx_same s12), rpv.mono (kx_same s12), wt, hKd, by omega, hz9, fun y H15 s3 ry => ?_⟩⟩
      have hls15 := s3 _ _ hls
      have kl := kx_list hls15 (zs ++ [y])
      refine ⟨zs, hls15, small6 (by omega), fun o u e => ?_, zs ++ [y], upd_same, by rw [List.length_append, List.length_singleton]; omega, ?_⟩
      · rw [upd_ne (ne_of_none e nls)]
        exact s3 _ _ (s2 _ _ e)
      · rw [List.take_add_one, ht, List.map_append]
        exact ((rzs.mono (kx_same s3)).mono kl).append (.one (ry.mono kl))
    rintro H14 ⟨s2, zs, hls, lzs, rzs⟩
    rw [la, List.take_length] at rzs
    have s12 := s1.trans s2
    have T14 : Tabs T H14 := T12.ext fun x o e => s12 _ _ e
    have hlx14 := s12 _ _ hlx
    have rlx14 := rlx.mono (kx_same s12)
    have rz14 := rz.mono (kx_same s2)
    have rv14 := rv12.mono (kx_same s12)
    have hB14 := hB12.same s12
    cases hdu : (stA pls pls.length).due with
    | some dd =>
      unfold finD at rz14
      rw [hdu] at rz14
      obtain ⟨za, zx, rfl, hza, rzx⟩ := Rep.inv (ts := [.at (.str "disagree"), fsD dd.1, fsD dd.2]) rz14
      obtain ⟨y1, y2, rfl, r1, r2⟩ : ∃ y1 y2, zx = [.str "disagree", y1, y2] ∧ Rep K H14 y1 (fsD dd.1) ∧ Rep K H14 y2 (fsD dd.2) := by
        cases rzx with
        | cons r1 rzx =>
          cases rzx with
          | cons r2 rzx =>
            cases rzx with
            | cons r3 rzx =>
              cases rzx
              obtain ⟨rfl, _⟩ := Rep.inva r1
              exact ⟨_, _, rfl, r2, r3⟩
      obtain ⟨e1, e2, at1, at2, h12, hne⟩ := learn_due hA39 (a := dd.1) (b := dd.2) hdu
      refine ⟨_, rfl, za, _, 0, _, rfl, rfl, hza.sq, rfl, rfl, ?_⟩
      rw [show decide (V.str "disagree" = V.str (Str.ofString "disagree")) = true by decide]
      refine ⟨_, rfl, iteT ⟨(by show 0 ≤ sizeLine; decide), fun st nst => ?_⟩⟩
      have s3 := same_new nst (.lst [])
      refine ⟨_, rfl, _, rfl, za, _, rfl, hza.same s3, fun cp H15 s4 hcp => ?_⟩
      have ecut : cutV [.str "disagree", y1, y2] (some 1) none = [y1, y2] := rfl
      rw [ecut] at hcp
      have s34 := s3.trans s4
      have hst15 := s4 _ _ (upd_same (H := H14) (a := st) (o := .lst []))
      refine ⟨cp, rfl, ⟨_, hcp.sq⟩, for_tup (K := K) (a := cp) (xs := [y1, y2]) (fun i σ H' => Same H14 H' ∧ Kx H15 H' ∧ (∃ (y10 y11 y12 : Option V), σ = [some (.ref a), some (.ref b), some v, y3, some (.ref lp), some (.int mx), some (.ref ll), some (.ref za), some (.ref ls), some (.ref st), y10, y11, y12, none, none, none, none, none]) ∧ ∃ acc, H' st = some (.lst acc) ∧ Reps K H' acc (([e1, e2].take i).map trD))
        ⟨s34, Kx.refl _, ⟨_, _, _, rfl⟩, [], hst15, .nil⟩ (fun i σ H' _ h => (hcp.kx h.2.1).sq) ?_ ?_⟩
      · rintro i x σ H16 hx ⟨s16, k16, ⟨y10, y11, y12, rfl⟩, sacc, hst, rsacc⟩
        have hi : i < 2 := (List.getElem?_eq_some_iff.mp hx).1
        obtain ⟨jn, er, rx, her, ⟨pl, i0, hpl, hi0, en, eer⟩⟩ : ∃ jn er, Rep K H14 x (fsD jn) ∧ [e1, e2][i]? = some er ∧ AtP pls jn er := by
          match i, hi, hx with
          | 0, _, hx => exact ⟨dd.1, e1, by rw [← Option.some.inj hx]; exact r1, rfl, at1⟩
          | 1, _, hx => exact ⟨dd.2, e2, by rw [← Option.some.inj hx]; exact r2, rfl, at2⟩
        obtain ⟨ta, rfl, hta⟩ : ∃ ta, x = .ref ta ∧ TupAt K H14 ta [.int (jn.1 : Nat), .int (jn.2 : Nat)] := by
          obtain ⟨ta, txs, rfl, hta, rtx⟩ := Rep.inv (ts := [numD' jn.1, numD' jn.2]) rx
          cases rtx with
          | cons r1 rtx =>
            cases rtx with
            | cons r2 rtx =>
              cases rtx
              obtain ⟨rfl, _⟩ := Rep.inva (w := V.int (jn.1 : Nat)) r1
              obtain ⟨rfl, _⟩ := Rep.inva (w := V.int (jn.2 : Nat)) r2
              exact ⟨_, rfl, hta⟩
        refine ⟨ta, _, rfl, (hta.same s16).sq, rfl, _, _, rfl, _, _, rfl, rfl, ?_⟩
        obtain ⟨hL, hlen, _⟩ := hA pl (List.mem_of_getElem? hpl)
        obtain ⟨pv, hpv, rpv⟩ := rlx14.getD (show (pls.map playD)[jn.1]? = some (playD pl) by rw [List.getElem?_map, hpl]; rfl)
        obtain ⟨pa, ps, rfl, hpa, rps, lps⟩ := play_inv rpv
        obtain ⟨n, hn⟩ : ∃ n, n = jn.2 := ⟨_, rfl⟩
        rw [← hn] at en hta ⊢
        have hnl : n < pl.length := by omega
        have ltk : (pl.take n).length = n := by rw [List.length_take]; omega
        obtain ⟨mv, em⟩ := hL.lp.wb.at (show 0 < n by omega) hnl
        refine ⟨_, rfl, _, rfl, ll, lx, _, _, rfl, rfl, SqL.of (s16 _ _ hlx14), atI_nat hpv, _, rfl, _, rfl, pa, ps, rfl, hpa.same s16, fun z1 H17 s17 hz1 => ?_⟩
        rw [cutV_to] at hz1
        have s117 := s16.trans s17
        have q1 := play_take (a := pa) rps (kx_same s117) hz1
        refine ⟨.ref z1, pl.take n, rfl, q1, hL.lp.wb.take n, by omega, by omega, fun t H18 s18 nt hf => ?_⟩
        have e3 : (pl.take n).length - 1 = i0 * 2 := by omega
        rw [e3, sight_take hL.lp.wb (show i0 * 2 < n by omega) (by omega)] at hf
        have s118 := s117.trans s18
        have hst18 := (s17.trans s18) _ _ hst
        have up := sight_up hL.lp.wb (i0 * 2) (by omega)
        have hsl := sight_len hL.lp.wb (i0 * 2) (by omega)
        have hws := hL.lp.ws n (by omega) hnl
        rw [show n - 1 = i0 * 2 by omega] at hws
        obtain ⟨x, hx2, rx2⟩ := play_at rps em
        obtain ⟨a2, m2, b2, rfl, ha2, rm2, rb2⟩ := step_inv rx2
        obtain ⟨rfl, _⟩ := Rep.inva (w := V.int (bk pl n : Nat)) rb2
        have hlx18 := s118 _ _ hlx14
        refine ⟨_, rfl, .inl ⟨rfl, _, SqL.of hst18⟩, _, rfl, _, rfl, ll, lx, _, _, rfl, rfl, SqL.of hlx18, atI_nat hpv, _, rfl, .ref pa, t, pl, sight pl (i0 * 2), rfl, rpv.mono (kx_same s118), fun H' e => (hf.same e).sq, hL.lp.wb, sight_cl hL.lp.wb hL.lp.ws _ (by omega), up.1, by omega, fun y H19 s19 ry => ?_⟩
        have hf4 := hf.same s19
        have s119 := s118.trans s19
        have hlx19 := s119 _ _ hlx14
        have hpa19 := (hpa.same s119).sq
        have ha19 := (ha2.same s119).sq
        refine ⟨_, rfl, _, rfl, ll, lx, _, _, rfl, rfl, SqL.of hlx19, atI_nat hpv, _, rfl, pa, ps, _, _, rfl, rfl, hpa19, atI_nat hx2, a2, _, 0, _, rfl, rfl, ha19, rfl, ?_⟩
        refine ⟨_, rfl, t, _, rfl, hf4, _, rfl, _, rfl, ll, lx, _, _, rfl, rfl, SqL.of hlx19, atI_nat hpv, _, rfl, pa, ps, _, _, rfl, rfl, hpa19, atI_nat hx2, a2, _, 1, _, rfl, rfl, ha19, rfl, ((bk pl n : Nat) : Int), rfl, hf4, List.mem_map.mpr ⟨_, hws, rfl⟩, (by show 3 ≤ sizeLine; decide), fun t5 n5 => ?_⟩
        rw [idx_int]
        have u5 := same_new n5 (.tup [y, m2, .int ((sight pl (i0 * 2)).idxOf (bk pl n) : Nat)])
        have hst5 := (s19.trans u5) _ _ hst18
        have kl := kx_list hst5 (sacc ++ [.ref t5])
        have lsa := rsacc.length
        rw [List.length_map, List.length_take] at lsa
        refine ⟨st, sacc, _, rfl, rfl, hst5, small6 (by have : [e1, e2].length = 2 := rfl; omega), fun o w' e => ?_, ?_, ⟨_, _, _, rfl⟩, sacc ++ [.ref t5], upd_same, ?_⟩
        · rw [upd_ne (ne_of_none e nst)]
          exact (s119.trans u5) _ _ e
        · exact (((k16.trans (kx_same (s17.trans s18))).trans (kx_same (s19.trans u5)))).trans kl
        · rw [List.take_add_one, her, List.map_append]
          refine ((rsacc.mono (kx_same ((s17.trans s18).trans (s19.trans u5)))).mono kl).append (.one ?_)
          have er2 : toldR pl i0 = (apart pl (sight pl (i0 * 2)), ⟨mv, some ((sight pl (i0 * 2)).idxOf (bk pl n))⟩) := by
            unfold toldR mvAt
            rw [show 1 + i0 * 2 = n by omega, em]
            rfl
          rw [eer, er2]
          exact Rep.mono kl (.tup' upd_same (.cons (ry.mono (kx_same u5)) (.cons (rm2.mono (kx_same (s119.trans u5))) (.one (.at rfl)))))
      · rintro σ H16 ⟨s16, k16, ⟨y10, y11, y12, rfl⟩, sacc, hst, rsacc⟩
        obtain ⟨x1, x2, rfl, q1, q2⟩ : ∃ x1 x2, sacc = [x1, x2] ∧ Rep K H16 x1 (trD e1) ∧ Rep K H16 x2 (trD e2) := by
          have rsacc' : Reps K H16 sacc [trD e1, trD e2] := rsacc
          cases rsacc' with
          | cons r1 rs =>
            cases rs with
            | cons r2 rs =>
              cases rs
              exact ⟨_, _, rfl, r1, r2⟩
        have hb1 : e1.2.back ≠ none := by
          obtain ⟨_, _, _, _, _, rfl⟩ := at1
          exact fun z => nomatch z
        have hb2 : e2.2.back ≠ none := by
          obtain ⟨_, _, _, _, _, rfl⟩ := at2
          exact fun z => nomatch z
        have hmx : mx ≠ 0 := fun z => by
          obtain ⟨t0, ht0⟩ : ∃ t0, ts[0]? = some t0 := ⟨_, List.getElem?_eq_getElem (by omega)⟩
          have := learn_one hA39 (rows := rowsT t0) fun pl hpl => by
            obtain ⟨hL, _, k, t, ht, hk, hO⟩ := hA pl hpl
            have : k = 0 := by omega
            subst this
            rw [ht0] at ht
            obtain rfl := Option.some.inj ht
            exact has_of_own hL (rowsT_leg (hts _ (List.mem_of_getElem? ht0)).1) hO
          rw [hdu] at this
          cases this
        obtain ⟨a1, xs1, rfl, ha1, rxs1⟩ := Rep.inv (ts := [playD e1.1, mvD e1.2.mv, bkD e1.2.back]) q1
        obtain ⟨a2, xs2, rfl, ha2, rxs2⟩ := Rep.inv (ts := [playD e2.1, mvD e2.2.mv, bkD e2.2.back]) q2
        obtain ⟨k1, m1, b1, rfl, rk1⟩ : ∃ k1 m1 b1, xs1 = [k1, m1, b1] ∧ Rep K H16 k1 (playD e1.1) := by
          cases rxs1 with
          | cons r1 rs =>
            cases rs with
            | cons r2 rs =>
              cases rs with
              | cons r3 rs =>
                cases rs
                exact ⟨_, _, _, rfl, r1⟩
        obtain ⟨k2, m2, b2, rfl, rk2⟩ : ∃ k1 m1 b1, xs2 = [k1, m1, b1] ∧ Rep K H16 k1 (playD e2.1) := by
          cases rxs2 with
          | cons r1 rs =>
            cases rs with
            | cons r2 rs =>
              cases rs with
              | cons r3 rs =>
                cases rs
                exact ⟨_, _, _, rfl, r1⟩
        refine ⟨_, rfl, st, _, _, _, rfl, rfl, SqL.of hst, rfl, a1, _, 0, _, rfl, rfl, ha1.sq, rfl, ?_⟩
        refine ⟨_, rfl, st, _, _, _, rfl, rfl, SqL.of hst, rfl, a2, _, 0, _, rfl, rfl, ha2.sq, rfl, ?_⟩
        refine ⟨_, _, dp_noL rk1 (noLd_play _), dp_noL rk2 (noLd_play _), shaped_play _, shaped_play _, _, rfl, ?_⟩
        rw [h12, SeqAt.eqv_refl_plain _ (plain_noL _ (noLd_play e2.1))]
        refine iteF ?_
        refine ⟨_, rfl, st, _, _, _, rfl, rfl, SqL.of hst, rfl, _, rfl, st, _, _, _, rfl, rfl, SqL.of hst, rfl, ?_⟩
        refine ⟨_, _, dp_noL q1 (noLd_tr _), dp_noL q2 (noLd_tr _), shaped_tr _, shaped_tr _, _, rfl, ?_⟩
        rw [eqv_tr hb1 hb2 hne]
        refine iteF ?_
        refine ⟨_, rfl, rfl, _, rfl, ?_⟩
        rw [show decide (V.int mx = V.int 0) = false from decide_eq_false fun z => hmx (V.int.inj z)]
        exact iteF (q _)
    | none =>
      unfold finD at rz14
      rw [hdu] at rz14
      obtain ⟨za, zx, rfl, hza, rzx⟩ := Rep.inv (ts := [.at (.str "program"), stratD d (sortR (stA pls pls.length).rows)]) rz14
      have hsq := learn_sq hk60 hPO hdu
      have hleg := learn_leg hPO
      have hbk : ∀ r ∈ (stA pls pls.length).rows, r.2.back ≠ none := fun r hr => (hsq.ok r hr).2
      obtain ⟨tT, wT, nT, zT, eT⟩ := learn_built hk60 hPO hdu
      have hwi := fun rs => within_iff hA39 hdu rs
      have hhas := learn_has hA39 hdu
      generalize (stA pls pls.length).rows = rows at *
      obtain ⟨sv, rfl, rsv⟩ : ∃ sv, zx = [.str "program", sv] ∧ Rep K H14 sv (stratD d (sortR rows)) := by
        cases rzx with
        | cons r1 rzx =>
          cases rzx with
          | cons r2 rzx =>
            cases rzx
            obtain ⟨rfl, _⟩ := Rep.inva r1
            exact ⟨_, rfl, r2⟩
      refine ⟨_, rfl, za, _, 0, _, rfl, rfl, hza.sq, rfl, rfl, ?_⟩
      rw [show decide (V.str "program" = V.str (Str.ofString "disagree")) = false by decide]
      refine ⟨_, rfl, iteF ?_⟩
      refine ⟨_, rfl, za, _, 1, _, rfl, rfl, hza.sq, rfl, ?_⟩
      refine ⟨_, rfl, za, _, 0, _, rfl, rfl, hza.sq, rfl, rfl, _, rfl, iteF ?_⟩
      refine ⟨_, rfl, sv, d, rows, rfl, rsv, hsq, fun H15 s3 => ?_⟩
      refine ⟨_, _, rfl, rfl, _, rfl, iteF ?_⟩
      have hlx15 := s3 _ _ hlx14
      refine ⟨_, rfl, ll, rfl, ⟨_, SqL.of hlx15⟩, for_list (K := K) (a := ll) (xs := lx) (fun i σ H' => Same H15 H' ∧ ∃ (y14 : Option V), σ = [some (.ref a), some (.ref b), some v, y3, some (.ref lp), some (.int mx), some (.ref ll), some (.ref za), some (.ref ls), none, none, none, none, some sv, y14, none, none, none])
        ⟨Same.refl _, none, rfl⟩ (fun i σ H' _ h => SqL.of (h.1 _ _ hlx15)) ?_ ?_⟩
      · rintro i x σ H16 hx ⟨s4, y14, rfl⟩
        have s34 := s3.trans s4
        have hi := (List.getElem?_eq_some_iff.mp hx).1
        obtain ⟨pl, hpl⟩ : ∃ pl, pls[i]? = some pl := ⟨_, List.getElem?_eq_getElem (by omega)⟩
        obtain ⟨pv, hpv, rpv⟩ := rlx14.getD (show (pls.map playD)[i]? = some (playD pl) by rw [List.getElem?_map, hpl]; rfl)
        rw [hx] at hpv
        obtain rfl := Option.some.inj hpv
        obtain ⟨hL, hlen⟩ := hA39 pl (List.mem_of_getElem? hpl)
        refine ⟨_, rfl, _, rfl, sv, x, d, d, rows, pl, rfl, rsv.mono (kx_same s34), hsq.nd, hsq.ok, rpv.mono (kx_same s34), hL, hlen, legs_take hleg hL, fun y H17 s5 ry => ?_⟩
        rw [(flt_iff hL hleg).mpr (hhas pl (List.mem_of_getElem? hpl))] at ry
        obtain ⟨rfl, _⟩ := Rep.inva (w := V.non) ry
        exact ⟨rfl, _, rfl, iteF ⟨s4.trans s5, _, rfl⟩⟩
      · rintro σ H16 ⟨s4, y14, rfl⟩
        have s34 := s3.trans s4
        have T16 : Tabs T H16 := T14.ext fun x o e => s34 _ _ e
        have rsv16 := rsv.mono (kx_same s34)
        refine ⟨_, rfl, _, rfl, sv, d, tT, rfl, ?_, wT, kd, hk60.2, nT, zT, T16, fun zp H17 e17 T17 rzp => ?_⟩
        · rw [eT]
          exact rsv16
        have k17 : Kx H14 H17 := (kx_same s34).trans (extN_kx e17)
        have hzT : szT tT ≤ 90000 := by
          rw [szT_progB] at zT
          exact zT
        refine ⟨v, zp, d, tT, rfl, rv14.mono k17, rzp, wT, hKd, by omega, hzT, fun y H18 s5 ry => ?_⟩
        have k18 := k17.trans (kx_same s5)
        rw [eT] at ry
        have sm := strat_small (N := 18) (M := 7) wT nT ⟨kd, hd7⟩
        rw [eT] at sm
        refine ⟨_, rfl, y, sv, _, _, rfl, ry, rsv.mono k18, noL_of _ (noLd_strat kd _), (by have := dep_strat (show dep d ≤ 5 by omega) (sortR rows); omega), by omega, fun r hr' => ?_⟩
        rw [hr'.mpr rfl]
        refine ⟨_, rfl, iteF ?_⟩
        have hlx18 : H18 ll = some (.lst lx) := s5 _ _ (e17 _ _ (s34 _ _ hlx14) (fun ps z => by cases z))
        have hls18 : H18 ls = some (.lst zs) := s5 _ _ (e17 _ _ (s34 _ _ hls) (fun ps z => by cases z))
        refine ⟨_, rfl, ls, rfl, ⟨_, SqL.of hls18⟩, for_list (K := K) (a := ls) (xs := zs) (fun i σ H' => Same H18 H' ∧ ∃ (y15 y16 : Option V), σ = [some (.ref a), some (.ref b), some v, y3, some (.ref lp), some (.int mx), some (.ref ll), some (.ref za), some (.ref ls), none, none, none, none, some sv, y14, y15, y16, none])
          ⟨Same.refl _, none, none, rfl⟩ (fun i σ H' _ h => SqL.of (h.1 _ _ hls18)) ?_ ?_⟩
        · rintro i x σ H19 hx ⟨s6, y15, y16, rfl⟩
          have hi := (List.getElem?_eq_some_iff.mp hx).1
          have lzs2 := rzs.length
          rw [List.length_map] at lzs2
          obtain ⟨t, ht⟩ : ∃ t, ts[i]? = some t := ⟨_, List.getElem?_eq_getElem (by omega)⟩
          obtain ⟨wt, nt⟩ := hts t (List.mem_of_getElem? ht)
          obtain ⟨pv, hpv, rpv⟩ := rzs.getD (show (ts.map fun t => stratD d (sortR (rowsT t)))[i]? = some (stratD d (sortR (rowsT t))) by rw [List.getElem?_map, ht]; rfl)
          rw [hx] at hpv
          obtain rfl := Option.some.inj hpv
          have k19 := k18.trans (kx_same s6)
          have hlx19 := s6 _ _ hlx18
          have hlegt := rowsT_leg wt
          have hzt : szT t ≤ 90000 := by
            have := szT_prog (M := 7) wt ⟨kd, hd7⟩
            omega
          refine ⟨_, rfl, ll, rfl, ⟨_, SqL.of hlx19⟩, fun fl nfl => ?_⟩
          refine lc_list (K := K) (a := ll) (xs := lx) (fun i H' => Same H19 H' ∧ ∃ acc, H' fl = some (.lst acc) ∧ acc.length ≤ i ∧ (acc = [] ↔ ∀ pl ∈ pls.take i, Has (rowsT t) pl))
            ⟨same_new nfl _, [], upd_same, Nat.le_refl _, ⟨fun _ pl h => (by cases h), fun _ => rfl⟩⟩ (fun i H' _ h => SqL.of (h.1 _ _ hlx19)) ?_ ?_
          · rintro i2 x2 H20 hx2 ⟨s7, facc, hfl, lfl, hff⟩
            have hi2 := (List.getElem?_eq_some_iff.mp hx2).1
            obtain ⟨pl, hpl⟩ : ∃ pl, pls[i2]? = some pl := ⟨_, List.getElem?_eq_getElem (by omega)⟩
            obtain ⟨pv2, hpv2, rpv2⟩ := rlx14.getD (show (pls.map playD)[i2]? = some (playD pl) by rw [List.getElem?_map, hpl]; rfl)
            rw [hx2] at hpv2
            obtain rfl := Option.some.inj hpv2
            obtain ⟨hL, hlen⟩ := hA39 pl (List.mem_of_getElem? hpl)
            have k20 := k19.trans (kx_same s7)
            have etk : pls.take (i2 + 1) = pls.take i2 ++ [pl] := by
              rw [List.take_add_one, hpl]
              rfl
            refine ⟨rfl, ?_⟩
            refine ⟨_, rfl, _, rfl, x, x2, d, d, rowsT t, pl, rfl, rpv.mono k20, rowsB_nodup _ _ _, rowsT_ok wt, rpv2.mono k20, hL, hlen, legs_take hlegt hL, fun y H21 s8 ry => ?_⟩
            have hfl21 := s8 _ _ hfl
            cases hft : flt (rowsT t) pl (pl.length / 2) with
            | none =>
              rw [hft] at ry
              obtain ⟨rfl, _⟩ := Rep.inva (w := V.non) ry
              have hh := (flt_iff hL hlegt).mp hft
              refine ⟨rfl, _, rfl, iteF ⟨s7.trans s8, facc, hfl21, by omega, hff.trans ⟨fun q pl' hp => ?_, fun q pl' hp => q pl' (by rw [etk]; exact List.mem_append_left _ hp)⟩⟩⟩
              rw [etk] at hp
              rcases List.mem_append.mp hp with hp | hp
              · exact q pl' hp
              · rw [List.mem_singleton.mp hp]
                exact hh
            | some k =>
              rw [hft] at ry
              obtain ⟨rfl, _⟩ := Rep.inva (w := V.int ((1 + k * 2 : Nat) : Int)) ry
              refine ⟨rfl, _, rfl, iteT ⟨_, rfl, facc, hfl21, small6 (by omega), fun o u e => ?_, facc ++ [x2], upd_same, by rw [List.length_append, List.length_singleton]; omega, ⟨fun z => ?_, fun q => ?_⟩⟩⟩
              · rw [upd_ne (ne_of_none e nfl)]
                exact s8 _ _ (s7 _ _ e)
              · cases facc <;> cases z
              · have := (flt_iff hL hlegt).mpr (q pl (by rw [etk]; exact List.mem_append_right _ (List.mem_singleton.mpr rfl)))
                rw [hft] at this
                cases this
          rintro H20 ⟨s7, facc, hfl, lfl, hff⟩
          rw [List.take_of_length_le (by omega)] at hff
          have k20 := k19.trans (kx_same s7)
          refine ⟨fl, facc, rfl, .inl (SqL.of hfl), rfl, ?_⟩
          have hb : (∀ r ∈ rows, lkR (rowsT t) r.1 = some r.2) ↔ decide (V.int ((facc.length : Nat) : Int) = V.int 0) = true := by
            refine (hwi (rowsT t)).trans (hff.symm.trans ⟨fun z => ?_, fun z => ?_⟩)
            · rw [z]
              rfl
            · have z1 := V.int.inj (of_decide_eq_true z)
              exact List.length_eq_zero_iff.mp (by omega)
          have hzp := rowsT_len t
          rw [szT_progB] at hzp
          have hln := hsq.len
          refine ⟨_, rfl, _, rfl, sv, x, d, d, rows, rowsT t, rfl, rsv.mono k20, rpv.mono k20, rowsB_nodup _ _ _, hbk, fun r hr => (rowsT_ok wt r hr).2, hln, by omega, fun H21 s8 => ?_⟩
          rw [wit_eq (rowsB_nodup _ _ _) hb]
          generalize decide (V.int ((facc.length : Nat) : Int) = V.int 0) = bb
          refine ⟨_, rfl, .bl bb, .bl bb, .at (.bl bb), .at (.bl bb), rfl, .at rfl, .at rfl, rfl, by show 0 < 24; omega, by show 1 + 0 ≤ 1000000; omega, fun r hr' => ?_⟩
          rw [hr'.mpr rfl]
          exact ⟨_, rfl, iteF ⟨s6.trans (s7.trans s8), _, _, rfl⟩⟩
        · rintro σ H19 ⟨s6, y15, y16, rfl⟩
          exact q _
end
end Pk

namespace Pk
open PySem PySem.Spec PyProof.Rows L2
set_option maxHeartbeats 0

def d_is_kind : He.DefD := ⟨("is_kind", none), "is_kind", "is_kind", defArgs s_is_kind, defBody s_is_kind, defScope s_is_kind, [], []⟩
def d_kind_at : He.DefD := ⟨("kind_at", none), "kind_at", "kind_at", defArgs s_kind_at, defBody s_kind_at, defScope s_kind_at, [], []⟩
def d_is_whole : He.DefD := ⟨("is_whole", none), "is_whole", "is_whole", defArgs s_is_whole, defBody s_is_whole, defScope s_is_whole, [], []⟩
def d_is_answer : He.DefD := ⟨("is_answer", none), "is_answer", "is_answer", defArgs s_is_answer, defBody s_is_answer, defScope s_is_answer, [], []⟩
def d_is_tuple_of : He.DefD := ⟨("is_tuple_of", none), "is_tuple_of", "is_tuple_of", defArgs s_is_tuple_of, defBody s_is_tuple_of, defScope s_is_tuple_of, [], []⟩
def d__is_move : He.DefD := ⟨("_is_move", none), "_is_move", "_is_move", defArgs s__is_move, defBody s__is_move, defScope s__is_move, [], []⟩
def d__is_later_step : He.DefD := ⟨("_is_later_step", none), "_is_later_step", "_is_later_step", defArgs s__is_later_step, defBody s__is_later_step, defScope s__is_later_step, [], []⟩
def d__is_placed : He.DefD := ⟨("_is_placed", none), "_is_placed", "_is_placed", defArgs s__is_placed, defBody s__is_placed, defScope s__is_placed, [], []⟩
def d__reason_against : He.DefD := ⟨("_reason_against", none), "_reason_against", "_reason_against", defArgs s__reason_against, defBody s__reason_against, defScope s__reason_against, [], []⟩
def d__note_open : He.DefD := ⟨("_note_open", none), "_note_open", "_note_open", defArgs s__note_open, defBody s__note_open, defScope s__note_open, [], []⟩
def d_fault_of : He.DefD := ⟨("fault_of", none), "fault_of", "fault_of", defArgs s_fault_of, defBody s_fault_of, defScope s_fault_of, [], []⟩
def d__sight_behind : He.DefD := ⟨("_sight_behind", none), "_sight_behind", "_sight_behind", defArgs s__sight_behind, defBody s__sight_behind, defScope s__sight_behind, [], []⟩
def d_program_sight : He.DefD := ⟨("program_sight", none), "program_sight", "program_sight", defArgs s_program_sight, defBody s_program_sight, defScope s_program_sight, [], []⟩
def d_alone : He.DefD := ⟨("alone", none), "alone", "alone", defArgs s_alone, defBody s_alone, defScope s_alone, [], []⟩
def d_pairs : He.DefD := ⟨("pairs", none), "pairs", "pairs", defArgs s_pairs, defBody s_pairs, defScope s_pairs, [], []⟩
def d_learned : He.DefD := ⟨("learned", none), "learned", "learned", defArgs s_learned, defBody s_learned, defScope s_learned, [], []⟩
def d__steps_of : He.DefD := ⟨("_steps_of", none), "_steps_of", "_steps_of", defArgs s__steps_of, defBody s__steps_of, defScope s__steps_of, [], []⟩
def d_is_within : He.DefD := ⟨("is_within", none), "is_within", "is_within", defArgs s_is_within, defBody s_is_within, defScope s_is_within, [], []⟩
def d_grown : He.DefD := ⟨("grown", none), "grown", "grown", defArgs s_grown, defBody s_grown, defScope s_grown, [], []⟩
def d_body_of : He.DefD := ⟨("body_of", none), "body_of", "body_of", defArgs s_body_of, defBody s_body_of, defScope s_body_of, [], []⟩
def d__is_row : He.DefD := ⟨("_is_row", none), "_is_row", "_is_row", defArgs s__is_row, defBody s__is_row, defScope s__is_row, [], []⟩
def d_is_strategy : He.DefD := ⟨("is_strategy", none), "is_strategy", "is_strategy", defArgs s_is_strategy, defBody s_is_strategy, defScope s_is_strategy, [], []⟩
def d__sights_behind : He.DefD := ⟨("_sights_behind", none), "_sights_behind", "_sights_behind", defArgs s__sights_behind, defBody s__sights_behind, defScope s__sights_behind, [], []⟩
def d__step_of_body : He.DefD := ⟨("_step_of_body", none), "_step_of_body", "_step_of_body", defArgs s__step_of_body, defBody s__step_of_body, defScope s__step_of_body, [], []⟩
def d_meaning : He.DefD := ⟨("meaning", none), "meaning", "meaning", defArgs s_meaning, defBody s_meaning, defScope s_meaning, [], []⟩
def d__spread_sight : He.DefD := ⟨("_spread_sight", none), "_spread_sight", "_spread_sight", defArgs s__spread_sight, defBody s__spread_sight, defScope s__spread_sight, [], []⟩
def d_program_of : He.DefD := ⟨("program_of", none), "program_of", "program_of", defArgs s_program_of, defBody s_program_of, defScope s_program_of, [], []⟩
def d__step_at : He.DefD := ⟨("_step_at", none), "_step_at", "_step_at", defArgs s__step_at, defBody s__step_at, defScope s__step_at, [], []⟩
def d_reply : He.DefD := ⟨("reply", none), "reply", "reply", defArgs s_reply, defBody s_reply, defScope s_reply, [], []⟩
def d_fault_in : He.DefD := ⟨("fault_in", none), "fault_in", "fault_in", defArgs s_fault_in, defBody s_fault_in, defScope s_fault_in, [], []⟩
def d__law_cell : He.DefD := ⟨("_law_cell", none), "_law_cell", "_law_cell", defArgs s__law_cell, defBody s__law_cell, defScope s__law_cell, [], []⟩
def d__law_digits : He.DefD := ⟨("_law_digits", none), "_law_digits", "_law_digits", defArgs s__law_digits, defBody s__law_digits, defScope s__law_digits, [], []⟩
def d__law_draw : He.DefD := ⟨("_law_draw", none), "_law_draw", "_law_draw", defArgs s__law_draw, defBody s__law_draw, defScope s__law_draw, [], []⟩
def d__law_box : He.DefD := ⟨("_law_box", none), "_law_box", "_law_box", defArgs s__law_box, defBody s__law_box, defScope s__law_box, [], []⟩
def d__law_same : He.DefD := ⟨("_law_same", none), "_law_same", "_law_same", defArgs s__law_same, defBody s__law_same, defScope s__law_same, [], []⟩
def d__law_kind : He.DefD := ⟨("_law_kind", none), "_law_kind", "_law_kind", defArgs s__law_kind, defBody s__law_kind, defScope s__law_kind, [], []⟩
def d__law_body : He.DefD := ⟨("_law_body", none), "_law_body", "_law_body", defArgs s__law_body, defBody s__law_body, defScope s__law_body, [], []⟩
def d__law_program : He.DefD := ⟨("_law_program", none), "_law_program", "_law_program", defArgs s__law_program, defBody s__law_program, defScope s__law_program, [], []⟩
def d__law_sight : He.DefD := ⟨("_law_sight", none), "_law_sight", "_law_sight", defArgs s__law_sight, defBody s__law_sight, defScope s__law_sight, [], []⟩
def d__law_asker_sight : He.DefD := ⟨("_law_asker_sight", none), "_law_asker_sight", "_law_asker_sight", defArgs s__law_asker_sight, defBody s__law_asker_sight, defScope s__law_asker_sight, [], []⟩
def d__law_alone : He.DefD := ⟨("_law_alone", none), "_law_alone", "_law_alone", defArgs s__law_alone, defBody s__law_alone, defScope s__law_alone, [], []⟩
def d__law_open : He.DefD := ⟨("_law_open", none), "_law_open", "_law_open", defArgs s__law_open, defBody s__law_open, defScope s__law_open, [], []⟩
def d__law_at : He.DefD := ⟨("_law_at", none), "_law_at", "_law_at", defArgs s__law_at, defBody s__law_at, defScope s__law_at, [], []⟩
def d__law_goes_on : He.DefD := ⟨("_law_goes_on", none), "_law_goes_on", "_law_goes_on", defArgs s__law_goes_on, defBody s__law_goes_on, defScope s__law_goes_on, [], []⟩
def d__law_after : He.DefD := ⟨("_law_after", none), "_law_after", "_law_after", defArgs s__law_after, defBody s__law_after, defScope s__law_after, [], []⟩
def d__law_rows_behind : He.DefD := ⟨("_law_rows_behind", none), "_law_rows_behind", "_law_rows_behind", defArgs s__law_rows_behind, defBody s__law_rows_behind, defScope s__law_rows_behind, [], []⟩
def d__law_rows : He.DefD := ⟨("_law_rows", none), "_law_rows", "_law_rows", defArgs s__law_rows, defBody s__law_rows, defScope s__law_rows, [], []⟩
def d__law_reply : He.DefD := ⟨("_law_reply", none), "_law_reply", "_law_reply", defArgs s__law_reply, defBody s__law_reply, defScope s__law_reply, [], []⟩
def d__law_play : He.DefD := ⟨("_law_play", none), "_law_play", "_law_play", defArgs s__law_play, defBody s__law_play, defScope s__law_play, [], []⟩
def d_law : He.DefD := ⟨("law", none), "law", "law", defArgs s_law, defBody s_law, defScope s_law, [], []⟩
def fn : List He.DefD := [d_is_kind, d_kind_at, d_is_whole, d_is_answer, d_is_tuple_of, d__is_move, d__is_later_step, d__is_placed, d__reason_against, d__note_open, d_fault_of, d__sight_behind, d_program_sight, d_alone, d_pairs, d_learned, d__steps_of, d_is_within, d_grown, d_body_of, d__is_row, d_is_strategy, d__sights_behind, d__step_of_body, d_meaning, d__spread_sight, d_program_of, d__step_at, d_reply, d_fault_in, d__law_cell, d__law_digits, d__law_draw, d__law_box, d__law_same, d__law_kind, d__law_body, d__law_program, d__law_sight, d__law_asker_sight, d__law_alone, d__law_open, d__law_at, d__law_goes_on, d__law_after, d__law_rows_behind, d__law_rows, d__law_reply, d__law_play, d_law]
def fa : List He.Fa := [.glo "is_kind", .glo "kind_at", .glo "is_whole", .glo "is_answer", .glo "is_tuple_of", .glo "_is_move", .glo "_is_later_step", .glo "_is_placed", .glo "_reason_against", .glo "_note_open", .glo "fault_of", .glo "_sight_behind", .glo "program_sight", .glo "alone", .glo "pairs", .glo "learned", .glo "_steps_of", .glo "is_within", .glo "grown", .glo "body_of", .glo "_is_row", .glo "is_strategy", .glo "_sights_behind", .glo "_step_of_body", .glo "meaning", .glo "_spread_sight", .glo "program_of", .glo "_step_at", .glo "reply", .glo "fault_in", .glo "_law_cell", .glo "_law_digits", .glo "_law_draw", .glo "_law_box", .glo "_law_same", .glo "_law_kind", .glo "_law_body", .glo "_law_program", .glo "_law_sight", .glo "_law_asker_sight", .glo "_law_alone", .glo "_law_open", .glo "_law_at", .glo "_law_goes_on", .glo "_law_after", .glo "_law_rows_behind", .glo "_law_rows", .glo "_law_reply", .glo "_law_play", .glo "law", .free "isinstance", .free "tuple", .free "len", .free "int", .free "bool", .free "all", .free "enumerate", .free "range", .free "sorted", .free "zip", .free "str", .glo "BEGINNING"]
abbrev R : PySem.W.OpenRow := PySem.W.OpenLaw.row PySem.Challenge.rw_playsense_k97_whole_plays_tell_the_least
def adK (K : PySem.W.Frag) (a : Addr) (i : Nat) : Addr := match K.lookup a with
  | some ⟨_, _, .seq its _, _⟩ => (match its[i]? with
    | some (.ref b) => b
    | _ => 0)
  | _ => 0
def tupK (K : PySem.W.Frag) (a : Addr) (vs : List V) : Bool := match K.lookup a with
  | some ⟨.type c, _, .seq its _, _⟩ => decide (c = "tuple") && (decide (its.size ≤ sizeLine) && He.relAll vs its.toList)
  | _ => false
theorem tupK_ok {K : PySem.W.Frag} {a : Addr} {vs : List V} (h : tupK K a vs = true) (H : Hp) : TupAt K H a vs := by
  unfold tupK at h
  split at h
  · next c d its n sl e =>
    obtain ⟨h1, h2⟩ := Bool.and_eq_true_iff.mp h
    obtain ⟨h2, h3⟩ := Bool.and_eq_true_iff.mp h2
    have ec := of_decide_eq_true h1
    subst ec
    exact .inr ⟨_, its, n, e, rfl, rfl, of_decide_eq_true h2, He.relAll_ok h3⟩
  · cases h
def bg0 (K : PySem.W.Frag) : Addr := He.ga K "BEGINNING"
def bg1 (K : PySem.W.Frag) : Addr := adK K (bg0 K) 0
def bg2 (K : PySem.W.Frag) : Addr := adK K (bg1 K) 1
def exB (K : PySem.W.Frag) : Bool := tupK K (bg0 K) [.ref (bg1 K), .non] && (tupK K (bg1 K) [.str "ask", .ref (bg2 K)] && tupK K (bg2 K) [])
theorem beg_ok {K : PySem.W.Frag} (h : exB K = true) (H : Hp) : Rep K H (.ref (bg0 K)) (stD BEG) := by
  obtain ⟨h1, h2⟩ := Bool.and_eq_true_iff.mp h
  obtain ⟨h2, h3⟩ := Bool.and_eq_true_iff.mp h2
  exact .tup (tupK_ok h1 H) (.cons (.tup (tupK_ok h2 H) (.cons (.at rfl) (.one (.tup (tupK_ok h3 H) .nil)))) (.one (.at rfl)))
abbrev tF : List He.Defn := [("program_of", none)]
def tA (K : PySem.W.Frag) (x : Str) : Addr := (He.cT K (x, none)).2
def cA (K : PySem.W.Frag) (x : Str) : Addr := (He.cT K (x, none)).1
def exT (K : PySem.W.Frag) : Bool := exB K && decide ((tF.map fun p => (He.cT K p).2).Nodup)
abbrev qL (x : Str) (st : Stmt) : Str := (envOfC x (defScope st) 0 0 .none).qual ++ "<lambda>"
abbrev tT (K : PySem.W.Frag) : List (Addr × Str) := [(tA K "program_of", qLam "program_of")]
abbrev hk : PySem.W.Hook := He.hookX 4 fa fn [] tF exT
def ob (s : PySem.W.SharedT) : He.AlX := He.obsX 4 fa fn [] tF exT (HandSHeadRun.getT s)
theorem ob_eq (s : PySem.W.SharedT) : ob s = hk.obs s.abs := He.obsX_eq (HandSHeadRun.getT_eq s)
def names0 : List PySem.Str := ["__name__", "is_kind", "kind_at", "is_whole", "is_answer", "is_tuple_of", "BEGINNING", "_is_move", "_is_later_step", "_is_placed", "_reason_against", "_note_open", "fault_of", "_sight_behind", "program_sight", "alone", "pairs", "learned", "_steps_of", "is_within", "grown", "body_of", "_is_row", "is_strategy", "_sights_behind", "_step_of_body", "meaning", "_spread_sight", "program_of", "_step_at"]
def names1 : List PySem.Str := ["reply", "fault_in", "_law_cell", "_law_digits", "_law_draw", "_law_box", "_law_same", "_law_kind", "_law_body", "_law_program", "_law_sight", "_law_asker_sight", "_law_alone", "_law_open", "_law_at", "_law_goes_on", "_law_after", "_law_rows_behind", "_law_rows", "_law_reply", "_law_play"]
abbrev names : List PySem.Str := names0 ++ names1
theorem run (w : World) : HandSHeadRun.RunEq R (PySem.W.view R.prog [58]) hk ob 4000 names w := by
  intro os
  kernel_rfl

theorem walk_ofTsE {l : PySem.W.OpenLaw} {n k : Nat} {q : Program} {loose : List Str} {XP : (Str → Option Value) → Heap → Prop} {YP : World → Heap → Prop} {d : DefRec} {CX : CXT} {x : Str}
    (hn : l.most = some n) (hn2 : n ≤ sizeLine) (hdf : d.params.defaults = []) (hr : Room k callerA)
    (F : ∀ (w : World) (mg : Str → Option Value) (fa : Addr) (h : Heap), YP w h → h.Ns mainGlobals mg → mg d.name = some (.ref fa) →
      ∃ (K : PySem.W.Frag) (fd : FuncData) (cs : List (Addr × Addr)) (sp : Sp), K.In h ∧ (∀ p ∈ cs, h.get? p.2 = some { cls := .none, data := .fields #[] }) ∧ (∀ p ∈ cs, K.lookup p.2 = none) ∧ (∀ p ∈ cs, PySem.W.CodeHd h p.1 p.2) ∧
        (∀ (s : Shared) (u : Value), BindsTo s fd ⟨[u], []⟩ [(x, u)]) ∧
        (∀ (H : Hp) (a : Addr) (ns : List Int), ns.length ≤ n → (∀ p ∈ cs, H p.2 = some (.tbl #[])) → SqL K H a (ns.map V.int) → sp [.ref a] H (fun v _ => v = .bl true) fun _ _ _ => False) ∧
        ∀ base : Heap, K.In base → base.Ns mainGlobals mg → (∀ p ∈ cs, LamX.TabB base mg p.1 p.2) → FnOk l.prog w K mg base CX k fa fd [x] sp)
    (hCX : ∀ (H : Hp) (s : Shared) (e : Value) (s' : Shared), CX [] H s (fun _ _ _ => False) e s' → False) :
    PySem.W.WalkO q loose XP YP l.row.toRowW d [] (fun f vs => PySem.call f vs) := by
  refine Att.attach_call hn hdf fun w s₀ s₁ mg mb fa o pm cd doc a vs ns G Y ho hd hcd hmg hobj hints hlen hg => ?_
  obtain ⟨K, fd, cs, sp, KX, hT, nT, C, hb, hsp, hF⟩ := F w mg fa _ Y G.T.g hmg
  exact LamX.law_callTs KX G.T.g G.T.b G.T.builtins G.T.nolimit hg hT nT C G.T.bmain hobj hints (Nat.le_trans hlen hn2) hr hF hb (fun H hH hS => hsp H a ns hlen hH hS) fun H e s' => hCX H s₁ e s'
theorem facts {P : Program} {w : World} {K : PySem.W.Frag} {h : Heap} {mg : Str → Option Value} {f : Addr} (X : K.In h) (G : h.Ns mainGlobals mg) (hfa : mg ("law" : Str) = some (.ref f)) (cX : He.SaysX fa fn [] tF exT w h K) :
    ∃ fd : FuncData, (∀ (s : Shared) (v : Value), BindsTo s fd ⟨[v], []⟩ [("script", v)]) ∧ ∀ base : Heap, K.In base → base.Ns mainGlobals mg → (∀ p ∈ tF.map (He.cT K), LamX.TabB base mg p.1 p.2) → FnOk P w K mg base CX0 121 f fd ["script"] (spLaw K (tT K)) := by
  have c := cX.t.d
  have hBG : mg "BEGINNING" = some (.ref (bg0 K)) := He.glo_ok X G (c.fact 61 (f := .glo "BEGINNING") rfl)
  have hKB : ∀ H, Rep K H (.ref (bg0 K)) (stD BEG) := beg_ok (Bool.and_eq_true_iff.mp cX.more).1
  obtain ⟨fd_is_kind, F_is_kind⟩ := c.def_ 0 (d := d_is_kind) rfl
  have D_is_kind : Df K mg "is_kind" s_is_kind ["value"] _ fd_is_kind := ⟨F_is_kind, F_is_kind.bindsN fun _ _ _ _ _ _ us hl => match us, hl with | [_], _ => rfl, He.glo_ok X G (c.fact 0 (f := .glo "is_kind") rfl)⟩
  obtain ⟨fd_kind_at, F_kind_at⟩ := c.def_ 1 (d := d_kind_at) rfl
  have D_kind_at : Df K mg "kind_at" s_kind_at ["kind", "place"] _ fd_kind_at := ⟨F_kind_at, F_kind_at.bindsN fun _ _ _ _ _ _ us hl => match us, hl with | [_, _], _ => rfl, He.glo_ok X G (c.fact 1 (f := .glo "kind_at") rfl)⟩
  obtain ⟨fd_is_whole, F_is_whole⟩ := c.def_ 2 (d := d_is_whole) rfl
  have D_is_whole : Df K mg "is_whole" s_is_whole ["value"] _ fd_is_whole := ⟨F_is_whole, F_is_whole.bindsN fun _ _ _ _ _ _ us hl => match us, hl with | [_], _ => rfl, He.glo_ok X G (c.fact 2 (f := .glo "is_whole") rfl)⟩
  obtain ⟨fd_is_answer, F_is_answer⟩ := c.def_ 3 (d := d_is_answer) rfl
  have D_is_answer : Df K mg "is_answer" s_is_answer ["value"] _ fd_is_answer := ⟨F_is_answer, F_is_answer.bindsN fun _ _ _ _ _ _ us hl => match us, hl with | [_], _ => rfl, He.glo_ok X G (c.fact 3 (f := .glo "is_answer") rfl)⟩
  obtain ⟨fd_is_tuple_of, F_is_tuple_of⟩ := c.def_ 4 (d := d_is_tuple_of) rfl
  have D_is_tuple_of : Df K mg "is_tuple_of" s_is_tuple_of ["value", "many"] _ fd_is_tuple_of := ⟨F_is_tuple_of, F_is_tuple_of.bindsN fun _ _ _ _ _ _ us hl => match us, hl with | [_, _], _ => rfl, He.glo_ok X G (c.fact 4 (f := .glo "is_tuple_of") rfl)⟩
  obtain ⟨fd__is_move, F__is_move⟩ := c.def_ 5 (d := d__is_move) rfl
  have D__is_move : Df K mg "_is_move" s__is_move ["value"] _ fd__is_move := ⟨F__is_move, F__is_move.bindsN fun _ _ _ _ _ _ us hl => match us, hl with | [_], _ => rfl, He.glo_ok X G (c.fact 5 (f := .glo "_is_move") rfl)⟩
  obtain ⟨fd__is_later_step, F__is_later_step⟩ := c.def_ 6 (d := d__is_later_step) rfl
  have D__is_later_step : Df K mg "_is_later_step" s__is_later_step ["value", "number"] _ fd__is_later_step := ⟨F__is_later_step, F__is_later_step.bindsN fun _ _ _ _ _ _ us hl => match us, hl with | [_, _], _ => rfl, He.glo_ok X G (c.fact 6 (f := .glo "_is_later_step") rfl)⟩
  obtain ⟨fd__is_placed, F__is_placed⟩ := c.def_ 7 (d := d__is_placed) rfl
  have D__is_placed : Df K mg "_is_placed" s__is_placed ["kind", "move", "answered"] _ fd__is_placed := ⟨F__is_placed, F__is_placed.bindsN fun _ _ _ _ _ _ us hl => match us, hl with | [_, _, _], _ => rfl, He.glo_ok X G (c.fact 7 (f := .glo "_is_placed") rfl)⟩
  obtain ⟨fd__reason_against, F__reason_against⟩ := c.def_ 8 (d := d__reason_against) rfl
  have D__reason_against : Df K mg "_reason_against" s__reason_against ["kind", "play", "waiting", "step"] _ fd__reason_against := ⟨F__reason_against, F__reason_against.bindsN fun _ _ _ _ _ _ us hl => match us, hl with | [_, _, _, _], _ => rfl, He.glo_ok X G (c.fact 8 (f := .glo "_reason_against") rfl)⟩
  obtain ⟨fd__note_open, F__note_open⟩ := c.def_ 9 (d := d__note_open) rfl
  have D__note_open : Df K mg "_note_open" s__note_open ["waiting", "number", "step"] _ fd__note_open := ⟨F__note_open, F__note_open.bindsN fun _ _ _ _ _ _ us hl => match us, hl with | [_, _, _], _ => rfl, He.glo_ok X G (c.fact 9 (f := .glo "_note_open") rfl)⟩
  obtain ⟨fd_fault_of, F_fault_of⟩ := c.def_ 10 (d := d_fault_of) rfl
  have D_fault_of : Df K mg "fault_of" s_fault_of ["kind", "play"] _ fd_fault_of := ⟨F_fault_of, F_fault_of.bindsN fun _ _ _ _ _ _ us hl => match us, hl with | [_, _], _ => rfl, He.glo_ok X G (c.fact 10 (f := .glo "fault_of") rfl)⟩
  obtain ⟨fd__sight_behind, F__sight_behind⟩ := c.def_ 11 (d := d__sight_behind) rfl
  have D__sight_behind : Df K mg "_sight_behind" s__sight_behind ["play"] _ fd__sight_behind := ⟨F__sight_behind, F__sight_behind.bindsN fun _ _ _ _ _ _ us hl => match us, hl with | [_], _ => rfl, He.glo_ok X G (c.fact 11 (f := .glo "_sight_behind") rfl)⟩
  obtain ⟨fd_program_sight, F_program_sight⟩ := c.def_ 12 (d := d_program_sight) rfl
  have D_program_sight : Df K mg "program_sight" s_program_sight ["play"] _ fd_program_sight := ⟨F_program_sight, F_program_sight.bindsN fun _ _ _ _ _ _ us hl => match us, hl with | [_], _ => rfl, He.glo_ok X G (c.fact 12 (f := .glo "program_sight") rfl)⟩
  obtain ⟨fd_alone, F_alone⟩ := c.def_ 13 (d := d_alone) rfl
  have D_alone : Df K mg "alone" s_alone ["play", "numbers"] _ fd_alone := ⟨F_alone, F_alone.bindsN fun _ _ _ _ _ _ us hl => match us, hl with | [_, _], _ => rfl, He.glo_ok X G (c.fact 13 (f := .glo "alone") rfl)⟩
  obtain ⟨fd_pairs, F_pairs⟩ := c.def_ 14 (d := d_pairs) rfl
  have D_pairs : Df K mg "pairs" s_pairs ["play"] _ fd_pairs := ⟨F_pairs, F_pairs.bindsN fun _ _ _ _ _ _ us hl => match us, hl with | [_], _ => rfl, He.glo_ok X G (c.fact 14 (f := .glo "pairs") rfl)⟩
  obtain ⟨fd_learned, F_learned⟩ := c.def_ 15 (d := d_learned) rfl
  have D_learned : Df K mg "learned" s_learned ["kind", "plays"] _ fd_learned := ⟨F_learned, F_learned.bindsN fun _ _ _ _ _ _ us hl => match us, hl with | [_, _], _ => rfl, He.glo_ok X G (c.fact 15 (f := .glo "learned") rfl)⟩
  obtain ⟨fd__steps_of, F__steps_of⟩ := c.def_ 16 (d := d__steps_of) rfl
  have D__steps_of : Df K mg "_steps_of" s__steps_of ["strategy"] _ fd__steps_of := ⟨F__steps_of, F__steps_of.bindsN fun _ _ _ _ _ _ us hl => match us, hl with | [_], _ => rfl, He.glo_ok X G (c.fact 16 (f := .glo "_steps_of") rfl)⟩
  obtain ⟨fd_is_within, F_is_within⟩ := c.def_ 17 (d := d_is_within) rfl
  have D_is_within : Df K mg "is_within" s_is_within ["strategy", "other"] _ fd_is_within := ⟨F_is_within, F_is_within.bindsN fun _ _ _ _ _ _ us hl => match us, hl with | [_, _], _ => rfl, He.glo_ok X G (c.fact 17 (f := .glo "is_within") rfl)⟩
  obtain ⟨fd_grown, F_grown⟩ := c.def_ 18 (d := d_grown) rfl
  have D_grown : Df K mg "grown" s_grown ["root", "spread", "put_together"] _ fd_grown := ⟨F_grown, F_grown.bindsN fun _ _ _ _ _ _ us hl => match us, hl with | [_, _, _], _ => rfl, He.glo_ok X G (c.fact 18 (f := .glo "grown") rfl)⟩
  obtain ⟨fd_body_of, F_body_of⟩ := c.def_ 19 (d := d_body_of) rfl
  have D_body_of : Df K mg "body_of" s_body_of ["note", "parts"] _ fd_body_of := ⟨F_body_of, F_body_of.bindsN fun _ _ _ _ _ _ us hl => match us, hl with | [_, _], _ => rfl, He.glo_ok X G (c.fact 19 (f := .glo "body_of") rfl)⟩
  obtain ⟨fd__is_row, F__is_row⟩ := c.def_ 20 (d := d__is_row) rfl
  have D__is_row : Df K mg "_is_row" s__is_row ["kind", "value"] _ fd__is_row := ⟨F__is_row, F__is_row.bindsN fun _ _ _ _ _ _ us hl => match us, hl with | [_, _], _ => rfl, He.glo_ok X G (c.fact 20 (f := .glo "_is_row") rfl)⟩
  obtain ⟨fd_is_strategy, F_is_strategy⟩ := c.def_ 21 (d := d_is_strategy) rfl
  have D_is_strategy : Df K mg "is_strategy" s_is_strategy ["value"] _ fd_is_strategy := ⟨F_is_strategy, F_is_strategy.bindsN fun _ _ _ _ _ _ us hl => match us, hl with | [_], _ => rfl, He.glo_ok X G (c.fact 21 (f := .glo "is_strategy") rfl)⟩
  obtain ⟨fd__sights_behind, F__sights_behind⟩ := c.def_ 22 (d := d__sights_behind) rfl
  have D__sights_behind : Df K mg "_sights_behind" s__sights_behind ["play", "many", "calls"] _ fd__sights_behind := ⟨F__sights_behind, F__sights_behind.bindsN fun _ _ _ _ _ _ us hl => match us, hl with | [_, _, _], _ => rfl, He.glo_ok X G (c.fact 22 (f := .glo "_sights_behind") rfl)⟩
  obtain ⟨fd__step_of_body, F__step_of_body⟩ := c.def_ 23 (d := d__step_of_body) rfl
  have D__step_of_body : Df K mg "_step_of_body" s__step_of_body ["body", "sight", "calls"] _ fd__step_of_body := ⟨F__step_of_body, F__step_of_body.bindsN fun _ _ _ _ _ _ us hl => match us, hl with | [_, _, _], _ => rfl, He.glo_ok X G (c.fact 23 (f := .glo "_step_of_body") rfl)⟩
  obtain ⟨fd_meaning, F_meaning⟩ := c.def_ 24 (d := d_meaning) rfl
  have D_meaning : Df K mg "meaning" s_meaning ["kind", "program"] _ fd_meaning := ⟨F_meaning, F_meaning.bindsN fun _ _ _ _ _ _ us hl => match us, hl with | [_, _], _ => rfl, He.glo_ok X G (c.fact 24 (f := .glo "meaning") rfl)⟩
  obtain ⟨fd__spread_sight, F__spread_sight⟩ := c.def_ 25 (d := d__spread_sight) rfl
  have D__spread_sight : Df K mg "_spread_sight" s__spread_sight ["strategy", "node"] _ fd__spread_sight := ⟨F__spread_sight, F__spread_sight.bindsN fun _ _ _ _ _ _ us hl => match us, hl with | [_, _], _ => rfl, He.glo_ok X G (c.fact 25 (f := .glo "_spread_sight") rfl)⟩
  obtain ⟨fd_program_of, F_program_of⟩ := c.def_ 26 (d := d_program_of) rfl
  have D_program_of : Df K mg "program_of" s_program_of ["strategy"] _ fd_program_of := ⟨F_program_of, F_program_of.bindsN fun _ _ _ _ _ _ us hl => match us, hl with | [_], _ => rfl, He.glo_ok X G (c.fact 26 (f := .glo "program_of") rfl)⟩
  obtain ⟨fd__step_at, F__step_at⟩ := c.def_ 27 (d := d__step_at) rfl
  have D__step_at : Df K mg "_step_at" s__step_at ["strategy", "sight"] _ fd__step_at := ⟨F__step_at, F__step_at.bindsN fun _ _ _ _ _ _ us hl => match us, hl with | [_, _], _ => rfl, He.glo_ok X G (c.fact 27 (f := .glo "_step_at") rfl)⟩
  obtain ⟨fd_reply, F_reply⟩ := c.def_ 28 (d := d_reply) rfl
  have D_reply : Df K mg "reply" s_reply ["strategy", "play"] _ fd_reply := ⟨F_reply, F_reply.bindsN fun _ _ _ _ _ _ us hl => match us, hl with | [_, _], _ => rfl, He.glo_ok X G (c.fact 28 (f := .glo "reply") rfl)⟩
  obtain ⟨fd_fault_in, F_fault_in⟩ := c.def_ 29 (d := d_fault_in) rfl
  have D_fault_in : Df K mg "fault_in" s_fault_in ["strategy", "play"] _ fd_fault_in := ⟨F_fault_in, F_fault_in.bindsN fun _ _ _ _ _ _ us hl => match us, hl with | [_, _], _ => rfl, He.glo_ok X G (c.fact 29 (f := .glo "fault_in") rfl)⟩
  obtain ⟨fd__law_cell, F__law_cell⟩ := c.def_ 30 (d := d__law_cell) rfl
  have D__law_cell : Df K mg "_law_cell" s__law_cell ["script", "k"] _ fd__law_cell := ⟨F__law_cell, F__law_cell.bindsN fun _ _ _ _ _ _ us hl => match us, hl with | [_, _], _ => rfl, He.glo_ok X G (c.fact 30 (f := .glo "_law_cell") rfl)⟩
  obtain ⟨fd__law_digits, F__law_digits⟩ := c.def_ 31 (d := d__law_digits) rfl
  have D__law_digits : Df K mg "_law_digits" s__law_digits ["script", "first", "last"] _ fd__law_digits := ⟨F__law_digits, F__law_digits.bindsN fun _ _ _ _ _ _ us hl => match us, hl with | [_, _, _], _ => rfl, He.glo_ok X G (c.fact 31 (f := .glo "_law_digits") rfl)⟩
  obtain ⟨fd__law_draw, F__law_draw⟩ := c.def_ 32 (d := d__law_draw) rfl
  have D__law_draw : Df K mg "_law_draw" s__law_draw ["box", "many"] _ fd__law_draw := ⟨F__law_draw, F__law_draw.bindsN fun _ _ _ _ _ _ us hl => match us, hl with | [_, _], _ => rfl, He.glo_ok X G (c.fact 32 (f := .glo "_law_draw") rfl)⟩
  obtain ⟨fd__law_box, F__law_box⟩ := c.def_ 33 (d := d__law_box) rfl
  have D__law_box : Df K mg "_law_box" s__law_box ["script", "first", "last"] _ fd__law_box := ⟨F__law_box, F__law_box.bindsN fun _ _ _ _ _ _ us hl => match us, hl with | [_, _, _], _ => rfl, He.glo_ok X G (c.fact 33 (f := .glo "_law_box") rfl)⟩
  obtain ⟨fd__law_same, F__law_same⟩ := c.def_ 34 (d := d__law_same) rfl
  have D__law_same : Df K mg "_law_same" s__law_same ["actual", "expected"] _ fd__law_same := ⟨F__law_same, F__law_same.bindsN fun _ _ _ _ _ _ us hl => match us, hl with | [_, _], _ => rfl, He.glo_ok X G (c.fact 34 (f := .glo "_law_same") rfl)⟩
  obtain ⟨fd__law_kind, F__law_kind⟩ := c.def_ 35 (d := d__law_kind) rfl
  have D__law_kind : Df K mg "_law_kind" s__law_kind ["box", "depth", "budget"] _ fd__law_kind := ⟨F__law_kind, F__law_kind.bindsN fun _ _ _ _ _ _ us hl => match us, hl with | [_, _, _], _ => rfl, He.glo_ok X G (c.fact 35 (f := .glo "_law_kind") rfl)⟩
  obtain ⟨fd__law_body, F__law_body⟩ := c.def_ 36 (d := d__law_body) rfl
  have D__law_body : Df K mg "_law_body" s__law_body ["box", "kinds", "budget"] _ fd__law_body := ⟨F__law_body, F__law_body.bindsN fun _ _ _ _ _ _ us hl => match us, hl with | [_, _, _], _ => rfl, He.glo_ok X G (c.fact 36 (f := .glo "_law_body") rfl)⟩
  obtain ⟨fd__law_program, F__law_program⟩ := c.def_ 37 (d := d__law_program) rfl
  have D__law_program : Df K mg "_law_program" s__law_program ["box", "kind", "most"] _ fd__law_program := ⟨F__law_program, F__law_program.bindsN fun _ _ _ _ _ _ us hl => match us, hl with | [_, _, _], _ => rfl, He.glo_ok X G (c.fact 37 (f := .glo "_law_program") rfl)⟩
  obtain ⟨fd__law_sight, F__law_sight⟩ := c.def_ 38 (d := d__law_sight) rfl
  have D__law_sight : Df K mg "_law_sight" s__law_sight ["play"] _ fd__law_sight := ⟨F__law_sight, F__law_sight.bindsN fun _ _ _ _ _ _ us hl => match us, hl with | [_], _ => rfl, He.glo_ok X G (c.fact 38 (f := .glo "_law_sight") rfl)⟩
  obtain ⟨fd__law_asker_sight, F__law_asker_sight⟩ := c.def_ 39 (d := d__law_asker_sight) rfl
  have D__law_asker_sight : Df K mg "_law_asker_sight" s__law_asker_sight ["play"] _ fd__law_asker_sight := ⟨F__law_asker_sight, F__law_asker_sight.bindsN fun _ _ _ _ _ _ us hl => match us, hl with | [_], _ => rfl, He.glo_ok X G (c.fact 39 (f := .glo "_law_asker_sight") rfl)⟩
  obtain ⟨fd__law_alone, F__law_alone⟩ := c.def_ 40 (d := d__law_alone) rfl
  have D__law_alone : Df K mg "_law_alone" s__law_alone ["play", "numbers"] _ fd__law_alone := ⟨F__law_alone, F__law_alone.bindsN fun _ _ _ _ _ _ us hl => match us, hl with | [_, _], _ => rfl, He.glo_ok X G (c.fact 40 (f := .glo "_law_alone") rfl)⟩
  obtain ⟨fd__law_open, F__law_open⟩ := c.def_ 41 (d := d__law_open) rfl
  have D__law_open : Df K mg "_law_open" s__law_open ["play"] _ fd__law_open := ⟨F__law_open, F__law_open.bindsN fun _ _ _ _ _ _ us hl => match us, hl with | [_], _ => rfl, He.glo_ok X G (c.fact 41 (f := .glo "_law_open") rfl)⟩
  obtain ⟨fd__law_at, F__law_at⟩ := c.def_ 42 (d := d__law_at) rfl
  have D__law_at : Df K mg "_law_at" s__law_at ["kind", "place"] _ fd__law_at := ⟨F__law_at, F__law_at.bindsN fun _ _ _ _ _ _ us hl => match us, hl with | [_, _], _ => rfl, He.glo_ok X G (c.fact 42 (f := .glo "_law_at") rfl)⟩
  obtain ⟨fd__law_goes_on, F__law_goes_on⟩ := c.def_ 43 (d := d__law_goes_on) rfl
  have D__law_goes_on : Df K mg "_law_goes_on" s__law_goes_on ["kind", "play", "step"] _ fd__law_goes_on := ⟨F__law_goes_on, F__law_goes_on.bindsN fun _ _ _ _ _ _ us hl => match us, hl with | [_, _, _], _ => rfl, He.glo_ok X G (c.fact 43 (f := .glo "_law_goes_on") rfl)⟩
  obtain ⟨fd__law_after, F__law_after⟩ := c.def_ 44 (d := d__law_after) rfl
  have D__law_after : Df K mg "_law_after" s__law_after ["kind", "play"] _ fd__law_after := ⟨F__law_after, F__law_after.bindsN fun _ _ _ _ _ _ us hl => match us, hl with | [_, _], _ => rfl, He.glo_ok X G (c.fact 44 (f := .glo "_law_after") rfl)⟩
  obtain ⟨fd__law_rows_behind, F__law_rows_behind⟩ := c.def_ 45 (d := d__law_rows_behind) rfl
  have D__law_rows_behind : Df K mg "_law_rows_behind" s__law_rows_behind ["rows", "body", "sight", "calls"] _ fd__law_rows_behind := ⟨F__law_rows_behind, F__law_rows_behind.bindsN fun _ _ _ _ _ _ us hl => match us, hl with | [_, _, _, _], _ => rfl, He.glo_ok X G (c.fact 45 (f := .glo "_law_rows_behind") rfl)⟩
  obtain ⟨fd__law_rows, F__law_rows⟩ := c.def_ 46 (d := d__law_rows) rfl
  have D__law_rows : Df K mg "_law_rows" s__law_rows ["program"] _ fd__law_rows := ⟨F__law_rows, F__law_rows.bindsN fun _ _ _ _ _ _ us hl => match us, hl with | [_], _ => rfl, He.glo_ok X G (c.fact 46 (f := .glo "_law_rows") rfl)⟩
  obtain ⟨fd__law_reply, F__law_reply⟩ := c.def_ 47 (d := d__law_reply) rfl
  have D__law_reply : Df K mg "_law_reply" s__law_reply ["rows", "play"] _ fd__law_reply := ⟨F__law_reply, F__law_reply.bindsN fun _ _ _ _ _ _ us hl => match us, hl with | [_, _], _ => rfl, He.glo_ok X G (c.fact 47 (f := .glo "_law_reply") rfl)⟩
  obtain ⟨fd__law_play, F__law_play⟩ := c.def_ 48 (d := d__law_play) rfl
  have D__law_play : Df K mg "_law_play" s__law_play ["box", "kind", "rows", "most", "free"] _ fd__law_play := ⟨F__law_play, F__law_play.bindsN fun _ _ _ _ _ _ us hl => match us, hl with | [_, _, _, _, _], _ => rfl, He.glo_ok X G (c.fact 48 (f := .glo "_law_play") rfl)⟩
  obtain ⟨fd_law, F_law⟩ := c.def_ 49 (d := d_law) rfl
  have e := hfa.symm.trans (He.glo_ok X G (c.fact 49 (f := .glo "law") rfl))
  cases e
  have D_law : Df K mg "law" s_law ["script"] _ fd_law := ⟨F_law, F_law.bindsN fun _ _ _ _ _ _ us hl => match us, hl with | [_], _ => rfl, hfa⟩
  have hND : (tF.map fun p => (He.cT K p).2).Nodup := of_decide_eq_true (Bool.and_eq_true_iff.mp cX.more).2
  have hc_program_of : fd_program_of.code = .ref (cA K "program_of") := by
    obtain ⟨oc, od, dV, kV, doc, pm, an, cdv, ct, osl, e1, lk, hcd, _, _⟩ := F_program_of.ex
    obtain ⟨c0, rfl⟩ := He.codeIn_ref hcd
    have e2 : fd_program_of.code = .ref c0 := by rw [e1] <;> rfl
    rw [e2]
    exact congrArg Value.ref (He.codeOf_eq lk e2).symm
  have hT_program_of : (tA K "program_of", qLam "program_of") ∈ tT K := by simp [tT]
  have hU_program_of : ∀ p ∈ tT K, p.1 = tA K "program_of" → p.2 = qLam "program_of" := by
    intro p hp e
    simp only [tT, List.mem_cons, List.not_mem_nil, or_false] at hp
    rw [hp]
  have B : Bt mg := ⟨He.free_ok X G (c.fact 50 (f := .free "isinstance") rfl), He.free_ok X G (c.fact 51 (f := .free "tuple") rfl), He.free_ok X G (c.fact 52 (f := .free "len") rfl), He.free_ok X G (c.fact 53 (f := .free "int") rfl), He.free_ok X G (c.fact 54 (f := .free "bool") rfl), He.free_ok X G (c.fact 55 (f := .free "all") rfl), He.free_ok X G (c.fact 56 (f := .free "enumerate") rfl), He.free_ok X G (c.fact 57 (f := .free "range") rfl), He.free_ok X G (c.fact 58 (f := .free "sorted") rfl), He.free_ok X G (c.fact 59 (f := .free "zip") rfl), He.free_ok X G (c.fact 60 (f := .free "str") rfl)⟩
  have b := FunD.bindsA (ps := ["script"]) F_law fun _ _ _ _ _ _ us hl => match us, hl with | [_], _ => rfl
  refine ⟨fd_law, fun s v => b s [v] rfl, fun base _ _ TB => ?_⟩
  have TB_program_of : LamX.TabB base mg (cA K "program_of") (tA K "program_of") := TB (He.cT K ("program_of", none)) (by simp [tF])
  exact ok_law hBG hKB TB_program_of hT_program_of hU_program_of D_law B D_is_kind D_kind_at D_is_whole D_is_answer D_is_tuple_of D__is_move D__is_later_step D__is_placed D__reason_against D__note_open D_fault_of D__sight_behind D_program_sight D_alone D_pairs D_learned D__steps_of D_is_within D_grown D_body_of D__is_row D_is_strategy D__sights_behind D__step_of_body D_meaning D__spread_sight D_program_of D__step_at D_reply D_fault_in D__law_cell D__law_digits D__law_draw D__law_box D__law_same D__law_kind D__law_body D__law_program D__law_sight D__law_asker_sight D__law_alone D__law_open D__law_at D__law_goes_on D__law_after D__law_rows_behind D__law_rows D__law_reply D__law_play hc_program_of
end Pk
open PySem PySem.W PySem.Calls PyProof.Rows
set_option maxHeartbeats 0
theorem PySem.Challenge.cw_playsense_k97_whole_plays_tell_the_least_holds : PySem.Challenge.rw_playsense_k97_whole_plays_tell_the_least.Holds := by
  w_on; o_law
  refine HandSHeadRun.head_any (r := OpenLaw.row PySem.Challenge.rw_playsense_k97_whole_plays_tell_the_least) (q := view (OpenLaw.row PySem.Challenge.rw_playsense_k97_whole_plays_tell_the_least).prog [58]) (H := Pk.hk) (ob := Pk.ob) (M := 4000) (loose := Pk.names) (d := HandSHeadRun.topDef (OpenLaw.row PySem.Challenge.rw_playsense_k97_whole_plays_tell_the_least).prog 58) (kwd := []) Pk.ob_eq
    (by kernel_rfl) (fun s => by kernel_rfl) Pk.run (by kernel_rfl) (by kernel_rfl) (by kernel_rfl) (by rfl) (by first | assumption | decide +kernel) (by decide +kernel) ⟨rfl, rfl, rfl, rfl, rfl, by decide +kernel⟩ ?hw ?hc
  case hw => w_witness2
  case hc =>
    refine Pk.walk_ofTsE (l := PySem.Challenge.rw_playsense_k97_whole_plays_tell_the_least) (n := 63) (k := 121) (x := "script") (CX := L2.CX0) rfl (by decide) (by kernel_rfl) ⟨rfl, by decide, by decide⟩ ?F (fun _ _ _ _ z => z)
    intro w mg fa h Y G hmg0
    obtain ⟨K, KX, c⟩ := Y
    have hmg : mg ("law" : PySem.Str) = some (.ref fa) := by
      have e : (HandSHeadRun.topDef (OpenLaw.row PySem.Challenge.rw_playsense_k97_whole_plays_tell_the_least).prog 58).name = ("law" : PySem.Str) := by kernel_rfl
      rw [← e]
      exact hmg0
    obtain ⟨fd, hb, hF⟩ := Pk.facts (P := (PySem.Challenge.rw_playsense_k97_whole_plays_tell_the_least).prog) (w := w) KX G hmg c
    refine ⟨K, fd, Pk.tF.map (He.cT K), Pk.spLaw K (Pk.tT K), KX, fun p hp => ?_, fun p hp => ?_, fun p hp => ?_, hb, fun H a ns hl hH hS => ⟨a, ns, rfl, hS, hl, ?_, fun _ => rfl⟩, hF⟩
    · obtain ⟨x, hx, rfl⟩ := List.mem_map.mp hp
      exact c.empty x hx
    · obtain ⟨x, hx, rfl⟩ := List.mem_map.mp hp
      exact c.out x hx
    · obtain ⟨x, hx, rfl⟩ := List.mem_map.mp hp
      exact PySem.W.codeHd_of_K KX (c.hd x hx)
    · have hH2 : ∀ x ∈ Pk.tF, H (He.cT K x).2 = some (.tbl #[]) := fun x hx => hH _ (List.mem_map.mpr ⟨x, hx, rfl⟩)
      intro p hp
      simp only [Pk.tT, List.mem_cons, List.not_mem_nil, or_false] at hp
      rw [hp]
      exact LamX.TabS.nil (hH2 _ (by simp [Pk.tF]))
