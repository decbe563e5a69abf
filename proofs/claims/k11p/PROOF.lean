import PyProof.Rows.All
import Wide.All
import OpenK.AllK
import Wide.FinOn
import HandS.ForMost
import HandS.Star
import HandS.Style
import HandS.IsInst
import HandS.DictComp
import HandS.TupAny
import HandS.Conv
import HandS.More
import HandS.Strs
import HandS.SetFor
import HandS.Zip
import KE.GoesMore
import HandS.ClsMeth
import HandS.Defaults
import HandS.FStr
import HandS.OwnEq
import HandS.TupMul
import HandS.Wide
import HandS.WordsDict
import HandS.Small
import HandS.RaiseMore
import PyProof.CallFns
import PyProof.StrLaws
import HandS.SortInts
import PySem.Challenge.RW_letquay_k11_whole_texts_of_types
set_option Elab.async false
set_option maxRecDepth 100000
set_option linter.all false
namespace Lq
open PySem PyProof.Rows
section
open PySem.AutoSeq1 (wpAny_loadPart' idx_int)
theorem ext_tuple (l : Addr) (its : Array Value) (n : Nat) (b : Addr) (its2 : Array Value) (n2 : Nat) (dd : Option Addr) (sl : Array (Option Value))
    (hs0 : ¬(!its.isEmpty && Builtin.List.listTooLong (its.size + its2.size)) = true) (hs1 : its.size ≤ sizeLine) (hs2 : its.size + its2.size ≤ sizeLine + 1) :
    Meets (Builtin.«list.extend» ⟨[.ref l, .ref b], []⟩) (fun _ R s =>
      s.heap.get? l = some { cls := .type "list", data := .seq its n } ∧
      s.heap.get? b = some { cls := .type "tuple", dict := dd, data := .seq its2 n2, slots := sl } ∧
      R (.ok (.ret Value.none)) { s with heap := s.heap.update l (Obj.mapSeq fun x => x ++ its2), toks := s.toks }) :=
  .of_wp fun prog w A R s h => by
    obtain ⟨hp, g, d, tk, os⟩ := s
    obtain ⟨hl, hb, h⟩ := h
    have q1 := idx_int
    have q2 := AutoSeq1.sub_tuple_tuple
    have q3 := AutoSeq1.sub_list_list
    have q4 := AutoSeq1.sub_tuple_list
    have q5 := AutoSeq1.sub_list_tuple
    have hz : (its ++ its2).size ≤ sizeLine + 1 := by
      rw [Array.size_append]
      exact hs2
    wp_walk using (wpAny_updateSeq hl rfl (hz := hs1) (_hz' := hz)), wpAny_loadPart' hl, wpAny_loadPart' hb
    exact ⟨_, rfl, h⟩
end
end Lq
namespace Lq
open PySem L2
section
variable {X : Cx}
/-- xs.extend(t), t a tuple -/
def rExtT (K : PySem.W.Frag) : V → List V → Hp → VK → Prop := fun x vs H Q => ∃ l b xs zs, x = .ref l ∧ vs = [.ref b] ∧ H l = some (.lst xs) ∧ SqT K H b zs ∧
  xs.length + zs.length ≤ sizeLine ∧ Q .non (upd H l (.lst (xs ++ zs)))
theorem mt_extT : MtM X "list.extend" (rExtT X.K) := by
  intro pins s σ H x vs v us Q I rx rv h
  obtain ⟨l, b, xs, zs, rfl, rfl, hH, hB, hz, q⟩ := h
  cases rx
  obtain ⟨u, rfl, ru⟩ := rv.one
  cases ru
  obtain ⟨z, its, n, r, hl, e⟩ := I.lstM hH
  obtain ⟨its2, r2, ⟨⟨cls, dd, data, sl⟩, e2, hc, n2, hd⟩, z2⟩ := I.tuple hB
  simp only at hc hd
  subst hc hd
  have hl2 := r2.length
  have hsz : its.toArray.size + its2.toArray.size ≤ sizeLine := by
    rw [List.size_toArray, List.size_toArray]
    omega
  have hlong : ¬ (!its.toArray.isEmpty && Builtin.List.listTooLong (its.toArray.size + its2.toArray.size)) = true := by
    rw [notLongL hsz, Bool.and_false]
    exact Bool.false_ne_true
  refine call_meets PySem.F.slot_list_extend ⟨_, e, rfl⟩ PySem.F.entry_list_extend (PySem.F.args_list_extend_2 _ _)
    (Lq.ext_tuple l its.toArray n b its2.toArray n2 dd sl hlong (by rw [List.size_toArray]; omega) (by omega)) ⟨e, e2, ?_⟩
  refine ⟨.non, _, I.lset (its' := its ++ its2) hH e (by simp) (r.append r2) ?_, rfl, q⟩
  rw [List.length_append]
  omega
end
end Lq
namespace Lq
open PySem PyProof.Rows HT
section
variable {prog : Program} {w : World} {A : Around} {E : Value → Shared → Prop} {s : Shared}
theorem adjust_back (n : Nat) : Builtin.Slice.sliceAdjust none none (-1) (n : Int) = ((n : Int) - 1, -1) := by
  unfold Builtin.Slice.sliceAdjust
  rfl
theorem places_back (n : Nat) : Builtin.Slice.slicePlaces ((n : Int) - 1) (-1) (-1) = n := by
  unfold Builtin.Slice.slicePlaces
  rw [if_neg (by decide)]
  by_cases h : (n : Int) - 1 > -1
  · rw [if_pos h, show (-(-1) : Int) = 1 from rfl, Int.ediv_one]
    omega
  · rw [if_neg h]
    omega
theorem fm_congr {α β : Type} {g h : α → Option β} : ∀ {l : List α}, (∀ x ∈ l, g x = h x) → l.filterMap g = l.filterMap h
  | [], _ => rfl
  | x :: r, q => by
    rw [List.filterMap_cons, List.filterMap_cons, q x (List.mem_cons_self), fm_congr fun y hy => q y (List.mem_cons_of_mem _ hy)]
theorem pick_back (xs : List Value) : (List.range xs.length).filterMap (fun (k : Nat) => xs.toArray[((xs.length : Int) - 1 + (k : Int) * (-1)).toNat]?) = xs.reverse := by
  have e : (List.range xs.length).filterMap (fun (k : Nat) => xs.toArray[((xs.length : Int) - 1 + (k : Int) * (-1)).toNat]?) =
      (List.range xs.length).filterMap (some ∘ fun k => xs.getD (xs.length - 1 - k) .none) := by
    refine fm_congr fun k hk => ?_
    have hk' := List.mem_range.mp hk
    have e1 : ((xs.length : Int) - 1 + (k : Int) * (-1)).toNat = xs.length - 1 - k := by omega
    rw [e1]
    have h2 : xs.length - 1 - k < xs.length := by omega
    simp [List.getElem?_eq_getElem h2, List.getD_eq_getElem?_getD]
  rw [e, List.filterMap_eq_map]
  apply List.ext_getElem?
  intro i
  by_cases hi : i < xs.length
  · have h2 : xs.length - 1 - i < xs.length := by omega
    rw [List.getElem?_map, List.getElem?_range hi, List.getElem?_reverse hi]
    simp [List.getElem?_eq_getElem h2, List.getD_eq_getElem?_getD]
  · rw [List.getElem?_eq_none (by simp; omega), List.getElem?_eq_none (by simp; omega)]
theorem sliceApplied_back {sl : Addr} {vs : Value} {n : Nat} {Q : Int × Int × Nat → Shared → Prop} (hs : s.heap.IsSliceOf sl .none .none vs) (ps : IsPart vs (some (-1)))
    (h : Q ((n : Int) - 1, -1, n) s) : wpAny (model prog w) A (Builtin.Slice.sliceApplied (.ref sl) (pure (n : Int))) Q E s := by
  obtain ⟨os, hos, hcs, hds⟩ := id hs
  unfold Builtin.Slice.sliceApplied Builtin.Slice.sliceFields
  refine wpAny_bind (wpAny_bind (wpAny_field hos hds (x := .none) rfl
    (wpAny_bind (wpAny_field hos hds (x := .none) rfl (wpAny_bind (wpAny_field hos hds (x := vs) rfl (wpAny_pure ?_)))))))
  refine wpAny_bind (slicePart_ ps ?_)
  show wpAny _ _ (if ((-1 : Int) == 0) = true then _ else _) _ _ s
  rw [if_neg (by decide)]
  refine wpAny_bind (slicePart_ .none (wpAny_bind (slicePart_ .none (wpAny_bind (wpAny_pure ?_)))))
  show wpAny _ _ (match Builtin.Slice.sliceAdjust none none (-1) (n : Int) with
    | (lo, hi) => pure (lo, (-1 : Int), Builtin.Slice.slicePlaces lo hi (-1))) _ _ s
  rw [adjust_back n]
  show wpAny _ _ (pure ((n : Int) - 1, (-1 : Int), Builtin.Slice.slicePlaces ((n : Int) - 1) (-1) (-1))) _ _ s
  rw [places_back]
  exact wpAny_pure h
theorem tuple_back {t sl : Addr} {xs : List Value} {vs : Value} {Q : Value → Shared → Prop} (ht : IsTup s.heap t xs.toArray) (hs : s.heap.IsSliceOf sl .none .none vs) (ps : IsPart vs (some (-1)))
    (h : Q (.ref s.heap.objs.size) { s with heap := s.heap.push { cls := .type "tuple", data := .seq xs.reverse.toArray } })
    (hsz : xs.length ≤ sizeLine) : wpAny (model prog w) A (getItem (.ref t) (.ref sl)) Q E s := by
  have hok : sizeOk (.seq xs.reverse.toArray) := by
    show xs.reverse.toArray.size ≤ sizeLine
    rw [List.size_toArray, List.length_reverse]
    exact hsz
  obtain ⟨os, hos, hcs, hds⟩ := id hs
  have hTs : s.TypeIs (.ref sl) "slice" := ⟨os, hos, hcs⟩
  unfold getItem
  try with_reducible refine wpAny_holding ?_
  first | refine wpAny_bind (wpAny_pure ?_) | skip
  refine wpAny_bind (wpAny_sequenceKey ht.typeIs (by decide) ?_)
  refine wpAny_bind (wpAny_callSpecial?_slot (name := Str.ofString "__getitem__") ht.typeIs slot_tuple_getitem
    (wpAny_call_entry slot_tuple_getitem ht.typeIs entry_tuple_getitem ?_ (args_tuple_getitem _ _)))
  show wpAny _ _ (Builtin.Tuple.tupleItemsOf (.ref t) >>= _) _ _ s
  refine wpAny_bind (tupleItemsOf_ ht ?_)
  refine wpAny_bind (wpAny_typeOf hTs ?_)
  rw [if_pos (by decide)]
  refine wpAny_bind (sliceApplied_back (n := xs.toArray.size) hs ps ?_)
  have hno : ¬ ((((xs.toArray.size : Nat) : Int) - 1 == 0 && (-1 : Int) == 1 && xs.toArray.size == xs.toArray.size) = true) := by
    rw [show ((-1 : Int) == 1) = false from rfl, Bool.and_false, Bool.false_and]
    exact Bool.false_ne_true
  show wpAny _ _ (if (((xs.toArray.size : Nat) : Int) - 1 == 0 && (-1 : Int) == 1 && xs.toArray.size == xs.toArray.size) = true then _ else _) _ _ s
  rw [if_neg hno, List.size_toArray, pick_back]
  first
    | exact wpAny_bind (m := Builtin.Tuple.tupleExact _) (wpAny_newObj_type (wpAny_pure ⟨_, rfl, wpAny_pure h⟩) hok)
    | exact wpAny_bind (m := Builtin.Tuple.tupleExact _) (wpAny_newObj_type (wpAny_bind (wpAny_pure (wpAny_pure ⟨_, rfl, wpAny_pure h⟩))) hok)
    | exact wpAny_bind (wpAny_bind (m := Builtin.Tuple.tupleExact _) (wpAny_newObj_type (wpAny_pure (wpAny_pure ⟨_, rfl, wpAny_pure h⟩)) hok))
    | exact wpAny_bind (wpAny_bind (m := Builtin.Tuple.tupleExact _) (wpAny_newObj_type (wpAny_pure ⟨_, rfl, wpAny_pure h⟩) hok))
end
end Lq
namespace Lq
open PySem PySem.Spec PyProof.Rows L2
section
variable {X : Cx}
/-- t[::-1], t a tuple -/
def tBackT (K : PySem.W.Frag) (te : TE) : TE := fun σ H Q => te σ H fun x H1 => ∃ a xs, x = .ref a ∧ SqT K H1 a xs ∧ ∀ p, H1 p = none → Q (.ref p) (upd H1 p (.tup xs.reverse))
theorem pe_backT {e : Expr} {te : TE} {k : Nat} {p1 p2 p3 pos : Pos} (he : PE X e te) :
    PE X (.Subscript e (.Slice none none (some (.UnaryOp .USub (.Constant (.int 1) k p1) p2)) p3) pos) (tBackT X.K te) := by
  refine ⟨fun pins s σ H Q I h => ?_⟩
  refine Subscript_ (thn (he.run pins s σ H _ I h) fun v s1 ⟨x, H1, I1, r1, q1⟩ => ?_)
  obtain ⟨a, xs, ex, hx, q⟩ := q1
  subst ex
  cases r1
  have hst : PO X (some (.UnaryOp .USub (.Constant (.int 1) k p1) p2)) (tPart (tUn (rU fun i => .int (-i)) (tC (.int 1)))) :=
    po_some (pe_un un_neg pe_int)
  refine wpAny_Slice (thn (po_none.run pins s1 σ H1 (fun o H2 => o = none ∧ H2 = H1) I1 ⟨rfl, rfl⟩)
    fun vl s2 ⟨l, H2, I2, pl, el, e2⟩ => ?_)
  subst el e2
  refine thn (po_none.run pins s2 σ H2 (fun o H3 => o = none ∧ H3 = H2) I2 ⟨rfl, rfl⟩)
    fun vu s3 ⟨u, H3, I3, pu, eu, e3⟩ => ?_
  subst eu e3
  refine thn (hst.run pins s3 σ H3 (fun o H4 => o = some (-1) ∧ H4 = H3) I3 ⟨1, rfl, -1, rfl, rfl, rfl⟩)
    fun vs s4 ⟨o, H4, I4, ps, eo, e4⟩ => ?_
  subst eo e4
  cases pl
  cases pu
  let s5 : Shared := { s4 with heap := s4.heap.push { cls := .type "slice", data := .fields #[.none, .none, vs] } }
  have I5 : Inv X pins σ H4 s5 := I4.kept (t' := s4.toks) fun b ob q => Heap.get?_push_of_some _ q
  obtain ⟨its, r, ht, hz⟩ := I5.tuple hx
  have hlen := r.length
  show wpAny (model X.prog X.w) X.A (subscriptTail e (.Slice none none (some (.UnaryOp .USub (.Constant (.int 1) k p1) p2)) p3) (.ref a) (.ref s4.heap.objs.size))
    (EP X pins σ Q) X.xe s5
  refine tail_any (ops := [.ref a, .ref s4.heap.objs.size]) ht.typeIs (PyProof.Rows.slot_tuple_getitem.lookup) ?_ (by with_unfolding_all rfl)
  refine tuple_back ht (Heap.IsSliceOf.new _ _ _ vs) ps ?_ (by omega)
  refine ⟨.ref _, _, I5.laid (t' := s4.toks) (o := .tup xs.reverse) (fun b ob q => Heap.get?_push_of_some _ q) (Nat.le_refl _) ?_, rfl, q _ (I5.hok.fresh (Nat.le_refl _))⟩
  exact ⟨by rw [List.length_reverse]; exact hz, _, r.reverse, IsTup.new _ _⟩
end
end Lq
namespace Lq
open PySem PyProof.Rows
theorem none_left (a N : Nat) (sel : Nat → Bool) (hs : ∀ k, k < N → sel k = decide (a ≤ k)) : ∀ (ys : List Value) (m : Nat), a ≤ m → m + ys.length ≤ N →
    (ys.zipIdx m).filterMap (fun p => if sel p.2 = true then none else some p.1) = []
  | [], _, _, _ => rfl
  | y :: r, m, hm, hN => by
    rw [List.length_cons] at hN
    have e : sel (y, m).snd = true := (hs m (by omega)).trans (decide_eq_true hm)
    rw [List.zipIdx_cons, List.filterMap_cons]
    rw [if_pos e]
    exact none_left a N sel hs r (m + 1) (by omega) (by omega)
theorem take_zip (a N : Nat) (sel : Nat → Bool) (hs : ∀ k, k < N → sel k = decide (a ≤ k)) : ∀ (xs : List Value) (n : Nat), n ≤ a → n + xs.length ≤ N →
    (xs.zipIdx n).filterMap (fun p => if sel p.2 = true then none else some p.1) = xs.take (a - n)
  | [], n, _, _ => by simp
  | x :: r, n, hn, hN => by
    by_cases h : a = n
    · rw [h, Nat.sub_self, List.take_zero]
      exact none_left n N sel (by rw [← h]; exact hs) _ n (Nat.le_refl _) hN
    · rw [List.length_cons] at hN
      have hlt : ¬ a ≤ n := by omega
      have e1 : a - n = (a - (n + 1)) + 1 := by omega
      have e : ¬ sel (x, n).snd = true := by rw [hs n (by omega), decide_eq_false hlt]; exact Bool.false_ne_true
      rw [e1, List.take_succ_cons, List.zipIdx_cons, List.filterMap_cons]
      rw [if_neg e]
      show x :: _ = _
      rw [take_zip a N sel hs r (n + 1) (by omega) (by omega)]
section
open PySem.AutoSeq1 (wpAny_loadPart' idx_int)
variable {prog : Program} {w : World} {A : Around} {E : Value → Shared → Prop} {s : Shared}
theorem bounds_tail {a n : Nat} (h : a ≤ n) : sliceBounds (some (a : Int)) none none n = ((a : Int), (n : Int), 1) := by
  simp only [sliceBounds, Option.getD_none]
  have h1 : ¬ ((a : Int) < 0) := by omega
  simp only [h1, if_false, show (1 : Int) > 0 by decide, if_true]
  congr 1
  omega
theorem delItem_tail {l sl : Addr} {its : Array Value} {n : Nat} {vl : Value} {a : Nat} {Q : Unit → Shared → Prop}
    (e : s.heap.get? l = some { cls := .type "list", data := .seq its n }) (hs : s.heap.IsSliceOf sl vl .none .none)
    (pl : IsPart vl (some (a : Int))) (ha : a ≤ its.size) (hsz : its.size ≤ sizeLine)
    (h : ∀ F : Array Value → Array Value, F its = (its.toList.take a).toArray → Q () { s with heap := s.heap.update l (Obj.mapSeq F) }) :
    wpAny (model prog w) A (delItem (.ref l) (.ref sl)) Q E s := by
  have hl : s.heap.IsList l its := PySem.IsL.isList e
  obtain ⟨os, hos, hcs, hds⟩ := id hs
  have hTs : s.TypeIs (.ref sl) "slice" := ⟨os, hos, hcs⟩
  have hstep : ¬ ((rawPart none == rawInt 0) = true) := Bool.false_ne_true
  refine wpAny_delItem_slot ⟨_, e, rfl⟩ (by decide) PySem.F.slot_list_delitem ?_
  refine wpAny_call_entry PySem.F.slot_list_delitem ⟨_, e, rfl⟩ PySem.F.entry_list_delitem ?_ (PySem.F.args_list_delitem_2 _ _)
  show wpAny _ _ (Builtin.List.listSubscript? (.ref sl) >>= _) _ _ s
  refine wpAny_bind ?_
  unfold Builtin.List.listSubscript?
  refine wpAny_bind (wpAny_specialOf hTs slice_no_index ?_)
  simp only [Option.isNone_none, if_true]
  refine wpAny_pure ?_
  show wpAny _ _ (typeOf (.ref sl) >>= _) _ _ s
  refine wpAny_bind (wpAny_typeOf hTs ?_)
  first
    | rw [if_neg (by decide)]
    | refine PySem.W.KFB.if_not (by decide) ?_
  rw [listSliceParts_eq]
  refine wpAny_bind (wpAny_bind (wpAny_field hos hds (x := .none) rfl (wpAny_bind (wpAny_listPart .none ?_))))
  rw [if_neg hstep]
  refine wpAny_bind (wpAny_field hos hds (x := vl) rfl (wpAny_bind (wpAny_listPart pl ?_)))
  refine wpAny_bind (wpAny_field hos hds (x := .none) rfl (wpAny_bind (wpAny_listPart .none (wpAny_pure ?_))))
  unfold Builtin.List.listItems
  refine wpAny_bind (wpAny_bind (wpAny_seqItems e rfl (wpAny_pure ?_)))
  refine wpAny_bind (wpAny_of_eq ((sliceIndices_raw (some (a : Int)) none none its.size (by simp)).trans
    (congrArg (pure : Int × Int × Int → Sem (Int × Int × Int)) (bounds_tail ha))) ?_)
  refine wpAny_bind (wpAny_rule ?_)
  unfold Builtin.List.listUpdate
  have key : ∀ f : Nat → Bool, (∀ k, k < its.size → f k = decide (a ≤ k)) →
      (List.filterMap (fun x : Value × Nat => if f x.snd = true then none else some x.fst) its.toList.zipIdx).toArray = (its.toList.take a).toArray := fun f hf =>
    congrArg List.toArray (take_zip a its.size f hf its.toList 0 (Nat.zero_le _) (by rw [Array.length_toList]; omega))
  have hsel : ∀ k, k < its.size → (if (1 : Int) > 0 then decide ((a : Int) ≤ (k : Int)) && decide ((k : Int) < (its.size : Int)) && ((k : Int) - (a : Int)) % 1 == 0
      else decide ((its.size : Int) < (k : Int)) && decide ((k : Int) ≤ (a : Int)) && ((a : Int) - (k : Int)) % (-1) == 0) = decide (a ≤ k) := by
    intro k hk
    rw [if_pos (by decide), Int.emod_one, show ((0 : Int) == 0) = true from rfl, Bool.and_true, show decide ((k : Int) < (its.size : Int)) = true from decide_eq_true (by omega), Bool.and_true]
    exact decide_eq_decide.mpr (by omega)
  refine wpAny_bind (m := updateSeq l _) (wpAny_updateSeq (hz := hsz) (_hz' := ?hz) e rfl ?_)
  case hz =>
    refine Nat.le_trans (Nat.le_of_eq (congrArg Array.size (key _ hsel))) ?_
    rw [List.size_toArray, List.length_take, Array.length_toList]
    omega
  refine wpAny_bind (wpAny_letGo ?_)
  first
    | exact wpAny_bind (wpAny_pure (wpAny_pure ⟨.none, rfl, wpAny_pure (h _ (key _ hsel))⟩))
    | exact wpAny_pure ⟨.none, rfl, wpAny_pure (h _ (key _ hsel))⟩
    | exact wpAny_pure ⟨.none, rfl, (h _ (key _ hsel))⟩
end
end Lq
namespace Lq
open PySem PySem.Spec PyProof.Rows L2
section
variable {X : Cx}
/-- del xs[a:] -/
def tDelT (tO : TE) (tl : TO) : TS := fun D σ H => tO σ H fun x H1 => tl σ H1 fun i H2 => ∃ (l : Addr) (xs : List V) (a : Nat),
  x = .ref l ∧ i = some (a : Int) ∧ H2 l = some (.lst xs) ∧ a ≤ xs.length ∧ D.nx σ (upd H2 l (.lst (xs.take a)))
theorem ps_delT {o lo : Expr} {tO : TE} {tl : TO} {p2 tpos pos : Pos} (ho : PE X o tO) (hl : PO X (some lo) tl) :
    PS X (.Delete [.Subscript o (.Slice (some lo) none none p2) tpos] pos) (tDelT tO tl) := by
  refine ⟨fun pins s σ H D I h => ?_⟩
  refine wpAny_Delete (wpAny_deleteEach_cons (wpAny_delete_Subscript (thn (ho.run pins s σ H _ I h) fun u s1 ⟨x, H1, I1, rx, q1⟩ => ?_)))
  refine wpAny_Slice (thn (hl.run pins s1 σ H1 _ I1 q1) fun vl s2 ⟨i, H2, I2, pl, q2⟩ =>
    thn (po_none.run pins s2 σ H2 (fun o H3 => o = none ∧ H3 = H2) I2 ⟨rfl, rfl⟩) fun vu s3 ⟨j, H3, I3, pu, ej, e3⟩ => ?_)
  subst ej e3
  cases pu
  rw [evalPart_none]
  refine wpAny_pure ?_
  obtain ⟨l, xs, a, ex, ei, hH, ha, q⟩ := q2
  subst ex ei
  cases (show u = Value.ref l from rx)
  let s4 : Shared := { s3 with heap := s3.heap.push { cls := .type "slice", data := .fields #[vl, .none, .none] } }
  have I4 : Inv X pins σ H3 s4 := I3.kept (t' := s3.toks) fun b ob q => Heap.get?_push_of_some _ q
  obtain ⟨z, its, n, r, hlen, e⟩ := I4.lstM hH
  refine delItem_tail (s := s4) (a := a) e (Heap.IsSliceOf.new _ vl _ _) pl (by rw [List.size_toArray]; omega) (by rw [List.size_toArray]; omega) fun F hF => ?_
  refine wpAny_deleteEach_nil ⟨σ, _, I4.lset (its' := its.take a) (t' := s4.toks) hH e hF (r.take a) ?_, q⟩
  rw [List.length_take]
  omega
end
end Lq
/-! rules with the written part named (for the blocks of comprehensions) -/
namespace Lq
open PySem PySem.Spec PyProof.Rows L2
section
variable {X : Cx}
theorem ixT (K : PySem.W.Frag) (h : X.K = K := by rfl) : IxR X (rIxT K) := by subst h; exact ix_tup
theorem ixL (K : PySem.W.Frag) (h : X.K = K := by rfl) : IxR X (rIxL K) := by subst h; exact ix_list
theorem lenS (K : PySem.W.Frag) (h : X.K = K := by rfl) : CallR X (.builtin "len") (fun xs H Q => ∃ p ys, xs = [.ref p] ∧ (SqL K H p ys ∨ SqT K H p ys) ∧ Q (.int ys.length) H) := by subst h; exact call_len_seq
theorem isiK (K : PySem.W.Frag) (h : X.K = K := by rfl) : CallR X (.builtin "isinstance") (rIsi K) := by subst h; exact call_isi
theorem inS (K : PySem.W.Frag) (h : X.K = K := by rfl) : OpR X (compareOp .In) (rIn K false) := by subst h; exact op_in_seq
theorem notInS (K : PySem.W.Frag) (h : X.K = K := by rfl) : OpR X (compareOp .NotIn) (rIn K true) := by subst h; exact op_notIn_seq
end
end Lq
/-! tuple(d), and y = {k: v for ..} -/
namespace Lq
open PySem PySem.Spec PyProof.Rows PySem.W L2
section
variable {prog : Program} {w : World} {A : Around} {E : Value → Shared → Prop} {s : Shared} {T : String} {r d : Addr} {n : Nat} {P : Nat → Value → Prop} {OK : Heap → Prop}
theorem collectK {Q : List Value → Shared → Prop} (K : KdlSrc prog w T r d n P OK) (hh : A.handled = none) (hok : OK s.heap) (hn : n ≤ sizeLine)
    (hQ : ∀ (h' : Heap) (tk : Nat) (acc : Array Value), (∀ b o, s.heap.get? b = some o → h'.get? b = some o) → ItemsOf P acc n → Q acc.toList { s with heap := h', toks := tk }) :
    wpAny (model prog w) A (collect (.ref r)) Q E s := by
  have hlt := K.there _ hok
  unfold collect
  refine wpAny_bind (wpAny_runValue (codeAny_builtin F.entry_proto_collect ?_))
  rw [Around.under_plainId F.plain_proto_collect _]
  show wpAny _ A.in1 (newList [] >>= fun l =>
    again (.builtin "list.__iadd__" ⟨[l, .ref r], []⟩)) _ _ s
  refine wpAny_bind (wpAny_newObj_type ?_)
  refine wpAny_pure ⟨plainId_quiet F.plain_list_iadd _, codeAny_builtin F.entry_list_iadd ?_⟩
  rw [Around.under_plainId F.plain_list_iadd _]
  let s1 : Shared := { s with heap := s.heap.push { cls := .type "list", data := .seq ([] : List Value).toArray } }
  show wpAny _ A.in1 (Builtin.List.listExtendWith (.ref s.heap.objs.size) (.ref r) (.ref s.heap.objs.size)) _ _ s1
  have hS : s1.heap.get? s.heap.objs.size = some { cls := .type "list", data := .seq #[] 0 } := Heap.get?_push_size _ rfl
  refine wpAny_mono (kdl_extend (A := A) (s := s1) (R := fun rr s' => rr = .ok (.ret (.ref s.heap.objs.size)) ∧
      ∃ (h' : Heap) (tk : Nat) (acc : Array Value) (c' : Nat), s' = { s with heap := h', toks := tk } ∧ (∀ b o, s.heap.get? b = some o → h'.get? b = some o) ∧
        h'.get? s.heap.objs.size = some { cls := .type "list", data := .seq acc c' } ∧ ItemsOf P acc n)
    K hh (K.keep _ _ hok fun b _ o e => Heap.get?_push_of_some _ e) _ (Nat.ne_of_gt hlt.1) (Nat.ne_of_gt hlt.2) _ 0 hS
    (fun h' tk acc c' hk e hi => ⟨rfl, h', tk, acc, c', rfl, fun b o q => hk b o (Nat.ne_of_lt (Heap.lt_size q)) (Heap.get?_push_of_some _ q), e, hi⟩) hn) (fun fin s' h => ?_) (fun e s' h => ?_)
  · cases fin with
    | done f =>
      obtain ⟨e, h', tk, acc, c', rfl, hk, hS', hi⟩ := h
      cases e
      show wpAny _ A (load s.heap.objs.size >>= _) _ _ _
      exact wpAny_bind (wpAny_load hS' (wpAny_pure (hQ h' tk acc hk hi)))
    | again c' =>
      refine ⟨h.1, codeAny_mono h.2 fun rr s'' hr' => ?_⟩
      obtain ⟨rfl, h', tk, acc, c', rfl, hk, hS', hi⟩ := hr'
      show wpAny _ A (load s.heap.objs.size >>= _) _ _ _
      exact wpAny_bind (wpAny_load hS' (wpAny_pure (hQ h' tk acc hk hi)))
  · exact absurd h.1 (by simp)
theorem tuple_newK {Q₁ : Value → Shared → Prop} (K : KdlSrc prog w "dict" r d n P OK) (hh : A.handled = none) (hok : OK s.heap) (hn : n ≤ sizeLine)
    (h : ∀ (h' : Heap) (tk : Nat) (acc : Array Value), (∀ b o, s.heap.get? b = some o → h'.get? b = some o) → ItemsOf P acc n →
      Q₁ (.ref h'.objs.size) { s with heap := h'.push { cls := .type "tuple", data := .seq acc }, toks := tk }) :
    codeAny (model prog w) A (.call (.builtin "tuple.__new__") ⟨[.type "tuple", .ref r], []⟩) (wants Q₁ E) s := by
  refine codeAny_of_tree ?_
  show wpAny _ A.in1 (do
    checkBuiltinCall "tuple.__new__" ⟨[.type "tuple", .ref r], []⟩
    again (.builtin "tuple.__new__" ⟨[.type "tuple", .ref r], []⟩)) _ _ s
  refine wpAny_bind (wpAny_of_eq (F.newCall_tuple_1 _) (wpAny_pure ⟨plainId_quiet F.plain_tuple_new _, codeAny_builtin F.entry_tuple_new ?_⟩))
  rw [Around.under_plainId F.plain_tuple_new _]
  have hsub := sub_tuple_self
  have hinit := init_tuple_lookup
  have hmh := madeHere_tuple
  have hTI : s.TypeIs (.ref r) "dict" := K.type s hok
  have hh1 : A.in1.handled = none := hh
  wp_walk using wpAny_typeOf hTI, collectK (A := A.in1) K hh1 hok hn
  intro h' tk acc hk hacc
  show wpAny _ _ (Builtin.Tuple.tupleExact acc.toList.toArray >>= fun v => ret v) _ _ _
  unfold Builtin.Tuple.tupleExact
  refine wpAny_bind (wpAny_newObj_type ?_ (by
    show acc.toList.toArray.size ≤ sizeLine
    simp only [Array.toArray_toList]
    rw [hacc.1]
    exact hn))
  refine wpAny_pure ?_
  have e : acc.toList.toArray = acc := by simp
  rw [e]
  exact h h' tk acc hk hacc
theorem tuple_callK {Q : Value → Shared → Prop} (K : KdlSrc prog w "dict" r d n P OK) (hh : A.handled = none) (hok : OK s.heap) (hn : n ≤ sizeLine)
    (hQ : ∀ (h' : Heap) (tk : Nat) (acc : Array Value), (∀ b o, s.heap.get? b = some o → h'.get? b = some o) → ItemsOf P acc n →
      Q (.ref h'.objs.size) { s with heap := h'.push { cls := .type "tuple", data := .seq acc }, toks := tk }) :
    wpAny (model prog w) A (call (.type "tuple") [.ref r]) Q E s := by
  refine callType_codes (Q₁ := fun obj s₁ => s₁.TypeIs obj "tuple" ∧ Q obj s₁) F.called_tuple (F.typeCall_tuple_1 _) F.entry_object_init
    (tuple_newK (A := A.in1) K hh hok hn fun h' tk acc hk hacc => ⟨⟨_, Heap.get?_push_size _ rfl, rfl⟩, hQ h' tk acc hk hacc⟩) fun obj s₁ h₁ => ?_
  exact ⟨h₁.1, F.args_object_init_2 obj _, object_init_meets F.called_tuple.init.lookup F.called_tuple.made (by decide) prog w A.in1 _ s₁ ⟨h₁.1, rfl, h₁.2⟩⟩
end
/-- tuple(d): the keys -/
def rTupD : List V → Hp → VK → Prop := fun xs H Q => ∃ p kvs, xs = [.ref p] ∧ H p = some (.dK kvs) ∧ ∀ q, H q = none → Q (.ref q) (upd H q (.tup (kvs.map fun kv => kV kv.1)))
theorem tuple_dK {X : Cx} (hc : X.calm = true) : CallR X (.type "tuple") rTupD := by
  intro pins s σ H xs us Q I r h
  obtain ⟨p, kvs, e, hk, q⟩ := h
  subst e
  obtain ⟨u, eu, rx⟩ := vals1 r
  subst eu
  obtain rfl : u = Value.ref p := rx
  obtain ⟨z, lo, vs, rk, hd⟩ := (show ObjOk X.prog X.w H s.heap p (.dK kvs) from I.hok p _ hk)
  obtain ⟨ep, hat⟩ := hd.dictAt
  have hl : kvs.length = vs.length := Paired.length rk
  refine tuple_callK (PySem.W.kdl_dict (knd := mixKind X.prog X.w) (kvs := vs) (ep := ep) lo) (I.ok.hd hc) hat (by rw [← hl]; exact z) fun h' tk acc' hkeep hacc => ?_
  have I2 : Inv X pins σ H { s with heap := h', toks := tk } := I.kept hkeep
  refine ⟨.ref h'.objs.size, upd H h'.objs.size (.tup (kvs.map fun kv => kV kv.1)),
    I2.laid (t' := tk) (fun c o e => Heap.get?_push_of_some _ e) (Nat.le_refl _) (show ObjOk X.prog X.w _ _ _ (.tup (kvs.map fun kv => kV kv.1)) from ⟨?_, acc'.toList, ?_, ?_⟩), rfl, q _ (I2.hok.fresh (Nat.le_refl _))⟩
  · rw [List.length_map]
    exact z
  · have el : acc'.toList.length = acc'.size := by simp
    refine vals_of_at (by rw [List.length_map, el, hacc.1, hl]) fun j x w h1 h2 => ?_
    obtain ⟨k, y, hky, hi⟩ := hacc.2 j w (by rw [← Array.getElem?_toList]; exact h2)
    have e1 : (kvs.map (·.1))[j]? = some k := by
      rw [KV.keys rk, List.getElem?_map, hky] <;> rfl
    have e2 : (kvs.map fun kv => kV kv.1)[j]? = some (kV k) := by
      have e3 : (kvs.map fun kv => kV kv.1) = (kvs.map (·.1)).map kV := by rw [List.map_map] <;> rfl
      rw [e3, List.getElem?_map, e1] <;> rfl
    rw [e2] at h1
    cases h1
    exact keyIs_rel hi
  · rw [Array.toArray_toList]
    exact IsTup.new _ _
end Lq
namespace Lq
open PySem PySem.Spec PyProof.Rows L2
section
variable {X : Cx}
/-- y = {k: v for target in iter ..} -/
theorem ps_setDc {i : Nat} {y : Str} {py : Pos} {kx vx tg iter : Expr} {ifs : List Expr} {scope : Scope} {own : List (Str × Nat)} {pos spos : Pos} {wi : TI} {g : TG} {tt : TT} {tk tv : TE}
    (hc : X.calm = true) (hN : X.N.Nodup) (hy : X.N[i]? = some y) (hyl : X.env.scope.names.lookup y = some .local)
    (hsw : swapsWith (.DictComp kx vx [⟨tg, iter, ifs, 0⟩] scope pos) (some (.Name y py)) spos.line X.env = pure true) (hi : PI X tg iter wi) (ok : BlkOk X.N X.env.scope scope own)
    (hg : ∀ (s : Shared) (H : Hp) (C : Addr) (cl : List (Str × Addr)) (fp : List Addr), PG (X.blk s H scope (compEnvC scope cl C X.env) fp) tg g)
    (ht : ∀ (s : Shared) (H : Hp) (C : Addr) (cl : List (Str × Addr)) (fp : List Addr), PTs (X.blk s H scope (compEnvC scope cl C X.env) fp) ifs tt)
    (hk : ∀ (s : Shared) (H : Hp) (C : Addr) (cl : List (Str × Addr)) (fp : List Addr), PE (X.blk s H scope (compEnvC scope cl C X.env) fp) kx tk)
    (he : ∀ (s : Shared) (H : Hp) (C : Addr) (cl : List (Str × Addr)) (fp : List Addr), PE (X.blk s H scope (compEnvC scope cl C X.env) fp) vx tv)
    (hs : ∀ x, foldedSetIterable iter X.env x = pure x := by intro _; rfl) :
    PS X (.Assign [.Name y py] (.DictComp kx vx [⟨tg, iter, ifs, 0⟩] scope pos) spos) (tAsg (tDc wi g tt tk tv (own.map (·.2))) (gName i)) := by
  refine ⟨fun pins s σ H D I h => ?_⟩
  rw [exec_Assign_Name_used _ _ _ _ hsw]
  refine wpAny_bind (wpAny_standAt (wpAny_bind ?_))
  show wpAny _ X.A (do
    let _ ← comprehension (.DictComp kx vx [⟨tg, iter, ifs, 0⟩] scope pos) scope X.env (firstIterPos [⟨tg, iter, ifs, 0⟩] pos) newDict false (eval iter X.env) (some (assign (.Name y py) X.env))) _ _ s
  have h : tDc wi g tt tk tv (own.map (·.2)) σ H (fun x H1 => gName i x σ H1 D.nx) := h
  refine wpAny_bind (thn (dc_core (Qf := fun _ s' => SP X pins D .next s') hc hN I hi ok hg ht hk he hs h fun L C s' m H' I' q hn f => ?_) fun _ s' hq => wpAny_pure (wpAny_pure hq))
  show wpAny _ _ (assign (.Name y py) X.env (.ref L)) _ _ _
  refine wpAny_assign_Name (store_ok2 (v := V.ref L) I' hN hy (.inl hyl) rfl (fun s2 I2 ⟨a, sb, ha⟩ => ?_) (.inr hyl))
  obtain ⟨f0, f1, f2, f3, f4, f5⟩ := f
  have haC : C ≠ a := by
    rcases ha with z | z
    · rw [z]
      exact f1
    · exact fun e => f4 y a z e.symm
  refine ⟨m, hn.sameBut sb haC, fun h3 sb3 => ?_⟩
  exact ⟨_, H', I2.turned (t' := s2.toks) (fun b o hb e => (sb3.2 b hb).trans e) f0 f1 f3 f4 f5, q⟩
theorem sw_dict {kx vx : Expr} {gs : List Comprehension} {scope : Scope} {pos py : Pos} {y : Str} {l : Nat} {env : Env} (hk : env.scope.kind = .function) (hy : env.scope.names.lookup y = some .local) (hl : (py.line == pos.line) = true)
    (ha : (scope.names.any fun (n, k) => n == y && (k == .local || k == .cell)) = false) : swapsWith (.DictComp kx vx gs scope pos) (some (.Name y py)) l env = pure true := by
  have ky : env.kindOf y = some .local := hy
  have hb : env.blockKind = .function := by
    unfold Env.blockKind
    rw [hk]
    rfl
  unfold swapsWith
  simp only [hb, ky, ha, Expr.pos, hl]
  rfl
/-- the turns of a dict comprehension over a list that stays -/
theorem dc_list {K : PySem.W.Frag} {a : Addr} {xs : List V} {g : TG} {tt : TT} {tk tv : TE} {vs : List Nat} {σ : L2.St} {H1 : Hp} {D : Addr} {Qd : Hp → Prop} (Pv : Nat → Hp → Prop) (h0 : Pv 0 (upd H1 D (.dK [])))
    (hl : ∀ i H, i ≤ xs.length → Pv i H → SqL K H a xs)
    (hs : ∀ i x H, xs[i]? = some x → Pv i H → g x (wipe σ vs) H fun σ2 H2 => wipe σ2 vs = wipe σ vs ∧ tt σ2 H2 fun b H3 =>
      if b = true then tk σ2 H3 fun y H4 => tv σ2 H4 fun z H5 => ∃ kvs k, y = kV k ∧ H5 D = some (.dK kvs) ∧ kvs.length < sizeLine ∧ Pv (i + 1) (upd H5 D (.dK (putK kvs k z))) else Pv (i + 1) H3)
    (hd : ∀ H, Pv xs.length H → Qd H) :
    ∃ W : Nat → Nat → Hp → Prop, (∃ m, W 0 m (upd H1 D (.dK []))) ∧ ∀ i m H, W i m H →
      ((Itl K a).stop i H ∧ Qd H) ∨ ((Itl K a).go i H ∧ ∃ Nx : Hp → Prop, (∀ H', Nx H' → ∃ m', m' < m ∧ W (i + 1) m' H') ∧ ∀ x H', (Itl K a).yld i H x H' → g x (wipe σ vs) H' fun σ2 H2 => wipe σ2 vs = wipe σ vs ∧ tt σ2 H2 fun b H3 =>
        if b = true then tk σ2 H3 fun y H4 => tv σ2 H4 fun z H5 => ∃ kvs k, y = kV k ∧ H5 D = some (.dK kvs) ∧ kvs.length < sizeLine ∧ Nx (upd H5 D (.dK (putK kvs k z))) else Nx H3) := by
  refine ⟨fun i m H => m = xs.length - i ∧ i ≤ xs.length ∧ Pv i H, ⟨xs.length, by simp, Nat.zero_le _, h0⟩, ?_⟩
  rintro i m H ⟨rfl, hi, p⟩
  have q := hl i H hi p
  by_cases hlt : i < xs.length
  · refine .inr ⟨⟨xs, xs[i], q, by simp [hlt]⟩, Pv (i + 1), fun H' p' => ⟨xs.length - (i + 1), by omega, rfl, hlt, p'⟩, fun x H' y => ?_⟩
    obtain ⟨e, y⟩ := y
    subst e
    exact hs i x _ (y xs q) p
  · have e : i = xs.length := by omega
    subst e
    exact .inl ⟨⟨xs, q, Nat.le_refl _⟩, hd H p⟩
end
end Lq
namespace Lq
open PySem PySem.Spec PyProof.Rows L2
section
variable {X : Cx}
/-- a ** b where a's bits, b times, are few enough -/
theorem op_powB : OpR X (binaryOp .Pow) (rI (fun i j => 0 ≤ j ∧ (Builtin.Int.intBits i : Int) * j ≤ 2 ^ 27) fun i j => .int (i ^ j.toNat)) :=
  opI fun _ _ _ _ _ _ _ hc q => pow_int hc.1 hc.2 q
/-- set(t), t a tuple of ints -/
def rSetT (K : PySem.W.Frag) (w : World) : List V → Hp → VK → Prop := fun xs H Q => ∃ (a : Addr) (ns : List Int), xs = [.ref a] ∧ SqT K H a (ns.map V.int) ∧ ns.length ≤ 60 ∧
  ∀ p c, H p = none → c ≤ ns.length → Q (.ref p) (upd H p (SetO w p (fun j => decide (j ∈ ns)) c))
theorem set_ofT (hc : X.calm = true) : CallR X (.type "set") (rSetT X.K X.w) := by
  intro pins s σ H xs us Q I r h
  obtain ⟨a, ns, rfl, hS, hl, q⟩ := h
  obtain ⟨u, rfl, rx⟩ := vals1 r
  obtain rfl : u = Value.ref a := rx
  obtain ⟨its, rv, ht, hz⟩ := I.tuple hS
  refine L2.call_set_tupI ns (I.ok.hd hc) ht (by simpa using RZ.intsAre_vals rv) (by unfold scanBound; omega) fun h' tk c hR hcn hk => ?_
  refine ⟨.ref s.heap.objs.size, upd H s.heap.objs.size (SetO X.w s.heap.objs.size (fun j => decide (j ∈ ns)) c), I.laid (t' := tk) hk (Nat.le_refl _) (setO_new hR), rfl, q _ c (I.hok.fresh (Nat.le_refl _)) hcn⟩
end
end Lq
/-! set(xs), xs a list of different texts -/
namespace Lq
open PySem PySem.Spec PyProof.Rows SS
section
variable {prog : Program} {w : World} {A : Around} {R : Result → Shared → Prop} {I : Addr} {fp wr : List Addr} {G : Array GenState → Array GenState → Prop} {n : Nat} {P : Nat → Value → Prop} {St : Nat → Shared → Prop}
theorem loopN (W : WalksS prog w A.in1 I fp wr G n P St) (S : Addr) (qSf : S ∉ fp) (xs : List Str) (qsz : xs.length = n) (hnd : xs.Nodup) (qn1 : n ≤ 100)
    (qval : ∀ i v, P i v → ∃ t, v = .str (xs.getD i Str.empty) t) :
    ∀ (k i : Nat) (s : Shared), n - i = k → i ≤ n → St i s →
      s.heap.SetOf (PySem.strKind prog w) S (fun k' => (xs.take i).any (· == k')) i →
      (∀ s', Moved (S :: wr) G s s' → s'.heap.SetOf (PySem.strKind prog w) S (fun k' => (xs.take n).any (· == k')) n → R (.ok (.ret .none)) s') →
      codeAny (model prog w) A (.builtin "set.update.loop" ⟨[.ref S, .ref I], []⟩) R s := by
  have qSw : S ∉ wr := fun h => qSf (W.sub _ h)
  have qsub : ∀ b ∈ wr, b ∈ S :: wr := fun b hb => List.mem_cons_of_mem _ hb
  intro k
  induction k with
  | zero =>
    intro i s qk qi qst qS qR
    have hin : i = n := by omega
    subst hin
    refine codeAny_builtin PyProof.Rows.F.entry_set_update_loop ?_
    rw [Around.under_plainId PyProof.Rows.F.plain_set_update_loop _]
    show wpAny _ A.in1 (pyNext (.ref I) >>= _) _ _ s
    refine wpAny_bind (W.done s _ _ qst fun s' qm => ?_)
    show wpAny _ A.in1 (ret Value.none) _ _ s'
    exact wpAny_pure (qR s' (qm.mono qsub) (by
      obtain ⟨o, es, ep, t, ho, rest⟩ := qS
      exact ⟨o, es, ep, t, qm.heap S _ qSw ho, rest⟩))
  | succ k ih =>
    intro i s qk qi qst qS qR
    have qlt : i < n := by omega
    refine codeAny_builtin PyProof.Rows.F.entry_set_update_loop ?_
    rw [Around.under_plainId PyProof.Rows.F.plain_set_update_loop _]
    show wpAny _ A.in1 (pyNext (.ref I) >>= _) _ _ s
    refine wpAny_bind (W.item i s _ _ qlt qst fun v s' qP qst' qm => ?_)
    obtain ⟨t, rfl⟩ := qval i v qP
    have qS' : s'.heap.SetOf (PySem.strKind prog w) S (fun k' => (xs.take i).any (· == k')) i := by
      obtain ⟨o, es, ep, tb, ho, rest⟩ := qS
      exact ⟨o, es, ep, tb, qm.heap S _ qSw ho, rest⟩
    show wpAny _ A.in1 (holding [Value.str (xs.getD i Str.empty) t] (setAdd S (.str (xs.getD i Str.empty) t)) >>= _) _ _ s'
    refine wpAny_bind (wpAny_holding ?_)
    unfold setAdd
    refine wpAny_holding ?_
    refine wpAny_bind ((PySem.strKind prog w).pyHash (k := xs.getD i Str.empty) (strKind_is _ _ _ _) ?_)
    refine wpAny_setAddHashed_of (knd := PySem.strKind prog w) (s := { s' with toks := s'.toks + 1 }) (strKind_is _ _ _ _) rfl qS' (by unfold scanBound; omega) fun h' qsb qS2 => ?_
    have qSi : h'.SetOf (PySem.strKind prog w) S (fun k' => (xs.take (i + 1)).any (· == k')) (i + 1) := by
      have hix : i < xs.length := by omega
      have ex : xs.getD i Str.empty = xs[i] := by
        rw [List.getD_eq_getElem?_getD, List.getElem?_eq_getElem hix]
        rfl
      have no : ((xs.take i).any (· == xs.getD i Str.empty)) = false := by
        rw [ex]
        cases hb : (xs.take i).any (· == xs[i]) with
        | false => rfl
        | true =>
          obtain ⟨y, hy, ey⟩ := List.any_eq_true.mp hb
          have ey2 : y = xs[i] := eq_of_beq ey
          rw [ey2] at hy
          obtain ⟨j, hj⟩ := List.mem_iff_getElem?.mp hy
          rw [List.getElem?_take] at hj
          by_cases hji : j < i
          · rw [if_pos hji] at hj
            obtain ⟨hjl, ej⟩ := List.getElem?_eq_some_iff.mp hj
            exact absurd ej (List.pairwise_iff_getElem.mp hnd j i hjl hix hji)
          · rw [if_neg hji] at hj
            cases hj
      refine SetOf_congr qS2 (fun k' => ?_) (by rw [no]; rfl)
      rw [List.take_add_one, List.getElem?_eq_getElem hix, List.any_append, ex]
      show (_ || decide (k' = xs[i])) = (_ || ([xs[i]].any (· == k')))
      congr 1
      by_cases e : k' = xs[i]
      · rw [e]
        simp
      · have e' : (xs[i] == k') = false := by simpa [beq_iff_eq] using (fun h' : xs[i] = k' => e h'.symm)
        simp [e', e]
    refine wpAny_pure ⟨plainId_quiet PyProof.Rows.F.plain_set_update_loop _, ih (i + 1) _ (by omega) qlt (W.frame _ s' _ _ qst' (Nat.le_succ _) fun b hb o e => ?_) qSi fun s'' qm'' qS'' => ?_⟩
    · rw [qsb.2 b (fun h : b = S => qSf (by rw [← h]; exact hb))]; exact e
    · refine qR s'' (Moved.trans W.gtrans ((qm.mono qsub).then_heap (Nat.le_succ _) fun b o hb e => ?_) qm'') qS''
      rw [qsb.2 b (fun h : b = S => hb (by rw [h]; exact List.mem_cons_self))]; exact e
end
section
variable {prog : Program} {w : World} {A : Around} {E : Value → Shared → Prop} {s : Shared}
set_option maxHeartbeats 3200000 in
theorem set_listN {l : Addr} {items : Array Value} {xs : List Str} {Q : Value → Shared → Prop}
    (qh : A.handled = none) (ql : s.heap.IsList l items) (qi : PyProof.Rows.StrsAre items.toList xs) (hnd : xs.Nodup) (qn1 : xs.length ≤ 100)
    (h : ∀ (h' : Heap) (tk : Nat), h'.SetOf (PySem.strKind prog w) s.heap.objs.size (fun k' => (xs.take items.size).any (· == k')) items.size →
      (∀ b o, b < s.heap.objs.size → s.heap.get? b = some o → h'.get? b = some o) → Q (.ref s.heap.objs.size) { s with heap := h', toks := tk }) :
    wpAny (model prog w) A (call (.type "set") [.ref l]) Q E s := by
  obtain ⟨c, tl, qmro⟩ := PySem.F.called_set.mro
  have qmade := PySem.F.called_set.made
  have qsub := PySem.F.called_set.sub
  refine wpAny_call (codeAny_of_tree ?_)
  show wpAny _ _ (callAny (.type "set") _) _ _ _
  refine wpAny_pure ⟨Code.quiet_builtin _ (by decide +kernel), codeAny_builtin PySem.F.entry_type_call ?_⟩
  rw [Around.under_plain (weight_type_call_type "set" [.ref l] []) rfl]
  have h1 := PySem.F.called_set.notType
  have h2 := PySem.F.called_set.canCreate
  have qct := PySem.F.typeCall_set_1 (.ref l)
  repeat (any_goals (first | assumption | wp_step))
  refine codeAny_mono (code_set_new_1 (.ref l) (E := E) (Q₁ := fun obj s₁ => ∃ lg : Bool, obj = .ref s.heap.objs.size ∧ s₁ = { s with heap := s.heap.push { cls := .type "set", dict := none, data := .set #[] 0 (.fresh 0 0 lg) } }) fun lg => ⟨lg, rfl, rfl⟩) fun r s₁ qr => ?_
  cases r with
  | error e => exact qr
  | ok fl =>
    cases fl with
    | ret obj =>
      obtain ⟨lg, rfl, rfl⟩ := qr
      have qS : (s.heap.push { cls := .type "set", dict := none, data := .set #[] 0 (.fresh 0 0 lg) }).get? s.heap.objs.size = some { cls := .type "set", dict := none, data := .set #[] 0 (.fresh 0 0 lg) } := Heap.get?_push_size _ rfl
      have qT : Shared.TypeIs { s with heap := s.heap.push { cls := .type "set", dict := none, data := .set #[] 0 (.fresh 0 0 lg) } } (.ref s.heap.objs.size) "set" := ⟨_, qS, rfl⟩
      have qli := PySem.F.called_set.init.lookup
      have qbi := PySem.F.called_set.init.bind (.ref s.heap.objs.size)
      repeat (any_goals (first | assumption | wp_step))
      refine codeAny_mono (codeAny_call_builtin (R := wants (fun r s₂ => r = .none ∧ ∃ h' tk, s₂ = { s with heap := h', toks := tk } ∧
          h'.SetOf (PySem.strKind prog w) s.heap.objs.size (fun k' => (xs.take items.size).any (· == k')) items.size ∧
          (∀ b o, b < s.heap.objs.size → s.heap.get? b = some o → h'.get? b = some o)) E) PySem.F.called_set.init.plain PySem.F.entry_set_init (check_set_init_1 qT ?_)) fun r₂ s₂ qr₂ => ?_
      · obtain ⟨ol, qol, qcl, nl, qdl⟩ := ql
        obtain ⟨oc, od, odt, osl⟩ := ol
        simp only at qcl qdl
        subst qcl; subst qdl
        have qol' : (s.heap.push { cls := .type "set", dict := none, data := .set #[] 0 (.fresh 0 0 lg) }).get? l = some { cls := .type "list", dict := od, data := .seq items nl, slots := osl } := Heap.get?_push_of_some _ qol
        have qsls := PySem.F.sub_list_set
        have qslf := PySem.F.sub_list_frozenset
        have qne : (Value.type "list" == Value.type "dict") = false := by decide
        have ql1 : (s.heap.push { cls := .type "set", dict := none, data := .set #[] 0 (.fresh 0 0 lg) }).IsList l items := ⟨_, qol', rfl, nl, rfl⟩
        unfold Builtin.«set.__init__» noKeywords Builtin.Frozenset.updateFrom
        generalize hPI : pyIter = PI
        wp_walk
        subst hPI
        refine wpAny_pyIter_list ql1 ?_
        refine wpAny_bind (wpAny_runValue ?_)
        have qlS : l < s.heap.objs.size := Heap.lt_size qol
        have qh3 : A.in1.in1.in1.handled = none := by simp [qh]
        have qneI : l ≠ (s.heap.push { cls := .type "set", dict := none, data := .set #[] 0 (.fresh 0 0 lg) }).objs.size := by
          rw [Heap.size_push]; exact Nat.ne_of_lt (Nat.lt_succ_of_lt qlS)
        have qSf : s.heap.objs.size ∉ [(s.heap.push { cls := .type "set", dict := none, data := .set #[] 0 (.fresh 0 0 lg) }).objs.size, l] := by
          rw [Heap.size_push]; simp only [List.mem_cons, List.mem_singleton, List.not_mem_nil, or_false, not_or]
          exact ⟨Nat.ne_of_lt (Nat.lt_succ_self _), Nat.ne_of_gt qlS⟩
        have qsz : xs.length = items.size := by rw [← StrsAre.len_eq qi, Array.length_toList]
        have qval : ∀ (i : Nat) (v : Value), items[i]? = some v → ∃ t, v = .str (xs.getD i Str.empty) t := fun i v qv => strs_at qi i v (by rw [Array.getElem?_toList]; exact qv)
        refine loopN ((Walks.list qh3 _ l qneI items).toS) s.heap.objs.size
          qSf xs qsz hnd (by rw [← qsz]; exact qn1) qval (items.size - 0) 0 _ (by omega) (Nat.zero_le _)
          ⟨⟨_, Heap.get?_push_size _ rfl, rfl, rfl⟩, (ql1.push _)⟩ ?hS0 ?hR
        case hS0 =>
          have qget : ((s.heap.push { cls := .type "set", dict := none, data := .set #[] 0 (.fresh 0 0 lg) }).push { cls := .type "list_iterator", data := .fields #[.ref l, .int 0 0] }).get? s.heap.objs.size
              = some { cls := .type "set", dict := none, data := .set #[] 0 (.fresh 0 0 lg) } := Heap.get?_push_of_some _ qS
          exact PyProof.Rows.SetOf_congr ((PyProof.Rows.setObjOf_fresh (knd := PySem.strKind prog w) lg).setOf qget (by unfold scanBound; omega)) (fun _ => rfl) rfl
        case hR =>
          intro s' qm qS'
          obtain ⟨h', g', d', tk', os'⟩ := s'
          have eg : g' = s.gens := qm.gens
          have ed : d' = s.drawn := qm.drawn
          have eo : os' = s.os := qm.os
          subst eg; subst ed; subst eo
          show wpAny _ _ _ _ _ _
          refine wpAny_pure ?_
          show wpAny _ _ (ret Value.none) _ _ _
          refine wpAny_pure ⟨rfl, h', tk', rfl, qS', fun b o hb e => ?_⟩
          have hb1 : b ≠ s.heap.objs.size := Nat.ne_of_lt hb
          have hb2 : b ≠ (s.heap.push { cls := .type "set", dict := none, data := .set #[] 0 (.fresh 0 0 lg) }).objs.size := by
            rw [Heap.size_push]; exact Nat.ne_of_lt (Nat.lt_succ_of_lt hb)
          exact qm.heap b o (by simp only [List.mem_cons, List.mem_singleton, List.not_mem_nil, or_false, not_or]; exact ⟨hb1, hb2⟩) (Heap.get?_push_of_some _ (Heap.get?_push_of_some _ e))
      · cases r₂ with
        | error e => exact qr₂
        | ok fl₂ =>
          cases fl₂ with
          | ret r =>
            obtain ⟨rfl, h', tk, rfl, qS', qk'⟩ := qr₂
            repeat (any_goals (first | assumption | wp_step))
            exact h _ _ qS' qk'
          | _ => exact qr₂.elim
    | _ => exact qr.elim
end
end Lq
/-! len(set(xs)), xs a list of different texts -/
namespace Lq
open PySem PySem.Spec PyProof.Rows L2
def tLenSetN (K : PySem.W.Frag) (ta : TE) : TE := fun σ H Q => ta σ H fun x H1 => ∃ (l : Addr) (zs : List Str), x = .ref l ∧ SqL K H1 l (zs.map V.str) ∧ zs.Nodup ∧ zs.length ≤ 100 ∧ Q (.int (zs.length : Nat)) H1
theorem pe_lenSetN {X : Cx} {a : Expr} {ta : TE} {p p2 q pos : Pos} (hg : Gl X "len") (hm : X.mg "len" = none) (gs : Gl X "set") (ms : X.mg "set" = none) (ha : PE X a ta) (hc : X.calm = true := by rfl)
    (na : starEach [a] X.env = (false, eval a X.env) :: starEach [] X.env := by rfl) : PE X (.Call (.Name "len" p) [.Call (.Name "set" p2) [a] [] q] [] pos) (tLenSetN X.K ta) := by
  refine ⟨fun pins s σ H Q I h => ?_⟩
  refine Call_ (ld_blt I hg hm boot_len (PyProof.Rows.callWith_builtin1 (PyProof.Rows.args_cons ?_ rfl) rfl rfl))
  refine Call_ (ld_blt I gs ms boot_set (PyProof.Rows.callWith_type1
    (PyProof.Rows.args_cons (thn (ha.run pins s σ H _ I h) fun v s1 ⟨x, H1, I1, r1, q1⟩ => PyProof.Rows.args_nil ?_) na) na rfl))
  obtain ⟨l, zs, rfl, hq, hnd, hl, q1⟩ := q1
  cases r1
  obtain ⟨its, rv, pl, hz⟩ := I1.list hq
  have hlen : its.toArray.size = zs.length := by
    rw [List.size_toArray, ← rv.length, List.length_map]
  refine set_listN (I1.ok.hd hc) pl.isList (by simpa using strsAre_of rv) hnd hl fun h' tk hS hk => PyProof.Rows.args_nil ?_
  rw [hlen] at hS
  obtain ⟨o, es, ep, t, ho, hex, hd, _, _, _, hf, hn⟩ := hS
  have I2 : Inv X pins σ H1 { s1 with heap := h', toks := tk } := I1.kept fun b o e => hk b o (Heap.lt_size e) e
  exact call_len_set ho hex hd hf (by rw [hn]; omega) ⟨.int zs.length, H1, I2.tok _, ⟨_, by rw [hn]⟩, q1⟩
end Lq
/-! for i, x in enumerate(t), t a tuple -/
namespace Lq
open PySem PySem.Spec PyProof.Rows L2
section
open AutoSeq1 (wpAny_loadPart')
theorem enum_newT (l : Addr) (its : Array Value) (n : Nat) (dd : Option Addr) (sl : Array (Option Value)) :
    Meets (Builtin.«enumerate.__new__» ⟨[.type "enumerate", .ref l], []⟩) (fun _ R s =>
      s.heap.get? l = some { cls := .type "tuple", dict := dd, data := .seq its n, slots := sl } ∧
      R (.ok (.ret (.ref (s.heap.push { cls := .type "tuple_iterator", data := .fields #[.ref l, .int 0 0] }).objs.size)))
        { s with heap := Heap.push (s.heap.push { cls := .type "tuple_iterator", data := .fields #[.ref l, .int 0 0] }) { cls := .type "enumerate", data := .fields #[.none, .bool false, .ref s.heap.objs.size, rawInt 0, .none, .none] } }) :=
  .of_wp fun prog w A R s h => by
    obtain ⟨hp, g, d, tk, os⟩ := s
    obtain ⟨hl, h⟩ := h
    have qsub := sub_enumerate
    have qT : Heap.IsTuple (Shared.heap ⟨hp, g, d, tk, os⟩) l its := ⟨_, hl, rfl, n, rfl⟩
    wp_walk using wpAny_loadPart' hl
    refine wpAny_stack_any fun st => wpAny_pure ?_
    split
    · rename_i c _ _ _ _ _
      cases (c == Value.type "enumerate")
      · wp_walk using wpAny_loadPart' hl, wpAny_pyIter_tuple qT
        exact ⟨_, rfl, h⟩
      · wp_walk using wpAny_loadPart' hl, wpAny_pyIter_tuple qT
        exact ⟨_, rfl, h⟩
    · wp_walk using wpAny_loadPart' hl, wpAny_pyIter_tuple qT
      exact ⟨_, rfl, h⟩
end
section
variable {prog : Program} {w : World} {A : Around} {E : Value → Shared → Prop} {s : Shared}
theorem enum_callT {l : Addr} {its : Array Value} {Q : Value → Shared → Prop} (hT : s.heap.IsTuple l its)
    (h : ∀ h', IsEnum h' (s.heap.objs.size + 1) s.heap.objs.size 0 .none → h'.IsTupleIter s.heap.objs.size l 0 →
      (∀ b o, s.heap.get? b = some o → h'.get? b = some o) → Q (.ref (s.heap.objs.size + 1)) { s with heap := h' }) :
    wpAny (model prog w) A (call (.type "enumerate") [.ref l]) Q E s := by
  obtain ⟨⟨c, dd, dt, sl⟩, hl, hc, n, hd⟩ := hT
  replace hc : c = .type "tuple" := hc
  replace hd : dt = .seq its n := hd
  subst hc hd
  refine callType_new F.called_enumerate (by decide) (F.typeCall_enumerate_1 _) (F.newCall_enumerate_1 _)
    (fun obj => F.args_object_init_2 obj _) F.entry_enumerate_new (enum_newT l its n dd sl) ⟨hl, ?_⟩
  let h1 := s.heap.push { cls := .type "tuple_iterator", data := .fields #[.ref l, .int 0 0] }
  have hz : h1.objs.size = s.heap.objs.size + 1 := Heap.size_push ..
  show _ ∧ _
  rw [show (s.heap.push { cls := .type "tuple_iterator", data := .fields #[.ref l, .int 0 0] }).objs.size = s.heap.objs.size + 1 from hz]
  have he : IsEnum (h1.push { cls := .type "enumerate", data := .fields #[.none, .bool false, .ref s.heap.objs.size, rawInt 0, .none, .none] }) (s.heap.objs.size + 1) s.heap.objs.size 0 .none := by
    have q := Heap.get?_push_size h1 (o := { cls := .type "enumerate", data := .fields #[.none, .bool false, .ref s.heap.objs.size, rawInt 0, .none, .none] }) rfl
    rw [hz] at q
    exact q
  exact ⟨⟨_, he, rfl⟩, h _ he ⟨_, Heap.get?_push_of_some _ (Heap.get?_push_size _ rfl), rfl, rfl⟩ fun b o x => Heap.get?_push_of_some _ (Heap.get?_push_of_some _ x)⟩
end
/-- the tuple at a, each item in a new pair -/
def IteT (K : PySem.W.Frag) (a : Addr) (xs : List V) : It :=
  ⟨fun i H => SqT K H a xs ∧ i < xs.length,
   fun i H v H' => ∃ T x, xs[i]? = some x ∧ v = .ref T ∧ H T = none ∧ H' = upd H T (.tup [.int (i : Nat), x]),
   fun i H => SqT K H a xs ∧ xs.length ≤ i⟩
theorem turn_enumT {P : Program} {w : World} {K : PySem.W.Frag} {elts : List Expr} {kk : Nat} {tpos : Pos} (a e it : Addr) (xs : List V) :
    Turn P w K (.Tuple elts kk tpos) (IteT K a xs) [e, it] e (fun i h => (∃ old, IsEnum h e it ((i : Nat) : Int) old) ∧ h.IsTupleIter it a i ∧ e ≠ it ∧ i ≤ xs.length) where
  mem := by simp
  obj := fun i h st b hb => by
    obtain ⟨⟨old, he⟩, ⟨o, ho, hc, hd⟩, _⟩ := st
    rcases (show b = e ∨ b = it by simpa using hb) with z | z
    · rw [z]
      exact ⟨_, he, fun v q => nomatch q⟩
    · rw [z]
      exact ⟨o, ho, fun v q => by rw [hd] at q; cases q⟩
  keep := fun i h h' st k => let ⟨⟨old, he⟩, hi, hne, hle⟩ := st; ⟨⟨old, k e (by simp) _ he⟩, hi.at fun o q => k it (by simp) o q, hne, hle⟩
  item := by
    intro X hP hw hK hc i pins s σ H E I hf st hg
    subst hP hw hK
    obtain ⟨⟨old, he⟩, hit, hne, hle⟩ := st
    obtain ⟨hq, hxl⟩ := hg
    have hx : xs[i]? = some xs[i] := List.getElem?_eq_getElem hxl
    generalize xs[i] = x at hx
    obtain ⟨its, rv, p, hz⟩ := I.tuple hq
    obtain ⟨u, hu, ru⟩ := rv.get hx
    have hel : e < s.heap.objs.size := Heap.lt_size he
    have hil : it < s.heap.objs.size := by
      obtain ⟨_, q, _⟩ := hit
      exact Heap.lt_size q
    have hae : a ≠ e := by
      intro z
      obtain ⟨o, ho, hc', _⟩ := p
      rw [z, he] at ho
      cases ho
      simp at hc'
    have hai : a ≠ it := by
      intro z
      obtain ⟨o, ho, hc', _⟩ := p
      obtain ⟨o2, ho2, hc2, _⟩ := hit
      rw [z, ho2] at ho
      cases ho
      rw [hc2] at hc'
      simp at hc'
    have hlt : i < its.toArray.size := by
      rw [List.size_toArray]
      exact (List.getElem?_eq_some_iff.mp hu).1
    refine wpAny_pyNext_enum_itemD (Draws.tuple (A := X.A.in1) (I.ok.hd hc) it a hai its.toArray) he ⟨hit, p⟩ hlt hne (by simp [hne, Ne.symm hae]) fun y h' tk hy ho hit' hT hsz hk => ?_
    have ey : y = u := by
      have : its.toArray[i]? = some u := by simpa using hu
      rw [this] at hy
      injection hy with hy
      exact hy.symm
    subst ey
    refine ⟨_, rfl, wpAny_letOwnedTupleGo_enum (s := { s with heap := h', toks := tk + 1 }) ho fun h'' he' sb => ?_⟩
    have hT2 : h''.get? s.heap.objs.size = some { cls := .type "tuple", data := .seq #[.int i tk, y] } := (sb.2 _ (Nat.ne_of_gt hel)).trans hT
    have new : ObjOk X.prog X.w (upd H s.heap.objs.size (.tup [.int (i : Nat), x])) h'' s.heap.objs.size (.tup [.int (i : Nat), x]) :=
      ⟨by show 2 ≤ sizeLine; decide, [.int i tk, y], .cons ⟨_, rfl⟩ (.cons ru .nil), ⟨_, hT2, rfl, _, rfl⟩⟩
    have I1 : Inv X pins σ (upd H s.heap.objs.size (.tup [.int (i : Nat), x])) { s with heap := h'', toks := tk + 1 } :=
      I.turnedNew (ch := [e, it]) (fun b ob hb q => (sb.2 b (fun z => hb (by simp [z]))).trans
        (hk b ob (fun z => hb (by simp [z])) (fun z => hb (by simp [z])) q)) hf (Nat.le_refl _) new
    refine ⟨.ref s.heap.objs.size, _, I1, rfl, ⟨_, x, hx, rfl, I.hok.fresh (Nat.le_refl _), rfl⟩,
      ⟨⟨y, ?_⟩, hit'.1.at fun o q => (sb.2 it (Ne.symm hne)).trans q, hne, hxl⟩, fun b hb => ?_⟩
    · rw [show ((i + 1 : Nat) : Int) = (i : Int) + 1 by omega]
      exact he'
    · have hb' : b < s.heap.objs.size := by
        rcases (show b = e ∨ b = it by simpa using hb) with z | z
        · rw [z]
          exact hel
        · rw [z]
          exact hil
      rw [upd_ne (Nat.ne_of_lt hb')]
      exact (hf b hb).1
  done := by
    intro X hP hw hK hc i pins s σ H E I hf st hg
    subst hP hw hK
    obtain ⟨⟨old, he⟩, hit, hne, hle⟩ := st
    obtain ⟨hq, hx⟩ := hg
    obtain ⟨its, rv, p, hz⟩ := I.tuple hq
    obtain ⟨f0, f1, f2, f3, f4, f5⟩ := hf it (by simp)
    have hl := rv.length
    have hai : a ≠ it := by
      intro z
      obtain ⟨o, ho, hc', _⟩ := p
      obtain ⟨o2, ho2, hc2, _⟩ := hit
      rw [z, ho2] at ho
      cases ho
      rw [hc2] at hc'
      simp at hc'
    have hin : i = its.toArray.size := by
      rw [List.size_toArray]
      omega
    rw [hin] at hit
    exact wpAny_pyNext_enum_endD (Draws.tuple (A := X.A.in1) (I.ok.hd hc) it a hai its.toArray) he ⟨hit, p⟩
      fun h' eb => ⟨rfl, I.turned (t' := s.toks) (fun b o hb q => eb b o hb q) f0 f1 f3 f4 f5⟩
  self := fun A i s Q E st h => let ⟨⟨_, he⟩, _⟩ := st; wpAny_pyIter_enum he h
def iEnumT (K : PySem.W.Frag) (ta : TA) : TI := fun σ H R => ta σ H fun vs H1 => ∃ a xs, vs = [.ref a] ∧ SqT K H1 a xs ∧ R (IteT K a xs) H1
theorem pi_enumT {X : Cx} {e : Expr} {ta : TA} {p pos tpos : Pos} {elts : List Expr} {kk : Nat} (hg : Gl X "enumerate") (hm : X.mg "enumerate" = none) (ha : PA X [e] ta) (hs : starEach [e] X.env = [(false, eval e X.env)] := by rfl) :
    PI X (.Tuple elts kk tpos) (.Call (.Name "enumerate" p) [e] [] pos) (iEnumT X.K ta) := by
  refine ⟨fun pins s σ H R I h => ?_⟩
  refine Call_ (ld_blt I hg hm boot_enumerate (PyProof.Rows.callWith_type1
    (thn (ha.run pos pins s σ H _ I h) fun us s1 ⟨vs, H1, I1, r1, q1⟩ => ?_) hs rfl))
  obtain ⟨a, xs, ex, hq, q⟩ := q1
  subst ex
  cases r1 with
  | cons r rr =>
    cases rr
    cases r
    obtain ⟨its, rv, p', hz⟩ := I1.tuple hq
    refine enum_callT p' fun h' he hit hk => wpAny_pyIter_enum he ?_
    have I2 : Inv X pins σ H1 { s1 with heap := h' } := I1.kept (t' := s1.toks) hk
    refine ⟨s1.heap.objs.size + 1, [s1.heap.objs.size + 1, s1.heap.objs.size], _, _, H1, rfl, I2,
      turn_enumT a (s1.heap.objs.size + 1) s1.heap.objs.size xs, ⟨⟨.none, he⟩, hit, Nat.succ_ne_self _, Nat.zero_le _⟩, fun b hb => ?_, q⟩
    have hle : s1.heap.objs.size ≤ b := by
      rcases (show b = s1.heap.objs.size + 1 ∨ b = s1.heap.objs.size by simpa using hb) with z | z
      · rw [z]
        exact Nat.le_succ _
      · rw [z]
        exact Nat.le_refl _
    exact I1.fpOk hle (I1.hok.fresh hle)
/-- a for over enumerate of a tuple that stays -/
theorem for_enumT {K : PySem.W.Frag} {a : Addr} {xs : List V} {g : TG} {tb : TS} {D : Ends} {σ : L2.St} {H : Hp} (Pv : Nat → L2.St → Hp → Prop) (h0 : Pv 0 σ H) (hq : ∀ i σ H, Pv i σ H → SqT K H a xs)
    (hs : ∀ (i : Nat) (x : V) (T : Addr) (σ : L2.St) (H : Hp), xs[i]? = some x → Pv i σ H → H T = none → g (.ref T) σ (upd H T (.tup [.int (i : Nat), x])) fun σ2 H2 => tb { D with nx := Pv (i + 1), ct := Pv (i + 1), bk := D.nx } σ2 H2)
    (hd : ∀ σ H, Pv xs.length σ H → D.nx σ H) :
    ∃ W : Nat → Nat → L2.St → Hp → Prop, (∃ m, W 0 m σ H) ∧ ∀ i m σ H, W i m σ H →
      ((IteT K a xs).stop i H ∧ D.nx σ H) ∨ ((IteT K a xs).go i H ∧ ∃ N : L2.St → Hp → Prop, (∀ σ' H', N σ' H' → ∃ m', m' < m ∧ W (i + 1) m' σ' H') ∧ ∀ v H', (IteT K a xs).yld i H v H' → g v σ H' fun σ2 H2 => tb { D with nx := N, ct := N, bk := D.nx } σ2 H2) := by
  refine ⟨fun i m σ H => m = xs.length - i ∧ i ≤ xs.length ∧ Pv i σ H, ⟨xs.length, by simp, Nat.zero_le _, h0⟩, ?_⟩
  rintro i m σ H ⟨rfl, hi, p⟩
  have q := hq i σ H p
  by_cases hlt : i < xs.length
  · refine .inr ⟨⟨q, hlt⟩, Pv (i + 1), fun σ' H' p' => ⟨xs.length - (i + 1), by omega, rfl, hlt, p'⟩, fun v H' y => ?_⟩
    obtain ⟨T, x, hx, rfl, hT, rfl⟩ := y
    exact hs i x T σ H hx p hT
  · have e : i = xs.length := by omega
    subst e
    exact .inl ⟨⟨q, Nat.le_refl _⟩, hd σ H p⟩
end Lq
/-! walking over a list or a tuple, whichever it is -/
namespace Lq
open PySem PySem.Spec PyProof.Rows L2
def iEither (K : PySem.W.Frag) (te : TE) : TI := fun σ H R => te σ H fun v H2 =>
  ∃ p, v = .ref p ∧ (((∃ ys, SqL K H2 p ys) ∧ R (Itl K p) H2) ∨ ((∃ ys, SqT K H2 p ys) ∧ R (Itt K p) H2))
theorem pi_either {X : Cx} {tg e : Expr} {te : TE} (he : PE X e te) : PI X tg e (iEither X.K te) := by
  refine ⟨fun pins s σ H R J hh => ?_⟩
  refine thn (he.run pins s σ H _ J hh) fun u t ⟨v, H2, J2, ru, p, ev, w⟩ => ?_
  subst ev
  cases ru
  have fresh : ∀ b ∈ [t.heap.objs.size], FpOk X pins H2 b := fun b mb => by
    have eb := List.mem_singleton.mp mb
    rw [eb]
    exact J2.fpOk (Nat.le_refl _)
      (J2.hok.fresh (Nat.le_refl _))
  rcases w with ⟨⟨ys, hy⟩, w⟩ | ⟨⟨ys, hy⟩, w⟩
  · obtain ⟨its, _, hp, _⟩ := J2.list hy
    refine wpAny_pyIter_list hp.isList ⟨t.heap.objs.size,
      [t.heap.objs.size], _, _, H2, rfl, ?_, turn_list p _,
      ⟨_, Heap.get?_push_size _ rfl, rfl, rfl⟩, fresh, w⟩
    exact J2.kept (t' := t.toks) fun _ _ z =>
      Heap.get?_push_of_some _ z
  · obtain ⟨its, _, hp, _⟩ := J2.tuple hy
    have hp' : t.heap.IsTuple p its.toArray := hp
    refine wpAny_pyIter_tuple hp' ⟨t.heap.objs.size,
      [t.heap.objs.size], _, _, H2, rfl, ?_, turn_tuple p _,
      ⟨_, Heap.get?_push_size _ rfl, rfl, rfl⟩, fresh, w⟩
    exact J2.kept (t' := t.toks) fun _ _ z =>
      Heap.get?_push_of_some _ z
end Lq
namespace Lq
open PySem L2 PySem.Spec PyProof.Rows
section
variable {X : Cx} {CX : CXT} {k n : Nat} {C p g f : Addr} {mc : Value} {fd : FuncData} {ps ks : List Str} {sp : Sp} {E : XK} {o e : Expr} {es : List Expr} {kws : List Keyword} {x m : Str} {pos apos : Pos} {ta : TE} {t tk : TA} {pl : Sem Bool}
variable {gg : List Value → List Value → List Value} {gV : List V → List V → List V}
/-- e.m(.., k = v), e the class at C, m a classmethod -/
def tClsK (C : Addr) (n m : Nat) (sp : Sp) (gV : List V → List V → List V) (E : XK) (ta : TE) (t tk : TA) : TE := fun σ H Q => ta σ H fun x H1 => x = .ref C ∧ t σ H1 fun vs H2 => tk σ H2 fun zs H3 => vs.length = n ∧ zs.length = m ∧ sp (gV (.ref C :: vs) zs) H3 Q E
theorem pe_clsK (he : PE X o ta) (r : ClX.CRead X.K C mc) (c : ClX.CMet X.K C mc m p g) (F : FnOk X.prog X.w X.K X.mg X.base CX k g fd ps sp) (hr : Room k X.A) (hb : KBn X.K fd ps (n + 1) ks gg gV) (hx : Passes CX X E) (ha : PA X (e :: es) t) (hkw : PK X kws tk)
    (hall : (backToKw pos (keywordEach kws X.env)).all (·.1.isSome) = true := by rfl) (hks : (backToKw pos (keywordEach kws X.env)).filterMap (·.1) = ks := by rfl)
    (hst : starEach (e :: es) X.env = (false, eval e X.env) :: starEach es X.env := by rfl) (hpl : ((backTo pos (starEach (e :: es) X.env)).any (·.1) || (backToKw pos (keywordEach kws X.env)).any (·.1.isNone)) = false := by rfl)
    (ht : eval (.Call (.Attribute o m apos) (e :: es) kws pos) X.env = (do
      let ov ← eval o X.env
      standAt apos.atName
      let (f, first) ← holding [ov] (getMethod ov m pl)
      callWith pos f first (backTo pos (starEach (e :: es) X.env)) (backToKw pos (keywordEach kws X.env))) := by rfl) :
    PE X (.Call (.Attribute o m apos) (e :: es) kws pos) (tClsK C n ks.length sp gV E ta t tk) := by
  refine ⟨fun pins s σ H Q I h => PySem.W.methodCall_KW (pl := pl) (thn (he.run pins s σ H _ I h) fun u s1 ⟨x, H1, I1, rx, ex, q⟩ => ?_) ht⟩
  subst ex
  obtain rfl : u = Value.ref C := rx
  refine ClX.getmethcm_ok I1 r c fun s2 I2 => ?_
  refine PySem.W.callWith_of hpl (PySem.W.keeps_M (K := X.K) (self := .ref C) c.fi) (evalArgs_kw2 hall ?_ hst)
  refine thn (ha.run pos _ s2 σ H1 _ I2 q) fun us s3 ⟨vs, H2, I3, rv, q2⟩ => ?_
  refine thn (hkw.run pos _ s3 σ H2 _ I3 q2) fun ws s4 ⟨zs, H3, I4, rz, l1, l2, q3⟩ => ⟨⟨ClX.pin_at I4, I4.kIn⟩, ?_⟩
  have rs : Vals (V.ref C :: vs) (Value.ref C :: us) := .cons rfl rv
  have go : codeAny (model X.prog X.w) X.A (.call (.ref g) ⟨.ref C :: us, ks.zip ws⟩) (fun r s' => match r with | .ok (.ret v) => EP X (_ :: pins) σ Q v s' | .ok _ => False | .error e => X.xe e s') s4 :=
    codeAny_mono (F.run X.A X.stack s4 H3 ⟨.ref C :: us, ks.zip ws⟩ (gg (.ref C :: us) ws) (gV (.ref C :: vs) zs) Q E hr I4.env0 (hb.to s4 _ ws I4.kIn (by rw [List.length_cons, ← rv.length, l1]) (by rw [← rz.length, l2])) (hb.rel rs rz) q3) fun r s' hq => by
      cases r with
      | error e => exact hx _ σ H3 s4 e s' I4 hq
      | ok fl =>
        cases fl with
        | ret u => exact I4.after hq
        | next => exact False.elim hq
        | brk => exact False.elim hq
        | cont => exact False.elim hq
  show wpAny _ _ (call _ ([] ++ us) _) _ _ _
  rw [List.nil_append, hks]
  exact thn (wpAny_call (PySem.W.method_call (ClX.pin_at I4) go)) fun _ _ y => ClX.unpinE y
/-- C(..), C a local name that holds the class -/
def tMakeL (i : Nat) (C : Addr) (sp : Sp) (E : XK) (t : TA) : TE := fun σ H Q => σ[i]? = some (some (.ref C)) ∧ t σ H fun vs H1 => ∀ x dx, H1 x = none → H1 dx = none → dx ≠ x →
  sp (.ref x :: (vs ++ [])) (upd (upd H1 dx (.own x)) x (.ins C dx [])) (fun v H2 => v = .non ∧ Q (.ref x) H2) E
theorem pe_makeL {i : Nat} {p : Pos} (M : Mk X.K C f) (F : FnOk X.prog X.w X.K X.mg X.base CX k f fd ps sp) (hr : Room (k + 1) X.A) (hN : X.N[i]? = some x) (hv : Vis X.env.scope x) (hb : Binds X.K fd ps []) (hx : Passes CX X E) (ha : PA X (e :: es) t)
    (hdb : (x == ("__debug__" : Str)) = false := by decide) (hcd : (x == ("__classdict__" : Str)) = false := by decide)
    (he : starEach (e :: es) X.env = (false, eval e X.env) :: starEach es X.env := by rfl) (hpl : (backTo pos (starEach es X.env)).any (·.1) = false := by rfl) : PE X (.Call (.Name x p) (e :: es) [] pos) (tMakeL i C sp E t) := by
  refine ⟨fun pins s σ H Q I ⟨hs, ht⟩ => ?_⟩
  refine wpAny_Call_Name_kw (thn ((pe_var (pos := p) hN hv hdb hcd).run pins s σ H (fun v H1 => v = .ref C ∧ H1 = H) I ⟨.ref C, hs, rfl, rfl⟩) fun u s1 ⟨v, H1, I1, r1, q1⟩ => ?_)
  obtain ⟨rfl, rfl⟩ := q1
  cases r1
  exact PySem.W.callWith_K (h₀ := X.base) I.ok.mod.kin M.kp (thn (ha.run pos pins s1 σ _ _ I1 ht) fun us s2 ⟨vs, H2, I2, r, q⟩ => ⟨I2.kIn, run_make M F hr hb .nil hx I2 r q⟩) he hpl
end
section
variable {X : Cx}
/-- a tuple == (), whatever stands in it -/
def rNilT (K : PySem.W.Frag) (b : Bool) : R2 := fun x y H Q => ∃ p q xs, x = .ref p ∧ y = .ref q ∧ SqT K H p xs ∧ SqT K H q [] ∧ Q (.bl (xs.isEmpty != b)) H
theorem op_eqNilT (hu : X.A.units + 64 < cLine) : OpR X (compareOp .Eq) (rNilT X.K false) := by
  intro pins s σ H x y v u Q I rx ry ⟨a, b, xs, e1, e2, ha, hb, q⟩
  subst e1 e2
  cases rx
  cases ry
  obtain ⟨i1, r1, ⟨o1, g1, c1, n1, d1⟩, _⟩ := I.tuple ha
  obtain ⟨i2, r2, ⟨o2, g2, c2, n2, d2⟩, _⟩ := I.tuple hb
  cases r2
  obtain ⟨c1', dd1, dt1, sl1⟩ := o1
  obtain ⟨c2', dd2, dt2, sl2⟩ := o2
  simp only at c1 d1 c2 d2
  subst c1 d1 c2 d2
  have ta : s.TypeIs (.ref a) "tuple" := ⟨_, g1, rfl⟩
  have tb : s.TypeIs (.ref b) "tuple" := ⟨_, g2, rfl⟩
  have e : (((List.range (min i1.toArray.size 0)).all fun _ => true) && i1.toArray.size == 0) = (xs.isEmpty != false) := by
    have hl : i1.length = xs.length := r1.length.symm
    rw [Nat.min_zero, List.size_toArray, hl]
    cases xs <;> rfl
  refine wpAny_richCompare_same_room (op := .Eq) ta tb F.slot_tuple_eq (call_meets F.slot_tuple_eq ta F.entry_tuple_eq (F.args_tuple_eq_2 _ _) (SeqAt.tuple_eqAt a b i1.toArray #[] n1 n2 dd1 dd2 sl1 sl2 (fun _ => true))
    ⟨g1, g2, fun j _ h2 => absurd h2 (Nat.not_lt_zero j), ?_⟩) (by omega)
  refine ⟨(fun z => nomatch z), ⟨.bl _, H, I, ?_, q⟩⟩
  rw [← e]
  rfl
theorem op_neNilT (hu : X.A.units + 64 < cLine) : OpR X (compareOp .NotEq) (rNilT X.K true) := by
  intro pins s σ H x y v u Q I rx ry ⟨a, b, xs, e1, e2, ha, hb, q⟩
  subst e1 e2
  cases rx
  cases ry
  obtain ⟨i1, r1, ⟨o1, g1, c1, n1, d1⟩, _⟩ := I.tuple ha
  obtain ⟨i2, r2, ⟨o2, g2, c2, n2, d2⟩, _⟩ := I.tuple hb
  cases r2
  obtain ⟨c1', dd1, dt1, sl1⟩ := o1
  obtain ⟨c2', dd2, dt2, sl2⟩ := o2
  simp only at c1 d1 c2 d2
  subst c1 d1 c2 d2
  have hl : i1.length = xs.length := r1.length.symm
  refine wpAny_richCompare_same_room (op := .NotEq) (T := "tuple") ⟨_, g1, rfl⟩ ⟨_, g2, rfl⟩ F.slot_tuple_ne (call_meets F.slot_tuple_ne ⟨_, g1, rfl⟩ F.entry_tuple_ne (F.args_tuple_ne_2 _ _) (SeqAt.tuple_neAt a b i1.toArray #[] n1 n2 dd1 dd2 sl1 sl2 (fun _ => true))
    ⟨g1, g2, fun j _ h2 => absurd h2 (Nat.not_lt_zero j), ?_⟩) (by omega)
  refine ⟨(fun z => nomatch z), ⟨.bl _, H, I, ?_, q⟩⟩
  cases xs with
  | nil =>
    have : i1 = [] := List.eq_nil_of_length_eq_zero hl
    subst this
    rfl
  | cons x xs =>
    cases i1 with
    | nil => cases hl
    | cons y ys => rfl
end
end Lq
namespace Lq
open PySem PyProof.Rows HT
theorem slicePick_back (xs : List Value) : slicePick xs.toArray none none (some (-1)) = xs.reverse.toArray := by
  unfold slicePick
  congr 1
  have hb : sliceBounds none none (some (-1)) xs.toArray.size = ((xs.length : Int) - 1, -1, -1) := by
    rw [List.size_toArray]
    rfl
  rw [hb]
  show (sliceRange ((xs.length : Int) - 1) (-1) (-1)).filterMap _ = _
  have hc : ∀ n : Nat, sliceRange ((n : Int) - 1) (-1) (-1) = (List.range n).map fun (k : Nat) => ((n : Int) - 1 + (-1) * (k : Int)).toNat := by
    intro n
    unfold sliceRange
    rw [if_neg (by decide)]
    have e : (if ((n : Int) - 1) > -1 then ((n : Int) - 1 - -1 - -1 - 1) / (- -1) else 0).toNat = n := by
      by_cases h : (n : Int) - 1 > -1
      · rw [if_pos h, show (-(-1) : Int) = 1 from rfl, Int.ediv_one]
        omega
      · rw [if_neg h]
        omega
    show (List.range ((if ((n : Int) - 1) > -1 then ((n : Int) - 1 - -1 - -1 - 1) / (- -1) else 0).toNat)).map _ = _
    rw [e]
  rw [hc, List.filterMap_map, ← pick_back]
  refine fm_congr fun k _ => ?_
  show xs.toArray[((xs.length : Int) - 1 + (-1) * (k : Int)).toNat]? = xs.toArray[((xs.length : Int) - 1 + (k : Int) * (-1)).toNat]?
  rw [Int.mul_comm]
end Lq
namespace Lq
open PySem PySem.Spec PyProof.Rows L2
section
variable {X : Cx}
/-- l[::-1], l a list -/
def tBackL (K : PySem.W.Frag) (te : TE) : TE := fun σ H Q => te σ H fun x H1 => ∃ a xs, x = .ref a ∧ SqL K H1 a xs ∧ ∀ p, H1 p = none → Q (.ref p) (upd H1 p (.lst xs.reverse))
theorem pe_backL {e : Expr} {te : TE} {k : Nat} {p1 p2 p3 pos : Pos} (he : PE X e te) :
    PE X (.Subscript e (.Slice none none (some (.UnaryOp .USub (.Constant (.int 1) k p1) p2)) p3) pos) (tBackL X.K te) := by
  refine ⟨fun pins s σ H Q I h => ?_⟩
  refine Subscript_ (thn (he.run pins s σ H _ I h) fun v s1 ⟨x, H1, I1, r1, q1⟩ => ?_)
  obtain ⟨a, xs, ex, hx, q⟩ := q1
  subst ex
  cases r1
  have hst : PO X (some (.UnaryOp .USub (.Constant (.int 1) k p1) p2)) (tPart (tUn (rU fun i => .int (-i)) (tC (.int 1)))) :=
    po_some (pe_un un_neg pe_int)
  refine wpAny_Slice (thn (po_none.run pins s1 σ H1 (fun o H2 => o = none ∧ H2 = H1) I1 ⟨rfl, rfl⟩)
    fun vl s2 ⟨l, H2, I2, pl, el, e2⟩ => ?_)
  subst el e2
  refine thn (po_none.run pins s2 σ H2 (fun o H3 => o = none ∧ H3 = H2) I2 ⟨rfl, rfl⟩)
    fun vu s3 ⟨u, H3, I3, pu, eu, e3⟩ => ?_
  subst eu e3
  refine thn (hst.run pins s3 σ H3 (fun o H4 => o = some (-1) ∧ H4 = H3) I3 ⟨1, rfl, -1, rfl, rfl, rfl⟩)
    fun vs s4 ⟨o, H4, I4, ps, eo, e4⟩ => ?_
  subst eo e4
  let s5 : Shared := { s4 with heap := s4.heap.push { cls := .type "slice", data := .fields #[vl, vu, vs] } }
  have I5 : Inv X pins σ H4 s5 := I4.kept (t' := s4.toks) fun b ob q => Heap.get?_push_of_some _ q
  obtain ⟨its, r, ht, hz⟩ := I5.list hx
  have hlen := r.length
  show wpAny (model X.prog X.w) X.A (subscriptTail e (.Slice none none (some (.UnaryOp .USub (.Constant (.int 1) k p1) p2)) p3) (.ref a) (.ref s4.heap.objs.size))
    (EP X pins σ Q) X.xe s5
  refine tail_any (ops := [.ref a, .ref s4.heap.objs.size]) ht.isList.typeIs slot_list_getitem.lookup ?_ (by with_unfolding_all rfl)
  refine wpAny_getItem_list_slice ht.isList (Heap.IsSliceOf.new _ _ _ vs) pl pu ps (by decide) ?_ (by rw [List.size_toArray] <;> omega)
  rw [slicePick_back]
  refine ⟨.ref _, _, I5.laid (t' := s4.toks) (o := .lst xs.reverse) (fun b ob q => Heap.get?_push_of_some _ q) (Nat.le_refl _) ?_, rfl, q _ (I5.hok.fresh (Nat.le_refl _))⟩
  exact ⟨by rw [List.length_reverse]; exact hz, _, 0, r.reverse, Heap.get?_push_size _ rfl⟩
end
end Lq
namespace Lq
open PySem PyProof.Rows
section
variable {prog : Program} {w : World} {A : Around} {E : Value → Shared → Prop} {s : Shared} {K : PySem.W.Frag} {a C f : Addr} {ox : Obj} {od : Option Obj}
theorem special_own {M : Model} {name : Str} {args : List Value} {Q : Option Value → Shared → Prop} (X : K.In s.heap) (I : PySem.W.InstAt s.heap a ox C od) (hs : PySem.W.findIn K (.ref C) name = some (some (.ref f))) (hf : PySem.W.isFn K (.ref f) = true)
    (h : wpAny M A (call (.ref f) (.ref a :: args)) (fun v => Q (some v)) E s) : wpAny M A (callSpecial? (.ref a) name args) Q E s := by
  unfold callSpecial? specialOf
  refine wpAny_bind (wpAny_bind (I.type.here ((PySem.W.looks_findIn X hs).here ?_)))
  refine wpAny_holding ?_
  refine wpAny_bind ((PySem.W.bind_fn X _ (beq_iff_eq.mp hf)).here ?_)
  exact wpAny_bind (wpAny_mono h (fun v s' h' => wpAny_pure h') fun _ _ h' => h')
theorem len_ownK {Q : Value → Shared → Prop} (X : K.In s.heap) (I : PySem.W.InstAt s.heap a ox C od) (hs : PySem.W.findIn K (.ref C) "__len__" = some (some (.ref f))) (hf : PySem.W.isFn K (.ref f) = true)
    (hcall : wpAny (model prog w) A.in1 (call (.ref f) [.ref a]) (fun r s' => ∃ n u, r = .int n u ∧ 0 ≤ n ∧ n < 2 ^ 63 ∧ Q (.int n s'.toks) { s' with toks := s'.toks + 1 }) E s) :
    wpAny (model prog w) A (call (.builtin "len") [.ref a]) Q E s := by
  refine Calls.call_function_entry kind_len plain_len entry_len (args_len1 _) ?_
  unfold Builtin.«len»
  refine wpAny_bind (m := oneArg "len" _) (wpAny_pure ?_)
  refine wpAny_bind (m := callSpecial? (.ref a) (Str.ofString "__len__")) (special_own X I hs hf (wpAny_mono hcall (fun r s' hr => ?_) fun _ _ y => y))
  obtain ⟨n, u, rfl, h0, h1, hq⟩ := hr
  refine wpAny_bind (wpAny_holding (wpAny_pure ?_))
  refine wpAny_bind (wpAny_letGo ?_)
  show wpAny _ _ (if n < 0 then _ else _) _ _ _
  rw [if_neg (by omega)]
  show wpAny _ _ (if n ≥ 2 ^ 63 then _ else _) _ _ _
  rw [if_neg (by omega)]
  exact wpAny_bind (wpAny_mkInt (wpAny_pure ⟨_, rfl, hq⟩))
end
end Lq
namespace Lq
open PySem PySem.Spec PyProof.Rows L2
section
variable {X : Cx} {CX : CXT} {k : Nat} {C f : Addr} {fd : FuncData} {ps : List Str} {sp : Sp} {E : XK}
/-- len(o), o an instance of the class at C with a def for __len__ -/
def rLenO (C : Addr) (sp : Sp) (E : XK) : List V → Hp → VK → Prop := fun xs H Q => ∃ (a dx : Addr) (fs : List (Str × V)), xs = [.ref a] ∧ H a = some (.ins C dx fs) ∧ sp [.ref a] H (fun v H' => ∃ n : Int, v = .int n ∧ 0 ≤ n ∧ n < 2 ^ 63 ∧ Q (.int n) H') E
theorem call_lenO (F : FnOk X.prog X.w X.K X.mg X.base CX k f fd ps sp) (hr : Room (k + 1) X.A) (hs : PySem.W.findIn X.K (.ref C) "__len__" = some (some (.ref f))) (hf : PySem.W.isFn X.K (.ref f) = true) (hb : Binds X.K fd ps []) (hx : Passes CX X E) :
    CallR X (.builtin "len") (rLenO C sp E) := by
  intro pins s σ H xs us Q I r hq
  obtain ⟨a, dx, fs, rfl, ha, hsp⟩ := hq
  obtain ⟨v, us', rfl, r1, r2⟩ : ∃ v us', us = v :: us' ∧ RelV (V.ref a) v ∧ Vals [] us' := by
    cases r with
    | cons h t => exact ⟨_, _, rfl, h, t⟩
  cases r1
  cases r2
  obtain ⟨mA, J, _⟩ := ins_get I.hok ha
  obtain ⟨od, J, _⟩ := J.look
  refine len_ownK I.kIn J hs hf ?_
  have hl := F.len _ _ _ _ hsp
  have r2 : Vals [V.ref a] [Value.ref a] := .cons rfl .nil
  refine wpAny_call (codeAny_mono (F.run X.A.in1 X.stack s H ⟨[.ref a], []⟩ [.ref a] [.ref a] _ E hr.in1 I.env0.in1 (by
    have := hb s [.ref a] I.kIn (by simpa using hl)
    simpa using this) r2 hsp) fun r s' hq => ?_)
  cases r with
  | error e => exact hx pins σ H s e s' I hq
  | ok fl =>
    cases fl with
    | ret w =>
      obtain ⟨z, H', I', rz, n, ez, h0, h1, q⟩ := I.after hq
      subst ez
      obtain ⟨t, rfl⟩ := rz
      exact ⟨n, _, rfl, h0, h1, .int n, H', I'.tok _, ⟨_, rfl⟩, q⟩
    | next => exact False.elim hq
    | brk => exact False.elim hq
    | cont => exact False.elim hq
end
end Lq
namespace Lq
open PySem PySem.Spec PyProof.Rows PySem.SeqAt
section
variable {M : Model} {prog : Program} {w : World} {A : Around} {E : Value → Shared → Prop} {s : Shared} {K : PySem.W.Frag} {x C f L : Addr} {ox : Obj} {od : Option Obj} {b tb : Value} {h₀ : Heap} {m : Str → Option Value}
theorem ifBound_objNe {args : List Value} {Q : Option Value → Shared → Prop} (X : K.In s.heap) (I : PySem.W.InstAt s.heap x ox C od) (hs : PySem.W.findIn K (.ref C) "__ne__" = some (some (.builtin "object.__ne__")))
    (h : wpAny M A (call (.builtin "object.__ne__") (.ref x :: args)) (fun v => Q (some v)) E s) : wpAny M A (callSpecialIfBound? (.ref x) "__ne__" args) Q E s := by
  simp only [callSpecialIfBound?, bindSpecialIfBound?]
  refine wpAny_holding (wpAny_bind (wpAny_bind (wpAny_bind (I.type.here ((PySem.W.looks_findIn X hs).here ?_)))))
  refine wpAny_bind (wpAny_askSetting (wpAny_ite ?_))
  have fin : wpAny M A (call (.builtin "object.__ne__") ([.ref x] ++ args) >>= fun v => pure (some v)) Q E s := wpAny_bind (wpAny_mono h (fun v s' h' => wpAny_pure h') fun _ _ h' => h')
  split
  · exact wpAny_bind (wpAny_of_eq (F.cmp_object.ne.bind _) (wpAny_pure (by exact fin)))
  · exact wpAny_tryCatch (wpAny_bind (wpAny_of_eq (F.cmp_object.ne.bind _) (wpAny_pure (by exact fin))))
theorem entry_ne {Q : Fin → Shared → Prop} (hu : A.units < cLine) (X : K.In s.heap) (I : PySem.W.InstAt s.heap x ox C od) (hs : PySem.W.findIn K (.ref C) "__eq__" = some (some (.ref f))) (hf : PySem.W.isFn K (.ref f) = true)
    (h : wpAny (model prog w) A (call (.ref f) [.ref x, b]) (fun v s' => ∃ c, v = .bool c ∧ Q (.done (.ret (.bool (!c)))) s') E s) : wpAny (model prog w) A (Builtin.«object.__ne__» ⟨[.ref x, b], []⟩) Q E s := by
  have step : wpAny (model prog w) A (callSpecialIfBound? (.ref x) "__eq__" [b]) (fun r s' => ∃ c, r = some (.bool c) ∧ Q (.done (.ret (.bool (!c)))) s') E s :=
    PySem.W.ifBound_K X I hs hf (wpAny_mono h (fun v s' ⟨c, e, q⟩ => ⟨c, by rw [e], q⟩) fun _ _ e => e)
  unfold Builtin.«object.__ne__»
  repeat (first | with_reducible refine wpAny_cRoomFor hu ?_ | with_reducible refine wpAny_bind (wpAny_mono step (fun r s' z => ?_) fun _ _ e => e) | wp_step)
  obtain ⟨c, rfl, q⟩ := z
  exact wpAny_bind (wpAny_truthy_bool (wpAny_pure q))
theorem call_objNe {Q : Value → Shared → Prop} (hu : A.in1.units < cLine) (X : K.In s.heap) (I : PySem.W.InstAt s.heap x ox C od) (hm : PySem.W.mroIn K C (.type "object") = some true) (hs : PySem.W.findIn K (.ref C) "__eq__" = some (some (.ref f))) (hf : PySem.W.isFn K (.ref f) = true)
    (h : wpAny (model prog w) A.in1 (call (.ref f) [.ref x, b]) (fun v s' => ∃ c, v = .bool c ∧ Q (.bool (!c)) s') E s) : wpAny (model prog w) A (call (.builtin "object.__ne__") [.ref x, b]) Q E s :=
  wpAny_call (codeAny_call_builtin F.cmp_object.ne.plain F.cmpEntry_ne (PySem.W.check_slot F.cmpKind_ne F.cmpSplit_ne (I.type.andThen (PySem.W.looks_mroIn X hm)) (F.cmpArgs_ne _ _)
    (entry_ne hu X I hs hf (wpAny_mono h (fun v s' ⟨c, e, q⟩ => ⟨c, e, q⟩) fun _ _ e => e))))
theorem ne_K {Q : Value → Shared → Prop} (hu : A.units + 1 < cLine) (X : K.In s.heap) (I : PySem.W.InstAt s.heap x ox C od) (hb : PySem.W.Looks (model prog w) s.heap (typeOf b) tb) (hn : PySem.W.notFirst K C tb = true) (hm : PySem.W.mroIn K C (.type "object") = some true)
    (hne : PySem.W.findIn K (.ref C) "__ne__" = some (some (.builtin "object.__ne__"))) (hs : PySem.W.findIn K (.ref C) "__eq__" = some (some (.ref f))) (hf : PySem.W.isFn K (.ref f) = true)
    (h : wpAny (model prog w) A.in1 (call (.ref f) [.ref x, b]) (fun v s' => ∃ c, v = .bool c ∧ Q (.bool (!c)) s') E s) : wpAny (model prog w) A (richCompare .NotEq (.ref x) b) Q E s := by
  have one : wpAny (model prog w) A (tryCompare (.ref x) "__ne__" b) (fun r s' => ∃ v, r = some v ∧ Q v s') E s := by
    unfold tryCompare
    have c1 : wpAny (model prog w) A (call (.builtin "object.__ne__") [.ref x, b]) (fun v s' => ∃ c, v = .bool c ∧ Q (.bool c) s') E s :=
      call_objNe (by show A.units + 1 < cLine; exact hu) X I hm hs hf (wpAny_mono h (fun v s' ⟨c, e, q⟩ => ⟨c, e, !c, rfl, q⟩) fun _ _ e => e)
    refine wpAny_bind (ifBound_objNe X I hne (wpAny_mono c1 (fun v s' hv => ?_) fun _ _ e => e))
    obtain ⟨c, rfl, q⟩ := hv
    exact wpAny_pure ⟨_, rfl, q⟩
  unfold richCompare
  simp only [oneThing_ref]
  refine wpAny_holding (wpAny_bind (wpAny_cRoomFor (by omega) ?_))
  refine wpAny_bind (I.type.here (wpAny_bind (hb.here ?_)))
  split
  · rename_i q
    have e : PySem.W.subIn K tb (.ref C) = some false := by
      rcases Bool.or_eq_true_iff.mp hn with e | e
      · rw [beq_iff_eq.mp e] at q; simp at q
      · exact beq_iff_eq.mp e
    refine wpAny_bind ((PySem.W.looks_subIn X e).here ?_)
    simp only [Bool.false_eq_true, if_false]
    refine wpAny_bind (wpAny_mono one (fun r s' z => ?_) fun _ _ e => e)
    obtain ⟨v, rfl, hq⟩ := z
    exact wpAny_pure hq
  · refine wpAny_bind (wpAny_pure ?_)
    simp only [Bool.false_eq_true, if_false]
    refine wpAny_bind (wpAny_mono one (fun r s' z => ?_) fun _ _ e => e)
    obtain ⟨v, rfl, hq⟩ := z
    exact wpAny_pure hq
end
end Lq
namespace Lq
open PySem PySem.Spec PyProof.Rows L2
/-- what an own == may be asked of -/
inductive YK (H : Hp) (C : Addr) : V → Value → Prop where
  | non : YK H C .non (.type "NoneType")
  | str (z : Str) : YK H C (.str z) (.type "str")
  | ins {b dx : Addr} {gs : List (Str × V)} (e : H b = some (.ins C dx gs)) : YK H C (.ref b) (.ref C)
theorem sub_str {K : PySem.W.Frag} {C : Addr} : PySem.W.subIn K (.type "str") (.ref C) = some false := by
  have e : fastBuiltinMro "str" = some [.type "str", .type "object"] := by decide +kernel
  show (fastBuiltinMro "str").map (·.contains (.ref C)) = some false
  rw [e]
  first
    | rfl
    | simp
section
variable {X : Cx} {CX : CXT} {k : Nat} {C f : Addr} {fd : FuncData} {ps : List Str} {sp : Sp} {E : XK} {pins : List (Addr × Obj)} {σ : L2.St} {H : Hp} {s : Shared}
theorem YK.looks (I : Inv X pins σ H s) {y : V} {u t : Value} (ry : RelV y u) (q : YK H C y t) : PySem.W.Looks (model X.prog X.w) s.heap (typeOf u) t ∧ PySem.W.notFirst X.K C t = true := by
  cases q with
  | non =>
    cases ry
    exact ⟨.of_pure rfl, by unfold PySem.W.notFirst; rw [HN.sub_none]; simp⟩
  | str z =>
    obtain ⟨tk, rfl⟩ := ry
    exact ⟨.of_pure rfl, by unfold PySem.W.notFirst; rw [sub_str]; simp⟩
  | ins e =>
    cases ry
    obtain ⟨mB, J, _⟩ := ins_get I.hok e
    obtain ⟨od, J, _⟩ := J.look
    exact ⟨J.type, by simp [PySem.W.notFirst]⟩
def rEqO (C : Addr) (sp : Sp) (E : XK) (neg : Bool) : R2 := fun x y H Q => ∃ (a dx : Addr) (fs : List (Str × V)) (t : Value), x = .ref a ∧ H a = some (.ins C dx fs) ∧ YK H C y t ∧ sp [x, y] H (fun v H' => ∃ c : Bool, v = .bl c ∧ Q (.bl (c != neg)) H') E
theorem op_eqO (F : FnOk X.prog X.w X.K X.mg X.base CX k f fd ps sp) (hr : Room k X.A) (hs : PySem.W.findIn X.K (.ref C) "__eq__" = some (some (.ref f))) (hf : PySem.W.isFn X.K (.ref f) = true) (hb : Binds X.K fd ps []) (hx : Passes CX X E) : OpR X (compareOp .Eq) (rEqO C sp E false) := by
  intro pins s σ H x y v u Q I rx ry hq
  obtain ⟨a, dx, fs, t, rfl, ha, hy, hsp⟩ := hq
  cases rx
  obtain ⟨mA, J, _⟩ := ins_get I.hok ha
  obtain ⟨od, J, _⟩ := J.look
  obtain ⟨hlk, hn⟩ := hy.looks I ry
  obtain ⟨m, hF⟩ := I.fr
  have hl := F.len _ _ _ _ hsp
  have r2 : Vals [V.ref a, y] [Value.ref a, u] := .cons rfl (.cons ry .nil)
  show wpAny (model X.prog X.w) X.A (richCompare .Eq (.ref a) u) (EP X pins σ Q) X.xe s
  refine PySem.W.cmp_K (op := .Eq) (tb := t) hr.units0 hF I.ok.mod.kin J hlk hn hs hf ?_
  refine wpAny_call (codeAny_mono (F.run X.A X.stack s H ⟨[.ref a, u], []⟩ [.ref a, u] [.ref a, y] _ E hr I.env0 (by
    have := hb s [.ref a, u] I.kIn (by simpa using hl)
    simpa using this) r2 hsp) fun r s' hq => ?_)
  cases r with
  | error e => exact hx pins σ H s e s' I hq
  | ok fl =>
    cases fl with
    | ret w =>
      obtain ⟨z, H', I', rz, c, ez, q⟩ := I.after hq
      subst ez
      cases rz
      rw [Bool.bne_false] at q
      exact ⟨.bl c, H', I', rfl, q⟩
    | next => exact False.elim hq
    | brk => exact False.elim hq
    | cont => exact False.elim hq
theorem op_neO (F : FnOk X.prog X.w X.K X.mg X.base CX k f fd ps sp) (hr : Room (k + 1) X.A) (hm : PySem.W.mroIn X.K C (.type "object") = some true) (hne : PySem.W.findIn X.K (.ref C) "__ne__" = some (some (.builtin "object.__ne__"))) (hs : PySem.W.findIn X.K (.ref C) "__eq__" = some (some (.ref f))) (hf : PySem.W.isFn X.K (.ref f) = true) (hb : Binds X.K fd ps []) (hx : Passes CX X E) : OpR X (compareOp .NotEq) (rEqO C sp E true) := by
  intro pins s σ H x y v u Q I rx ry hq
  obtain ⟨a, dx, fs, t, rfl, ha, hy, hsp⟩ := hq
  cases rx
  obtain ⟨mA, J, _⟩ := ins_get I.hok ha
  obtain ⟨od, J, _⟩ := J.look
  obtain ⟨hlk, hn⟩ := hy.looks I ry
  have hl := F.len _ _ _ _ hsp
  have r2 : Vals [V.ref a, y] [Value.ref a, u] := .cons rfl (.cons ry .nil)
  show wpAny (model X.prog X.w) X.A (richCompare .NotEq (.ref a) u) (EP X pins σ Q) X.xe s
  refine ne_K (tb := t) (by have := hr.un; omega) I.kIn J hlk hn hm hne hs hf ?_
  refine wpAny_call (codeAny_mono (F.run X.A.in1 X.stack s H ⟨[.ref a, u], []⟩ [.ref a, u] [.ref a, y] _ E hr.in1 I.env0.in1 (by
    have := hb s [.ref a, u] I.kIn (by simpa using hl)
    simpa using this) r2 hsp) fun r s' hq => ?_)
  cases r with
  | error e => exact hx pins σ H s e s' I hq
  | ok fl =>
    cases fl with
    | ret w =>
      obtain ⟨z, H', I', rz, c, ez, q⟩ := I.after hq
      subst ez
      cases rz
      rw [Bool.bne_true] at q
      exact ⟨c, rfl, .bl (!c), H', I', rfl, q⟩
    | next => exact False.elim hq
    | brk => exact False.elim hq
    | cont => exact False.elim hq
end
end Lq
namespace Lq
open PySem PyProof.Rows PySem.Spec
section
variable {prog : Program} {w : World} {A : Around} {E : Value → Shared → Prop} {s : Shared} {K : PySem.W.Frag} {a C f : Addr} {ox : Obj} {od : Option Obj}
theorem strOf_own {Q : Value → Shared → Prop} (hu : A.units < cLine) (X : K.In s.heap) (I : PySem.W.InstAt s.heap a ox C od) (hs : PySem.W.findIn K (.ref C) "__str__" = some (some (.ref f))) (hf : PySem.W.isFn K (.ref f) = true)
    (h : wpAny (model prog w) A (call (.ref f) [.ref a]) (fun r s' => ∃ z t, r = .str z t ∧ Q (.str z t) s') E s) : wpAny (model prog w) A (PySem.Builtin.Str.strOf (.ref a)) Q E s := by
  unfold PySem.Builtin.Str.strOf
  show wpAny _ _ (if PySem.Builtin.Str.isExactStr (.ref a) = true then _ else _) _ _ _
  rw [if_neg (show ¬ PySem.Builtin.Str.isExactStr (.ref a) = true from Bool.false_ne_true)]
  refine wpAny_bind (wpAny_cRoomFor hu ?_)
  refine wpAny_bind (m := callSpecial? (.ref a) (Str.ofString "__str__")) (special_own X I hs hf (wpAny_mono h (fun r s' hr => ?_) fun _ _ y => y))
  obtain ⟨z, t, rfl, q⟩ := hr
  refine wpAny_bind (wpAny_pure ?_)
  exact wpAny_pure q
theorem str_ownK {Q : Value → Shared → Prop} (hu : A.in1.in1.units < cLine) (X : K.In s.heap) (I : PySem.W.InstAt s.heap a ox C od) (hs : PySem.W.findIn K (.ref C) "__str__" = some (some (.ref f))) (hf : PySem.W.isFn K (.ref f) = true)
    (h : wpAny (model prog w) A.in1.in1 (call (.ref f) [.ref a]) (fun r s' => ∃ z t, r = .str z t ∧ Q (.str z t) s') E s) : wpAny (model prog w) A (call (.type "str") [.ref a]) Q E s := by
  refine callType_newIn F.called_str (by decide) (F.typeCall_str_1 _) (F.newCall_str_1 _) (fun obj => F.args_object_init_2 obj _) F.entry_str_new
    (S := fun A1 R s1 => wpAny (model prog w) A1.in1 (PySem.Builtin.Str.strOf (.ref a)) (fun r s' => R (.ok (.ret r)) s') (fun e s' => R (.error e) s') s1) ?_ ?_
  · refine MeetsIn.of_wp fun A R s h => ?_
    rw [str_new_tree]
    refine wpAny_bind (wpAny_pure ?_)
    refine wpAny_bind (wpAny_of_eq isSubtype_str_str ?_)
    exact wpAny_bind (wpAny_mono h (fun r s' h' => wpAny_pure ⟨_, rfl, h'⟩) fun _ _ e => e)
  · refine strOf_own hu X I hs hf (wpAny_mono h (fun r s' hr => ?_) fun _ _ y => y)
    obtain ⟨z, t, rfl, q⟩ := hr
    exact ⟨z, t, rfl, typeIs_str _ _ _, q⟩
end
end Lq
namespace Lq
open PySem PySem.Spec PyProof.Rows L2
section
variable {X : Cx} {CX : CXT} {k : Nat} {C f : Addr} {fd : FuncData} {ps : List PySem.Str} {sp : Sp} {E : XK}
/-- str(o), o an instance of the class at C with a def for __str__ -/
def rStrO (C : Addr) (sp : Sp) (E : XK) : List V → Hp → VK → Prop := fun xs H Q => ∃ (a dx : Addr) (fs : List (PySem.Str × V)), xs = [.ref a] ∧ H a = some (.ins C dx fs) ∧ sp [.ref a] H (fun v H' => ∃ z : PySem.Str, v = .str z ∧ Q (.str z) H') E
theorem call_strO (F : FnOk X.prog X.w X.K X.mg X.base CX k f fd ps sp) (hr : Room (k + 2) X.A) (hs : PySem.W.findIn X.K (.ref C) "__str__" = some (some (.ref f))) (hf : PySem.W.isFn X.K (.ref f) = true) (hb : Binds X.K fd ps []) (hx : Passes CX X E) :
    CallR X (.type "str") (rStrO C sp E) := by
  intro pins s σ H xs us Q I r hq
  obtain ⟨a, dx, fs, rfl, ha, hsp⟩ := hq
  obtain ⟨v, us', rfl, r1, r2⟩ : ∃ v us', us = v :: us' ∧ RelV (V.ref a) v ∧ Vals [] us' := by
    cases r with
    | cons h t => exact ⟨_, _, rfl, h, t⟩
  cases r1
  cases r2
  obtain ⟨mA, J, _⟩ := ins_get I.hok ha
  obtain ⟨od, J, _⟩ := J.look
  have hr1 : Room (k + 1) X.A.in1 := hr.in1
  refine str_ownK hr1.in1.units0 I.kIn J hs hf ?_
  have hl := F.len _ _ _ _ hsp
  have r2 : Vals [V.ref a] [Value.ref a] := .cons rfl .nil
  refine wpAny_call (codeAny_mono (F.run X.A.in1.in1 X.stack s H ⟨[.ref a], []⟩ [.ref a] [.ref a] _ E hr1.in1 I.env0.in1.in1 (by
    have := hb s [.ref a] I.kIn (by simpa using hl)
    simpa using this) r2 hsp) fun r s' hq => ?_)
  cases r with
  | error e => exact hx pins σ H s e s' I hq
  | ok fl =>
    cases fl with
    | ret w =>
      obtain ⟨y, H', I', rz, z, ez, q⟩ := I.after hq
      subst ez
      obtain ⟨t, rfl⟩ := rz
      exact ⟨z, t, rfl, .str z, H', I', ⟨_, rfl⟩, q⟩
    | next => exact False.elim hq
    | brk => exact False.elim hq
    | cont => exact False.elim hq
end
end Lq
namespace Pl
open PySem L2
/-! ### data: tuples are values, all else that stands at an address is a reference -/
inductive D where
  | non | bl (b : Bool) | int (i : Int) | str (x : Str) | ref (a : Addr) | ty (n : String) | tup (xs : List D)
mutual
def RD (K : PySem.W.Frag) (H : Hp) : D → V → Prop
  | .non, v => v = .non
  | .bl b, v => v = .bl b
  | .int i, v => v = .int i
  | .str x, v => v = .str x
  | .ref a, v => v = .ref a
  | .ty n, v => v = .ty n
  | .tup ds, v => ∃ (a : Addr) (vs : List V), v = .ref a ∧ SqT K H a vs ∧ RDs K H ds vs
def RDs (K : PySem.W.Frag) (H : Hp) : List D → List V → Prop
  | [], vs => vs = []
  | d :: r, vs => ∃ v ws, vs = v :: ws ∧ RD K H d v ∧ RDs K H r ws
end
section
variable {K : PySem.W.Frag} {H H' : Hp}
theorem RD.non : RD K H .non .non := by unfold RD; rfl
theorem RD.bl {b : Bool} : RD K H (.bl b) (.bl b) := by unfold RD; rfl
theorem RD.int {i : Int} : RD K H (.int i) (.int i) := by unfold RD; rfl
theorem RD.str {x : Str} : RD K H (.str x) (.str x) := by unfold RD; rfl
theorem RD.ref {a : Addr} : RD K H (.ref a) (.ref a) := by unfold RD; rfl
theorem RD.ty {n : String} : RD K H (.ty n) (.ty n) := by unfold RD; rfl
theorem RD.tup {ds : List D} {a : Addr} {vs : List V} (h : SqT K H a vs) (hs : RDs K H ds vs) : RD K H (.tup ds) (.ref a) := by unfold RD; exact ⟨a, vs, rfl, h, hs⟩
theorem RD.non' {v : V} (h : RD K H .non v) : v = .non := by unfold RD at h; exact h
theorem RD.bl' {b : Bool} {v : V} (h : RD K H (.bl b) v) : v = .bl b := by unfold RD at h; exact h
theorem RD.int' {i : Int} {v : V} (h : RD K H (.int i) v) : v = .int i := by unfold RD at h; exact h
theorem RD.str' {x : Str} {v : V} (h : RD K H (.str x) v) : v = .str x := by unfold RD at h; exact h
theorem RD.ref' {a : Addr} {v : V} (h : RD K H (.ref a) v) : v = .ref a := by unfold RD at h; exact h
theorem RD.ty' {n : String} {v : V} (h : RD K H (.ty n) v) : v = .ty n := by unfold RD at h; exact h
theorem RD.tup' {ds : List D} {v : V} (h : RD K H (.tup ds) v) : ∃ (a : Addr) (vs : List V), v = .ref a ∧ SqT K H a vs ∧ RDs K H ds vs := by unfold RD at h; exact h
theorem RDs.nil : RDs K H [] [] := by unfold RDs; rfl
theorem RDs.cons {d : D} {r : List D} {v : V} {ws : List V} (h : RD K H d v) (hs : RDs K H r ws) : RDs K H (d :: r) (v :: ws) := by unfold RDs; exact ⟨v, ws, rfl, h, hs⟩
theorem RDs.nil' {vs : List V} (h : RDs K H [] vs) : vs = [] := by unfold RDs at h; exact h
theorem RDs.cons' {d : D} {r : List D} {vs : List V} (h : RDs K H (d :: r) vs) : ∃ v ws, vs = v :: ws ∧ RD K H d v ∧ RDs K H r ws := by unfold RDs at h; exact h
theorem RDs.len : ∀ {ds : List D} {vs : List V}, RDs K H ds vs → vs.length = ds.length
  | [], _, h => by rw [h.nil']; rfl
  | d :: r, _, h => by
    obtain ⟨v, ws, rfl, _, h2⟩ := h.cons'
    rw [List.length_cons, List.length_cons, RDs.len h2]
theorem RDs.app : ∀ {ds es : List D} {vs us : List V}, RDs K H ds vs → RDs K H es us → RDs K H (ds ++ es) (vs ++ us)
  | [], _, _, _, h, h' => by rw [h.nil']; exact h'
  | d :: r, _, _, _, h, h' => by
    obtain ⟨v, ws, rfl, h1, h2⟩ := h.cons'
    exact .cons h1 (RDs.app h2 h')
theorem RDs.get : ∀ {ds : List D} {vs : List V}, RDs K H ds vs → ∀ {i : Nat} {d : D}, ds[i]? = some d → ∃ v, vs[i]? = some v ∧ RD K H d v
  | [], _, h, i, d, e => by cases e
  | d :: r, _, h, 0, x, e => by
    obtain ⟨v, ws, rfl, h1, h2⟩ := h.cons'
    cases e
    exact ⟨v, rfl, h1⟩
  | d :: r, _, h, i + 1, x, e => by
    obtain ⟨v, ws, rfl, h1, h2⟩ := h.cons'
    exact RDs.get h2 e
theorem RDs.get' : ∀ {ds : List D} {vs : List V}, RDs K H ds vs → ∀ {i : Nat} {v : V}, vs[i]? = some v → ∃ d, ds[i]? = some d ∧ RD K H d v
  | [], _, h, i, v, e => by rw [h.nil'] at e; cases e
  | d :: r, _, h, 0, x, e => by
    obtain ⟨v, ws, rfl, h1, h2⟩ := h.cons'
    cases e
    exact ⟨d, rfl, h1⟩
  | d :: r, _, h, i + 1, x, e => by
    obtain ⟨v, ws, rfl, h1, h2⟩ := h.cons'
    exact RDs.get' h2 e
theorem RDs.take : ∀ {ds : List D} {vs : List V} (n : Nat), RDs K H ds vs → RDs K H (ds.take n) (vs.take n)
  | _, _, 0, _ => .nil
  | [], _, n + 1, h => by rw [h.nil']; exact .nil
  | d :: r, _, n + 1, h => by
    obtain ⟨v, ws, rfl, h1, h2⟩ := h.cons'
    exact .cons h1 (RDs.take n h2)
theorem RDs.drop : ∀ {ds : List D} {vs : List V} (n : Nat), RDs K H ds vs → RDs K H (ds.drop n) (vs.drop n)
  | _, _, 0, h => h
  | [], _, n + 1, h => by rw [h.nil']; exact .nil
  | d :: r, _, n + 1, h => by
    obtain ⟨v, ws, rfl, h1, h2⟩ := h.cons'
    exact RDs.drop n h2
theorem RDs.rev : ∀ {ds : List D} {vs : List V}, RDs K H ds vs → RDs K H ds.reverse vs.reverse
  | [], _, h => by rw [h.nil']; exact .nil
  | d :: r, _, h => by
    obtain ⟨v, ws, rfl, h1, h2⟩ := h.cons'
    rw [List.reverse_cons, List.reverse_cons]
    exact (RDs.rev h2).app (.cons h1 .nil)
theorem RDs.set : ∀ {ds : List D} {vs : List V} {i : Nat} {d : D} {v : V}, RDs K H ds vs → RD K H d v → RDs K H (ds.set i d) (vs.set i v)
  | [], _, i, d, v, h, hd => by rw [h.nil']; exact .nil
  | _ :: r, _, 0, d, v, h, hd => by
    obtain ⟨u, ws, rfl, h1, h2⟩ := h.cons'
    exact .cons hd h2
  | _ :: r, _, i + 1, d, v, h, hd => by
    obtain ⟨u, ws, rfl, h1, h2⟩ := h.cons'
    exact .cons h1 (RDs.set h2 hd)
theorem RDs.ints : ∀ {ns : List Int}, RDs K H (ns.map D.int) (ns.map V.int)
  | [] => .nil
  | _ :: _ => .cons .int RDs.ints
theorem RDs.ints' : ∀ {ns : List Int} {vs : List V}, RDs K H (ns.map D.int) vs → vs = ns.map V.int
  | [], _, h => h.nil'
  | n :: r, _, h => by
    obtain ⟨v, ws, rfl, h1, h2⟩ := h.cons'
    rw [h1.int', RDs.ints' h2]
    rfl
theorem RDs.bls' : ∀ {ns : List Bool} {vs : List V}, RDs K H (ns.map D.bl) vs → vs = ns.map V.bl
  | [], _, h => h.nil'
  | n :: r, _, h => by
    obtain ⟨v, ws, rfl, h1, h2⟩ := h.cons'
    rw [h1.bl', RDs.bls' h2]
    rfl
theorem RDs.strs' : ∀ {ns : List Str} {vs : List V}, RDs K H (ns.map D.str) vs → vs = ns.map V.str
  | [], _, h => h.nil'
  | n :: r, _, h => by
    obtain ⟨v, ws, rfl, h1, h2⟩ := h.cons'
    rw [h1.str', RDs.strs' h2]
    rfl
def Tups (K : PySem.W.Frag) (H H' : Hp) : Prop := ∀ a xs, SqT K H a xs → SqT K H' a xs
mutual
theorem RD.mono (e : Tups K H H') : ∀ {d : D} {v : V}, RD K H d v → RD K H' d v
  | .non, _, h => by unfold RD at h ⊢; exact h
  | .bl _, _, h => by unfold RD at h ⊢; exact h
  | .int _, _, h => by unfold RD at h ⊢; exact h
  | .str _, _, h => by unfold RD at h ⊢; exact h
  | .ref _, _, h => by unfold RD at h ⊢; exact h
  | .ty _, _, h => by unfold RD at h ⊢; exact h
  | .tup ds, _, h => by
    unfold RD at h ⊢
    obtain ⟨a, vs, h1, h2, h3⟩ := h
    exact ⟨a, vs, h1, e _ _ h2, RDs.mono e h3⟩
theorem RDs.mono (e : Tups K H H') : ∀ {ds : List D} {vs : List V}, RDs K H ds vs → RDs K H' ds vs
  | [], _, h => by unfold RDs at h ⊢; exact h
  | d :: r, _, h => by
    unfold RDs at h ⊢
    obtain ⟨v, ws, h1, h2, h3⟩ := h
    exact ⟨v, ws, h1, RD.mono e h2, RDs.mono e h3⟩
end
theorem tups_refl : Tups K H H := fun _ _ h => h
theorem tups_new {p : Addr} (h : H p = none) (o : HO) : Tups K H (upd H p o) := by
  intro a xs q
  rcases q with (q | ⟨u, q⟩) | q
  · exact .inl (.inl (by rw [upd_ne (ne_of_none q h)]; exact q))
  · exact .inl (.inr ⟨u, by rw [upd_ne (ne_of_none q h)]; exact q⟩)
  · exact .inr q
/-- what is no tuple, nor known to the object -/
def Mutb : HO → Prop
  | .lst _ | .dK _ | .dT _ | .ins _ _ _ | .set _ _ | .frz _ (.dK _) => True
  | _ => False
theorem tups_set {t : Addr} {u : HO} (h : H t = some u) (hu : Mutb u) (o : HO) : Tups K H (upd H t o) := by
  intro a xs q
  rcases q with (q | ⟨u', q⟩) | q
  · exact .inl (.inl (by rw [upd_ne (ne_of q h (by intro z; rw [← z] at hu; exact hu))]; exact q))
  · exact .inl (.inr ⟨u', by rw [upd_ne (ne_of q h (by intro z; rw [← z] at hu; exact hu))]; exact q⟩)
  · exact .inr q
theorem sq_new {p : Addr} {xs : List V} : SqT K (upd H p (.tup xs)) p xs := .inl (.inl upd_same)
end
/-! ### what can change -/
inductive MO where
  | lst (ds : List D) | rl (ds : List D)
  | dk (kvs : List (Key × D)) | dz (od : Obj) (kws : List (Key × V)) (kvs : List (Key × D)) | dt (kvs : List (List Key × D))
  | ins (C dx : Addr) (fs : List (Str × D))
  | raw (o : HO)
abbrev Mu := Addr → Option MO
def mset (μ : Mu) (a : Addr) (o : MO) : Mu := fun b => if b = a then some o else μ b
theorem mset_same {μ : Mu} {a : Addr} {o : MO} : mset μ a o a = some o := by unfold mset; rw [if_pos rfl]
theorem mset_ne {μ : Mu} {a b : Addr} {o : MO} (h : b ≠ a) : mset μ a o b = μ b := by unfold mset; rw [if_neg h]
theorem mset_mset {μ : Mu} {a : Addr} {o u : MO} : mset (mset μ a o) a u = mset μ a u := by
  funext b; unfold mset; split <;> rfl
theorem mset_comm {μ : Mu} {a b : Addr} {o u : MO} (h : a ≠ b) : mset (mset μ a o) b u = mset (mset μ b u) a o := by
  funext c; unfold mset
  by_cases h1 : c = b
  · subst h1; rw [if_pos rfl, if_neg (fun e => h e.symm), if_pos rfl]
  · rw [if_neg h1]
    by_cases h2 : c = a
    · rw [if_pos h2, if_pos h2]
    · rw [if_neg h2, if_neg h2, if_neg h1]
theorem ne_free {μ : Mu} {a b : Addr} {o : MO} (h : μ a = some o) (h' : μ b = none) : a ≠ b := by
  intro e; subst e; rw [h] at h'; cases h'
/-- what is between two heaps of data -/
def Kv (K : PySem.W.Frag) (H : Hp) {κ : Type} : List (κ × D) → List (κ × V) → Prop := Paired fun p q => p.1 = q.1 ∧ RD K H p.2 q.2
theorem Kv.mono {K : PySem.W.Frag} {H H' : Hp} {κ : Type} {l : List (κ × D)} {r : List (κ × V)} (e : Tups K H H') (h : Kv K H l r) : Kv K H' l r :=
  Paired.mapP h fun _ _ ⟨a, b⟩ => ⟨a, b.mono e⟩
def MOk (K : PySem.W.Frag) (H : Hp) (a : Addr) : MO → Prop
  | .lst ds => ∃ vs, H a = some (.lst vs) ∧ RDs K H ds vs
  | .rl ds => ∃ vs, Rd H a (.lst vs) ∧ RDs K H ds vs
  | .dk kvs => ∃ kws, H a = some (.dK kws) ∧ Kv K H kvs kws
  | .dz od kws kvs => H a = some (.frz od (.dK kws)) ∧ Kv K H kvs kws
  | .dt kvs => ∃ kws, H a = some (.dT kws) ∧ Kv K H kvs kws
  | .ins C dx fs => ∃ ws, H a = some (.ins C dx ws) ∧ Kv K H fs ws
  | .raw o => H a = some o
theorem rd_eq {H H' : Hp} {a : Addr} {u : HO} (e : H' a = H a) (h : Rd H a u) : Rd H' a u := by
  rcases h with h | ⟨o, h⟩
  · exact .inl (e.trans h)
  · exact .inr ⟨o, e.trans h⟩
theorem rd_new {H : Hp} {a p : Addr} {o u : HO} (hp : H p = none) (h : Rd H a u) : Rd (upd H p o) a u := by
  rcases h with h | ⟨o, h⟩
  · exact .inl (by rw [upd_ne (ne_of_none h hp)]; exact h)
  · exact .inr ⟨o, by rw [upd_ne (ne_of_none h hp)]; exact h⟩
theorem MOk.keep {K : PySem.W.Frag} {H H' : Hp} {a : Addr} (t : Tups K H H') (e : H' a = H a) : ∀ {o : MO}, MOk K H a o → MOk K H' a o
  | .lst _, ⟨vs, h1, h2⟩ => ⟨vs, e.trans h1, h2.mono t⟩
  | .rl _, ⟨vs, h1, h2⟩ => ⟨vs, rd_eq e h1, h2.mono t⟩
  | .dk _, ⟨vs, h1, h2⟩ => ⟨vs, e.trans h1, h2.mono t⟩
  | .dz _ _ _, ⟨h1, h2⟩ => ⟨e.trans h1, h2.mono t⟩
  | .dt _, ⟨vs, h1, h2⟩ => ⟨vs, e.trans h1, h2.mono t⟩
  | .ins _ _ _, ⟨vs, h1, h2⟩ => ⟨vs, e.trans h1, h2.mono t⟩
  | .raw _, h => e.trans h
theorem MOk.new {K : PySem.W.Frag} {H : Hp} {a p : Addr} {u : HO} (hp : H p = none) : ∀ {o : MO}, MOk K H a o → MOk K (upd H p u) a o
  | .lst _, ⟨vs, h1, h2⟩ => ⟨vs, by rw [upd_ne (ne_of_none h1 hp)]; exact h1, h2.mono (tups_new hp u)⟩
  | .rl _, ⟨vs, h1, h2⟩ => ⟨vs, rd_new hp h1, h2.mono (tups_new hp u)⟩
  | .dk _, ⟨vs, h1, h2⟩ => ⟨vs, by rw [upd_ne (ne_of_none h1 hp)]; exact h1, h2.mono (tups_new hp u)⟩
  | .dz _ _ _, ⟨h1, h2⟩ => ⟨by rw [upd_ne (ne_of_none h1 hp)]; exact h1, h2.mono (tups_new hp u)⟩
  | .dt _, ⟨vs, h1, h2⟩ => ⟨vs, by rw [upd_ne (ne_of_none h1 hp)]; exact h1, h2.mono (tups_new hp u)⟩
  | .ins _ _ _, ⟨vs, h1, h2⟩ => ⟨vs, by rw [upd_ne (ne_of_none h1 hp)]; exact h1, h2.mono (tups_new hp u)⟩
  | .raw _, h => by
    have h : H a = some _ := h
    show upd H p u a = _
    rw [upd_ne (ne_of_none h hp)]
    exact h
def Abs (K : PySem.W.Frag) (μ : Mu) (H : Hp) : Prop := ∀ a o, μ a = some o → MOk K H a o
section
variable {K : PySem.W.Frag} {H H' H2 : Hp} {μ μ' μ2 : Mu}
theorem Abs.new {p : Addr} {u : HO} (A : Abs K μ H) (hp : H p = none) : Abs K μ (upd H p u) := fun a o h => (A a o h).new hp
theorem Abs.put {p : Addr} {u : HO} {o : MO} (A : Abs K μ H) (hp : H p = none) (ho : MOk K (upd H p u) p o) : Abs K (mset μ p o) (upd H p u) := fun a o' h => by
  by_cases e : a = p
  · subst e
    rw [mset_same] at h
    cases h
    exact ho
  · rw [mset_ne e] at h
    exact (A a o' h).new hp
theorem Abs.set {l : Addr} {v u : HO} {o : MO} (A : Abs K μ H) (hl : H l = some v) (hm : Mutb v) (ho : MOk K (upd H l u) l o) : Abs K (mset μ l o) (upd H l u) := fun a o' h => by
  by_cases e : a = l
  · subst e
    rw [mset_same] at h
    cases h
    exact ho
  · rw [mset_ne e] at h
    exact (A a o' h).keep (tups_set hl hm u) (upd_ne e)
/-- less is known -/
def Mle (μ μ' : Mu) : Prop := ∀ a o, μ a = some o → μ' a = some o
theorem Mle.refl : Mle μ μ := fun _ _ h => h
theorem Mle.trans (a : Mle μ μ') (b : Mle μ' μ2) : Mle μ μ2 := fun x o h => b x o (a x o h)
theorem Mle.put {p : Addr} {o : MO} (h : μ p = none) : Mle μ (mset μ p o) := fun a u q => by rw [mset_ne (ne_free q h)]; exact q
theorem Mle.both {p : Addr} {o : MO} (h : Mle μ μ') : Mle (mset μ p o) (mset μ' p o) := fun a u q => by
  by_cases e : a = p
  · subst e; rw [mset_same] at q ⊢; exact q
  · rw [mset_ne e] at q ⊢; exact h a u q
theorem Mle.abs (h : Mle μ μ') (A : Abs K μ' H) : Abs K μ H := fun a o q => A a o (h a o q)
/-- what every step keeps -/
structure Fm (K : PySem.W.Frag) (H : Hp) (μ : Mu) (H' : Hp) (μ' : Mu) : Prop where
  tup : Tups K H H'
  grow : ∀ a, H' a = none → H a = none
  new : ∀ a, H a ≠ none → μ a = none → μ' a = none
  stay : ∀ a o, H a = some o → μ a = none → H' a = some o
theorem Fm.refl : Fm K H μ H μ := ⟨tups_refl, fun _ h => h, fun _ _ h => h, fun _ _ h _ => h⟩
theorem Fm.trans {H1 : Hp} {μ1 : Mu} (a : Fm K H μ H1 μ1) (b : Fm K H1 μ1 H2 μ2) : Fm K H μ H2 μ2 :=
  ⟨fun x ys h => b.tup x ys (a.tup x ys h), fun x h => a.grow x (b.grow x h), fun x h q => b.new x (fun e => h (a.grow x e)) (a.new x h q),
    fun x o h q => b.stay x o (a.stay x o h q) (a.new x (by rw [h]; exact fun z => nomatch z) q)⟩
theorem Fm.tuple {p : Addr} {o : HO} (hp : H p = none) : Fm K H μ (upd H p o) μ :=
  ⟨tups_new hp o, fun a h => by
    by_cases e : a = p
    · subst e; exact hp
    · rw [upd_ne e] at h; exact h, fun _ _ h => h, fun a u h _ => by rw [upd_ne (ne_of_none h hp)]; exact h⟩
theorem Fm.put {p : Addr} {o : HO} {u : MO} (hp : H p = none) : Fm K H μ (upd H p o) (mset μ p u) :=
  ⟨tups_new hp o, (Fm.tuple (K := K) (μ := μ) hp).grow, fun a h q => by rw [mset_ne (fun e => h (by rw [e]; exact hp))]; exact q, (Fm.tuple (K := K) (μ := μ) hp).stay⟩
theorem Fm.set {l : Addr} {v o : HO} {u w : MO} (hl : H l = some v) (hm : Mutb v) (hu : μ l = some w) : Fm K H μ (upd H l o) (mset μ l u) :=
  ⟨tups_set hl hm o, fun a h => by
    by_cases e : a = l
    · subst e; rw [upd_same] at h; cases h
    · rw [upd_ne e] at h; exact h, fun a h q => (by rw [mset_ne (fun e => by subst e; rw [hu] at q; cases q)]; exact q),
    fun a u h q => (by rw [upd_ne (fun e => by subst e; rw [hu] at q; cases q)]; exact h)⟩
theorem Fm.less (f : Fm K H μ H' μ') (h : Mle μ2 μ') : Fm K H μ H' μ2 := ⟨f.tup, f.grow, fun a h1 h2 => (by
  cases e : μ2 a with
  | none => rfl
  | some o =>
    have := h a o e
    rw [f.new a h1 h2] at this
    cases this), f.stay⟩
theorem Abs.free {p : Addr} (A : Abs K μ H) (hp : H p = none) : μ p = none := by
  cases e : μ p with
  | none => rfl
  | some o =>
    have h := A p o e
    cases o with
    | lst ds => obtain ⟨vs, h1, _⟩ := h; rw [hp] at h1; cases h1
    | rl ds =>
      obtain ⟨vs, h1, _⟩ := h
      rcases h1 with h1 | ⟨_, h1⟩ <;> (rw [hp] at h1; cases h1)
    | dk kvs => obtain ⟨vs, h1, _⟩ := h; rw [hp] at h1; cases h1
    | dz od kws kvs => obtain ⟨h1, _⟩ := h; rw [hp] at h1; cases h1
    | dt kvs => obtain ⟨vs, h1, _⟩ := h; rw [hp] at h1; cases h1
    | ins C dx fs => obtain ⟨vs, h1, _⟩ := h; rw [hp] at h1; cases h1
    | raw o => have h : H p = _ := h; rw [hp] at h; cases h
end
end Pl
namespace Pl
open PySem L2
/-! ### slots -/
abbrev SS := List (Option D)
def sget : SS → Nat → Option D
  | [], _ => none
  | x :: _, 0 => x
  | _ :: r, i + 1 => sget r i
def sset : SS → Nat → D → SS
  | [], _, _ => []
  | _ :: r, 0, d => some d :: r
  | x :: r, i + 1, d => x :: sset r i d
def sinit : List Str → List D → SS
  | [], _ => []
  | _ :: N, [] => none :: sinit N []
  | _ :: N, d :: ds => some d :: sinit N ds
def RS (K : PySem.W.Frag) (H : Hp) : SS → St → Prop
  | [], σ => σ = []
  | s :: ss, σ => ∃ x σ', σ = x :: σ' ∧ (∀ d, s = some d → ∃ v, x = some v ∧ RD K H d v) ∧ RS K H ss σ'
section
variable {K : PySem.W.Frag} {H H' : Hp}
theorem RS.mono (e : Tups K H H') : ∀ {ss : SS} {σ : St}, RS K H ss σ → RS K H' ss σ
  | [], _, h => h
  | _ :: _, _, ⟨x, σ', h1, h2, h3⟩ => ⟨x, σ', h1, fun d q => let ⟨v, a, b⟩ := h2 d q; ⟨v, a, b.mono e⟩, RS.mono e h3⟩
theorem RS.get : ∀ {ss : SS} {σ : St} {i : Nat} {d : D}, RS K H ss σ → sget ss i = some d → ∃ v, σ[i]? = some (some v) ∧ RD K H d v
  | [], _, _, _, _, e => by cases e
  | s :: _, _, 0, d, ⟨x, σ', h1, h2, h3⟩, e => by
    obtain ⟨v, a, b⟩ := h2 d e
    subst h1 a
    exact ⟨v, rfl, b⟩
  | s :: _, _, i + 1, d, ⟨x, σ', h1, h2, h3⟩, e => by
    subst h1
    exact RS.get (i := i) h3 e
theorem RS.set : ∀ {ss : SS} {σ : St} {i : Nat} {d : D} {v : V}, RS K H ss σ → RD K H d v → RS K H (sset ss i d) (σ.set i (some v))
  | [], _, _, _, _, h, _ => by
    have h : _ = [] := h
    subst h; rfl
  | s :: _, _, 0, d, v, ⟨x, σ', h1, h2, h3⟩, hd => by
    subst h1
    exact ⟨some v, σ', rfl, fun d' q => (by cases q; exact ⟨v, rfl, hd⟩), h3⟩
  | s :: _, _, i + 1, d, v, ⟨x, σ', h1, h2, h3⟩, hd => by
    subst h1
    exact ⟨x, σ'.set i (some v), rfl, h2, RS.set h3 hd⟩
theorem RS.length : ∀ {ss : SS} {σ : St}, RS K H ss σ → σ.length = ss.length
  | [], _, h => by rw [show _ = [] from h]; rfl
  | _ :: _, _, ⟨x, σ', h1, h2, h3⟩ => by rw [h1, List.length_cons, List.length_cons, RS.length h3]
theorem RS.none : ∀ {N : List Str}, RS K H (sinit N []) (List.replicate N.length Option.none)
  | [] => rfl
  | _ :: N => ⟨Option.none, _, rfl, fun _ q => (nomatch q), RS.none⟩
theorem RS.start : ∀ {N : List Str} {ds : List D} {vs : List V}, RDs K H ds vs → ds.length ≤ N.length → RS K H (sinit N ds) (L2.start N vs)
  | N, [], _, h, _ => by
    rw [h.nil']
    unfold L2.start
    exact RS.none
  | [], d :: ds, _, h, hl => by cases hl
  | _ :: N, d :: ds, _, h, hl => by
    obtain ⟨v, ws, rfl, h1, h2⟩ := h.cons'
    have := RS.start (N := N) h2 (Nat.le_of_succ_le_succ hl)
    unfold L2.start at this ⊢
    refine ⟨some v, ws.map some ++ List.replicate (N.length - ws.length) Option.none, ?_, fun d' q => (by cases q; exact ⟨v, rfl, h1⟩), this⟩
    simp
end
/-! ### what is asked of data -/
def onSome {α : Type} : Option α → (α → Prop) → Prop
  | some a, k => k a
  | none, _ => False
def onInt : D → (Int → Prop) → Prop
  | .int i, k => k i
  | _, _ => False
def onBl : D → (Bool → Prop) → Prop
  | .bl b, k => k b
  | _, _ => False
def onStr : D → (Str → Prop) → Prop
  | .str x, k => k x
  | _, _ => False
def onTup : D → (List D → Prop) → Prop
  | .tup ds, k => k ds
  | _, _ => False
def onRef : D → (Addr → Prop) → Prop
  | .ref a, k => k a
  | _, _ => False
/-- the list at an address, to be read -/
def rdl (μ : Mu) (a : Addr) : Option (List D) := match μ a with
  | some (.lst ds) => some ds
  | some (.rl ds) => some ds
  | _ => none
/-- the list at an address, to be written -/
def wrl (μ : Mu) (a : Addr) : Option (List D) := match μ a with
  | some (.lst ds) => some ds
  | _ => none
def rdk (μ : Mu) (a : Addr) : Option (List (Key × D)) := match μ a with
  | some (.dk kvs) => some kvs
  | some (.dz _ _ kvs) => some kvs
  | _ => none
def rdt (μ : Mu) (a : Addr) : Option (List (List Key × D)) := match μ a with
  | some (.dt kvs) => some kvs
  | _ => none
/-- the items of a tuple or a list -/
def seqOf (μ : Mu) : D → Option (List D)
  | .tup ds => some ds
  | .ref a => rdl μ a
  | _ => none
section
variable {K : PySem.W.Frag} {H H' : Hp} {μ μ' : Mu}
theorem onSome_of {α : Type} {o : Option α} {k : α → Prop} (h : onSome o k) : ∃ a, o = some a ∧ k a := by
  cases o with
  | none => exact h.elim
  | some a => exact ⟨a, rfl, h⟩
theorem onInt_of {d : D} {k : Int → Prop} (h : onInt d k) : ∃ i, d = .int i ∧ k i := by
  cases d <;> first | exact h.elim | exact ⟨_, rfl, h⟩
theorem onBl_of {d : D} {k : Bool → Prop} (h : onBl d k) : ∃ i, d = .bl i ∧ k i := by
  cases d <;> first | exact h.elim | exact ⟨_, rfl, h⟩
theorem onStr_of {d : D} {k : Str → Prop} (h : onStr d k) : ∃ i, d = .str i ∧ k i := by
  cases d <;> first | exact h.elim | exact ⟨_, rfl, h⟩
theorem onTup_of {d : D} {k : List D → Prop} (h : onTup d k) : ∃ i, d = .tup i ∧ k i := by
  cases d <;> first | exact h.elim | exact ⟨_, rfl, h⟩
theorem onRef_of {d : D} {k : Addr → Prop} (h : onRef d k) : ∃ i, d = .ref i ∧ k i := by
  cases d <;> first | exact h.elim | exact ⟨_, rfl, h⟩
theorem rdl_lst {a : Addr} {ds : List D} (h : μ a = some (.lst ds)) : rdl μ a = some ds := by unfold rdl; rw [h]
theorem rdl_rl {a : Addr} {ds : List D} (h : μ a = some (.rl ds)) : rdl μ a = some ds := by unfold rdl; rw [h]
theorem wrl_lst {a : Addr} {ds : List D} (h : μ a = some (.lst ds)) : wrl μ a = some ds := by unfold wrl; rw [h]
theorem rdl_same {a : Addr} {ds : List D} : rdl (mset μ a (.lst ds)) a = some ds := rdl_lst mset_same
theorem wrl_same {a : Addr} {ds : List D} : wrl (mset μ a (.lst ds)) a = some ds := wrl_lst mset_same
theorem rdl_ne {a b : Addr} {o : MO} (h : b ≠ a) : rdl (mset μ a o) b = rdl μ b := by unfold rdl; rw [mset_ne h]
theorem wrl_ne {a b : Addr} {o : MO} (h : b ≠ a) : wrl (mset μ a o) b = wrl μ b := by unfold wrl; rw [mset_ne h]
theorem rdk_same {a : Addr} {ds : List (Key × D)} : rdk (mset μ a (.dk ds)) a = some ds := by unfold rdk; rw [mset_same]
theorem rdk_ne {a b : Addr} {o : MO} (h : b ≠ a) : rdk (mset μ a o) b = rdk μ b := by unfold rdk; rw [mset_ne h]
theorem rdk_of {a : Addr} {ds : List (Key × D)} (h : μ a = some (.dk ds)) : rdk μ a = some ds := by unfold rdk; rw [h]
theorem of_rdk {a : Addr} {ds : List (Key × D)} (h : rdk μ a = some ds) : μ a = some (.dk ds) ∨ ∃ od kws, μ a = some (.dz od kws ds) := by
  unfold rdk at h
  split at h
  · cases h; exact .inl (by assumption)
  · cases h; exact .inr ⟨_, _, by assumption⟩
  · cases h
theorem of_wrl {a : Addr} {ds : List D} (h : wrl μ a = some ds) : μ a = some (.lst ds) := by
  unfold wrl at h
  split at h <;> first | (cases h; assumption) | cases h
theorem of_rdl {a : Addr} {ds : List D} (h : rdl μ a = some ds) : μ a = some (.lst ds) ∨ μ a = some (.rl ds) := by
  unfold rdl at h
  split at h
  · cases h; exact .inl (by assumption)
  · cases h; exact .inr (by assumption)
  · cases h
theorem Abs.list (A : Abs K μ H) {a : Addr} {ds : List D} (h : rdl μ a = some ds) : ∃ vs, SqL K H a vs ∧ RDs K H ds vs := by
  rcases of_rdl h with h | h
  · obtain ⟨vs, h1, h2⟩ := A a _ h
    exact ⟨vs, SqL.of h1, h2⟩
  · obtain ⟨vs, h1, h2⟩ := A a _ h
    exact ⟨vs, .inl h1, h2⟩
theorem Abs.wlist (A : Abs K μ H) {a : Addr} {ds : List D} (h : wrl μ a = some ds) : ∃ vs, H a = some (.lst vs) ∧ RDs K H ds vs := A a _ (of_wrl h)
theorem Abs.dkey (A : Abs K μ H) {a : Addr} {ds : List (Key × D)} (h : rdk μ a = some ds) : ∃ vs, Rd H a (.dK vs) ∧ Kv K H ds vs := by
  rcases of_rdk h with h | ⟨od, kws, h⟩
  · obtain ⟨vs, h1, h2⟩ := A a _ h
    exact ⟨vs, .inl h1, h2⟩
  · obtain ⟨h1, h2⟩ := A a _ h
    exact ⟨kws, .inr ⟨_, h1⟩, h2⟩
theorem Abs.seq (A : Abs K μ H) {d : D} {v : V} {ds : List D} (r : RD K H d v) (h : seqOf μ d = some ds) : ∃ a vs, v = .ref a ∧ (SqL K H a vs ∨ SqT K H a vs) ∧ RDs K H ds vs := by
  cases d with
  | tup es =>
    cases h
    obtain ⟨a, vs, rfl, h1, h2⟩ := r.tup'
    exact ⟨a, vs, rfl, .inr h1, h2⟩
  | ref a =>
    obtain ⟨vs, h1, h2⟩ := A.list h
    exact ⟨a, vs, r.ref', .inl h1, h2⟩
  | _ => cases h
end
/-! ### judgements -/
abbrev EQ := D → Mu → Prop
abbrev PEx := SS → Mu → EQ → Prop
abbrev PTx := SS → Mu → (Bool → Mu → Prop) → Prop
abbrev PAx := SS → Mu → (List D → Mu → Prop) → Prop
def LiE (K : PySem.W.Frag) (t : TE) (p : PEx) : Prop := ∀ (σ : St) (H : Hp) (ss : SS) (μ : Mu) (q : EQ) (Q : VK), RS K H ss σ → Abs K μ H → p ss μ q →
  (∀ v H' d μ', Fm K H μ H' μ' → Abs K μ' H' → RD K H' d v → q d μ' → Q v H') → t σ H Q
def LiT (K : PySem.W.Frag) (t : TT) (p : PTx) : Prop := ∀ (σ : St) (H : Hp) (ss : SS) (μ : Mu) (q : Bool → Mu → Prop) (Q : Bool → Hp → Prop), RS K H ss σ → Abs K μ H → p ss μ q →
  (∀ b H' μ', Fm K H μ H' μ' → Abs K μ' H' → q b μ' → Q b H') → t σ H Q
def LiA (K : PySem.W.Frag) (t : TA) (p : PAx) : Prop := ∀ (σ : St) (H : Hp) (ss : SS) (μ : Mu) (q : List D → Mu → Prop) (Q : List V → Hp → Prop), RS K H ss σ → Abs K μ H → p ss μ q →
  (∀ vs H' ds μ', Fm K H μ H' μ' → Abs K μ' H' → RDs K H' ds vs → q ds μ' → Q vs H') → t σ H Q
abbrev PR2 := D → D → Mu → EQ → Prop
abbrev PR1 := D → Mu → EQ → Prop
abbrev PRN := List D → Mu → EQ → Prop
def LiR (K : PySem.W.Frag) (r : R2) (p : PR2) : Prop := ∀ (x y : V) (d e : D) (H : Hp) (μ : Mu) (q : EQ) (Q : VK), Abs K μ H → RD K H d x → RD K H e y → p d e μ q →
  (∀ v H' d' μ', Fm K H μ H' μ' → Abs K μ' H' → RD K H' d' v → q d' μ' → Q v H') → r x y H Q
def LiN (K : PySem.W.Frag) (r : List V → Hp → VK → Prop) (p : PRN) : Prop := ∀ (xs : List V) (ds : List D) (H : Hp) (μ : Mu) (q : EQ) (Q : VK), Abs K μ H → RDs K H ds xs → p ds μ q →
  (∀ v H' d' μ', Fm K H μ H' μ' → Abs K μ' H' → RD K H' d' v → q d' μ' → Q v H') → r xs H Q
structure QE (X : Cx) (e : Expr) (p : PEx) : Prop where
  ex : ∃ t, PE X e t ∧ LiE X.K t p
structure QT (X : Cx) (e : Expr) (p : PTx) : Prop where
  ex : ∃ t, PT X e t ∧ LiT X.K t p
structure QW (X : Cx) (e : Expr) (p : PTx) : Prop where
  ex : ∃ t, PW X e t ∧ LiT X.K t p
structure QA (X : Cx) (es : List Expr) (p : PAx) : Prop where
  ex : ∃ t, PA X es t ∧ LiA X.K t p
structure QOp (X : Cx) (f : Value → Value → Sem Value) (p : PR2) : Prop where
  ex : ∃ r, OpR X f r ∧ LiR X.K r p
structure QIx (X : Cx) (p : PR2) : Prop where
  ex : ∃ r, IxR X r ∧ LiR X.K r p
structure QC (X : Cx) (f : Value) (p : PRN) : Prop where
  ex : ∃ r, CallR X f r ∧ LiN X.K r p
section
variable {X : Cx} {a b c e : Expr} {es : List Expr} {pos : Pos} {pa pb pc : PEx} {pt pu : PTx} {pr : PAx}
/-! ### names, constants -/
def pVar (i : Nat) : PEx := fun ss μ q => onSome (sget ss i) fun d => q d μ
def pC (d : D) : PEx := fun _ μ q => q d μ
theorem qv (i : Nat) {x : Str} {pos : Pos} (hN : X.N[i]? = some x := by rfl) (hv : Vis X.env.scope x := by first | exact Or.inl rfl | exact Or.inr (Or.inl rfl) | exact Or.inr (Or.inr rfl)) (hd : (x == ("__debug__" : Str)) = false := by decide)
    (hcd : (x == ("__classdict__" : Str)) = false := by decide) : QE X (.Name x pos) (pVar i) := ⟨_, pe_var hN hv hd hcd, fun σ H ss μ q Q rs ab h k => by
  obtain ⟨d, e, h⟩ := onSome_of h
  obtain ⟨v, e2, r⟩ := rs.get e
  exact ⟨v, e2, k v H d μ .refl ab r h⟩⟩
theorem li_c {K : PySem.W.Frag} {d : D} {v : V} (r : ∀ H, RD K H d v) : LiE K (tC v) (pC d) := fun σ H ss μ q Q rs ab h k => k v H d μ .refl ab (r H) h
theorem qe_int {i j pos} : QE X (.Constant (.int i) j pos) (pC (.int i)) := ⟨_, pe_int, li_c fun _ => .int⟩
theorem qe_bl {b j pos} : QE X (.Constant (.bool b) j pos) (pC (.bl b)) := ⟨_, pe_bl, li_c fun _ => .bl⟩
theorem qe_non {j pos} : QE X (.Constant .none j pos) (pC .non) := ⟨_, pe_non, li_c fun _ => .non⟩
theorem qe_str {x j pos} : QE X (.Constant (.str x) j pos) (pC (.str x)) := ⟨_, pe_str, li_c fun _ => .str⟩
theorem qe_glob {x : Str} {v : V} {u : Value} {d : D} {pos : Pos} (hg : Gl X x) (hm : X.mg x = some u) (r : RelV v u) (hd : ∀ H, RD X.K H d v) (hdb : (x == ("__debug__" : Str)) = false := by decide) : QE X (.Name x pos) (pC d) := ⟨_, pe_glob hg hm r hdb, li_c hd⟩
/-- a constant of the module, as it is told -/
def Cn (K : PySem.W.Frag) (mg : Str → Option Value) (x : Str) (d : D) : Prop := ∃ u v, mg x = some u ∧ RelV v u ∧ ∀ H, RD K H d v
theorem qe_cn {x : Str} {d : D} {pos : Pos} {K : PySem.W.Frag} (c : Cn K X.mg x d) (hg : Gl X x := by rfl) (hK : X.K = K := by rfl) (hdb : (x == ("__debug__" : Str)) = false := by decide) : QE X (.Name x pos) (pC d) := by
  subst hK
  obtain ⟨u, v, h1, h2, h3⟩ := c
  exact qe_glob hg h1 h2 h3 hdb
theorem qe_bltn {x : Str} {n : String} {pos : Pos} (hg : Gl X x) (hm : X.mg x = none) (hv : bootBuiltins x = some (.type n)) (hn : x ≠ "__name__" := by decide) (hd : (x == ("__debug__" : Str)) = false := by decide) : QE X (.Name x pos) (pC (.ty n)) :=
  ⟨_, pe_bltn (v := .ty n) hg hm hv rfl hn hd, li_c fun _ => .ty⟩
/-! ### displays -/
def pNil : PAx := fun _ μ q => q [] μ
def pCons (pa : PEx) (pr : PAx) : PAx := fun ss μ q => pa ss μ fun d μ1 => pr ss μ1 fun ds μ2 => q (d :: ds) μ2
theorem qa_nil : QA X [] pNil := ⟨_, pa_nil, fun σ H ss μ q Q rs ab h k => k [] H [] μ .refl ab .nil h⟩
theorem qa_cons (ha : QE X e pa) (hr : QA X es pr) (hs : starEach (e :: es) X.env = (false, eval e X.env) :: starEach es X.env := by rfl) : QA X (e :: es) (pCons pa pr) := by
  obtain ⟨t, h1, l1⟩ := ha
  obtain ⟨u, h2, l2⟩ := hr
  refine ⟨_, pa_cons h1 h2 hs, fun σ H ss μ q Q rs ab h k => ?_⟩
  refine l1 σ H ss μ _ _ rs ab h fun v H1 d μ1 f1 ab1 r1 h1 => ?_
  refine l2 σ H1 ss μ1 _ _ (rs.mono f1.tup) ab1 h1 fun vs H2 ds μ2 f2 ab2 r2 h2 => ?_
  exact k _ H2 _ μ2 (f1.trans f2) ab2 (.cons (r1.mono f2.tup) r2) h2
def pTup (pr : PAx) : PEx := fun ss μ q => pr ss μ fun ds μ1 => ds.length ≤ sizeLine ∧ q (.tup ds) μ1
def pLst (pr : PAx) : PEx := fun ss μ q => pr ss μ fun ds μ1 => ds.length ≤ sizeLine ∧ ∀ p, μ1 p = none → q (.ref p) (mset μ1 p (.lst ds))
theorem qe_tup {x1} (h : QA X es pr) : QE X (.Tuple es x1 pos) (pTup pr) := by
  obtain ⟨t, h1, l1⟩ := h
  refine ⟨_, pe_tup h1, fun σ H ss μ q Q rs ab h k => ?_⟩
  refine l1 σ H ss μ _ _ rs ab h fun vs H1 ds μ1 f1 ab1 r1 h1 => ?_
  exact ⟨by rw [r1.len]; exact h1.1, fun p hp => k _ _ _ μ1 (f1.trans (.tuple hp)) (ab1.new hp) (.tup sq_new (r1.mono (tups_new hp _))) h1.2⟩
theorem qe_lst (h : QA X es pr) : QE X (.List es pos) (pLst pr) := by
  obtain ⟨t, h1, l1⟩ := h
  refine ⟨_, pe_lst h1, fun σ H ss μ q Q rs ab h k => ?_⟩
  refine l1 σ H ss μ _ _ rs ab h fun vs H1 ds μ1 f1 ab1 r1 h1 => ?_
  exact ⟨by rw [r1.len]; exact h1.1, fun p hp => k _ _ _ _ (f1.trans (.put hp)) (ab1.put (o := .lst ds) hp ⟨vs, upd_same, r1.mono (tups_new hp _)⟩) .ref (h1.2 p (ab1.free hp))⟩
/-! ### operators -/
def pOp (r : PR2) (pa pb : PEx) : PEx := fun ss μ q => pa ss μ fun d μ1 => pb ss μ1 fun e μ2 => r d e μ2 q
theorem li_op {K : PySem.W.Frag} {ta tb : TE} {r : R2} {p : PR2} (l1 : LiE K ta pa) (l2 : LiE K tb pb) (lr : LiR K r p) : LiE K (tOp r ta tb) (pOp p pa pb) := fun σ H ss μ q Q rs ab h k => by
  refine l1 σ H ss μ _ _ rs ab h fun v H1 d μ1 f1 ab1 r1 h1 => ?_
  refine l2 σ H1 ss μ1 _ _ (rs.mono f1.tup) ab1 h1 fun w H2 e μ2 f2 ab2 r2 h2 => ?_
  exact lr v w d e H2 μ2 q Q ab2 (r1.mono f2.tup) r2 h2 fun v3 H3 d3 μ3 f3 ab3 r3 h3 => k _ _ _ _ ((f1.trans f2).trans f3) ab3 r3 h3
theorem qe_op {op : Operator} {p : PR2} (ho : QOp X (binaryOp op) p) (ha : QE X a pa) (hb : QE X b pb) : QE X (.BinOp a op b pos) (pOp p pa pb) := by
  obtain ⟨r, o, lr⟩ := ho
  obtain ⟨t, h1, l1⟩ := ha
  obtain ⟨u, h2, l2⟩ := hb
  exact ⟨_, pe_op o h1 h2, li_op l1 l2 lr⟩
theorem qe_ix {p : PR2} (ho : QIx X p) (ha : QE X a pa) (hb : QE X b pb) (hs : PlainIx b := by exact fun _ _ => rfl) : QE X (.Subscript a b pos) (pOp p pa pb) := by
  obtain ⟨r, o, lr⟩ := ho
  obtain ⟨t, h1, l1⟩ := ha
  obtain ⟨u, h2, l2⟩ := hb
  exact ⟨_, pe_ix o h1 h2 hs, li_op l1 l2 lr⟩
theorem qe_cmp {op : CmpOp} {p : PR2} (ho : QOp X (compareOp op) p) (ha : QE X a pa) (hb : QE X b pb) (hm : behindInMarks op b = false) : QE X (.Compare a [op] [b] pos) (pOp p pa pb) := by
  obtain ⟨r, o, lr⟩ := ho
  obtain ⟨t, h1, l1⟩ := ha
  obtain ⟨u, h2, l2⟩ := hb
  exact ⟨_, pe_cmpR o h1 h2 hm, li_op l1 l2 lr⟩
/-- a bool as a test -/
def pTest (p : PEx) : PTx := fun ss μ q => p ss μ fun d μ1 => onBl d fun b => q b μ1
theorem li_test {K : PySem.W.Frag} {t : TE} {p : PEx} (l : LiE K t p) : LiT K (tTest t) (pTest p) := fun σ H ss μ q Q rs ab h k =>
  l σ H ss μ _ _ rs ab h fun v H1 d μ1 f1 ab1 r1 h1 => by
    obtain ⟨b, rfl, h1⟩ := onBl_of h1
    exact ⟨b, r1.bl', k b H1 μ1 f1 ab1 h1⟩
theorem qt_cmp {op : CmpOp} {p : PR2} (ho : QOp X (compareOp op) p) (ha : QE X a pa) (hb : QE X b pb) (hm : behindInMarks op b = false) : QT X (.Compare a [op] [b] pos) (pTest (pOp p pa pb)) := by
  obtain ⟨r, o, lr⟩ := ho
  obtain ⟨t, h1, l1⟩ := ha
  obtain ⟨u, h2, l2⟩ := hb
  exact ⟨_, pt_cmpR o h1 h2 hm, li_test (li_op l1 l2 lr)⟩
theorem qt_val {p : PEx} (h : QE X e p) (he : ∀ whole, isTrue e X.env whole = (do let v ← whole; standAt e.pos; holding [v] (truthy v)) := by intro _; rfl) : QT X e (pTest p) := by
  obtain ⟨t, h1, l1⟩ := h
  exact ⟨_, pt_val h1 he, li_test l1⟩
def tru (μ : Mu) : D → Option Bool
  | .non => some false
  | .bl b => some b
  | .int i => some (i != 0)
  | .str x => if x.length ≤ sizeLine then some ((x.length : Int) != 0) else none
  | .tup ds => some (!ds.isEmpty)
  | .ref a => match μ a with
    | some (.lst ds) => some (!ds.isEmpty)
    | some (.rl ds) => some (!ds.isEmpty)
    | some (.dk kvs) => some (!kvs.isEmpty)
    | _ => none
  | .ty _ => none
def pTru (p : PEx) : PTx := fun ss μ q => p ss μ fun d μ1 => onSome (tru μ1 d) fun b => q b μ1
theorem rds_empty {K : PySem.W.Frag} {H : Hp} {ds : List D} {vs : List V} (h : RDs K H ds vs) : (!ds.isEmpty) = !vs.isEmpty := by
  have := h.len
  cases ds <;> cases vs <;> first | rfl | cases this
theorem kv_len {K : PySem.W.Frag} {H : Hp} {κ : Type} {ds : List (κ × D)} {vs : List (κ × V)} (h : Kv K H ds vs) : ds.length = vs.length := Paired.length h
theorem tru_of {K : PySem.W.Frag} {H : Hp} {μ : Mu} {d : D} {v : V} {b : Bool} (ab : Abs K μ H) (r : RD K H d v) (h : tru μ d = some b) : TruV K v H b := by
  cases d with
  | non => cases h; rw [r.non']; rfl
  | bl b => cases h; rw [r.bl']; rfl
  | int i => cases h; rw [r.int']; rfl
  | str x =>
    rw [r.str']
    simp only [tru] at h
    split at h
    · cases h
      exact ⟨by assumption, rfl⟩
    · cases h
  | tup ds =>
    cases h
    obtain ⟨a, vs, rfl, h1, h2⟩ := r.tup'
    exact .inr (.inl ⟨vs, h1, rds_empty h2⟩)
  | ref a =>
    rw [r.ref']
    simp only [tru] at h
    split at h
    case h_1 ds e =>
      cases h
      obtain ⟨vs, h1, h2⟩ := ab a _ e
      exact .inl ⟨vs, SqL.of h1, rds_empty h2⟩
    case h_2 ds e =>
      cases h
      obtain ⟨vs, h1, h2⟩ := ab a _ e
      exact .inl ⟨vs, .inl h1, rds_empty h2⟩
    case h_3 kvs e =>
      cases h
      obtain ⟨vs, h1, h2⟩ := ab a _ e
      refine .inr (.inr ⟨vs, h1, ?_⟩)
      have := kv_len h2
      cases kvs <;> cases vs <;> first | rfl | cases this
    case h_4 => cases h
  | ty n => cases h
theorem qt_truth {p : PEx} (h : QE X e p) (he : ∀ whole, isTrue e X.env whole = (do let v ← whole; standAt e.pos; holding [v] (truthy v)) := by intro _; rfl) : QT X e (pTru p) := by
  obtain ⟨t, h1, l1⟩ := h
  refine ⟨_, pt_truth h1 he, fun σ H ss μ q Q rs ab h k => ?_⟩
  refine l1 σ H ss μ _ _ rs ab h fun v H1 d μ1 f1 ab1 r1 h1 => ?_
  obtain ⟨b, e, h1⟩ := onSome_of h1
  exact ⟨b, tru_of ab1 r1 e, k b H1 μ1 f1 ab1 h1⟩
/-! ### and, or, not, if -/
def pAnd (t u : PTx) : PTx := fun ss μ q => t ss μ fun c μ1 => if c = true then u ss μ1 q else q false μ1
def pOr (t u : PTx) : PTx := fun ss μ q => t ss μ fun c μ1 => if c = true then q true μ1 else u ss μ1 q
def pNot (t : PTx) : PTx := fun ss μ q => t ss μ fun c μ1 => q (!c) μ1
variable {rest : List Expr}
theorem QW.qt (h : QW X e pt) : QT X e pt := by
  obtain ⟨t, h1, l1⟩ := h
  exact ⟨t, h1.pt, l1⟩
theorem qw_and1 (h : QT X a pt) : QW X (.BoolOp .And [a] pos) pt := by
  obtain ⟨t, h1, l1⟩ := h
  exact ⟨t, pw_and1 h1, l1⟩
theorem qw_or1 (h : QT X a pt) : QW X (.BoolOp .Or [a] pos) pt := by
  obtain ⟨t, h1, l1⟩ := h
  exact ⟨t, pw_or1 h1, l1⟩
theorem qw_and (ha : QT X a pt) (hb : QW X (.BoolOp .And (b :: rest) pos) pu) : QW X (.BoolOp .And (a :: b :: rest) pos) (pAnd pt pu) := by
  obtain ⟨t, h1, l1⟩ := ha
  obtain ⟨u, h2, l2⟩ := hb
  refine ⟨_, pw_and h1 h2, fun σ H ss μ q Q rs ab h k => ?_⟩
  refine l1 σ H ss μ _ _ rs ab h fun c H1 μ1 f1 ab1 h1 => ?_
  cases c with
  | true => exact iteT (l2 σ H1 ss μ1 q Q (rs.mono f1.tup) ab1 (by simpa using h1) fun b H2 μ2 f2 ab2 h2 => k b H2 μ2 (f1.trans f2) ab2 h2)
  | false => exact iteF (k false H1 μ1 f1 ab1 (by simpa using h1))
theorem qw_or (ha : QT X a pt) (hb : QW X (.BoolOp .Or (b :: rest) pos) pu) : QW X (.BoolOp .Or (a :: b :: rest) pos) (pOr pt pu) := by
  obtain ⟨t, h1, l1⟩ := ha
  obtain ⟨u, h2, l2⟩ := hb
  refine ⟨_, pw_or h1 h2, fun σ H ss μ q Q rs ab h k => ?_⟩
  refine l1 σ H ss μ _ _ rs ab h fun c H1 μ1 f1 ab1 h1 => ?_
  cases c with
  | true => exact iteT (k true H1 μ1 f1 ab1 (by simpa using h1))
  | false => exact iteF (l2 σ H1 ss μ1 q Q (rs.mono f1.tup) ab1 (by simpa using h1) fun b H2 μ2 f2 ab2 h2 => k b H2 μ2 (f1.trans f2) ab2 h2)
theorem qt_not (ha : QT X a pt) : QT X (.UnaryOp .Not a pos) (pNot pt) := by
  obtain ⟨t, h1, l1⟩ := ha
  exact ⟨_, pt_not h1, fun σ H ss μ q Q rs ab h k => l1 σ H ss μ _ _ rs ab h fun c H1 μ1 f1 ab1 h1 => k _ H1 μ1 f1 ab1 h1⟩
def pAndV (pa pb : PEx) : PEx := fun ss μ q => pa ss μ fun d μ1 => onBl d fun c => if c = true then pb ss μ1 q else q (.bl false) μ1
def pOrV (pa pb : PEx) : PEx := fun ss μ q => pa ss μ fun d μ1 => onBl d fun c => if c = true then q (.bl true) μ1 else pb ss μ1 q
def pNotV (pa : PEx) : PEx := fun ss μ q => pa ss μ fun d μ1 => onBl d fun c => q (.bl (!c)) μ1
theorem qe_one {op} (h : QE X a pa) : QE X (.BoolOp op [a] pos) pa := by
  obtain ⟨t, h1, l1⟩ := h
  exact ⟨t, pe_one h1, l1⟩
theorem qe_and (ha : QE X a pa) (hb : QE X (.BoolOp .And (b :: rest) pos) pb) : QE X (.BoolOp .And (a :: b :: rest) pos) (pAndV pa pb) := by
  obtain ⟨t, h1, l1⟩ := ha
  obtain ⟨u, h2, l2⟩ := hb
  refine ⟨_, pe_and h1 h2, fun σ H ss μ q Q rs ab h k => ?_⟩
  refine l1 σ H ss μ _ _ rs ab h fun v H1 d μ1 f1 ab1 r1 h1 => ?_
  obtain ⟨c, rfl, h1⟩ := onBl_of h1
  refine ⟨c, r1.bl', ?_⟩
  cases c with
  | true => exact iteT (l2 σ H1 ss μ1 q Q (rs.mono f1.tup) ab1 (by simpa [onBl] using h1) fun v H2 d μ2 f2 ab2 r2 h2 => k v H2 d μ2 (f1.trans f2) ab2 r2 h2)
  | false => exact iteF (k _ H1 _ μ1 f1 ab1 .bl (by simpa [onBl] using h1))
theorem qe_or (ha : QE X a pa) (hb : QE X (.BoolOp .Or (b :: rest) pos) pb) : QE X (.BoolOp .Or (a :: b :: rest) pos) (pOrV pa pb) := by
  obtain ⟨t, h1, l1⟩ := ha
  obtain ⟨u, h2, l2⟩ := hb
  refine ⟨_, pe_or h1 h2, fun σ H ss μ q Q rs ab h k => ?_⟩
  refine l1 σ H ss μ _ _ rs ab h fun v H1 d μ1 f1 ab1 r1 h1 => ?_
  obtain ⟨c, rfl, h1⟩ := onBl_of h1
  refine ⟨c, r1.bl', ?_⟩
  cases c with
  | true => exact iteT (k _ H1 _ μ1 f1 ab1 .bl (by simpa [onBl] using h1))
  | false => exact iteF (l2 σ H1 ss μ1 q Q (rs.mono f1.tup) ab1 (by simpa [onBl] using h1) fun v H2 d μ2 f2 ab2 r2 h2 => k v H2 d μ2 (f1.trans f2) ab2 r2 h2)
theorem qe_not (ha : QE X a pa) : QE X (.UnaryOp .Not a pos) (pNotV pa) := by
  obtain ⟨t, h1, l1⟩ := ha
  refine ⟨_, pe_not h1, fun σ H ss μ q Q rs ab h k => ?_⟩
  refine l1 σ H ss μ _ _ rs ab h fun v H1 d μ1 f1 ab1 r1 h1 => ?_
  obtain ⟨c, rfl, h1⟩ := onBl_of h1
  exact ⟨c, r1.bl', k _ H1 _ μ1 f1 ab1 .bl h1⟩
def pIf (t : PTx) (pa pb : PEx) : PEx := fun ss μ q => t ss μ fun c μ1 => if c = true then pa ss μ1 q else pb ss μ1 q
theorem qe_ifExp (hc : QT X c pt) (ha : QE X a pa) (hb : QE X b pb) : QE X (.IfExp c a b pos) (pIf pt pa pb) := by
  obtain ⟨t, h1, l1⟩ := hc
  obtain ⟨u, h2, l2⟩ := ha
  obtain ⟨w, h3, l3⟩ := hb
  refine ⟨_, pe_ifExp h1 h2 h3, fun σ H ss μ q Q rs ab h k => ?_⟩
  refine l1 σ H ss μ _ _ rs ab h fun c H1 μ1 f1 ab1 h1 => ?_
  cases c with
  | true => exact iteT (l2 σ H1 ss μ1 q Q (rs.mono f1.tup) ab1 (by simpa [onBl] using h1) fun v H2 d μ2 f2 ab2 r2 h2 => k v H2 d μ2 (f1.trans f2) ab2 r2 h2)
  | false => exact iteF (l3 σ H1 ss μ1 q Q (rs.mono f1.tup) ab1 (by simpa [onBl] using h1) fun v H2 d μ2 f2 ab2 r2 h2 => k v H2 d μ2 (f1.trans f2) ab2 r2 h2)
end
end Pl
namespace Pl
open PySem L2
section
variable {X : Cx}
theorem QOp.or2 {f : Value → Value → Sem Value} {r r' : R2} {p p' : PR2} {p2 : PR2} (h : OpR X f r) (h' : OpR X f r') (l : LiR X.K (fun x y H Q => r x y H Q ∨ r' x y H Q) p2) : QOp X f p2 := ⟨_, h.or h', l⟩
/-! ### arithmetic -/
def pAdd : PR2 := fun d e μ q => match d, e with
  | .int i, .int j => q (.int (i + j)) μ
  | .str x, .str y => x.length + y.length ≤ sizeLine ∧ q (.str (x ++ y)) μ
  | .tup ds, .tup es => ds.length + es.length ≤ sizeLine ∧ q (.tup (ds ++ es)) μ
  | .ref a, .ref b => onSome (wrl μ a) fun ds => onSome (wrl μ b) fun es => ds.length + es.length ≤ sizeLine ∧ ∀ p, μ p = none → q (.ref p) (mset μ p (.lst (ds ++ es)))
  | _, _ => False
theorem qop_add : QOp X (binaryOp .Add) pAdd := by
  refine ⟨_, op_add.or (op_add_str.or (op_catA.or op_cat)), fun x y d e H μ q Q ab r1 r2 h k => ?_⟩
  unfold pAdd at h
  split at h
  · exact .inl ⟨_, _, r1.int', r2.int', k _ _ _ _ .refl ab .int h⟩
  · exact .inr (.inl ⟨_, _, r1.str', r2.str', h.1, k _ _ _ _ .refl ab .str h.2⟩)
  · refine .inr (.inr (.inl ?_))
    obtain ⟨a, vs, rfl, h1, h2⟩ := r1.tup'
    obtain ⟨b, us, rfl, h3, h4⟩ := r2.tup'
    refine ⟨a, b, vs, us, rfl, rfl, h1, h3, by rw [h2.len, h4.len]; exact h.1, fun e => ?_, fun e1 e2 => ?_, fun e1 e2 p hp => ?_⟩
    · subst e
      have := h2.len
      rename_i ds es
      cases ds with
      | nil => exact k _ _ _ _ .refl ab (.tup h3 h4) h.2
      | cons _ _ => cases this
    · subst e2
      have := h4.len
      rename_i ds es
      cases es with
      | nil => rw [List.append_nil] at h; exact k _ _ _ _ .refl ab (.tup h1 h2) h.2
      | cons _ _ => cases this
    · exact k _ _ _ _ (.tuple hp) (ab.new hp) (.tup sq_new ((h2.app h4).mono (tups_new hp _))) h.2
  · refine .inr (.inr (.inr ?_))
    obtain ⟨ds, e1, h⟩ := onSome_of h
    obtain ⟨es, e2, h⟩ := onSome_of h
    obtain ⟨vs, h1, h2⟩ := ab.wlist e1
    obtain ⟨us, h3, h4⟩ := ab.wlist e2
    refine ⟨_, _, vs, us, r1.ref', r2.ref', h1, h3, by rw [h2.len, h4.len]; exact h.1, fun p hp => ?_⟩
    exact k _ _ _ _ (.put hp) (ab.put (o := .lst (ds ++ es)) hp ⟨_, upd_same, (h2.app h4).mono (tups_new hp _)⟩) .ref (h.2 p (ab.free hp))
  · exact h.elim
def pI (g : Int → Int → D) : PR2 := fun d e μ q => onInt d fun i => onInt e fun j => q (g i j) μ
def pIC (C : Int → Int → Prop) (g : Int → Int → D) : PR2 := fun d e μ q => onInt d fun i => onInt e fun j => C i j ∧ q (g i j) μ
theorem li_I {K : PySem.W.Frag} {g : Int → Int → Int} : LiR K (rI0 fun i j => .int (g i j)) (pI fun i j => .int (g i j)) := fun x y d e H μ q Q ab r1 r2 h k => by
  obtain ⟨i, e1, h⟩ := onInt_of (show onInt d _ from h)
  obtain ⟨j, e2, h⟩ := onInt_of h
  subst e1 e2
  exact ⟨i, j, r1.int', r2.int', k _ _ _ _ .refl ab .int h⟩
theorem li_IC {K : PySem.W.Frag} {C : Int → Int → Prop} {g : Int → Int → Int} : LiR K (rI C fun i j => .int (g i j)) (pIC C fun i j => .int (g i j)) := fun x y d e H μ q Q ab r1 r2 h k => by
  obtain ⟨i, e1, h⟩ := onInt_of (show onInt d _ from h)
  obtain ⟨j, e2, h⟩ := onInt_of h
  subst e1 e2
  exact ⟨i, j, r1.int', r2.int', h.1, k _ _ _ _ .refl ab .int h.2⟩
theorem li_IB {K : PySem.W.Frag} {g : Int → Int → Bool} : LiR K (rI0 fun i j => .bl (g i j)) (pI fun i j => .bl (g i j)) := fun x y d e H μ q Q ab r1 r2 h k => by
  obtain ⟨i, e1, h⟩ := onInt_of (show onInt d _ from h)
  obtain ⟨j, e2, h⟩ := onInt_of h
  subst e1 e2
  exact ⟨i, j, r1.int', r2.int', k _ _ _ _ .refl ab .bl h⟩
theorem qop_sub : QOp X (binaryOp .Sub) (pI fun i j => .int (i - j)) := ⟨_, op_sub, li_I⟩
theorem qop_mod : QOp X (binaryOp .Mod) (pIC (fun _ j => j ≠ 0) fun i j => .int (i.fmod j)) := ⟨_, op_modN, li_IC⟩
theorem qop_fdiv : QOp X (binaryOp .FloorDiv) (pIC CDivN fun i j => .int (i.fdiv j)) := ⟨_, op_fdivN, li_IC⟩
def CPw (i j : Int) : Prop := 0 ≤ j ∧ (Builtin.Int.intBits i : Int) * j ≤ 2 ^ 27
theorem qop_pow : QOp X (binaryOp .Pow) (pIC CPw fun i j => .int (i ^ j.toNat)) := ⟨_, Lq.op_powB, li_IC⟩
def pMul : PR2 := fun d e μ q => match d, e with
  | .int i, .int j => CMul i j ∧ q (.int (i * j)) μ
  | .tup ds, .int k => ds ≠ [] ∧ 2 ≤ k ∧ k ≤ 1000 ∧ ds.length ≤ 1000 ∧ q (.tup (List.replicate k.toNat ds).flatten) μ
  | .ref a, .int k => onSome (wrl μ a) fun ds => -(2 ^ 63) ≤ k ∧ k < 2 ^ 63 ∧ ds.length * k.toNat ≤ sizeLine ∧ ∀ p, μ p = none → q (.ref p) (mset μ p (.lst (List.replicate k.toNat ds).flatten))
  | _, _ => False
theorem RDs.rep {K : PySem.W.Frag} {H : Hp} {ds : List D} {vs : List V} (h : RDs K H ds vs) : ∀ k : Nat, RDs K H (List.replicate k ds).flatten (List.replicate k vs).flatten
  | 0 => .nil
  | k + 1 => by
    rw [List.replicate_succ, List.replicate_succ, List.flatten_cons, List.flatten_cons]
    exact h.app (RDs.rep h k)
theorem qop_mul : QOp X (binaryOp .Mult) pMul := by
  refine ⟨_, op_mul.or (op_repT.or op_rep), fun x y d e H μ q Q ab r1 r2 h k => ?_⟩
  unfold pMul at h
  split at h
  · exact .inl ⟨_, _, r1.int', r2.int', h.1, k _ _ _ _ .refl ab .int h.2⟩
  · refine .inr (.inl ?_)
    obtain ⟨a, vs, rfl, h1, h2⟩ := r1.tup'
    obtain ⟨g1, g2, g3, g4, h⟩ := h
    refine ⟨a, _, vs, rfl, r2.int', h1, fun e => ?_, g2, g3, by rw [h2.len]; exact g4, fun p hp => ?_⟩
    · subst e
      have := h2.len
      rename_i ds _
      cases ds with
      | nil => exact g1 rfl
      | cons _ _ => cases this
    · exact k _ _ _ _ (.tuple hp) (ab.new hp) (.tup sq_new ((h2.rep _).mono (tups_new hp _))) h
  · refine .inr (.inr ?_)
    obtain ⟨ds, e1, g1, g2, g3, h⟩ := onSome_of h
    obtain ⟨vs, h1, h2⟩ := ab.wlist e1
    refine ⟨_, _, vs, r1.ref', r2.int', h1, g1, g2, by rw [h2.len]; exact g3, fun p hp => ?_⟩
    exact k _ _ _ _ (.put hp) (ab.put (o := .lst _) hp ⟨_, upd_same, (h2.rep _).mono (tups_new hp _)⟩) .ref (h p (ab.free hp))
  · exact h.elim
/-! ### comparisons -/
def pLt : PR2 := fun d e μ q => match d, e with
  | .int i, .int j => q (.bl (decide (i < j))) μ
  | .str x, .str y => q (.bl (decide (x.cps.toList < y.cps.toList))) μ
  | _, _ => False
theorem qop_lt : QOp X (compareOp .Lt) pLt := by
  refine ⟨_, op_lt.or op_lt_str, fun x y d e H μ q Q ab r1 r2 h k => ?_⟩
  unfold pLt at h
  split at h
  · exact .inl ⟨_, _, r1.int', r2.int', k _ _ _ _ .refl ab .bl h⟩
  · exact .inr ⟨_, _, r1.str', r2.str', k _ _ _ _ .refl ab .bl h⟩
  · exact h.elim
theorem qop_le : QOp X (compareOp .LtE) (pI fun i j => .bl (decide (i ≤ j))) := ⟨_, op_le, li_IB⟩
theorem qop_gt : QOp X (compareOp .Gt) (pI fun i j => .bl (decide (j < i))) := ⟨_, op_gt, li_IB⟩
theorem qop_ge : QOp X (compareOp .GtE) (pI fun i j => .bl (decide (j ≤ i))) := ⟨_, op_ge, li_IB⟩
/-- == of scalars -/
def eqS : D → D → Option Bool
  | .non, .non => some true
  | .non, .int _ => some false
  | .non, .bl _ => some false
  | .non, .str _ => some false
  | .int _, .non => some false
  | .bl _, .non => some false
  | .str _, .non => some false
  | .int i, .int j => some (decide (i = j))
  | .bl i, .bl j => some (decide (i = j))
  | .str i, .str j => some (decide (i = j))
  | .int _, .str _ => some false
  | .str _, .int _ => some false
  | .bl _, .str _ => some false
  | .str _, .bl _ => some false
  | _, _ => none
mutual
def D.pd : D → Option PyData
  | .non => some .none
  | .bl b => some (.bool b)
  | .int i => some (.int i)
  | .str x => some (.str x)
  | .tup ds => (D.pds ds).map PyData.tuple
  | .ref _ => none
  | .ty _ => none
def D.pds : List D → Option (List PyData)
  | [] => some []
  | d :: r => (D.pd d).bind fun x => (D.pds r).map fun y => x :: y
end
def pdM (μ : Mu) (d : D) : Option PyData := match d with
  | .ref a => (rdl μ a).bind fun ds => (D.pds ds).map PyData.list
  | d => d.pd
mutual
theorem dp_of {K : PySem.W.Frag} {H : Hp} : ∀ {d : D} {v : V} {x : PyData}, RD K H d v → d.pd = some x → Dp K H v x
  | .non, _, _, r, h => by unfold D.pd at h; cases h; rw [r.non']; exact .non
  | .bl b, _, _, r, h => by unfold D.pd at h; cases h; rw [r.bl']; exact .bl b
  | .int b, _, _, r, h => by unfold D.pd at h; cases h; rw [r.int']; exact .int b
  | .str b, _, _, r, h => by unfold D.pd at h; cases h; rw [r.str']; exact .str b
  | .tup ds, _, _, r, h => by
    unfold D.pd at h
    obtain ⟨a, vs, rfl, h1, h2⟩ := r.tup'
    cases e : D.pds ds with
    | none => rw [e] at h; cases h
    | some ys =>
      rw [e] at h
      cases h
      exact .tup h1 (dps_of h2 e)
  | .ref _, _, _, _, h => by unfold D.pd at h; cases h
  | .ty _, _, _, _, h => by unfold D.pd at h; cases h
theorem dps_of {K : PySem.W.Frag} {H : Hp} : ∀ {ds : List D} {vs : List V} {xs : List PyData}, RDs K H ds vs → D.pds ds = some xs → DpAll K H vs xs
  | [], _, _, r, h => by unfold D.pds at h; cases h; rw [r.nil']; exact .nil
  | d :: ds, _, _, r, h => by
    unfold D.pds at h
    obtain ⟨v, ws, rfl, r1, r2⟩ := r.cons'
    cases e : d.pd with
    | none => rw [e] at h; cases h
    | some x =>
      rw [e] at h
      cases e2 : D.pds ds with
      | none => rw [e2] at h; cases h
      | some ys =>
        rw [e2] at h
        cases h
        exact .cons (dp_of r1 e) (dps_of r2 e2)
end
theorem dpM_of {K : PySem.W.Frag} {H : Hp} {μ : Mu} {d : D} {v : V} {x : PyData} (ab : Abs K μ H) (r : RD K H d v) (h : pdM μ d = some x) : Dp K H v x := by
  cases d with
  | ref a =>
    simp only [pdM] at h
    cases e : rdl μ a with
    | none => rw [e] at h; cases h
    | some ds =>
      rw [e] at h
      cases e2 : D.pds ds with
      | none => simp [e2] at h
      | some ys =>
        simp only [e2, Option.bind_some, Option.map_some, Option.some.injEq] at h
        subst h
        obtain ⟨vs, h1, h2⟩ := ab.list e
        rw [r.ref']
        exact .lst h1 (dps_of h2 e2)
  | _ => exact dp_of r h
def pEq (neg : Bool) : PR2 := fun d e μ q => match eqS d e with
  | some b => q (.bl (b != neg)) μ
  | none => onSome (pdM μ d) fun x => onSome (pdM μ e) fun y => SeqAt.shaped x = true ∧ SeqAt.shaped y = true ∧ q (.bl (PyData.eqv x y != neg)) μ
theorem eqS_of {K : PySem.W.Frag} {H : Hp} {d e : D} {x y : V} {b : Bool} (r1 : RD K H d x) (r2 : RD K H e y) (h : eqS d e = some b) : scal x y = true ∧ decide (x = y) = b := by
  unfold eqS at h
  split at h <;> first | cases h | skip
  all_goals (first | rw [r1.non'] | rw [r1.int'] | rw [r1.bl'] | rw [r1.str'])
  all_goals (first | rw [r2.non'] | rw [r2.int'] | rw [r2.bl'] | rw [r2.str'])
  all_goals first | exact ⟨rfl, by simp⟩
theorem qop_eq (hu : X.A.units + 64 < cLine) : QOp X (compareOp .Eq) (pEq false) := by
  refine ⟨_, op_eq.or (op_eqD hu), fun x y d e H μ q Q ab r1 r2 h k => ?_⟩
  unfold pEq at h
  split at h
  · obtain ⟨h1, h2⟩ := eqS_of r1 r2 (by assumption)
    refine .inl ⟨h1, ?_⟩
    rw [h2]
    exact k _ _ _ _ .refl ab .bl (by simpa using h)
  · obtain ⟨x', e1, h⟩ := onSome_of h
    obtain ⟨y', e2, g1, g2, h⟩ := onSome_of h
    exact .inr ⟨x', y', dpM_of ab r1 e1, dpM_of ab r2 e2, g1, g2, k _ _ _ _ .refl ab .bl (by simpa using h)⟩
theorem qop_ne (hu : X.A.units + 64 < cLine) : QOp X (compareOp .NotEq) (pEq true) := by
  refine ⟨_, op_ne.or (op_neD hu), fun x y d e H μ q Q ab r1 r2 h k => ?_⟩
  unfold pEq at h
  split at h
  · obtain ⟨h1, h2⟩ := eqS_of r1 r2 (by assumption)
    refine .inl ⟨h1, ?_⟩
    rw [h2]
    exact k _ _ _ _ .refl ab .bl (by simpa using h)
  · obtain ⟨x', e1, h⟩ := onSome_of h
    obtain ⟨y', e2, g1, g2, h⟩ := onSome_of h
    exact .inr ⟨x', y', dpM_of ab r1 e1, dpM_of ab r2 e2, g1, g2, k _ _ _ _ .refl ab .bl (by simpa using h)⟩
def isNon : D → Bool
  | .non => true
  | _ => false
theorem isNon_of {K : PySem.W.Frag} {H : Hp} {d : D} {v : V} (r : RD K H d v) : decide (v = .non) = isNon d := by
  cases d with
  | non => rw [r.non']; rfl
  | bl b => rw [r.bl']; rfl
  | int b => rw [r.int']; rfl
  | str b => rw [r.str']; rfl
  | ref b => rw [r.ref']; rfl
  | ty b => rw [r.ty']; rfl
  | tup ds => obtain ⟨a, vs, rfl, _⟩ := r.tup'; rfl
def pIsN (neg : Bool) : PR2 := fun d e μ q => match e with
  | .non => q (.bl (isNon d != neg)) μ
  | _ => False
theorem qop_is : QOp X (compareOp .Is) (pIsN false) := by
  refine ⟨_, op_isN, fun x y d e H μ q Q ab r1 r2 h k => ?_⟩
  unfold pIsN at h
  split at h
  · refine ⟨r2.non', ?_⟩
    rw [isNon_of r1]
    exact k _ _ _ _ .refl ab .bl (by simpa using h)
  · exact h.elim
theorem qop_isnot : QOp X (compareOp .IsNot) (pIsN true) := by
  refine ⟨_, op_notN, fun x y d e H μ q Q ab r1 r2 h k => ?_⟩
  unfold pIsN at h
  split at h
  · refine ⟨r2.non', ?_⟩
    rw [isNon_of r1]
    exact k _ _ _ _ .refl ab .bl (by simpa using h)
  · exact h.elim
def flatD : D → Bool
  | .non | .bl _ | .int _ | .str _ => true
  | _ => false
def toV : D → V
  | .non => .non | .bl b => .bl b | .int i => .int i | .str x => .str x | _ => .non
theorem toV_of {K : PySem.W.Frag} {H : Hp} {d : D} {v : V} (r : RD K H d v) (f : flatD d = true) : v = toV d ∧ flatV v = true := by
  cases d with
  | non => rw [r.non']; exact ⟨rfl, rfl⟩
  | bl b => rw [r.bl']; exact ⟨rfl, rfl⟩
  | int b => rw [r.int']; exact ⟨rfl, rfl⟩
  | str b => rw [r.str']; exact ⟨rfl, rfl⟩
  | _ => cases f
theorem toVs_of {K : PySem.W.Frag} {H : Hp} : ∀ {ds : List D} {vs : List V}, RDs K H ds vs → ds.all flatD = true → vs = ds.map toV ∧ vs.all flatV = true
  | [], _, r, _ => by rw [r.nil']; exact ⟨rfl, rfl⟩
  | d :: ds, _, r, f => by
    obtain ⟨v, ws, rfl, r1, r2⟩ := r.cons'
    rw [List.all_cons, Bool.and_eq_true] at f
    obtain ⟨h1, h2⟩ := toV_of r1 f.1
    obtain ⟨h3, h4⟩ := toVs_of r2 f.2
    rw [List.all_cons, h2, h4, h1, h3]
    exact ⟨rfl, rfl⟩
/-- == of flat data -/
def eqF : D → D → Bool
  | .non, .non => true
  | .bl a, .bl b => a == b
  | .bl a, .int b => (if a then 1 else 0) == b
  | .int a, .bl b => a == (if b then 1 else 0)
  | .int a, .int b => a == b
  | .str a, .str b => a == b
  | _, _ => false
theorem eqF_V : ∀ {d e : D}, flatD d = true → flatD e = true → eqV (toV d) (toV e) = eqF d e := by
  intro d e h1 h2
  cases d <;> cases e <;> first | rfl | exact absurd (show false = true from h1) Bool.false_ne_true | exact absurd (show false = true from h2) Bool.false_ne_true
def inD (d : D) (ds : List D) : Bool := ds.any fun e => eqF e d
theorem inD_V {d : D} (h : flatD d = true) : ∀ {ds : List D}, ds.all flatD = true → inV (toV d) (ds.map toV) = inD d ds
  | [], _ => rfl
  | e :: ds, f => by
    rw [List.all_cons, Bool.and_eq_true] at f
    have := inD_V h f.2
    unfold inV inD at this ⊢
    rw [List.map_cons, List.any_cons, List.any_cons, this, eqF_V f.1 h]
def keyOf : D → Option Key
  | .int i => some (.inl i)
  | .str x => some (.inr x)
  | _ => none
theorem keyOf_of {K : PySem.W.Frag} {H : Hp} {d : D} {v : V} {k : Key} (r : RD K H d v) (h : keyOf d = some k) : v = kV k := by
  cases d <;> first | (cases h; first | exact r.int' | exact r.str') | cases h
def valD {κ : Type} [DecidableEq κ] (kvs : List (κ × D)) (k : κ) : Option D := (kvs.find? fun kv => decide (kv.1 = k)).map (·.2)
theorem valD_of {K : PySem.W.Frag} {H : Hp} {κ : Type} [DecidableEq κ] {k : κ} : ∀ {kvs : List (κ × D)} {kws : List (κ × V)}, Kv K H kvs kws → (∀ d, valD kvs k = some d → ∃ v, valV kws k = some v ∧ RD K H d v) ∧ (valD kvs k = none → valV kws k = none)
  | _, _, .nil => ⟨fun d h => (nomatch h), fun _ => rfl⟩
  | p :: kvs, q :: kws, .cons ⟨h1, h2⟩ t => by
    have ih := valD_of (k := k) t
    by_cases e : p.1 = k
    · have e1 : valD (p :: kvs) k = some p.2 := by simp [valD, List.find?_cons, e]
      have e2 : valV (q :: kws) k = some q.2 := valV_pos (h1 ▸ e)
      exact ⟨fun d h => ⟨q.2, e2, by rw [e1] at h; cases h; exact h2⟩, fun h => by rw [e1] at h; cases h⟩
    · have e1 : valD (p :: kvs) k = valD kvs k := by simp [valD, List.find?_cons, e]
      have e2 : valV (q :: kws) k = valV kws k := valV_neg (h1 ▸ e)
      rw [e1, e2]
      exact ih
theorem valD_some {K : PySem.W.Frag} {H : Hp} {κ : Type} [DecidableEq κ] {k : κ} {kvs : List (κ × D)} {kws : List (κ × V)} (h : Kv K H kvs kws) : (valV kws k).isSome = (valD kvs k).isSome := by
  obtain ⟨h1, h2⟩ := valD_of (k := k) h
  cases e : valD kvs k with
  | none => rw [h2 e]; rfl
  | some d => obtain ⟨v, e2, _⟩ := h1 d e; rw [e2]; rfl
def pIn (neg : Bool) : PR2 := fun d e μ q => match e with
  | .str y => onStr d fun x => q (.bl ((!(Builtin.Str.occurrences y x 0 y.length 1).isEmpty) != neg)) μ
  | .tup ds => flatD d = true ∧ ds.all flatD = true ∧ q (.bl (inD d ds != neg)) μ
  | .ref a => match μ a with
    | some (.dk kvs) => onSome (keyOf d) fun k => q (.bl ((valD kvs k).isSome != neg)) μ
    | some (.dz _ _ kvs) => onSome (keyOf d) fun k => q (.bl ((valD kvs k).isSome != neg)) μ
    | some (.lst ds) => flatD d = true ∧ ds.all flatD = true ∧ q (.bl (inD d ds != neg)) μ
    | some (.rl ds) => flatD d = true ∧ ds.all flatD = true ∧ q (.bl (inD d ds != neg)) μ
    | _ => False
  | _ => False
end
end Pl
namespace Pl
open PySem L2 PySem.Spec PyProof.Rows
section
variable {X : Cx}
def rDIn (neg : Bool) : R2 := fun x y H Q => ∃ a o, y = .ref a ∧ DGet H a x o ∧ Q (.bl (o.isSome != neg)) H
theorem op_din (hu : X.A.units + 1 < cLine) : OpR X (compareOp .In) (rDIn false) := by
  intro pins s σ H x y v u Q I rx ry h
  obtain ⟨a, o, rfl, g, q⟩ := h
  cases ry
  exact d_in hu I g rx fun s' I' => ⟨.bl o.isSome, H, I', rfl, by simpa using q⟩
theorem op_dnotin (hu : X.A.units + 1 < cLine) : OpR X (compareOp .NotIn) (rDIn true) := by
  intro pins s σ H x y v u Q I rx ry h
  obtain ⟨a, o, rfl, g, q⟩ := h
  cases ry
  exact d_notIn hu I g rx fun s' I' => ⟨.bl (!o.isSome), H, I', rfl, by simpa using q⟩
def rIxDk : R2 := fun x y H Q => ∃ a v, x = .ref a ∧ DGet H a y (some v) ∧ Q v H
theorem ix_dict (hu : X.A.units + 1 < cLine) : IxR X rIxDk := by
  intro value slice pins s σ H x y v u Q I rx ry h hs
  obtain ⟨a, z, rfl, g, q⟩ := h
  cases rx
  have hT := dict_typeIs I g
  unfold subscriptTail
  refine wpAny_bind ?_
  rw [getitemInPython_of_ne hT.not_modules]
  refine wpAny_bind (wpAny_specialOf hT PySem.F.slot_dict_getitem.lookup ?_)
  have fin : wpAny (model X.prog X.w) X.A (subscripted slice false (.ref a) u) (fun r s₃ => wpAny (model X.prog X.w) X.A (letTemporaryGo value (.ref a) r >>= fun _ => pure r) (EP X pins σ Q) X.xe s₃) X.xe s := by
    rw [hs]
    refine wpAny_operating (d_getItem hu I g ry fun w' s3 I3 rw' => ?_)
    exact wpAny_bind (wpAny_letTemporaryGo (wpAny_pure ⟨z, H, I3, rw', q⟩))
  first
    | exact wpAny_pure (wpAny_bind fin)
    | exact wpAny_bind (wpAny_pure (wpAny_bind fin))
    | exact wpAny_bind fin
end
end Pl
namespace Pl
open PySem L2
section
variable {X : Cx}
theorem qop_in' {neg : Bool} {f : Value → Value → Sem Value} (h1 : OpR X f (rIn X.K neg)) (h2 : OpR X f (fun x y H Q => ∃ i j, x = .str i ∧ y = .str j ∧ Q (.bl ((!(Builtin.Str.occurrences j i 0 j.length 1).isEmpty) != neg)) H)) (h3 : OpR X f (rDIn neg)) : QOp X f (pIn neg) := by
  refine ⟨_, h1.or (h2.or h3), fun x y d e H μ q Q ab r1 r2 h k => ?_⟩
  have seq : ∀ (p : Addr) (ds : List D) (vs : List V), y = .ref p → (SqL X.K H p vs ∨ SqT X.K H p vs) → RDs X.K H ds vs → flatD d = true → ds.all flatD = true → q (.bl (inD d ds != neg)) μ → rIn X.K neg x y H Q := by
    intro p ds vs ey hs hds f1 f2 h
    obtain ⟨e1, e2⟩ := toV_of r1 f1
    obtain ⟨e3, e4⟩ := toVs_of hds f2
    refine ⟨p, vs, ey, hs, e2, e4, ?_⟩
    rw [e1, e3, inD_V f1 f2]
    have : (if neg = true then !inD d ds else inD d ds) = (inD d ds != neg) := by cases neg <;> simp
    rw [this]
    exact k _ _ _ _ .refl ab .bl h
  unfold pIn at h
  split at h
  · obtain ⟨x', e1, h⟩ := onStr_of (show onStr d _ from h)
    subst e1
    exact .inr (.inl ⟨_, _, r1.str', r2.str', k _ _ _ _ .refl ab .bl h⟩)
  · obtain ⟨a, vs, ey, h1, h2⟩ := r2.tup'
    exact .inl (seq a _ vs ey (.inr h1) h2 h.1 h.2.1 h.2.2)
  · split at h
    · obtain ⟨kk, e1, h⟩ := onSome_of h
      obtain ⟨kws, h1, h2⟩ := ab _ _ (by assumption)
      refine .inr (.inr ⟨_, _, r2.ref', .inl ⟨kws, kk, .inl h1, keyOf_of r1 e1, rfl⟩, ?_⟩)
      rw [valD_some h2]
      exact k _ _ _ _ .refl ab .bl h
    · obtain ⟨kk, e1, h⟩ := onSome_of h
      obtain ⟨h1, h2⟩ := ab _ _ (by assumption)
      refine .inr (.inr ⟨_, _, r2.ref', .inl ⟨_, kk, .inr ⟨_, h1⟩, keyOf_of r1 e1, rfl⟩, ?_⟩)
      rw [valD_some h2]
      exact k _ _ _ _ .refl ab .bl h
    · obtain ⟨vs, h1, h2⟩ := ab _ _ (by assumption)
      exact .inl (seq _ _ vs r2.ref' (.inl (SqL.of h1)) h2 h.1 h.2.1 h.2.2)
    · obtain ⟨vs, h1, h2⟩ := ab _ _ (by assumption)
      exact .inl (seq _ _ vs r2.ref' (.inl (.inl h1)) h2 h.1 h.2.1 h.2.2)
    · exact h.elim
  · exact h.elim
theorem bne_false (b : Bool) : (b != false) = b := by cases b <;> rfl
theorem bne_true (b : Bool) : (b != true) = !b := by cases b <;> rfl
theorem qop_in (hu : X.A.units + 1 < cLine) : QOp X (compareOp .In) (pIn false) :=
  qop_in' op_in_seq (by simpa only [bne_false] using op_in_str) (op_din hu)
theorem qop_notin (hu : X.A.units + 1 < cLine) : QOp X (compareOp .NotIn) (pIn true) :=
  qop_in' op_notIn_seq (by simpa only [bne_true] using op_notIn_str) (op_dnotin hu)
/-! ### subscripts -/
def pIx : PR2 := fun d e μ q => match d with
  | .tup ds => onInt e fun i => onSome (atI ds i) fun x => q x μ
  | .str z => onInt e fun i => z.length ≤ sizeLine ∧ onSome (atI z.cps.toList i) fun c => q (.str ⟨#[c]⟩) μ
  | .ref a => match μ a with
    | some (.lst ds) => onInt e fun i => onSome (atI ds i) fun x => q x μ
    | some (.rl ds) => onInt e fun i => onSome (atI ds i) fun x => q x μ
    | some (.dk kvs) => onSome (keyOf e) fun k => onSome (valD kvs k) fun x => q x μ
    | some (.dz _ _ kvs) => onSome (keyOf e) fun k => onSome (valD kvs k) fun x => q x μ
    | _ => False
  | _ => False
theorem atI_rd {K : PySem.W.Frag} {H : Hp} {ds : List D} {vs : List V} {i : Int} {x : D} (h : RDs K H ds vs) (e : atI ds i = some x) : ∃ v, atI vs i = some v ∧ RD K H x v := by
  unfold atI at e ⊢
  rw [h.len]
  cases e2 : ixN ds.length i with
  | none => rw [e2] at e; cases e
  | some j =>
    rw [e2] at e
    exact h.get (i := j) e
theorem qix (hu : X.A.units + 1 < cLine) : QIx X pIx := by
  refine ⟨_, ix_tup.or (ix_str.or (ix_list.or (ix_dict hu))), fun x y d e H μ q Q ab r1 r2 h k => ?_⟩
  unfold pIx at h
  split at h
  · obtain ⟨i, e1, h⟩ := onInt_of (show onInt e _ from h)
    subst e1
    obtain ⟨z, e2, h⟩ := onSome_of h
    obtain ⟨a, vs, rfl, h1, h2⟩ := r1.tup'
    obtain ⟨v, e3, r⟩ := atI_rd h2 e2
    exact .inl ⟨a, vs, i, v, rfl, r2.int', h1, e3, k _ _ _ _ .refl ab r h⟩
  · obtain ⟨i, e1, hz, h3⟩ := onInt_of (show onInt e _ from h)
    subst e1
    obtain ⟨z, e2, h⟩ := onSome_of h3
    exact .inr (.inl ⟨_, i, z, r1.str', r2.int', hz, e2, k _ _ _ _ .refl ab .str h⟩)
  · split at h
    · obtain ⟨i, e1, h⟩ := onInt_of (show onInt e _ from h)
      subst e1
      obtain ⟨z, e2, h⟩ := onSome_of h
      obtain ⟨vs, h1, h2⟩ := ab _ _ (by assumption)
      obtain ⟨v, e3, r⟩ := atI_rd h2 e2
      exact .inr (.inr (.inl ⟨_, vs, i, v, r1.ref', r2.int', SqL.of h1, e3, k _ _ _ _ .refl ab r h⟩))
    · obtain ⟨i, e1, h⟩ := onInt_of (show onInt e _ from h)
      subst e1
      obtain ⟨z, e2, h⟩ := onSome_of h
      obtain ⟨vs, h1, h2⟩ := ab _ _ (by assumption)
      obtain ⟨v, e3, r⟩ := atI_rd h2 e2
      exact .inr (.inr (.inl ⟨_, vs, i, v, r1.ref', r2.int', .inl h1, e3, k _ _ _ _ .refl ab r h⟩))
    · obtain ⟨kk, e1, h⟩ := onSome_of h
      obtain ⟨z, e2, h⟩ := onSome_of h
      obtain ⟨kws, h1, h2⟩ := ab _ _ (by assumption)
      obtain ⟨v, e3, r⟩ := (valD_of (k := kk) h2).1 z e2
      refine .inr (.inr (.inr ⟨_, v, r1.ref', .inl ⟨kws, kk, .inl h1, keyOf_of r2 e1, e3.symm⟩, k _ _ _ _ .refl ab r h⟩))
    · obtain ⟨kk, e1, h⟩ := onSome_of h
      obtain ⟨z, e2, h⟩ := onSome_of h
      obtain ⟨h1, h2⟩ := ab _ _ (by assumption)
      obtain ⟨v, e3, r⟩ := (valD_of (k := kk) h2).1 z e2
      refine .inr (.inr (.inr ⟨_, v, r1.ref', .inl ⟨_, kk, .inr ⟨_, h1⟩, keyOf_of r2 e1, e3.symm⟩, k _ _ _ _ .refl ab r h⟩))
    · exact h.elim
  · exact h.elim
/-! ### slices -/
abbrev POx := SS → Mu → (Option Int → Mu → Prop) → Prop
def LiO (K : PySem.W.Frag) (t : TO) (p : POx) : Prop := ∀ (σ : St) (H : Hp) (ss : SS) (μ : Mu) (q : Option Int → Mu → Prop) (Q : Option Int → Hp → Prop), RS K H ss σ → Abs K μ H → p ss μ q →
  (∀ b H' μ', Fm K H μ H' μ' → Abs K μ' H' → q b μ' → Q b H') → t σ H Q
structure QO (X : Cx) (e : Option Expr) (p : POx) : Prop where
  ex : ∃ t, PO X e t ∧ LiO X.K t p
def pNoPart : POx := fun _ μ q => q none μ
def pPart (pa : PEx) : POx := fun ss μ q => pa ss μ fun d μ1 => onInt d fun i => q (some i) μ1
theorem qo_none : QO X none pNoPart := ⟨_, po_none, fun σ H ss μ q Q rs ab h k => k none H μ .refl ab h⟩
theorem qo_some {e : Expr} {pa : PEx} (h : QE X e pa) : QO X (some e) (pPart pa) := by
  obtain ⟨t, h1, l1⟩ := h
  refine ⟨_, po_some h1, fun σ H ss μ q Q rs ab h k => ?_⟩
  refine l1 σ H ss μ _ _ rs ab h fun v H1 d μ1 f1 ab1 r1 h1 => ?_
  obtain ⟨i, e, h1⟩ := onInt_of (show onInt d _ from h1)
  subst e
  exact ⟨i, r1.int', k _ H1 μ1 f1 ab1 h1⟩
def cutD (xs : List D) (lo hi : Option Int) : List D := (xs.drop (HT.sIx xs.length 0 lo)).take (HT.sIx xs.length xs.length hi - HT.sIx xs.length 0 lo)
theorem cut_rd {K : PySem.W.Frag} {H : Hp} {ds : List D} {vs : List V} (lo hi : Option Int) (h : RDs K H ds vs) : RDs K H (cutD ds lo hi) (cutV vs lo hi) := by
  unfold cutD cutV
  rw [h.len]
  exact (h.drop _).take _
/-- the items of a part of a sequence -/
def pSl : D → Option Int → Option Int → Mu → EQ → Prop := fun d lo hi μ q => match d with
  | .tup ds => q (.tup (cutD ds lo hi)) μ
  | .str z => z.length ≤ sizeLine ∧ q (.str (cutS z lo hi)) μ
  | .ref a => onSome (rdl μ a) fun ds => ∀ p, μ p = none → q (.ref p) (mset μ p (.lst (cutD ds lo hi)))
  | _ => False
def pSlice (pa : PEx) (pl ph : POx) : PEx := fun ss μ q => pa ss μ fun d μ1 => pl ss μ1 fun l μ2 => ph ss μ2 fun u μ3 => pSl d l u μ3 q
theorem qe_slice {e : Expr} {lo hi : Option Expr} {pa : PEx} {pl ph : POx} {p2 pos : Pos} (he : QE X e pa) (hl : QO X lo pl) (hu : QO X hi ph) : QE X (.Subscript e (.Slice lo hi none p2) pos) (pSlice pa pl ph) := by
  obtain ⟨t, h1, l1⟩ := he
  obtain ⟨u, h2, l2⟩ := hl
  obtain ⟨w, h3, l3⟩ := hu
  refine ⟨_, pe_slice (sl_tupA.or (sl_str.or sl_list)) h1 h2 h3, fun σ H ss μ q Q rs ab h k => ?_⟩
  refine l1 σ H ss μ _ _ rs ab h fun v H1 d μ1 f1 ab1 r1 h1 => ?_
  refine l2 σ H1 ss μ1 _ _ (rs.mono f1.tup) ab1 h1 fun l H2 μ2 f2 ab2 h2 => ?_
  refine l3 σ H2 ss μ2 _ _ (rs.mono (f1.trans f2).tup) ab2 h2 fun u H3 μ3 f3 ab3 h3 => ?_
  have r3 := r1.mono (f2.trans f3).tup
  have f := (f1.trans f2).trans f3
  unfold pSl at h3
  split at h3
  · refine .inl ?_
    obtain ⟨a, vs, rfl, g1, g2⟩ := r3.tup'
    refine ⟨a, vs, rfl, g1, fun e => ?_, fun _ p hp => ?_⟩
    · refine k _ _ _ _ f ab3 (.tup g1 ?_) h3
      have := cut_rd l u g2
      rename_i ds
      have e2 : cutV vs l u = vs := by
        unfold cutV
        rw [e.1, e.2, List.drop_zero, Nat.sub_zero, List.take_length]
      rw [e2] at this
      exact this
    · exact k _ _ _ _ (f.trans (.tuple hp)) (ab3.new hp) (.tup sq_new ((cut_rd l u g2).mono (tups_new hp _))) h3
  · exact .inr (.inl ⟨_, r3.str', h3.1, k _ _ _ _ f ab3 .str h3.2⟩)
  · obtain ⟨ds, e, h3⟩ := onSome_of h3
    obtain ⟨vs, g1, g2⟩ := ab3.list e
    exact .inr (.inr ⟨_, vs, r3.ref', g1, fun p hp => k _ _ _ _ (f.trans (.put hp)) (ab3.put (o := .lst _) hp ⟨_, upd_same, (cut_rd l u g2).mono (tups_new hp _)⟩) .ref (h3 p (ab3.free hp))⟩)
  · exact h3.elim
/-! ### calls of built-in functions -/
def pCB (r : PRN) (pr : PAx) : PEx := fun ss μ q => pr ss μ fun ds μ1 => r ds μ1 q
theorem li_cb {K : PySem.W.Frag} {t : TA} {r : List V → Hp → VK → Prop} {pr : PAx} {p : PRN} (l : LiA K t pr) (lr : LiN K r p) : LiE K (tCB r t) (pCB p pr) := fun σ H ss μ q Q rs ab h k => by
  refine l σ H ss μ _ _ rs ab h fun vs H1 ds μ1 f1 ab1 r1 h1 => ?_
  exact lr vs ds H1 μ1 q Q ab1 r1 h1 fun v H2 d μ2 f2 ab2 r2 h2 => k _ _ _ _ (f1.trans f2) ab2 r2 h2
variable {e : Expr} {es : List Expr} {pr : PAx} {x : Str} {p pos : Pos} {r : PRN}
theorem qe_callB {id : String} (hc : QC X (.builtin id) r) (hg : Gl X x) (hm : X.mg x = none) (hv : bootBuiltins x = some (.builtin id)) (ha : QA X (e :: es) pr) (hn : x ≠ "__name__" := by decide) (hdb : (x == ("__debug__" : Str)) = false := by decide)
    (he : starEach (e :: es) X.env = (false, eval e X.env) :: starEach es X.env := by rfl) (hpl : (backTo pos (starEach es X.env)).any (·.1) = false := by rfl) : QE X (.Call (.Name x p) (e :: es) [] pos) (pCB r pr) := by
  obtain ⟨rr, c, lr⟩ := hc
  obtain ⟨t, h1, l1⟩ := ha
  exact ⟨_, pe_callB c hg hm hv h1 hn hdb he hpl, li_cb l1 lr⟩
theorem qe_callTy {T : String} (hc : QC X (.type T) r) (hg : Gl X x) (hm : X.mg x = none) (hv : bootBuiltins x = some (.type T)) (ha : QA X (e :: es) pr) (hn : x ≠ "__name__" := by decide) (hdb : (x == ("__debug__" : Str)) = false := by decide)
    (he : starEach (e :: es) X.env = (false, eval e X.env) :: starEach es X.env := by rfl) (hpl : (backTo pos (starEach es X.env)).any (·.1) = false := by rfl) : QE X (.Call (.Name x p) (e :: es) [] pos) (pCB r pr) := by
  obtain ⟨rr, c, lr⟩ := hc
  obtain ⟨t, h1, l1⟩ := ha
  exact ⟨_, pe_callTy c hg hm hv h1 hn hdb he hpl, li_cb l1 lr⟩
def on1 : List D → (D → Prop) → Prop
  | [d], k => k d
  | _, _ => False
def on2 : List D → (D → D → Prop) → Prop
  | [d, e], k => k d e
  | _, _ => False
theorem on1_of {ds : List D} {k : D → Prop} (h : on1 ds k) : ∃ d, ds = [d] ∧ k d := by
  match ds, h with
  | [d], h => exact ⟨d, rfl, h⟩
theorem on2_of {ds : List D} {k : D → D → Prop} (h : on2 ds k) : ∃ d e, ds = [d, e] ∧ k d e := by
  match ds, h with
  | [d, e], h => exact ⟨d, e, rfl, h⟩
theorem rds1 {K : PySem.W.Frag} {H : Hp} {d : D} {vs : List V} (h : RDs K H [d] vs) : ∃ v, vs = [v] ∧ RD K H d v := by
  obtain ⟨v, ws, rfl, h1, h2⟩ := h.cons'
  rw [h2.nil']
  exact ⟨v, rfl, h1⟩
theorem rds2 {K : PySem.W.Frag} {H : Hp} {d e : D} {vs : List V} (h : RDs K H [d, e] vs) : ∃ v u, vs = [v, u] ∧ RD K H d v ∧ RD K H e u := by
  obtain ⟨v, ws, rfl, h1, h2⟩ := h.cons'
  obtain ⟨u, rfl, h3⟩ := rds1 h2
  exact ⟨v, u, rfl, h1, h3⟩
def lenD (μ : Mu) : D → Option Nat
  | .tup ds => some ds.length
  | .str z => if z.length ≤ sizeLine then some z.length else none
  | .ref a => match μ a with
    | some (.lst ds) => some ds.length
    | some (.rl ds) => some ds.length
    | some (.dk kvs) => some kvs.length
    | _ => none
  | _ => none
def pLen : PRN := fun ds μ q => on1 ds fun d => onSome (lenD μ d) fun n => q (.int n) μ
theorem qc_len : QC X (.builtin "len") pLen := by
  refine ⟨_, call_len.or call_lenD, fun xs ds H μ q Q ab rd h k => ?_⟩
  obtain ⟨d, e, h⟩ := on1_of h
  subst e
  obtain ⟨v, rfl, r⟩ := rds1 rd
  obtain ⟨n, e, h⟩ := onSome_of h
  have fin := k (.int n) H (.int n) μ .refl ab .int h
  cases d with
  | tup ds =>
    cases e
    obtain ⟨a, vs, rfl, h1, h2⟩ := r.tup'
    exact .inl ⟨_, _, rfl, .inr ⟨vs, h1, h2.len.symm⟩, fin⟩
  | str z =>
    simp only [lenD] at e
    split at e
    · cases e
      rw [r.str']
      exact .inl ⟨_, _, rfl, ⟨by assumption, rfl⟩, fin⟩
    · cases e
  | ref a =>
    rw [r.ref']
    simp only [lenD] at e
    split at e
    case h_1 es e1 =>
      cases e
      obtain ⟨vs, h1, h2⟩ := ab _ _ e1
      exact .inl ⟨_, _, rfl, .inl ⟨vs, SqL.of h1, h2.len.symm⟩, fin⟩
    case h_2 es e1 =>
      cases e
      obtain ⟨vs, h1, h2⟩ := ab _ _ e1
      exact .inl ⟨_, _, rfl, .inl ⟨vs, .inl h1, h2.len.symm⟩, fin⟩
    case h_3 es e1 =>
      cases e
      obtain ⟨vs, h1, h2⟩ := ab _ _ e1
      rw [kv_len h2] at fin
      exact .inr ⟨a, vs, rfl, h1, fin⟩
    case h_4 => cases e
  | _ => cases e
def intsOf : List D → Option (List Int)
  | [] => some []
  | .int i :: r => (intsOf r).map fun l => i :: l
  | _ :: _ => none
theorem intsOf_map : ∀ {ns : List Int}, intsOf (ns.map D.int) = some ns
  | [] => rfl
  | n :: r => by rw [List.map_cons, intsOf, intsOf_map]; rfl
theorem of_intsOf : ∀ {ds : List D} {ns : List Int}, intsOf ds = some ns → ds = ns.map D.int
  | [], _, h => by cases h; rfl
  | d :: r, ns, h => by
    cases d with
    | int i =>
      unfold intsOf at h
      cases e : intsOf r with
      | none => rw [e] at h; cases h
      | some l =>
        rw [e] at h
        cases h
        rw [of_intsOf e]
        rfl
    | _ => cases h
def blsOf : List D → Option (List Bool)
  | [] => some []
  | .bl i :: r => (blsOf r).map fun l => i :: l
  | _ :: _ => none
theorem blsOf_map : ∀ {ns : List Bool}, blsOf (ns.map D.bl) = some ns
  | [] => rfl
  | n :: r => by rw [List.map_cons, blsOf, blsOf_map]; rfl
theorem of_blsOf : ∀ {ds : List D} {ns : List Bool}, blsOf ds = some ns → ds = ns.map D.bl
  | [], _, h => by cases h; rfl
  | d :: r, ns, h => by
    cases d with
    | bl i =>
      unfold blsOf at h
      cases e : blsOf r with
      | none => rw [e] at h; cases h
      | some l =>
        rw [e] at h
        cases h
        rw [of_blsOf e]
        rfl
    | _ => cases h
def onL (μ : Mu) (d : D) (k : List D → Prop) : Prop := onRef d fun a => onSome (rdl μ a) k
theorem onL_of {K : PySem.W.Frag} {H : Hp} {μ : Mu} {d : D} {v : V} {k : List D → Prop} (ab : Abs K μ H) (r : RD K H d v) (h : onL μ d k) : ∃ a ds vs, v = .ref a ∧ SqL K H a vs ∧ RDs K H ds vs ∧ k ds := by
  obtain ⟨a, e, h⟩ := onRef_of h
  subst e
  obtain ⟨ds, e, h⟩ := onSome_of h
  obtain ⟨vs, h1, h2⟩ := ab.list e
  exact ⟨a, ds, vs, r.ref', h1, h2, h⟩
def pSum : PRN := fun ds μ q => on1 ds fun d => onL μ d fun es => onSome (intsOf es) fun ns => q (.int ns.sum) μ
theorem qc_sum (hc : X.calm = true) : QC X (.builtin "sum") pSum := by
  refine ⟨_, cr_sum hc, fun xs ds H μ q Q ab rd h k => ?_⟩
  obtain ⟨d, e, h⟩ := on1_of h
  subst e
  obtain ⟨v, rfl, r⟩ := rds1 rd
  obtain ⟨a, es, vs, rfl, h1, h2, h⟩ := onL_of ab r h
  obtain ⟨ns, e, h⟩ := onSome_of h
  rw [of_intsOf e] at h2
  exact ⟨a, ns, rfl, by rw [← h2.ints']; exact h1, k _ _ _ _ .refl ab .int h⟩
def pAll (f : List Bool → Bool) : PRN := fun ds μ q => on1 ds fun d => onL μ d fun es => onSome (blsOf es) fun ns => q (.bl (f ns)) μ
theorem qc_all (hc : X.calm = true) : QC X (.builtin "all") (pAll fun bs => bs.all id) := by
  refine ⟨_, cr_all hc, fun xs ds H μ q Q ab rd h k => ?_⟩
  obtain ⟨d, e, h⟩ := on1_of h
  subst e
  obtain ⟨v, rfl, r⟩ := rds1 rd
  obtain ⟨a, es, vs, rfl, h1, h2, h⟩ := onL_of ab r h
  obtain ⟨ns, e, h⟩ := onSome_of h
  rw [of_blsOf e] at h2
  exact ⟨a, ns, rfl, by rw [← h2.bls']; exact h1, k _ _ _ _ .refl ab .bl h⟩
theorem qc_any (hc : X.calm = true) : QC X (.builtin "any") (pAll fun bs => bs.any id) := by
  refine ⟨_, cr_any hc, fun xs ds H μ q Q ab rd h k => ?_⟩
  obtain ⟨d, e, h⟩ := on1_of h
  subst e
  obtain ⟨v, rfl, r⟩ := rds1 rd
  obtain ⟨a, es, vs, rfl, h1, h2, h⟩ := onL_of ab r h
  obtain ⟨ns, e, h⟩ := onSome_of h
  rw [of_blsOf e] at h2
  exact ⟨a, ns, rfl, by rw [← h2.bls']; exact h1, k _ _ _ _ .refl ab .bl h⟩
def pAbs : PRN := fun ds μ q => on1 ds fun d => onInt d fun i => q (.int (if i < 0 then -i else i)) μ
theorem qc_abs : QC X (.builtin "abs") pAbs := by
  refine ⟨_, call_abs, fun xs ds H μ q Q ab rd h k => ?_⟩
  obtain ⟨d, e, h⟩ := on1_of h
  subst e
  obtain ⟨v, rfl, r⟩ := rds1 rd
  obtain ⟨i, e, h⟩ := onInt_of h
  subst e
  rw [r.int']
  exact ⟨i, rfl, k _ _ _ _ .refl ab .int h⟩
def p2I (g : Int → Int → Int) : PRN := fun ds μ q => on2 ds fun d e => onInt d fun i => onInt e fun j => q (.int (g i j)) μ
theorem qc_max (hc : X.calm = true) : QC X (.builtin "max") (p2I fun i j => if j > i then j else i) := by
  refine ⟨_, call_max2 hc, fun xs ds H μ q Q ab rd h k => ?_⟩
  obtain ⟨d, e, e1, h⟩ := on2_of h
  subst e1
  obtain ⟨v, u, rfl, r1, r2⟩ := rds2 rd
  obtain ⟨i, e1, h⟩ := onInt_of h
  obtain ⟨j, e2, h⟩ := onInt_of h
  subst e1 e2
  rw [r1.int', r2.int']
  exact ⟨i, j, rfl, k _ _ _ _ .refl ab .int h⟩
theorem qc_min (hc : X.calm = true) : QC X (.builtin "min") (p2I fun i j => if j < i then j else i) := by
  refine ⟨_, call_min2 hc, fun xs ds H μ q Q ab rd h k => ?_⟩
  obtain ⟨d, e, e1, h⟩ := on2_of h
  subst e1
  obtain ⟨v, u, rfl, r1, r2⟩ := rds2 rd
  obtain ⟨i, e1, h⟩ := onInt_of h
  obtain ⟨j, e2, h⟩ := onInt_of h
  subst e1 e2
  rw [r1.int', r2.int']
  exact ⟨i, j, rfl, k _ _ _ _ .refl ab .int h⟩
def pIntOf : PRN := fun ds μ q => on1 ds fun d => match d with
  | .int i => q (.int i) μ
  | .bl b => q (.int (if b then 1 else 0)) μ
  | _ => False
theorem qc_int : QC X (.type "int") pIntOf := by
  refine ⟨_, call_int1, fun xs ds H μ q Q ab rd h k => ?_⟩
  obtain ⟨d, e, h⟩ := on1_of h
  subst e
  obtain ⟨v, rfl, r⟩ := rds1 rd
  cases d with
  | int i => rw [r.int']; exact .inl ⟨i, rfl, k _ _ _ _ .refl ab .int h⟩
  | bl i => rw [r.bl']; exact .inr ⟨i, rfl, k _ _ _ _ .refl ab .int h⟩
  | _ => exact h.elim
def pStrOf : PRN := fun ds μ q => on1 ds fun d => onInt d fun i => i.natAbs.log2 < 1920 ∧ q (.str (toString i)) μ
theorem qc_str : QC X (.type "str") pStrOf := by
  refine ⟨_, call_str_int, fun xs ds H μ q Q ab rd h k => ?_⟩
  obtain ⟨d, e, h⟩ := on1_of h
  subst e
  obtain ⟨v, rfl, r⟩ := rds1 rd
  obtain ⟨i, e, h⟩ := onInt_of h
  subst e
  rw [r.int']
  exact ⟨i, rfl, h.1, k _ _ _ _ .refl ab .str h.2⟩
def kD : Key → D
  | .inl i => .int i
  | .inr x => .str x
theorem kD1 {K : PySem.W.Frag} {H : Hp} : ∀ {k : Key}, RD K H (kD k) (kV k)
  | .inl _ => .int
  | .inr _ => .str
theorem kD_rd {K : PySem.W.Frag} {H : Hp} {κ : Type} {f : κ → Key} : ∀ {l : List κ}, RDs K H (l.map fun k => kD (f k)) (l.map fun k => kV (f k))
  | [] => .nil
  | k :: l => .cons kD1 kD_rd
/-- what tuple(..) has -/
def itemsD (μ : Mu) : D → Option (List D)
  | .tup es => some es
  | .ref a => match μ a with
    | some (.lst es) => some es
    | some (.rl es) => some es
    | some (.dk kvs) => some (kvs.map fun kv => kD kv.1)
    | _ => none
  | _ => none
def pTupOf : PRN := fun ds μ q => on1 ds fun d => onSome (itemsD μ d) fun es => q (.tup es) μ
theorem qc_tuple (hc : X.calm = true) : QC X (.type "tuple") pTupOf := by
  refine ⟨_, call_tuple_of.or (Lq.tuple_dK hc), fun xs ds H μ q Q ab rd h k => ?_⟩
  obtain ⟨d, e, hh⟩ := on1_of h
  subst e
  clear h
  obtain ⟨v, rfl, r⟩ := rds1 rd
  obtain ⟨es, e, g9⟩ := onSome_of hh
  clear hh
  cases d with
  | tup ds =>
    cases e
    obtain ⟨a, vs, rfl, h1, h2⟩ := r.tup'
    exact .inl ⟨a, vs, rfl, .inr ⟨h1, k _ _ _ _ .refl ab (.tup h1 h2) g9⟩⟩
  | ref a =>
    rw [r.ref']
    simp only [itemsD] at e
    split at e
    case h_1 es e1 =>
      cases e
      obtain ⟨vs, h1, h2⟩ := ab _ _ e1
      exact .inl ⟨a, vs, rfl, .inl ⟨SqL.of h1, fun p hp => k _ _ _ _ (.tuple hp) (ab.new hp) (.tup sq_new (h2.mono (tups_new hp _))) g9⟩⟩
    case h_2 es e1 =>
      cases e
      obtain ⟨vs, h1, h2⟩ := ab _ _ e1
      exact .inl ⟨a, vs, rfl, .inl ⟨.inl h1, fun p hp => k _ _ _ _ (.tuple hp) (ab.new hp) (.tup sq_new (h2.mono (tups_new hp _))) g9⟩⟩
    case h_3 kvs e1 =>
      cases e
      obtain ⟨kws, h1, h2⟩ := ab _ _ e1
      refine .inr ⟨a, kws, rfl, h1, fun p hp => k _ _ _ _ (.tuple hp) (ab.new hp) (.tup sq_new ?_) g9⟩
      have e2 : ∀ {l : List (Key × D)} {r : List (Key × V)}, Kv X.K H l r → r.map (fun kv => kV kv.1) = l.map (fun kv => kV kv.1) := by
        intro l r h
        induction h with
        | nil => rfl
        | cons h _ ih => rw [List.map_cons, List.map_cons, ih, h.1]
      rw [e2 h2]
      exact kD_rd (f := Prod.fst)
    case h_4 => cases e
  | _ => cases e
def pListOf : PRN := fun ds μ q => on1 ds fun d => onSome (seqOf μ d) fun es => ∀ p, μ p = none → q (.ref p) (mset μ p (.lst es))
theorem qc_list : QC X (.type "list") pListOf := by
  refine ⟨_, call_list_of, fun xs ds H μ q Q ab rd h k => ?_⟩
  obtain ⟨d, e, h⟩ := on1_of h
  subst e
  obtain ⟨v, rfl, r⟩ := rds1 rd
  obtain ⟨es, e, h⟩ := onSome_of h
  obtain ⟨a, vs, rfl, h1, h2⟩ := ab.seq r e
  exact ⟨a, vs, rfl, h1, fun p hp => k _ _ _ _ (.put hp) (ab.put (o := .lst es) hp ⟨vs, upd_same, h2.mono (tups_new hp _)⟩) .ref (h p (ab.free hp))⟩
end
end Pl
namespace Pl
open PySem L2
structure PEnds where
  nx : SS → Mu → Prop
  rt : EQ
  bk : SS → Mu → Prop := fun _ _ => False
  ct : SS → Mu → Prop := fun _ _ => False
abbrev PSx := PEnds → SS → Mu → Prop
structure ER (K : PySem.W.Frag) (H : Hp) (μ : Mu) (D : Ends) (d : PEnds) : Prop where
  nx : ∀ σ' H' ss' μ', Fm K H μ H' μ' → RS K H' ss' σ' → Abs K μ' H' → d.nx ss' μ' → D.nx σ' H'
  rt : ∀ v H' e μ', Fm K H μ H' μ' → Abs K μ' H' → RD K H' e v → d.rt e μ' → D.rt v H'
  bk : ∀ σ' H' ss' μ', Fm K H μ H' μ' → RS K H' ss' σ' → Abs K μ' H' → d.bk ss' μ' → D.bk σ' H'
  ct : ∀ σ' H' ss' μ', Fm K H μ H' μ' → RS K H' ss' σ' → Abs K μ' H' → d.ct ss' μ' → D.ct σ' H'
theorem ER.at {K : PySem.W.Frag} {H H1 : Hp} {μ μ1 : Mu} {D : Ends} {d : PEnds} (e : ER K H μ D d) (f : Fm K H μ H1 μ1) : ER K H1 μ1 D d :=
  ⟨fun _ _ _ _ g => e.nx _ _ _ _ (f.trans g), fun _ _ _ _ g => e.rt _ _ _ _ (f.trans g), fun _ _ _ _ g => e.bk _ _ _ _ (f.trans g), fun _ _ _ _ g => e.ct _ _ _ _ (f.trans g)⟩
def LiS (K : PySem.W.Frag) (t : TS) (p : PSx) : Prop := ∀ (σ : St) (H : Hp) (ss : SS) (μ : Mu) (D : Ends) (d : PEnds), RS K H ss σ → Abs K μ H → p d ss μ → ER K H μ D d → t D σ H
abbrev PGx := D → SS → Mu → (SS → Mu → Prop) → Prop
abbrev PGsx := List D → SS → Mu → (SS → Mu → Prop) → Prop
def LiG (K : PySem.W.Frag) (g : TG) (p : PGx) : Prop := ∀ (v : V) (d : D) (σ : St) (H : Hp) (ss : SS) (μ : Mu) (q : SS → Mu → Prop) (Q : St → Hp → Prop), RS K H ss σ → Abs K μ H → RD K H d v → p d ss μ q →
  (∀ σ' H' ss' μ', Fm K H μ H' μ' → RS K H' ss' σ' → Abs K μ' H' → q ss' μ' → Q σ' H') → g v σ H Q
def LiGs (K : PySem.W.Frag) (g : TGs) (p : PGsx) : Prop := ∀ (vs : List V) (ds : List D) (σ : St) (H : Hp) (ss : SS) (μ : Mu) (q : SS → Mu → Prop) (Q : St → Hp → Prop), RS K H ss σ → Abs K μ H → RDs K H ds vs → p ds ss μ q →
  (∀ σ' H' ss' μ', Fm K H μ H' μ' → RS K H' ss' σ' → Abs K μ' H' → q ss' μ' → Q σ' H') → g vs σ H Q
structure QS (X : Cx) (st : Stmt) (p : PSx) : Prop where
  ex : ∃ t, PS X st t ∧ LiS X.K t p
structure QSs (X : Cx) (st : List Stmt) (p : PSx) : Prop where
  ex : ∃ t, PSs X st t ∧ LiS X.K t p
structure QG (X : Cx) (e : Expr) (p : PGx) : Prop where
  ex : ∃ t, PG X e t ∧ LiG X.K t p
structure QGs (X : Cx) (es : List Expr) (p : PGsx) : Prop where
  ex : ∃ t, PGs X es t ∧ LiGs X.K t p
section
variable {X : Cx} {st : Stmt} {rest : List Stmt} {pos : Pos} {p u : PSx} {e : Expr} {pa : PEx} {pt : PTx}
/-! ### statements -/
def pNext : PSx := fun d ss μ => d.nx ss μ
def pSeq (t u : PSx) : PSx := fun d ss μ => t { d with nx := u d } ss μ
theorem qss_nil : QSs X [] pNext := ⟨_, pss_nil, fun σ H ss μ D d rs ab h er => er.nx _ _ _ _ .refl rs ab h⟩
theorem qss_cons (h1 : QS X st p) (h2 : QSs X rest u) : QSs X (st :: rest) (pSeq p u) := by
  obtain ⟨t, g1, l1⟩ := h1
  obtain ⟨w, g2, l2⟩ := h2
  refine ⟨_, pss_cons g1 g2, fun σ H ss μ D d rs ab h er => ?_⟩
  exact l1 σ H ss μ { D with nx := w D } { d with nx := u d } rs ab h
    ⟨fun σ' H' ss' μ' f rs' ab' h' => l2 σ' H' ss' μ' D d rs' ab' h' (er.at f), er.rt, er.bk, er.ct⟩
theorem qss_one (h1 : QS X st p) : QSs X [st] p := by
  obtain ⟨t, g1, l1⟩ := h1
  exact ⟨_, pss_one g1, l1⟩
def pBreak : PSx := fun d ss μ => d.bk ss μ
def pCont : PSx := fun d ss μ => d.ct ss μ
theorem qs_pass : QS X (.Pass pos) pNext := ⟨_, ps_pass, fun σ H ss μ D d rs ab h er => er.nx _ _ _ _ .refl rs ab h⟩
theorem qs_break : QS X (.Break pos) pBreak := ⟨_, ps_break, fun σ H ss μ D d rs ab h er => er.bk _ _ _ _ .refl rs ab h⟩
theorem qs_continue : QS X (.Continue pos) pCont := ⟨_, ps_continue, fun σ H ss μ D d rs ab h er => er.ct _ _ _ _ .refl rs ab h⟩
def pNever : PSx := fun _ _ _ => False
theorem qs_never : QS X st pNever := ⟨_, ps_never, fun _ _ _ _ _ _ _ _ h _ => h.elim⟩
def pDrop (pa : PEx) : PSx := fun d ss μ => pa ss μ fun _ μ1 => d.nx ss μ1
theorem qs_expr (he : QE X e pa) (hs : swapsWith e none pos.line X.env = pure false := by rfl) : QS X (.Expr e pos) (pDrop pa) := by
  obtain ⟨t, g1, l1⟩ := he
  refine ⟨_, ps_expr g1 hs, fun σ H ss μ D d rs ab h er => ?_⟩
  exact l1 σ H ss μ _ _ rs ab h fun v H1 e μ1 f1 ab1 r1 h1 => er.nx _ _ _ _ f1 (rs.mono f1.tup) ab1 h1
def pRet (pa : PEx) : PSx := fun d ss μ => pa ss μ d.rt
theorem qs_ret (he : QE X e pa) : QS X (.Return (some e) pos) (pRet pa) := by
  obtain ⟨t, g1, l1⟩ := he
  refine ⟨_, ps_ret g1, fun σ H ss μ D d rs ab h er => ?_⟩
  exact l1 σ H ss μ _ _ rs ab h fun v H1 e μ1 f1 ab1 r1 h1 => er.rt _ _ _ _ f1 ab1 r1 h1
def pRetN : PSx := fun d _ μ => d.rt .non μ
theorem qs_retN : QS X (.Return none pos) pRetN := ⟨_, ps_retN, fun σ H ss μ D d rs ab h er => er.rt _ _ _ _ .refl ab .non h⟩
def pIfS (c : PTx) (t u : PSx) : PSx := fun d ss μ => c ss μ fun b μ1 => if b = true then t d ss μ1 else u d ss μ1
theorem qs_if {c : Expr} {a b : List Stmt} (hc : QT X c pt) (ha : QSs X a p) (hb : QSs X b u) : QS X (.If c a b pos) (pIfS pt p u) := by
  obtain ⟨t, g1, l1⟩ := hc
  obtain ⟨w, g2, l2⟩ := ha
  obtain ⟨z, g3, l3⟩ := hb
  refine ⟨_, ps_if g1 g2 g3, fun σ H ss μ D d rs ab h er => ?_⟩
  refine l1 σ H ss μ _ _ rs ab h fun c H1 μ1 f1 ab1 h1 => ?_
  cases c with
  | true => exact iteT (l2 σ H1 ss μ1 D d (rs.mono f1.tup) ab1 (by simpa using h1) (er.at f1))
  | false => exact iteF (l3 σ H1 ss μ1 D d (rs.mono f1.tup) ab1 (by simpa using h1) (er.at f1))
def pWhile (c : PTx) (t : PSx) : PSx := fun d ss μ => ∃ W : Nat → SS → Mu → Prop, (∃ m, W m ss μ) ∧ ∀ m ss μ, W m ss μ →
  c ss μ fun b μ1 => if b = true then t { d with nx := fun ss' μ' => ∃ m', m' < m ∧ W m' ss' μ', ct := fun ss' μ' => ∃ m', m' < m ∧ W m' ss' μ', bk := d.nx } ss μ1 else d.nx ss μ1
theorem qs_while {c : Expr} {body : List Stmt} (hp : PassesOwn (model X.prog X.w) X.A X.env X.xe) (hc : QT X c pt) (hb : QSs X body p) : QS X (.While c body [] pos) (pWhile pt p) := by
  obtain ⟨t, g1, l1⟩ := hc
  obtain ⟨w, g2, l2⟩ := hb
  refine ⟨_, ps_while hp g1 g2, fun σ H ss μ D d rs ab h er => ?_⟩
  obtain ⟨W, ⟨m0, w0⟩, turn⟩ := h
  refine ⟨fun m σ1 H1 => ∃ ss1 μ1, Fm X.K H μ H1 μ1 ∧ RS X.K H1 ss1 σ1 ∧ Abs X.K μ1 H1 ∧ W m ss1 μ1, ⟨m0, ss, μ, .refl, rs, ab, w0⟩, ?_⟩
  rintro m σ1 H1 ⟨ss1, μ1, f1, rs1, ab1, w1⟩
  refine l1 σ1 H1 ss1 μ1 _ _ rs1 ab1 (turn m ss1 μ1 w1) fun c H2 μ2 f2 ab2 h2 => ?_
  cases c with
  | false => exact iteF (er.nx _ _ _ _ (f1.trans f2) (rs1.mono f2.tup) ab2 (by simpa using h2))
  | true =>
    refine iteT ⟨fun σ' H' => ∃ m', m' < m ∧ ∃ ss1 μ1, Fm X.K H μ H' μ1 ∧ RS X.K H' ss1 σ' ∧ Abs X.K μ1 H' ∧ W m' ss1 μ1, fun σ' H' h => h, ?_⟩
    have h2 := (if_pos rfl).mp h2
    have er2 := er.at (f1.trans f2)
    refine l2 σ1 H2 ss1 μ2 _ _ (rs1.mono f2.tup) ab2 h2 ⟨?_, er2.rt, er2.nx, ?_⟩
    · rintro σ' H' ss' μ' f3 rs3 ab3 ⟨m', hm, w3⟩
      exact ⟨m', hm, ss', μ', (f1.trans f2).trans f3, rs3, ab3, w3⟩
    · rintro σ' H' ss' μ' f3 rs3 ab3 ⟨m', hm, w3⟩
      exact ⟨m', hm, ss', μ', (f1.trans f2).trans f3, rs3, ab3, w3⟩
/-! ### targets -/
def pgName (i : Nat) : PGx := fun v ss μ q => q (sset ss i v) μ
theorem qg_name {i : Nat} {x : Str} (hN : X.N.Nodup) (hi : X.N[i]? = some x) (hx : Loc X.env.scope x) (hf : X.fn x = true ∨ X.env.scope.names.lookup x = some .local := by first | exact .inl rfl | exact .inr rfl) : QG X (.Name x pos) (pgName i) :=
  ⟨_, pg_name hN hi hx hf, fun v d σ H ss μ q Q rs ab r h k => k _ _ _ _ .refl (rs.set r) ab h⟩
def pgNil : PGsx := fun ds ss μ q => ds = [] ∧ q ss μ
def pgCons (t : PGx) (u : PGsx) : PGsx := fun ds ss μ q => match ds with
  | d :: r => t d ss μ fun ss' μ' => u r ss' μ' q
  | [] => False
theorem qgs_nil : QGs X [] pgNil := ⟨_, pgs_nil, fun vs ds σ H ss μ q Q rs ab r h k => by
  obtain ⟨rfl, h⟩ := h
  exact ⟨r.nil', k _ _ _ _ .refl rs ab h⟩⟩
theorem qgs_cons {es : List Expr} {t : PGx} {w : PGsx} (h1 : QG X e t) (h2 : QGs X es w) (hs : (assignEach (e :: es) X.env).map (·.2) = assign e X.env :: (assignEach es X.env).map (·.2) := by rfl) : QGs X (e :: es) (pgCons t w) := by
  obtain ⟨t1, g1, l1⟩ := h1
  obtain ⟨w1, g2, l2⟩ := h2
  refine ⟨_, pgs_cons g1 g2 hs, fun vs ds σ H ss μ q Q rs ab r h k => ?_⟩
  match ds, h with
  | d :: ds, h =>
    obtain ⟨v, ws, rfl, r1, r2⟩ := r.cons'
    refine ⟨v, ws, rfl, l1 v d σ H ss μ _ _ rs ab r1 h fun σ1 H1 ss1 μ1 f1 rs1 ab1 h1 => ?_⟩
    exact l2 ws ds σ1 H1 ss1 μ1 _ _ rs1 ab1 (r2.mono f1.tup) h1 fun σ2 H2 ss2 μ2 f2 rs2 ab2 h2 => k _ _ _ _ (f1.trans f2) rs2 ab2 h2
def pgTup (n : Nat) (t : PGsx) : PGx := fun d ss μ q => onTup d fun ds => ds.length = n ∧ t ds ss μ q
theorem qg_tup {es : List Expr} {k : Nat} {t : PGsx} {n : Nat} (hc : X.calm = true) (h : QGs X es t) (hn : (assignEach es X.env).length = n := by rfl) (hst : (assignEach es X.env).findIdx? (·.1) = none := by rfl) : QG X (.Tuple es k pos) (pgTup n t) := by
  obtain ⟨t1, g1, l1⟩ := h
  refine ⟨_, pg_tup (n := n) hc g1 hn hst, fun v d σ H ss μ q Q rs ab r h k => ?_⟩
  obtain ⟨ds, e, hl, hh⟩ := onTup_of h
  subst e
  obtain ⟨a, vs, rfl, h1, h2⟩ := r.tup'
  exact ⟨a, vs, rfl, h1, by rw [h2.len]; exact hl, l1 vs ds σ H ss μ q Q rs ab h2 hh k⟩
def pAsg (pa : PEx) (g : PGx) : PSx := fun d ss μ => pa ss μ fun x μ1 => g x ss μ1 d.nx
theorem qs_asg {tg e : Expr} {g : PGx} (he : QE X e pa) (hg : QG X tg g) (hs : swapsWithSole [tg] e pos.line X.env = pure false := by rfl) (hw : swappedStores [tg] e X.env = pure none := by rfl) (h1 : (assignEach [tg] X.env).map (·.2) = [assign tg X.env] := by rfl) : QS X (.Assign [tg] e pos) (pAsg pa g) := by
  obtain ⟨t, g1, l1⟩ := he
  obtain ⟨w, g2, l2⟩ := hg
  refine ⟨_, ps_asg g1 g2 hs hw h1, fun σ H ss μ D d rs ab h er => ?_⟩
  refine l1 σ H ss μ _ _ rs ab h fun v H1 x μ1 f1 ab1 r1 h1 => ?_
  exact l2 v x σ H1 ss μ1 _ _ (rs.mono f1.tup) ab1 r1 h1 fun σ2 H2 ss2 μ2 f2 rs2 ab2 h2 => er.nx _ _ _ _ (f1.trans f2) rs2 ab2 h2
theorem qs_set {i : Nat} {x : Str} {e : Expr} {pos' : Pos} (hN : X.N.Nodup) (hi : X.N[i]? = some x) (hx : Loc X.env.scope x) (he : QE X e pa) (hs : swapsWith e (some (.Name x pos')) pos.line X.env = pure false := by rfl) (hf : X.fn x = true ∨ X.env.scope.names.lookup x = some .local := by first | exact .inl rfl | exact .inr rfl) :
    QS X (.Assign [.Name x pos'] e pos) (pAsg pa (pgName i)) := by
  obtain ⟨t, g1, l1⟩ := he
  refine ⟨_, ps_set hN hi hx g1 hs hf, fun σ H ss μ D d rs ab h er => ?_⟩
  refine l1 σ H ss μ _ _ rs ab h fun v H1 x μ1 f1 ab1 r1 h1 => ?_
  exact er.nx _ _ _ _ f1 ((rs.mono f1.tup).set r1) ab1 h1
end
end Pl
namespace Pl
open PySem L2
section
variable {X : Cx} {pos : Pos} {e : Expr} {pa pb : PEx} {pr : PAx} {p : PSx}
def pPar (i j : Nat) (pr : PAx) : PSx := fun d ss μ => pr ss μ fun ds μ1 => on2 ds fun a b => d.nx (sset (sset ss i a) j b) μ1
theorem qs_par {i j : Nat} {x y : Str} {a b : Expr} {px py pt : Pos} {kt k2 pt2} (hc : X.calm = true) (hN : X.N.Nodup) (hi : X.N[i]? = some x) (hj : X.N[j]? = some y) (hij : i ≠ j)
    (hx : X.env.scope.names.lookup x = some .local) (hy : X.env.scope.names.lookup y = some .local) (ha : QA X [a, b] pr)
    (hw : swappedStores [.Tuple [.Name x px, .Name y py] kt pt] (.Tuple [a, b] k2 pt2) X.env = pure (some [x, y]))
    (hs : swapsWithSole [.Tuple [.Name x px, .Name y py] kt pt] (.Tuple [a, b] k2 pt2) pos.line X.env = pure false := by rfl) :
    QS X (.Assign [.Tuple [.Name x px, .Name y py] kt pt] (.Tuple [a, b] k2 pt2) pos) (pPar i j pr) := by
  obtain ⟨t, g1, l1⟩ := ha
  refine ⟨_, ps_par hc hN hi hj hij hx hy g1 hw hs, fun σ H ss μ D d rs ab h er => ?_⟩
  refine l1 σ H ss μ _ _ rs ab h fun vs H1 ds μ1 f1 ab1 r1 h1 => ?_
  obtain ⟨d1, d2, e1, h1⟩ := on2_of h1
  subst e1
  obtain ⟨v, u, rfl, r2, r3⟩ := rds2 r1
  exact ⟨v, u, rfl, er.nx _ _ _ _ f1 (((rs.mono f1.tup).set r2).set r3) ab1 h1⟩
def pAug (i : Nat) (pa : PEx) (r : PR2) : PSx := fun d ss μ => onSome (sget ss i) fun x => pa ss μ fun y μ1 => r x y μ1 fun z μ2 => d.nx (sset ss i z) μ2
theorem qs_aug {i : Nat} {x : Str} {op : Operator} {r : PR2} {pos' : Pos} (hN : X.N.Nodup) (hi : X.N[i]? = some x) (hx : Loc X.env.scope x) (he : QE X e pa) (ho : QOp X (inplaceOp op) r) (hf : X.fn x = true ∨ X.env.scope.names.lookup x = some .local := by first | exact .inl rfl | exact .inr rfl) :
    QS X (.AugAssign (.Name x pos') op e pos) (pAug i pa r) := by
  obtain ⟨t, g1, l1⟩ := he
  obtain ⟨rr, g2, l2⟩ := ho
  refine ⟨_, ps_aug hN hi hx g1 (ti := rr) g2 hf, fun σ H ss μ D d rs ab h er => ?_⟩
  obtain ⟨x1, e1, h⟩ := onSome_of h
  obtain ⟨v, e2, r1⟩ := rs.get e1
  refine ⟨v, e2, l1 σ H ss μ _ _ rs ab h fun w H1 y μ1 f1 ab1 r2 h1 => ?_⟩
  exact l2 v w x1 y H1 μ1 _ _ ab1 (r1.mono f1.tup) r2 h1 fun z H2 d2 μ2 f2 ab2 r3 h2 => er.nx _ _ _ _ (f1.trans f2) ((rs.mono (f1.trans f2).tup).set r3) ab2 h2
def pAddI : PR2 := fun d e μ q => match d, e with
  | .int i, .int j => q (.int (i + j)) μ
  | .str x, .str y => x.length + y.length ≤ sizeLine ∧ q (.str (x ++ y)) μ
  | _, _ => False
theorem qip_add : QOp X (inplaceOp .Add) pAddI := by
  refine ⟨_, iop_add.or iop_add_str, fun x y d e H μ q Q ab r1 r2 h k => ?_⟩
  unfold pAddI at h
  split at h
  · exact .inl ⟨_, _, r1.int', r2.int', k _ _ _ _ .refl ab .int h⟩
  · exact .inr ⟨_, _, r1.str', r2.str', h.1, k _ _ _ _ .refl ab .str h.2⟩
  · exact h.elim
theorem qip_sub : QOp X (inplaceOp .Sub) (pI fun i j => .int (i - j)) := ⟨_, iop_sub, li_I⟩
/-! ### stores into lists and dicts -/
def putD {κ : Type} [DecidableEq κ] (kvs : List (κ × D)) (k : κ) (v : D) : List (κ × D) :=
  if kvs.any (fun kv => decide (kv.1 = k)) then kvs.map (fun kv => if kv.1 = k then (kv.1, v) else kv) else kvs ++ [(k, v)]
theorem kv_any {K : PySem.W.Frag} {H : Hp} {κ : Type} [DecidableEq κ] {k : κ} : ∀ {kvs : List (κ × D)} {kws : List (κ × V)}, Kv K H kvs kws → (kvs.any fun kv => decide (kv.1 = k)) = kws.any fun kv => decide (kv.1 = k)
  | _, _, .nil => rfl
  | _, _, .cons ⟨h1, _⟩ t => by rw [List.any_cons, List.any_cons, h1, kv_any t]
theorem kv_repl {K : PySem.W.Frag} {H : Hp} {κ : Type} [DecidableEq κ] {k : κ} {d : D} {v : V} (r : RD K H d v) : ∀ {kvs : List (κ × D)} {kws : List (κ × V)}, Kv K H kvs kws → Kv K H (kvs.map fun kv => if kv.1 = k then (kv.1, d) else kv) (kws.map fun kv => if kv.1 = k then (kv.1, v) else kv)
  | _, _, .nil => .nil
  | p :: _, q :: _, .cons ⟨h1, h2⟩ t => by
    rw [List.map_cons, List.map_cons]
    refine .cons ?_ (kv_repl r t)
    by_cases e : p.1 = k
    · rw [if_pos e, if_pos (h1 ▸ e)]; exact ⟨h1, r⟩
    · rw [if_neg e, if_neg (h1 ▸ e)]; exact ⟨h1, h2⟩
theorem paired_app {α β : Type} {F : α → β → Prop} : ∀ {a : List α} {b : List β} {c : List α} {d : List β}, Paired F a b → Paired F c d → Paired F (a ++ c) (b ++ d)
  | _, _, _, _, .nil, h => h
  | _, _, _, _, .cons r t, h => .cons r (paired_app t h)
theorem Kv.put {K : PySem.W.Frag} {H : Hp} {κ : Type} [DecidableEq κ] {k : κ} {d : D} {v : V} {kvs : List (κ × D)} {kws : List (κ × V)} (h : Kv K H kvs kws) (r : RD K H d v) : Kv K H (putD kvs k d) (putK kws k v) := by
  unfold putD putK
  rw [kv_any h]
  split
  · exact kv_repl r h
  · exact paired_app h (.cons ⟨rfl, r⟩ .nil)
def setD (o i v : D) (μ : Mu) (q : Mu → Prop) : Prop := match o with
  | .ref a => match μ a with
    | some (.lst ds) => onInt i fun k => onSome (ixN ds.length k) fun j => q (mset μ a (.lst (ds.set j v)))
    | some (.dk kvs) => onSome (keyOf i) fun k => kvs.length < sizeLine ∧ q (mset μ a (.dk (putD kvs k v)))
    | _ => False
  | _ => False
def pgSub (pa pb : PEx) : PGx := fun v ss μ q => pa ss μ fun o μ1 => pb ss μ1 fun i μ2 => setD o i v μ2 fun μ3 => q ss μ3
theorem pset_or {t t' : TSet} (h : PSet X t) (h' : PSet X t') : PSet X (fun o i v H Q => t o i v H Q ∨ t' o i v H Q) := by
  intro pins s σ H o i v ov iv u Q I r1 r2 r3 q
  rcases q with q | q
  · exact h pins s σ H o i v ov iv u Q I r1 r2 r3 q
  · exact h' pins s σ H o i v ov iv u Q I r1 r2 r3 q
theorem qg_sub {o i : Expr} (hu : X.A.units + 1 < cLine) (ho : QE X o pa) (hi : QE X i pb)
    (ha : ∀ v : Value, assign (.Subscript o i pos) X.env v = (do
    let ov ← holding [v] (eval o X.env)
    let iv ← holding [v, ov] (eval i X.env)
    standAt pos
    holding [v, ov, iv] (setItem ov iv v)
    release [v, ov, iv] []) := by intro _; rfl) : QG X (.Subscript o i pos) (pgSub pa pb) := by
  obtain ⟨t, g1, l1⟩ := ho
  obtain ⟨w, g2, l2⟩ := hi
  refine ⟨_, pg_sub g1 g2 (pset_or set_list (set_dict hu)) ha, fun v d σ H ss μ q Q rs ab r h k => ?_⟩
  refine l1 σ H ss μ _ _ rs ab h fun x H1 o1 μ1 f1 ab1 r1 h1 => ?_
  refine l2 σ H1 ss μ1 _ _ (rs.mono f1.tup) ab1 h1 fun y H2 i1 μ2 f2 ab2 r2 h2 => ?_
  have r1 := r1.mono f2.tup
  have r := r.mono (f1.trans f2).tup
  have rs := rs.mono (f1.trans f2).tup
  unfold setD at h2
  split at h2
  · split at h2
    · rename_i ds e1
      obtain ⟨kk, e2, h3⟩ := onInt_of (show onInt i1 _ from h2)
      subst e2
      obtain ⟨j, e3, h3⟩ := onSome_of h3
      obtain ⟨vs, g3, g4⟩ := ab2 _ _ e1
      refine .inl ⟨_, vs, kk, j, r1.ref', r2.int', g3, by rw [g4.len]; exact e3, ?_⟩
      have tt := tups_set (K := X.K) g3 True.intro (.lst (vs.set j v))
      exact k _ _ _ _ ((f1.trans f2).trans (.set g3 True.intro e1)) (rs.mono tt) (ab2.set (o := .lst _) g3 True.intro ⟨_, upd_same, (g4.set r).mono tt⟩) h3
    · rename_i kvs e1
      obtain ⟨kk, e2, hl, h3⟩ := onSome_of h2
      obtain ⟨kws, g3, g4⟩ := ab2 _ _ e1
      refine .inr ⟨_, _, r1.ref', .inl ⟨kws, kk, g3, keyOf_of r2 e2, by rw [← kv_len g4]; exact hl, rfl⟩, ?_⟩
      have tt := tups_set (K := X.K) g3 True.intro (.dK (putK kws kk v))
      exact k _ _ _ _ ((f1.trans f2).trans (.set g3 True.intro e1)) (rs.mono tt) (ab2.set (o := .dk _) g3 True.intro ⟨_, upd_same, (g4.put r).mono tt⟩) h3
    · exact h2.elim
  · exact h2.elim
/-! ### walks -/
abbrev PIx := SS → Mu → (List D → (Mu → Prop) → Mu → Prop) → Prop
/-- the iterator walks over these data as long as ok holds -/
def JR (K : PySem.W.Frag) (H1 : Hp) (J : It) (xs : List D) (ok : Mu → Prop) : Prop := ∀ (H : Hp) (μ : Mu), Tups K H1 H → Abs K μ H → ok μ →
  (∀ i, i < xs.length → J.go i H) ∧ (∀ i, xs.length ≤ i → J.stop i H) ∧
  ∀ i x H', i < xs.length → J.yld i H x H' → ∃ d, xs[i]? = some d ∧ Fm K H μ H' μ ∧ Abs K μ H' ∧ RD K H' d x
def LiI (K : PySem.W.Frag) (wi : TI) (p : PIx) : Prop := ∀ (σ : St) (H : Hp) (ss : SS) (μ : Mu) (q : List D → (Mu → Prop) → Mu → Prop) (R : It → Hp → Prop), RS K H ss σ → Abs K μ H → p ss μ q →
  (∀ J H1 xs ok μ1, Fm K H μ H1 μ1 → Abs K μ1 H1 → JR K H1 J xs ok → q xs ok μ1 → R J H1) → wi σ H R
structure QI (X : Cx) (tg iter : Expr) (p : PIx) : Prop where
  ex : ∃ wi, PI X tg iter wi ∧ LiI X.K wi p
def okL (a : Addr) (ds : List D) : Mu → Prop := fun μ => rdl μ a = some ds
def okT : Mu → Prop := fun _ => True
theorem jr_tup {K : PySem.W.Frag} {H1 : Hp} {a : Addr} {ds : List D} {vs : List V} (h : SqT K H1 a vs) (hs : RDs K H1 ds vs) : JR K H1 (Itt K a) ds okT := fun H μ t ab _ => by
  have h := t _ _ h
  have hs := hs.mono t
  refine ⟨fun i hi => ?_, fun i hi => ⟨vs, h, by rw [hs.len]; exact hi⟩, ?_⟩
  · have hi : i < vs.length := by rw [hs.len]; exact hi
    exact ⟨vs, vs[i], h, List.getElem?_eq_getElem hi⟩
  · rintro i x H' hi ⟨rfl, hx⟩
    obtain ⟨d, e, r⟩ := hs.get' (hx vs h)
    exact ⟨d, e, .refl, ab, r⟩
theorem jr_list {K : PySem.W.Frag} {H1 : Hp} {a : Addr} {ds : List D} : JR K H1 (Itl K a) ds (okL a ds) := fun H μ t ab ok => by
  obtain ⟨vs, h, hs⟩ := ab.list ok
  refine ⟨fun i hi => ?_, fun i hi => ⟨vs, h, by rw [hs.len]; exact hi⟩, ?_⟩
  · have hi : i < vs.length := by rw [hs.len]; exact hi
    exact ⟨vs, vs[i], h, List.getElem?_eq_getElem hi⟩
  · rintro i x H' hi ⟨rfl, hx⟩
    obtain ⟨d, e, r⟩ := hs.get' (hx vs h)
    exact ⟨d, e, .refl, ab, r⟩
/-- over a tuple or a list -/
def piSeq (pa : PEx) : PIx := fun ss μ q => pa ss μ fun d μ1 => match d with
  | .tup ds => q ds okT μ1
  | .ref a => onSome (rdl μ1 a) fun ds => q ds (okL a ds) μ1
  | _ => False
theorem qi_seq {tg : Expr} (h : QE X e pa) : QI X tg e (piSeq pa) := by
  obtain ⟨t, g1, l1⟩ := h
  refine ⟨_, Lq.pi_either g1, fun σ H ss μ q R rs ab h k => ?_⟩
  refine l1 σ H ss μ _ _ rs ab h fun v H1 d μ1 f1 ab1 r1 h1 => ?_
  split at h1
  · obtain ⟨a, vs, rfl, g2, g3⟩ := r1.tup'
    refine ⟨a, rfl, .inr ⟨⟨vs, g2⟩, k _ _ _ _ _ f1 ab1 (jr_tup g2 g3) h1⟩⟩
  · obtain ⟨ds, e, h1⟩ := onSome_of h1
    obtain ⟨vs, g2, g3⟩ := ab1.list e
    exact ⟨_, r1.ref', .inl ⟨⟨vs, g2⟩, k _ _ _ _ _ f1 ab1 jr_list h1⟩⟩
  · exact h1.elim
end
end Pl
namespace Pl
open PySem L2
section
variable {X : Cx} {pos : Pos} {e tg : Expr} {pa pb : PEx} {pr : PAx} {p : PSx}
theorem pi_or {iter : Expr} {wi wi' : TI} (h : PI X tg iter wi) (h' : PI X tg iter wi') : PI X tg iter (fun σ H R => wi σ H R ∨ wi' σ H R) :=
  ⟨fun pins s σ H R I q => q.elim (h.run pins s σ H R I) (h'.run pins s σ H R I)⟩
def rngD (lo : Int) (n : Nat) : List D := (List.range n).map fun i => D.int (lo + (i : Nat))
theorem rngD_len {lo : Int} {n : Nat} : (rngD lo n).length = n := by unfold rngD; rw [List.length_map, List.length_range]
theorem rngD_get {lo : Int} {n i : Nat} (h : i < n) : (rngD lo n)[i]? = some (.int (lo + (i : Nat))) := by
  unfold rngD
  rw [List.getElem?_map, List.getElem?_range h]
  rfl
theorem jr_range {K : PySem.W.Frag} {H1 : Hp} {lo : Int} {n : Nat} : JR K H1 (Itr lo n) (rngD lo n) okT := fun H μ t ab _ => by
  rw [rngD_len]
  refine ⟨fun i hi => hi, fun i hi => hi, ?_⟩
  rintro i x H' hi ⟨rfl, rfl⟩
  exact ⟨_, rngD_get hi, .refl, ab, .int⟩
def piRng1 (pr : PAx) : PIx := fun ss μ q => pr ss μ fun ds μ1 => on1 ds fun d => onInt d fun j => -(2 ^ 62) ≤ j ∧ j < 2 ^ 62 ∧ q (rngD 0 j.toNat) okT μ1
def piRng2 (pr : PAx) : PIx := fun ss μ q => pr ss μ fun ds μ1 => on2 ds fun d e => onInt d fun i => onInt e fun j => (-(2 ^ 62) ≤ i ∧ i < 2 ^ 62 ∧ -(2 ^ 62) ≤ j ∧ j < 2 ^ 62) ∧ q (rngD i (j - i).toNat) okT μ1
theorem qi_range1 {a : Expr} {p : Pos} (hg : Gl X "range") (hm : X.mg "range" = none) (ha : QA X [a] pr) (hs : starEach [a] X.env = [(false, eval a X.env)] := by rfl) : QI X tg (.Call (.Name "range" p) [a] [] pos) (piRng1 pr) := by
  obtain ⟨t, g1, l1⟩ := ha
  refine ⟨_, pi_range1 hg hm g1 hs, fun σ H ss μ q R rs ab h k => ?_⟩
  refine l1 σ H ss μ _ _ rs ab h fun vs H1 ds μ1 f1 ab1 r1 h1 => ?_
  obtain ⟨d, e, h1⟩ := on1_of h1
  subst e
  obtain ⟨v, rfl, r⟩ := rds1 r1
  obtain ⟨j, e, b1, b2, h2⟩ := onInt_of h1
  subst e
  exact ⟨j, by rw [r.int'], b1, b2, k _ _ _ _ _ f1 ab1 jr_range h2⟩
theorem qi_range2 {a b : Expr} {p : Pos} (hg : Gl X "range") (hm : X.mg "range" = none) (ha : QA X [a, b] pr) (hs : starEach [a, b] X.env = [(false, eval a X.env), (false, eval b X.env)] := by rfl) (hs2 : starEach [b] X.env = [(false, eval b X.env)] := by rfl) : QI X tg (.Call (.Name "range" p) [a, b] [] pos) (piRng2 pr) := by
  obtain ⟨t, g1, l1⟩ := ha
  refine ⟨_, pi_range2 hg hm g1 hs hs2, fun σ H ss μ q R rs ab h k => ?_⟩
  refine l1 σ H ss μ _ _ rs ab h fun vs H1 ds μ1 f1 ab1 r1 h1 => ?_
  obtain ⟨d, e, e1, h1⟩ := on2_of h1
  subst e1
  obtain ⟨v, u, rfl, r2, r3⟩ := rds2 r1
  obtain ⟨i, e1, h2⟩ := onInt_of h1
  obtain ⟨j, e2, b, h3⟩ := onInt_of h2
  subst e1 e2
  exact ⟨i, j, by rw [r2.int', r3.int'], b, k _ _ _ _ _ f1 ab1 jr_range h3⟩
/-! ### enumerate, zip -/
def enumD (ds : List D) : List D := (List.range ds.length).zipWith (fun i d => D.tup [.int (i : Nat), d]) ds
theorem enumD_len {ds : List D} : (enumD ds).length = ds.length := by unfold enumD; rw [List.length_zipWith, List.length_range, Nat.min_self]
theorem enumD_get {ds : List D} {i : Nat} {d : D} (h : ds[i]? = some d) : (enumD ds)[i]? = some (.tup [.int (i : Nat), d]) := by
  have hi : i < ds.length := (List.getElem?_eq_some_iff.mp h).1
  unfold enumD
  rw [List.getElem?_zipWith, List.getElem?_range hi, h]
theorem pair_rd {K : PySem.W.Frag} {H : Hp} {p : Addr} {a b : D} {x y : V} (h1 : RD K (upd H p (.tup [x, y])) a x) (h2 : RD K (upd H p (.tup [x, y])) b y) : RD K (upd H p (.tup [x, y])) (.tup [a, b]) (.ref p) := .tup sq_new (.cons h1 (.cons h2 .nil))
theorem jr_enumL {K : PySem.W.Frag} {H1 : Hp} {a : Addr} {ds : List D} : JR K H1 (Ite K a) (enumD ds) (okL a ds) := fun H μ t ab ok => by
  obtain ⟨vs, h, hs⟩ := ab.list ok
  rw [enumD_len]
  refine ⟨fun i hi => ?_, fun i hi => ⟨vs, h, by rw [hs.len]; exact hi⟩, ?_⟩
  · have hi : i < vs.length := by rw [hs.len]; exact hi
    exact ⟨vs, vs[i], h, List.getElem?_eq_getElem hi⟩
  · rintro i x H' hi ⟨T, y, rfl, hT, rfl, hx⟩
    obtain ⟨d, e, r⟩ := hs.get' (hx vs h)
    exact ⟨_, enumD_get e, .tuple hT, ab.new hT, pair_rd .int (r.mono (tups_new hT _))⟩
theorem jr_enumT {K : PySem.W.Frag} {H1 : Hp} {a : Addr} {ds : List D} {vs : List V} (h : SqT K H1 a vs) (hs : RDs K H1 ds vs) : JR K H1 (Lq.IteT K a vs) (enumD ds) okT := fun H μ t ab _ => by
  have h := t _ _ h
  have hs := hs.mono t
  rw [enumD_len]
  refine ⟨fun i hi => ⟨h, by rw [hs.len]; exact hi⟩, fun i hi => ⟨h, by rw [hs.len]; exact hi⟩, ?_⟩
  rintro i x H' hi ⟨T, y, hx, rfl, hT, rfl⟩
  obtain ⟨d, e, r⟩ := hs.get' hx
  exact ⟨_, enumD_get e, .tuple hT, ab.new hT, pair_rd .int (r.mono (tups_new hT _))⟩
def piEnumL (pr : PAx) : PIx := fun ss μ q => pr ss μ fun ds μ1 => on1 ds fun d => onRef d fun a => onSome (rdl μ1 a) fun ds => q (enumD ds) (okL a ds) μ1
def piEnumT (pr : PAx) : PIx := fun ss μ q => pr ss μ fun ds μ1 => on1 ds fun d => onTup d fun ds => q (enumD ds) okT μ1
theorem qi_enumL {p tpos : Pos} {elts : List Expr} {kk : Nat} (hg : Gl X "enumerate") (hm : X.mg "enumerate" = none) (ha : QA X [e] pr) (hs : starEach [e] X.env = [(false, eval e X.env)] := by rfl) :
    QI X (.Tuple elts kk tpos) (.Call (.Name "enumerate" p) [e] [] pos) (piEnumL pr) := by
  obtain ⟨t, g1, l1⟩ := ha
  refine ⟨_, pi_enum hg hm g1 hs, fun σ H ss μ q R rs ab h k => ?_⟩
  refine l1 σ H ss μ _ _ rs ab h fun vs H1 ds μ1 f1 ab1 r1 h1 => ?_
  obtain ⟨d, e, h2⟩ := on1_of h1
  subst e
  obtain ⟨v, rfl, r⟩ := rds1 r1
  obtain ⟨a, e, h3⟩ := onRef_of h2
  subst e
  obtain ⟨ds, e, h3⟩ := onSome_of h3
  obtain ⟨vs, g2, g3⟩ := ab1.list e
  exact ⟨a, vs, by rw [r.ref'], g2, k _ _ _ _ _ f1 ab1 jr_enumL h3⟩
theorem qi_enumT {p tpos : Pos} {elts : List Expr} {kk : Nat} (hg : Gl X "enumerate") (hm : X.mg "enumerate" = none) (ha : QA X [e] pr) (hs : starEach [e] X.env = [(false, eval e X.env)] := by rfl) :
    QI X (.Tuple elts kk tpos) (.Call (.Name "enumerate" p) [e] [] pos) (piEnumT pr) := by
  obtain ⟨t, g1, l1⟩ := ha
  refine ⟨_, Lq.pi_enumT hg hm g1 hs, fun σ H ss μ q R rs ab h k => ?_⟩
  refine l1 σ H ss μ _ _ rs ab h fun vs H1 ds μ1 f1 ab1 r1 h1 => ?_
  obtain ⟨d, e, h2⟩ := on1_of h1
  subst e
  obtain ⟨v, rfl, r⟩ := rds1 r1
  obtain ⟨ds, e, h3⟩ := onTup_of h2
  subst e
  obtain ⟨a, vs, rfl, g2, g3⟩ := r.tup'
  exact ⟨a, vs, rfl, g2, k _ _ _ _ _ f1 ab1 (jr_enumT g2 g3) h3⟩
def zipD (ds es : List D) : List D := ds.zipWith (fun a b => D.tup [a, b]) es
theorem zipD_get {ds es : List D} {i : Nat} {a b : D} (h1 : ds[i]? = some a) (h2 : es[i]? = some b) : (zipD ds es)[i]? = some (.tup [a, b]) := by
  unfold zipD
  rw [List.getElem?_zipWith, h1, h2]
theorem zipD_len {ds es : List D} : (zipD ds es).length = min ds.length es.length := List.length_zipWith
theorem jr_zipT {K : PySem.W.Frag} {H1 : Hp} {a b : Addr} {ds es : List D} {vs us : List V} (h : SqT K H1 a vs) (hs : RDs K H1 ds vs) (h' : SqT K H1 b us) (hs' : RDs K H1 es us) : JR K H1 (RZ.ItzT K a b) (zipD ds es) okT := fun H μ t ab _ => by
  have h := t _ _ h
  have hs := hs.mono t
  have h' := t _ _ h'
  have hs' := hs'.mono t
  rw [zipD_len]
  have l1 := hs.len
  have l2 := hs'.len
  refine ⟨fun i hi => ?_, fun i hi => ⟨vs, us, h, h', by omega⟩, ?_⟩
  · have i1 : i < vs.length := by omega
    have i2 : i < us.length := by omega
    exact ⟨vs, us, vs[i], us[i], h, h', List.getElem?_eq_getElem i1, List.getElem?_eq_getElem i2⟩
  · rintro i x H' hi ⟨T, y, z, rfl, hT, rfl, hx, hy⟩
    obtain ⟨d, e, r⟩ := hs.get' (hx vs h)
    obtain ⟨d', e', r'⟩ := hs'.get' (hy us h')
    exact ⟨_, zipD_get e e', .tuple hT, ab.new hT, pair_rd (r.mono (tups_new hT _)) (r'.mono (tups_new hT _))⟩
theorem jr_zipL {K : PySem.W.Frag} {H1 : Hp} {a b : Addr} {ds es : List D} : JR K H1 (Itz K a b) (zipD ds es) (fun μ => rdl μ a = some ds ∧ rdl μ b = some es) := fun H μ t ab ok => by
  obtain ⟨vs, h, hs⟩ := ab.list ok.1
  obtain ⟨us, h', hs'⟩ := ab.list ok.2
  rw [zipD_len]
  have l1 := hs.len
  have l2 := hs'.len
  refine ⟨fun i hi => ?_, fun i hi => ⟨vs, us, h, h', by omega⟩, ?_⟩
  · have i1 : i < vs.length := by omega
    have i2 : i < us.length := by omega
    exact ⟨vs, us, vs[i], us[i], h, h', List.getElem?_eq_getElem i1, List.getElem?_eq_getElem i2⟩
  · rintro i x H' hi ⟨T, y, z, rfl, hT, rfl, hx, hy⟩
    obtain ⟨d, e, r⟩ := hs.get' (hx vs h)
    obtain ⟨d', e', r'⟩ := hs'.get' (hy us h')
    exact ⟨_, zipD_get e e', .tuple hT, ab.new hT, pair_rd (r.mono (tups_new hT _)) (r'.mono (tups_new hT _))⟩
def piZip (pr : PAx) : PIx := fun ss μ q => pr ss μ fun ds μ1 => on2 ds fun d e => match d, e with
  | .tup ds, .tup es => q (zipD ds es) okT μ1
  | .ref a, .ref b => onSome (rdl μ1 a) fun ds => onSome (rdl μ1 b) fun es => q (zipD ds es) (fun μ => rdl μ a = some ds ∧ rdl μ b = some es) μ1
  | _, _ => False
theorem qi_zip {e e2 : Expr} {p tpos : Pos} {elts : List Expr} {kk : Nat} (hg : Gl X "zip") (hm : X.mg "zip" = none) (ha : QA X [e, e2] pr)
    (hs : starEach [e, e2] X.env = (false, eval e X.env) :: starEach [e2] X.env := by rfl) (hpl : (backTo pos (starEach [e2] X.env)).any (·.1) = false := by rfl) :
    QI X (.Tuple elts kk tpos) (.Call (.Name "zip" p) [e, e2] [] pos) (piZip pr) := by
  obtain ⟨t, g1, l1⟩ := ha
  refine ⟨_, RZ.pi_zipA hg hm g1 hs hpl, fun σ H ss μ q R rs ab h k => ?_⟩
  refine l1 σ H ss μ _ _ rs ab h fun vs H1 ds μ1 f1 ab1 r1 h1 => ?_
  obtain ⟨d, e, e1, h2⟩ := on2_of h1
  subst e1
  clear h1
  obtain ⟨v, u, rfl, r2, r3⟩ := rds2 r1
  split at h2
  · obtain ⟨a, vs, rfl, g2, g3⟩ := r2.tup'
    obtain ⟨b, us, rfl, g4, g5⟩ := r3.tup'
    exact ⟨a, b, vs, us, rfl, .inr ⟨g2, g4, k _ _ _ _ _ f1 ab1 (jr_zipT g2 g3 g4 g5) h2⟩⟩
  · obtain ⟨ds, e1, h2⟩ := onSome_of h2
    obtain ⟨es, e2, h2⟩ := onSome_of h2
    obtain ⟨vs, g2, g3⟩ := ab1.list e1
    obtain ⟨us, g4, g5⟩ := ab1.list e2
    exact ⟨_, _, vs, us, by rw [r2.ref', r3.ref'], .inl ⟨g2, g4, k _ _ _ _ _ f1 ab1 jr_zipL h2⟩⟩
  · exact h2.elim
/-! ### for -/
def pFor (pi : PIx) (pg : PGx) (pb : PSx) : PSx := fun d ss μ => pi ss μ fun xs ok μ1 => ∃ W : Nat → SS → Mu → Prop, W 0 ss μ1 ∧ (∀ i ss μ, i ≤ xs.length → W i ss μ → ok μ) ∧
  (∀ i x ss μ, xs[i]? = some x → W i ss μ → pg x ss μ fun ss' μ' => pb { d with nx := W (i + 1), ct := W (i + 1), bk := d.nx } ss' μ') ∧ ∀ ss μ, W xs.length ss μ → d.nx ss μ
theorem qs_for {iter : Expr} {body : List Stmt} {pi : PIx} {pg : PGx} {pb : PSx} (hp : PassesOwn (model X.prog X.w) X.A X.env X.xe) (hc : X.calm = true) (hi : QI X tg iter pi) (hg : QG X tg pg) (hb : QSs X body pb)
    (hs : ∀ x, foldedSetIterable iter X.env x = pure x := by intro _; rfl) : QS X (.For tg iter body [] pos) (pFor pi pg pb) := by
  obtain ⟨wi, g1, l1⟩ := hi
  obtain ⟨g, g2, l2⟩ := hg
  obtain ⟨t, g3, l3⟩ := hb
  refine ⟨_, ps_for hp hc g1 g2 g3 hs, fun σ H ss μ D d rs ab h er => ?_⟩
  refine l1 σ H ss μ _ _ rs ab h fun J H1 xs ok μ1 f1 ab1 jr h1 => ?_
  obtain ⟨W, w0, hok, turn, done⟩ := h1
  refine ⟨fun i m σ2 H2 => m = xs.length - i ∧ i ≤ xs.length ∧ ∃ ss2 μ2, Fm X.K H1 μ1 H2 μ2 ∧ RS X.K H2 ss2 σ2 ∧ Abs X.K μ2 H2 ∧ W i ss2 μ2, ⟨_, rfl, Nat.zero_le _, ss, μ1, .refl, rs.mono f1.tup, ab1, w0⟩, ?_⟩
  rintro i m σ2 H2 ⟨rfl, hi, ss2, μ2, f2, rs2, ab2, w2⟩
  obtain ⟨j1, j2, j3⟩ := jr H2 μ2 f2.tup ab2 (hok i ss2 μ2 hi w2)
  by_cases hlt : i < xs.length
  · refine .inr ⟨j1 i hlt, fun σ' H' => ∃ ss3 μ3, Fm X.K H1 μ1 H' μ3 ∧ RS X.K H' ss3 σ' ∧ Abs X.K μ3 H' ∧ W (i + 1) ss3 μ3, fun σ' H' h => ⟨_, by omega, rfl, hlt, h⟩, fun x H' y => ?_⟩
    obtain ⟨d1, e1, f3, ab3, r3⟩ := j3 i x H' hlt y
    refine l2 x d1 σ2 H' ss2 μ2 _ _ (rs2.mono f3.tup) ab3 r3 (turn i d1 ss2 μ2 e1 w2) fun σ4 H4 ss4 μ4 f4 rs4 ab4 h4 => ?_
    have f14 := (f2.trans f3).trans f4
    have er4 := er.at (f1.trans f14)
    refine l3 σ4 H4 ss4 μ4 _ _ rs4 ab4 h4 ⟨?_, er4.rt, er4.nx, ?_⟩
    · exact fun σ5 H5 ss5 μ5 f5 rs5 ab5 w5 => ⟨ss5, μ5, f14.trans f5, rs5, ab5, w5⟩
    · exact fun σ5 H5 ss5 μ5 f5 rs5 ab5 w5 => ⟨ss5, μ5, f14.trans f5, rs5, ab5, w5⟩
  · have e : i = xs.length := by omega
    subst e
    exact .inl ⟨j2 _ (Nat.le_refl _), er.nx _ _ _ _ (f1.trans f2) rs2 ab2 (done ss2 μ2 w2)⟩
/-- the turns one by one -/
def forGo (pg : PGx) (pb : PSx) (d : PEnds) (ok : Mu → Prop) : List D → SS → Mu → Prop
  | [], ss, μ => ok μ ∧ d.nx ss μ
  | x :: r, ss, μ => ok μ ∧ pg x ss μ fun ss' μ' => pb { d with nx := forGo pg pb d ok r, ct := forGo pg pb d ok r, bk := d.nx } ss' μ'
theorem drop_cons {α : Type} {xs : List α} {i : Nat} {x : α} (h : xs[i]? = some x) : xs.drop i = x :: xs.drop (i + 1) := by
  obtain ⟨hi, e⟩ := List.getElem?_eq_some_iff.mp h
  rw [← e]
  exact List.drop_eq_getElem_cons hi
theorem for_go {pg : PGx} {pb : PSx} {d : PEnds} {ok : Mu → Prop} {xs : List D} {ss : SS} {μ1 : Mu} (h : forGo pg pb d ok xs ss μ1) :
    ∃ W : Nat → SS → Mu → Prop, W 0 ss μ1 ∧ (∀ i ss μ, i ≤ xs.length → W i ss μ → ok μ) ∧
      (∀ i x ss μ, xs[i]? = some x → W i ss μ → pg x ss μ fun ss' μ' => pb { d with nx := W (i + 1), ct := W (i + 1), bk := d.nx } ss' μ') ∧ ∀ ss μ, W xs.length ss μ → d.nx ss μ := by
  refine ⟨fun i => forGo pg pb d ok (xs.drop i), h, fun i ss μ _ h => ?_, fun i x ss μ e h => ?_, fun ss μ h => ?_⟩
    <;> dsimp only at h ⊢
  · cases e : xs.drop i with
    | nil => rw [e] at h; exact h.1
    | cons _ _ => rw [e] at h; exact h.1
  · rw [drop_cons e] at h
    exact h.2
  · rw [List.drop_length] at h
    exact h.2
end
end Pl
namespace Pl
open PySem L2
/-! ### comprehensions -/
section
variable {K : PySem.W.Frag} {H : Hp}
theorem wipe_set {i : Nat} {x : Option V} : ∀ {vs : List Nat} {σ : St}, i ∈ vs → wipe (σ.set i x) vs = wipe σ vs := by
  have key : ∀ (vs : List Nat) (σ : St), (i ∈ vs → wipe (σ.set i x) vs = wipe σ vs) ∧ (i ∉ vs → wipe (σ.set i x) vs = (wipe σ vs).set i x) := by
    intro vs
    induction vs with
    | nil => exact fun σ => ⟨fun h => (nomatch h), fun _ => rfl⟩
    | cons v vs ih =>
      intro σ
      obtain ⟨h1, h2⟩ := ih σ
      refine ⟨fun h => ?_, fun h => ?_⟩
      · show (wipe (σ.set i x) vs).set v none = (wipe σ vs).set v none
        by_cases hi : i ∈ vs
        · rw [h1 hi]
        · have e : i = v := by
            rcases List.mem_cons.mp h with h | h
            · exact h
            · exact absurd h hi
          rw [h2 hi, e, List.set_set]
      · show (wipe (σ.set i x) vs).set v none = ((wipe σ vs).set v none).set i x
        have hn : i ≠ v ∧ i ∉ vs := ⟨fun e => h (by rw [e]; exact List.mem_cons_self), fun e => h (List.mem_cons_of_mem _ e)⟩
        rw [h2 hn.2, List.set_comm _ _ hn.1]
  exact fun {vs σ} h => (key vs σ).1 h
def sdel : SS → Nat → SS
  | [], _ => []
  | _ :: r, 0 => none :: r
  | x :: r, i + 1 => x :: sdel r i
def swipe (ss : SS) : List Nat → SS
  | [] => ss
  | v :: vs => sdel (swipe ss vs) v
theorem RS.del : ∀ {ss : SS} {σ : St} {i : Nat}, RS K H ss σ → RS K H (sdel ss i) (σ.set i Option.none)
  | [], _, _, h => by
    have h : _ = [] := h
    subst h; rfl
  | s :: _, _, 0, ⟨x, σ', h1, h2, h3⟩ => by
    subst h1
    exact ⟨Option.none, σ', rfl, fun d' q => (nomatch q), h3⟩
  | s :: _, _, i + 1, ⟨x, σ', h1, h2, h3⟩ => by
    subst h1
    exact ⟨x, σ'.set i Option.none, rfl, h2, RS.del h3⟩
theorem RS.wipe {ss : SS} {σ : St} (h : RS K H ss σ) : ∀ vs : List Nat, RS K H (swipe ss vs) (L2.wipe σ vs)
  | [] => h
  | v :: vs => (RS.wipe h vs).del
end
/-- a comprehension's target -/
structure QGw (X : Cx) (tg : Expr) (vs : List Nat) (p : PGx) : Prop where
  ex : ∃ g, PG X tg g ∧ LiG X.K g p ∧ ∀ v σ H Q Q', g v σ H Q → (∀ σ' H', wipe σ' vs = wipe σ vs → Q σ' H' → Q' σ' H') → g v σ H Q'
structure QGws (X : Cx) (tgs : List Expr) (vs : List Nat) (p : PGsx) : Prop where
  ex : ∃ g, PGs X tgs g ∧ LiGs X.K g p ∧ ∀ us σ H Q Q', g us σ H Q → (∀ σ' H', wipe σ' vs = wipe σ vs → Q σ' H' → Q' σ' H') → g us σ H Q'
section
variable {X : Cx} {pos : Pos} {e : Expr} {vs : List Nat}
theorem qgw_name {i : Nat} {x : Str} (hN : X.N.Nodup) (hi : X.N[i]? = some x) (hx : Loc X.env.scope x) (hm : i ∈ vs := by decide) (hf : X.fn x = true ∨ X.env.scope.names.lookup x = some .local := by first | exact .inl rfl | exact .inr rfl) : QGw X (.Name x pos) vs (pgName i) :=
  ⟨_, pg_name hN hi hx hf, fun v d σ H ss μ q Q rs ab r h k => k _ _ _ _ .refl (rs.set r) ab h, fun v σ H Q Q' h k => k _ _ (wipe_set hm) h⟩
theorem qgws_nil : QGws X [] vs pgNil := by
  obtain ⟨t, g, l⟩ := qgs_nil (X := X)
  refine ⟨_, pgs_nil, fun us ds σ H ss μ q Q rs ab r h k => ?_, fun us σ H Q Q' h k => ⟨h.1, k _ _ rfl h.2⟩⟩
  obtain ⟨rfl, h⟩ := h
  exact ⟨r.nil', k _ _ _ _ .refl rs ab h⟩
theorem qgws_cons {es : List Expr} {t : PGx} {w : PGsx} (h1 : QGw X e vs t) (h2 : QGws X es vs w) (hs : (assignEach (e :: es) X.env).map (·.2) = assign e X.env :: (assignEach es X.env).map (·.2) := by rfl) : QGws X (e :: es) vs (pgCons t w) := by
  obtain ⟨t1, g1, l1, w1⟩ := h1
  obtain ⟨t2, g2, l2, w2⟩ := h2
  refine ⟨_, pgs_cons g1 g2 hs, fun vs ds σ H ss μ q Q rs ab r h k => ?_, fun us σ H Q Q' h k => ?_⟩
  · match ds, h with
    | d :: ds, h =>
      obtain ⟨v, ws, rfl, r1, r2⟩ := r.cons'
      refine ⟨v, ws, rfl, l1 v d σ H ss μ _ _ rs ab r1 h fun σ1 H1 ss1 μ1 f1 rs1 ab1 h1 => ?_⟩
      exact l2 ws ds σ1 H1 ss1 μ1 _ _ rs1 ab1 (r2.mono f1.tup) h1 fun σ2 H2 ss2 μ2 f2 rs2 ab2 h2 => k _ _ _ _ (f1.trans f2) rs2 ab2 h2
  · obtain ⟨v, r, rfl, h⟩ := h
    exact ⟨v, r, rfl, w1 v σ H _ _ h fun σ' H' hw hu => w2 r σ' H' Q Q' hu fun σ2 H2 hw2 q => k _ _ (hw2.trans hw) q⟩
theorem qgw_tup {es : List Expr} {k : Nat} {t : PGsx} {n : Nat} (hc : X.calm = true) (h : QGws X es vs t) (hn : (assignEach es X.env).length = n := by rfl) (hst : (assignEach es X.env).findIdx? (·.1) = none := by rfl) : QGw X (.Tuple es k pos) vs (pgTup n t) := by
  obtain ⟨t1, g1, l1, w1⟩ := h
  refine ⟨_, pg_tup (n := n) hc g1 hn hst, fun v d σ H ss μ q Q rs ab r h k => ?_, fun v σ H Q Q' h k => ?_⟩
  · obtain ⟨ds, e, hl, hh⟩ := onTup_of h
    subst e
    obtain ⟨a, vs, rfl, h1, h2⟩ := r.tup'
    exact ⟨a, vs, rfl, h1, by rw [h2.len]; exact hl, l1 vs ds σ H ss μ q Q rs ab h2 hh k⟩
  · obtain ⟨a, xs, e1, hq, hl, h⟩ := h
    exact ⟨a, xs, e1, hq, hl, w1 xs σ H Q Q' h k⟩
/-! the tests of a comprehension -/
structure QTs (X : Cx) (ifs : List Expr) (p : PTx) : Prop where
  ex : ∃ t, PTs X ifs t ∧ LiT X.K t p
def pYes : PTx := fun _ μ q => q true μ
theorem qts_nil : QTs X [] pYes := ⟨_, pts_nil, fun σ H ss μ q Q rs ab h k => k _ _ _ .refl ab h⟩
theorem qts_one {c : Expr} {t : PTx} (h : QT X c t) : QTs X [c] t := by
  obtain ⟨u, g, l⟩ := h
  exact ⟨_, pts_one g, l⟩
/-- one turn -/
def lcStep (pg : PGx) (pt : PTx) (pe : PEx) (ss : SS) (x : D) (μ : Mu) (ky : D → Mu → Prop) (kn : Mu → Prop) : Prop :=
  pg x ss μ fun ss' μ' => pt ss' μ' fun b μ2 => if b = true then pe ss' μ2 ky else kn μ2
def lcGo (pg : PGx) (pt : PTx) (pe : PEx) (ss : SS) (ok : Mu → Prop) (q : List D → Mu → Prop) : List D → List D → Mu → Prop
  | [], acc, μ => ok μ ∧ q acc μ
  | x :: r, acc, μ => ok μ ∧ lcStep pg pt pe ss x μ (fun y μ' => lcGo pg pt pe ss ok q r (acc ++ [y]) μ') (fun μ' => lcGo pg pt pe ss ok q r acc μ')
theorem lcGo_ok {pg : PGx} {pt : PTx} {pe : PEx} {ss : SS} {ok : Mu → Prop} {q : List D → Mu → Prop} : ∀ {xs acc : List D} {μ : Mu}, lcGo pg pt pe ss ok q xs acc μ → ok μ
  | [], _, _, h => h.1
  | _ :: _, _, _, h => h.1
def pLc (pi : PIx) (pg : PGx) (pt : PTx) (pe : PEx) (vs : List Nat) : PEx := fun ss μ q => pi ss μ fun xs ok μ1 => xs.length ≤ sizeLine ∧
  lcGo pg pt pe (swipe ss vs) ok (fun ds μ2 => ∀ p, μ2 p = none → q (.ref p) (mset μ2 p (.lst ds))) xs [] μ1
theorem wipe_idem (vs : List Nat) (σ : St) : wipe (wipe σ vs) vs = wipe σ vs := by
  have key : ∀ (us vs : List Nat) (σ : St), (∀ v ∈ us, v ∈ vs) → wipe (wipe σ us) vs = wipe σ vs := by
    intro us
    induction us with
    | nil => exact fun _ _ _ => rfl
    | cons v us ih =>
      intro vs σ h
      show wipe ((wipe σ us).set v none) vs = _
      rw [wipe_set (h v List.mem_cons_self), ih vs σ fun u hu => h u (List.mem_cons_of_mem _ hu)]
  exact key vs vs σ fun _ h => h
/-- a thing that is not known changes -/
theorem Fm.hid {K : PySem.W.Frag} {H H2 : Hp} {μ μ2 : Mu} {D : Addr} {v o : HO} (f : Fm K H μ H2 μ2) (hD : H D = none) (h2 : H2 D = some v) (hm : Mutb v) : Fm K H μ (upd H2 D o) μ2 :=
  ⟨fun a xs h => tups_set h2 hm o a xs (f.tup a xs h), fun a h => (by
    by_cases e : a = D
    · subst e; exact hD
    · rw [upd_ne e] at h; exact f.grow a h), f.new, fun a u h q => (by
    have e : a ≠ D := ne_of_none h hD
    rw [upd_ne e]
    exact f.stay a u h q)⟩
theorem Abs.hid {K : PySem.W.Frag} {H2 : Hp} {μ2 : Mu} {D : Addr} {v o : HO} (ab : Abs K μ2 H2) (fre : μ2 D = none) (h2 : H2 D = some v) (hm : Mutb v) : Abs K μ2 (upd H2 D o) := fun a u h => by
  have e : a ≠ D := fun e => by subst e; rw [fre] at h; cases h
  exact (ab a u h).keep (tups_set h2 hm o) (upd_ne e)
theorem Fm.seen {K : PySem.W.Frag} {H H2 : Hp} {μ μ2 : Mu} {D : Addr} {u : MO} (f : Fm K H μ H2 μ2) (hD : H D = none) : Fm K H μ H2 (mset μ2 D u) :=
  ⟨f.tup, f.grow, fun a h q => (by
    rw [mset_ne (fun e => h (by rw [e]; exact hD))]
    exact f.new a h q), f.stay⟩
theorem Abs.seen {K : PySem.W.Frag} {H2 : Hp} {μ2 : Mu} {D : Addr} {u : MO} (ab : Abs K μ2 H2) (h : MOk K H2 D u) : Abs K (mset μ2 D u) H2 := fun a o q => by
  by_cases e : a = D
  · subst e
    rw [mset_same] at q
    cases q
    exact h
  · rw [mset_ne e] at q
    exact ab a o q
theorem li_lc {K : PySem.W.Frag} {wi : TI} {g : TG} {tt : TT} {te : TE} {vs : List Nat} {pi : PIx} {pg : PGx} {pt : PTx} {pe : PEx} (l1 : LiI K wi pi) (l2 : LiG K g pg)
    (w2 : ∀ v σ H Q Q', g v σ H Q → (∀ σ' H', wipe σ' vs = wipe σ vs → Q σ' H' → Q' σ' H') → g v σ H Q') (l3 : LiT K tt pt) (l4 : LiE K te pe) : LiE K (tLc wi g tt te vs) (pLc pi pg pt pe vs) := by
  intro σ H ss μ q Q rs ab h k
  refine l1 σ H ss μ _ _ rs ab h fun J H1 xs ok μ1 f1 ab1 jr h1 => ?_
  obtain ⟨hlen, h1⟩ := h1
  intro D hD
  have rs1 := (rs.mono f1.tup).wipe vs
  let go := lcGo pg pt pe (swipe ss vs) ok (fun ds μ2 => ∀ p, μ2 p = none → q (.ref p) (mset μ2 p (.lst ds)))
  let In : Nat → Hp → Prop := fun i H2 => ∃ acc us μ2, H2 D = some (.lst us) ∧ RDs K H2 acc us ∧ acc.length ≤ i ∧ Fm K H1 μ1 H2 μ2 ∧ μ2 D = none ∧ Abs K μ2 H2 ∧ go (xs.drop i) acc μ2
  refine ⟨fun i m H2 => m = xs.length - i ∧ i ≤ xs.length ∧ In i H2, ⟨_, rfl, Nat.zero_le _, [], [], μ1, upd_same, .nil, Nat.zero_le _, .tuple hD, ab1.free hD, ab1.new hD, h1⟩, ?_⟩
  rintro i m H2 ⟨rfl, hi, acc, us, μ2, hD2, racc, hacc, f2, fre2, ab2, h2⟩
  obtain ⟨j1, j2, j3⟩ := jr H2 μ2 f2.tup ab2 (lcGo_ok h2)
  have nD : H2 D ≠ none := by rw [hD2]; exact fun z => nomatch z
  by_cases hlt : i < xs.length
  · refine .inr ⟨j1 i hlt, In (i + 1), fun H' h => ⟨_, by omega, rfl, hlt, h⟩, fun x H' y => ?_⟩
    obtain ⟨d1, e1, f3, ab3, r3⟩ := j3 i x H' hlt y
    rw [drop_cons e1] at h2
    have h2 := h2.2
    unfold lcStep at h2
    have rs3 := rs1.mono (f2.trans f3).tup
    refine w2 x _ H' _ _ (l2 x d1 _ H' (swipe ss vs) μ2 _ (fun σ4 H4 => tt σ4 H4 fun b H3 => if b = true then te σ4 H3 fun y H4 => ∃ acc, H4 D = some (.lst acc) ∧ acc.length < sizeLine ∧ In (i + 1) (upd H4 D (.lst (acc ++ [y]))) else In (i + 1) H3)
      rs3 ab3 r3 h2 fun σ4 H4 ss4 μ4 f4 rs4 ab4 h4 => ?_) fun σ' H' hw h => ⟨by rw [hw, wipe_idem], h⟩
    refine l3 σ4 H4 ss4 μ4 _ _ rs4 ab4 h4 fun b H5 μ5 f5 ab5 h5 => ?_
    have f35 := (f3.trans f4).trans f5
    cases b with
    | false => exact iteF ⟨acc, us, μ5, f35.stay _ _ hD2 fre2, racc.mono f35.tup, by omega, f2.trans f35, f35.new _ nD fre2, ab5, by simpa using h5⟩
    | true =>
      refine iteT (l4 σ4 H5 ss4 μ5 _ _ (rs4.mono f5.tup) ab5 (by simpa using h5) fun z H6 y μ6 f6 ab6 r6 h6 => ?_)
      have f36 := f35.trans f6
      have hD6 := f36.stay _ _ hD2 fre2
      have tt := tups_set (K := K) hD6 True.intro (.lst (us ++ [z]))
      have fre6 := f36.new _ nD fre2
      refine ⟨us, hD6, ?_, acc ++ [y], us ++ [z], μ6, upd_same, ((racc.mono f36.tup).app (.cons r6 .nil)).mono tt, by rw [List.length_append, List.length_singleton]; omega, ?_, fre6, ?_, h6⟩
      · have := racc.len
        omega
      · exact (f2.trans f36).hid hD hD6 True.intro
      · exact ab6.hid fre6 hD6 True.intro
  · have e : i = xs.length := by omega
    subst e
    have h2 : go [] acc μ2 := by rw [List.drop_length] at h2; exact h2
    refine .inl ⟨j2 _ (Nat.le_refl _), k _ _ _ (mset μ2 D (.lst acc)) ?_ ?_ .ref (h2.2 D fre2)⟩
    · exact f1.trans (f2.seen hD)
    · exact ab2.seen ⟨us, hD2, racc⟩
/-! the parts of a block: one term for all contexts -/
section
variable {scope : Scope} {elt iter : Expr} {ifs : List Expr}
abbrev Blk (X : Cx) := Shared × Hp × Addr × List (Str × Addr) × List Addr
theorem all_E {F : α → Cx} {K : PySem.W.Frag} {e : Expr} {p : PEx} (h : ∀ a, ∃ t, PE (F a) e t ∧ LiE K t p) : ∃ t, (∀ a, PE (F a) e t) ∧ LiE K t p := by
  refine ⟨fun σ H Q => ∀ a, (h a).choose σ H Q, fun a => ⟨fun pins s σ H Q I q => (h a).choose_spec.1.run pins s σ H Q I (q a)⟩, fun σ H ss μ q Q rs ab hp k a => ?_⟩
  exact (h a).choose_spec.2 σ H ss μ q Q rs ab hp k
theorem all_T {F : α → Cx} {K : PySem.W.Frag} {e : List Expr} {p : PTx} (h : ∀ a, ∃ t, PTs (F a) e t ∧ LiT K t p) : ∃ t, (∀ a, PTs (F a) e t) ∧ LiT K t p := by
  refine ⟨fun σ H Q => ∀ a, (h a).choose σ H Q, fun a => ⟨fun pins s σ H Q I q => (h a).choose_spec.1.run pins s σ H Q I (q a)⟩, fun σ H ss μ q Q rs ab hp k a => ?_⟩
  exact (h a).choose_spec.2 σ H ss μ q Q rs ab hp k
theorem all_G {F : α → Cx} {K : PySem.W.Frag} {e : Expr} {vs : List Nat} {p : PGx} (h : ∀ a, ∃ g, PG (F a) e g ∧ LiG K g p ∧ ∀ v σ H Q Q', g v σ H Q → (∀ σ' H', wipe σ' vs = wipe σ vs → Q σ' H' → Q' σ' H') → g v σ H Q') :
    ∃ g, (∀ a, PG (F a) e g) ∧ LiG K g p ∧ ∀ v σ H Q Q', g v σ H Q → (∀ σ' H', wipe σ' vs = wipe σ vs → Q σ' H' → Q' σ' H') → g v σ H Q' := by
  refine ⟨fun v σ H Q => ∀ a, (h a).choose v σ H Q, fun a => ⟨fun pins s σ H v u Q I r q => (h a).choose_spec.1.run pins s σ H v u Q I r (q a)⟩, fun v d σ H ss μ q Q rs ab r hp k a => ?_, fun v σ H Q Q' q k a => ?_⟩
  · exact (h a).choose_spec.2.1 v d σ H ss μ q Q rs ab r hp k
  · exact (h a).choose_spec.2.2 v σ H Q Q' (q a) k
variable {own : List (Str × Nat)} {pi : PIx} {pg : PGx} {pt : PTx} {pe : PEx} {tg : Expr}
theorem qe_lc (hc : X.calm = true) (hN : X.N.Nodup) (hi : QI X tg iter pi) (ok : BlkOk X.N X.env.scope scope own)
    (hg : ∀ (s : Shared) (H : Hp) (C : Addr) (cl : List (Str × Addr)) (fp : List Addr), QGw (X.blk s H scope (compEnvC scope cl C X.env) fp) tg (own.map (·.2)) pg)
    (ht : ∀ (s : Shared) (H : Hp) (C : Addr) (cl : List (Str × Addr)) (fp : List Addr), QTs (X.blk s H scope (compEnvC scope cl C X.env) fp) ifs pt)
    (he : ∀ (s : Shared) (H : Hp) (C : Addr) (cl : List (Str × Addr)) (fp : List Addr), QE (X.blk s H scope (compEnvC scope cl C X.env) fp) elt pe) (hs : ∀ x, foldedSetIterable iter X.env x = pure x := by intro _; rfl) :
    QE X (.ListComp elt [⟨tg, iter, ifs, 0⟩] scope pos) (pLc pi pg pt pe (own.map (·.2))) := by
  obtain ⟨wi, g1, l1⟩ := hi
  obtain ⟨g, g2, l2, w2⟩ := all_G (F := fun a : Blk X => X.blk a.1 a.2.1 scope (compEnvC scope a.2.2.2.1 a.2.2.1 X.env) a.2.2.2.2) (K := X.K) fun a => (hg a.1 a.2.1 a.2.2.1 a.2.2.2.1 a.2.2.2.2).ex
  obtain ⟨tt, g3, l3⟩ := all_T (F := fun a : Blk X => X.blk a.1 a.2.1 scope (compEnvC scope a.2.2.2.1 a.2.2.1 X.env) a.2.2.2.2) (K := X.K) fun a => (ht a.1 a.2.1 a.2.2.1 a.2.2.2.1 a.2.2.2.2).ex
  obtain ⟨te, g4, l4⟩ := all_E (F := fun a : Blk X => X.blk a.1 a.2.1 scope (compEnvC scope a.2.2.2.1 a.2.2.1 X.env) a.2.2.2.2) (K := X.K) fun a => (he a.1 a.2.1 a.2.2.1 a.2.2.2.1 a.2.2.2.2).ex
  exact ⟨_, pe_lc hc hN g1 ok (fun s H C cl fp => g2 (s, H, C, cl, fp)) (fun s H C cl fp => g3 (s, H, C, cl, fp)) (fun s H C cl fp => g4 (s, H, C, cl, fp)) hs, li_lc l1 l2 w2 l3 l4⟩
theorem qs_setLc {i : Nat} {y : Str} {py : Pos} {spos : Pos} (hc : X.calm = true) (hN : X.N.Nodup) (hy : X.N[i]? = some y) (hyl : X.env.scope.names.lookup y = some .local)
    (hsw : swapsWith (.ListComp elt [⟨tg, iter, ifs, 0⟩] scope pos) (some (.Name y py)) spos.line X.env = pure true) (hi : QI X tg iter pi) (ok : BlkOk X.N X.env.scope scope own)
    (hg : ∀ (s : Shared) (H : Hp) (C : Addr) (cl : List (Str × Addr)) (fp : List Addr), QGw (X.blk s H scope (compEnvC scope cl C X.env) fp) tg (own.map (·.2)) pg)
    (ht : ∀ (s : Shared) (H : Hp) (C : Addr) (cl : List (Str × Addr)) (fp : List Addr), QTs (X.blk s H scope (compEnvC scope cl C X.env) fp) ifs pt)
    (he : ∀ (s : Shared) (H : Hp) (C : Addr) (cl : List (Str × Addr)) (fp : List Addr), QE (X.blk s H scope (compEnvC scope cl C X.env) fp) elt pe) (hs : ∀ x, foldedSetIterable iter X.env x = pure x := by intro _; rfl) :
    QS X (.Assign [.Name y py] (.ListComp elt [⟨tg, iter, ifs, 0⟩] scope pos) spos) (pAsg (pLc pi pg pt pe (own.map (·.2))) (pgName i)) := by
  obtain ⟨wi, g1, l1⟩ := hi
  obtain ⟨g, g2, l2, w2⟩ := all_G (F := fun a : Blk X => X.blk a.1 a.2.1 scope (compEnvC scope a.2.2.2.1 a.2.2.1 X.env) a.2.2.2.2) (K := X.K) fun a => (hg a.1 a.2.1 a.2.2.1 a.2.2.2.1 a.2.2.2.2).ex
  obtain ⟨tt, g3, l3⟩ := all_T (F := fun a : Blk X => X.blk a.1 a.2.1 scope (compEnvC scope a.2.2.2.1 a.2.2.1 X.env) a.2.2.2.2) (K := X.K) fun a => (ht a.1 a.2.1 a.2.2.1 a.2.2.2.1 a.2.2.2.2).ex
  obtain ⟨te, g4, l4⟩ := all_E (F := fun a : Blk X => X.blk a.1 a.2.1 scope (compEnvC scope a.2.2.2.1 a.2.2.1 X.env) a.2.2.2.2) (K := X.K) fun a => (he a.1 a.2.1 a.2.2.1 a.2.2.2.1 a.2.2.2.2).ex
  refine ⟨_, ps_setLc hc hN hy hyl hsw g1 ok (fun s H C cl fp => g2 (s, H, C, cl, fp)) (fun s H C cl fp => g3 (s, H, C, cl, fp)) (fun s H C cl fp => g4 (s, H, C, cl, fp)) hs, fun σ H ss μ D d rs ab h er => ?_⟩
  exact li_lc l1 l2 w2 l3 l4 σ H ss μ _ _ rs ab h fun v H1 x μ1 f1 ab1 r1 h1 => er.nx _ _ _ _ f1 ((rs.mono f1.tup).set r1) ab1 h1
end
/-! words for comprehensions whose turns keep all -/
theorem lc_fmap {pg : PGx} {pt : PTx} {pe : PEx} {ss : SS} {ok : Mu → Prop} {q : List D → Mu → Prop} {μ : Mu} {f : D → Option D} (hok : ok μ) : ∀ {xs acc : List D},
    (∀ x ∈ xs, ∀ (ky : D → Mu → Prop) (kn : Mu → Prop), (∀ y, f x = some y → ky y μ) → (f x = none → kn μ) → lcStep pg pt pe ss x μ ky kn) → q (acc ++ xs.filterMap f) μ → lcGo pg pt pe ss ok q xs acc μ
  | [], acc, _, h => ⟨hok, by simpa using h⟩
  | x :: r, acc, hs, h => by
    refine ⟨hok, hs x List.mem_cons_self _ _ (fun y e => ?_) (fun e => ?_)⟩
    · refine lc_fmap hok (fun z hz => hs z (List.mem_cons_of_mem _ hz)) ?_
      rw [List.filterMap_cons_some e] at h
      rw [List.append_assoc]
      exact h
    · refine lc_fmap hok (fun z hz => hs z (List.mem_cons_of_mem _ hz)) ?_
      rw [List.filterMap_cons_none e] at h
      exact h
theorem lc_map {pg : PGx} {pt : PTx} {pe : PEx} {ss : SS} {ok : Mu → Prop} {q : List D → Mu → Prop} {μ : Mu} (f : D → D) {xs : List D} (hok : ok μ)
    (hs : ∀ x ∈ xs, ∀ (ky : D → Mu → Prop) (kn : Mu → Prop), ky (f x) μ → lcStep pg pt pe ss x μ ky kn) (h : q (xs.map f) μ) : lcGo pg pt pe ss ok q xs [] μ := by
  refine lc_fmap (f := fun x => some (f x)) hok (fun x hx ky kn h1 h2 => hs x hx ky kn (h1 _ rfl)) ?_
  rw [List.nil_append]
  have : xs.filterMap (fun x => some (f x)) = xs.map f := by rw [← List.filterMap_eq_map]; rfl
  rw [this]
  exact h
theorem lc_filter {pg : PGx} {pt : PTx} {pe : PEx} {ss : SS} {ok : Mu → Prop} {q : List D → Mu → Prop} {μ : Mu} (p : D → Bool) (f : D → D) {xs : List D} (hok : ok μ)
    (hs : ∀ x ∈ xs, ∀ (ky : D → Mu → Prop) (kn : Mu → Prop), (p x = true → ky (f x) μ) → (p x = false → kn μ) → lcStep pg pt pe ss x μ ky kn) (h : q ((xs.filter p).map f) μ) : lcGo pg pt pe ss ok q xs [] μ := by
  refine lc_fmap (f := fun x => if p x then some (f x) else none) hok (fun x hx ky kn h1 h2 => hs x hx ky kn (fun e => h1 _ (by rw [if_pos e])) (fun e => h2 (by rw [if_neg (by rw [e]; exact Bool.false_ne_true)]))) ?_
  rw [List.nil_append]
  have : xs.filterMap (fun x => if p x then some (f x) else none) = (xs.filter p).map f := by
    clear h hs
    induction xs with
    | nil => rfl
    | cons x r ih =>
      cases e : p x with
      | true => rw [List.filterMap_cons_some (b := f x) (by rw [if_pos e]), List.filter_cons_of_pos e, List.map_cons, ih]
      | false => rw [List.filterMap_cons_none (by rw [if_neg (by rw [e]; exact Bool.false_ne_true)]), List.filter_cons_of_neg (by rw [e]; exact Bool.false_ne_true), ih]
  rw [this]
  exact h
end
end Pl
namespace Pl
open PySem L2 PySem.Spec PyProof.Rows
/-! ### what a def promises -/
abbrev Spc := List D → Mu → EQ → Prop
def raw (K : PySem.W.Frag) (sp : Spc) : Sp := fun vs H Q _ => ∃ ds μ q, RDs K H ds vs ∧ Abs K μ H ∧ sp ds μ q ∧ ∀ v H' d μ', Fm K H μ H' μ' → Abs K μ' H' → RD K H' d v → q d μ' → Q v H'
def At (K : PySem.W.Frag) (mg : Str → Option Value) (x : Str) (st : Stmt) (ps : List Str) : Prop := ∃ f fd, Fun K x x st f fd ∧ mg x = some (.ref f) ∧ Binds K fd ps []
def Has (P : Program) (w : World) (K : PySem.W.Frag) (mg : Str → Option Value) (base : Heap) (x : Str) (ps : List Str) (k : Nat) (sp : Spc) : Prop :=
  ∃ f fd, FnOk P w K mg base CX0 k f fd ps (raw K sp) ∧ Binds K fd ps [] ∧ PySem.W.keepIn K (.ref f) = true ∧ mg x = some (.ref f)
theorem Has.mono {P : Program} {w : World} {K : PySem.W.Frag} {mg : Str → Option Value} {base : Heap} {x : Str} {ps : List Str} {k k' : Nat} {sp : Spc} (h : Has P w K mg base x ps k sp) (hk : k ≤ k') : Has P w K mg base x ps k' sp := by
  obtain ⟨f, fd, F, r⟩ := h
  exact ⟨f, fd, F.mono hk, r⟩
/-- a weaker promise -/
theorem Has.imp {P : Program} {w : World} {K : PySem.W.Frag} {mg : Str → Option Value} {base : Heap} {x : Str} {ps : List Str} {k : Nat} {sp sp' : Spc} (h : Has P w K mg base x ps k sp) (hs : ∀ ds μ q, sp' ds μ q → sp ds μ q) : Has P w K mg base x ps k sp' := by
  obtain ⟨f, fd, F, r⟩ := h
  exact ⟨f, fd, F.imp fun vs H Q E ⟨ds, μ, q, h1, h2, h3, h4⟩ => ⟨ds, μ, q, h1, h2, hs _ _ _ h3, h4⟩, r⟩
section
variable {P : Program} {w : World} {K : PySem.W.Frag} {mg : Str → Option Value} {base : Heap}
def endsOf (q : EQ) : PEnds := { nx := fun _ μ => ∃ μ', Mle μ' μ ∧ q .non μ', rt := fun d μ => ∃ μ', Mle μ' μ ∧ q d μ' }
/-- THE RULE for a def: its body by rules, and what that asks -/
theorem qfn {x qual : Str} {st : Stmt} {f : Addr} {fd : FuncData} {N ps : List Str} {k : Nat} {sp : Spc} {p : PSx} (F : Fun K x qual st f fd) (S : FnScope N ps (defScope st)) (hlen : ps.length ≤ N.length)
    (len : ∀ ds μ q, sp ds μ q → ds.length = ps.length)
    (hb : ∀ (cdv : Value) (A : Around) (outer : List Env) (s : Shared) (H : Hp) (E : XK), Room k (A.deeper (envOfC qual (defScope st) s.heap.objs.size f cdv)) → QSs (cxOf CX0 P w K mg base N qual (defScope st) f cdv A outer s H E).nox (defBody st) p)
    (hs : ∀ ds μ q, sp ds μ q → p (endsOf q) (sinit N ds) μ) : FnOk P w K mg base CX0 (k + 1) f fd ps (raw K sp) := by
  refine F.ok S (fun vs H Q E h => ?_) (fun cdv A outer s H vs Q E hr h => ?_)
  · obtain ⟨ds, μ, q, r, _, h, _⟩ := h
    rw [r.len, len _ _ _ h]
  · obtain ⟨ds, μ, q, r, ab, h, fin⟩ := h
    obtain ⟨t, g, l⟩ := hb cdv A outer s H E hr
    refine ⟨t, g, l (start N vs) H (sinit N ds) μ _ _ (RS.start r (by rw [len _ _ _ h]; exact hlen)) ab (hs ds μ q h) ⟨?_, ?_, fun _ _ _ _ _ _ _ h => h.elim, fun _ _ _ _ _ _ _ h => h.elim⟩⟩
    · rintro σ' H' ss' μ' f1 rs1 ab1 ⟨μ2, le, h2⟩
      exact fin _ _ _ μ2 (f1.less le) (le.abs ab1) .non h2
    · rintro v H' e μ' f1 ab1 r1 ⟨μ2, le, h2⟩
      exact fin _ _ _ μ2 (f1.less le) (le.abs ab1) r1 h2
theorem Has.mk {x : Str} {st : Stmt} {ps : List Str} {k : Nat} {sp : Spc} (A : At K mg x st ps) (h : ∀ f fd, Fun K x x st f fd → FnOk P w K mg base CX0 k f fd ps (raw K sp)) : Has P w K mg base x ps k sp := by
  obtain ⟨f, fd, F, m, b⟩ := A
  exact ⟨f, fd, h f fd F, b, F.kp, m⟩
end
section
variable {X : Cx} {k : Nat} {ps : List Str} {sp : Spc} {x : Str} {p pos : Pos} {e : Expr} {es : List Expr} {pr : PAx}
def pCall (sp : Spc) (pr : PAx) : PEx := fun ss μ q => pr ss μ fun ds μ1 => sp ds μ1 q
theorem li_call {K : PySem.W.Frag} {t : TA} {E : XK} (l : LiA K t pr) : LiE K (tCall (raw K sp) [] E t) (pCall sp pr) := fun σ H ss μ q Q rs ab h k => by
  refine l σ H ss μ _ _ rs ab h fun vs H1 ds μ1 f1 ab1 r1 h1 => ?_
  rw [List.append_nil]
  exact ⟨ds, μ1, q, r1, ab1, h1, fun v H' d μ' f2 ab2 r2 h2 => k _ _ _ _ (f1.trans f2) ab2 r2 h2⟩
theorem qe_call (D : Has X.prog X.w X.K X.mg X.base x ps k sp) (hr : Room k X.A) (ha : QA X (e :: es) pr) (hg : Gl X x := by rfl) (hdb : (x == ("__debug__" : Str)) = false := by decide) (he : starEach (e :: es) X.env = (false, eval e X.env) :: starEach es X.env := by rfl)
    (hpl : (backTo pos (starEach es X.env)).any (·.1) = false := by rfl) : QE X (.Call (.Name x p) (e :: es) [] pos) (pCall sp pr) := by
  obtain ⟨f, fd, F, b, kp, m⟩ := D
  obtain ⟨t, g, l⟩ := ha
  exact ⟨_, pe_call (E := E0) F hr hg m kp b .nil pass0 g hdb he hpl, li_call l⟩
theorem qe_call0 (D : Has X.prog X.w X.K X.mg X.base x ps k sp) (hr : Room k X.A) (hg : Gl X x := by rfl) (hdb : (x == ("__debug__" : Str)) = false := by decide) : QE X (.Call (.Name x p) [] [] pos) (pCall sp pNil) := by
  obtain ⟨f, fd, F, b, kp, m⟩ := D
  exact ⟨_, pe_call0 (E := E0) F hr hg m kp b .nil pass0 hdb, li_call fun σ H ss μ q Q rs ab h k => k [] H [] μ .refl ab .nil h⟩
/-! ### methods of lists -/
abbrev PRM := D → List D → Mu → EQ → Prop
def LiM (K : PySem.W.Frag) (r : V → List V → Hp → VK → Prop) (p : PRM) : Prop := ∀ (x : V) (xs : List V) (d : D) (ds : List D) (H : Hp) (μ : Mu) (q : EQ) (Q : VK), Abs K μ H → RD K H d x → RDs K H ds xs → p d ds μ q →
  (∀ v H' d' μ', Fm K H μ H' μ' → Abs K μ' H' → RD K H' d' v → q d' μ' → Q v H') → r x xs H Q
structure QM (X : Cx) (id : String) (p : PRM) : Prop where
  ex : ∃ r, MtR X id r ∧ LiM X.K r p
def isLst (μ : Mu) (d : D) : Prop := match d with
  | .ref a => (rdl μ a).isSome = true
  | _ => False
def pBM (r : PRM) (po : PEx) (pr : PAx) : PEx := fun ss μ q => po ss μ fun d μ1 => isLst μ1 d ∧ pr ss μ1 fun ds μ2 => r d ds μ2 q
variable {o : Expr} {po : PEx} {name : Str} {apos cpos : Pos} {id : String} {r : PRM}
theorem isLst_ty {K : PySem.W.Frag} {H : Hp} {μ : Mu} {d : D} {v : V} (ab : Abs K μ H) (rd : RD K H d v) (h : isLst μ d) : tyV K "list" v H := by
  cases d with
  | ref a =>
    rw [rd.ref']
    unfold isLst at h
    obtain ⟨ds, e⟩ := Option.isSome_iff_exists.mp h
    obtain ⟨vs, h1, h2⟩ := ab.list e
    exact .inl ⟨rfl, _, h1⟩
  | _ => exact h.elim
theorem qe_bm (slot : Slot "list" name id) (hty : typeOf (.builtin id) = pure (.type "method_descriptor")) (hm : QM X id r) (ho : QE X o po) (ha : QA X (e :: es) pr)
    (hbase : attributeBase o name X.env (eval o X.env) = eval o X.env := by rfl)
    (hfew : ((backTo cpos (starEach (e :: es) X.env)).all (fun x => !x.1) && (backToKw cpos (keywordEach [] X.env)).all (fun x => x.1.isSome)
      && decide ((e :: es).length + ([] : List Keyword).length + (if ([] : List Keyword).isEmpty then 0 else 1) < 30)) = true := by rfl)
    (hline : (apos.endLine == cpos.line) = true := by rfl) (hs : starEach (e :: es) X.env = (false, eval e X.env) :: starEach es X.env := by rfl) (hplain : (backTo cpos (starEach es X.env)).any (·.1) = false := by rfl) :
    QE X (.Call (.Attribute o name apos) (e :: es) [] cpos) (pBM r po pr) := by
  obtain ⟨rr, m, lr⟩ := hm
  obtain ⟨t, g1, l1⟩ := ho
  obtain ⟨u, g2, l2⟩ := ha
  refine ⟨_, pe_bm PySem.F.plainAttrs_list slot hty m g1 g2 hbase hfew hline hs hplain, fun σ H ss μ q Q rs ab h k => ?_⟩
  refine l1 σ H ss μ _ _ rs ab h fun v H1 d μ1 f1 ab1 r1 h1 => ?_
  refine ⟨isLst_ty ab1 r1 h1.1, l2 σ H1 ss μ1 _ _ (rs.mono f1.tup) ab1 h1.2 fun vs H2 ds μ2 f2 ab2 r2 h2 => ?_⟩
  exact lr v vs d ds H2 μ2 q Q ab2 (r1.mono f2.tup) r2 h2 fun v3 H3 d3 μ3 f3 ab3 r3 h3 => k _ _ _ _ ((f1.trans f2).trans f3) ab3 r3 h3
theorem qe_bm0 (slot : Slot "list" name id) (hty : typeOf (.builtin id) = pure (.type "method_descriptor")) (hm : QM X id r) (ho : QE X o po)
    (hbase : attributeBase o name X.env (eval o X.env) = eval o X.env := by rfl) (hline : (apos.endLine == cpos.line) = true := by rfl) : QE X (.Call (.Attribute o name apos) [] [] cpos) (pBM r po pNil) := by
  obtain ⟨rr, m, lr⟩ := hm
  obtain ⟨t, g1, l1⟩ := ho
  refine ⟨_, pe_bm0 PySem.F.plainAttrs_list slot hty m g1 hbase hline, fun σ H ss μ q Q rs ab h k => ?_⟩
  refine l1 σ H ss μ _ _ rs ab h fun v H1 d μ1 f1 ab1 r1 h1 => ?_
  refine ⟨isLst_ty ab1 r1 h1.1, ?_⟩
  exact lr v [] d [] H1 μ1 q Q ab1 r1 .nil h1.2 fun v3 H3 d3 μ3 f3 ab3 r3 h3 => k _ _ _ _ (f1.trans f3) ab3 r3 h3
def onW (μ : Mu) (d : D) (k : Addr → List D → Prop) : Prop := match d with
  | .ref a => onSome (wrl μ a) fun ds => k a ds
  | _ => False
theorem onW_of {μ : Mu} {d : D} {k : Addr → List D → Prop} (h : onW μ d k) : ∃ a ds, d = .ref a ∧ μ a = some (.lst ds) ∧ k a ds := by
  cases d with
  | ref a =>
    obtain ⟨ds, e, h⟩ := onSome_of (show onSome (wrl μ a) _ from h)
    exact ⟨a, ds, rfl, of_wrl e, h⟩
  | _ => exact h.elim
def pAppend : PRM := fun d ds μ q => on1 ds fun y => onW μ d fun a xs => xs.length < sizeLine ∧ q .non (mset μ a (.lst (xs ++ [y])))
theorem qm_append : QM X "list.append" pAppend := by
  refine ⟨_, mt_append, fun x xs d ds H μ q Q ab r1 r2 h k => ?_⟩
  obtain ⟨y, e, h⟩ := on1_of h
  subst e
  obtain ⟨v, rfl, r⟩ := rds1 r2
  obtain ⟨a, zs, e, e1, hz, h3⟩ := onW_of h
  subst e
  obtain ⟨vs, h1, h2⟩ := ab _ _ e1
  have tt := tups_set (K := X.K) h1 True.intro (.lst (vs ++ [v]))
  exact ⟨a, vs, v, r1.ref', rfl, h1, by rw [h2.len]; exact hz, k _ _ _ _ (.set h1 True.intro e1) (ab.set (o := .lst _) h1 True.intro ⟨_, upd_same, (h2.app (.cons r .nil)).mono tt⟩) .non h3⟩
def pExtend : PRM := fun d ds μ q => on1 ds fun y => onW μ d fun a xs => match y with
  | .tup ys => xs.length + ys.length ≤ sizeLine ∧ q .non (mset μ a (.lst (xs ++ ys)))
  | .ref b => onSome (wrl μ b) fun ys => xs.length + ys.length ≤ sizeLine ∧ q .non (mset μ a (.lst (xs ++ ys)))
  | _ => False
theorem qm_extend : QM X "list.extend" pExtend := by
  refine ⟨_, MtR.or (show MtR X _ _ from mt_extend) (show MtR X _ _ from Lq.mt_extT), fun x xs d ds H μ q Q ab r1 r2 h k => ?_⟩
  obtain ⟨y, e, h⟩ := on1_of h
  subst e
  obtain ⟨v, rfl, r⟩ := rds1 r2
  obtain ⟨a, zs, e, e1, h3⟩ := onW_of h
  subst e
  clear h
  obtain ⟨vs, h1, h2⟩ := ab _ _ e1
  split at h3
  · obtain ⟨b, us, rfl, h4, h5⟩ := r.tup'
    have tt := tups_set (K := X.K) h1 True.intro (.lst (vs ++ us))
    exact .inr ⟨a, b, vs, us, r1.ref', rfl, h1, h4, by rw [h2.len, h5.len]; exact h3.1, k _ _ _ _ (.set h1 True.intro e1) (ab.set (o := .lst _) h1 True.intro ⟨_, upd_same, (h2.app h5).mono tt⟩) .non h3.2⟩
  · obtain ⟨ys, e2, hz, h3⟩ := onSome_of h3
    obtain ⟨us, h4, h5⟩ := ab.wlist e2
    have tt := tups_set (K := X.K) h1 True.intro (.lst (vs ++ us))
    exact .inl ⟨a, _, vs, us, r1.ref', by rw [r.ref'], h1, h4, by rw [h2.len, h5.len]; exact hz, k _ _ _ _ (.set h1 True.intro e1) (ab.set (o := .lst _) h1 True.intro ⟨_, upd_same, (h2.app h5).mono tt⟩) .non h3⟩
  · exact h3.elim
def pPop : PRM := fun d ds μ q => onW μ d fun a xs => onSome (xs[xs.length - 1]?) fun y => q y (mset μ a (.lst xs.dropLast))
theorem RDs.dropLast {K : PySem.W.Frag} {H : Hp} {ds : List D} {vs : List V} (h : RDs K H ds vs) : RDs K H ds.dropLast vs.dropLast := by
  rw [List.dropLast_eq_take, List.dropLast_eq_take, h.len]
  exact h.take _
theorem qe_pop {o : Expr} {po : PEx} {apos cpos : Pos} (ho : QE X o po) (hbase : attributeBase o "pop" X.env (eval o X.env) = eval o X.env := by rfl) (hline : (apos.endLine == cpos.line) = true := by rfl) : QE X (.Call (.Attribute o "pop" apos) [] [] cpos) (pBM pPop po pNil) := by
  obtain ⟨t, g1, l1⟩ := ho
  refine ⟨_, pe_bm0 PySem.F.plainAttrs_list PySem.F.slot_list_pop PySem.F.type_list_pop (show MtR X _ _ from mt_pop) g1 hbase hline, fun σ H ss μ q Q rs ab h k => ?_⟩
  refine l1 σ H ss μ _ _ rs ab h fun v H1 d μ1 f1 ab1 r1 h1 => ?_
  refine ⟨isLst_ty ab1 r1 h1.1, ?_⟩
  obtain ⟨a, zs, e, e1, h3⟩ := onW_of (show onW μ1 d _ from h1.2)
  subst e
  obtain ⟨y, e2, h3⟩ := onSome_of h3
  obtain ⟨vs, g2, g3⟩ := ab1 _ _ e1
  obtain ⟨u, e3, r3⟩ := g3.get e2
  have tt := tups_set (K := X.K) g2 True.intro (.lst vs.dropLast)
  exact ⟨a, vs, u, r1.ref', rfl, g2, by rw [g3.len]; exact e3, k _ _ _ _ (f1.trans (.set g2 True.intro e1)) (ab1.set (o := .lst _) g2 True.intro ⟨_, upd_same, g3.dropLast.mono tt⟩) (r3.mono tt) h3⟩
/-! ### isinstance -/
def tyName (μ : Mu) : D → Option String
  | .non => some "NoneType" | .bl _ => some "bool" | .int _ => some "int" | .str _ => some "str" | .tup _ => some "tuple"
  | .ref a => match μ a with
    | some (.lst _) => some "list"
    | some (.rl _) => some "list"
    | some (.dk _) => some "dict"
    | some (.dt _) => some "dict"
    | _ => none
  | .ty _ => none
theorem ty_of {K : PySem.W.Frag} {H : Hp} {μ : Mu} {d : D} {v : V} {n : String} (ab : Abs K μ H) (r : RD K H d v) (h : tyName μ d = some n) : TyX K H v (.type n) := by
  cases d with
  | non => cases h; rw [r.non']; exact .base .non
  | bl b => cases h; rw [r.bl']; exact .base (.bl b)
  | int b => cases h; rw [r.int']; exact .base (.int b)
  | str b => cases h; rw [r.str']; exact .base (.str b)
  | ty b => cases h
  | tup ds =>
    cases h
    obtain ⟨a, vs, rfl, h1, _⟩ := r.tup'
    rcases h1 with (h1 | ⟨o, h1⟩) | ⟨o, its, n, h1, h2, _⟩
    · exact .base (.tup h1)
    · exact .fTuple h1
    · exact .kTuple h1 h2
  | ref a =>
    rw [r.ref']
    simp only [tyName] at h
    split at h
    case h_1 ds e => cases h; obtain ⟨vs, h1, _⟩ := ab _ _ e; exact .base (.lst h1)
    case h_2 ds e =>
      cases h
      obtain ⟨vs, h1, _⟩ := ab _ _ e
      rcases h1 with h1 | ⟨o, h1⟩
      · exact .base (.lst h1)
      · exact .base (.frz h1)
    case h_3 ds e => cases h; obtain ⟨vs, h1, _⟩ := ab _ _ e; exact .base (.dK h1)
    case h_4 ds e => cases h; obtain ⟨vs, h1, _⟩ := ab _ _ e; exact .base (.dT h1)
    case h_5 => cases h
/-- isinstance(x, T), T built in -/
def pIsi : PRN := fun ds μ q => on2 ds fun d c => match c with
  | .ty m => onSome (tyName μ d) fun n => onSome (kitB n m) fun b => q (.bl b) μ
  | _ => False
theorem qc_isi : QC X (.builtin "isinstance") pIsi := by
  refine ⟨_, call_isi, fun xs ds H μ q Q ab rd h k => ?_⟩
  obtain ⟨d, c, e, h2⟩ := on2_of h
  subst e
  clear h
  obtain ⟨v, u, rfl, r1, r2⟩ := rds2 rd
  split at h2
  · obtain ⟨n, e1, h2⟩ := onSome_of h2
    obtain ⟨b, e2, h2⟩ := onSome_of h2
    rw [r2.ty']
    exact ⟨v, _, _, _, b, rfl, .ty _, ty_of ab r1 e1, kit_ty e2, k _ _ _ _ .refl ab .bl h2⟩
  · exact h2.elim
end
end Pl
namespace Pl
open PySem L2
theorem toNat_inj {a b : Char} (h : a.toNat = b.toNat) : a = b := Char.ext (UInt32.toNat_inj.mp h)
theorem map_inj' {α β : Type} {f : α → β} (hf : ∀ a b, f a = f b → a = b) : ∀ {l r : List α}, l.map f = r.map f → l = r
  | [], [], _ => rfl
  | [], _ :: _, h => by cases h
  | _ :: _, [], h => by cases h
  | a :: l, b :: r, h => by
    rw [List.map_cons, List.map_cons] at h
    injection h with h1 h2
    rw [hf a b h1, map_inj' hf h2]
theorem ofStr_inj {a b : String} : (Str.ofString a = Str.ofString b) = (a = b) := by
  apply propext
  constructor
  · intro h
    rw [Str.ofString_eq_toList, Str.ofString_eq_toList] at h
    injection h with h
    have h := congrArg Array.toList h
    rw [List.toList_toArray, List.toList_toArray] at h
    exact String.toList_inj.mp (map_inj' (fun _ _ => toNat_inj) h)
  · intro h
    rw [h]
/-! ### the rules by forms of data -/
section
variable {μ : Mu} {q : EQ} {neg : Bool} {ds es : List D} {d e : D} {x y : Str} {i j : Int} {a b : Addr}
theorem pAdd_int : pAdd (.int i) (.int j) μ q = q (.int (i + j)) μ := rfl
theorem pAdd_str : pAdd (.str x) (.str y) μ q = (x.length + y.length ≤ sizeLine ∧ q (.str (x ++ y)) μ) := rfl
theorem pAdd_tup : pAdd (.tup ds) (.tup es) μ q = (ds.length + es.length ≤ sizeLine ∧ q (.tup (ds ++ es)) μ) := rfl
theorem pAdd_ref : pAdd (.ref a) (.ref b) μ q = onSome (wrl μ a) fun ds => onSome (wrl μ b) fun es => ds.length + es.length ≤ sizeLine ∧ ∀ p, μ p = none → q (.ref p) (mset μ p (.lst (ds ++ es))) := rfl
theorem pMul_int : pMul (.int i) (.int j) μ q = (CMul i j ∧ q (.int (i * j)) μ) := rfl
theorem pMul_tup : pMul (.tup ds) (.int j) μ q = (ds ≠ [] ∧ 2 ≤ j ∧ j ≤ 1000 ∧ ds.length ≤ 1000 ∧ q (.tup (List.replicate j.toNat ds).flatten) μ) := rfl
theorem pMul_ref : pMul (.ref a) (.int j) μ q = onSome (wrl μ a) fun ds => -(2 ^ 63) ≤ j ∧ j < 2 ^ 63 ∧ ds.length * j.toNat ≤ sizeLine ∧ ∀ p, μ p = none → q (.ref p) (mset μ p (.lst (List.replicate j.toNat ds).flatten)) := rfl
theorem pI_int {g : Int → Int → D} : pI g (.int i) (.int j) μ q = q (g i j) μ := rfl
theorem pIC_int {C : Int → Int → Prop} {g : Int → Int → D} : pIC C g (.int i) (.int j) μ q = (C i j ∧ q (g i j) μ) := rfl
theorem pLt_int : pLt (.int i) (.int j) μ q = q (.bl (decide (i < j))) μ := rfl
theorem pLt_str : pLt (.str x) (.str y) μ q = q (.bl (decide (x.cps.toList < y.cps.toList))) μ := rfl
theorem pEq_str : pEq neg (.str x) (.str y) μ q = q (.bl (decide (x = y) != neg)) μ := rfl
theorem pEq_int : pEq neg (.int i) (.int j) μ q = q (.bl (decide (i = j) != neg)) μ := rfl
theorem pEq_bl {i j : Bool} : pEq neg (.bl i) (.bl j) μ q = q (.bl (decide (i = j) != neg)) μ := rfl
theorem pEq_nn : pEq neg .non .non μ q = q (.bl (true != neg)) μ := rfl
theorem pEq_ns : pEq neg .non (.str y) μ q = q (.bl (false != neg)) μ := rfl
theorem pEq_ni : pEq neg .non (.int j) μ q = q (.bl (false != neg)) μ := rfl
theorem pEq_nb {j : Bool} : pEq neg .non (.bl j) μ q = q (.bl (false != neg)) μ := rfl
theorem pEq_sn : pEq neg (.str y) .non μ q = q (.bl (false != neg)) μ := rfl
theorem pEq_in : pEq neg (.int j) .non μ q = q (.bl (false != neg)) μ := rfl
theorem pEq_bn {j : Bool} : pEq neg (.bl j) .non μ q = q (.bl (false != neg)) μ := rfl
theorem pEq_is : pEq neg (.int j) (.str x) μ q = q (.bl (false != neg)) μ := rfl
theorem pEq_si : pEq neg (.str x) (.int j) μ q = q (.bl (false != neg)) μ := rfl
theorem pEq_bs {j : Bool} : pEq neg (.bl j) (.str x) μ q = q (.bl (false != neg)) μ := rfl
theorem pEq_sb {j : Bool} : pEq neg (.str x) (.bl j) μ q = q (.bl (false != neg)) μ := rfl
theorem pIsN_non : pIsN neg d .non μ q = q (.bl (isNon d != neg)) μ := rfl
theorem pIn_str : pIn neg (.str x) (.str y) μ q = q (.bl ((!(Builtin.Str.occurrences y x 0 y.length 1).isEmpty) != neg)) μ := rfl
theorem pIn_tup : pIn neg d (.tup ds) μ q = (flatD d = true ∧ ds.all flatD = true ∧ q (.bl (inD d ds != neg)) μ) := rfl
theorem pIn_lst (h : rdl μ a = some ds) : pIn neg d (.ref a) μ q = (flatD d = true ∧ ds.all flatD = true ∧ q (.bl (inD d ds != neg)) μ) := by
  rcases of_rdl h with h | h <;> (unfold pIn; simp only [h])
theorem pIn_dk {kvs : List (Key × D)} (h : rdk μ a = some kvs) : pIn neg d (.ref a) μ q = onSome (keyOf d) fun k => q (.bl ((valD kvs k).isSome != neg)) μ := by
  rcases of_rdk h with h | ⟨_, _, h⟩ <;> (unfold pIn; simp only [h])
theorem pIx_tup : pIx (.tup ds) (.int i) μ q = onSome (atI ds i) fun x => q x μ := rfl
theorem pIx_str : pIx (.str x) (.int i) μ q = (x.length ≤ sizeLine ∧ onSome (atI x.cps.toList i) fun c => q (.str ⟨#[c]⟩) μ) := rfl
theorem pIx_lst (h : rdl μ a = some ds) : pIx (.ref a) (.int i) μ q = onSome (atI ds i) fun x => q x μ := by
  rcases of_rdl h with h | h <;> (unfold pIx; simp only [h, onInt])
theorem pIx_dk {kvs : List (Key × D)} (h : rdk μ a = some kvs) : pIx (.ref a) e μ q = onSome (keyOf e) fun k => onSome (valD kvs k) fun x => q x μ := by
  rcases of_rdk h with h | ⟨_, _, h⟩ <;> (unfold pIx; simp only [h])
theorem pSl_tup {l u : Option Int} : pSl (.tup ds) l u μ q = q (.tup (cutD ds l u)) μ := rfl
theorem pSl_str {l u : Option Int} : pSl (.str x) l u μ q = (x.length ≤ sizeLine ∧ q (.str (cutS x l u)) μ) := rfl
theorem pSl_ref {l u : Option Int} : pSl (.ref a) l u μ q = onSome (rdl μ a) fun ds => ∀ p, μ p = none → q (.ref p) (mset μ p (.lst (cutD ds l u))) := rfl
theorem lenD_tup : lenD μ (.tup ds) = some ds.length := rfl
theorem lenD_lst (h : rdl μ a = some ds) : lenD μ (.ref a) = some ds.length := by
  rcases of_rdl h with h | h <;> (unfold lenD; simp only [h])
theorem lenD_dk {kvs : List (Key × D)} (h : μ a = some (.dk kvs)) : lenD μ (.ref a) = some kvs.length := by unfold lenD; simp only [h]
theorem lenD_str (h : x.length ≤ sizeLine) : lenD μ (.str x) = some x.length := by simp only [lenD, if_pos h]
theorem tru_lst (h : rdl μ a = some ds) : tru μ (.ref a) = some (!ds.isEmpty) := by
  rcases of_rdl h with h | h <;> (unfold tru; simp only [h])
theorem tru_dk {kvs : List (Key × D)} (h : μ a = some (.dk kvs)) : tru μ (.ref a) = some (!kvs.isEmpty) := by unfold tru; simp only [h]
theorem tru_tup : tru μ (.tup ds) = some (!ds.isEmpty) := rfl
theorem tru_int : tru μ (.int i) = some (i != 0) := rfl
theorem tru_bl {b : Bool} : tru μ (.bl b) = some b := rfl
theorem tru_non : tru μ .non = some false := rfl
theorem seqOf_tup : seqOf μ (.tup ds) = some ds := rfl
theorem seqOf_ref : seqOf μ (.ref a) = rdl μ a := rfl
theorem itemsD_tup : itemsD μ (.tup ds) = some ds := rfl
theorem itemsD_lst (h : rdl μ a = some ds) : itemsD μ (.ref a) = some ds := by
  rcases of_rdl h with h | h <;> (unfold itemsD; simp only [h])
theorem itemsD_dk {kvs : List (Key × D)} (h : μ a = some (.dk kvs)) : itemsD μ (.ref a) = some (kvs.map fun kv => kD kv.1) := by unfold itemsD; simp only [h]
theorem tyName_lst (h : rdl μ a = some ds) : tyName μ (.ref a) = some "list" := by
  rcases of_rdl h with h | h <;> (unfold tyName; simp only [h])
theorem tyName_dk {kvs : List (Key × D)} (h : μ a = some (.dk kvs)) : tyName μ (.ref a) = some "dict" := by unfold tyName; simp only [h]
theorem tyName_tup : tyName μ (.tup ds) = some "tuple" := rfl
theorem tyName_int : tyName μ (.int i) = some "int" := rfl
theorem tyName_bl {b : Bool} : tyName μ (.bl b) = some "bool" := rfl
theorem tyName_str : tyName μ (.str x) = some "str" := rfl
theorem tyName_non : tyName μ .non = some "NoneType" := rfl
theorem onW_lst {k : Addr → List D → Prop} (h : wrl μ a = some ds) : onW μ (.ref a) k = k a ds := by unfold onW; simp only [h, onSome]
theorem isLst_lst (h : rdl μ a = some ds) : isLst μ (.ref a) = True := by unfold isLst; simp only [h, Option.isSome_some]
theorem onSome_s {α : Type} {a : α} {k : α → Prop} : onSome (some a) k = k a := rfl
theorem onSome_n {α : Type} {k : α → Prop} : onSome none k = False := rfl
theorem onInt_i {k : Int → Prop} : onInt (.int i) k = k i := rfl
theorem onBl_b {b : Bool} {k : Bool → Prop} : onBl (.bl b) k = k b := rfl
theorem onStr_s {k : Str → Prop} : onStr (.str x) k = k x := rfl
theorem onTup_t {k : List D → Prop} : onTup (.tup ds) k = k ds := rfl
theorem onRef_r {k : Addr → Prop} : onRef (.ref a) k = k a := rfl
theorem on1_1 {k : D → Prop} : on1 [d] k = k d := rfl
theorem on2_2 {k : D → D → Prop} : on2 [d, e] k = k d e := rfl
theorem pgCons_c {t : PGx} {u : PGsx} {ss : SS} {k : SS → Mu → Prop} : pgCons t u (d :: ds) ss μ k = t d ss μ fun ss' μ' => u ds ss' μ' k := rfl
theorem pIntOf_i : pIntOf [.int i] μ q = q (.int i) μ := rfl
theorem pIntOf_b {b : Bool} : pIntOf [.bl b] μ q = q (.int (if b then 1 else 0)) μ := rfl
theorem pIsi_t {n : String} : pIsi [d, .ty n] μ q = onSome (tyName μ d) fun m => onSome (kitB m n) fun b => q (.bl b) μ := rfl
theorem isNon_n : isNon .non = true := rfl
theorem isNon_b {b : Bool} : isNon (.bl b) = false := rfl
theorem isNon_i : isNon (.int i) = false := rfl
theorem isNon_s : isNon (.str x) = false := rfl
theorem isNon_t : isNon (.tup ds) = false := rfl
theorem isNon_r : isNon (.ref a) = false := rfl
theorem keyOf_i : keyOf (.int i) = some (.inl i) := rfl
theorem keyOf_s : keyOf (.str x) = some (.inr x) := rfl
theorem flatD_i : flatD (.int i) = true := rfl
theorem flatD_s : flatD (.str x) = true := rfl
theorem flatD_b {b : Bool} : flatD (.bl b) = true := rfl
theorem flatD_n : flatD .non = true := rfl
theorem pExt_tup (h : wrl μ a = some ds) : pExtend (.ref a) [.tup es] μ q = (ds.length + es.length ≤ sizeLine ∧ q .non (mset μ a (.lst (ds ++ es)))) := by
  simp only [pExtend, on1, onW, h, onSome]
theorem pExt_ref (h : wrl μ a = some ds) (h2 : wrl μ b = some es) : pExtend (.ref a) [.ref b] μ q = (ds.length + es.length ≤ sizeLine ∧ q .non (mset μ a (.lst (ds ++ es)))) := by
  simp only [pExtend, on1, onW, h, h2, onSome]
theorem pAppend_l (h : wrl μ a = some ds) : pAppend (.ref a) [d] μ q = (ds.length < sizeLine ∧ q .non (mset μ a (.lst (ds ++ [d])))) := by
  simp only [pAppend, on1, onW, h, onSome]
theorem pPop_l (h : wrl μ a = some ds) : pPop (.ref a) es μ q = onSome (ds[ds.length - 1]?) fun y => q y (mset μ a (.lst ds.dropLast)) := by
  simp only [pPop, onW, h, onSome]
theorem isLst_same : isLst (mset μ a (.lst ds)) (.ref a) = True := isLst_lst rdl_same
theorem lenD_same : lenD (mset μ a (.lst ds)) (.ref a) = some ds.length := lenD_lst rdl_same
theorem tru_same : tru (mset μ a (.lst ds)) (.ref a) = some (!ds.isEmpty) := tru_lst rdl_same
theorem pIx_same : pIx (.ref a) (.int i) (mset μ a (.lst ds)) q = onSome (atI ds i) fun x => q x (mset μ a (.lst ds)) := pIx_lst rdl_same
theorem itemsD_same : itemsD (mset μ a (.lst ds)) (.ref a) = some ds := itemsD_lst rdl_same
theorem pAppend_same : pAppend (.ref a) [d] (mset μ a (.lst ds)) q = (ds.length < sizeLine ∧ q .non (mset μ a (.lst (ds ++ [d])))) := by
  rw [pAppend_l wrl_same, mset_mset]
theorem pIn_same : pIn neg d (.ref a) (mset μ a (.lst ds)) q = (flatD d = true ∧ ds.all flatD = true ∧ q (.bl (inD d ds != neg)) (mset μ a (.lst ds))) := pIn_lst rdl_same
theorem own_c {n : Str} {k : Nat} {r : List (Str × Nat)} : List.map (fun x : Str × Nat => x.snd) ((n, k) :: r) = k :: List.map (fun x : Str × Nat => x.snd) r := rfl
theorem own_n : List.map (fun x : Str × Nat => x.snd) [] = [] := rfl
theorem sl_0 : (0 ≤ sizeLine) = True := eq_true (by decide)
theorem sl_1 : (1 ≤ sizeLine) = True := eq_true (by decide)
theorem sl_2 : (2 ≤ sizeLine) = True := eq_true (by decide)
theorem sl_3 : (3 ≤ sizeLine) = True := eq_true (by decide)
theorem sl_4 : (4 ≤ sizeLine) = True := eq_true (by decide)
theorem sl_5 : (5 ≤ sizeLine) = True := eq_true (by decide)
theorem sl_6 : (6 ≤ sizeLine) = True := eq_true (by decide)
theorem sl_7 : (7 ≤ sizeLine) = True := eq_true (by decide)
theorem sl_8 : (8 ≤ sizeLine) = True := eq_true (by decide)
theorem sl_9 : (9 ≤ sizeLine) = True := eq_true (by decide)
theorem sl_10 : (10 ≤ sizeLine) = True := eq_true (by decide)
theorem sl_11 : (11 ≤ sizeLine) = True := eq_true (by decide)
theorem sl_12 : (12 ≤ sizeLine) = True := eq_true (by decide)
theorem sl_13 : (13 ≤ sizeLine) = True := eq_true (by decide)
theorem sl_14 : (14 ≤ sizeLine) = True := eq_true (by decide)
theorem sl_15 : (15 ≤ sizeLine) = True := eq_true (by decide)
theorem sl_16 : (16 ≤ sizeLine) = True := eq_true (by decide)
theorem sl_17 : (17 ≤ sizeLine) = True := eq_true (by decide)
theorem sl_18 : (18 ≤ sizeLine) = True := eq_true (by decide)
theorem sl_19 : (19 ≤ sizeLine) = True := eq_true (by decide)
theorem sl_20 : (20 ≤ sizeLine) = True := eq_true (by decide)
theorem atI_0 {α : Type} {x : α} {r : List α} : atI (x :: r) 0 = some x := atI_nat (j := 0) rfl
theorem atI_1 {α : Type} {x y : α} {r : List α} : atI (x :: y :: r) 1 = some y := atI_nat (j := 1) rfl
theorem atI_2 {α : Type} {x y z : α} {r : List α} : atI (x :: y :: z :: r) 2 = some z := atI_nat (j := 2) rfl
theorem atI_3 {α : Type} {x y z u : α} {r : List α} : atI (x :: y :: z :: u :: r) 3 = some u := atI_nat (j := 3) rfl
theorem atI_4 {α : Type} {x y z u w : α} {r : List α} : atI (x :: y :: z :: u :: w :: r) 4 = some w := atI_nat (j := 4) rfl
theorem atI_m1 {α : Type} {x : α} : atI [x] (-1) = some x := rfl
theorem atI_m2 {α : Type} {x y : α} : atI [x, y] (-1) = some y := rfl
theorem atI_m3 {α : Type} {x y z : α} : atI [x, y, z] (-1) = some z := rfl
theorem atI_m4 {α : Type} {x y z u : α} : atI [x, y, z, u] (-1) = some u := rfl
theorem piSeq_tup {k : List D → (Mu → Prop) → Mu → Prop} {pa : PEx} {ss : SS} : piSeq pa ss μ k = pa ss μ fun d μ1 => match d with
  | .tup ds => k ds okT μ1
  | .ref a => onSome (rdl μ1 a) fun ds => k ds (okL a ds) μ1
  | _ => False := rfl
theorem cutD_1 {x : D} : cutD (x :: ds) (some 1) none = ds := by
  unfold cutD
  have h1 : HT.sIx (x :: ds).length 0 (some 1) = 1 := by
    simp [HT.sIx]
    <;> omega
  have h2 : HT.sIx (x :: ds).length (x :: ds).length none = (x :: ds).length := by simp [HT.sIx]
  rw [h1, h2]
  simp
theorem kit_tt : kitB "tuple" "tuple" = some true := by decide +kernel
end
/-! ### the end of a def -/
theorem end_of {q : EQ} {d : D} {μ : Mu} (h : q d μ) : ∃ μ', Mle μ' μ ∧ q d μ' := ⟨μ, .refl, h⟩
end Pl
namespace Pl
open PySem L2 PySem.Spec PyProof.Rows
section
variable {X : Cx} {a b c e : Expr} {es : List Expr} {pos : Pos} {pa pb pc : PEx} {pr : PAx} {pt pu : PTx}
/-! ### backwards, minus, chains, stars -/
def pBackT (pa : PEx) : PEx := fun ss μ q => pa ss μ fun d μ1 => onTup d fun ds => q (.tup ds.reverse) μ1
theorem qe_backT {k : Nat} {p1 p2 p3 : Pos} (he : QE X e pa) : QE X (.Subscript e (.Slice none none (some (.UnaryOp .USub (.Constant (.int 1) k p1) p2)) p3) pos) (pBackT pa) := by
  obtain ⟨t, g, l⟩ := he
  refine ⟨_, Lq.pe_backT g, fun σ H ss μ q Q rs ab h k => ?_⟩
  refine l σ H ss μ _ _ rs ab h fun v H1 d μ1 f1 ab1 r1 h1 => ?_
  obtain ⟨ds, e, h2⟩ := onTup_of h1
  subst e
  obtain ⟨a, vs, rfl, g2, g3⟩ := r1.tup'
  exact ⟨a, vs, rfl, g2, fun p hp => k _ _ _ _ (f1.trans (.tuple hp)) (ab1.new hp) (.tup sq_new (g3.rev.mono (tups_new hp _))) h2⟩
def pBackL (pa : PEx) : PEx := fun ss μ q => pa ss μ fun d μ1 => onL μ1 d fun ds => ∀ p, μ1 p = none → q (.ref p) (mset μ1 p (.lst ds.reverse))
theorem qe_backL {k : Nat} {p1 p2 p3 : Pos} (he : QE X e pa) : QE X (.Subscript e (.Slice none none (some (.UnaryOp .USub (.Constant (.int 1) k p1) p2)) p3) pos) (pBackL pa) := by
  obtain ⟨t, g, l⟩ := he
  refine ⟨_, Lq.pe_backL g, fun σ H ss μ q Q rs ab h k => ?_⟩
  refine l σ H ss μ _ _ rs ab h fun v H1 d μ1 f1 ab1 r1 h1 => ?_
  obtain ⟨a, ds, vs, rfl, g2, g3, h1⟩ := onL_of ab1 r1 h1
  exact ⟨a, vs, rfl, g2, fun p hp => k _ _ _ _ (f1.trans (.put hp)) (ab1.put (o := .lst _) hp ⟨_, upd_same, g3.rev.mono (tups_new hp _)⟩) .ref (h1 p (ab1.free hp))⟩
def pNeg (pa : PEx) : PEx := fun ss μ q => pa ss μ fun d μ1 => onInt d fun i => q (.int (-i)) μ1
theorem qe_neg (he : QE X e pa) : QE X (.UnaryOp .USub e pos) (pNeg pa) := by
  obtain ⟨t, g, l⟩ := he
  refine ⟨_, pe_un un_neg g, fun σ H ss μ q Q rs ab h k => ?_⟩
  refine l σ H ss μ _ _ rs ab h fun v H1 d μ1 f1 ab1 r1 h1 => ?_
  obtain ⟨i, e, h2⟩ := onInt_of h1
  subst e
  exact ⟨i, r1.int', k _ _ _ _ f1 ab1 .int h2⟩
def pChain (r r' : PR2) (pa pb pc : PEx) : PEx := fun ss μ q => pa ss μ fun d μ1 => pb ss μ1 fun e μ2 => r d e μ2 fun z μ3 => onBl z fun k => if k = true then pc ss μ3 fun f μ4 => r' e f μ4 q else q (.bl false) μ3
theorem li_chain {K : PySem.W.Frag} {ta tb tc : TE} {r r' : R2} {p p' : PR2} (l1 : LiE K ta pa) (l2 : LiE K tb pb) (l3 : LiE K tc pc) (lr : LiR K r p) (lr' : LiR K r' p') : LiE K (tChain r r' ta tb tc) (pChain p p' pa pb pc) := fun σ H ss μ q Q rs ab h k => by
  refine l1 σ H ss μ _ _ rs ab h fun v H1 d μ1 f1 ab1 r1 h1 => ?_
  refine l2 σ H1 ss μ1 _ _ (rs.mono f1.tup) ab1 h1 fun w H2 e μ2 f2 ab2 r2 h2 => ?_
  refine lr v w d e H2 μ2 _ _ ab2 (r1.mono f2.tup) r2 h2 fun v3 H3 d3 μ3 f3 ab3 r3 h3 => ?_
  obtain ⟨b, e3, h4⟩ := onBl_of h3
  subst e3
  have f13 := (f1.trans f2).trans f3
  refine ⟨b, r3.bl', ?_⟩
  cases b with
  | false => exact iteF (k _ _ _ _ f13 ab3 .bl (by simpa using h4))
  | true =>
    refine iteT (l3 σ H3 ss μ3 _ _ (rs.mono f13.tup) ab3 ((if_pos rfl).mp h4) fun u H4 f μ4 f4 ab4 r4 h5 => ?_)
    exact lr' w u e f H4 μ4 q Q ab4 (r2.mono (f3.trans f4).tup) r4 h5 fun v5 H5 d5 μ5 f5 ab5 r5 h6 => k _ _ _ _ ((f13.trans f4).trans f5) ab5 r5 h6
theorem qe_chain {op op' : CmpOp} {p p' : PR2} (ho : QOp X (compareOp op) p) (ho' : QOp X (compareOp op') p') (ha : QE X a pa) (hb : QE X b pb) (hc : QE X c pc) (hm : lastMarks [op, op'] [b, c] = false := by with_unfolding_all rfl) : QE X (.Compare a [op, op'] [b, c] pos) (pChain p p' pa pb pc) := by
  obtain ⟨r, o, lr⟩ := ho
  obtain ⟨r', o', lr'⟩ := ho'
  obtain ⟨t, h1, l1⟩ := ha
  obtain ⟨u, h2, l2⟩ := hb
  obtain ⟨w, h3, l3⟩ := hc
  exact ⟨_, pe_chain o o' h1 h2 h3 hm, li_chain l1 l2 l3 lr lr'⟩
def pTChain (r r' : PR2) (pa pb pc : PEx) : PTx := fun ss μ q => pa ss μ fun d μ1 => pb ss μ1 fun e μ2 => r d e μ2 fun z μ3 => onBl z fun k => if k = true then pc ss μ3 fun f μ4 => r' e f μ4 fun y μ5 => onBl y fun k => q k μ5 else q false μ3
theorem qt_chain {op op' : CmpOp} {p p' : PR2} (ho : QOp X (compareOp op) p) (ho' : QOp X (compareOp op') p') (ha : QE X a pa) (hb : QE X b pb) (hc : QE X c pc) (hm : lastMarks [op, op'] [b, c] = false := by with_unfolding_all rfl) : QT X (.Compare a [op, op'] [b, c] pos) (pTest (pChain p p' pa pb pc)) := by
  obtain ⟨r, o, lr⟩ := ho
  obtain ⟨r', o', lr'⟩ := ho'
  obtain ⟨t, h1, l1⟩ := ha
  obtain ⟨u, h2, l2⟩ := hb
  obtain ⟨w, h3, l3⟩ := hc
  exact ⟨_, pt_chain o o' h1 h2 h3 hm, li_test (li_chain l1 l2 l3 lr lr')⟩
def pStar (pa : PEx) (pr : PAx) : PAx := fun ss μ q => pa ss μ fun d μ1 => onSome (seqOf μ1 d) fun xs => pr ss μ1 fun ds μ2 => q (xs ++ ds) μ2
theorem qa_star {p : Pos} (he : QE X e pa) (hr : QA X es pr) (hs : starEach (.Starred e p :: es) X.env = (true, eval e X.env) :: starEach es X.env := by rfl) : QA X (.Starred e p :: es) (pStar pa pr) := by
  obtain ⟨t, g1, l1⟩ := he
  obtain ⟨u, g2, l2⟩ := hr
  refine ⟨_, StX.pa_star g1 g2 hs, fun σ H ss μ q Q rs ab h k => ?_⟩
  refine l1 σ H ss μ _ _ rs ab h fun v H1 d μ1 f1 ab1 r1 h1 => ?_
  obtain ⟨xs, e1, h2⟩ := onSome_of h1
  obtain ⟨a, vs, rfl, g3, g4⟩ := ab1.seq r1 e1
  refine ⟨a, vs, rfl, g3.symm, l2 σ H1 ss μ1 _ _ (rs.mono f1.tup) ab1 h2 fun us H2 ds μ2 f2 ab2 r2 h3 => ?_⟩
  exact k _ _ _ _ (f1.trans f2) ab2 ((g4.mono f2.tup).app r2) h3
/-! ### texts -/
def pFmt (pa : PEx) : PEx := fun ss μ q => pa ss μ fun d μ1 => match d with
  | .str y => y.length ≤ sizeLine ∧ q (.str y) μ1
  | .int i => i.natAbs.log2 < 1920 ∧ q (.str (toString i)) μ1
  | _ => False
theorem qe_fmt (he : QE X e pa) : QE X (.FormattedValue e (-1) none pos) (pFmt pa) := by
  obtain ⟨t, g, l⟩ := he
  refine ⟨_, pe_fmt g, fun σ H ss μ q Q rs ab h k => ?_⟩
  refine l σ H ss μ _ _ rs ab h fun v H1 d μ1 f1 ab1 r1 h1 => ?_
  split at h1
  · exact .inl ⟨_, r1.str', h1.1, k _ _ _ _ f1 ab1 .str h1.2⟩
  · exact .inr ⟨_, r1.int', h1.1, k _ _ _ _ f1 ab1 .str h1.2⟩
  · exact h1.elim
inductive QJ (X : Cx) : List Expr → List PEx → Prop where
  | nil : QJ X [] []
  | cons {e : Expr} {p : PEx} {es : List Expr} {ps : List PEx} (h : QE X e p) (r : QJ X es ps) : QJ X (e :: es) (p :: ps)
def pJs : List PEx → Str → SS → Mu → (Str → Mu → Prop) → Prop
  | [], acc, _, μ, q => q acc μ
  | p :: ps, acc, ss, μ, q => p ss μ fun d μ1 => onStr d fun y => (acc ++ y).length ≤ sizeLine ∧ pJs ps (acc ++ y) ss μ1 q
theorem qj_of {es : List Expr} {ps : List PEx} (h : QJ X es ps) : ∃ ts, PJ X es ts ∧ ∀ (acc : Str) (σ : L2.St) (H : Hp) (ss : SS) (μ : Mu) (q : Str → Mu → Prop) (Q : Str → Hp → Prop), RS X.K H ss σ → Abs X.K μ H → pJs ps acc ss μ q →
    (∀ y H' μ', Fm X.K H μ H' μ' → Abs X.K μ' H' → q y μ' → Q y H') → tJs ts acc σ H Q := by
  induction h with
  | nil => exact ⟨[], .nil, fun acc σ H ss μ q Q rs ab h k => k acc H μ .refl ab h⟩
  | cons h r ih =>
    obtain ⟨t, g, l⟩ := h
    obtain ⟨ts, g2, l2⟩ := ih
    refine ⟨t :: ts, .cons g g2, fun acc σ H ss μ q Q rs ab h k => ?_⟩
    refine l σ H ss μ _ _ rs ab h fun v H1 d μ1 f1 ab1 r1 h1 => ?_
    obtain ⟨y, e, hz, h2⟩ := onStr_of h1
    subst e
    exact ⟨y, r1.str', hz, l2 _ σ H1 ss μ1 q Q (rs.mono f1.tup) ab1 h2 fun z H2 μ2 f2 ab2 h3 => k _ _ _ (f1.trans f2) ab2 h3⟩
def pJoined (ps : List PEx) : PEx := fun ss μ q => pJs ps Str.empty ss μ fun y μ1 => q (.str y) μ1
theorem qe_joined {v1 v2 : Expr} {rest : List Expr} {ps : List PEx} (h : QJ X (v1 :: v2 :: rest) ps) : QE X (.JoinedStr (v1 :: v2 :: rest) pos) (pJoined ps) := by
  obtain ⟨ts, g, l⟩ := qj_of h
  exact ⟨_, pe_joined g, fun σ H ss μ q Q rs ab h k => l _ σ H ss μ _ _ rs ab h fun y H1 μ1 f1 ab1 h1 => k _ _ _ _ f1 ab1 .str h1⟩
theorem qe_joined1 (he : QE X e pa) : QE X (.JoinedStr [e] pos) pa := by
  obtain ⟨t, g, l⟩ := he
  exact ⟨_, pe_joined1 g, l⟩
def strsOf : List D → Option (List Str)
  | [] => some []
  | .str i :: r => (strsOf r).map fun l => i :: l
  | _ :: _ => none
theorem strsOf_map : ∀ {ns : List Str}, strsOf (ns.map D.str) = some ns
  | [] => rfl
  | n :: r => by rw [List.map_cons, strsOf, strsOf_map]; rfl
theorem of_strsOf : ∀ {ds : List D} {ns : List Str}, strsOf ds = some ns → ds = ns.map D.str
  | [], _, h => by cases h; rfl
  | d :: r, ns, h => by
    cases d with
    | str i =>
      unfold strsOf at h
      cases e : strsOf r with
      | none => rw [e] at h; cases h
      | some l =>
        rw [e] at h
        cases h
        rw [of_strsOf e]
        rfl
    | _ => cases h
def pJoin (po pa : PEx) : PEx := fun ss μ q => po ss μ fun d μ1 => onStr d fun a => pa ss μ1 fun e μ2 => onSome (seqOf μ2 e) fun es => onSome (strsOf es) fun ys => (ys.map (·.length)).sum + ys.length * a.length ≤ 16777216 ∧ q (.str (Txt.join a ys)) μ2
theorem qe_join {o : Expr} {apos : Pos} (ho : QE X o pa) (he : QE X e pb) (hs : starEach [e] X.env = [(false, eval e X.env)] := by rfl) (hbase : attributeBase o "join" X.env (eval o X.env) = eval o X.env := by rfl) (hline : (apos.endLine == pos.line) = true := by rfl) :
    QE X (.Call (.Attribute o "join" apos) [e] [] pos) (pJoin pa pb) := by
  obtain ⟨t, g1, l1⟩ := ho
  obtain ⟨u, g2, l2⟩ := he
  refine ⟨_, pe_join g1 g2 hs hbase hline, fun σ H ss μ q Q rs ab h k => ?_⟩
  refine l1 σ H ss μ _ _ rs ab h fun v H1 d μ1 f1 ab1 r1 h1 => ?_
  obtain ⟨z, e, h2⟩ := onStr_of h1
  subst e
  refine ⟨⟨z, r1.str'⟩, l2 σ H1 ss μ1 _ _ (rs.mono f1.tup) ab1 h2 fun w H2 e μ2 f2 ab2 r2 h3 => ?_⟩
  obtain ⟨es, e1, h3⟩ := onSome_of h3
  obtain ⟨ys, e2, hz, h3⟩ := onSome_of h3
  obtain ⟨p, vs, rfl, g3, g4⟩ := ab2.seq r2 e1
  rw [of_strsOf e2] at g4
  rw [g4.strs'] at g3
  exact ⟨z, p, ys, r1.str', rfl, g3, hz, k _ _ _ _ (f1.trans f2) ab2 .str h3⟩
/-! ### del -/
def pDelT (pa : PEx) (pl : POx) : PSx := fun d ss μ => pa ss μ fun x μ1 => pl ss μ1 fun i μ2 => onSome i fun j => onW μ2 x fun a xs => 0 ≤ j ∧ j ≤ xs.length ∧ d.nx ss (mset μ2 a (.lst (xs.take j.toNat)))
theorem qs_delT {o lo : Expr} {p2 tpos : Pos} {pl : POx} (ho : QE X o pa) (hl : QO X (some lo) pl) : QS X (.Delete [.Subscript o (.Slice (some lo) none none p2) tpos] pos) (pDelT pa pl) := by
  obtain ⟨t, g1, l1⟩ := ho
  obtain ⟨u, g2, l2⟩ := hl
  refine ⟨_, Lq.ps_delT g1 g2, fun σ H ss μ D d rs ab h er => ?_⟩
  refine l1 σ H ss μ _ _ rs ab h fun v H1 x μ1 f1 ab1 r1 h1 => ?_
  refine l2 σ H1 ss μ1 _ _ (rs.mono f1.tup) ab1 h1 fun i H2 μ2 f2 ab2 h2 => ?_
  obtain ⟨j, e, h3⟩ := onSome_of h2
  subst e
  obtain ⟨a, xs, e, e1, j0, j1, h9⟩ := onW_of h3
  subst e
  obtain ⟨vs, g3, g4⟩ := ab2 _ _ e1
  have tt := tups_set (K := X.K) g3 True.intro (.lst (vs.take j.toNat))
  refine ⟨a, vs, j.toNat, (r1.mono f2.tup).ref', by rw [Int.toNat_of_nonneg j0], g3, by rw [g4.len]; omega, ?_⟩
  exact er.nx _ _ _ _ ((f1.trans f2).trans (.set g3 True.intro e1)) ((rs.mono (f1.trans f2).tup).mono tt) (ab2.set (o := .lst _) g3 True.intro ⟨_, upd_same, (g4.take _).mono tt⟩) h9
/-! ### dicts -/
def pDnew : PEx := fun _ μ q => ∀ p, μ p = none → q (.ref p) (mset μ p (.dk []))
theorem qe_dnew : QE X (.Dict [] [] pos) pDnew := ⟨_, pe_dnewK, fun σ H ss μ q Q rs ab h k p hp => k _ _ _ _ (.put hp) (ab.put (o := .dk _) hp ⟨[], upd_same, .nil⟩) .ref (h p (ab.free hp))⟩
def pDnewT : PEx := fun _ μ q => ∀ p, μ p = none → q (.ref p) (mset μ p (.dt []))
theorem qe_dnewT : QE X (.Dict [] [] pos) pDnewT := ⟨_, pe_dnewT, fun σ H ss μ q Q rs ab h k p hp => k _ _ _ _ (.put hp) (ab.put (o := .dt _) hp ⟨[], upd_same, .nil⟩) .ref (h p (ab.free hp))⟩
def pPairs : List (PEx × PEx) → SS → Mu → (List (D × D) → Mu → Prop) → Prop
  | [], _, μ, q => q [] μ
  | (pk, pv) :: r, ss, μ, q => pk ss μ fun x μ1 => pv ss μ1 fun y μ2 => pPairs r ss μ2 fun ps μ3 => q ((x, y) :: ps) μ3
structure QPs (X : Cx) (pos : Pos) (keys : List (Option Expr)) (values : List Expr) (ps : List (PEx × PEx)) : Prop where
  ex : ∃ ts, PPs X pos keys values ts ∧ ∀ (σ : L2.St) (H : Hp) (ss : SS) (μ : Mu) (q : List (D × D) → Mu → Prop) (Q : List (V × V) → Hp → Prop), RS X.K H ss σ → Abs X.K μ H → pPairs ps ss μ q →
    (∀ vs H' ds μ', Fm X.K H μ H' μ' → Abs X.K μ' H' → Paired (fun (d : D × D) (v : V × V) => RD X.K H' d.1 v.1 ∧ RD X.K H' d.2 v.2) ds vs → q ds μ' → Q vs H') → tPairs ts σ H Q
theorem qps_nil : QPs X pos [] [] [] := ⟨[], pps_nil, fun σ H ss μ q Q rs ab h k => k [] H [] μ .refl ab .nil h⟩
theorem qps_cons {kx vx : Expr} {ks : List (Option Expr)} {vs : List Expr} {ps : List (PEx × PEx)} (hk : QE X kx pa) (hv : QE X vx pb) (hr : QPs X pos ks vs ps) : QPs X pos (some kx :: ks) (vx :: vs) ((pa, pb) :: ps) := by
  obtain ⟨t, g1, l1⟩ := hk
  obtain ⟨u, g2, l2⟩ := hv
  obtain ⟨w, g3, l3⟩ := hr
  refine ⟨_, pps_cons g1 g2 g3, fun σ H ss μ q Q rs ab h k => ?_⟩
  refine l1 σ H ss μ _ _ rs ab h fun v H1 d μ1 f1 ab1 r1 h1 => ?_
  refine l2 σ H1 ss μ1 _ _ (rs.mono f1.tup) ab1 h1 fun v2 H2 d2 μ2 f2 ab2 r2 h2 => ?_
  refine l3 σ H2 ss μ2 _ _ (rs.mono (f1.trans f2).tup) ab2 h2 fun vs H3 ds μ3 f3 ab3 r3 h3 => ?_
  exact k _ _ _ _ ((f1.trans f2).trans f3) ab3 (.cons ⟨r1.mono (f2.trans f3).tup, r2.mono f3.tup⟩ r3) h3
def keysOf : List (D × D) → Option (List (Key × D))
  | [] => some []
  | (d, e) :: r => (keyOf d).bind fun k => (keysOf r).map fun l => (k, e) :: l
theorem of_keysOf {K : PySem.W.Frag} {H : Hp} : ∀ {ds : List (D × D)} {vs : List (V × V)} {kvs : List (Key × D)}, Paired (fun (d : D × D) (v : V × V) => RD K H d.1 v.1 ∧ RD K H d.2 v.2) ds vs → keysOf ds = some kvs →
    ∃ kws : List (Key × V), vs = kws.map (fun kv => (kV kv.1, kv.2)) ∧ Kv K H kvs kws
  | _, _, _, .nil, h => by cases h; exact ⟨[], rfl, .nil⟩
  | (d, e) :: ds, (v, u) :: vs, kvs, .cons ⟨h1, h2⟩ t, h => by
    unfold keysOf at h
    cases e1 : keyOf d with
    | none => rw [e1] at h; cases h
    | some k =>
      rw [e1] at h
      cases e2 : keysOf ds with
      | none => simp [e2] at h
      | some l =>
        simp only [e2, Option.bind_some, Option.map_some, Option.some.injEq] at h
        subst h
        obtain ⟨kws, h3, h4⟩ := of_keysOf t e2
        refine ⟨(k, u) :: kws, ?_, .cons ⟨rfl, h2⟩ h4⟩
        rw [h3, List.map_cons, keyOf_of (v := v) h1 e1]
def mergeD (kvs more : List (Key × D)) : List (Key × D) := more.foldl (fun acc kv => putD acc kv.1 kv.2) kvs
theorem Kv.merge {K : PySem.W.Frag} {H : Hp} : ∀ {more : List (Key × D)} {mws : List (Key × V)} {kvs : List (Key × D)} {kws : List (Key × V)}, Kv K H more mws → Kv K H kvs kws → Kv K H (mergeD kvs more) (mergeK kws mws)
  | _, _, _, _, .nil, h => h
  | p :: more, q :: mws, kvs, kws, .cons ⟨h1, h2⟩ t, h => by
    show Kv K H (mergeD (putD kvs p.1 p.2) more) (mergeK (putK kws q.1 q.2) mws)
    rw [h1]
    exact Kv.merge t (h.put h2)
def pDisp (ps : List (PEx × PEx)) : PEx := fun ss μ q => pPairs ps ss μ fun ds μ1 => onSome (keysOf ds) fun kvs => kvs.length ≤ 15 ∧ ∀ p, μ1 p = none → q (.ref p) (mset μ1 p (.dk (mergeD [] kvs)))
theorem qe_disp {keys : List (Option Expr)} {values : List Expr} {ps : List (PEx × PEx)} (h : QPs X pos keys values ps) (hall : keys.all (·.isSome) = true) (hl : keys.length = values.length) (h0 : keys ≠ []) (hm : keys.length ≤ 15) : QE X (.Dict keys values pos) (pDisp ps) := by
  obtain ⟨ts, g, l⟩ := h
  refine ⟨_, pe_disp g hall hl h0 hm, fun σ H ss μ q Q rs ab h k => ?_⟩
  intro p hp
  refine l σ _ ss μ _ _ (rs.mono (tups_new hp _)) (ab.new hp) h fun vs H1 ds μ1 f1 ab1 r1 h1 => ?_
  have fp : Fm X.K H μ (upd H p (.dK [])) μ := .tuple hp
  obtain ⟨kvs, e, hz, h2⟩ := onSome_of h1
  obtain ⟨kws, e2, hk⟩ := of_keysOf r1 e
  have fre := f1.new p (by rw [upd_same]; exact fun z => nomatch z) (ab.free hp)
  have hpe := f1.stay p _ upd_same (ab.free hp)
  have f2 := (fp.trans f1).hid (o := .dK (mergeK [] kws)) hp hpe True.intro
  have ab2 := ab1.hid (o := .dK (mergeK [] kws)) fre hpe True.intro
  refine ⟨hpe, kws, e2, by rw [← kv_len hk]; exact hz, k _ _ _ _ (f2.seen hp) (ab2.seen (u := .dk _) ⟨_, upd_same, ?_⟩) .ref (h2 p fre)⟩
  exact (Kv.merge hk .nil).mono (tups_set hpe True.intro _)
def pGet2 (pa pb pc : PEx) : PEx := fun ss μ q => pa ss μ fun d μ1 => onRef d fun a => (rdk μ1 a).isSome = true ∧ pb ss μ1 fun y μ2 => pc ss μ2 fun z μ3 => onSome (rdk μ3 a) fun kvs => onSome (keyOf y) fun k => q ((valD kvs k).getD z) μ3
theorem isD_of {K : PySem.W.Frag} {H : Hp} {μ : Mu} {a : Addr} (ab : Abs K μ H) (h : (rdk μ a).isSome = true) : IsD H a := by
  obtain ⟨kvs, e⟩ := Option.isSome_iff_exists.mp h
  obtain ⟨kws, h1, _⟩ := ab.dkey e
  exact .inl ⟨kws, h1⟩
theorem getD_rd {K : PySem.W.Frag} {H : Hp} {kvs : List (Key × D)} {kws : List (Key × V)} {k : Key} {z : D} {v : V} (h : Kv K H kvs kws) (r : RD K H z v) : RD K H ((valD kvs k).getD z) ((valV kws k).getD v) := by
  obtain ⟨h1, h2⟩ := valD_of (k := k) h
  cases e : valD kvs k with
  | none => rw [h2 e]; exact r
  | some d => obtain ⟨u, e2, r2⟩ := h1 d e; rw [e2]; exact r2
theorem qe_get2 {o e f : Expr} {apos cpos : Pos} (hu : X.A.units + 1 < cLine) (ho : QE X o pa) (he : QE X e pb) (hf : QE X f pc) (m : M2 X o "get" apos e f cpos := by exact ⟨rfl, rfl, rfl, rfl⟩) : QE X (.Call (.Attribute o "get" apos) [e, f] [] cpos) (pGet2 pa pb pc) := by
  obtain ⟨t, g1, l1⟩ := ho
  obtain ⟨u, g2, l2⟩ := he
  obtain ⟨w, g3, l3⟩ := hf
  refine ⟨_, pe_dget2 hu g1 g2 g3 m, fun σ H ss μ q Q rs ab h k => ?_⟩
  refine l1 σ H ss μ _ _ rs ab h fun v H1 d μ1 f1 ab1 r1 h1 => ?_
  obtain ⟨a, e, hd, h2⟩ := onRef_of h1
  subst e
  refine ⟨a, r1.ref', isD_of ab1 hd, l2 σ H1 ss μ1 _ _ (rs.mono f1.tup) ab1 h2 fun v2 H2 d2 μ2 f2 ab2 r2 h3 => ?_⟩
  refine l3 σ H2 ss μ2 _ _ (rs.mono (f1.trans f2).tup) ab2 h3 fun v3 H3 d3 μ3 f3 ab3 r3 h4 => ?_
  obtain ⟨kvs, e1, h4⟩ := onSome_of h4
  obtain ⟨kk, e2, h4⟩ := onSome_of h4
  obtain ⟨kws, g4, g5⟩ := ab3.dkey e1
  exact ⟨_, .inl ⟨kws, kk, g4, keyOf_of (r2.mono f3.tup) e2, rfl⟩, k _ _ _ _ ((f1.trans f2).trans f3) ab3 (getD_rd g5 r3) h4⟩
def pGet1 (pa pb : PEx) : PEx := fun ss μ q => pa ss μ fun d μ1 => onRef d fun a => (rdk μ1 a).isSome = true ∧ pb ss μ1 fun y μ2 => onSome (rdk μ2 a) fun kvs => onSome (keyOf y) fun k => q ((valD kvs k).getD .non) μ2
theorem qe_get1 {o e : Expr} {apos cpos : Pos} (hu : X.A.units + 1 < cLine) (ho : QE X o pa) (he : QE X e pb) (m : M1 X o "get" apos e cpos := by exact ⟨rfl, rfl, rfl, rfl⟩) : QE X (.Call (.Attribute o "get" apos) [e] [] cpos) (pGet1 pa pb) := by
  obtain ⟨t, g1, l1⟩ := ho
  obtain ⟨u, g2, l2⟩ := he
  refine ⟨_, pe_dget1 hu g1 g2 m, fun σ H ss μ q Q rs ab h k => ?_⟩
  refine l1 σ H ss μ _ _ rs ab h fun v H1 d μ1 f1 ab1 r1 h1 => ?_
  obtain ⟨a, e, hd, h2⟩ := onRef_of h1
  subst e
  refine ⟨a, r1.ref', isD_of ab1 hd, l2 σ H1 ss μ1 _ _ (rs.mono f1.tup) ab1 h2 fun v2 H2 d2 μ2 f2 ab2 r2 h3 => ?_⟩
  obtain ⟨kvs, e1, h4⟩ := onSome_of h3
  obtain ⟨kk, e2, h4⟩ := onSome_of h4
  obtain ⟨kws, g4, g5⟩ := ab2.dkey e1
  exact ⟨_, .inl ⟨kws, kk, g4, keyOf_of r2 e2, rfl⟩, k _ _ _ _ (f1.trans f2) ab2 (getD_rd g5 .non) h4⟩
/-! ### fields, methods, new instances -/
def onIns (C : Addr) (μ : Mu) (d : D) (k : Addr → Addr → List (Str × D) → Prop) : Prop := match d with
  | .ref a => match μ a with
    | some (.ins C' dx fs) => C' = C ∧ k a dx fs
    | _ => False
  | _ => False
theorem onIns_of {C : Addr} {μ : Mu} {d : D} {k : Addr → Addr → List (Str × D) → Prop} (h : onIns C μ d k) : ∃ a dx fs, d = .ref a ∧ μ a = some (.ins C dx fs) ∧ k a dx fs := by
  unfold onIns at h
  split at h
  · split at h
    · obtain ⟨rfl, h⟩ := h
      exact ⟨_, _, _, rfl, by assumption, h⟩
    · exact h.elim
  · exact h.elim
theorem onIns_ref {C a dx : Addr} {fs : List (Str × D)} {μ : Mu} {k : Addr → Addr → List (Str × D) → Prop} (h : μ a = some (.ins C dx fs)) : onIns C μ (.ref a) k = k a dx fs := by
  simp only [onIns, h, true_and]
theorem kv_lookup {K : PySem.W.Frag} {H : Hp} {f : Str} : ∀ {fs : List (Str × D)} {ws : List (Str × V)}, Kv K H fs ws → (∀ d, fs.lookup f = some d → ∃ v, ws.lookup f = some v ∧ RD K H d v) ∧ (fs.lookup f = none → ws.lookup f = none)
  | _, _, .nil => ⟨fun d h => (nomatch h), fun _ => rfl⟩
  | p :: fs, q :: ws, .cons ⟨h1, h2⟩ t => by
    obtain ⟨i1, i2⟩ := kv_lookup (f := f) t
    obtain ⟨pk, pv⟩ := p
    obtain ⟨qk, qv⟩ := q
    obtain rfl : pk = qk := h1
    rw [List.lookup_cons, List.lookup_cons]
    cases e : f == pk with
    | true => exact ⟨fun d h => ⟨qv, rfl, by cases h; exact h2⟩, fun h => (nomatch h)⟩
    | false => exact ⟨i1, i2⟩
def pFld (C : Addr) (f : Str) (pa : PEx) : PEx := fun ss μ q => pa ss μ fun d μ1 => onIns C μ1 d fun _ _ fs => onSome (fs.lookup f) fun v => q v μ1
theorem qe_fld {C : Addr} {f : Str} (c : Cls X.K C ∧ NoAttr X.K C f) (he : QE X e pa) (hb : attributeBase e f X.env (eval e X.env) = eval e X.env := by rfl) : QE X (.Attribute e f pos) (pFld C f pa) := by
  obtain ⟨t, g, l⟩ := he
  refine ⟨_, pe_fld g hb, fun σ H ss μ q Q rs ab h k => ?_⟩
  refine l σ H ss μ _ _ rs ab h fun v H1 d μ1 f1 ab1 r1 h1 => ?_
  obtain ⟨a, dx, fs, e, e1, h2⟩ := onIns_of h1
  subst e
  obtain ⟨x, e2, h2⟩ := onSome_of h2
  obtain ⟨ws, g1, g2⟩ := ab1 _ _ e1
  obtain ⟨u, e3, r3⟩ := (kv_lookup g2).1 x e2
  exact ⟨a, C, dx, ws, u, r1.ref', g1, c.1, c.2, e3, k _ _ _ _ f1 ab1 r3 h2⟩
def putFD (f : Str) (v : D) : List (Str × D) → List (Str × D)
  | [] => [(f, v)]
  | (g, x) :: r => if g = f then (g, v) :: r else (g, x) :: putFD f v r
theorem Kv.putF {K : PySem.W.Frag} {H : Hp} {f : Str} {d : D} {v : V} (r : RD K H d v) : ∀ {fs : List (Str × D)} {ws : List (Str × V)}, Kv K H fs ws → Kv K H (putFD f d fs) (L2.putF f v ws)
  | _, _, .nil => .cons ⟨rfl, r⟩ .nil
  | (g, x) :: fs, (g', y) :: ws, .cons ⟨h1, h2⟩ t => by
    obtain rfl : g = g' := h1
    unfold putFD L2.putF
    split
    · exact .cons ⟨rfl, r⟩ t
    · exact .cons ⟨rfl, h2⟩ (Kv.putF r t)
def pFldS (C : Addr) (f : Str) (pa pv : PEx) : PSx := fun d ss μ => pv ss μ fun v μ1 => pa ss μ1 fun o μ2 => onIns C μ2 o fun a dx fs => fs.length < 1000 ∧ d.nx ss (mset μ2 a (.ins C dx (putFD f v fs)))
theorem qs_fld {C : Addr} {f : Str} {o value : Expr} {pos' : Pos} (c : Cls X.K C ∧ NoAttr X.K C f) (ha : QE X o pa) (hv : QE X value pb) (hs : swapsWith value (some (.Attribute o f pos')) pos.line X.env = pure false := by rfl) : QS X (.Assign [.Attribute o f pos'] value pos) (pFldS C f pa pb) := by
  obtain ⟨t, g1, l1⟩ := ha
  obtain ⟨u, g2, l2⟩ := hv
  refine ⟨_, ps_fld g1 g2 hs, fun σ H ss μ D d rs ab h er => ?_⟩
  refine l2 σ H ss μ _ _ rs ab h fun y H1 v μ1 f1 ab1 r1 h1 => ?_
  refine l1 σ H1 ss μ1 _ _ (rs.mono f1.tup) ab1 h1 fun x H2 o μ2 f2 ab2 r2 h2 => ?_
  obtain ⟨a, dx, fs, e, e1, hl, h9⟩ := onIns_of h2
  subst e
  obtain ⟨ws, g3, g4⟩ := ab2 _ _ e1
  have tt := tups_set (K := X.K) g3 True.intro (.ins C dx (L2.putF f y ws))
  refine ⟨a, C, dx, ws, r2.ref', g3, c.1, c.2, by rw [← kv_len g4]; exact hl, ?_⟩
  exact er.nx _ _ _ _ ((f1.trans f2).trans (.set g3 True.intro e1)) ((rs.mono (f1.trans f2).tup).mono tt) (ab2.set (o := .ins C dx _) g3 True.intro ⟨_, upd_same, (g4.putF (r1.mono f2.tup)).mono tt⟩) h9
end
/-- a method of the class at C -/
def AtM (K : PySem.W.Frag) (C : Addr) (m qual : Str) (st : Stmt) (ps : List Str) : Prop := ∃ f fd, Fun K m qual st f fd ∧ Meth K C m f ∧ Binds K fd ps []
def HasM (P : Program) (w : World) (K : PySem.W.Frag) (mg : Str → Option Value) (base : Heap) (C : Addr) (m : Str) (ps : List Str) (k : Nat) (sp : Spc) : Prop :=
  ∃ f fd, FnOk P w K mg base CX0 k f fd ps (raw K sp) ∧ Binds K fd ps [] ∧ Meth K C m f
theorem HasM.mk {P : Program} {w : World} {K : PySem.W.Frag} {mg : Str → Option Value} {base : Heap} {C : Addr} {m qual : Str} {st : Stmt} {ps : List Str} {k : Nat} {sp : Spc} (A : AtM K C m qual st ps)
    (h : ∀ f fd, Fun K m qual st f fd → FnOk P w K mg base CX0 k f fd ps (raw K sp)) : HasM P w K mg base C m ps k sp := by
  obtain ⟨f, fd, F, m, b⟩ := A
  exact ⟨f, fd, h f fd F, b, m⟩
section
variable {X : Cx} {C : Addr} {m : Str} {ps : List Str} {k : Nat} {sp : Spc} {o e : Expr} {es : List Expr} {apos pos p : Pos} {pa : PEx} {pr : PAx}
def pMeth (C : Addr) (m : Str) (sp : Spc) (pa : PEx) (pr : PAx) : PEx := fun ss μ q => pa ss μ fun d μ1 => onIns C μ1 d fun a _ fs => fs.lookup m = none ∧ pr ss μ1 fun ds μ2 => sp (.ref a :: ds) μ2 q
theorem li_meth {K : PySem.W.Frag} {ta : TE} {t : TA} {E : XK} (l1 : LiE K ta pa) (l2 : LiA K t pr) : LiE K (tMeth C m (raw K sp) [] E ta t) (pMeth C m sp pa pr) := fun σ H ss μ q Q rs ab h k => by
  refine l1 σ H ss μ _ _ rs ab h fun v H1 d μ1 f1 ab1 r1 h1 => ?_
  obtain ⟨a, dx, fs, e, e1, hl, h2⟩ := onIns_of h1
  subst e
  obtain ⟨ws, g3, g4⟩ := ab1 _ _ e1
  refine ⟨a, dx, ws, r1.ref', g3, (kv_lookup g4).2 hl, l2 σ H1 ss μ1 _ _ (rs.mono f1.tup) ab1 h2 fun vs H2 ds μ2 f2 ab2 r2 h3 => ?_⟩
  rw [List.append_nil, r1.ref']
  exact ⟨.ref a :: ds, μ2, q, .cons .ref r2, ab2, h3, fun v H3 d μ3 f3 ab3 r3 h4 => k _ _ _ _ ((f1.trans f2).trans f3) ab3 r3 h4⟩
theorem qe_meth {pl : Sem Bool} (c : Cls X.K C) (he : QE X o pa) (D : HasM X.prog X.w X.K X.mg X.base C m ps k sp) (hr : Room k X.A) (ha : QA X (e :: es) pr)
    (hst : starEach (e :: es) X.env = (false, eval e X.env) :: starEach es X.env := by rfl) (hpl : (backTo pos (starEach es X.env)).any (·.1) = false := by rfl)
    (ht : eval (.Call (.Attribute o m apos) (e :: es) [] pos) X.env = (do
      let ov ← eval o X.env
      standAt apos.atName
      let (f, first) ← holding [ov] (getMethod ov m pl)
      callWith pos f first (backTo pos (starEach (e :: es) X.env)) (backToKw pos (keywordEach [] X.env))) := by rfl) : QE X (.Call (.Attribute o m apos) (e :: es) [] pos) (pMeth C m sp pa pr) := by
  obtain ⟨f, fd, F, b, mm⟩ := D
  obtain ⟨t, g1, l1⟩ := he
  obtain ⟨u, g2, l2⟩ := ha
  exact ⟨_, pe_meth (E := E0) g1 c mm F hr b .nil pass0 g2 hst hpl ht, li_meth l1 l2⟩
theorem qe_meth0 {pl : Sem Bool} (c : Cls X.K C) (he : QE X o pa) (D : HasM X.prog X.w X.K X.mg X.base C m ps k sp) (hr : Room k X.A)
    (ht : eval (.Call (.Attribute o m apos) [] [] pos) X.env = (do
      let ov ← eval o X.env
      standAt apos.atName
      let (f, first) ← holding [ov] (getMethod ov m pl)
      callWith pos f first (backTo pos (starEach [] X.env)) (backToKw pos (keywordEach [] X.env))) := by rfl) : QE X (.Call (.Attribute o m apos) [] [] pos) (pMeth C m sp pa pNil) := by
  obtain ⟨f, fd, F, b, mm⟩ := D
  obtain ⟨t, g1, l1⟩ := he
  exact ⟨_, pe_meth0 (E := E0) g1 c mm F hr b .nil pass0 ht, li_meth l1 fun σ H ss μ q Q rs ab h k => k [] H [] μ .refl ab .nil h⟩
/-- a class that can be made: what its __init__ promises -/
def HasI (P : Program) (w : World) (K : PySem.W.Frag) (mg : Str → Option Value) (base : Heap) (x : Str) (C : Addr) (ps : List Str) (k : Nat) (sp : Spc) : Prop :=
  ∃ f fd, FnOk P w K mg base CX0 k f fd ps (raw K sp) ∧ Binds K fd ps [] ∧ Mk K C f ∧ mg x = some (.ref C)
def pMake (C : Addr) (sp : Spc) (pr : PAx) : PEx := fun ss μ q => pr ss μ fun ds μ1 => ∀ x dx, μ1 x = none → sp (.ref x :: ds) (mset μ1 x (.ins C dx [])) fun v μ2 => v = .non ∧ q (.ref x) μ2
theorem li_make {K : PySem.W.Frag} {t : TA} {E : XK} (l2 : LiA K t pr) : LiE K (tMake C (raw K sp) [] E t) (pMake C sp pr) := fun σ H ss μ q Q rs ab h k => by
  refine l2 σ H ss μ _ _ rs ab h fun vs H1 ds μ1 f1 ab1 r1 h1 => ?_
  intro x dx hx hdx hne
  rw [List.append_nil]
  have hx2 : upd H1 dx (.own x) x = none := by rw [upd_ne hne.symm]; exact hx
  have f2 : Fm K H1 μ1 (upd H1 dx (.own x)) μ1 := .tuple hdx
  have f3 : Fm K (upd H1 dx (.own x)) μ1 (upd (upd H1 dx (.own x)) x (.ins C dx [])) (mset μ1 x (.ins C dx [])) := .put hx2
  refine ⟨.ref x :: ds, mset μ1 x (.ins C dx []), _, .cons .ref (r1.mono (f2.trans f3).tup), (ab1.new hdx).put (o := .ins C dx []) hx2 ⟨[], upd_same, .nil⟩, h1 x dx (ab1.free hx), ?_⟩
  rintro v H3 d μ3 f4 ab3 r3 ⟨rfl, h4⟩
  exact ⟨r3.non', k _ _ _ _ (f1.trans ((f2.trans f3).trans f4)) ab3 .ref h4⟩
theorem qe_make {x : Str} (D : HasI X.prog X.w X.K X.mg X.base x C ps k sp) (hr : Room (k + 1) X.A) (ha : QA X (e :: es) pr) (hg : Gl X x := by rfl) (hdb : (x == ("__debug__" : Str)) = false := by decide)
    (he : starEach (e :: es) X.env = (false, eval e X.env) :: starEach es X.env := by rfl) (hpl : (backTo pos (starEach es X.env)).any (·.1) = false := by rfl) : QE X (.Call (.Name x p) (e :: es) [] pos) (pMake C sp pr) := by
  obtain ⟨f, fd, F, b, M, m⟩ := D
  obtain ⟨u, g2, l2⟩ := ha
  exact ⟨_, pe_make (E := E0) M F hr hg m b .nil pass0 g2 hdb he hpl, li_make l2⟩
theorem qe_make0 {x : Str} (D : HasI X.prog X.w X.K X.mg X.base x C ps k sp) (hr : Room (k + 1) X.A) (hg : Gl X x := by rfl) (hdb : (x == ("__debug__" : Str)) = false := by decide) : QE X (.Call (.Name x p) [] [] pos) (pMake C sp pNil) := by
  obtain ⟨f, fd, F, b, M, m⟩ := D
  exact ⟨_, pe_make0 (E := E0) M F hr hg m b .nil pass0 hdb, li_make fun σ H ss μ q Q rs ab h k => k [] H [] μ .refl ab .nil h⟩
end
end Pl
namespace Pl
open PySem L2
theorem kit_NoneType_int : kitB "NoneType" "int" = some false := by decide +kernel
theorem kit_NoneType_bool : kitB "NoneType" "bool" = some false := by decide +kernel
theorem kit_NoneType_str : kitB "NoneType" "str" = some false := by decide +kernel
theorem kit_NoneType_tuple : kitB "NoneType" "tuple" = some false := by decide +kernel
theorem kit_NoneType_list : kitB "NoneType" "list" = some false := by decide +kernel
theorem kit_NoneType_dict : kitB "NoneType" "dict" = some false := by decide +kernel
theorem kit_bool_int : kitB "bool" "int" = some true := by decide +kernel
theorem kit_bool_bool : kitB "bool" "bool" = some true := by decide +kernel
theorem kit_bool_str : kitB "bool" "str" = some false := by decide +kernel
theorem kit_bool_tuple : kitB "bool" "tuple" = some false := by decide +kernel
theorem kit_bool_list : kitB "bool" "list" = some false := by decide +kernel
theorem kit_bool_dict : kitB "bool" "dict" = some false := by decide +kernel
theorem kit_int_int : kitB "int" "int" = some true := by decide +kernel
theorem kit_int_bool : kitB "int" "bool" = some false := by decide +kernel
theorem kit_int_str : kitB "int" "str" = some false := by decide +kernel
theorem kit_int_tuple : kitB "int" "tuple" = some false := by decide +kernel
theorem kit_int_list : kitB "int" "list" = some false := by decide +kernel
theorem kit_int_dict : kitB "int" "dict" = some false := by decide +kernel
theorem kit_str_int : kitB "str" "int" = some false := by decide +kernel
theorem kit_str_bool : kitB "str" "bool" = some false := by decide +kernel
theorem kit_str_str : kitB "str" "str" = some true := by decide +kernel
theorem kit_str_tuple : kitB "str" "tuple" = some false := by decide +kernel
theorem kit_str_list : kitB "str" "list" = some false := by decide +kernel
theorem kit_str_dict : kitB "str" "dict" = some false := by decide +kernel
theorem kit_tuple_int : kitB "tuple" "int" = some false := by decide +kernel
theorem kit_tuple_bool : kitB "tuple" "bool" = some false := by decide +kernel
theorem kit_tuple_str : kitB "tuple" "str" = some false := by decide +kernel
theorem kit_tuple_tuple : kitB "tuple" "tuple" = some true := by decide +kernel
theorem kit_tuple_list : kitB "tuple" "list" = some false := by decide +kernel
theorem kit_tuple_dict : kitB "tuple" "dict" = some false := by decide +kernel
theorem kit_list_int : kitB "list" "int" = some false := by decide +kernel
theorem kit_list_bool : kitB "list" "bool" = some false := by decide +kernel
theorem kit_list_str : kitB "list" "str" = some false := by decide +kernel
theorem kit_list_tuple : kitB "list" "tuple" = some false := by decide +kernel
theorem kit_list_list : kitB "list" "list" = some true := by decide +kernel
theorem kit_list_dict : kitB "list" "dict" = some false := by decide +kernel
theorem kit_dict_int : kitB "dict" "int" = some false := by decide +kernel
theorem kit_dict_bool : kitB "dict" "bool" = some false := by decide +kernel
theorem kit_dict_str : kitB "dict" "str" = some false := by decide +kernel
theorem kit_dict_tuple : kitB "dict" "tuple" = some false := by decide +kernel
theorem kit_dict_list : kitB "dict" "list" = some false := by decide +kernel
theorem kit_dict_dict : kitB "dict" "dict" = some true := by decide +kernel
/-! ### over a text -/
section
variable {X : Cx} {e tg : Expr} {pa : PEx}
def chr (c : Nat) : D := .str ⟨#[c]⟩
theorem jr_str {K : PySem.W.Frag} {H1 : Hp} {x : Str} : JR K H1 (Its x) (x.cps.toList.map chr) okT := fun H μ t ab _ => by
  rw [List.length_map, Array.length_toList]
  refine ⟨fun i hi => hi, fun i hi => hi, ?_⟩
  rintro i v H' hi ⟨rfl, c, hc, rfl⟩
  refine ⟨chr c, ?_, .refl, ab, .str⟩
  rw [List.getElem?_map, Array.getElem?_toList, hc]
  rfl
def piStr (pa : PEx) : PIx := fun ss μ q => pa ss μ fun d μ1 => onStr d fun x => q (x.cps.toList.map chr) okT μ1
theorem qi_str (h : QE X e pa) : QI X tg e (piStr pa) := by
  obtain ⟨t, g1, l1⟩ := h
  refine ⟨_, pi_str g1, fun σ H ss μ q R rs ab h k => ?_⟩
  refine l1 σ H ss μ _ _ rs ab h fun v H1 d μ1 f1 ab1 r1 h1 => ?_
  obtain ⟨x, e, h2⟩ := onStr_of h1
  subst e
  exact ⟨x, r1.str', k _ _ _ _ _ f1 ab1 jr_str h2⟩
end
end Pl
namespace Pl
open PySem L2
/-! ### comprehensions of two clauses -/
def lc2Go (pg : PGx) (pt : PTx) (pi1 : PIx) (pg1 : PGx) (pt1 : PTx) (pe : PEx) (ss : SS) (vs1 : List Nat) (ok : Mu → Prop) (q : List D → Mu → Prop) : List D → List D → Mu → Prop
  | [], acc, μ => ok μ ∧ q acc μ
  | x :: r, acc, μ => ok μ ∧ pg x ss μ fun ss' μ' => pt ss' μ' fun b μ2 => if b = true then pi1 ss' μ2 fun ys ok1 μ3 => acc.length + ys.length ≤ sizeLine ∧
      lcGo pg1 pt1 pe (swipe ss' vs1) ok1 (fun acc' μ4 => lc2Go pg pt pi1 pg1 pt1 pe ss vs1 ok q r acc' μ4) ys acc μ3 else lc2Go pg pt pi1 pg1 pt1 pe ss vs1 ok q r acc μ2
theorem lc2Go_ok {pg : PGx} {pt : PTx} {pi1 : PIx} {pg1 : PGx} {pt1 : PTx} {pe : PEx} {ss : SS} {vs1 : List Nat} {ok : Mu → Prop} {q : List D → Mu → Prop} : ∀ {xs acc : List D} {μ : Mu}, lc2Go pg pt pi1 pg1 pt1 pe ss vs1 ok q xs acc μ → ok μ
  | [], _, _, h => h.1
  | _ :: _, _, _, h => h.1
def pLc2 (pi : PIx) (pg : PGx) (pt : PTx) (pi1 : PIx) (pg1 : PGx) (pt1 : PTx) (pe : PEx) (vs vs1 : List Nat) : PEx := fun ss μ q => pi ss μ fun xs ok μ1 =>
  lc2Go pg pt pi1 pg1 pt1 pe (swipe ss vs) vs1 ok (fun ds μ2 => ∀ p, μ2 p = none → q (.ref p) (mset μ2 p (.lst ds))) xs [] μ1
set_option maxHeartbeats 1000000 in
theorem li_lc2 {K : PySem.W.Frag} {wi wi1 : TI} {g g1 : TG} {tt tt1 : TT} {te : TE} {vs vs1 : List Nat} {pi pi1 : PIx} {pg pg1 : PGx} {pt pt1 : PTx} {pe : PEx} (l1 : LiI K wi pi) (l2 : LiG K g pg)
    (w2 : ∀ v σ H Q Q', g v σ H Q → (∀ σ' H', wipe σ' vs = wipe σ vs → Q σ' H' → Q' σ' H') → g v σ H Q') (l3 : LiT K tt pt)
    (l5 : LiI K wi1 pi1) (l6 : LiG K g1 pg1) (w6 : ∀ v σ H Q Q', g1 v σ H Q → (∀ σ' H', wipe σ' vs1 = wipe σ vs1 → Q σ' H' → Q' σ' H') → g1 v σ H Q') (l7 : LiT K tt1 pt1) (l4 : LiE K te pe) :
    LiE K (tLc2 wi g tt wi1 g1 tt1 te vs vs1) (pLc2 pi pg pt pi1 pg1 pt1 pe vs vs1) := by
  intro σ H ss μ q Q rs ab h k
  refine l1 σ H ss μ _ _ rs ab h fun J H1 xs ok μ1 f1 ab1 jr h1 => ?_
  intro D hD
  have rs1 := (rs.mono f1.tup).wipe vs
  let go := lc2Go pg pt pi1 pg1 pt1 pe (swipe ss vs) vs1 ok (fun ds μ2 => ∀ p, μ2 p = none → q (.ref p) (mset μ2 p (.lst ds)))
  let In : Nat → Hp → Prop := fun i H2 => ∃ acc us μ2, H2 D = some (.lst us) ∧ RDs K H2 acc us ∧ Fm K H1 μ1 H2 μ2 ∧ μ2 D = none ∧ Abs K μ2 H2 ∧ go (xs.drop i) acc μ2
  refine ⟨fun i m H2 => m = xs.length - i ∧ i ≤ xs.length ∧ In i H2, ⟨_, rfl, Nat.zero_le _, [], [], μ1, upd_same, .nil, .tuple hD, ab1.free hD, ab1.new hD, h1⟩, ?_⟩
  rintro i m H2 ⟨rfl, hi, acc, us, μ2, hD2, racc, f2, fre2, ab2, h2⟩
  obtain ⟨j1, j2, j3⟩ := jr H2 μ2 f2.tup ab2 (lc2Go_ok h2)
  have nD : H2 D ≠ none := by rw [hD2]; exact fun z => nomatch z
  by_cases hlt : i < xs.length
  · refine .inr ⟨j1 i hlt, In (i + 1), fun H' h => ⟨_, by omega, rfl, hlt, h⟩, fun x H' y => ?_⟩
    obtain ⟨d1, e1, f3, ab3, r3⟩ := j3 i x H' hlt y
    rw [drop_cons e1] at h2
    have h2 := h2.2
    have rs3 := rs1.mono (f2.trans f3).tup
    refine w2 x _ H' _ _ (l2 x d1 _ H' (swipe ss vs) μ2 _ (fun σ4 H4 => tt σ4 H4 fun b H3 => if b = true then wi1 σ4 H3 fun J1 H4 => ∃ W1 : Nat → Nat → Hp → Prop, (∃ m, W1 0 m H4) ∧ ∀ j k H, W1 j k H →
      (J1.stop j H ∧ In (i + 1) H) ∨ (J1.go j H ∧ ∃ Nx1 : Hp → Prop, (∀ H', Nx1 H' → ∃ k', k' < k ∧ W1 (j + 1) k' H') ∧ ∀ x H', J1.yld j H x H' → g1 x (wipe σ4 vs1) H' fun σ3 H5 => wipe σ3 vs1 = wipe σ4 vs1 ∧ tt1 σ3 H5 fun b H6 =>
        if b = true then te σ3 H6 fun y H7 => ∃ acc, H7 D = some (.lst acc) ∧ acc.length < sizeLine ∧ Nx1 (upd H7 D (.lst (acc ++ [y]))) else Nx1 H6)
      else In (i + 1) H3)
      rs3 ab3 r3 h2 fun σ4 H4 ss4 μ4 f4 rs4 ab4 h4 => ?_) fun σ' H' hw h => ⟨by rw [hw, wipe_idem], h⟩
    refine l3 σ4 H4 ss4 μ4 _ _ rs4 ab4 h4 fun b H5 μ5 f5 ab5 h5 => ?_
    have f35 := (f3.trans f4).trans f5
    cases b with
    | false => exact iteF ⟨acc, us, μ5, f35.stay _ _ hD2 fre2, racc.mono f35.tup, f2.trans f35, f35.new _ nD fre2, ab5, by simpa using h5⟩
    | true =>
      refine iteT ?_
      have h5 := (if_pos rfl).mp h5
      refine l5 σ4 H5 ss4 μ5 _ _ (rs4.mono f5.tup) ab5 h5 fun J1 H6 ys ok1 μ6 f6 ab6 jr1 h6 => ?_
      obtain ⟨hlen, h6⟩ := h6
      have f36 := f35.trans f6
      have rs6 := (rs4.mono (f5.trans f6).tup).wipe vs1
      let In1 : Nat → Hp → Prop := fun j H8 => ∃ acc1 us1 μ8, H8 D = some (.lst us1) ∧ RDs K H8 acc1 us1 ∧ acc1.length ≤ acc.length + j ∧ Fm K H1 μ1 H8 μ8 ∧ Tups K H6 H8 ∧ μ8 D = none ∧ Abs K μ8 H8 ∧
        lcGo pg1 pt1 pe (swipe ss4 vs1) ok1 (fun acc' μ9 => go (xs.drop (i + 1)) acc' μ9) (ys.drop j) acc1 μ8
      refine ⟨fun j m H8 => m = ys.length - j ∧ j ≤ ys.length ∧ In1 j H8, ⟨_, rfl, Nat.zero_le _, acc, us, μ6, f36.stay _ _ hD2 fre2, racc.mono f36.tup, Nat.le_refl _, f2.trans f36, tups_refl, f36.new _ nD fre2, ab6, h6⟩, ?_⟩
      rintro j m H8 ⟨rfl, hj, acc1, us1, μ8, hD8, racc8, hl8, f8, t8, fre8, ab8, h8⟩
      have nD8 : H8 D ≠ none := by rw [hD8]; exact fun z => nomatch z
      obtain ⟨k1, k2, k3⟩ := jr1 H8 μ8 t8 ab8 (lcGo_ok h8)
      by_cases hlt1 : j < ys.length
      · refine .inr ⟨k1 j hlt1, In1 (j + 1), fun H' h => ⟨_, by omega, rfl, hlt1, h⟩, fun x H' y => ?_⟩
        obtain ⟨d2, e2, f9, ab9, r9⟩ := k3 j x H' hlt1 y
        rw [drop_cons e2] at h8
        have h8 := h8.2
        unfold lcStep at h8
        have rs9 := rs6.mono (fun a xs h => f9.tup a xs (t8 a xs h))
        refine w6 x _ H' _ _ (l6 x d2 _ H' (swipe ss4 vs1) μ8 _ (fun σ3 H5 => tt1 σ3 H5 fun b H6 => if b = true then te σ3 H6 fun y H7 => ∃ acc, H7 D = some (.lst acc) ∧ acc.length < sizeLine ∧ In1 (j + 1) (upd H7 D (.lst (acc ++ [y]))) else In1 (j + 1) H6)
          rs9 ab9 r9 h8 fun σ10 H10 ss10 μ10 f10 rs10 ab10 h10 => ?_) fun σ' H' hw h => ⟨by rw [hw, wipe_idem], h⟩
        refine l7 σ10 H10 ss10 μ10 _ _ rs10 ab10 h10 fun b H11 μ11 f11 ab11 h11 => ?_
        have f9b := (f9.trans f10).trans f11
        cases b with
        | false => exact iteF ⟨acc1, us1, μ11, f9b.stay _ _ hD8 fre8, racc8.mono f9b.tup, by omega, f8.trans f9b, fun a xs h => f9b.tup a xs (t8 a xs h), f9b.new _ nD8 fre8, ab11, by simpa using h11⟩
        | true =>
          refine iteT (l4 σ10 H11 ss10 μ11 _ _ (rs10.mono f11.tup) ab11 (by simpa using h11) fun z H12 y μ12 f12 ab12 r12 h12 => ?_)
          have f9c := f9b.trans f12
          have hD12 := f9c.stay _ _ hD8 fre8
          have tt := tups_set (K := K) hD12 True.intro (.lst (us1 ++ [z]))
          have fre12 := f9c.new _ nD8 fre8
          refine ⟨us1, hD12, ?_, acc1 ++ [y], us1 ++ [z], μ12, upd_same, ((racc8.mono f9c.tup).app (.cons r12 .nil)).mono tt, by rw [List.length_append, List.length_singleton]; omega, ?_, ?_, fre12, ?_, h12⟩
          · have := racc8.len
            omega
          · exact (f8.trans f9c).hid hD hD12 True.intro
          · exact fun a xs h => tt a xs (f9c.tup a xs (t8 a xs h))
          · exact ab12.hid fre12 hD12 True.intro
      · have e : j = ys.length := by omega
        subst e
        rw [List.drop_length] at h8
        exact .inl ⟨k2 _ (Nat.le_refl _), acc1, us1, μ8, hD8, racc8, f8, fre8, ab8, h8.2⟩
  · have e : i = xs.length := by omega
    subst e
    have h2 : go [] acc μ2 := by rw [List.drop_length] at h2; exact h2
    refine .inl ⟨j2 _ (Nat.le_refl _), k _ _ _ (mset μ2 D (.lst acc)) ?_ ?_ .ref (h2.2 D fre2)⟩
    · exact f1.trans (f2.seen hD)
    · exact ab2.seen ⟨us, hD2, racc⟩
section
variable {X : Cx} {scope : Scope} {elt iter iter1 tg tg1 : Expr} {ifs ifs1 : List Expr} {pos : Pos}
theorem all_I {F : α → Cx} {K : PySem.W.Frag} {tg e : Expr} {p : PIx} (h : ∀ a, ∃ t, PI (F a) tg e t ∧ LiI K t p) : ∃ t, (∀ a, PI (F a) tg e t) ∧ LiI K t p := by
  refine ⟨fun σ H Q => ∀ a, (h a).choose σ H Q, fun a => ⟨fun pins s σ H Q I q => (h a).choose_spec.1.run pins s σ H Q I (q a)⟩, fun σ H ss μ q Q rs ab hp k a => ?_⟩
  exact (h a).choose_spec.2 σ H ss μ q Q rs ab hp k
variable {own : List (Str × Nat)} {vs1 : List Nat} {pi pi1 : PIx} {pg pg1 : PGx} {pt pt1 : PTx} {pe : PEx}
abbrev BF (X : Cx) (scope : Scope) (a : Blk X) : Cx := X.blk a.1 a.2.1 scope (compEnvC scope a.2.2.2.1 a.2.2.1 X.env) a.2.2.2.2
theorem qe_lc2 (hc : X.calm = true) (hN : X.N.Nodup) (hi : QI X tg iter pi) (ok : BlkOk X.N X.env.scope scope own) (hv : ∀ i ∈ vs1, i ∈ own.map (·.2))
    (hg : ∀ (s : Shared) (H : Hp) (C : Addr) (cl : List (Str × Addr)) (fp : List Addr), QGw (X.blk s H scope (compEnvC scope cl C X.env) fp) tg (own.map (·.2)) pg)
    (ht : ∀ (s : Shared) (H : Hp) (C : Addr) (cl : List (Str × Addr)) (fp : List Addr), QTs (X.blk s H scope (compEnvC scope cl C X.env) fp) ifs pt)
    (hi1 : ∀ (s : Shared) (H : Hp) (C : Addr) (cl : List (Str × Addr)) (fp : List Addr), QI (X.blk s H scope (compEnvC scope cl C X.env) fp) tg1 iter1 pi1)
    (hg1 : ∀ (s : Shared) (H : Hp) (C : Addr) (cl : List (Str × Addr)) (fp : List Addr), QGw (X.blk s H scope (compEnvC scope cl C X.env) fp) tg1 vs1 pg1)
    (ht1 : ∀ (s : Shared) (H : Hp) (C : Addr) (cl : List (Str × Addr)) (fp : List Addr), QTs (X.blk s H scope (compEnvC scope cl C X.env) fp) ifs1 pt1)
    (he : ∀ (s : Shared) (H : Hp) (C : Addr) (cl : List (Str × Addr)) (fp : List Addr), QE (X.blk s H scope (compEnvC scope cl C X.env) fp) elt pe) (hs : ∀ x, foldedSetIterable iter X.env x = pure x := by intro _; rfl) (hs1 : ∀ env x, foldedSetIterable iter1 env x = pure x := by intro _ _; rfl) :
    QE X (.ListComp elt [⟨tg, iter, ifs, 0⟩, ⟨tg1, iter1, ifs1, 0⟩] scope pos) (pLc2 pi pg pt pi1 pg1 pt1 pe (own.map (·.2)) vs1) := by
  obtain ⟨wi, g1, l1⟩ := hi
  obtain ⟨g, g2, l2, w2⟩ := all_G (F := BF X scope) (K := X.K) fun a => (hg a.1 a.2.1 a.2.2.1 a.2.2.2.1 a.2.2.2.2).ex
  obtain ⟨tt, g3, l3⟩ := all_T (F := BF X scope) (K := X.K) fun a => (ht a.1 a.2.1 a.2.2.1 a.2.2.2.1 a.2.2.2.2).ex
  obtain ⟨te, g4, l4⟩ := all_E (F := BF X scope) (K := X.K) fun a => (he a.1 a.2.1 a.2.2.1 a.2.2.2.1 a.2.2.2.2).ex
  obtain ⟨wi1, g5, l5⟩ := all_I (F := BF X scope) (K := X.K) fun a => (hi1 a.1 a.2.1 a.2.2.1 a.2.2.2.1 a.2.2.2.2).ex
  obtain ⟨gg, g6, l6, w6⟩ := all_G (F := BF X scope) (K := X.K) fun a => (hg1 a.1 a.2.1 a.2.2.1 a.2.2.2.1 a.2.2.2.2).ex
  obtain ⟨tt1, g7, l7⟩ := all_T (F := BF X scope) (K := X.K) fun a => (ht1 a.1 a.2.1 a.2.2.1 a.2.2.2.1 a.2.2.2.2).ex
  exact ⟨_, pe_lc2 hc hN g1 ok hv (fun s H C cl fp => g2 (s, H, C, cl, fp)) (fun s H C cl fp => g3 (s, H, C, cl, fp)) (fun s H C cl fp => g5 (s, H, C, cl, fp)) (fun s H C cl fp => g6 (s, H, C, cl, fp)) (fun s H C cl fp => g7 (s, H, C, cl, fp))
    (fun s H C cl fp => g4 (s, H, C, cl, fp)) hs hs1, li_lc2 l1 l2 w2 l3 l5 l6 w6 l7 l4⟩
theorem qs_setLc2 {i : Nat} {y : Str} {py : Pos} {spos : Pos} (hc : X.calm = true) (hN : X.N.Nodup) (hy : X.N[i]? = some y) (hyl : X.env.scope.names.lookup y = some .local)
    (hsw : swapsWith (.ListComp elt [⟨tg, iter, ifs, 0⟩, ⟨tg1, iter1, ifs1, 0⟩] scope pos) (some (.Name y py)) spos.line X.env = pure true) (hi : QI X tg iter pi) (ok : BlkOk X.N X.env.scope scope own) (hv : ∀ i ∈ vs1, i ∈ own.map (·.2))
    (hg : ∀ (s : Shared) (H : Hp) (C : Addr) (cl : List (Str × Addr)) (fp : List Addr), QGw (X.blk s H scope (compEnvC scope cl C X.env) fp) tg (own.map (·.2)) pg)
    (ht : ∀ (s : Shared) (H : Hp) (C : Addr) (cl : List (Str × Addr)) (fp : List Addr), QTs (X.blk s H scope (compEnvC scope cl C X.env) fp) ifs pt)
    (hi1 : ∀ (s : Shared) (H : Hp) (C : Addr) (cl : List (Str × Addr)) (fp : List Addr), QI (X.blk s H scope (compEnvC scope cl C X.env) fp) tg1 iter1 pi1)
    (hg1 : ∀ (s : Shared) (H : Hp) (C : Addr) (cl : List (Str × Addr)) (fp : List Addr), QGw (X.blk s H scope (compEnvC scope cl C X.env) fp) tg1 vs1 pg1)
    (ht1 : ∀ (s : Shared) (H : Hp) (C : Addr) (cl : List (Str × Addr)) (fp : List Addr), QTs (X.blk s H scope (compEnvC scope cl C X.env) fp) ifs1 pt1)
    (he : ∀ (s : Shared) (H : Hp) (C : Addr) (cl : List (Str × Addr)) (fp : List Addr), QE (X.blk s H scope (compEnvC scope cl C X.env) fp) elt pe) (hs : ∀ x, foldedSetIterable iter X.env x = pure x := by intro _; rfl) (hs1 : ∀ env x, foldedSetIterable iter1 env x = pure x := by intro _ _; rfl) :
    QS X (.Assign [.Name y py] (.ListComp elt [⟨tg, iter, ifs, 0⟩, ⟨tg1, iter1, ifs1, 0⟩] scope pos) spos) (pAsg (pLc2 pi pg pt pi1 pg1 pt1 pe (own.map (·.2)) vs1) (pgName i)) := by
  obtain ⟨wi, g1, l1⟩ := hi
  obtain ⟨g, g2, l2, w2⟩ := all_G (F := BF X scope) (K := X.K) fun a => (hg a.1 a.2.1 a.2.2.1 a.2.2.2.1 a.2.2.2.2).ex
  obtain ⟨tt, g3, l3⟩ := all_T (F := BF X scope) (K := X.K) fun a => (ht a.1 a.2.1 a.2.2.1 a.2.2.2.1 a.2.2.2.2).ex
  obtain ⟨te, g4, l4⟩ := all_E (F := BF X scope) (K := X.K) fun a => (he a.1 a.2.1 a.2.2.1 a.2.2.2.1 a.2.2.2.2).ex
  obtain ⟨wi1, g5, l5⟩ := all_I (F := BF X scope) (K := X.K) fun a => (hi1 a.1 a.2.1 a.2.2.1 a.2.2.2.1 a.2.2.2.2).ex
  obtain ⟨gg, g6, l6, w6⟩ := all_G (F := BF X scope) (K := X.K) fun a => (hg1 a.1 a.2.1 a.2.2.1 a.2.2.2.1 a.2.2.2.2).ex
  obtain ⟨tt1, g7, l7⟩ := all_T (F := BF X scope) (K := X.K) fun a => (ht1 a.1 a.2.1 a.2.2.1 a.2.2.2.1 a.2.2.2.2).ex
  refine ⟨_, ps_setLc2 hc hN hy hyl hsw g1 ok hv (fun s H C cl fp => g2 (s, H, C, cl, fp)) (fun s H C cl fp => g3 (s, H, C, cl, fp)) (fun s H C cl fp => g5 (s, H, C, cl, fp)) (fun s H C cl fp => g6 (s, H, C, cl, fp)) (fun s H C cl fp => g7 (s, H, C, cl, fp))
    (fun s H C cl fp => g4 (s, H, C, cl, fp)) hs hs1, fun σ H ss μ D d rs ab h er => ?_⟩
  exact li_lc2 l1 l2 w2 l3 l5 l6 w6 l7 l4 σ H ss μ _ _ rs ab h fun v H1 x μ1 f1 ab1 r1 h1 => er.nx _ _ _ _ f1 ((rs.mono f1.tup).set r1) ab1 h1
end
/-- all inner items one behind the other -/
theorem lc2_flat {pg : PGx} {pi1 : PIx} {pg1 : PGx} {pe : PEx} {ss : SS} {vs1 : List Nat} {ok : Mu → Prop} {q : List D → Mu → Prop} {μ : Mu} (f : D → List D) (hok : ok μ) : ∀ {xs acc : List D},
    (∀ x ∈ xs, ∀ (acc : List D) (k : List D → Mu → Prop), acc.length + (f x).length ≤ sizeLine → k (acc ++ f x) μ → pg x ss μ fun ss' μ' => pi1 ss' μ' fun ys ok1 μ3 => acc.length + ys.length ≤ sizeLine ∧ lcGo pg1 pYes pe (swipe ss' vs1) ok1 k ys acc μ3) →
    acc.length + (xs.flatMap f).length ≤ sizeLine → q (acc ++ xs.flatMap f) μ → lc2Go pg pYes pi1 pg1 pYes pe ss vs1 ok q xs acc μ
  | [], acc, _, _, h => ⟨hok, by simpa using h⟩
  | x :: r, acc, hs, hl, h => by
    rw [List.flatMap_cons, List.length_append] at hl
    rw [List.flatMap_cons, ← List.append_assoc] at h
    refine ⟨hok, ?_⟩
    have := hs x List.mem_cons_self acc (fun acc' μ4 => lc2Go pg pYes pi1 pg1 pYes pe ss vs1 ok q r acc' μ4) (by omega) (lc2_flat f hok (fun z hz => hs z (List.mem_cons_of_mem _ hz)) (by rw [List.length_append]; omega) h)
    simpa only [pYes, if_true] using this
end Pl
namespace Pl
open PySem L2
/-! all forms of rules at once -/
theorem PW_0 : type_of% (And.intro (@pLc2.eq_1) (And.intro (@piStr.eq_1) (And.intro (@pLc.eq_1) (And.intro (@pChain.eq_1) (And.intro (@pNeg.eq_1) (And.intro (@pBackT.eq_1) (And.intro (@pBackL.eq_1) (And.intro (@pStar.eq_1) (And.intro (@pFmt.eq_1) (And.intro (@pJoin.eq_1) (And.intro (@pDnew.eq_1) (And.intro (@pDnewT.eq_1) (And.intro (@pDisp.eq_1) (And.intro (@pPairs.eq_1) (And.intro (@pPairs.eq_2) (And.intro (@keysOf.eq_1) (And.intro (@keysOf.eq_2) (And.intro (@pGet1.eq_1) (And.intro (@pGet2.eq_1) (And.intro (@pFld.eq_1) (And.intro (@pFldS.eq_1) (And.intro (@pMeth.eq_1) (And.intro (@pMake.eq_1) (And.intro (@pDelT.eq_1) (And.intro (@pJoined.eq_1) (And.intro (@pJs.eq_1) (And.intro (@pJs.eq_2) (And.intro (@pSeq.eq_1) (And.intro (@pIfS.eq_1) ((@pTest.eq_1))))))))))))))))))))))))))))))) := And.intro (@pLc2.eq_1) (And.intro (@piStr.eq_1) (And.intro (@pLc.eq_1) (And.intro (@pChain.eq_1) (And.intro (@pNeg.eq_1) (And.intro (@pBackT.eq_1) (And.intro (@pBackL.eq_1) (And.intro (@pStar.eq_1) (And.intro (@pFmt.eq_1) (And.intro (@pJoin.eq_1) (And.intro (@pDnew.eq_1) (And.intro (@pDnewT.eq_1) (And.intro (@pDisp.eq_1) (And.intro (@pPairs.eq_1) (And.intro (@pPairs.eq_2) (And.intro (@keysOf.eq_1) (And.intro (@keysOf.eq_2) (And.intro (@pGet1.eq_1) (And.intro (@pGet2.eq_1) (And.intro (@pFld.eq_1) (And.intro (@pFldS.eq_1) (And.intro (@pMeth.eq_1) (And.intro (@pMake.eq_1) (And.intro (@pDelT.eq_1) (And.intro (@pJoined.eq_1) (And.intro (@pJs.eq_1) (And.intro (@pJs.eq_2) (And.intro (@pSeq.eq_1) (And.intro (@pIfS.eq_1) ((@pTest.eq_1))))))))))))))))))))))))))))))
theorem PW_1 : type_of% (And.intro (@pTru.eq_1) (And.intro (@pNot.eq_1) (And.intro (@pAnd.eq_1) (And.intro (@pOr.eq_1) (And.intro (@pAndV.eq_1) (And.intro (@pOrV.eq_1) (And.intro (@pNotV.eq_1) (And.intro (@pIf.eq_1) (And.intro (@pOp.eq_1) (And.intro (@pVar.eq_1) (And.intro (@pC.eq_1) (And.intro (@pNil.eq_1) (And.intro (@pCons.eq_1) (And.intro (@pTup.eq_1) (And.intro (@pLst.eq_1) (And.intro (@pCB.eq_1) (And.intro (@pLen.eq_1) (And.intro (@pSlice.eq_1) (And.intro (@pPart.eq_1) (And.intro (@pNoPart.eq_1) (And.intro (@pRet.eq_1) (And.intro (@pRetN.eq_1) (And.intro (@pNext.eq_1) (And.intro (@pCont.eq_1) (And.intro (@pBreak.eq_1) (And.intro (@pAsg.eq_1) (And.intro (@pgName.eq_1) (And.intro (@pgTup.eq_1) (And.intro (@pgNil.eq_1) ((@pPar.eq_1))))))))))))))))))))))))))))))) := And.intro (@pTru.eq_1) (And.intro (@pNot.eq_1) (And.intro (@pAnd.eq_1) (And.intro (@pOr.eq_1) (And.intro (@pAndV.eq_1) (And.intro (@pOrV.eq_1) (And.intro (@pNotV.eq_1) (And.intro (@pIf.eq_1) (And.intro (@pOp.eq_1) (And.intro (@pVar.eq_1) (And.intro (@pC.eq_1) (And.intro (@pNil.eq_1) (And.intro (@pCons.eq_1) (And.intro (@pTup.eq_1) (And.intro (@pLst.eq_1) (And.intro (@pCB.eq_1) (And.intro (@pLen.eq_1) (And.intro (@pSlice.eq_1) (And.intro (@pPart.eq_1) (And.intro (@pNoPart.eq_1) (And.intro (@pRet.eq_1) (And.intro (@pRetN.eq_1) (And.intro (@pNext.eq_1) (And.intro (@pCont.eq_1) (And.intro (@pBreak.eq_1) (And.intro (@pAsg.eq_1) (And.intro (@pgName.eq_1) (And.intro (@pgTup.eq_1) (And.intro (@pgNil.eq_1) ((@pPar.eq_1))))))))))))))))))))))))))))))
theorem PW_2 : type_of% (And.intro (@pAug.eq_1) (And.intro (@pDrop.eq_1) (And.intro (@pBM.eq_1) (And.intro (@pCall.eq_1) (And.intro (@pSum.eq_1) (And.intro (@pAll.eq_1) (And.intro (@pAbs.eq_1) (And.intro (@p2I.eq_1) (And.intro (@pStrOf.eq_1) (And.intro (@pTupOf.eq_1) (And.intro (@pListOf.eq_1) (And.intro (@onL.eq_1) (And.intro (@sget.eq_1) (And.intro (@sget.eq_2) (And.intro (@sget.eq_3) (And.intro (@sset.eq_1) (And.intro (@sset.eq_2) (And.intro (@sset.eq_3) (And.intro (@sinit.eq_1) (And.intro (@sinit.eq_2) (And.intro (@sinit.eq_3) (And.intro (@sdel.eq_1) (And.intro (@sdel.eq_2) (And.intro (@sdel.eq_3) (And.intro (@swipe.eq_1) (And.intro (@swipe.eq_2) (And.intro (@endsOf.eq_1) (And.intro (@pYes.eq_1) (And.intro (@piSeq.eq_1) ((@piRng1.eq_1))))))))))))))))))))))))))))))) := And.intro (@pAug.eq_1) (And.intro (@pDrop.eq_1) (And.intro (@pBM.eq_1) (And.intro (@pCall.eq_1) (And.intro (@pSum.eq_1) (And.intro (@pAll.eq_1) (And.intro (@pAbs.eq_1) (And.intro (@p2I.eq_1) (And.intro (@pStrOf.eq_1) (And.intro (@pTupOf.eq_1) (And.intro (@pListOf.eq_1) (And.intro (@onL.eq_1) (And.intro (@sget.eq_1) (And.intro (@sget.eq_2) (And.intro (@sget.eq_3) (And.intro (@sset.eq_1) (And.intro (@sset.eq_2) (And.intro (@sset.eq_3) (And.intro (@sinit.eq_1) (And.intro (@sinit.eq_2) (And.intro (@sinit.eq_3) (And.intro (@sdel.eq_1) (And.intro (@sdel.eq_2) (And.intro (@sdel.eq_3) (And.intro (@swipe.eq_1) (And.intro (@swipe.eq_2) (And.intro (@endsOf.eq_1) (And.intro (@pYes.eq_1) (And.intro (@piSeq.eq_1) ((@piRng1.eq_1))))))))))))))))))))))))))))))
theorem PW_3 : type_of% (And.intro (@piRng2.eq_1) (And.intro (@piEnumT.eq_1) (And.intro (@piEnumL.eq_1) (And.intro (@piZip.eq_1) (And.intro (@pgSub.eq_1) (And.intro (@pAddI.eq_1) (And.intro (@sl_0) (And.intro (@sl_1) (And.intro (@sl_2) (And.intro (@sl_3) (And.intro (@sl_4) (And.intro (@sl_5) (And.intro (@sl_6) (And.intro (@sl_7) (And.intro (@sl_8) (And.intro (@sl_9) (And.intro (@sl_10) (And.intro (@sl_11) (And.intro (@sl_12) (And.intro (@sl_13) (And.intro (@sl_14) (And.intro (@sl_15) (And.intro (@sl_16) (And.intro (@sl_17) (And.intro (@sl_18) (And.intro (@sl_19) (And.intro (@sl_20) (And.intro (@own_c) (And.intro (@own_n) ((@onSome_s))))))))))))))))))))))))))))))) := And.intro (@piRng2.eq_1) (And.intro (@piEnumT.eq_1) (And.intro (@piEnumL.eq_1) (And.intro (@piZip.eq_1) (And.intro (@pgSub.eq_1) (And.intro (@pAddI.eq_1) (And.intro (@sl_0) (And.intro (@sl_1) (And.intro (@sl_2) (And.intro (@sl_3) (And.intro (@sl_4) (And.intro (@sl_5) (And.intro (@sl_6) (And.intro (@sl_7) (And.intro (@sl_8) (And.intro (@sl_9) (And.intro (@sl_10) (And.intro (@sl_11) (And.intro (@sl_12) (And.intro (@sl_13) (And.intro (@sl_14) (And.intro (@sl_15) (And.intro (@sl_16) (And.intro (@sl_17) (And.intro (@sl_18) (And.intro (@sl_19) (And.intro (@sl_20) (And.intro (@own_c) (And.intro (@own_n) ((@onSome_s))))))))))))))))))))))))))))))
theorem PW_4 : type_of% (And.intro (@onSome_n) (And.intro (@onInt_i) (And.intro (@onBl_b) (And.intro (@onStr_s) (And.intro (@onTup_t) (And.intro (@onRef_r) (And.intro (@on1_1) (And.intro (@on2_2) (And.intro (@pgCons_c) (And.intro (@pIntOf_i) (And.intro (@pIntOf_b) (And.intro (@pIsi_t) (And.intro (@isNon_n) (And.intro (@isNon_b) (And.intro (@isNon_i) (And.intro (@isNon_s) (And.intro (@isNon_t) (And.intro (@isNon_r) (And.intro (@keyOf_i) (And.intro (@keyOf_s) (And.intro (@flatD_i) (And.intro (@flatD_s) (And.intro (@flatD_b) (And.intro (@flatD_n) (And.intro (@isLst_same) (And.intro (@lenD_same) (And.intro (@tru_same) (And.intro (@pIx_same) (And.intro (@itemsD_same) ((@pAppend_same))))))))))))))))))))))))))))))) := And.intro (@onSome_n) (And.intro (@onInt_i) (And.intro (@onBl_b) (And.intro (@onStr_s) (And.intro (@onTup_t) (And.intro (@onRef_r) (And.intro (@on1_1) (And.intro (@on2_2) (And.intro (@pgCons_c) (And.intro (@pIntOf_i) (And.intro (@pIntOf_b) (And.intro (@pIsi_t) (And.intro (@isNon_n) (And.intro (@isNon_b) (And.intro (@isNon_i) (And.intro (@isNon_s) (And.intro (@isNon_t) (And.intro (@isNon_r) (And.intro (@keyOf_i) (And.intro (@keyOf_s) (And.intro (@flatD_i) (And.intro (@flatD_s) (And.intro (@flatD_b) (And.intro (@flatD_n) (And.intro (@isLst_same) (And.intro (@lenD_same) (And.intro (@tru_same) (And.intro (@pIx_same) (And.intro (@itemsD_same) ((@pAppend_same))))))))))))))))))))))))))))))
theorem PW_5 : type_of% (And.intro (@pIn_same) (And.intro (@pAdd_int) (And.intro (@pAdd_str) (And.intro (@pAdd_tup) (And.intro (@pAdd_ref) (And.intro (@pMul_int) (And.intro (@pMul_tup) (And.intro (@pMul_ref) (And.intro (@pI_int) (And.intro (@pIC_int) (And.intro (@pLt_int) (And.intro (@pLt_str) (And.intro (@pEq_str) (And.intro (@pEq_int) (And.intro (@pEq_bl) (And.intro (@pEq_nn) (And.intro (@pEq_ns) (And.intro (@pEq_ni) (And.intro (@pEq_nb) (And.intro (@pEq_sn) (And.intro (@pEq_in) (And.intro (@pEq_bn) (And.intro (@pEq_is) (And.intro (@pEq_si) (And.intro (@pEq_bs) (And.intro (@pEq_sb) (And.intro (@pIsN_non) (And.intro (@pIn_str) (And.intro (@pIn_tup) ((@pIx_tup))))))))))))))))))))))))))))))) := And.intro (@pIn_same) (And.intro (@pAdd_int) (And.intro (@pAdd_str) (And.intro (@pAdd_tup) (And.intro (@pAdd_ref) (And.intro (@pMul_int) (And.intro (@pMul_tup) (And.intro (@pMul_ref) (And.intro (@pI_int) (And.intro (@pIC_int) (And.intro (@pLt_int) (And.intro (@pLt_str) (And.intro (@pEq_str) (And.intro (@pEq_int) (And.intro (@pEq_bl) (And.intro (@pEq_nn) (And.intro (@pEq_ns) (And.intro (@pEq_ni) (And.intro (@pEq_nb) (And.intro (@pEq_sn) (And.intro (@pEq_in) (And.intro (@pEq_bn) (And.intro (@pEq_is) (And.intro (@pEq_si) (And.intro (@pEq_bs) (And.intro (@pEq_sb) (And.intro (@pIsN_non) (And.intro (@pIn_str) (And.intro (@pIn_tup) ((@pIx_tup))))))))))))))))))))))))))))))
theorem PW_6 : type_of% (And.intro (@pIx_str) (And.intro (@pSl_tup) (And.intro (@pSl_str) (And.intro (@pSl_ref) (And.intro (@lenD_tup) (And.intro (@tru_tup) (And.intro (@tru_int) (And.intro (@tru_bl) (And.intro (@tru_non) (And.intro (@seqOf_tup) (And.intro (@seqOf_ref) (And.intro (@itemsD_tup) (And.intro (@tyName_tup) (And.intro (@tyName_int) (And.intro (@tyName_bl) (And.intro (@tyName_str) (And.intro (@tyName_non) (And.intro (@atI_0) (And.intro (@atI_1) (And.intro (@atI_2) (And.intro (@atI_3) (And.intro (@atI_4) (And.intro (@atI_m1) (And.intro (@atI_m2) (And.intro (@atI_m3) (And.intro (@atI_m4) (And.intro (@cutD_1) (And.intro (@rdl_same) (And.intro (@wrl_same) ((@rdk_same))))))))))))))))))))))))))))))) := And.intro (@pIx_str) (And.intro (@pSl_tup) (And.intro (@pSl_str) (And.intro (@pSl_ref) (And.intro (@lenD_tup) (And.intro (@tru_tup) (And.intro (@tru_int) (And.intro (@tru_bl) (And.intro (@tru_non) (And.intro (@seqOf_tup) (And.intro (@seqOf_ref) (And.intro (@itemsD_tup) (And.intro (@tyName_tup) (And.intro (@tyName_int) (And.intro (@tyName_bl) (And.intro (@tyName_str) (And.intro (@tyName_non) (And.intro (@atI_0) (And.intro (@atI_1) (And.intro (@atI_2) (And.intro (@atI_3) (And.intro (@atI_4) (And.intro (@atI_m1) (And.intro (@atI_m2) (And.intro (@atI_m3) (And.intro (@atI_m4) (And.intro (@cutD_1) (And.intro (@rdl_same) (And.intro (@wrl_same) ((@rdk_same))))))))))))))))))))))))))))))
theorem PW_7 : type_of% (And.intro (@mset_same) (And.intro (@mset_mset) (And.intro (@ofStr_inj) (And.intro (@bne_false) ((@bne_true)))))) := And.intro (@mset_same) (And.intro (@mset_mset) (And.intro (@ofStr_inj) (And.intro (@bne_false) ((@bne_true)))))
theorem PW : type_of% (And.intro (PW_0) (And.intro (PW_1) (And.intro (PW_2) (And.intro (PW_3) (And.intro (PW_4) (And.intro (PW_5) (And.intro (PW_6) ((PW_7))))))))) := And.intro (PW_0) (And.intro (PW_1) (And.intro (PW_2) (And.intro (PW_3) (And.intro (PW_4) (And.intro (PW_5) (And.intro (PW_6) ((PW_7))))))))
theorem KIT : type_of% (And.intro (kit_NoneType_int) (And.intro (kit_NoneType_bool) (And.intro (kit_NoneType_str) (And.intro (kit_NoneType_tuple) (And.intro (kit_NoneType_list) (And.intro (kit_NoneType_dict) (And.intro (kit_bool_int) (And.intro (kit_bool_bool) (And.intro (kit_bool_str) (And.intro (kit_bool_tuple) (And.intro (kit_bool_list) (And.intro (kit_bool_dict) (And.intro (kit_int_int) (And.intro (kit_int_bool) (And.intro (kit_int_str) (And.intro (kit_int_tuple) (And.intro (kit_int_list) (And.intro (kit_int_dict) (And.intro (kit_str_int) (And.intro (kit_str_bool) (And.intro (kit_str_str) (And.intro (kit_str_tuple) (And.intro (kit_str_list) (And.intro (kit_str_dict) (And.intro (kit_tuple_int) (And.intro (kit_tuple_bool) (And.intro (kit_tuple_str) (And.intro (kit_tuple_tuple) (And.intro (kit_tuple_list) (And.intro (kit_tuple_dict) (And.intro (kit_list_int) (And.intro (kit_list_bool) (And.intro (kit_list_str) (And.intro (kit_list_tuple) (And.intro (kit_list_list) (And.intro (kit_list_dict) (And.intro (kit_dict_int) (And.intro (kit_dict_bool) (And.intro (kit_dict_str) (And.intro (kit_dict_tuple) (And.intro (kit_dict_list) ((kit_dict_dict))))))))))))))))))))))))))))))))))))))))))) := And.intro (kit_NoneType_int) (And.intro (kit_NoneType_bool) (And.intro (kit_NoneType_str) (And.intro (kit_NoneType_tuple) (And.intro (kit_NoneType_list) (And.intro (kit_NoneType_dict) (And.intro (kit_bool_int) (And.intro (kit_bool_bool) (And.intro (kit_bool_str) (And.intro (kit_bool_tuple) (And.intro (kit_bool_list) (And.intro (kit_bool_dict) (And.intro (kit_int_int) (And.intro (kit_int_bool) (And.intro (kit_int_str) (And.intro (kit_int_tuple) (And.intro (kit_int_list) (And.intro (kit_int_dict) (And.intro (kit_str_int) (And.intro (kit_str_bool) (And.intro (kit_str_str) (And.intro (kit_str_tuple) (And.intro (kit_str_list) (And.intro (kit_str_dict) (And.intro (kit_tuple_int) (And.intro (kit_tuple_bool) (And.intro (kit_tuple_str) (And.intro (kit_tuple_tuple) (And.intro (kit_tuple_list) (And.intro (kit_tuple_dict) (And.intro (kit_list_int) (And.intro (kit_list_bool) (And.intro (kit_list_str) (And.intro (kit_list_tuple) (And.intro (kit_list_list) (And.intro (kit_list_dict) (And.intro (kit_dict_int) (And.intro (kit_dict_bool) (And.intro (kit_dict_str) (And.intro (kit_dict_tuple) (And.intro (kit_dict_list) ((kit_dict_dict))))))))))))))))))))))))))))))))))))))))))
end Pl
namespace Pl
open PySem L2
/-! ### dict comprehensions -/
def dcGo (pg : PGx) (pt : PTx) (pk pv : PEx) (ss : SS) (ok : Mu → Prop) (q : List (Key × D) → Mu → Prop) : List D → List (Key × D) → Mu → Prop
  | [], acc, μ => ok μ ∧ q acc μ
  | x :: r, acc, μ => ok μ ∧ pg x ss μ fun ss' μ' => pt ss' μ' fun b μ2 => if b = true then pk ss' μ2 fun y μ3 => pv ss' μ3 fun z μ4 => onSome (keyOf y) fun k => dcGo pg pt pk pv ss ok q r (putD acc k z) μ4 else dcGo pg pt pk pv ss ok q r acc μ2
theorem dcGo_ok {pg : PGx} {pt : PTx} {pk pv : PEx} {ss : SS} {ok : Mu → Prop} {q : List (Key × D) → Mu → Prop} : ∀ {xs : List D} {acc : List (Key × D)} {μ : Mu}, dcGo pg pt pk pv ss ok q xs acc μ → ok μ
  | [], _, _, h => h.1
  | _ :: _, _, _, h => h.1
def pDc (pi : PIx) (pg : PGx) (pt : PTx) (pk pv : PEx) (vs : List Nat) : PEx := fun ss μ q => pi ss μ fun xs ok μ1 => xs.length ≤ sizeLine ∧
  dcGo pg pt pk pv (swipe ss vs) ok (fun kvs μ2 => ∀ p, μ2 p = none → q (.ref p) (mset μ2 p (.dk kvs))) xs [] μ1
theorem length_putD {kvs : List (Key × D)} {k : Key} {v : D} : (putD kvs k v).length ≤ kvs.length + 1 := by
  unfold putD
  split
  · rw [List.length_map]; omega
  · rw [List.length_append, List.length_singleton]; exact Nat.le_refl _
theorem Kv.len {K : PySem.W.Frag} {H : Hp} {κ : Type} : ∀ {l : List (κ × D)} {r : List (κ × V)}, Kv K H l r → r.length = l.length
  | _, _, .nil => rfl
  | _, _, .cons _ t => by rw [List.length_cons, List.length_cons, Kv.len t]
theorem li_dc {K : PySem.W.Frag} {wi : TI} {g : TG} {tt : TT} {tk tv : TE} {vs : List Nat} {pi : PIx} {pg : PGx} {pt : PTx} {pk pv : PEx} (l1 : LiI K wi pi) (l2 : LiG K g pg)
    (w2 : ∀ v σ H Q Q', g v σ H Q → (∀ σ' H', wipe σ' vs = wipe σ vs → Q σ' H' → Q' σ' H') → g v σ H Q') (l3 : LiT K tt pt) (l4 : LiE K tk pk) (l5 : LiE K tv pv) : LiE K (tDc wi g tt tk tv vs) (pDc pi pg pt pk pv vs) := by
  intro σ H ss μ q Q rs ab h k
  refine l1 σ H ss μ _ _ rs ab h fun J H1 xs ok μ1 f1 ab1 jr h1 => ?_
  obtain ⟨hlen, h1⟩ := h1
  intro D hD
  have rs1 := (rs.mono f1.tup).wipe vs
  let go := dcGo pg pt pk pv (swipe ss vs) ok (fun kvs μ2 => ∀ p, μ2 p = none → q (.ref p) (mset μ2 p (.dk kvs)))
  let In : Nat → Hp → Prop := fun i H2 => ∃ acc us μ2, H2 D = some (.dK us) ∧ Kv K H2 acc us ∧ acc.length ≤ i ∧ Fm K H1 μ1 H2 μ2 ∧ μ2 D = none ∧ Abs K μ2 H2 ∧ go (xs.drop i) acc μ2
  refine ⟨fun i m H2 => m = xs.length - i ∧ i ≤ xs.length ∧ In i H2, ⟨_, rfl, Nat.zero_le _, [], [], μ1, upd_same, .nil, Nat.zero_le _, .tuple hD, ab1.free hD, ab1.new hD, h1⟩, ?_⟩
  rintro i m H2 ⟨rfl, hi, acc, us, μ2, hD2, racc, hacc, f2, fre2, ab2, h2⟩
  obtain ⟨j1, j2, j3⟩ := jr H2 μ2 f2.tup ab2 (dcGo_ok h2)
  have nD : H2 D ≠ none := by rw [hD2]; exact fun z => nomatch z
  by_cases hlt : i < xs.length
  · refine .inr ⟨j1 i hlt, In (i + 1), fun H' h => ⟨_, by omega, rfl, hlt, h⟩, fun x H' y => ?_⟩
    obtain ⟨d1, e1, f3, ab3, r3⟩ := j3 i x H' hlt y
    rw [drop_cons e1] at h2
    have h2 := h2.2
    have rs3 := rs1.mono (f2.trans f3).tup
    refine w2 x _ H' _ _ (l2 x d1 _ H' (swipe ss vs) μ2 _ (fun σ4 H4 => tt σ4 H4 fun b H3 => if b = true then tk σ4 H3 fun y H4 => tv σ4 H4 fun z H5 => ∃ kvs k, y = kV k ∧ H5 D = some (.dK kvs) ∧ kvs.length < sizeLine ∧ In (i + 1) (upd H5 D (.dK (putK kvs k z))) else In (i + 1) H3)
      rs3 ab3 r3 h2 fun σ4 H4 ss4 μ4 f4 rs4 ab4 h4 => ?_) fun σ' H' hw h => ⟨by rw [hw, wipe_idem], h⟩
    refine l3 σ4 H4 ss4 μ4 _ _ rs4 ab4 h4 fun b H5 μ5 f5 ab5 h5 => ?_
    have f35 := (f3.trans f4).trans f5
    cases b with
    | false => exact iteF ⟨acc, us, μ5, f35.stay _ _ hD2 fre2, racc.mono f35.tup, by omega, f2.trans f35, f35.new _ nD fre2, ab5, by simpa using h5⟩
    | true =>
      refine iteT (l4 σ4 H5 ss4 μ5 _ _ (rs4.mono f5.tup) ab5 (by simpa using h5) fun y' H6 y μ6 f6 ab6 r6 h6 => ?_)
      refine l5 σ4 H6 ss4 μ6 _ _ (rs4.mono (f5.trans f6).tup) ab6 h6 fun z' H7 z μ7 f7 ab7 r7 h7 => ?_
      have f36 := (f35.trans f6).trans f7
      have hD6 := f36.stay _ _ hD2 fre2
      cases ek : keyOf y with
      | none => rw [ek] at h7; exact h7.elim
      | some kk =>
        rw [ek] at h7
        have h7 : dcGo pg pt pk pv (swipe ss vs) ok _ _ (putD acc kk z) μ7 := h7
        have tt := tups_set (K := K) hD6 True.intro (.dK (putK us kk z'))
        have fre6 := f36.new _ nD fre2
        refine ⟨us, kk, keyOf_of r6 ek, hD6, ?_, putD acc kk z, putK us kk z', μ7, upd_same, ((racc.mono f36.tup).put r7).mono tt, by have := length_putD (kvs := acc) (k := kk) (v := z); omega, ?_, fre6, ?_, h7⟩
        · have := racc.len
          omega
        · exact (f2.trans f36).hid hD hD6 True.intro
        · exact ab7.hid fre6 hD6 True.intro
  · have e : i = xs.length := by omega
    subst e
    have h2 : go [] acc μ2 := by rw [List.drop_length] at h2; exact h2
    refine .inl ⟨j2 _ (Nat.le_refl _), k _ _ _ (mset μ2 D (.dk acc)) ?_ ?_ .ref (h2.2 D fre2)⟩
    · exact f1.trans (f2.seen hD)
    · exact ab2.seen ⟨us, hD2, racc⟩
section
variable {X : Cx} {scope : Scope} {kx vx iter : Expr} {ifs : List Expr} {pos : Pos}
variable {own : List (Str × Nat)} {pi : PIx} {pg : PGx} {pt : PTx} {pk pv : PEx} {tg : Expr}
theorem qe_dc (hc : X.calm = true) (hN : X.N.Nodup) (hi : QI X tg iter pi) (ok : BlkOk X.N X.env.scope scope own)
    (hg : ∀ (s : Shared) (H : Hp) (C : Addr) (cl : List (Str × Addr)) (fp : List Addr), QGw (X.blk s H scope (compEnvC scope cl C X.env) fp) tg (own.map (·.2)) pg)
    (ht : ∀ (s : Shared) (H : Hp) (C : Addr) (cl : List (Str × Addr)) (fp : List Addr), QTs (X.blk s H scope (compEnvC scope cl C X.env) fp) ifs pt)
    (hk : ∀ (s : Shared) (H : Hp) (C : Addr) (cl : List (Str × Addr)) (fp : List Addr), QE (X.blk s H scope (compEnvC scope cl C X.env) fp) kx pk)
    (he : ∀ (s : Shared) (H : Hp) (C : Addr) (cl : List (Str × Addr)) (fp : List Addr), QE (X.blk s H scope (compEnvC scope cl C X.env) fp) vx pv) (hs : ∀ x, foldedSetIterable iter X.env x = pure x := by intro _; rfl) :
    QE X (.DictComp kx vx [⟨tg, iter, ifs, 0⟩] scope pos) (pDc pi pg pt pk pv (own.map (·.2))) := by
  obtain ⟨wi, g1, l1⟩ := hi
  obtain ⟨g, g2, l2, w2⟩ := all_G (F := fun a : Blk X => X.blk a.1 a.2.1 scope (compEnvC scope a.2.2.2.1 a.2.2.1 X.env) a.2.2.2.2) (K := X.K) fun a => (hg a.1 a.2.1 a.2.2.1 a.2.2.2.1 a.2.2.2.2).ex
  obtain ⟨tt, g3, l3⟩ := all_T (F := fun a : Blk X => X.blk a.1 a.2.1 scope (compEnvC scope a.2.2.2.1 a.2.2.1 X.env) a.2.2.2.2) (K := X.K) fun a => (ht a.1 a.2.1 a.2.2.1 a.2.2.2.1 a.2.2.2.2).ex
  obtain ⟨tk, g4, l4⟩ := all_E (F := fun a : Blk X => X.blk a.1 a.2.1 scope (compEnvC scope a.2.2.2.1 a.2.2.1 X.env) a.2.2.2.2) (K := X.K) fun a => (hk a.1 a.2.1 a.2.2.1 a.2.2.2.1 a.2.2.2.2).ex
  obtain ⟨te, g5, l5⟩ := all_E (F := fun a : Blk X => X.blk a.1 a.2.1 scope (compEnvC scope a.2.2.2.1 a.2.2.1 X.env) a.2.2.2.2) (K := X.K) fun a => (he a.1 a.2.1 a.2.2.1 a.2.2.2.1 a.2.2.2.2).ex
  exact ⟨_, pe_dc hc hN g1 ok (fun s H C cl fp => g2 (s, H, C, cl, fp)) (fun s H C cl fp => g3 (s, H, C, cl, fp)) (fun s H C cl fp => g4 (s, H, C, cl, fp)) (fun s H C cl fp => g5 (s, H, C, cl, fp)) hs, li_dc l1 l2 w2 l3 l4 l5⟩
theorem qs_setDc {i : Nat} {y : Str} {py : Pos} {spos : Pos} (hc : X.calm = true) (hN : X.N.Nodup) (hy : X.N[i]? = some y) (hyl : X.env.scope.names.lookup y = some .local)
    (hsw : swapsWith (.DictComp kx vx [⟨tg, iter, ifs, 0⟩] scope pos) (some (.Name y py)) spos.line X.env = pure true) (hi : QI X tg iter pi) (ok : BlkOk X.N X.env.scope scope own)
    (hg : ∀ (s : Shared) (H : Hp) (C : Addr) (cl : List (Str × Addr)) (fp : List Addr), QGw (X.blk s H scope (compEnvC scope cl C X.env) fp) tg (own.map (·.2)) pg)
    (ht : ∀ (s : Shared) (H : Hp) (C : Addr) (cl : List (Str × Addr)) (fp : List Addr), QTs (X.blk s H scope (compEnvC scope cl C X.env) fp) ifs pt)
    (hk : ∀ (s : Shared) (H : Hp) (C : Addr) (cl : List (Str × Addr)) (fp : List Addr), QE (X.blk s H scope (compEnvC scope cl C X.env) fp) kx pk)
    (he : ∀ (s : Shared) (H : Hp) (C : Addr) (cl : List (Str × Addr)) (fp : List Addr), QE (X.blk s H scope (compEnvC scope cl C X.env) fp) vx pv) (hs : ∀ x, foldedSetIterable iter X.env x = pure x := by intro _; rfl) :
    QS X (.Assign [.Name y py] (.DictComp kx vx [⟨tg, iter, ifs, 0⟩] scope pos) spos) (pAsg (pDc pi pg pt pk pv (own.map (·.2))) (pgName i)) := by
  obtain ⟨wi, g1, l1⟩ := hi
  obtain ⟨g, g2, l2, w2⟩ := all_G (F := fun a : Blk X => X.blk a.1 a.2.1 scope (compEnvC scope a.2.2.2.1 a.2.2.1 X.env) a.2.2.2.2) (K := X.K) fun a => (hg a.1 a.2.1 a.2.2.1 a.2.2.2.1 a.2.2.2.2).ex
  obtain ⟨tt, g3, l3⟩ := all_T (F := fun a : Blk X => X.blk a.1 a.2.1 scope (compEnvC scope a.2.2.2.1 a.2.2.1 X.env) a.2.2.2.2) (K := X.K) fun a => (ht a.1 a.2.1 a.2.2.1 a.2.2.2.1 a.2.2.2.2).ex
  obtain ⟨tk, g4, l4⟩ := all_E (F := fun a : Blk X => X.blk a.1 a.2.1 scope (compEnvC scope a.2.2.2.1 a.2.2.1 X.env) a.2.2.2.2) (K := X.K) fun a => (hk a.1 a.2.1 a.2.2.1 a.2.2.2.1 a.2.2.2.2).ex
  obtain ⟨te, g5, l5⟩ := all_E (F := fun a : Blk X => X.blk a.1 a.2.1 scope (compEnvC scope a.2.2.2.1 a.2.2.1 X.env) a.2.2.2.2) (K := X.K) fun a => (he a.1 a.2.1 a.2.2.1 a.2.2.2.1 a.2.2.2.2).ex
  refine ⟨_, Lq.ps_setDc hc hN hy hyl hsw g1 ok (fun s H C cl fp => g2 (s, H, C, cl, fp)) (fun s H C cl fp => g3 (s, H, C, cl, fp)) (fun s H C cl fp => g4 (s, H, C, cl, fp)) (fun s H C cl fp => g5 (s, H, C, cl, fp)) hs, fun σ H ss μ D d rs ab h er => ?_⟩
  exact li_dc l1 l2 w2 l3 l4 l5 σ H ss μ _ _ rs ab h fun v H1 x μ1 f1 ab1 r1 h1 => er.nx _ _ _ _ f1 ((rs.mono f1.tup).set r1) ab1 h1
end
/-- a dict comprehension whose turns keep all -/
theorem dc_fmap {pg : PGx} {pt : PTx} {pk pv : PEx} {ss : SS} {ok : Mu → Prop} {q : List (Key × D) → Mu → Prop} {μ : Mu} {f : D → Option (Key × D)} (hok : ok μ) : ∀ {xs : List D} {acc : List (Key × D)},
    (∀ x ∈ xs, ∀ (ky : Key → D → Mu → Prop) (kn : Mu → Prop), (∀ y, f x = some y → ky y.1 y.2 μ) → (f x = none → kn μ) → pg x ss μ fun ss' μ' => pt ss' μ' fun b μ2 => if b = true then pk ss' μ2 fun y μ3 => pv ss' μ3 fun z μ4 => onSome (keyOf y) fun k => ky k z μ4 else kn μ2) →
    q ((xs.filterMap f).foldl (fun a kv => putD a kv.1 kv.2) acc) μ → dcGo pg pt pk pv ss ok q xs acc μ
  | [], acc, _, h => ⟨hok, by simpa using h⟩
  | x :: r, acc, hs, h => by
    refine ⟨hok, hs x List.mem_cons_self (fun k z μ4 => dcGo pg pt pk pv ss ok q r (putD acc k z) μ4) (fun μ2 => dcGo pg pt pk pv ss ok q r acc μ2) (fun y e => ?_) (fun e => ?_)⟩
    · refine dc_fmap hok (fun z hz => hs z (List.mem_cons_of_mem _ hz)) ?_
      rw [List.filterMap_cons_some e, List.foldl_cons] at h
      exact h
    · refine dc_fmap hok (fun z hz => hs z (List.mem_cons_of_mem _ hz)) ?_
      rw [List.filterMap_cons_none e] at h
      exact h
end Pl
namespace Pl
open PySem L2
/-! ### a dict that is walked over -/
def lkE (a : Addr) (od : Obj) (kws : List (Key × V)) (kvs : List (Key × D)) (d : PEnds) : PEnds where
  nx := fun ss μ => μ a = some (.dz od kws kvs) ∧ d.nx ss (mset μ a (.dk kvs))
  rt := fun e μ => μ a = some (.dz od kws kvs) ∧ d.rt e (mset μ a (.dk kvs))
  bk := fun ss μ => μ a = some (.dz od kws kvs) ∧ d.bk ss (mset μ a (.dk kvs))
  ct := fun ss μ => μ a = some (.dz od kws kvs) ∧ d.ct ss (mset μ a (.dk kvs))
def pLk (p : PSx) : PSx := fun d ss μ => ∃ a kvs, μ a = some (.dk kvs) ∧ ∀ od kws, p (lkE a od kws kvs d) ss (mset μ a (.dz od kws kvs))
section
variable {X : Cx} {st : Stmt} {p : PSx} {e : Expr} {pa : PEx} {pos : Pos} {tg : Expr}
theorem qs_lock (h : QS X st p) : QS X st (pLk p) := by
  obtain ⟨t, g, l⟩ := h
  refine ⟨_, ps_lock g, fun σ H ss μ D d rs ab h er => ?_⟩
  obtain ⟨a, kvs, e, h⟩ := h
  obtain ⟨kws, h1, h2⟩ := ab a _ e
  refine ⟨a, _, h1, True.intro, fun od => ?_⟩
  have t0 := tups_set (K := X.K) h1 True.intro (.frz od (.dK kws))
  have f0 : Fm X.K H μ (upd H a (.frz od (.dK kws))) (mset μ a (.dz od kws kvs)) := .set h1 True.intro e
  refine l σ _ ss _ _ (lkE a od kws kvs d) (rs.mono t0) (ab.set (o := .dz od kws kvs) h1 True.intro ⟨upd_same, h2.mono t0⟩) (h od kws) ?_
  have un : ∀ {H' : Hp} {μ' : Mu}, Fm X.K (upd H a (.frz od (.dK kws))) (mset μ a (.dz od kws kvs)) H' μ' → Abs X.K μ' H' → μ' a = some (.dz od kws kvs) →
      H' a = some (.frz od (.dK kws)) ∧ Fm X.K H μ (upd H' a (.dK kws)) (mset μ' a (.dk kvs)) ∧ Abs X.K (mset μ' a (.dk kvs)) (upd H' a (.dK kws)) ∧ Tups X.K H' (upd H' a (.dK kws)) := by
    intro H' μ' f ab' e'
    obtain ⟨g1, g2⟩ := ab' a _ e'
    have t1 := tups_set (K := X.K) g1 True.intro (.dK kws)
    exact ⟨g1, (f0.trans f).trans (.set g1 True.intro e'), ab'.set (o := .dk kvs) g1 True.intro ⟨_, upd_same, g2.mono t1⟩, t1⟩
  constructor
  · rintro σ' H' ss' μ' f rs' ab' ⟨e', h'⟩
    obtain ⟨g1, g2, g3, g4⟩ := un f ab' e'
    exact ⟨g1, er.nx _ _ _ _ g2 (rs'.mono g4) g3 h'⟩
  · rintro v H' d' μ' f ab' r ⟨e', h'⟩
    obtain ⟨g1, g2, g3, g4⟩ := un f ab' e'
    exact ⟨g1, er.rt _ _ _ _ g2 g3 (r.mono g4) h'⟩
  · rintro σ' H' ss' μ' f rs' ab' ⟨e', h'⟩
    obtain ⟨g1, g2, g3, g4⟩ := un f ab' e'
    exact ⟨g1, er.bk _ _ _ _ g2 (rs'.mono g4) g3 h'⟩
  · rintro σ' H' ss' μ' f rs' ab' ⟨e', h'⟩
    obtain ⟨g1, g2, g3, g4⟩ := un f ab' e'
    exact ⟨g1, er.ct _ _ _ _ g2 (rs'.mono g4) g3 h'⟩
theorem Kv.get' {K : PySem.W.Frag} {H : Hp} {κ : Type} : ∀ {l : List (κ × D)} {r : List (κ × V)}, Kv K H l r → ∀ {i : Nat} {k : κ} {v : V}, r[i]? = some (k, v) → ∃ d, l[i]? = some (k, d) ∧ RD K H d v
  | _, _, .nil, i, k, v, e => by cases e
  | (k1, d) :: _, (k2, u) :: _, .cons ⟨h1, h2⟩ _, 0, k, v, e => by
    cases e
    have h1 : k1 = k2 := h1
    subst h1
    exact ⟨d, rfl, h2⟩
  | _ :: _, _ :: _, .cons _ t, i + 1, k, v, e => Kv.get' t (i := i) e
def okZ (a : Addr) (od : Obj) (kws : List (Key × V)) (kvs : List (Key × D)) : Mu → Prop := fun μ => μ a = some (.dz od kws kvs)
theorem jr_items {K : PySem.W.Frag} {H1 : Hp} {a : Addr} {od : Obj} {kws : List (Key × V)} {kvs : List (Key × D)} : JR K H1 (Iti a od kws) (kvs.map fun kv => .tup [kD kv.1, kv.2]) (okZ a od kws kvs) := fun H μ t ab ok => by
  obtain ⟨g1, g2⟩ := ab a _ ok
  have hl := g2.len
  rw [List.length_map]
  refine ⟨fun i hi => ⟨g1, by omega⟩, fun i hi => ⟨g1, by omega⟩, ?_⟩
  rintro i x H' hi ⟨T, k, v, hx, rfl, hT, rfl⟩
  obtain ⟨d, e, r⟩ := g2.get' hx
  exact ⟨.tup [kD k, d], by rw [List.getElem?_map, e]; rfl, .tuple hT, ab.new hT, pair_rd (kD1) (r.mono (tups_new hT _))⟩
theorem jr_keys {K : PySem.W.Frag} {H1 : Hp} {a : Addr} {od : Obj} {kws : List (Key × V)} {kvs : List (Key × D)} : JR K H1 (Itk a od kws) (kvs.map fun kv => kD kv.1) (okZ a od kws kvs) := fun H μ t ab ok => by
  obtain ⟨g1, g2⟩ := ab a _ ok
  have hl := g2.len
  rw [List.length_map]
  refine ⟨fun i hi => ⟨g1, by omega⟩, fun i hi => ⟨g1, by omega⟩, ?_⟩
  rintro i x H' hi ⟨rfl, k, v, hx, rfl⟩
  obtain ⟨d, e, r⟩ := g2.get' hx
  exact ⟨kD k, by rw [List.getElem?_map, e]; rfl, .refl, ab, kD1⟩
def onDz (μ : Mu) (v : D) (k : Addr → Obj → List (Key × V) → List (Key × D) → Prop) : Prop := match v with
  | .ref a => match μ a with
    | some (.dz od kws kvs) => k a od kws kvs
    | _ => False
  | _ => False
theorem onDz_of {μ : Mu} {v : D} {k : Addr → Obj → List (Key × V) → List (Key × D) → Prop} (h : onDz μ v k) : ∃ a od kws kvs, v = .ref a ∧ μ a = some (.dz od kws kvs) ∧ k a od kws kvs := by
  unfold onDz at h
  split at h
  · split at h
    · exact ⟨_, _, _, _, rfl, by assumption, h⟩
    · exact h.elim
  · exact h.elim
theorem onDz_r {μ : Mu} {a : Addr} {od : Obj} {kws : List (Key × V)} {kvs : List (Key × D)} {k : Addr → Obj → List (Key × V) → List (Key × D) → Prop} (h : μ a = some (.dz od kws kvs)) : onDz μ (.ref a) k = k a od kws kvs := by
  unfold onDz; simp only [h]
def piItems (pa : PEx) : PIx := fun ss μ q => pa ss μ fun v μ1 => onDz μ1 v fun a od kws kvs => q (kvs.map fun kv => .tup [kD kv.1, kv.2]) (okZ a od kws kvs) μ1
def piKeys (pa : PEx) : PIx := fun ss μ q => pa ss μ fun v μ1 => onDz μ1 v fun a od kws kvs => q (kvs.map fun kv => kD kv.1) (okZ a od kws kvs) μ1
theorem qi_items {apos cpos tpos : Pos} {elts : List Expr} {kk : Nat} (he : QE X e pa) (hbase : attributeBase e "items" X.env (eval e X.env) = eval e X.env := by rfl) (hline : (apos.endLine == cpos.line) = true := by rfl) :
    QI X (.Tuple elts kk tpos) (.Call (.Attribute e "items" apos) [] [] cpos) (piItems pa) := by
  obtain ⟨t, g1, l1⟩ := he
  refine ⟨_, pi_items g1 hbase hline, fun σ H ss μ q R rs ab h k => ?_⟩
  refine l1 σ H ss μ _ _ rs ab h fun v H1 d μ1 f1 ab1 r1 h1 => ?_
  obtain ⟨a, od, kws, kvs, e, e2, h2⟩ := onDz_of h1
  subst e
  exact ⟨a, od, kws, r1.ref', (ab1 a _ e2).1, k _ _ _ _ _ f1 ab1 jr_items h2⟩
theorem qi_keys (he : QE X e pa) : QI X tg e (piKeys pa) := by
  obtain ⟨t, g1, l1⟩ := he
  refine ⟨_, pi_keys g1, fun σ H ss μ q R rs ab h k => ?_⟩
  refine l1 σ H ss μ _ _ rs ab h fun v H1 d μ1 f1 ab1 r1 h1 => ?_
  obtain ⟨a, od, kws, kvs, e, e2, h2⟩ := onDz_of h1
  subst e
  exact ⟨a, od, r1.ref', .inl ⟨kws, (ab1 a _ e2).1, k _ _ _ _ _ f1 ab1 jr_keys h2⟩⟩
end
end Pl
namespace Pl
open PySem L2 PyProof.Rows
/-! ### ranges as tuples and lists, sets of texts -/
def rgD (a b : Int) : List D := (List.range (b - a).toNat).map fun i => D.int (a + (i : Nat))
theorem rds_rg {K : PySem.W.Frag} {H : Hp} {a b : Int} : RDs K H (rgD a b) (rgV a b) := by
  have := RDs.ints (K := K) (H := H) (ns := (List.range (b - a).toNat).map fun i => (a + (i : Nat) : Int))
  rw [List.map_map, List.map_map] at this
  exact this
section
variable {X : Cx} {a b e : Expr} {pa pb : PEx} {p p2 q pos : Pos}
abbrev PRx := SS → Mu → (Int → Int → Mu → Prop) → Prop
structure QRg (X : Cx) (e : Expr) (p : PRx) : Prop where
  ex : ∃ t : L2.St → Hp → (Int → Int → Hp → Prop) → Prop, PRg X e t ∧ ∀ (σ : L2.St) (H : Hp) (ss : SS) (μ : Mu) (q : Int → Int → Mu → Prop) (Q : Int → Int → Hp → Prop), RS X.K H ss σ → Abs X.K μ H → p ss μ q →
    (∀ i j H' μ', Fm X.K H μ H' μ' → Abs X.K μ' H' → q i j μ' → Q i j H') → t σ H Q
def pRg1 (pa : PEx) : PRx := fun ss μ q => pa ss μ fun d μ1 => onInt d fun n => q 0 n μ1
def pRg2 (pa pb : PEx) : PRx := fun ss μ q => pa ss μ fun d μ1 => pb ss μ1 fun e μ2 => onInt d fun i => onInt e fun j => q i j μ2
theorem qrg_1 (hg : Gl X "range") (hm : X.mg "range" = none) (ha : QE X a pa) (na : starEach [a] X.env = (false, eval a X.env) :: starEach [] X.env := by rfl) : QRg X (.Call (.Name "range" p) [a] [] pos) (pRg1 pa) := by
  obtain ⟨t, g, l⟩ := ha
  refine ⟨_, prg_1 hg hm g na, fun σ H ss μ q Q rs ab h k => ?_⟩
  refine l σ H ss μ _ _ rs ab h fun v H1 d μ1 f1 ab1 r1 h1 => ?_
  obtain ⟨n, e, h2⟩ := onInt_of h1
  subst e
  exact ⟨n, r1.int', k _ _ _ _ f1 ab1 h2⟩
theorem qrg_2 (hg : Gl X "range") (hm : X.mg "range" = none) (ha : QE X a pa) (hb : QE X b pb) (na : starEach [a, b] X.env = (false, eval a X.env) :: starEach [b] X.env := by rfl)
    (nb : starEach [b] X.env = (false, eval b X.env) :: starEach [] X.env := by rfl) (hp : (backTo pos (starEach [b] X.env)).any (·.1) = false := by rfl) : QRg X (.Call (.Name "range" p) [a, b] [] pos) (pRg2 pa pb) := by
  obtain ⟨t, g, l⟩ := ha
  obtain ⟨u, g2, l2⟩ := hb
  refine ⟨_, prg_2 hg hm g g2 na nb hp, fun σ H ss μ q Q rs ab h k => ?_⟩
  refine l σ H ss μ _ _ rs ab h fun v H1 d μ1 f1 ab1 r1 h1 => ?_
  refine l2 σ H1 ss μ1 _ _ (rs.mono f1.tup) ab1 h1 fun v2 H2 d2 μ2 f2 ab2 r2 h2 => ?_
  obtain ⟨i, e, h3⟩ := onInt_of h2
  subst e
  obtain ⟨j, e, h3⟩ := onInt_of h3
  subst e
  exact ⟨i, j, r1.int', r2.int', k _ _ _ _ (f1.trans f2) ab2 h3⟩
def pTupRg (pr : PRx) : PEx := fun ss μ q => pr ss μ fun i j μ1 => RgOk i j ∧ q (.tup (rgD i j)) μ1
def pLstRg (pr : PRx) : PEx := fun ss μ q => pr ss μ fun i j μ1 => RgOk i j ∧ ∀ p, μ1 p = none → q (.ref p) (mset μ1 p (.lst (rgD i j)))
variable {pr : PRx}
theorem qe_tupRg (hc : X.calm = true) (hg : Gl X "tuple") (hm : X.mg "tuple" = none) (he : QRg X e pr) (na : starEach [e] X.env = (false, eval e X.env) :: starEach [] X.env := by rfl) : QE X (.Call (.Name "tuple" p) [e] [] pos) (pTupRg pr) := by
  obtain ⟨t, g, l⟩ := he
  refine ⟨_, pe_tupRg hc hg hm g na, fun σ H ss μ q Q rs ab h k => ?_⟩
  refine l σ H ss μ _ _ rs ab h fun i j H1 μ1 f1 ab1 h1 => ⟨h1.1, fun p hp => ?_⟩
  exact k _ _ _ _ (f1.trans (.tuple hp)) (ab1.new hp) (.tup sq_new rds_rg) h1.2
theorem qe_listRg (hc : X.calm = true) (hg : Gl X "list") (hm : X.mg "list" = none) (he : QRg X e pr) (na : starEach [e] X.env = (false, eval e X.env) :: starEach [] X.env := by rfl) : QE X (.Call (.Name "list" p) [e] [] pos) (pLstRg pr) := by
  obtain ⟨t, g, l⟩ := he
  refine ⟨_, pe_listRg hc hg hm g na, fun σ H ss μ q Q rs ab h k => ?_⟩
  refine l σ H ss μ _ _ rs ab h fun i j H1 μ1 f1 ab1 h1 => ⟨h1.1, fun p hp => ?_⟩
  exact k _ _ _ _ (f1.trans (.put hp)) (ab1.put (o := .lst _) hp ⟨_, upd_same, rds_rg⟩) .ref (h1.2 p (ab1.free hp))
def pLenSet (pa : PEx) : PEx := fun ss μ q => pa ss μ fun d μ1 => onRef d fun a => onSome (rdl μ1 a) fun ds => ∃ zs : List Str, ds = zs.map D.str ∧ zs.Nodup ∧ zs.length ≤ 100 ∧ q (.int (zs.length : Nat)) μ1
theorem qe_lenSet (hg : Gl X "len") (hm : X.mg "len" = none) (gs : Gl X "set") (ms : X.mg "set" = none) (ha : QE X a pa) (hc : X.calm = true := by rfl)
    (na : starEach [a] X.env = (false, eval a X.env) :: starEach [] X.env := by rfl) : QE X (.Call (.Name "len" p) [.Call (.Name "set" p2) [a] [] q] [] pos) (pLenSet pa) := by
  obtain ⟨t, g, l⟩ := ha
  refine ⟨_, Lq.pe_lenSetN hg hm gs ms g hc na, fun σ H ss μ q Q rs ab h k => ?_⟩
  refine l σ H ss μ _ _ rs ab h fun v H1 d μ1 f1 ab1 r1 h1 => ?_
  obtain ⟨a, e, h2⟩ := onRef_of h1
  subst e
  obtain ⟨ds, e, zs, e2, hn, hl, h3⟩ := onSome_of h2
  subst e2
  obtain ⟨vs, h4, h5⟩ := ab1.list e
  rw [h5.strs'] at h4
  exact ⟨a, zs, r1.ref', h4, hn, hl, k _ _ _ _ f1 ab1 .int h3⟩
/-! ### what a class has of its own -/
structure HasSp (P : Program) (w : World) (K : PySem.W.Frag) (mg : Str → Option Value) (base : Heap) (C : Addr) (m : Str) (ps : List Str) (k : Nat) (sp : Spc) : Prop where
  ex : ∃ f fd, FnOk P w K mg base CX0 k f fd ps (raw K sp) ∧ Binds K fd ps [] ∧ PySem.W.findIn K (.ref C) m = some (some (.ref f)) ∧ PySem.W.isFn K (.ref f) = true
theorem HasSp.of {P : Program} {w : World} {K : PySem.W.Frag} {mg : Str → Option Value} {base : Heap} {C : Addr} {m : Str} {ps : List Str} {k : Nat} {sp : Spc} (h : HasM P w K mg base C m ps k sp) : HasSp P w K mg base C m ps k sp := by
  obtain ⟨f, fd, F, b, M⟩ := h
  exact ⟨f, fd, F, b, M.at_, M.fn⟩
def okY (C : Addr) (μ : Mu) : D → Prop
  | .non => True
  | .str _ => True
  | .ref b => match μ b with
    | some (.ins C' _ _) => C' = C
    | _ => False
  | _ => False
variable {C : Addr} {ps : List Str} {k : Nat} {sp : Spc}
theorem okY_of {K : PySem.W.Frag} {H : Hp} {μ : Mu} {d : D} {v : V} (ab : Abs K μ H) (r : RD K H d v) (h : okY C μ d) : ∃ t, Lq.YK H C v t := by
  cases d with
  | non => rw [r.non']; exact ⟨_, .non⟩
  | str z => rw [r.str']; exact ⟨_, .str z⟩
  | ref b =>
    rw [r.ref']
    simp only [okY] at h
    split at h
    · rename_i e
      obtain ⟨ws, h1, _⟩ := ab _ _ e
      subst h
      exact ⟨_, .ins h1⟩
    · exact h.elim
  | _ => exact h.elim
def pEqO (C : Addr) (sp : Spc) (neg : Bool) : PR2 := fun x y μ q => onIns C μ x fun _ _ _ => okY C μ y ∧ sp [x, y] μ fun v μ1 => onBl v fun c => q (.bl (c != neg)) μ1
theorem li_eqO {K : PySem.W.Frag} {E : XK} {neg : Bool} : LiR K (Lq.rEqO C (raw K sp) E neg) (pEqO C sp neg) := fun x y d e H μ q Q ab r1 r2 h k => by
  obtain ⟨a, dx, fs, e1, e2, hy, h⟩ := onIns_of h
  subst e1
  obtain ⟨ws, g1, g2⟩ := ab _ _ e2
  obtain ⟨t, ht⟩ := okY_of ab r2 hy
  refine ⟨a, dx, ws, t, r1.ref', g1, ht, ⟨[.ref a, e], μ, _, .cons r1 (.cons r2 .nil), ab, h, fun v H' d μ' f ab' r3 h2 => ?_⟩⟩
  obtain ⟨c, e3, h2⟩ := onBl_of h2
  subst e3
  exact ⟨c, r3.bl', k _ _ _ _ f ab' .bl h2⟩
theorem qop_eqO (D : HasSp X.prog X.w X.K X.mg X.base C "__eq__" ps k sp) (hr : Room k X.A) : QOp X (compareOp .Eq) (pEqO C sp false) := by
  obtain ⟨f, fd, F, b, h1, h2⟩ := D
  exact ⟨_, Lq.op_eqO (E := E0) F hr h1 h2 b pass0, li_eqO⟩
structure NeO (K : PySem.W.Frag) (C : Addr) : Prop where
  hm : PySem.W.mroIn K C (.type "object") = some true
  ne : PySem.W.findIn K (.ref C) "__ne__" = some (some (.builtin "object.__ne__"))
theorem qop_neO (D : HasSp X.prog X.w X.K X.mg X.base C "__eq__" ps k sp) (N : NeO X.K C) (hr : Room (k + 1) X.A) : QOp X (compareOp .NotEq) (pEqO C sp true) := by
  obtain ⟨f, fd, F, b, h1, h2⟩ := D
  exact ⟨_, Lq.op_neO (E := E0) F hr N.hm N.ne h1 h2 b pass0, li_eqO⟩
def pLenO (C : Addr) (sp : Spc) : PRN := fun ds μ q => on1 ds fun d => onIns C μ d fun a _ _ => sp [.ref a] μ fun v μ1 => onInt v fun n => 0 ≤ n ∧ n < 2 ^ 63 ∧ q (.int n) μ1
theorem qc_lenO (D : HasSp X.prog X.w X.K X.mg X.base C "__len__" ps k sp) (hr : Room (k + 1) X.A) : QC X (.builtin "len") (pLenO C sp) := by
  obtain ⟨f, fd, F, b, h1, h2⟩ := D
  refine ⟨_, Lq.call_lenO (E := E0) F hr h1 h2 b pass0, fun xs ds H μ q Q ab rd h k => ?_⟩
  obtain ⟨d, e, h⟩ := on1_of h
  subst e
  obtain ⟨v, rfl, r⟩ := rds1 rd
  obtain ⟨a, dx, fs, e1, e2, h7⟩ := onIns_of h
  subst e1
  obtain ⟨ws, g1, g2⟩ := ab _ _ e2
  refine ⟨a, dx, ws, by rw [r.ref'], g1, ⟨[.ref a], μ, _, .cons .ref .nil, ab, h7, fun v H' d μ' f ab' r3 h2 => ?_⟩⟩
  obtain ⟨n, e3, h3, h4, h5⟩ := onInt_of h2
  subst e3
  exact ⟨n, r3.int', h3, h4, k _ _ _ _ f ab' .int h5⟩
def pStrO (C : Addr) (sp : Spc) : PRN := fun ds μ q => on1 ds fun d => onIns C μ d fun a _ _ => sp [.ref a] μ fun v μ1 => onStr v fun z => q (.str z) μ1
theorem qc_strO (D : HasSp X.prog X.w X.K X.mg X.base C "__str__" ps k sp) (hr : Room (k + 2) X.A) : QC X (.type "str") (pStrO C sp) := by
  obtain ⟨f, fd, F, b, h1, h2⟩ := D
  refine ⟨_, Lq.call_strO (E := E0) F hr h1 h2 b pass0, fun xs ds H μ q Q ab rd h k => ?_⟩
  obtain ⟨d, e, h⟩ := on1_of h
  subst e
  obtain ⟨v, rfl, r⟩ := rds1 rd
  obtain ⟨a, dx, fs, e1, e2, h7⟩ := onIns_of h
  subst e1
  obtain ⟨ws, g1, g2⟩ := ab _ _ e2
  refine ⟨a, dx, ws, by rw [r.ref'], g1, ⟨[.ref a], μ, _, .cons .ref .nil, ab, h7, fun v H' d μ' f ab' r3 h2 => ?_⟩⟩
  obtain ⟨n, e3, h3⟩ := onStr_of h2
  subst e3
  exact ⟨n, r3.str', k _ _ _ _ f ab' .str h3⟩
/-- isinstance(x, C), C an own class -/
structure IsO (K : PySem.W.Frag) (C : Addr) : Prop where
  cl : Cls K C
  ha : PySem.W.findIn K (.ref C) "__class__" = some (some (.builtin "object.__class__"))
  hn : PySem.W.specialIn K (.builtin "object.__class__") "__get__" = some (some (.builtin "getset_descriptor.__get__"))
  htk : PySem.W.takesIn K (.builtin "object.__class__") = some true
  hm : PySem.W.mroIn K C (.type "object") = some true
  off : ∀ n : String, n ∈ ["NoneType", "str", "int", "bool", "tuple", "list", "dict"] → PySem.W.kitOne K (.type n) (.ref C) = some false
def isO (C : Addr) (μ : Mu) (d : D) : Option Bool := match d with
  | .ref a => match μ a with
    | some (.ins C' _ _) => if C' = C then some true else none
    | _ => (tyName μ d).map fun _ => false
  | _ => (tyName μ d).map fun _ => false
def pIsiO (C : Addr) : PRN := fun ds μ q => on2 ds fun d c => c = .ref C ∧ onSome (isO C μ d) fun b => q (.bl b) μ
theorem ty_names {μ : Mu} {d : D} {n : String} (h : tyName μ d = some n) : n ∈ ["NoneType", "str", "int", "bool", "tuple", "list", "dict"] := by
  cases d with
  | ref a =>
    simp only [tyName] at h
    split at h <;> cases h <;> decide
  | ty m => cases h
  | _ => cases h; decide
theorem qc_isiO (c : IsO X.K C) : QC X (.builtin "isinstance") (pIsiO C) := by
  refine ⟨_, call_isi, fun xs ds H μ q Q ab rd h k => ?_⟩
  obtain ⟨d, cd, e, e2, h2⟩ := on2_of h
  subst e e2
  clear h
  obtain ⟨v, u, rfl, r1, r2⟩ := rds2 rd
  obtain ⟨b, e, h2⟩ := onSome_of h2
  rw [r2.ref']
  have fin := k (.bl b) H (.bl b) μ .refl ab .bl h2
  have off : ∀ {n : String}, tyName μ d = some n → (tyName μ d).map (fun _ => false) = some b → rIsi X.K [v, .ref C] H Q := fun {n} e1 e2 => by
    rw [e1] at e2
    cases e2
    exact ⟨v, _, _, _, false, rfl, .own C, ty_of ab r1 e1, c.off n (ty_names e1), fin⟩
  have gen : (tyName μ d).map (fun _ => false) = some b → rIsi X.K [v, .ref C] H Q := fun e1 => by
    cases e2 : tyName μ d with
    | none => rw [e2] at e1; cases e1
    | some n => exact off e2 e1
  unfold isO at e
  split at e
  · split at e
    · split at e
      · rename_i e3 e4
        cases e
        subst e4
        obtain ⟨ws, g1, g2⟩ := ab _ _ e3
        rw [r1.ref']
        exact ⟨_, _, _, _, true, rfl, .own _, .base (.ins g1 c.cl c.ha c.hn c.htk c.hm), if_pos (by simp), fin⟩
      · cases e
    · exact gen e
  · exact gen e
end
end Pl
namespace Pl
open PySem L2 PyProof.Rows
section
variable {X : Cx}
theorem call_repr_bool : CallR X (.builtin "repr") (fun xs H Q => ∃ b : Bool, xs = [.bl b] ∧ Q (.str (if b then "True" else "False")) H) := by
  intro pins s σ H xs us Q I r h
  obtain ⟨b, rfl, q⟩ := h
  obtain ⟨u, rfl, r2⟩ := vals1 r
  obtain rfl : u = Value.bool b := r2
  exact PySem.P.repr_of_bool ⟨V.str _, H, I.tok _, ⟨_, rfl⟩, q⟩
def pRepr : PRN := fun ds μ q => on1 ds fun d => match d with
  | .bl b => q (.str (if b then "True" else "False")) μ
  | .int i => i.natAbs.log2 < 1920 ∧ q (.str (toString i)) μ
  | _ => False
theorem qc_repr : QC X (.builtin "repr") pRepr := by
  refine ⟨_, call_repr_bool.or SkE.call_repr_int, fun xs ds H μ q Q ab rd h k => ?_⟩
  obtain ⟨d, e, h⟩ := on1_of h
  subst e
  obtain ⟨v, rfl, r⟩ := rds1 rd
  cases d with
  | bl b => exact .inl ⟨b, by rw [r.bl'], k _ _ _ _ .refl ab .str h⟩
  | int i =>
    have h : _ ∧ _ := h
    exact .inr ⟨i, by rw [r.int'], h.1, k _ _ _ _ .refl ab .str h.2⟩
  | _ => exact h.elim
def pairD : D → Option (Key × D)
  | .tup [a, b] => (keyOf a).map fun k => (k, b)
  | _ => none
def pairsD : List D → Option (List (Key × D))
  | [] => some []
  | d :: r => (pairD d).bind fun k => (pairsD r).map fun l => k :: l
theorem of_pairsD {K : PySem.W.Frag} {H : Hp} : ∀ {ds : List D} {vs : List V} {kvs : List (Key × D)}, RDs K H ds vs → pairsD ds = some kvs → ∃ (ps : List Addr) (kws : List (Key × V)), vs = ps.map V.ref ∧ Kv K H kvs kws ∧ Paired (fun p kv => SqT K H p [kV kv.1, kv.2]) ps kws
  | [], _, _, r, h => by cases h; rw [r.nil']; exact ⟨[], [], rfl, .nil, .nil⟩
  | d :: ds, vs, kvs, r, h => by
    obtain ⟨v, ws, rfl, r1, r2⟩ := r.cons'
    unfold pairsD at h
    cases e1 : pairD d with
    | none => rw [e1] at h; cases h
    | some kv =>
      rw [e1] at h
      cases e2 : pairsD ds with
      | none => simp [e2] at h
      | some l =>
        simp only [e2, Option.bind_some, Option.map_some, Option.some.injEq] at h
        subst h
        obtain ⟨ps, kws, rfl, h1, h2⟩ := of_pairsD r2 e2
        unfold pairD at e1
        split at e1
        · rename_i a b
          cases e3 : keyOf a with
          | none => rw [e3] at e1; cases e1
          | some k =>
            rw [e3] at e1
            cases e1
            obtain ⟨p, us, rfl, g1, g2⟩ := r1.tup'
            obtain ⟨x, us, rfl, g3, g4⟩ := g2.cons'
            obtain ⟨y, us, rfl, g5, g6⟩ := g4.cons'
            rw [g6.nil'] at g1
            rw [keyOf_of g3 e3] at g1
            exact ⟨p :: ps, (k, y) :: kws, rfl, .cons ⟨rfl, g5⟩ h1, .cons g1 h2⟩
        · cases e1
def pDictP : PRN := fun ds μ q => on1 ds fun d => onRef d fun a => onSome (rdl μ a) fun es => onSome (pairsD es) fun kvs => ∀ p, μ p = none → q (.ref p) (mset μ p (.dk (mergeD [] kvs)))
theorem qc_dict (hc : X.calm = true) : QC X (.type "dict") pDictP := by
  refine ⟨_, call_dictP hc, fun xs ds H μ q Q ab rd h k => ?_⟩
  obtain ⟨d, e, h⟩ := on1_of h
  subst e
  obtain ⟨v, rfl, r⟩ := rds1 rd
  obtain ⟨a, e, h2⟩ := onRef_of h
  subst e
  obtain ⟨es, e1, h2⟩ := onSome_of h2
  obtain ⟨kvs, e2, h2⟩ := onSome_of h2
  obtain ⟨vs, g1, g2⟩ := ab.list e1
  obtain ⟨ps, kws, rfl, g3, g4⟩ := of_pairsD g2 e2
  refine ⟨a, ps, kws, by rw [r.ref'], g1, g4, fun p hp => ?_⟩
  exact k _ _ _ _ (.put hp) (ab.put (o := .dk _) hp ⟨_, upd_same, (Kv.merge g3 .nil).mono (tups_new hp _)⟩) .ref (h2 p (ab.free hp))
end
end Pl
namespace Pl
open PySem L2
def top (i : Nat) : Stmt := PySem.Challenge.pw_letquay_k11_whole_texts_of_types.main.body.getD i (.Pass ⟨0, 0, 0, 0⟩)
structure Bi (mg : Str → Option Value) : Prop where
  len : mg "len" = none
  isinstance : mg "isinstance" = none
  all : mg "all" = none
  any : mg "any" = none
  sum : mg "sum" = none
  int : mg "int" = none
  bool : mg "bool" = none
  str : mg "str" = none
  tuple : mg "tuple" = none
  list : mg "list" = none
  dict : mg "dict" = none
  set : mg "set" = none
  sorted : mg "sorted" = none
  range : mg "range" = none
  zip : mg "zip" = none
  abs : mg "abs" = none
  max : mg "max" = none
  min : mg "min" = none
  enumerate : mg "enumerate" = none
  repr : mg "repr" = none
end Pl
namespace Pl
open PySem L2
/-! ### numbers -/
def BEY : Int := 10 ^ 60
def isIntD : D → Bool
  | .int i => decide (-BEY < i) && decide (i < BEY)
  | _ => false
def isWholeD : D → Bool
  | .int i => decide (0 ≤ i) && decide (i < BEY)
  | _ => false
/-- its type is known -/
def Kt (μ : Mu) (d : D) : Prop := (tyName μ d).isSome = true
theorem Kt.cases {μ : Mu} {d : D} (h : Kt μ d) : (∃ n, tyName μ d = some n ∧ (n = "list" ∨ n = "dict") ∧ ∃ a, d = .ref a) ∨ d = .non ∨ (∃ b, d = .bl b) ∨ (∃ i, d = .int i) ∨ (∃ x, d = .str x) ∨ ∃ ds, d = .tup ds := by
  cases d with
  | non => exact .inr (.inl rfl)
  | bl b => exact .inr (.inr (.inl ⟨b, rfl⟩))
  | int i => exact .inr (.inr (.inr (.inl ⟨i, rfl⟩)))
  | str x => exact .inr (.inr (.inr (.inr (.inl ⟨x, rfl⟩))))
  | tup ds => exact .inr (.inr (.inr (.inr (.inr ⟨ds, rfl⟩))))
  | ty n => cases h
  | ref a =>
    refine .inl ?_
    unfold Kt at h
    unfold tyName at h ⊢
    split at h
    case h_6 a' e =>
      cases e
      split at h
      case h_1 ds e => exact ⟨"list", by simp only [e], .inl rfl, a, rfl⟩
      case h_2 ds e => exact ⟨"list", by simp only [e], .inl rfl, a, rfl⟩
      case h_3 ds e => exact ⟨"dict", by simp only [e], .inr rfl, a, rfl⟩
      case h_4 ds e => exact ⟨"dict", by simp only [e], .inr rfl, a, rfl⟩
      case h_5 => cases h
    all_goals (rename_i e; cases e)
section
variable {P : Program} {w : World} {K : PySem.W.Frag} {mg : Str → Option Value} {base : Heap}
abbrev s_is_integer : Stmt := top 3
theorem sc_is_integer : FnScope ["value"] ["value"] (defScope s_is_integer) := ⟨rfl, rfl, rfl, by decide +kernel, rfl, by decide +kernel, by decide +kernel⟩
def spInt : Spc := fun ds μ q => ∃ d, ds = [d] ∧ Kt μ d ∧ q (.bl (isIntD d)) μ
theorem ok_is_integer (A : At K mg "is_integer" s_is_integer ["value"]) (B : Bi mg) (T_BEYOND : Cn K mg "BEYOND" (.int BEY)) : Has P w K mg base "is_integer" ["value"] 1 spInt := by
  refine .mk A fun f fd F => ?_
  refine qfn F sc_is_integer (by decide) ?len (fun cdv A outer s H E hr => (qss_one (qs_ret (qe_and (qe_callB qc_isi (by rfl) B.isinstance (by decide +kernel) (qa_cons (qv 0) (qa_cons (qe_bltn (n := "int") rfl B.int (by decide +kernel)) qa_nil))) (qe_and (qe_not (qe_callB qc_isi (by rfl) B.isinstance (by decide +kernel) (qa_cons (qv 0) (qa_cons (qe_bltn (n := "bool") rfl B.bool (by decide +kernel)) qa_nil)))) (qe_one (qe_chain qop_lt qop_lt (qe_neg (qe_cn T_BEYOND)) (qv 0) (qe_cn T_BEYOND)))))))) ?body
  case len => rintro ds μ q ⟨d, rfl, _⟩; rfl
  case body =>
    rintro ds μ q ⟨d, rfl, hk, h⟩
    rcases hk.cases with ⟨n, hn, rfl | rfl, a, rfl⟩ | rfl | ⟨b, rfl⟩ | ⟨i, rfl⟩ | ⟨x, rfl⟩ | ⟨xs, rfl⟩
    all_goals simp only [PW, Nat.reduceAdd, String.reduceEq, decide_true, decide_false, ite_true, ite_false, Bool.false_eq_true, if_true, if_false, true_and, and_true, Bool.not_true, Bool.not_false, List.length_cons, List.length_nil, reduceCtorEq, KIT, *]
    all_goals try exact end_of h
    by_cases c : -BEY < i
    · rw [if_pos (decide_eq_true c)]
      exact end_of (by simpa [isIntD, c] using h)
    · rw [if_neg (by simpa using c)]
      exact end_of (by simpa [isIntD, c] using h)
abbrev s_is_whole : Stmt := top 4
theorem sc_is_whole : FnScope ["value"] ["value"] (defScope s_is_whole) := ⟨rfl, rfl, rfl, by decide +kernel, rfl, by decide +kernel, by decide +kernel⟩
def spWhole : Spc := fun ds μ q => ∃ d, ds = [d] ∧ Kt μ d ∧ q (.bl (isWholeD d)) μ
theorem ok_is_whole (A : At K mg "is_whole" s_is_whole ["value"]) (D_is_integer : Has P w K mg base "is_integer" ["value"] 1 spInt) : Has P w K mg base "is_whole" ["value"] 2 spWhole := by
  refine .mk A fun f fd F => ?_
  refine qfn F sc_is_whole (by decide) ?len (fun cdv A outer s H E hr => (qss_one (qs_ret (qe_and (qe_call D_is_integer (hr.mono (by decide)) (qa_cons (qv 0) qa_nil)) (qe_one (qe_cmp qop_ge (qv 0) qe_int (nomark _))))))) ?body
  case len => rintro ds μ q ⟨d, rfl, _⟩; rfl
  case body =>
    rintro ds μ q ⟨d, rfl, hk, h⟩
    simp only [PW, Nat.reduceAdd, String.reduceEq, decide_true, decide_false, ite_true, ite_false, Bool.false_eq_true, if_true, if_false, true_and, and_true, Bool.not_true, Bool.not_false, List.length_cons, List.length_nil, reduceCtorEq]
    refine ⟨d, rfl, hk, ?_⟩
    cases d <;> simp only [isIntD, PW, Nat.reduceAdd, String.reduceEq, decide_true, decide_false, ite_true, ite_false, Bool.false_eq_true, if_true, if_false, true_and, and_true, Bool.not_true, Bool.not_false, List.length_cons, List.length_nil, reduceCtorEq] <;> try exact end_of h
    rename_i i
    by_cases c : -BEY < i ∧ i < BEY
    · simp only [c.1, c.2, decide_true, Bool.and_true, if_true]
      refine end_of ?_
      simpa only [isWholeD, c.2, decide_true, Bool.and_true] using h
    · have e1 : (decide (-BEY < i) && decide (i < BEY)) = false := by simpa using c
      have e2 : isWholeD (.int i) = false := by
        have hb : 0 < BEY := by unfold BEY; decide
        simp only [isWholeD, Bool.and_eq_false_iff, decide_eq_false_iff_not]
        omega
      simp only [e1, if_false, Bool.false_eq_true]
      exact end_of (by simpa [e2] using h)
end
theorem blsOf_mapf {α : Type} {g : α → Bool} : ∀ {xs : List α}, blsOf (xs.map fun x => D.bl (g x)) = some (xs.map g)
  | [] => rfl
  | x :: r => by rw [List.map_cons, blsOf, blsOf_mapf]; rfl
theorem all_map_id {α : Type} {g : α → Bool} {xs : List α} : (xs.map g).all id = xs.all g := by rw [List.all_map]; rfl
theorem any_map_id {α : Type} {g : α → Bool} {xs : List α} : (xs.map g).any id = xs.any g := by rw [List.any_map]; rfl
section
variable {P : Program} {w : World} {K : PySem.W.Frag} {mg : Str → Option Value} {base : Heap}
def isPlaceD : D → Bool
  | .tup ds => ds.all isWholeD
  | _ => false
/-- its parts are known too -/
def Kt1 (μ : Mu) (d : D) : Prop := Kt μ d ∧ ∀ ds, d = .tup ds → ds.length ≤ sizeLine ∧ ∀ x ∈ ds, Kt μ x
abbrev s_is_place : Stmt := top 5
theorem sc_is_place : FnScope ["value", "number"] ["value"] (defScope s_is_place) := ⟨rfl, rfl, rfl, by decide +kernel, rfl, by decide +kernel, by decide +kernel⟩
def spPlace : Spc := fun ds μ q => ∃ d, ds = [d] ∧ Kt1 μ d ∧ q (.bl (isPlaceD d)) μ
theorem ok_is_place (A : At K mg "is_place" s_is_place ["value"]) (B : Bi mg) (D_is_whole : Has P w K mg base "is_whole" ["value"] 2 spWhole) : Has P w K mg base "is_place" ["value"] 3 spPlace := by
  refine .mk A fun f fd F => ?_
  refine qfn F sc_is_place (by decide) ?len (fun cdv A outer s H E hr => (qss_one (qs_ret (qe_and (qe_callB qc_isi (by rfl) B.isinstance (by decide +kernel) (qa_cons (qv 0) (qa_cons (qe_bltn (n := "tuple") rfl B.tuple (by decide +kernel)) qa_nil))) (qe_one (qe_callB (qc_all rfl) (by rfl) B.all (by decide +kernel) (qa_cons (qe_lc (own := [("number", 1)]) rfl sc_is_place.nd (qi_seq (qv 0)) (blkOk_by (N := ["value", "number"]) (sc := defScope s_is_place) (by decide +kernel)) (fun _ _ _ _ _ => (qgw_name (i := 1) sc_is_place.nd rfl (Or.inl rfl))) (fun _ _ _ _ _ => qts_nil) (fun _ _ _ _ _ => (qe_call D_is_whole (hr.mono (by decide)) (qa_cons (qv 1) qa_nil)))) qa_nil))))))) ?body
  case len => rintro ds μ q ⟨d, rfl, _⟩; rfl
  case body =>
    rintro ds μ q ⟨d, rfl, ⟨hk, hk2⟩, h⟩
    rcases hk.cases with ⟨n, hn, rfl | rfl, a, rfl⟩ | rfl | ⟨b, rfl⟩ | ⟨i, rfl⟩ | ⟨x, rfl⟩ | ⟨xs, rfl⟩
    all_goals simp only [PW, Nat.reduceAdd, String.reduceEq, decide_true, decide_false, ite_true, ite_false, Bool.false_eq_true, if_true, if_false, true_and, and_true, Bool.not_true, Bool.not_false, List.length_cons, List.length_nil, reduceCtorEq, KIT, *]
    all_goals try exact end_of h
    obtain ⟨hl, hx⟩ := hk2 xs rfl
    refine lc_map (fun x => .bl (isWholeD x)) True.intro (fun x hm ky kn k => ?_) fun p hp => ?_
    · simp only [lcStep, PW, Nat.reduceAdd, String.reduceEq, decide_true, decide_false, ite_true, ite_false, Bool.false_eq_true, if_true, if_false, true_and, and_true, Bool.not_true, Bool.not_false, List.length_cons, List.length_nil, reduceCtorEq]
      exact ⟨x, rfl, hx x hm, k⟩
    · simp only [PW, Nat.reduceAdd, String.reduceEq, decide_true, decide_false, ite_true, ite_false, Bool.false_eq_true, if_true, if_false, true_and, and_true, Bool.not_true, Bool.not_false, List.length_cons, List.length_nil, reduceCtorEq, blsOf_mapf, all_map_id]
      exact ⟨_, .put hp, h⟩
end
end Pl
namespace Pl
open PySem L2
/-! ### names -/
def LOWL : Str := "abcdefghijklmnopqrstuvwxyz"
def HIGHL : Str := "ABCDEFGHIJKLMNOPQRSTUVWXYZ"
/-- a sign of a text -/
def inS (y : Str) (c : Nat) : Bool := !(Builtin.Str.occurrences y ⟨#[c]⟩ 0 y.length 1).isEmpty
def isWordD : D → Bool
  | .str z => decide (1 ≤ z.length) && decide (z.length ≤ 8)
  | _ => false
def isLowD (kw : List D) : D → Bool
  | .str z => isWordD (.str z) && (z.cps.toList.all (inS LOWL) && !inD (.str z) kw)
  | _ => false
def isHighD : D → Bool
  | .str z => isWordD (.str z) && (inS HIGHL (z.cps.getD 0 0) && z.cps.toList.all fun c => inS LOWL c || inS HIGHL c)
  | _ => false
def ShortS (d : D) : Prop := ∀ z, d = .str z → z.length ≤ sizeLine
section
variable {P : Program} {w : World} {K : PySem.W.Frag} {mg : Str → Option Value} {base : Heap}
abbrev s__is_word : Stmt := top 19
theorem sc__is_word : FnScope ["value"] ["value"] (defScope s__is_word) := ⟨rfl, rfl, rfl, by decide +kernel, rfl, by decide +kernel, by decide +kernel⟩
def spWord : Spc := fun ds μ q => ∃ d, ds = [d] ∧ Kt μ d ∧ ShortS d ∧ q (.bl (isWordD d)) μ
theorem ok_is_word (A : At K mg "_is_word" s__is_word ["value"]) (B : Bi mg) (T_LONGEST_NAME : Cn K mg "LONGEST_NAME" (.int 8)) : Has P w K mg base "_is_word" ["value"] 1 spWord := by
  refine .mk A fun f fd F => ?_
  refine qfn F sc__is_word (by decide) ?len (fun cdv A outer s H E hr => (qss_one (qs_ret (qe_and (qe_callB qc_isi (by rfl) B.isinstance (by decide +kernel) (qa_cons (qv 0) (qa_cons (qe_bltn (n := "str") rfl B.str (by decide +kernel)) qa_nil))) (qe_one (qe_chain qop_le qop_le qe_int (qe_callB qc_len (by rfl) B.len (by decide +kernel) (qa_cons (qv 0) qa_nil)) (qe_cn T_LONGEST_NAME))))))) ?body
  case len => rintro ds μ q ⟨d, rfl, _⟩; rfl
  case body =>
    rintro ds μ q ⟨d, rfl, hk, hs, h⟩
    rcases hk.cases with ⟨n, hn, rfl | rfl, a, rfl⟩ | rfl | ⟨b, rfl⟩ | ⟨i, rfl⟩ | ⟨x, rfl⟩ | ⟨xs, rfl⟩
    all_goals simp only [PW, Nat.reduceAdd, String.reduceEq, decide_true, decide_false, ite_true, ite_false, Bool.false_eq_true, if_true, if_false, true_and, and_true, Bool.not_true, Bool.not_false, List.length_cons, List.length_nil, reduceCtorEq, KIT, *]
    all_goals try exact end_of h
    rw [lenD_str (hs x rfl)]
    simp only [PW, Nat.reduceAdd, String.reduceEq, decide_true, decide_false, ite_true, ite_false, Bool.false_eq_true, if_true, if_false, true_and, and_true, Bool.not_true, Bool.not_false, List.length_cons, List.length_nil, reduceCtorEq]
    by_cases c : (1 : Int) ≤ x.length
    · rw [if_pos (decide_eq_true c)]
      have c' : 1 ≤ x.length := by omega
      refine end_of ?_
      have e : decide ((x.length : Int) ≤ 8) = decide (x.length ≤ 8) := by rw [decide_eq_decide]; omega
      rw [e]
      simpa only [isWordD, c', decide_true, Bool.true_and] using h
    · rw [if_neg (by simpa using c)]
      have c' : ¬ 1 ≤ x.length := by omega
      exact end_of (by simpa only [isWordD, c', decide_false, Bool.false_and] using h)
abbrev s_is_low : Stmt := top 20
theorem sc_is_low : FnScope ["value", "letter"] ["value"] (defScope s_is_low) := ⟨rfl, rfl, rfl, by decide +kernel, rfl, by decide +kernel, by decide +kernel⟩
def spLow (kw : List D) : Spc := fun ds μ q => ∃ d, ds = [d] ∧ Kt μ d ∧ ShortS d ∧ q (.bl (isLowD kw d)) μ
theorem ok_is_low {kw : List D} (A : At K mg "is_low" s_is_low ["value"]) (B : Bi mg) (T_LOW_LETTERS : Cn K mg "LOW_LETTERS" (.str LOWL)) (T_KEYWORDS : Cn K mg "KEYWORDS" (.tup kw)) (hkw : kw.all flatD = true) (D__is_word : Has P w K mg base "_is_word" ["value"] 1 spWord) : Has P w K mg base "is_low" ["value"] 2 (spLow kw) := by
  refine .mk A fun f fd F => ?_
  refine qfn F sc_is_low (by decide) ?len (fun cdv A outer s H E hr => (qss_one (qs_ret (qe_and (qe_call D__is_word (hr.mono (by decide)) (qa_cons (qv 0) qa_nil)) (qe_and (qe_callB (qc_all rfl) (by rfl) B.all (by decide +kernel) (qa_cons (qe_lc (own := [("letter", 1)]) rfl sc_is_low.nd (qi_str (qv 0)) (blkOk_by (N := ["value", "letter"]) (sc := defScope s_is_low) (by decide +kernel)) (fun _ _ _ _ _ => (qgw_name (i := 1) sc_is_low.nd rfl (Or.inl rfl))) (fun _ _ _ _ _ => qts_nil) (fun _ _ _ _ _ => (qe_cmp (qop_in (hu_of hr)) (qv 1) (qe_cn T_LOW_LETTERS) rfl))) qa_nil)) (qe_one (qe_cmp (qop_notin (hu_of hr)) (qv 0) (qe_cn T_KEYWORDS) rfl))))))) ?body
  case len => rintro ds μ q ⟨d, rfl, _⟩; rfl
  case body =>
    rintro ds μ q ⟨d, rfl, hk, hs, h⟩
    simp only [PW, Nat.reduceAdd, String.reduceEq, decide_true, decide_false, ite_true, ite_false, Bool.false_eq_true, if_true, if_false, true_and, and_true, Bool.not_true, Bool.not_false, List.length_cons, List.length_nil, reduceCtorEq]
    refine ⟨d, rfl, hk, hs, ?_⟩
    cases d <;> simp only [isWordD, PW, Nat.reduceAdd, String.reduceEq, decide_true, decide_false, ite_true, ite_false, Bool.false_eq_true, if_true, if_false, true_and, and_true, Bool.not_true, Bool.not_false, List.length_cons, List.length_nil, reduceCtorEq] <;> try exact end_of h
    rename_i x
    have hl := hs x rfl
    by_cases c : (decide (1 ≤ x.length) && decide (x.length ≤ 8)) = true
    · rw [if_pos c]
      refine ⟨by rw [List.length_map, Array.length_toList]; exact hl, lc_map (fun x => .bl (match x with | .str z => inS LOWL (z.cps.getD 0 0) | _ => false)) True.intro (fun y hm ky kn k => ?_) fun p hp => ?_⟩
      · obtain ⟨c, hc, rfl⟩ := List.mem_map.mp hm
        simp only [lcStep, chr, PW, Nat.reduceAdd, String.reduceEq, decide_true, decide_false, ite_true, ite_false, Bool.false_eq_true, if_true, if_false, true_and, and_true, Bool.not_true, Bool.not_false, List.length_cons, List.length_nil, reduceCtorEq]
        exact k
      · rw [List.map_map]
        have e : blsOf (x.cps.toList.map ((fun x => D.bl (match x with | .str z => inS LOWL (z.cps.getD 0 0) | _ => false)) ∘ chr)) = some (x.cps.toList.map (inS LOWL)) := blsOf_mapf (g := inS LOWL)
        simp only [e, PW, Nat.reduceAdd, String.reduceEq, decide_true, decide_false, ite_true, ite_false, Bool.false_eq_true, if_true, if_false, true_and, and_true, Bool.not_true, Bool.not_false, List.length_cons, List.length_nil, reduceCtorEq, all_map_id]
        by_cases c2 : x.cps.toList.all (inS LOWL) = true
        · rw [if_pos c2]
          refine ⟨hkw, _, .put hp, ?_⟩
          simpa only [isLowD, isWordD, c, c2, Bool.true_and] using h
        · rw [if_neg c2]
          refine ⟨_, .put hp, ?_⟩
          rw [Bool.not_eq_true] at c2
          simpa only [isLowD, isWordD, c, c2, Bool.true_and, Bool.false_and] using h
    · rw [if_neg c]
      rw [Bool.not_eq_true] at c
      exact end_of (by simpa only [isLowD, isWordD, c, Bool.false_and] using h)
abbrev s_is_high : Stmt := top 21
theorem sc_is_high : FnScope ["value", "letter"] ["value"] (defScope s_is_high) := ⟨rfl, rfl, rfl, by decide +kernel, rfl, by decide +kernel, by decide +kernel⟩
def spHigh : Spc := fun ds μ q => ∃ d, ds = [d] ∧ Kt μ d ∧ ShortS d ∧ q (.bl (isHighD d)) μ
theorem ok_is_high (A : At K mg "is_high" s_is_high ["value"]) (B : Bi mg) (T_LOW_LETTERS : Cn K mg "LOW_LETTERS" (.str LOWL)) (T_HIGH_LETTERS : Cn K mg "HIGH_LETTERS" (.str HIGHL)) (D__is_word : Has P w K mg base "_is_word" ["value"] 1 spWord) : Has P w K mg base "is_high" ["value"] 2 spHigh := by
  refine .mk A fun f fd F => ?_
  refine qfn F sc_is_high (by decide) ?len (fun cdv A outer s H E hr => (qss_cons (qs_if (QW.qt (qw_or (qt_not (qt_val (qe_call D__is_word (hr.mono (by decide)) (qa_cons (qv 0) qa_nil)))) (qw_or1 (qt_cmp (qop_notin (hu_of hr)) (qe_ix (qix (hu_of hr)) (qv 0) qe_int) (qe_cn T_HIGH_LETTERS) rfl)))) (qss_one (qs_ret qe_bl)) qss_nil)
  (qss_one (qs_ret (qe_callB (qc_all rfl) (by rfl) B.all (by decide +kernel) (qa_cons (qe_lc (own := [("letter", 1)]) rfl sc_is_high.nd (qi_str (qv 0)) (blkOk_by (N := ["value", "letter"]) (sc := defScope s_is_high) (by decide +kernel)) (fun _ _ _ _ _ => (qgw_name (i := 1) sc_is_high.nd rfl (Or.inl rfl))) (fun _ _ _ _ _ => qts_nil) (fun _ _ _ _ _ => (qe_or (qe_cmp (qop_in (hu_of hr)) (qv 1) (qe_cn T_LOW_LETTERS) rfl) (qe_one (qe_cmp (qop_in (hu_of hr)) (qv 1) (qe_cn T_HIGH_LETTERS) rfl))))) qa_nil)))))) ?body
  case len => rintro ds μ q ⟨d, rfl, _⟩; rfl
  case body =>
    rintro ds μ q ⟨d, rfl, hk, hs, h⟩
    simp only [PW, Nat.reduceAdd, String.reduceEq, decide_true, decide_false, ite_true, ite_false, Bool.false_eq_true, if_true, if_false, true_and, and_true, Bool.not_true, Bool.not_false, List.length_cons, List.length_nil, reduceCtorEq]
    refine ⟨d, rfl, hk, hs, ?_⟩
    cases d <;> simp only [isWordD, PW, Nat.reduceAdd, String.reduceEq, decide_true, decide_false, ite_true, ite_false, Bool.false_eq_true, if_true, if_false, true_and, and_true, Bool.not_true, Bool.not_false, List.length_cons, List.length_nil, reduceCtorEq] <;> try exact end_of h
    rename_i x
    have hl := hs x rfl
    by_cases c : (decide (1 ≤ x.length) && decide (x.length ≤ 8)) = true
    · have hpos : 0 < x.cps.size := by
        rw [Bool.and_eq_true, decide_eq_true_iff] at c
        exact c.1
      have e0 : atI x.cps.toList 0 = some (x.cps.getD 0 0) := by
        refine atI_nat (j := 0) ?_
        rw [Array.getElem?_toList, Array.getD_eq_getD_getElem?, Array.getElem?_eq_getElem hpos]
        rfl
      simp only [c, PW, Nat.reduceAdd, String.reduceEq, decide_true, decide_false, ite_true, ite_false, Bool.false_eq_true, if_true, if_false, true_and, and_true, Bool.not_true, Bool.not_false, List.length_cons, List.length_nil, reduceCtorEq, e0]
      refine ⟨hl, ?_⟩
      have e1 : (!(Builtin.Str.occurrences HIGHL ⟨#[x.cps.getD 0 0]⟩ 0 HIGHL.length 1).isEmpty) = inS HIGHL (x.cps.getD 0 0) := rfl
      rw [e1]
      by_cases c1 : inS HIGHL (x.cps.getD 0 0) = true
      · simp only [c1, PW, Nat.reduceAdd, String.reduceEq, decide_true, decide_false, ite_true, ite_false, Bool.false_eq_true, if_true, if_false, true_and, and_true, Bool.not_true, Bool.not_false, List.length_cons, List.length_nil, reduceCtorEq]
        refine ⟨by rw [List.length_map, Array.length_toList]; exact hl, lc_map (fun x => .bl (match x with | .str z => inS LOWL (z.cps.getD 0 0) || inS HIGHL (z.cps.getD 0 0) | _ => false)) True.intro (fun y hm ky kn k => ?_) fun p hp => ?_⟩
        · obtain ⟨c, hc, rfl⟩ := List.mem_map.mp hm
          simp only [lcStep, chr, PW, Nat.reduceAdd, String.reduceEq, decide_true, decide_false, ite_true, ite_false, Bool.false_eq_true, if_true, if_false, true_and, and_true, Bool.not_true, Bool.not_false, List.length_cons, List.length_nil, reduceCtorEq]
          have e2 : (!(Builtin.Str.occurrences LOWL ⟨#[c]⟩ 0 LOWL.length 1).isEmpty) = inS LOWL c := rfl
          have e3 : (!(Builtin.Str.occurrences HIGHL ⟨#[c]⟩ 0 HIGHL.length 1).isEmpty) = inS HIGHL c := rfl
          rw [e2, e3]
          have k : ky (.bl (inS LOWL c || inS HIGHL c)) μ := k
          by_cases c3 : inS LOWL c = true
          · rw [if_pos c3]
            simpa only [c3, Bool.true_or] using k
          · rw [if_neg c3]
            rw [Bool.not_eq_true] at c3
            simpa only [c3, Bool.false_or] using k
        · rw [List.map_map]
          have e : blsOf (x.cps.toList.map ((fun x => D.bl (match x with | .str z => inS LOWL (z.cps.getD 0 0) || inS HIGHL (z.cps.getD 0 0) | _ => false)) ∘ chr)) = some (x.cps.toList.map fun c => inS LOWL c || inS HIGHL c) := blsOf_mapf (g := fun c => inS LOWL c || inS HIGHL c)
          simp only [e, PW, Nat.reduceAdd, String.reduceEq, decide_true, decide_false, ite_true, ite_false, Bool.false_eq_true, if_true, if_false, true_and, and_true, Bool.not_true, Bool.not_false, List.length_cons, List.length_nil, reduceCtorEq, all_map_id]
          refine ⟨_, .put hp, ?_⟩
          simpa only [isHighD, isWordD, c, c1, Bool.true_and] using h
      · rw [Bool.not_eq_true] at c1
        simp only [c1, PW, Nat.reduceAdd, String.reduceEq, decide_true, decide_false, ite_true, ite_false, Bool.false_eq_true, if_true, if_false, true_and, and_true, Bool.not_true, Bool.not_false, List.length_cons, List.length_nil, reduceCtorEq]
        refine end_of ?_
        simpa only [isHighD, isWordD, c, c1, Bool.true_and, Bool.false_and] using h
    · rw [Bool.not_eq_true] at c
      simp only [c, PW, Nat.reduceAdd, String.reduceEq, decide_true, decide_false, ite_true, ite_false, Bool.false_eq_true, if_true, if_false, true_and, and_true, Bool.not_true, Bool.not_false, List.length_cons, List.length_nil, reduceCtorEq]
      exact end_of (by simpa only [isHighD, isWordD, c, Bool.false_and] using h)
end
end Pl
/-! trees of types: their mathematics -/
namespace Pl
open PySem L2
inductive Lab where
  | var (n : Nat) | fn | tup | made (s : Nat)
inductive Ty where
  | node (l : Lab) (ts : List Ty)
def Lab.word : Lab → Str
  | .var _ => "var" | .fn => "fn" | .tup => "tuple" | .made _ => "made"
def Lab.isVar : Lab → Bool
  | .var _ => true | _ => false
def Ty.lab : Ty → Lab
  | .node l _ => l
def Ty.kids : Ty → List Ty
  | .node _ ts => ts
theorem Ty.eta (T : Ty) : T = .node T.lab T.kids := by cases T; rfl
mutual
def Ty.sz : Ty → Nat
  | .node _ ts => Ty.szs ts + 1
def Ty.szs : List Ty → Nat
  | [] => 0
  | t :: r => Ty.sz t + Ty.szs r
end
theorem Ty.sz_eq (T : Ty) : T.sz = Ty.szs T.kids + 1 := by cases T; rw [Ty.sz]; rfl
theorem szs_nil : Ty.szs [] = 0 := by rw [Ty.szs]
theorem szs_cons (t : Ty) (r : List Ty) : Ty.szs (t :: r) = t.sz + Ty.szs r := by rw [Ty.szs]
theorem szs_app : ∀ (a b : List Ty), Ty.szs (a ++ b) = Ty.szs a + Ty.szs b
  | [], b => by rw [szs_nil, List.nil_append]; omega
  | t :: a, b => by rw [List.cons_append, szs_cons, szs_cons, szs_app a b]; omega
theorem szs_rev : ∀ (a : List Ty), Ty.szs a.reverse = Ty.szs a
  | [] => rfl
  | t :: a => by rw [List.reverse_cons, szs_app, szs_rev a, szs_cons, szs_cons, szs_nil]; omega
theorem sz_pos (T : Ty) : 0 < T.sz := by rw [T.sz_eq]; omega
def Lab.isFn : Lab → Bool
  | .fn => true | _ => false
def Lab.isTup : Lab → Bool
  | .tup => true | _ => false
def Lab.isMade : Lab → Bool
  | .made _ => true | _ => false
theorem small300 {n : Nat} (h : n ≤ 2000) : n ≤ sizeLine := Nat.le_trans h (by decide)
mutual
def Ty.pre : Ty → List Ty
  | .node l ts => .node l ts :: Ty.pres ts
def Ty.pres : List Ty → List Ty
  | [] => []
  | t :: r => Ty.pre t ++ Ty.pres r
end
theorem pre_eq (T : Ty) : T.pre = T :: Ty.pres T.kids := by cases T; rw [Ty.pre]; rfl
theorem pres_nil : Ty.pres [] = [] := by rw [Ty.pres]
theorem pres_cons (t : Ty) (r : List Ty) : Ty.pres (t :: r) = t.pre ++ Ty.pres r := by rw [Ty.pres]
theorem pres_app : ∀ (a b : List Ty), Ty.pres (a ++ b) = Ty.pres a ++ Ty.pres b
  | [], b => by rw [pres_nil, List.nil_append, List.nil_append]
  | t :: a, b => by rw [List.cons_append, pres_cons, pres_cons, pres_app a b, List.append_assoc]
mutual
theorem pre_len : ∀ (T : Ty), T.pre.length = T.sz
  | .node l ts => by rw [Ty.pre, Ty.sz, List.length_cons, pres_len ts]
theorem pres_len : ∀ (ts : List Ty), (Ty.pres ts).length = Ty.szs ts
  | [] => by rw [pres_nil, szs_nil]; rfl
  | t :: r => by rw [pres_cons, szs_cons, List.length_append, pre_len t, pres_len r]
end
theorem len_szs : ∀ (ts : List Ty), ts.length ≤ Ty.szs ts
  | [] => Nat.zero_le _
  | t :: r => by
    have h1 := len_szs r
    have h2 := sz_pos t
    rw [szs_cons, List.length_cons]
    omega
theorem kids_len (T : Ty) : T.kids.length < T.sz := by
  have h := len_szs T.kids
  rw [T.sz_eq]
  omega
def LocOk (ar : List Nat) (l : Lab) (n : Nat) : Prop := match l with
  | .var m => n = 0 ∧ (m : Int) < 10 ^ 60
  | .fn => n = 2
  | .tup => n ≠ 1
  | .made s => 0 < s ∧ (s : Int) < 10 ^ 60 ∧ ar[s - 1]? = some n
def Ty.Ok (ar : List Nat) (T : Ty) : Prop := ∀ t ∈ T.pre, LocOk ar t.lab t.kids.length
theorem Ty.Ok.loc {ar : List Nat} {T : Ty} (h : T.Ok ar) : LocOk ar T.lab T.kids.length := h T (by rw [pre_eq]; exact List.mem_cons_self)
theorem mem_pres {t : Ty} : ∀ {ts : List Ty}, t ∈ ts → ∀ {u : Ty}, u ∈ t.pre → u ∈ Ty.pres ts
  | [], h, _, _ => nomatch h
  | x :: r, h, u, hu => by
    rw [pres_cons]
    rcases List.mem_cons.mp h with e | h'
    · subst e
      exact List.mem_append_left _ hu
    · exact List.mem_append_right _ (mem_pres h' hu)
theorem Ty.Ok.kid {ar : List Nat} {T t : Ty} (h : T.Ok ar) (m : t ∈ T.kids) : t.Ok ar := fun u hu => h u (by rw [pre_eq]; exact List.mem_cons_of_mem _ (mem_pres m hu))
theorem all_rep : ∀ (n : Nat), (List.replicate n true).all id = true
  | 0 => rfl
  | n + 1 => by rw [List.replicate_succ, List.all_cons, all_rep n]; rfl
theorem lt_of_get {α : Type} {xs : List α} {i : Nat} {x : α} (h : xs[i]? = some x) : i < xs.length := (List.getElem?_eq_some_iff.mp h).1
def Lab.num : Lab → Option Nat
  | .var n => some n | _ => none
def Ty.vars (T : Ty) : List Nat := T.pre.filterMap fun t => t.lab.num
theorem take_snoc {α : Type} {xs : List α} {i : Nat} {x : α} (h : xs[i]? = some x) : xs.take (i + 1) = xs.take i ++ [x] := by
  rw [List.take_add_one, h]
  rfl
mutual
def Ty.sub (σ : Nat → Ty) : Ty → Ty
  | .node l ts => match l.num with
    | some n => σ n
    | none => .node l (Ty.subs σ ts)
def Ty.subs (σ : Nat → Ty) : List Ty → List Ty
  | [] => []
  | t :: r => Ty.sub σ t :: Ty.subs σ r
end
theorem subs_nil (σ : Nat → Ty) : Ty.subs σ [] = [] := by rw [Ty.subs]
theorem subs_cons (σ : Nat → Ty) (t : Ty) (r : List Ty) : Ty.subs σ (t :: r) = t.sub σ :: Ty.subs σ r := by rw [Ty.subs]
theorem subs_map (σ : Nat → Ty) : ∀ (ts : List Ty), Ty.subs σ ts = ts.map (Ty.sub σ)
  | [] => subs_nil σ
  | t :: r => by rw [subs_cons, subs_map σ r]; rfl
theorem sub_var (σ : Nat → Ty) {T : Ty} {n : Nat} (h : T.lab.num = some n) : T.sub σ = σ n := by
  cases T with
  | node l ts =>
    have h : l.num = some n := h
    rw [Ty.sub, h]
theorem sub_node (σ : Nat → Ty) {T : Ty} (h : T.lab.num = none) : T.sub σ = .node T.lab (Ty.subs σ T.kids) := by
  cases T with
  | node l ts =>
    have h : l.num = none := h
    rw [Ty.sub, h]
    rfl
def wsum (f : Nat → Nat) (ts : List Ty) : Nat := (ts.map fun t => match t.lab.num with | some n => f n | none => 1).sum
theorem wsum_nil (f : Nat → Nat) : wsum f [] = 0 := rfl
theorem wsum_cons (f : Nat → Nat) (t : Ty) (r : List Ty) : wsum f (t :: r) = (match t.lab.num with | some n => f n | none => 1) + wsum f r := by
  unfold wsum
  rw [List.map_cons, List.sum_cons]
theorem wsum_app (f : Nat → Nat) : ∀ (a b : List Ty), wsum f (a ++ b) = wsum f a + wsum f b
  | [], b => by rw [List.nil_append, wsum_nil, Nat.zero_add]
  | t :: a, b => by rw [List.cons_append, wsum_cons, wsum_cons, wsum_app f a b, Nat.add_assoc]
def Ty.Leafy (T : Ty) : Prop := ∀ t ∈ T.pre, t.lab.num ≠ none → t.kids = []
theorem Ty.Leafy.kid {T t : Ty} (h : T.Leafy) (m : t ∈ T.kids) : t.Leafy := fun u hu => h u (by rw [pre_eq]; exact List.mem_cons_of_mem _ (mem_pres m hu))
theorem Ty.Ok.leafy {ar : List Nat} {T : Ty} (h : T.Ok ar) : T.Leafy := fun t ht hn => by
  have q := h t ht
  cases e : t.lab with
  | var m =>
    rw [e] at q
    exact List.eq_nil_of_length_eq_zero q.1
  | _ => rw [e] at hn; exact absurd rfl hn
mutual
theorem wsum_sub (σ : Nat → Ty) (f : Nat → Nat) (hf : ∀ n, f n = (σ n).sz) : ∀ (T : Ty), T.Leafy → wsum f T.pre = (T.sub σ).sz
  | .node l ts, h => by
    rw [Ty.pre, wsum_cons]
    show (match l.num with | some n => f n | none => 1) + wsum f (Ty.pres ts) = _
    cases e : l.num with
    | some n =>
      have hk : ts = [] := h (.node l ts) (by rw [pre_eq]; exact List.mem_cons_self) (by show l.num ≠ none; rw [e]; exact fun z => nomatch z)
      subst hk
      rw [sub_var σ (T := .node l []) e, pres_nil, wsum_nil]
      exact hf n
    | none =>
      rw [sub_node σ (T := .node l ts) e, Ty.sz_eq]
      show 1 + _ = Ty.szs (Ty.subs σ ts) + 1
      rw [wsums_sub σ f hf ts fun t ht => h.kid (T := .node l ts) ht, Nat.add_comm]
theorem wsums_sub (σ : Nat → Ty) (f : Nat → Nat) (hf : ∀ n, f n = (σ n).sz) : ∀ (ts : List Ty), (∀ t ∈ ts, t.Leafy) → wsum f (Ty.pres ts) = Ty.szs (Ty.subs σ ts)
  | [], _ => by rw [pres_nil, subs_nil, szs_nil, wsum_nil]
  | t :: r, h => by
    rw [pres_cons, subs_cons, szs_cons, wsum_app, wsum_sub σ f hf t (h t List.mem_cons_self), wsums_sub σ f hf r fun u hu => h u (List.mem_cons_of_mem _ hu)]
end
def ev (σ : Nat → Ty) : List (Ty × Bool) → List Ty → Option (List Ty)
  | [], d => some d
  | (T, b) :: r, d => if T.lab.num ≠ none ∨ b = false then ev σ r (d ++ [T.sub σ])
    else if T.kids.length ≤ d.length then ev σ r (d.take (d.length - T.kids.length) ++ [.node T.lab (d.drop (d.length - T.kids.length))]) else none
theorem ev_done (σ : Nat → Ty) {T : Ty} {b : Bool} {r : List (Ty × Bool)} {d : List Ty} (h : T.lab.num ≠ none ∨ b = false) : ev σ ((T, b) :: r) d = ev σ r (d ++ [T.sub σ]) := by
  rw [ev, if_pos h]
theorem ev_kids (σ : Nat → Ty) : ∀ (ts : List Ty) (r : List (Ty × Bool)) (d : List Ty), ev σ (ts.map (fun t => (t, false)) ++ r) d = ev σ r (d ++ Ty.subs σ ts)
  | [], r, d => by rw [subs_nil, List.append_nil]; rfl
  | t :: ts, r, d => by
    rw [List.map_cons, List.cons_append, ev_done σ (.inr rfl), ev_kids σ ts r, subs_cons, List.append_assoc]
    rfl
theorem ev_open (σ : Nat → Ty) {T : Ty} (h : T.lab.num = none) (r : List (Ty × Bool)) (d : List Ty) :
    ev σ (T.kids.map (fun t => (t, false)) ++ (T, true) :: r) d = ev σ ((T, false) :: r) d := by
  have hl : (Ty.subs σ T.kids).length = T.kids.length := by rw [subs_map, List.length_map]
  rw [ev_kids, ev_done σ (.inr rfl), ev, if_neg (by rw [h]; simp), if_pos (by rw [List.length_append, hl]; omega), sub_node σ h, List.length_append, hl, Nat.add_sub_cancel, List.take_left', List.drop_left'] <;> rfl
def wt : Ty × Bool → Nat
  | (T, b) => if b = true then 1 else 2 * T.sz
def wts (es : List (Ty × Bool)) : Nat := (es.map wt).sum
theorem wts_app (a b : List (Ty × Bool)) : wts (a ++ b) = wts a + wts b := by unfold wts; rw [List.map_append, List.sum_append]
theorem wts_one (e : Ty × Bool) : wts [e] = wt e := by unfold wts; simp
theorem wt_pos (e : Ty × Bool) : 1 ≤ wt e := by
  obtain ⟨T, b⟩ := e
  have := sz_pos T
  cases b with
  | true => exact Nat.le_refl _
  | false =>
    show 1 ≤ 2 * T.sz
    omega
theorem wts_len : ∀ (es : List (Ty × Bool)), es.length ≤ wts es
  | [] => Nat.zero_le _
  | e :: r => by
    have h1 := wts_len r
    have h2 := wt_pos e
    have h3 := wts_app [e] r
    rw [wts_one] at h3
    rw [List.length_cons, show e :: r = [e] ++ r from rfl, h3]
    omega
theorem wts_kids (ts : List Ty) : wts (ts.map (fun t => (t, false)) ) = 2 * Ty.szs ts := by
  induction ts with
  | nil => rw [szs_nil]; rfl
  | cons t r ih =>
    rw [List.map_cons, show (t, false) :: r.map (fun t => (t, false)) = [(t, false)] ++ r.map (fun t => (t, false)) from rfl, wts_app, wts_one, ih, szs_cons]
    show (if false = true then 1 else 2 * t.sz) + _ = _
    rw [if_neg Bool.false_ne_true]
    omega
theorem vars_kid {T t : Ty} (m : t ∈ T.kids) {n : Nat} (h : n ∈ t.vars) : n ∈ T.vars := by
  obtain ⟨u, hu, e⟩ := List.mem_filterMap.mp h
  exact List.mem_filterMap.mpr ⟨u, by rw [pre_eq]; exact List.mem_cons_of_mem _ (mem_pres m hu), e⟩
theorem vars_self {T : Ty} {n : Nat} (h : T.lab.num = some n) : n ∈ T.vars := List.mem_filterMap.mpr ⟨T, by rw [pre_eq]; exact List.mem_cons_self, h⟩
theorem len_below : ∀ (k : Nat) (ns : List Nat), ns.Nodup → (∀ n ∈ ns, n < k) → ns.length ≤ k
  | 0, ns, _, h => by
    cases ns with
    | nil => exact Nat.le_refl _
    | cons n r => exact absurd (h n List.mem_cons_self) (Nat.not_lt_zero _)
  | k + 1, ns, hd, h => by
    have h1 := len_below k (ns.filter (· ≠ k)) (hd.filter _) fun n hn => by
      have q := List.mem_filter.mp hn
      have := h n q.1
      have : n ≠ k := by simpa using q.2
      omega
    have h2 : ns.length ≤ (ns.filter (· ≠ k)).length + 1 := by
      clear h1 h
      induction ns with
      | nil => exact Nat.zero_le _
      | cons n r ih =>
        have hd2 := List.nodup_cons.mp hd
        by_cases e : n = k
        · subst e
          have e2 : r.filter (· ≠ n) = r := List.filter_eq_self.mpr fun m hm => by
            have : m ≠ n := fun z => hd2.1 (z ▸ hm)
            simpa using this
          rw [List.filter_cons, if_neg (by simp), e2, List.length_cons]
          exact Nat.le_refl _
        · have := ih hd2.2
          rw [List.filter_cons, if_pos (by simpa using e), List.length_cons, List.length_cons]
          omega
    omega
theorem mem_cast (ns : List Nat) (n : Nat) : n ∈ ns ↔ (n : Int) ∈ ns.map fun (k : Nat) => (k : Int) := by
  rw [List.mem_map]
  exact ⟨fun h => ⟨n, h, rfl⟩, fun ⟨k, h, e⟩ => by
    have : k = n := by omega
    rw [← this]
    exact h⟩
theorem sorted_nat {js : List Int} {F : List Nat} (hperm : js.Perm (F.map fun (n : Nat) => (n : Int))) (hs : js.Pairwise (· ≤ ·)) (hd : F.Nodup) :
    ∃ ns : List Nat, js = ns.map (fun (n : Nat) => (n : Int)) ∧ ns.Pairwise (· < ·) ∧ (∀ n, n ∈ ns ↔ n ∈ F) ∧ ns.length = F.length := by
  have e : js = (js.map Int.toNat).map fun (n : Nat) => (n : Int) := by
    rw [List.map_map]
    refine (List.map_id js).symm.trans (List.map_congr_left fun z hz => ?_)
    obtain ⟨n, _, e⟩ := List.mem_map.mp (hperm.mem_iff.mp hz)
    show z = ((z.toNat : Nat) : Int)
    rw [← e]
    rfl
  refine ⟨js.map Int.toNat, e, ?_, fun n => ?_, ?_⟩
  · have hn : (F.map fun (n : Nat) => (n : Int)).Nodup := List.pairwise_map.mpr (hd.imp fun {a b} h => by
      intro z
      exact h (by omega))
    have hj : js.Nodup := hperm.nodup_iff.mpr hn
    have h2 : js.Pairwise (· < ·) := (hs.and hj).imp fun {a b} h => by
      obtain ⟨h1, h2⟩ := h
      have h2 : a ≠ b := h2
      omega
    rw [e] at h2
    exact (List.pairwise_map.mp h2).imp fun {a b} h => by omega
  · rw [mem_cast, ← e, hperm.mem_iff, ← mem_cast]
  · rw [List.length_map, hperm.length_eq, List.length_map]
theorem all_same {ns M : List Nat} (h : ∀ n, n ∈ ns ↔ n ∈ M) (f : Nat → Bool) : ns.all f = M.all f := by
  rw [Bool.eq_iff_iff, List.all_eq_true, List.all_eq_true]
  exact ⟨fun q n hn => q n ((h n).mpr hn), fun q n hn => q n ((h n).mp hn)⟩
def sg (us : List Ty) (n : Nat) : Ty := us[n]?.getD (.node .tup [])
theorem nodup_ne {ns : List Nat} (h : ns.Nodup) {i j n m : Nat} (hi : ns[i]? = some n) (hj : ns[j]? = some m) (ne : i ≠ j) : ¬ n = m := fun e => by
  subst e
  obtain ⟨h1, e1⟩ := List.getElem?_eq_some_iff.mp hi
  obtain ⟨h2, e2⟩ := List.getElem?_eq_some_iff.mp hj
  have p := List.pairwise_iff_getElem.mp h
  rcases Nat.lt_or_gt_of_ne ne with lt | gt
  · exact p i j h1 h2 lt (e1.trans e2.symm)
  · exact p j i h2 h1 gt (e2.trans e1.symm)
def GTy (ar : List Nat) (T : Ty) : Prop := (∀ t ∈ T.pre, LocOk ar t.lab t.kids.length ∧ ∀ n, t.lab.num = some n → n < 1000) ∧ T.sz ≤ 300
theorem GTy.kid {ar : List Nat} {l : Lab} {ts : List Ty} (h : GTy ar (.node l ts)) : ∀ t ∈ ts, GTy ar t := fun t ht => by
  refine ⟨fun u hu => h.1 u (by rw [pre_eq]; exact List.mem_cons_of_mem _ (mem_pres ht hu)), ?_⟩
  have h1 : t.sz ≤ Ty.szs ts := by
    obtain ⟨a, b, rfl⟩ := List.append_of_mem ht
    rw [szs_app, szs_cons]
    omega
  have h2 : (Ty.node l ts).sz = Ty.szs ts + 1 := by rw [Ty.sz]
  have h3 := h.2
  omega
theorem lt60 {n : Nat} (h : n ≤ 1000) : (n : Int) < 10 ^ 60 := by
  have : ((n : Nat) : Int) ≤ 1000 := by omega
  exact Int.lt_of_le_of_lt this (by decide +kernel)
abbrev tv (n : Nat) : Ty := .node (.var n) []
theorem mem_pres_inv {t : Ty} : ∀ {ts : List Ty}, t ∈ Ty.pres ts → ∃ u ∈ ts, t ∈ u.pre
  | [], h => by
    rw [pres_nil] at h
    cases h
  | x :: r, h => by
    rw [pres_cons] at h
    rcases List.mem_append.mp h with h | h
    · exact ⟨x, List.mem_cons_self, h⟩
    · obtain ⟨u, h1, h2⟩ := mem_pres_inv h
      exact ⟨u, List.mem_cons_of_mem _ h1, h2⟩
theorem Ty.Ok.node {ar : List Nat} {l : Lab} {ts : List Ty} (h : LocOk ar l ts.length) (hs : ∀ t ∈ ts, t.Ok ar) : (Ty.node l ts).Ok ar := fun t ht => by
  rw [pre_eq] at ht
  rcases List.mem_cons.mp ht with e | ht
  · rw [e]
    exact h
  · obtain ⟨u, h1, h2⟩ := mem_pres_inv ht
    exact hs u h1 t h2
theorem kid_sz {T t : Ty} (m : t ∈ T.kids) : t.sz < T.sz := by
  have : ∀ {ts : List Ty}, t ∈ ts → t.sz ≤ Ty.szs ts := fun {ts} h => by
    induction ts with
    | nil => cases h
    | cons x r ih =>
      rw [szs_cons]
      rcases List.mem_cons.mp h with e | h
      · rw [e]
        exact Nat.le_add_right _ _
      · have := ih h
        omega
  have := this m
  rw [T.sz_eq]
  omega
theorem szs_int : ∀ (ts : List Ty), (ts.map fun t => ((t.sz : Nat) : Int)).sum = ((Ty.szs ts : Nat) : Int)
  | [] => by rw [szs_nil]; rfl
  | t :: r => by
    rw [List.map_cons, List.sum_cons, szs_int r, szs_cons]
    omega
def addV (acc more : List Nat) : List Nat := acc ++ more.filter fun n => !decide (n ∈ acc)
mutual
def Ty.ord : Ty → List Nat
  | .node l ts => match l.num with
    | some n => [n]
    | none => Ty.ords [] ts
def Ty.ords : List Nat → List Ty → List Nat
  | acc, [] => acc
  | acc, t :: r => Ty.ords (addV acc (Ty.ord t)) r
end
theorem ords_snoc (t : Ty) : ∀ (ts : List Ty) (acc : List Nat), Ty.ords acc (ts ++ [t]) = addV (Ty.ords acc ts) t.ord
  | [], acc => by
    rw [List.nil_append, Ty.ords, Ty.ords, Ty.ords]
  | x :: r, acc => by
    rw [List.cons_append, Ty.ords, ords_snoc t r, Ty.ords]
theorem ord_var {T : Ty} {n : Nat} (h : T.lab.num = some n) : T.ord = [n] := by
  obtain ⟨l, ts⟩ := T
  have h : l.num = some n := h
  rw [Ty.ord, h]
theorem ord_node {T : Ty} (h : T.lab.num = none) : T.ord = Ty.ords [] T.kids := by
  obtain ⟨l, ts⟩ := T
  have h : l.num = none := h
  rw [Ty.ord, h]
  rfl
theorem addV_len (acc more : List Nat) : (addV acc more).length ≤ acc.length + more.length := by
  unfold addV
  rw [List.length_append]
  have := List.length_filter_le (fun n => !decide (n ∈ acc)) more
  omega
mutual
theorem ord_len : ∀ (T : Ty), T.ord.length ≤ T.sz
  | .node l ts => by
    rw [Ty.ord, Ty.sz]
    cases l.num with
    | some n => exact Nat.le_add_left _ _
    | none =>
      have := ords_len ts []
      show (Ty.ords [] ts).length ≤ _
      rw [List.length_nil] at this
      omega
theorem ords_len : ∀ (ts : List Ty) (acc : List Nat), (Ty.ords acc ts).length ≤ acc.length + Ty.szs ts
  | [], acc => by
    rw [Ty.ords, szs_nil]
    omega
  | t :: r, acc => by
    rw [Ty.ords, szs_cons]
    have h1 := ords_len r (addV acc t.ord)
    have h2 := addV_len acc t.ord
    have h3 := ord_len t
    omega
end
def addN (acc : List Nat) (n : Nat) : List Nat := if n ∈ acc then acc else acc ++ [n]
def foldA (acc : List Nat) (l : List Nat) : List Nat := l.foldl addN acc
theorem foldA_app (acc a b : List Nat) : foldA acc (a ++ b) = foldA (foldA acc a) b := List.foldl_append
theorem addV_one (acc : List Nat) (n : Nat) : addV acc [n] = addN acc n := by
  unfold addV addN
  by_cases h : n ∈ acc
  · rw [if_pos h, List.filter_cons_of_neg (by simpa using h), List.filter_nil, List.append_nil]
  · rw [if_neg h, List.filter_cons_of_pos (by simpa using h), List.filter_nil]
theorem addV_nil (acc : List Nat) : addV acc [] = acc := by
  unfold addV
  rw [List.filter_nil, List.append_nil]
theorem nil_addV (l : List Nat) : addV [] l = l := by
  unfold addV
  rw [List.nil_append]
  exact List.filter_eq_self.mpr fun n _ => by simp
theorem addV_assoc (acc a b : List Nat) : addV acc (addV a b) = addV (addV acc a) b := by
  unfold addV
  rw [List.filter_append, List.filter_filter, List.append_assoc]
  congr 2
  refine List.filter_congr fun n _ => ?_
  by_cases h1 : n ∈ acc
  · simp [h1]
  · by_cases h2 : n ∈ a <;> simp [h1, h2]
theorem vars_pre (T : Ty) : T.vars = (match T.lab.num with | some n => [n] | none => []) ++ (Ty.pres T.kids).filterMap fun t => t.lab.num := by
  unfold Ty.vars
  rw [pre_eq, List.filterMap_cons]
  cases T.lab.num <;> rfl
mutual
theorem ordA : ∀ (T : Ty), T.Leafy → ∀ acc, foldA acc T.vars = addV acc T.ord
  | .node l ts, hl, acc => by
    rw [vars_pre, foldA_app]
    cases e : l.num with
    | some n =>
      have hk : ts = [] := hl (.node l ts) (by rw [pre_eq]; exact List.mem_cons_self) (by show l.num ≠ none; rw [e]; exact fun z => nomatch z)
      subst hk
      rw [ord_var (T := .node l []) e, addV_one]
      show foldA (foldA acc (match l.num with | some n => [n] | none => [])) _ = _
      rw [e]
      show foldA (addN acc n) ((Ty.pres []).filterMap _) = _
      rw [pres_nil]
      rfl
    | none =>
      rw [ord_node (T := .node l ts) e]
      show foldA (foldA acc (match l.num with | some n => [n] | none => [])) ((Ty.pres ts).filterMap _) = addV acc (Ty.ords [] ts)
      rw [e, ordsA ts (fun t ht => hl.kid (T := .node l ts) ht) acc [], addV_nil]
      rfl
theorem ordsA : ∀ (ts : List Ty), (∀ t ∈ ts, t.Leafy) → ∀ acc b, addV acc (Ty.ords b ts) = foldA (addV acc b) ((Ty.pres ts).filterMap fun t => t.lab.num)
  | [], _, acc, b => by
    rw [Ty.ords, pres_nil]
    rfl
  | t :: r, hl, acc, b => by
    rw [Ty.ords, ordsA r (fun u hu => hl u (List.mem_cons_of_mem _ hu)), addV_assoc, pres_cons, List.filterMap_append, foldA_app]
    have := ordA t (hl t List.mem_cons_self) (addV acc b)
    unfold Ty.vars at this
    rw [this]
end
theorem ord_vars {T : Ty} (h : T.Leafy) : foldA [] T.vars = T.ord := by rw [ordA T h, nil_addV]
theorem foldA_len : ∀ (l acc : List Nat), (foldA acc l).length ≤ acc.length + l.length
  | [], acc => Nat.le_refl _
  | n :: r, acc => by
    have := foldA_len r (addN acc n)
    have h : (addN acc n).length ≤ acc.length + 1 := by
      unfold addN
      split
      · exact Nat.le_succ _
      · rw [List.length_append, List.length_singleton]
        exact Nat.le_refl _
    show (foldA (addN acc n) r).length ≤ _
    rw [List.length_cons]
    omega
def idx : List Nat → Nat → Nat
  | [], _ => 0
  | m :: r, n => if n = m then 0 else idx r n + 1
theorem idx_get : ∀ {ns : List Nat} {n : Nat}, n ∈ ns → ns[idx ns n]? = some n
  | m :: r, n, h => by
    unfold idx
    by_cases e : n = m
    · rw [if_pos e, e]
      rfl
    · rw [if_neg e, List.getElem?_cons_succ]
      exact idx_get ((List.mem_cons.mp h).resolve_left e)
theorem idx_lt {ns : List Nat} {n : Nat} (h : n ∈ ns) : idx ns n < ns.length := lt_of_get (idx_get h)
theorem idx_le : ∀ (ns : List Nat) (n : Nat), idx ns n ≤ ns.length
  | [], _ => Nat.le_refl _
  | m :: r, n => by
    have := idx_le r n
    unfold idx
    rw [List.length_cons]
    split <;> omega
theorem idx_inj {ns : List Nat} {a b : Nat} (ha : a ∈ ns) (hb : b ∈ ns) (e : idx ns a = idx ns b) : a = b := by
  have h1 := idx_get ha
  have h2 := idx_get hb
  rw [e, h2] at h1
  injection h1 with h1
  exact h1.symm
theorem idx_at {ns : List Nat} (hd : ns.Nodup) {i n : Nat} (h : ns[i]? = some n) : idx ns n = i := by
  have h1 := idx_get (List.mem_of_getElem? h)
  by_cases e : idx ns n = i
  · exact e
  · exact absurd rfl (nodup_ne hd h1 h e)
theorem idx_map {ns : List Nat} (hd : ns.Nodup) : ns.map (idx ns) = List.range ns.length := by
  apply List.ext_getElem?
  intro i
  rw [List.getElem?_map]
  by_cases h : i < ns.length
  · have e : ns[i]? = some ns[i] := List.getElem?_eq_getElem h
    rw [e, List.getElem?_range h]
    show some (idx ns ns[i]) = some i
    rw [idx_at hd e]
  · rw [List.getElem?_eq_none (by omega), List.getElem?_eq_none (by rw [List.length_range]; omega)]
    rfl
theorem foldA_nodup : ∀ (l acc : List Nat), acc.Nodup → (foldA acc l).Nodup
  | [], acc, h => h
  | n :: r, acc, h => by
    show (foldA (addN acc n) r).Nodup
    refine foldA_nodup r _ ?_
    unfold addN
    by_cases e : n ∈ acc
    · rw [if_pos e]
      exact h
    · rw [if_neg e]
      refine List.nodup_append.mpr ⟨h, (by simp), fun a ha b hb => ?_⟩
      rw [List.mem_singleton.mp hb]
      intro z
      exact e (z ▸ ha)
theorem foldA_mem {n : Nat} : ∀ (l acc : List Nat), n ∈ foldA acc l ↔ n ∈ acc ∨ n ∈ l
  | [], acc => by
    show n ∈ acc ↔ _
    simp
  | m :: r, acc => by
    show n ∈ foldA (addN acc m) r ↔ _
    rw [foldA_mem r]
    unfold addN
    by_cases e : m ∈ acc
    · rw [if_pos e, List.mem_cons]
      constructor
      · rintro (h | h)
        · exact .inl h
        · exact .inr (.inr h)
      · rintro (h | h | h)
        · exact .inl h
        · exact .inl (h ▸ e)
        · exact .inr h
    · rw [if_neg e, List.mem_append, List.mem_singleton, List.mem_cons, or_assoc]
theorem foldA_map (f : Nat → Nat) {S : List Nat} (hf : ∀ a b, a ∈ S → b ∈ S → f a = f b → a = b) : ∀ (l acc : List Nat), (∀ a ∈ acc, a ∈ S) → (∀ a ∈ l, a ∈ S) → foldA (acc.map f) (l.map f) = (foldA acc l).map f
  | [], acc, _, _ => rfl
  | n :: r, acc, ha, hl => by
    show foldA (addN (acc.map f) (f n)) (r.map f) = (foldA (addN acc n) r).map f
    have hn := hl n List.mem_cons_self
    have e : addN (acc.map f) (f n) = (addN acc n).map f := by
      unfold addN
      by_cases h : n ∈ acc
      · rw [if_pos h, if_pos (List.mem_map_of_mem h)]
      · rw [if_neg h, if_neg, List.map_append]
        · rfl
        · intro z
          obtain ⟨m, hm, em⟩ := List.mem_map.mp z
          exact h (hf m n (ha m hm) hn em ▸ hm)
    rw [e]
    refine foldA_map f hf r _ (fun a h => ?_) (fun a h => hl a (List.mem_cons_of_mem _ h))
    unfold addN at h
    split at h
    · exact ha a h
    · rcases List.mem_append.mp h with h | h
      · exact ha a h
      · rw [List.mem_singleton.mp h]
        exact hn
theorem ord_nodup {T : Ty} (h : T.Leafy) : T.ord.Nodup := by
  rw [← ord_vars h]
  exact foldA_nodup _ [] List.nodup_nil
theorem ord_mem {T : Ty} (h : T.Leafy) (n : Nat) : n ∈ T.ord ↔ n ∈ T.vars := by
  rw [← ord_vars h, foldA_mem]
  simp
mutual
theorem vars_put (f : Nat → Nat) : ∀ (T : Ty), T.Leafy → (T.sub fun n => tv (f n)).vars = T.vars.map f
  | .node l ts, h => by
    cases e : l.num with
    | some n =>
      have hk : ts = [] := h (.node l ts) (by rw [pre_eq]; exact List.mem_cons_self) (by show l.num ≠ none; rw [e]; exact fun z => nomatch z)
      subst hk
      rw [sub_var _ (T := .node l []) e, vars_pre, vars_pre (.node l [])]
      show [f n] ++ (Ty.pres []).filterMap _ = ((match l.num with | some n => [n] | none => []) ++ (Ty.pres []).filterMap _).map f
      rw [e, pres_nil]
      rfl
    | none =>
      rw [sub_node _ (T := .node l ts) e, vars_pre, vars_pre (.node l ts)]
      show (match l.num with | some n => [n] | none => []) ++ (Ty.pres (Ty.subs _ ts)).filterMap _ = ((match l.num with | some n => [n] | none => []) ++ (Ty.pres ts).filterMap _).map f
      rw [e, varss_put f ts fun t ht => h.kid (T := .node l ts) ht]
      rfl
theorem varss_put (f : Nat → Nat) : ∀ (ts : List Ty), (∀ t ∈ ts, t.Leafy) → ((Ty.pres (Ty.subs (fun n => tv (f n)) ts)).filterMap fun t => t.lab.num) = ((Ty.pres ts).filterMap fun t => t.lab.num).map f
  | [], _ => by
    rw [subs_nil, pres_nil]
    rfl
  | t :: r, h => by
    rw [subs_cons, pres_cons, pres_cons, List.filterMap_append, List.filterMap_append, List.map_append, varss_put f r fun u hu => h u (List.mem_cons_of_mem _ hu)]
    have := vars_put f t (h t List.mem_cons_self)
    unfold Ty.vars at this
    rw [this]
end
mutual
theorem sz_put (f : Nat → Nat) : ∀ (T : Ty), T.Leafy → (T.sub fun n => tv (f n)).sz = T.sz
  | .node l ts, h => by
    cases e : l.num with
    | some n =>
      have hk : ts = [] := h (.node l ts) (by rw [pre_eq]; exact List.mem_cons_self) (by show l.num ≠ none; rw [e]; exact fun z => nomatch z)
      subst hk
      rw [sub_var _ (T := .node l []) e, Ty.sz, Ty.sz]
    | none =>
      rw [sub_node _ (T := .node l ts) e]
      show (Ty.node l (Ty.subs _ ts)).sz = _
      rw [Ty.sz, Ty.sz, szs_put f ts fun t ht => h.kid (T := .node l ts) ht]
theorem szs_put (f : Nat → Nat) : ∀ (ts : List Ty), (∀ t ∈ ts, t.Leafy) → Ty.szs (Ty.subs (fun n => tv (f n)) ts) = Ty.szs ts
  | [], _ => by rw [subs_nil]
  | t :: r, h => by rw [subs_cons, szs_cons, szs_cons, sz_put f t (h t List.mem_cons_self), szs_put f r fun u hu => h u (List.mem_cons_of_mem _ hu)]
end
theorem subs_len (σ : Nat → Ty) (ts : List Ty) : (Ty.subs σ ts).length = ts.length := by rw [subs_map, List.length_map]
mutual
theorem ok_put {ar : List Nat} (f : Nat → Nat) : ∀ (T : Ty), T.Ok ar → (∀ n, n ∈ T.vars → ((f n : Nat) : Int) < 10 ^ 60) → (T.sub fun n => tv (f n)).Ok ar
  | .node l ts, h, hf => by
    cases e : l.num with
    | some n =>
      rw [sub_var _ (T := .node l ts) e]
      refine Ty.Ok.node (l := .var (f n)) ⟨rfl, hf n ?_⟩ (fun t ht => nomatch ht)
      rw [vars_pre]
      show n ∈ (match l.num with | some n => [n] | none => []) ++ _
      rw [e]
      exact List.mem_append_left _ (List.mem_singleton_self _)
    | none =>
      rw [sub_node _ (T := .node l ts) e]
      refine Ty.Ok.node (l := l) ?_ (oks_put f ts (fun t ht => h.kid (T := .node l ts) ht) fun t ht n hn => hf n ?_)
      · have := h.loc
        rw [subs_len]
        exact this
      · rw [vars_pre]
        refine List.mem_append_right _ ?_
        unfold Ty.vars at hn
        obtain ⟨u, hu, eu⟩ := List.mem_filterMap.mp hn
        exact List.mem_filterMap.mpr ⟨u, mem_pres ht hu, eu⟩
theorem oks_put {ar : List Nat} (f : Nat → Nat) : ∀ (ts : List Ty), (∀ t ∈ ts, t.Ok ar) → (∀ t ∈ ts, ∀ n, n ∈ t.vars → ((f n : Nat) : Int) < 10 ^ 60) → ∀ u ∈ Ty.subs (fun n => tv (f n)) ts, u.Ok ar
  | [], _, _, u, hu => by
    rw [subs_nil] at hu
    exact (nomatch hu)
  | t :: r, h, hf, u, hu => by
    rw [subs_cons] at hu
    rcases List.mem_cons.mp hu with rfl | hu
    · exact ok_put f t (h t List.mem_cons_self) (hf t List.mem_cons_self)
    · exact oks_put f r (fun x hx => h x (List.mem_cons_of_mem _ hx)) (fun x hx => hf x (List.mem_cons_of_mem _ hx)) u hu
end
def Ty.ren (T : Ty) : Ty := T.sub fun n => tv (idx T.ord n)
theorem ren_ok {ar : List Nat} {T : Ty} (h : T.Ok ar) (hs : T.sz ≤ 300) : T.ren.Ok ar := ok_put _ T h fun n _ => lt60 (by
  have := idx_le T.ord n
  have := ord_len T
  omega)
theorem ren_sz {T : Ty} (h : T.Leafy) : T.ren.sz = T.sz := sz_put _ T h
theorem ren_vars {T : Ty} (h : T.Leafy) : T.ren.vars = T.vars.map (idx T.ord) := vars_put _ T h
theorem ren_ord {ar : List Nat} {T : Ty} (h : T.Ok ar) (hs : T.sz ≤ 300) : T.ren.ord = List.range T.ord.length := by
  have hl := h.leafy
  rw [← ord_vars (ren_ok h hs).leafy, ren_vars hl]
  have := foldA_map (idx T.ord) (S := T.ord) (fun a b ha hb e => idx_inj ha hb e) T.vars [] (fun a ha => nomatch ha) (fun a ha => (ord_mem hl a).mpr ha)
  rw [show ([] : List Nat).map (idx T.ord) = [] from rfl] at this
  rw [this, ord_vars hl, idx_map (ord_nodup hl)]
theorem vars_lt {k : Nat} {T : Ty} (h : ∀ n, n ∈ T.vars → n < k) : ∀ t ∈ T.pre, ∀ n, t.lab.num = some n → n < k := fun t ht n hn => h n (List.mem_filterMap.mpr ⟨t, ht, hn⟩)
theorem GTy.of {ar : List Nat} {T : Ty} (h : T.Ok ar) (hs : T.sz ≤ 300) (hv : ∀ n, n ∈ T.vars → n < 1000) : GTy ar T := ⟨fun t ht => ⟨h t ht, fun n hn => vars_lt hv t ht n hn⟩, hs⟩
theorem ren_good {ar : List Nat} {T : Ty} (h : T.Ok ar) (hs : T.sz ≤ 300) : GTy ar T.ren := by
  refine GTy.of (ren_ok h hs) (by rw [ren_sz h.leafy]; exact hs) fun n hn => ?_
  rw [ren_vars h.leafy] at hn
  obtain ⟨m, hm, rfl⟩ := List.mem_map.mp hn
  have := idx_le T.ord m
  have := ord_len T
  omega
end Pl
namespace Pl
open PySem L2
/-! ### types as data -/
def Lab.d : Lab → List D → D
  | .var n, _ => .tup [.str "var", .int (n : Int)]
  | .fn, ds => .tup (.str "fn" :: ds)
  | .tup, ds => .tup [.str "tuple", .tup ds]
  | .made s, ds => .tup [.str "made", .int (s : Int), .tup ds]
mutual
def Ty.d : Ty → D
  | .node l ts => l.d (Ty.ds ts)
def Ty.ds : List Ty → List D
  | [] => []
  | t :: r => Ty.d t :: Ty.ds r
end
theorem ds_map : ∀ (ts : List Ty), Ty.ds ts = ts.map Ty.d
  | [] => by rw [Ty.ds]; rfl
  | t :: r => by rw [Ty.ds, ds_map r]; rfl
theorem d_eq (l : Lab) (ts : List Ty) : (Ty.node l ts).d = l.d (ts.map Ty.d) := by rw [Ty.d, ds_map]
theorem d_eta (T : Ty) : T.d = T.lab.d (T.kids.map Ty.d) := by cases T; exact d_eq _ _
theorem d_var (n : Nat) (ts : List Ty) : (Ty.node (.var n) ts).d = .tup [.str "var", .int (n : Int)] := by rw [Ty.d]; rfl
theorem d_fn (ts : List Ty) : (Ty.node .fn ts).d = .tup (.str "fn" :: ts.map Ty.d) := d_eq _ _
theorem d_tup (ts : List Ty) : (Ty.node .tup ts).d = .tup [.str "tuple", .tup (ts.map Ty.d)] := d_eq _ _
theorem d_made (s : Nat) (ts : List Ty) : (Ty.node (.made s) ts).d = .tup [.str "made", .int (s : Int), .tup (ts.map Ty.d)] := d_eq _ _
def isPosD : D → Bool
  | .int i => decide (0 < i) && decide (i < BEY)
  | _ => false
/-- the parts of a value that looks like a type at its top -/
def kidsL (w : Str) (x : D) (r : List D) : Option (List D) :=
  if w = "var" then (if r = [] ∧ isWholeD x = true then some [] else none)
  else if w = "fn" then (match r with | [y] => some [x, y] | _ => none)
  else match (x :: r).getLast? with
    | some (.tup ks) => if w = "tuple" then (if r = [] ∧ ks.length ≠ 1 then some ks else none) else if w = "made" then (match r with | [_] => if isPosD x = true then some ks else none | _ => none) else none
    | _ => none
def kidsD : D → Option (List D)
  | .tup (.str w :: x :: r) => kidsL w x r
  | _ => none
def optT : Option (List D) → D
  | some ks => .tup ks
  | none => .non
theorem atI_last' {α : Type} {x : α} {xs : List α} (h : xs.getLast? = some x) : atI xs (-1) = some x := by
  have hn : xs ≠ [] := by intro e; rw [e] at h; cases h
  have e : xs = xs.dropLast ++ [x] := by
    rw [List.getLast?_eq_some_getLast hn] at h
    cases h
    exact (List.dropLast_concat_getLast hn).symm
  rw [e]
  exact atI_last _ _
section
variable {P : Program} {w : World} {K : PySem.W.Frag} {mg : Str → Option Value} {base : Heap}
abbrev s__parts_of : Stmt := top 26
theorem sc__parts_of : FnScope ["value", "word"] ["value"] (defScope s__parts_of) := ⟨rfl, rfl, rfl, by decide +kernel, rfl, by decide +kernel, by decide +kernel⟩
def spParts : Spc := fun ds μ q => ∃ d, ds = [d] ∧ Kt1 μ d ∧ q (optT (kidsD d)) μ
set_option maxHeartbeats 4000000 in
theorem ok_parts_of (A : At K mg "_parts_of" s__parts_of ["value"]) (B : Bi mg) (D_is_integer : Has P w K mg base "is_integer" ["value"] 1 spInt) (D_is_whole : Has P w K mg base "is_whole" ["value"] 2 spWhole) : Has P w K mg base "_parts_of" ["value"] 3 spParts := by
  refine .mk A fun f fd F => ?_
  refine qfn F sc__parts_of (by decide) ?len (fun cdv A outer s H E hr => (qss_cons (qs_if (QW.qt (qw_or (qt_not (qt_val (qe_callB qc_isi (by rfl) B.isinstance (by decide +kernel) (qa_cons (qv 0) (qa_cons (qe_bltn (n := "tuple") rfl B.tuple (by decide +kernel)) qa_nil))))) (qw_or (qt_cmp qop_lt (qe_callB qc_len (by rfl) B.len (by decide +kernel) (qa_cons (qv 0) qa_nil)) qe_int (nomark _)) (qw_or1 (qt_not (qt_val (qe_callB qc_isi (by rfl) B.isinstance (by decide +kernel) (qa_cons (qe_ix (qix (hu_of hr)) (qv 0) qe_int) (qa_cons (qe_bltn (n := "str") rfl B.str (by decide +kernel)) qa_nil))))))))) (qss_one (qs_ret qe_non)) qss_nil)
  (qss_cons (qs_set (i := 1) sc__parts_of.nd rfl (Or.inl rfl) (qe_ix (qix (hu_of hr)) (qv 0) qe_int))
  (qss_cons (qs_if (qt_cmp (qop_eq hr.units) (qv 1) qe_str (nomark _)) (qss_one (qs_ret (qe_ifExp (QW.qt (qw_and (qt_cmp (qop_eq hr.units) (qe_callB qc_len (by rfl) B.len (by decide +kernel) (qa_cons (qv 0) qa_nil)) qe_int (nomark _)) (qw_and1 (qt_val (qe_call D_is_whole (hr.mono (by decide)) (qa_cons (qe_ix (qix (hu_of hr)) (qv 0) qe_int) qa_nil)))))) (qe_tup qa_nil) qe_non))) qss_nil)
  (qss_cons (qs_if (qt_cmp (qop_eq hr.units) (qv 1) qe_str (nomark _)) (qss_one (qs_ret (qe_ifExp (qt_cmp (qop_eq hr.units) (qe_callB qc_len (by rfl) B.len (by decide +kernel) (qa_cons (qv 0) qa_nil)) qe_int (nomark _)) (qe_slice (qv 0) (qo_some qe_int) qo_none) qe_non))) qss_nil)
  (qss_cons (qs_if (qt_not (qt_val (qe_callB qc_isi (by rfl) B.isinstance (by decide +kernel) (qa_cons (qe_ix (qix (hu_of hr)) (qv 0) (qe_neg qe_int)) (qa_cons (qe_bltn (n := "tuple") rfl B.tuple (by decide +kernel)) qa_nil))))) (qss_one (qs_ret qe_non)) qss_nil)
  (qss_cons (qs_if (qt_cmp (qop_eq hr.units) (qv 1) qe_str (nomark _)) (qss_one (qs_ret (qe_ifExp (QW.qt (qw_and (qt_cmp (qop_eq hr.units) (qe_callB qc_len (by rfl) B.len (by decide +kernel) (qa_cons (qv 0) qa_nil)) qe_int (nomark _)) (qw_and1 (qt_cmp (qop_ne hr.units) (qe_callB qc_len (by rfl) B.len (by decide +kernel) (qa_cons (qe_ix (qix (hu_of hr)) (qv 0) qe_int) qa_nil)) qe_int (nomark _))))) (qe_ix (qix (hu_of hr)) (qv 0) qe_int) qe_non))) qss_nil)
  (qss_cons (qs_if (QW.qt (qw_and (qt_cmp (qop_eq hr.units) (qv 1) qe_str (nomark _)) (qw_and (qt_cmp (qop_eq hr.units) (qe_callB qc_len (by rfl) B.len (by decide +kernel) (qa_cons (qv 0) qa_nil)) qe_int (nomark _)) (qw_and (qt_val (qe_call D_is_integer (hr.mono (by decide)) (qa_cons (qe_ix (qix (hu_of hr)) (qv 0) qe_int) qa_nil))) (qw_and1 (qt_cmp qop_gt (qe_ix (qix (hu_of hr)) (qv 0) qe_int) qe_int (nomark _))))))) (qss_one (qs_ret (qe_ix (qix (hu_of hr)) (qv 0) qe_int))) qss_nil)
  (qss_one (qs_ret qe_non)))))))))) ?body
  case len => rintro ds μ q ⟨d, rfl, _⟩; rfl
  case body =>
    rintro ds μ q ⟨d, rfl, ⟨hk, hk2⟩, h⟩
    rcases hk.cases with ⟨n, hn, rfl | rfl, a, rfl⟩ | rfl | ⟨b, rfl⟩ | ⟨i, rfl⟩ | ⟨x, rfl⟩ | ⟨xs, rfl⟩
    all_goals simp only [PW, Nat.reduceAdd, String.reduceEq, decide_true, decide_false, ite_true, ite_false, Bool.false_eq_true, if_true, if_false, true_and, and_true, Bool.not_true, Bool.not_false, List.length_cons, List.length_nil, reduceCtorEq, KIT, *]
    all_goals try exact end_of h
    match xs, hk2, h with
    | [], hk2, h => simp only [PW, Nat.reduceAdd, String.reduceEq, decide_true, decide_false, ite_true, ite_false, Bool.false_eq_true, if_true, if_false, true_and, and_true, Bool.not_true, Bool.not_false, List.length_cons, List.length_nil, reduceCtorEq]; exact end_of h
    | [x], hk2, h => simp only [PW, Nat.reduceAdd, String.reduceEq, decide_true, decide_false, ite_true, ite_false, Bool.false_eq_true, if_true, if_false, true_and, and_true, Bool.not_true, Bool.not_false, List.length_cons, List.length_nil, reduceCtorEq]; exact end_of (by cases x <;> exact h)
    | y :: x :: r, hk2, h =>
      have hm := (hk2 _ rfl).2
      have hky := hm y List.mem_cons_self
      have hkx := hm x (List.mem_cons_of_mem _ List.mem_cons_self)
      have e2 : decide (((r.length + 1 + 1 : Nat) : Int) < 2) = false := by
        rw [decide_eq_false_iff_not]
        omega
      simp only [PW, Nat.reduceAdd, String.reduceEq, decide_true, decide_false, ite_true, ite_false, Bool.false_eq_true, if_true, if_false, true_and, and_true, Bool.not_true, Bool.not_false, List.length_cons, List.length_nil, reduceCtorEq, e2]
      rcases hky.cases with ⟨n, hn, rfl | rfl, a, rfl⟩ | rfl | ⟨b, rfl⟩ | ⟨i, rfl⟩ | ⟨w, rfl⟩ | ⟨zs, rfl⟩
      all_goals simp only [PW, Nat.reduceAdd, String.reduceEq, decide_true, decide_false, ite_true, ite_false, Bool.false_eq_true, if_true, if_false, true_and, and_true, Bool.not_true, Bool.not_false, List.length_cons, List.length_nil, reduceCtorEq, KIT, *]
      all_goals try exact end_of h
      replace h : q (optT (kidsL w x r)) μ := h
      unfold kidsL at h
      have l2 : decide (((r.length + 1 + 1 : Nat) : Int) = 2) = decide (r = []) := by
        rw [decide_eq_decide]
        constructor
        · intro e; exact List.eq_nil_of_length_eq_zero (by omega)
        · intro e; rw [e]; rfl
      have l3 : decide (((r.length + 1 + 1 : Nat) : Int) = 3) = decide (r.length = 1) := by rw [decide_eq_decide]; omega
      rw [l2, l3]
      by_cases c1 : w = "var"
      · subst c1
        simp only [PW, Nat.reduceAdd, String.reduceEq, decide_true, decide_false, ite_true, ite_false, Bool.false_eq_true, if_true, if_false, true_and, and_true, Bool.not_true, Bool.not_false, List.length_cons, List.length_nil, reduceCtorEq] at h ⊢
        by_cases c : r = []
        · simp only [c, PW, Nat.reduceAdd, String.reduceEq, decide_true, decide_false, ite_true, ite_false, Bool.false_eq_true, if_true, if_false, true_and, and_true, Bool.not_true, Bool.not_false, List.length_cons, List.length_nil, reduceCtorEq] at h ⊢
          refine ⟨x, rfl, hkx, ?_⟩
          cases c2 : isWholeD x <;> simp only [c2, PW, Nat.reduceAdd, String.reduceEq, decide_true, decide_false, ite_true, ite_false, Bool.false_eq_true, if_true, if_false, true_and, and_true, Bool.not_true, Bool.not_false, List.length_cons, List.length_nil, reduceCtorEq] at h ⊢ <;> exact end_of h
        · simp only [c, PW, Nat.reduceAdd, String.reduceEq, decide_true, decide_false, ite_true, ite_false, Bool.false_eq_true, if_true, if_false, true_and, and_true, Bool.not_true, Bool.not_false, List.length_cons, List.length_nil, reduceCtorEq, false_and] at h ⊢
          exact end_of h
      simp only [c1, PW, Nat.reduceAdd, String.reduceEq, decide_true, decide_false, ite_true, ite_false, Bool.false_eq_true, if_true, if_false, true_and, and_true, Bool.not_true, Bool.not_false, List.length_cons, List.length_nil, reduceCtorEq] at h ⊢
      by_cases c2 : w = "fn"
      · subst c2
        simp only [PW, Nat.reduceAdd, String.reduceEq, decide_true, decide_false, ite_true, ite_false, Bool.false_eq_true, if_true, if_false, true_and, and_true, Bool.not_true, Bool.not_false, List.length_cons, List.length_nil, reduceCtorEq] at h ⊢
        match r, h with
        | [], h => simp only [PW, Nat.reduceAdd, String.reduceEq, decide_true, decide_false, ite_true, ite_false, Bool.false_eq_true, if_true, if_false, true_and, and_true, Bool.not_true, Bool.not_false, List.length_cons, List.length_nil, reduceCtorEq]; exact end_of h
        | [z], h => simp only [PW, Nat.reduceAdd, String.reduceEq, decide_true, decide_false, ite_true, ite_false, Bool.false_eq_true, if_true, if_false, true_and, and_true, Bool.not_true, Bool.not_false, List.length_cons, List.length_nil, reduceCtorEq]; exact end_of h
        | z :: z2 :: r, h =>
          have e : ¬ (z :: z2 :: r).length = 1 := by simp
          simp only [e, PW, Nat.reduceAdd, String.reduceEq, decide_true, decide_false, ite_true, ite_false, Bool.false_eq_true, if_true, if_false, true_and, and_true, Bool.not_true, Bool.not_false, List.length_cons, List.length_nil, reduceCtorEq]
          exact end_of h
      simp only [c2, PW, Nat.reduceAdd, String.reduceEq, decide_true, decide_false, ite_true, ite_false, Bool.false_eq_true, if_true, if_false, true_and, and_true, Bool.not_true, Bool.not_false, List.length_cons, List.length_nil, reduceCtorEq] at h ⊢
      obtain ⟨last, hl⟩ : ∃ last, (x :: r).getLast? = some last := ⟨_, List.getLast?_eq_some_getLast (by simp)⟩
      have hl2 : atI (D.str w :: x :: r) (-1) = some last := atI_last' (by rw [List.getLast?_cons_cons]; exact hl)
      have hkl := hm last (List.mem_cons_of_mem _ (List.mem_of_getLast? hl))
      rw [hl] at h
      simp only [hl2, PW, Nat.reduceAdd, String.reduceEq, decide_true, decide_false, ite_true, ite_false, Bool.false_eq_true, if_true, if_false, true_and, and_true, Bool.not_true, Bool.not_false, List.length_cons, List.length_nil, reduceCtorEq]
      rcases hkl.cases with ⟨n, hn, rfl | rfl, a, rfl⟩ | rfl | ⟨b, rfl⟩ | ⟨i, rfl⟩ | ⟨z, rfl⟩ | ⟨zs, rfl⟩
      all_goals simp only [PW, Nat.reduceAdd, String.reduceEq, decide_true, decide_false, ite_true, ite_false, Bool.false_eq_true, if_true, if_false, true_and, and_true, Bool.not_true, Bool.not_false, List.length_cons, List.length_nil, reduceCtorEq, KIT, *]
      all_goals try exact end_of h
      dsimp only at h
      by_cases c3 : w = "tuple"
      · subst c3
        simp only [PW, Nat.reduceAdd, String.reduceEq, decide_true, decide_false, ite_true, ite_false, Bool.false_eq_true, if_true, if_false, true_and, and_true, Bool.not_true, Bool.not_false, List.length_cons, List.length_nil, reduceCtorEq] at h ⊢
        by_cases c : r = []
        · subst c
          cases hl
          simp only [PW, Nat.reduceAdd, String.reduceEq, decide_true, decide_false, ite_true, ite_false, Bool.false_eq_true, if_true, if_false, true_and, and_true, Bool.not_true, Bool.not_false, List.length_cons, List.length_nil, reduceCtorEq] at h ⊢
          have e : (decide ((zs.length : Int) = 1)) = decide (zs.length = 1) := by rw [decide_eq_decide]; omega
          rw [e]
          by_cases c4 : zs.length = 1 <;> simp only [c4, PW, Nat.reduceAdd, String.reduceEq, decide_true, decide_false, ite_true, ite_false, Bool.false_eq_true, if_true, if_false, true_and, and_true, Bool.not_true, Bool.not_false, List.length_cons, List.length_nil, reduceCtorEq, ne_eq, not_true, not_false_eq_true] at h ⊢ <;> exact end_of h
        · simp only [c, PW, Nat.reduceAdd, String.reduceEq, decide_true, decide_false, ite_true, ite_false, Bool.false_eq_true, if_true, if_false, true_and, and_true, Bool.not_true, Bool.not_false, List.length_cons, List.length_nil, reduceCtorEq, false_and] at h ⊢
          exact end_of h
      simp only [c3, PW, Nat.reduceAdd, String.reduceEq, decide_true, decide_false, ite_true, ite_false, Bool.false_eq_true, if_true, if_false, true_and, and_true, Bool.not_true, Bool.not_false, List.length_cons, List.length_nil, reduceCtorEq] at h ⊢
      by_cases c4 : w = "made"
      · subst c4
        simp only [PW, Nat.reduceAdd, String.reduceEq, decide_true, decide_false, ite_true, ite_false, Bool.false_eq_true, if_true, if_false, true_and, and_true, Bool.not_true, Bool.not_false, List.length_cons, List.length_nil, reduceCtorEq] at h ⊢
        match r, h, hl, hkx with
        | [], h, hl, hkx => simp only [PW, Nat.reduceAdd, String.reduceEq, decide_true, decide_false, ite_true, ite_false, Bool.false_eq_true, if_true, if_false, true_and, and_true, Bool.not_true, Bool.not_false, List.length_cons, List.length_nil, reduceCtorEq]; exact end_of h
        | z :: z2 :: r, h, hl, hkx =>
          have e : ¬ (z :: z2 :: r).length = 1 := by simp
          simp only [e, PW, Nat.reduceAdd, String.reduceEq, decide_true, decide_false, ite_true, ite_false, Bool.false_eq_true, if_true, if_false, true_and, and_true, Bool.not_true, Bool.not_false, List.length_cons, List.length_nil, reduceCtorEq]
          exact end_of h
        | [z], h, hl, hkx =>
          simp only [PW, Nat.reduceAdd, String.reduceEq, decide_true, decide_false, ite_true, ite_false, Bool.false_eq_true, if_true, if_false, true_and, and_true, Bool.not_true, Bool.not_false, List.length_cons, List.length_nil, reduceCtorEq]
          refine ⟨x, rfl, hkx, ?_⟩
          cases hl
          rcases hkx.cases with ⟨n, hn, _, a, rfl⟩ | rfl | ⟨b, rfl⟩ | ⟨i, rfl⟩ | ⟨z, rfl⟩ | ⟨zs, rfl⟩
          all_goals simp only [isIntD, isPosD, PW, Nat.reduceAdd, String.reduceEq, decide_true, decide_false, ite_true, ite_false, Bool.false_eq_true, if_true, if_false, true_and, and_true, Bool.not_true, Bool.not_false, List.length_cons, List.length_nil, reduceCtorEq] at h ⊢
          all_goals try exact end_of h
          by_cases g1 : 0 < i
          · have g2 : -BEY < i := by have : 0 < BEY := by unfold BEY; decide
                                     omega
            by_cases g3 : i < BEY <;> simp only [g1, g2, g3, PW, Nat.reduceAdd, String.reduceEq, decide_true, decide_false, ite_true, ite_false, Bool.false_eq_true, if_true, if_false, true_and, and_true, Bool.not_true, Bool.not_false, List.length_cons, List.length_nil, reduceCtorEq, Bool.and_true, Bool.and_false, Bool.true_and] at h ⊢ <;> exact end_of h
          · by_cases g3 : -BEY < i ∧ i < BEY
            · simp only [g1, g3.1, g3.2, PW, Nat.reduceAdd, String.reduceEq, decide_true, decide_false, ite_true, ite_false, Bool.false_eq_true, if_true, if_false, true_and, and_true, Bool.not_true, Bool.not_false, List.length_cons, List.length_nil, reduceCtorEq, Bool.and_true, Bool.false_and] at h ⊢
              exact end_of h
            · have e : (decide (-BEY < i) && decide (i < BEY)) = false := by simpa using g3
              simp only [g1, e, PW, Nat.reduceAdd, String.reduceEq, decide_true, decide_false, ite_true, ite_false, Bool.false_eq_true, if_true, if_false, true_and, and_true, Bool.not_true, Bool.not_false, List.length_cons, List.length_nil, reduceCtorEq, Bool.false_and] at h ⊢
              exact end_of h
      simp only [c4, PW, Nat.reduceAdd, String.reduceEq, decide_true, decide_false, ite_true, ite_false, Bool.false_eq_true, if_true, if_false, true_and, and_true, Bool.not_true, Bool.not_false, List.length_cons, List.length_nil, reduceCtorEq] at h ⊢
      exact end_of h
end
end Pl
namespace Pl
open PySem L2
/-! ### what is known stays known -/
theorem tyName_mle {μ μ' : Mu} (h : Mle μ μ') {d : D} {n : String} (e : tyName μ d = some n) : tyName μ' d = some n := by
  cases d with
  | ref a =>
    simp only [tyName] at e ⊢
    split at e
    case h_1 ds e1 => rw [h _ _ e1]; exact e
    case h_2 ds e1 => rw [h _ _ e1]; exact e
    case h_3 ds e1 => rw [h _ _ e1]; exact e
    case h_4 ds e1 => rw [h _ _ e1]; exact e
    case h_5 => cases e
  | _ => exact e
theorem Kt.mle {μ μ' : Mu} (h : Mle μ μ') {d : D} (k : Kt μ d) : Kt μ' d := by
  obtain ⟨n, e⟩ := Option.isSome_iff_exists.mp k
  unfold Kt
  rw [tyName_mle h e]
  rfl
mutual
/-- all of it is known -/
def KtA (μ : Mu) : D → Prop
  | .tup ds => ds.length ≤ sizeLine ∧ KtAs μ ds
  | .non => True
  | .bl _ => True
  | .int _ => True
  | .str _ => True
  | .ref a => Kt μ (.ref a)
  | .ty _ => False
def KtAs (μ : Mu) : List D → Prop
  | [] => True
  | d :: r => KtA μ d ∧ KtAs μ r
end
theorem KtA.kt {μ : Mu} : ∀ {d : D}, KtA μ d → Kt μ d
  | .tup ds, _ => rfl
  | .non, _ => rfl
  | .bl _, _ => rfl
  | .int _, _ => rfl
  | .str _, _ => rfl
  | .ref a, h => by unfold KtA at h; exact h
  | .ty _, h => by unfold KtA at h; exact h.elim
theorem KtAs.mem {μ : Mu} : ∀ {ds : List D}, KtAs μ ds → ∀ {x : D}, x ∈ ds → KtA μ x
  | [], _, _, h => nomatch h
  | d :: r, k, x, h => by
    unfold KtAs at k
    rcases List.mem_cons.mp h with rfl | h
    · exact k.1
    · exact KtAs.mem k.2 h
theorem KtAs.of {μ : Mu} : ∀ {ds : List D}, (∀ x ∈ ds, KtA μ x) → KtAs μ ds
  | [], _ => by unfold KtAs; trivial
  | d :: r, h => by unfold KtAs; exact ⟨h d List.mem_cons_self, KtAs.of fun x hx => h x (List.mem_cons_of_mem _ hx)⟩
theorem KtA.tup {μ : Mu} {ds : List D} (h : KtA μ (.tup ds)) : ds.length ≤ sizeLine ∧ ∀ x ∈ ds, KtA μ x := by
  unfold KtA at h
  exact ⟨h.1, fun x hx => h.2.mem hx⟩
theorem KtA.kt1 {μ : Mu} {d : D} (h : KtA μ d) : Kt1 μ d := ⟨h.kt, fun ds e => by subst e; exact ⟨h.tup.1, fun x hx => (h.tup.2 x hx).kt⟩⟩
mutual
theorem KtA.mle {μ μ' : Mu} (h : Mle μ μ') : ∀ {d : D}, KtA μ d → KtA μ' d
  | .tup ds, k => by unfold KtA at k ⊢; exact ⟨k.1, KtAs.mle h k.2⟩
  | .non, k => by unfold KtA at k ⊢; exact k
  | .bl _, k => by unfold KtA at k ⊢; exact k
  | .int _, k => by unfold KtA at k ⊢; exact k
  | .str _, k => by unfold KtA at k ⊢; exact k
  | .ref a, k => by unfold KtA at k ⊢; exact k.mle h
  | .ty _, k => by unfold KtA at k ⊢; exact k
theorem KtAs.mle {μ μ' : Mu} (h : Mle μ μ') : ∀ {ds : List D}, KtAs μ ds → KtAs μ' ds
  | [], k => by unfold KtAs at k ⊢; exact k
  | d :: r, k => by unfold KtAs at k ⊢; exact ⟨KtA.mle h k.1, KtAs.mle h k.2⟩
end
mutual
def D.n : D → Nat
  | .tup ds => D.ns ds + 1
  | _ => 1
def D.ns : List D → Nat
  | [] => 0
  | d :: r => D.n d + D.ns r
end
theorem n_tup (ds : List D) : (D.tup ds).n = D.ns ds + 1 := by rw [D.n]
theorem ns_nil : D.ns [] = 0 := by rw [D.ns]
theorem ns_cons (d : D) (r : List D) : D.ns (d :: r) = d.n + D.ns r := by rw [D.ns]
theorem ns_app : ∀ (a b : List D), D.ns (a ++ b) = D.ns a + D.ns b
  | [], b => by rw [ns_nil, List.nil_append]; omega
  | d :: a, b => by rw [List.cons_append, ns_cons, ns_cons, ns_app a b]; omega
theorem n_mem : ∀ {ds : List D} {x : D}, x ∈ ds → x.n ≤ D.ns ds
  | [], _, h => nomatch h
  | d :: r, x, h => by
    rw [ns_cons]
    rcases List.mem_cons.mp h with rfl | h
    · omega
    · have := n_mem h
      omega
/-! ### the form of types -/
def FormOk (l : Lab) (n : Nat) : Prop := match l with
  | .var m => n = 0 ∧ (m : Int) < BEY
  | .fn => n = 2
  | .tup => n ≠ 1
  | .made s => 0 < s ∧ (s : Int) < BEY
def Ty.Fm (T : Ty) : Prop := ∀ t ∈ T.pre, FormOk t.lab t.kids.length
theorem Ty.Fm.loc {T : Ty} (h : T.Fm) : FormOk T.lab T.kids.length := h T (by rw [pre_eq]; exact List.mem_cons_self)
theorem Ty.Fm.kid {T t : Ty} (h : T.Fm) (m : t ∈ T.kids) : t.Fm := fun u hu => h u (by rw [pre_eq]; exact List.mem_cons_of_mem _ (mem_pres m hu))
theorem Ty.Fm.node {l : Lab} {ts : List Ty} (h : FormOk l ts.length) (hs : ∀ t ∈ ts, t.Fm) : (Ty.node l ts).Fm := fun t ht => by
  rw [pre_eq] at ht
  rcases List.mem_cons.mp ht with rfl | ht
  · exact h
  · obtain ⟨u, hu, hm⟩ := mem_pres_inv ht
    exact hs u hu t hm
def Lab.mk (l : Lab) (n : Nat) : Option (Nat × Nat) := match l with
  | .made s => some (s, n)
  | _ => none
def Ty.mades (T : Ty) : List (Nat × Nat) := T.pre.filterMap fun t => t.lab.mk t.kids.length
theorem mades_mem (T : Ty) (x : Nat × Nat) : x ∈ T.mades ↔ T.lab.mk T.kids.length = some x ∨ ∃ t ∈ T.kids, x ∈ t.mades := by
  unfold Ty.mades
  rw [List.mem_filterMap]
  constructor
  · rintro ⟨t, ht, e⟩
    rw [pre_eq] at ht
    rcases List.mem_cons.mp ht with rfl | ht
    · exact .inl e
    · obtain ⟨u, hu, hm⟩ := mem_pres_inv ht
      exact .inr ⟨u, hu, List.mem_filterMap.mpr ⟨t, hm, e⟩⟩
  · rintro (e | ⟨u, hu, hm⟩)
    · exact ⟨T, by rw [pre_eq]; exact List.mem_cons_self, e⟩
    · obtain ⟨t, ht, e⟩ := List.mem_filterMap.mp hm
      exact ⟨t, by rw [pre_eq]; exact List.mem_cons_of_mem _ (mem_pres hu ht), e⟩
theorem ok_iff {ar : List Nat} {T : Ty} : T.Ok ar ↔ T.Fm ∧ ∀ x ∈ T.mades, ar[x.1 - 1]? = some x.2 := by
  unfold Ty.Ok Ty.Fm Ty.mades
  constructor
  · intro h
    refine ⟨fun t ht => ?_, fun x hx => ?_⟩
    · have := h t ht
      cases e : t.lab <;> rw [e] at this <;> first | exact this | exact ⟨this.1, this.2.1⟩
    · obtain ⟨t, ht, e⟩ := List.mem_filterMap.mp hx
      have := h t ht
      cases e2 : t.lab <;> rw [e2] at e this <;> first | cases e | skip
      exact this.2.2
  · rintro ⟨h1, h2⟩ t ht
    have := h1 t ht
    cases e : t.lab <;> rw [e] at this <;> first | exact this | skip
    rename_i s
    refine ⟨this.1, this.2, h2 (s, t.kids.length) (List.mem_filterMap.mpr ⟨t, ht, by rw [e]; rfl⟩)⟩
theorem isWhole_nat {n : Nat} : isWholeD (.int (n : Int)) = decide ((n : Int) < BEY) := by simp [isWholeD]
/-- a type's parts -/
theorem kids_of_form (l : Lab) (ks : List D) (h : FormOk l ks.length) : kidsD (l.d ks) = some ks := by
  cases l with
  | var n =>
    obtain ⟨h1, h2⟩ := h
    have := List.eq_nil_of_length_eq_zero h1
    subst this
    simp only [Lab.d, kidsD, kidsL, if_true, isWhole_nat, h2, decide_true, and_self]
  | fn =>
    match ks, h with
    | [x, y], _ => simp only [Lab.d, kidsD, kidsL, ofStr_inj, String.reduceEq, if_false, if_true]
  | tup =>
    have h : ks.length ≠ 1 := h
    simp only [Lab.d, kidsD, kidsL, ofStr_inj, String.reduceEq, if_false, if_true, List.getLast?_singleton, true_and, h, ne_eq, not_false_eq_true]
  | made s =>
    obtain ⟨h1, h2⟩ := h
    have e : isPosD (.int (s : Int)) = true := by
      have : (0 : Int) < s := by omega
      simp only [isPosD, this, h2, decide_true, Bool.and_true]
    simp only [Lab.d, kidsD, kidsL, ofStr_inj, String.reduceEq, if_false, if_true, List.getLast?_cons_cons, List.getLast?_singleton, e]
theorem kidsD_inv {d : D} {ks : List D} (h : kidsD d = some ks) : ∃ l, FormOk l ks.length ∧ d = l.d ks := by
  unfold kidsD at h
  split at h
  · rename_i w x r
    unfold kidsL at h
    by_cases c1 : w = "var"
    · rw [if_pos c1] at h
      split at h
      · rename_i c
        cases h
        obtain ⟨rfl, c2⟩ := c
        cases x <;> first | exact absurd (show false = true from c2) Bool.false_ne_true | skip
        rename_i i
        simp only [isWholeD, Bool.and_eq_true, decide_eq_true_eq] at c2
        refine ⟨.var i.toNat, ⟨rfl, by rw [Int.toNat_of_nonneg c2.1]; exact c2.2⟩, ?_⟩
        rw [c1]
        simp only [Lab.d, Int.toNat_of_nonneg c2.1]
      · cases h
    rw [if_neg c1] at h
    by_cases c2 : w = "fn"
    · rw [if_pos c2] at h
      split at h
      · cases h
        exact ⟨.fn, rfl, by rw [c2]; rfl⟩
      · cases h
    rw [if_neg c2] at h
    split at h
    · rename_i zs hl
      by_cases c3 : w = "tuple"
      · rw [if_pos c3] at h
        split at h
        · rename_i c
          cases h
          obtain ⟨rfl, c4⟩ := c
          cases hl
          exact ⟨.tup, c4, by rw [c3]; rfl⟩
        · cases h
      rw [if_neg c3] at h
      by_cases c4 : w = "made"
      · rw [if_pos c4] at h
        split at h
        · rename_i y
          split at h
          · rename_i c5
            cases h
            cases hl
            cases x <;> first | exact absurd (show false = true from c5) Bool.false_ne_true | skip
            rename_i i
            simp only [isPosD, Bool.and_eq_true, decide_eq_true_eq] at c5
            have h0 : (0 : Int) ≤ i := by omega
            refine ⟨.made i.toNat, ⟨by omega, by rw [Int.toNat_of_nonneg h0]; exact c5.2⟩, ?_⟩
            rw [c4]
            simp only [Lab.d, Int.toNat_of_nonneg h0]
          · cases h
        · cases h
      · rw [if_neg c4] at h; cases h
    · cases h
  · cases h
theorem n_pos (d : D) : 0 < d.n := by cases d <;> simp [D.n]
theorem kids_less {d : D} {ks : List D} (h : kidsD d = some ks) : D.ns ks < d.n := by
  obtain ⟨l, hf, rfl⟩ := kidsD_inv h
  have n1 := n_pos (.str "fn")
  cases l with
  | var n =>
    obtain ⟨h1, _⟩ := hf
    have := List.eq_nil_of_length_eq_zero h1
    subst this
    rw [ns_nil]
    exact n_pos _
  | fn => simp only [Lab.d, n_tup, ns_cons]; omega
  | tup => simp only [Lab.d, n_tup, ns_cons, ns_nil]; omega
  | made s => simp only [Lab.d, n_tup, ns_cons, ns_nil]; omega
/-! ### level by level -/
/-- what is to hold of the level ds, when n values have been looked at and fs were found -/
structure Lvl (d : D) (n : Nat) (fs : List (Nat × Nat)) (ds : List D) : Prop where
  fw : ∀ T : Ty, T.d = d → T.Fm → ∃ Ts : List Ty, ds = Ts.map Ty.d ∧ (∀ t ∈ Ts, t.Fm) ∧ T.sz = n + Ty.szs Ts ∧ ∀ x, x ∈ T.mades ↔ x ∈ fs ∨ ∃ t ∈ Ts, x ∈ t.mades
  bw : ∀ Ts : List Ty, ds = Ts.map Ty.d → (∀ t ∈ Ts, t.Fm) → ∃ T : Ty, T.d = d ∧ T.Fm
theorem Lvl.start (d : D) : Lvl d 0 [] [d] := by
  refine ⟨fun T e h => ⟨[T], by rw [List.map_singleton, e], fun t ht => by rw [List.mem_singleton.mp ht]; exact h, by rw [szs_cons, szs_nil]; omega, fun x => ?_⟩, fun Ts e h => ?_⟩
  · constructor
    · exact fun hx => .inr ⟨T, List.mem_singleton.mpr rfl, hx⟩
    · rintro (hx | ⟨t, ht, hx⟩)
      · cases hx
      · rw [List.mem_singleton.mp ht] at hx; exact hx
  · match Ts, e with
    | [T], e =>
      rw [List.map_singleton] at e
      injection e with e _
      exact ⟨T, e.symm, h T List.mem_cons_self⟩
theorem kids_d {T : Ty} (h : T.Fm) : kidsD T.d = some (T.kids.map Ty.d) := by
  rw [d_eta]
  exact kids_of_form _ _ (by rw [List.length_map]; exact h.loc)
theorem szs_kids : ∀ (Ts : List Ty), Ty.szs Ts = Ts.length + Ty.szs (Ts.flatMap Ty.kids)
  | [] => by rw [szs_nil]; rfl
  | T :: r => by
    rw [szs_cons, szs_kids r, List.flatMap_cons, szs_app, List.length_cons, T.sz_eq]
    omega
def ksOf (d : D) : List D := (kidsD d).getD []
/-- the stamps of a level -/
def mkOf (d : D) : Option (Nat × Nat) := match d with
  | .tup [.str w, .int i, .tup ks] => if w = "made" then some (i.toNat, ks.length) else none
  | _ => none
theorem mkOf_d {T : Ty} (h : T.Fm) : mkOf T.d = T.lab.mk T.kids.length := by
  rw [d_eta]
  have hl := h.loc
  cases e : T.lab <;> rw [e] at hl
  · rfl
  · have hl : T.kids.length = 2 := hl
    match h2 : T.kids, hl with
    | [a, b], _ =>
      simp only [Lab.d, List.map_cons, List.map_nil, Lab.mk]
      cases ha : a.d <;> first | rfl | (cases hb : b.d <;> first | rfl | (simp only [mkOf, ofStr_inj, String.reduceEq, if_false]))
  · rfl
  · simp only [Lab.d, mkOf, if_true, Lab.mk, List.length_map, Int.toNat_natCast]
theorem Lvl.step {d : D} {n : Nat} {fs : List (Nat × Nat)} {ds : List D} (h : Lvl d n fs ds) (hk : ∀ x ∈ ds, (kidsD x).isSome = true) : Lvl d (n + ds.length) (fs ++ ds.filterMap mkOf) (ds.flatMap ksOf) := by
  refine ⟨fun T e hT => ?_, fun Ts e hT => ?_⟩
  · obtain ⟨Ts, e1, h1, h2, h3⟩ := h.fw T e hT
    refine ⟨Ts.flatMap Ty.kids, ?_, fun t ht => ?_, by rw [h2, szs_kids, e1, List.length_map]; omega, fun x => ?_⟩
    · rw [e1, List.flatMap_map, List.map_flatMap]
      clear h2 h3 e1
      induction Ts with
      | nil => rfl
      | cons t r ih =>
        rw [List.flatMap_cons, List.flatMap_cons, ih fun u hu => h1 u (List.mem_cons_of_mem _ hu)]
        rw [show ksOf t.d = t.kids.map Ty.d by unfold ksOf; rw [kids_d (h1 t List.mem_cons_self)]; rfl]
    · obtain ⟨u, hu, hm⟩ := List.mem_flatMap.mp ht
      exact (h1 u hu).kid hm
    · rw [h3 x, List.mem_append, or_assoc]
      refine or_congr_right ?_
      rw [e1, List.mem_filterMap]
      constructor
      · rintro ⟨t, ht, hx⟩
        rcases (mades_mem t x).mp hx with e2 | ⟨u, hu, hx⟩
        · exact .inl ⟨t.d, List.mem_map_of_mem ht, by rw [mkOf_d (h1 t ht)]; exact e2⟩
        · exact .inr ⟨u, List.mem_flatMap.mpr ⟨t, ht, hu⟩, hx⟩
      · rintro (⟨z, hz, e2⟩ | ⟨u, hu, hx⟩)
        · obtain ⟨t, ht, rfl⟩ := List.mem_map.mp hz
          exact ⟨t, ht, (mades_mem t x).mpr (.inl (by rw [← mkOf_d (h1 t ht)]; exact e2))⟩
        · obtain ⟨t, ht, hm⟩ := List.mem_flatMap.mp hu
          exact ⟨t, ht, (mades_mem t x).mpr (.inr ⟨u, hm, hx⟩)⟩
  · have key : ∀ (ds : List D) (Ts : List Ty), (∀ x ∈ ds, (kidsD x).isSome = true) → ds.flatMap ksOf = Ts.map Ty.d → (∀ t ∈ Ts, t.Fm) → ∃ Us : List Ty, ds = Us.map Ty.d ∧ ∀ t ∈ Us, t.Fm := by
      intro ds
      induction ds with
      | nil => exact fun _ _ _ _ => ⟨[], rfl, fun _ h => (nomatch h)⟩
      | cons x r ih =>
        intro Ts hk e hT
        obtain ⟨ks, ek⟩ := Option.isSome_iff_exists.mp (hk x List.mem_cons_self)
        have ex : ksOf x = ks := by unfold ksOf; rw [ek]; rfl
        rw [List.flatMap_cons, ex] at e
        obtain ⟨A, B, rfl, eA, eB⟩ := List.map_eq_append_iff.mp e.symm
        obtain ⟨Us, e1, h1⟩ := ih B (fun z hz => hk z (List.mem_cons_of_mem _ hz)) eB.symm fun t ht => hT t (List.mem_append_right _ ht)
        obtain ⟨l, hf, rfl⟩ := kidsD_inv ek
        refine ⟨.node l A :: Us, ?_, fun t ht => ?_⟩
        · rw [List.map_cons, d_eq, eA, e1]
        · rcases List.mem_cons.mp ht with rfl | ht
          · exact .node (by rw [← eA, List.length_map] at hf; exact hf) fun t ht => hT t (List.mem_append_left _ ht)
          · exact h1 t ht
    obtain ⟨Us, e1, h1⟩ := key ds Ts hk e hT
    exact h.bw Us e1 h1
theorem Lvl.none {d : D} {n : Nat} {fs : List (Nat × Nat)} {ds : List D} (h : Lvl d n fs ds) {x : D} (hx : x ∈ ds) (hk : kidsD x = Option.none) : ∀ T : Ty, T.d = d → ¬ T.Fm := fun T e hT => by
  obtain ⟨Ts, e1, h1, _⟩ := h.fw T e hT
  rw [e1] at hx
  obtain ⟨t, ht, rfl⟩ := List.mem_map.mp hx
  rw [kids_d (h1 t ht)] at hk
  cases hk
theorem Lvl.great {d : D} {n : Nat} {fs : List (Nat × Nat)} {ds : List D} (h : Lvl d n fs ds) (hn : 300 < n + ds.length) : ∀ T : Ty, T.d = d → T.Fm → ¬ T.sz ≤ 300 := fun T e hT => by
  obtain ⟨Ts, e1, h1, h2, _⟩ := h.fw T e hT
  have := len_szs Ts
  rw [e1, List.length_map] at hn
  omega
theorem Lvl.end {d : D} {n : Nat} {fs : List (Nat × Nat)} (h : Lvl d n fs []) (hn : n ≤ 300) : ∃ T : Ty, T.d = d ∧ T.Fm ∧ T.sz ≤ 300 ∧ ∀ x, x ∈ T.mades ↔ x ∈ fs := by
  obtain ⟨T, e, hT⟩ := h.bw [] rfl fun _ h => (nomatch h)
  obtain ⟨Ts, e1, h1, h2, h3⟩ := h.fw T e hT
  have : Ts = [] := List.map_eq_nil_iff.mp e1.symm
  subst this
  refine ⟨T, e, hT, by rw [h2, szs_nil]; omega, fun x => ?_⟩
  rw [h3 x]
  simp
theorem ns_flat {ds : List D} (hne : ds ≠ []) (hk : ∀ x ∈ ds, (kidsD x).isSome = true) : D.ns (ds.flatMap ksOf) < D.ns ds := by
  have key : ∀ ds : List D, (∀ x ∈ ds, (kidsD x).isSome = true) → D.ns (ds.flatMap ksOf) + ds.length ≤ D.ns ds := by
    intro ds
    induction ds with
    | nil => intro _; rw [List.flatMap_nil, ns_nil]; exact Nat.le_refl _
    | cons x r ih =>
      intro hk
      obtain ⟨ks, ek⟩ := Option.isSome_iff_exists.mp (hk x List.mem_cons_self)
      have := ih fun z hz => hk z (List.mem_cons_of_mem _ hz)
      have := kids_less ek
      rw [List.flatMap_cons, ns_app, ns_cons, List.length_cons, show ksOf x = ks by unfold ksOf; rw [ek]; rfl]
      omega
  have := key ds hk
  have : 0 < ds.length := List.length_pos_iff.mpr hne
  omega
end Pl
namespace Pl
open PySem L2
theorem Mle.mset_of {μ ν : Mu} {a : Addr} {o : MO} (h : Mle μ ν) (e : ν a = some o) : Mle (mset μ a o) ν := fun x u q => by
  by_cases c : x = a
  · subst c; rw [mset_same] at q; rw [e]; exact q
  · rw [mset_ne c] at q; exact h x u q
theorem len_ns : ∀ ds : List D, ds.length ≤ D.ns ds
  | [] => Nat.zero_le _
  | d :: r => by rw [ns_cons, List.length_cons]; have := len_ns r; have := n_pos d; omega
theorem zipD_map (g : D → D) : ∀ ds : List D, zipD ds (ds.map g) = ds.map fun x => .tup [x, g x]
  | [] => rfl
  | d :: r => by rw [List.map_cons, List.map_cons, ← zipD_map g r]; rfl
theorem kids_kta {μ : Mu} {x y : D} {ks : List D} (h : KtA μ x) (e : kidsD x = some ks) (m : y ∈ ks) : KtA μ y := by
  obtain ⟨l, hf, rfl⟩ := kidsD_inv e
  cases l with
  | var n =>
    have := List.eq_nil_of_length_eq_zero hf.1
    subst this
    cases m
  | fn => exact h.tup.2 y (List.mem_cons_of_mem _ m)
  | tup => exact (h.tup.2 (.tup ks) (by simp)).tup.2 y m
  | made s => exact (h.tup.2 (.tup ks) (by simp)).tup.2 y m
def prD (x : Nat × Nat) : D := .tup [.int (x.1 : Int), .int (x.2 : Int)]
section
variable {P : Program} {w : World} {K : PySem.W.Frag} {mg : Str → Option Value} {base : Heap}
abbrev s__made_in : Stmt := top 27
theorem sc__made_in : FnScope ["value", "found", "level", "size", "inside", "part", "parts", "inner"] ["value"] (defScope s__made_in) := ⟨rfl, rfl, rfl, by decide +kernel, rfl, by decide +kernel, by decide +kernel⟩
def spMade : Spc := fun ds μ q => ∃ d, ds = [d] ∧ KtA μ d ∧ d.n ≤ sizeLine ∧ ((∀ T : Ty, T.d = d → T.Fm → ¬ T.sz ≤ 300) → q .non μ) ∧ (∀ T : Ty, T.d = d → T.Fm → T.sz ≤ 300 → ∀ fs : List (Nat × Nat), (∀ x, x ∈ T.mades ↔ x ∈ fs) → fs.length ≤ 300 → ∀ p, μ p = none → q (.ref p) (mset μ p (.lst (fs.map prD))))
set_option maxHeartbeats 4000000 in
theorem ok_made_in (A : At K mg "_made_in" s__made_in ["value"]) (B : Bi mg) (T_MAX_SIZE : Cn K mg "MAX_SIZE" (.int 300)) (D__parts_of : Has P w K mg base "_parts_of" ["value"] 3 spParts) : Has P w K mg base "_made_in" ["value"] 4 spMade := by
  refine .mk A fun f fd F => ?_
  refine qfn F sc__made_in (by decide) ?len (fun cdv A outer s H E hr => (qss_cons (qs_set (i := 1) sc__made_in.nd rfl (Or.inl rfl) (qe_lst qa_nil))
  (qss_cons (qs_set (i := 2) sc__made_in.nd rfl (Or.inl rfl) (qe_lst (qa_cons (qv 0) qa_nil)))
  (qss_cons (qs_set (i := 3) sc__made_in.nd rfl (Or.inl rfl) qe_int)
  (qss_cons (qs_while PassesOwn.never (qt_truth (qv 2)) (qss_cons (qs_aug (i := 3) sc__made_in.nd rfl (.inl rfl) (qe_callB qc_len (by rfl) B.len (by decide +kernel) (qa_cons (qv 2) qa_nil)) qip_add)
  (qss_cons (qs_if (qt_cmp qop_gt (qv 3) (qe_cn T_MAX_SIZE) (nomark _)) (qss_one (qs_ret qe_non)) qss_nil)
  (qss_cons (qs_setLc (i := 4) (own := [("part", 5)]) rfl sc__made_in.nd rfl rfl (sw_true rfl rfl rfl (by decide +kernel)) (qi_seq (qv 2)) (blkOk_by (N := ["value", "found", "level", "size", "inside", "part", "parts", "inner"]) (sc := defScope s__made_in) (by decide +kernel)) (fun _ _ _ _ _ => (qgw_name (i := 5) sc__made_in.nd rfl (Or.inl rfl))) (fun _ _ _ _ _ => qts_nil) (fun _ _ _ _ _ => (qe_call D__parts_of (hr.mono (by decide)) (qa_cons (qv 5) qa_nil))))
  (qss_cons (qs_if (qt_val (qe_callB (qc_any rfl) (by rfl) B.any (by decide +kernel) (qa_cons (qe_lc (own := [("parts", 6)]) rfl sc__made_in.nd (qi_seq (qv 4)) (blkOk_by (N := ["value", "found", "level", "size", "inside", "part", "parts", "inner"]) (sc := defScope s__made_in) (by decide +kernel)) (fun _ _ _ _ _ => (qgw_name (i := 6) sc__made_in.nd rfl (Or.inl rfl))) (fun _ _ _ _ _ => qts_nil) (fun _ _ _ _ _ => (qe_cmp qop_is (qv 6) qe_non (nomark _)))) qa_nil))) (qss_one (qs_ret qe_non)) qss_nil)
  (qss_cons (qs_expr (qe_bm PySem.F.slot_list_extend PySem.F.type_list_extend qm_extend (qv 1) (qa_cons (qe_lc (own := [("part", 5), ("parts", 6)]) rfl sc__made_in.nd (qi_zip (by rfl) B.zip (qa_cons (qv 2) (qa_cons (qv 4) qa_nil))) (blkOk_by (N := ["value", "found", "level", "size", "inside", "part", "parts", "inner"]) (sc := defScope s__made_in) (by decide +kernel)) (fun _ _ _ _ _ => (qgw_tup (n := 2) rfl (qgws_cons (qgw_name (i := 5) sc__made_in.nd rfl (Or.inl rfl)) (qgws_cons (qgw_name (i := 6) sc__made_in.nd rfl (Or.inl rfl)) qgws_nil)))) (fun _ _ _ _ _ => (qts_one (qt_cmp (qop_eq hr.units) (qe_ix (qix (hu_of hr)) (qv 5) qe_int) qe_str (nomark _)))) (fun _ _ _ _ _ => (qe_tup (qa_cons (qe_ix (qix (hu_of hr)) (qv 5) qe_int) (qa_cons (qe_callB qc_len (by rfl) B.len (by decide +kernel) (qa_cons (qv 6) qa_nil)) qa_nil))))) qa_nil)))
  (qss_one (qs_setLc2 (i := 2) (vs1 := [7]) (own := [("parts", 6), ("inner", 7)]) rfl sc__made_in.nd rfl rfl (sw_true rfl rfl rfl (by decide +kernel)) (qi_seq (qv 4)) (blkOk_by (N := ["value", "found", "level", "size", "inside", "part", "parts", "inner"]) (sc := defScope s__made_in) (by decide +kernel)) (by decide) (fun _ _ _ _ _ => (qgw_name (i := 6) sc__made_in.nd rfl (Or.inl rfl))) (fun _ _ _ _ _ => qts_nil) (fun _ _ _ _ _ => (qi_seq (qv 6))) (fun _ _ _ _ _ => (qgw_name (i := 7) sc__made_in.nd rfl (Or.inl rfl))) (fun _ _ _ _ _ => qts_nil) (fun _ _ _ _ _ => (qv 7))))))))))
  (qss_one (qs_ret (qv 1)))))))) ?body
  case len => rintro ds μ q ⟨d, rfl, _⟩; rfl
  case body =>
    rintro ds μ q ⟨d, rfl, hk, hsz, hN, hS⟩
    simp only [PW, Nat.reduceAdd, String.reduceEq, decide_true, decide_false, ite_true, ite_false, Bool.false_eq_true, if_true, if_false, true_and, and_true, Bool.not_true, Bool.not_false, List.length_cons, List.length_nil, reduceCtorEq, KIT, *]
    intro p hp p2 hp2
    have hne : p2 ≠ p := by rintro rfl; rw [mset_same] at hp2; cases hp2
    rw [mset_ne hne] at hp2
    refine ⟨fun m ss ν => ∃ (fp lp : Addr) (n : Nat) (ds : List D) (fs : List (Nat × Nat)) (x4 x5 x6 x7 : Option D), ss = [some d, some (.ref fp), some (.ref lp), some (.int n), x4, x5, x6, x7] ∧ Mle μ ν ∧ μ fp = none ∧ fp ≠ lp ∧ ν fp = some (.lst (fs.map prD)) ∧ ν lp = some (.lst ds) ∧ Lvl d n fs ds ∧ n ≤ 300 ∧ fs.length ≤ n ∧ (∀ x ∈ ds, KtA μ x) ∧ D.ns ds ≤ sizeLine ∧ m = D.ns ds, ⟨D.ns [d], p, p2, 0, [d], [], none, none, none, none, rfl, (Mle.put hp).trans (.put (by rw [mset_ne hne]; exact hp2)), hp, hne.symm, by rw [mset_ne hne.symm, mset_same]; rfl, mset_same, .start d, by decide, by decide, by simpa using hk, by rw [ns_cons, ns_nil]; exact hsz, rfl⟩, ?_⟩
    rintro m ss ν ⟨fp, lp, n, ds, fs, x4, x5, x6, x7, rfl, hle, hfp, hfl, efp, elp, hv, hn, hfn, hka, hns, rfl⟩
    simp only [PW, Nat.reduceAdd, String.reduceEq, decide_true, decide_false, ite_true, ite_false, Bool.false_eq_true, if_true, if_false, true_and, and_true, Bool.not_true, Bool.not_false, List.length_cons, List.length_nil, reduceCtorEq, KIT, lenD_lst (rdl_lst elp), tru_lst (rdl_lst elp)]
    cases hds : ds.isEmpty with
    | true =>
      have := List.isEmpty_iff.mp hds
      subst this
      simp only [PW, Nat.reduceAdd, String.reduceEq, decide_true, decide_false, ite_true, ite_false, Bool.false_eq_true, if_true, if_false, true_and, and_true, Bool.not_true, Bool.not_false, List.length_cons, List.length_nil, reduceCtorEq]
      obtain ⟨T, e1, e2, e3, e4⟩ := hv.end hn
      exact ⟨_, hle.mset_of efp, hS T e1 e2 e3 fs e4 (by omega) fp hfp⟩
    | false =>
      simp only [PW, Nat.reduceAdd, String.reduceEq, decide_true, decide_false, ite_true, ite_false, Bool.false_eq_true, if_true, if_false, true_and, and_true, Bool.not_true, Bool.not_false, List.length_cons, List.length_nil, reduceCtorEq]
      by_cases c : 300 < n + ds.length
      · have e : decide ((300 : Int) < (n : Int) + (ds.length : Int)) = true := by rw [decide_eq_true_iff]; omega
        simp only [e, PW, Nat.reduceAdd, String.reduceEq, decide_true, decide_false, ite_true, ite_false, Bool.false_eq_true, if_true, if_false, true_and, and_true, Bool.not_true, Bool.not_false, List.length_cons, List.length_nil, reduceCtorEq]
        exact ⟨μ, hle, hN (hv.great c)⟩
      have e : decide ((300 : Int) < (n : Int) + (ds.length : Int)) = false := by rw [decide_eq_false_iff_not]; omega
      simp only [e, PW, Nat.reduceAdd, String.reduceEq, decide_true, decide_false, ite_true, ite_false, Bool.false_eq_true, if_true, if_false, true_and, and_true, Bool.not_true, Bool.not_false, List.length_cons, List.length_nil, reduceCtorEq]
      have hl : ds.length ≤ sizeLine := Nat.le_trans (len_ns ds) hns
      simp only [rdl_lst elp, PW, Nat.reduceAdd, String.reduceEq, decide_true, decide_false, ite_true, ite_false, Bool.false_eq_true, if_true, if_false, true_and, and_true, Bool.not_true, Bool.not_false, List.length_cons, List.length_nil, reduceCtorEq]
      refine ⟨hl, lc_map (fun x => optT (kidsD x)) (rdl_lst elp) (fun x hm ky kn k => ?_) fun q1 hq1 => ?_⟩
      · simp only [lcStep, PW, Nat.reduceAdd, String.reduceEq, decide_true, decide_false, ite_true, ite_false, Bool.false_eq_true, if_true, if_false, true_and, and_true, Bool.not_true, Bool.not_false, List.length_cons, List.length_nil, reduceCtorEq]
        exact ⟨x, rfl, ((hka x hm).mle hle).kt1, k⟩
      have n1 : q1 ≠ fp := by rintro rfl; rw [efp] at hq1; cases hq1
      have n2 : q1 ≠ lp := by rintro rfl; rw [elp] at hq1; cases hq1
      simp only [List.length_map, PW, Nat.reduceAdd, String.reduceEq, decide_true, decide_false, ite_true, ite_false, Bool.false_eq_true, if_true, if_false, true_and, and_true, Bool.not_true, Bool.not_false, List.length_cons, List.length_nil, reduceCtorEq]
      refine ⟨hl, lc_map (fun x => .bl (isNon x)) rdl_same (fun x hm ky kn k => ?_) fun q2 hq2 => ?_⟩
      · obtain ⟨x, hx, rfl⟩ := List.mem_map.mp hm
        simp only [lcStep, PW, Nat.reduceAdd, String.reduceEq, decide_true, decide_false, ite_true, ite_false, Bool.false_eq_true, if_true, if_false, true_and, and_true, Bool.not_true, Bool.not_false, List.length_cons, List.length_nil, reduceCtorEq]
        cases e : kidsD x <;> simp only [e, optT, PW, Nat.reduceAdd, String.reduceEq, decide_true, decide_false, ite_true, ite_false, Bool.false_eq_true, if_true, if_false, true_and, and_true, Bool.not_true, Bool.not_false, List.length_cons, List.length_nil, reduceCtorEq] at k ⊢ <;> exact k
      rw [List.map_map]
      have eb : List.map ((fun x => D.bl (isNon x)) ∘ fun x => optT (kidsD x)) ds = ds.map fun x => .bl (kidsD x).isNone := by
        refine List.map_congr_left fun x _ => ?_
        show D.bl (isNon (optT (kidsD x))) = D.bl _
        cases kidsD x <;> rfl
      simp only [eb, blsOf_mapf, any_map_id, PW, Nat.reduceAdd, String.reduceEq, decide_true, decide_false, ite_true, ite_false, Bool.false_eq_true, if_true, if_false, true_and, and_true, Bool.not_true, Bool.not_false, List.length_cons, List.length_nil, reduceCtorEq]
      have m2 : ∀ {o : MO}, Mle ν (mset (mset ν q1 (.lst (List.map (fun x => optT (kidsD x)) ds))) q2 o) := fun {o} => (Mle.put hq1).trans (.put hq2)
      by_cases ca : ds.any (fun x => (kidsD x).isNone) = true
      · simp only [ca, PW, Nat.reduceAdd, String.reduceEq, decide_true, decide_false, ite_true, ite_false, Bool.false_eq_true, if_true, if_false, true_and, and_true, Bool.not_true, Bool.not_false, List.length_cons, List.length_nil, reduceCtorEq]
        obtain ⟨x, hx, ex⟩ := List.any_eq_true.mp ca
        exact ⟨μ, hle.trans m2, hN fun T e1 e2 => (hv.none hx (by simpa using ex) T e1 e2).elim⟩
      have hks : ∀ x ∈ ds, (kidsD x).isSome = true := by
        intro x hx
        cases e : kidsD x with
        | none => exact (ca (List.any_eq_true.mpr ⟨x, hx, by rw [e]; rfl⟩)).elim
        | some _ => rfl
      have n3 : q2 ≠ q1 := by rintro rfl; rw [mset_same] at hq2; cases hq2
      have hq2' : ν q2 = none := by rw [mset_ne n3] at hq2; exact hq2
      have n4 : q2 ≠ fp := by rintro rfl; rw [efp] at hq2'; cases hq2'
      have n5 : q2 ≠ lp := by rintro rfl; rw [elp] at hq2'; cases hq2'
      simp only [ca, PW, Nat.reduceAdd, String.reduceEq, decide_true, decide_false, ite_true, ite_false, Bool.false_eq_true, if_true, if_false, true_and, and_true, Bool.not_true, Bool.not_false, List.length_cons, List.length_nil, reduceCtorEq, rdl_ne n3.symm, rdl_ne n1.symm, rdl_ne n2.symm, rdl_ne n4.symm, rdl_ne n5.symm, rdl_lst efp, rdl_lst elp, isLst_lst, rdl_same]
      have e1 : rdl (mset (mset ν q1 (MO.lst (List.map (fun x => optT (kidsD x)) ds))) q2 (MO.lst (List.map (fun x => D.bl (kidsD x).isNone) ds))) fp = some (fs.map prD) := by
        rw [rdl_ne n4.symm, rdl_ne n1.symm, rdl_lst efp]
      have e2 : rdl (mset (mset ν q1 (MO.lst (List.map (fun x => optT (kidsD x)) ds))) q2 (MO.lst (List.map (fun x => D.bl (kidsD x).isNone) ds))) lp = some ds := by
        rw [rdl_ne n5.symm, rdl_ne n2.symm, rdl_lst elp]
      have e3 : rdl (mset (mset ν q1 (MO.lst (List.map (fun x => optT (kidsD x)) ds))) q2 (MO.lst (List.map (fun x => D.bl (kidsD x).isNone) ds))) q1 = some (List.map (fun x => optT (kidsD x)) ds) := by
        rw [rdl_ne n3.symm, rdl_same]
      have m3 := m2 (o := .lst (List.map (fun x => D.bl (kidsD x).isNone) ds))
      clear m2 hq2
      generalize mset (mset ν q1 (MO.lst (List.map (fun x => optT (kidsD x)) ds))) q2 (MO.lst (List.map (fun x => D.bl (kidsD x).isNone) ds)) = ν2 at e1 e2 e3 m3 ⊢
      refine ⟨by rw [isLst_lst e1]; trivial, by rw [zipD_map, List.length_map]; exact hl, lc_fmap (f := fun z => match z with | .tup [x, _] => (mkOf x).map prD | _ => none) ⟨e2, e3⟩ (fun z hz ky kn h1 h2 => ?_) fun q3 hq3 => ?_⟩
      · rw [zipD_map] at hz
        obtain ⟨x, hx, rfl⟩ := List.mem_map.mp hz
        obtain ⟨ks, ek⟩ := Option.isSome_iff_exists.mp (hks x hx)
        obtain ⟨l, hf, rfl⟩ := kidsD_inv ek
        dsimp only at h1 h2
        have hlk := ((hka _ hx).kt1)
        simp only [lcStep, ek, show optT (some ks) = .tup ks from rfl, PW, Nat.reduceAdd, String.reduceEq, decide_true, decide_false, ite_true, ite_false, Bool.false_eq_true, if_true, if_false, true_and, and_true, Bool.not_true, Bool.not_false, List.length_cons, List.length_nil, reduceCtorEq]
        cases l <;> simp only [Lab.d, PW, Nat.reduceAdd, String.reduceEq, decide_true, decide_false, ite_true, ite_false, Bool.false_eq_true, if_true, if_false, true_and, and_true, Bool.not_true, Bool.not_false, List.length_cons, List.length_nil, reduceCtorEq]
        · exact h2 rfl
        · exact h2 (by match ks, hf with | [a, b], _ => cases a <;> first | rfl | (cases b <;> rfl))
        · exact h2 rfl
        · rename_i k
          refine h1 _ ?_
          simp only [Lab.d, mkOf, if_true, Int.toNat_natCast]
          rfl
      have ef : (zipD ds (List.map (fun x => optT (kidsD x)) ds)).filterMap (fun z => match z with | .tup [x, _] => (mkOf x).map prD | _ => none) = (ds.filterMap mkOf).map prD := by
        rw [zipD_map, List.filterMap_map, List.map_filterMap]
        rfl
      rw [List.nil_append, ef]
      have fp2 := m3 fp _ efp
      have n6 : q3 ≠ fp := (ne_free fp2 hq3).symm
      have n7 : q3 ≠ q1 := by rintro rfl; unfold rdl at e3; rw [hq3] at e3; cases e3
      have lf : (ds.filterMap mkOf).length ≤ ds.length := List.length_filterMap_le _ _
      rw [pExt_ref (ds := fs.map prD) (es := (ds.filterMap mkOf).map prD) (by rw [wrl_ne n6.symm, wrl_lst fp2]) wrl_same, ← List.map_append]
      have e4 : rdl (mset (mset ν2 q3 (.lst ((ds.filterMap mkOf).map prD))) fp (.lst ((fs ++ ds.filterMap mkOf).map prD))) q1 = some (List.map (fun x => optT (kidsD x)) ds) := by
        rw [rdl_ne n1, rdl_ne n7.symm, e3]
      have m4 : ∀ {o : MO}, Mle μ (mset (mset ν2 q3 o) fp (.lst ((fs ++ ds.filterMap mkOf).map prD))) := fun {o} x u q => by
        have a : x ≠ fp := by rintro rfl; rw [hfp] at q; cases q
        have b := m3 x u (hle x u q)
        rw [mset_ne a, mset_ne (ne_free b hq3)]
        exact b
      have f4 : mset (mset ν2 q3 (.lst ((ds.filterMap mkOf).map prD))) fp (.lst ((fs ++ ds.filterMap mkOf).map prD)) fp = some (.lst ((fs ++ ds.filterMap mkOf).map prD)) := mset_same
      have m4 := m4 (o := .lst ((ds.filterMap mkOf).map prD))
      refine ⟨by rw [List.length_map, List.length_map]; unfold sizeLine; omega, ?_⟩
      generalize mset (mset ν2 q3 (.lst ((ds.filterMap mkOf).map prD))) fp (.lst ((fs ++ ds.filterMap mkOf).map prD)) = ν4 at e4 m4 f4 ⊢
      rw [e4]
      show lc2Go _ _ _ _ _ _ _ _ _ _ _ _ _
      have ex : (List.map (fun x => optT (kidsD x)) ds).flatMap (fun y => match y with | .tup ks => ks | _ => []) = ds.flatMap ksOf := by
        rw [List.flatMap_map]
        congr 1
        funext x
        unfold ksOf
        cases kidsD x <;> rfl
      have hns2 : D.ns (ds.flatMap ksOf) < D.ns ds := ns_flat (by rintro rfl; cases hds) hks
      refine lc2_flat (fun y => match y with | .tup ks => ks | _ => []) e4 (fun y hy acc k hla hk2 => ?_) (by rw [ex, List.length_nil]; have := len_ns (ds.flatMap ksOf); omega) fun p4 hp4 => ?_
      · obtain ⟨x, hx, rfl⟩ := List.mem_map.mp hy
        obtain ⟨ks, ek⟩ := Option.isSome_iff_exists.mp (hks x hx)
        simp only [ek, show optT (some ks) = .tup ks from rfl, PW, Nat.reduceAdd, String.reduceEq, decide_true, decide_false, ite_true, ite_false, Bool.false_eq_true, if_true, if_false, true_and, and_true, Bool.not_true, Bool.not_false, List.length_cons, List.length_nil, reduceCtorEq] at hla hk2 ⊢
        refine ⟨hla, ?_⟩
        exact lc_fmap (f := some) True.intro (fun x _ ky kn h1 _ => by simp only [lcStep, PW, Nat.reduceAdd, String.reduceEq, decide_true, decide_false, ite_true, ite_false, Bool.false_eq_true, if_true, if_false, true_and, and_true, Bool.not_true, Bool.not_false, List.length_cons, List.length_nil, reduceCtorEq]; exact h1 _ rfl) (by rw [List.filterMap_some]; exact hk2)
      rw [List.nil_append, ex]
      have n8 : p4 ≠ fp := (ne_free f4 hp4).symm
      refine ⟨_, hns2, fp, p4, n + ds.length, ds.flatMap ksOf, fs ++ ds.filterMap mkOf, _, _, _, _, rfl, m4.trans (.put hp4), hfp, n8.symm, by rw [mset_ne n8.symm]; exact f4, mset_same, hv.step hks, by omega, by rw [List.length_append]; omega, fun y hy => ?_, by omega, rfl⟩
      obtain ⟨x, hx, hm⟩ := List.mem_flatMap.mp hy
      unfold ksOf at hm
      cases ek : kidsD x with
      | none => rw [ek] at hm; cases hm
      | some ks =>
        rw [ek] at hm
        exact kids_kta (hka x hx) ek hm
end
end Pl
namespace Pl
open PySem L2
theorem sz_in : ∀ {ts : List Ty} {t : Ty}, t ∈ ts → t.sz ≤ Ty.szs ts
  | [], _, h => nomatch h
  | u :: r, t, h => by
    rw [szs_cons]
    rcases List.mem_cons.mp h with rfl | h
    · omega
    · have := sz_in h
      omega
theorem lab_inj {l l' : Lab} {ks ks' : List D} (h1 : FormOk l ks.length) (h2 : FormOk l' ks'.length) (h : l.d ks = l'.d ks') : l = l' ∧ ks = ks' := by
  have a := kids_of_form l ks h1
  have b := kids_of_form l' ks' h2
  rw [h, b] at a
  cases a
  refine ⟨?_, rfl⟩
  cases l <;> cases l' <;> simp only [Lab.d, D.tup.injEq, List.cons.injEq, D.str.injEq, ofStr_inj, String.reduceEq, false_and, true_and, and_true, D.int.injEq] at h <;> first | rfl | (have := Int.ofNat.inj h; subst this; rfl) | (exact h.elim) | skip
theorem d_inj : ∀ (n : Nat) (T T' : Ty), T.sz ≤ n → T.Fm → T'.Fm → T.d = T'.d → T = T'
  | 0, T, _, h, _, _, _ => by rw [T.sz_eq] at h; omega
  | n + 1, T, T', h, f, f', e => by
    rw [d_eta T, d_eta T'] at e
    obtain ⟨e1, e2⟩ := lab_inj (by rw [List.length_map]; exact f.loc) (by rw [List.length_map]; exact f'.loc) e
    have key : ∀ (A B : List Ty), (∀ t ∈ A, t.sz ≤ n ∧ t.Fm) → (∀ t ∈ B, t.Fm) → A.map Ty.d = B.map Ty.d → A = B := by
      intro A
      induction A with
      | nil => intro B _ _ h; exact (List.map_eq_nil_iff.mp h.symm).symm
      | cons t A ih =>
        intro B ha hb h
        cases B with
        | nil => cases h
        | cons u B =>
          rw [List.map_cons, List.map_cons] at h
          injection h with h1 h2
          rw [d_inj n t u (ha t List.mem_cons_self).1 (ha t List.mem_cons_self).2 (hb u List.mem_cons_self) h1, ih B (fun x hx => ha x (List.mem_cons_of_mem _ hx)) (fun x hx => hb x (List.mem_cons_of_mem _ hx)) h2]
    have e3 := key T.kids T'.kids (fun t ht => ⟨by
      have := T.sz_eq
      have := sz_in ht
      omega, f.kid ht⟩) (fun t ht => f'.kid ht) e2
    cases T; cases T'
    simp only [Ty.lab, Ty.kids] at e1 e3
    rw [e1, e3]
theorem mades_pos {T : Ty} (h : T.Fm) {x : Nat × Nat} (hx : x ∈ T.mades) : 0 < x.1 := by
  obtain ⟨t, ht, e⟩ := List.mem_filterMap.mp hx
  have := h t ht
  cases e2 : t.lab <;> rw [e2] at e this <;> cases e
  exact this.1
/-- a type of a book of these arities -/
def IsTy (ar : List Nat) (d : D) : Prop := ∃ T : Ty, T.d = d ∧ T.Ok ar ∧ T.sz ≤ 300
def arD (ar : List Nat) : D := .tup (ar.map fun (n : Nat) => .int (n : Int))
def okMk (ar : List Nat) (x : Nat × Nat) : Bool := decide (ar[x.1 - 1]? = some x.2)
section
variable {P : Program} {w : World} {K : PySem.W.Frag} {mg : Str → Option Value} {base : Heap}
abbrev s_is_shape : Stmt := top 28
theorem sc_is_shape : FnScope ["value", "arities", "found", "stamp", "many"] ["value", "arities"] (defScope s_is_shape) := ⟨rfl, rfl, rfl, by decide +kernel, rfl, by decide +kernel, by decide +kernel⟩
def spShape : Spc := fun ds μ q => ∃ d ar, ds = [d, arD ar] ∧ KtA μ d ∧ d.n ≤ sizeLine ∧ ar.length ≤ sizeLine ∧ ∀ b : Bool, (b = true ↔ IsTy ar d) → q (.bl b) μ
set_option maxHeartbeats 1000000 in
theorem ok_is_shape (A : At K mg "is_shape" s_is_shape ["value", "arities"]) (B : Bi mg) (D__made_in : Has P w K mg base "_made_in" ["value"] 4 spMade) : Has P w K mg base "is_shape" ["value", "arities"] 5 spShape := by
  refine .mk A fun f fd F => ?_
  refine qfn F sc_is_shape (by decide) ?len (fun cdv A outer s H E hr => (qss_cons (qs_set (i := 2) sc_is_shape.nd rfl (Or.inl rfl) (qe_call D__made_in (hr.mono (by decide)) (qa_cons (qv 0) qa_nil)))
  (qss_one (qs_ret (qe_and (qe_cmp qop_isnot (qv 2) qe_non (nomark _)) (qe_one (qe_callB (qc_all rfl) (by rfl) B.all (by decide +kernel) (qa_cons (qe_lc (own := [("stamp", 3), ("many", 4)]) rfl sc_is_shape.nd (qi_seq (qv 2)) (blkOk_by (N := ["value", "arities", "found", "stamp", "many"]) (sc := defScope s_is_shape) (by decide +kernel)) (fun _ _ _ _ _ => (qgw_tup (n := 2) rfl (qgws_cons (qgw_name (i := 3) sc_is_shape.nd rfl (Or.inl rfl)) (qgws_cons (qgw_name (i := 4) sc_is_shape.nd rfl (Or.inl rfl)) qgws_nil)))) (fun _ _ _ _ _ => qts_nil) (fun _ _ _ _ _ => (qe_and (qe_cmp qop_le (qv 3) (qe_callB qc_len (by rfl) B.len (by decide +kernel) (qa_cons (qv 1) qa_nil)) (nomark _)) (qe_one (qe_cmp (qop_eq hr.units) (qe_ix (qix (hu_of hr)) (qv 1) (qe_op qop_sub (qv 3) qe_int)) (qv 4) (nomark _)))))) qa_nil)))))))) ?body
  case len => rintro ds μ q ⟨d, ar, rfl, _⟩; rfl
  case body =>
    rintro ds μ q ⟨d, ar, rfl, hk, hsz, har, h⟩
    simp only [PW, Nat.reduceAdd, String.reduceEq, decide_true, decide_false, ite_true, ite_false, Bool.false_eq_true, if_true, if_false, true_and, and_true, Bool.not_true, Bool.not_false, List.length_cons, List.length_nil, reduceCtorEq]
    refine ⟨d, rfl, hk, hsz, fun hN => ?_, fun T e1 e2 e3 fs e4 e5 p hp => ?_⟩
    · simp only [PW, Nat.reduceAdd, String.reduceEq, decide_true, decide_false, ite_true, ite_false, Bool.false_eq_true, if_true, if_false, true_and, and_true, Bool.not_true, Bool.not_false, List.length_cons, List.length_nil, reduceCtorEq]
      refine end_of (h false ⟨fun z => (nomatch z), ?_⟩)
      rintro ⟨T, e1, e2, e3⟩
      exact (hN T e1 (ok_iff.mp e2).1 e3).elim
    · simp only [PW, Nat.reduceAdd, String.reduceEq, decide_true, decide_false, ite_true, ite_false, Bool.false_eq_true, if_true, if_false, true_and, and_true, Bool.not_true, Bool.not_false, List.length_cons, List.length_nil, reduceCtorEq]
      have hpos : ∀ x ∈ fs, 0 < x.1 := fun x hx => mades_pos e2 ((e4 x).mpr hx)
      refine ⟨by rw [List.length_map]; unfold sizeLine; omega, lc_map (fun x => match x with | .tup [.int s, .int m] => .bl (okMk ar (s.toNat, m.toNat)) | _ => .non) rdl_same (fun x hm ky kn k => ?_) fun p2 hp2 => ?_⟩
      · obtain ⟨x, hx, rfl⟩ := List.mem_map.mp hm
        have h0 := hpos x hx
        simp only [prD, Int.toNat_natCast] at k
        simp only [lcStep, prD, arD, List.length_map, PW, Nat.reduceAdd, String.reduceEq, decide_true, decide_false, ite_true, ite_false, Bool.false_eq_true, if_true, if_false, true_and, and_true, Bool.not_true, Bool.not_false, List.length_cons, List.length_nil, reduceCtorEq]
        by_cases c : x.1 ≤ ar.length
        · have e1 : decide ((x.1 : Int) ≤ (ar.length : Int)) = true := by rw [decide_eq_true_iff]; omega
          have e2 : atI (ar.map fun (n : Nat) => D.int (n : Int)) ((x.1 : Int) - 1) = some (.int (ar[x.1 - 1] : Nat)) := by
            rw [show ((x.1 : Int) - 1) = ((x.1 - 1 : Nat) : Int) by omega]
            refine atI_nat ?_
            rw [List.getElem?_map, List.getElem?_eq_getElem]
            rfl
          simp only [e1, e2, PW, Nat.reduceAdd, String.reduceEq, decide_true, decide_false, ite_true, ite_false, Bool.false_eq_true, if_true, if_false, true_and, and_true, Bool.not_true, Bool.not_false, List.length_cons, List.length_nil, reduceCtorEq]
          have e3 : okMk ar (x.1, x.2) = decide ((ar[x.1 - 1] : Int) = (x.2 : Int)) := by
            unfold okMk
            rw [decide_eq_decide, List.getElem?_eq_getElem (by omega), Option.some.injEq]
            exact ⟨fun z => congrArg _ z, fun z => Int.ofNat.inj z⟩
          rw [e3] at k
          exact k
        · have e1 : decide ((x.1 : Int) ≤ (ar.length : Int)) = false := by rw [decide_eq_false_iff_not]; omega
          simp only [e1, PW, Nat.reduceAdd, String.reduceEq, decide_true, decide_false, ite_true, ite_false, Bool.false_eq_true, if_true, if_false, true_and, and_true, Bool.not_true, Bool.not_false, List.length_cons, List.length_nil, reduceCtorEq]
          have e3 : okMk ar (x.1, x.2) = false := by
            unfold okMk
            rw [decide_eq_false_iff_not, List.getElem?_eq_none (by omega)]
            exact fun z => nomatch z
          rw [e3] at k
          exact k
      · rw [List.map_map]
        have e : blsOf (fs.map ((fun x : D => match x with | .tup [.int s, .int m] => D.bl (okMk ar (s.toNat, m.toNat)) | _ => .non) ∘ prD)) = some (fs.map (okMk ar)) := blsOf_mapf (g := okMk ar)
        simp only [e, PW, Nat.reduceAdd, String.reduceEq, decide_true, decide_false, ite_true, ite_false, Bool.false_eq_true, if_true, if_false, true_and, and_true, Bool.not_true, Bool.not_false, List.length_cons, List.length_nil, reduceCtorEq, all_map_id]
        refine ⟨μ, (Mle.put hp).trans (.put hp2), h _ ?_⟩
        rw [List.all_eq_true]
        constructor
        · intro ha
          exact ⟨T, e1, ok_iff.mpr ⟨e2, fun x hx => of_decide_eq_true (ha x ((e4 x).mp hx))⟩, e3⟩
        · rintro ⟨T', g1, g2, g3⟩ x hx
          have := d_inj _ T T' (Nat.le_refl _) e2 (ok_iff.mp g2).1 (e1.trans g1.symm)
          subst this
          exact decide_eq_true ((ok_iff.mp g2).2 x ((e4 x).mpr hx))
end
end Pl
namespace Pl
open PySem L2
theorem Mle.upd {μ ν : Mu} {a : Addr} {o : MO} (h : Mle μ ν) (e : μ a = none) : Mle μ (mset ν a o) := fun x u q => by
  rw [mset_ne (ne_free q e)]
  exact h x u q
theorem pres_flat : ∀ ts : List Ty, Ty.pres ts = ts.flatMap Ty.pre
  | [] => by rw [pres_nil]; rfl
  | t :: r => by rw [pres_cons, pres_flat r, List.flatMap_cons]
theorem flat_len (ts : List Ty) : (ts.flatMap Ty.pre).length = Ty.szs ts := by rw [← pres_flat, pres_len]
theorem Mle.none {μ ν : Mu} {a : Addr} (h : Mle μ ν) (e : ν a = Option.none) : μ a = Option.none := by
  cases e2 : μ a with
  | none => rfl
  | some o => rw [h a o e2] at e; cases e
theorem perm_level : ∀ U : List Ty, (U ++ (U.flatMap Ty.kids).flatMap Ty.pre).Perm (U.flatMap Ty.pre)
  | [] => .refl _
  | u :: r => by
    rw [List.flatMap_cons, List.flatMap_cons, pre_eq, List.flatMap_append, pres_flat, List.cons_append, List.cons_append]
    refine .cons u ?_
    refine List.Perm.trans ?_ (List.Perm.append_left (u.kids.flatMap Ty.pre) (perm_level r))
    rw [← List.append_assoc, ← List.append_assoc]
    exact List.Perm.append_right _ List.perm_append_comm
theorem kids_flat_d : ∀ U : List Ty, (∀ t ∈ U, t.Fm) → (U.map Ty.d).flatMap (fun y => (kidsD y).getD []) = (U.flatMap Ty.kids).map Ty.d
  | [], _ => rfl
  | u :: r, h => by
    rw [List.map_cons, List.flatMap_cons, List.flatMap_cons, kids_flat_d r fun x hx => h x (List.mem_cons_of_mem _ hx), kids_d (h u List.mem_cons_self), List.map_append]
    rfl
theorem pPop_c {μ : Mu} {a : Addr} {ds es : List D} {d : D} {q : EQ} (h : wrl μ a = some (ds ++ [d])) : pPop (.ref a) es μ q = q d (mset μ a (.lst ds)) := by
  rw [pPop_l h, List.dropLast_concat]
  have : (ds ++ [d])[(ds ++ [d]).length - 1]? = some d := by simp
  rw [this]
  rfl
section
variable {P : Program} {w : World} {K : PySem.W.Frag} {mg : Str → Option Value} {base : Heap}
abbrev s_children : Stmt := top 24
theorem sc_children : FnScope ["T"] ["T"] (defScope s_children) := ⟨rfl, rfl, rfl, by decide +kernel, rfl, by decide +kernel, by decide +kernel⟩
def spKids : Spc := fun ds μ q => ∃ T : Ty, ds = [T.d] ∧ T.Fm ∧ q (.tup (T.kids.map Ty.d)) μ
theorem ok_children (A : At K mg "children" s_children ["T"]) : Has P w K mg base "children" ["T"] 1 spKids := by
  refine .mk A fun f fd F => ?_
  refine qfn F sc_children (by decide) ?len (fun cdv A outer s H E hr => (qss_cons (qs_if (qt_cmp (qop_eq hr.units) (qe_ix (qix (hu_of hr)) (qv 0) qe_int) qe_str (nomark _)) (qss_one (qs_ret (qe_tup qa_nil))) qss_nil)
  (qss_cons (qs_if (qt_cmp (qop_eq hr.units) (qe_ix (qix (hu_of hr)) (qv 0) qe_int) qe_str (nomark _)) (qss_one (qs_ret (qe_slice (qv 0) (qo_some qe_int) qo_none))) qss_nil)
  (qss_one (qs_ret (qe_ifExp (qt_cmp (qop_eq hr.units) (qe_ix (qix (hu_of hr)) (qv 0) qe_int) qe_str (nomark _)) (qe_ix (qix (hu_of hr)) (qv 0) qe_int) (qe_ix (qix (hu_of hr)) (qv 0) qe_int))))))) ?body
  case len => rintro ds μ q ⟨d, rfl, _⟩; rfl
  case body =>
    rintro ds μ q ⟨T, rfl, hT, h⟩
    rw [d_eta]
    have hl := hT.loc
    generalize hks : T.kids.map Ty.d = ks at h
    cases e : T.lab <;> rw [e] at hl <;> simp only [Lab.d, PW, Nat.reduceAdd, String.reduceEq, decide_true, decide_false, ite_true, ite_false, Bool.false_eq_true, if_true, if_false, true_and, and_true, Bool.not_true, Bool.not_false, List.length_cons, List.length_nil, reduceCtorEq]
    · have := List.eq_nil_of_length_eq_zero hl.1
      rw [this] at hks
      subst hks
      exact end_of h
    all_goals exact end_of h
abbrev s_with_children : Stmt := top 25
theorem sc_with_children : FnScope ["T", "parts"] ["T", "parts"] (defScope s_with_children) := ⟨rfl, rfl, rfl, by decide +kernel, rfl, by decide +kernel, by decide +kernel⟩
def spWith : Spc := fun ds μ q => ∃ (T : Ty) (ks : List D), ds = [T.d, .tup ks] ∧ T.Fm ∧ (∀ n, T.lab ≠ .var n) ∧ ks.length = T.kids.length ∧ q (T.lab.d ks) μ
theorem ok_with (A : At K mg "with_children" s_with_children ["T", "parts"]) : Has P w K mg base "with_children" ["T", "parts"] 1 spWith := by
  refine .mk A fun f fd F => ?_
  refine qfn F sc_with_children (by decide) ?len (fun cdv A outer s H E hr => (qss_cons (qs_if (qt_cmp (qop_eq hr.units) (qe_ix (qix (hu_of hr)) (qv 0) qe_int) qe_str (nomark _)) (qss_one (qs_ret (qe_tup (qa_cons qe_str (qa_star (qv 1) qa_nil))))) qss_nil)
  (qss_one (qs_ret (qe_ifExp (qt_cmp (qop_eq hr.units) (qe_ix (qix (hu_of hr)) (qv 0) qe_int) qe_str (nomark _)) (qe_tup (qa_cons qe_str (qa_cons (qv 1) qa_nil))) (qe_tup (qa_cons qe_str (qa_cons (qe_ix (qix (hu_of hr)) (qv 0) qe_int) (qa_cons (qv 1) qa_nil))))))))) ?body
  case len => rintro ds μ q ⟨d, ks, rfl, _⟩; rfl
  case body =>
    rintro ds μ q ⟨T, ks, rfl, hT, hv, hlk, h⟩
    rw [d_eta]
    have hl := hT.loc
    generalize T.kids.map Ty.d = us at h ⊢
    cases e : T.lab <;> rw [e] at hl h hv <;> simp only [Lab.d, PW, Nat.reduceAdd, String.reduceEq, decide_true, decide_false, ite_true, ite_false, Bool.false_eq_true, if_true, if_false, true_and, and_true, Bool.not_true, Bool.not_false, List.length_cons, List.length_nil, reduceCtorEq]
    · exact (hv _ rfl).elim
    · rw [List.append_nil]
      have hl : T.kids.length = 2 := hl
      exact ⟨by rw [hlk, hl]; decide, end_of h⟩
    all_goals exact end_of h
abbrev s_nodes_of : Stmt := top 29
theorem sc_nodes_of : FnScope ["T", "found", "todo", "part"] ["T"] (defScope s_nodes_of) := ⟨rfl, rfl, rfl, by decide +kernel, rfl, by decide +kernel, by decide +kernel⟩
def spNodes : Spc := fun ds μ q => ∃ T : Ty, ds = [T.d] ∧ T.Fm ∧ T.sz ≤ 1000 ∧ ∀ p, μ p = none → q (.ref p) (mset μ p (.lst (T.pre.map Ty.d)))
set_option maxHeartbeats 1000000 in
theorem ok_nodes (A : At K mg "nodes_of" s_nodes_of ["T"]) (D_children : Has P w K mg base "children" ["T"] 1 spKids) : Has P w K mg base "nodes_of" ["T"] 2 spNodes := by
  refine .mk A fun f fd F => ?_
  refine qfn F sc_nodes_of (by decide) ?len (fun cdv A outer s H E hr => (qss_cons (qs_set (i := 1) sc_nodes_of.nd rfl (Or.inl rfl) (qe_lst qa_nil))
  (qss_cons (qs_set (i := 2) sc_nodes_of.nd rfl (Or.inl rfl) (qe_lst (qa_cons (qv 0) qa_nil)))
  (qss_cons (qs_while PassesOwn.never (qt_truth (qv 2)) (qss_cons (qs_set (i := 3) sc_nodes_of.nd rfl (Or.inl rfl) (qe_pop (qv 2)))
  (qss_cons (qs_expr (qe_bm PySem.F.slot_list_append PySem.F.type_list_append qm_append (qv 1) (qa_cons (qv 3) qa_nil)))
  (qss_one (qs_expr (qe_bm PySem.F.slot_list_extend PySem.F.type_list_extend qm_extend (qv 2) (qa_cons (qe_backT (qe_call D_children (hr.mono (by decide)) (qa_cons (qv 3) qa_nil))) qa_nil)))))))
  (qss_one (qs_ret (qv 1))))))) ?body
  case len => rintro ds μ q ⟨d, rfl, _⟩; rfl
  case body =>
    rintro ds μ q ⟨T, rfl, hT, hsz, h⟩
    simp only [PW, Nat.reduceAdd, String.reduceEq, decide_true, decide_false, ite_true, ite_false, Bool.false_eq_true, if_true, if_false, true_and, and_true, Bool.not_true, Bool.not_false, List.length_cons, List.length_nil, reduceCtorEq]
    intro p hp p2 hp2
    have hne : p2 ≠ p := by rintro rfl; rw [mset_same] at hp2; cases hp2
    rw [mset_ne hne] at hp2
    refine ⟨fun m ss ν => ∃ (fp tp : Addr) (F S : List Ty) (x3 : Option D), ss = [some T.d, some (.ref fp), some (.ref tp), x3] ∧ Mle μ ν ∧ μ fp = none ∧ μ tp = none ∧ fp ≠ tp ∧ ν fp = some (.lst (F.map Ty.d)) ∧ ν tp = some (.lst (S.map Ty.d)) ∧ T.pre = F ++ S.reverse.flatMap Ty.pre ∧ (∀ t ∈ S, t.Fm) ∧ m = Ty.szs S,
      ⟨_, p, p2, [], [T], none, rfl, (Mle.put hp).trans (.put (by rw [mset_ne hne]; exact hp2)), hp, hp2, hne.symm, by rw [mset_ne hne.symm, mset_same]; rfl, mset_same, by simp, by simpa using hT, rfl⟩, ?_⟩
    rintro m ss ν ⟨fp, tp, F, S, x3, rfl, hle, hfp, htp, hft, efp, etp, hpre, hS, rfl⟩
    have hlen := congrArg List.length hpre
    rw [pre_len, List.length_append, flat_len, szs_rev] at hlen
    simp only [PW, Nat.reduceAdd, String.reduceEq, decide_true, decide_false, ite_true, ite_false, Bool.false_eq_true, if_true, if_false, true_and, and_true, Bool.not_true, Bool.not_false, List.length_cons, List.length_nil, reduceCtorEq, tru_lst (rdl_lst etp)]
    rcases List.eq_nil_or_concat S with rfl | ⟨S, t, rfl⟩
    · simp only [PW, Nat.reduceAdd, String.reduceEq, decide_true, decide_false, ite_true, ite_false, Bool.false_eq_true, if_true, if_false, true_and, and_true, Bool.not_true, Bool.not_false, List.length_cons, List.length_nil, reduceCtorEq, List.map_nil, List.isEmpty_nil]
      rw [List.reverse_nil, List.flatMap_nil, List.append_nil] at hpre
      exact ⟨_, hle.mset_of efp, by rw [← hpre]; exact h fp hfp⟩
    · have ht := hS t (by simp)
      rw [List.concat_eq_append, List.map_append, List.map_singleton] at etp
      rw [List.concat_eq_append, szs_app, szs_cons, szs_nil, t.sz_eq] at hlen
      rw [List.concat_eq_append, List.reverse_append, List.reverse_singleton, List.singleton_append, List.flatMap_cons, pre_eq t, pres_flat] at hpre
      have en : ((S.concat t).map Ty.d).isEmpty = false := by simp
      simp only [en, PW, Nat.reduceAdd, String.reduceEq, decide_true, decide_false, ite_true, ite_false, Bool.false_eq_true, if_true, if_false, true_and, and_true, Bool.not_true, Bool.not_false, List.length_cons, List.length_nil, reduceCtorEq, isLst_lst (rdl_lst etp), pPop_c (wrl_lst etp)]
      have e1 : wrl (mset ν tp (.lst (S.map Ty.d))) fp = some (F.map Ty.d) := by rw [wrl_ne hft, wrl_lst efp]
      have e2 : rdl (mset ν tp (.lst (S.map Ty.d))) fp = some (F.map Ty.d) := by rw [rdl_ne hft, rdl_lst efp]
      have e3 : rdl (mset (mset ν tp (.lst (S.map Ty.d))) fp (.lst (F.map Ty.d ++ [t.d]))) tp = some (S.map Ty.d) := by rw [rdl_ne hft.symm, rdl_same]
      have e4 : wrl (mset (mset ν tp (.lst (S.map Ty.d))) fp (.lst (F.map Ty.d ++ [t.d]))) tp = some (S.map Ty.d) := by rw [wrl_ne hft.symm, wrl_same]
      simp only [isLst_lst e2, pAppend_l e1, isLst_lst e3, PW, Nat.reduceAdd, String.reduceEq, decide_true, decide_false, ite_true, ite_false, Bool.false_eq_true, if_true, if_false, true_and, and_true, Bool.not_true, Bool.not_false, List.length_cons, List.length_nil, reduceCtorEq, List.length_map]
      have := len_szs S
      have := len_szs t.kids
      have hl : ∀ {n : Nat}, n ≤ 1000 → n < sizeLine := fun {n} h => Nat.lt_of_le_of_lt h (by decide)
      refine ⟨hl (by omega), t, rfl, ht, ?_⟩
      simp only [PW, Nat.reduceAdd, String.reduceEq, decide_true, decide_false, ite_true, ite_false, Bool.false_eq_true, if_true, if_false, true_and, and_true, Bool.not_true, Bool.not_false, List.length_cons, List.length_nil, reduceCtorEq]
      rw [pExt_tup e4]
      refine ⟨by rw [List.length_map, List.length_reverse, List.length_map]; exact Nat.le_of_lt (hl (by omega)), Ty.szs (S ++ t.kids.reverse), ?_, fp, tp, F ++ [t], S ++ t.kids.reverse, _, rfl, ((hle.upd htp).upd hfp).upd htp, hfp, htp, hft, ?_, ?_, ?_, ?_, rfl⟩
      · rw [List.concat_eq_append, szs_app, szs_app, szs_rev, szs_cons, szs_nil, t.sz_eq]; omega
      · rw [mset_ne hft, mset_same, List.map_append, List.map_singleton]
      · rw [mset_same, List.map_append, List.map_reverse]
      · rw [hpre, List.reverse_append, List.reverse_reverse, List.flatMap_append]
        simp
      · intro u hu
        rcases List.mem_append.mp hu with hu | hu
        · exact hS u (by simp [hu])
        · exact ht.kid (List.mem_reverse.mp hu)
def spAll : Spc := fun ds μ q => ∃ T : Ty, ds = [T.d] ∧ T.Fm ∧ T.sz ≤ 1000 ∧ ∀ Ts : List Ty, List.Perm Ts T.pre → ∀ p, μ p = none → q (.ref p) (mset μ p (.lst (Ts.map Ty.d)))
end
end Pl
namespace Pl
open PySem L2
/-- a dict by variables -/
def nk (g : Nat → D) (ns : List Nat) : List (Key × D) := ns.map fun (n : Nat) => (.inl (n : Int), g n)
theorem nk_any (g : Nat → D) (n : Nat) : ∀ ns : List Nat, ((nk g ns).any fun kv => decide (kv.1 = (.inl (n : Int) : Key))) = decide (n ∈ ns)
  | [] => rfl
  | m :: r => by
    show (decide ((.inl (m : Int) : Key) = .inl (n : Int)) || (nk g r).any _) = _
    rw [nk_any g n r, Bool.eq_iff_iff, Bool.or_eq_true, decide_eq_true_iff, decide_eq_true_iff, decide_eq_true_iff, List.mem_cons]
    constructor
    · rintro (h | h)
      · exact .inl (Int.ofNat.inj (Sum.inl.inj h)).symm
      · exact .inr h
    · rintro (h | h)
      · exact .inl (by rw [h])
      · exact .inr h
theorem nk_put (g : Nat → D) (ns : List Nat) (n : Nat) : putD (nk g ns) (.inl (n : Int)) (g n) = nk g (addN ns n) := by
  unfold putD addN
  rw [nk_any]
  by_cases h : n ∈ ns
  · rw [if_pos (decide_eq_true h), if_pos h]
    unfold nk
    rw [List.map_map]
    refine List.map_congr_left fun m _ => ?_
    show (if (Sum.inl (m : Int) : Key) = Sum.inl (n : Int) then _ else _) = _
    split
    · rename_i e
      have : m = n := Int.ofNat.inj (Sum.inl.inj e)
      rw [this]
    · rfl
  · rw [if_neg (by simpa using h), if_neg h]
    unfold nk
    rw [List.map_append]
    rfl
theorem nk_fold (g : Nat → D) : ∀ (l acc : List Nat), ((l.map fun (n : Nat) => ((.inl (n : Int) : Key), g n)).foldl (fun a kv => putD a kv.1 kv.2) (nk g acc)) = nk g (foldA acc l)
  | [], _ => rfl
  | n :: r, acc => by
    rw [List.map_cons, List.foldl_cons]
    show (r.map _).foldl _ (putD (nk g acc) (.inl (n : Int)) (g n)) = _
    rw [nk_put, nk_fold g r]
    rfl
theorem nk_get (g : Nat → D) (n : Nat) : ∀ ns : List Nat, n ∈ ns → valD (nk g ns) (.inl (n : Int)) = some (g n)
  | m :: r, h => by
    have ih := nk_get g n r
    unfold valD at ih ⊢
    show Option.map _ (List.find? _ ((.inl (m : Int), g m) :: nk g r)) = _
    rw [List.find?_cons]
    by_cases e : m = n
    · subst e
      simp
    · have : decide ((Sum.inl (m : Int) : Key) = Sum.inl (n : Int)) = false := by
        rw [decide_eq_false_iff_not]
        exact fun z => e (Int.ofNat.inj (Sum.inl.inj z))
      rw [this]
      exact ih ((List.mem_cons.mp h).resolve_left fun z => e z.symm)
theorem cutD_from {ds : List D} {j : Nat} (h : j ≤ ds.length) : cutD ds (some (j : Int)) none = ds.drop j := by
  unfold cutD
  rw [HT.sIx_nat, HT.sIx_none, Nat.min_eq_left h]
  exact List.take_of_length_le (by rw [List.length_drop]; exact Nat.le_refl _)
def tbD (x : Ty × Bool) : D := .tup [x.1.d, .bl x.2]
theorem Ty.Fm.leafy {T : Ty} (h : T.Fm) : T.Leafy := fun t ht hn => by
  have q := h t ht
  cases e : t.lab with
  | var m =>
    rw [e] at q
    exact List.eq_nil_of_length_eq_zero q.1
  | _ => rw [e] at hn; exact absurd rfl hn
theorem pre_trans {T t u : Ty} : t ∈ T.pre → u ∈ t.pre → u ∈ T.pre := by
  intro h1 h2
  obtain ⟨n, hn⟩ : ∃ n, T.sz ≤ n := ⟨_, Nat.le_refl _⟩
  induction n generalizing T with
  | zero => have := sz_pos T; omega
  | succ n ih =>
    rw [pre_eq] at h1 ⊢
    rcases List.mem_cons.mp h1 with rfl | h1
    · rw [pre_eq] at h2; exact h2
    · obtain ⟨k, hk, hm⟩ := mem_pres_inv h1
      have := kid_sz hk
      exact List.mem_cons_of_mem _ (mem_pres hk (ih hm (by omega)))
theorem foldA_self {ns : List Nat} (h : ns.Nodup) : foldA [] ns = ns := by
  have key : ∀ (l acc : List Nat), l.Nodup → (∀ n ∈ l, n ∉ acc) → foldA acc l = acc ++ l := by
    intro l
    induction l with
    | nil => intro acc _ _; rw [List.append_nil]; rfl
    | cons n r ih =>
      intro acc hd hn
      have hd2 := List.nodup_cons.mp hd
      show foldA (addN acc n) r = _
      unfold addN
      rw [if_neg (hn n List.mem_cons_self), ih _ hd2.2 (fun m hm => by
        rw [List.mem_append, List.mem_singleton]
        rintro (z | z)
        · exact hn m (List.mem_cons_of_mem _ hm) z
        · exact hd2.1 (z ▸ hm)), List.append_assoc]
      rfl
  exact key ns [] h fun _ _ z => nomatch z
theorem Ty.Fm.pre {T t : Ty} (h : T.Fm) (m : t ∈ T.pre) : t.Fm := fun u hu => h u (pre_trans m hu)
/-- a variable's number -/
def varD : D → Option Nat
  | .tup [.str w, .int i] => if w = "var" then some i.toNat else none
  | _ => none
theorem varD_d {T : Ty} (h : T.Fm) : varD T.d = T.lab.num := by
  rw [d_eta]
  have hl := h.loc
  cases e : T.lab <;> rw [e] at hl
  · simp only [Lab.d, varD, if_true, Int.toNat_natCast, Lab.num]
  · match hk : T.kids, hl with
    | [a, b], _ =>
      show varD (.tup [.str "fn", a.d, b.d]) = none
      cases a.d <;> rfl
  · rfl
  · rfl
def Lab.w : Lab → Str
  | .var _ => "var"
  | .fn => "fn"
  | .tup => "tuple"
  | .made _ => "made"
theorem pIx_w {T : Ty} {μ : Mu} {q : EQ} : pIx T.d (.int 0) μ q = q (.str T.lab.w) μ := by
  rw [d_eta]
  cases T.lab <;> simp only [Lab.d, Lab.w, PW, Nat.reduceAdd, String.reduceEq, decide_true, decide_false, ite_true, ite_false, Bool.false_eq_true, if_true, if_false, true_and, and_true, Bool.not_true, Bool.not_false, List.length_cons, List.length_nil, reduceCtorEq]
theorem pIx_v {T : Ty} {n : Nat} (e : T.lab = .var n) {μ : Mu} {q : EQ} : pIx T.d (.int 1) μ q = q (.int (n : Int)) μ := by
  rw [d_eta, e]
  simp only [Lab.d, PW, Nat.reduceAdd, String.reduceEq, decide_true, decide_false, ite_true, ite_false, Bool.false_eq_true, if_true, if_false, true_and, and_true, Bool.not_true, Bool.not_false, List.length_cons, List.length_nil, reduceCtorEq]
theorem filterMap_congr' {α β : Type} {f g : α → Option β} : ∀ {xs : List α}, (∀ x ∈ xs, f x = g x) → xs.filterMap f = xs.filterMap g
  | [], _ => rfl
  | x :: r, h => by rw [List.filterMap_cons, List.filterMap_cons, h x List.mem_cons_self, filterMap_congr' fun y hy => h y (List.mem_cons_of_mem _ hy)]
theorem intsOf_mapf {α : Type} {g : α → Int} : ∀ {xs : List α}, intsOf (xs.map fun x => D.int (g x)) = some (xs.map g)
  | [] => rfl
  | x :: r => by rw [List.map_cons, intsOf, intsOf_mapf]; rfl
theorem wsum_int (f : Nat → Nat) : ∀ Ts : List Ty, ((wsum f Ts : Nat) : Int) = (Ts.map fun t => ((match t.lab.num with | some n => f n | none => 1 : Nat) : Int)).sum
  | [] => rfl
  | t :: r => by rw [wsum_cons, List.map_cons, List.sum_cons, ← wsum_int f r, Int.natCast_add]; try rfl
theorem wsum_perm (f : Nat → Nat) {a b : List Ty} (h : a.Perm b) : wsum f a = wsum f b := by
  unfold wsum
  exact (h.map _).sum_nat
section
variable {P : Program} {w : World} {K : PySem.W.Frag} {mg : Str → Option Value} {base : Heap}
abbrev s_variables_in : Stmt := top 31
theorem sc_variables_in : FnScope ["T", "found", "part"] ["T"] (defScope s_variables_in) := ⟨rfl, rfl, rfl, by decide +kernel, rfl, by decide +kernel, by decide +kernel⟩
def natsD (ns : List Nat) : D := .tup (ns.map fun (n : Nat) => .int (n : Int))
def spVars : Spc := fun ds μ q => ∃ T : Ty, ds = [T.d] ∧ T.Fm ∧ T.sz ≤ 1000 ∧ q (natsD T.ord) μ
set_option maxHeartbeats 1000000 in
theorem ok_vars (A : At K mg "variables_in" s_variables_in ["T"]) (B : Bi mg) (D_nodes_of : Has P w K mg base "nodes_of" ["T"] 2 spNodes) : Has P w K mg base "variables_in" ["T"] 3 spVars := by
  refine .mk A fun f fd F => ?_
  refine qfn F sc_variables_in (by decide) ?len (fun cdv A outer s H E hr => (qss_cons (qs_setDc (i := 1) (own := [("part", 2)]) rfl sc_variables_in.nd rfl rfl (Lq.sw_dict rfl rfl rfl (by decide +kernel)) (qi_seq (qe_call D_nodes_of (hr.mono (by decide)) (qa_cons (qv 0) qa_nil))) (blkOk_by (N := ["T", "found", "part"]) (sc := defScope s_variables_in) (by decide +kernel)) (fun _ _ _ _ _ => (qgw_name (i := 2) sc_variables_in.nd rfl (Or.inl rfl))) (fun _ _ _ _ _ => (qts_one (qt_cmp (qop_eq hr.units) (qe_ix (qix (hu_of hr)) (qv 2) qe_int) qe_str (nomark _)))) (fun _ _ _ _ _ => (qe_ix (qix (hu_of hr)) (qv 2) qe_int)) (fun _ _ _ _ _ => qe_bl))
  (qss_one (qs_ret (qe_callTy (qc_tuple rfl) (by rfl) B.tuple (by decide +kernel) (qa_cons (qv 1) qa_nil)))))) ?body
  case len => rintro ds μ q ⟨d, rfl, _⟩; rfl
  case body =>
    rintro ds μ q ⟨T, rfl, hT, hsz, h⟩
    simp only [PW, Nat.reduceAdd, String.reduceEq, decide_true, decide_false, ite_true, ite_false, Bool.false_eq_true, if_true, if_false, true_and, and_true, Bool.not_true, Bool.not_false, List.length_cons, List.length_nil, reduceCtorEq]
    unfold pDc
    simp only [PW, Nat.reduceAdd, String.reduceEq, decide_true, decide_false, ite_true, ite_false, Bool.false_eq_true, if_true, if_false, true_and, and_true, Bool.not_true, Bool.not_false, List.length_cons, List.length_nil, reduceCtorEq]
    refine ⟨T, rfl, hT, hsz, fun p hp => ?_⟩
    simp only [PW, Nat.reduceAdd, String.reduceEq, decide_true, decide_false, ite_true, ite_false, Bool.false_eq_true, if_true, if_false, true_and, and_true, Bool.not_true, Bool.not_false, List.length_cons, List.length_nil, reduceCtorEq, List.length_map, pre_len]
    refine ⟨small300 (by omega), dc_fmap (f := fun x => (varD x).map fun (n : Nat) => (.inl (n : Int), .bl true)) rdl_same (fun x hx ky kn h1 h2 => ?_) fun p2 hp2 => ?_⟩
    · obtain ⟨t, ht, rfl⟩ := List.mem_map.mp hx
      have hf := hT.pre ht
      rw [varD_d hf] at h1 h2
      simp only [pIx_w, PW, Nat.reduceAdd, String.reduceEq, decide_true, decide_false, ite_true, ite_false, Bool.false_eq_true, if_true, if_false, true_and, and_true, Bool.not_true, Bool.not_false, List.length_cons, List.length_nil, reduceCtorEq]
      cases e : t.lab <;> rw [e] at h1 h2 <;> simp only [Lab.w, PW, Nat.reduceAdd, String.reduceEq, decide_true, decide_false, ite_true, ite_false, Bool.false_eq_true, if_true, if_false, true_and, and_true, Bool.not_true, Bool.not_false, List.length_cons, List.length_nil, reduceCtorEq]
      · simp only [pIx_v e, PW, Nat.reduceAdd, String.reduceEq, decide_true, decide_false, ite_true, ite_false, Bool.false_eq_true, if_true, if_false, true_and, and_true, Bool.not_true, Bool.not_false, List.length_cons, List.length_nil, reduceCtorEq]
        exact h1 _ rfl
      all_goals exact h2 rfl
    · have e : ((T.pre.map Ty.d).filterMap fun x => (varD x).map fun (n : Nat) => ((.inl (n : Int) : Key), D.bl true)) = T.vars.map fun (n : Nat) => ((.inl (n : Int) : Key), D.bl true) := by
        unfold Ty.vars
        rw [List.filterMap_map, List.map_filterMap]
        refine filterMap_congr' fun t ht => ?_
        show (varD t.d).map _ = _
        rw [varD_d (hT.pre ht)]
      rw [e]
      have e2 := nk_fold (fun _ => .bl true) T.vars []
      rw [ord_vars hT.leafy] at e2
      have e2 : (T.vars.map fun (n : Nat) => ((.inl (n : Int) : Key), D.bl true)).foldl (fun a kv => putD a kv.1 kv.2) [] = nk (fun _ => .bl true) T.ord := e2
      rw [e2, itemsD_dk mset_same]
      simp only [PW, Nat.reduceAdd, String.reduceEq, decide_true, decide_false, ite_true, ite_false, Bool.false_eq_true, if_true, if_false, true_and, and_true, Bool.not_true, Bool.not_false, List.length_cons, List.length_nil, reduceCtorEq]
      have e3 : ((nk (fun _ => D.bl true) T.ord).map fun kv => kD kv.1) = T.ord.map fun (n : Nat) => D.int (n : Int) := by
        unfold nk
        rw [List.map_map]
        rfl
      rw [e3]
      exact ⟨μ, (Mle.put hp).trans (.put hp2), h⟩
def spSize : Spc := fun ds μ q => ∃ (T : Ty) (a : Addr) (f : Nat → Nat) (ns : List Nat), ds = [T.d, .ref a] ∧ T.Fm ∧ T.sz ≤ 1000 ∧ μ a = some (.dk (nk (fun n => .int (f n : Nat)) ns)) ∧ (∀ n ∈ T.vars, n ∈ ns) ∧ q (.int (wsum f T.pre : Nat)) μ
abbrev s_replaced : Stmt := top 32
theorem sc_replaced : FnScope ["T", "images", "done", "todo", "part", "ready", "first", "parts", "inner"] ["T", "images"] (defScope s_replaced) := ⟨rfl, rfl, rfl, by decide +kernel, rfl, by decide +kernel, by decide +kernel⟩
def spRepl : Spc := fun ds μ q => ∃ (T : Ty) (a : Addr) (σ : Nat → Ty) (ns : List Nat), ds = [T.d, .ref a] ∧ T.Fm ∧ T.sz ≤ 1000 ∧ μ a = some (.dk (nk (fun n => (σ n).d) ns)) ∧ (∀ n ∈ T.vars, n ∈ ns) ∧ q (T.sub σ).d μ
theorem ok_replaced (A : At K mg "replaced" s_replaced ["T", "images"]) (B : Bi mg) (D_children : Has P w K mg base "children" ["T"] 1 spKids) (D_with_children : Has P w K mg base "with_children" ["T", "parts"] 1 spWith) : Has P w K mg base "replaced" ["T", "images"] 2 spRepl := by
  refine .mk A fun f fd F => ?_
  refine qfn F sc_replaced (by decide) ?len (fun cdv A outer s H E hr => (qss_cons (qs_set (i := 2) sc_replaced.nd rfl (Or.inl rfl) (qe_lst qa_nil))
  (qss_cons (qs_set (i := 3) sc_replaced.nd rfl (Or.inl rfl) (qe_lst (qa_cons (qe_tup (qa_cons (qv 0) (qa_cons qe_bl qa_nil))) qa_nil)))
  (qss_cons (qs_while PassesOwn.never (qt_truth (qv 3)) (qss_cons (qs_asg (qe_pop (qv 3)) (qg_tup (n := 2) rfl (qgs_cons (qg_name (i := 4) sc_replaced.nd rfl (Or.inl rfl)) (qgs_cons (qg_name (i := 5) sc_replaced.nd rfl (Or.inl rfl)) qgs_nil))))
  (qss_one (qs_if (qt_cmp (qop_eq hr.units) (qe_ix (qix (hu_of hr)) (qv 4) qe_int) qe_str (nomark _)) (qss_one (qs_expr (qe_bm PySem.F.slot_list_append PySem.F.type_list_append qm_append (qv 2) (qa_cons (qe_ix (qix (hu_of hr)) (qv 1) (qe_ix (qix (hu_of hr)) (qv 4) qe_int)) qa_nil)))) (qss_one (qs_if (qt_truth (qv 5)) (qss_cons (qs_set (i := 6) sc_replaced.nd rfl (Or.inl rfl) (qe_op qop_sub (qe_callB qc_len (by rfl) B.len (by decide +kernel) (qa_cons (qv 2) qa_nil)) (qe_callB qc_len (by rfl) B.len (by decide +kernel) (qa_cons (qe_call D_children (hr.mono (by decide)) (qa_cons (qv 4) qa_nil)) qa_nil))))
  (qss_cons (qs_set (i := 7) sc_replaced.nd rfl (Or.inl rfl) (qe_callTy (qc_tuple rfl) (by rfl) B.tuple (by decide +kernel) (qa_cons (qe_slice (qv 2) (qo_some (qv 6)) qo_none) qa_nil)))
  (qss_cons (qs_delT (qv 2) (qo_some (qv 6)))
  (qss_one (qs_expr (qe_bm PySem.F.slot_list_append PySem.F.type_list_append qm_append (qv 2) (qa_cons (qe_call D_with_children (hr.mono (by decide)) (qa_cons (qv 4) (qa_cons (qv 7) qa_nil))) qa_nil))))))) (qss_cons (qs_expr (qe_bm PySem.F.slot_list_append PySem.F.type_list_append qm_append (qv 3) (qa_cons (qe_tup (qa_cons (qv 4) (qa_cons qe_bl qa_nil))) qa_nil)))
  (qss_one (qs_expr (qe_bm PySem.F.slot_list_extend PySem.F.type_list_extend qm_extend (qv 3) (qa_cons (qe_lc (own := [("inner", 8)]) rfl sc_replaced.nd (qi_seq (qe_backT (qe_call D_children (hr.mono (by decide)) (qa_cons (qv 4) qa_nil)))) (blkOk_by (N := ["T", "images", "done", "todo", "part", "ready", "first", "parts", "inner"]) (sc := defScope s_replaced) (by decide +kernel)) (fun _ _ _ _ _ => (qgw_name (i := 8) sc_replaced.nd rfl (Or.inl rfl))) (fun _ _ _ _ _ => qts_nil) (fun _ _ _ _ _ => (qe_tup (qa_cons (qv 8) (qa_cons qe_bl qa_nil))))) qa_nil)))))))))))
  (qss_one (qs_ret (qe_ix (qix (hu_of hr)) (qv 2) qe_int))))))) ?body
  case len => rintro ds μ q ⟨_, _, _, _, rfl, _⟩; rfl
  case body =>
    rintro ds μ q ⟨T, a, σ, ns, rfl, hT, hsz, ha, hv, h⟩
    simp only [PW, Nat.reduceAdd, String.reduceEq, decide_true, decide_false, ite_true, ite_false, Bool.false_eq_true, if_true, if_false, true_and, and_true, Bool.not_true, Bool.not_false, List.length_cons, List.length_nil, reduceCtorEq]
    intro p hp p2 hp2
    have hne : p2 ≠ p := by rintro rfl; rw [mset_same] at hp2; cases hp2
    rw [mset_ne hne] at hp2
    refine ⟨fun m ss ν => ∃ (fp tp : Addr) (F : List Ty) (S : List (Ty × Bool)) (x4 x5 x6 x7 x8 : Option D), ss = [some T.d, some (.ref a), some (.ref fp), some (.ref tp), x4, x5, x6, x7, x8] ∧ Mle μ ν ∧ μ fp = none ∧ μ tp = none ∧ fp ≠ tp ∧ ν fp = some (.lst (F.map Ty.d)) ∧ ν tp = some (.lst (S.map tbD)) ∧ ev σ S.reverse F = some [T.sub σ] ∧ (∀ t ∈ S, t.1.Fm ∧ ∀ n ∈ t.1.vars, n ∈ ns) ∧ F.length + wts S ≤ 2 * T.sz ∧ m = wts S,
      ⟨_, p, p2, [], [(T, false)], none, none, none, none, none, rfl, (Mle.put hp).trans (.put (by rw [mset_ne hne]; exact hp2)), hp, hp2, hne.symm, by rw [mset_ne hne.symm, mset_same]; rfl, mset_same, by rw [List.reverse_singleton, ev_done σ (.inr rfl)]; rfl, by intro t ht; rw [List.mem_singleton.mp ht]; exact ⟨hT, hv⟩, by rw [wts_one]; exact Nat.le_of_eq (Nat.zero_add _), rfl⟩, ?_⟩
    rintro m ss ν ⟨fp, tp, F, S, x4, x5, x6, x7, x8, rfl, hle, hfp, htp, hft, efp, etp, hev, hS, hlen, rfl⟩
    simp only [PW, Nat.reduceAdd, String.reduceEq, decide_true, decide_false, ite_true, ite_false, Bool.false_eq_true, if_true, if_false, true_and, and_true, Bool.not_true, Bool.not_false, List.length_cons, List.length_nil, reduceCtorEq, tru_lst (rdl_lst etp)]
    rcases List.eq_nil_or_concat S with rfl | ⟨S, ⟨t, b⟩, rfl⟩
    · simp only [List.map_nil, List.isEmpty_nil, PW, Nat.reduceAdd, String.reduceEq, decide_true, decide_false, ite_true, ite_false, Bool.false_eq_true, if_true, if_false, true_and, and_true, Bool.not_true, Bool.not_false, List.length_cons, List.length_nil, reduceCtorEq]
      rw [List.reverse_nil, ev] at hev
      cases hev
      simp only [List.map_cons, List.map_nil] at efp
      simp only [pIx_lst (rdl_lst efp), PW, Nat.reduceAdd, String.reduceEq, decide_true, decide_false, ite_true, ite_false, Bool.false_eq_true, if_true, if_false, true_and, and_true, Bool.not_true, Bool.not_false, List.length_cons, List.length_nil, reduceCtorEq]
      exact ⟨μ, hle, h⟩
    · have ht := hS (t, b) (by simp)
      rw [List.concat_eq_append, List.map_append, List.map_singleton] at etp
      rw [List.concat_eq_append, List.reverse_append, List.reverse_singleton, List.singleton_append] at hev
      rw [List.concat_eq_append, wts_app, wts_one] at hlen
      have hw := wt_pos (t, b)
      have en : ((S.concat (t, b)).map tbD).isEmpty = false := by simp
      have hl : ∀ {n : Nat}, n ≤ 2000 → n < sizeLine := fun {n} h => Nat.lt_of_le_of_lt h (by decide)
      have hwl := wts_len S
      have hS' : ∀ t ∈ S, t.1.Fm ∧ ∀ n ∈ t.1.vars, n ∈ ns := fun u hu => hS u (by simp [hu])
      have hms : wts (S.concat (t, b)) = wts S + wt (t, b) := by rw [List.concat_eq_append, wts_app, wts_one]
      rw [hms]
      simp only [en, PW, Nat.reduceAdd, String.reduceEq, decide_true, decide_false, ite_true, ite_false, Bool.false_eq_true, if_true, if_false, true_and, and_true, Bool.not_true, Bool.not_false, List.length_cons, List.length_nil, reduceCtorEq, isLst_lst (rdl_lst etp), pPop_c (wrl_lst etp), tbD, pIx_w]
      have e1 : ∀ {o : MO}, wrl (mset ν tp o) fp = some (F.map Ty.d) := fun {o} => by rw [wrl_ne hft, wrl_lst efp]
      have e2 : ∀ {o : MO}, rdl (mset ν tp o) fp = some (F.map Ty.d) := fun {o} => by rw [rdl_ne hft, rdl_lst efp]
      have e3 : ∀ {o : MO}, rdk (mset ν tp o) a = some (nk (fun n => (σ n).d) ns) := fun {o} => by rw [rdk_ne (ne_free ha htp), rdk_of (hle _ _ ha)]
      by_cases hv : t.lab.num = none
      · have hw2 : (t.lab.w = "var") = False := by
          cases e : t.lab <;> rw [e] at hv <;> first | (simp only [Lab.w, PW, Nat.reduceAdd, String.reduceEq, decide_true, decide_false, ite_true, ite_false, Bool.false_eq_true, if_true, if_false, true_and, and_true, Bool.not_true, Bool.not_false, List.length_cons, List.length_nil, reduceCtorEq]; done) | cases hv
        simp only [hw2, PW, Nat.reduceAdd, String.reduceEq, decide_true, decide_false, ite_true, ite_false, Bool.false_eq_true, if_true, if_false, true_and, and_true, Bool.not_true, Bool.not_false, List.length_cons, List.length_nil, reduceCtorEq]
        cases b with
        | true =>
          rw [ev, if_neg (by rw [hv]; simp)] at hev
          by_cases hk : t.kids.length ≤ F.length
          · rw [if_pos hk] at hev
            have hj : (F.length : Int) - (t.kids.length : Int) = ((F.length - t.kids.length : Nat) : Int) := by omega
            simp only [PW, Nat.reduceAdd, String.reduceEq, decide_true, decide_false, ite_true, ite_false, Bool.false_eq_true, if_true, if_false, true_and, and_true, Bool.not_true, Bool.not_false, List.length_cons, List.length_nil, reduceCtorEq, lenD_lst e2, List.length_map]
            refine ⟨t, rfl, ht.1, ?_⟩
            simp only [PW, Nat.reduceAdd, String.reduceEq, decide_true, decide_false, ite_true, ite_false, Bool.false_eq_true, if_true, if_false, true_and, and_true, Bool.not_true, Bool.not_false, List.length_cons, List.length_nil, reduceCtorEq, List.length_map, e2, hj]
            intro p5 hp5
            have n1 : fp ≠ p5 := ne_free (by rw [mset_ne hft]; exact efp) hp5
            have n2 : tp ≠ p5 := ne_free mset_same hp5
            have c1 : cutD (F.map Ty.d) (some ((F.length - t.kids.length : Nat) : Int)) none = (F.drop (F.length - t.kids.length)).map Ty.d := by rw [cutD_from (by rw [List.length_map]; omega), List.map_drop]
            have w1 : wrl (mset (mset ν tp (.lst (S.map tbD))) p5 (.lst ((F.drop (F.length - t.kids.length)).map Ty.d))) fp = some (F.map Ty.d) := by rw [wrl_ne n1, e1]
            rw [c1, onW_lst w1]
            refine ⟨by omega, by rw [List.length_map]; omega, ?_⟩
            rw [isLst_same, Int.toNat_natCast]
            refine ⟨True.intro, t, _, rfl, ht.1, fun n z => ?_, by rw [List.length_map, List.length_drop]; omega, ?_⟩
            · rw [z] at hv; cases hv
            dsimp only
            rw [pAppend_same, ← List.map_take]
            have hd : t.lab.d ((F.drop (F.length - t.kids.length)).map Ty.d) = (Ty.node t.lab (F.drop (F.length - t.kids.length))).d := (d_eq _ _).symm
            rw [hd]
            have hm2 : Mle μ (mset (mset ν tp (.lst (S.map tbD))) p5 (.lst ((F.drop (F.length - t.kids.length)).map Ty.d))) := (hle.upd htp).trans (.put hp5)
            have lt : (F.take (F.length - t.kids.length)).length ≤ F.length := by rw [List.length_take]; omega
            refine ⟨by rw [List.length_map]; exact hl (by omega), wts S, by omega, fp, tp, F.take (F.length - t.kids.length) ++ [.node t.lab (F.drop (F.length - t.kids.length))], S, _, _, _, _, _, rfl, hm2.upd hfp, hfp, htp, hft, ?_, ?_, hev, hS', ?_, rfl⟩
            · rw [mset_same, List.map_append, List.map_singleton]
            · rw [mset_ne hft.symm, mset_ne n2, mset_same]
            · rw [List.length_append, List.length_singleton]; omega
          · rw [if_neg hk] at hev
            cases hev
        | false =>
          have hwf : wt (t, false) = 2 * t.sz := rfl
          have hsk := t.sz_eq
          have hkl := len_szs t.kids
          simp only [PW, Nat.reduceAdd, String.reduceEq, decide_true, decide_false, ite_true, ite_false, Bool.false_eq_true, if_true, if_false, true_and, and_true, Bool.not_true, Bool.not_false, List.length_cons, List.length_nil, reduceCtorEq]
          refine ⟨by rw [List.length_map]; exact hl (by omega), t, rfl, ht.1, ?_⟩
          simp only [PW, Nat.reduceAdd, String.reduceEq, decide_true, decide_false, ite_true, ite_false, Bool.false_eq_true, if_true, if_false, true_and, and_true, Bool.not_true, Bool.not_false, List.length_cons, List.length_nil, reduceCtorEq]
          refine ⟨by rw [List.length_reverse, List.length_map]; exact Nat.le_of_lt (hl (by omega)), lc_map (fun x => .tup [x, .bl false]) True.intro (fun x hx ky kn k => by simp only [lcStep, PW, Nat.reduceAdd, String.reduceEq, decide_true, decide_false, ite_true, ite_false, Bool.false_eq_true, if_true, if_false, true_and, and_true, Bool.not_true, Bool.not_false, List.length_cons, List.length_nil, reduceCtorEq]; exact k) fun p5 hp5 => ?_⟩
          have n2 : tp ≠ p5 := ne_free mset_same hp5
          have n1 : fp ≠ p5 := ne_free (by rw [mset_ne hft]; exact efp) hp5
          have w1 : ∀ {o : MO}, wrl (mset (mset ν tp (.lst (S.map tbD ++ [.tup [t.d, .bl true]]))) p5 o) tp = some (S.map tbD ++ [.tup [t.d, .bl true]]) := fun {o} => by rw [wrl_ne n2, wrl_same]
          have hS2 : (S.map tbD ++ [D.tup [t.d, .bl true]]) ++ ((t.kids.map Ty.d).reverse.map fun x => D.tup [x, .bl false]) = (S ++ [(t, true)] ++ (t.kids.map fun u => (u, false)).reverse).map tbD := by
            rw [List.map_append, List.map_append, List.map_singleton, List.map_reverse, List.map_reverse, List.map_map, List.map_map]
            rfl
          rw [pExt_ref w1 wrl_same, hS2]
          have hw3 : wts (S ++ [(t, true)] ++ (t.kids.map fun u => (u, false)).reverse) = wts S + 1 + 2 * Ty.szs t.kids := by
            rw [wts_app, wts_app, wts_one]
            have : wts (t.kids.map fun u => (u, false)).reverse = 2 * Ty.szs t.kids := by
              rw [← wts_kids]
              unfold wts
              rw [List.map_reverse, List.sum_reverse]
            rw [this]
            rfl
          refine ⟨?_, wts (S ++ [(t, true)] ++ (t.kids.map fun u => (u, false)).reverse), by rw [hw3]; omega, fp, tp, F, _, _, _, _, _, _, rfl, ((hle.upd htp).trans (.put hp5)).upd htp, hfp, htp, hft, ?_, mset_same, ?_, ?_, ?_, rfl⟩
          · rw [List.length_append, List.length_map, List.length_map, List.length_reverse, List.length_map, List.length_singleton]
            exact Nat.le_of_lt (hl (by omega))
          · rw [mset_ne hft, mset_ne n1, mset_ne hft, efp]
          · rw [List.reverse_append, List.reverse_append, List.reverse_reverse, List.reverse_singleton, List.singleton_append, ev_open σ hv]
            exact hev
          · intro u hu
            rw [List.mem_append, List.mem_append, List.mem_reverse, List.mem_singleton] at hu
            rcases hu with (hu | rfl) | hu
            · exact hS' u hu
            · exact ht
            · obtain ⟨k, hk, rfl⟩ := List.mem_map.mp hu
              exact ⟨ht.1.kid hk, fun n hn => ht.2 n (vars_kid hk hn)⟩
          · rw [hw3]; omega
      · obtain ⟨n, hn⟩ := Option.ne_none_iff_exists'.mp hv
        have hlab : t.lab = .var n := by cases e : t.lab <;> rw [e] at hn <;> cases hn; rfl
        have hin := ht.2 n (vars_self hn)
        simp only [hlab, Lab.w, PW, Nat.reduceAdd, String.reduceEq, decide_true, decide_false, ite_true, ite_false, Bool.false_eq_true, if_true, if_false, true_and, and_true, Bool.not_true, Bool.not_false, List.length_cons, List.length_nil, reduceCtorEq, isLst_lst e2, pIx_v hlab, pIx_dk e3, nk_get _ n ns hin, pAppend_l e1, List.length_map]
        rw [ev_done σ (.inl (by rw [hn]; exact fun z => nomatch z)), sub_var σ hn] at hev
        refine ⟨hl (by omega), wts S, by omega, fp, tp, F ++ [σ n], S, _, _, _, _, _, rfl, (hle.upd htp).upd hfp, hfp, htp, hft, ?_, ?_, hev, hS', ?_, rfl⟩
        · rw [mset_same, List.map_append, List.map_singleton]
        · rw [mset_ne hft.symm, mset_same]
        · rw [List.length_append, List.length_singleton]; omega
abbrev s_numbered : Stmt := top 33
theorem sc_numbered : FnScope ["variables", "number", "variable"] ["variables"] (defScope s_numbered) := ⟨rfl, rfl, rfl, by decide +kernel, rfl, by decide +kernel, by decide +kernel⟩
def spNumb : Spc := fun ds μ q => ∃ ns : List Nat, ds = [natsD ns] ∧ ns.Nodup ∧ ns.length ≤ 1000 ∧ ∀ p, μ p = none → q (.ref p) (mset μ p (.dk (nk (fun n => (tv (idx ns n)).d) ns)))
theorem ok_numbered (A : At K mg "numbered" s_numbered ["variables"]) (B : Bi mg) : Has P w K mg base "numbered" ["variables"] 1 spNumb := by
  refine .mk A fun f fd F => ?_
  refine qfn F sc_numbered (by decide) ?len (fun cdv A outer s H E hr => (qss_one (qs_ret (qe_dc (own := [("number", 1), ("variable", 2)]) rfl sc_numbered.nd (qi_enumT (by rfl) B.enumerate (qa_cons (qv 0) qa_nil)) (blkOk_by (N := ["variables", "number", "variable"]) (sc := defScope s_numbered) (by decide +kernel)) (fun _ _ _ _ _ => (qgw_tup (n := 2) rfl (qgws_cons (qgw_name (i := 1) sc_numbered.nd rfl (Or.inl rfl)) (qgws_cons (qgw_name (i := 2) sc_numbered.nd rfl (Or.inl rfl)) qgws_nil)))) (fun _ _ _ _ _ => qts_nil) (fun _ _ _ _ _ => (qv 2)) (fun _ _ _ _ _ => (qe_tup (qa_cons qe_str (qa_cons (qv 1) qa_nil)))))))) ?body
  case len => rintro ds μ q ⟨_, rfl, _⟩; rfl
  case body =>
    rintro ds μ q ⟨ns, rfl, hd, hl, h⟩
    simp only [PW, Nat.reduceAdd, String.reduceEq, decide_true, decide_false, ite_true, ite_false, Bool.false_eq_true, if_true, if_false, true_and, and_true, Bool.not_true, Bool.not_false, List.length_cons, List.length_nil, reduceCtorEq]
    unfold pDc
    simp only [natsD, PW, Nat.reduceAdd, String.reduceEq, decide_true, decide_false, ite_true, ite_false, Bool.false_eq_true, if_true, if_false, true_and, and_true, Bool.not_true, Bool.not_false, List.length_cons, List.length_nil, reduceCtorEq]
    have hd2 : enumD (ns.map fun (n : Nat) => D.int (n : Int)) = ns.map fun (n : Nat) => D.tup [.int (idx ns n : Nat), .int (n : Int)] := by
      apply List.ext_getElem?
      intro i
      by_cases hi : i < ns.length
      · have e : ns[i]? = some ns[i] := List.getElem?_eq_getElem hi
        rw [enumD_get (d := .int (ns[i] : Nat)) (by rw [List.getElem?_map, e]; rfl), List.getElem?_map, e]
        show _ = some (D.tup [.int (idx ns ns[i] : Nat), .int (ns[i] : Nat)])
        rw [idx_at hd e]
      · rw [List.getElem?_eq_none (by rw [enumD_len, List.length_map]; omega), List.getElem?_eq_none (by rw [List.length_map]; omega)]
    rw [hd2, List.length_map]
    refine ⟨small300 (by omega), dc_fmap (f := fun x => match x with | .tup [.int i, .int n] => some (.inl n, .tup [.str "var", .int i]) | _ => none) True.intro (fun x hx ky kn h1 h2 => ?_) fun p hp => ?_⟩
    · obtain ⟨n, hn, rfl⟩ := List.mem_map.mp hx
      simp only [PW, Nat.reduceAdd, String.reduceEq, decide_true, decide_false, ite_true, ite_false, Bool.false_eq_true, if_true, if_false, true_and, and_true, Bool.not_true, Bool.not_false, List.length_cons, List.length_nil, reduceCtorEq]
      exact h1 _ rfl
    · have e : ((ns.map fun (n : Nat) => D.tup [.int (idx ns n : Nat), .int (n : Int)]).filterMap fun x => match x with | .tup [.int i, .int n] => some ((.inl n : Key), D.tup [.str "var", .int i]) | _ => none) = ns.map fun (n : Nat) => ((.inl (n : Int) : Key), (tv (idx ns n)).d) := by
        rw [List.filterMap_map, ← List.filterMap_eq_map]
        refine filterMap_congr' fun n _ => ?_
        show _ = some ((.inl (n : Int) : Key), (tv (idx ns n)).d)
        rw [d_var]
        rfl
      rw [e]
      have e2 := nk_fold (fun n => (tv (idx ns n)).d) ns []
      rw [foldA_self hd] at e2
      have e2 : (ns.map fun (n : Nat) => ((.inl (n : Int) : Key), (tv (idx ns n)).d)).foldl (fun a kv => putD a kv.1 kv.2) [] = nk (fun n => (tv (idx ns n)).d) ns := e2
      rw [e2]
      exact end_of (h p hp)
end
end Pl
namespace Pl
open PySem L2
/-! ### rows -/
structure Row where
  nm : Str
  ar : Nat
  asks : Option (List Nat)
  cons : Option (List (Str × Option Ty))
def optD : Option Ty → D
  | none => .non
  | some T => T.d
def pairC (x : Str × Option Ty) : D := .tup [.str x.1, optD x.2]
def asksD : Option (List Nat) → D
  | none => .non
  | some ns => natsD ns
def consD : Option (List (Str × Option Ty)) → D
  | none => .non
  | some cs => .tup (cs.map pairC)
def Row.d (r : Row) : D := .tup [.str r.nm, .int (r.ar : Nat), asksD r.asks, consD r.cons]
def lowB (kw : List D) (z : Str) : Bool := isLowD kw (.str z)
structure Row.Out (kw : List D) (r : Row) : Prop where
  nm : isLowD kw (.str r.nm) = true
  ar : r.ar ≤ 4
  asks : ∀ ns, r.asks = some ns → ns.length ≤ 4 ∧ ns.Pairwise (· < ·) ∧ ∀ n ∈ ns, n < r.ar
def CarOk (ars : List Nat) (k : Nat) (o : Option Ty) : Prop := ∀ T, o = some T → T.Ok ars ∧ T.sz ≤ 300 ∧ ∀ n ∈ T.vars, n < k
structure Row.In (ars : List Nat) (r : Row) : Prop where
  ok : ∀ cs, r.cons = some cs → cs ≠ [] ∧ cs.length ≤ 100 ∧ (cs.map (·.1)).Nodup ∧ ∀ c ∈ cs, isHighD (.str c.1) = true ∧ CarOk ars r.ar c.2
theorem lc_all {pg : PGx} {pt : PTx} {pe : PEx} {ss : SS} {ok : Mu → Prop} {q : List D → Mu → Prop} {μ : Mu} {xs : List D} (hok : ok μ)
    (hs : ∀ x ∈ xs, ∀ (ky : D → Mu → Prop) (kn : Mu → Prop), ky (.bl true) μ → lcStep pg pt pe ss x μ ky kn) (h : q (xs.map fun _ => .bl true) μ) : lcGo pg pt pe ss ok q xs [] μ := lc_map (fun _ => .bl true) hok hs h
theorem bls_tt {xs : List D} : blsOf (xs.map fun _ => D.bl true) = some (xs.map fun _ => true) := blsOf_mapf (g := fun _ => true)
theorem all_tt {xs : List D} : (xs.map fun _ => true).all id = true := by simp
theorem isNon_d (T : Ty) : isNon T.d = false := by
  rw [d_eta]
  cases T.lab <;> rfl
theorem ns_map (f : Ty → D) (k : Nat) : ∀ ts : List Ty, (∀ t ∈ ts, (f t).n ≤ k * t.sz) → D.ns (ts.map f) ≤ k * Ty.szs ts
  | [], _ => by rw [List.map_nil, ns_nil]; exact Nat.zero_le _
  | t :: r, h => by
    rw [List.map_cons, ns_cons, szs_cons, Nat.mul_add]
    have := h t List.mem_cons_self
    have := ns_map f k r fun u hu => h u (List.mem_cons_of_mem _ hu)
    omega
theorem n_d : ∀ (n : Nat) (T : Ty), T.sz ≤ n → T.d.n ≤ 4 * T.sz
  | 0, T, h => by have := sz_pos T; omega
  | n + 1, T, h => by
    have hs := T.sz_eq
    have hk := ns_map Ty.d 4 T.kids fun t ht => n_d n t (by have := kid_sz ht; omega)
    have n1 : ∀ z : Str, (D.str z).n = 1 := fun z => by rw [D.n]; intro ds e; cases e
    have n2 : ∀ z : Int, (D.int z).n = 1 := fun z => by rw [D.n]; intro ds e; cases e
    rw [d_eta]
    cases T.lab <;> simp only [Lab.d, n_tup, ns_cons, ns_nil, n1, n2] <;> omega
theorem n_d300 {T : Ty} (h : T.sz ≤ 300) : T.d.n ≤ sizeLine := Nat.le_trans (n_d _ T (Nat.le_refl _)) (small300 (by omega))
theorem kta_d {μ : Mu} : ∀ (n : Nat) (T : Ty), T.sz ≤ n → T.sz ≤ 300 → KtA μ T.d
  | 0, T, h, _ => by have := sz_pos T; omega
  | n + 1, T, h, h3 => by
    have hk : ∀ x ∈ T.kids.map Ty.d, KtA μ x := fun x hx => by
      obtain ⟨t, ht, rfl⟩ := List.mem_map.mp hx
      have := kid_sz ht
      exact kta_d n t (by omega) (by omega)
    have hl := kids_len T
    have ks : KtA μ (.tup (T.kids.map Ty.d)) := by
      unfold KtA
      exact ⟨by rw [List.length_map]; exact small300 (by omega), KtAs.of hk⟩
    have k1 : ∀ z : Str, KtA μ (.str z) := fun z => by unfold KtA; trivial
    have k2 : ∀ z : Int, KtA μ (.int z) := fun z => by unfold KtA; trivial
    rw [d_eta]
    have mk : ∀ ds : List D, ds.length ≤ 1000 → (∀ x ∈ ds, KtA μ x) → KtA μ (.tup ds) := fun ds h1 h2 => by
      unfold KtA
      exact ⟨small300 (by omega), KtAs.of h2⟩
    cases T.lab <;> simp only [Lab.d] <;> refine mk _ (by simp only [List.length_cons, List.length_nil, List.length_map]; omega) fun x hx => ?_
    all_goals simp only [List.mem_cons, List.not_mem_nil, or_false] at hx
    · rcases hx with rfl | rfl
      · exact k1 _
      · exact k2 _
    · rcases hx with rfl | hx
      · exact k1 _
      · exact hk x hx
    · rcases hx with rfl | rfl
      · exact k1 _
      · exact ks
    · rcases hx with rfl | rfl | rfl
      · exact k1 _
      · exact k2 _
      · exact ks
theorem sl1000 {n : Nat} (h : n ≤ 1000) : n ≤ sizeLine := small300 (by omega)
theorem short_word {z : Str} (h : isWordD (.str z) = true) : z.length ≤ sizeLine := by
  simp only [isWordD, Bool.and_eq_true, decide_eq_true_iff] at h
  exact sl1000 (by omega)
theorem short_low {kw : List D} {z : Str} (h : isLowD kw (.str z) = true) : z.length ≤ sizeLine := by
  simp only [isLowD, Bool.and_eq_true] at h
  exact short_word h.1
theorem short_high {z : Str} (h : isHighD (.str z) = true) : z.length ≤ sizeLine := by
  simp only [isHighD, Bool.and_eq_true] at h
  exact short_word h.1
theorem zip_lt : ∀ ns : List Nat, ns.Pairwise (· < ·) → ∀ x ∈ zipD (ns.map fun (n : Nat) => D.int (n : Int)) (cutD (ns.map fun (n : Nat) => D.int (n : Int)) (some 1) none), ∃ i j : Nat, i < j ∧ x = .tup [.int (i : Int), .int (j : Int)] := by
  intro ns hp
  cases ns with
  | nil => intro x hx; cases hx
  | cons a r =>
    rw [List.map_cons, cutD_1]
    induction r generalizing a with
    | nil => intro x hx; cases hx
    | cons b r ih =>
      intro x hx
      have h1 := List.pairwise_cons.mp hp
      rcases List.mem_cons.mp hx with rfl | hx
      · exact ⟨a, b, h1.1 b List.mem_cons_self, rfl⟩
      · exact ih b h1.2 x hx
theorem kt_int {μ : Mu} {i : Int} : Kt μ (.int i) := rfl
section
variable {P : Program} {w : World} {K : PySem.W.Frag} {mg : Str → Option Value} {base : Heap}
abbrev s_is_ascending : Stmt := top 6
theorem sc_is_ascending : FnScope ["value", "low", "high"] ["value"] (defScope s_is_ascending) := ⟨rfl, rfl, rfl, by decide +kernel, rfl, by decide +kernel, by decide +kernel⟩
def spAsc : Spc := fun ds μ q => ∃ ns : List Nat, ds = [natsD ns] ∧ ns.length ≤ 1000 ∧ ns.Pairwise (· < ·) ∧ (∀ n ∈ ns, (n : Int) < BEY) ∧ q (.bl true) μ
theorem ok_asc (A : At K mg "is_ascending" s_is_ascending ["value"]) (B : Bi mg) (D_is_place : Has P w K mg base "is_place" ["value"] 3 spPlace) : Has P w K mg base "is_ascending" ["value"] 4 spAsc := by
  refine .mk A fun f fd F => ?_
  refine qfn F sc_is_ascending (by decide) ?len (fun cdv A outer s H E hr => (qss_one (qs_ret (qe_and (qe_call D_is_place (hr.mono (by decide)) (qa_cons (qv 0) qa_nil)) (qe_one (qe_callB (qc_all rfl) (by rfl) B.all (by decide +kernel) (qa_cons (qe_lc (own := [("low", 1), ("high", 2)]) rfl sc_is_ascending.nd (qi_zip (by rfl) B.zip (qa_cons (qv 0) (qa_cons (qe_slice (qv 0) (qo_some qe_int) qo_none) qa_nil))) (blkOk_by (N := ["value", "low", "high"]) (sc := defScope s_is_ascending) (by decide +kernel)) (fun _ _ _ _ _ => (qgw_tup (n := 2) rfl (qgws_cons (qgw_name (i := 1) sc_is_ascending.nd rfl (Or.inl rfl)) (qgws_cons (qgw_name (i := 2) sc_is_ascending.nd rfl (Or.inl rfl)) qgws_nil)))) (fun _ _ _ _ _ => qts_nil) (fun _ _ _ _ _ => (qe_cmp qop_lt (qv 1) (qv 2) (nomark _)))) qa_nil))))))) ?body
  case len => rintro ds μ q ⟨_, rfl, _⟩; rfl
  case body =>
    rintro ds μ q ⟨ns, rfl, hl, hp, hb, h⟩
    simp only [natsD, PW, Nat.reduceAdd, String.reduceEq, decide_true, decide_false, ite_true, ite_false, Bool.false_eq_true, if_true, if_false, true_and, and_true, Bool.not_true, Bool.not_false, List.length_cons, List.length_nil, reduceCtorEq]
    have hpl : isPlaceD (.tup (ns.map fun (n : Nat) => D.int (n : Int))) = true := by
      show (ns.map fun (n : Nat) => D.int (n : Int)).all isWholeD = true
      rw [List.all_eq_true]
      intro x hx
      obtain ⟨n, hn, rfl⟩ := List.mem_map.mp hx
      rw [isWhole_nat]
      exact decide_eq_true (hb n hn)
    refine ⟨_, rfl, ⟨rfl, fun ds e => by cases e; exact ⟨by rw [List.length_map]; exact sl1000 hl, fun x hx => by obtain ⟨n, _, rfl⟩ := List.mem_map.mp hx; rfl⟩⟩, ?_⟩
    rw [hpl]
    simp only [PW, Nat.reduceAdd, String.reduceEq, decide_true, decide_false, ite_true, ite_false, Bool.false_eq_true, if_true, if_false, true_and, and_true, Bool.not_true, Bool.not_false, List.length_cons, List.length_nil, reduceCtorEq]
    have hz := zip_lt ns hp
    refine ⟨by rw [zipD_len, List.length_map]; exact sl1000 (Nat.le_trans (Nat.min_le_left _ _) hl), lc_all True.intro (fun x hx ky kn k => ?_) fun p hp2 => ?_⟩
    · obtain ⟨i, j, hij, rfl⟩ := hz x hx
      have e : decide ((i : Int) < (j : Int)) = true := by rw [decide_eq_true_iff]; omega
      simp only [lcStep, PW, Nat.reduceAdd, String.reduceEq, decide_true, decide_false, ite_true, ite_false, Bool.false_eq_true, if_true, if_false, true_and, and_true, Bool.not_true, Bool.not_false, List.length_cons, List.length_nil, reduceCtorEq, e]
      exact k
    · simp only [bls_tt, all_tt, PW, Nat.reduceAdd, String.reduceEq, decide_true, decide_false, ite_true, ite_false, Bool.false_eq_true, if_true, if_false, true_and, and_true, Bool.not_true, Bool.not_false, List.length_cons, List.length_nil, reduceCtorEq]
      exact ⟨_, .put hp2, h⟩
abbrev s_is_arity : Stmt := top 37
theorem sc_is_arity : FnScope ["value"] ["value"] (defScope s_is_arity) := ⟨rfl, rfl, rfl, by decide +kernel, rfl, by decide +kernel, by decide +kernel⟩
def spArity : Spc := fun ds μ q => ∃ n : Nat, ds = [.int (n : Int)] ∧ n ≤ 4 ∧ q (.bl true) μ
theorem ok_arity (A : At K mg "is_arity" s_is_arity ["value"]) (B : Bi mg) (T_MAX_ARITY : Cn K mg "MAX_ARITY" (.int 4)) (D_is_integer : Has P w K mg base "is_integer" ["value"] 1 spInt) : Has P w K mg base "is_arity" ["value"] 2 spArity := by
  refine .mk A fun f fd F => ?_
  refine qfn F sc_is_arity (by decide) ?len (fun cdv A outer s H E hr => (qss_one (qs_ret (qe_and (qe_call D_is_integer (hr.mono (by decide)) (qa_cons (qv 0) qa_nil)) (qe_one (qe_chain qop_le qop_le qe_int (qv 0) (qe_cn T_MAX_ARITY))))))) ?body
  case len => rintro ds μ q ⟨_, rfl, _⟩; rfl
  case body =>
    rintro ds μ q ⟨n, rfl, hn, h⟩
    simp only [PW, Nat.reduceAdd, String.reduceEq, decide_true, decide_false, ite_true, ite_false, Bool.false_eq_true, if_true, if_false, true_and, and_true, Bool.not_true, Bool.not_false, List.length_cons, List.length_nil, reduceCtorEq]
    refine ⟨_, rfl, rfl, ?_⟩
    have hb : isIntD (.int (n : Int)) = true := by
      have : (4 : Int) < BEY := by unfold BEY; decide
      simp only [isIntD, Bool.and_eq_true, decide_eq_true_iff]
      omega
    have e1 : decide ((0 : Int) ≤ (n : Int)) = true := by rw [decide_eq_true_iff]; omega
    have e2 : decide ((n : Int) ≤ 4) = true := by rw [decide_eq_true_iff]; omega
    simp only [hb, e1, e2, PW, Nat.reduceAdd, String.reduceEq, decide_true, decide_false, ite_true, ite_false, Bool.false_eq_true, if_true, if_false, true_and, and_true, Bool.not_true, Bool.not_false, List.length_cons, List.length_nil, reduceCtorEq]
    exact end_of h
abbrev s_is_carried : Stmt := top 38
theorem sc_is_carried : FnScope ["value", "arity", "arities", "number"] ["value", "arity", "arities"] (defScope s_is_carried) := ⟨rfl, rfl, rfl, by decide +kernel, rfl, by decide +kernel, by decide +kernel⟩
def spCar : Spc := fun ds μ q => ∃ (o : Option Ty) (k : Nat) (ars : List Nat), ds = [optD o, .int (k : Int), arD ars] ∧ CarOk ars k o ∧ ars.length ≤ 1000 ∧ q (.bl true) μ
theorem ok_car (A : At K mg "is_carried" s_is_carried ["value", "arity", "arities"]) (B : Bi mg) (D_is_shape : Has P w K mg base "is_shape" ["value", "arities"] 5 spShape) (D_variables_in : Has P w K mg base "variables_in" ["T"] 3 spVars) : Has P w K mg base "is_carried" ["value", "arity", "arities"] 6 spCar := by
  refine .mk A fun f fd F => ?_
  refine qfn F sc_is_carried (by decide) ?len (fun cdv A outer s H E hr => (qss_cons (qs_if (qt_cmp qop_is (qv 0) qe_non (nomark _)) (qss_one (qs_ret qe_bl)) qss_nil)
  (qss_one (qs_ret (qe_and (qe_call D_is_shape (hr.mono (by decide)) (qa_cons (qv 0) (qa_cons (qv 2) qa_nil))) (qe_one (qe_callB (qc_all rfl) (by rfl) B.all (by decide +kernel) (qa_cons (qe_lc (own := [("number", 3)]) rfl sc_is_carried.nd (qi_seq (qe_call D_variables_in (hr.mono (by decide)) (qa_cons (qv 0) qa_nil))) (blkOk_by (N := ["value", "arity", "arities", "number"]) (sc := defScope s_is_carried) (by decide +kernel)) (fun _ _ _ _ _ => (qgw_name (i := 3) sc_is_carried.nd rfl (Or.inl rfl))) (fun _ _ _ _ _ => qts_nil) (fun _ _ _ _ _ => (qe_cmp qop_lt (qv 3) (qv 1) (nomark _)))) qa_nil)))))))) ?body
  case len => rintro ds μ q ⟨_, _, _, rfl, _⟩; rfl
  case body =>
    rintro ds μ q ⟨o, kk, ars, rfl, hc, hl, h⟩
    cases o with
    | none => simp only [optD, PW, Nat.reduceAdd, String.reduceEq, decide_true, decide_false, ite_true, ite_false, Bool.false_eq_true, if_true, if_false, true_and, and_true, Bool.not_true, Bool.not_false, List.length_cons, List.length_nil, reduceCtorEq]; exact end_of h
    | some T =>
      simp only [optD, PW, Nat.reduceAdd, String.reduceEq, decide_true, decide_false, ite_true, ite_false, Bool.false_eq_true, if_true, if_false, true_and, and_true, Bool.not_true, Bool.not_false, List.length_cons, List.length_nil, reduceCtorEq]
      obtain ⟨h1, h2, h3⟩ := hc T rfl
      have hf := (ok_iff.mp h1).1
      simp only [isNon_d, PW, Nat.reduceAdd, String.reduceEq, decide_true, decide_false, ite_true, ite_false, Bool.false_eq_true, if_true, if_false, true_and, and_true, Bool.not_true, Bool.not_false, List.length_cons, List.length_nil, reduceCtorEq]
      refine ⟨T.d, ars, rfl, kta_d _ T (Nat.le_refl _) h2, n_d300 h2, sl1000 hl, fun b hb => ?_⟩
      have : b = true := hb.mpr ⟨T, rfl, h1, h2⟩
      subst this
      simp only [PW, Nat.reduceAdd, String.reduceEq, decide_true, decide_false, ite_true, ite_false, Bool.false_eq_true, if_true, if_false, true_and, and_true, Bool.not_true, Bool.not_false, List.length_cons, List.length_nil, reduceCtorEq]
      refine ⟨T, rfl, hf, by omega, ?_⟩
      simp only [natsD, PW, Nat.reduceAdd, String.reduceEq, decide_true, decide_false, ite_true, ite_false, Bool.false_eq_true, if_true, if_false, true_and, and_true, Bool.not_true, Bool.not_false, List.length_cons, List.length_nil, reduceCtorEq]
      refine ⟨by rw [List.length_map]; exact sl1000 (Nat.le_trans (ord_len T) (by omega)), lc_all True.intro (fun x hx ky kn k => ?_) fun p hp => ?_⟩
      · obtain ⟨n, hn, rfl⟩ := List.mem_map.mp hx
        have := h3 n ((ord_mem hf.leafy n).mp hn)
        have e : decide ((n : Int) < (kk : Int)) = true := by rw [decide_eq_true_iff]; omega
        simp only [lcStep, PW, Nat.reduceAdd, String.reduceEq, decide_true, decide_false, ite_true, ite_false, Bool.false_eq_true, if_true, if_false, true_and, and_true, Bool.not_true, Bool.not_false, List.length_cons, List.length_nil, reduceCtorEq, e]
        exact k
      · simp only [bls_tt, all_tt, PW, Nat.reduceAdd, String.reduceEq, decide_true, decide_false, ite_true, ite_false, Bool.false_eq_true, if_true, if_false, true_and, and_true, Bool.not_true, Bool.not_false, List.length_cons, List.length_nil, reduceCtorEq]
        exact ⟨_, .put hp, h⟩
abbrev s__is_outline : Stmt := top 39
theorem sc__is_outline : FnScope ["value", "asks", "number"] ["value"] (defScope s__is_outline) := ⟨rfl, rfl, rfl, by decide +kernel, rfl, by decide +kernel, by decide +kernel⟩
def spOut (kw : List D) : Spc := fun ds μ q => ∃ r : Row, ds = [r.d] ∧ r.Out kw ∧ q (.bl true) μ
theorem ok_out {kw : List D} (A : At K mg "_is_outline" s__is_outline ["value"]) (B : Bi mg) (D_is_low : Has P w K mg base "is_low" ["value"] 2 (spLow kw)) (D_is_arity : Has P w K mg base "is_arity" ["value"] 2 spArity) (D_is_ascending : Has P w K mg base "is_ascending" ["value"] 4 spAsc) : Has P w K mg base "_is_outline" ["value"] 5 (spOut kw) := by
  refine .mk A fun f fd F => ?_
  refine qfn F sc__is_outline (by decide) ?len (fun cdv A outer s H E hr => (qss_cons (qs_if (QW.qt (qw_or (qt_not (qt_val (qe_callB qc_isi (by rfl) B.isinstance (by decide +kernel) (qa_cons (qv 0) (qa_cons (qe_bltn (n := "tuple") rfl B.tuple (by decide +kernel)) qa_nil))))) (qw_or (qt_cmp (qop_ne hr.units) (qe_callB qc_len (by rfl) B.len (by decide +kernel) (qa_cons (qv 0) qa_nil)) qe_int (nomark _)) (qw_or (qt_not (qt_val (qe_call D_is_low (hr.mono (by decide)) (qa_cons (qe_ix (qix (hu_of hr)) (qv 0) qe_int) qa_nil)))) (qw_or1 (qt_not (qt_val (qe_call D_is_arity (hr.mono (by decide)) (qa_cons (qe_ix (qix (hu_of hr)) (qv 0) qe_int) qa_nil))))))))) (qss_one (qs_ret qe_bl)) qss_nil)
  (qss_cons (qs_set (i := 1) sc__is_outline.nd rfl (Or.inl rfl) (qe_ix (qix (hu_of hr)) (qv 0) qe_int))
  (qss_one (qs_ret (qe_or (qe_cmp qop_is (qv 1) qe_non (nomark _)) (qe_one (qe_and (qe_call D_is_ascending (hr.mono (by decide)) (qa_cons (qv 1) qa_nil)) (qe_one (qe_callB (qc_all rfl) (by rfl) B.all (by decide +kernel) (qa_cons (qe_lc (own := [("number", 2)]) rfl sc__is_outline.nd (qi_seq (qv 1)) (blkOk_by (N := ["value", "asks", "number"]) (sc := defScope s__is_outline) (by decide +kernel)) (fun _ _ _ _ _ => (qgw_name (i := 2) sc__is_outline.nd rfl (Or.inl rfl))) (fun _ _ _ _ _ => qts_nil) (fun _ _ _ _ _ => (qe_cmp qop_lt (qv 2) (qe_ix (qix (hu_of hr)) (qv 0) qe_int) (nomark _)))) qa_nil))))))))))) ?body
  case len => rintro ds μ q ⟨_, rfl, _⟩; rfl
  case body =>
    rintro ds μ q ⟨r, rfl, hr, h⟩
    simp only [Row.d, PW, Nat.reduceAdd, String.reduceEq, decide_true, decide_false, ite_true, ite_false, Bool.false_eq_true, if_true, if_false, true_and, and_true, Bool.not_true, Bool.not_false, List.length_cons, List.length_nil, reduceCtorEq]
    simp only [KIT, PW, Nat.reduceAdd, String.reduceEq, decide_true, decide_false, ite_true, ite_false, Bool.false_eq_true, if_true, if_false, true_and, and_true, Bool.not_true, Bool.not_false, List.length_cons, List.length_nil, reduceCtorEq, show decide (((4 : Nat) : Int) = 4) = true from rfl]
    refine ⟨_, rfl, rfl, fun z e => by cases e; exact short_low hr.nm, ?_⟩
    simp only [hr.nm, PW, Nat.reduceAdd, String.reduceEq, decide_true, decide_false, ite_true, ite_false, Bool.false_eq_true, if_true, if_false, true_and, and_true, Bool.not_true, Bool.not_false, List.length_cons, List.length_nil, reduceCtorEq]
    refine ⟨r.ar, rfl, hr.ar, ?_⟩
    simp only [PW, Nat.reduceAdd, String.reduceEq, decide_true, decide_false, ite_true, ite_false, Bool.false_eq_true, if_true, if_false, true_and, and_true, Bool.not_true, Bool.not_false, List.length_cons, List.length_nil, reduceCtorEq]
    cases ha : r.asks with
    | none => simp only [asksD, PW, Nat.reduceAdd, String.reduceEq, decide_true, decide_false, ite_true, ite_false, Bool.false_eq_true, if_true, if_false, true_and, and_true, Bool.not_true, Bool.not_false, List.length_cons, List.length_nil, reduceCtorEq]; exact end_of h
    | some ns =>
      obtain ⟨h1, h2, h3⟩ := hr.asks ns ha
      have h4 := hr.ar
      simp only [asksD, natsD, PW, Nat.reduceAdd, String.reduceEq, decide_true, decide_false, ite_true, ite_false, Bool.false_eq_true, if_true, if_false, true_and, and_true, Bool.not_true, Bool.not_false, List.length_cons, List.length_nil, reduceCtorEq]
      refine ⟨ns, rfl, by omega, h2, fun n hn => Int.lt_trans (Int.lt_of_lt_of_le (by have := h3 n hn; omega : (n : Int) < 4) (Int.le_refl _)) (by unfold BEY; decide), ?_⟩
      simp only [PW, Nat.reduceAdd, String.reduceEq, decide_true, decide_false, ite_true, ite_false, Bool.false_eq_true, if_true, if_false, true_and, and_true, Bool.not_true, Bool.not_false, List.length_cons, List.length_nil, reduceCtorEq]
      refine ⟨by rw [List.length_map]; exact sl1000 (by omega), lc_all True.intro (fun x hx ky kn k => ?_) fun p hp => ?_⟩
      · obtain ⟨n, hn, rfl⟩ := List.mem_map.mp hx
        have := h3 n hn
        have e : decide ((n : Int) < (r.ar : Int)) = true := by rw [decide_eq_true_iff]; omega
        simp only [lcStep, PW, Nat.reduceAdd, String.reduceEq, decide_true, decide_false, ite_true, ite_false, Bool.false_eq_true, if_true, if_false, true_and, and_true, Bool.not_true, Bool.not_false, List.length_cons, List.length_nil, reduceCtorEq, e]
        exact k
      · simp only [bls_tt, all_tt, PW, Nat.reduceAdd, String.reduceEq, decide_true, decide_false, ite_true, ite_false, Bool.false_eq_true, if_true, if_false, true_and, and_true, Bool.not_true, Bool.not_false, List.length_cons, List.length_nil, reduceCtorEq]
        exact ⟨_, .put hp, h⟩
abbrev s_are_constructors : Stmt := top 40
theorem sc_are_constructors : FnScope ["value", "arity", "arities", "pair", "names"] ["value", "arity", "arities"] (defScope s_are_constructors) := ⟨rfl, rfl, rfl, by decide +kernel, rfl, by decide +kernel, by decide +kernel⟩
def spCons : Spc := fun ds μ q => ∃ (cs : List (Str × Option Ty)) (k : Nat) (ars : List Nat), ds = [.tup (cs.map pairC), .int (k : Int), arD ars] ∧ cs ≠ [] ∧ cs.length ≤ 100 ∧ (cs.map (·.1)).Nodup ∧ (∀ c ∈ cs, isHighD (.str c.1) = true ∧ CarOk ars k c.2) ∧ ars.length ≤ 1000 ∧ q (.bl true) μ
theorem ok_cons (A : At K mg "are_constructors" s_are_constructors ["value", "arity", "arities"]) (B : Bi mg) (D_is_high : Has P w K mg base "is_high" ["value"] 2 spHigh) (D_is_carried : Has P w K mg base "is_carried" ["value", "arity", "arities"] 6 spCar) : Has P w K mg base "are_constructors" ["value", "arity", "arities"] 7 spCons := by
  refine .mk A fun f fd F => ?_
  refine qfn F sc_are_constructors (by decide) ?len (fun cdv A outer s H E hr => (qss_cons (qs_if (QW.qt (qw_or (qt_not (qt_val (qe_callB qc_isi (by rfl) B.isinstance (by decide +kernel) (qa_cons (qv 0) (qa_cons (qe_bltn (n := "tuple") rfl B.tuple (by decide +kernel)) qa_nil))))) (qw_or1 (qt_cmp (qop_eq hr.units) (qe_callB qc_len (by rfl) B.len (by decide +kernel) (qa_cons (qv 0) qa_nil)) qe_int (nomark _))))) (qss_one (qs_ret qe_bl)) qss_nil)
  (qss_cons (qs_if (qt_not (qt_val (qe_callB (qc_all rfl) (by rfl) B.all (by decide +kernel) (qa_cons (qe_lc (own := [("pair", 3)]) rfl sc_are_constructors.nd (qi_seq (qv 0)) (blkOk_by (N := ["value", "arity", "arities", "pair", "names"]) (sc := defScope s_are_constructors) (by decide +kernel)) (fun _ _ _ _ _ => (qgw_name (i := 3) sc_are_constructors.nd rfl (Or.inl rfl))) (fun _ _ _ _ _ => qts_nil) (fun _ _ _ _ _ => (qe_and (qe_callB qc_isi (by rfl) B.isinstance (by decide +kernel) (qa_cons (qv 3) (qa_cons (qe_bltn (n := "tuple") rfl B.tuple (by decide +kernel)) qa_nil))) (qe_and (qe_cmp (qop_eq hr.units) (qe_callB qc_len (by rfl) B.len (by decide +kernel) (qa_cons (qv 3) qa_nil)) qe_int (nomark _)) (qe_one (qe_call D_is_high (hr.mono (by decide)) (qa_cons (qe_ix (qix (hu_of hr)) (qv 3) qe_int) qa_nil))))))) qa_nil)))) (qss_one (qs_ret qe_bl)) qss_nil)
  (qss_cons (qs_setLc (i := 4) (own := [("pair", 3)]) rfl sc_are_constructors.nd rfl rfl (sw_true rfl rfl rfl (by decide +kernel)) (qi_seq (qv 0)) (blkOk_by (N := ["value", "arity", "arities", "pair", "names"]) (sc := defScope s_are_constructors) (by decide +kernel)) (fun _ _ _ _ _ => (qgw_name (i := 3) sc_are_constructors.nd rfl (Or.inl rfl))) (fun _ _ _ _ _ => qts_nil) (fun _ _ _ _ _ => (qe_ix (qix (hu_of hr)) (qv 3) qe_int)))
  (qss_one (qs_ret (qe_and (qe_cmp (qop_eq hr.units) (qe_lenSet (by rfl) B.len (by rfl) B.set (qv 4)) (qe_callB qc_len (by rfl) B.len (by decide +kernel) (qa_cons (qv 4) qa_nil)) (nomark _)) (qe_one (qe_callB (qc_all rfl) (by rfl) B.all (by decide +kernel) (qa_cons (qe_lc (own := [("pair", 3)]) rfl sc_are_constructors.nd (qi_seq (qv 0)) (blkOk_by (N := ["value", "arity", "arities", "pair", "names"]) (sc := defScope s_are_constructors) (by decide +kernel)) (fun _ _ _ _ _ => (qgw_name (i := 3) sc_are_constructors.nd rfl (Or.inl rfl))) (fun _ _ _ _ _ => qts_nil) (fun _ _ _ _ _ => (qe_call D_is_carried (hr.mono (by decide)) (qa_cons (qe_ix (qix (hu_of hr)) (qv 3) qe_int) (qa_cons (qv 1) (qa_cons (qv 2) qa_nil)))))) qa_nil)))))))))) ?body
  case len => rintro ds μ q ⟨_, _, _, rfl, _⟩; rfl
  case body =>
    rintro ds μ q ⟨cs, k, ars, rfl, hne, hl, hd, hc, hla, h⟩
    simp only [PW, Nat.reduceAdd, String.reduceEq, decide_true, decide_false, ite_true, ite_false, Bool.false_eq_true, if_true, if_false, true_and, and_true, Bool.not_true, Bool.not_false, List.length_cons, List.length_nil, reduceCtorEq]
    have e0 : decide (((cs.map pairC).length : Int) = 0) = false := by
      rw [decide_eq_false_iff_not, List.length_map]
      have := List.length_pos_iff.mpr hne
      omega
    simp only [KIT, e0, PW, Nat.reduceAdd, String.reduceEq, decide_true, decide_false, ite_true, ite_false, Bool.false_eq_true, if_true, if_false, true_and, and_true, Bool.not_true, Bool.not_false, List.length_cons, List.length_nil, reduceCtorEq]
    refine ⟨by rw [List.length_map]; exact sl1000 (by omega), lc_all True.intro (fun x hx ky kn kk => ?_) fun p hp => ?_⟩
    · obtain ⟨c, hc1, rfl⟩ := List.mem_map.mp hx
      simp only [lcStep, pairC, KIT, PW, Nat.reduceAdd, String.reduceEq, decide_true, decide_false, ite_true, ite_false, Bool.false_eq_true, if_true, if_false, true_and, and_true, Bool.not_true, Bool.not_false, List.length_cons, List.length_nil, reduceCtorEq, show decide (((2 : Nat) : Int) = 2) = true from rfl]
      refine ⟨_, rfl, rfl, fun z e => by cases e; exact short_high (hc c hc1).1, ?_⟩
      rw [(hc c hc1).1]
      exact kk
    simp only [bls_tt, all_tt, PW, Nat.reduceAdd, String.reduceEq, decide_true, decide_false, ite_true, ite_false, Bool.false_eq_true, if_true, if_false, true_and, and_true, Bool.not_true, Bool.not_false, List.length_cons, List.length_nil, reduceCtorEq]
    refine ⟨by rw [List.length_map]; exact sl1000 (by omega), lc_map (fun x => match x with | .tup [y, _] => y | _ => .non) True.intro (fun x hx ky kn kk => ?_) fun p2 hp2 => ?_⟩
    · obtain ⟨c, hc1, rfl⟩ := List.mem_map.mp hx
      simp only [lcStep, pairC, PW, Nat.reduceAdd, String.reduceEq, decide_true, decide_false, ite_true, ite_false, Bool.false_eq_true, if_true, if_false, true_and, and_true, Bool.not_true, Bool.not_false, List.length_cons, List.length_nil, reduceCtorEq]
      exact kk
    have en : (cs.map pairC).map (fun x => match x with | .tup [y, _] => y | _ => D.non) = (cs.map (·.1)).map D.str := by
      rw [List.map_map, List.map_map]
      rfl
    rw [en]
    unfold pLenSet
    simp only [rdl_same, lenD_same, PW, Nat.reduceAdd, String.reduceEq, decide_true, decide_false, ite_true, ite_false, Bool.false_eq_true, if_true, if_false, true_and, and_true, Bool.not_true, Bool.not_false, List.length_cons, List.length_nil, reduceCtorEq]
    refine ⟨cs.map (·.1), rfl, hd, by rw [List.length_map]; exact hl, ?_⟩
    simp only [List.length_map, PW, Nat.reduceAdd, String.reduceEq, decide_true, decide_false, ite_true, ite_false, Bool.false_eq_true, if_true, if_false, true_and, and_true, Bool.not_true, Bool.not_false, List.length_cons, List.length_nil, reduceCtorEq]
    refine ⟨sl1000 (by omega), lc_all True.intro (fun x hx ky kn kk => ?_) fun p3 hp3 => ?_⟩
    · obtain ⟨c, hc1, rfl⟩ := List.mem_map.mp hx
      simp only [lcStep, pairC, PW, Nat.reduceAdd, String.reduceEq, decide_true, decide_false, ite_true, ite_false, Bool.false_eq_true, if_true, if_false, true_and, and_true, Bool.not_true, Bool.not_false, List.length_cons, List.length_nil, reduceCtorEq]
      exact ⟨c.2, k, ars, rfl, (hc c hc1).2, hla, kk⟩
    simp only [bls_tt, all_tt, PW, Nat.reduceAdd, String.reduceEq, decide_true, decide_false, ite_true, ite_false, Bool.false_eq_true, if_true, if_false, true_and, and_true, Bool.not_true, Bool.not_false, List.length_cons, List.length_nil, reduceCtorEq]
    exact ⟨_, ((Mle.put hp).trans (.put hp2)).trans (.put hp3), h⟩
end
end Pl
namespace Pl
open PySem L2
/-! ### books -/
structure Bk (K : PySem.W.Frag) (mg : Str → Option Value) (C : Addr) : Prop where
  cl : Cls K C
  na__rows : NoAttr K C "_rows"
  na_arities : NoAttr K C "arities"
  is : IsO K C
  ne : NeO K C
  nm : Cn K mg "Book" (.ref C)
def rowsD (rs : List Row) : D := .tup (rs.map Row.d)
def arsD (rs : List Row) : D := .tup (rs.map fun r => .int (r.ar : Nat))
def bookO (C dx : Addr) (rs : List Row) : MO := .ins C dx [("_rows", rowsD rs), ("arities", arsD rs)]
def IsBook (C : Addr) (μ : Mu) (b : Addr) (rs : List Row) : Prop := ∃ dx, μ b = some (bookO C dx rs)
def firstRows : List Row := [⟨"int", 0, some [], none⟩, ⟨"string", 0, some [], none⟩, ⟨"bool", 0, some [], some [("True", none), ("False", none)]⟩, ⟨"exn", 0, none, none⟩,
  ⟨"list", 1, some [0], some [("Nil", none), ("Cons", some (.node .tup [tv 0, .node (.made 5) [tv 0]]))]⟩, ⟨"ref", 1, some [], none⟩]
theorem lk_rows {x y : D} : ([("_rows", x), ("arities", y)] : List (Str × D)).lookup ("_rows" : Str) = some x := rfl
theorem lk_ars {x y : D} : ([("_rows", x), ("arities", y)] : List (Str × D)).lookup ("arities" : Str) = some y := rfl
theorem lk_off_row {x y : D} : ([("_rows", x), ("arities", y)] : List (Str × D)).lookup ("_row" : Str) = none := rfl
theorem lk_off_ext {x y : D} : ([("_rows", x), ("arities", y)] : List (Str × D)).lookup ("_extended" : Str) = none := rfl
theorem putF_rows {x y z : D} : putFD "_rows" z [("_rows", x), ("arities", y)] = ([("_rows", z), ("arities", y)] : List (Str × D)) := rfl
theorem putF_ars {x y z : D} : putFD "arities" z [("_rows", x), ("arities", y)] = ([("_rows", x), ("arities", z)] : List (Str × D)) := rfl
theorem arsD_ar (rs : List Row) : arsD rs = arD (rs.map Row.ar) := by
  unfold arsD arD
  rw [List.map_map]
  rfl
section
variable {P : Program} {w : World} {K : PySem.W.Frag} {mg : Str → Option Value} {base : Heap} {C : Addr}
abbrev s_Book___init__ : Stmt := inClass (top 41) 0
theorem sc_Book___init__ : FnScope ["self", "row"] ["self"] (defScope s_Book___init__) := ⟨rfl, rfl, rfl, by decide +kernel, rfl, by decide +kernel, by decide +kernel⟩
def spInit (C : Addr) : Spc := fun ds μ q => ∃ a dx, ds = [.ref a] ∧ μ a = some (.ins C dx []) ∧ q .non (mset μ a (bookO C dx firstRows))
theorem ok_init (A : AtM K C "__init__" "Book.__init__" s_Book___init__ ["self"]) (B : Bi mg) (T : Bk K mg C) (T_FIRST_ROWS : Cn K mg "FIRST_ROWS" (rowsD firstRows)) : HasM P w K mg base C "__init__" ["self"] 1 (spInit C) := by
  refine HasM.mk A fun f fd F => ?_
  refine qfn F sc_Book___init__ (by decide) ?len (fun cdv A outer s H E hr => (qss_cons (qs_fld ⟨T.cl, T.na__rows⟩ (qv 0) (qe_cn T_FIRST_ROWS))
  (qss_one (qs_fld ⟨T.cl, T.na_arities⟩ (qv 0) (qe_callTy (qc_tuple rfl) (by rfl) B.tuple (by decide +kernel) (qa_cons (qe_lc (own := [("row", 1)]) rfl sc_Book___init__.nd (qi_seq (qe_cn T_FIRST_ROWS)) (blkOk_by (N := ["self", "row"]) (sc := defScope s_Book___init__) (by decide +kernel)) (fun _ _ _ _ _ => (qgw_name (i := 1) sc_Book___init__.nd rfl (Or.inl rfl))) (fun _ _ _ _ _ => qts_nil) (fun _ _ _ _ _ => (qe_ix (qix (hu_of hr)) (qv 1) qe_int))) qa_nil)))))) ?body
  case len => rintro ds μ q ⟨_, _, rfl, _⟩; rfl
  case body =>
    rintro ds μ q ⟨a, dx, rfl, ha, h⟩
    simp only [rowsD, PW, Nat.reduceAdd, String.reduceEq, decide_true, decide_false, ite_true, ite_false, Bool.false_eq_true, if_true, if_false, true_and, and_true, Bool.not_true, Bool.not_false, List.length_cons, List.length_nil, reduceCtorEq, onIns_ref ha]
    refine ⟨by decide, by rw [List.length_map]; exact sl1000 (by decide), lc_map (fun x => match x with | .tup [_, k, _, _] => k | _ => .non) True.intro (fun x hx ky kn k => ?_) fun p hp => ?_⟩
    · obtain ⟨r, hr, rfl⟩ := List.mem_map.mp hx
      simp only [lcStep, Row.d, PW, Nat.reduceAdd, String.reduceEq, decide_true, decide_false, ite_true, ite_false, Bool.false_eq_true, if_true, if_false, true_and, and_true, Bool.not_true, Bool.not_false, List.length_cons, List.length_nil, reduceCtorEq]
      exact k
    have hpa : a ≠ p := ne_free mset_same hp
    rw [onIns_ref (by rw [mset_ne hpa, mset_same])]
    refine ⟨by decide, mset μ a (bookO C dx firstRows), ?_, h⟩
    rw [List.map_map, mset_comm hpa.symm, mset_mset]
    exact .put (by rw [mset_ne hpa.symm]; rw [mset_ne hpa.symm] at hp; exact hp)
abbrev s_Book__row : Stmt := inClass (top 41) 1
theorem sc_Book__row : FnScope ["self", "stamp"] ["self", "stamp"] (defScope s_Book__row) := ⟨rfl, rfl, rfl, by decide +kernel, rfl, by decide +kernel, by decide +kernel⟩
def spRow (C : Addr) : Spc := fun ds μ q => ∃ (a : Addr) (rs : List Row) (i : Nat) (r : Row), ds = [.ref a, .int ((i + 1 : Nat) : Int)] ∧ IsBook C μ a rs ∧ rs.length ≤ 1000 ∧ rs[i]? = some r ∧ q r.d μ
theorem ok_row (A : AtM K C "_row" "Book._row" s_Book__row ["self", "stamp"]) (B : Bi mg) (T : Bk K mg C) (D_is_integer : Has P w K mg base "is_integer" ["value"] 1 spInt) : HasM P w K mg base C "_row" ["self", "stamp"] 2 (spRow C) := by
  refine HasM.mk A fun f fd F => ?_
  refine qfn F sc_Book__row (by decide) ?len (fun cdv A outer s H E hr => (qss_cons (qs_if (QW.qt (qw_or (qt_not (qt_val (qe_call D_is_integer (hr.mono (by decide)) (qa_cons (qv 1) qa_nil)))) (qw_or1 (qt_not (qt_chain qop_le qop_le qe_int (qv 1) (qe_callB qc_len (by rfl) B.len (by decide +kernel) (qa_cons (qe_fld ⟨T.cl, T.na__rows⟩ (qv 0)) qa_nil))))))) (qss_one qs_never) qss_nil)
  (qss_one (qs_ret (qe_ix (qix (hu_of hr)) (qe_fld ⟨T.cl, T.na__rows⟩ (qv 0)) (qe_op qop_sub (qv 1) qe_int)))))) ?body
  case len => rintro ds μ q ⟨_, _, _, _, rfl, _⟩; rfl
  case body =>
    rintro ds μ q ⟨a, rs, i, r, rfl, ⟨dx, ha⟩, hl, hr, h⟩
    simp only [PW, Nat.reduceAdd, String.reduceEq, decide_true, decide_false, ite_true, ite_false, Bool.false_eq_true, if_true, if_false, true_and, and_true, Bool.not_true, Bool.not_false, List.length_cons, List.length_nil, reduceCtorEq]
    refine ⟨_, rfl, rfl, ?_⟩
    have hi := lt_of_get hr
    have hb : isIntD (.int ((i + 1 : Nat) : Int)) = true := by
      have : (2000 : Int) < BEY := by unfold BEY; decide
      simp only [isIntD, Bool.and_eq_true, decide_eq_true_iff]
      omega
    have e1 : decide ((1 : Int) ≤ ((i + 1 : Nat) : Int)) = true := by rw [decide_eq_true_iff]; omega
    have e2 : decide (((i + 1 : Nat) : Int) ≤ (rs.length : Int)) = true := by rw [decide_eq_true_iff]; omega
    have e3 : atI (rs.map Row.d) (((i + 1 : Nat) : Int) - 1) = some r.d := by
      rw [show (((i + 1 : Nat) : Int) - 1) = (i : Int) by omega]
      exact atI_nat (by rw [List.getElem?_map, hr]; rfl)
    simp only [hb, e1, onIns_ref ha, lk_rows, PW, Nat.reduceAdd, String.reduceEq, decide_true, decide_false, ite_true, ite_false, Bool.false_eq_true, if_true, if_false, true_and, and_true, Bool.not_true, Bool.not_false, List.length_cons, List.length_nil, reduceCtorEq]
    simp only [rowsD, List.length_map, e2, e3, PW, Nat.reduceAdd, String.reduceEq, decide_true, decide_false, ite_true, ite_false, Bool.false_eq_true, if_true, if_false, true_and, and_true, Bool.not_true, Bool.not_false, List.length_cons, List.length_nil, reduceCtorEq]
    exact end_of h
def f_printed (r : Row) : D := .str r.nm
abbrev s_Book_printed : Stmt := inClass (top 41) 2
theorem sc_Book_printed : FnScope ["self", "stamp"] ["self", "stamp"] (defScope s_Book_printed) := ⟨rfl, rfl, rfl, by decide +kernel, rfl, by decide +kernel, by decide +kernel⟩
def spPrinted (C : Addr) (f : Row → D) : Spc := fun ds μ q => ∃ (a : Addr) (rs : List Row) (i : Nat) (r : Row), ds = [.ref a, .int ((i + 1 : Nat) : Int)] ∧ IsBook C μ a rs ∧ rs.length ≤ 1000 ∧ rs[i]? = some r ∧ q (f r) μ
theorem okb_printed (A : AtM K C "printed" "Book.printed" s_Book_printed ["self", "stamp"]) (T : Bk K mg C) (DM__row : HasM P w K mg base C "_row" ["self", "stamp"] 2 (spRow C)) : HasM P w K mg base C "printed" ["self", "stamp"] 3 (spPrinted C f_printed) := by
  refine HasM.mk A fun f fd F => ?_
  refine qfn F sc_Book_printed (by decide) ?len (fun cdv A outer s H E hr => (qss_one (qs_ret (qe_ix (qix (hu_of hr)) (qe_meth T.cl (qv 0) DM__row (hr.mono (by decide)) (qa_cons (qv 1) qa_nil)) qe_int)))) ?body
  case len => rintro ds μ q ⟨_, _, _, _, rfl, _⟩; rfl
  case body =>
    rintro ds μ q ⟨a, rs, i, r, rfl, ⟨dx, ha⟩, hl, hr, h⟩
    simp only [PW, Nat.reduceAdd, String.reduceEq, decide_true, decide_false, ite_true, ite_false, Bool.false_eq_true, if_true, if_false, true_and, and_true, Bool.not_true, Bool.not_false, List.length_cons, List.length_nil, reduceCtorEq, onIns_ref ha]
    refine ⟨lk_off_row, a, rs, i, r, rfl, ⟨dx, ha⟩, hl, hr, ?_⟩
    simp only [Row.d, PW, Nat.reduceAdd, String.reduceEq, decide_true, decide_false, ite_true, ite_false, Bool.false_eq_true, if_true, if_false, true_and, and_true, Bool.not_true, Bool.not_false, List.length_cons, List.length_nil, reduceCtorEq]
    exact end_of h
def f_arity (r : Row) : D := .int (r.ar : Nat)
abbrev s_Book_arity : Stmt := inClass (top 41) 3
theorem sc_Book_arity : FnScope ["self", "stamp"] ["self", "stamp"] (defScope s_Book_arity) := ⟨rfl, rfl, rfl, by decide +kernel, rfl, by decide +kernel, by decide +kernel⟩
theorem okb_arity (A : AtM K C "arity" "Book.arity" s_Book_arity ["self", "stamp"]) (T : Bk K mg C) (DM__row : HasM P w K mg base C "_row" ["self", "stamp"] 2 (spRow C)) : HasM P w K mg base C "arity" ["self", "stamp"] 3 (spPrinted C f_arity) := by
  refine HasM.mk A fun f fd F => ?_
  refine qfn F sc_Book_arity (by decide) ?len (fun cdv A outer s H E hr => (qss_one (qs_ret (qe_ix (qix (hu_of hr)) (qe_meth T.cl (qv 0) DM__row (hr.mono (by decide)) (qa_cons (qv 1) qa_nil)) qe_int)))) ?body
  case len => rintro ds μ q ⟨_, _, _, _, rfl, _⟩; rfl
  case body =>
    rintro ds μ q ⟨a, rs, i, r, rfl, ⟨dx, ha⟩, hl, hr, h⟩
    simp only [PW, Nat.reduceAdd, String.reduceEq, decide_true, decide_false, ite_true, ite_false, Bool.false_eq_true, if_true, if_false, true_and, and_true, Bool.not_true, Bool.not_false, List.length_cons, List.length_nil, reduceCtorEq, onIns_ref ha]
    refine ⟨lk_off_row, a, rs, i, r, rfl, ⟨dx, ha⟩, hl, hr, ?_⟩
    simp only [Row.d, PW, Nat.reduceAdd, String.reduceEq, decide_true, decide_false, ite_true, ite_false, Bool.false_eq_true, if_true, if_false, true_and, and_true, Bool.not_true, Bool.not_false, List.length_cons, List.length_nil, reduceCtorEq]
    exact end_of h
def f_asks (r : Row) : D := asksD r.asks
abbrev s_Book_asks : Stmt := inClass (top 41) 4
theorem sc_Book_asks : FnScope ["self", "stamp"] ["self", "stamp"] (defScope s_Book_asks) := ⟨rfl, rfl, rfl, by decide +kernel, rfl, by decide +kernel, by decide +kernel⟩
theorem okb_asks (A : AtM K C "asks" "Book.asks" s_Book_asks ["self", "stamp"]) (T : Bk K mg C) (DM__row : HasM P w K mg base C "_row" ["self", "stamp"] 2 (spRow C)) : HasM P w K mg base C "asks" ["self", "stamp"] 3 (spPrinted C f_asks) := by
  refine HasM.mk A fun f fd F => ?_
  refine qfn F sc_Book_asks (by decide) ?len (fun cdv A outer s H E hr => (qss_one (qs_ret (qe_ix (qix (hu_of hr)) (qe_meth T.cl (qv 0) DM__row (hr.mono (by decide)) (qa_cons (qv 1) qa_nil)) qe_int)))) ?body
  case len => rintro ds μ q ⟨_, _, _, _, rfl, _⟩; rfl
  case body =>
    rintro ds μ q ⟨a, rs, i, r, rfl, ⟨dx, ha⟩, hl, hr, h⟩
    simp only [PW, Nat.reduceAdd, String.reduceEq, decide_true, decide_false, ite_true, ite_false, Bool.false_eq_true, if_true, if_false, true_and, and_true, Bool.not_true, Bool.not_false, List.length_cons, List.length_nil, reduceCtorEq, onIns_ref ha]
    refine ⟨lk_off_row, a, rs, i, r, rfl, ⟨dx, ha⟩, hl, hr, ?_⟩
    simp only [Row.d, PW, Nat.reduceAdd, String.reduceEq, decide_true, decide_false, ite_true, ite_false, Bool.false_eq_true, if_true, if_false, true_and, and_true, Bool.not_true, Bool.not_false, List.length_cons, List.length_nil, reduceCtorEq]
    exact end_of h
def f_constructors (r : Row) : D := consD r.cons
abbrev s_Book_constructors : Stmt := inClass (top 41) 5
theorem sc_Book_constructors : FnScope ["self", "stamp"] ["self", "stamp"] (defScope s_Book_constructors) := ⟨rfl, rfl, rfl, by decide +kernel, rfl, by decide +kernel, by decide +kernel⟩
theorem okb_constructors (A : AtM K C "constructors" "Book.constructors" s_Book_constructors ["self", "stamp"]) (T : Bk K mg C) (DM__row : HasM P w K mg base C "_row" ["self", "stamp"] 2 (spRow C)) : HasM P w K mg base C "constructors" ["self", "stamp"] 3 (spPrinted C f_constructors) := by
  refine HasM.mk A fun f fd F => ?_
  refine qfn F sc_Book_constructors (by decide) ?len (fun cdv A outer s H E hr => (qss_one (qs_ret (qe_ix (qix (hu_of hr)) (qe_meth T.cl (qv 0) DM__row (hr.mono (by decide)) (qa_cons (qv 1) qa_nil)) qe_int)))) ?body
  case len => rintro ds μ q ⟨_, _, _, _, rfl, _⟩; rfl
  case body =>
    rintro ds μ q ⟨a, rs, i, r, rfl, ⟨dx, ha⟩, hl, hr, h⟩
    simp only [PW, Nat.reduceAdd, String.reduceEq, decide_true, decide_false, ite_true, ite_false, Bool.false_eq_true, if_true, if_false, true_and, and_true, Bool.not_true, Bool.not_false, List.length_cons, List.length_nil, reduceCtorEq, onIns_ref ha]
    refine ⟨lk_off_row, a, rs, i, r, rfl, ⟨dx, ha⟩, hl, hr, ?_⟩
    simp only [Row.d, PW, Nat.reduceAdd, String.reduceEq, decide_true, decide_false, ite_true, ite_false, Bool.false_eq_true, if_true, if_false, true_and, and_true, Bool.not_true, Bool.not_false, List.length_cons, List.length_nil, reduceCtorEq]
    exact end_of h
abbrev s_Book__extended : Stmt := inClass (top 41) 7
theorem sc_Book__extended : FnScope ["self", "rows", "book", "row"] ["self", "rows"] (defScope s_Book__extended) := ⟨rfl, rfl, rfl, by decide +kernel, rfl, by decide +kernel, by decide +kernel⟩
def newBook (C : Addr) (q : EQ) (μ : Mu) (rs rows : List Row) : Prop := ∀ b dx, μ b = none → q (.tup [.ref b, .tup ((List.range rows.length).map fun j => .int ((rs.length + 1 + j : Nat) : Int))]) (mset μ b (bookO C dx (rs ++ rows)))
def spExt (C : Addr) : Spc := fun ds μ q => ∃ (a : Addr) (rs rows : List Row), ds = [.ref a, rowsD rows] ∧ IsBook C μ a rs ∧ rs.length + rows.length ≤ 1000 ∧ newBook C q μ rs rows
theorem ok_ext (A : AtM K C "_extended" "Book._extended" s_Book__extended ["self", "rows"]) (B : Bi mg) (T : Bk K mg C) (M_Book : HasI P w K mg base "Book" C ["self"] 1 (spInit C)) : HasM P w K mg base C "_extended" ["self", "rows"] 3 (spExt C) := by
  refine HasM.mk A fun f fd F => ?_
  refine qfn F sc_Book__extended (by decide) ?len (fun cdv A outer s H E hr => (qss_cons (qs_set (i := 2) sc_Book__extended.nd rfl (Or.inl rfl) (qe_make0 M_Book (hr.mono (by decide))))
  (qss_cons (qs_fld ⟨T.cl, T.na__rows⟩ (qv 2) (qe_tup (qa_star (qe_fld ⟨T.cl, T.na__rows⟩ (qv 0)) (qa_star (qv 1) qa_nil))))
  (qss_cons (qs_fld ⟨T.cl, T.na_arities⟩ (qv 2) (qe_tup (qa_star (qe_fld ⟨T.cl, T.na_arities⟩ (qv 0)) (qa_star (qe_lc (own := [("row", 3)]) rfl sc_Book__extended.nd (qi_seq (qv 1)) (blkOk_by (N := ["self", "rows", "book", "row"]) (sc := defScope s_Book__extended) (by decide +kernel)) (fun _ _ _ _ _ => (qgw_name (i := 3) sc_Book__extended.nd rfl (Or.inl rfl))) (fun _ _ _ _ _ => qts_nil) (fun _ _ _ _ _ => (qe_ix (qix (hu_of hr)) (qv 3) qe_int))) qa_nil))))
  (qss_one (qs_ret (qe_tup (qa_cons (qv 2) (qa_cons (qe_tupRg rfl (by rfl) B.tuple (qrg_2 (by rfl) B.range (qe_op qop_add (qe_callB qc_len (by rfl) B.len (by decide +kernel) (qa_cons (qe_fld ⟨T.cl, T.na__rows⟩ (qv 0)) qa_nil)) qe_int) (qe_op qop_add (qe_callB qc_len (by rfl) B.len (by decide +kernel) (qa_cons (qe_fld ⟨T.cl, T.na__rows⟩ (qv 2)) qa_nil)) qe_int))) qa_nil))))))))) ?body
  case len => rintro ds μ q ⟨_, _, _, rfl, _⟩; rfl
  case body =>
    rintro ds μ q ⟨a, rs, rows, rfl, ⟨dx, ha⟩, hl, h⟩
    simp only [PW, Nat.reduceAdd, String.reduceEq, decide_true, decide_false, ite_true, ite_false, Bool.false_eq_true, if_true, if_false, true_and, and_true, Bool.not_true, Bool.not_false, List.length_cons, List.length_nil, reduceCtorEq]
    intro x dx2 hx
    have hxa : a ≠ x := ne_free ha hx
    refine ⟨x, dx2, rfl, mset_same, rfl, ?_⟩
    have f1 : ∀ {o : MO}, mset μ x o a = some (bookO C dx rs) := fun {o} => by rw [mset_ne hxa]; exact ha
    simp only [mset_mset, onIns_ref f1, lk_rows]
    simp only [rowsD, seqOf, PW, Nat.reduceAdd, String.reduceEq, decide_true, decide_false, ite_true, ite_false, Bool.false_eq_true, if_true, if_false, true_and, and_true, Bool.not_true, Bool.not_false, List.length_cons, List.length_nil, reduceCtorEq, List.length_append, List.length_map, List.append_nil]
    refine ⟨sl1000 hl, ?_⟩
    rw [onIns_ref (mset_same (o := bookO C dx2 firstRows))]
    refine ⟨by decide, ?_⟩
    simp only [mset_mset, onIns_ref f1, lk_ars, putF_rows]
    simp only [arsD, seqOf, PW, Nat.reduceAdd, String.reduceEq, decide_true, decide_false, ite_true, ite_false, Bool.false_eq_true, if_true, if_false, true_and, and_true, Bool.not_true, Bool.not_false, List.length_cons, List.length_nil, reduceCtorEq]
    refine ⟨sl1000 (by omega), lc_map (fun x => match x with | .tup [_, k, _, _] => k | _ => .non) True.intro (fun x hx ky kn k => ?_) fun p2 hp2 => ?_⟩
    · obtain ⟨r, hr, rfl⟩ := List.mem_map.mp hx
      simp only [lcStep, Row.d, PW, Nat.reduceAdd, String.reduceEq, decide_true, decide_false, ite_true, ite_false, Bool.false_eq_true, if_true, if_false, true_and, and_true, Bool.not_true, Bool.not_false, List.length_cons, List.length_nil, reduceCtorEq]
      exact k
    have ea : (rs.map fun r => D.int (r.ar : Nat)) ++ ((rows.map Row.d).map fun x => match x with | .tup [_, k, _, _] => k | _ => D.non) = (rs ++ rows).map fun r => D.int (r.ar : Nat) := by
      rw [List.map_map, List.map_append]
      rfl
    have hpx : x ≠ p2 := ne_free mset_same hp2
    have hpa : a ≠ p2 := ne_free f1 hp2
    rw [onIns_ref (by rw [mset_ne hpx, mset_same])]
    refine ⟨by simp only [List.length_map]; exact sl1000 hl, by show 2 < 1000; decide, ?_⟩
    rw [putF_ars, ea, mset_comm hpx.symm, mset_mset, ← List.map_append]
    have f2 : ∀ {o u : MO}, mset (mset μ x o) p2 u a = some (bookO C dx rs) := fun {o u} => by rw [mset_ne hpa]; exact f1
    have f3 : ∀ {o u : MO}, mset (mset μ x o) p2 u x = some o := fun {o u} => by rw [mset_ne hpx, mset_same]
    unfold pTupRg pRg2
    simp only [onIns_ref f2, lk_rows, PW, Nat.reduceAdd, String.reduceEq, decide_true, decide_false, ite_true, ite_false, Bool.false_eq_true, if_true, if_false, true_and, and_true, Bool.not_true, Bool.not_false, List.length_cons, List.length_nil, reduceCtorEq, onIns_ref f3]
    simp only [rowsD, PW, Nat.reduceAdd, String.reduceEq, decide_true, decide_false, ite_true, ite_false, Bool.false_eq_true, if_true, if_false, true_and, and_true, Bool.not_true, Bool.not_false, List.length_cons, List.length_nil, reduceCtorEq, List.length_map, List.length_append]
    refine ⟨RgOk.of_le (by omega) (by omega) (by omega) (by omega), mset μ x (bookO C dx2 (rs ++ rows)), .put (by rw [mset_ne hpx.symm] at hp2 ⊢; exact hp2), ?_⟩
    have er : rgD ((rs.length : Int) + 1) (((rs.length + rows.length : Nat) : Int) + 1) = (List.range rows.length).map fun j => D.int ((rs.length + 1 + j : Nat) : Int) := by
      unfold rgD
      rw [show ((((rs.length + rows.length : Nat) : Int) + 1) - ((rs.length : Int) + 1)).toNat = rows.length by omega]
      refine List.map_congr_left fun j _ => ?_
      congr 1
    rw [er]
    exact h x dx2 hx
abbrev s_Book_with_stamps : Stmt := inClass (top 41) 6
theorem sc_Book_with_stamps : FnScope ["self", "rows", "row", "arities"] ["self", "rows"] (defScope s_Book_with_stamps) := ⟨rfl, rfl, rfl, by decide +kernel, rfl, by decide +kernel, by decide +kernel⟩
def spStamps (C : Addr) (kw : List D) : Spc := fun ds μ q => ∃ (a : Addr) (rs rows : List Row), ds = [.ref a, rowsD rows] ∧ IsBook C μ a rs ∧ rs.length + rows.length ≤ 1000 ∧ (∀ r ∈ rows, r.Out kw ∧ r.In ((rs ++ rows).map Row.ar)) ∧ newBook C q μ rs rows
theorem ok_stamps {kw : List D} (A : AtM K C "with_stamps" "Book.with_stamps" s_Book_with_stamps ["self", "rows"]) (B : Bi mg) (T : Bk K mg C) (D__is_outline : Has P w K mg base "_is_outline" ["value"] 5 (spOut kw)) (D_are_constructors : Has P w K mg base "are_constructors" ["value", "arity", "arities"] 7 spCons) (DM__extended : HasM P w K mg base C "_extended" ["self", "rows"] 3 (spExt C)) : HasM P w K mg base C "with_stamps" ["self", "rows"] 8 (spStamps C kw) := by
  refine HasM.mk A fun f fd F => ?_
  refine qfn F sc_Book_with_stamps (by decide) ?len (fun cdv A outer s H E hr => (qss_cons (qs_if (QW.qt (qw_or (qt_not (qt_val (qe_callB qc_isi (by rfl) B.isinstance (by decide +kernel) (qa_cons (qv 1) (qa_cons (qe_bltn (n := "tuple") rfl B.tuple (by decide +kernel)) qa_nil))))) (qw_or1 (qt_not (qt_val (qe_callB (qc_all rfl) (by rfl) B.all (by decide +kernel) (qa_cons (qe_lc (own := [("row", 2)]) rfl sc_Book_with_stamps.nd (qi_seq (qv 1)) (blkOk_by (N := ["self", "rows", "row", "arities"]) (sc := defScope s_Book_with_stamps) (by decide +kernel)) (fun _ _ _ _ _ => (qgw_name (i := 2) sc_Book_with_stamps.nd rfl (Or.inl rfl))) (fun _ _ _ _ _ => qts_nil) (fun _ _ _ _ _ => (qe_call D__is_outline (hr.mono (by decide)) (qa_cons (qv 2) qa_nil)))) qa_nil))))))) (qss_one qs_never) qss_nil)
  (qss_cons (qs_set (i := 3) sc_Book_with_stamps.nd rfl (Or.inr rfl) (qe_tup (qa_star (qe_fld ⟨T.cl, T.na_arities⟩ (qv 0)) (qa_star (qe_lc (own := [("row", 2)]) rfl sc_Book_with_stamps.nd (qi_seq (qv 1)) (blkOk_by (N := ["self", "rows", "row", "arities"]) (sc := defScope s_Book_with_stamps) (by decide +kernel)) (fun _ _ _ _ _ => (qgw_name (i := 2) sc_Book_with_stamps.nd rfl (Or.inl rfl))) (fun _ _ _ _ _ => qts_nil) (fun _ _ _ _ _ => (qe_ix (qix (hu_of hr)) (qv 2) qe_int))) qa_nil))))
  (qss_cons (qs_if (qt_not (qt_val (qe_callB (qc_all rfl) (by rfl) B.all (by decide +kernel) (qa_cons (qe_lc (own := [("row", 2)]) rfl sc_Book_with_stamps.nd (qi_seq (qv 1)) (blkOk_by (N := ["self", "rows", "row", "arities"]) (sc := defScope s_Book_with_stamps) (by decide +kernel)) (fun _ _ _ _ _ => (qgw_name (i := 2) sc_Book_with_stamps.nd rfl (Or.inl rfl))) (fun _ _ _ _ _ => qts_nil) (fun _ _ _ _ _ => (qe_or (qe_cmp qop_is (qe_ix (qix (hu_of hr)) (qv 2) qe_int) qe_non (nomark _)) (qe_one (qe_call D_are_constructors (hr.mono (by decide)) (qa_cons (qe_ix (qix (hu_of hr)) (qv 2) qe_int) (qa_cons (qe_ix (qix (hu_of hr)) (qv 2) qe_int) (qa_cons (qv 3) qa_nil)))))))) qa_nil)))) (qss_one qs_never) qss_nil)
  (qss_one (qs_ret (qe_meth T.cl (qv 0) DM__extended (hr.mono (by decide)) (qa_cons (qv 1) qa_nil)))))))) ?body
  case len => rintro ds μ q ⟨_, _, _, rfl, _⟩; rfl
  case body =>
    rintro ds μ q ⟨a, rs, rows, rfl, ⟨dx, ha⟩, hl, hr, h⟩
    simp only [rowsD, KIT, PW, Nat.reduceAdd, String.reduceEq, decide_true, decide_false, ite_true, ite_false, Bool.false_eq_true, if_true, if_false, true_and, and_true, Bool.not_true, Bool.not_false, List.length_cons, List.length_nil, reduceCtorEq]
    have hns : ∀ r ∈ rows, r.Out kw := fun r h => (hr r h).1
    refine ⟨by rw [List.length_map]; exact sl1000 (by omega), lc_all True.intro (fun x hx ky kn k => ?_) fun p1 hp1 => ?_⟩
    · obtain ⟨r, h1, rfl⟩ := List.mem_map.mp hx
      simp only [lcStep, PW, Nat.reduceAdd, String.reduceEq, decide_true, decide_false, ite_true, ite_false, Bool.false_eq_true, if_true, if_false, true_and, and_true, Bool.not_true, Bool.not_false, List.length_cons, List.length_nil, reduceCtorEq]
      exact ⟨r, rfl, hns r h1, k⟩
    have f1 : ∀ {o : MO}, mset μ p1 o a = some (bookO C dx rs) := fun {o} => by rw [mset_ne (ne_free ha hp1)]; exact ha
    simp only [bls_tt, all_tt, PW, Nat.reduceAdd, String.reduceEq, decide_true, decide_false, ite_true, ite_false, Bool.false_eq_true, if_true, if_false, true_and, and_true, Bool.not_true, Bool.not_false, List.length_cons, List.length_nil, reduceCtorEq, onIns_ref f1, lk_ars]
    simp only [arsD, seqOf, PW, Nat.reduceAdd, String.reduceEq, decide_true, decide_false, ite_true, ite_false, Bool.false_eq_true, if_true, if_false, true_and, and_true, Bool.not_true, Bool.not_false, List.length_cons, List.length_nil, reduceCtorEq]
    refine ⟨by rw [List.length_map]; exact sl1000 (by omega), lc_map (fun x => match x with | .tup [_, k, _, _] => k | _ => .non) True.intro (fun x hx ky kn k => ?_) fun p2 hp2 => ?_⟩
    · obtain ⟨r, hr, rfl⟩ := List.mem_map.mp hx
      simp only [lcStep, Row.d, PW, Nat.reduceAdd, String.reduceEq, decide_true, decide_false, ite_true, ite_false, Bool.false_eq_true, if_true, if_false, true_and, and_true, Bool.not_true, Bool.not_false, List.length_cons, List.length_nil, reduceCtorEq]
      exact k
    have ea : (rs.map fun r => D.int (r.ar : Nat)) ++ (((rows.map Row.d).map fun x => match x with | .tup [_, k, _, _] => k | _ => D.non) ++ []) = ((rs ++ rows).map Row.ar).map fun (n : Nat) => D.int (n : Int) := by
      rw [List.append_nil, List.map_map, List.map_map, List.map_append]
      rfl
    rw [ea]
    refine ⟨by rw [List.length_map, List.length_map, List.length_append]; exact sl1000 (by omega), by rw [List.length_map]; exact sl1000 (by omega), lc_all True.intro (fun x hx ky kn k => ?_) fun p3 hp3 => ?_⟩
    · obtain ⟨r, h1, rfl⟩ := List.mem_map.mp hx
      simp only [lcStep, Row.d, PW, Nat.reduceAdd, String.reduceEq, decide_true, decide_false, ite_true, ite_false, Bool.false_eq_true, if_true, if_false, true_and, and_true, Bool.not_true, Bool.not_false, List.length_cons, List.length_nil, reduceCtorEq]
      cases hcs : r.cons with
      | none => simp only [consD, PW, Nat.reduceAdd, String.reduceEq, decide_true, decide_false, ite_true, ite_false, Bool.false_eq_true, if_true, if_false, true_and, and_true, Bool.not_true, Bool.not_false, List.length_cons, List.length_nil, reduceCtorEq]; exact k
      | some cs =>
        obtain ⟨g1, g2, g3, g4⟩ := (hr r h1).2.ok cs hcs
        simp only [consD, PW, Nat.reduceAdd, String.reduceEq, decide_true, decide_false, ite_true, ite_false, Bool.false_eq_true, if_true, if_false, true_and, and_true, Bool.not_true, Bool.not_false, List.length_cons, List.length_nil, reduceCtorEq]
        exact ⟨cs, r.ar, _, rfl, g1, g2, g3, g4, by rw [List.length_map, List.length_append]; omega, k⟩
    have m3 : Mle μ (mset (mset (mset μ p1 (.lst ((rows.map Row.d).map fun _ => .bl true))) p2 (.lst ((rows.map Row.d).map fun x => match x with | .tup [_, k, _, _] => k | _ => .non))) p3 (.lst ((rows.map Row.d).map fun _ => .bl true))) := ((Mle.put hp1).trans (.put hp2)).trans (.put hp3)
    have f3 := m3 _ _ ha
    simp only [bls_tt, all_tt, PW, Nat.reduceAdd, String.reduceEq, decide_true, decide_false, ite_true, ite_false, Bool.false_eq_true, if_true, if_false, true_and, and_true, Bool.not_true, Bool.not_false, List.length_cons, List.length_nil, reduceCtorEq, onIns_ref f3, lk_off_ext]
    refine ⟨a, rs, rows, rfl, ⟨dx, f3⟩, hl, fun b dx2 hb => ⟨_, m3.both, h b dx2 (m3.none hb)⟩⟩
abbrev s_Book___len__ : Stmt := inClass (top 41) 9
theorem sc_Book___len__ : FnScope ["self"] ["self"] (defScope s_Book___len__) := ⟨rfl, rfl, rfl, by decide +kernel, rfl, by decide +kernel, by decide +kernel⟩
def spLen (C : Addr) : Spc := fun ds μ q => ∃ (a : Addr) (rs : List Row), ds = [.ref a] ∧ IsBook C μ a rs ∧ q (.int (rs.length : Nat)) μ
theorem ok_len (A : AtM K C "__len__" "Book.__len__" s_Book___len__ ["self"]) (B : Bi mg) (T : Bk K mg C) : HasM P w K mg base C "__len__" ["self"] 1 (spLen C) := by
  refine HasM.mk A fun f fd F => ?_
  refine qfn F sc_Book___len__ (by decide) ?len (fun cdv A outer s H E hr => (qss_one (qs_ret (qe_callB qc_len (by rfl) B.len (by decide +kernel) (qa_cons (qe_fld ⟨T.cl, T.na__rows⟩ (qv 0)) qa_nil))))) ?body
  case len => rintro ds μ q ⟨_, _, rfl, _⟩; rfl
  case body =>
    rintro ds μ q ⟨a, rs, rfl, ⟨dx, ha⟩, h⟩
    simp only [PW, Nat.reduceAdd, String.reduceEq, decide_true, decide_false, ite_true, ite_false, Bool.false_eq_true, if_true, if_false, true_and, and_true, Bool.not_true, Bool.not_false, List.length_cons, List.length_nil, reduceCtorEq, onIns_ref ha, lk_rows]
    simp only [rowsD, PW, Nat.reduceAdd, String.reduceEq, decide_true, decide_false, ite_true, ite_false, Bool.false_eq_true, if_true, if_false, true_and, and_true, Bool.not_true, Bool.not_false, List.length_cons, List.length_nil, reduceCtorEq, List.length_map]
    exact end_of h
abbrev s_Book___str__ : Stmt := inClass (top 41) 10
theorem sc_Book___str__ : FnScope ["self"] ["self"] (defScope s_Book___str__) := ⟨rfl, rfl, rfl, by decide +kernel, rfl, by decide +kernel, by decide +kernel⟩
def spStr (C : Addr) : Spc := fun ds μ q => ∃ (a : Addr) (rs : List Row), ds = [.ref a] ∧ IsBook C μ a rs ∧ rs.length = 9 ∧ q (.str "book of 9 stamps") μ
theorem ok_str (A : AtM K C "__str__" "Book.__str__" s_Book___str__ ["self"]) (B : Bi mg) (T : Bk K mg C) : HasM P w K mg base C "__str__" ["self"] 1 (spStr C) := by
  refine HasM.mk A fun f fd F => ?_
  refine qfn F sc_Book___str__ (by decide) ?len (fun cdv A outer s H E hr => (qss_one (qs_ret (qe_joined (.cons qe_str (.cons (qe_fmt (qe_callB qc_len (by rfl) B.len (by decide +kernel) (qa_cons (qe_fld ⟨T.cl, T.na__rows⟩ (qv 0)) qa_nil))) (.cons qe_str .nil))))))) ?body
  case len => rintro ds μ q ⟨_, _, rfl, _⟩; rfl
  case body =>
    rintro ds μ q ⟨a, rs, rfl, ⟨dx, ha⟩, hl, h⟩
    simp only [PW, Nat.reduceAdd, String.reduceEq, decide_true, decide_false, ite_true, ite_false, Bool.false_eq_true, if_true, if_false, true_and, and_true, Bool.not_true, Bool.not_false, List.length_cons, List.length_nil, reduceCtorEq, onIns_ref ha, lk_rows]
    simp only [rowsD, PW, Nat.reduceAdd, String.reduceEq, decide_true, decide_false, ite_true, ite_false, Bool.false_eq_true, if_true, if_false, true_and, and_true, Bool.not_true, Bool.not_false, List.length_cons, List.length_nil, reduceCtorEq, List.length_map, hl]
    have e : (Str.empty ++ Str.ofString "book of " ++ Str.ofString (toString ((9 : Nat) : Int)) ++ Str.ofString " stamps") = Str.ofString "book of 9 stamps" := by decide +kernel
    rw [e]
    exact ⟨by decide +kernel, by decide +kernel, by decide +kernel, by decide +kernel, end_of h⟩
end
end Pl
namespace Pl
open PySem L2
/-! ### equality of plain data -/
mutual
def D.eqk : Nat → D → Bool
  | _, .non => true
  | _, .int _ => true
  | _, .str x => PyData.strOk x
  | k, .tup ds => match k with
    | 0 => false
    | k + 1 => D.eqks k ds
  | _, .bl _ => false
  | _, .ref _ => false
  | _, .ty _ => false
def D.eqks : Nat → List D → Bool
  | _, [] => true
  | k, d :: r => D.eqk k d && D.eqks k r
end
mutual
theorem eqk_pd : ∀ (k : Nat) (d : D), d.eqk k = true → ∃ x, d.pd = some x ∧ x.canLay0 = true ∧ x.depth ≤ k
  | k, .non, _ => ⟨.none, by rw [D.pd], by rw [PyData.canLay0], by rw [PyData.depth]; exact Nat.zero_le _⟩
  | k, .int i, _ => ⟨.int i, by rw [D.pd], by rw [PyData.canLay0], by rw [PyData.depth]; exact Nat.zero_le _⟩
  | k, .str z, h => ⟨.str z, by rw [D.pd], by rw [PyData.canLay0]; rw [D.eqk] at h; exact h, by rw [PyData.depth]; exact Nat.zero_le _⟩
  | 0, .tup ds, h => by rw [D.eqk] at h; cases h
  | k + 1, .tup ds, h => by
    rw [D.eqk] at h
    obtain ⟨xs, h1, h2, h3⟩ := eqks_pd k ds h
    exact ⟨.tuple xs, by rw [D.pd, h1]; rfl, by rw [PyData.canLay0]; exact h2, by rw [PyData.depth]; omega⟩
  | k, .bl _, h => by rw [D.eqk] at h; cases h
  | k, .ref _, h => by rw [D.eqk] at h; cases h
  | k, .ty _, h => by rw [D.eqk] at h; cases h
theorem eqks_pd : ∀ (k : Nat) (ds : List D), D.eqks k ds = true → ∃ xs, D.pds ds = some xs ∧ PyData.canLayAll0 xs = true ∧ PyData.depthAll xs ≤ k
  | k, [], _ => ⟨[], by rw [D.pds], by rw [PyData.canLayAll0], by rw [PyData.depthAll]; exact Nat.zero_le _⟩
  | k, d :: r, h => by
    rw [D.eqks, Bool.and_eq_true] at h
    obtain ⟨x, h1, h2, h3⟩ := eqk_pd k d h.1
    obtain ⟨xs, g1, g2, g3⟩ := eqks_pd k r h.2
    exact ⟨x :: xs, by rw [D.pds, h1, g1]; rfl, by rw [PyData.canLayAll0, h2, g2]; rfl, by rw [PyData.depthAll]; omega⟩
end
theorem pd_tup {ds : List D} {x : PyData} (h : (D.tup ds).pd = some x) : ∃ xs, D.pds ds = some xs ∧ x = .tuple xs := by
  rw [D.pd] at h
  cases e : D.pds ds with
  | none => rw [e] at h; cases h
  | some xs => rw [e] at h; cases h; exact ⟨xs, rfl, rfl⟩
theorem pds_cons {d : D} {r : List D} {zs : List PyData} (h : D.pds (d :: r) = some zs) : ∃ x xs, d.pd = some x ∧ D.pds r = some xs ∧ zs = x :: xs := by
  rw [D.pds] at h
  cases e : d.pd with
  | none => rw [e] at h; cases h
  | some x =>
    rw [e] at h
    cases e2 : D.pds r with
    | none => rw [e2] at h; cases h
    | some xs => rw [e2] at h; cases h; exact ⟨x, xs, rfl, rfl, rfl⟩
mutual
theorem eqk_eqv : ∀ (k : Nat) (d e : D), d.eqk k = true → e.eqk k = true → ∀ x y, d.pd = some x → e.pd = some y → (PyData.eqv x y = true ↔ d = e)
  | k, .tup ds, e, h1, h2, x, y, p1, p2 => by
    obtain ⟨xs, g1, rfl⟩ := pd_tup p1
    cases e with
    | tup es =>
      obtain ⟨ys, g2, rfl⟩ := pd_tup p2
      cases k with
      | zero => rw [D.eqk] at h1; cases h1
      | succ k =>
        rw [D.eqk] at h1 h2
        rw [PyData.eqv, eqks_eqv k ds es h1 h2 xs ys g1 g2, D.tup.injEq]
    | non => rw [D.pd] at p2; cases p2; simp [PyData.eqv]
    | int i => rw [D.pd] at p2; cases p2; simp [PyData.eqv]
    | str i => rw [D.pd] at p2; cases p2; simp [PyData.eqv]
    | bl i => rw [D.eqk] at h2; cases h2
    | ref i => rw [D.eqk] at h2; cases h2
    | ty i => rw [D.eqk] at h2; cases h2
  | k, .non, e, h1, h2, x, y, p1, p2 => by
    rw [D.pd] at p1; cases p1
    cases e with
    | tup es => obtain ⟨ys, g2, rfl⟩ := pd_tup p2; simp [PyData.eqv]
    | non => rw [D.pd] at p2; cases p2; simp [PyData.eqv]
    | int i => rw [D.pd] at p2; cases p2; simp [PyData.eqv]
    | str i => rw [D.pd] at p2; cases p2; simp [PyData.eqv]
    | bl i => rw [D.eqk] at h2; cases h2
    | ref i => rw [D.eqk] at h2; cases h2
    | ty i => rw [D.eqk] at h2; cases h2
  | k, .int j, e, h1, h2, x, y, p1, p2 => by
    rw [D.pd] at p1; cases p1
    cases e with
    | tup es => obtain ⟨ys, g2, rfl⟩ := pd_tup p2; simp [PyData.eqv]
    | non => rw [D.pd] at p2; cases p2; simp [PyData.eqv]
    | int i => rw [D.pd] at p2; cases p2; simp [PyData.eqv]
    | str i => rw [D.pd] at p2; cases p2; simp [PyData.eqv]
    | bl i => rw [D.eqk] at h2; cases h2
    | ref i => rw [D.eqk] at h2; cases h2
    | ty i => rw [D.eqk] at h2; cases h2
  | k, .str j, e, h1, h2, x, y, p1, p2 => by
    rw [D.pd] at p1; cases p1
    cases e with
    | tup es => obtain ⟨ys, g2, rfl⟩ := pd_tup p2; simp [PyData.eqv]
    | non => rw [D.pd] at p2; cases p2; simp [PyData.eqv]
    | int i => rw [D.pd] at p2; cases p2; simp [PyData.eqv]
    | str i => rw [D.pd] at p2; cases p2; simp [PyData.eqv]
    | bl i => rw [D.eqk] at h2; cases h2
    | ref i => rw [D.eqk] at h2; cases h2
    | ty i => rw [D.eqk] at h2; cases h2
  | k, .bl _, _, h, _, _, _, _, _ => by rw [D.eqk] at h; cases h
  | k, .ref _, _, h, _, _, _, _, _ => by rw [D.eqk] at h; cases h
  | k, .ty _, _, h, _, _, _, _, _ => by rw [D.eqk] at h; cases h
theorem eqks_eqv : ∀ (k : Nat) (ds es : List D), D.eqks k ds = true → D.eqks k es = true → ∀ xs ys, D.pds ds = some xs → D.pds es = some ys → (PyData.eqvAll xs ys = true ↔ ds = es)
  | k, [], [], _, _, xs, ys, p1, p2 => by rw [D.pds] at p1 p2; cases p1; cases p2; simp [PyData.eqvAll]
  | k, [], e :: es, _, _, xs, ys, p1, p2 => by
    rw [D.pds] at p1; cases p1
    obtain ⟨y, ys, _, _, rfl⟩ := pds_cons p2
    simp [PyData.eqvAll]
  | k, d :: ds, [], _, _, xs, ys, p1, p2 => by
    rw [D.pds] at p2; cases p2
    obtain ⟨y, ys, _, _, rfl⟩ := pds_cons p1
    simp [PyData.eqvAll]
  | k, d :: ds, e :: es, h1, h2, xs, ys, p1, p2 => by
    obtain ⟨x, xs, a1, a2, rfl⟩ := pds_cons p1
    obtain ⟨y, ys, b1, b2, rfl⟩ := pds_cons p2
    rw [D.eqks, Bool.and_eq_true] at h1 h2
    rw [PyData.eqvAll, Bool.and_eq_true, eqk_eqv k d e h1.1 h2.1 x y a1 b1, eqks_eqv k ds es h1.2 h2.2 xs ys a2 b2, List.cons.injEq]
end
theorem shaped_of {x : PyData} (h1 : x.canLay0 = true) (h2 : x.depth ≤ 64) : SeqAt.shaped x = true := by
  show (x.canLay0 && decide (x.depth ≤ 64)) = true
  rw [h1, decide_eq_true h2]
  rfl
theorem pEq_plain {neg : Bool} {d e : D} {μ : Mu} {q : EQ} {b : Bool} (h1 : d.eqk 64 = true) (h2 : e.eqk 64 = true) (hb : b = true ↔ d = e) (h : q (.bl (b != neg)) μ) : pEq neg d e μ q := by
  unfold pEq
  split
  · rename_i b' e1
    have : (b' = true ↔ d = e) := by
      unfold eqS at e1
      split at e1 <;> first | cases e1 | skip
      all_goals simp
    have : b' = b := by
      cases b' <;> cases b <;> simp_all
    rw [this]
    exact h
  · obtain ⟨x, p1, g1, g2⟩ := eqk_pd 64 d h1
    obtain ⟨y, p2, g3, g4⟩ := eqk_pd 64 e h2
    have e1 : pdM μ d = some x := by cases d <;> first | exact p1 | (rw [D.eqk] at h1; cases h1)
    have e2 : pdM μ e = some y := by cases e <;> first | exact p2 | (rw [D.eqk] at h2; cases h2)
    rw [e1, e2]
    refine ⟨shaped_of g1 g2, shaped_of g3 g4, ?_⟩
    have := eqk_eqv 64 d e h1 h2 x y p1 p2
    have : PyData.eqv x y = b := by
      cases h3 : PyData.eqv x y <;> cases b <;> simp_all
    rw [this]
    exact h
theorem pEq_lists {neg : Bool} {a c : Addr} {ds es : List D} {μ : Mu} {q : EQ} {b : Bool} (ha : rdl μ a = some ds) (hc : rdl μ c = some es) (h1 : D.eqks 63 ds = true) (h2 : D.eqks 63 es = true) (hb : b = true ↔ ds = es) (h : q (.bl (b != neg)) μ) : pEq neg (.ref a) (.ref c) μ q := by
  obtain ⟨xs, p1, g1, g2⟩ := eqks_pd 63 ds h1
  obtain ⟨ys, p2, g3, g4⟩ := eqks_pd 63 es h2
  have e1 : pdM μ (.ref a) = some (.list xs) := by simp only [pdM, ha, Option.bind_some, p1, Option.map_some]
  have e2 : pdM μ (.ref c) = some (.list ys) := by simp only [pdM, hc, Option.bind_some, p2, Option.map_some]
  show onSome (pdM μ (.ref a)) _
  rw [e1, e2]
  refine ⟨shaped_of (by rw [PyData.canLay0]; exact g1) (by rw [PyData.depth]; omega), shaped_of (by rw [PyData.canLay0]; exact g3) (by rw [PyData.depth]; omega), ?_⟩
  have := eqks_eqv 63 ds es h1 h2 xs ys p1 p2
  have : PyData.eqv (.list xs) (.list ys) = b := by
    rw [PyData.eqv]
    cases h3 : PyData.eqvAll xs ys <;> cases b <;> simp_all
  rw [this]
  exact h
end Pl
namespace Pl
open PySem L2
theorem isO_ins {C : Addr} {μ : Mu} {a dx : Addr} {fs : List (Str × D)} (h : μ a = some (.ins C dx fs)) : isO C μ (.ref a) = some true := by
  unfold isO; simp only [h, if_true]
theorem isO_n {C : Addr} {μ : Mu} : isO C μ .non = some false := rfl
theorem isO_s {C : Addr} {μ : Mu} {z : Str} : isO C μ (.str z) = some false := rfl
theorem pIsiO_r {C : Addr} {μ : Mu} {d : D} {q : EQ} : pIsiO C [d, .ref C] μ q = onSome (isO C μ d) fun b => q (.bl b) μ := by
  unfold pIsiO on2
  simp only [true_and]
def tysD (us : List Ty) : D := .tup (us.map Ty.d)
theorem sub_none (σ : Nat → Ty) : ∀ (n : Nat) (T : Ty), T.sz ≤ n → T.vars = [] → T.sub σ = T
  | 0, T, h, _ => by have := sz_pos T; omega
  | n + 1, T, h, hv => by
    have hl : T.lab.num = none := by
      cases e : T.lab.num with
      | none => rfl
      | some m => have := vars_self e; rw [hv] at this; cases this
    rw [sub_node σ hl, subs_map]
    have : T.kids.map (Ty.sub σ) = T.kids := by
      refine (List.map_congr_left fun t ht => ?_).trans (List.map_id _)
      have := kid_sz ht
      refine sub_none σ n t (by omega) (List.eq_nil_iff_forall_not_mem.mpr fun m hm => ?_)
      have := vars_kid ht hm
      rw [hv] at this
      cases this
    rw [this]
    cases T
    rfl
/-- a dict comprehension whose turns keep what I says -/
theorem dc_fmapM {I : Mu → Prop} {pg : PGx} {pt : PTx} {pk pv : PEx} {ss : SS} {ok : Mu → Prop} {q : List (Key × D) → Mu → Prop} {f : D → Option (Key × D)} (hok : ∀ ν, I ν → ok ν) : ∀ (xs : List D) (acc : List (Key × D)) (μ : Mu),
    (∀ x ∈ xs, ∀ ν, I ν → ∀ (ky : Key → D → Mu → Prop) (kn : Mu → Prop), (∀ y ν', I ν' → f x = some y → ky y.1 y.2 ν') → (∀ ν', I ν' → f x = none → kn ν') → pg x ss ν fun ss' μ' => pt ss' μ' fun b μ2 => if b = true then pk ss' μ2 fun y μ3 => pv ss' μ3 fun z μ4 => onSome (keyOf y) fun k => ky k z μ4 else kn μ2) →
    I μ → (∀ ν, I ν → q ((xs.filterMap f).foldl (fun a kv => putD a kv.1 kv.2) acc) ν) → dcGo pg pt pk pv ss ok q xs acc μ
  | [], acc, μ, _, hI, h => ⟨hok μ hI, by simpa using h μ hI⟩
  | x :: r, acc, μ, hs, hI, h => by
    refine ⟨hok μ hI, hs x List.mem_cons_self μ hI (fun k z μ4 => dcGo pg pt pk pv ss ok q r (putD acc k z) μ4) (fun μ2 => dcGo pg pt pk pv ss ok q r acc μ2) (fun y ν hν e => ?_) (fun ν hν e => ?_)⟩
    · refine dc_fmapM hok r _ ν (fun z hz => hs z (List.mem_cons_of_mem _ hz)) hν fun ν2 h2 => ?_
      have := h ν2 h2
      rw [List.filterMap_cons_some e, List.foldl_cons] at this
      exact this
    · refine dc_fmapM hok r _ ν (fun z hz => hs z (List.mem_cons_of_mem _ hz)) hν fun ν2 h2 => ?_
      have := h ν2 h2
      rw [List.filterMap_cons_none e] at this
      exact this
section
variable {P : Program} {w : World} {K : PySem.W.Frag} {mg : Str → Option Value} {base : Heap} {C : Addr}
abbrev s_Book___eq__ : Stmt := inClass (top 41) 8
theorem sc_Book___eq__ : FnScope ["self", "other"] ["self", "other"] (defScope s_Book___eq__) := ⟨rfl, rfl, rfl, by decide +kernel, rfl, by decide +kernel, by decide +kernel⟩
def spEq (C : Addr) : Spc := fun ds μ q => ∃ (a : Addr) (rs : List Row) (y : D), ds = [.ref a, y] ∧ IsBook C μ a rs ∧ (rowsD rs).eqk 64 = true ∧
  (((y = .non ∨ ∃ z, y = .str z) ∧ q (.bl false) μ) ∨ ∃ b rs', y = .ref b ∧ IsBook C μ b rs' ∧ (rowsD rs').eqk 64 = true ∧ ∀ c : Bool, (c = true ↔ rowsD rs = rowsD rs') → q (.bl c) μ)
theorem ok_eq (A : AtM K C "__eq__" "Book.__eq__" s_Book___eq__ ["self", "other"]) (B : Bi mg) (T : Bk K mg C) : HasM P w K mg base C "__eq__" ["self", "other"] 1 (spEq C) := by
  have I_Book := T.is
  have T_Book := T.nm
  refine HasM.mk A fun f fd F => ?_
  refine qfn F sc_Book___eq__ (by decide) ?len (fun cdv A outer s H E hr => (qss_one (qs_ret (qe_and (qe_callB (qc_isiO I_Book) (by rfl) B.isinstance (by decide +kernel) (qa_cons (qv 1) (qa_cons (qe_cn T_Book) qa_nil))) (qe_one (qe_cmp (qop_eq hr.units) (qe_fld ⟨T.cl, T.na__rows⟩ (qv 0)) (qe_fld ⟨T.cl, T.na__rows⟩ (qv 1)) (nomark _))))))) ?body
  case len => rintro ds μ q ⟨_, _, _, rfl, _⟩; rfl
  case body =>
    rintro ds μ q ⟨a, rs, y, rfl, ⟨dx, ha⟩, he, h⟩
    simp only [PW, Nat.reduceAdd, String.reduceEq, decide_true, decide_false, ite_true, ite_false, Bool.false_eq_true, if_true, if_false, true_and, and_true, Bool.not_true, Bool.not_false, List.length_cons, List.length_nil, reduceCtorEq]
    rcases h with ⟨rfl | ⟨z, rfl⟩, h⟩ | ⟨b, rs', rfl, ⟨dx2, hb⟩, he2, h⟩
    · simp only [pIsiO_r, isO_n, PW, Nat.reduceAdd, String.reduceEq, decide_true, decide_false, ite_true, ite_false, Bool.false_eq_true, if_true, if_false, true_and, and_true, Bool.not_true, Bool.not_false, List.length_cons, List.length_nil, reduceCtorEq]
      exact end_of h
    · simp only [pIsiO_r, isO_s, PW, Nat.reduceAdd, String.reduceEq, decide_true, decide_false, ite_true, ite_false, Bool.false_eq_true, if_true, if_false, true_and, and_true, Bool.not_true, Bool.not_false, List.length_cons, List.length_nil, reduceCtorEq]
      exact end_of h
    · obtain ⟨c, hc⟩ : ∃ c : Bool, c = true ↔ rowsD rs = rowsD rs' := by
        by_cases e : rowsD rs = rowsD rs'
        · exact ⟨true, by simp [e]⟩
        · exact ⟨false, by simp [e]⟩
      simp only [pIsiO_r, isO_ins hb, PW, Nat.reduceAdd, String.reduceEq, decide_true, decide_false, ite_true, ite_false, Bool.false_eq_true, if_true, if_false, true_and, and_true, Bool.not_true, Bool.not_false, List.length_cons, List.length_nil, reduceCtorEq, onIns_ref ha, onIns_ref hb, lk_rows]
      refine pEq_plain he he2 hc (end_of ?_)
      rw [show (c != false) = c by cases c <;> rfl]
      exact h c hc
abbrev s_check_book : Stmt := top 46
theorem sc_check_book : FnScope ["book"] ["book"] (defScope s_check_book) := ⟨rfl, rfl, rfl, by decide +kernel, rfl, by decide +kernel, by decide +kernel⟩
def spCheckB (C : Addr) : Spc := fun ds μ q => ∃ (a : Addr) (rs : List Row), ds = [.ref a] ∧ IsBook C μ a rs ∧ q .non μ
theorem ok_check_book (A : At K mg "check_book" s_check_book ["book"]) (B : Bi mg) (T : Bk K mg C) : Has P w K mg base "check_book" ["book"] 1 (spCheckB C) := by
  have I_Book := T.is
  have T_Book := T.nm
  refine .mk A fun f fd F => ?_
  refine qfn F sc_check_book (by decide) ?len (fun cdv A outer s H E hr => (qss_one (qs_if (qt_not (qt_val (qe_callB (qc_isiO I_Book) (by rfl) B.isinstance (by decide +kernel) (qa_cons (qv 0) (qa_cons (qe_cn T_Book) qa_nil))))) (qss_one qs_never) qss_nil))) ?body
  case len => rintro ds μ q ⟨_, _, rfl, _⟩; rfl
  case body =>
    rintro ds μ q ⟨a, rs, rfl, ⟨dx, ha⟩, h⟩
    simp only [PW, Nat.reduceAdd, String.reduceEq, decide_true, decide_false, ite_true, ite_false, Bool.false_eq_true, if_true, if_false, true_and, and_true, Bool.not_true, Bool.not_false, List.length_cons, List.length_nil, reduceCtorEq, pIsiO_r, isO_ins ha]
    exact end_of h
abbrev s_is_type : Stmt := top 47
theorem sc_is_type : FnScope ["book", "value"] ["book", "value"] (defScope s_is_type) := ⟨rfl, rfl, rfl, by decide +kernel, rfl, by decide +kernel, by decide +kernel⟩
def spIsT (C : Addr) : Spc := fun ds μ q => ∃ (a : Addr) (rs : List Row) (d : D), ds = [.ref a, d] ∧ IsBook C μ a rs ∧ rs.length ≤ 1000 ∧ KtA μ d ∧ d.n ≤ sizeLine ∧ ∀ b : Bool, (b = true ↔ IsTy (rs.map Row.ar) d) → q (.bl b) μ
theorem ok_is_type (A : At K mg "is_type" s_is_type ["book", "value"]) (T : Bk K mg C) (D_check_book : Has P w K mg base "check_book" ["book"] 1 (spCheckB C)) (D_is_shape : Has P w K mg base "is_shape" ["value", "arities"] 5 spShape) : Has P w K mg base "is_type" ["book", "value"] 6 (spIsT C) := by
  refine .mk A fun f fd F => ?_
  refine qfn F sc_is_type (by decide) ?len (fun cdv A outer s H E hr => (qss_cons (qs_expr (qe_call D_check_book (hr.mono (by decide)) (qa_cons (qv 0) qa_nil)))
  (qss_one (qs_ret (qe_call D_is_shape (hr.mono (by decide)) (qa_cons (qv 1) (qa_cons (qe_fld ⟨T.cl, T.na_arities⟩ (qv 0)) qa_nil))))))) ?body
  case len => rintro ds μ q ⟨_, _, _, rfl, _⟩; rfl
  case body =>
    rintro ds μ q ⟨a, rs, d, rfl, ⟨dx, ha⟩, hl, hk, hn, h⟩
    simp only [PW, Nat.reduceAdd, String.reduceEq, decide_true, decide_false, ite_true, ite_false, Bool.false_eq_true, if_true, if_false, true_and, and_true, Bool.not_true, Bool.not_false, List.length_cons, List.length_nil, reduceCtorEq]
    refine ⟨a, rs, rfl, ⟨dx, ha⟩, ?_⟩
    simp only [PW, Nat.reduceAdd, String.reduceEq, decide_true, decide_false, ite_true, ite_false, Bool.false_eq_true, if_true, if_false, true_and, and_true, Bool.not_true, Bool.not_false, List.length_cons, List.length_nil, reduceCtorEq, onIns_ref ha, lk_ars]
    exact ⟨d, rs.map Row.ar, by rw [arsD_ar], hk, hn, by rw [List.length_map]; exact sl1000 hl, fun b hb => end_of (h b hb)⟩
abbrev s_check_type : Stmt := top 48
theorem sc_check_type : FnScope ["book", "T"] ["book", "T"] (defScope s_check_type) := ⟨rfl, rfl, rfl, by decide +kernel, rfl, by decide +kernel, by decide +kernel⟩
def TyOk (C : Addr) (μ : Mu) (a : Addr) (rs : List Row) (T : Ty) : Prop := IsBook C μ a rs ∧ rs.length ≤ 1000 ∧ T.Ok (rs.map Row.ar) ∧ T.sz ≤ 300
def spCheckT (C : Addr) : Spc := fun ds μ q => ∃ (a : Addr) (rs : List Row) (T : Ty), ds = [.ref a, T.d] ∧ TyOk C μ a rs T ∧ q .non μ
theorem ok_check_type (A : At K mg "check_type" s_check_type ["book", "T"]) (D_is_type : Has P w K mg base "is_type" ["book", "value"] 6 (spIsT C)) : Has P w K mg base "check_type" ["book", "T"] 7 (spCheckT C) := by
  refine .mk A fun f fd F => ?_
  refine qfn F sc_check_type (by decide) ?len (fun cdv A outer s H E hr => (qss_one (qs_if (qt_not (qt_val (qe_call D_is_type (hr.mono (by decide)) (qa_cons (qv 0) (qa_cons (qv 1) qa_nil))))) (qss_one qs_never) qss_nil))) ?body
  case len => rintro ds μ q ⟨_, _, _, rfl, _⟩; rfl
  case body =>
    rintro ds μ q ⟨a, rs, T, rfl, ⟨hb, hl, ho, hs⟩, h⟩
    simp only [PW, Nat.reduceAdd, String.reduceEq, decide_true, decide_false, ite_true, ite_false, Bool.false_eq_true, if_true, if_false, true_and, and_true, Bool.not_true, Bool.not_false, List.length_cons, List.length_nil, reduceCtorEq]
    refine ⟨a, rs, T.d, rfl, hb, hl, kta_d _ T (Nat.le_refl _) hs, n_d300 hs, fun b hb => ?_⟩
    have : b = true := hb.mpr ⟨T, rfl, ho, hs⟩
    subst this
    simp only [PW, Nat.reduceAdd, String.reduceEq, decide_true, decide_false, ite_true, ite_false, Bool.false_eq_true, if_true, if_false, true_and, and_true, Bool.not_true, Bool.not_false, List.length_cons, List.length_nil, reduceCtorEq]
    exact end_of h
def spAreT (C : Addr) : Spc := fun ds μ q => ∃ (a : Addr) (rs : List Row) (us : List Ty), ds = [.ref a, tysD us] ∧ IsBook C μ a rs ∧ rs.length ≤ 1000 ∧ us.length ≤ 1000 ∧ (∀ u ∈ us, u.Ok (rs.map Row.ar) ∧ u.sz ≤ 300) ∧ q (.bl true) μ
def spSizeOf (C : Addr) : Spc := fun ds μ q => ∃ (a : Addr) (rs : List Row) (T : Ty), ds = [.ref a, T.d] ∧ TyOk C μ a rs T ∧ q (.int (T.sz : Nat)) μ
def spVarsOf (C : Addr) : Spc := fun ds μ q => ∃ (a : Addr) (rs : List Row) (T : Ty), ds = [.ref a, T.d] ∧ TyOk C μ a rs T ∧ q (natsD T.ord) μ
def ren (T : Ty) : Ty := T.sub fun n => tv (idx T.ord n)
def spRen (C : Addr) : Spc := fun ds μ q => ∃ (a : Addr) (rs : List Row) (T : Ty), ds = [.ref a, T.d] ∧ TyOk C μ a rs T ∧ q (ren T).d μ
def spPutIn : Spc := fun ds μ q => ∃ (T : Ty) (a : Addr) (σ : Nat → Ty) (ns : List Nat), ds = [T.d, .ref a] ∧ T.Fm ∧ T.sz ≤ 1000 ∧ (T.sub σ).sz ≤ 300 ∧ μ a = some (.dk (nk (fun n => (σ n).d) ns)) ∧ ns.Nodup ∧ ns.length ≤ 1000 ∧ (∀ n ∈ ns, (σ n).Fm ∧ (σ n).sz ≤ 1000) ∧ (∀ n ∈ T.vars, n ∈ ns) ∧ q (T.sub σ).d μ
def spPut (C : Addr) : Spc := fun ds μ q => ∃ (a : Addr) (rs : List Row) (T : Ty) (us : List Ty), ds = [.ref a, T.d, tysD us] ∧ TyOk C μ a rs T ∧ us.length ≤ 1000 ∧ (∀ u ∈ us, u.Ok (rs.map Row.ar) ∧ u.sz ≤ 300) ∧ (∀ n ∈ T.vars, n < us.length) ∧ (T.sub (sg us)).sz ≤ 300 ∧ q (T.sub (sg us)).d μ
end
end Pl
namespace Pl
open PySem L2
theorem lc_mapf {α : Type} {pg : PGx} {pt : PTx} {pe : PEx} {ss : SS} {ok : Mu → Prop} {q : List D → Mu → Prop} {μ : Mu} (g f : α → D) {ts : List α} (hok : ok μ)
    (hs : ∀ t ∈ ts, ∀ (ky : D → Mu → Prop) (kn : Mu → Prop), ky (f t) μ → lcStep pg pt pe ss (g t) μ ky kn) (h : q (ts.map f) μ) : lcGo pg pt pe ss ok q (ts.map g) [] μ := by
  have key : ∀ (ts : List α) (acc : List D), (∀ t ∈ ts, ∀ (ky : D → Mu → Prop) (kn : Mu → Prop), ky (f t) μ → lcStep pg pt pe ss (g t) μ ky kn) → q (acc ++ ts.map f) μ → lcGo pg pt pe ss ok q (ts.map g) acc μ := by
    intro ts
    induction ts with
    | nil => intro acc _ h; exact ⟨hok, by simpa using h⟩
    | cons t r ih =>
      intro acc hs h
      refine ⟨hok, hs t List.mem_cons_self _ _ (ih (acc ++ [f t]) (fun u hu => hs u (List.mem_cons_of_mem _ hu)) ?_)⟩
      rw [List.append_assoc]
      exact h
  exact key ts [] hs h
theorem szs_take : ∀ (i : Nat) (ts : List Ty), Ty.szs (ts.take i) ≤ Ty.szs ts
  | 0, ts => by rw [List.take_zero, szs_nil]; exact Nat.zero_le _
  | i + 1, [] => by rw [List.take_nil]; exact Nat.le_refl _
  | i + 1, t :: r => by rw [List.take_succ_cons, szs_cons, szs_cons]; have := szs_take i r; omega
theorem flat_nats (acc : List Nat) : (acc.map fun (n : Nat) => D.int (n : Int)).all flatD = true := by
  rw [List.all_map, List.all_eq_true]
  intro n _
  rfl
theorem inD_nats (n : Nat) (acc : List Nat) : inD (.int (n : Int)) (acc.map fun (n : Nat) => D.int (n : Int)) = decide (n ∈ acc) := by
  unfold inD
  rw [List.any_map, Bool.eq_iff_iff, List.any_eq_true, decide_eq_true_iff]
  constructor
  · rintro ⟨m, hm, e⟩
    have e : eqF (.int (m : Int)) (.int (n : Int)) = true := e
    have : (m : Int) = (n : Int) := by simpa [eqF] using e
    have : m = n := by omega
    rw [← this]
    exact hm
  · intro h
    exact ⟨n, h, by show eqF (.int (n : Int)) (.int (n : Int)) = true; simp [eqF]⟩
theorem filt_nats (acc l : List Nat) : ((l.map fun (n : Nat) => D.int (n : Int)).filter fun y => !inD y (acc.map fun (n : Nat) => .int (n : Int))).map id = (l.filter fun n => !decide (n ∈ acc)).map fun (n : Nat) => D.int (n : Int) := by
  rw [List.map_id, List.filter_map]
  congr 1
  refine List.filter_congr fun n _ => ?_
  show (!inD (.int (n : Int)) _) = _
  rw [inD_nats]
theorem enumD_nats {ns : List Nat} (hd : ns.Nodup) : enumD (ns.map fun (n : Nat) => D.int (n : Int)) = ns.map fun (n : Nat) => D.tup [.int (idx ns n : Nat), .int (n : Int)] := by
  apply List.ext_getElem?
  intro i
  by_cases hi : i < ns.length
  · have e : ns[i]? = some ns[i] := List.getElem?_eq_getElem hi
    rw [enumD_get (d := .int (ns[i] : Nat)) (by rw [List.getElem?_map, e]; rfl), List.getElem?_map, e]
    show _ = some (D.tup [.int (idx ns ns[i] : Nat), .int (ns[i] : Nat)])
    rw [idx_at hd e]
  · rw [List.getElem?_eq_none (by rw [enumD_len, List.length_map]; omega), List.getElem?_eq_none (by rw [List.length_map]; omega)]
theorem pairs_nats {f : Nat → Nat} : ∀ {ns : List Nat}, pairsD (ns.map fun (n : Nat) => D.tup [.int (n : Int), .tup [.str "var", .int (f n : Nat)]]) = some (ns.map fun (n : Nat) => ((.inl (n : Int) : Key), (tv (f n)).d))
  | [] => rfl
  | n :: r => by
    rw [List.map_cons, pairsD, pairs_nats (ns := r), List.map_cons, d_var]
    rfl
theorem cutm2 {a b : D} : cutD [a, b] none (some (-1)) = [a] := rfl
theorem cutm3 {a b c : D} : cutD [a, b, c] none (some (-1)) = [a, b] := rfl
end Pl
namespace Pl
open PySem L2
/-! ### texts of types -/
abbrev dq : Str := "''"
abbrev sq1 : Str := "'"
def letT (n : Nat) : Str := ⟨#[97 + n % 26]⟩
def tailT (n : Nat) : Str := if n / 26 > 0 then toString ((n / 26 : Nat) : Int) else Str.empty
/-- a variable -/
def varT (ms : List Nat) (n : Nat) : Str := (if n ∈ ms then dq else sq1) ++ letT n ++ tailT n
def parT (b : Bool) (s : Str) : Str := if b = true then "(" ++ s ++ ")" else s
structure T3 where
  a : Str
  b : Str
  c : Str
def wrapT (nm : Nat → Str) (ms : List Nat) (l : Lab) (ks : List T3) (r : Nat) : Str := match l with
  | .var n => varT ms n
  | .fn => match ks with
    | [x, y] => parT (decide (0 < r)) (x.b ++ " -> " ++ y.a)
    | _ => Str.empty
  | .tup => match ks with
    | [] => "unit"
    | _ => parT (decide (1 < r)) (Str.join " * " (ks.map T3.c))
  | .made s => match ks with
    | [] => nm s
    | [x] => x.c ++ " " ++ nm s
    | _ => "(" ++ Str.join ", " (ks.map T3.a) ++ ") " ++ nm s
mutual
def Ty.tx (nm : Nat → Str) (ms : List Nat) : Ty → Nat → Str
  | .node l ts, r => wrapT nm ms l (Ty.txs nm ms ts) r
def Ty.txs (nm : Nat → Str) (ms : List Nat) : List Ty → List T3
  | [] => []
  | t :: r => ⟨Ty.tx nm ms t 0, Ty.tx nm ms t 1, Ty.tx nm ms t 2⟩ :: Ty.txs nm ms r
end
theorem tx_eq (nm : Nat → Str) (ms : List Nat) (T : Ty) (r : Nat) : T.tx nm ms r = wrapT nm ms T.lab (Ty.txs nm ms T.kids) r := by
  cases T
  rw [Ty.tx]
  rfl
theorem txs_nil (nm : Nat → Str) (ms : List Nat) : Ty.txs nm ms [] = [] := by rw [Ty.txs]
theorem txs_cons (nm : Nat → Str) (ms : List Nat) (t : Ty) (r : List Ty) : Ty.txs nm ms (t :: r) = ⟨t.tx nm ms 0, t.tx nm ms 1, t.tx nm ms 2⟩ :: Ty.txs nm ms r := by rw [Ty.txs]
theorem txs_map (nm : Nat → Str) (ms : List Nat) : ∀ (ts : List Ty), Ty.txs nm ms ts = ts.map fun t => ⟨t.tx nm ms 0, t.tx nm ms 1, t.tx nm ms 2⟩
  | [] => txs_nil nm ms
  | t :: r => by rw [txs_cons, txs_map nm ms r]; rfl
/-! ### tokens -/
inductive Tk where
  | lp | rp | cm | ar | st | unit | word (s : Nat) | post (s : Nat) | var (n : Nat)
  deriving DecidableEq
abbrev cs (s : Str) : List Nat := s.cps.toList
theorem cs_app (a b : Str) : cs (a ++ b) = cs a ++ cs b := by
  show (a.cps ++ b.cps).toList = _
  exact Array.toList_append
def rd (nm : Nat → Str) (ms : List Nat) : Tk → List Nat
  | .lp => [40]
  | .rp => [41]
  | .cm => [44, 32]
  | .ar => [32, 45, 62, 32]
  | .st => [32, 42, 32]
  | .unit => [117, 110, 105, 116]
  | .word s => cs (nm s)
  | .post s => 32 :: cs (nm s)
  | .var n => cs (varT ms n)
def rds (nm : Nat → Str) (ms : List Nat) (ts : List Tk) : List Nat := (ts.map (rd nm ms)).flatten
theorem rds_nil (nm : Nat → Str) (ms : List Nat) : rds nm ms [] = [] := rfl
theorem rds_cons (nm : Nat → Str) (ms : List Nat) (t : Tk) (r : List Tk) : rds nm ms (t :: r) = rd nm ms t ++ rds nm ms r := rfl
theorem rds_app (nm : Nat → Str) (ms : List Nat) (a b : List Tk) : rds nm ms (a ++ b) = rds nm ms a ++ rds nm ms b := by
  unfold rds
  rw [List.map_append, List.flatten_append]
def parK (b : Bool) (s : List Tk) : List Tk := if b = true then .lp :: (s ++ [.rp]) else s
structure K3 where
  a : List Tk
  b : List Tk
  c : List Tk
def sepK (x : Tk) : List (List Tk) → List Tk
  | [] => []
  | [p] => p
  | p :: q :: r => p ++ x :: sepK x (q :: r)
def wrapK (l : Lab) (ks : List K3) (r : Nat) : List Tk := match l with
  | .var n => [.var n]
  | .fn => match ks with
    | [x, y] => parK (decide (0 < r)) (x.b ++ .ar :: y.a)
    | _ => []
  | .tup => match ks with
    | [] => [.unit]
    | _ => parK (decide (1 < r)) (sepK .st (ks.map K3.c))
  | .made s => match ks with
    | [] => [.word s]
    | [x] => x.c ++ [.post s]
    | _ => .lp :: (sepK .cm (ks.map K3.a) ++ [.rp, .post s])
mutual
def Ty.tk : Ty → Nat → List Tk
  | .node l ts, r => wrapK l (Ty.tks ts) r
def Ty.tks : List Ty → List K3
  | [] => []
  | t :: r => ⟨Ty.tk t 0, Ty.tk t 1, Ty.tk t 2⟩ :: Ty.tks r
end
theorem tk_eq (T : Ty) (r : Nat) : T.tk r = wrapK T.lab (Ty.tks T.kids) r := by
  cases T
  rw [Ty.tk]
  rfl
theorem tks_nil : Ty.tks [] = [] := by rw [Ty.tks]
theorem tks_cons (t : Ty) (r : List Ty) : Ty.tks (t :: r) = ⟨t.tk 0, t.tk 1, t.tk 2⟩ :: Ty.tks r := by rw [Ty.tks]
theorem tks_map : ∀ (ts : List Ty), Ty.tks ts = ts.map fun t => ⟨t.tk 0, t.tk 1, t.tk 2⟩
  | [] => tks_nil
  | t :: r => by rw [tks_cons, tks_map r]; rfl
theorem cs_lp : cs "(" = [40] := by decide +kernel
theorem cs_rp : cs ")" = [41] := by decide +kernel
theorem cs_cm : cs ", " = [44, 32] := by decide +kernel
theorem cs_ar : cs " -> " = [32, 45, 62, 32] := by decide +kernel
theorem cs_st : cs " * " = [32, 42, 32] := by decide +kernel
theorem cs_rs : cs ") " = [41, 32] := by decide +kernel
theorem cs_bl : cs " " = [32] := by decide +kernel
theorem cs_unit : cs "unit" = [117, 110, 105, 116] := by decide +kernel
theorem cs_par (nm : Nat → Str) (ms : List Nat) (b : Bool) (s : Str) (k : List Tk) (h : cs s = rds nm ms k) : cs (parT b s) = rds nm ms (parK b k) := by
  cases b with
  | false => exact h
  | true =>
    show cs ("(" ++ s ++ ")") = rds nm ms (.lp :: (k ++ [.rp]))
    rw [cs_app, cs_app, rds_cons, rds_app, h, cs_lp, cs_rp]
    rfl
theorem cs_join (nm : Nat → Str) (ms : List Nat) {sep : Str} {x : Tk} (hx : cs sep = rd nm ms x) : ∀ (ss : List Str) (ks : List (List Tk)), ss.map cs = ks.map (rds nm ms) → cs (Str.join sep ss) = rds nm ms (sepK x ks)
  | [], [], _ => rfl
  | [], _ :: _, h => nomatch h
  | _ :: _, [], h => nomatch h
  | [a], [k], h => by
    injection h with h1 h2
  | [a], _ :: _ :: _, h => by
    injection h with _ h2
    cases h2
  | _ :: _ :: _, [k], h => by
    injection h with _ h2
    cases h2
  | a :: b :: r, k :: l :: q, h => by
    injection h with h1 h2
    show cs (a ++ sep ++ Str.join sep (b :: r)) = rds nm ms (k ++ x :: sepK x (l :: q))
    rw [cs_app, cs_app, cs_join nm ms hx (b :: r) (l :: q) h2, rds_app, rds_cons, h1, hx, List.append_assoc]
theorem map_len {α β γ : Type} {f : α → γ} {g : β → γ} {a : List α} {b : List β} (h : a.map f = b.map g) : a.length = b.length := by
  have := congrArg List.length h
  rwa [List.length_map, List.length_map] at this
theorem cs_wrap (nm : Nat → Str) (ms : List Nat) (l : Lab) : ∀ (ts : List T3) (ks : List K3), ts.map (fun t => (cs t.a, cs t.b, cs t.c)) = ks.map (fun k => (rds nm ms k.a, rds nm ms k.b, rds nm ms k.c)) → ∀ r, cs (wrapT nm ms l ts r) = rds nm ms (wrapK l ks r) := by
  intro ts ks h r
  have ha : (ts.map T3.a).map cs = (ks.map K3.a).map (rds nm ms) := by
    have := congrArg (List.map fun p => p.1) h
    simpa [List.map_map, Function.comp_def] using this
  have hc : (ts.map T3.c).map cs = (ks.map K3.c).map (rds nm ms) := by
    have := congrArg (List.map fun p => p.2.2) h
    simpa [List.map_map, Function.comp_def] using this
  cases l with
  | var n => show cs (varT ms n) = rds nm ms [.var n]; rw [rds_cons, rds_nil, List.append_nil]; rfl
  | fn =>
    match ts, ks, h with
    | [], [], _ => rfl
    | [_], [_], _ => rfl
    | _ :: _ :: _ :: _, _ :: _ :: _ :: _, _ => rfl
    | [_], _ :: _ :: _, h => exact absurd (map_len h) (by simp)
    | [_, _], [_], h => exact absurd (map_len h) (by simp)
    | [_, _], _ :: _ :: _ :: _, h => exact absurd (map_len h) (by simp)
    | _ :: _ :: _ :: _, [_], h => exact absurd (map_len h) (by simp)
    | _ :: _ :: _ :: _, [_, _], h => exact absurd (map_len h) (by simp)
    | [x, y], [k, m], h =>
      injection h with h1 h2
      injection h2 with h2 _
      have e1 : cs x.b = rds nm ms k.b := (Prod.ext_iff.mp (Prod.ext_iff.mp h1).2).1
      have e2 : cs y.a = rds nm ms m.a := (Prod.ext_iff.mp h2).1
      refine cs_par nm ms _ _ _ ?_
      rw [cs_app, cs_app, rds_app, rds_cons, e1, e2, cs_ar, List.append_assoc]
      rfl
  | tup =>
    match ts, ks, h with
    | [], [], _ => show cs "unit" = rds nm ms [.unit]; rw [cs_unit]; rfl
    | x :: ts, k :: ks, h => exact cs_par nm ms _ _ _ (cs_join nm ms cs_st _ _ hc)
  | made s =>
    match ts, ks, h with
    | [], [], _ => show cs (nm s) = rds nm ms [.word s]; rw [rds_cons, rds_nil, List.append_nil]; rfl
    | [x], [k], h =>
      injection h with h1 _
      have e1 : cs x.c = rds nm ms k.c := (Prod.ext_iff.mp (Prod.ext_iff.mp h1).2).2
      show cs (x.c ++ " " ++ nm s) = rds nm ms (k.c ++ [.post s])
      rw [cs_app, cs_app, rds_app, e1, cs_bl, List.append_assoc, rds_cons, rds_nil, List.append_nil]
      rfl
    | [_], _ :: _ :: _, h => exact absurd (map_len h) (by simp)
    | _ :: _ :: _, [_], h => exact absurd (map_len h) (by simp)
    | x :: y :: ts, k :: m :: ks, h =>
      show cs ("(" ++ Str.join ", " _ ++ ") " ++ nm s) = rds nm ms (.lp :: (sepK .cm _ ++ [.rp, .post s]))
      rw [cs_app, cs_app, cs_app, cs_join nm ms (x := .cm) cs_cm _ _ ha, rds_cons, rds_app, cs_lp, cs_rs, rds_cons, rds_cons, rds_nil, List.append_nil]
      simp only [List.append_assoc]
      rfl
mutual
theorem cs_tx (nm : Nat → Str) (ms : List Nat) : ∀ (T : Ty) (r : Nat), cs (T.tx nm ms r) = rds nm ms (T.tk r)
  | .node l ts, r => by
    rw [Ty.tx, Ty.tk]
    exact cs_wrap nm ms l _ _ (cs_txs nm ms ts) r
theorem cs_txs (nm : Nat → Str) (ms : List Nat) : ∀ (ts : List Ty), (Ty.txs nm ms ts).map (fun t => (cs t.a, cs t.b, cs t.c)) = (Ty.tks ts).map (fun k => (rds nm ms k.a, rds nm ms k.b, rds nm ms k.c))
  | [] => by rw [Ty.txs, Ty.tks]; rfl
  | t :: r => by
    rw [Ty.txs, Ty.tks, List.map_cons, List.map_cons, cs_txs nm ms r, cs_tx nm ms t 0, cs_tx nm ms t 1, cs_tx nm ms t 2]
end
end Pl
namespace Pl
open PySem L2
/-! ### reading tokens back -/
def posts : Ty → List Tk → Ty × List Tk
  | a, .post s :: r => posts (.node (.made s) [a]) r
  | a, r => (a, r)
def noPost (r : List Tk) : Prop := ∀ s q, r ≠ .post s :: q
def noSt (r : List Tk) : Prop := ∀ q, r ≠ .st :: q
def noAr (r : List Tk) : Prop := ∀ q, r ≠ .ar :: q
theorem posts_no (a : Ty) {r : List Tk} (h : noPost r) : posts a r = (a, r) := by
  match r, h with
  | [], _ => rfl
  | .post s :: q, h => exact absurd rfl (h s q)
  | .lp :: _, _ | .rp :: _, _ | .cm :: _, _ | .ar :: _, _ | .st :: _, _ | .unit :: _, _ | .word _ :: _, _ | .var _ :: _, _ => rfl
def one (acc : List Ty) : Ty := match acc with
  | [a] => a
  | _ => .node .tup acc
mutual
def p0 : Nat → List Tk → Option (Ty × List Tk)
  | 0, _ => none
  | k + 1, ts => match p1 k ts with
    | none => none
    | some (a, .ar :: r) => match p0 k r with
      | none => none
      | some (b, q) => some (.node .fn [a, b], q)
    | some z => some z
def p1 : Nat → List Tk → Option (Ty × List Tk)
  | 0, _ => none
  | k + 1, ts => match p2 k ts with
    | none => none
    | some (a, r) => p1s k [a] r
def p1s : Nat → List Ty → List Tk → Option (Ty × List Tk)
  | 0, _, _ => none
  | k + 1, acc, .st :: r => match p2 k r with
    | none => none
    | some (b, q) => p1s k (acc ++ [b]) q
  | _ + 1, acc, r => some (one acc, r)
def p2 : Nat → List Tk → Option (Ty × List Tk)
  | 0, _ => none
  | k + 1, ts => match rdA k ts with
    | none => none
    | some (a, r) => some (posts a r)
def rdA : Nat → List Tk → Option (Ty × List Tk)
  | 0, _ => none
  | _ + 1, .var n :: r => some (.node (.var n) [], r)
  | _ + 1, .unit :: r => some (.node .tup [], r)
  | _ + 1, .word s :: r => some (.node (.made s) [], r)
  | k + 1, .lp :: r => match p0 k r with
    | none => none
    | some (a, .rp :: q) => some (a, q)
    | some (a, .cm :: q) => rdC k [a] q
    | some _ => none
  | _ + 1, _ => none
def rdC : Nat → List Ty → List Tk → Option (Ty × List Tk)
  | 0, _, _ => none
  | k + 1, acc, ts => match p0 k ts with
    | none => none
    | some (b, .cm :: q) => rdC k (acc ++ [b]) q
    | some (b, .rp :: .post s :: q) => some (.node (.made s) (acc ++ [b]), q)
    | some _ => none
end
/-- from some number of turns on -/
def Ev (f : Nat → Option (Ty × List Tk)) (z : Ty × List Tk) : Prop := ∃ N, ∀ k, N ≤ k → f k = some z
def S2 (T : Ty) : Prop := ∀ rest, Ev (fun k => p2 k (T.tk 2 ++ rest)) (posts T rest)
def S1 (T : Ty) : Prop := ∀ rest, noPost rest → noSt rest → Ev (fun k => p1 k (T.tk 1 ++ rest)) (T, rest)
def S0 (T : Ty) : Prop := ∀ rest, noPost rest → noSt rest → noAr rest → Ev (fun k => p0 k (T.tk 0 ++ rest)) (T, rest)
theorem ev_succ {f : Nat → Option (Ty × List Tk)} {z : Ty × List Tk} (N : Nat) (h : ∀ k, N ≤ k → f (k + 1) = some z) : Ev f z := ⟨N + 1, fun k hk => by
  obtain ⟨j, rfl⟩ : ∃ j, k = j + 1 := ⟨k - 1, by omega⟩
  exact h j (by omega)⟩
theorem p0_of {ts r : List Tk} {a : Ty} (h : Ev (fun k => p1 k ts) (a, r)) (ha : noAr r) : Ev (fun k => p0 k ts) (a, r) := by
  obtain ⟨N, hN⟩ := h
  dsimp only at hN
  refine ev_succ N fun k hk => ?_
  show p0 (k + 1) ts = _
  rw [p0, hN k hk]
  match r, ha with
  | [], _ => rfl
  | .ar :: q, ha => exact absurd rfl (ha q)
  | .lp :: _, _ | .rp :: _, _ | .cm :: _, _ | .post _ :: _, _ | .st :: _, _ | .unit :: _, _ | .word _ :: _, _ | .var _ :: _, _ => rfl
theorem p0_fn {ts r q : List Tk} {a b : Ty} (h : Ev (fun k => p1 k ts) (a, .ar :: r)) (h2 : Ev (fun k => p0 k r) (b, q)) : Ev (fun k => p0 k ts) (.node .fn [a, b], q) := by
  obtain ⟨N, hN⟩ := h
  dsimp only at hN
  obtain ⟨M, hM⟩ := h2
  dsimp only at hM
  refine ev_succ (max N M) fun k hk => ?_
  show p0 (k + 1) ts = _
  rw [p0, hN k (by omega)]
  show (match p0 k r with | none => none | some (b, q) => some (Ty.node .fn [a, b], q)) = _
  rw [hM k (by omega)]
theorem p1s_end {acc : List Ty} {r : List Tk} (h : noSt r) : Ev (fun k => p1s k acc r) (one acc, r) := by
  refine ev_succ 0 fun k _ => ?_
  show p1s (k + 1) acc r = _
  match r, h with
  | [], _ => rw [p1s]; exact fun _ e => nomatch e
  | .st :: q, h => exact absurd rfl (h q)
  | .lp :: _, _ | .rp :: _, _ | .cm :: _, _ | .post _ :: _, _ | .ar :: _, _ | .unit :: _, _ | .word _ :: _, _ | .var _ :: _, _ => rw [p1s]; exact fun _ e => nomatch e
theorem p1s_more {acc : List Ty} {r q : List Tk} {b : Ty} {z : Ty × List Tk} (h : Ev (fun k => p2 k r) (b, q)) (h2 : Ev (fun k => p1s k (acc ++ [b]) q) z) : Ev (fun k => p1s k acc (.st :: r)) z := by
  obtain ⟨N, hN⟩ := h
  dsimp only at hN
  obtain ⟨M, hM⟩ := h2
  dsimp only at hM
  refine ev_succ (max N M) fun k hk => ?_
  show p1s (k + 1) acc (.st :: r) = _
  rw [p1s, hN k (by omega)]
  exact hM k (by omega)
theorem p1_of {ts r : List Tk} {a : Ty} {z : Ty × List Tk} (h : Ev (fun k => p2 k ts) (a, r)) (h2 : Ev (fun k => p1s k [a] r) z) : Ev (fun k => p1 k ts) z := by
  obtain ⟨N, hN⟩ := h
  dsimp only at hN
  obtain ⟨M, hM⟩ := h2
  dsimp only at hM
  refine ev_succ (max N M) fun k hk => ?_
  show p1 (k + 1) ts = _
  rw [p1, hN k (by omega)]
  exact hM k (by omega)
theorem p2_of {ts r : List Tk} {a : Ty} (h : Ev (fun k => rdA k ts) (a, r)) : Ev (fun k => p2 k ts) (posts a r) := by
  obtain ⟨N, hN⟩ := h
  dsimp only at hN
  refine ev_succ N fun k hk => ?_
  show p2 (k + 1) ts = _
  rw [p2, hN k hk]
theorem pA_par {ts q : List Tk} {a : Ty} (h : Ev (fun k => p0 k ts) (a, .rp :: q)) : Ev (fun k => rdA k (.lp :: ts)) (a, q) := by
  obtain ⟨N, hN⟩ := h
  dsimp only at hN
  refine ev_succ N fun k hk => ?_
  show rdA (k + 1) (.lp :: ts) = _
  rw [rdA, hN k hk]
theorem pA_many {ts q : List Tk} {a : Ty} {z : Ty × List Tk} (h : Ev (fun k => p0 k ts) (a, .cm :: q)) (h2 : Ev (fun k => rdC k [a] q) z) : Ev (fun k => rdA k (.lp :: ts)) z := by
  obtain ⟨N, hN⟩ := h
  dsimp only at hN
  obtain ⟨M, hM⟩ := h2
  dsimp only at hM
  refine ev_succ (max N M) fun k hk => ?_
  show rdA (k + 1) (.lp :: ts) = _
  rw [rdA, hN k (by omega)]
  exact hM k (by omega)
theorem pC_more {ts q : List Tk} {acc : List Ty} {b : Ty} {z : Ty × List Tk} (h : Ev (fun k => p0 k ts) (b, .cm :: q)) (h2 : Ev (fun k => rdC k (acc ++ [b]) q) z) : Ev (fun k => rdC k acc ts) z := by
  obtain ⟨N, hN⟩ := h
  dsimp only at hN
  obtain ⟨M, hM⟩ := h2
  dsimp only at hM
  refine ev_succ (max N M) fun k hk => ?_
  show rdC (k + 1) acc ts = _
  rw [rdC, hN k (by omega)]
  exact hM k (by omega)
theorem pC_end {ts q : List Tk} {acc : List Ty} {b : Ty} {s : Nat} (h : Ev (fun k => p0 k ts) (b, .rp :: .post s :: q)) : Ev (fun k => rdC k acc ts) (.node (.made s) (acc ++ [b]), q) := by
  obtain ⟨N, hN⟩ := h
  dsimp only at hN
  refine ev_succ N fun k hk => ?_
  show rdC (k + 1) acc ts = _
  rw [rdC, hN k hk]
theorem no3 {x : Tk} {r : List Tk} (h1 : ∀ s, x ≠ .post s) (h2 : x ≠ .st) (h3 : x ≠ .ar) : noPost (x :: r) ∧ noSt (x :: r) ∧ noAr (x :: r) :=
  ⟨fun s q e => h1 s (by injection e), fun q e => h2 (by injection e), fun q e => h3 (by injection e)⟩
theorem no_rp (r : List Tk) : noPost (.rp :: r) ∧ noSt (.rp :: r) ∧ noAr (.rp :: r) := no3 (fun _ e => nomatch e) (fun e => nomatch e) (fun e => nomatch e)
theorem no_cm (r : List Tk) : noPost (.cm :: r) ∧ noSt (.cm :: r) ∧ noAr (.cm :: r) := no3 (fun _ e => nomatch e) (fun e => nomatch e) (fun e => nomatch e)
/-- in parentheses -/
theorem par_S2 {T : Ty} (h : S0 T) (e : T.tk 2 = .lp :: (T.tk 0 ++ [.rp])) : S2 T := fun rest => by
  rw [e, List.cons_append, List.append_assoc]
  exact p2_of (pA_par (h (.rp :: rest) (no_rp _).1 (no_rp _).2.1 (no_rp _).2.2))
theorem S1_of {T : Ty} (h : S2 T) (e : T.tk 1 = T.tk 2) : S1 T := fun rest h1 h2 => by
  rw [e]
  have := h rest
  rw [posts_no T h1] at this
  exact p1_of this (p1s_end h2)
theorem S0_of {T : Ty} (h : S1 T) (e : T.tk 0 = T.tk 1) : S0 T := fun rest h1 h2 h3 => by
  rw [e]
  exact p0_of (h rest h1 h2) h3
theorem atom_S2 {T : Ty} {x : Tk} (e : T.tk 2 = [x]) (h : ∀ k r, rdA (k + 1) (x :: r) = some (T, r)) : S2 T := fun rest => by
  rw [e]
  exact p2_of (ev_succ 0 fun k _ => h k rest)
/-- a row of parts with stars -/
theorem stars {rest : List Tk} (h1 : noPost rest) (h2 : noSt rest) : ∀ (ts : List Ty) (acc : List Ty) (t : Ty), S2 t → (∀ u ∈ ts, S2 u) → Ev (fun k => p1s k acc (.st :: (sepK .st ((t :: ts).map fun u => u.tk 2) ++ rest))) (one (acc ++ t :: ts), rest)
  | [], acc, t, ht, _ => by
    have := ht rest
    rw [posts_no t h1] at this
    exact p1s_more this (p1s_end h2)
  | u :: ts, acc, t, ht, hs => by
    have h3 := no3 (x := .st) (r := sepK .st ((u :: ts).map fun u => u.tk 2) ++ rest) (fun _ e => nomatch e)
    have e : sepK .st ((t :: u :: ts).map fun u => u.tk 2) ++ rest = t.tk 2 ++ .st :: (sepK .st ((u :: ts).map fun u => u.tk 2) ++ rest) := by
      show (t.tk 2 ++ .st :: sepK .st _) ++ rest = _
      rw [List.append_assoc]
      rfl
    rw [e]
    have := ht (.st :: (sepK .st ((u :: ts).map fun u => u.tk 2) ++ rest))
    rw [posts_no t (fun s q e => by cases e)] at this
    refine p1s_more this ?_
    have := stars h1 h2 ts (acc ++ [t]) u (hs u List.mem_cons_self) fun v hv => hs v (List.mem_cons_of_mem _ hv)
    rwa [List.append_assoc] at this
/-- a row of parts with commas -/
theorem commas {rest : List Tk} {s : Nat} : ∀ (ts : List Ty) (acc : List Ty) (t : Ty), S0 t → (∀ u ∈ ts, S0 u) → Ev (fun k => rdC k acc (sepK .cm ((t :: ts).map fun u => u.tk 0) ++ .rp :: .post s :: rest)) (.node (.made s) (acc ++ t :: ts), rest)
  | [], acc, t, ht, _ => pC_end (ht _ (no_rp _).1 (no_rp _).2.1 (no_rp _).2.2)
  | u :: ts, acc, t, ht, hs => by
    have e : sepK .cm ((t :: u :: ts).map fun u => u.tk 0) ++ .rp :: .post s :: rest = t.tk 0 ++ .cm :: (sepK .cm ((u :: ts).map fun u => u.tk 0) ++ .rp :: .post s :: rest) := by
      show (t.tk 0 ++ .cm :: sepK .cm _) ++ _ = _
      rw [List.append_assoc]
      rfl
    rw [e]
    refine pC_more (ht _ (no_cm _).1 (no_cm _).2.1 (no_cm _).2.2) ?_
    have := commas (rest := rest) (s := s) ts (acc ++ [t]) u (hs u List.mem_cons_self) fun v hv => hs v (List.mem_cons_of_mem _ hv)
    rwa [List.append_assoc] at this
def ShN (l : Lab) (n : Nat) : Prop := match l with
  | .var _ => n = 0
  | .fn => n = 2
  | .tup => n ≠ 1
  | .made _ => True
mutual
def Ty.Sh : Ty → Prop
  | .node l ts => ShN l ts.length ∧ Ty.Shs ts
def Ty.Shs : List Ty → Prop
  | [] => True
  | t :: r => Ty.Sh t ∧ Ty.Shs r
end
theorem kc (ts : List Ty) : (Ty.tks ts).map K3.c = ts.map fun u => u.tk 2 := by rw [tks_map, List.map_map]; rfl
theorem ka (ts : List Ty) : (Ty.tks ts).map K3.a = ts.map fun u => u.tk 0 := by rw [tks_map, List.map_map]; rfl
mutual
theorem reads : ∀ (T : Ty), T.Sh → S0 T ∧ S1 T ∧ S2 T
  | .node l ts, h => by
    rw [Ty.Sh] at h
    obtain ⟨hn, hs⟩ := h
    have ih := readss ts hs
    have all2 : S2 (.node l ts) → (Ty.node l ts).tk 0 = (Ty.node l ts).tk 2 → (Ty.node l ts).tk 1 = (Ty.node l ts).tk 2 → S0 (.node l ts) ∧ S1 (.node l ts) ∧ S2 (.node l ts) := fun h e0 e1 =>
      ⟨S0_of (S1_of h e1) (e0.trans e1.symm), S1_of h e1, h⟩
    cases l with
    | var n =>
      have e : ts = [] := List.eq_nil_of_length_eq_zero hn
      subst e
      refine all2 (atom_S2 (x := .var n) (by rw [Ty.tk]; rfl) fun k r => by rw [rdA]) ?_ ?_ <;> rw [Ty.tk, Ty.tk] <;> rfl
    | fn =>
      match ts, hn, ih with
      | [a, b], _, ih =>
        have e0 : (Ty.node .fn [a, b]).tk 0 = a.tk 1 ++ .ar :: b.tk 0 := by rw [Ty.tk, tks_cons, tks_cons, tks_nil]; rfl
        have e1 : (Ty.node .fn [a, b]).tk 1 = .lp :: ((Ty.node .fn [a, b]).tk 0 ++ [.rp]) := by rw [e0, Ty.tk, tks_cons, tks_cons, tks_nil]; rfl
        have e2 : (Ty.node .fn [a, b]).tk 2 = .lp :: ((Ty.node .fn [a, b]).tk 0 ++ [.rp]) := by rw [e0, Ty.tk, tks_cons, tks_cons, tks_nil]; rfl
        have s0 : S0 (.node .fn [a, b]) := fun rest h1 h2 h3 => by
          rw [e0, List.append_assoc]
          exact p0_fn ((ih a List.mem_cons_self).2.1 (.ar :: (b.tk 0 ++ rest)) (fun s q e => by cases e) (fun q e => by cases e)) ((ih b (List.mem_cons_of_mem _ List.mem_cons_self)).1 rest h1 h2 h3)
        have s2 := par_S2 s0 e2
        exact ⟨s0, S1_of s2 (e1.trans e2.symm), s2⟩
    | tup =>
      match ts, hn, ih with
      | [], _, _ => refine all2 (atom_S2 (x := .unit) (by rw [Ty.tk, tks_nil]; rfl) fun k r => by rw [rdA]) ?_ ?_ <;> rw [Ty.tk, Ty.tk, tks_nil] <;> rfl
      | [_], hn, _ => exact absurd rfl hn
      | a :: b :: ts, _, ih =>
        have e0 : (Ty.node .tup (a :: b :: ts)).tk 0 = sepK .st ((a :: b :: ts).map fun u => u.tk 2) := by rw [Ty.tk, ← kc, tks_cons, tks_cons]; rfl
        have e1 : (Ty.node .tup (a :: b :: ts)).tk 1 = (Ty.node .tup (a :: b :: ts)).tk 0 := by rw [e0, Ty.tk, ← kc, tks_cons, tks_cons]; rfl
        have e2 : (Ty.node .tup (a :: b :: ts)).tk 2 = .lp :: ((Ty.node .tup (a :: b :: ts)).tk 0 ++ [.rp]) := by rw [e0, Ty.tk, ← kc, tks_cons, tks_cons]; rfl
        have s1 : S1 (.node .tup (a :: b :: ts)) := fun rest h1 h2 => by
          rw [e1, e0]
          have ee : sepK .st ((a :: b :: ts).map fun u => u.tk 2) ++ rest = a.tk 2 ++ .st :: (sepK .st ((b :: ts).map fun u => u.tk 2) ++ rest) := by
            show (a.tk 2 ++ .st :: sepK .st _) ++ rest = _
            rw [List.append_assoc]
            rfl
          rw [ee]
          have ha := (ih a List.mem_cons_self).2.2 (.st :: (sepK .st ((b :: ts).map fun u => u.tk 2) ++ rest))
          rw [posts_no a (fun s q e => by cases e)] at ha
          refine p1_of ha ?_
          exact stars h1 h2 ts [a] b (ih b (List.mem_cons_of_mem _ List.mem_cons_self)).2.2 fun u hu => (ih u (List.mem_cons_of_mem _ (List.mem_cons_of_mem _ hu))).2.2
        have s0 := S0_of s1 e1.symm
        exact ⟨s0, s1, par_S2 s0 e2⟩
    | made s =>
      match ts, ih with
      | [], _ => refine all2 (atom_S2 (x := .word s) (by rw [Ty.tk, tks_nil]; rfl) fun k r => by rw [rdA]) ?_ ?_ <;> rw [Ty.tk, Ty.tk, tks_nil] <;> rfl
      | [a], ih =>
        have e : ∀ r, (Ty.node (.made s) [a]).tk r = a.tk 2 ++ [.post s] := fun r => by rw [Ty.tk, tks_cons, tks_nil]; rfl
        refine all2 (fun rest => ?_) (by rw [e, e]) (by rw [e, e])
        rw [e, List.append_assoc]
        exact (ih a List.mem_cons_self).2.2 (.post s :: rest)
      | a :: b :: ts, ih =>
        have e : ∀ r, (Ty.node (.made s) (a :: b :: ts)).tk r = .lp :: (sepK .cm ((a :: b :: ts).map fun u => u.tk 0) ++ [.rp, .post s]) := fun r => by rw [Ty.tk, ← ka, tks_cons, tks_cons]; rfl
        refine all2 (fun rest => ?_) (by rw [e, e]) (by rw [e, e])
        rw [e]
        have ee : (.lp :: (sepK .cm ((a :: b :: ts).map fun u => u.tk 0) ++ [.rp, .post s])) ++ rest = .lp :: (a.tk 0 ++ .cm :: (sepK .cm ((b :: ts).map fun u => u.tk 0) ++ .rp :: .post s :: rest)) := by
          show Tk.lp :: (((a.tk 0 ++ .cm :: sepK .cm _) ++ _) ++ rest) = _
          rw [List.append_assoc, List.append_assoc]
          rfl
        rw [ee]
        have ha := (ih a List.mem_cons_self).1 _ (no_cm (sepK .cm ((b :: ts).map fun u => u.tk 0) ++ .rp :: .post s :: rest)).1 (no_cm _).2.1 (no_cm _).2.2
        exact p2_of (pA_many ha (commas ts [a] b (ih b (List.mem_cons_of_mem _ List.mem_cons_self)).1 fun u hu => (ih u (List.mem_cons_of_mem _ (List.mem_cons_of_mem _ hu))).1))
theorem readss : ∀ (ts : List Ty), Ty.Shs ts → ∀ t ∈ ts, S0 t ∧ S1 t ∧ S2 t
  | [], _, t, m => nomatch m
  | u :: r, h, t, m => by
    rw [Ty.Shs] at h
    rcases List.mem_cons.mp m with e | m
    · rw [e]
      exact reads u h.1
    · exact readss r h.2 t m
end
/-- unlike types have unlike rows of tokens -/
theorem tk_inj {T U : Ty} (h : T.Sh) (h' : U.Sh) (e : T.tk 0 = U.tk 0) : T = U := by
  obtain ⟨N, hN⟩ := (reads T h).1 [] (fun _ _ e => nomatch e) (fun _ e => nomatch e) (fun _ e => nomatch e)
  obtain ⟨M, hM⟩ := (reads U h').1 [] (fun _ _ e => nomatch e) (fun _ e => nomatch e) (fun _ e => nomatch e)
  have h1 := hN (max N M) (by omega)
  have h2 := hM (max N M) (by omega)
  have h1 : p0 (max N M) (T.tk 0 ++ []) = some (T, []) := h1
  have h2 : p0 (max N M) (U.tk 0 ++ []) = some (U, []) := h2
  rw [e, h2] at h1
  injection h1 with h1
  injection h1 with h1 _
  exact h1.symm
end Pl
namespace Pl
open PySem L2
/-! ### rows of signs have one row of tokens -/
abbrev isL (c : Nat) : Prop := 97 ≤ c ∧ c ≤ 122
abbrev isD (c : Nat) : Prop := 48 ≤ c ∧ c ≤ 57
/-- a row does not begin with such a sign -/
def NoHd (P : Nat → Prop) (r : List Nat) : Prop := ∀ c q, r = c :: q → ¬ P c
theorem run_inj {P : Nat → Prop} : ∀ {a b r q : List Nat}, (∀ c ∈ a, P c) → (∀ c ∈ b, P c) → NoHd P r → NoHd P q → a ++ r = b ++ q → a = b ∧ r = q
  | [], [], _, _, _, _, _, _, e => ⟨rfl, e⟩
  | [], c :: b, r, q, _, hb, hr, _, e => absurd (hb c List.mem_cons_self) (hr c (b ++ q) e)
  | c :: a, [], r, q, ha, _, _, hq, e => absurd (ha c List.mem_cons_self) (hq c (a ++ r) e.symm)
  | c :: a, d :: b, r, q, ha, hb, hr, hq, e => by
    injection e with e1 e2
    obtain ⟨h1, h2⟩ := run_inj (fun x hx => ha x (List.mem_cons_of_mem _ hx)) (fun x hx => hb x (List.mem_cons_of_mem _ hx)) hr hq e2
    exact ⟨by rw [e1, h1], h2⟩
/-- the printed names of some stamps -/
structure Nms (nm : Nat → Str) (S : List Nat) : Prop where
  let_ : ∀ s ∈ S, ∀ c ∈ cs (nm s), isL c
  ne : ∀ s ∈ S, cs (nm s) ≠ []
  inj : ∀ s ∈ S, ∀ t ∈ S, cs (nm s) = cs (nm t) → s = t
  nu : ∀ s ∈ S, cs (nm s) ≠ [117, 110, 105, 116]
def TkOk (S : List Nat) : Tk → Prop
  | .word s => s ∈ S
  | .post s => s ∈ S
  | .var n => n < 1000
  | _ => True
def tEnd : Tk → Bool
  | .word _ => true | .post _ => true | .unit => true | .var _ => true | _ => false
def tBeg : Tk → Bool
  | .word _ => true | .unit => true | .var _ => true | _ => false
/-- no two tokens side by side run into one -/
def Chain : List Tk → Prop
  | [] => True
  | [_] => True
  | a :: b :: r => (tEnd a = true → tBeg b = false) ∧ Chain (b :: r)
def digs (k : Nat) : List Nat := cs (toString ((k : Nat) : Int) : String)
theorem digs_d : ∀ k, k < 40 → ∀ c ∈ digs k, isD c := by decide +kernel
theorem digs_ne : ∀ k, k < 40 → digs k ≠ [] := by decide +kernel
theorem digs_inj : ∀ k, k < 40 → ∀ j, j < 40 → digs k = digs j → k = j := by decide +kernel
theorem cs_dq : cs dq = [39, 39] := by decide +kernel
theorem cs_sq : cs sq1 = [39] := by decide +kernel
def tailD (n : Nat) : List Nat := if n / 26 > 0 then digs (n / 26) else []
theorem cs_tail (n : Nat) : cs (tailT n) = tailD n := by
  unfold tailT tailD
  split
  · rfl
  · rfl
theorem cs_var (ms : List Nat) (n : Nat) : cs (varT ms n) = (if n ∈ ms then [39, 39] else [39]) ++ (97 + n % 26) :: tailD n := by
  unfold varT
  rw [cs_app, cs_app, cs_tail, List.append_assoc]
  have e : cs (if n ∈ ms then dq else sq1) = if n ∈ ms then [39, 39] else [39] := by
    split
    · exact cs_dq
    · exact cs_sq
  rw [e]
  rfl
theorem tail_d {n : Nat} (h : n < 1000) : ∀ c ∈ tailD n, isD c := by
  unfold tailD
  split
  · exact digs_d _ (by omega)
  · intro c hc
    cases hc
theorem tail_inj {n m : Nat} (h : n < 1000) (h' : m < 1000) (e : tailD n = tailD m) : n / 26 = m / 26 := by
  unfold tailD at e
  by_cases h1 : n / 26 > 0
  · rw [if_pos h1] at e
    by_cases h2 : m / 26 > 0
    · rw [if_pos h2] at e
      exact digs_inj _ (by omega) _ (by omega) e
    · rw [if_neg h2] at e
      exact absurd e (digs_ne _ (by omega))
  · rw [if_neg h1] at e
    by_cases h2 : m / 26 > 0
    · rw [if_pos h2] at e
      exact absurd e.symm (digs_ne _ (by omega))
    · omega
/-- the first sign of a token, and what is known of it -/
theorem rd_hd {nm : Nat → Str} {S ms : List Nat} (N : Nms nm S) {t : Tk} (h : TkOk S t) : ∃ c q, rd nm ms t = c :: q ∧ ¬ isD c ∧ (tBeg t = false → ¬ isL c) := by
  cases t with
  | lp => exact ⟨_, _, rfl, by decide, fun _ => by decide⟩
  | rp => exact ⟨_, _, rfl, by decide, fun _ => by decide⟩
  | cm => exact ⟨_, _, rfl, by decide, fun _ => by decide⟩
  | ar => exact ⟨_, _, rfl, by decide, fun _ => by decide⟩
  | st => exact ⟨_, _, rfl, by decide, fun _ => by decide⟩
  | unit => exact ⟨_, _, rfl, by decide, fun e => nomatch e⟩
  | post s => exact ⟨_, _, rfl, by decide, fun _ => by decide⟩
  | word s =>
    have h1 := N.ne s h
    have h2 := N.let_ s h
    show ∃ c q, cs (nm s) = c :: q ∧ _
    match e : cs (nm s), h1, h2 with
    | c :: q, _, h2 =>
      have := h2 c List.mem_cons_self
      exact ⟨c, q, rfl, by omega, fun e => nomatch e⟩
  | var n =>
    show ∃ c q, cs (varT ms n) = c :: q ∧ _
    rw [cs_var]
    split
    · exact ⟨_, _, rfl, by decide, fun e => nomatch e⟩
    · exact ⟨_, _, rfl, by decide, fun e => nomatch e⟩
theorem nohd_d {nm : Nat → Str} {S ms : List Nat} (N : Nms nm S) {ts : List Tk} (h : ∀ t ∈ ts, TkOk S t) : NoHd isD (rds nm ms ts) := by
  match ts, h with
  | [], _ => exact fun c q e => nomatch e
  | t :: r, h =>
    obtain ⟨c, q, e, hd, _⟩ := rd_hd (ms := ms) N (h t List.mem_cons_self)
    intro c' q' e'
    rw [rds_cons, e] at e'
    injection e' with e1 _
    rw [← e1]
    exact hd
theorem nohd_l {nm : Nat → Str} {S ms : List Nat} (N : Nms nm S) {a : Tk} {ts : List Tk} (h : ∀ t ∈ ts, TkOk S t) (hc : Chain (a :: ts)) (ha : tEnd a = true) : NoHd isL (rds nm ms ts) := by
  match ts, h, hc with
  | [], _, _ => exact fun c q e => nomatch e
  | t :: r, h, hc =>
    obtain ⟨c, q, e, _, hl⟩ := rd_hd (ms := ms) N (h t List.mem_cons_self)
    intro c' q' e'
    rw [rds_cons, e] at e'
    injection e' with e1 _
    rw [← e1]
    exact hl (hc.1 ha)
theorem chain_tl {a : Tk} {ts : List Tk} (h : Chain (a :: ts)) : Chain ts := by
  cases ts with
  | nil => trivial
  | cons b r => exact h.2
/-- the class of a token, by its first signs -/
def tCls : Tk → Nat
  | .lp => 0 | .rp => 1 | .cm => 2 | .ar => 3 | .st => 4 | .unit => 5 | .word _ => 5 | .post _ => 6 | .var _ => 7
theorem rds_inj {nm : Nat → Str} {S ms : List Nat} (N : Nms nm S) : ∀ {ts us : List Tk}, (∀ t ∈ ts, TkOk S t) → (∀ t ∈ us, TkOk S t) → Chain ts → Chain us → rds nm ms ts = rds nm ms us → ts = us
  | [], [], _, _, _, _, _ => rfl
  | [], u :: us, _, hu, _, _, e => by
    obtain ⟨c, q, e1, _⟩ := rd_hd (ms := ms) N (hu u List.mem_cons_self)
    rw [rds_cons, e1] at e
    cases e
  | t :: ts, [], ht, _, _, _, e => by
    obtain ⟨c, q, e1, _⟩ := rd_hd (ms := ms) N (ht t List.mem_cons_self)
    rw [rds_cons, e1] at e
    cases e
  | t :: ts, u :: us, ht, hu, ct, cu, e => by
    have ht1 := ht t List.mem_cons_self
    have hu1 := hu u List.mem_cons_self
    have hts : ∀ x ∈ ts, TkOk S x := fun x hx => ht x (List.mem_cons_of_mem _ hx)
    have hus : ∀ x ∈ us, TkOk S x := fun x hx => hu x (List.mem_cons_of_mem _ hx)
    rw [rds_cons, rds_cons] at e
    have fin : ∀ x : Tk, t = x → u = x → rds nm ms ts = rds nm ms us → t :: ts = u :: us := fun x e1 e2 e3 => by
      rw [e1, e2, rds_inj N hts hus (chain_tl ct) (chain_tl cu) e3]
    -- a row of letters on both sides
    have words : ∀ (a b : List Nat), rd nm ms t = a → rd nm ms u = b → (∀ c ∈ a, isL c) → (∀ c ∈ b, isL c) → tEnd t = true → tEnd u = true → a = b ∧ rds nm ms ts = rds nm ms us := fun a b e1 e2 h1 h2 h3 h4 => by
      rw [e1, e2] at e
      exact run_inj h1 h2 (nohd_l N hts ct h3) (nohd_l N hus cu h4) e
    have letter : ∀ s ∈ S, ∃ c q, cs (nm s) = c :: q ∧ isL c := fun s hs => by
      have h1 := N.ne s hs
      have h2 := N.let_ s hs
      match e : cs (nm s), h1, h2 with
      | c :: q, _, h2 => exact ⟨c, q, rfl, h2 c List.mem_cons_self⟩
    have lu : ∀ c ∈ [117, 110, 105, 116], isL c := by decide
    have W : ∀ s, TkOk S (.word s) → ∃ c q, rd nm ms (.word s) = c :: q ∧ 97 ≤ c ∧ c ≤ 122 := fun s hs => by
      obtain ⟨c, q, e, h⟩ := letter s hs
      exact ⟨c, q, e, h.1, h.2⟩
    have Ps : ∀ s, TkOk S (.post s) → ∃ c q, rd nm ms (.post s) = 32 :: c :: q ∧ 97 ≤ c ∧ c ≤ 122 := fun s hs => by
      obtain ⟨c, q, e, h⟩ := letter s hs
      exact ⟨c, q, congrArg (fun z => 32 :: z) e, h.1, h.2⟩
    have V : ∀ n, rd nm ms (.var n) = 39 :: ((if n ∈ ms then [39] else []) ++ (97 + n % 26) :: tailD n) := fun n => by
      show cs (varT ms n) = _
      rw [cs_var]
      split <;> rfl
    cases t <;> cases u
    case var.var n m =>
      rw [V, V] at e
      injection e with _ e
      have key : ∀ n m : Nat, ∀ ts us : List Tk, n < 1000 → m < 1000 → NoHd isD (rds nm ms ts) → NoHd isD (rds nm ms us) → (97 + n % 26) :: (tailD n ++ rds nm ms ts) = (97 + m % 26) :: (tailD m ++ rds nm ms us) → n = m ∧ rds nm ms ts = rds nm ms us := fun n m ts us hn hm h1 h2 e => by
        injection e with e1 e2
        obtain ⟨h3, h4⟩ := run_inj (tail_d hn) (tail_d hm) h1 h2 e2
        have := tail_inj hn hm h3
        exact ⟨by omega, h4⟩
      have fin2 : n = m ∧ rds nm ms ts = rds nm ms us := by
        by_cases h1 : n ∈ ms
        · rw [if_pos h1] at e
          by_cases h2 : m ∈ ms
          · rw [if_pos h2] at e
            injection e with _ e
            exact key n m ts us ht1 hu1 (nohd_d N hts) (nohd_d N hus) e
          · rw [if_neg h2] at e
            injection e with e1 _
            omega
        · rw [if_neg h1] at e
          by_cases h2 : m ∈ ms
          · rw [if_pos h2] at e
            injection e with e1 _
            omega
          · rw [if_neg h2] at e
            exact key n m ts us ht1 hu1 (nohd_d N hts) (nohd_d N hus) e
      obtain ⟨h1, h2⟩ := fin2
      exact fin (.var n) rfl (by rw [h1]) h2
    case word.word s z =>
      obtain ⟨h1, h2⟩ := words _ _ rfl rfl (N.let_ s ht1) (N.let_ z hu1) rfl rfl
      exact fin (.word s) rfl (by rw [N.inj s ht1 z hu1 h1]) h2
    case post.post s z =>
      injection e with _ e
      obtain ⟨h1, h2⟩ := run_inj (N.let_ s ht1) (N.let_ z hu1) (nohd_l N hts ct rfl) (nohd_l N hus cu rfl) e
      exact fin (.post s) rfl (by rw [N.inj s ht1 z hu1 h1]) h2
    case word.unit s =>
      obtain ⟨h1, _⟩ := words _ _ rfl rfl (N.let_ s ht1) lu rfl rfl
      exact absurd h1 (N.nu s ht1)
    case unit.word s =>
      obtain ⟨h1, _⟩ := words _ _ rfl rfl lu (N.let_ s hu1) rfl rfl
      exact absurd h1.symm (N.nu s hu1)
    all_goals try rw [V] at e
    all_goals first
      | exact fin _ rfl rfl (List.append_cancel_left e)
      | (exfalso; injection e with e1 _; revert e1; decide)
      | (exfalso; injection e with _ e; injection e with e1 _; revert e1; decide)
      | (exfalso; have k := W _ ht1; obtain ⟨c, q, e1, h1, h2⟩ := k; rw [e1] at e; injection e with e2 _; omega)
      | (exfalso; have k := W _ hu1; obtain ⟨c, q, e1, h1, h2⟩ := k; rw [e1] at e; injection e with e2 _; omega)
      | (exfalso; have k := Ps _ ht1; obtain ⟨c, q, e1, h1, h2⟩ := k; rw [e1] at e; injection e with e2 e3; first | omega | (injection e3 with e3 _; omega))
      | (exfalso; have k := Ps _ hu1; obtain ⟨c, q, e1, h1, h2⟩ := k; rw [e1] at e; injection e with e2 e3; first | omega | (injection e3 with e3 _; omega))
/-! ### the tokens of a type are right -/
def lastE (ts : List Tk) : Bool := match ts.getLast? with
  | some t => tEnd t
  | none => false
def firstB (ts : List Tk) : Bool := match ts with
  | t :: _ => tBeg t
  | [] => false
theorem chain_app : ∀ {a b : List Tk}, Chain a → Chain b → (lastE a = true → firstB b = false) → Chain (a ++ b)
  | [], b, _, h, _ => h
  | [x], [], _, _, _ => trivial
  | [x], y :: r, _, h, k => ⟨fun e => k e, h⟩
  | x :: y :: a, b, h, hb, k => ⟨h.1, chain_app (a := y :: a) h.2 hb (by
      intro e
      refine k ?_
      unfold lastE at e ⊢
      rwa [List.getLast?_cons_cons])⟩
theorem lastE_app (a : List Tk) {b : List Tk} (h : b ≠ []) : lastE (a ++ b) = lastE b := by
  unfold lastE
  rw [List.getLast?_append]
  cases e : b.getLast? with
  | none => exact absurd (List.getLast?_eq_none_iff.mp e) h
  | some t => rfl
end Pl
namespace Pl
open PySem L2
structure GoodK (S : List Nat) (ts : List Tk) : Prop where
  ne : ts ≠ []
  ok : ∀ t ∈ ts, TkOk S t
  ch : Chain ts
theorem GoodK.one {S : List Nat} {t : Tk} (h : TkOk S t) : GoodK S [t] := ⟨List.cons_ne_nil _ _, fun x hx => by rw [List.mem_singleton.mp hx]; exact h, trivial⟩
theorem firstB_app {a b : List Tk} (h : a ≠ []) : firstB (a ++ b) = firstB a := by
  cases a with
  | nil => exact absurd rfl h
  | cons x r => rfl
/-- a token that neither begins nor ends like a word, ahead of a row -/
theorem GoodK.cons {S : List Nat} {x : Tk} {b : List Tk} (h : GoodK S b) (hx : TkOk S x) (h1 : tEnd x = false) : GoodK S (x :: b) := by
  refine ⟨List.cons_ne_nil _ _, fun t ht => ?_, ?_⟩
  · rcases List.mem_cons.mp ht with e | ht
    · rw [e]
      exact hx
    · exact h.ok t ht
  · match b, h.ne, h.ch with
    | y :: r, _, hc => exact ⟨fun e => (by rw [h1] at e; cases e), hc⟩
theorem GoodK.app {S : List Nat} {a b : List Tk} (h : GoodK S a) (h' : GoodK S b) (hb : firstB b = false) : GoodK S (a ++ b) := by
  refine ⟨fun e => h.ne (List.append_eq_nil_iff.mp e).1, fun t ht => ?_, chain_app h.ch h'.ch fun _ => hb⟩
  rcases List.mem_append.mp ht with ht | ht
  · exact h.ok t ht
  · exact h'.ok t ht
theorem GoodK.sep {S : List Nat} {x : Tk} {a b : List Tk} (h : GoodK S a) (h' : GoodK S b) (hx : TkOk S x) (h1 : tEnd x = false) (h2 : tBeg x = false) : GoodK S (a ++ x :: b) := h.app (h'.cons hx h1) h2
theorem GoodK.par {S : List Nat} {a : List Tk} (h : GoodK S a) (b : Bool) : GoodK S (parK b a) := by
  cases b with
  | false => exact h
  | true => exact (h.app (.one (t := .rp) trivial) rfl).cons trivial rfl
theorem GoodK.sepK {S : List Nat} {x : Tk} (hx : TkOk S x) (h1 : tEnd x = false) (h2 : tBeg x = false) : ∀ {ks : List (List Tk)}, ks ≠ [] → (∀ k ∈ ks, GoodK S k) → GoodK S (Pl.sepK x ks)
  | [], h, _ => absurd rfl h
  | [k], _, h => h k List.mem_cons_self
  | k :: l :: r, _, h => (h k List.mem_cons_self).sep (GoodK.sepK hx h1 h2 (List.cons_ne_nil l r) fun m hm => h m (List.mem_cons_of_mem _ hm)) hx h1 h2
def GdL (S : List Nat) (l : Lab) (n : Nat) : Prop := match l with
  | .var k => n = 0 ∧ k < 1000
  | .fn => n = 2
  | .tup => n ≠ 1
  | .made s => s ∈ S
mutual
def Ty.Gd (S : List Nat) : Ty → Prop
  | .node l ts => GdL S l ts.length ∧ Ty.Gds S ts
def Ty.Gds (S : List Nat) : List Ty → Prop
  | [] => True
  | t :: r => Ty.Gd S t ∧ Ty.Gds S r
end
mutual
theorem Ty.Gd.sh {S : List Nat} : ∀ {T : Ty}, T.Gd S → T.Sh
  | .node l ts, h => by
    rw [Ty.Gd] at h
    rw [Ty.Sh]
    refine ⟨?_, Ty.Gds.shs h.2⟩
    have := h.1
    cases l with
    | var n => exact this.1
    | fn => exact this
    | tup => exact this
    | made s => trivial
theorem Ty.Gds.shs {S : List Nat} : ∀ {ts : List Ty}, Ty.Gds S ts → Ty.Shs ts
  | [], _ => by rw [Ty.Shs]; trivial
  | t :: r, h => by
    rw [Ty.Gds] at h
    rw [Ty.Shs]
    exact ⟨Ty.Gd.sh h.1, Ty.Gds.shs h.2⟩
end
def GoodK3 (S : List Nat) (k : K3) : Prop := GoodK S k.a ∧ GoodK S k.b ∧ GoodK S k.c
theorem wrap_good {S : List Nat} {l : Lab} {ks : List K3} (hl : GdL S l ks.length) (h : ∀ k ∈ ks, GoodK3 S k) (r : Nat) : GoodK S (wrapK l ks r) := by
  cases l with
  | var n => exact .one hl.2
  | fn =>
    match ks, hl, h with
    | [x, y], _, h => exact ((h x List.mem_cons_self).2.1.sep (x := .ar) (h y (List.mem_cons_of_mem _ List.mem_cons_self)).1 trivial rfl rfl).par _
  | tup =>
    match ks, h with
    | [], _ => exact .one trivial
    | x :: ks, h =>
      refine (GoodK.sepK (x := .st) trivial rfl rfl (by simp) fun k hk => ?_).par _
      obtain ⟨k', h1, rfl⟩ := List.mem_map.mp hk
      exact (h k' h1).2.2
  | made s =>
    match ks, h with
    | [], _ => exact .one hl
    | [x], h => exact (h x List.mem_cons_self).2.2.app (.one (t := .post s) hl) rfl
    | x :: y :: ks, h =>
      have g : GoodK S (sepK .cm ((x :: y :: ks).map K3.a)) := GoodK.sepK (x := .cm) trivial rfl rfl (by simp) fun k hk => by
        obtain ⟨k', h1, rfl⟩ := List.mem_map.mp hk
        exact (h k' h1).1
      exact (g.app ((GoodK.one (t := .post s) hl).cons (x := .rp) trivial rfl) rfl).cons trivial rfl
mutual
theorem tk_good {S : List Nat} : ∀ {T : Ty}, T.Gd S → ∀ r, GoodK S (T.tk r)
  | .node l ts, h, r => by
    rw [Ty.Gd] at h
    rw [Ty.tk]
    refine wrap_good ?_ (tks_good h.2) r
    rw [tks_map, List.length_map]
    exact h.1
theorem tks_good {S : List Nat} : ∀ {ts : List Ty}, Ty.Gds S ts → ∀ k ∈ Ty.tks ts, GoodK3 S k
  | [], _, k, hk => by
    rw [Ty.tks] at hk
    cases hk
  | t :: r, h, k, hk => by
    rw [Ty.Gds] at h
    rw [Ty.tks] at hk
    rcases List.mem_cons.mp hk with e | hk
    · rw [e]
      exact ⟨tk_good h.1 0, tk_good h.1 1, tk_good h.1 2⟩
    · exact tks_good h.2 k hk
end
/-- unlike types have unlike texts -/
theorem tx_inj {nm : Nat → Str} {S ms : List Nat} (N : Nms nm S) {T U : Ty} (h : T.Gd S) (h' : U.Gd S) (e : T.tx nm ms 0 = U.tx nm ms 0) : T = U := by
  refine tk_inj h.sh h'.sh ?_
  have g := tk_good h 0
  have g' := tk_good h' 0
  refine rds_inj (ms := ms) N g.ok g'.ok g.ch g'.ch ?_
  rw [← cs_tx, ← cs_tx, e]
def names9 : List Str := ["int", "string", "bool", "exn", "list", "ref", "pair", "box", "far"]
def nm9 (s : Nat) : Str := names9.getD (s - 1) Str.empty
def S9 : List Nat := [1, 2, 3, 4, 5, 6, 7, 8, 9]
theorem nms9 : Nms nm9 S9 := ⟨by decide +kernel, by decide +kernel, by decide +kernel, by decide +kernel⟩
end Pl
namespace Pl
open PySem L2
theorem fmod26 (n : Nat) : ((n : Int)).fmod ((26 : Nat) : Int) = ((n % 26 : Nat) : Int) := by
  rw [Int.fmod_eq_emod_of_nonneg _ (by decide)]
  omega
theorem fdiv26 (n : Nat) : ((n : Int)).fdiv ((26 : Nat) : Int) = ((n / 26 : Nat) : Int) := by
  rw [Int.fdiv_eq_ediv_of_nonneg _ (by decide)]
  omega
theorem low_at : ∀ i, i < 26 → LOWL.cps.toList[i]? = some (97 + i) := by decide +kernel
theorem digs_len : ∀ k, k < 40 → ((toString ((k : Nat) : Int) : String) : Str).length ≤ 2 := by decide +kernel
theorem line20 {n : Nat} (h : n ≤ 20) : n ≤ sizeLine := Nat.le_trans h (by decide)
inductive Itm where
  | txt (s : Str) | ty (T : Ty) (r : Nat)
def partI (sep : Str) (r : Nat) : List Ty → List Itm
  | [] => []
  | [t] => [.ty t r]
  | t :: u :: q => .ty t r :: .txt sep :: partI sep r (u :: q)
theorem partI_snoc (sep : Str) (r : Nat) (t : Ty) : ∀ (ts : List Ty), partI sep r (ts ++ [t]) = partI sep r ts ++ (if ts = [] then [] else [.txt sep]) ++ [.ty t r]
  | [] => rfl
  | [u] => rfl
  | u :: v :: q => by
    have := partI_snoc sep r t (v :: q)
    show .ty u r :: .txt sep :: partI sep r ((v :: q) ++ [t]) = _
    rw [this, if_neg (List.cons_ne_nil _ _), if_neg (List.cons_ne_nil _ _)]
    rfl
theorem partI_nil (sep : Str) (r : Nat) (ts : List Ty) : partI sep r ts = [] ↔ ts = [] := by
  match ts with
  | [] => exact ⟨fun _ => rfl, fun _ => rfl⟩
  | [t] => exact ⟨fun e => (nomatch e), fun e => (nomatch e)⟩
  | t :: u :: q => exact ⟨fun e => (nomatch e), fun e => (nomatch e)⟩
theorem partI_len (sep : Str) (r : Nat) : ∀ ts : List Ty, (partI sep r ts).length ≤ 2 * ts.length
  | [] => Nat.le_refl _
  | [t] => by show 1 ≤ 2; decide
  | t :: u :: q => by
    have := partI_len sep r (u :: q)
    show (partI sep r (u :: q)).length + 1 + 1 ≤ _
    rw [List.length_cons] at this ⊢
    rw [List.length_cons]
    omega
def madeI (z : Str) : List Ty → List Itm
  | [] => [.txt z]
  | [t] => [.ty t 2, .txt (" " ++ z)]
  | ts => .txt "(" :: (partI ", " 0 ts ++ [.txt (") " ++ z)])
theorem l_bl : (" " : Str).length = 1 := by decide +kernel
theorem l_rs : (") " : Str).length = 2 := by decide +kernel
def parI (b : Bool) (l : List Itm) : List Itm := if b = true then .txt "(" :: (l ++ [.txt ")"]) else l
def itemsI (nm : Nat → Str) (ms : List Nat) (l : Lab) (ts : List Ty) (r : Nat) : List Itm := match l with
  | .var n => [.txt (varT ms n)]
  | .fn => match ts with
    | [x, y] => parI (decide (0 < r)) [.ty x 1, .txt " -> ", .ty y 0]
    | _ => []
  | .tup => match ts with
    | [] => [.txt "unit"]
    | _ => parI (decide (1 < r)) (partI " * " 2 ts)
  | .made s => madeI (nm s) ts
def nmR (rows : List Row) (s : Nat) : Str := match rows[s - 1]? with
  | some row => row.nm
  | none => Str.empty
theorem sapp_assoc (a b c : Str) : a ++ b ++ c = a ++ (b ++ c) := by
  have h : ∀ x y : Str, x.cps = y.cps → x = y := fun x y e => by
    cases x
    cases y
    exact congrArg Str.mk e
  exact h _ _ (Array.append_assoc (xs := a.cps) (ys := b.cps) (zs := c.cps))
def txI (nm : Nat → Str) (ms : List Nat) : Itm → Str
  | .txt s => s
  | .ty T r => T.tx nm ms r
def catI (nm : Nat → Str) (ms : List Nat) : List Itm → Str
  | [] => Str.empty
  | i :: r => txI nm ms i ++ catI nm ms r
theorem catI_cons (nm : Nat → Str) (ms : List Nat) (i : Itm) (r : List Itm) : catI nm ms (i :: r) = txI nm ms i ++ catI nm ms r := rfl
theorem catI_app (nm : Nat → Str) (ms : List Nat) (b : List Itm) : ∀ a : List Itm, catI nm ms (a ++ b) = catI nm ms a ++ catI nm ms b
  | [] => (Str.empty_append _).symm
  | i :: r => by
    show txI nm ms i ++ catI nm ms (r ++ b) = txI nm ms i ++ catI nm ms r ++ catI nm ms b
    rw [catI_app nm ms b r, sapp_assoc]
theorem catI_part (nm : Nat → Str) (ms : List Nat) (sep : Str) (r : Nat) : ∀ ts : List Ty, catI nm ms (partI sep r ts) = Str.join sep (ts.map fun t => t.tx nm ms r)
  | [] => rfl
  | [t] => Str.append_empty _
  | t :: u :: q => by
    show t.tx nm ms r ++ (sep ++ catI nm ms (partI sep r (u :: q))) = t.tx nm ms r ++ sep ++ Str.join sep ((u :: q).map fun t => t.tx nm ms r)
    rw [catI_part nm ms sep r (u :: q), sapp_assoc]
theorem catI_par (nm : Nat → Str) (ms : List Nat) (b : Bool) (l : List Itm) : catI nm ms (parI b l) = parT b (catI nm ms l) := by
  unfold parI parT
  cases b with
  | false => rfl
  | true =>
    show (_ : Str) ++ catI nm ms (l ++ [.txt ")"]) = _ ++ catI nm ms l ++ _
    rw [catI_app, sapp_assoc]
    show _ ++ (_ ++ ((_ : Str) ++ Str.empty)) = _
    rw [Str.append_empty]
    rfl
theorem txs_a (nm : Nat → Str) (ms : List Nat) (ts : List Ty) : (Ty.txs nm ms ts).map T3.a = ts.map fun t => t.tx nm ms 0 := by rw [txs_map, List.map_map]; rfl
theorem txs_c (nm : Nat → Str) (ms : List Nat) (ts : List Ty) : (Ty.txs nm ms ts).map T3.c = ts.map fun t => t.tx nm ms 2 := by rw [txs_map, List.map_map]; rfl
theorem catI_items (nm : Nat → Str) (ms : List Nat) (l : Lab) (ts : List Ty) (r : Nat) (h : l = .fn → ts.length = 2) : catI nm ms (itemsI nm ms l ts r) = (Ty.node l ts).tx nm ms r := by
  rw [tx_eq]
  show _ = wrapT nm ms l (Ty.txs nm ms ts) r
  cases l with
  | var n => exact Str.append_empty _
  | fn =>
    match ts, h rfl with
    | [x, y], _ =>
      rw [txs_cons, txs_cons, txs_nil]
      show catI nm ms (parI (decide (0 < r)) _) = parT (decide (0 < r)) _
      rw [catI_par]
      show parT _ (_ ++ (_ ++ (_ ++ Str.empty))) = _
      rw [Str.append_empty, ← sapp_assoc]
      rfl
  | tup =>
    match ts with
    | [] => exact Str.append_empty _
    | t :: q =>
      have e := txs_c nm ms (t :: q)
      rw [txs_cons] at e ⊢
      show catI nm ms (parI (decide (1 < r)) _) = parT (decide (1 < r)) (Str.join " * " (T3.c _ :: _))
      rw [catI_par, catI_part, ← e]
      rfl
  | made s =>
    match ts with
    | [] => exact Str.append_empty _
    | [t] =>
      rw [txs_cons, txs_nil]
      show t.tx nm ms 2 ++ (" " ++ nm s ++ Str.empty) = t.tx nm ms 2 ++ " " ++ nm s
      rw [Str.append_empty, sapp_assoc]
    | t :: u :: q =>
      have e := txs_a nm ms (t :: u :: q)
      rw [txs_cons, txs_cons] at e ⊢
      show (_ : Str) ++ catI nm ms (partI ", " 0 (t :: u :: q) ++ [.txt (") " ++ nm s)]) = _ ++ Str.join ", " _ ++ _ ++ nm s
      rw [catI_app, catI_part, ← e]
      show (_ : Str) ++ (_ ++ (") " ++ nm s ++ Str.empty)) = _
      rw [Str.append_empty, sapp_assoc, sapp_assoc]
      rfl
def wI : Itm → Nat
  | .txt _ => 1
  | .ty T _ => 6 * T.sz - 2
def wIs : List Itm → Nat
  | [] => 0
  | i :: r => wI i + wIs r
theorem wIs_cons (i : Itm) (r : List Itm) : wIs (i :: r) = wI i + wIs r := rfl
theorem wIs_app (b : List Itm) : ∀ a : List Itm, wIs (a ++ b) = wIs a + wIs b
  | [] => (Nat.zero_add _).symm
  | i :: r => by
    show wI i + wIs (r ++ b) = wI i + wIs r + wIs b
    rw [wIs_app b r]
    omega
theorem wIs_rev : ∀ a : List Itm, wIs a.reverse = wIs a
  | [] => rfl
  | i :: r => by
    rw [List.reverse_cons, wIs_app, wIs_rev r]
    show wIs r + (wI i + 0) = wI i + wIs r
    omega
theorem wI_pos (i : Itm) : 1 ≤ wI i := by
  cases i with
  | txt s => exact Nat.le_refl _
  | ty T r =>
    have := sz_pos T
    show 1 ≤ 6 * T.sz - 2
    omega
theorem wIs_len : ∀ a : List Itm, a.length ≤ wIs a
  | [] => Nat.le_refl _
  | i :: r => by
    have := wIs_len r
    have := wI_pos i
    rw [List.length_cons, wIs_cons]
    omega
theorem wIs_part (sep : Str) (r : Nat) : ∀ ts : List Ty, wIs (partI sep r ts) + ts.length ≤ 6 * Ty.szs ts
  | [] => Nat.zero_le _
  | [t] => by
    have := sz_pos t
    rw [szs_cons, szs_nil]
    show 6 * t.sz - 2 + 0 + 1 ≤ _
    omega
  | t :: u :: q => by
    have h := wIs_part sep r (u :: q)
    have := sz_pos t
    rw [szs_cons, List.length_cons]
    show 6 * t.sz - 2 + (1 + wIs (partI sep r (u :: q))) + _ ≤ _
    omega
theorem wIs_par (b : Bool) (l : List Itm) : wIs (parI b l) ≤ wIs l + 2 := by
  unfold parI
  cases b with
  | false => exact Nat.le_add_right _ _
  | true =>
    rw [if_pos rfl, wIs_cons, wIs_app]
    show 1 + (wIs l + (1 + 0)) ≤ _
    omega
theorem wIs_items (nm : Nat → Str) (ms : List Nat) (l : Lab) (ts : List Ty) (r : Nat) : wIs (itemsI nm ms l ts r) < 6 * (Ty.node l ts).sz - 2 := by
  have hs : (Ty.node l ts).sz = Ty.szs ts + 1 := by rw [Ty.sz]
  rw [hs]
  cases l with
  | var n => show 1 + 0 < _; omega
  | fn =>
    match ts with
    | [x, y] =>
      have h1 := sz_pos x
      have h2 := sz_pos y
      have := wIs_par (decide (0 < r)) [.ty x 1, .txt " -> ", .ty y 0]
      have e : wIs [.ty x 1, .txt " -> ", .ty y 0] = 6 * x.sz - 2 + (1 + (6 * y.sz - 2 + 0)) := rfl
      rw [szs_cons, szs_cons, szs_nil]
      show wIs (parI _ _) < _
      omega
    | [] => show 0 < _; omega
    | [_] => show 0 < _; omega
    | _ :: _ :: _ :: _ => show 0 < _; omega
  | tup =>
    match ts with
    | [] => show 1 + 0 < _; omega
    | t :: q =>
      have := wIs_par (decide (1 < r)) (partI " * " 2 (t :: q))
      have := wIs_part " * " 2 (t :: q)
      show wIs (parI _ _) < _
      omega
  | made s =>
    match ts with
    | [] => show 1 + 0 < _; omega
    | [t] =>
      have := sz_pos t
      rw [szs_cons, szs_nil]
      show 6 * t.sz - 2 + (1 + 0) < _
      omega
    | t :: u :: q =>
      have h := wIs_part ", " 0 (t :: u :: q)
      show 1 + wIs (partI ", " 0 (t :: u :: q) ++ [.txt (") " ++ nm s)]) < _
      rw [wIs_app]
      show 1 + (_ + (1 + 0)) < _
      omega
def ItG (ar : List Nat) : Itm → Prop
  | .txt s => s.length ≤ 20
  | .ty T r => GTy ar T ∧ r ≤ 2
theorem part_good {ar : List Nat} {sep : Str} {r : Nat} (hs : sep.length ≤ 20) (hr : r ≤ 2) : ∀ {ts : List Ty}, (∀ t ∈ ts, GTy ar t) → ∀ i ∈ partI sep r ts, ItG ar i
  | [], _, i, hi => (nomatch hi)
  | [t], h, i, hi => by
    rw [List.mem_singleton.mp hi]
    exact ⟨h t (List.mem_singleton_self _), hr⟩
  | t :: u :: q, h, i, hi => by
    rcases List.mem_cons.mp hi with rfl | hi
    · exact ⟨h t List.mem_cons_self, hr⟩
    rcases List.mem_cons.mp hi with rfl | hi
    · exact hs
    · exact part_good hs hr (fun x hx => h x (List.mem_cons_of_mem _ hx)) i hi
theorem par_good {ar : List Nat} {b : Bool} {l : List Itm} (h : ∀ i ∈ l, ItG ar i) : ∀ i ∈ parI b l, ItG ar i := fun i hi => by
  unfold parI at hi
  cases b with
  | false => exact h i hi
  | true =>
    rcases List.mem_cons.mp hi with rfl | hi
    · show ("(" : Str).length ≤ 20
      decide +kernel
    rcases List.mem_append.mp hi with hi | hi
    · exact h i hi
    · rw [List.mem_singleton.mp hi]
      show (")" : Str).length ≤ 20
      decide +kernel
theorem varT_len (ms : List Nat) {n : Nat} (h : n < 1000) : (varT ms n).length ≤ 20 := by
  have h1 : (tailT n).length ≤ 2 := by
    unfold tailT
    split
    · exact digs_len (n / 26) (by omega)
    · show (0 : Nat) ≤ 2
      decide
  have h2 : (if n ∈ ms then dq else sq1).length ≤ 2 := by
    split
    · decide +kernel
    · decide +kernel
  unfold varT
  rw [strLen_append, strLen_append]
  have h3 : (letT n).length = 1 := rfl
  omega
theorem items_good {ar : List Nat} {nm : Nat → Str} {ms : List Nat} {l : Lab} {ts : List Ty} {r : Nat} (h : GTy ar (.node l ts)) (hz : ∀ s, (nm s).length ≤ 10) : ∀ i ∈ itemsI nm ms l ts r, ItG ar i := fun i hi => by
  have hk := h.kid
  have hn : ∀ n, l.num = some n → n < 1000 := (h.1 (.node l ts) (by rw [pre_eq]; exact List.mem_cons_self)).2
  cases l with
  | var n =>
    rw [List.mem_singleton.mp hi]
    exact varT_len ms (hn n rfl)
  | fn =>
    match ts, hi with
    | [x, y], hi =>
      refine par_good (fun i hi => ?_) i hi
      rcases List.mem_cons.mp hi with rfl | hi
      · exact ⟨hk x List.mem_cons_self, by omega⟩
      rcases List.mem_cons.mp hi with rfl | hi
      · show (" -> " : Str).length ≤ 20
        decide +kernel
      · rw [List.mem_singleton.mp hi]
        exact ⟨hk y (List.mem_cons_of_mem _ (List.mem_singleton_self _)), by omega⟩
  | tup =>
    match ts, hi with
    | [], hi =>
      rw [List.mem_singleton.mp hi]
      show ("unit" : Str).length ≤ 20
      decide +kernel
    | t :: q, hi => exact par_good (part_good (by decide +kernel) (by omega) hk) i hi
  | made s =>
    have h1 := hz s
    match ts, hi with
    | [], hi =>
      rw [List.mem_singleton.mp hi]
      show (nm s).length ≤ 20
      omega
    | [t], hi =>
      rcases List.mem_cons.mp hi with rfl | hi
      · exact ⟨hk t List.mem_cons_self, by omega⟩
      · rw [List.mem_singleton.mp hi]
        show (" " ++ nm s).length ≤ 20
        rw [strLen_append, l_bl]
        omega
    | t :: u :: q, hi =>
      rcases List.mem_cons.mp hi with rfl | hi
      · show ("(" : Str).length ≤ 20
        decide +kernel
      rcases List.mem_append.mp hi with hi | hi
      · exact part_good (by decide +kernel) (by omega) hk i hi
      · rw [List.mem_singleton.mp hi]
        show (") " ++ nm s).length ≤ 20
        rw [strLen_append, l_rs]
        omega
def catS : List Str → Str
  | [] => Str.empty
  | s :: r => s ++ catS r
theorem catS_snoc (x : Str) : ∀ a : List Str, catS (a ++ [x]) = catS a ++ x
  | [] => (Str.append_empty x).trans (Str.empty_append x).symm
  | s :: r => by
    show s ++ catS (r ++ [x]) = s ++ catS r ++ x
    rw [catS_snoc x r, sapp_assoc]
theorem str_ext {x y : Str} (e : x.cps = y.cps) : x = y := by
  cases x
  cases y
  exact congrArg Str.mk e
theorem glue_fold : ∀ (ys : List Str) (acc : Array Nat), List.foldl (fun acc (p : Str) => acc ++ Str.empty.cps ++ p.cps) acc ys = acc ++ (catS ys).cps
  | [], acc => by
    show acc = acc ++ (#[] : Array Nat)
    exact (Array.append_empty).symm
  | s :: r, acc => by
    rw [List.foldl_cons, glue_fold r]
    show acc ++ (#[] : Array Nat) ++ s.cps ++ (catS r).cps = acc ++ (s.cps ++ (catS r).cps)
    rw [Array.append_empty, Array.append_assoc]
theorem join_cat (ys : List Str) : Txt.join "" ys = catS ys := by
  apply str_ext
  match ys with
  | [] => rfl
  | s :: r => exact glue_fold r s.cps
end Pl
namespace Pl
open PySem L2
theorem catI_len (nm : Nat → Str) (ms : List Nat) : ∀ its : List Itm, (∀ i ∈ its, (txI nm ms i).length ≤ 20 * wI i) → (catI nm ms its).length ≤ 20 * wIs its
  | [], _ => Nat.le_refl _
  | i :: r, h => by
    have h1 := h i List.mem_cons_self
    have h2 := catI_len nm ms r fun j hj => h j (List.mem_cons_of_mem _ hj)
    rw [catI_cons, strLen_append, wIs_cons]
    omega
theorem wI_le {i : Itm} : ∀ {its : List Itm}, i ∈ its → wI i ≤ wIs its
  | j :: r, h => by
    rw [wIs_cons]
    rcases List.mem_cons.mp h with rfl | h
    · exact Nat.le_add_right _ _
    · have := wI_le h
      omega
theorem loc_fn {ar : List Nat} {l : Lab} {n : Nat} (h : LocOk ar l n) (e : l = .fn) : n = 2 := by
  rw [e] at h
  exact h
theorem GTy.loc {ar : List Nat} {T : Ty} (h : GTy ar T) : LocOk ar T.lab T.kids.length := (h.1 T (by rw [pre_eq]; exact List.mem_cons_self)).1
theorem tx_len {ar : List Nat} {nm : Nat → Str} {ms : List Nat} (hz : ∀ s, (nm s).length ≤ 10) : ∀ (k : Nat) (T : Ty), T.sz ≤ k → GTy ar T → ∀ r, (T.tx nm ms r).length ≤ 20 * (6 * T.sz - 2)
  | 0, T, h, _, _ => by
    have := sz_pos T
    omega
  | k + 1, T, h, hG, r => by
    obtain ⟨l, ts⟩ := T
    rw [← catI_items nm ms l ts r fun e => loc_fn hG.loc e]
    have h1 := wIs_items nm ms l ts r
    refine Nat.le_trans (catI_len nm ms _ fun i hi => ?_) (Nat.mul_le_mul_left 20 (Nat.le_of_lt h1))
    have h2 := items_good (nm := nm) (ms := ms) (r := r) hG hz i hi
    have h3 := wI_le hi
    cases i with
    | txt s =>
      have h2 : s.length ≤ 20 := h2
      show s.length ≤ 20 * 1
      omega
    | ty U r' =>
      obtain ⟨hU, _⟩ := h2
      have h4 : 6 * U.sz - 2 < 6 * (Ty.node l ts).sz - 2 := Nat.lt_of_le_of_lt h3 h1
      exact tx_len hz k U (by omega) hU r'
theorem tx_len' {ar : List Nat} {nm : Nat → Str} {ms : List Nat} (hz : ∀ s, (nm s).length ≤ 10) {T : Ty} (h : GTy ar T) (r : Nat) : (T.tx nm ms r).length ≤ 36000 := by
  have := tx_len (ms := ms) hz T.sz T (Nat.le_refl _) h r
  have := h.2
  omega
theorem len36 {n : Nat} (h : n ≤ 100000) : n ≤ sizeLine := Nat.le_trans h (by decide)
/-- parentheses that closed puts -/
def parOf (T : Ty) : Bool := T.lab.isFn || (T.lab.isTup && !T.kids.isEmpty)
theorem tx_2 (nm : Nat → Str) (ms : List Nat) (T : Ty) (h : T.lab = .fn → T.kids.length = 2) : T.tx nm ms 2 = parT (parOf T) (T.tx nm ms 0) := by
  obtain ⟨l, ts⟩ := T
  rw [tx_eq, tx_eq]
  cases l with
  | var n => rfl
  | fn =>
    match ts, h rfl with
    | [x, y], _ =>
      show wrapT nm ms .fn (Ty.txs nm ms [x, y]) 2 = parT true (wrapT nm ms .fn (Ty.txs nm ms [x, y]) 0)
      rw [txs_cons, txs_cons, txs_nil]
      rfl
  | tup =>
    match ts with
    | [] =>
      show wrapT nm ms .tup (Ty.txs nm ms []) 2 = parT false (wrapT nm ms .tup (Ty.txs nm ms []) 0)
      rw [txs_nil]
      rfl
    | t :: r =>
      show wrapT nm ms .tup (Ty.txs nm ms (t :: r)) 2 = parT true (wrapT nm ms .tup (Ty.txs nm ms (t :: r)) 0)
      rw [txs_cons]
      rfl
  | made s => rfl
theorem tx_1 (nm : Nat → Str) (ms : List Nat) (T : Ty) (h : T.lab = .fn → T.kids.length = 2) : T.tx nm ms 1 = if T.lab.isFn = true then T.tx nm ms 2 else T.tx nm ms 0 := by
  obtain ⟨l, ts⟩ := T
  rw [tx_eq, tx_eq, tx_eq]
  cases l with
  | var n => rfl
  | fn =>
    match ts, h rfl with
    | [x, y], _ =>
      show wrapT nm ms .fn (Ty.txs nm ms [x, y]) 1 = wrapT nm ms .fn (Ty.txs nm ms [x, y]) 2
      rw [txs_cons, txs_cons, txs_nil]
      rfl
  | tup =>
    match ts with
    | [] =>
      show wrapT nm ms .tup (Ty.txs nm ms []) 1 = wrapT nm ms .tup (Ty.txs nm ms []) 0
      rw [txs_nil]
      rfl
    | t :: r =>
      show wrapT nm ms .tup (Ty.txs nm ms (t :: r)) 1 = wrapT nm ms .tup (Ty.txs nm ms (t :: r)) 0
      rw [txs_cons]
      rfl
  | made s => rfl
theorem nm_short {rows : List Row} (hz : ∀ row ∈ rows, row.nm.length ≤ 10) (st : Nat) : (nmR rows st).length ≤ 10 := by
  unfold nmR
  cases h : rows[st - 1]? with
  | none => exact Nat.zero_le _
  | some row => exact hz row (List.mem_of_getElem? h)
def joinJ (sep : Str) : List Str → Str
  | [] => Str.empty
  | b :: r => sep ++ b ++ joinJ sep r
theorem join_J (sep : Str) : ∀ (r : List Str) (a : Str), Str.join sep (a :: r) = a ++ joinJ sep r
  | [], a => (Str.append_empty a).symm
  | b :: r, a => by
    show a ++ sep ++ Str.join sep (b :: r) = a ++ (sep ++ b ++ joinJ sep r)
    rw [join_J sep r b, sapp_assoc, sapp_assoc]
theorem glue_J (sep : Str) : ∀ (ys : List Str) (acc : Array Nat), List.foldl (fun acc (p : Str) => acc ++ sep.cps ++ p.cps) acc ys = acc ++ (joinJ sep ys).cps
  | [], acc => (Array.append_empty).symm
  | s :: r, acc => by
    rw [List.foldl_cons, glue_J sep r]
    show acc ++ sep.cps ++ s.cps ++ (joinJ sep r).cps = acc ++ (sep.cps ++ s.cps ++ (joinJ sep r).cps)
    rw [Array.append_assoc, Array.append_assoc, Array.append_assoc]
theorem txt_join (sep : Str) (ys : List Str) : Txt.join sep ys = Str.join sep ys := by
  match ys with
  | [] => exact str_ext rfl
  | s :: r =>
    rw [join_J]
    exact str_ext (glue_J sep r s.cps)
theorem sum_le (k : Nat) : ∀ l : List Str, (∀ z ∈ l, z.length ≤ k) → (l.map (·.length)).sum ≤ k * l.length
  | [], _ => Nat.zero_le _
  | z :: r, h => by
    have h1 := sum_le k r fun x hx => h x (List.mem_cons_of_mem _ hx)
    have h2 := h z List.mem_cons_self
    rw [List.map_cons, List.sum_cons, List.length_cons, Nat.mul_succ]
    omega
end Pl
namespace Pl
open PySem L2 PySem.Spec PyProof.Rows
/-! ### keywords, defaults -/
def AtD (K : PySem.W.Frag) (mg : Str → Option Value) (x : Str) (st : Stmt) (kws : List (Str × V)) : Prop := ∃ f fd, FunD K x x (defArgs st) (defBody st) (defScope st) [] kws f fd ∧ mg x = some (.ref f)
/-- a def whose last parameters have defaults dds: n values are written, the others by their names ks, or not at all -/
def HasD (P : Program) (w : World) (K : PySem.W.Frag) (mg : Str → Option Value) (base : Heap) (x : Str) (ps : List Str) (n : Nat) (ks : List Str) (dds : List D) (k : Nat) (sp : Spc) : Prop :=
  ∃ f fd, FnOk P w K mg base CX0 k f fd ps (raw K sp) ∧ (∃ ds vs, Vals vs ds ∧ (∀ H, RDs K H dds vs) ∧ Binds K fd ps ds) ∧ KBn K fd ps n ks (fun us ws => us ++ ws) (fun vs zs => vs ++ zs) ∧ PySem.W.keepIn K (.ref f) = true ∧ mg x = some (.ref f)
section
variable {P : Program} {w : World} {K : PySem.W.Frag} {mg : Str → Option Value} {base : Heap}
theorem qfnD {x qual : Str} {st : Stmt} {f : Addr} {fd : FuncData} {N ps : List Str} {dvs : List V} {kws : List (Str × V)} {k : Nat} {sp : Spc} {p : PSx} (F : FunD K x qual (defArgs st) (defBody st) (defScope st) dvs kws f fd) (S : FnScope N ps (defScope st)) (hlen : ps.length ≤ N.length)
    (len : ∀ ds μ q, sp ds μ q → ds.length = ps.length)
    (hb : ∀ (cdv : Value) (A : Around) (outer : List Env) (s : Shared) (H : Hp) (E : XK), Room k (A.deeper (envOfC qual (defScope st) s.heap.objs.size f cdv)) → QSs (cxOf CX0 P w K mg base N qual (defScope st) f cdv A outer s H E).nox (defBody st) p)
    (hs : ∀ ds μ q, sp ds μ q → p (endsOf q) (sinit N ds) μ) : FnOk P w K mg base CX0 (k + 1) f fd ps (raw K sp) := by
  refine F.ok S (fun vs H Q E h => ?_) (fun cdv A outer s H vs Q E hr h => ?_)
  · obtain ⟨ds, μ, q, r, _, h, _⟩ := h
    rw [r.len, len _ _ _ h]
  · obtain ⟨ds, μ, q, r, ab, h, fin⟩ := h
    obtain ⟨t, g, l⟩ := hb cdv A outer s H E hr
    refine ⟨t, g.nox, l (start N vs) H (sinit N ds) μ _ _ (RS.start r (by rw [len _ _ _ h]; exact hlen)) ab (hs ds μ q h) ⟨?_, ?_, fun _ _ _ _ _ _ _ h => h.elim, fun _ _ _ _ _ _ _ h => h.elim⟩⟩
    · rintro σ' H' ss' μ' f1 rs1 ab1 ⟨μ2, le, h2⟩
      exact fin _ _ _ μ2 (f1.less le) (le.abs ab1) .non h2
    · rintro v H' e μ' f1 ab1 r1 ⟨μ2, le, h2⟩
      exact fin _ _ _ μ2 (f1.less le) (le.abs ab1) r1 h2
/-- two ways to be called: m values, the keyword-only ones by default or by name -/
theorem HasD.mk {x : Str} {st : Stmt} {ps : List Str} {kws : List (Str × V)} {k n : Nat} {sp : Spc} {dds : List D} (A : AtD K mg x st kws) (h : ∀ f fd, FunD K x x (defArgs st) (defBody st) (defScope st) [] kws f fd → FnOk P w K mg base CX0 k f fd ps (raw K sp))
    (hk : kws ≠ []) (hn : n + kws.length = ps.length) (hd : ∀ H, RDs K H dds (kws.map (·.2)))
    (h0 : ∀ (D : Addr) (doc pm : Value) (an : Option Addr) (cdv ct : Value) (us ks : List Value), us.length = n → ks.length = kws.length →
      KwChain D ((kws.map (·.1)).zip ks) (bindArgs (PySem.W.fnOf x x (defArgs st) (defBody st) (defScope st) .none (.ref D) doc pm an cdv ct) ⟨us, []⟩) (ps.zip (us ++ ks)))
    (h1 : ∀ (kV doc pm : Value) (an : Option Addr) (cdv ct : Value) (us ws : List Value), us.length = n → ws.length = (kws.map (·.1)).length → bindArgs (PySem.W.fnOf x x (defArgs st) (defBody st) (defScope st) .none kV doc pm an cdv ct) ⟨us, (kws.map (·.1)).zip ws⟩ = pure (ps.zip (us ++ ws))) :
    HasD P w K mg base x ps n (kws.map (·.1)) dds k sp := by
  obtain ⟨f, fd, F, m⟩ := A
  obtain ⟨ds, hv, b⟩ := F.binds0 n hk hn h0
  refine ⟨f, fd, h f fd F, ⟨ds, _, hv, hd, b⟩, ?_, F.kp, m⟩
  obtain ⟨oc, od, dV, kV, doc, pm, an, cdv, ct, osl, rfl, lk, hcd, hD, hK⟩ := F.ex
  rcases hD with ⟨_, rfl⟩ | ⟨e, _⟩
  · exact ⟨fun s us ws _ hu hw => .of_eq (h1 kV doc pm an cdv ct us ws hu hw), fun r1 r2 => r1.append r2⟩
  · exact absurd rfl e
end
section
variable {X : Cx} {k n : Nat} {ps ks : List Str} {dds : List D} {sp : Spc} {x : Str} {p pos kpos : Pos} {e : Expr} {es : List Expr} {kws : List Keyword} {pa : PEx} {pr pk : PAx} {nm : Option Str}
def pCallD (sp : Spc) (dds : List D) (pr : PAx) : PEx := fun ss μ q => pr ss μ fun ds μ1 => sp (ds ++ dds) μ1 q
theorem qe_callD (D : HasD X.prog X.w X.K X.mg X.base x ps n ks dds k sp) (hr : Room k X.A) (ha : QA X (e :: es) pr) (hg : Gl X x := by rfl) (hdb : (x == ("__debug__" : Str)) = false := by decide) (he : starEach (e :: es) X.env = (false, eval e X.env) :: starEach es X.env := by rfl)
    (hpl : (backTo pos (starEach es X.env)).any (·.1) = false := by rfl) : QE X (.Call (.Name x p) (e :: es) [] pos) (pCallD sp dds pr) := by
  obtain ⟨f, fd, F, ⟨dv, vs, hv, hd, b⟩, _, kp, m⟩ := D
  obtain ⟨t, g, l⟩ := ha
  refine ⟨_, pe_call (E := E0) F hr hg m kp b hv pass0 g hdb he hpl, fun σ H ss μ q Q rs ab h k => ?_⟩
  refine l σ H ss μ _ _ rs ab h fun us H1 ds μ1 f1 ab1 r1 h1 => ?_
  exact ⟨ds ++ dds, μ1, q, r1.app (hd H1), ab1, h1, fun v H' d μ' f2 ab2 r2 h2 => k _ _ _ _ (f1.trans f2) ab2 r2 h2⟩
structure QK (X : Cx) (kws : List Keyword) (p : PAx) : Prop where
  ex : ∃ t, PK X kws t ∧ LiA X.K t p
theorem qk_nil : QK X [] pNil := ⟨_, pk_nil, fun σ H ss μ q Q rs ab h k => k [] H [] μ .refl ab .nil h⟩
theorem qk_cons (ha : QE X e pa) (hr : QK X kws pr) : QK X (⟨nm, e, kpos⟩ :: kws) (pCons pa pr) := by
  obtain ⟨t, h1, l1⟩ := ha
  obtain ⟨u, h2, l2⟩ := hr
  refine ⟨_, pk_cons h1 h2, fun σ H ss μ q Q rs ab h k => ?_⟩
  refine l1 σ H ss μ _ _ rs ab h fun v H1 d μ1 f1 ab1 r1 h1 => ?_
  refine l2 σ H1 ss μ1 _ _ (rs.mono f1.tup) ab1 h1 fun vs H2 ds μ2 f2 ab2 r2 h2 => ?_
  exact k _ H2 _ μ2 (f1.trans f2) ab2 (.cons (r1.mono f2.tup) r2) h2
def pCallN (n m : Nat) (sp : Spc) (pr pk : PAx) : PEx := fun ss μ q => pr ss μ fun ds μ1 => pk ss μ1 fun es μ2 => ds.length = n ∧ es.length = m ∧ sp (ds ++ es) μ2 q
theorem qe_callK (D : HasD X.prog X.w X.K X.mg X.base x ps n ks dds k sp) (hr : Room k X.A) (ha : QA X (e :: es) pr) (hkw : QK X kws pk) (hg : Gl X x := by rfl)
    (hall : (backToKw pos (keywordEach kws X.env)).all (·.1.isSome) = true := by rfl) (hks : (backToKw pos (keywordEach kws X.env)).filterMap (·.1) = ks := by rfl)
    (hdb : (x == ("__debug__" : Str)) = false := by decide) (he : starEach (e :: es) X.env = (false, eval e X.env) :: starEach es X.env := by rfl)
    (hpl : ((backTo pos (starEach (e :: es) X.env)).any (·.1) || (backToKw pos (keywordEach kws X.env)).any (·.1.isNone)) = false := by rfl) : QE X (.Call (.Name x p) (e :: es) kws pos) (pCallN n ks.length sp pr pk) := by
  obtain ⟨f, fd, F, _, b, kp, m⟩ := D
  obtain ⟨t, g, l⟩ := ha
  obtain ⟨u, g2, l2⟩ := hkw
  refine ⟨_, pe_callN (E := E0) F hr hg m kp b pass0 g g2 hall hks hdb he hpl, fun σ H ss μ q Q rs ab h k => ?_⟩
  refine l σ H ss μ _ _ rs ab h fun us H1 ds μ1 f1 ab1 r1 h1 => ?_
  refine l2 σ H1 ss μ1 _ _ (rs.mono f1.tup) ab1 h1 fun ws H2 es μ2 f2 ab2 r2 h2 => ?_
  obtain ⟨e1, e2, h3⟩ := h2
  exact ⟨by rw [r1.len, e1], by rw [r2.len, e2], ds ++ es, μ2, q, (r1.mono f2.tup).app r2, ab2, h3, fun v H' d μ' f3 ab3 r3 h4 => k _ _ _ _ ((f1.trans f2).trans f3) ab3 r3 h4⟩
end
/-! ### sorted -/
section
variable {X : Cx} {a : Expr} {pa : PEx} {p p2 pos q0 : Pos}
def pSorted : PRN := fun ds μ q => on1 ds fun d => onRef d fun a => onSome (rdl μ a) fun xs => ∃ ns : List Int, xs = ns.map D.int ∧ ∀ (js : List Int) (p : Addr), js.Perm ns → js.Pairwise (· ≤ ·) → μ p = none → q (.ref p) (mset μ p (.lst (js.map D.int)))
theorem qc_sortedI : QC X (.builtin "sorted") pSorted := by
  refine ⟨_, cr_sortedI, fun xs ds H μ q Q ab rd h k => ?_⟩
  obtain ⟨d, e, h⟩ := on1_of h
  subst e
  obtain ⟨v, rfl, r⟩ := rds1 rd
  obtain ⟨a, e, h⟩ := onRef_of h
  subst e
  obtain ⟨zs, e, ns, e2, h⟩ := onSome_of h
  subst e2
  obtain ⟨vs, h1, h2⟩ := ab.list e
  rw [h2.ints'] at h1
  exact ⟨a, ns, by rw [r.ref'], h1, fun js p hp hs hn => k _ _ _ _ (.put hn) (ab.put (o := .lst _) hn ⟨_, upd_same, RDs.ints⟩) .ref (h js p hp hs (ab.free hn))⟩
theorem kv_keys {K : PySem.W.Frag} {H : Hp} {κ : Type} : ∀ {kvs : List (κ × D)} {kws : List (κ × V)}, Kv K H kvs kws → kws.map (·.1) = kvs.map (·.1)
  | [], [], _ => rfl
  | _ :: _, _ :: _, .cons h r => by
    rw [List.map_cons, List.map_cons, kv_keys r, h.1]
def pSortedD : PRN := fun ds μ q => on1 ds fun d => onRef d fun a => onSome (rdk μ a) fun kvs => ∃ ns : List Int, kvs.map (·.1) = ns.map Sum.inl ∧ ns.length < 64 ∧ ∀ (js : List Int) (p : Addr), js.Perm ns → js.Pairwise (· ≤ ·) → μ p = none → q (.ref p) (mset μ p (.lst (js.map D.int)))
theorem qc_sortedDI (hc : X.calm = true) : QC X (.builtin "sorted") pSortedD := by
  refine ⟨_, call_sortedDI hc, fun xs ds H μ q Q ab rd h k => ?_⟩
  obtain ⟨d, e, h⟩ := on1_of h
  subst e
  obtain ⟨v, rfl, r⟩ := rds1 rd
  obtain ⟨a, e, h⟩ := onRef_of h
  subst e
  obtain ⟨kvs, e, ns, e2, hl, h⟩ := onSome_of h
  obtain ⟨vs, h1, h2⟩ := ab.dkey e
  exact ⟨a, vs, ns, by rw [r.ref'], h1, by rw [kv_keys h2]; exact e2, hl, fun js p hp hs hn => k _ _ _ _ (.put hn) (ab.put (o := .lst _) hn ⟨_, upd_same, RDs.ints⟩) .ref (h js p hp hs (ab.free hn))⟩
/-- sorted(set(t)), t a tuple of numbers -/
def pSortSet (pa : PEx) : PEx := fun ss μ q => pa ss μ fun d μ1 => onTup d fun ds => ∃ ns : List Int, ds = ns.map D.int ∧ ns.length ≤ 60 ∧ ∀ (js : List Int) (p : Addr), js.Pairwise (· < ·) → (∀ k, k ∈ js ↔ k ∈ ns) → μ1 p = none → q (.ref p) (mset μ1 p (.lst (js.map D.int)))
theorem qe_sortSet (hg : Gl X "sorted") (hm : X.mg "sorted" = none) (gs : Gl X "set") (ms : X.mg "set" = none) (ha : QE X a pa) (hc : X.calm = true := by rfl)
    (na : starEach [a] X.env = (false, eval a X.env) :: starEach [] X.env := by rfl) : QE X (.Call (.Name "sorted" p) [.Call (.Name "set" p2) [a] [] q0] [] pos) (pSortSet pa) := by
  obtain ⟨t, g, l⟩ := ha
  refine ⟨_, pe_callB (cr_sortedSet hc) hg hm (by decide +kernel) (pa_cons (pe_callTy (Lq.set_ofT hc) gs ms (by decide +kernel) (pa_cons g pa_nil na) (he := na)) pa_nil), fun σ H ss μ q Q rs ab h k => ?_⟩
  refine l σ H ss μ _ _ rs ab h fun v H1 d μ1 f1 ab1 r1 h1 => ?_
  obtain ⟨ds, e, ns, e2, hl, h2⟩ := onTup_of h1
  subst e e2
  obtain ⟨a', vs, rfl, h4, h5⟩ := r1.tup'
  rw [h5.ints'] at h4
  refine ⟨a', ns, rfl, h4, hl, fun p0 c hp0 hc => ?_⟩
  refine ⟨p0, _, c, rfl, upd_same, by omega, fun js p hs hm hlen hp => ?_⟩
  exact k _ _ _ _ (f1.trans ((Fm.tuple hp0).trans (.put hp))) ((ab1.new hp0).put (o := .lst _) hp ⟨_, upd_same, RDs.ints⟩) .ref (h2 js p hs (fun k => by rw [hm]; simp) ((ab1.new hp0).free hp))
end
end Pl
namespace Pl
open PySem L2
def itemD : Itm → D
  | .txt s => .str s
  | .ty T r => .tup [T.d, .int (r : Int)]
def Lab.val : Lab → Nat
  | .var n => n
  | .made s => s
  | _ => 0
def outD (t : Ty) : D := .tup [.str t.lab.w, .int (t.lab.val : Int), .int (t.kids.length : Nat)]
def OUTK : List (Key × D) := [(.inr "var", .int 1), (.inr "made", .int 1)]
theorem pIx_m {T : Ty} {s : Nat} (e : T.lab = .made s) {μ : Mu} {q : EQ} : pIx T.d (.int 1) μ q = q (.int (s : Int)) μ := by
  rw [d_eta, e]
  rfl
theorem keepX {μ : Mu} {a p : Addr} {o u : MO} (h : μ a = some o) (hp : μ p = none) : mset μ p u a = some o := by
  rw [mset_ne (ne_free h hp)]
  exact h
theorem fin_list {μ ν : Mu} {q : EQ} {L : List D} (h : ∀ p, μ p = none → q (.ref p) (mset μ p (.lst L))) (hle : Mle μ ν) {p : Addr} (hp : ν p = none) : ∃ μ', Mle μ' (mset ν p (.lst L)) ∧ q (.ref p) μ' :=
  ⟨_, (hle.trans (.put hp)).mset_of mset_same, h p (hle.none hp)⟩
theorem lt36 {n : Nat} (h : n ≤ 100000) : n < sizeLine := Nat.lt_of_le_of_lt h (by decide)
theorem GTy.num {ar : List Nat} {T : Ty} (h : GTy ar T) {n : Nat} (e : T.lab.num = some n) : n < 1000 := (h.1 T (by rw [pre_eq]; exact List.mem_cons_self)).2 n e
theorem GTy.kid' {ar : List Nat} {T t : Ty} (h : GTy ar T) (ht : t ∈ T.kids) : GTy ar t := by
  obtain ⟨l, ts⟩ := T
  exact h.kid t ht
theorem c10 : (((1 : Nat) : Int) = 0) = False := by simp
theorem c11 : (((1 : Nat) : Int) = 1) = True := by simp
theorem c20 (n : Nat) : (((n + 1 + 1 : Nat) : Int) = 0) = False := by simp; omega
theorem c21 (n : Nat) : (((n + 1 + 1 : Nat) : Int) = 1) = False := by simp; omega
theorem n26 : (LOWL.length : Int) = 26 := by decide +kernel
section
variable {P : Program} {w : World} {K : PySem.W.Frag} {mg : Str → Option Value} {base : Heap} {C : Addr}
abbrev s_check_marked : Stmt := top 49
theorem sc_check_marked : FnScope ["marked"] ["marked"] (defScope s_check_marked) := ⟨rfl, rfl, rfl, by decide +kernel, rfl, by decide +kernel, by decide +kernel⟩
def spMarked : Spc := fun ds μ q => ∃ ns : List Nat, ds = [natsD ns] ∧ ns.length ≤ 1000 ∧ ns.Pairwise (· < ·) ∧ (∀ n ∈ ns, (n : Int) < BEY) ∧ q .non μ
theorem ok_check_marked (A : At K mg "check_marked" s_check_marked ["marked"]) (D_is_ascending : Has P w K mg base "is_ascending" ["value"] 4 spAsc) : Has P w K mg base "check_marked" ["marked"] 5 spMarked := by
  refine .mk A fun f fd F => ?_
  refine qfn F sc_check_marked (by decide) ?len (fun cdv A outer s H E hr => (qss_one (qs_if (qt_not (qt_val (qe_call D_is_ascending (hr.mono (by decide)) (qa_cons (qv 0) qa_nil)))) (qss_one qs_never) qss_nil))) ?body
  case len => rintro ds μ q ⟨_, rfl, _⟩; rfl
  case body =>
    rintro ds μ q ⟨ns, rfl, h1, h2, h3, h⟩
    simp only [PW, Nat.reduceAdd, String.reduceEq, decide_true, decide_false, ite_true, ite_false, Bool.false_eq_true, if_true, if_false, true_and, and_true, Bool.not_true, Bool.not_false, List.length_cons, List.length_nil, reduceCtorEq]
    refine ⟨ns, rfl, h1, h2, h3, ?_⟩
    simp only [PW, Nat.reduceAdd, String.reduceEq, decide_true, decide_false, ite_true, ite_false, Bool.false_eq_true, if_true, if_false, true_and, and_true, Bool.not_true, Bool.not_false, List.length_cons, List.length_nil, reduceCtorEq]
    exact end_of h
abbrev s_outline : Stmt := top 30
theorem sc_outline : FnScope ["T", "own", "part"] ["T"] (defScope s_outline) := ⟨rfl, rfl, rfl, by decide +kernel, rfl, by decide +kernel, by decide +kernel⟩
def spOutl : Spc := fun ds μ q => ∃ T : Ty, ds = [T.d] ∧ T.Fm ∧ T.sz ≤ 1000 ∧ q (.tup (T.pre.map outD)) μ
theorem ok_outline (A : At K mg "outline" s_outline ["T"]) (B : Bi mg) (D_nodes_of : Has P w K mg base "nodes_of" ["T"] 2 spNodes) (D_children : Has P w K mg base "children" ["T"] 1 spKids) : Has P w K mg base "outline" ["T"] 3 spOutl := by
  refine .mk A fun f fd F => ?_
  refine qfn F sc_outline (by decide) ?len (fun cdv A outer s H E hr => (qss_cons (qs_set (i := 1) sc_outline.nd rfl (Or.inr rfl) (qe_disp (qps_cons qe_str qe_int (qps_cons qe_str qe_int qps_nil)) rfl rfl (fun z => nomatch z) (by decide)))
  (qss_one (qs_ret (qe_callTy (qc_tuple rfl) (by rfl) B.tuple (by decide +kernel) (qa_cons (qe_lc (own := [("part", 2)]) rfl sc_outline.nd (qi_seq (qe_call D_nodes_of (hr.mono (by decide)) (qa_cons (qv 0) qa_nil))) (blkOk_by (N := ["T", "own", "part"]) (sc := defScope s_outline) (by decide +kernel)) (fun _ _ _ _ _ => (qgw_name (i := 2) sc_outline.nd rfl (Or.inl rfl))) (fun _ _ _ _ _ => qts_nil) (fun _ _ _ _ _ => (qe_tup (qa_cons (qe_ix (qix (hu_of hr)) (qv 2) qe_int) (qa_cons (qe_ifExp (qt_cmp (qop_in (hu_of hr)) (qe_ix (qix (hu_of hr)) (qv 2) qe_int) (qv 1) rfl) (qe_ix (qix (hu_of hr)) (qv 2) (qe_ix (qix (hu_of hr)) (qv 1) (qe_ix (qix (hu_of hr)) (qv 2) qe_int))) qe_int) (qa_cons (qe_callB qc_len (by rfl) B.len (by decide +kernel) (qa_cons (qe_call D_children (hr.mono (by decide)) (qa_cons (qv 2) qa_nil)) qa_nil)) qa_nil)))))) qa_nil)))))) ?body
  case len => rintro ds μ q ⟨_, rfl, _⟩; rfl
  case body =>
    rintro ds μ q ⟨T, rfl, hT, hsz, h⟩
    simp only [PW, Nat.reduceAdd, String.reduceEq, decide_true, decide_false, ite_true, ite_false, Bool.false_eq_true, if_true, if_false, true_and, and_true, Bool.not_true, Bool.not_false, List.length_cons, List.length_nil, reduceCtorEq, Option.bind_some, Option.map_some]
    refine ⟨by decide, fun p hp => ⟨T, rfl, hT, hsz, fun p2 hp2 => ?_⟩⟩
    have hne : p2 ≠ p := by rintro rfl; rw [mset_same] at hp2; cases hp2
    rw [mset_ne hne] at hp2
    have hr : rdk (mset (mset μ p (.dk OUTK)) p2 (.lst (T.pre.map Ty.d))) p = some OUTK := rdk_of (by rw [mset_ne hne.symm, mset_same])
    have em : mergeD [] OUTK = OUTK := rfl
    simp only [PW, Nat.reduceAdd, String.reduceEq, decide_true, decide_false, ite_true, ite_false, Bool.false_eq_true, if_true, if_false, true_and, and_true, Bool.not_true, Bool.not_false, List.length_cons, List.length_nil, reduceCtorEq, List.length_map, pre_len]
    refine ⟨sl1000 (by omega), lc_mapf Ty.d outD rdl_same (fun t ht ky kn k => ?_) fun p3 hp3 => ?_⟩
    · have htf := hT.pre ht
      have hloc := htf.loc
      change ky (outD t) (mset (mset μ p (.dk OUTK)) p2 (.lst (T.pre.map Ty.d))) at k
      show lcStep _ _ _ _ _ (mset (mset μ p (.dk OUTK)) p2 (.lst (T.pre.map Ty.d))) _ _
      simp only [lcStep, PW, Nat.reduceAdd, String.reduceEq, decide_true, decide_false, ite_true, ite_false, Bool.false_eq_true, if_true, if_false, true_and, and_true, Bool.not_true, Bool.not_false, List.length_cons, List.length_nil, reduceCtorEq, pIx_w, pIn_dk hr, pIx_dk hr]
      unfold outD Lab.val at k
      cases e : t.lab <;> simp only [e, Lab.w, PW, Nat.reduceAdd, String.reduceEq, decide_true, decide_false, ite_true, ite_false, Bool.false_eq_true, if_true, if_false, true_and, and_true, Bool.not_true, Bool.not_false, List.length_cons, List.length_nil, reduceCtorEq] at k ⊢
      · have v1 : valD OUTK (.inr "var") = some (.int 1) := rfl
        simp only [v1, PW, Nat.reduceAdd, String.reduceEq, decide_true, decide_false, ite_true, ite_false, Bool.false_eq_true, if_true, if_false, true_and, and_true, Bool.not_true, Bool.not_false, List.length_cons, List.length_nil, reduceCtorEq, Option.isSome_some, pIx_v e]
        refine ⟨t, rfl, htf, ?_⟩
        simp only [PW, Nat.reduceAdd, String.reduceEq, decide_true, decide_false, ite_true, ite_false, Bool.false_eq_true, if_true, if_false, true_and, and_true, Bool.not_true, Bool.not_false, List.length_cons, List.length_nil, reduceCtorEq, List.length_map]
        exact k
      · have v1 : valD OUTK (.inr "fn") = none := rfl
        simp only [v1, PW, Nat.reduceAdd, String.reduceEq, decide_true, decide_false, ite_true, ite_false, Bool.false_eq_true, if_true, if_false, true_and, and_true, Bool.not_true, Bool.not_false, List.length_cons, List.length_nil, reduceCtorEq, Option.isSome_none]
        refine ⟨t, rfl, htf, ?_⟩
        simp only [PW, Nat.reduceAdd, String.reduceEq, decide_true, decide_false, ite_true, ite_false, Bool.false_eq_true, if_true, if_false, true_and, and_true, Bool.not_true, Bool.not_false, List.length_cons, List.length_nil, reduceCtorEq, List.length_map]
        exact k
      · have v1 : valD OUTK (.inr "tuple") = none := rfl
        simp only [v1, PW, Nat.reduceAdd, String.reduceEq, decide_true, decide_false, ite_true, ite_false, Bool.false_eq_true, if_true, if_false, true_and, and_true, Bool.not_true, Bool.not_false, List.length_cons, List.length_nil, reduceCtorEq, Option.isSome_none]
        refine ⟨t, rfl, htf, ?_⟩
        simp only [PW, Nat.reduceAdd, String.reduceEq, decide_true, decide_false, ite_true, ite_false, Bool.false_eq_true, if_true, if_false, true_and, and_true, Bool.not_true, Bool.not_false, List.length_cons, List.length_nil, reduceCtorEq, List.length_map]
        exact k
      · have v1 : valD OUTK (.inr "made") = some (.int 1) := rfl
        simp only [v1, PW, Nat.reduceAdd, String.reduceEq, decide_true, decide_false, ite_true, ite_false, Bool.false_eq_true, if_true, if_false, true_and, and_true, Bool.not_true, Bool.not_false, List.length_cons, List.length_nil, reduceCtorEq, Option.isSome_some, pIx_m e]
        refine ⟨t, rfl, htf, ?_⟩
        simp only [PW, Nat.reduceAdd, String.reduceEq, decide_true, decide_false, ite_true, ite_false, Bool.false_eq_true, if_true, if_false, true_and, and_true, Bool.not_true, Bool.not_false, List.length_cons, List.length_nil, reduceCtorEq, List.length_map]
        exact k
    · exact ⟨μ, ((Mle.put hp).trans (.put (by rw [mset_ne hne]; exact hp2))).trans (.put hp3), h⟩
abbrev s__variable_text : Stmt := top 50
theorem sc__variable_text : FnScope ["number", "marked", "quotes", "letter", "round_"] ["number", "marked"] (defScope s__variable_text) := ⟨rfl, rfl, rfl, by decide +kernel, rfl, by decide +kernel, by decide +kernel⟩
def spVarT : Spc := fun ds μ q => ∃ (n : Nat) (ms : List Nat), ds = [.int (n : Int), natsD ms] ∧ n < 1000 ∧ q (.str (varT ms n)) μ
theorem ok_vart (A : At K mg "_variable_text" s__variable_text ["number", "marked"]) (B : Bi mg) (T_LOW_LETTERS : Cn K mg "LOW_LETTERS" (.str LOWL)) : Has P w K mg base "_variable_text" ["number", "marked"] 1 spVarT := by
  refine .mk A fun f fd F => ?_
  refine qfn F sc__variable_text (by decide) ?len (fun cdv A outer s H E hr => (qss_cons (qs_set (i := 2) sc__variable_text.nd rfl (Or.inl rfl) (qe_ifExp (qt_cmp (qop_in (hu_of hr)) (qv 0) (qv 1) rfl) qe_str qe_str))
  (qss_cons (qs_set (i := 3) sc__variable_text.nd rfl (Or.inl rfl) (qe_ix (qix (hu_of hr)) (qe_cn T_LOW_LETTERS) (qe_op qop_mod (qv 0) (qe_callB qc_len (by rfl) B.len (by decide +kernel) (qa_cons (qe_cn T_LOW_LETTERS) qa_nil)))))
  (qss_cons (qs_set (i := 4) sc__variable_text.nd rfl (Or.inl rfl) (qe_op qop_fdiv (qv 0) (qe_callB qc_len (by rfl) B.len (by decide +kernel) (qa_cons (qe_cn T_LOW_LETTERS) qa_nil))))
  (qss_one (qs_ret (qe_ifExp (qt_cmp qop_gt (qv 4) qe_int (nomark _)) (qe_joined (.cons (qe_fmt (qv 2)) (.cons (qe_fmt (qv 3)) (.cons (qe_fmt (qv 4)) .nil)))) (qe_joined (.cons (qe_fmt (qv 2)) (.cons (qe_fmt (qv 3)) .nil)))))))))) ?body
  case len => rintro ds μ q ⟨_, _, rfl, _⟩; rfl
  case body =>
    rintro ds μ q ⟨n, ms, rfl, hn, h⟩
    have el : lenD μ (.str LOWL) = some 26 := by rw [lenD_str (by decide +kernel)]; decide +kernel
    have e1 := fmod26 n
    have e2 := fdiv26 n
    have ea : atI LOWL.cps.toList ((n % 26 : Nat) : Int) = some (97 + n % 26) := atI_nat (low_at _ (Nat.mod_lt _ (by decide)))
    have h0 : ((26 : Nat) : Int) ≠ 0 := by decide
    have hL : LOWL.length ≤ sizeLine := by decide +kernel
    simp only [natsD, PW, Nat.reduceAdd, String.reduceEq, decide_true, decide_false, ite_true, ite_false, Bool.false_eq_true, if_true, if_false, true_and, and_true, Bool.not_true, Bool.not_false, List.length_cons, List.length_nil, reduceCtorEq, flat_nats, inD_nats, el, e1, e2, ea]
    have ld : ("''" : Str).length = 2 := by decide +kernel
    have ls : ("'" : Str).length = 1 := by decide +kernel
    have l1 : ∀ c : Nat, (⟨#[c]⟩ : Str).length = 1 := fun _ => rfl
    have hdl := digs_len (n / 26) (by omega)
    have hlog : (((n / 26 : Nat) : Int)).natAbs.log2 < 1920 := Nat.lt_of_le_of_lt (Nat.log2_le_self _) (by omega)
    unfold varT tailT at h
    by_cases m : n ∈ ms <;> by_cases g : 0 < n / 26
    all_goals
      have gi : (0 : Int) < ((n / 26 : Nat) : Int) ↔ 0 < n / 26 := by omega
      simp only [m, gi, g, PW, Nat.reduceAdd, String.reduceEq, decide_true, decide_false, ite_true, ite_false, Bool.false_eq_true, if_true, if_false, true_and, and_true, Bool.not_true, Bool.not_false, List.length_cons, List.length_nil, reduceCtorEq, Str.empty_append, Str.append_empty] at h ⊢
      first
        | exact ⟨h0, hL, ⟨h0, by decide⟩, line20 (by omega), line20 (by omega), line20 (by rw [l1]; omega), line20 (by rw [strLen_append, l1]; omega), hlog, line20 (by rw [strLen_append, strLen_append, l1]; omega), end_of h⟩
        | exact ⟨h0, hL, ⟨h0, by decide⟩, line20 (by omega), line20 (by omega), line20 (by rw [l1]; omega), line20 (by rw [strLen_append, l1]; omega), end_of h⟩
abbrev s__parted : Stmt := top 51
theorem sc__parted : FnScope ["types", "separator", "row", "items", "T"] ["types", "separator", "row"] (defScope s__parted) := ⟨rfl, rfl, rfl, by decide +kernel, rfl, by decide +kernel, by decide +kernel⟩
def spParted : Spc := fun ds μ q => ∃ (ts : List Ty) (sep : Str) (r : Nat), ds = [tysD ts, .str sep, .int (r : Int)] ∧ ts.length ≤ 1000 ∧ ∀ p, μ p = none → q (.ref p) (mset μ p (.lst ((partI sep r ts).map itemD)))
theorem ok_parted (A : At K mg "_parted" s__parted ["types", "separator", "row"]) : Has P w K mg base "_parted" ["types", "separator", "row"] 1 spParted := by
  refine .mk A fun f fd F => ?_
  refine qfn F sc__parted (by decide) ?len (fun cdv A outer s H E hr => (qss_cons (qs_set (i := 3) sc__parted.nd rfl (Or.inl rfl) (qe_lst qa_nil))
  (qss_cons (qs_for PassesOwn.never rfl (qi_seq (qv 0)) (qg_name (i := 4) sc__parted.nd rfl (Or.inl rfl)) (qss_cons (qs_if (qt_truth (qv 3)) (qss_one (qs_expr (qe_bm PySem.F.slot_list_append PySem.F.type_list_append qm_append (qv 3) (qa_cons (qv 1) qa_nil)))) qss_nil)
  (qss_one (qs_expr (qe_bm PySem.F.slot_list_append PySem.F.type_list_append qm_append (qv 3) (qa_cons (qe_tup (qa_cons (qv 4) (qa_cons (qv 2) qa_nil))) qa_nil))))))
  (qss_one (qs_ret (qv 3)))))) ?body
  case len => rintro ds μ q ⟨_, _, _, rfl, _⟩; rfl
  case body =>
    rintro ds μ q ⟨ts, sep, r, rfl, hl, h⟩
    simp only [tysD, PW, Nat.reduceAdd, String.reduceEq, decide_true, decide_false, ite_true, ite_false, Bool.false_eq_true, if_true, if_false, true_and, and_true, Bool.not_true, Bool.not_false, List.length_cons, List.length_nil, reduceCtorEq]
    intro p hp
    unfold pFor
    simp only [PW, Nat.reduceAdd, String.reduceEq, decide_true, decide_false, ite_true, ite_false, Bool.false_eq_true, if_true, if_false, true_and, and_true, Bool.not_true, Bool.not_false, List.length_cons, List.length_nil, reduceCtorEq]
    refine ⟨fun i ss ν => ∃ (fp : Addr) (x4 : Option D), ss = [some (.tup (ts.map Ty.d)), some (.str sep), some (.int (r : Int)), some (.ref fp), x4] ∧ Mle μ ν ∧ μ fp = none ∧ ν fp = some (.lst ((partI sep r (ts.take i)).map itemD)), ⟨p, none, rfl, .put hp, hp, mset_same⟩, fun _ _ _ _ _ => True.intro, ?_, ?_⟩
    · rintro i x ss ν hx ⟨fp, x4, rfl, hle, hfp, efp⟩
      rw [List.getElem?_map] at hx
      obtain ⟨t, ht, rfl⟩ := Option.map_eq_some_iff.mp hx
      have hlt := lt_of_get ht
      have hnew : partI sep r (ts.take (i + 1)) = partI sep r (ts.take i) ++ (if ts.take i = [] then [] else [.txt sep]) ++ [.ty t r] := by rw [take_snoc ht, partI_snoc]
      have hpl := partI_len sep r (ts.take i)
      have htl : (ts.take i).length ≤ ts.length := by rw [List.length_take]; omega
      have hz := partI_nil sep r (ts.take i)
      simp only [PW, Nat.reduceAdd, String.reduceEq, decide_true, decide_false, ite_true, ite_false, Bool.false_eq_true, if_true, if_false, true_and, and_true, Bool.not_true, Bool.not_false, List.length_cons, List.length_nil, reduceCtorEq, tru_lst (rdl_lst efp), hnew]
      generalize ts.take i = pre at *
      cases pre with
      | nil =>
        simp only [PW, Nat.reduceAdd, String.reduceEq, decide_true, decide_false, ite_true, ite_false, Bool.false_eq_true, if_true, if_false, true_and, and_true, Bool.not_true, Bool.not_false, List.length_cons, List.length_nil, reduceCtorEq, partI, List.map_nil, List.isEmpty_nil, isLst_lst (rdl_lst efp), pAppend_l (wrl_lst efp)]
        exact ⟨by decide, fp, _, rfl, hle.upd hfp, hfp, mset_same⟩
      | cons a b =>
        have hne : ((partI sep r (a :: b)).map itemD).isEmpty = false := by
          cases e : partI sep r (a :: b) with
          | nil => exact absurd (hz.mp e) (List.cons_ne_nil _ _)
          | cons _ _ => rfl
        simp only [PW, Nat.reduceAdd, String.reduceEq, decide_true, decide_false, ite_true, ite_false, Bool.false_eq_true, if_true, if_false, true_and, and_true, Bool.not_true, Bool.not_false, List.length_cons, List.length_nil, reduceCtorEq, hne, isLst_lst (rdl_lst efp), pAppend_l (wrl_lst efp), List.length_map, isLst_lst (rdl_same (μ := ν) (a := fp)), pAppend_l wrl_same, List.length_append]
        refine ⟨lt36 (by omega), lt36 (by omega), fp, _, rfl, hle.upd hfp, hfp, ?_⟩
        rw [mset_same, List.map_append, List.map_append]
        rfl
    · rintro ss ν ⟨fp, x4, rfl, hle, hfp, efp⟩
      rw [List.length_map, List.take_length] at efp
      simp only [PW, Nat.reduceAdd, String.reduceEq, decide_true, decide_false, ite_true, ite_false, Bool.false_eq_true, if_true, if_false, true_and, and_true, Bool.not_true, Bool.not_false, List.length_cons, List.length_nil, reduceCtorEq]
      exact ⟨_, hle.mset_of efp, h fp hfp⟩
abbrev s__made_items : Stmt := top 53
theorem sc__made_items : FnScope ["printed", "types"] ["printed", "types"] (defScope s__made_items) := ⟨rfl, rfl, rfl, by decide +kernel, rfl, by decide +kernel, by decide +kernel⟩
def spMadeIt : Spc := fun ds μ q => ∃ (z : Str) (ts : List Ty), ds = [.str z, tysD ts] ∧ ts.length ≤ 1000 ∧ z.length ≤ 10 ∧ ∀ p, μ p = none → q (.ref p) (mset μ p (.lst ((madeI z ts).map itemD)))
theorem ok_made_items (A : At K mg "_made_items" s__made_items ["printed", "types"]) (B : Bi mg) (T_NAME_ROW : Cn K mg "NAME_ROW" (.int 2)) (T_FN_ROW : Cn K mg "FN_ROW" (.int 0)) (D__parted : Has P w K mg base "_parted" ["types", "separator", "row"] 1 spParted) : Has P w K mg base "_made_items" ["printed", "types"] 2 spMadeIt := by
  refine .mk A fun f fd F => ?_
  refine qfn F sc__made_items (by decide) ?len (fun cdv A outer s H E hr => (qss_cons (qs_if (qt_cmp (qop_eq hr.units) (qe_callB qc_len (by rfl) B.len (by decide +kernel) (qa_cons (qv 1) qa_nil)) qe_int (nomark _)) (qss_one (qs_ret (qe_lst (qa_cons (qv 0) qa_nil)))) qss_nil)
  (qss_cons (qs_if (qt_cmp (qop_eq hr.units) (qe_callB qc_len (by rfl) B.len (by decide +kernel) (qa_cons (qv 1) qa_nil)) qe_int (nomark _)) (qss_one (qs_ret (qe_lst (qa_cons (qe_tup (qa_cons (qe_ix (qix (hu_of hr)) (qv 1) qe_int) (qa_cons (qe_cn T_NAME_ROW) qa_nil))) (qa_cons (qe_joined (.cons qe_str (.cons (qe_fmt (qv 0)) .nil))) qa_nil))))) qss_nil)
  (qss_one (qs_ret (qe_lst (qa_cons qe_str (qa_star (qe_call D__parted (hr.mono (by decide)) (qa_cons (qv 1) (qa_cons qe_str (qa_cons (qe_cn T_FN_ROW) qa_nil)))) (qa_cons (qe_joined (.cons qe_str (.cons (qe_fmt (qv 0)) .nil))) qa_nil))))))))) ?body
  case len => rintro ds μ q ⟨_, _, rfl, _⟩; rfl
  case body =>
    rintro ds μ q ⟨z, ts, rfl, hl, hz, h⟩
    have h1 := line20 (n := z.length) (by omega)
    match ts, hl, h with
    | [], _, h =>
      simp only [tysD, PW, Nat.reduceAdd, String.reduceEq, decide_true, decide_false, ite_true, ite_false, Bool.false_eq_true, if_true, if_false, true_and, and_true, Bool.not_true, Bool.not_false, List.length_cons, List.length_nil, reduceCtorEq, List.map_nil]
      exact fun p hp => end_of (h p hp)
    | [t], _, h =>
      simp only [tysD, PW, Nat.reduceAdd, String.reduceEq, decide_true, decide_false, ite_true, ite_false, Bool.false_eq_true, if_true, if_false, true_and, and_true, Bool.not_true, Bool.not_false, List.length_cons, List.length_nil, reduceCtorEq, List.map_cons, List.map_nil, c10, c11, Str.empty_append]
      exact ⟨line20 (by rw [l_bl]; omega), h1, line20 (by rw [strLen_append, l_bl]; omega), fun p hp => end_of (h p hp)⟩
    | t :: u :: us, hl, h =>
      simp only [tysD, PW, Nat.reduceAdd, String.reduceEq, decide_true, decide_false, ite_true, ite_false, Bool.false_eq_true, if_true, if_false, true_and, and_true, Bool.not_true, Bool.not_false, List.length_cons, List.length_nil, reduceCtorEq, List.map_cons, c20, c21, List.length_map, Str.empty_append]
      have hpl := partI_len ", " 0 (t :: u :: us)
      refine ⟨t :: u :: us, ", ", 0, rfl, hl, fun p0 hp0 => ?_⟩
      simp only [PW, Nat.reduceAdd, String.reduceEq, decide_true, decide_false, ite_true, ite_false, Bool.false_eq_true, if_true, if_false, true_and, and_true, Bool.not_true, Bool.not_false, List.length_cons, List.length_nil, reduceCtorEq, rdl_same, List.length_append, List.length_map]
      exact ⟨line20 (by rw [l_rs]; omega), h1, line20 (by rw [strLen_append, l_rs]; omega), len36 (by omega), fun p hp => fin_list (by rw [show madeI z (t :: u :: us) = .txt "(" :: (partI ", " 0 (t :: u :: us) ++ [.txt (") " ++ z)]) from rfl, List.map_cons, List.map_append] at h; exact h) (.put hp0) hp⟩
abbrev s__items_of : Stmt := top 52
theorem sc__items_of : FnScope ["book", "T", "row", "marked", "own", "items"] ["book", "T", "row", "marked"] (defScope s__items_of) := ⟨rfl, rfl, rfl, by decide +kernel, rfl, by decide +kernel, by decide +kernel⟩
def spItems (C : Addr) : Spc := fun ds μ q => ∃ (b : Addr) (rs : List Row) (T : Ty) (r : Nat) (ms : List Nat), ds = [.ref b, T.d, .int (r : Int), natsD ms] ∧ IsBook C μ b rs ∧ rs.length ≤ 1000 ∧ GTy (rs.map Row.ar) T ∧ (∀ row ∈ rs, row.nm.length ≤ 10) ∧ r ≤ 2 ∧ ∀ p, μ p = none → q (.ref p) (mset μ p (.lst ((itemsI (nmR rs) ms T.lab T.kids r).map itemD)))
theorem ok_items_of (A : At K mg "_items_of" s__items_of ["book", "T", "row", "marked"]) (B : Bi mg) (T : Bk K mg C) (T_NAME_ROW : Cn K mg "NAME_ROW" (.int 2)) (T_TUPLE_ROW : Cn K mg "TUPLE_ROW" (.int 1)) (T_FN_ROW : Cn K mg "FN_ROW" (.int 0)) (D__variable_text : Has P w K mg base "_variable_text" ["number", "marked"] 1 spVarT) (D__parted : Has P w K mg base "_parted" ["types", "separator", "row"] 1 spParted) (D__made_items : Has P w K mg base "_made_items" ["printed", "types"] 2 spMadeIt) (DM_printed : HasM P w K mg base C "printed" ["self", "stamp"] 3 (spPrinted C f_printed)) : Has P w K mg base "_items_of" ["book", "T", "row", "marked"] 4 (spItems C) := by
  refine .mk A fun f fd F => ?_
  refine qfn F sc__items_of (by decide) ?len (fun cdv A outer s H E hr => (qss_cons (qs_if (qt_cmp (qop_eq hr.units) (qe_ix (qix (hu_of hr)) (qv 1) qe_int) qe_str (nomark _)) (qss_one (qs_ret (qe_lst (qa_cons (qe_call D__variable_text (hr.mono (by decide)) (qa_cons (qe_ix (qix (hu_of hr)) (qv 1) qe_int) (qa_cons (qv 3) qa_nil))) qa_nil)))) qss_nil)
  (qss_cons (qs_if (qt_cmp (qop_eq hr.units) (qe_ix (qix (hu_of hr)) (qv 1) qe_int) qe_str (nomark _)) (qss_one (qs_par (i := 4) (j := 5) rfl sc__items_of.nd rfl rfl (by decide) rfl rfl (qa_cons (qe_cn T_FN_ROW) (qa_cons (qe_lst (qa_cons (qe_tup (qa_cons (qe_ix (qix (hu_of hr)) (qv 1) qe_int) (qa_cons (qe_cn T_TUPLE_ROW) qa_nil))) (qa_cons qe_str (qa_cons (qe_tup (qa_cons (qe_ix (qix (hu_of hr)) (qv 1) qe_int) (qa_cons (qe_cn T_FN_ROW) qa_nil))) qa_nil)))) qa_nil)) rfl)) (qss_one (qs_if (qt_cmp (qop_eq hr.units) (qe_ix (qix (hu_of hr)) (qv 1) qe_int) qe_str (nomark _)) (qss_one (qs_par (i := 4) (j := 5) rfl sc__items_of.nd rfl rfl (by decide) rfl rfl (qa_cons (qe_cn T_TUPLE_ROW) (qa_cons (qe_call D__parted (hr.mono (by decide)) (qa_cons (qe_ix (qix (hu_of hr)) (qv 1) qe_int) (qa_cons qe_str (qa_cons (qe_cn T_NAME_ROW) qa_nil)))) qa_nil)) rfl)) (qss_one (qs_par (i := 4) (j := 5) rfl sc__items_of.nd rfl rfl (by decide) rfl rfl (qa_cons (qe_cn T_NAME_ROW) (qa_cons (qe_call D__made_items (hr.mono (by decide)) (qa_cons (qe_meth T.cl (qv 0) DM_printed (hr.mono (by decide)) (qa_cons (qe_ix (qix (hu_of hr)) (qv 1) qe_int) qa_nil)) (qa_cons (qe_ix (qix (hu_of hr)) (qv 1) qe_int) qa_nil))) qa_nil)) rfl)))))
  (qss_cons (qs_if (qt_not (qt_truth (qv 5))) (qss_one (qs_ret (qe_lst (qa_cons qe_str qa_nil)))) qss_nil)
  (qss_one (qs_ret (qe_ifExp (qt_cmp qop_lt (qv 4) (qv 2) (nomark _)) (qe_lst (qa_cons qe_str (qa_star (qv 5) (qa_cons qe_str qa_nil)))) (qv 5)))))))) ?body
  case len => rintro ds μ q ⟨_, _, _, _, _, rfl, _⟩; rfl
  case body =>
    rintro ds μ q ⟨b, rs, T, r, ms, rfl, hb, hl, hT, hz, hr, h⟩
    simp only [PW, Nat.reduceAdd, String.reduceEq, decide_true, decide_false, ite_true, ite_false, Bool.false_eq_true, if_true, if_false, true_and, and_true, Bool.not_true, Bool.not_false, List.length_cons, List.length_nil, reduceCtorEq, pIx_w]
    cases e : T.lab with
    | var n =>
      rw [e] at h
      simp only [e, Lab.w, PW, Nat.reduceAdd, String.reduceEq, decide_true, decide_false, ite_true, ite_false, Bool.false_eq_true, if_true, if_false, true_and, and_true, Bool.not_true, Bool.not_false, List.length_cons, List.length_nil, reduceCtorEq, pIx_v e]
      exact ⟨n, ms, rfl, hT.num (by rw [e]; rfl), fun p hp => end_of (h p hp)⟩
    | fn =>
      have hk : T.kids.length = 2 := loc_fn hT.loc e
      match ek : T.kids, hk with
      | [x, y], _ =>
        have ed : T.d = .tup [.str "fn", x.d, y.d] := by rw [d_eta, e, ek]; rfl
        have h : ∀ p, μ p = none → q (.ref p) (mset μ p (.lst ((parI (decide (0 < r)) [.ty x 1, .txt " -> ", .ty y 0]).map itemD))) := by
          rw [e, ek] at h
          exact h
        simp only [e, Lab.w, ed, PW, Nat.reduceAdd, String.reduceEq, decide_true, decide_false, ite_true, ite_false, Bool.false_eq_true, if_true, if_false, true_and, and_true, Bool.not_true, Bool.not_false, List.length_cons, List.length_nil, reduceCtorEq, List.isEmpty_cons]
        intro p0 hp0
        have gi : ((0 : Int) < (r : Int)) ↔ 0 < r := by omega
        simp only [gi]
        by_cases g : 0 < r
        · simp only [g, parI, PW, Nat.reduceAdd, String.reduceEq, decide_true, decide_false, ite_true, ite_false, Bool.false_eq_true, if_true, if_false, true_and, and_true, Bool.not_true, Bool.not_false, List.length_cons, List.length_nil, reduceCtorEq] at h ⊢
          exact ⟨by show (5 : Nat) ≤ sizeLine; decide, fun p hp => fin_list h (.put hp0) hp⟩
        · simp only [g, parI, PW, Nat.reduceAdd, String.reduceEq, decide_true, decide_false, ite_true, ite_false, Bool.false_eq_true, if_true, if_false, true_and, and_true, Bool.not_true, Bool.not_false, List.length_cons, List.length_nil, reduceCtorEq] at h ⊢
          exact end_of (h p0 hp0)
    | tup =>
      have ed : T.d = .tup [.str "tuple", tysD T.kids] := by rw [d_eta, e]; rfl
      have hks := len_szs T.kids
      have hsz := T.sz_eq
      have hs3 := hT.2
      rw [e] at h
      simp only [e, Lab.w, ed, PW, Nat.reduceAdd, String.reduceEq, decide_true, decide_false, ite_true, ite_false, Bool.false_eq_true, if_true, if_false, true_and, and_true, Bool.not_true, Bool.not_false, List.length_cons, List.length_nil, reduceCtorEq]
      refine ⟨T.kids, " * ", 2, rfl, by omega, fun p0 hp0 => ?_⟩
      have hpl := partI_len " * " 2 T.kids
      have hz := partI_nil " * " 2 T.kids
      have gi : ((1 : Int) < (r : Int)) ↔ 1 < r := by omega
      simp only [PW, Nat.reduceAdd, String.reduceEq, decide_true, decide_false, ite_true, ite_false, Bool.false_eq_true, if_true, if_false, true_and, and_true, Bool.not_true, Bool.not_false, List.length_cons, List.length_nil, reduceCtorEq, tru_lst rdl_same, rdl_same, gi]
      generalize T.kids = ks at *
      cases ks with
      | nil =>
        simp only [partI, PW, Nat.reduceAdd, String.reduceEq, decide_true, decide_false, ite_true, ite_false, Bool.false_eq_true, if_true, if_false, true_and, and_true, Bool.not_true, Bool.not_false, List.length_cons, List.length_nil, reduceCtorEq, List.map_nil, List.isEmpty_nil]
        exact fun p hp => fin_list h (.put hp0) hp
      | cons a b =>
        have hne : ((partI " * " 2 (a :: b)).map itemD).isEmpty = false := by
          cases e : partI " * " 2 (a :: b) with
          | nil => exact absurd (hz.mp e) (List.cons_ne_nil _ _)
          | cons _ _ => rfl
        have h : ∀ p, μ p = none → q (.ref p) (mset μ p (.lst ((parI (decide (1 < r)) (partI " * " 2 (a :: b))).map itemD))) := h
        simp only [hne, PW, Nat.reduceAdd, String.reduceEq, decide_true, decide_false, ite_true, ite_false, Bool.false_eq_true, if_true, if_false, true_and, and_true, Bool.not_true, Bool.not_false, List.length_cons, List.length_nil, reduceCtorEq]
        by_cases g : 1 < r
        · simp only [g, parI, PW, Nat.reduceAdd, String.reduceEq, decide_true, decide_false, ite_true, ite_false, Bool.false_eq_true, if_true, if_false, true_and, and_true, Bool.not_true, Bool.not_false, List.length_cons, List.length_nil, reduceCtorEq, List.length_append, List.length_map] at h ⊢
          exact ⟨len36 (by omega), fun p hp => fin_list (by rw [List.map_cons, List.map_append] at h; exact h) (.put hp0) hp⟩
        · simp only [g, parI, PW, Nat.reduceAdd, String.reduceEq, decide_true, decide_false, ite_true, ite_false, Bool.false_eq_true, if_true, if_false, true_and, and_true, Bool.not_true, Bool.not_false, List.length_cons, List.length_nil, reduceCtorEq] at h ⊢
          exact end_of (h p0 hp0)
    | made s =>
      have hks := len_szs T.kids
      have hsz := T.sz_eq
      have hs3 := hT.2
      have hloc := hT.loc
      rw [e] at hloc
      obtain ⟨h0, hB, har⟩ := hloc
      rw [List.getElem?_map] at har
      obtain ⟨row, hrow, har⟩ := Option.map_eq_some_iff.mp har
      have hnm : nmR rs s = row.nm := by unfold nmR; rw [hrow]
      have ed2 : ∀ {μ q}, pIx T.d (.int 2) μ q = q (tysD T.kids) μ := fun {μ q} => by rw [d_eta T, e]; rfl
      have h : ∀ p, μ p = none → q (.ref p) (mset μ p (.lst ((madeI row.nm T.kids).map itemD))) := by
        rw [e] at h
        rw [← hnm]
        exact h
      obtain ⟨dx, hb⟩ := hb
      simp only [e, Lab.w, PW, Nat.reduceAdd, String.reduceEq, decide_true, decide_false, ite_true, ite_false, Bool.false_eq_true, if_true, if_false, true_and, and_true, Bool.not_true, Bool.not_false, List.length_cons, List.length_nil, reduceCtorEq, onIns_ref hb, pIx_m e, ed2]
      refine ⟨rfl, b, rs, s - 1, row, by rw [show s - 1 + 1 = s by omega], ⟨dx, hb⟩, hl, hrow, ?_⟩
      refine ⟨row.nm, T.kids, rfl, by omega, hz row (List.mem_of_getElem? hrow), fun p0 hp0 => ?_⟩
      have hne : ((madeI row.nm T.kids).map itemD).isEmpty = false := by
        cases T.kids with
        | nil => rfl
        | cons a b => cases b <;> rfl
      have gi : ((2 : Int) < (r : Int)) = False := by simp; omega
      simp only [PW, Nat.reduceAdd, String.reduceEq, decide_true, decide_false, ite_true, ite_false, Bool.false_eq_true, if_true, if_false, true_and, and_true, Bool.not_true, Bool.not_false, List.length_cons, List.length_nil, reduceCtorEq, tru_lst rdl_same, hne, gi]
      exact end_of (h p0 hp0)
abbrev s_text_with : Stmt := top 54
theorem sc_text_with : FnScope ["book", "T", "marked", "todo", "found", "item", "part", "row"] ["book", "T", "marked"] (defScope s_text_with) := ⟨rfl, rfl, rfl, by decide +kernel, rfl, by decide +kernel, by decide +kernel⟩
def spTextW (C : Addr) : Spc := fun ds μ q => ∃ (b : Addr) (rs : List Row) (T : Ty) (ms : List Nat), ds = [.ref b, T.d, natsD ms] ∧ IsBook C μ b rs ∧ rs.length ≤ 1000 ∧ GTy (rs.map Row.ar) T ∧ (∀ row ∈ rs, row.nm.length ≤ 10) ∧ q (.str (T.tx (nmR rs) ms 0)) μ
set_option maxHeartbeats 1000000 in
theorem ok_text_with (A : At K mg "text_with" s_text_with ["book", "T", "marked"]) (B : Bi mg) (T_FN_ROW : Cn K mg "FN_ROW" (.int 0)) (D__items_of : Has P w K mg base "_items_of" ["book", "T", "row", "marked"] 4 (spItems C)) : Has P w K mg base "text_with" ["book", "T", "marked"] 5 (spTextW C) := by
  refine .mk A fun f fd F => ?_
  refine qfn F sc_text_with (by decide) ?len (fun cdv A outer s H E hr => (qss_cons (qs_set (i := 3) sc_text_with.nd rfl (Or.inl rfl) (qe_lst (qa_cons (qe_tup (qa_cons (qv 1) (qa_cons (qe_cn T_FN_ROW) qa_nil))) qa_nil)))
  (qss_cons (qs_set (i := 4) sc_text_with.nd rfl (Or.inl rfl) (qe_lst qa_nil))
  (qss_cons (qs_while PassesOwn.never (qt_truth (qv 3)) (qss_cons (qs_set (i := 5) sc_text_with.nd rfl (Or.inl rfl) (qe_pop (qv 3)))
  (qss_one (qs_if (qt_val (qe_callB qc_isi (by rfl) B.isinstance (by decide +kernel) (qa_cons (qv 5) (qa_cons (qe_bltn (n := "str") rfl B.str (by decide +kernel)) qa_nil)))) (qss_one (qs_expr (qe_bm PySem.F.slot_list_append PySem.F.type_list_append qm_append (qv 4) (qa_cons (qv 5) qa_nil)))) (qss_cons (qs_asg (qv 5) (qg_tup (n := 2) rfl (qgs_cons (qg_name (i := 6) sc_text_with.nd rfl (Or.inl rfl)) (qgs_cons (qg_name (i := 7) sc_text_with.nd rfl (Or.inl rfl)) qgs_nil))))
  (qss_one (qs_expr (qe_bm PySem.F.slot_list_extend PySem.F.type_list_extend qm_extend (qv 3) (qa_cons (qe_backL (qe_call D__items_of (hr.mono (by decide)) (qa_cons (qv 0) (qa_cons (qv 6) (qa_cons (qv 7) (qa_cons (qv 2) qa_nil)))))) qa_nil)))))))))
  (qss_one (qs_ret (qe_join qe_str (qv 4)))))))) ?body
  case len => rintro ds μ q ⟨_, _, _, _, rfl, _⟩; rfl
  case body =>
    rintro ds μ q ⟨b, rs, T, ms, rfl, ⟨dx, hb⟩, hl, hT, hz, h⟩
    simp only [PW, Nat.reduceAdd, String.reduceEq, decide_true, decide_false, ite_true, ite_false, Bool.false_eq_true, if_true, if_false, true_and, and_true, Bool.not_true, Bool.not_false, List.length_cons, List.length_nil, reduceCtorEq]
    intro p hp p2 hp2
    have hne : p2 ≠ p := by rintro rfl; rw [mset_same] at hp2; cases hp2
    rw [mset_ne hne] at hp2
    refine ⟨fun m ss ν => ∃ (tp fp : Addr) (S : List Itm) (F : List Str) (x5 x6 x7 : Option D), ss = [some (.ref b), some T.d, some (natsD ms), some (.ref tp), some (.ref fp), x5, x6, x7] ∧ Mle μ ν ∧ μ tp = none ∧ μ fp = none ∧ tp ≠ fp ∧ ν tp = some (.lst (S.map itemD)) ∧ ν fp = some (.lst (F.map D.str)) ∧
        (∀ i ∈ S, ItG (rs.map Row.ar) i) ∧ (∀ z ∈ F, z.length ≤ 20) ∧ catS F ++ catI (nmR rs) ms S.reverse = T.tx (nmR rs) ms 0 ∧ F.length + wIs S ≤ 1800 ∧ m = wIs S,
      ⟨_, p, p2, [.ty T 0], [], none, none, none, rfl, (Mle.put hp).trans (.put (by rw [mset_ne hne]; exact hp2)), hp, hp2, hne.symm, by rw [mset_ne hne.symm, mset_same]; rfl, mset_same, ?_, fun z hz => (nomatch hz), ?_, ?_, rfl⟩, ?_⟩
    · intro i hi
      rw [List.mem_singleton.mp hi]
      exact ⟨hT, Nat.zero_le _⟩
    · show Str.empty ++ (T.tx (nmR rs) ms 0 ++ Str.empty) = _
      rw [Str.append_empty, Str.empty_append]
    · have := hT.2
      show 0 + (6 * T.sz - 2 + 0) ≤ 1800
      omega
    rintro m ss ν ⟨tp, fp, S, F, x5, x6, x7, rfl, hle, htp, hfp, htf, etp, efp, hS, hF, htx, hlen, rfl⟩
    simp only [PW, Nat.reduceAdd, String.reduceEq, decide_true, decide_false, ite_true, ite_false, Bool.false_eq_true, if_true, if_false, true_and, and_true, Bool.not_true, Bool.not_false, List.length_cons, List.length_nil, reduceCtorEq, tru_lst (rdl_lst etp)]
    rcases List.eq_nil_or_concat S with rfl | ⟨S, i, rfl⟩
    · simp only [PW, Nat.reduceAdd, String.reduceEq, decide_true, decide_false, ite_true, ite_false, Bool.false_eq_true, if_true, if_false, true_and, and_true, Bool.not_true, Bool.not_false, List.length_cons, List.length_nil, reduceCtorEq, List.map_nil, List.isEmpty_nil, rdl_lst efp, strsOf_map]
      have hs := sum_le 20 F hF
      rw [List.reverse_nil, show catI (nmR rs) ms [] = Str.empty from rfl, Str.append_empty] at htx
      have hlen : F.length + 0 ≤ 1800 := hlen
      rw [join_cat, htx, show ("" : Str).length = 0 from by decide +kernel]
      exact ⟨by omega, μ, hle, h⟩
    · have hi := hS i (by simp)
      rw [List.concat_eq_append] at etp htx hlen hS
      rw [List.map_append, List.map_singleton] at etp
      rw [List.reverse_append, List.reverse_singleton, List.singleton_append, catI_cons] at htx
      rw [wIs_app] at hlen
      have en : ((S.concat i).map itemD).isEmpty = false := by simp
      have hS2 : ∀ i ∈ S, ItG (rs.map Row.ar) i := fun j hj => hS j (List.mem_append_left _ hj)
      have hwl := wIs_len S
      simp only [en, PW, Nat.reduceAdd, String.reduceEq, decide_true, decide_false, ite_true, ite_false, Bool.false_eq_true, if_true, if_false, true_and, and_true, Bool.not_true, Bool.not_false, List.length_cons, List.length_nil, reduceCtorEq, isLst_lst (rdl_lst etp), pPop_c (wrl_lst etp)]
      cases i with
      | txt z =>
        have hlen : F.length + (wIs S + (1 + 0)) ≤ 1800 := hlen
        have e1 : wrl (mset ν tp (.lst (S.map itemD))) fp = some (F.map D.str) := by rw [wrl_ne htf.symm, wrl_lst efp]
        have e2 : rdl (mset ν tp (.lst (S.map itemD))) fp = some (F.map D.str) := by rw [rdl_ne htf.symm, rdl_lst efp]
        simp only [itemD, PW, Nat.reduceAdd, String.reduceEq, decide_true, decide_false, ite_true, ite_false, Bool.false_eq_true, if_true, if_false, true_and, and_true, Bool.not_true, Bool.not_false, List.length_cons, List.length_nil, reduceCtorEq, KIT, isLst_lst e2, pAppend_l e1, List.length_map]
        refine ⟨lt36 (by omega), wIs S, ?_, tp, fp, S, F ++ [z], _, _, _, rfl, (hle.upd htp).upd hfp, htp, hfp, htf, by rw [mset_ne htf, mset_same], by rw [mset_same, List.map_append]; rfl, hS2, fun y hy => ?_, ?_, ?_, rfl⟩
        · rw [List.concat_eq_append, wIs_app]
          show wIs S < wIs S + (1 + 0)
          omega
        · rcases List.mem_append.mp hy with hy | hy
          · exact hF y hy
          · rw [List.mem_singleton.mp hy]
            exact hi
        · rw [catS_snoc, sapp_assoc]
          exact htx
        · rw [List.length_append, List.length_singleton]
          omega
      | ty U r =>
        obtain ⟨l, ts⟩ := U
        have hlen : F.length + (wIs S + (6 * (Ty.node l ts).sz - 2 + 0)) ≤ 1800 := hlen
        have hw := wIs_items (nmR rs) ms l ts r
        have hil := wIs_len (itemsI (nmR rs) ms l ts r)
        simp only [itemD, PW, Nat.reduceAdd, String.reduceEq, decide_true, decide_false, ite_true, ite_false, Bool.false_eq_true, if_true, if_false, true_and, and_true, Bool.not_true, Bool.not_false, List.length_cons, List.length_nil, reduceCtorEq, KIT]
        refine ⟨b, rs, .node l ts, r, ms, rfl, ⟨dx, by rw [mset_ne (ne_free hb htp)]; exact hle _ _ hb⟩, hl, hi.1, hz, hi.2, fun p1 hp1 => ?_⟩
        have n1 : tp ≠ p1 := ne_free mset_same hp1
        simp only [PW, Nat.reduceAdd, String.reduceEq, decide_true, decide_false, ite_true, ite_false, Bool.false_eq_true, if_true, if_false, true_and, and_true, Bool.not_true, Bool.not_false, List.length_cons, List.length_nil, reduceCtorEq, rdl_same]
        intro p3 hp3
        have n3 : tp ≠ p3 := ne_free (by rw [mset_ne n1]; exact mset_same) hp3
        have f0 : (mset ν tp (.lst (S.map itemD))) fp = some (.lst (F.map D.str)) := by rw [mset_ne htf.symm]; exact efp
        have f1 := keepX (u := .lst ((itemsI (nmR rs) ms (Ty.node l ts).lab (Ty.node l ts).kids r).map itemD)) f0 hp1
        have f3 := keepX (u := .lst ((itemsI (nmR rs) ms (Ty.node l ts).lab (Ty.node l ts).kids r).map itemD).reverse) f1 hp3
        rw [pExt_ref (wrl_lst (by rw [mset_ne n3, mset_ne n1]; exact mset_same)) wrl_same]
        refine ⟨?_, wIs (S ++ (itemsI (nmR rs) ms l ts r).reverse), ?_, tp, fp, S ++ (itemsI (nmR rs) ms l ts r).reverse, F, _, _, _, rfl, (((hle.upd htp).trans (.put hp1)).trans (.put hp3)).upd htp, htp, hfp, htf, ?_, by rw [mset_ne htf.symm]; exact f3, fun j hj => ?_, hF, ?_, ?_, rfl⟩
        · rw [List.length_map, List.length_reverse, List.length_map]
          show S.length + (itemsI (nmR rs) ms l ts r).length ≤ sizeLine
          exact len36 (by omega)
        · rw [List.concat_eq_append, wIs_app, wIs_app, wIs_rev]
          show _ < wIs S + (6 * (Ty.node l ts).sz - 2 + 0)
          omega
        · rw [mset_same, List.map_append, List.map_reverse]
          rfl
        · rcases List.mem_append.mp hj with hj | hj
          · exact hS2 j hj
          · exact items_good hi.1 (nm_short hz) j (List.mem_reverse.mp hj)
        · rw [List.reverse_append, List.reverse_reverse, catI_app, catI_items (nmR rs) ms l ts r fun e => loc_fn hi.1.loc e]
          exact htx
        · rw [wIs_app, wIs_rev]
          omega
abbrev s_type_text : Stmt := top 55
theorem sc_type_text : FnScope ["book", "T", "marked"] ["book", "T", "marked"] (defScope s_type_text) := ⟨rfl, rfl, rfl, by decide +kernel, rfl, by decide +kernel, by decide +kernel⟩
def spTyText (C : Addr) : Spc := fun ds μ q => ∃ (b : Addr) (rs : List Row) (T : Ty) (ms : List Nat), ds = [.ref b, T.d, natsD ms] ∧ IsBook C μ b rs ∧ rs.length ≤ 1000 ∧ GTy (rs.map Row.ar) T ∧ (∀ row ∈ rs, row.nm.length ≤ 10) ∧ ms.length ≤ 1000 ∧ ms.Pairwise (· < ·) ∧ (∀ n ∈ ms, (n : Int) < BEY) ∧ q (.str (T.tx (nmR rs) ms 0)) μ
theorem ok_type_text {am : Addr} (A : AtD K mg "type_text" s_type_text [("marked", .ref am)]) (ham : ∀ H, SqT K H am []) (D_check_type : Has P w K mg base "check_type" ["book", "T"] 7 (spCheckT C)) (D_check_marked : Has P w K mg base "check_marked" ["marked"] 5 spMarked) (D_text_with : Has P w K mg base "text_with" ["book", "T", "marked"] 5 (spTextW C)) :
    HasD P w K mg base "type_text" ["book", "T", "marked"] 2 ["marked"] [.tup []] 8 (spTyText C) := by
  refine HasD.mk (kws := [("marked", .ref am)]) (n := 2) (dds := [.tup []]) A (fun f fd F => ?_) (by simp) rfl (fun H => .cons (.tup (ham H) .nil) .nil) ?h0 ?h1
  case h0 =>
    intro D doc pm an cdv ct us ks hu hk
    match us, hu, ks, hk with
    | [_, _], _, [_], _ => exact ⟨_, _, _, _, _, _, rfl, rfl, rfl⟩
  case h1 =>
    intro kV doc pm an cdv ct us ws hu hw
    match us, hu, ws, hw with
    | [_, _], _, [_], _ => rfl
  refine qfnD F sc_type_text (by decide) ?len (fun cdv A outer s H E hr => (qss_cons (qs_expr (qe_call D_check_type (hr.mono (by decide)) (qa_cons (qv 0) (qa_cons (qv 1) qa_nil))))
  (qss_cons (qs_expr (qe_call D_check_marked (hr.mono (by decide)) (qa_cons (qv 2) qa_nil)))
  (qss_one (qs_ret (qe_call D_text_with (hr.mono (by decide)) (qa_cons (qv 0) (qa_cons (qv 1) (qa_cons (qv 2) qa_nil))))))))) ?body
  case len => rintro ds μ q ⟨_, _, _, _, rfl, _⟩; rfl
  case body =>
    rintro ds μ q ⟨b, rs, T, ms, rfl, hb, hl, hT, hz, h1, h2, h3, h⟩
    simp only [PW, Nat.reduceAdd, String.reduceEq, decide_true, decide_false, ite_true, ite_false, Bool.false_eq_true, if_true, if_false, true_and, and_true, Bool.not_true, Bool.not_false, List.length_cons, List.length_nil, reduceCtorEq]
    refine ⟨b, rs, T, rfl, ⟨hb, hl, fun t ht => (hT.1 t ht).1, hT.2⟩, ?_⟩
    simp only [PW, Nat.reduceAdd, String.reduceEq, decide_true, decide_false, ite_true, ite_false, Bool.false_eq_true, if_true, if_false, true_and, and_true, Bool.not_true, Bool.not_false, List.length_cons, List.length_nil, reduceCtorEq]
    refine ⟨ms, rfl, h1, h2, h3, ?_⟩
    simp only [PW, Nat.reduceAdd, String.reduceEq, decide_true, decide_false, ite_true, ite_false, Bool.false_eq_true, if_true, if_false, true_and, and_true, Bool.not_true, Bool.not_false, List.length_cons, List.length_nil, reduceCtorEq]
    exact ⟨b, rs, T, ms, rfl, hb, hl, hT, hz, end_of h⟩
end
end Pl
namespace Pl
open PySem L2 PySem.Spec PyProof.Rows
/-! ### classmethods; a class in a local name -/
def AtC (K : PySem.W.Frag) (C : Addr) (x q : Str) (st : Stmt) (kws : List (Str × V)) : Prop := ∃ mc p g fd, ClX.CRead K C mc ∧ ClX.CMet K C mc x p g ∧ FunD K x q (defArgs st) (defBody st) (defScope st) [] kws g fd
def HasC (P : Program) (w : World) (K : PySem.W.Frag) (mg : Str → Option Value) (base : Heap) (C : Addr) (x : Str) (ps : List Str) (n : Nat) (ks : List Str) (k : Nat) (sp : Spc) : Prop :=
  ∃ mc p g fd, ClX.CRead K C mc ∧ ClX.CMet K C mc x p g ∧ FnOk P w K mg base CX0 k g fd ps (raw K sp) ∧ KBn K fd ps (n + 1) ks (fun us ws => us ++ ws) (fun vs zs => vs ++ zs)
section
variable {P : Program} {w : World} {K : PySem.W.Frag} {mg : Str → Option Value} {base : Heap}
theorem HasC.mk {C : Addr} {x q : Str} {st : Stmt} {ps : List Str} {kws : List (Str × V)} {k n : Nat} {sp : Spc} (A : AtC K C x q st kws) (h : ∀ f fd, FunD K x q (defArgs st) (defBody st) (defScope st) [] kws f fd → FnOk P w K mg base CX0 k f fd ps (raw K sp))
    (h1 : ∀ (kV doc pm : Value) (an : Option Addr) (cdv ct : Value) (us ws : List Value), us.length = n + 1 → ws.length = (kws.map (·.1)).length → bindArgs (PySem.W.fnOf x q (defArgs st) (defBody st) (defScope st) .none kV doc pm an cdv ct) ⟨us, (kws.map (·.1)).zip ws⟩ = pure (ps.zip (us ++ ws))) :
    HasC P w K mg base C x ps n (kws.map (·.1)) k sp := by
  obtain ⟨mc, p, g, fd, r, c, F⟩ := A
  refine ⟨mc, p, g, fd, r, c, h g fd F, ?_⟩
  obtain ⟨oc, od, dV, kV, doc, pm, an, cdv, ct, osl, rfl, lk, hcd, hD, hK⟩ := F.ex
  rcases hD with ⟨_, rfl⟩ | ⟨e, _⟩
  · exact ⟨fun s us ws _ hu hw => .of_eq (h1 kV doc pm an cdv ct us ws hu hw), fun r1 r2 => r1.append r2⟩
  · exact absurd rfl e
end
section
variable {X : Cx} {C : Addr} {k n : Nat} {ps ks : List Str} {sp : Spc} {x m : Str} {p pos apos : Pos} {o e : Expr} {es : List Expr} {kws : List Keyword} {po : PEx} {pr pk : PAx} {pl : Sem Bool}
def pClsK (C : Addr) (n m : Nat) (sp : Spc) (po : PEx) (pr pk : PAx) : PEx := fun ss μ q => po ss μ fun d μ1 => d = .ref C ∧ pr ss μ1 fun ds μ2 => pk ss μ2 fun es μ3 => ds.length = n ∧ es.length = m ∧ sp (.ref C :: (ds ++ es)) μ3 q
theorem qe_clsK (D : HasC X.prog X.w X.K X.mg X.base C m ps n ks k sp) (hr : Room k X.A) (ho : QE X o po) (ha : QA X (e :: es) pr) (hkw : QK X kws pk)
    (hall : (backToKw pos (keywordEach kws X.env)).all (·.1.isSome) = true := by rfl) (hks : (backToKw pos (keywordEach kws X.env)).filterMap (·.1) = ks := by rfl)
    (hst : starEach (e :: es) X.env = (false, eval e X.env) :: starEach es X.env := by rfl) (hpl : ((backTo pos (starEach (e :: es) X.env)).any (·.1) || (backToKw pos (keywordEach kws X.env)).any (·.1.isNone)) = false := by rfl)
    (ht : eval (.Call (.Attribute o m apos) (e :: es) kws pos) X.env = (do
      let ov ← eval o X.env
      standAt apos.atName
      let (f, first) ← holding [ov] (getMethod ov m pl)
      callWith pos f first (backTo pos (starEach (e :: es) X.env)) (backToKw pos (keywordEach kws X.env))) := by rfl) : QE X (.Call (.Attribute o m apos) (e :: es) kws pos) (pClsK C n ks.length sp po pr pk) := by
  obtain ⟨mc, pp, g, fd, r, c, F, b⟩ := D
  obtain ⟨t0, g0, l0⟩ := ho
  obtain ⟨t, g1, l⟩ := ha
  obtain ⟨u, g2, l2⟩ := hkw
  refine ⟨_, Lq.pe_clsK (E := E0) (pl := pl) g0 r c F hr b pass0 g1 g2 hall hks hst hpl ht, fun σ H ss μ q Q rs ab h k => ?_⟩
  refine l0 σ H ss μ _ _ rs ab h fun v H0 d μ0 f0 ab0 r0 h0 => ?_
  obtain ⟨e0, h0⟩ := h0
  subst e0
  refine ⟨r0.ref', l σ H0 ss μ0 _ _ (rs.mono f0.tup) ab0 h0 fun us H1 ds μ1 f1 ab1 r1 h1 => ?_⟩
  refine l2 σ H1 ss μ1 _ _ (rs.mono (f0.trans f1).tup) ab1 h1 fun ws H2 es μ2 f2 ab2 r2 h2 => ?_
  obtain ⟨e1, e2, h3⟩ := h2
  exact ⟨by rw [r1.len, e1], by rw [r2.len, e2], .ref C :: (ds ++ es), μ2, q, .cons .ref ((r1.mono f2.tup).app r2), ab2, h3, fun v H' d μ' f3 ab3 r3 h4 => k _ _ _ _ (((f0.trans f1).trans f2).trans f3) ab3 r3 h4⟩
def pMakeL (i : Nat) (C : Addr) (sp : Spc) (pr : PAx) : PEx := fun ss μ q => sget ss i = some (.ref C) ∧ pr ss μ fun ds μ1 => ∀ x dx, μ1 x = none → sp (.ref x :: ds) (mset μ1 x (.ins C dx [])) fun v μ2 => v = .non ∧ q (.ref x) μ2
theorem qe_makeL (i : Nat) {y : Str} (D : HasI X.prog X.w X.K X.mg X.base y C ps k sp) (hr : Room (k + 1) X.A) (ha : QA X (e :: es) pr) (hN : X.N[i]? = some x := by rfl) (hv : Vis X.env.scope x := by first | exact Or.inl rfl | exact Or.inr (Or.inl rfl) | exact Or.inr (Or.inr rfl))
    (hdb : (x == ("__debug__" : Str)) = false := by decide) (hcd : (x == ("__classdict__" : Str)) = false := by decide) (he : starEach (e :: es) X.env = (false, eval e X.env) :: starEach es X.env := by rfl) (hpl : (backTo pos (starEach es X.env)).any (·.1) = false := by rfl) :
    QE X (.Call (.Name x p) (e :: es) [] pos) (pMakeL i C sp pr) := by
  obtain ⟨f, fd, F, b, M, m⟩ := D
  obtain ⟨u, g2, l2⟩ := ha
  refine ⟨_, Lq.pe_makeL (E := E0) (i := i) M F hr hN hv b pass0 g2 hdb hcd he hpl, fun σ H ss μ q Q rs ab h k => ?_⟩
  obtain ⟨h0, h⟩ := h
  obtain ⟨v0, e0, r0⟩ := rs.get h0
  rw [r0.ref'] at e0
  refine ⟨e0, l2 σ H ss μ _ _ rs ab h fun vs H1 ds μ1 f1 ab1 r1 h1 => ?_⟩
  intro x dx hx hdx hne
  rw [List.append_nil]
  have hx2 : upd H1 dx (.own x) x = none := by rw [upd_ne hne.symm]; exact hx
  have f2 : Fm X.K H1 μ1 (upd H1 dx (.own x)) μ1 := .tuple hdx
  have f3 : Fm X.K (upd H1 dx (.own x)) μ1 (upd (upd H1 dx (.own x)) x (.ins C dx [])) (mset μ1 x (.ins C dx [])) := .put hx2
  refine ⟨.ref x :: ds, mset μ1 x (.ins C dx []), _, .cons .ref (r1.mono (f2.trans f3).tup), (ab1.new hdx).put (o := .ins C dx []) hx2 ⟨[], upd_same, .nil⟩, h1 x dx (ab1.free hx), ?_⟩
  rintro v H3 d μ3 f4 ab3 r3 ⟨rfl, h4⟩
  exact ⟨r3.non', k _ _ _ _ (f1.trans ((f2.trans f3).trans f4)) ab3 .ref h4⟩
end
end Pl
namespace Pl
open PySem L2 PySem.SeqAt PyProof.Rows
section
variable {X : Cx}
theorem op_eqNil (hu : X.A.units + 1 < cLine) : OpR X (compareOp .Eq) (fun x y H Q => ∃ a b xs, x = .ref a ∧ y = .ref b ∧ SqT X.K H a xs ∧ SqT X.K H b [] ∧ Q (.bl xs.isEmpty) H) := by
  intro pins s σ H x y v u Q I rx ry hq
  obtain ⟨a, b, xs, rfl, rfl, ha, hb, q⟩ := hq
  cases rx
  cases ry
  obtain ⟨its, rv, pl, hz⟩ := I.tuple ha
  obtain ⟨its2, rv2, pl2, hz2⟩ := I.tuple hb
  cases rv2
  have hl : s.heap.IsTuple a its.toArray := pl
  have hl2 : s.heap.IsTuple b #[] := pl2
  have hR := RcAt.tuples (A := X.A) (e := fun _ => true) hl hl2 (by omega) (fun j h1 h2 => absurd h2 (Nat.not_lt_zero _))
  have e : ((List.range (min its.toArray.size (#[] : Array Value).size)).all (fun _ => true) && its.toArray.size == (#[] : Array Value).size) = xs.isEmpty := by
    have := rv.length
    cases xs <;> cases its <;> simp_all
  rw [e] at hR
  show wpAny (model X.prog X.w) X.A (richCompare .Eq (.ref a) (.ref b)) (EP X pins σ Q) X.xe s
  exact hR X.prog X.w _ _ ⟨.bl _, H, I, rfl, q⟩
theorem op_eqNilL (hu : X.A.units + 1 < cLine) : OpR X (compareOp .Eq) (fun x y H Q => ∃ a b xs, x = .ref a ∧ y = .ref b ∧ SqL X.K H a xs ∧ SqL X.K H b [] ∧ Q (.bl xs.isEmpty) H) := by
  intro pins s σ H x y v u Q I rx ry hq
  obtain ⟨a, b, xs, rfl, rfl, ha, hb, q⟩ := hq
  cases rx
  cases ry
  obtain ⟨its, rv, pl, hz⟩ := I.list ha
  obtain ⟨its2, rv2, pl2, hz2⟩ := I.list hb
  cases rv2
  have hl : s.heap.IsList a its.toArray := pl.isList
  have hl2 : s.heap.IsList b #[] := pl2.isList
  have hlen := rv.length
  show wpAny (model X.prog X.w) X.A (richCompare .Eq (.ref a) (.ref b)) (EP X pins σ Q) X.xe s
  by_cases hsz : its = []
  · subst hsz
    have hR := RcAt.lists (A := X.A) (e := fun _ => true) hl hl2 rfl (by omega) (fun j h1 h2 => absurd h2 (Nat.not_lt_zero _))
    have e : xs = [] := List.eq_nil_of_length_eq_zero (by simpa using hlen)
    subst e
    exact hR X.prog X.w _ _ ⟨.bl _, H, I, rfl, q⟩
  · have hR := RcAt.lists_lengths (A := X.A) hl hl2 (by simpa using hsz) (by omega)
    have e : xs.isEmpty = false := by
      cases xs with
      | nil => exact (hsz (List.eq_nil_of_length_eq_zero hlen.symm)).elim
      | cons _ _ => rfl
    rw [e] at q
    exact hR X.prog X.w _ _ ⟨.bl false, H, I, rfl, q⟩
def pEqNL : PR2 := fun d e μ q => match d, e with
  | .ref a, .ref b => onSome (rdl μ a) fun ds => rdl μ b = some [] ∧ q (.bl ds.isEmpty) μ
  | _, _ => False
theorem qop_eqNilL (hu : X.A.units + 1 < cLine) : QOp X (compareOp .Eq) pEqNL := by
  refine ⟨_, op_eqNilL hu, fun x y d e H μ q Q ab r1 r2 h k => ?_⟩
  unfold pEqNL at h
  split at h
  · rename_i a b
    obtain ⟨ds, e1, e2, h⟩ := onSome_of h
    obtain ⟨vs, h1, h2⟩ := ab.list e1
    obtain ⟨us, h3, h4⟩ := ab.list e2
    rw [h4.nil'] at h3
    refine ⟨a, b, vs, r1.ref', r2.ref', h1, h3, ?_⟩
    have e : vs.isEmpty = ds.isEmpty := by
      have := h2.len
      cases vs <;> cases ds <;> first | rfl | cases this
    rw [e]
    exact k _ _ _ _ .refl ab .bl h
  · exact h.elim
def pEqN : PR2 := fun d e μ q => match d, e with
  | .tup ds, .tup [] => q (.bl ds.isEmpty) μ
  | _, _ => False
theorem qop_eqNil (hu : X.A.units + 1 < cLine) : QOp X (compareOp .Eq) pEqN := by
  refine ⟨_, op_eqNil hu, fun x y d e H μ q Q ab r1 r2 h k => ?_⟩
  unfold pEqN at h
  split at h
  · obtain ⟨a, vs, rfl, h1, h2⟩ := r1.tup'
    obtain ⟨b, us, rfl, h3, h4⟩ := r2.tup'
    rw [h4.nil'] at h3
    refine ⟨a, b, vs, rfl, rfl, h1, h3, ?_⟩
    rename_i ds
    have e : vs.isEmpty = ds.isEmpty := by
      have := h2.len
      cases vs <;> cases ds <;> first | rfl | cases this
    rw [e]
    exact k _ _ _ _ .refl ab .bl h
  · exact h.elim
end
end Pl
namespace Pl
open PySem L2
/-! ### the law's drawing -/
def Ht (i j k : Int) : MO := .lst [.int i, .int j, .int k]
def Hat (μ : Mu) (h : Addr) : Prop := ∃ i j k, μ h = some (Ht i j k)
/-- all but the hat is as it was -/
structure Off (h : Addr) (μ ν : Mu) : Prop where
  off : ∀ x o, x ≠ h → μ x = some o → ν x = some o
  hat : Hat ν h
theorem Off.refl {h : Addr} {μ : Mu} (k : Hat μ h) : Off h μ μ := ⟨fun _ _ _ e => e, k⟩
theorem Off.trans {h : Addr} {μ ν ρ : Mu} (a : Off h μ ν) (b : Off h ν ρ) : Off h μ ρ := ⟨fun x o hx e => b.off x o hx (a.off x o hx e), b.hat⟩
theorem Off.of_mle {h : Addr} {μ ν : Mu} (a : Mle μ ν) (k : Hat μ h) : Off h μ ν := ⟨fun x o _ e => a x o e, by obtain ⟨i, j, l, e⟩ := k; exact ⟨i, j, l, a _ _ e⟩⟩
theorem Off.set {h : Addr} {μ : Mu} {i j k : Int} : Off h μ (mset μ h (Ht i j k)) := ⟨fun x o hx e => by rw [mset_ne hx]; exact e, i, j, k, mset_same⟩
theorem Off.put {h p : Addr} {μ ν : Mu} {o : MO} (a : Off h μ ν) (hp : ν p = none) : Off h μ (mset ν p o) := a.trans (.of_mle (.put hp) a.hat)
theorem fmod_nat (i : Int) {n : Nat} (h : 0 < n) : ∃ r : Nat, i.fmod (n : Int) = (r : Int) ∧ r < n := by
  have h1 : i.fmod (n : Int) = i % (n : Int) := Int.fmod_eq_emod_of_nonneg i (by omega)
  have h2 := Int.emod_nonneg i (show (n : Int) ≠ 0 by omega)
  have h3 := Int.emod_lt_of_pos i (show (0 : Int) < (n : Int) by omega)
  exact ⟨(i % (n : Int)).toNat, by rw [h1]; omega, by omega⟩
theorem cp1 : CPw 10 59 := ⟨by decide, by decide +kernel⟩
theorem cp2 : CPw (10 ^ Int.toNat 59) 5 := ⟨by decide, by decide +kernel⟩
theorem cp3 : ((10 : Int) ^ Int.toNat 59) ^ Int.toNat 5 ≠ 0 := by decide +kernel
theorem cp4 : CPw 10 16 := ⟨by decide, by decide +kernel⟩
theorem cm1 (x : Int) : CMul x 61 := by first | exact .inr ⟨by decide, by decide⟩ | exact .inl ⟨by decide, by decide⟩
theorem cm2 (x : Int) : CMul 617 x := by first | exact .inl ⟨by decide, by decide⟩ | exact .inr ⟨by decide, by decide⟩
theorem cm3 (x : Int) : CMul 43 x := by first | exact .inl ⟨by decide, by decide⟩ | exact .inr ⟨by decide, by decide⟩
theorem cm4 (x : Int) : CMul 19 x := by first | exact .inl ⟨by decide, by decide⟩ | exact .inr ⟨by decide, by decide⟩
theorem setD_l {μ : Mu} {a : Addr} {ds : List D} {i : Int} {v : D} {q : Mu → Prop} (h : μ a = some (.lst ds)) : setD (.ref a) (.int i) v μ q = onSome (ixN ds.length i) fun j => q (mset μ a (.lst (ds.set j v))) := by
  unfold setD
  simp only [h, onInt]
theorem setH0 {μ : Mu} {a : Addr} {i j k : Int} {v : Int} {q : Mu → Prop} (h : μ a = some (Ht i j k)) : setD (.ref a) (.int 0) (.int v) μ q = q (mset μ a (Ht v j k)) := setD_l h
theorem setH2 {μ : Mu} {a : Addr} {i j k : Int} {v : Int} {q : Mu → Prop} (h : μ a = some (Ht i j k)) : setD (.ref a) (.int 2) (.int v) μ q = q (mset μ a (Ht i j v)) := setD_l h
section
variable {P : Program} {w : World} {K : PySem.W.Frag} {mg : Str → Option Value} {base : Heap} {C : Addr}
abbrev s__law_hat : Stmt := top 59
theorem sc__law_hat : FnScope ["_law_script", "_law_spot", "_law_cell", "_law_great"] ["_law_script", "_law_spot"] (defScope s__law_hat) := ⟨rfl, rfl, rfl, by decide +kernel, rfl, by decide +kernel, by decide +kernel⟩
def spHat : Spc := fun ds μ q => ∃ (a : Addr) (ns : List Int) (n : Nat), ds = [.ref a, .int (n : Int)] ∧ rdl μ a = some (ns.map D.int) ∧ n < 1000 ∧ ∀ (h : Addr) (i j k : Int), μ h = none → q (.ref h) (mset μ h (Ht i j k))
theorem ok_hat (A : At K mg "_law_hat" s__law_hat ["_law_script", "_law_spot"]) (B : Bi mg) : Has P w K mg base "_law_hat" ["_law_script", "_law_spot"] 1 spHat := by
  refine .mk A fun f fd F => ?_
  refine qfn F sc__law_hat (by decide) ?len (fun cdv A outer s H E hr => (qss_cons (qs_set (i := 2) sc__law_hat.nd rfl (Or.inl rfl) (qe_ifExp (qt_cmp qop_lt (qv 1) (qe_callB qc_len (by rfl) B.len (by decide +kernel) (qa_cons (qv 0) qa_nil)) (nomark _)) (qe_ix (qix (hu_of hr)) (qv 0) (qv 1)) (qe_op qop_add (qe_op qop_mul qe_int (qv 1)) qe_int)))
  (qss_cons (qs_set (i := 3) sc__law_hat.nd rfl (Or.inl rfl) (qe_op qop_mod (qe_callB qc_abs (by rfl) B.abs (by decide +kernel) (qa_cons (qe_callTy qc_int (by rfl) B.int (by decide +kernel) (qa_cons (qv 2) qa_nil)) qa_nil)) (qe_op qop_pow (qe_op qop_pow qe_int qe_int) qe_int)))
  (qss_one (qs_ret (qe_lst (qa_cons (qe_callB (qc_max rfl) (by rfl) B.max (by decide +kernel) (qa_cons qe_int (qa_cons (qe_op qop_sub (qv 3) (qe_op qop_pow qe_int qe_int)) qa_nil))) (qa_cons (qe_op qop_add (qe_op qop_add (qe_op qop_add (qe_op qop_mul (qe_op qop_mod (qv 3) qe_int) qe_int) (qe_op qop_mul qe_int (qv 1))) (qe_op qop_mul qe_int (qe_callTy qc_int (by rfl) B.int (by decide +kernel) (qa_cons (qe_cmp qop_lt (qv 2) qe_int (nomark _)) qa_nil)))) qe_int) (qa_cons qe_int qa_nil))))))))) ?body
  case len => rintro ds μ q ⟨_, _, _, rfl, _⟩; rfl
  case body =>
    rintro ds μ q ⟨a, ns, n, rfl, ha, hn, h⟩
    simp only [PW, Nat.reduceAdd, String.reduceEq, decide_true, decide_false, ite_true, ite_false, Bool.false_eq_true, if_true, if_false, true_and, and_true, Bool.not_true, Bool.not_false, List.length_cons, List.length_nil, reduceCtorEq, lenD_lst ha, List.length_map]
    by_cases c : n < ns.length
    · have e1 : decide ((n : Int) < (ns.length : Int)) = true := by rw [decide_eq_true_iff]; omega
      have e2 : atI (ns.map D.int) (n : Int) = some (.int ns[n]) := atI_nat (by rw [List.getElem?_map, List.getElem?_eq_getElem c]; rfl)
      simp only [e1, pIx_lst ha, e2, PW, Nat.reduceAdd, String.reduceEq, decide_true, decide_false, ite_true, ite_false, Bool.false_eq_true, if_true, if_false, true_and, and_true, Bool.not_true, Bool.not_false, List.length_cons, List.length_nil, reduceCtorEq, cp1, cp2, cp3, cp4, cm1, cm2, cm3, cm4, ne_eq, not_false_eq_true, show (2147483497 : Int) = 0 ↔ False by decide]
      exact fun p hp => end_of (h p _ _ _ hp)
    · have e1 : decide ((n : Int) < (ns.length : Int)) = false := by rw [decide_eq_false_iff_not]; omega
      simp only [e1, PW, Nat.reduceAdd, String.reduceEq, decide_true, decide_false, ite_true, ite_false, Bool.false_eq_true, if_true, if_false, true_and, and_true, Bool.not_true, Bool.not_false, List.length_cons, List.length_nil, reduceCtorEq, cp1, cp2, cp3, cp4, cm1, cm2, cm3, cm4, ne_eq, not_false_eq_true, show (2147483497 : Int) = 0 ↔ False by decide]
      exact fun p hp => end_of (h p _ _ _ hp)
abbrev s__law_lift : Stmt := top 60
theorem sc__law_lift : FnScope ["_law_hat_here", "_law_total", "_law_found", "_law_one", "_law_two"] ["_law_hat_here", "_law_total"] (defScope s__law_lift) := ⟨rfl, rfl, rfl, by decide +kernel, rfl, by decide +kernel, by decide +kernel⟩
def spLift : Spc := fun ds μ q => ∃ (h : Addr) (n : Nat), ds = [.ref h, .int (n : Int)] ∧ Hat μ h ∧ 0 < n ∧ n < 1000000 ∧ ∀ (r : Nat) (ν : Mu), r < n → Off h μ ν → q (.int (r : Int)) ν
theorem ok_lift (A : At K mg "_law_lift" s__law_lift ["_law_hat_here", "_law_total"]) (B : Bi mg) : Has P w K mg base "_law_lift" ["_law_hat_here", "_law_total"] 1 spLift := by
  refine .mk A fun f fd F => ?_
  refine qfn F sc__law_lift (by decide) ?len (fun cdv A outer s H E hr => (qss_cons (qs_if (qt_cmp qop_gt (qe_ix (qix (hu_of hr)) (qv 0) qe_int) qe_int (nomark _)) (qss_cons (qs_set (i := 2) sc__law_lift.nd rfl (Or.inl rfl) (qe_op qop_mod (qe_callTy qc_int (by rfl) B.int (by decide +kernel) (qa_cons (qe_ix (qix (hu_of hr)) (qv 0) qe_int) qa_nil)) (qv 1)))
  (qss_cons (qs_asg (qe_op qop_fdiv (qe_ix (qix (hu_of hr)) (qv 0) qe_int) (qv 1)) (qg_sub (hu_of hr) (qv 0) qe_int))
  (qss_one (qs_ret (qv 2))))) qss_nil)
  (qss_cons (qs_asg (qe_op qop_add (qe_ix (qix (hu_of hr)) (qv 0) qe_int) qe_int) (qg_sub (hu_of hr) (qv 0) qe_int))
  (qss_cons (qs_set (i := 3) sc__law_lift.nd rfl (Or.inl rfl) (qe_op qop_mod (qe_callTy qc_int (by rfl) B.int (by decide +kernel) (qa_cons (qe_op qop_add (qe_ix (qix (hu_of hr)) (qv 0) qe_int) (qe_op qop_mul qe_int (qe_ix (qix (hu_of hr)) (qv 0) qe_int))) qa_nil)) qe_int))
  (qss_cons (qs_set (i := 4) sc__law_lift.nd rfl (Or.inl rfl) (qe_op qop_add (qe_op qop_mul (qe_op qop_mod (qe_callTy qc_int (by rfl) B.int (by decide +kernel) (qa_cons (qe_op qop_add (qe_op qop_mul (qv 3) (qv 3)) (qe_op qop_mul qe_int (qe_ix (qix (hu_of hr)) (qv 0) qe_int))) qa_nil)) qe_int) qe_int) (qv 3)))
  (qss_one (qs_ret (qe_op qop_mod (qe_callTy qc_int (by rfl) B.int (by decide +kernel) (qa_cons (qe_op qop_fdiv (qv 4) qe_int) qa_nil)) (qv 1))))))))) ?body
  case len => rintro ds μ q ⟨_, _, rfl, _⟩; rfl
  case body =>
    rintro ds μ q ⟨h, n, rfl, ⟨i, j, k, hh⟩, h0, h1, hq⟩
    have hl := rdl_lst hh
    simp only [PW, Nat.reduceAdd, String.reduceEq, decide_true, decide_false, ite_true, ite_false, Bool.false_eq_true, if_true, if_false, true_and, and_true, Bool.not_true, Bool.not_false, List.length_cons, List.length_nil, reduceCtorEq, pIx_lst hl]
    have n0 : ¬ (n : Int) = 0 := by omega
    by_cases c : 0 < i
    · simp only [c, PW, Nat.reduceAdd, String.reduceEq, decide_true, decide_false, ite_true, ite_false, Bool.false_eq_true, if_true, if_false, true_and, and_true, Bool.not_true, Bool.not_false, List.length_cons, List.length_nil, reduceCtorEq, setH0 hh]
      refine ⟨n0, ⟨by omega, by omega⟩, ?_⟩
      obtain ⟨r, hr1, hr2⟩ := fmod_nat i h0
      rw [hr1]
      exact end_of (hq r _ hr2 .set)
    · have l2 : rdl (mset μ h (Ht i j (k + 1))) h = some [.int i, .int j, .int (k + 1)] := rdl_same
      obtain ⟨one, ho1, ho2⟩ := fmod_nat (j + 8219 * (k + 1)) (n := 2305843009213693907) (by decide)
      have ho1 : (j + 8219 * (k + 1)).fmod 2305843009213693907 = (one : Int) := ho1
      have m1 : CMul 8219 (k + 1) := .inl ⟨by decide, by decide⟩
      have m2 : CMul 89 (k + 1) := .inl ⟨by decide, by decide⟩
      have m3 : CMul (one : Int) (one : Int) := .inl ⟨by omega, by omega⟩
      have m4 : ∀ x : Int, CMul x 7368791 := fun x => .inr ⟨by decide, by decide⟩
      have q1 : ((2305843009213693907 : Int) = 0) = False := by decide
      have q2 : ((2305843009213693921 : Int) = 0) = False := by decide
      have dv : ∀ x : Int, CDivN x 65536 := fun x => ⟨by omega, by omega⟩
      simp only [c, PW, Nat.reduceAdd, String.reduceEq, decide_true, decide_false, ite_true, ite_false, Bool.false_eq_true, if_true, if_false, true_and, and_true, Bool.not_true, Bool.not_false, List.length_cons, List.length_nil, reduceCtorEq, setH2 hh, pIx_lst l2, m1, m2, m4, q1, q2, ho1, m3, n0, dv, ne_eq, not_false_eq_true]
      obtain ⟨r, hr1, hr2⟩ := fmod_nat ((((one : Int) * one + 89 * (k + 1)).fmod 2305843009213693921 * 7368791 + one).fdiv 65536) h0
      rw [hr1]
      exact end_of (hq r _ hr2 .set)
abbrev s__law_choice : Stmt := top 61
theorem sc__law_choice : FnScope ["_law_hat_here", "_law_items"] ["_law_hat_here", "_law_items"] (defScope s__law_choice) := ⟨rfl, rfl, rfl, by decide +kernel, rfl, by decide +kernel, by decide +kernel⟩
def spChoice : Spc := fun ds μ q => ∃ (h p : Addr) (xs : List D), ds = [.ref h, .ref p] ∧ Hat μ h ∧ p ≠ h ∧ μ p = some (.lst xs) ∧ 0 < xs.length ∧ xs.length < 1000000 ∧ ∀ (x : D) (ν : Mu), x ∈ xs → Off h μ ν → q x ν
theorem ok_choice (A : At K mg "_law_choice" s__law_choice ["_law_hat_here", "_law_items"]) (B : Bi mg) (D__law_lift : Has P w K mg base "_law_lift" ["_law_hat_here", "_law_total"] 1 spLift) : Has P w K mg base "_law_choice" ["_law_hat_here", "_law_items"] 2 spChoice := by
  refine .mk A fun f fd F => ?_
  refine qfn F sc__law_choice (by decide) ?len (fun cdv A outer s H E hr => (qss_one (qs_ret (qe_ix (qix (hu_of hr)) (qv 1) (qe_call D__law_lift (hr.mono (by decide)) (qa_cons (qv 0) (qa_cons (qe_callB qc_len (by rfl) B.len (by decide +kernel) (qa_cons (qv 1) qa_nil)) qa_nil))))))) ?body
  case len => rintro ds μ q ⟨_, _, _, rfl, _⟩; rfl
  case body =>
    rintro ds μ q ⟨h, p, xs, rfl, hh, hne, hp, h0, h1, hq⟩
    simp only [PW, Nat.reduceAdd, String.reduceEq, decide_true, decide_false, ite_true, ite_false, Bool.false_eq_true, if_true, if_false, true_and, and_true, Bool.not_true, Bool.not_false, List.length_cons, List.length_nil, reduceCtorEq, lenD_lst (rdl_lst hp)]
    refine ⟨h, xs.length, rfl, hh, h0, h1, fun r ν hr ho => ?_⟩
    have e : atI xs (r : Int) = some xs[r] := atI_nat (List.getElem?_eq_getElem hr)
    simp only [pIx_lst (rdl_lst (ho.off _ _ hne hp)), e, PW, Nat.reduceAdd, String.reduceEq, decide_true, decide_false, ite_true, ite_false, Bool.false_eq_true, if_true, if_false, true_and, and_true, Bool.not_true, Bool.not_false, List.length_cons, List.length_nil, reduceCtorEq]
    exact end_of (hq _ ν (List.getElem_mem hr) ho)
end
end Pl
namespace Pl
open PySem L2
def asks2 : List (Option (List Nat)) := [none, some [], some [0], some [1], some [0, 1], some [0, 1]]
def asks1 : List (Option (List Nat)) := [none, some [], some [0], some [0]]
def asks0 : List (Option (List Nat)) := [none, some []]
def cars : List (Option Ty) := [none, some (tv 0), some (.node (.made 5) [tv 0]), some (.node .fn [tv 0, tv 0])]
/-- rows as the law draws them -/
structure GRows (rows : List Row) (a2 a1 a0 : Option (List Nat)) (cn : Option (List (Str × Option Ty))) : Prop where
  eq : rows = [⟨"pair", 2, a2, none⟩, ⟨"box", 1, a1, cn⟩, ⟨"far", 0, a0, none⟩]
  h2 : a2 ∈ asks2
  h1 : a1 ∈ asks1
  h0 : a0 ∈ asks0
  hc : cn = none ∨ ∃ c ∈ cars, cn = some [((Str.ofString "Box"), c), ((Str.ofString "No"), none)]
theorem choice_new {α : Type} {f : α → D} {h p : Addr} {μ : Mu} {xs : List D} {ys : List α} {q : EQ} (hx : xs = ys.map f) (hh : Hat μ h) (hp : μ p = none) (h0 : 0 < ys.length) (h1 : ys.length < 1000000)
    (k : ∀ y ∈ ys, ∀ ν, Off h μ ν → q (f y) ν) : spChoice [.ref h, .ref p] (mset μ p (.lst xs)) q := by
  subst hx
  obtain ⟨i, j, l, e⟩ := hh
  have hne : p ≠ h := (ne_free e hp).symm
  refine ⟨h, p, ys.map f, rfl, ⟨i, j, l, by rw [mset_ne hne.symm]; exact e⟩, hne, mset_same, by rw [List.length_map]; exact h0, by rw [List.length_map]; exact h1, fun x ν hx ho => ?_⟩
  obtain ⟨y, hy, rfl⟩ := List.mem_map.mp hx
  exact k y hy ν ⟨fun z o hz hzo => ho.off z o hz (by rw [mset_ne (ne_free hzo hp)]; exact hzo), ho.hat⟩
theorem cars_d : [D.non, D.tup [D.str (Str.ofString "var"), D.int 0], D.tup [D.str (Str.ofString "made"), D.int 5, D.tup [D.tup [D.str (Str.ofString "var"), D.int 0]]], D.tup [D.str (Str.ofString "fn"), D.tup [D.str (Str.ofString "var"), D.int 0], D.tup [D.str (Str.ofString "var"), D.int 0]]] = cars.map optD := by
  simp only [cars, List.map_cons, List.map_nil, optD, d_var, d_made, d_fn]
  rfl
theorem cut3 {a b c d : D} : cutD [a, b, c, d] none (some 3) = [a, b, c] := rfl
theorem setD_k {μ : Mu} {a : Addr} {kvs : List (Key × D)} {i : Int} {v : D} {q : Mu → Prop} (h : μ a = some (.dk kvs)) : setD (.ref a) (.int i) v μ q = (kvs.length < sizeLine ∧ q (mset μ a (.dk (putD kvs (.inl i) v)))) := by
  unfold setD
  simp only [h, keyOf, onSome]
section
variable {P : Program} {w : World} {K : PySem.W.Frag} {mg : Str → Option Value} {base : Heap} {C : Addr}
abbrev s__law_rows : Stmt := top 62
theorem sc__law_rows : FnScope ["_law_hat_here", "_law_two", "_law_carried", "_law_built", "_law_one"] ["_law_hat_here"] (defScope s__law_rows) := ⟨rfl, rfl, rfl, by decide +kernel, rfl, by decide +kernel, by decide +kernel⟩
def spRows : Spc := fun ds μ q => ∃ h : Addr, ds = [.ref h] ∧ Hat μ h ∧ ∀ (rows : List Row) (a2 a1 a0 : Option (List Nat)) (cn : Option (List (Str × Option Ty))) (ν : Mu), GRows rows a2 a1 a0 cn → Off h μ ν → q (rowsD rows) ν
theorem ok_rows (A : At K mg "_law_rows" s__law_rows ["_law_hat_here"]) (B : Bi mg) (D__law_choice : Has P w K mg base "_law_choice" ["_law_hat_here", "_law_items"] 2 spChoice) : Has P w K mg base "_law_rows" ["_law_hat_here"] 3 spRows := by
  refine .mk A fun f fd F => ?_
  refine qfn F sc__law_rows (by decide) ?len (fun cdv A outer s H E hr => (qss_cons (qs_set (i := 1) sc__law_rows.nd rfl (Or.inl rfl) (qe_tup (qa_cons qe_str (qa_cons qe_int (qa_cons (qe_call D__law_choice (hr.mono (by decide)) (qa_cons (qv 0) (qa_cons (qe_lst (qa_cons qe_non (qa_cons (qe_tup qa_nil) (qa_cons (qe_tup (qa_cons qe_int qa_nil)) (qa_cons (qe_tup (qa_cons qe_int qa_nil)) (qa_cons (qe_tup (qa_cons qe_int (qa_cons qe_int qa_nil))) (qa_cons (qe_tup (qa_cons qe_int (qa_cons qe_int qa_nil))) qa_nil))))))) qa_nil))) (qa_cons qe_non qa_nil))))))
  (qss_cons (qs_set (i := 2) sc__law_rows.nd rfl (Or.inl rfl) (qe_call D__law_choice (hr.mono (by decide)) (qa_cons (qv 0) (qa_cons (qe_lst (qa_cons qe_non (qa_cons (qe_tup (qa_cons qe_str (qa_cons qe_int qa_nil))) (qa_cons (qe_tup (qa_cons qe_str (qa_cons qe_int (qa_cons (qe_tup (qa_cons (qe_tup (qa_cons qe_str (qa_cons qe_int qa_nil))) qa_nil)) qa_nil)))) (qa_cons (qe_tup (qa_cons qe_str (qa_cons (qe_tup (qa_cons qe_str (qa_cons qe_int qa_nil))) (qa_cons (qe_tup (qa_cons qe_str (qa_cons qe_int qa_nil))) qa_nil)))) qa_nil))))) qa_nil))))
  (qss_cons (qs_set (i := 3) sc__law_rows.nd rfl (Or.inl rfl) (qe_call D__law_choice (hr.mono (by decide)) (qa_cons (qv 0) (qa_cons (qe_lst (qa_cons qe_non (qa_cons (qe_tup (qa_cons (qe_tup (qa_cons qe_str (qa_cons (qv 2) qa_nil))) (qa_cons (qe_tup (qa_cons qe_str (qa_cons qe_non qa_nil))) qa_nil))) qa_nil))) qa_nil))))
  (qss_cons (qs_set (i := 4) sc__law_rows.nd rfl (Or.inl rfl) (qe_tup (qa_cons qe_str (qa_cons qe_int (qa_cons (qe_call D__law_choice (hr.mono (by decide)) (qa_cons (qv 0) (qa_cons (qe_lst (qa_cons qe_non (qa_cons (qe_tup qa_nil) (qa_cons (qe_tup (qa_cons qe_int qa_nil)) (qa_cons (qe_tup (qa_cons qe_int qa_nil)) qa_nil))))) qa_nil))) (qa_cons (qv 3) qa_nil))))))
  (qss_one (qs_ret (qe_tup (qa_cons (qv 1) (qa_cons (qv 4) (qa_cons (qe_tup (qa_cons qe_str (qa_cons qe_int (qa_cons (qe_call D__law_choice (hr.mono (by decide)) (qa_cons (qv 0) (qa_cons (qe_lst (qa_cons qe_non (qa_cons (qe_tup qa_nil) qa_nil))) qa_nil))) (qa_cons qe_non qa_nil))))) qa_nil))))))))))) ?body
  case len => rintro ds μ q ⟨_, rfl, _⟩; rfl
  case body =>
    rintro ds μ q ⟨h, rfl, hh, hq⟩
    simp only [PW, Nat.reduceAdd, String.reduceEq, decide_true, decide_false, ite_true, ite_false, Bool.false_eq_true, if_true, if_false, true_and, and_true, Bool.not_true, Bool.not_false, List.length_cons, List.length_nil, reduceCtorEq]
    intro p1 hp1
    refine choice_new (f := asksD) (ys := asks2) rfl hh hp1 (by decide) (by decide) fun a2 h2 ν1 o1 => ?_
    intro p2 hp2
    refine choice_new (f := optD) (ys := cars) cars_d o1.hat hp2 (by decide) (by decide) fun c hc ν2 o2 => ?_
    intro p3 hp3
    refine choice_new (f := consD) (ys := [none, some [((Str.ofString "Box"), c), ((Str.ofString "No"), none)]]) rfl o2.hat hp3 (by show 0 < 2; decide) (by show 2 < 1000000; decide) fun cn hcn ν3 o3 => ?_
    intro p4 hp4
    refine choice_new (f := asksD) (ys := asks1) rfl o3.hat hp4 (by decide) (by decide) fun a1 h1 ν4 o4 => ?_
    intro p5 hp5
    refine choice_new (f := asksD) (ys := asks0) rfl o4.hat hp5 (by decide) (by decide) fun a0 h0 ν5 o5 => ?_
    refine end_of ?_
    refine hq _ a2 a1 a0 cn ν5 ⟨rfl, h2, h1, h0, ?_⟩ ((((o1.trans o2).trans o3).trans o4).trans o5)
    rcases List.mem_cons.mp hcn with e | e
    · exact .inl e
    · exact .inr ⟨c, hc, List.mem_singleton.mp e⟩
abbrev s__law_table : Stmt := top 63
theorem sc__law_table : FnScope ["_law_rows_here", "_law_found", "_law_at", "_law_row"] ["_law_rows_here"] (defScope s__law_table) := ⟨rfl, rfl, rfl, by decide +kernel, rfl, by decide +kernel, by decide +kernel⟩
def tabD (rows : List Row) : List (Key × D) := (firstRows ++ rows).zipIdx.map fun x => (.inl ((x.2 + 1 : Nat) : Int), .tup [.str x.1.nm, .int (x.1.ar : Nat), asksD x.1.asks])
def spTable : Spc := fun ds μ q => ∃ (rows : List Row), ds = [rowsD rows] ∧ rows.length = 3 ∧ ∀ p, μ p = none → q (.ref p) (mset μ p (.dk (tabD rows)))
theorem ok_table (A : At K mg "_law_table" s__law_table ["_law_rows_here"]) (B : Bi mg) : Has P w K mg base "_law_table" ["_law_rows_here"] 1 spTable := by
  refine .mk A fun f fd F => ?_
  refine qfn F sc__law_table (by decide) ?len (fun cdv A outer s H E hr => (qss_cons (qs_set (i := 1) sc__law_table.nd rfl (Or.inl rfl) (qe_disp (qps_cons qe_int (qe_tup (qa_cons qe_str (qa_cons qe_int (qa_cons (qe_tup qa_nil) qa_nil)))) (qps_cons qe_int (qe_tup (qa_cons qe_str (qa_cons qe_int (qa_cons (qe_tup qa_nil) qa_nil)))) (qps_cons qe_int (qe_tup (qa_cons qe_str (qa_cons qe_int (qa_cons (qe_tup qa_nil) qa_nil)))) (qps_cons qe_int (qe_tup (qa_cons qe_str (qa_cons qe_int (qa_cons qe_non qa_nil)))) (qps_cons qe_int (qe_tup (qa_cons qe_str (qa_cons qe_int (qa_cons (qe_tup (qa_cons qe_int qa_nil)) qa_nil)))) qps_nil))))) rfl rfl (fun z => nomatch z) (by decide)))
  (qss_cons (qs_asg (qe_tup (qa_cons qe_str (qa_cons qe_int (qa_cons (qe_tup qa_nil) qa_nil)))) (qg_sub (hu_of hr) (qv 1) qe_int))
  (qss_cons (qs_for PassesOwn.never rfl (qi_enumT (by rfl) B.enumerate (qa_cons (qv 0) qa_nil)) (qg_tup (n := 2) rfl (qgs_cons (qg_name (i := 2) sc__law_table.nd rfl (Or.inl rfl)) (qgs_cons (qg_name (i := 3) sc__law_table.nd rfl (Or.inl rfl)) qgs_nil))) (qss_one (qs_asg (qe_slice (qv 3) qo_none (qo_some qe_int)) (qg_sub (hu_of hr) (qv 1) (qe_op qop_add qe_int (qv 2))))))
  (qss_one (qs_ret (qv 1))))))) ?body
  case len => rintro ds μ q ⟨_, rfl, _⟩; rfl
  case body =>
    rintro ds μ q ⟨rows, rfl, hl, h⟩
    simp only [PW, Nat.reduceAdd, String.reduceEq, decide_true, decide_false, ite_true, ite_false, Bool.false_eq_true, if_true, if_false, true_and, and_true, Bool.not_true, Bool.not_false, List.length_cons, List.length_nil, reduceCtorEq]
    simp only [Option.bind_some, Option.map_some, PW, Nat.reduceAdd, String.reduceEq, decide_true, decide_false, ite_true, ite_false, Bool.false_eq_true, if_true, if_false, true_and, and_true, Bool.not_true, Bool.not_false, List.length_cons, List.length_nil, reduceCtorEq]
    match rows, hl with
    | [r0, r1, r2], _ =>
      refine ⟨by show 5 ≤ 15; decide, fun p hp => ?_⟩
      rw [setD_k mset_same, mset_mset]
      refine ⟨by show 5 < sizeLine; decide, ?_⟩
      unfold pFor piEnumT
      simp only [rowsD, List.map_cons, List.map_nil, PW, Nat.reduceAdd, String.reduceEq, decide_true, decide_false, ite_true, ite_false, Bool.false_eq_true, if_true, if_false, true_and, and_true, Bool.not_true, Bool.not_false, List.length_cons, List.length_nil, reduceCtorEq]
      refine ⟨fun i ss ν => ∃ x2 x3 : Option D, ss = [some (.tup [r0.d, r1.d, r2.d]), some (.ref p), x2, x3] ∧ ν = mset μ p (.dk ((tabD [r0, r1, r2]).take (6 + i))), ⟨none, none, rfl, rfl⟩, fun i ss ν _ _ => True.intro, ?_, ?_⟩
      · rintro i x ss ν hx ⟨x2, x3, rfl, rfl⟩
        match i, hx with
        | 0, hx =>
          cases hx
          simp only [PW, Nat.reduceAdd, String.reduceEq, decide_true, decide_false, ite_true, ite_false, Bool.false_eq_true, if_true, if_false, true_and, and_true, Bool.not_true, Bool.not_false, List.length_cons, List.length_nil, reduceCtorEq, Row.d, cut3]
          rw [setD_k mset_same, mset_mset]
          exact ⟨by show 6 < sizeLine; decide, _, _, rfl, rfl⟩
        | 1, hx =>
          cases hx
          simp only [PW, Nat.reduceAdd, String.reduceEq, decide_true, decide_false, ite_true, ite_false, Bool.false_eq_true, if_true, if_false, true_and, and_true, Bool.not_true, Bool.not_false, List.length_cons, List.length_nil, reduceCtorEq, Row.d, cut3]
          rw [setD_k mset_same, mset_mset]
          exact ⟨by show 7 < sizeLine; decide, _, _, rfl, rfl⟩
        | 2, hx =>
          cases hx
          simp only [PW, Nat.reduceAdd, String.reduceEq, decide_true, decide_false, ite_true, ite_false, Bool.false_eq_true, if_true, if_false, true_and, and_true, Bool.not_true, Bool.not_false, List.length_cons, List.length_nil, reduceCtorEq, Row.d, cut3]
          rw [setD_k mset_same, mset_mset]
          exact ⟨by show 8 < sizeLine; decide, _, _, rfl, rfl⟩
      · rintro ss ν ⟨x2, x3, rfl, rfl⟩
        simp only [PW, Nat.reduceAdd, String.reduceEq, decide_true, decide_false, ite_true, ite_false, Bool.false_eq_true, if_true, if_false, true_and, and_true, Bool.not_true, Bool.not_false, List.length_cons, List.length_nil, reduceCtorEq]
        exact end_of (h p hp)
abbrev s__law_inner : Stmt := top 65
theorem sc__law_inner : FnScope ["_law_kt"] ["_law_kt"] (defScope s__law_inner) := ⟨rfl, rfl, rfl, by decide +kernel, rfl, by decide +kernel, by decide +kernel⟩
theorem ok_inner (A : At K mg "_law_inner" s__law_inner ["_law_kt"]) : Has P w K mg base "_law_inner" ["_law_kt"] 1 spKids := by
  refine .mk A fun f fd F => ?_
  refine qfn F sc__law_inner (by decide) ?len (fun cdv A outer s H E hr => (qss_cons (qs_if (qt_cmp (qop_eq hr.units) (qe_ix (qix (hu_of hr)) (qv 0) qe_int) qe_str (nomark _)) (qss_one (qs_ret (qe_tup qa_nil))) qss_nil)
  (qss_one (qs_ret (qe_ifExp (qt_cmp (qop_eq hr.units) (qe_ix (qix (hu_of hr)) (qv 0) qe_int) qe_str (nomark _)) (qe_slice (qv 0) (qo_some qe_int) qo_none) (qe_ix (qix (hu_of hr)) (qv 0) (qe_neg qe_int))))))) ?body
  case len => rintro ds μ q ⟨_, rfl, _⟩; rfl
  case body =>
    rintro ds μ q ⟨T, rfl, hT, h⟩
    rw [d_eta]
    have hl := hT.loc
    generalize hks : T.kids.map Ty.d = ks at h
    cases e : T.lab <;> rw [e] at hl <;> simp only [Lab.d, PW, Nat.reduceAdd, String.reduceEq, decide_true, decide_false, ite_true, ite_false, Bool.false_eq_true, if_true, if_false, true_and, and_true, Bool.not_true, Bool.not_false, List.length_cons, List.length_nil, reduceCtorEq]
    · have := List.eq_nil_of_length_eq_zero hl.1
      rw [this] at hks
      subst hks
      exact end_of h
    all_goals exact end_of h
end
end Pl
namespace Pl
open PySem L2
def ar9 : List Nat := [0, 0, 0, 0, 1, 1, 2, 1, 0]
def szB : Nat → Nat
  | 0 => 1
  | n + 1 => 3 * szB n + 1
/-- at most n levels -/
def DepLe : Nat → Ty → Prop
  | 0, _ => False
  | n + 1, T => ∀ t ∈ T.kids, DepLe n t
/-- a type as the law draws them -/
structure Gt (c n : Nat) (T : Ty) : Prop where
  ok : T.Ok ar9
  vs : ∀ v ∈ T.vars, v < c
  sz : T.sz ≤ szB n
  eq : T.d.eqk (2 * n + 2) = true
  dp : DepLe (n + 1) T
theorem Has.off {P : Program} {w : World} {K : PySem.W.Frag} {mg : Str → Option Value} {base : Heap} {x : Str} {st : Stmt} {ps : List Str} {k : Nat} {sp : Spc} (A : At K mg x st ps) (h : ∀ ds μ q, ¬ sp ds μ q) : Has P w K mg base x ps k sp := by
  obtain ⟨f, fd, F, m, b⟩ := A
  have no : ∀ vs H Q E, ¬ raw K sp vs H Q E := fun vs H Q E ⟨ds, μ, q, _, _, h3, _⟩ => h ds μ q h3
  exact ⟨f, fd, ⟨fun vs H Q E h => absurd h (no vs H Q E), fun A outer s H args us vs Q E _ _ _ _ h => absurd h (no vs H Q E)⟩, b, F.kp, m⟩
theorem wrl_fresh {μ : Mu} {a b : Addr} {o : MO} {ds : List D} (h : wrl μ a = some ds) (hb : μ b = none) : wrl (mset μ b o) a = some ds := by
  rw [wrl_ne (ne_free (of_wrl h) hb)]
  exact h
def leafs : List Ty := [1, 1, 2, 3, 4, 9].map (fun s => .node (.made s) []) ++ [.node .tup []]
theorem vars_node {l : Lab} {ts : List Ty} {v : Nat} (h : v ∈ (Ty.node l ts).vars) : l.num = some v ∨ ∃ t ∈ ts, v ∈ t.vars := by
  obtain ⟨u, hu, e⟩ := List.mem_filterMap.mp h
  rw [pre_eq] at hu
  rcases List.mem_cons.mp hu with rfl | hu
  · exact .inl e
  · obtain ⟨t, ht, hm⟩ := mem_pres_inv hu
    exact .inr ⟨t, ht, List.mem_filterMap.mpr ⟨u, hm, e⟩⟩
theorem szB_pos : ∀ n, 1 ≤ szB n
  | 0 => Nat.le_refl _
  | n + 1 => by unfold szB; omega
theorem eqks_map {k : Nat} : ∀ {ts : List Ty}, (∀ t ∈ ts, t.d.eqk k = true) → D.eqks k (ts.map Ty.d) = true
  | [], _ => by rw [List.map_nil, D.eqks]
  | t :: r, h => by rw [List.map_cons, D.eqks, h t List.mem_cons_self, eqks_map fun u hu => h u (List.mem_cons_of_mem _ hu)]; rfl
theorem szs_le {b : Nat} : ∀ {ts : List Ty}, (∀ t ∈ ts, t.sz ≤ b) → Ty.szs ts ≤ ts.length * b
  | [], _ => by rw [szs_nil]; exact Nat.zero_le _
  | t :: r, h => by
    rw [szs_cons, List.length_cons, Nat.succ_mul]
    have := h t List.mem_cons_self
    have := szs_le fun u hu => h u (List.mem_cons_of_mem _ hu)
    omega
theorem so_words : PyData.strOk "var" = true ∧ PyData.strOk "fn" = true ∧ PyData.strOk "tuple" = true ∧ PyData.strOk "made" = true := by decide +kernel
theorem eqk_succ (k : Nat) : (∀ d : D, d.eqk k = true → d.eqk (k + 1) = true) ∧ ∀ ds : List D, D.eqks k ds = true → D.eqks (k + 1) ds = true := by
  induction k with
  | zero =>
    have a : ∀ d : D, d.eqk 0 = true → d.eqk 1 = true := fun d h => by
      cases d <;> first | (rw [D.eqk]; done) | (rw [D.eqk] at h ⊢; exact h) | (simp only [D.eqk] at h; cases h) | (simp [D.eqk] at h)
    refine ⟨a, fun ds => ?_⟩
    induction ds with
    | nil => intro _; rw [D.eqks]
    | cons d r ih =>
      intro h
      rw [D.eqks, Bool.and_eq_true] at h ⊢
      exact ⟨a d h.1, ih h.2⟩
  | succ k ih =>
    have a : ∀ d : D, d.eqk (k + 1) = true → d.eqk (k + 2) = true := fun d h => by
      cases d with
      | tup ds =>
        have h1 : D.eqks k ds = true := by simpa only [D.eqk] using h
        have h2 := ih.2 _ h1
        simpa only [D.eqk] using h2
      | _ => first | (rw [D.eqk]; done) | (rw [D.eqk] at h ⊢; exact h) | (simp only [D.eqk] at h; cases h) | (simp [D.eqk] at h)
    refine ⟨a, fun ds => ?_⟩
    induction ds with
    | nil => intro _; rw [D.eqks]
    | cons d r ih2 =>
      intro h
      rw [D.eqks, Bool.and_eq_true] at h ⊢
      exact ⟨a d h.1, ih2 h.2⟩
theorem eqk_node {k : Nat} {l : Lab} {ds : List D} (h : D.eqks k ds = true) : (l.d ds).eqk (k + 2) = true := by
  obtain ⟨h1, h2, h3, h4⟩ := so_words
  have i1 : ∀ (k : Nat) (i : Int), (D.int i).eqk k = true := fun k i => by rw [D.eqk]
  have mono : ∀ (k : Nat), (∀ d : D, d.eqk k = true → d.eqk (k + 1) = true) ∧ ∀ ds : List D, D.eqks k ds = true → D.eqks (k + 1) ds = true := eqk_succ
  cases l with
  | var n => simp only [Lab.d, D.eqk, D.eqks, h1, Bool.and_self]
  | fn => simp only [Lab.d, D.eqk, D.eqks, h2, Bool.true_and]; exact (mono k).2 _ h
  | tup => simp only [Lab.d, D.eqk, D.eqks, h3, h, Bool.and_self]
  | made s => simp only [Lab.d, D.eqk, D.eqks, h4, h, Bool.and_self]
theorem gt_node {c n : Nat} {l : Lab} {ts : List Ty} (hl : l.num = none) (h3 : ts.length ≤ 3) (h : ∀ t ∈ ts, Gt c n t) (ho : LocOk ar9 l ts.length) : Gt c (n + 1) (.node l ts) where
  ok := .node ho fun t ht => (h t ht).ok
  vs := fun v hv => by
    rcases vars_node hv with e | ⟨t, ht, hm⟩
    · rw [hl] at e; cases e
    · exact (h t ht).vs v hm
  sz := by
    have := szs_le (b := szB n) fun t ht => (h t ht).sz
    have h4 : ts.length * szB n ≤ 3 * szB n := Nat.mul_le_mul_right _ h3
    rw [Ty.sz]
    show _ ≤ 3 * szB n + 1
    omega
  eq := by
    rw [d_eq]
    exact eqk_node (eqks_map fun t ht => (h t ht).eq)
  dp := fun t ht => (h t ht).dp
theorem gt_leaf {c n : Nat} {l : Lab} (hl : ∀ v, l.num = some v → v < c) (ho : LocOk ar9 l 0) : Gt c n (.node l []) where
  ok := .node ho fun t ht => nomatch ht
  vs := fun v hv => by
    rcases vars_node hv with e | ⟨t, ht, hm⟩
    · exact hl v e
    · cases ht
  sz := by rw [Ty.sz, szs_nil]; exact szB_pos n
  eq := by
    rw [d_eq]
    exact eqk_node (by rw [List.map_nil, D.eqks])
  dp := fun t ht => nomatch ht
/-- a comprehension whose turns keep what I says, and give what R says -/
theorem lc_genM {I : Mu → Prop} {R : D → Prop} {pg : PGx} {pt : PTx} {pe : PEx} {ss : SS} {ok : Mu → Prop} {q : List D → Mu → Prop} (hok : ∀ ν, I ν → ok ν) : ∀ (xs acc : List D) (μ : Mu),
    (∀ x ∈ xs, ∀ ν, I ν → ∀ (ky : D → Mu → Prop) (kn : Mu → Prop), (∀ y ν', R y → I ν' → ky y ν') → lcStep pg pt pe ss x ν ky kn) → I μ →
    (∀ ys ν, ys.length = xs.length → (∀ y ∈ ys, R y) → I ν → q (acc ++ ys) ν) → lcGo pg pt pe ss ok q xs acc μ
  | [], acc, μ, _, hI, h => ⟨hok μ hI, by have := h [] μ rfl (fun _ z => nomatch z) hI; rwa [List.append_nil] at this⟩
  | x :: r, acc, μ, hs, hI, h => by
    refine ⟨hok μ hI, hs x List.mem_cons_self μ hI _ _ fun y ν' hy hI' => ?_⟩
    refine lc_genM hok r (acc ++ [y]) ν' (fun z hz => hs z (List.mem_cons_of_mem _ hz)) hI' fun ys ν hl hR hIν => ?_
    rw [List.append_assoc]
    exact h (y :: ys) ν (by rw [List.length_cons, List.length_cons, hl]) (fun z hz => (List.mem_cons.mp hz).elim (fun e => e ▸ hy) (hR z)) hIν
theorem list_of {Q : Ty → Prop} : ∀ {ys : List D}, (∀ y ∈ ys, ∃ T, Q T ∧ y = T.d) → ∃ Ts : List Ty, ys = Ts.map Ty.d ∧ ∀ t ∈ Ts, Q t
  | [], _ => ⟨[], rfl, fun _ z => nomatch z⟩
  | y :: r, h => by
    obtain ⟨T, h1, rfl⟩ := h y List.mem_cons_self
    obtain ⟨Ts, rfl, h2⟩ := list_of fun z hz => h z (List.mem_cons_of_mem _ hz)
    exact ⟨T :: Ts, rfl, fun t ht => (List.mem_cons.mp ht).elim (fun e => e ▸ h1) (h2 t)⟩
theorem gt_leafs {c n : Nat} {T : Ty} (h : T ∈ leafs) : Gt c n T := by
  simp only [leafs, List.map_cons, List.map_nil, List.cons_append, List.nil_append, List.mem_cons, List.not_mem_nil, or_false] at h
  rcases h with rfl | rfl | rfl | rfl | rfl | rfl | rfl <;> exact gt_leaf (fun v e => nomatch e) (by first | exact ⟨by decide, by decide +kernel, rfl⟩ | exact (by decide : (0 : Nat) ≠ 1))
theorem gt_var {c n v : Nat} (h : v < c) (hc : c < 1000) : Gt c n (tv v) := gt_leaf (fun v' e => by cases e; exact h) ⟨rfl, lt60 (by omega)⟩
theorem leafs_d : (List.map (fun x => D.tup [D.str (Str.ofString "made"), x, D.tup []]) [D.int 1, D.int 1, D.int 2, D.int 3, D.int 4, D.int 9]) ++ [D.tup [D.str (Str.ofString "tuple"), D.tup []]] = leafs.map Ty.d := by
  simp only [leafs, List.map_cons, List.map_nil, List.cons_append, List.nil_append, d_made, d_tup]
  rfl
section
variable {P : Program} {w : World} {K : PySem.W.Frag} {mg : Str → Option Value} {base : Heap} {C : Addr}
abbrev s__law_type : Stmt := top 64
theorem sc__law_type : FnScope ["_law_hat_here", "_law_count", "_law_deep", "_law_way", "_law_plain", "_law_stamp", "_law_some", "_law_turn"] ["_law_hat_here", "_law_count", "_law_deep"] (defScope s__law_type) := ⟨rfl, rfl, rfl, by decide +kernel, rfl, by decide +kernel, by decide +kernel⟩
def spType (N : Nat) : Spc := fun ds μ q => ∃ (h : Addr) (c n : Nat), ds = [.ref h, .int (c : Int), .int (n : Int)] ∧ n + 1 ≤ N ∧ Hat μ h ∧ c < 1000 ∧ ∀ (T : Ty) (ν : Mu), Gt c n T → Off h μ ν → q T.d ν
set_option maxHeartbeats 1000000 in
theorem type_step {N : Nat} (A : At K mg "_law_type" s__law_type ["_law_hat_here", "_law_count", "_law_deep"]) (B : Bi mg) (D__law_lift : Has P w K mg base "_law_lift" ["_law_hat_here", "_law_total"] 1 spLift) (D__law_choice : Has P w K mg base "_law_choice" ["_law_hat_here", "_law_items"] 2 spChoice) (D__law_type : Has P w K mg base "_law_type" ["_law_hat_here", "_law_count", "_law_deep"] (N + 2) (spType N)) : Has P w K mg base "_law_type" ["_law_hat_here", "_law_count", "_law_deep"] (N + 3) (spType (N + 1)) := by
  refine .mk A fun f fd F => ?_
  refine qfn F sc__law_type (by decide) ?len (fun cdv A outer s H E hr => (qss_cons (qs_set (i := 3) sc__law_type.nd rfl (Or.inl rfl) (qe_call D__law_lift (hr.mono (by omega)) (qa_cons (qv 0) (qa_cons qe_int qa_nil))))
  (qss_cons (qs_if (QW.qt (qw_or (qt_cmp (qop_eq hr.units) (qv 2) qe_int (nomark _)) (qw_or1 (qt_cmp qop_lt (qv 3) qe_int (nomark _))))) (qss_cons (qs_set (i := 4) sc__law_type.nd rfl (Or.inl rfl) (qe_op qop_add (qe_lc (own := [("_law_stamp", 5)]) rfl sc__law_type.nd (qi_seq (qe_tup (qa_cons qe_int (qa_cons qe_int (qa_cons qe_int (qa_cons qe_int (qa_cons qe_int (qa_cons qe_int qa_nil)))))))) (blkOk_by (N := ["_law_hat_here", "_law_count", "_law_deep", "_law_way", "_law_plain", "_law_stamp", "_law_some", "_law_turn"]) (sc := defScope s__law_type) (by decide +kernel)) (fun _ _ _ _ _ => (qgw_name (i := 5) sc__law_type.nd rfl (Or.inl rfl))) (fun _ _ _ _ _ => qts_nil) (fun _ _ _ _ _ => (qe_tup (qa_cons qe_str (qa_cons (qv 5) (qa_cons (qe_tup qa_nil) qa_nil)))))) (qe_lst (qa_cons (qe_tup (qa_cons qe_str (qa_cons (qe_tup qa_nil) qa_nil))) qa_nil))))
  (qss_cons (qs_set (i := 6) sc__law_type.nd rfl (Or.inl rfl) (qe_ifExp (qt_cmp qop_gt (qv 1) qe_int (nomark _)) (qe_op qop_mul (qe_lst (qa_cons (qe_tup (qa_cons qe_str (qa_cons (qe_call D__law_lift (hr.mono (by omega)) (qa_cons (qv 0) (qa_cons (qv 1) qa_nil))) qa_nil))) qa_nil)) qe_int) (qe_lst qa_nil)))
  (qss_one (qs_ret (qe_call D__law_choice (hr.mono (by omega)) (qa_cons (qv 0) (qa_cons (qe_op qop_add (qv 4) (qv 6)) qa_nil))))))) qss_nil)
  (qss_cons (qs_if (qt_cmp qop_lt (qv 3) qe_int (nomark _)) (qss_one (qs_ret (qe_tup (qa_cons qe_str (qa_cons (qe_call D__law_type (hr.mono (by omega)) (qa_cons (qv 0) (qa_cons (qv 1) (qa_cons (qe_op qop_sub (qv 2) qe_int) qa_nil)))) (qa_cons (qe_call D__law_type (hr.mono (by omega)) (qa_cons (qv 0) (qa_cons (qv 1) (qa_cons (qe_op qop_sub (qv 2) qe_int) qa_nil)))) qa_nil)))))) qss_nil)
  (qss_cons (qs_if (qt_cmp (qop_eq hr.units) (qv 3) qe_int (nomark _)) (qss_one (qs_ret (qe_tup (qa_cons qe_str (qa_cons (qe_callTy (qc_tuple rfl) (by rfl) B.tuple (by decide +kernel) (qa_cons (qe_lc (own := [("_law_turn", 7)]) rfl sc__law_type.nd (qi_range1 (by rfl) B.range (qa_cons (qe_op qop_add qe_int (qe_callTy qc_int (by rfl) B.int (by decide +kernel) (qa_cons (qe_cmp (qop_eq hr.units) (qe_call D__law_lift (hr.mono (by omega)) (qa_cons (qv 0) (qa_cons qe_int qa_nil))) qe_int (nomark _)) qa_nil))) qa_nil)) (blkOk_by (N := ["_law_hat_here", "_law_count", "_law_deep", "_law_way", "_law_plain", "_law_stamp", "_law_some", "_law_turn"]) (sc := defScope s__law_type) (by decide +kernel)) (fun _ _ _ _ _ => (qgw_name (i := 7) sc__law_type.nd rfl (Or.inl rfl))) (fun _ _ _ _ _ => qts_nil) (fun _ _ _ _ _ => (qe_call D__law_type (hr.mono (by omega)) (qa_cons (qv 0) (qa_cons (qv 1) (qa_cons (qe_op qop_sub (qv 2) qe_int) qa_nil)))))) qa_nil)) qa_nil))))) qss_nil)
  (qss_cons (qs_if (qt_cmp (qop_eq hr.units) (qv 3) qe_int (nomark _)) (qss_one (qs_ret (qe_tup (qa_cons qe_str (qa_cons qe_int (qa_cons (qe_tup (qa_cons (qe_call D__law_type (hr.mono (by omega)) (qa_cons (qv 0) (qa_cons (qv 1) (qa_cons (qe_op qop_sub (qv 2) qe_int) qa_nil)))) (qa_cons (qe_call D__law_type (hr.mono (by omega)) (qa_cons (qv 0) (qa_cons (qv 1) (qa_cons (qe_op qop_sub (qv 2) qe_int) qa_nil)))) qa_nil))) qa_nil)))))) qss_nil)
  (qss_one (qs_ret (qe_tup (qa_cons qe_str (qa_cons (qe_call D__law_choice (hr.mono (by omega)) (qa_cons (qv 0) (qa_cons (qe_lst (qa_cons qe_int (qa_cons qe_int (qa_cons qe_int qa_nil)))) qa_nil))) (qa_cons (qe_tup (qa_cons (qe_call D__law_type (hr.mono (by omega)) (qa_cons (qv 0) (qa_cons (qv 1) (qa_cons (qe_op qop_sub (qv 2) qe_int) qa_nil)))) qa_nil)) qa_nil)))))))))))) ?body
  case len => rintro ds μ q ⟨_, _, _, rfl, _⟩; rfl
  case body =>
    rintro ds μ q ⟨h, c, n, rfl, hN, hh, hc, hq⟩
    simp only [PW, Nat.reduceAdd, String.reduceEq, decide_true, decide_false, ite_true, ite_false, Bool.false_eq_true, if_true, if_false, true_and, and_true, Bool.not_true, Bool.not_false, List.length_cons, List.length_nil, reduceCtorEq]
    refine ⟨h, 9, rfl, hh, by decide, by decide, fun r ν1 hr o1 => ?_⟩
    by_cases c0 : n = 0
    · have e0 : decide ((n : Int) = 0) = true := by rw [decide_eq_true_iff]; omega
      simp only [e0, PW, Nat.reduceAdd, String.reduceEq, decide_true, decide_false, ite_true, ite_false, Bool.false_eq_true, if_true, if_false, true_and, and_true, Bool.not_true, Bool.not_false, List.length_cons, List.length_nil, reduceCtorEq]
      refine lc_map (fun x => .tup [.str "made", x, .tup []]) True.intro (fun x hx ky kn k => by simp only [lcStep, PW, Nat.reduceAdd, String.reduceEq, decide_true, decide_false, ite_true, ite_false, Bool.false_eq_true, if_true, if_false, true_and, and_true, Bool.not_true, Bool.not_false, List.length_cons, List.length_nil, reduceCtorEq]; exact k) fun p1 hp1 => ?_
      intro p2 hp2
      rw [wrl_fresh wrl_same hp2]
      refine ⟨by show 7 ≤ sizeLine; decide, fun p3 hp3 => ?_⟩
      rw [leafs_d]
      have o3 := ((o1.put hp1).put hp2).put (o := .lst (leafs.map Ty.d)) hp3
      have hw3 : mset (mset (mset ν1 p1 (.lst ((List.map (fun x => D.tup [D.str (Str.ofString "made"), x, D.tup []]) [D.int 1, D.int 1, D.int 2, D.int 3, D.int 4, D.int 9])))) p2 (.lst [D.tup [D.str (Str.ofString "tuple"), D.tup []]])) p3 (.lst (leafs.map Ty.d)) p3 = some (.lst (leafs.map Ty.d)) := mset_same
      have hph : p3 ≠ h := by
        obtain ⟨i, j, k, e⟩ := ((o1.put hp1).put hp2).hat
        exact (ne_free e hp3).symm
      generalize mset (mset (mset ν1 p1 (.lst ((List.map (fun x => D.tup [D.str (Str.ofString "made"), x, D.tup []]) [D.int 1, D.int 1, D.int 2, D.int 3, D.int 4, D.int 9])))) p2 (.lst [D.tup [D.str (Str.ofString "tuple"), D.tup []]])) p3 (.lst (leafs.map Ty.d)) = ν3 at o3 hw3 ⊢
      by_cases cc : 0 < c
      · have ec : decide ((0 : Int) < (c : Int)) = true := by rw [decide_eq_true_iff]; omega
        simp only [ec, PW, Nat.reduceAdd, String.reduceEq, decide_true, decide_false, ite_true, ite_false, Bool.false_eq_true, if_true, if_false, true_and, and_true, Bool.not_true, Bool.not_false, List.length_cons, List.length_nil, reduceCtorEq]
        refine ⟨h, c, rfl, o3.hat, cc, by omega, fun v ν4 hv o4 => ?_⟩
        intro p4 hp4
        refine ⟨by decide, by decide, by show 9 ≤ sizeLine; decide, fun p5 hp5 => ?_⟩
        rw [wrl_fresh (wrl_fresh (wrl_lst (o4.off _ _ hph hw3)) hp4) hp5]
        refine ⟨by show 16 ≤ sizeLine; decide, fun p6 hp6 => ?_⟩
        refine choice_new (f := Ty.d) (ys := leafs ++ List.replicate 9 (tv v)) ?_ (((o4.put hp4).put hp5).hat) hp6 (by show 0 < 16; decide) (by show 16 < 1000000; decide) fun T hT ν6 o6 => ?_
        · rw [List.map_append, List.map_replicate, d_var]
          rfl
        · refine end_of (hq T ν6 ?_ ((o3.trans ((o4.put hp4).put hp5)).trans o6))
          rcases List.mem_append.mp hT with h1 | h1
          · exact gt_leafs h1
          · rw [(List.mem_replicate.mp h1).2]
            exact gt_var hv hc
      · have ec : decide ((0 : Int) < (c : Int)) = false := by rw [decide_eq_false_iff_not]; omega
        simp only [ec, PW, Nat.reduceAdd, String.reduceEq, decide_true, decide_false, ite_true, ite_false, Bool.false_eq_true, if_true, if_false, true_and, and_true, Bool.not_true, Bool.not_false, List.length_cons, List.length_nil, reduceCtorEq]
        intro p4 hp4
        rw [wrl_fresh (wrl_lst hw3) hp4]
        refine ⟨by show 7 ≤ sizeLine; decide, fun p6 hp6 => ?_⟩
        refine choice_new (f := Ty.d) (ys := leafs) (by rw [List.append_nil]) ((o3.put hp4).hat) hp6 (by show 0 < 7; decide) (by show 7 < 1000000; decide) fun T hT ν6 o6 => ?_
        exact end_of (hq T ν6 (gt_leafs hT) ((o3.put hp4).trans o6))
    have e0 : decide ((n : Int) = 0) = false := by rw [decide_eq_false_iff_not]; omega
    simp only [e0, PW, Nat.reduceAdd, String.reduceEq, decide_true, decide_false, ite_true, ite_false, Bool.false_eq_true, if_true, if_false, true_and, and_true, Bool.not_true, Bool.not_false, List.length_cons, List.length_nil, reduceCtorEq]
    by_cases c1 : r < 3
    · have e1 : decide ((r : Int) < 3) = true := by rw [decide_eq_true_iff]; omega
      simp only [e1, PW, Nat.reduceAdd, String.reduceEq, decide_true, decide_false, ite_true, ite_false, Bool.false_eq_true, if_true, if_false, true_and, and_true, Bool.not_true, Bool.not_false, List.length_cons, List.length_nil, reduceCtorEq]
      refine lc_map (fun x => .tup [.str "made", x, .tup []]) True.intro (fun x hx ky kn k => by simp only [lcStep, PW, Nat.reduceAdd, String.reduceEq, decide_true, decide_false, ite_true, ite_false, Bool.false_eq_true, if_true, if_false, true_and, and_true, Bool.not_true, Bool.not_false, List.length_cons, List.length_nil, reduceCtorEq]; exact k) fun p1 hp1 => ?_
      intro p2 hp2
      rw [wrl_fresh wrl_same hp2]
      refine ⟨by show 7 ≤ sizeLine; decide, fun p3 hp3 => ?_⟩
      rw [leafs_d]
      have o3 := ((o1.put hp1).put hp2).put (o := .lst (leafs.map Ty.d)) hp3
      have hw3 : mset (mset (mset ν1 p1 (.lst ((List.map (fun x => D.tup [D.str (Str.ofString "made"), x, D.tup []]) [D.int 1, D.int 1, D.int 2, D.int 3, D.int 4, D.int 9])))) p2 (.lst [D.tup [D.str (Str.ofString "tuple"), D.tup []]])) p3 (.lst (leafs.map Ty.d)) p3 = some (.lst (leafs.map Ty.d)) := mset_same
      have hph : p3 ≠ h := by
        obtain ⟨i, j, k, e⟩ := ((o1.put hp1).put hp2).hat
        exact (ne_free e hp3).symm
      generalize mset (mset (mset ν1 p1 (.lst ((List.map (fun x => D.tup [D.str (Str.ofString "made"), x, D.tup []]) [D.int 1, D.int 1, D.int 2, D.int 3, D.int 4, D.int 9])))) p2 (.lst [D.tup [D.str (Str.ofString "tuple"), D.tup []]])) p3 (.lst (leafs.map Ty.d)) = ν3 at o3 hw3 ⊢
      by_cases cc : 0 < c
      · have ec : decide ((0 : Int) < (c : Int)) = true := by rw [decide_eq_true_iff]; omega
        simp only [ec, PW, Nat.reduceAdd, String.reduceEq, decide_true, decide_false, ite_true, ite_false, Bool.false_eq_true, if_true, if_false, true_and, and_true, Bool.not_true, Bool.not_false, List.length_cons, List.length_nil, reduceCtorEq]
        refine ⟨h, c, rfl, o3.hat, cc, by omega, fun v ν4 hv o4 => ?_⟩
        intro p4 hp4
        refine ⟨by decide, by decide, by show 9 ≤ sizeLine; decide, fun p5 hp5 => ?_⟩
        rw [wrl_fresh (wrl_fresh (wrl_lst (o4.off _ _ hph hw3)) hp4) hp5]
        refine ⟨by show 16 ≤ sizeLine; decide, fun p6 hp6 => ?_⟩
        refine choice_new (f := Ty.d) (ys := leafs ++ List.replicate 9 (tv v)) ?_ (((o4.put hp4).put hp5).hat) hp6 (by show 0 < 16; decide) (by show 16 < 1000000; decide) fun T hT ν6 o6 => ?_
        · rw [List.map_append, List.map_replicate, d_var]
          rfl
        · refine end_of (hq T ν6 ?_ ((o3.trans ((o4.put hp4).put hp5)).trans o6))
          rcases List.mem_append.mp hT with h1 | h1
          · exact gt_leafs h1
          · rw [(List.mem_replicate.mp h1).2]
            exact gt_var hv hc
      · have ec : decide ((0 : Int) < (c : Int)) = false := by rw [decide_eq_false_iff_not]; omega
        simp only [ec, PW, Nat.reduceAdd, String.reduceEq, decide_true, decide_false, ite_true, ite_false, Bool.false_eq_true, if_true, if_false, true_and, and_true, Bool.not_true, Bool.not_false, List.length_cons, List.length_nil, reduceCtorEq]
        intro p4 hp4
        rw [wrl_fresh (wrl_lst hw3) hp4]
        refine ⟨by show 7 ≤ sizeLine; decide, fun p6 hp6 => ?_⟩
        refine choice_new (f := Ty.d) (ys := leafs) (by rw [List.append_nil]) ((o3.put hp4).hat) hp6 (by show 0 < 7; decide) (by show 7 < 1000000; decide) fun T hT ν6 o6 => ?_
        exact end_of (hq T ν6 (gt_leafs hT) ((o3.put hp4).trans o6))
    have e1 : decide ((r : Int) < 3) = false := by rw [decide_eq_false_iff_not]; omega
    simp only [e1, PW, Nat.reduceAdd, String.reduceEq, decide_true, decide_false, ite_true, ite_false, Bool.false_eq_true, if_true, if_false, true_and, and_true, Bool.not_true, Bool.not_false, List.length_cons, List.length_nil, reduceCtorEq]
    obtain ⟨m, rfl⟩ : ∃ m, n = m + 1 := ⟨n - 1, by omega⟩
    have hm : ((m + 1 : Nat) : Int) - 1 = (m : Int) := by omega
    by_cases c2 : r < 5
    · have e2 : decide ((r : Int) < 5) = true := by rw [decide_eq_true_iff]; omega
      simp only [e2, hm, PW, Nat.reduceAdd, String.reduceEq, decide_true, decide_false, ite_true, ite_false, Bool.false_eq_true, if_true, if_false, true_and, and_true, Bool.not_true, Bool.not_false, List.length_cons, List.length_nil, reduceCtorEq]
      refine ⟨h, c, m, rfl, by omega, o1.hat, hc, fun T1 ν2 g1 o2 => ?_⟩
      refine ⟨h, c, m, rfl, by omega, o2.hat, hc, fun T2 ν3 g2 o3 => ?_⟩
      refine end_of ?_
      have := hq (.node .fn [T1, T2]) ν3 (gt_node (by rfl) (by simp only [List.length_cons, List.length_nil]; omega) (by intro t ht; simp only [List.mem_cons, List.not_mem_nil, or_false] at ht; rcases ht with rfl | rfl <;> assumption) rfl) ((o1.trans o2).trans o3)
      rw [d_fn] at this
      exact this
    have e2 : decide ((r : Int) < 5) = false := by rw [decide_eq_false_iff_not]; omega
    simp only [e2, PW, Nat.reduceAdd, String.reduceEq, decide_true, decide_false, ite_true, ite_false, Bool.false_eq_true, if_true, if_false, true_and, and_true, Bool.not_true, Bool.not_false, List.length_cons, List.length_nil, reduceCtorEq]
    by_cases c3 : r = 5
    · have e3 : decide ((r : Int) = 5) = true := by rw [decide_eq_true_iff]; omega
      simp only [e3, PW, Nat.reduceAdd, String.reduceEq, decide_true, decide_false, ite_true, ite_false, Bool.false_eq_true, if_true, if_false, true_and, and_true, Bool.not_true, Bool.not_false, List.length_cons, List.length_nil, reduceCtorEq]
      refine ⟨h, 4, rfl, o1.hat, by decide, by decide, fun z ν2 hz o2 => ?_⟩
      have fin : ∀ j : Nat, j = 2 ∨ j = 3 → ∀ (xs : List D), xs.length = j → lcGo (pgName 7) pYes (pCall (spType N) (pCons (pVar 0) (pCons (pVar 1) (pCons (pOp (pI fun i j => D.int (i - j)) (pVar 2) (pC (D.int 1))) pNil))))
          [some (D.ref h), some (D.int c), some (D.int (m + 1 : Nat)), some (D.int r), none, none, none, none] okT (fun ds μ2 => ∀ (p : Addr), μ2 p = none → ∃ μ', Mle μ' (mset μ2 p (MO.lst ds)) ∧ q (D.tup [D.str (Str.ofString "tuple"), D.tup ds]) μ') xs [] ν2 := by
        intro j hj xs hx
        refine lc_genM (I := fun ν => Off h ν2 ν) (R := fun y => ∃ T, Gt c m T ∧ y = T.d) (fun _ _ => True.intro) xs [] ν2 (fun x hx ν hI ky kn k => ?_) (.refl o2.hat) fun ys ν hy hR hI p hp => ?_
        · simp only [lcStep, hm, PW, Nat.reduceAdd, String.reduceEq, decide_true, decide_false, ite_true, ite_false, Bool.false_eq_true, if_true, if_false, true_and, and_true, Bool.not_true, Bool.not_false, List.length_cons, List.length_nil, reduceCtorEq]
          exact ⟨h, c, m, rfl, by omega, hI.hat, hc, fun T ν' hT ho => k _ ν' ⟨T, hT, rfl⟩ (hI.trans ho)⟩
        · obtain ⟨Ts, rfl, hTs⟩ := list_of hR
          rw [List.length_map] at hy
          have := hq (.node .tup Ts) (mset ν p (.lst (Ts.map Ty.d))) (gt_node rfl (by omega) hTs (by show Ts.length ≠ 1; omega)) (((o1.trans o2).trans hI).put hp)
          rw [d_tup] at this
          exact end_of this
      by_cases hz0 : z = 0
      · have e4 : decide ((z : Int) = 0) = true := by rw [decide_eq_true_iff]; omega
        simp only [e4, PW, Nat.reduceAdd, String.reduceEq, decide_true, decide_false, ite_true, ite_false, Bool.false_eq_true, if_true, if_false, true_and, and_true, Bool.not_true, Bool.not_false, List.length_cons, List.length_nil, reduceCtorEq]
        exact ⟨by decide, by decide, by show 3 ≤ sizeLine; decide, fin 3 (.inr rfl) _ rfl⟩
      · have e4 : decide ((z : Int) = 0) = false := by rw [decide_eq_false_iff_not]; omega
        simp only [e4, PW, Nat.reduceAdd, String.reduceEq, decide_true, decide_false, ite_true, ite_false, Bool.false_eq_true, if_true, if_false, true_and, and_true, Bool.not_true, Bool.not_false, List.length_cons, List.length_nil, reduceCtorEq]
        exact ⟨by decide, by decide, by show 2 ≤ sizeLine; decide, fin 2 (.inl rfl) _ rfl⟩
    have e3 : decide ((r : Int) = 5) = false := by rw [decide_eq_false_iff_not]; omega
    simp only [e3, PW, Nat.reduceAdd, String.reduceEq, decide_true, decide_false, ite_true, ite_false, Bool.false_eq_true, if_true, if_false, true_and, and_true, Bool.not_true, Bool.not_false, List.length_cons, List.length_nil, reduceCtorEq]
    by_cases c4 : r = 6
    · have e4 : decide ((r : Int) = 6) = true := by rw [decide_eq_true_iff]; omega
      simp only [e4, hm, PW, Nat.reduceAdd, String.reduceEq, decide_true, decide_false, ite_true, ite_false, Bool.false_eq_true, if_true, if_false, true_and, and_true, Bool.not_true, Bool.not_false, List.length_cons, List.length_nil, reduceCtorEq]
      refine ⟨h, c, m, rfl, by omega, o1.hat, hc, fun T1 ν2 g1 o2 => ?_⟩
      refine ⟨h, c, m, rfl, by omega, o2.hat, hc, fun T2 ν3 g2 o3 => ?_⟩
      refine end_of ?_
      have := hq (.node (.made 7) [T1, T2]) ν3 (gt_node (by rfl) (by simp only [List.length_cons, List.length_nil]; omega) (by intro t ht; simp only [List.mem_cons, List.not_mem_nil, or_false] at ht; rcases ht with rfl | rfl <;> assumption) ⟨by decide, by decide +kernel, rfl⟩) ((o1.trans o2).trans o3)
      rw [d_made] at this
      exact this
    have e4 : decide ((r : Int) = 6) = false := by rw [decide_eq_false_iff_not]; omega
    simp only [e4, hm, PW, Nat.reduceAdd, String.reduceEq, decide_true, decide_false, ite_true, ite_false, Bool.false_eq_true, if_true, if_false, true_and, and_true, Bool.not_true, Bool.not_false, List.length_cons, List.length_nil, reduceCtorEq]
    intro p hp
    refine choice_new (f := fun k : Nat => .int (k : Int)) (ys := [5, 6, 8]) rfl o1.hat hp (by decide) (by decide) fun k hk ν2 o2 => ?_
    refine ⟨h, c, m, rfl, by omega, o2.hat, hc, fun T1 ν3 g1 o3 => ?_⟩
    refine end_of ?_
    have := hq (.node (.made k) [T1]) ν3 (gt_node (by rfl) (by simp only [List.length_cons, List.length_nil]; omega) (by intro t ht; rw [List.mem_singleton.mp ht]; exact g1) (by
      simp only [List.mem_cons, List.not_mem_nil, or_false] at hk
      rcases hk with rfl | rfl | rfl <;> exact ⟨by decide, by decide +kernel, rfl⟩)) ((o1.trans o2).trans o3)
    rw [d_made] at this
    exact this
theorem ok_type (A : At K mg "_law_type" s__law_type ["_law_hat_here", "_law_count", "_law_deep"]) (B : Bi mg) (D__law_lift : Has P w K mg base "_law_lift" ["_law_hat_here", "_law_total"] 1 spLift) (D__law_choice : Has P w K mg base "_law_choice" ["_law_hat_here", "_law_items"] 2 spChoice) : ∀ N : Nat, Has P w K mg base "_law_type" ["_law_hat_here", "_law_count", "_law_deep"] (N + 2) (spType N)
  | 0 => .off A fun ds μ q ⟨h, c, n, _, h1, _⟩ => by omega
  | N + 1 => type_step A B D__law_lift D__law_choice (ok_type A B D__law_lift D__law_choice N)
end
end Pl
namespace Pl
open PySem L2
def KWS : List D := [.str "and", .str "andalso", .str "as", .str "case", .str "datatype", .str "div", .str "do", .str "else", .str "end", .str "eqtype", .str "exception", .str "fn", .str "functor", .str "handle", .str "if", .str "in", .str "include", .str "let", .str "mod", .str "of", .str "open", .str "orelse", .str "print", .str "raise", .str "read", .str "rec", .str "ref", .str "sig", .str "signature", .str "struct", .str "structure", .str "text", .str "then", .str "type", .str "unit", .str "val", .str "when", .str "where", .str "while"]
/-- a row as the law builds them -/
structure RG (r : Row) : Prop where
  nm : r.nm = "pair" ∨ r.nm = "box" ∨ r.nm = "far"
  ar : r.ar ≤ 2
  asks : ∀ ns, r.asks = some ns → ns.length ≤ 2 ∧ ns.Pairwise (· < ·) ∧ ∀ n ∈ ns, n < r.ar
  cons : r.cons = none ∨ r.cons = some [(Str.ofString "Far", none)] ∨ (1 ≤ r.ar ∧ ∃ c ∈ cars, r.cons = some [(Str.ofString "Box", c), (Str.ofString "No", none)])
theorem low_names : isLowD KWS (.str "pair") = true ∧ isLowD KWS (.str "box") = true ∧ isLowD KWS (.str "far") = true := by decide +kernel
theorem high_names : isHighD (.str "Box") = true ∧ isHighD (.str "No") = true ∧ isHighD (.str "Far") = true := by decide +kernel
theorem RG.out {r : Row} (g : RG r) : r.Out KWS where
  nm := by
    obtain ⟨h1, h2, h3⟩ := low_names
    rcases g.nm with e | e | e <;> rw [e] <;> assumption
  ar := by have := g.ar; omega
  asks := fun ns e => by
    obtain ⟨h1, h2, h3⟩ := g.asks ns e
    exact ⟨by omega, h2, h3⟩
theorem ars_five (rs : List Row) : ((firstRows ++ rs).map Row.ar)[5 - 1]? = some 1 := rfl
theorem car_ok {ars : List Nat} (h5 : ars[5 - 1]? = some 1) {k : Nat} (hk : 1 ≤ k) {c : Option Ty} (hc : c ∈ cars) : CarOk ars k c := by
  have hv : ∀ (n : Nat), LocOk ars (.var 0) 0 := fun _ => ⟨rfl, by decide +kernel⟩
  have o0 : (tv 0).Ok ars := .node ⟨rfl, by decide +kernel⟩ fun t ht => nomatch ht
  have vz : ∀ {l : Lab} {ts : List Ty}, l.num = none → (∀ t ∈ ts, t = tv 0) → ∀ n ∈ (Ty.node l ts).vars, n < k := fun {l ts} hl ht n hn => by
    rcases vars_node hn with e | ⟨t, h1, h2⟩
    · rw [hl] at e; cases e
    · rw [ht t h1] at h2
      rcases vars_node h2 with e | ⟨u, h3, _⟩
      · cases e; exact hk
      · cases h3
  intro T e
  simp only [cars, List.mem_cons, List.not_mem_nil, or_false] at hc
  rcases hc with rfl | rfl | rfl | rfl <;> cases e
  · refine ⟨o0, by decide, fun n hn => ?_⟩
    rcases vars_node hn with e | ⟨u, h3, _⟩
    · cases e; exact hk
    · cases h3
  · exact ⟨.node ⟨by decide, by decide +kernel, h5⟩ fun t ht => by rw [List.mem_singleton.mp ht]; exact o0, by decide, vz rfl fun t ht => List.mem_singleton.mp ht⟩
  · exact ⟨.node rfl fun t ht => by
      simp only [List.mem_cons, List.not_mem_nil, or_false, or_self] at ht
      rw [ht]; exact o0, by decide, vz rfl fun t ht => by simpa using ht⟩
theorem RG.inn {r : Row} (g : RG r) (rs : List Row) : r.In ((firstRows ++ rs).map Row.ar) where
  ok := fun cs e => by
    obtain ⟨h1, h2, h3⟩ := high_names
    have none_ok : ∀ {ars : List Nat} {k : Nat}, CarOk ars k none := fun {ars k} T e => nomatch e
    rcases g.cons with e2 | e2 | ⟨hr, c, hc, e2⟩ <;> rw [e2] at e <;> cases e
    · refine ⟨by simp, by decide, by simp, fun c hc => ?_⟩
      rw [List.mem_singleton.mp hc]
      exact ⟨h3, none_ok⟩
    · refine ⟨by simp, by show 2 ≤ 100; decide, ?_, fun c' hc' => ?_⟩
      · show [Str.ofString "Box", Str.ofString "No"].Nodup
        decide +kernel
      · simp only [List.mem_cons, List.not_mem_nil, or_false] at hc'
        rcases hc' with rfl | rfl
        · exact ⟨h1, car_ok (ars_five rs) hr hc⟩
        · exact ⟨h2, none_ok⟩
theorem eqks_of {k : Nat} : ∀ {ds : List D}, (∀ d ∈ ds, d.eqk k = true) → D.eqks k ds = true
  | [], _ => by rw [D.eqks]
  | d :: r, h => by rw [D.eqks, h d List.mem_cons_self, eqks_of fun x hx => h x (List.mem_cons_of_mem _ hx)]; rfl
theorem eqk_tup {k : Nat} {ds : List D} (h : ∀ d ∈ ds, d.eqk k = true) : (D.tup ds).eqk (k + 1) = true := by
  simp only [D.eqk]
  exact eqks_of h
theorem eqk_int (k : Nat) (i : Int) : (D.int i).eqk k = true := by rw [D.eqk]
theorem eqk_non (k : Nat) : D.non.eqk k = true := by rw [D.eqk]
theorem eqk_up {a b : Nat} (h : a ≤ b) {d : D} (e : d.eqk a = true) : d.eqk b = true := by
  obtain ⟨k, rfl⟩ : ∃ k, b = a + k := ⟨b - a, by omega⟩
  induction k with
  | zero => exact e
  | succ k ih => exact (eqk_succ _).1 _ (ih (by omega))
theorem eqk_asks (k : Nat) (o : Option (List Nat)) : (asksD o).eqk (k + 1) = true := by
  cases o with
  | none => exact eqk_non _
  | some ns =>
    refine eqk_tup fun d hd => ?_
    obtain ⟨n, _, rfl⟩ := List.mem_map.mp hd
    exact eqk_int _ _
theorem eqk_car {c : Option Ty} (hc : c ∈ cars) : (optD c).eqk 8 = true := by
  have v0 : (tv 0).d.eqk 2 = true := by
    rw [d_var]
    exact eqk_tup fun d hd => by
      simp only [List.mem_cons, List.not_mem_nil, or_false] at hd
      rcases hd with rfl | rfl
      · rw [D.eqk]; exact so_words.1
      · exact eqk_int _ _
  simp only [cars, List.mem_cons, List.not_mem_nil, or_false] at hc
  rcases hc with rfl | rfl | rfl | rfl
  · exact eqk_non _
  · exact eqk_up (by decide) v0
  · show (Ty.node (.made 5) [tv 0]).d.eqk 8 = true
    rw [d_eq]
    exact eqk_up (by decide : 4 ≤ 8) (eqk_node (eqks_map fun t ht => by rw [List.mem_singleton.mp ht]; exact v0))
  · show (Ty.node .fn [tv 0, tv 0]).d.eqk 8 = true
    rw [d_eq]
    exact eqk_up (by decide : 4 ≤ 8) (eqk_node (eqks_map fun t ht => by
      simp only [List.mem_cons, List.not_mem_nil, or_false, or_self] at ht
      rw [ht]; exact v0))
theorem so_names : PyData.strOk "pair" = true ∧ PyData.strOk "box" = true ∧ PyData.strOk "far" = true ∧ PyData.strOk "Box" = true ∧ PyData.strOk "No" = true ∧ PyData.strOk "Far" = true := by decide +kernel
theorem RG.cns {r : Row} (g : RG r) : (consD r.cons).eqk 10 = true := by
  obtain ⟨_, _, _, h4, h5, h6⟩ := so_names
  rcases g.cons with e2 | e2 | ⟨_, c, hc, e2⟩ <;> rw [e2]
  · exact eqk_non _
  · refine eqk_tup fun d hd => ?_
    rw [List.mem_singleton.mp hd]
    refine eqk_tup fun d hd => ?_
    simp only [List.mem_cons, List.not_mem_nil, or_false] at hd
    rcases hd with rfl | rfl
    · rw [D.eqk]; exact h6
    · exact eqk_non _
  · refine eqk_tup fun d hd => ?_
    simp only [List.map_cons, List.map_nil, List.mem_cons, List.not_mem_nil, or_false] at hd
    rcases hd with rfl | rfl <;> refine eqk_tup fun d hd => ?_ <;> simp only [List.mem_cons, List.not_mem_nil, or_false] at hd <;> rcases hd with rfl | rfl
    · rw [D.eqk]; exact h4
    · exact eqk_car hc
    · rw [D.eqk]; exact h5
    · exact eqk_non _
theorem RG.name {r : Row} (g : RG r) : PyData.strOk r.nm = true := by
  obtain ⟨h1, h2, h3, _⟩ := so_names
  rcases g.nm with e | e | e <;> rw [e] <;> assumption
theorem RG.eq {r : Row} (g : RG r) : r.d.eqk 11 = true := by
  refine eqk_tup fun d hd => ?_
  simp only [List.mem_cons, List.not_mem_nil, or_false] at hd
  rcases hd with rfl | rfl | rfl | rfl
  · rw [D.eqk]; exact g.name
  · exact eqk_int _ _
  · exact eqk_asks 9 _
  · exact g.cns
theorem GRows.rg {rows : List Row} {a2 a1 a0 : Option (List Nat)} {cn : Option (List (Str × Option Ty))} (g : GRows rows a2 a1 a0 cn) : ∀ r ∈ rows, RG r := by
  intro r hr
  rw [g.eq] at hr
  simp only [List.mem_cons, List.not_mem_nil, or_false] at hr
  rcases hr with rfl | rfl | rfl
  · refine ⟨.inl rfl, by show 2 ≤ 2; decide, fun ns e => ?_, .inl rfl⟩
    have h := g.h2
    have e : a2 = some ns := e
    rw [e] at h
    simp only [asks2, List.mem_cons, List.not_mem_nil, or_false, reduceCtorEq, false_or, Option.some.injEq] at h
    rcases h with rfl | rfl | rfl | rfl | rfl <;> exact ⟨by decide, by decide, by show ∀ n ∈ _, n < 2; decide⟩
  · refine ⟨.inr (.inl rfl), by show 1 ≤ 2; decide, fun ns e => ?_, ?_⟩
    · have h := g.h1
      have e : a1 = some ns := e
      rw [e] at h
      simp only [asks1, List.mem_cons, List.not_mem_nil, or_false, reduceCtorEq, false_or, Option.some.injEq] at h
      rcases h with rfl | rfl | rfl <;> exact ⟨by decide, by decide, by show ∀ n ∈ _, n < 1; decide⟩
    · rcases g.hc with e | ⟨c, hc, e⟩
      · exact .inl e
      · exact .inr (.inr ⟨by show 1 ≤ 1; decide, c, hc, e⟩)
  · refine ⟨.inr (.inr rfl), by show 0 ≤ 2; decide, fun ns e => ?_, .inl rfl⟩
    have h := g.h0
    have e : a0 = some ns := e
    rw [e] at h
    simp only [asks0, List.mem_cons, List.not_mem_nil, or_false, reduceCtorEq, false_or, Option.some.injEq] at h
    subst h
    exact ⟨by decide, by decide, by show ∀ n ∈ _, n < 0; decide⟩
theorem first_eqk : ∀ r ∈ firstRows, r.d.eqk 11 = true := by
  have h : (firstRows.all fun r => r.d.eqk 11) = true := by decide +kernel
  exact List.all_eq_true.mp h
theorem rows_eqk {rs : List Row} (h : ∀ r ∈ rs, RG r) : (rowsD (firstRows ++ rs)).eqk 64 = true := by
  refine eqk_up (by decide : 12 ≤ 64) (eqk_tup fun d hd => ?_)
  obtain ⟨r, hr, rfl⟩ := List.mem_map.mp hd
  rcases List.mem_append.mp hr with hr | hr
  · exact first_eqk r hr
  · exact (h r hr).eq
end Pl
namespace Pl
open PySem L2
/-! ### schemes -/
structure Sk (K : PySem.W.Frag) (mg : Str → Option Value) (G : Addr) : Prop where
  cl : Cls K G
  na_marks : NoAttr K G "marks"
  na_body : NoAttr K G "body"
  na_total : NoAttr K G "total"
  na__outline : NoAttr K G "_outline"
def schO (G dx : Addr) (mk : List Nat) (T : Ty) : MO := .ins G dx [("marks", natsD mk), ("body", T.d), ("total", .int (T.ord.length : Nat)), ("_outline", .tup (T.pre.map outD))]
def IsSch (G : Addr) (μ : Mu) (p : Addr) (mk : List Nat) (T : Ty) : Prop := ∃ dx, μ p = some (schO G dx mk T)
theorem lks_marks {x y z u : D} : ([("marks", x), ("body", y), ("total", z), ("_outline", u)] : List (Str × D)).lookup ("marks" : Str) = some x := rfl
theorem lks_body {x y z u : D} : ([("marks", x), ("body", y), ("total", z), ("_outline", u)] : List (Str × D)).lookup ("body" : Str) = some y := rfl
theorem lks_off1 {x y z u : D} : ([("marks", x), ("body", y), ("total", z), ("_outline", u)] : List (Str × D)).lookup ("_check_body" : Str) = none := rfl
theorem lks_off2 {x y z u : D} : ([("marks", x), ("body", y), ("total", z), ("_outline", u)] : List (Str × D)).lookup ("text" : Str) = none := rfl
/-- the marks of the scheme of a type -/
def mrk (ns ms : List Nat) : List Nat := (ns.filter fun n => decide (n ∈ ms)).map (idx ns)
theorem mrk_up {ns ms : List Nat} (hd : ns.Nodup) : (mrk ns ms).Pairwise (· < ·) := by
  unfold mrk
  have h : ((ns.filter fun n => decide (n ∈ ms)).map (idx ns)).Sublist (ns.map (idx ns)) := List.Sublist.map _ List.filter_sublist
  rw [idx_map hd] at h
  exact List.Pairwise.sublist h List.pairwise_lt_range
theorem mrk_lt {ns ms : List Nat} : ∀ n ∈ mrk ns ms, n < ns.length := fun n hn => by
  obtain ⟨m, hm, rfl⟩ := List.mem_map.mp hn
  exact idx_lt (List.mem_filter.mp hm).1
theorem mrk_len (ns ms : List Nat) : (mrk ns ms).length ≤ ns.length := by
  unfold mrk
  rw [List.length_map]
  exact List.length_filter_le _ _
theorem eqk_natsD (ns : List Nat) : (natsD ns).eqk 64 = true := eqk_up (by decide : 1 ≤ 64) (eqk_tup fun d hd => by
  obtain ⟨n, _, rfl⟩ := List.mem_map.mp hd
  exact eqk_int _ _)
theorem lc_filtf {α : Type} {pg : PGx} {pt : PTx} {pe : PEx} {ss : SS} {ok : Mu → Prop} {q : List D → Mu → Prop} {μ : Mu} (g f : α → D) (p : α → Bool) {ts : List α} (hok : ok μ)
    (hs : ∀ t ∈ ts, ∀ (ky : D → Mu → Prop) (kn : Mu → Prop), (p t = true → ky (f t) μ) → (p t = false → kn μ) → lcStep pg pt pe ss (g t) μ ky kn) (h : q ((ts.filter p).map f) μ) : lcGo pg pt pe ss ok q (ts.map g) [] μ := by
  have key : ∀ (ts : List α) (acc : List D), (∀ t ∈ ts, ∀ (ky : D → Mu → Prop) (kn : Mu → Prop), (p t = true → ky (f t) μ) → (p t = false → kn μ) → lcStep pg pt pe ss (g t) μ ky kn) → q (acc ++ (ts.filter p).map f) μ → lcGo pg pt pe ss ok q (ts.map g) acc μ := by
    intro ts
    induction ts with
    | nil => intro acc _ h; exact ⟨hok, by simpa using h⟩
    | cons t r ih =>
      intro acc hs h
      refine ⟨hok, hs t List.mem_cons_self _ _ (fun e => ih (acc ++ [f t]) (fun u hu => hs u (List.mem_cons_of_mem _ hu)) ?_) fun e => ih acc (fun u hu => hs u (List.mem_cons_of_mem _ hu)) ?_⟩
      · rw [List.filter_cons_of_pos e] at h
        rw [List.append_assoc]
        exact h
      · rw [List.filter_cons_of_neg (by rw [e]; exact Bool.false_ne_true)] at h
        exact h
  exact key ts [] hs h
section
variable {P : Program} {w : World} {K : PySem.W.Frag} {mg : Str → Option Value} {base : Heap} {C G : Addr}
abbrev s_Scheme___init__ : Stmt := inClass (top 57) 0
theorem sc_Scheme___init__ : FnScope ["self", "book", "marks", "body", "variables", "mark"] ["self", "book", "marks", "body"] (defScope s_Scheme___init__) := ⟨rfl, rfl, rfl, by decide +kernel, rfl, by decide +kernel, by decide +kernel⟩
def spSInit (C G : Addr) : Spc := fun ds μ q => ∃ (p dx b : Addr) (rs : List Row) (T : Ty) (ms : List Nat), ds = [.ref p, .ref b, natsD ms, T.d] ∧ μ p = some (.ins G dx []) ∧ TyOk C μ b rs T ∧ T.ord = List.range T.ord.length ∧ ms.Pairwise (· < ·) ∧ (∀ n ∈ ms, n < T.ord.length) ∧ ms.length ≤ 1000 ∧ q .non (mset μ p (schO G dx ms T))
theorem ok_sinit (A : AtM K C "__init__" "Scheme.__init__" s_Scheme___init__ ["self", "book", "marks", "body"]) (B : Bi mg) (T : Sk K mg C) (D_check_book : Has P w K mg base "check_book" ["book"] 1 (spCheckB G)) (D_is_ascending : Has P w K mg base "is_ascending" ["value"] 4 spAsc) (D_is_type : Has P w K mg base "is_type" ["book", "value"] 6 (spIsT G)) (D_variables_in : Has P w K mg base "variables_in" ["T"] 3 spVars) (D_outline : Has P w K mg base "outline" ["T"] 3 spOutl) : HasM P w K mg base C "__init__" ["self", "book", "marks", "body"] 7 (spSInit G C) := by
  refine HasM.mk A fun f fd F => ?_
  refine qfn F sc_Scheme___init__ (by decide) ?len (fun cdv A outer s H E hr => (qss_cons (qs_expr (qe_call D_check_book (hr.mono (by decide)) (qa_cons (qv 1) qa_nil)))
  (qss_cons (qs_if (QW.qt (qw_or (qt_not (qt_val (qe_call D_is_ascending (hr.mono (by decide)) (qa_cons (qv 2) qa_nil)))) (qw_or1 (qt_not (qt_val (qe_call D_is_type (hr.mono (by decide)) (qa_cons (qv 1) (qa_cons (qv 3) qa_nil)))))))) (qss_one qs_never) qss_nil)
  (qss_cons (qs_set (i := 4) sc_Scheme___init__.nd rfl (Or.inr rfl) (qe_call D_variables_in (hr.mono (by decide)) (qa_cons (qv 3) qa_nil)))
  (qss_cons (qs_if (QW.qt (qw_or (qt_cmp (qop_ne hr.units) (qv 4) (qe_tupRg rfl (by rfl) B.tuple (qrg_1 (by rfl) B.range (qe_callB qc_len (by rfl) B.len (by decide +kernel) (qa_cons (qv 4) qa_nil)))) (nomark _)) (qw_or1 (qt_not (qt_val (qe_callB (qc_all rfl) (by rfl) B.all (by decide +kernel) (qa_cons (qe_lc (own := [("mark", 5)]) rfl sc_Scheme___init__.nd (qi_seq (qv 2)) (blkOk_by (N := ["self", "book", "marks", "body", "variables", "mark"]) (sc := defScope s_Scheme___init__) (by decide +kernel)) (fun _ _ _ _ _ => (qgw_name (i := 5) sc_Scheme___init__.nd rfl (Or.inl rfl))) (fun _ _ _ _ _ => qts_nil) (fun _ _ _ _ _ => (qe_cmp qop_lt (qv 5) (qe_callB qc_len (by rfl) B.len (by decide +kernel) (qa_cons (qv 4) qa_nil)) (nomark _)))) qa_nil))))))) (qss_one qs_never) qss_nil)
  (qss_cons (qs_fld ⟨T.cl, T.na_marks⟩ (qv 0) (qv 2))
  (qss_cons (qs_fld ⟨T.cl, T.na_body⟩ (qv 0) (qv 3))
  (qss_cons (qs_fld ⟨T.cl, T.na_total⟩ (qv 0) (qe_callB qc_len (by rfl) B.len (by decide +kernel) (qa_cons (qv 4) qa_nil)))
  (qss_one (qs_fld ⟨T.cl, T.na__outline⟩ (qv 0) (qe_call D_outline (hr.mono (by decide)) (qa_cons (qv 3) qa_nil)))))))))))) ?body
  case len => rintro ds μ q ⟨_, _, _, _, _, _, rfl, _⟩; rfl
  case body =>
    rintro ds μ q ⟨p, dx, b, rs, T0, ms, rfl, hp, hT, hord, hup, hlt, hml, h⟩
    have hf := (ok_iff.mp hT.2.2.1).1
    have hs := hT.2.2.2
    have hol := ord_len T0
    simp only [PW, Nat.reduceAdd, String.reduceEq, decide_true, decide_false, ite_true, ite_false, Bool.false_eq_true, if_true, if_false, true_and, and_true, Bool.not_true, Bool.not_false, List.length_cons, List.length_nil, reduceCtorEq]
    refine ⟨b, rs, rfl, hT.1, ?_⟩
    simp only [PW, Nat.reduceAdd, String.reduceEq, decide_true, decide_false, ite_true, ite_false, Bool.false_eq_true, if_true, if_false, true_and, and_true, Bool.not_true, Bool.not_false, List.length_cons, List.length_nil, reduceCtorEq]
    refine ⟨ms, rfl, hml, hup, fun n hn => lt60 (by have := hlt n hn; omega), ?_⟩
    simp only [PW, Nat.reduceAdd, String.reduceEq, decide_true, decide_false, ite_true, ite_false, Bool.false_eq_true, if_true, if_false, true_and, and_true, Bool.not_true, Bool.not_false, List.length_cons, List.length_nil, reduceCtorEq]
    refine ⟨b, rs, T0.d, rfl, hT.1, hT.2.1, kta_d _ T0 (Nat.le_refl _) hs, n_d300 hs, fun bb hbb => ?_⟩
    have : bb = true := hbb.mpr ⟨T0, rfl, hT.2.2.1, hs⟩
    subst this
    simp only [PW, Nat.reduceAdd, String.reduceEq, decide_true, decide_false, ite_true, ite_false, Bool.false_eq_true, if_true, if_false, true_and, and_true, Bool.not_true, Bool.not_false, List.length_cons, List.length_nil, reduceCtorEq]
    refine ⟨T0, rfl, hf, by omega, ?_⟩
    have er : rgD 0 (T0.ord.length : Nat) = T0.ord.map fun (n : Nat) => D.int (n : Int) := by
      unfold rgD
      have e2 : ((T0.ord.length : Int) - 0).toNat = T0.ord.length := by omega
      rw [e2]
      conv => rhs; rw [hord]
      refine List.map_congr_left fun i _ => ?_
      rw [Int.zero_add]
    have ek : (natsD T0.ord).eqk 64 = true := eqk_natsD _
    simp only [natsD, PW, Nat.reduceAdd, String.reduceEq, decide_true, decide_false, ite_true, ite_false, Bool.false_eq_true, if_true, if_false, true_and, and_true, Bool.not_true, Bool.not_false, List.length_cons, List.length_nil, reduceCtorEq, pTupRg, pRg1, List.length_map]
    refine ⟨RgOk.of_le (by omega) (by omega) (by omega) (by omega), ?_⟩
    rw [er]
    refine pEq_plain (b := true) ek ek (by simp) ?_
    simp only [PW, Nat.reduceAdd, String.reduceEq, decide_true, decide_false, ite_true, ite_false, Bool.false_eq_true, if_true, if_false, true_and, and_true, Bool.not_true, Bool.not_false, List.length_cons, List.length_nil, reduceCtorEq, bne_self_eq_false]
    refine ⟨sl1000 hml, lc_all True.intro (fun x hx ky kn k => ?_) fun p1 hp1 => ?_⟩
    · obtain ⟨n, hn, rfl⟩ := List.mem_map.mp hx
      have hn := hlt n hn
      have e3 : decide ((n : Int) < (T0.ord.length : Nat)) = true := by rw [decide_eq_true_iff]; omega
      simp only [lcStep, PW, Nat.reduceAdd, String.reduceEq, decide_true, decide_false, ite_true, ite_false, Bool.false_eq_true, if_true, if_false, true_and, and_true, Bool.not_true, Bool.not_false, List.length_cons, List.length_nil, reduceCtorEq, List.length_map, e3]
      exact k
    · have n1 : p ≠ p1 := ne_free hp hp1
      have e0 : (mset μ p1 (.lst ((ms.map fun (n : Nat) => D.int (n : Int)).map fun _ => D.bl true))) p = some (.ins C dx []) := by rw [mset_ne n1]; exact hp
      have hm : Mle μ (mset μ p1 (.lst ((ms.map fun (n : Nat) => D.int (n : Int)).map fun _ => D.bl true))) := .put hp1
      simp only [bls_tt, all_tt, PW, Nat.reduceAdd, String.reduceEq, decide_true, decide_false, ite_true, ite_false, Bool.false_eq_true, if_true, if_false, true_and, and_true, Bool.not_true, Bool.not_false, List.length_cons, List.length_nil, reduceCtorEq]
      generalize mset μ p1 (.lst ((ms.map fun (n : Nat) => D.int (n : Int)).map fun _ => D.bl true)) = ν at e0 hm ⊢
      rw [onIns_ref e0]
      refine ⟨by decide, ?_⟩
      rw [onIns_ref mset_same, mset_mset]
      refine ⟨by show (1 : Nat) < 1000; decide, ?_⟩
      rw [onIns_ref mset_same, mset_mset]
      refine ⟨by show (2 : Nat) < 1000; decide, T0, rfl, hf, by omega, ?_⟩
      dsimp only
      rw [onIns_ref mset_same, mset_mset]
      exact ⟨by show (3 : Nat) < 1000; decide, mset μ p (schO C dx ms T0), hm.both, h⟩
abbrev s_Scheme__check_body : Stmt := inClass (top 57) 3
theorem sc_Scheme__check_body : FnScope ["self", "book"] ["self", "book"] (defScope s_Scheme__check_body) := ⟨rfl, rfl, rfl, by decide +kernel, rfl, by decide +kernel, by decide +kernel⟩
def spChkBody (C G : Addr) : Spc := fun ds μ q => ∃ (p b : Addr) (rs : List Row) (T : Ty) (ms : List Nat), ds = [.ref p, .ref b] ∧ IsSch G μ p ms T ∧ TyOk C μ b rs T ∧ q .non μ
theorem ok_chk_body (A : AtM K C "_check_body" "Scheme._check_body" s_Scheme__check_body ["self", "book"]) (T : Sk K mg C) (D_check_book : Has P w K mg base "check_book" ["book"] 1 (spCheckB G)) (D_is_type : Has P w K mg base "is_type" ["book", "value"] 6 (spIsT G)) : HasM P w K mg base C "_check_body" ["self", "book"] 7 (spChkBody G C) := by
  refine HasM.mk A fun f fd F => ?_
  refine qfn F sc_Scheme__check_body (by decide) ?len (fun cdv A outer s H E hr => (qss_cons (qs_expr (qe_call D_check_book (hr.mono (by decide)) (qa_cons (qv 1) qa_nil)))
  (qss_one (qs_if (qt_not (qt_val (qe_call D_is_type (hr.mono (by decide)) (qa_cons (qv 1) (qa_cons (qe_fld ⟨T.cl, T.na_body⟩ (qv 0)) qa_nil))))) (qss_one qs_never) qss_nil)))) ?body
  case len => rintro ds μ q ⟨_, _, _, _, _, rfl, _⟩; rfl
  case body =>
    rintro ds μ q ⟨p, b, rs, T0, ms, rfl, ⟨dx, hp⟩, hT, h⟩
    simp only [PW, Nat.reduceAdd, String.reduceEq, decide_true, decide_false, ite_true, ite_false, Bool.false_eq_true, if_true, if_false, true_and, and_true, Bool.not_true, Bool.not_false, List.length_cons, List.length_nil, reduceCtorEq]
    refine ⟨b, rs, rfl, hT.1, ?_⟩
    simp only [PW, Nat.reduceAdd, String.reduceEq, decide_true, decide_false, ite_true, ite_false, Bool.false_eq_true, if_true, if_false, true_and, and_true, Bool.not_true, Bool.not_false, List.length_cons, List.length_nil, reduceCtorEq, onIns_ref hp, lks_body]
    have hs := hT.2.2.2
    refine ⟨b, rs, T0.d, rfl, hT.1, hT.2.1, kta_d _ T0 (Nat.le_refl _) hs, n_d300 hs, fun bb hbb => ?_⟩
    have : bb = true := hbb.mpr ⟨T0, rfl, hT.2.2.1, hs⟩
    subst this
    simp only [PW, Nat.reduceAdd, String.reduceEq, decide_true, decide_false, ite_true, ite_false, Bool.false_eq_true, if_true, if_false, true_and, and_true, Bool.not_true, Bool.not_false, List.length_cons, List.length_nil, reduceCtorEq]
    exact end_of h
abbrev s_Scheme_text : Stmt := inClass (top 57) 8
theorem sc_Scheme_text : FnScope ["self", "book"] ["self", "book"] (defScope s_Scheme_text) := ⟨rfl, rfl, rfl, by decide +kernel, rfl, by decide +kernel, by decide +kernel⟩
def spSText (C G : Addr) : Spc := fun ds μ q => ∃ (p b : Addr) (rs : List Row) (T : Ty) (ms : List Nat), ds = [.ref p, .ref b] ∧ IsSch G μ p ms T ∧ IsBook C μ b rs ∧ rs.length ≤ 1000 ∧ GTy (rs.map Row.ar) T ∧ (∀ row ∈ rs, row.nm.length ≤ 10) ∧ q (.str (T.tx (nmR rs) ms 0)) μ
theorem ok_stext (A : AtM K C "text" "Scheme.text" s_Scheme_text ["self", "book"]) (T : Sk K mg C) (DM__check_body : HasM P w K mg base C "_check_body" ["self", "book"] 7 (spChkBody G C)) (D_text_with : Has P w K mg base "text_with" ["book", "T", "marked"] 5 (spTextW G)) : HasM P w K mg base C "text" ["self", "book"] 8 (spSText G C) := by
  refine HasM.mk A fun f fd F => ?_
  refine qfn F sc_Scheme_text (by decide) ?len (fun cdv A outer s H E hr => (qss_cons (qs_expr (qe_meth T.cl (qv 0) DM__check_body (hr.mono (by decide)) (qa_cons (qv 1) qa_nil)))
  (qss_one (qs_ret (qe_call D_text_with (hr.mono (by decide)) (qa_cons (qv 1) (qa_cons (qe_fld ⟨T.cl, T.na_body⟩ (qv 0)) (qa_cons (qe_fld ⟨T.cl, T.na_marks⟩ (qv 0)) qa_nil)))))))) ?body
  case len => rintro ds μ q ⟨_, _, _, _, _, rfl, _⟩; rfl
  case body =>
    rintro ds μ q ⟨p, b, rs, T0, ms, rfl, ⟨dx, hp⟩, hb, hl, hT, hz, h⟩
    simp only [PW, Nat.reduceAdd, String.reduceEq, decide_true, decide_false, ite_true, ite_false, Bool.false_eq_true, if_true, if_false, true_and, and_true, Bool.not_true, Bool.not_false, List.length_cons, List.length_nil, reduceCtorEq, onIns_ref hp]
    refine ⟨rfl, p, b, rs, T0, ms, rfl, ⟨dx, hp⟩, ⟨hb, hl, fun t ht => (hT.1 t ht).1, hT.2⟩, ?_⟩
    simp only [PW, Nat.reduceAdd, String.reduceEq, decide_true, decide_false, ite_true, ite_false, Bool.false_eq_true, if_true, if_false, true_and, and_true, Bool.not_true, Bool.not_false, List.length_cons, List.length_nil, reduceCtorEq, onIns_ref hp, lks_body, lks_marks]
    exact ⟨b, rs, T0, ms, rfl, hb, hl, hT, hz, end_of h⟩
abbrev s_Scheme_of : Stmt := inClass (top 57) 1
theorem sc_Scheme_of : FnScope ["cls", "book", "T", "marked", "variables", "marks", "number", "variable"] ["cls", "book", "T", "marked"] (defScope s_Scheme_of) := ⟨rfl, rfl, rfl, by decide +kernel, rfl, by decide +kernel, by decide +kernel⟩
def spOf (C G : Addr) : Spc := fun ds μ q => ∃ (b : Addr) (rs : List Row) (T : Ty) (ms : List Nat), ds = [.ref G, .ref b, T.d, natsD ms] ∧ TyOk C μ b rs T ∧ ms.length ≤ 1000 ∧ ms.Pairwise (· < ·) ∧ (∀ n ∈ ms, (n : Int) < BEY) ∧ ∀ p dx, μ p = none → q (.ref p) (mset μ p (schO G dx (mrk T.ord ms) (ren T)))
theorem ok_sof {am : Addr} (A : AtC K C "of" "Scheme.of" s_Scheme_of [("marked", .ref am)]) (B : Bi mg) (M_Scheme : HasI P w K mg base "Scheme" C ["self", "book", "marks", "body"] 7 (spSInit G C)) (D_check_type : Has P w K mg base "check_type" ["book", "T"] 7 (spCheckT G)) (D_check_marked : Has P w K mg base "check_marked" ["marked"] 5 spMarked)
    (D_variables_in : Has P w K mg base "variables_in" ["T"] 3 spVars) (D_numbered : Has P w K mg base "numbered" ["variables"] 1 spNumb) (D_replaced : Has P w K mg base "replaced" ["T", "images"] 2 spRepl) : HasC P w K mg base C "of" ["cls", "book", "T", "marked"] 2 ["marked"] 9 (spOf G C) := by
  refine HasC.mk (kws := [("marked", .ref am)]) (n := 2) A (fun f fd F => ?_) ?h1
  case h1 =>
    intro kV doc pm an cdv ct us ws hu hw
    match us, hu, ws, hw with
    | [_, _, _], _, [_], _ => rfl
  refine qfnD F sc_Scheme_of (by decide) ?len (fun cdv A outer s H E hr => (qss_cons (qs_expr (qe_call D_check_type (hr.mono (by decide)) (qa_cons (qv 1) (qa_cons (qv 2) qa_nil))))
  (qss_cons (qs_expr (qe_call D_check_marked (hr.mono (by decide)) (qa_cons (qv 3) qa_nil)))
  (qss_cons (qs_set (i := 4) sc_Scheme_of.nd rfl (Or.inl rfl) (qe_call D_variables_in (hr.mono (by decide)) (qa_cons (qv 2) qa_nil)))
  (qss_cons (qs_setLc (i := 5) (own := [("number", 6), ("variable", 7)]) rfl sc_Scheme_of.nd rfl rfl (sw_true rfl rfl rfl (by decide +kernel)) (qi_enumT (by rfl) B.enumerate (qa_cons (qv 4) qa_nil)) (blkOk_by (N := ["cls", "book", "T", "marked", "variables", "marks", "number", "variable"]) (sc := defScope s_Scheme_of) (by decide +kernel)) (fun _ _ _ _ _ => (qgw_tup (n := 2) rfl (qgws_cons (qgw_name (i := 6) sc_Scheme_of.nd rfl (Or.inl rfl)) (qgws_cons (qgw_name (i := 7) sc_Scheme_of.nd rfl (Or.inl rfl)) qgws_nil)))) (fun _ _ _ _ _ => (qts_one (qt_cmp (qop_in (hu_of hr)) (qv 7) (qv 3) rfl))) (fun _ _ _ _ _ => (qv 6)))
  (qss_one (qs_ret (qe_makeL 0 M_Scheme (hr.mono (by decide)) (qa_cons (qv 1) (qa_cons (qe_callTy (qc_tuple rfl) (by rfl) B.tuple (by decide +kernel) (qa_cons (qv 5) qa_nil)) (qa_cons (qe_call D_replaced (hr.mono (by decide)) (qa_cons (qv 2) (qa_cons (qe_call D_numbered (hr.mono (by decide)) (qa_cons (qv 4) qa_nil)) qa_nil))) qa_nil))))))))))) ?body
  case len => rintro ds μ q ⟨_, _, _, _, rfl, _⟩; rfl
  case body =>
    rintro ds μ q ⟨b, rs, T0, ms, rfl, hT, h1, h2, h3, h⟩
    have hf := (ok_iff.mp hT.2.2.1).1
    have hs := hT.2.2.2
    have hol := ord_len T0
    have hnd := ord_nodup hf.leafy
    simp only [PW, Nat.reduceAdd, String.reduceEq, decide_true, decide_false, ite_true, ite_false, Bool.false_eq_true, if_true, if_false, true_and, and_true, Bool.not_true, Bool.not_false, List.length_cons, List.length_nil, reduceCtorEq]
    refine ⟨b, rs, T0, rfl, hT, ?_⟩
    simp only [PW, Nat.reduceAdd, String.reduceEq, decide_true, decide_false, ite_true, ite_false, Bool.false_eq_true, if_true, if_false, true_and, and_true, Bool.not_true, Bool.not_false, List.length_cons, List.length_nil, reduceCtorEq]
    refine ⟨ms, rfl, h1, h2, h3, ?_⟩
    simp only [PW, Nat.reduceAdd, String.reduceEq, decide_true, decide_false, ite_true, ite_false, Bool.false_eq_true, if_true, if_false, true_and, and_true, Bool.not_true, Bool.not_false, List.length_cons, List.length_nil, reduceCtorEq]
    refine ⟨T0, rfl, hf, by omega, ?_⟩
    simp only [natsD, PW, Nat.reduceAdd, String.reduceEq, decide_true, decide_false, ite_true, ite_false, Bool.false_eq_true, if_true, if_false, true_and, and_true, Bool.not_true, Bool.not_false, List.length_cons, List.length_nil, reduceCtorEq, enumD_nats hnd, List.length_map]
    refine ⟨sl1000 (by omega), lc_filtf (fun (n : Nat) => D.tup [.int (idx T0.ord n : Nat), .int (n : Int)]) (fun n => .int (idx T0.ord n : Nat)) (fun n => decide (n ∈ ms)) True.intro (fun n hn ky kn k1 k2 => ?_) fun p1 hp1 => ?_⟩
    · simp only [lcStep, PW, Nat.reduceAdd, String.reduceEq, decide_true, decide_false, ite_true, ite_false, Bool.false_eq_true, if_true, if_false, true_and, and_true, Bool.not_true, Bool.not_false, List.length_cons, List.length_nil, reduceCtorEq, flat_nats, inD_nats]
      by_cases m : n ∈ ms
      · simp only [m, decide_true, PW, Nat.reduceAdd, String.reduceEq, decide_true, decide_false, ite_true, ite_false, Bool.false_eq_true, if_true, if_false, true_and, and_true, Bool.not_true, Bool.not_false, List.length_cons, List.length_nil, reduceCtorEq] at k1 ⊢
        exact k1 True.intro
      · simp only [m, decide_false, PW, Nat.reduceAdd, String.reduceEq, decide_true, decide_false, ite_true, ite_false, Bool.false_eq_true, if_true, if_false, true_and, and_true, Bool.not_true, Bool.not_false, List.length_cons, List.length_nil, reduceCtorEq] at k2 ⊢
        exact k2 True.intro
    · have e1 : (List.map (fun n => D.int (idx T0.ord n : Nat)) (List.filter (fun n => decide (n ∈ ms)) T0.ord)) = (mrk T0.ord ms).map fun (n : Nat) => D.int (n : Int) := by
        unfold mrk
        rw [List.map_map]
        rfl
      rw [e1]
      simp only [pMakeL, PW, Nat.reduceAdd, String.reduceEq, decide_true, decide_false, ite_true, ite_false, Bool.false_eq_true, if_true, if_false, true_and, and_true, Bool.not_true, Bool.not_false, List.length_cons, List.length_nil, reduceCtorEq]
      refine ⟨T0.ord, rfl, hnd, by omega, fun p2 hp2 => ?_⟩
      simp only [PW, Nat.reduceAdd, String.reduceEq, decide_true, decide_false, ite_true, ite_false, Bool.false_eq_true, if_true, if_false, true_and, and_true, Bool.not_true, Bool.not_false, List.length_cons, List.length_nil, reduceCtorEq]
      refine ⟨T0, p2, fun n => tv (idx T0.ord n), T0.ord, rfl, hf, by omega, mset_same, fun n hn => (ord_mem hf.leafy n).mpr hn, ?_⟩
      simp only [PW, Nat.reduceAdd, String.reduceEq, decide_true, decide_false, ite_true, ite_false, Bool.false_eq_true, if_true, if_false, true_and, and_true, Bool.not_true, Bool.not_false, List.length_cons, List.length_nil, reduceCtorEq]
      intro p dx hp
      have hm : Mle μ (mset (mset μ p1 (.lst ((mrk T0.ord ms).map fun (n : Nat) => D.int (n : Int)))) p2 (.dk (nk (fun n => (tv (idx T0.ord n)).d) T0.ord))) := (Mle.put hp1).trans (.put hp2)
      generalize mset (mset μ p1 (.lst ((mrk T0.ord ms).map fun (n : Nat) => D.int (n : Int)))) p2 (.dk (nk (fun n => (tv (idx T0.ord n)).d) T0.ord)) = ν at hm hp ⊢
      have hb : IsBook G (mset ν p (.ins C dx [])) b rs := by
        obtain ⟨dx2, hb⟩ := hT.1
        exact ⟨dx2, (hm.trans (.put hp)) _ _ hb⟩
      have ho := ren_ord hT.2.2.1 hs
      have hml := mrk_len T0.ord ms
      refine ⟨p, dx, b, rs, T0.ren, mrk T0.ord ms, rfl, mset_same, ⟨hb, hT.2.1, ren_ok hT.2.2.1 hs, by rw [ren_sz hf.leafy]; exact hs⟩, by rw [ho, List.length_range], mrk_up hnd, fun n hn => ?_, by omega, rfl, ?_⟩
      · rw [ho, List.length_range]
        exact mrk_lt n hn
      · rw [mset_mset]
        exact ⟨_, hm.both, h p dx (hm.none hp)⟩
end
end Pl
namespace Pl
open PySem L2
theorem nm_of {rows : List Row} (h : rows.map Row.nm = names9) : nmR rows = nm9 := by
  funext s
  unfold nmR nm9
  rw [← h, List.getD_eq_getElem?_getD, List.getElem?_map]
  cases rows[s - 1]? <;> rfl
theorem z_short {rows : List Row} (h : rows.map Row.nm = names9) : ∀ row ∈ rows, row.nm.length ≤ 10 := fun row hr => by
  have hm : row.nm ∈ names9 := by
    rw [← h]
    exact List.mem_map_of_mem hr
  have : ∀ z ∈ names9, z.length ≤ 10 := by decide +kernel
  exact this _ hm
theorem stamp9 {s n : Nat} (h : 0 < s) (e : ar9[s - 1]? = some n) : s ∈ S9 := by
  have hl := lt_of_get e
  have hl : s - 1 < 9 := hl
  have : s = 1 ∨ s = 2 ∨ s = 3 ∨ s = 4 ∨ s = 5 ∨ s = 6 ∨ s = 7 ∨ s = 8 ∨ s = 9 := by omega
  rcases this with rfl | rfl | rfl | rfl | rfl | rfl | rfl | rfl | rfl <;> decide
mutual
theorem gd_of : ∀ (T : Ty), GTy ar9 T → T.Gd S9
  | .node l ts, h => by
    have hl := h.loc
    have hv : ∀ n, l.num = some n → n < 1000 := (h.1 (.node l ts) (by rw [pre_eq]; exact List.mem_cons_self)).2
    have hk := gds_of ts fun t ht => h.kid t ht
    unfold Ty.Gd
    refine ⟨?_, hk⟩
    cases l with
    | var n => exact ⟨hl.1, hv n rfl⟩
    | fn => exact hl
    | tup => exact hl
    | made s => exact stamp9 hl.1 hl.2.2
theorem gds_of : ∀ (ts : List Ty), (∀ t ∈ ts, GTy ar9 t) → Ty.Gds S9 ts
  | [], _ => by unfold Ty.Gds; trivial
  | t :: r, h => by
    unfold Ty.Gds
    exact ⟨gd_of t (h t List.mem_cons_self), gds_of r fun u hu => h u (List.mem_cons_of_mem _ hu)⟩
end
theorem depLe_put (f : Nat → Nat) : ∀ (N : Nat) (T : Ty), T.Leafy → DepLe N T → DepLe N (T.sub fun n => tv (f n))
  | 0, _, _, h => h.elim
  | N + 1, T, hl, h => by
    cases e : T.lab.num with
    | some n =>
      rw [sub_var _ e]
      exact fun t ht => nomatch ht
    | none =>
      rw [sub_node _ e, subs_map]
      intro t ht
      obtain ⟨u, hu, rfl⟩ := List.mem_map.mp ht
      exact depLe_put f N u (hl.kid hu) (h u hu)
/-- a drawn type whose variables are far numbers -/
def farT (far : Nat) (T : Ty) : Ty := T.sub fun n => tv (n + far)
theorem far_good {far n : Nat} {T : Ty} (hf : far ≤ 700) (h : Gt 3 n T) (hs : T.sz ≤ 40) : GTy ar9 (farT far T) ∧ DepLe (n + 1) (farT far T) ∧ (farT far T).sz ≤ 40 := by
  have hl := h.ok.leafy
  refine ⟨GTy.of (ok_put _ T h.ok fun n hn => lt60 ?_) ?_ fun n hn => ?_, depLe_put _ _ T hl h.dp, ?_⟩
  · have := h.vs n hn
    omega
  · have e : (farT far T).sz = T.sz := sz_put _ T hl
    omega
  · have e : (farT far T).vars = T.vars.map fun n => n + far := vars_put _ T hl
    rw [e] at hn
    obtain ⟨m, hm, rfl⟩ := List.mem_map.mp hn
    have := h.vs m hm
    omega
  · have e : (farT far T).sz = T.sz := sz_put _ T hl
    omega
theorem near_good {n : Nat} {T : Ty} (h : Gt 3 n T) (hs : T.sz ≤ 40) : GTy ar9 T := GTy.of h.ok (Nat.le_trans hs (by decide)) fun v hv => Nat.lt_trans (h.vs v hv) (by decide)
end Pl
namespace Pl
open PySem L2 PySem.SeqAt PyProof.Rows
section
variable {X : Cx}
def pNeN : PR2 := fun d e μ q => match d, e with
  | .tup ds, .tup [] => q (.bl (!ds.isEmpty)) μ
  | _, _ => False
theorem qop_neNil (hu : X.A.units + 64 < cLine) : QOp X (compareOp .NotEq) pNeN := by
  refine ⟨_, Lq.op_neNilT hu, fun x y d e H μ q Q ab r1 r2 h k => ?_⟩
  unfold pNeN at h
  split at h
  · obtain ⟨a, vs, rfl, h1, h2⟩ := r1.tup'
    obtain ⟨b, us, rfl, h3, h4⟩ := r2.tup'
    rw [h4.nil'] at h3
    refine ⟨a, b, vs, rfl, rfl, h1, h3, ?_⟩
    rename_i ds
    have e : (vs.isEmpty != true) = !ds.isEmpty := by
      have := h2.len
      cases vs <;> cases ds <;> first | rfl | cases this
    rw [e]
    exact k _ _ _ _ .refl ab .bl h
  · exact h.elim
end
theorem pEqN_t {ds : List D} {μ : Mu} {q : EQ} : pEqN (.tup ds) (.tup []) μ q = q (.bl ds.isEmpty) μ := rfl
theorem pNeN_t {ds : List D} {μ : Mu} {q : EQ} : pNeN (.tup ds) (.tup []) μ q = q (.bl (!ds.isEmpty)) μ := rfl
theorem tab_val {rows : List Row} (hl : rows.length = 3) {i : Nat} {r : Row} (h : (firstRows ++ rows)[i]? = some r) : valD (tabD rows) (.inl ((i + 1 : Nat) : Int)) = some (.tup [.str r.nm, .int (r.ar : Nat), asksD r.asks]) := by
  match rows, hl with
  | [r0, r1, r2], _ =>
    have hi := lt_of_get h
    have hi : i < 9 := hi
    match i, hi, h with
    | 0, _, h => cases h; rfl
    | 1, _, h => cases h; rfl
    | 2, _, h => cases h; rfl
    | 3, _, h => cases h; rfl
    | 4, _, h => cases h; rfl
    | 5, _, h => cases h; rfl
    | 6, _, h => cases h; rfl
    | 7, _, h => cases h; rfl
    | 8, _, h => cases h; rfl
theorem tab_s {rows : List Row} (hl : rows.length = 3) {s : Nat} {r : Row} (h0 : 0 < s) (h : (firstRows ++ rows)[s - 1]? = some r) : valD (tabD rows) (.inl (s : Int)) = some (.tup [.str r.nm, .int (r.ar : Nat), asksD r.asks]) := by
  have := tab_val hl h
  rwa [show ((s - 1 + 1 : Nat) : Int) = (s : Int) by omega] at this
theorem ce : (("" : Str)) = Str.empty := by decide +kernel
section
variable {P : Program} {w : World} {K : PySem.W.Frag} {mg : Str → Option Value} {base : Heap}
abbrev s__law_letter : Stmt := top 69
theorem sc__law_letter : FnScope ["_law_number", "_law_marked_in", "_law_tail"] ["_law_number", "_law_marked_in"] (defScope s__law_letter) := ⟨rfl, rfl, rfl, by decide +kernel, rfl, by decide +kernel, by decide +kernel⟩
theorem ok_letter (A : At K mg "_law_letter" s__law_letter ["_law_number", "_law_marked_in"]) (B : Bi mg) : Has P w K mg base "_law_letter" ["_law_number", "_law_marked_in"] 1 spVarT := by
  refine .mk A fun f fd F => ?_
  refine qfn F sc__law_letter (by decide) ?len (fun cdv A outer s H E hr => (qss_cons (qs_set (i := 2) sc__law_letter.nd rfl (Or.inl rfl) (qe_ifExp (qt_cmp qop_lt (qv 0) qe_int (nomark _)) qe_str (qe_callTy qc_str (by rfl) B.str (by decide +kernel) (qa_cons (qe_op qop_fdiv (qv 0) qe_int) qa_nil))))
  (qss_one (qs_ret (qe_op qop_add (qe_op qop_add (qe_ifExp (qt_cmp (qop_in (hu_of hr)) (qv 0) (qv 1) rfl) qe_str qe_str) (qe_ix (qix (hu_of hr)) qe_str (qe_op qop_mod (qv 0) qe_int))) (qv 2)))))) ?body
  case len => rintro ds μ q ⟨_, _, rfl, _⟩; rfl
  case body =>
    rintro ds μ q ⟨n, ms, rfl, hn, h⟩
    have e1 : ((n : Int)).fmod 26 = ((n % 26 : Nat) : Int) := fmod26 n
    have e2 : ((n : Int)).fdiv 26 = ((n / 26 : Nat) : Int) := fdiv26 n
    have hLL : ("abcdefghijklmnopqrstuvwxyz" : Str) = LOWL := rfl
    have l0 : Str.empty.length = 0 := rfl
    have ea : atI LOWL.cps.toList ((n % 26 : Nat) : Int) = some (97 + n % 26) := atI_nat (low_at _ (Nat.mod_lt _ (by decide)))
    have h0 : ((26 : Nat) : Int) ≠ 0 := by decide
    have hL : LOWL.length ≤ sizeLine := by decide +kernel
    have ld : ("''" : Str).length = 2 := by decide +kernel
    have ls : ("'" : Str).length = 1 := by decide +kernel
    have l1 : ∀ c : Nat, (⟨#[c]⟩ : Str).length = 1 := fun _ => rfl
    have hdl := digs_len (n / 26) (by omega)
    have hlog : (((n / 26 : Nat) : Int)).natAbs.log2 < 1920 := Nat.lt_of_le_of_lt (Nat.log2_le_self _) (by omega)
    unfold varT tailT at h
    by_cases m : n ∈ ms <;> by_cases g : 0 < n / 26
    all_goals
      have gi : ((n : Int) < 26) = ¬ (0 < n / 26) := by simp; omega
      simp only [natsD, m, gi, g, PW, Nat.reduceAdd, String.reduceEq, decide_true, decide_false, ite_true, ite_false, Bool.false_eq_true, if_true, if_false, true_and, and_true, Bool.not_true, Bool.not_false, List.length_cons, List.length_nil, reduceCtorEq, flat_nats, inD_nats, ce, Str.append_empty, not_true_eq_false, not_false_eq_true, e1, e2, hLL, ea] at h ⊢
      first
        | exact ⟨by decide, hL, line20 (by rw [l1]; omega), line20 (by rw [strLen_append, l1, l0]; omega), end_of h⟩
        | exact ⟨⟨by decide, by decide⟩, hlog, by decide, hL, line20 (by rw [l1]; omega), line20 (by rw [strLen_append, l1]; omega), end_of h⟩
def spLTx (r N : Nat) : Spc := fun ds μ q => ∃ (t : Addr) (rows : List Row) (T : Ty) (ms : List Nat), ds = [.ref t, T.d, natsD ms] ∧ μ t = some (.dk (tabD rows)) ∧ rows.length = 3 ∧ GTy ((firstRows ++ rows).map Row.ar) T ∧ DepLe N T ∧ (∀ row ∈ firstRows ++ rows, row.nm.length ≤ 10) ∧ q (.str (T.tx (nmR (firstRows ++ rows)) ms r)) μ
abbrev s__law_closed : Stmt := top 70
theorem sc__law_closed : FnScope ["_law_table_here", "_law_kt", "_law_marked_in", "_law_text_here"] ["_law_table_here", "_law_kt", "_law_marked_in"] (defScope s__law_closed) := ⟨rfl, rfl, rfl, by decide +kernel, rfl, by decide +kernel, by decide +kernel⟩
theorem ok_closed {N : Nat} (A : At K mg "_law_closed" s__law_closed ["_law_table_here", "_law_kt", "_law_marked_in"]) (B : Bi mg) (D__law_text : Has P w K mg base "_law_text" ["_law_table_here", "_law_kt", "_law_marked_in"] (2 * N + 2) (spLTx 0 N)) : Has P w K mg base "_law_closed" ["_law_table_here", "_law_kt", "_law_marked_in"] (2 * N + 3) (spLTx 2 N) := by
  refine .mk A fun f fd F => ?_
  refine qfn F sc__law_closed (by decide) ?len (fun cdv A outer s H E hr => (qss_cons (qs_set (i := 3) sc__law_closed.nd rfl (Or.inl rfl) (qe_call D__law_text (hr.mono (by omega)) (qa_cons (qv 0) (qa_cons (qv 1) (qa_cons (qv 2) qa_nil)))))
  (qss_one (qs_ret (qe_ifExp (QW.qt (qw_or (qt_cmp (qop_eq hr.units) (qe_ix (qix (hu_of hr)) (qv 1) qe_int) qe_str (nomark _)) (qw_or1 (QW.qt (qw_and (qt_cmp (qop_eq hr.units) (qe_ix (qix (hu_of hr)) (qv 1) qe_int) qe_str (nomark _)) (qw_and1 (qt_cmp (qop_neNil hr.units) (qe_ix (qix (hu_of hr)) (qv 1) qe_int) (qe_tup qa_nil) (nomark _)))))))) (qe_op qop_add (qe_op qop_add qe_str (qv 3)) qe_str) (qv 3)))))) ?body
  case len => rintro ds μ q ⟨_, _, _, _, rfl, _⟩; rfl
  case body =>
    rintro ds μ q ⟨t, rows, T, ms, rfl, ht, hrl, hT, hd, hz, h⟩
    have hlen := tx_len' (ms := ms) (nm_short hz) hT 0
    have e2 := tx_2 (nmR (firstRows ++ rows)) ms T fun e => loc_fn hT.loc e
    have lp : ("(" : Str).length = 1 := by decide +kernel
    have rp : (")" : Str).length = 1 := by decide +kernel
    simp only [PW, Nat.reduceAdd, String.reduceEq, decide_true, decide_false, ite_true, ite_false, Bool.false_eq_true, if_true, if_false, true_and, and_true, Bool.not_true, Bool.not_false, List.length_cons, List.length_nil, reduceCtorEq]
    refine ⟨t, rows, T, ms, rfl, ht, hrl, hT, hd, hz, ?_⟩
    rw [e2] at h
    simp only [PW, Nat.reduceAdd, String.reduceEq, decide_true, decide_false, ite_true, ite_false, Bool.false_eq_true, if_true, if_false, true_and, and_true, Bool.not_true, Bool.not_false, List.length_cons, List.length_nil, reduceCtorEq, pIx_w]
    cases e : T.lab with
    | var n =>
      have hp : parOf T = false := by unfold parOf; rw [e]; rfl
      rw [hp] at h
      simp only [e, Lab.w, PW, Nat.reduceAdd, String.reduceEq, decide_true, decide_false, ite_true, ite_false, Bool.false_eq_true, if_true, if_false, true_and, and_true, Bool.not_true, Bool.not_false, List.length_cons, List.length_nil, reduceCtorEq]
      exact end_of h
    | fn =>
      have hp : parOf T = true := by unfold parOf; rw [e]; rfl
      rw [hp] at h
      simp only [e, Lab.w, PW, Nat.reduceAdd, String.reduceEq, decide_true, decide_false, ite_true, ite_false, Bool.false_eq_true, if_true, if_false, true_and, and_true, Bool.not_true, Bool.not_false, List.length_cons, List.length_nil, reduceCtorEq]
      exact ⟨len36 (by omega), len36 (by rw [strLen_append]; omega), end_of h⟩
    | tup =>
      have ed : T.d = .tup [.str "tuple", tysD T.kids] := by rw [d_eta, e]; rfl
      have hp : parOf T = !T.kids.isEmpty := by unfold parOf; rw [e]; rfl
      rw [hp] at h
      simp only [e, Lab.w, ed, tysD, PW, Nat.reduceAdd, String.reduceEq, decide_true, decide_false, ite_true, ite_false, Bool.false_eq_true, if_true, if_false, true_and, and_true, Bool.not_true, Bool.not_false, List.length_cons, List.length_nil, reduceCtorEq, pNeN_t, List.isEmpty_map]
      cases ek : T.kids.isEmpty with
      | true =>
        rw [ek] at h
        simp only [PW, Nat.reduceAdd, String.reduceEq, decide_true, decide_false, ite_true, ite_false, Bool.false_eq_true, if_true, if_false, true_and, and_true, Bool.not_true, Bool.not_false, List.length_cons, List.length_nil, reduceCtorEq]
        exact end_of h
      | false =>
        rw [ek] at h
        simp only [PW, Nat.reduceAdd, String.reduceEq, decide_true, decide_false, ite_true, ite_false, Bool.false_eq_true, if_true, if_false, true_and, and_true, Bool.not_true, Bool.not_false, List.length_cons, List.length_nil, reduceCtorEq]
        exact ⟨len36 (by omega), len36 (by rw [strLen_append]; omega), end_of h⟩
    | made s =>
      have hp : parOf T = false := by unfold parOf; rw [e]; rfl
      rw [hp] at h
      simp only [e, Lab.w, PW, Nat.reduceAdd, String.reduceEq, decide_true, decide_false, ite_true, ite_false, Bool.false_eq_true, if_true, if_false, true_and, and_true, Bool.not_true, Bool.not_false, List.length_cons, List.length_nil, reduceCtorEq]
      exact end_of h
abbrev s__law_text : Stmt := top 71
theorem sc__law_text : FnScope ["_law_table_here", "_law_kt", "_law_marked_in", "_law_ahead", "_law_one", "_law_name", "_law_types"] ["_law_table_here", "_law_kt", "_law_marked_in"] (defScope s__law_text) := ⟨rfl, rfl, rfl, by decide +kernel, rfl, by decide +kernel, by decide +kernel⟩
theorem text_step {N : Nat} (A : At K mg "_law_text" s__law_text ["_law_table_here", "_law_kt", "_law_marked_in"]) (B : Bi mg) (D__law_letter : Has P w K mg base "_law_letter" ["_law_number", "_law_marked_in"] 1 spVarT) (D__law_closed : Has P w K mg base "_law_closed" ["_law_table_here", "_law_kt", "_law_marked_in"] (2 * N + 3) (spLTx 2 N)) (D__law_text : Has P w K mg base "_law_text" ["_law_table_here", "_law_kt", "_law_marked_in"] (2 * N + 2) (spLTx 0 N)) : Has P w K mg base "_law_text" ["_law_table_here", "_law_kt", "_law_marked_in"] (2 * N + 4) (spLTx 0 (N + 1)) := by
  refine .mk A fun f fd F => ?_
  refine qfn F sc__law_text (by decide) ?len (fun cdv A outer s H E hr => (qss_cons (qs_if (qt_cmp (qop_eq hr.units) (qe_ix (qix (hu_of hr)) (qv 1) qe_int) qe_str (nomark _)) (qss_one (qs_ret (qe_call D__law_letter (hr.mono (by omega)) (qa_cons (qe_ix (qix (hu_of hr)) (qv 1) qe_int) (qa_cons (qv 2) qa_nil))))) qss_nil)
  (qss_cons (qs_if (qt_cmp (qop_eq hr.units) (qe_ix (qix (hu_of hr)) (qv 1) qe_int) qe_str (nomark _)) (qss_cons (qs_set (i := 3) sc__law_text.nd rfl (Or.inl rfl) (qe_ifExp (qt_cmp (qop_eq hr.units) (qe_ix (qix (hu_of hr)) (qe_ix (qix (hu_of hr)) (qv 1) qe_int) qe_int) qe_str (nomark _)) (qe_call D__law_closed (hr.mono (by omega)) (qa_cons (qv 0) (qa_cons (qe_ix (qix (hu_of hr)) (qv 1) qe_int) (qa_cons (qv 2) qa_nil)))) (qe_call D__law_text (hr.mono (by omega)) (qa_cons (qv 0) (qa_cons (qe_ix (qix (hu_of hr)) (qv 1) qe_int) (qa_cons (qv 2) qa_nil))))))
  (qss_one (qs_ret (qe_op qop_add (qe_op qop_add (qv 3) qe_str) (qe_call D__law_text (hr.mono (by omega)) (qa_cons (qv 0) (qa_cons (qe_ix (qix (hu_of hr)) (qv 1) qe_int) (qa_cons (qv 2) qa_nil)))))))) qss_nil)
  (qss_cons (qs_if (qt_cmp (qop_eq hr.units) (qe_ix (qix (hu_of hr)) (qv 1) qe_int) qe_str (nomark _)) (qss_one (qs_ret (qe_ifExp (qt_cmp (qop_neNil hr.units) (qe_ix (qix (hu_of hr)) (qv 1) qe_int) (qe_tup qa_nil) (nomark _)) (qe_join qe_str (qe_lc (own := [("_law_one", 4)]) rfl sc__law_text.nd (qi_seq (qe_ix (qix (hu_of hr)) (qv 1) qe_int)) (blkOk_by (N := ["_law_table_here", "_law_kt", "_law_marked_in", "_law_ahead", "_law_one", "_law_name", "_law_types"]) (sc := defScope s__law_text) (by decide +kernel)) (fun _ _ _ _ _ => (qgw_name (i := 4) sc__law_text.nd rfl (Or.inl rfl))) (fun _ _ _ _ _ => qts_nil) (fun _ _ _ _ _ => (qe_call D__law_closed (hr.mono (by omega)) (qa_cons (qv 0) (qa_cons (qv 4) (qa_cons (qv 2) qa_nil))))))) qe_str))) qss_nil)
  (qss_cons (qs_par (i := 5) (j := 6) rfl sc__law_text.nd rfl rfl (by decide) rfl rfl (qa_cons (qe_ix (qix (hu_of hr)) (qe_ix (qix (hu_of hr)) (qv 0) (qe_ix (qix (hu_of hr)) (qv 1) qe_int)) qe_int) (qa_cons (qe_ix (qix (hu_of hr)) (qv 1) qe_int) qa_nil)) rfl)
  (qss_cons (qs_if (qt_cmp (qop_eqNil (hu_of hr)) (qv 6) (qe_tup qa_nil) (nomark _)) (qss_one (qs_ret (qv 5))) qss_nil)
  (qss_cons (qs_if (qt_cmp (qop_eq hr.units) (qe_callB qc_len (by rfl) B.len (by decide +kernel) (qa_cons (qv 6) qa_nil)) qe_int (nomark _)) (qss_one (qs_ret (qe_op qop_add (qe_op qop_add (qe_call D__law_closed (hr.mono (by omega)) (qa_cons (qv 0) (qa_cons (qe_ix (qix (hu_of hr)) (qv 6) qe_int) (qa_cons (qv 2) qa_nil)))) qe_str) (qv 5)))) qss_nil)
  (qss_one (qs_ret (qe_op qop_add (qe_op qop_add (qe_op qop_add qe_str (qe_join qe_str (qe_lc (own := [("_law_one", 4)]) rfl sc__law_text.nd (qi_seq (qv 6)) (blkOk_by (N := ["_law_table_here", "_law_kt", "_law_marked_in", "_law_ahead", "_law_one", "_law_name", "_law_types"]) (sc := defScope s__law_text) (by decide +kernel)) (fun _ _ _ _ _ => (qgw_name (i := 4) sc__law_text.nd rfl (Or.inl rfl))) (fun _ _ _ _ _ => qts_nil) (fun _ _ _ _ _ => (qe_call D__law_text (hr.mono (by omega)) (qa_cons (qv 0) (qa_cons (qv 4) (qa_cons (qv 2) qa_nil)))))))) qe_str) (qv 5))))))))))) ?body
  case len => rintro ds μ q ⟨_, _, _, _, rfl, _⟩; rfl
  case body =>
    rintro ds μ q ⟨t, rows, T, ms, rfl, ht, hrl, hT, hd, hz, h⟩
    have hkid : ∀ u ∈ T.kids, GTy ((firstRows ++ rows).map Row.ar) u := fun u hu => hT.kid' hu
    have hdk : ∀ u ∈ T.kids, DepLe N u := hd
    have hks := len_szs T.kids
    have hsz := T.sz_eq
    have hs3 := hT.2
    have hloc := hT.loc
    have L : ∀ u ∈ T.kids, ∀ r, (u.tx (nmR (firstRows ++ rows)) ms r).length ≤ 36000 := fun u hu r => tx_len' (nm_short hz) (hkid u hu) r
    have es : ∀ r, strsOf (T.kids.map fun u => D.str (u.tx (nmR (firstRows ++ rows)) ms r)) = some (T.kids.map fun u => u.tx (nmR (firstRows ++ rows)) ms r) := fun r => by
      rw [show (T.kids.map fun u => D.str (u.tx (nmR (firstRows ++ rows)) ms r)) = (T.kids.map fun u => u.tx (nmR (firstRows ++ rows)) ms r).map D.str by rw [List.map_map]; rfl]
      exact strsOf_map
    have hsum : ∀ r, ((T.kids.map fun u => u.tx (nmR (firstRows ++ rows)) ms r).map (·.length)).sum ≤ 36000 * T.kids.length := fun r => by
      have := sum_le 36000 (T.kids.map fun u => u.tx (nmR (firstRows ++ rows)) ms r) fun z hz => by
        obtain ⟨u, hu, rfl⟩ := List.mem_map.mp hz
        exact L u hu r
      rwa [List.length_map] at this
    simp only [PW, Nat.reduceAdd, String.reduceEq, decide_true, decide_false, ite_true, ite_false, Bool.false_eq_true, if_true, if_false, true_and, and_true, Bool.not_true, Bool.not_false, List.length_cons, List.length_nil, reduceCtorEq, pIx_w]
    cases e : T.lab with
    | var n =>
      rw [tx_eq, e] at h
      simp only [e, Lab.w, PW, Nat.reduceAdd, String.reduceEq, decide_true, decide_false, ite_true, ite_false, Bool.false_eq_true, if_true, if_false, true_and, and_true, Bool.not_true, Bool.not_false, List.length_cons, List.length_nil, reduceCtorEq, pIx_v e]
      exact ⟨n, ms, rfl, hT.num (by rw [e]; rfl), end_of h⟩
    | fn =>
      have hk : T.kids.length = 2 := loc_fn hT.loc e
      match ek : T.kids, hk with
      | [x, y], _ =>
        have ed : T.d = .tup [.str "fn", x.d, y.d] := by rw [d_eta, e, ek]; rfl
        have ew : Lab.fn.w = "fn" := rfl
        have et : T.tx (nmR (firstRows ++ rows)) ms 0 = x.tx (nmR (firstRows ++ rows)) ms 1 ++ " -> " ++ y.tx (nmR (firstRows ++ rows)) ms 0 := by rw [tx_eq, e, ek, txs_cons, txs_cons, txs_nil]; rfl
        have hx : x ∈ T.kids := by rw [ek]; exact List.mem_cons_self
        have hy : y ∈ T.kids := by rw [ek]; exact List.mem_cons_of_mem _ List.mem_cons_self
        have ex : decide (x.lab.w = "fn") = x.lab.isFn := by cases x.lab <;> simp only [Lab.w, Lab.isFn, PW, Nat.reduceAdd, String.reduceEq, decide_true, decide_false, ite_true, ite_false, Bool.false_eq_true, if_true, if_false, true_and, and_true, Bool.not_true, Bool.not_false, List.length_cons, List.length_nil, reduceCtorEq]
        have e1 := tx_1 (nmR (firstRows ++ rows)) ms x fun e => loc_fn (hkid x hx).loc e
        have l4 : (" -> " : Str).length = 4 := by decide +kernel
        have ly := L y hy 0
        rw [et, e1] at h
        simp only [ew, ed, PW, Nat.reduceAdd, String.reduceEq, decide_true, decide_false, ite_true, ite_false, Bool.false_eq_true, if_true, if_false, true_and, and_true, Bool.not_true, Bool.not_false, List.length_cons, List.length_nil, reduceCtorEq, pIx_w, ex]
        cases hf : x.lab.isFn with
        | true =>
          have lx := L x hx 2
          rw [hf] at h
          simp only [PW, Nat.reduceAdd, String.reduceEq, decide_true, decide_false, ite_true, ite_false, Bool.false_eq_true, if_true, if_false, true_and, and_true, Bool.not_true, Bool.not_false, List.length_cons, List.length_nil, reduceCtorEq] at h ⊢
          refine ⟨t, rows, x, ms, rfl, ht, hrl, hkid x hx, hdk x hx, hz, ?_⟩
          simp only [PW, Nat.reduceAdd, String.reduceEq, decide_true, decide_false, ite_true, ite_false, Bool.false_eq_true, if_true, if_false, true_and, and_true, Bool.not_true, Bool.not_false, List.length_cons, List.length_nil, reduceCtorEq]
          refine ⟨len36 (by omega), t, rows, y, ms, rfl, ht, hrl, hkid y hy, hdk y hy, hz, ?_⟩
          simp only [PW, Nat.reduceAdd, String.reduceEq, decide_true, decide_false, ite_true, ite_false, Bool.false_eq_true, if_true, if_false, true_and, and_true, Bool.not_true, Bool.not_false, List.length_cons, List.length_nil, reduceCtorEq]
          exact ⟨len36 (by rw [strLen_append]; omega), end_of h⟩
        | false =>
          have lx := L x hx 0
          rw [hf] at h
          simp only [PW, Nat.reduceAdd, String.reduceEq, decide_true, decide_false, ite_true, ite_false, Bool.false_eq_true, if_true, if_false, true_and, and_true, Bool.not_true, Bool.not_false, List.length_cons, List.length_nil, reduceCtorEq] at h ⊢
          refine ⟨t, rows, x, ms, rfl, ht, hrl, hkid x hx, hdk x hx, hz, ?_⟩
          simp only [PW, Nat.reduceAdd, String.reduceEq, decide_true, decide_false, ite_true, ite_false, Bool.false_eq_true, if_true, if_false, true_and, and_true, Bool.not_true, Bool.not_false, List.length_cons, List.length_nil, reduceCtorEq]
          refine ⟨len36 (by omega), t, rows, y, ms, rfl, ht, hrl, hkid y hy, hdk y hy, hz, ?_⟩
          simp only [PW, Nat.reduceAdd, String.reduceEq, decide_true, decide_false, ite_true, ite_false, Bool.false_eq_true, if_true, if_false, true_and, and_true, Bool.not_true, Bool.not_false, List.length_cons, List.length_nil, reduceCtorEq]
          exact ⟨len36 (by rw [strLen_append]; omega), end_of h⟩
    | tup =>
      have ed : T.d = .tup [.str "tuple", tysD T.kids] := by rw [d_eta, e]; rfl
      simp only [e, Lab.w, ed, tysD, PW, Nat.reduceAdd, String.reduceEq, decide_true, decide_false, ite_true, ite_false, Bool.false_eq_true, if_true, if_false, true_and, and_true, Bool.not_true, Bool.not_false, List.length_cons, List.length_nil, reduceCtorEq, pNeN_t, List.isEmpty_map, List.length_map]
      cases ek : T.kids.isEmpty with
      | true =>
        rw [tx_eq, e, List.isEmpty_iff.mp ek, txs_nil] at h
        simp only [PW, Nat.reduceAdd, String.reduceEq, decide_true, decide_false, ite_true, ite_false, Bool.false_eq_true, if_true, if_false, true_and, and_true, Bool.not_true, Bool.not_false, List.length_cons, List.length_nil, reduceCtorEq]
        exact end_of h
      | false =>
        have et : T.tx (nmR (firstRows ++ rows)) ms 0 = Str.join " * " (T.kids.map fun u => u.tx (nmR (firstRows ++ rows)) ms 2) := by
          rw [tx_eq, e, ← txs_c]
          cases ek2 : T.kids with
          | nil => rw [ek2] at ek; cases ek
          | cons a b => rw [txs_cons]; rfl
        have h3 : (" * " : Str).length = 3 := by decide +kernel
        have hs2 := hsum 2
        simp only [PW, Nat.reduceAdd, String.reduceEq, decide_true, decide_false, ite_true, ite_false, Bool.false_eq_true, if_true, if_false, true_and, and_true, Bool.not_true, Bool.not_false, List.length_cons, List.length_nil, reduceCtorEq]
        refine ⟨sl1000 (by omega), lc_mapf Ty.d (fun u => .str (u.tx (nmR (firstRows ++ rows)) ms 2)) True.intro (fun u hu ky kn k => ?_) fun p hp => ?_⟩
        · simp only [lcStep, PW, Nat.reduceAdd, String.reduceEq, decide_true, decide_false, ite_true, ite_false, Bool.false_eq_true, if_true, if_false, true_and, and_true, Bool.not_true, Bool.not_false, List.length_cons, List.length_nil, reduceCtorEq]
          exact ⟨t, rows, u, ms, rfl, ht, hrl, hkid u hu, hdk u hu, hz, k⟩
        · simp only [es, PW, Nat.reduceAdd, String.reduceEq, decide_true, decide_false, ite_true, ite_false, Bool.false_eq_true, if_true, if_false, true_and, and_true, Bool.not_true, Bool.not_false, List.length_cons, List.length_nil, reduceCtorEq, List.length_map, txt_join]
          rw [← et]
          exact ⟨by rw [h3]; omega, _, .put hp, h⟩
    | made s =>
      have ed : T.d = .tup [.str "made", .int (s : Int), tysD T.kids] := by rw [d_eta, e]; rfl
      rw [e] at hloc
      obtain ⟨h0, hB, har⟩ := hloc
      rw [List.getElem?_map] at har
      obtain ⟨row, hrow, har⟩ := Option.map_eq_some_iff.mp har
      have hnm : nmR (firstRows ++ rows) s = row.nm := by unfold nmR; rw [hrow]
      have hv := tab_s hrl h0 hrow
      have hzr := hz row (List.mem_of_getElem? hrow)
      have lb : (" " : Str).length = 1 := by decide +kernel
      have lp : ("(" : Str).length = 1 := by decide +kernel
      have lr : (") " : Str).length = 2 := by decide +kernel
      have lc : (", " : Str).length = 2 := by decide +kernel
      simp only [e, Lab.w, ed, tysD, PW, Nat.reduceAdd, String.reduceEq, decide_true, decide_false, ite_true, ite_false, Bool.false_eq_true, if_true, if_false, true_and, and_true, Bool.not_true, Bool.not_false, List.length_cons, List.length_nil, reduceCtorEq, pEqN_t, pIx_dk (rdk_of ht), hv, List.isEmpty_map, List.length_map]
      have hlen := tx_len' (ms := ms) (nm_short hz) hT 0
      match ek : T.kids with
      | [] =>
        rw [tx_eq, e, ek, txs_nil] at h
        have h : q (.str (nmR (firstRows ++ rows) s)) μ := h
        rw [hnm] at h
        simp only [List.isEmpty_nil, PW, Nat.reduceAdd, String.reduceEq, decide_true, decide_false, ite_true, ite_false, Bool.false_eq_true, if_true, if_false, true_and, and_true, Bool.not_true, Bool.not_false, List.length_cons, List.length_nil, reduceCtorEq]
        exact end_of h
      | [x] =>
        have hx : x ∈ T.kids := by rw [ek]; exact List.mem_cons_self
        have lx := L x hx 2
        rw [tx_eq, e, ek, txs_cons, txs_nil] at h
        have h : q (.str (x.tx (nmR (firstRows ++ rows)) ms 2 ++ " " ++ nmR (firstRows ++ rows) s)) μ := h
        rw [hnm] at h
        simp only [List.isEmpty_cons, c11, PW, Nat.reduceAdd, String.reduceEq, decide_true, decide_false, ite_true, ite_false, Bool.false_eq_true, if_true, if_false, true_and, and_true, Bool.not_true, Bool.not_false, List.length_cons, List.length_nil, reduceCtorEq, List.map_cons, List.map_nil]
        refine ⟨t, rows, x, ms, rfl, ht, hrl, hkid x hx, hdk x hx, hz, ?_⟩
        simp only [PW, Nat.reduceAdd, String.reduceEq, decide_true, decide_false, ite_true, ite_false, Bool.false_eq_true, if_true, if_false, true_and, and_true, Bool.not_true, Bool.not_false, List.length_cons, List.length_nil, reduceCtorEq]
        exact ⟨len36 (by omega), len36 (by rw [strLen_append]; omega), end_of h⟩
      | x :: y :: us =>
        have et : T.tx (nmR (firstRows ++ rows)) ms 0 = "(" ++ Str.join ", " (T.kids.map fun u => u.tx (nmR (firstRows ++ rows)) ms 0) ++ ") " ++ nmR (firstRows ++ rows) s := by
          rw [tx_eq, e, ← txs_a, ek, txs_cons, txs_cons]
          rfl
        rw [← ek]
        rw [et] at h
        rw [et, strLen_append, strLen_append, strLen_append] at hlen
        rw [hnm] at h hlen
        have hs0 := hsum 0
        have hem : T.kids.isEmpty = false := by rw [ek]; rfl
        have hl1 : (((T.kids.length : Nat) : Int) = 1) = False := by rw [ek]; exact c21 _
        simp only [hem, hl1, PW, Nat.reduceAdd, String.reduceEq, decide_true, decide_false, ite_true, ite_false, Bool.false_eq_true, if_true, if_false, true_and, and_true, Bool.not_true, Bool.not_false, List.length_cons, List.length_nil, reduceCtorEq]
        refine ⟨sl1000 (by omega), lc_mapf Ty.d (fun u => .str (u.tx (nmR (firstRows ++ rows)) ms 0)) True.intro (fun u hu ky kn k => ?_) fun p hp => ?_⟩
        · simp only [lcStep, PW, Nat.reduceAdd, String.reduceEq, decide_true, decide_false, ite_true, ite_false, Bool.false_eq_true, if_true, if_false, true_and, and_true, Bool.not_true, Bool.not_false, List.length_cons, List.length_nil, reduceCtorEq]
          exact ⟨t, rows, u, ms, rfl, ht, hrl, hkid u hu, hdk u hu, hz, k⟩
        · simp only [es, PW, Nat.reduceAdd, String.reduceEq, decide_true, decide_false, ite_true, ite_false, Bool.false_eq_true, if_true, if_false, true_and, and_true, Bool.not_true, Bool.not_false, List.length_cons, List.length_nil, reduceCtorEq, List.length_map, txt_join]
          exact ⟨by rw [lc]; omega, len36 (by omega), len36 (by rw [strLen_append]; omega), len36 (by rw [strLen_append, strLen_append]; omega), _, .put hp, h⟩
/-- both of them, one level behind the other -/
theorem ok_ltext (A : At K mg "_law_text" s__law_text ["_law_table_here", "_law_kt", "_law_marked_in"]) (B : Bi mg) (A_closed : At K mg "_law_closed" s__law_closed ["_law_table_here", "_law_kt", "_law_marked_in"]) (D__law_letter : Has P w K mg base "_law_letter" ["_law_number", "_law_marked_in"] 1 spVarT) : ∀ N : Nat, Has P w K mg base "_law_text" ["_law_table_here", "_law_kt", "_law_marked_in"] (2 * N + 2) (spLTx 0 N)
  | 0 => .off A fun ds μ q ⟨_, _, _, _, _, _, _, _, h1, _⟩ => h1
  | N + 1 => text_step A B D__law_letter (ok_closed A_closed B (ok_ltext A B A_closed D__law_letter N)) (ok_ltext A B A_closed D__law_letter N)
end
end Pl
namespace Pl
open PySem L2
section
variable {P : Program} {w : World} {K : PySem.W.Frag} {mg : Str → Option Value} {base : Heap} {C : Addr}
def spLSize (N : Nat) : Spc := fun ds μ q => ∃ T : Ty, ds = [T.d] ∧ T.Fm ∧ DepLe N T ∧ T.sz ≤ 1000 ∧ q (.int (T.sz : Nat)) μ
abbrev s__law_vars : Stmt := top 66
theorem sc__law_vars : FnScope ["_law_kt", "_law_found", "_law_one", "_law_number"] ["_law_kt"] (defScope s__law_vars) := ⟨rfl, rfl, rfl, by decide +kernel, rfl, by decide +kernel, by decide +kernel⟩
def spLVars (N : Nat) : Spc := fun ds μ q => ∃ T : Ty, ds = [T.d] ∧ T.Fm ∧ DepLe N T ∧ T.sz ≤ 1000 ∧ ∀ p, μ p = none → q (.ref p) (mset μ p (.lst (T.ord.map fun (n : Nat) => .int (n : Int))))
theorem lvars_step {N : Nat} (A : At K mg "_law_vars" s__law_vars ["_law_kt"]) (B : Bi mg) (D__law_inner : Has P w K mg base "_law_inner" ["_law_kt"] 1 spKids) (D__law_vars : Has P w K mg base "_law_vars" ["_law_kt"] (N + 2) (spLVars N)) : Has P w K mg base "_law_vars" ["_law_kt"] (N + 3) (spLVars (N + 1)) := by
  refine .mk A fun f fd F => ?_
  refine qfn F sc__law_vars (by decide) ?len (fun cdv A outer s H E hr => (qss_cons (qs_if (qt_cmp (qop_eq hr.units) (qe_ix (qix (hu_of hr)) (qv 0) qe_int) qe_str (nomark _)) (qss_one (qs_ret (qe_lst (qa_cons (qe_ix (qix (hu_of hr)) (qv 0) qe_int) qa_nil)))) qss_nil)
  (qss_cons (qs_set (i := 1) sc__law_vars.nd rfl (Or.inr rfl) (qe_lst qa_nil))
  (qss_cons (qs_for PassesOwn.never rfl (qi_seq (qe_call D__law_inner (hr.mono (by omega)) (qa_cons (qv 0) qa_nil))) (qg_name (i := 2) sc__law_vars.nd rfl (Or.inl rfl)) (qss_one (qs_set (i := 1) sc__law_vars.nd rfl (Or.inr rfl) (qe_op qop_add (qv 1) (qe_lc (own := [("_law_number", 3)]) rfl sc__law_vars.nd (qi_seq (qe_call D__law_vars (hr.mono (by omega)) (qa_cons (qv 2) qa_nil))) (blkOk_by (N := ["_law_kt", "_law_found", "_law_one", "_law_number"]) (sc := defScope s__law_vars) (by decide +kernel)) (fun _ _ _ _ _ => (qgw_name (i := 3) sc__law_vars.nd rfl (Or.inl rfl))) (fun _ _ _ _ _ => (qts_one (qt_cmp (qop_notin (hu_of hr)) (qv 3) (qv 1) rfl))) (fun _ _ _ _ _ => (qv 3)))))))
  (qss_one (qs_ret (qv 1))))))) ?body
  case len => rintro ds μ q ⟨_, rfl, _⟩; rfl
  case body =>
    rintro ds μ q ⟨T, rfl, hT, hd, hs, h⟩
    simp only [PW, Nat.reduceAdd, String.reduceEq, decide_true, decide_false, ite_true, ite_false, Bool.false_eq_true, if_true, if_false, true_and, and_true, Bool.not_true, Bool.not_false, List.length_cons, List.length_nil, reduceCtorEq, pIx_w]
    cases hn : T.lab.num with
    | some n =>
      have hlab : T.lab = .var n := by cases e : T.lab <;> rw [e] at hn <;> cases hn; rfl
      simp only [hlab, Lab.w, PW, Nat.reduceAdd, String.reduceEq, decide_true, decide_false, ite_true, ite_false, Bool.false_eq_true, if_true, if_false, true_and, and_true, Bool.not_true, Bool.not_false, List.length_cons, List.length_nil, reduceCtorEq, pIx_v hlab]
      rw [ord_var hn] at h
      exact fun p hp => end_of (h p hp)
    | none =>
      have hw : (T.lab.w = "var") = False := by
        cases e : T.lab <;> rw [e] at hn <;> first | (simp only [Lab.w, PW, Nat.reduceAdd, String.reduceEq, decide_true, decide_false, ite_true, ite_false, Bool.false_eq_true, if_true, if_false, true_and, and_true, Bool.not_true, Bool.not_false, List.length_cons, List.length_nil, reduceCtorEq]; done) | cases hn
      simp only [hw, PW, Nat.reduceAdd, String.reduceEq, decide_true, decide_false, ite_true, ite_false, Bool.false_eq_true, if_true, if_false, true_and, and_true, Bool.not_true, Bool.not_false, List.length_cons, List.length_nil, reduceCtorEq]
      intro p hp
      unfold pFor
      simp only [PW, Nat.reduceAdd, String.reduceEq, decide_true, decide_false, ite_true, ite_false, Bool.false_eq_true, if_true, if_false, true_and, and_true, Bool.not_true, Bool.not_false, List.length_cons, List.length_nil, reduceCtorEq]
      refine ⟨T, rfl, hT, ?_⟩
      simp only [PW, Nat.reduceAdd, String.reduceEq, decide_true, decide_false, ite_true, ite_false, Bool.false_eq_true, if_true, if_false, true_and, and_true, Bool.not_true, Bool.not_false, List.length_cons, List.length_nil, reduceCtorEq]
      refine ⟨fun i ss ν => ∃ (fp : Addr) (x2 x3 : Option D), ss = [some T.d, some (.ref fp), x2, x3] ∧ Mle μ ν ∧ μ fp = none ∧ ν fp = some (.lst ((Ty.ords [] (T.kids.take i)).map fun (n : Nat) => .int (n : Int))), ⟨p, none, none, rfl, .put hp, hp, mset_same⟩, fun _ _ _ _ _ => True.intro, ?_, ?_⟩
      · rintro i x ss ν hx ⟨fp, x2, x3, rfl, hle, hfp, efp⟩
        rw [List.getElem?_map] at hx
        obtain ⟨t, ht, rfl⟩ := Option.map_eq_some_iff.mp hx
        have htm := List.mem_of_getElem? ht
        have hts := kid_sz htm
        have hol := ord_len t
        have hal := ords_len (T.kids.take i) []
        have hal2 := szs_take i T.kids
        have hsz := T.sz_eq
        rw [List.length_nil] at hal
        have hnew : Ty.ords [] (T.kids.take (i + 1)) = addV (Ty.ords [] (T.kids.take i)) t.ord := by rw [take_snoc ht, ords_snoc]
        simp only [PW, Nat.reduceAdd, String.reduceEq, decide_true, decide_false, ite_true, ite_false, Bool.false_eq_true, if_true, if_false, true_and, and_true, Bool.not_true, Bool.not_false, List.length_cons, List.length_nil, reduceCtorEq]
        rw [hnew]
        generalize Ty.ords [] (T.kids.take i) = acc at *
        refine ⟨t, rfl, hT.kid htm, hd t htm, by omega, fun p1 hp1 => ?_⟩
        simp only [PW, Nat.reduceAdd, String.reduceEq, decide_true, decide_false, ite_true, ite_false, Bool.false_eq_true, if_true, if_false, true_and, and_true, Bool.not_true, Bool.not_false, List.length_cons, List.length_nil, reduceCtorEq, List.length_map]
        have hfp1 : ∀ {o : MO}, rdl (mset ν p1 o) fp = some (acc.map fun (n : Nat) => .int (n : Int)) := fun {o} => by rw [rdl_ne (ne_free efp hp1), rdl_lst efp]
        refine ⟨sl1000 (by omega), lc_filter (fun y => !inD y (acc.map fun (n : Nat) => .int (n : Int))) id rdl_same (fun y hy ky kn k1 k2 => ?_) fun p2 hp2 => ?_⟩
        · obtain ⟨n, hn, rfl⟩ := List.mem_map.mp hy
          simp only [lcStep, PW, Nat.reduceAdd, String.reduceEq, decide_true, decide_false, ite_true, ite_false, Bool.false_eq_true, if_true, if_false, true_and, and_true, Bool.not_true, Bool.not_false, List.length_cons, List.length_nil, reduceCtorEq, pIn_lst hfp1, flat_nats]
          cases e : inD (.int (n : Int)) (acc.map fun (n : Nat) => .int (n : Int)) with
          | true => exact k2 (by rw [e]; rfl)
          | false => exact k1 (by rw [e]; rfl)
        have hfp2 : ∀ {o u : MO}, wrl (mset (mset ν p1 o) p2 u) fp = some (acc.map fun (n : Nat) => .int (n : Int)) := fun {o u} => by rw [wrl_ne (ne_free (by rw [mset_ne (ne_free efp hp1)]; exact efp) hp2), wrl_ne (ne_free efp hp1), wrl_lst efp]
        simp only [hfp2, wrl_same, PW, Nat.reduceAdd, String.reduceEq, decide_true, decide_false, ite_true, ite_false, Bool.false_eq_true, if_true, if_false, true_and, and_true, Bool.not_true, Bool.not_false, List.length_cons, List.length_nil, reduceCtorEq]
        rw [filt_nats]
        refine ⟨by rw [List.length_map, List.length_map]; have := List.length_filter_le (fun n => !decide (n ∈ acc)) t.ord; exact small300 (by omega), fun p3 hp3 => ?_⟩
        have hm3 := ((hle.trans (.put hp1)).trans (.put hp2)).trans (.put (o := .lst ((acc.map fun (n : Nat) => .int (n : Int)) ++ ((t.ord.filter fun n => !decide (n ∈ acc)).map fun (n : Nat) => .int (n : Int)))) hp3)
        have hfn3 : μ p3 = none := ((hle.trans (.put hp1)).trans (.put hp2)).none hp3
        have e3 : mset (mset (mset ν p1 (.lst (t.ord.map fun (n : Nat) => .int (n : Int)))) p2 (.lst ((t.ord.filter fun n => !decide (n ∈ acc)).map fun (n : Nat) => .int (n : Int)))) p3 (.lst ((acc.map fun (n : Nat) => .int (n : Int)) ++ ((t.ord.filter fun n => !decide (n ∈ acc)).map fun (n : Nat) => .int (n : Int)))) p3 = some (.lst ((addV acc t.ord).map fun (n : Nat) => D.int (n : Int))) := by
          rw [mset_same, ← List.map_append]
          rfl
        exact ⟨p3, _, _, rfl, hm3, hfn3, e3⟩
      · rintro ss ν ⟨fp, x2, x3, rfl, hle, hfp, efp⟩
        rw [List.length_map, List.take_length] at efp
        simp only [PW, Nat.reduceAdd, String.reduceEq, decide_true, decide_false, ite_true, ite_false, Bool.false_eq_true, if_true, if_false, true_and, and_true, Bool.not_true, Bool.not_false, List.length_cons, List.length_nil, reduceCtorEq]
        rw [ord_node hn] at h
        exact ⟨_, hle.mset_of efp, h fp hfp⟩
theorem ok_lvars (A : At K mg "_law_vars" s__law_vars ["_law_kt"]) (B : Bi mg) (D__law_inner : Has P w K mg base "_law_inner" ["_law_kt"] 1 spKids) : ∀ N : Nat, Has P w K mg base "_law_vars" ["_law_kt"] (N + 2) (spLVars N)
  | 0 => .off A fun ds μ q ⟨T, _, _, h1, _⟩ => h1
  | N + 1 => lvars_step A B D__law_inner (ok_lvars A B D__law_inner N)
abbrev s__law_put : Stmt := top 67
theorem sc__law_put : FnScope ["_law_kt", "_law_types", "_law_have", "_law_inner_here", "_law_one"] ["_law_kt", "_law_types"] (defScope s__law_put) := ⟨rfl, rfl, rfl, by decide +kernel, rfl, by decide +kernel, by decide +kernel⟩
def PutBy (μ : Mu) (σ : Nat → Ty) (x : D) (ns : List Nat) : Prop := (∃ us, x = tysD us ∧ σ = sg us ∧ ∀ n ∈ ns, n < us.length) ∨ ∃ a ms, x = .ref a ∧ μ a = some (.dk (nk (fun n => (σ n).d) ms)) ∧ ∀ n ∈ ns, n ∈ ms
def spLPut (N : Nat) : Spc := fun ds μ q => ∃ (T : Ty) (σ : Nat → Ty) (x : D), ds = [T.d, x] ∧ T.Fm ∧ DepLe N T ∧ T.sz ≤ 1000 ∧ PutBy μ σ x T.vars ∧ q (T.sub σ).d μ
theorem lput_step {N : Nat} (A : At K mg "_law_put" s__law_put ["_law_kt", "_law_types"]) (B : Bi mg) (D__law_inner : Has P w K mg base "_law_inner" ["_law_kt"] 1 spKids) (D__law_put : Has P w K mg base "_law_put" ["_law_kt", "_law_types"] (N + 2) (spLPut N)) : Has P w K mg base "_law_put" ["_law_kt", "_law_types"] (N + 3) (spLPut (N + 1)) := by
  refine .mk A fun f fd F => ?_
  refine qfn F sc__law_put (by decide) ?len (fun cdv A outer s H E hr => (qss_cons (qs_if (qt_cmp (qop_eq hr.units) (qe_ix (qix (hu_of hr)) (qv 0) qe_int) qe_str (nomark _)) (qss_cons (qs_set (i := 2) sc__law_put.nd rfl (Or.inl rfl) (qe_or (qe_and (qe_callB qc_isi (by rfl) B.isinstance (by decide +kernel) (qa_cons (qv 1) (qa_cons (qe_bltn (n := "tuple") rfl B.tuple (by decide +kernel)) qa_nil))) (qe_one (qe_cmp qop_lt (qe_ix (qix (hu_of hr)) (qv 0) qe_int) (qe_callB qc_len (by rfl) B.len (by decide +kernel) (qa_cons (qv 1) qa_nil)) (nomark _)))) (qe_one (qe_and (qe_callB qc_isi (by rfl) B.isinstance (by decide +kernel) (qa_cons (qv 1) (qa_cons (qe_bltn (n := "dict") rfl B.dict (by decide +kernel)) qa_nil))) (qe_one (qe_cmp (qop_in (hu_of hr)) (qe_ix (qix (hu_of hr)) (qv 0) qe_int) (qv 1) rfl))))))
  (qss_one (qs_ret (qe_ifExp (qt_truth (qv 2)) (qe_ix (qix (hu_of hr)) (qv 1) (qe_ix (qix (hu_of hr)) (qv 0) qe_int)) (qv 0))))) qss_nil)
  (qss_cons (qs_set (i := 3) sc__law_put.nd rfl (Or.inl rfl) (qe_callTy (qc_tuple rfl) (by rfl) B.tuple (by decide +kernel) (qa_cons (qe_lc (own := [("_law_one", 4)]) rfl sc__law_put.nd (qi_seq (qe_call D__law_inner (hr.mono (by omega)) (qa_cons (qv 0) qa_nil))) (blkOk_by (N := ["_law_kt", "_law_types", "_law_have", "_law_inner_here", "_law_one"]) (sc := defScope s__law_put) (by decide +kernel)) (fun _ _ _ _ _ => (qgw_name (i := 4) sc__law_put.nd rfl (Or.inl rfl))) (fun _ _ _ _ _ => qts_nil) (fun _ _ _ _ _ => (qe_call D__law_put (hr.mono (by omega)) (qa_cons (qv 4) (qa_cons (qv 1) qa_nil))))) qa_nil)))
  (qss_one (qs_ret (qe_ifExp (qt_cmp (qop_eq hr.units) (qe_ix (qix (hu_of hr)) (qv 0) qe_int) qe_str (nomark _)) (qe_op qop_add (qe_tup (qa_cons qe_str qa_nil)) (qv 3)) (qe_op qop_add (qe_slice (qv 0) qo_none (qo_some (qe_neg qe_int))) (qe_tup (qa_cons (qv 3) qa_nil))))))))) ?body
  case len => rintro ds μ q ⟨_, _, _, rfl, _⟩; rfl
  case body =>
    rintro ds μ q ⟨T, σ, x, rfl, hT, hd, hs, hx, h⟩
    simp only [PW, Nat.reduceAdd, String.reduceEq, decide_true, decide_false, ite_true, ite_false, Bool.false_eq_true, if_true, if_false, true_and, and_true, Bool.not_true, Bool.not_false, List.length_cons, List.length_nil, reduceCtorEq, pIx_w]
    cases hn : T.lab.num with
    | some n =>
      have hlab : T.lab = .var n := by cases e : T.lab <;> rw [e] at hn <;> cases hn; rfl
      have hin := vars_self hn
      rw [sub_var σ hn] at h
      rcases hx with ⟨us, rfl, rfl, hv⟩ | ⟨a, ms, rfl, ha, hv⟩
      · have hlt := hv n hin
        have e1 : decide ((n : Int) < (us.length : Int)) = true := by rw [decide_eq_true_iff]; omega
        have e2 : atI (us.map Ty.d) (n : Int) = some (sg us n).d := atI_nat (by
          rw [List.getElem?_map]
          unfold sg
          rw [List.getElem?_eq_getElem hlt]
          rfl)
        simp only [hlab, Lab.w, PW, Nat.reduceAdd, String.reduceEq, decide_true, decide_false, ite_true, ite_false, Bool.false_eq_true, if_true, if_false, true_and, and_true, Bool.not_true, Bool.not_false, List.length_cons, List.length_nil, reduceCtorEq, pIx_v hlab, tysD, KIT, List.length_map, e1, e2]
        exact end_of h
      · have k1 : kitB "dict" "tuple" = some false := by decide +kernel
        have k2 : kitB "dict" "dict" = some true := by decide +kernel
        simp only [hlab, Lab.w, PW, Nat.reduceAdd, String.reduceEq, decide_true, decide_false, ite_true, ite_false, Bool.false_eq_true, if_true, if_false, true_and, and_true, Bool.not_true, Bool.not_false, List.length_cons, List.length_nil, reduceCtorEq, pIx_v hlab, tyName_dk ha, k1, k2, pIn_dk (rdk_of ha), pIx_dk (rdk_of ha), nk_get _ n ms (hv n hin), Option.isSome_some]
        exact end_of h
    | none =>
      have hw : (T.lab.w = "var") = False := by
        cases e : T.lab <;> rw [e] at hn <;> first | (simp only [Lab.w, PW, Nat.reduceAdd, String.reduceEq, decide_true, decide_false, ite_true, ite_false, Bool.false_eq_true, if_true, if_false, true_and, and_true, Bool.not_true, Bool.not_false, List.length_cons, List.length_nil, reduceCtorEq]; done) | cases hn
      have hkl := kids_len T
      simp only [hw, PW, Nat.reduceAdd, String.reduceEq, decide_true, decide_false, ite_true, ite_false, Bool.false_eq_true, if_true, if_false, true_and, and_true, Bool.not_true, Bool.not_false, List.length_cons, List.length_nil, reduceCtorEq]
      refine ⟨T, rfl, hT, ?_⟩
      simp only [PW, Nat.reduceAdd, String.reduceEq, decide_true, decide_false, ite_true, ite_false, Bool.false_eq_true, if_true, if_false, true_and, and_true, Bool.not_true, Bool.not_false, List.length_cons, List.length_nil, reduceCtorEq, List.length_map]
      refine ⟨sl1000 (by omega), lc_mapf Ty.d (fun t => (t.sub σ).d) True.intro (fun t ht ky kn k => ?_) fun p hp => ?_⟩
      · have := kid_sz ht
        simp only [lcStep, PW, Nat.reduceAdd, String.reduceEq, decide_true, decide_false, ite_true, ite_false, Bool.false_eq_true, if_true, if_false, true_and, and_true, Bool.not_true, Bool.not_false, List.length_cons, List.length_nil, reduceCtorEq]
        refine ⟨t, σ, x, rfl, hT.kid ht, hd t ht, by omega, ?_, k⟩
        rcases hx with ⟨us, h1, h2, h3⟩ | ⟨a, ms, h1, h2, h3⟩
        · exact .inl ⟨us, h1, h2, fun n hn => h3 n (vars_kid ht hn)⟩
        · exact .inr ⟨a, ms, h1, h2, fun n hn => h3 n (vars_kid ht hn)⟩
      have hks : T.kids.map (fun t => (t.sub σ).d) = (Ty.subs σ T.kids).map Ty.d := by
        rw [subs_map, List.map_map]
        rfl
      rw [sub_node σ hn, d_eq, ← hks] at h
      have hl := hT.loc
      rw [d_eta T]
      generalize T.kids.map Ty.d = us
      cases e : T.lab <;> rw [e] at hn h hl
      · cases hn
      · simp only [Lab.w, Lab.d, PW, Nat.reduceAdd, String.reduceEq, decide_true, decide_false, ite_true, ite_false, Bool.false_eq_true, if_true, if_false, true_and, and_true, Bool.not_true, Bool.not_false, List.length_cons, List.length_nil, reduceCtorEq, List.length_map]
        exact ⟨small300 (by omega), _, .put hp, h⟩
      · simp only [Lab.w, Lab.d, PW, Nat.reduceAdd, String.reduceEq, decide_true, decide_false, ite_true, ite_false, Bool.false_eq_true, if_true, if_false, true_and, and_true, Bool.not_true, Bool.not_false, List.length_cons, List.length_nil, reduceCtorEq, List.length_map, cutm2]
        exact ⟨_, .put hp, h⟩
      · simp only [Lab.w, Lab.d, PW, Nat.reduceAdd, String.reduceEq, decide_true, decide_false, ite_true, ite_false, Bool.false_eq_true, if_true, if_false, true_and, and_true, Bool.not_true, Bool.not_false, List.length_cons, List.length_nil, reduceCtorEq, List.length_map, cutm3]
        exact ⟨_, .put hp, h⟩
theorem ok_lput (A : At K mg "_law_put" s__law_put ["_law_kt", "_law_types"]) (B : Bi mg) (D__law_inner : Has P w K mg base "_law_inner" ["_law_kt"] 1 spKids) : ∀ N : Nat, Has P w K mg base "_law_put" ["_law_kt", "_law_types"] (N + 2) (spLPut N)
  | 0 => .off A fun ds μ q ⟨T, _, _, _, _, h1, _⟩ => h1
  | N + 1 => lput_step A B D__law_inner (ok_lput A B D__law_inner N)
abbrev s__law_numbered : Stmt := top 68
theorem sc__law_numbered : FnScope ["_law_types", "_law_order", "_law_kt", "_law_number", "_law_names", "_law_at"] ["_law_types"] (defScope s__law_numbered) := ⟨rfl, rfl, rfl, by decide +kernel, rfl, by decide +kernel, by decide +kernel⟩
def spLNum (N : Nat) : Spc := fun ds μ q => ∃ T : Ty, ds = [.tup [T.d]] ∧ T.Fm ∧ DepLe N T ∧ T.sz ≤ 1000 ∧ q (.tup [(ren T).d]) μ
theorem ok_lnum {N : Nat} (A : At K mg "_law_numbered" s__law_numbered ["_law_types"]) (B : Bi mg) (D__law_vars : Has P w K mg base "_law_vars" ["_law_kt"] (N + 2) (spLVars N)) (D__law_put : Has P w K mg base "_law_put" ["_law_kt", "_law_types"] (N + 2) (spLPut N)) : Has P w K mg base "_law_numbered" ["_law_types"] (N + 3) (spLNum N) := by
  refine .mk A fun f fd F => ?_
  refine qfn F sc__law_numbered (by decide) ?len (fun cdv A outer s H E hr => (qss_cons (qs_set (i := 1) sc__law_numbered.nd rfl (Or.inr rfl) (qe_lst qa_nil))
  (qss_cons (qs_for PassesOwn.never rfl (qi_seq (qv 0)) (qg_name (i := 2) sc__law_numbered.nd rfl (Or.inl rfl)) (qss_one (qs_set (i := 1) sc__law_numbered.nd rfl (Or.inr rfl) (qe_op qop_add (qv 1) (qe_lc (own := [("_law_number", 3)]) rfl sc__law_numbered.nd (qi_seq (qe_call D__law_vars (hr.mono (by omega)) (qa_cons (qv 2) qa_nil))) (blkOk_by (N := ["_law_types", "_law_order", "_law_kt", "_law_number", "_law_names", "_law_at"]) (sc := defScope s__law_numbered) (by decide +kernel)) (fun _ _ _ _ _ => (qgw_name (i := 3) sc__law_numbered.nd rfl (Or.inl rfl))) (fun _ _ _ _ _ => (qts_one (qt_cmp (qop_notin (hu_of hr)) (qv 3) (qv 1) rfl))) (fun _ _ _ _ _ => (qv 3)))))))
  (qss_cons (qs_set (i := 4) sc__law_numbered.nd rfl (Or.inr rfl) (qe_callTy (qc_dict rfl) (by rfl) B.dict (by decide +kernel) (qa_cons (qe_lc (own := [("_law_at", 5), ("_law_number", 3)]) rfl sc__law_numbered.nd (qi_enumL (by rfl) B.enumerate (qa_cons (qv 1) qa_nil)) (blkOk_by (N := ["_law_types", "_law_order", "_law_kt", "_law_number", "_law_names", "_law_at"]) (sc := defScope s__law_numbered) (by decide +kernel)) (fun _ _ _ _ _ => (qgw_tup (n := 2) rfl (qgws_cons (qgw_name (i := 5) sc__law_numbered.nd rfl (Or.inl rfl)) (qgws_cons (qgw_name (i := 3) sc__law_numbered.nd rfl (Or.inl rfl)) qgws_nil)))) (fun _ _ _ _ _ => qts_nil) (fun _ _ _ _ _ => (qe_tup (qa_cons (qv 3) (qa_cons (qe_tup (qa_cons qe_str (qa_cons (qv 5) qa_nil))) qa_nil))))) qa_nil)))
  (qss_one (qs_ret (qe_callTy (qc_tuple rfl) (by rfl) B.tuple (by decide +kernel) (qa_cons (qe_lc (own := [("_law_kt", 2)]) rfl sc__law_numbered.nd (qi_seq (qv 0)) (blkOk_by (N := ["_law_types", "_law_order", "_law_kt", "_law_number", "_law_names", "_law_at"]) (sc := defScope s__law_numbered) (by decide +kernel)) (fun _ _ _ _ _ => (qgw_name (i := 2) sc__law_numbered.nd rfl (Or.inl rfl))) (fun _ _ _ _ _ => qts_nil) (fun _ _ _ _ _ => (qe_call D__law_put (hr.mono (by omega)) (qa_cons (qv 2) (qa_cons (qv 4) qa_nil))))) qa_nil)))))))) ?body
  case len => rintro ds μ q ⟨_, rfl, _⟩; rfl
  case body =>
    rintro ds μ q ⟨T, rfl, hT, hd, hs, h⟩
    simp only [PW, Nat.reduceAdd, String.reduceEq, decide_true, decide_false, ite_true, ite_false, Bool.false_eq_true, if_true, if_false, true_and, and_true, Bool.not_true, Bool.not_false, List.length_cons, List.length_nil, reduceCtorEq]
    intro p hp
    unfold pFor
    simp only [PW, Nat.reduceAdd, String.reduceEq, decide_true, decide_false, ite_true, ite_false, Bool.false_eq_true, if_true, if_false, true_and, and_true, Bool.not_true, Bool.not_false, List.length_cons, List.length_nil, reduceCtorEq]
    refine ⟨fun i ss ν => ∃ (fp : Addr) (x2 x3 : Option D), ss = [some (.tup [T.d]), some (.ref fp), x2, x3, none, none] ∧ Mle μ ν ∧ μ fp = none ∧ ν fp = some (.lst ((if i = 0 then [] else T.ord).map fun (n : Nat) => .int (n : Int))), ⟨p, none, none, rfl, .put hp, hp, mset_same⟩, fun _ _ _ _ _ => True.intro, ?_, ?_⟩
    · rintro i x ss ν hx ⟨fp, x2, x3, rfl, hle, hfp, efp⟩
      match i, hx with
      | 0, hx =>
        cases hx
        have hol := ord_len T
        obtain ⟨t, rfl⟩ : ∃ t, t = T := ⟨T, rfl⟩
        obtain ⟨acc, hacc⟩ : ∃ acc : List Nat, acc = [] := ⟨_, rfl⟩
        have efp : ν fp = some (.lst (acc.map fun (n : Nat) => .int (n : Int))) := by rw [hacc]; exact efp
        have hal : acc.length = 0 := by rw [hacc]; rfl
        have hnew : addV acc t.ord = t.ord := by rw [hacc, nil_addV]
        simp only [PW, Nat.reduceAdd, String.reduceEq, decide_true, decide_false, ite_true, ite_false, Bool.false_eq_true, if_true, if_false, true_and, and_true, Bool.not_true, Bool.not_false, List.length_cons, List.length_nil, reduceCtorEq]
        refine ⟨t, rfl, hT, hd, hs, fun p1 hp1 => ?_⟩
        simp only [PW, Nat.reduceAdd, String.reduceEq, decide_true, decide_false, ite_true, ite_false, Bool.false_eq_true, if_true, if_false, true_and, and_true, Bool.not_true, Bool.not_false, List.length_cons, List.length_nil, reduceCtorEq, List.length_map]
        have hfp1 : ∀ {o : MO}, rdl (mset ν p1 o) fp = some (acc.map fun (n : Nat) => .int (n : Int)) := fun {o} => by rw [rdl_ne (ne_free efp hp1), rdl_lst efp]
        refine ⟨sl1000 (by omega), lc_filter (fun y => !inD y (acc.map fun (n : Nat) => .int (n : Int))) id rdl_same (fun y hy ky kn k1 k2 => ?_) fun p2 hp2 => ?_⟩
        · obtain ⟨n, hn, rfl⟩ := List.mem_map.mp hy
          simp only [lcStep, PW, Nat.reduceAdd, String.reduceEq, decide_true, decide_false, ite_true, ite_false, Bool.false_eq_true, if_true, if_false, true_and, and_true, Bool.not_true, Bool.not_false, List.length_cons, List.length_nil, reduceCtorEq, pIn_lst hfp1, flat_nats]
          cases e : inD (.int (n : Int)) (acc.map fun (n : Nat) => .int (n : Int)) with
          | true => exact k2 (by rw [e]; rfl)
          | false => exact k1 (by rw [e]; rfl)
        have hfp2 : ∀ {o u : MO}, wrl (mset (mset ν p1 o) p2 u) fp = some (acc.map fun (n : Nat) => .int (n : Int)) := fun {o u} => by rw [wrl_ne (ne_free (by rw [mset_ne (ne_free efp hp1)]; exact efp) hp2), wrl_ne (ne_free efp hp1), wrl_lst efp]
        simp only [hfp2, wrl_same, PW, Nat.reduceAdd, String.reduceEq, decide_true, decide_false, ite_true, ite_false, Bool.false_eq_true, if_true, if_false, true_and, and_true, Bool.not_true, Bool.not_false, List.length_cons, List.length_nil, reduceCtorEq]
        rw [filt_nats]
        refine ⟨by rw [List.length_map, List.length_map]; have := List.length_filter_le (fun n => !decide (n ∈ acc)) t.ord; exact small300 (by omega), fun p3 hp3 => ?_⟩
        have hm3 := ((hle.trans (.put hp1)).trans (.put hp2)).trans (.put (o := .lst ((acc.map fun (n : Nat) => .int (n : Int)) ++ ((t.ord.filter fun n => !decide (n ∈ acc)).map fun (n : Nat) => .int (n : Int)))) hp3)
        have hfn3 : μ p3 = none := ((hle.trans (.put hp1)).trans (.put hp2)).none hp3
        have e3 : mset (mset (mset ν p1 (.lst (t.ord.map fun (n : Nat) => .int (n : Int)))) p2 (.lst ((t.ord.filter fun n => !decide (n ∈ acc)).map fun (n : Nat) => .int (n : Int)))) p3 (.lst ((acc.map fun (n : Nat) => .int (n : Int)) ++ ((t.ord.filter fun n => !decide (n ∈ acc)).map fun (n : Nat) => .int (n : Int)))) p3 = some (.lst ((addV acc t.ord).map fun (n : Nat) => D.int (n : Int))) := by
          rw [mset_same, ← List.map_append]
          rfl
        rw [hnew] at e3
        exact ⟨p3, _, _, rfl, hm3, hfn3, e3⟩
    · rintro ss ν ⟨fp, x2, x3, rfl, hle, hfp, efp⟩
      have efp : ν fp = some (.lst (T.ord.map fun (n : Nat) => .int (n : Int))) := efp
      have hol := ord_len T
      have hnd := ord_nodup hT.leafy
      simp only [PW, Nat.reduceAdd, String.reduceEq, decide_true, decide_false, ite_true, ite_false, Bool.false_eq_true, if_true, if_false, true_and, and_true, Bool.not_true, Bool.not_false, List.length_cons, List.length_nil, reduceCtorEq]
      rw [rdl_lst efp]
      show _ ∧ _
      rw [enumD_nats hnd, List.length_map]
      refine ⟨sl1000 (by omega), lc_mapf (fun (n : Nat) => D.tup [.int (idx T.ord n : Nat), .int (n : Int)]) (fun (n : Nat) => D.tup [.int (n : Int), .tup [.str "var", .int (idx T.ord n : Nat)]]) (rdl_lst efp) (fun n hn ky kn k => ?_) fun p2 hp2 => ?_⟩
      · simp only [lcStep, PW, Nat.reduceAdd, String.reduceEq, decide_true, decide_false, ite_true, ite_false, Bool.false_eq_true, if_true, if_false, true_and, and_true, Bool.not_true, Bool.not_false, List.length_cons, List.length_nil, reduceCtorEq]
        exact k
      unfold pDictP
      simp only [PW, Nat.reduceAdd, String.reduceEq, decide_true, decide_false, ite_true, ite_false, Bool.false_eq_true, if_true, if_false, true_and, and_true, Bool.not_true, Bool.not_false, List.length_cons, List.length_nil, reduceCtorEq, rdl_same, pairs_nats]
      intro p3 hp3
      have e2 := nk_fold (fun n => (tv (idx T.ord n)).d) T.ord []
      rw [foldA_self hnd] at e2
      have e2 : mergeD [] (T.ord.map fun (n : Nat) => ((.inl (n : Int) : Key), (tv (idx T.ord n)).d)) = nk (fun n => (tv (idx T.ord n)).d) T.ord := e2
      rw [e2]
      refine lc_mapf Ty.d (fun _ : Ty => (ren T).d) (ts := [T]) True.intro (fun t ht ky kn k => ?_) fun p4 hp4 => ?_
      · rw [List.mem_singleton.mp ht]
        simp only [lcStep, PW, Nat.reduceAdd, String.reduceEq, decide_true, decide_false, ite_true, ite_false, Bool.false_eq_true, if_true, if_false, true_and, and_true, Bool.not_true, Bool.not_false, List.length_cons, List.length_nil, reduceCtorEq]
        exact ⟨T, fun n => tv (idx T.ord n), .ref p3, rfl, hT, hd, hs, .inr ⟨p3, T.ord, rfl, mset_same, fun n hn => (ord_mem hT.leafy n).mpr hn⟩, k⟩
      · exact ⟨μ, ((hle.trans (.put hp2)).trans (.put hp3)).trans (.put hp4), h⟩
end
end Pl
namespace Pl
open PySem L2
theorem ws_book {C : Addr} {kw : List D} {μ : Mu} {a : Addr} {rs rows' : List Row} {q : EQ} (k : IsBook C μ a rs) (hl : rs.length + rows'.length ≤ 1000) (hr : ∀ r ∈ rows', r.Out kw ∧ r.In ((rs ++ rows').map Row.ar))
    (h : newBook C q μ rs rows') : onIns C μ (.ref a) fun a _ fs => fs.lookup (Str.ofString "with_stamps") = none ∧ spStamps C kw [.ref a, rowsD rows'] μ q := by
  obtain ⟨dx, e1⟩ := id k
  rw [onIns_ref e1]
  exact ⟨rfl, a, rs, rows', rfl, k, hl, hr, h⟩
theorem good_out {rows : List Row} {a2 a1 a0 : Option (List Nat)} {cn : Option (List (Str × Option Ty))} (g : GRows rows a2 a1 a0 cn) : ∀ r ∈ rows, r.Out KWS := fun r hr => (g.rg r hr).out
theorem good_in {rows : List Row} {a2 a1 a0 : Option (List Nat)} {cn : Option (List (Str × Option Ty))} (g : GRows rows a2 a1 a0 cn) (rs : List Row) : ∀ r ∈ rows, r.In ((firstRows ++ rs).map Row.ar) := fun r hr => (g.rg r hr).inn rs
theorem DepLe.up : ∀ {n : Nat} {T : Ty}, DepLe n T → DepLe (n + 1) T
  | 0, _, h => h.elim
  | n + 1, T, h => fun t ht => (h t ht).up
theorem for_rng {n : Int} {g : Nat} {pb : PSx} {d : PEnds} {ss : SS} {μ : Mu} (W : Nat → SS → Mu → Prop) (h1 : -(2 ^ 62) ≤ n) (h2 : n < 2 ^ 62) (h0 : W 0 ss μ)
    (hs : ∀ i x ss μ, W i ss μ → ∀ d' : PEnds, d'.rt = d.rt → (∀ ss μ, W (i + 1) ss μ → d'.nx ss μ) → pb d' (sset ss g x) μ) (he : ∀ ss μ, W n.toNat ss μ → d.nx ss μ) : pFor (piRng1 (pCons (pC (.int n)) pNil)) (pgName g) pb d ss μ :=
  ⟨h1, h2, W, h0, fun _ _ _ _ _ => True.intro, fun i x ss μ _ hw => hs i x ss μ hw _ rfl fun _ _ z => z, fun ss μ hw => he ss μ (by rwa [rngD_len] at hw)⟩
theorem sk1 {a u : PSx} {d : PEnds} {ss : SS} {μ : Mu} (Good : SS → Mu → Prop) (h1 : ∀ u' : PSx, (∀ ss ν, Good ss ν → u' d ss ν) → pSeq a u' d ss μ) (h2 : ∀ ss ν, Good ss ν → u d ss ν) : pSeq a u d ss μ := h1 u h2
theorem sk2 {a b u : PSx} {d : PEnds} {ss : SS} {μ : Mu} (Good : SS → Mu → Prop) (h1 : ∀ u' : PSx, (∀ ss ν, Good ss ν → u' d ss ν) → pSeq a (pSeq b u') d ss μ) (h2 : ∀ ss ν, Good ss ν → u d ss ν) : pSeq a (pSeq b u) d ss μ := h1 u h2
theorem sk3 {a b c u : PSx} {d : PEnds} {ss : SS} {μ : Mu} (Good : SS → Mu → Prop) (h1 : ∀ u' : PSx, (∀ ss ν, Good ss ν → u' d ss ν) → pSeq a (pSeq b (pSeq c u')) d ss μ) (h2 : ∀ ss ν, Good ss ν → u d ss ν) : pSeq a (pSeq b (pSeq c u)) d ss μ := h1 u h2
theorem sk4 {a b c e u : PSx} {d : PEnds} {ss : SS} {μ : Mu} (Good : SS → Mu → Prop) (h1 : ∀ u' : PSx, (∀ ss ν, Good ss ν → u' d ss ν) → pSeq a (pSeq b (pSeq c (pSeq e u'))) d ss μ) (h2 : ∀ ss ν, Good ss ν → u d ss ν) : pSeq a (pSeq b (pSeq c (pSeq e u))) d ss μ := h1 u h2
structure Gd (C h tb b : Addr) (μ : Mu) (rows : List Row) (ν : Mu) : Prop where
  off : Off h μ ν
  tab : ν tb = some (.dk (tabD rows))
  bk : IsBook C ν b (firstRows ++ rows)
theorem Off.ne {h c : Addr} {ν : Mu} {o : MO} (hh : Hat ν h) (e : ν c = some o) (ho : ∀ i j k, o ≠ Ht i j k) : c ≠ h := by
  rintro rfl
  obtain ⟨i, j, l, e2⟩ := hh
  rw [e2] at e
  cases e
  exact ho i j l rfl
theorem Gd.go {C h tb b : Addr} {μ ν ν' : Mu} {rows : List Row} (g : Gd C h tb b μ rows ν) (o : Off h ν ν') : Gd C h tb b μ rows ν' where
  off := g.off.trans o
  tab := o.off _ _ (Off.ne g.off.hat g.tab fun _ _ _ z => nomatch z) g.tab
  bk := by
    obtain ⟨dx, e⟩ := g.bk
    exact ⟨dx, o.off _ _ (Off.ne g.off.hat e fun _ _ _ z => nomatch z) e⟩
theorem Gd.le {C h tb b : Addr} {μ ν ν' : Mu} {rows : List Row} (g : Gd C h tb b μ rows ν) (o : Mle ν ν') : Gd C h tb b μ rows ν' := g.go (.of_mle o g.off.hat)
theorem Gd.put {C h tb b p : Addr} {μ ν : Mu} {rows : List Row} {o : MO} (g : Gd C h tb b μ rows ν) (hp : ν p = none) : Gd C h tb b μ rows (mset ν p o) := g.le (.put hp)
theorem eqk_dep : ∀ (N : Nat) (T : Ty), DepLe N T → T.d.eqk (2 * N) = true
  | 0, _, h => h.elim
  | N + 1, T, h => by
    rw [d_eta]
    exact eqk_node (eqks_map fun t ht => eqk_dep N t (h t ht))
theorem eqk4 {N : Nat} (hN : N ≤ 30) {T : Ty} (h : DepLe N T) : T.d.eqk 64 = true := eqk_up (by omega) (eqk_dep N T h)
theorem lc_filtM {α : Type} {pg : PGx} {pt : PTx} {pe : PEx} {ss : SS} {ok : Mu → Prop} {q : List D → Mu → Prop} {μ : Mu} (g f : α → D) (p : α → Bool) (I : Mu → Prop) {ts : List α} (hok : ∀ ν, I ν → ok ν)
    (hs : ∀ t ∈ ts, ∀ ν, I ν → ∀ (ky : D → Mu → Prop) (kn : Mu → Prop), (p t = true → ∀ ν', I ν' → ky (f t) ν') → (p t = false → ∀ ν', I ν' → kn ν') → lcStep pg pt pe ss (g t) ν ky kn) (h0 : I μ) (h : ∀ ν, I ν → q ((ts.filter p).map f) ν) : lcGo pg pt pe ss ok q (ts.map g) [] μ := by
  have key : ∀ (ts : List α) (acc : List D) (μ : Mu), I μ → (∀ t ∈ ts, ∀ ν, I ν → ∀ (ky : D → Mu → Prop) (kn : Mu → Prop), (p t = true → ∀ ν', I ν' → ky (f t) ν') → (p t = false → ∀ ν', I ν' → kn ν') → lcStep pg pt pe ss (g t) ν ky kn) → (∀ ν, I ν → q (acc ++ (ts.filter p).map f) ν) → lcGo pg pt pe ss ok q (ts.map g) acc μ := by
    intro ts
    induction ts with
    | nil => intro acc μ h0 _ h; exact ⟨hok μ h0, by simpa using h μ h0⟩
    | cons t r ih =>
      intro acc μ h0 hs h
      refine ⟨hok μ h0, hs t List.mem_cons_self μ h0 _ _ (fun e ν' hi => ih (acc ++ [f t]) ν' hi (fun u hu => hs u (List.mem_cons_of_mem _ hu)) fun ν hν => ?_) fun e ν' hi => ih acc ν' hi (fun u hu => hs u (List.mem_cons_of_mem _ hu)) fun ν hν => ?_⟩
      · have h := h ν hν
        rw [List.filter_cons_of_pos e] at h
        rw [List.append_assoc]
        exact h
      · have h := h ν hν
        rw [List.filter_cons_of_neg (by rw [e]; exact Bool.false_ne_true)] at h
        exact h
  exact key ts [] μ h0 hs h
theorem sub_same {σ τ : Nat → Ty} : ∀ (k : Nat) (T : Ty), T.sz ≤ k → (∀ n ∈ T.vars, σ n = τ n) → T.sub σ = T.sub τ
  | 0, T, h, _ => by have := sz_pos T; omega
  | k + 1, T, h, hv => by
    cases e : T.lab.num with
    | some n => rw [sub_var σ e, sub_var τ e]; exact hv n (vars_self e)
    | none =>
      rw [sub_node σ e, sub_node τ e, subs_map, subs_map]
      congr 1
      refine List.map_congr_left fun t ht => sub_same k t ?_ fun n hn => hv n (vars_kid ht hn)
      have := kid_sz ht
      omega
def mkl (far : Nat) : List (List Nat) := [[], [0], [far + 1], [25, 26], [0, 1, 2]]
theorem mkl_d (far : Nat) : [D.tup [], .tup [.int 0], .tup [.int ((far : Int) + 1)], .tup [.int 25, .int 26], .tup [.int 0, .int 1, .int 2]] = (mkl far).map natsD := rfl
theorem mkl_ok {far : Nat} (hf : far ≤ 700) {ms : List Nat} (h : ms ∈ mkl far) : ms.length ≤ 3 ∧ ms.Pairwise (· < ·) ∧ ∀ n ∈ ms, n < 1000 := by
  simp only [mkl, List.mem_cons, List.not_mem_nil, or_false] at h
  rcases h with rfl | rfl | rfl | rfl | rfl
  · exact ⟨by decide, by decide, by decide⟩
  · exact ⟨by decide, by decide, by decide⟩
  · refine ⟨by show (1 : Nat) ≤ 3; decide, by simp, fun n hn => ?_⟩
    rw [List.mem_singleton.mp hn]
    omega
  · exact ⟨by decide, by decide, by decide⟩
  · exact ⟨by decide, by decide, by decide⟩
def fars : List Nat := [0, 0, 24, 25, 26, 51, 52, 700]
theorem fars_d : [D.int 0, .int 0, .int 24, .int 25, .int 26, .int 51, .int 52, .int 700] = fars.map fun (n : Nat) => D.int (n : Int) := rfl
theorem fars_le : ∀ n ∈ fars, n ≤ 700 := by decide
/-- a type that the law asks about, and its marks -/
structure Kt9 (K U : Ty) (ms : List Nat) : Prop where
  g : GTy ar9 K
  dp : DepLe 4 K
  sz : K.sz ≤ 40
  ug : GTy ar9 U
  udp : DepLe 4 U
  usz : U.sz ≤ 40
  len : ms.length ≤ 3
  up : ms.Pairwise (· < ·)
  lt : ∀ n ∈ ms, n < 1000
theorem Kt9.uok {K U : Ty} {ms : List Nat} (h : Kt9 K U ms) : U.Ok ar9 := fun t ht => (h.ug.1 t ht).1
theorem Kt9.ok {K U : Ty} {ms : List Nat} (h : Kt9 K U ms) : K.Ok ar9 := fun t ht => (h.g.1 t ht).1
section
variable (C h tb b : Addr) (μ : Mu) (rows : List Row)
def RA (ss : SS) (ν : Mu) : Prop := ∃ (K U : Ty) (ms : List Nat) (x4 x7 x8 x10 : Option D), ss = [some (.ref h), some (rowsD rows), some (.ref tb), some (.ref b), x4, some K.d, some U.d, x7, x8, some (natsD ms), x10] ∧ Kt9 K U ms ∧ Gd C h tb b μ rows ν
end
section
variable {P : Program} {w : World} {K : PySem.W.Frag} {mg : Str → Option Value} {base : Heap} {C G : Addr}
abbrev s__law_right : Stmt := top 72
theorem sc__law_right : FnScope ["_law_hat_here", "_law_rows_here", "_law_table_here", "_law_book", "_law_turn", "_law_kt", "_law_other", "_law_far", "_law_number", "_law_marked_in", "_law_scheme"] ["_law_hat_here"] (defScope s__law_right) := ⟨rfl, rfl, rfl, by decide +kernel, rfl, by decide +kernel, by decide +kernel⟩
def spRight : Spc := fun ds μ q => ∃ h : Addr, ds = [.ref h] ∧ Hat μ h ∧ ∀ ν, Off h μ ν → q (.bl true) ν
set_option maxHeartbeats 8000000 in
theorem ok_right (A : At K mg "_law_right" s__law_right ["_law_hat_here"]) (B : Bi mg) (T : Bk K mg C) (S : Sk K mg G) (T_Scheme : Cn K mg "Scheme" (.ref G)) (M_Book : HasI P w K mg base "Book" C ["self"] 1 (spInit C)) (DM_with_stamps : HasM P w K mg base C "with_stamps" ["self", "rows"] 8 (spStamps C KWS))
    (D__law_rows : Has P w K mg base "_law_rows" ["_law_hat_here"] 3 spRows) (D__law_table : Has P w K mg base "_law_table" ["_law_rows_here"] 1 spTable) (D__law_choice : Has P w K mg base "_law_choice" ["_law_hat_here", "_law_items"] 2 spChoice) (D__law_type : Has P w K mg base "_law_type" ["_law_hat_here", "_law_count", "_law_deep"] 6 (spType 4)) (D__law_put : Has P w K mg base "_law_put" ["_law_kt", "_law_types"] 6 (spLPut 4)) (D__law_vars : Has P w K mg base "_law_vars" ["_law_kt"] 6 (spLVars 4)) (D__law_numbered : Has P w K mg base "_law_numbered" ["_law_types"] 7 (spLNum 4))
    (D_type_text : HasD P w K mg base "type_text" ["book", "T", "marked"] 2 ["marked"] [.tup []] 8 (spTyText C)) (D__law_text : Has P w K mg base "_law_text" ["_law_table_here", "_law_kt", "_law_marked_in"] 10 (spLTx 0 4))
    (DC_of : HasC P w K mg base G "of" ["cls", "book", "T", "marked"] 2 ["marked"] 9 (spOf C G)) (DM_text : HasM P w K mg base G "text" ["self", "book"] 8 (spSText C G)) : Has P w K mg base "_law_right" ["_law_hat_here"] 30 spRight := by
  refine .mk A fun f fd F => ?_
  refine qfn F sc__law_right (by decide) ?len (fun cdv A outer s H E hr => (qss_cons (qs_set (i := 1) sc__law_right.nd rfl (Or.inl rfl) (qe_call D__law_rows (hr.mono (by decide)) (qa_cons (qv 0) qa_nil)))
  (qss_cons (qs_par (i := 2) (j := 3) rfl sc__law_right.nd rfl rfl (by decide) rfl rfl (qa_cons (qe_call D__law_table (hr.mono (by decide)) (qa_cons (qv 1) qa_nil)) (qa_cons (qe_ix (qix (hu_of hr)) (qe_meth T.cl (qe_make0 M_Book (hr.mono (by decide))) DM_with_stamps (hr.mono (by decide)) (qa_cons (qv 1) qa_nil)) qe_int) qa_nil)) rfl)
  (qss_cons (qs_for PassesOwn.never rfl (qi_range1 (by rfl) B.range (qa_cons qe_int qa_nil)) (qg_name (i := 4) sc__law_right.nd rfl (Or.inl rfl)) (qss_cons (qs_asg (qe_tup (qa_cons (qe_call D__law_type (hr.mono (by decide)) (qa_cons (qv 0) (qa_cons qe_int (qa_cons qe_int qa_nil)))) (qa_cons (qe_call D__law_type (hr.mono (by decide)) (qa_cons (qv 0) (qa_cons qe_int (qa_cons qe_int qa_nil)))) qa_nil))) (qg_tup (n := 2) rfl (qgs_cons (qg_name (i := 5) sc__law_right.nd rfl (Or.inr rfl)) (qgs_cons (qg_name (i := 6) sc__law_right.nd rfl (Or.inl rfl)) qgs_nil))))
  (qss_cons (qs_set (i := 7) sc__law_right.nd rfl (Or.inr rfl) (qe_call D__law_choice (hr.mono (by decide)) (qa_cons (qv 0) (qa_cons (qe_lst (qa_cons qe_int (qa_cons qe_int (qa_cons qe_int (qa_cons qe_int (qa_cons qe_int (qa_cons qe_int (qa_cons qe_int (qa_cons qe_int qa_nil))))))))) qa_nil))))
  (qss_cons (qs_set (i := 5) sc__law_right.nd rfl (Or.inr rfl) (qe_call D__law_put (hr.mono (by decide)) (qa_cons (qv 5) (qa_cons (qe_callTy (qc_tuple rfl) (by rfl) B.tuple (by decide +kernel) (qa_cons (qe_lc (own := [("_law_number", 8)]) rfl sc__law_right.nd (qi_range1 (by rfl) B.range (qa_cons qe_int qa_nil)) (blkOk_by (N := ["_law_hat_here", "_law_rows_here", "_law_table_here", "_law_book", "_law_turn", "_law_kt", "_law_other", "_law_far", "_law_number", "_law_marked_in", "_law_scheme"]) (sc := defScope s__law_right) (by decide +kernel)) (fun _ _ _ _ _ => (qgw_name (i := 8) sc__law_right.nd rfl (Or.inl rfl))) (fun _ _ _ _ _ => qts_nil) (fun _ _ _ _ _ => (qe_tup (qa_cons qe_str (qa_cons (qe_op qop_add (qv 8) (qv 7)) qa_nil))))) qa_nil)) qa_nil))))
  (qss_cons (qs_set (i := 9) sc__law_right.nd rfl (Or.inl rfl) (qe_call D__law_choice (hr.mono (by decide)) (qa_cons (qv 0) (qa_cons (qe_lst (qa_cons (qe_tup qa_nil) (qa_cons (qe_tup (qa_cons qe_int qa_nil)) (qa_cons (qe_tup (qa_cons (qe_op qop_add (qv 7) qe_int) qa_nil)) (qa_cons (qe_tup (qa_cons qe_int (qa_cons qe_int qa_nil))) (qa_cons (qe_tup (qa_cons qe_int (qa_cons qe_int (qa_cons qe_int qa_nil)))) qa_nil)))))) qa_nil))))
  (qss_cons (qs_if (qt_cmp (qop_ne hr.units) (qe_callK D_type_text (hr.mono (by decide)) (qa_cons (qv 3) (qa_cons (qv 5) qa_nil)) (qk_cons (qv 9) qk_nil)) (qe_call D__law_text (hr.mono (by decide)) (qa_cons (qv 2) (qa_cons (qv 5) (qa_cons (qv 9) qa_nil)))) (nomark _)) (qss_one (qs_ret qe_bl)) qss_nil)
  (qss_cons (qs_if (qt_cmp (qop_ne hr.units) (qe_cmp (qop_eq hr.units) (qe_callK D_type_text (hr.mono (by decide)) (qa_cons (qv 3) (qa_cons (qv 5) qa_nil)) (qk_cons (qv 9) qk_nil)) (qe_callK D_type_text (hr.mono (by decide)) (qa_cons (qv 3) (qa_cons (qv 6) qa_nil)) (qk_cons (qv 9) qk_nil)) (nomark _)) (qe_cmp (qop_eq hr.units) (qv 5) (qv 6) (nomark _)) (nomark _)) (qss_one (qs_ret qe_bl)) qss_nil)
  (qss_cons (qs_set (i := 10) sc__law_right.nd rfl (Or.inl rfl) (qe_clsK DC_of (hr.mono (by decide)) (qe_cn T_Scheme) (qa_cons (qv 3) (qa_cons (qv 5) qa_nil)) (qk_cons (qe_callTy (qc_tuple rfl) (by rfl) B.tuple (by decide +kernel) (qa_cons (qe_lc (own := [("_law_number", 8)]) rfl sc__law_right.nd (qi_seq (qv 9)) (blkOk_by (N := ["_law_hat_here", "_law_rows_here", "_law_table_here", "_law_book", "_law_turn", "_law_kt", "_law_other", "_law_far", "_law_number", "_law_marked_in", "_law_scheme"]) (sc := defScope s__law_right) (by decide +kernel)) (fun _ _ _ _ _ => (qgw_name (i := 8) sc__law_right.nd rfl (Or.inl rfl))) (fun _ _ _ _ _ => (qts_one (qt_cmp (qop_in (hu_of hr)) (qv 8) (qe_call D__law_vars (hr.mono (by decide)) (qa_cons (qv 5) qa_nil)) rfl))) (fun _ _ _ _ _ => (qv 8))) qa_nil)) qk_nil)))
  (qss_one (qs_if (QW.qt (qw_or (qt_cmp (qop_ne hr.units) (qe_meth S.cl (qv 10) DM_text (hr.mono (by decide)) (qa_cons (qv 3) qa_nil)) (qe_call D__law_text (hr.mono (by decide)) (qa_cons (qv 2) (qa_cons (qe_fld ⟨S.cl, S.na_body⟩ (qv 10)) (qa_cons (qe_fld ⟨S.cl, S.na_marks⟩ (qv 10)) qa_nil)))) (nomark _)) (qw_or1 (qt_cmp (qop_ne hr.units) (qe_fld ⟨S.cl, S.na_body⟩ (qv 10)) (qe_ix (qix (hu_of hr)) (qe_call D__law_numbered (hr.mono (by decide)) (qa_cons (qe_tup (qa_cons (qv 5) qa_nil)) qa_nil)) qe_int) (nomark _))))) (qss_one (qs_ret qe_bl)) qss_nil))))))))))
  (qss_one (qs_ret qe_bl)))))) ?body
  case len => rintro ds μ q ⟨_, rfl, _⟩; rfl
  case body =>
    rintro ds μ q ⟨h, rfl, hh, hq⟩
    simp only [PW, Nat.reduceAdd, String.reduceEq, decide_true, decide_false, ite_true, ite_false, Bool.false_eq_true, if_true, if_false, true_and, and_true, Bool.not_true, Bool.not_false, List.length_cons, List.length_nil, reduceCtorEq]
    refine ⟨h, rfl, hh, fun rows a2 a1 a0 cn ν1 hg o1 => ?_⟩
    have hrl : rows.length = 3 := by rw [hg.eq]; rfl
    have hra : (firstRows ++ rows).map Row.ar = ar9 := by rw [hg.eq]; rfl
    have hrn : (firstRows ++ rows).map Row.nm = names9 := by rw [hg.eq]; rfl
    have hl9 : (firstRows ++ rows).length ≤ 1000 := by rw [List.length_append, hrl]; decide
    have hnm := nm_of hrn
    have hz := z_short hrn
    simp only [PW, Nat.reduceAdd, String.reduceEq, decide_true, decide_false, ite_true, ite_false, Bool.false_eq_true, if_true, if_false, true_and, and_true, Bool.not_true, Bool.not_false, List.length_cons, List.length_nil, reduceCtorEq]
    refine ⟨rows, rfl, hrl, fun tb htb => ?_⟩
    have o2 := o1.put (o := .dk (tabD rows)) htb
    have t2 : mset ν1 tb (.dk (tabD rows)) tb = some (.dk (tabD rows)) := mset_same
    generalize mset ν1 tb (.dk (tabD rows)) = ν2 at o2 t2 ⊢
    intro b0 dx0 hb0
    refine ⟨b0, dx0, rfl, mset_same, rfl, ?_⟩
    rw [mset_mset]
    refine ws_book (rs := firstRows) (rows' := rows) ⟨dx0, mset_same⟩ (by rw [hrl]; decide) (fun r hr => ⟨good_out hg r hr, good_in hg _ r hr⟩) fun b dx hb => ?_
    simp only [PW, Nat.reduceAdd, String.reduceEq, decide_true, decide_false, ite_true, ite_false, Bool.false_eq_true, if_true, if_false, true_and, and_true, Bool.not_true, Bool.not_false, List.length_cons, List.length_nil, reduceCtorEq]
    have o3 := (o2.put (o := bookO C dx0 firstRows) hb0).put (o := bookO C dx (firstRows ++ rows)) hb
    have t3 := keepX (u := bookO C dx (firstRows ++ rows)) (keepX (u := bookO C dx0 firstRows) t2 hb0) hb
    have k3 : IsBook C (mset (mset ν2 b0 (bookO C dx0 firstRows)) b (bookO C dx (firstRows ++ rows))) b (firstRows ++ rows) := ⟨dx, mset_same⟩
    generalize mset (mset ν2 b0 (bookO C dx0 firstRows)) b (bookO C dx (firstRows ++ rows)) = ν3 at o3 t3 k3 ⊢
    clear hb hb0 t2 o2 o1 htb
    refine for_rng (fun _ ss ν' => ∃ x4 x5 x6 x7 x8 x9 x10 : Option D, ss = [some (.ref h), some (rowsD rows), some (.ref tb), some (.ref b), x4, x5, x6, x7, x8, x9, x10] ∧ Gd C h tb b μ rows ν') (by decide) (by decide)
      ⟨none, none, none, none, none, none, none, rfl, o3, t3, k3⟩ ?_ ?_
    · rintro i x ss ν' ⟨x4, x5, x6, x7, x8, x9, x10, rfl, g⟩ d' _ hnx
      refine sk4 (RA C h tb b μ rows) (fun u' hu => ?_) fun ss ν hA => ?_
      · simp only [PW, Nat.reduceAdd, String.reduceEq, decide_true, decide_false, ite_true, ite_false, Bool.false_eq_true, if_true, if_false, true_and, and_true, Bool.not_true, Bool.not_false, List.length_cons, List.length_nil, reduceCtorEq]
        refine ⟨h, 3, 3, rfl, by decide, g.off.hat, by decide, fun T ν4 gT o4 => ?_⟩
        have g := g.go o4
        refine ⟨h, 3, 2, rfl, by decide, g.off.hat, by decide, fun U ν5 gU o5 => ?_⟩
        have g := g.go o5
        have hsT : T.sz ≤ 40 := gT.sz
        have hsU : U.sz ≤ 13 := gU.sz
        simp only [PW, Nat.reduceAdd, String.reduceEq, decide_true, decide_false, ite_true, ite_false, Bool.false_eq_true, if_true, if_false, true_and, and_true, Bool.not_true, Bool.not_false, List.length_cons, List.length_nil, reduceCtorEq]
        intro p5 hp5
        refine choice_new (f := fun (n : Nat) => D.int (n : Int)) (ys := fars) fars_d g.off.hat hp5 (by decide) (by decide) fun far hfar ν6 o6 => ?_
        have g := g.go o6
        have hf7 := fars_le far hfar
        simp only [PW, Nat.reduceAdd, String.reduceEq, decide_true, decide_false, ite_true, ite_false, Bool.false_eq_true, if_true, if_false, true_and, and_true, Bool.not_true, Bool.not_false, List.length_cons, List.length_nil, reduceCtorEq]
        refine ⟨by decide, by decide, by show 3 ≤ sizeLine; decide, ?_⟩
        have e3 : rngD 0 (Int.toNat 3) = (List.range 3).map fun i => D.int (0 + (i : Nat)) := rfl
        rw [e3]
        refine lc_mapf (fun i => D.int (0 + (i : Nat))) (fun i => (tv (i + far)).d) True.intro (fun i hi ky kn k => ?_) fun p6 hp6 => ?_
        · rw [d_var, show ((i + far : Nat) : Int) = 0 + (i : Int) + (far : Int) by omega] at k
          simp only [lcStep, PW, Nat.reduceAdd, String.reduceEq, decide_true, decide_false, ite_true, ite_false, Bool.false_eq_true, if_true, if_false, true_and, and_true, Bool.not_true, Bool.not_false, List.length_cons, List.length_nil, reduceCtorEq]
          exact k
        · have et : (List.range 3).map (fun i => (tv (i + far)).d) = ((List.range 3).map fun i => tv (i + far)).map Ty.d := by rw [List.map_map]; rfl
          rw [et]
          have g7 := g.put (o := .lst (((List.range 3).map fun i => tv (i + far)).map Ty.d)) hp6
          generalize mset ν6 p6 (.lst (((List.range 3).map fun i => tv (i + far)).map Ty.d)) = ν7 at g7 ⊢
          have eS : T.sub (sg ((List.range 3).map fun i => tv (i + far))) = farT far T := sub_same _ T (Nat.le_refl _) fun n hn => by
            have := gT.vs n hn
            unfold sg
            rw [List.getElem?_map, List.getElem?_range this]
            rfl
          refine ⟨T, _, _, rfl, (ok_iff.mp gT.ok).1, gT.dp, by omega, .inl ⟨(List.range 3).map fun i => tv (i + far), rfl, rfl, fun n hn => by rw [List.length_map, List.length_range]; exact gT.vs n hn⟩, ?_⟩
          rw [eS]
          obtain ⟨h1, h2, h3⟩ := far_good hf7 gT hsT
          intro p8 hp8
          refine choice_new (f := natsD) (ys := mkl far) (mkl_d far) g7.off.hat hp8 (by show 0 < 5; decide) (by show 5 < 1000000; decide) fun ms hms ν8 o8 => ?_
          obtain ⟨m1, m2, m3⟩ := mkl_ok hf7 hms
          exact hu _ _ ⟨farT far T, U, ms, _, _, _, _, rfl, ⟨h1, h2, h3, near_good gU (by omega), gU.dp.up, by omega, m1, m2, m3⟩, g7.go o8⟩
      obtain ⟨K0, U, ms, y4, y7, y8, y10, rfl, k, g⟩ := hA
      refine sk2 (RA C h tb b μ rows) (fun u' hu => ?_) fun ss ν hA => ?_
      · simp only [pCallN, List.cons_append, List.nil_append, PW, Nat.reduceAdd, String.reduceEq, decide_true, decide_false, ite_true, ite_false, Bool.false_eq_true, if_true, if_false, true_and, and_true, Bool.not_true, Bool.not_false, List.length_cons, List.length_nil, reduceCtorEq]
        have kl := k.len
        have hmb : ∀ n ∈ ms, (n : Int) < BEY := fun n hn => lt60 (by have := k.lt n hn; omega)
        have hKg : GTy ((firstRows ++ rows).map Row.ar) K0 := by rw [hra]; exact k.g
        have hUg : GTy ((firstRows ++ rows).map Row.ar) U := by rw [hra]; exact k.ug
        have TTK : ∀ {q : EQ}, q (.str (K0.tx (nmR (firstRows ++ rows)) ms 0)) ν → spTyText C [.ref b, K0.d, natsD ms] ν q := fun hq => ⟨b, firstRows ++ rows, K0, ms, rfl, g.bk, hl9, hKg, hz, by omega, k.up, hmb, hq⟩
        have TTU : ∀ {q : EQ}, q (.str (U.tx (nmR (firstRows ++ rows)) ms 0)) ν → spTyText C [.ref b, U.d, natsD ms] ν q := fun hq => ⟨b, firstRows ++ rows, U, ms, rfl, g.bk, hl9, hUg, hz, by omega, k.up, hmb, hq⟩
        refine TTK ⟨tb, rows, K0, ms, rfl, g.tab, hrl, hKg, k.dp, hz, ?_⟩
        dsimp only
        rw [pEq_str]
        simp only [decide_true, bne_self_eq_false, PW, Nat.reduceAdd, String.reduceEq, decide_true, decide_false, ite_true, ite_false, Bool.false_eq_true, if_true, if_false, true_and, and_true, Bool.not_true, Bool.not_false, List.length_cons, List.length_nil, reduceCtorEq]
        refine TTK (TTU ?_)
        rw [pEq_str, hnm]
        refine pEq_plain (b := decide (K0.tx nm9 ms 0 = U.tx nm9 ms 0)) (eqk4 (by decide) k.dp) (eqk4 (by decide) k.udp) ?_ ?_
        · rw [decide_eq_true_iff]
          exact ⟨fun e => by rw [tx_inj nms9 (gd_of K0 k.g) (gd_of U k.ug) e], fun e => by rw [d_inj _ K0 U (Nat.le_refl _) (ok_iff.mp k.ok).1 (ok_iff.mp k.uok).1 e]⟩
        · rw [pEq_bl]
          simp only [decide_true, bne_self_eq_false, PW, Nat.reduceAdd, String.reduceEq, decide_true, decide_false, ite_true, ite_false, Bool.false_eq_true, if_true, if_false, true_and, and_true, Bool.not_true, Bool.not_false, List.length_cons, List.length_nil, reduceCtorEq]
          exact hu _ _ ⟨K0, U, ms, _, _, _, _, rfl, k, g⟩
      clear g k
      obtain ⟨K0, U, ms, y4, y7, y8, y10, rfl, k, g⟩ := hA
      simp only [pCallN, pClsK, List.cons_append, List.nil_append, PW, Nat.reduceAdd, String.reduceEq, decide_true, decide_false, ite_true, ite_false, Bool.false_eq_true, if_true, if_false, true_and, and_true, Bool.not_true, Bool.not_false, List.length_cons, List.length_nil, reduceCtorEq]
      have kl := k.len
      have ks := k.sz
      have hfm := (ok_iff.mp k.ok).1
      have hKg : GTy ((firstRows ++ rows).map Row.ar) K0 := by rw [hra]; exact k.g
      have hRg : GTy ((firstRows ++ rows).map Row.ar) (ren K0) := ren_good (fun t ht => (hKg.1 t ht).1) hKg.2
      have hRd : DepLe 4 (ren K0) := depLe_put _ 4 K0 hfm.leafy k.dp
      simp only [natsD, List.length_map]
      refine ⟨sl1000 (by omega), lc_filtM (fun (n : Nat) => D.int (n : Int)) (fun n => D.int (n : Int)) (fun n => decide (n ∈ K0.ord)) (Gd C h tb b μ rows) (fun _ _ => True.intro) (fun n hn ν1 g1 ky kn k1 k2 => ?_) g fun ν2 g2 => ?_⟩
      · simp only [lcStep, PW, Nat.reduceAdd, String.reduceEq, decide_true, decide_false, ite_true, ite_false, Bool.false_eq_true, if_true, if_false, true_and, and_true, Bool.not_true, Bool.not_false, List.length_cons, List.length_nil, reduceCtorEq]
        refine ⟨K0, rfl, hfm, k.dp, by omega, fun p hp => ?_⟩
        simp only [PW, Nat.reduceAdd, String.reduceEq, decide_true, decide_false, ite_true, ite_false, Bool.false_eq_true, if_true, if_false, true_and, and_true, Bool.not_true, Bool.not_false, List.length_cons, List.length_nil, reduceCtorEq, pIn_same, flat_nats, inD_nats]
        by_cases m : n ∈ K0.ord
        · simp only [m, decide_true, PW, Nat.reduceAdd, String.reduceEq, decide_true, decide_false, ite_true, ite_false, Bool.false_eq_true, if_true, if_false, true_and, and_true, Bool.not_true, Bool.not_false, List.length_cons, List.length_nil, reduceCtorEq] at k1 ⊢
          exact k1 True.intro _ (g1.put hp)
        · simp only [m, decide_false, PW, Nat.reduceAdd, String.reduceEq, decide_true, decide_false, ite_true, ite_false, Bool.false_eq_true, if_true, if_false, true_and, and_true, Bool.not_true, Bool.not_false, List.length_cons, List.length_nil, reduceCtorEq] at k2 ⊢
          exact k2 True.intro _ (g1.put hp)
      · intro p1 hp1
        have g3 := g2.put (o := .lst ((ms.filter fun n => decide (n ∈ K0.ord)).map fun (n : Nat) => D.int (n : Int))) hp1
        generalize mset ν2 p1 (.lst ((ms.filter fun n => decide (n ∈ K0.ord)).map fun (n : Nat) => D.int (n : Int))) = ν3 at g3 ⊢
        have hfl : (ms.filter fun n => decide (n ∈ K0.ord)).length ≤ ms.length := List.length_filter_le _ _
        refine ⟨b, firstRows ++ rows, K0, ms.filter fun n => decide (n ∈ K0.ord), rfl, ⟨g3.bk, hl9, fun t ht => (hKg.1 t ht).1, hKg.2⟩, by omega, k.up.filter _, fun n hn => lt60 (by have := k.lt n (List.mem_filter.mp hn).1; omega), fun p dx hp => ?_⟩
        have g4 := g3.put (o := schO G dx (mrk K0.ord (ms.filter fun n => decide (n ∈ K0.ord))) (ren K0)) hp
        have e4 : mset ν3 p (schO G dx (mrk K0.ord (ms.filter fun n => decide (n ∈ K0.ord))) (ren K0)) p = some (schO G dx (mrk K0.ord (ms.filter fun n => decide (n ∈ K0.ord))) (ren K0)) := mset_same
        generalize mset ν3 p (schO G dx (mrk K0.ord (ms.filter fun n => decide (n ∈ K0.ord))) (ren K0)) = ν4 at g4 e4 ⊢
        generalize mrk K0.ord (ms.filter fun n => decide (n ∈ K0.ord)) = mk at e4
        have e5 : ν4 p = some (.ins G dx [("marks", natsD mk), ("body", (ren K0).d), ("total", .int ((ren K0).ord.length : Nat)), ("_outline", .tup ((ren K0).pre.map outD))]) := e4
        simp only [onIns_ref e5, lks_body, lks_marks, lks_off2, PW, Nat.reduceAdd, String.reduceEq, decide_true, decide_false, ite_true, ite_false, Bool.false_eq_true, if_true, if_false, true_and, and_true, Bool.not_true, Bool.not_false, List.length_cons, List.length_nil, reduceCtorEq]
        refine ⟨p, b, firstRows ++ rows, ren K0, mk, rfl, ⟨dx, e4⟩, g4.bk, hl9, hRg, hz, ?_⟩
        simp only [onIns_ref e5, lks_body, lks_marks, PW, Nat.reduceAdd, String.reduceEq, decide_true, decide_false, ite_true, ite_false, Bool.false_eq_true, if_true, if_false, true_and, and_true, Bool.not_true, Bool.not_false, List.length_cons, List.length_nil, reduceCtorEq]
        refine ⟨tb, rows, ren K0, mk, rfl, g4.tab, hrl, hRg, hRd, hz, ?_⟩
        dsimp only
        rw [pEq_str]
        simp only [decide_true, bne_self_eq_false, onIns_ref e5, lks_body, PW, Nat.reduceAdd, String.reduceEq, decide_true, decide_false, ite_true, ite_false, Bool.false_eq_true, if_true, if_false, true_and, and_true, Bool.not_true, Bool.not_false, List.length_cons, List.length_nil, reduceCtorEq]
        refine ⟨K0, rfl, hfm, k.dp, by omega, ?_⟩
        simp only [PW, Nat.reduceAdd, String.reduceEq, decide_true, decide_false, ite_true, ite_false, Bool.false_eq_true, if_true, if_false, true_and, and_true, Bool.not_true, Bool.not_false, List.length_cons, List.length_nil, reduceCtorEq]
        refine pEq_plain (b := true) (eqk4 (by decide) hRd) (eqk4 (by decide) hRd) (by simp) ?_
        simp only [bne_self_eq_false, PW, Nat.reduceAdd, String.reduceEq, decide_true, decide_false, ite_true, ite_false, Bool.false_eq_true, if_true, if_false, true_and, and_true, Bool.not_true, Bool.not_false, List.length_cons, List.length_nil, reduceCtorEq]
        exact hnx _ _ ⟨_, _, _, _, _, _, _, rfl, g4⟩
    · rintro ss ν' ⟨x4, x5, x6, x7, x8, x9, x10, rfl, g⟩
      simp only [PW, Nat.reduceAdd, String.reduceEq, decide_true, decide_false, ite_true, ite_false, Bool.false_eq_true, if_true, if_false, true_and, and_true, Bool.not_true, Bool.not_false, List.length_cons, List.length_nil, reduceCtorEq]
      exact ⟨ν', .refl, hq ν' g.off⟩
end
end Pl
namespace Pl
open PySem L2
abbrev tfn (A B : Ty) : Ty := .node .fn [A, B]
abbrev ttup (ts : List Ty) : Ty := .node .tup ts
abbrev tmd (s : Nat) (ts : List Ty) : Ty := .node (.made s) ts
theorem cut_tail {t u : PSx} {d : PEnds} {ss : SS} {μ : Mu} {Good : SS → Mu → Prop} (h2 : ∀ ss ν, Good ss ν → u d ss ν) (h1 : ∀ K : SS → Mu → Prop, (∀ ss ν, Good ss ν → K ss ν) → t { d with nx := K } ss μ) : pSeq t u d ss μ := h1 (u d) h2
abbrev pairT : Ty := ttup [tv 0, tmd 1 []]
def someTs : List Ty := [tmd 5 [pairT], tfn pairT pairT, tfn (tfn pairT pairT) (ttup []), ttup [pairT, tv 27]]
abbrev lastT : Ty := tmd 6 [tmd 5 [ttup []]]
abbrev pD : D := .tup [.str "tuple", .tup [.tup [.str "var", .int 0], .tup [.str "made", .int 1, .tup []]]]
theorem pair_d : pairT.d = pD := by
  rw [d_tup, List.map_cons, List.map_singleton, d_var, d_made]
  rfl
theorem unit_d : (ttup []).d = .tup [.str "tuple", .tup []] := by
  rw [d_tup]
  rfl
theorem some_d : [D.tup [.str "made", .int 5, .tup [pD]], .tup [.str "fn", pD, pD], .tup [.str "fn", .tup [.str "fn", pD, pD], .tup [.str "tuple", .tup []]], .tup [.str "tuple", .tup [pD, .tup [.str "var", .int 27]]]] = someTs.map Ty.d := by
  unfold someTs
  simp only [List.map_cons, List.map_nil, d_made, d_fn, d_tup, d_var]
  rfl
theorem last_d : [D.ref b, D.tup [.str "made", .int 6, .tup [.tup [.str "made", .int 5, .tup [.tup [.str "tuple", .tup []]]]]], .tup []] = [D.ref b, lastT.d, natsD []] := by
  rw [d_made, List.map_singleton, d_made, List.map_singleton, unit_d]
  rfl
theorem no_mem {α : Type} {p : α → Prop} : ∀ t ∈ ([] : List α), p t := fun t ht => nomatch ht
theorem one_mem {α : Type} {p : α → Prop} {a : α} (h : p a) : ∀ t ∈ [a], p t := fun t ht => by rw [List.mem_singleton.mp ht]; exact h
theorem two_mem {α : Type} {p : α → Prop} {a b : α} (h : p a) (k : p b) : ∀ t ∈ [a, b], p t := fun t ht => by
  rcases List.mem_cons.mp ht with e | ht
  · rw [e]; exact h
  · rw [List.mem_singleton.mp ht]; exact k
abbrev far0 : List Nat := firstRows.map Row.ar
theorem ok_unit : (ttup []).Ok far0 := .node (show (0 : Nat) ≠ 1 by decide) no_mem
theorem ok_v (n : Nat) (h : n < 1000) : (tv n).Ok far0 := .node ⟨rfl, lt60 (by omega)⟩ no_mem
theorem ok_int1 : (tmd 1 []).Ok far0 := .node ⟨by decide, by decide +kernel, rfl⟩ no_mem
theorem ok_pair : pairT.Ok far0 := .node (show (2 : Nat) ≠ 1 by decide) (two_mem (ok_v 0 (by decide)) ok_int1)
theorem ok_pp : (tfn pairT pairT).Ok far0 := .node (by rfl) (two_mem ok_pair ok_pair)
theorem some_ok : ∀ T ∈ someTs, GTy far0 T := fun T hT => by
  simp only [someTs, List.mem_cons, List.not_mem_nil, or_false] at hT
  rcases hT with rfl | rfl | rfl | rfl
  · exact .of (.node ⟨by decide, by decide +kernel, rfl⟩ (one_mem ok_pair)) (by decide) (by decide)
  · exact .of ok_pp (by decide) (by decide)
  · exact .of (.node (by rfl) (two_mem ok_pp ok_unit)) (by decide) (by decide)
  · exact .of (.node (show (2 : Nat) ≠ 1 by decide) (two_mem ok_pair (ok_v 27 (by decide)))) (by decide) (by decide)
theorem last_ok : GTy far0 lastT := .of (.node ⟨by decide, by decide +kernel, rfl⟩ (one_mem (.node ⟨by decide, by decide +kernel, rfl⟩ (one_mem ok_unit)))) (by decide) (by decide)
theorem first_z : ∀ row ∈ firstRows, row.nm.length ≤ 10 := by decide +kernel
def dues : List Str := ["('a * int) list", "'a * int -> 'a * int", "('a * int -> 'a * int) -> unit", "('a * int) * ''b1"]
theorem dues_tx : (someTs.map fun T => T.tx (nmR firstRows) [27] 0) = dues := by decide +kernel
theorem some_tx : (someTs.map fun T => D.str (T.tx (nmR firstRows) [27] 0)) = [.str "('a * int) list", .str "'a * int -> 'a * int", .str "('a * int -> 'a * int) -> unit", .str "('a * int) * ''b1"] := by
  have := congrArg (List.map D.str) dues_tx
  rw [List.map_map] at this
  exact this
theorem due_eqk : D.eqks 63 [.str "('a * int) list", .str "'a * int -> 'a * int", .str "('a * int -> 'a * int) -> unit", .str "('a * int) * ''b1"] = true := by decide +kernel
theorem last_tx : lastT.tx (nmR firstRows) [] 0 = "unit list ref" := by decide +kernel
theorem pEq_sameX {neg : Bool} {a c : Addr} {ds es : List D} {xs : List PyData} {μ : Mu} {q : EQ} (ha : rdl μ a = some ds) (hc : rdl μ c = some es) (p1 : D.pds ds = some xs) (p2 : D.pds es = some xs) (g1 : PyData.canLayAll0 xs = true) (g2 : PyData.depthAll xs ≤ 63) (h : q (.bl (true != neg)) μ) : pEq neg (.ref a) (.ref c) μ q := by
  have g3 : PyData.canLay0 (.list xs) = true := by rw [PyData.canLay0]; exact g1
  have g4 : PyData.depth (.list xs) ≤ 64 := by rw [PyData.depth]; omega
  have e1 : pdM μ (.ref a) = some (.list xs) := by simp only [pdM, ha, Option.bind_some, p1, Option.map_some]
  have e2 : pdM μ (.ref c) = some (.list xs) := by simp only [pdM, hc, Option.bind_some, p2, Option.map_some]
  show onSome (pdM μ (.ref a)) _
  rw [e1, e2]
  refine ⟨shaped_of g3 g4, shaped_of g3 g4, ?_⟩
  rw [PySem.SeqAt.eqv_refl _ g3]
  exact h
theorem rng_get {n i : Nat} {x : D} (h : (rngD 0 ((n : Int)).toNat)[i]? = some x) : i < n ∧ x = .int (i : Int) := by
  have hi : i < n := by
    have := (List.getElem?_eq_some_iff.mp h).1
    rw [rngD_len] at this
    omega
  rw [Int.toNat_natCast, rngD_get hi] at h
  cases h
  exact ⟨hi, by rw [Int.zero_add]⟩
/-! ### a list of the module's own -/
section
variable {X : Cx} {a : Addr} {ns : List Int}
def pLenK (a : Addr) (n : Nat) : PRN := fun ds μ q => on1 ds fun d => d = .ref a ∧ q (.int (n : Nat)) μ
theorem qc_lenK (hS : ∀ H, SqL X.K H a (ns.map V.int)) : QC X (.builtin "len") (pLenK a ns.length) := by
  refine ⟨_, call_len_seq, fun xs ds H μ q Q ab rd h k => ?_⟩
  obtain ⟨d, e, h⟩ := on1_of h
  subst e
  obtain ⟨v, rfl, r⟩ := rds1 rd
  obtain ⟨rfl, h2⟩ := h
  refine ⟨a, _, by rw [r.ref'], .inl (hS H), ?_⟩
  rw [List.length_map]
  exact k _ _ _ _ .refl ab .int h2
def pIxK (a : Addr) (ns : List Int) : PR2 := fun d e μ q => d = .ref a ∧ onInt e fun i => onSome (atI (ns.map D.int) i) fun x => q x μ
theorem qixK (hS : ∀ H, SqL X.K H a (ns.map V.int)) : QIx X (pIxK a ns) := by
  refine ⟨_, ix_list, fun x y d e H μ q Q ab r1 r2 h k => ?_⟩
  obtain ⟨rfl, h⟩ := h
  obtain ⟨i, e1, h⟩ := onInt_of h
  subst e1
  obtain ⟨z, e2, h⟩ := onSome_of h
  obtain ⟨v, e3, r⟩ := atI_rd (RDs.ints (K := X.K) (H := H) (ns := ns)) e2
  exact ⟨a, _, i, v, r1.ref', r2.int', hS H, e3, k _ _ _ _ .refl ab r h⟩
theorem pLenK_t {n : Nat} {μ : Mu} {q : EQ} : pLenK a n [.ref a] μ q = q (.int (n : Nat)) μ := by
  show (D.ref a = .ref a ∧ _) = _
  simp only [true_and]
theorem pIxK_t {i : Int} {μ : Mu} {q : EQ} : pIxK a ns (.ref a) (.int i) μ q = onSome (atI (ns.map D.int) i) fun x => q x μ := by
  unfold pIxK
  simp only [true_and, onInt]
end
section
variable {P : Program} {w : World} {K : PySem.W.Frag} {mg : Str → Option Value} {base : Heap} {C : Addr}
def spHatK (a : Addr) (ns : List Int) : Spc := fun ds μ q => ∃ n : Nat, ds = [.ref a, .int (n : Int)] ∧ n < 1000 ∧ ∀ (h : Addr) (i j k : Int), μ h = none → q (.ref h) (mset μ h (Ht i j k))
theorem ok_hatK {a : Addr} {ns : List Int} (hS : ∀ H, SqL K H a (ns.map V.int)) (A : At K mg "_law_hat" s__law_hat ["_law_script", "_law_spot"]) (B : Bi mg) : Has P w K mg base "_law_hat" ["_law_script", "_law_spot"] 1 (spHatK a ns) := by
  refine .mk A fun f fd F => ?_
  refine qfn F sc__law_hat (by decide) ?len (fun cdv A outer s H E hr => (qss_cons (qs_set (i := 2) sc__law_hat.nd rfl (Or.inl rfl) (qe_ifExp (qt_cmp qop_lt (qv 1) (qe_callB (qc_lenK hS) (by rfl) B.len (by decide +kernel) (qa_cons (qv 0) qa_nil)) (nomark _)) (qe_ix (qixK hS) (qv 0) (qv 1)) (qe_op qop_add (qe_op qop_mul qe_int (qv 1)) qe_int)))
  (qss_cons (qs_set (i := 3) sc__law_hat.nd rfl (Or.inl rfl) (qe_op qop_mod (qe_callB qc_abs (by rfl) B.abs (by decide +kernel) (qa_cons (qe_callTy qc_int (by rfl) B.int (by decide +kernel) (qa_cons (qv 2) qa_nil)) qa_nil)) (qe_op qop_pow (qe_op qop_pow qe_int qe_int) qe_int)))
  (qss_one (qs_ret (qe_lst (qa_cons (qe_callB (qc_max rfl) (by rfl) B.max (by decide +kernel) (qa_cons qe_int (qa_cons (qe_op qop_sub (qv 3) (qe_op qop_pow qe_int qe_int)) qa_nil))) (qa_cons (qe_op qop_add (qe_op qop_add (qe_op qop_add (qe_op qop_mul (qe_op qop_mod (qv 3) qe_int) qe_int) (qe_op qop_mul qe_int (qv 1))) (qe_op qop_mul qe_int (qe_callTy qc_int (by rfl) B.int (by decide +kernel) (qa_cons (qe_cmp qop_lt (qv 2) qe_int (nomark _)) qa_nil)))) qe_int) (qa_cons qe_int qa_nil))))))))) ?body
  case len => rintro ds μ q ⟨_, rfl, _⟩; rfl
  case body =>
    rintro ds μ q ⟨n, rfl, hn, h⟩
    simp only [pLenK_t, pIxK_t, PW, Nat.reduceAdd, String.reduceEq, decide_true, decide_false, ite_true, ite_false, Bool.false_eq_true, if_true, if_false, true_and, and_true, Bool.not_true, Bool.not_false, List.length_cons, List.length_nil, reduceCtorEq, List.length_map]
    by_cases c : n < ns.length
    · have e1 : decide ((n : Int) < (ns.length : Int)) = true := by rw [decide_eq_true_iff]; omega
      have e2 : atI (ns.map D.int) (n : Int) = some (.int ns[n]) := atI_nat (by rw [List.getElem?_map, List.getElem?_eq_getElem c]; rfl)
      simp only [e1, e2, PW, Nat.reduceAdd, String.reduceEq, decide_true, decide_false, ite_true, ite_false, Bool.false_eq_true, if_true, if_false, true_and, and_true, Bool.not_true, Bool.not_false, List.length_cons, List.length_nil, reduceCtorEq, cp1, cp2, cp3, cp4, cm1, cm2, cm3, cm4, ne_eq, not_false_eq_true, show (2147483497 : Int) = 0 ↔ False by decide]
      exact fun p hp => end_of (h p _ _ _ hp)
    · have e1 : decide ((n : Int) < (ns.length : Int)) = false := by rw [decide_eq_false_iff_not]; omega
      simp only [e1, PW, Nat.reduceAdd, String.reduceEq, decide_true, decide_false, ite_true, ite_false, Bool.false_eq_true, if_true, if_false, true_and, and_true, Bool.not_true, Bool.not_false, List.length_cons, List.length_nil, reduceCtorEq, cp1, cp2, cp3, cp4, cm1, cm2, cm3, cm4, ne_eq, not_false_eq_true, show (2147483497 : Int) = 0 ↔ False by decide]
      exact fun p hp => end_of (h p _ _ _ hp)
def spLawD : Spc := fun ds μ q => ∃ (a : Addr) (ns : List Int), ds = [.ref a] ∧ rdl μ a = some (ns.map D.int) ∧ ns.length ≤ 1000 ∧ ∀ ν, q (.bl true) ν
abbrev s_law : Stmt := top 73
theorem sc_law : FnScope ["_law_script", "_law_spot", "_law_book", "_law_pair", "_law_some", "_law_told", "_law_kt", "_law_due"] ["_law_script"] (defScope s_law) := ⟨rfl, rfl, rfl, by decide +kernel, rfl, by decide +kernel, by decide +kernel⟩
set_option maxHeartbeats 4000000 in
theorem ok_law {f : Addr} {fd : FuncData} (F : Fun K "law" "law" s_law f fd) (B : Bi mg) (T : Bk K mg C) (M_Book : HasI P w K mg base "Book" C ["self"] 1 (spInit C)) (D_type_text : HasD P w K mg base "type_text" ["book", "T", "marked"] 2 ["marked"] [.tup []] 8 (spTyText C)) (D__law_hat : Has P w K mg base "_law_hat" ["_law_script", "_law_spot"] 1 spHat) (D__law_right : Has P w K mg base "_law_right" ["_law_hat_here"] 30 spRight) : FnOk P w K mg base CX0 31 f fd ["_law_script"] (raw K spLawD) := by
  refine qfn F sc_law (by decide) ?len (fun cdv A outer s H E hr => (qss_cons (qs_for PassesOwn.never rfl (qi_range1 (by rfl) B.range (qa_cons (qe_callB (qc_max rfl) (by rfl) B.max (by decide +kernel) (qa_cons qe_int (qa_cons (qe_callB (qc_min rfl) (by rfl) B.min (by decide +kernel) (qa_cons qe_int (qa_cons (qe_callB qc_len (by rfl) B.len (by decide +kernel) (qa_cons (qv 0) qa_nil)) qa_nil))) qa_nil))) qa_nil)) (qg_name (i := 1) sc_law.nd rfl (Or.inl rfl)) (qss_one (qs_if (qt_not (qt_val (qe_call D__law_right (hr.mono (by decide)) (qa_cons (qe_call D__law_hat (hr.mono (by decide)) (qa_cons (qv 0) (qa_cons (qv 1) qa_nil))) qa_nil)))) (qss_one (qs_ret qe_bl)) qss_nil)))
  (qss_cons (qs_asg (qe_tup (qa_cons (qe_make0 M_Book (hr.mono (by decide))) (qa_cons (qe_tup (qa_cons qe_str (qa_cons (qe_tup (qa_cons (qe_tup (qa_cons qe_str (qa_cons qe_int qa_nil))) (qa_cons (qe_tup (qa_cons qe_str (qa_cons qe_int (qa_cons (qe_tup qa_nil) qa_nil)))) qa_nil))) qa_nil))) qa_nil))) (qg_tup (n := 2) rfl (qgs_cons (qg_name (i := 2) sc_law.nd rfl (Or.inr rfl)) (qgs_cons (qg_name (i := 3) sc_law.nd rfl (Or.inl rfl)) qgs_nil))))
  (qss_cons (qs_set (i := 4) sc_law.nd rfl (Or.inl rfl) (qe_lst (qa_cons (qe_tup (qa_cons qe_str (qa_cons qe_int (qa_cons (qe_tup (qa_cons (qv 3) qa_nil)) qa_nil)))) (qa_cons (qe_tup (qa_cons qe_str (qa_cons (qv 3) (qa_cons (qv 3) qa_nil)))) (qa_cons (qe_tup (qa_cons qe_str (qa_cons (qe_tup (qa_cons qe_str (qa_cons (qv 3) (qa_cons (qv 3) qa_nil)))) (qa_cons (qe_tup (qa_cons qe_str (qa_cons (qe_tup qa_nil) qa_nil))) qa_nil)))) (qa_cons (qe_tup (qa_cons qe_str (qa_cons (qe_tup (qa_cons (qv 3) (qa_cons (qe_tup (qa_cons qe_str (qa_cons qe_int qa_nil))) qa_nil))) qa_nil))) qa_nil))))))
  (qss_cons (qs_setLc (i := 5) (own := [("_law_kt", 6)]) rfl sc_law.nd rfl rfl (sw_true rfl rfl rfl (by decide +kernel)) (qi_seq (qv 4)) (blkOk_by (N := ["_law_script", "_law_spot", "_law_book", "_law_pair", "_law_some", "_law_told", "_law_kt", "_law_due"]) (sc := defScope s_law) (by decide +kernel)) (fun _ _ _ _ _ => (qgw_name (i := 6) sc_law.nd rfl (Or.inl rfl))) (fun _ _ _ _ _ => qts_nil) (fun _ _ _ _ _ => (qe_callK D_type_text (hr.mono (by decide)) (qa_cons (qv 2) (qa_cons (qv 6) qa_nil)) (qk_cons (qe_tup (qa_cons qe_int qa_nil)) qk_nil))))
  (qss_cons (qs_set (i := 7) sc_law.nd rfl (Or.inl rfl) (qe_lst (qa_cons qe_str (qa_cons qe_str (qa_cons qe_str (qa_cons qe_str qa_nil))))))
  (qss_one (qs_ret (qe_and (qe_cmp (qop_eq hr.units) (qv 5) (qv 7) (nomark _)) (qe_one (qe_cmp (qop_eq hr.units) (qe_callD D_type_text (hr.mono (by decide)) (qa_cons (qv 2) (qa_cons (qe_tup (qa_cons qe_str (qa_cons qe_int (qa_cons (qe_tup (qa_cons (qe_tup (qa_cons qe_str (qa_cons qe_int (qa_cons (qe_tup (qa_cons (qe_tup (qa_cons qe_str (qa_cons (qe_tup qa_nil) qa_nil))) qa_nil)) qa_nil)))) qa_nil)) qa_nil)))) qa_nil))) qe_str (nomark _)))))))))))) ?body
  case len => rintro ds μ q ⟨_, _, rfl, _⟩; rfl
  case body =>
    rintro ds μ q ⟨a, ns, rfl, ha, hl, hq⟩
    refine cut_tail (Good := fun ss ν => ∃ x1 : Option D, ss = [some (.ref a), x1, none, none, none, none, none, none]) (fun ss ν hg => ?_) fun K hK => ?_
    ·
      obtain ⟨x1, rfl⟩ := hg
      simp only [pCallN, pCallD, List.cons_append, List.nil_append, PW, Nat.reduceAdd, String.reduceEq, decide_true, decide_false, ite_true, ite_false, Bool.false_eq_true, if_true, if_false, true_and, and_true, Bool.not_true, Bool.not_false, List.length_cons, List.length_nil, reduceCtorEq]
      intro b dx hb
      refine ⟨b, dx, rfl, mset_same, rfl, ?_⟩
      rw [mset_mset]
      have k1 : IsBook C (mset ν b (bookO C dx firstRows)) b firstRows := ⟨dx, mset_same⟩
      generalize mset ν b (bookO C dx firstRows) = ν1 at k1 ⊢
      try simp only [PW, Nat.reduceAdd, String.reduceEq, decide_true, decide_false, ite_true, ite_false, Bool.false_eq_true, if_true, if_false, true_and, and_true, Bool.not_true, Bool.not_false, List.length_cons, List.length_nil, reduceCtorEq]
      intro p hp
      rw [some_d]
      have hk : ∀ {ν' : Mu}, Mle ν1 ν' → IsBook C ν' b firstRows := fun hm => by
        obtain ⟨dx5, e5⟩ := k1
        exact ⟨dx5, hm _ _ e5⟩
      refine lc_mapf Ty.d (fun T => .str (T.tx (nmR firstRows) [27] 0)) rdl_same (fun T0 hT ky kn k => ?_) fun p2 hp2 p3 hp3 => ?_
      · simp only [lcStep, pCallN, List.cons_append, List.nil_append, PW, Nat.reduceAdd, String.reduceEq, decide_true, decide_false, ite_true, ite_false, Bool.false_eq_true, if_true, if_false, true_and, and_true, Bool.not_true, Bool.not_false, List.length_cons, List.length_nil, reduceCtorEq]
        exact ⟨b, firstRows, T0, [27], rfl, hk (.put hp), by decide, some_ok T0 hT, first_z, by decide, by simp, fun n hn => lt60 (by rw [List.mem_singleton.mp hn]; decide), k⟩
      rw [some_tx] at hp3 ⊢
      refine pEq_lists (b := true) (by rw [rdl_ne (ne_free mset_same hp3), rdl_same]) rdl_same due_eqk due_eqk (by simp) ?_
      simp only [PW, Nat.reduceAdd, String.reduceEq, decide_true, decide_false, ite_true, ite_false, Bool.false_eq_true, if_true, if_false, true_and, and_true, Bool.not_true, Bool.not_false, List.length_cons, List.length_nil, reduceCtorEq]
      refine ⟨b, firstRows, lastT, [], last_d, hk (((Mle.put hp).trans (.put hp2)).trans (.put hp3)), by decide, last_ok, first_z, by decide, .nil, fun n hn => (nomatch hn), ?_⟩
      rw [last_tx]
      try dsimp only
      rw [pEq_str]
      simp only [decide_true, PW, Nat.reduceAdd, String.reduceEq, decide_true, decide_false, ite_true, ite_false, Bool.false_eq_true, if_true, if_false, true_and, and_true, Bool.not_true, Bool.not_false, List.length_cons, List.length_nil, reduceCtorEq]
      exact end_of (hq _)
    unfold pFor piRng1
    simp only [PW, Nat.reduceAdd, String.reduceEq, decide_true, decide_false, ite_true, ite_false, Bool.false_eq_true, if_true, if_false, true_and, and_true, Bool.not_true, Bool.not_false, List.length_cons, List.length_nil, reduceCtorEq, lenD_lst ha, List.length_map]
    obtain ⟨n, hn, hn4⟩ : ∃ n : Nat, (if (if (ns.length : Int) < 4 then (ns.length : Int) else 4) > 1 then if (ns.length : Int) < 4 then (ns.length : Int) else 4 else 1) = (n : Int) ∧ n ≤ 4 := by
      by_cases c1 : (ns.length : Int) < 4
      · simp only [c1, if_true]
        by_cases c2 : (ns.length : Int) > 1
        · exact ⟨ns.length, by rw [if_pos c2], by omega⟩
        · exact ⟨1, by rw [if_neg c2]; rfl, by decide⟩
      · simp only [c1, if_false]
        exact ⟨4, rfl, by decide⟩
    rw [hn]
    refine ⟨by omega, by omega, fun i ss ν => (∃ x1 : Option D, ss = [some (.ref a), x1, none, none, none, none, none, none]) ∧ rdl ν a = some (ns.map D.int), ⟨⟨none, rfl⟩, ha⟩, fun _ _ _ _ _ => True.intro, ?_, ?_⟩
    · rintro i x ss ν hx ⟨⟨x1, rfl⟩, hν⟩
      obtain ⟨hi, rfl⟩ := rng_get hx
      simp only [PW, Nat.reduceAdd, String.reduceEq, decide_true, decide_false, ite_true, ite_false, Bool.false_eq_true, if_true, if_false, true_and, and_true, Bool.not_true, Bool.not_false, List.length_cons, List.length_nil, reduceCtorEq]
      refine ⟨a, ns, i, rfl, hν, by omega, fun h i1 j1 k1 hh => ?_⟩
      refine ⟨h, rfl, ⟨i1, j1, k1, mset_same⟩, fun ν' o => ?_⟩
      simp only [PW, Nat.reduceAdd, String.reduceEq, decide_true, decide_false, ite_true, ite_false, Bool.false_eq_true, if_true, if_false, true_and, and_true, Bool.not_true, Bool.not_false, List.length_cons, List.length_nil, reduceCtorEq]
      refine ⟨⟨_, rfl⟩, ?_⟩
      rcases of_rdl hν with e | e
      · exact rdl_lst (o.off _ _ (ne_free e hh) (by rw [mset_ne (ne_free e hh)]; exact e))
      · exact rdl_rl (o.off _ _ (ne_free e hh) (by rw [mset_ne (ne_free e hh)]; exact e))
    · rintro ss ν ⟨hs, _⟩
      exact hK ss ν hs
def spLawK (a : Addr) : Spc := fun ds μ q => ds = [.ref a] ∧ ∀ ν, q (.bl true) ν
set_option maxHeartbeats 4000000 in
theorem ok_lawK {a : Addr} {ns : List Int} (hl : ns.length ≤ 1000) (hS : ∀ H, SqL K H a (ns.map V.int)) {f : Addr} {fd : FuncData} (F : Fun K "law" "law" s_law f fd) (B : Bi mg) (T : Bk K mg C) (M_Book : HasI P w K mg base "Book" C ["self"] 1 (spInit C)) (D_type_text : HasD P w K mg base "type_text" ["book", "T", "marked"] 2 ["marked"] [.tup []] 8 (spTyText C)) (D__law_hat : Has P w K mg base "_law_hat" ["_law_script", "_law_spot"] 1 (spHatK a ns)) (D__law_right : Has P w K mg base "_law_right" ["_law_hat_here"] 30 spRight) : FnOk P w K mg base CX0 31 f fd ["_law_script"] (raw K (spLawK a)) := by
  refine qfn F sc_law (by decide) ?len (fun cdv A outer s H E hr => (qss_cons (qs_for PassesOwn.never rfl (qi_range1 (by rfl) B.range (qa_cons (qe_callB (qc_max rfl) (by rfl) B.max (by decide +kernel) (qa_cons qe_int (qa_cons (qe_callB (qc_min rfl) (by rfl) B.min (by decide +kernel) (qa_cons qe_int (qa_cons (qe_callB (qc_lenK hS) (by rfl) B.len (by decide +kernel) (qa_cons (qv 0) qa_nil)) qa_nil))) qa_nil))) qa_nil)) (qg_name (i := 1) sc_law.nd rfl (Or.inl rfl)) (qss_one (qs_if (qt_not (qt_val (qe_call D__law_right (hr.mono (by decide)) (qa_cons (qe_call D__law_hat (hr.mono (by decide)) (qa_cons (qv 0) (qa_cons (qv 1) qa_nil))) qa_nil)))) (qss_one (qs_ret qe_bl)) qss_nil)))
  (qss_cons (qs_asg (qe_tup (qa_cons (qe_make0 M_Book (hr.mono (by decide))) (qa_cons (qe_tup (qa_cons qe_str (qa_cons (qe_tup (qa_cons (qe_tup (qa_cons qe_str (qa_cons qe_int qa_nil))) (qa_cons (qe_tup (qa_cons qe_str (qa_cons qe_int (qa_cons (qe_tup qa_nil) qa_nil)))) qa_nil))) qa_nil))) qa_nil))) (qg_tup (n := 2) rfl (qgs_cons (qg_name (i := 2) sc_law.nd rfl (Or.inr rfl)) (qgs_cons (qg_name (i := 3) sc_law.nd rfl (Or.inl rfl)) qgs_nil))))
  (qss_cons (qs_set (i := 4) sc_law.nd rfl (Or.inl rfl) (qe_lst (qa_cons (qe_tup (qa_cons qe_str (qa_cons qe_int (qa_cons (qe_tup (qa_cons (qv 3) qa_nil)) qa_nil)))) (qa_cons (qe_tup (qa_cons qe_str (qa_cons (qv 3) (qa_cons (qv 3) qa_nil)))) (qa_cons (qe_tup (qa_cons qe_str (qa_cons (qe_tup (qa_cons qe_str (qa_cons (qv 3) (qa_cons (qv 3) qa_nil)))) (qa_cons (qe_tup (qa_cons qe_str (qa_cons (qe_tup qa_nil) qa_nil))) qa_nil)))) (qa_cons (qe_tup (qa_cons qe_str (qa_cons (qe_tup (qa_cons (qv 3) (qa_cons (qe_tup (qa_cons qe_str (qa_cons qe_int qa_nil))) qa_nil))) qa_nil))) qa_nil))))))
  (qss_cons (qs_setLc (i := 5) (own := [("_law_kt", 6)]) rfl sc_law.nd rfl rfl (sw_true rfl rfl rfl (by decide +kernel)) (qi_seq (qv 4)) (blkOk_by (N := ["_law_script", "_law_spot", "_law_book", "_law_pair", "_law_some", "_law_told", "_law_kt", "_law_due"]) (sc := defScope s_law) (by decide +kernel)) (fun _ _ _ _ _ => (qgw_name (i := 6) sc_law.nd rfl (Or.inl rfl))) (fun _ _ _ _ _ => qts_nil) (fun _ _ _ _ _ => (qe_callK D_type_text (hr.mono (by decide)) (qa_cons (qv 2) (qa_cons (qv 6) qa_nil)) (qk_cons (qe_tup (qa_cons qe_int qa_nil)) qk_nil))))
  (qss_cons (qs_set (i := 7) sc_law.nd rfl (Or.inl rfl) (qe_lst (qa_cons qe_str (qa_cons qe_str (qa_cons qe_str (qa_cons qe_str qa_nil))))))
  (qss_one (qs_ret (qe_and (qe_cmp (qop_eq hr.units) (qv 5) (qv 7) (nomark _)) (qe_one (qe_cmp (qop_eq hr.units) (qe_callD D_type_text (hr.mono (by decide)) (qa_cons (qv 2) (qa_cons (qe_tup (qa_cons qe_str (qa_cons qe_int (qa_cons (qe_tup (qa_cons (qe_tup (qa_cons qe_str (qa_cons qe_int (qa_cons (qe_tup (qa_cons (qe_tup (qa_cons qe_str (qa_cons (qe_tup qa_nil) qa_nil))) qa_nil)) qa_nil)))) qa_nil)) qa_nil)))) qa_nil))) qe_str (nomark _)))))))))))) ?body
  case len => rintro ds μ q ⟨rfl, _⟩; rfl
  case body =>
    rintro ds μ q ⟨rfl, hq⟩
    refine cut_tail (Good := fun ss ν => ∃ x1 : Option D, ss = [some (.ref a), x1, none, none, none, none, none, none]) (fun ss ν hg => ?_) fun K hK => ?_
    ·
      obtain ⟨x1, rfl⟩ := hg
      simp only [pCallN, pCallD, List.cons_append, List.nil_append, PW, Nat.reduceAdd, String.reduceEq, decide_true, decide_false, ite_true, ite_false, Bool.false_eq_true, if_true, if_false, true_and, and_true, Bool.not_true, Bool.not_false, List.length_cons, List.length_nil, reduceCtorEq]
      intro b dx hb
      refine ⟨b, dx, rfl, mset_same, rfl, ?_⟩
      rw [mset_mset]
      have k1 : IsBook C (mset ν b (bookO C dx firstRows)) b firstRows := ⟨dx, mset_same⟩
      generalize mset ν b (bookO C dx firstRows) = ν1 at k1 ⊢
      try simp only [PW, Nat.reduceAdd, String.reduceEq, decide_true, decide_false, ite_true, ite_false, Bool.false_eq_true, if_true, if_false, true_and, and_true, Bool.not_true, Bool.not_false, List.length_cons, List.length_nil, reduceCtorEq]
      intro p hp
      rw [some_d]
      have hk : ∀ {ν' : Mu}, Mle ν1 ν' → IsBook C ν' b firstRows := fun hm => by
        obtain ⟨dx5, e5⟩ := k1
        exact ⟨dx5, hm _ _ e5⟩
      refine lc_mapf Ty.d (fun T => .str (T.tx (nmR firstRows) [27] 0)) rdl_same (fun T0 hT ky kn k => ?_) fun p2 hp2 p3 hp3 => ?_
      · simp only [lcStep, pCallN, List.cons_append, List.nil_append, PW, Nat.reduceAdd, String.reduceEq, decide_true, decide_false, ite_true, ite_false, Bool.false_eq_true, if_true, if_false, true_and, and_true, Bool.not_true, Bool.not_false, List.length_cons, List.length_nil, reduceCtorEq]
        exact ⟨b, firstRows, T0, [27], rfl, hk (.put hp), by decide, some_ok T0 hT, first_z, by decide, by simp, fun n hn => lt60 (by rw [List.mem_singleton.mp hn]; decide), k⟩
      rw [some_tx] at hp3 ⊢
      refine pEq_lists (b := true) (by rw [rdl_ne (ne_free mset_same hp3), rdl_same]) rdl_same due_eqk due_eqk (by simp) ?_
      simp only [PW, Nat.reduceAdd, String.reduceEq, decide_true, decide_false, ite_true, ite_false, Bool.false_eq_true, if_true, if_false, true_and, and_true, Bool.not_true, Bool.not_false, List.length_cons, List.length_nil, reduceCtorEq]
      refine ⟨b, firstRows, lastT, [], last_d, hk (((Mle.put hp).trans (.put hp2)).trans (.put hp3)), by decide, last_ok, first_z, by decide, .nil, fun n hn => (nomatch hn), ?_⟩
      rw [last_tx]
      try dsimp only
      rw [pEq_str]
      simp only [decide_true, PW, Nat.reduceAdd, String.reduceEq, decide_true, decide_false, ite_true, ite_false, Bool.false_eq_true, if_true, if_false, true_and, and_true, Bool.not_true, Bool.not_false, List.length_cons, List.length_nil, reduceCtorEq]
      exact end_of (hq _)
    unfold pFor piRng1
    simp only [pLenK_t, PW, Nat.reduceAdd, String.reduceEq, decide_true, decide_false, ite_true, ite_false, Bool.false_eq_true, if_true, if_false, true_and, and_true, Bool.not_true, Bool.not_false, List.length_cons, List.length_nil, reduceCtorEq, List.length_map]
    obtain ⟨n, hn, hn4⟩ : ∃ n : Nat, (if (if (ns.length : Int) < 4 then (ns.length : Int) else 4) > 1 then if (ns.length : Int) < 4 then (ns.length : Int) else 4 else 1) = (n : Int) ∧ n ≤ 4 := by
      by_cases c1 : (ns.length : Int) < 4
      · simp only [c1, if_true]
        by_cases c2 : (ns.length : Int) > 1
        · exact ⟨ns.length, by rw [if_pos c2], by omega⟩
        · exact ⟨1, by rw [if_neg c2]; rfl, by decide⟩
      · simp only [c1, if_false]
        exact ⟨4, rfl, by decide⟩
    rw [hn]
    refine ⟨by omega, by omega, fun i ss ν => ∃ x1 : Option D, ss = [some (.ref a), x1, none, none, none, none, none, none], ⟨none, rfl⟩, fun _ _ _ _ _ => True.intro, ?_, ?_⟩
    · rintro i x ss ν hx ⟨x1, rfl⟩
      obtain ⟨hi, rfl⟩ := rng_get hx
      simp only [PW, Nat.reduceAdd, String.reduceEq, decide_true, decide_false, ite_true, ite_false, Bool.false_eq_true, if_true, if_false, true_and, and_true, Bool.not_true, Bool.not_false, List.length_cons, List.length_nil, reduceCtorEq]
      refine ⟨i, rfl, by omega, fun h i1 j1 k1 hh => ?_⟩
      refine ⟨h, rfl, ⟨i1, j1, k1, mset_same⟩, fun ν' o => ?_⟩
      simp only [PW, Nat.reduceAdd, String.reduceEq, decide_true, decide_false, ite_true, ite_false, Bool.false_eq_true, if_true, if_false, true_and, and_true, Bool.not_true, Bool.not_false, List.length_cons, List.length_nil, reduceCtorEq]
      first | exact ⟨_, rfl⟩ | rfl
    · rintro ss ν hs
      exact hK ss ν hs
end
end Pl
namespace Pl
open PySem L2
section
variable {P : Program} {w : World} {K : PySem.W.Frag} {mg : Str → Option Value} {base : Heap} {C Gs : Addr}
/-! ### all together -/
theorem hasI_of {k : Nat} {sp : Spc} {ps : List Str} {x : Str} (h : HasM P w K mg base C "__init__" ps k sp) (m : PySem.W.makesIn K C = true) (kp : PySem.W.keepIn K (.ref C) = true) (hm : mg x = some (.ref C)) : HasI P w K mg base x C ps k sp := by
  obtain ⟨f, fd, F, b, M⟩ := h
  exact ⟨f, fd, F, b, ⟨m, M.at_, M.fn, kp⟩, hm⟩
theorem kws_flat : KWS.all flatD = true := by decide +kernel
def spLaw (K : PySem.W.Frag) : Sp := fun vs H Q _ => ∃ (a : Addr) (ns : List Int), vs = [.ref a] ∧ SqL K H a (ns.map V.int) ∧ ns.length ≤ 63 ∧ ∀ H', Q (.bl true) H'
def muL (a : Addr) (ns : List Int) : Mu := fun b => if b = a then some (.rl (ns.map D.int)) else none
theorem abs_none {H : Hp} : Abs K (fun _ => none) H := fun _ _ h => nomatch h
theorem abs_L {H : Hp} {a : Addr} {ns : List Int} (h : Rd H a (.lst (ns.map V.int))) : Abs K (muL a ns) H := fun b o e => by
  unfold muL at e
  split at e
  · rename_i q
    subst q
    cases e
    exact ⟨ns.map V.int, h, RDs.ints⟩
  · cases e
theorem law_all {f : Addr} {fd : FuncData} (F : Fun K "law" "law" s_law f fd)
    (A_is_integer : At K mg "is_integer" s_is_integer ["value"])
    (A_is_whole : At K mg "is_whole" s_is_whole ["value"])
    (A_is_place : At K mg "is_place" s_is_place ["value"])
    (A_is_ascending : At K mg "is_ascending" s_is_ascending ["value"])
    (A__is_word : At K mg "_is_word" s__is_word ["value"])
    (A_is_low : At K mg "is_low" s_is_low ["value"])
    (A_is_high : At K mg "is_high" s_is_high ["value"])
    (A_children : At K mg "children" s_children ["T"])
    (A_with_children : At K mg "with_children" s_with_children ["T", "parts"])
    (A__parts_of : At K mg "_parts_of" s__parts_of ["value"])
    (A__made_in : At K mg "_made_in" s__made_in ["value"])
    (A_is_shape : At K mg "is_shape" s_is_shape ["value", "arities"])
    (A_nodes_of : At K mg "nodes_of" s_nodes_of ["T"])
    (A_outline : At K mg "outline" s_outline ["T"])
    (A_variables_in : At K mg "variables_in" s_variables_in ["T"])
    (A_replaced : At K mg "replaced" s_replaced ["T", "images"])
    (A_numbered : At K mg "numbered" s_numbered ["variables"])
    (A_is_arity : At K mg "is_arity" s_is_arity ["value"])
    (A_is_carried : At K mg "is_carried" s_is_carried ["value", "arity", "arities"])
    (A__is_outline : At K mg "_is_outline" s__is_outline ["value"])
    (A_are_constructors : At K mg "are_constructors" s_are_constructors ["value", "arity", "arities"])
    (A_check_book : At K mg "check_book" s_check_book ["book"])
    (A_is_type : At K mg "is_type" s_is_type ["book", "value"])
    (A_check_type : At K mg "check_type" s_check_type ["book", "T"])
    (A_check_marked : At K mg "check_marked" s_check_marked ["marked"])
    (A__variable_text : At K mg "_variable_text" s__variable_text ["number", "marked"])
    (A__parted : At K mg "_parted" s__parted ["types", "separator", "row"])
    (A__items_of : At K mg "_items_of" s__items_of ["book", "T", "row", "marked"])
    (A__made_items : At K mg "_made_items" s__made_items ["printed", "types"])
    (A_text_with : At K mg "text_with" s_text_with ["book", "T", "marked"])
    (A__law_hat : At K mg "_law_hat" s__law_hat ["_law_script", "_law_spot"])
    (A__law_lift : At K mg "_law_lift" s__law_lift ["_law_hat_here", "_law_total"])
    (A__law_choice : At K mg "_law_choice" s__law_choice ["_law_hat_here", "_law_items"])
    (A__law_rows : At K mg "_law_rows" s__law_rows ["_law_hat_here"])
    (A__law_table : At K mg "_law_table" s__law_table ["_law_rows_here"])
    (A__law_type : At K mg "_law_type" s__law_type ["_law_hat_here", "_law_count", "_law_deep"])
    (A__law_inner : At K mg "_law_inner" s__law_inner ["_law_kt"])
    (A__law_vars : At K mg "_law_vars" s__law_vars ["_law_kt"])
    (A__law_put : At K mg "_law_put" s__law_put ["_law_kt", "_law_types"])
    (A__law_numbered : At K mg "_law_numbered" s__law_numbered ["_law_types"])
    (A__law_letter : At K mg "_law_letter" s__law_letter ["_law_number", "_law_marked_in"])
    (A__law_closed : At K mg "_law_closed" s__law_closed ["_law_table_here", "_law_kt", "_law_marked_in"])
    (A__law_text : At K mg "_law_text" s__law_text ["_law_table_here", "_law_kt", "_law_marked_in"])
    (A__law_right : At K mg "_law_right" s__law_right ["_law_hat_here"])
    (M__row : AtM K C "_row" "Book._row" s_Book__row ["self", "stamp"])
    (M_printed : AtM K C "printed" "Book.printed" s_Book_printed ["self", "stamp"])
    (M_with_stamps : AtM K C "with_stamps" "Book.with_stamps" s_Book_with_stamps ["self", "rows"])
    (M__extended : AtM K C "_extended" "Book._extended" s_Book__extended ["self", "rows"])
    (M___init__ : AtM K C "__init__" "Book.__init__" s_Book___init__ ["self"])
    (Z___init__ : AtM K Gs "__init__" "Scheme.__init__" s_Scheme___init__ ["self", "book", "marks", "body"])
    (Z__check_body : AtM K Gs "_check_body" "Scheme._check_body" s_Scheme__check_body ["self", "book"])
    (Z_text : AtM K Gs "text" "Scheme.text" s_Scheme_text ["self", "book"])
    (T_BEYOND : Cn K mg "BEYOND" (.int BEY))
    (T_LONGEST_NAME : Cn K mg "LONGEST_NAME" (.int 8))
    (T_LOW_LETTERS : Cn K mg "LOW_LETTERS" (.str LOWL))
    (T_HIGH_LETTERS : Cn K mg "HIGH_LETTERS" (.str HIGHL))
    (T_KEYWORDS : Cn K mg "KEYWORDS" (.tup KWS))
    (T_MAX_SIZE : Cn K mg "MAX_SIZE" (.int 300))
    (T_MAX_ARITY : Cn K mg "MAX_ARITY" (.int 4))
    (T_FIRST_ROWS : Cn K mg "FIRST_ROWS" (rowsD firstRows))
    (T_NAME_ROW : Cn K mg "NAME_ROW" (.int 2))
    (T_TUPLE_ROW : Cn K mg "TUPLE_ROW" (.int 1))
    (T_FN_ROW : Cn K mg "FN_ROW" (.int 0))
    (T_Scheme : Cn K mg "Scheme" (.ref Gs))
    {am an : Addr} (A_type_text : AtD K mg "type_text" s_type_text [("marked", .ref am)]) (ham : ∀ H, SqT K H am []) (A_of : AtC K Gs "of" "Scheme.of" s_Scheme_of [("marked", .ref an)]) (S : Sk K mg Gs) (mkD : PySem.W.makesIn K Gs = true) (kpD : PySem.W.keepIn K (.ref Gs) = true) (mgD : mg "Scheme" = some (.ref Gs)) (B : Bi mg) (T : Bk K mg C) (mkC : PySem.W.makesIn K C = true) (kpC : PySem.W.keepIn K (.ref C) = true) (mgC : mg "Book" = some (.ref C)) : FnOk P w K mg base CX0 44 f fd ["_law_script"] (spLaw K) := by
  have d_int := ok_is_integer (P := P) (w := w) (base := base) A_is_integer B T_BEYOND
  have d_whole := ok_is_whole A_is_whole d_int
  have d_place := ok_is_place A_is_place B d_whole
  have d_asc := ok_asc A_is_ascending B d_place
  have d_word := ok_is_word (P := P) (w := w) (base := base) A__is_word B T_LONGEST_NAME
  have d_low := ok_is_low A_is_low B T_LOW_LETTERS T_KEYWORDS kws_flat d_word
  have d_high := ok_is_high A_is_high B T_LOW_LETTERS T_HIGH_LETTERS d_word
  have d_children := ok_children (P := P) (w := w) (base := base) A_children
  have d_with := ok_with (P := P) (w := w) (base := base) A_with_children
  have d_parts := ok_parts_of A__parts_of B d_int d_whole
  have d_made := ok_made_in A__made_in B T_MAX_SIZE d_parts
  have d_shape := ok_is_shape A_is_shape B d_made
  have d_nodes := ok_nodes A_nodes_of d_children
  have d_outl := ok_outline A_outline B d_nodes d_children
  have d_vars := ok_vars A_variables_in B d_nodes
  have d_repl := ok_replaced A_replaced B d_children d_with
  have d_numb := ok_numbered (P := P) (w := w) (base := base) A_numbered B
  have d_arity := ok_arity A_is_arity B T_MAX_ARITY d_int
  have d_car := ok_car A_is_carried B d_shape d_vars
  have d_out := ok_out A__is_outline B d_low d_arity d_asc
  have d_cons := ok_cons A_are_constructors B d_high d_car
  have m_init := ok_init (P := P) (w := w) (base := base) M___init__ B T T_FIRST_ROWS
  have i_Book := hasI_of m_init mkC kpC mgC
  have m_row := ok_row M__row B T d_int
  have m_prn := okb_printed M_printed T m_row
  have m_ext := ok_ext M__extended B T i_Book
  have m_st := ok_stamps M_with_stamps B T d_out d_cons m_ext
  have d_cb := ok_check_book (P := P) (w := w) (base := base) A_check_book B T
  have d_it := ok_is_type A_is_type T d_cb d_shape
  have d_ct := ok_check_type A_check_type d_it
  have d_hat := ok_hat (P := P) (w := w) (base := base) A__law_hat B
  have d_lift := ok_lift (P := P) (w := w) (base := base) A__law_lift B
  have d_choice := ok_choice A__law_choice B d_lift
  have d_rows := ok_rows A__law_rows B d_choice
  have d_table := ok_table (P := P) (w := w) (base := base) A__law_table B
  have d_type := ok_type A__law_type B d_lift d_choice 4
  have d_mk := ok_check_marked A_check_marked d_asc
  have d_vart := ok_vart (P := P) (w := w) (base := base) A__variable_text B T_LOW_LETTERS
  have d_parted := ok_parted (P := P) (w := w) (base := base) A__parted
  have d_mi := ok_made_items A__made_items B T_NAME_ROW T_FN_ROW d_parted
  have d_items := ok_items_of A__items_of B T T_NAME_ROW T_TUPLE_ROW T_FN_ROW d_vart d_parted d_mi m_prn
  have d_tw := ok_text_with A_text_with B T_FN_ROW d_items
  have d_tt := ok_type_text (C := C) A_type_text ham d_ct d_mk d_tw
  have z_init := ok_sinit (G := C) Z___init__ B S d_cb d_asc d_it d_vars d_outl
  have i_Sch := hasI_of z_init mkD kpD mgD
  have z_cb := ok_chk_body (G := C) Z__check_body S d_cb d_it
  have z_text := ok_stext (G := C) Z_text S z_cb d_tw
  have c_of := ok_sof (G := C) A_of B i_Sch d_ct d_mk d_vars d_numb d_repl
  have d_inner := ok_inner (P := P) (w := w) (base := base) A__law_inner
  have d_lvars := ok_lvars A__law_vars B d_inner 4
  have d_lput := ok_lput A__law_put B d_inner 4
  have d_lnum := ok_lnum A__law_numbered B d_lvars d_lput
  have d_letter := ok_letter (P := P) (w := w) (base := base) A__law_letter B
  have d_ltext := ok_ltext A__law_text B A__law_closed d_letter 4
  have d_right := ok_right A__law_right B T S T_Scheme i_Book m_st d_rows d_table d_choice d_type d_lput d_lvars d_lnum d_tt d_ltext c_of z_text
  have g := ok_law F B T i_Book d_tt d_hat d_right
  refine ⟨?_, ?_⟩
  · rintro vs H Q E ⟨a, ns, rfl, _⟩
    rfl
  · rintro A outer s H args us vs Q E hr he hb hv ⟨a, ns, rfl, hS, hl, hQ⟩
    have hl2 : ns.length ≤ 1000 := Nat.le_trans hl (by decide)
    rcases hS with hS | hS
    · refine (g.mono (by decide : 31 ≤ 44)).run A outer s H args us _ Q E hr he hb hv ⟨[.ref a], muL a ns, fun d _ => d = .bl true, .cons .ref .nil, abs_L hS, ⟨a, ns, rfl, ?_, hl2, fun _ => rfl⟩, ?_⟩
      · exact rdl_rl (by unfold muL; rw [if_pos rfl])
      · rintro v H' d μ' _ _ r rfl
        rw [r.bl']
        exact hQ H'
    · have hK : ∀ H, SqL K H a (ns.map V.int) := fun H => .inr hS
      have gK := ok_lawK hl2 hK F B T i_Book d_tt (ok_hatK hK A__law_hat B) d_right
      refine (gK.mono (by decide : 31 ≤ 44)).run A outer s H args us _ Q E hr he hb hv ⟨[.ref a], fun _ => none, fun d _ => d = .bl true, .cons .ref .nil, abs_none, ⟨rfl, fun _ => rfl⟩, ?_⟩
      rintro v H' d μ' _ _ r rfl
      rw [r.bl']
      exact hQ H'
end
/-! ### what the top has left -/
theorem at_mk {K : PySem.W.Frag} {h : Heap} {mg : Str → Option Value} {x : Str} {st : Stmt} {ps : List Str} {f : Addr} {od an : Option Addr} {sl : Array (Option Value)} {oc kV dc pm cd ct : Value} (X : K.In h) (G : h.Ns mainGlobals mg)
    (a : PySem.W.nsIn K mainGlobals x = some (some (.ref f))) (l : K.lookup f = some ⟨oc, od, .func (PySem.W.fnOf x x (defArgs st) (defBody st) (defScope st) .none kV dc pm an cd ct), sl⟩) (c : PySem.W.codeIn K cd x = true) (k : PySem.W.keepIn K (.ref f) = true)
    (b : ∀ (kV doc pm : Value) (an : Option Addr) (cdv ct : Value) (us : List Value), us.length = ps.length → bindArgs (PySem.W.fnOf x x (defArgs st) (defBody st) (defScope st) .none kV doc pm an cdv ct) ⟨us, []⟩ = pure (ps.zip us)) : At K mg x st ps :=
  ⟨f, _, fun_mk (st := st) l c k, PySem.W.mg_of X G a, (fun_mk (st := st) l c k).binds b⟩
theorem atm_mk {K : PySem.W.Frag} {x q : Str} {st : Stmt} {ps : List Str} {C f : Addr} {od an : Option Addr} {sl : Array (Option Value)} {oc kV dc pm cd ct : Value}
    (a : PySem.W.findIn K (.ref C) x = some (some (.ref f))) (i : PySem.W.isFn K (.ref f) = true) (l : K.lookup f = some ⟨oc, od, .func (PySem.W.fnOf x q (defArgs st) (defBody st) (defScope st) .none kV dc pm an cd ct), sl⟩) (c : PySem.W.codeIn K cd q = true) (k : PySem.W.keepIn K (.ref f) = true)
    (b : ∀ (kV doc pm : Value) (an : Option Addr) (cdv ct : Value) (us : List Value), us.length = ps.length → bindArgs (PySem.W.fnOf x q (defArgs st) (defBody st) (defScope st) .none kV doc pm an cdv ct) ⟨us, []⟩ = pure (ps.zip us)) : AtM K C x q st ps :=
  ⟨f, _, fun_mk (st := st) l c k, ⟨a, i, k⟩, (fun_mk (st := st) l c k).binds b⟩
theorem atd_mk {K : PySem.W.Frag} {h : Heap} {mg : Str → Option Value} {x y : Str} {st : Stmt} {f D am : Addr} {od an : Option Addr} {sl : Array (Option Value)} {oc dc pm cd ct : Value} (X : K.In h) (G : h.Ns mainGlobals mg)
    (a : PySem.W.nsIn K mainGlobals x = some (some (.ref f))) (l : K.lookup f = some ⟨oc, od, .func (PySem.W.fnOf x x (defArgs st) (defBody st) (defScope st) .none (.ref D) dc pm an cd ct), sl⟩) (c : PySem.W.codeIn K cd x = true) (k : PySem.W.keepIn K (.ref f) = true)
    (n : PySem.W.nsIn K D y = some (some (.ref am))) : AtD K mg x st [(y, .ref am)] :=
  ⟨f, _, ⟨⟨oc, od, .none, .ref D, dc, pm, an, cd, ct, sl, rfl, l, c, .inl ⟨rfl, rfl⟩, .inr ⟨D, rfl, fun q hq => by
    rw [List.mem_singleton.mp hq]
    exact ⟨_, n, rfl⟩⟩⟩, k⟩, PySem.W.mg_of X G a⟩
theorem atc_mk {K : PySem.W.Frag} {x q y : Str} {st : Stmt} {D p g E am : Addr} {rest : List Value} {od an : Option Addr} {sl : Array (Option Value)} {oc dc pm cd ct : Value} (rd : PySem.W.readsIn K D (.type "type") = true) (ga : PySem.W.specialIn K (.ref D) "__getattribute__" = some (some (.builtin "type.__getattribute__")))
    (a : PySem.W.findCls K (.ref D) (.type "type") x = some (.get (.builtin "classmethod.__get__") (.ref p) .none (.ref D))) (rc : PySem.W.recIn K p "classmethod" = some (.ref g :: rest)) (fi : PySem.W.fnIn K g = true)
    (l : K.lookup g = some ⟨oc, od, .func (PySem.W.fnOf x q (defArgs st) (defBody st) (defScope st) .none (.ref E) dc pm an cd ct), sl⟩) (c : PySem.W.codeIn K cd q = true) (k : PySem.W.keepIn K (.ref g) = true)
    (n : PySem.W.nsIn K E y = some (some (.ref am))) : AtC K D x q st [(y, .ref am)] :=
  ⟨.type "type", p, g, _, ⟨rd, ga⟩, ⟨a, ⟨rest, rc⟩, fi⟩, ⟨⟨oc, od, .none, .ref E, dc, pm, an, cd, ct, sl, rfl, l, c, .inl ⟨rfl, rfl⟩, .inr ⟨E, rfl, fun q hq => by
    rw [List.mem_singleton.mp hq]
    exact ⟨_, n, rfl⟩⟩⟩, k⟩⟩
/-- a tuple that the top has made -/
theorem tup_mk {K : PySem.W.Frag} {a : Addr} {od : Option Addr} {its : Array Value} {n : Nat} {sl : Array (Option Value)} {xs : List V} (l : K.lookup a = some ⟨.type "tuple", od, .seq its n, sl⟩) (hv : Vals xs its.toList) (hs : its.size ≤ sizeLine) : ∀ H, SqT K H a xs := fun H => .inr ⟨_, its, n, l, rfl, rfl, hs, hv⟩
theorem cn_int {K : PySem.W.Frag} {h : Heap} {mg : Str → Option Value} {x : Str} {i : Int} {t : Tok} (X : K.In h) (G : h.Ns mainGlobals mg) (e : PySem.W.nsIn K mainGlobals x = some (some (.int i t))) : Cn K mg x (.int i) := ⟨_, .int i, PySem.W.mg_of X G e, ⟨_, rfl⟩, fun _ => .int⟩
theorem cn_str {K : PySem.W.Frag} {h : Heap} {mg : Str → Option Value} {x i : Str} {t : Tok} (X : K.In h) (G : h.Ns mainGlobals mg) (e : PySem.W.nsIn K mainGlobals x = some (some (.str i t))) : Cn K mg x (.str i) := ⟨_, .str i, PySem.W.mg_of X G e, ⟨_, rfl⟩, fun _ => .str⟩
theorem cn_ref {K : PySem.W.Frag} {h : Heap} {mg : Str → Option Value} {x : Str} {a : Addr} (X : K.In h) (G : h.Ns mainGlobals mg) (e : PySem.W.nsIn K mainGlobals x = some (some (.ref a))) : Cn K mg x (.ref a) := ⟨_, .ref a, PySem.W.mg_of X G e, rfl, fun _ => .ref⟩
theorem cn_tup {K : PySem.W.Frag} {h : Heap} {mg : Str → Option Value} {x : Str} {a : Addr} {ds : List D} (X : K.In h) (G : h.Ns mainGlobals mg) (e : PySem.W.nsIn K mainGlobals x = some (some (.ref a))) (r : ∀ H, RD K H (.tup ds) (.ref a)) : Cn K mg x (.tup ds) := ⟨_, .ref a, PySem.W.mg_of X G e, rfl, r⟩
theorem off_mk {K : PySem.W.Frag} {C : Addr} {cd : ClassData} (c1 : PySem.W.clsIn K C = some cd) (c2 : PySem.W.typeIn K (.ref C) = some (.type "type")) : ∀ n : String, n ∈ ["NoneType", "str", "int", "bool", "tuple", "list", "dict"] → PySem.W.kitOne K (.type n) (.ref C) = some false := by
  have c : ((PySem.W.clsIn K C).isSome && PySem.W.typeIn K (.ref C) == some (.type "type")) = true := by
    rw [c1, c2]
    simp
  have go : ∀ (n : String) (l : List Value), fastBuiltinMro n = some l → l.contains (.ref C) = false → PySem.W.kitOne K (.type n) (.ref C) = some false := fun n l e e2 => by
    unfold PySem.W.kitOne
    rw [if_neg (by simp)]
    show (if _ then PySem.W.subIn K (.type n) (.ref C) else none) = _
    rw [if_pos c]
    show (fastBuiltinMro n).map (·.contains (.ref C)) = some false
    rw [e]
    exact congrArg some e2
  intro n hn
  simp only [List.mem_cons, List.not_mem_nil, or_false] at hn
  rcases hn with rfl | rfl | rfl | rfl | rfl | rfl | rfl
  · exact go _ [.type "NoneType", .type "object"] (by decide +kernel) (by simp)
  · exact go _ [.type "str", .type "object"] (by decide +kernel) (by simp)
  · exact go _ [.type "int", .type "object"] (by decide +kernel) (by simp)
  · exact go _ [.type "bool", .type "int", .type "object"] (by decide +kernel) (by simp)
  · exact go _ [.type "tuple", .type "object"] (by decide +kernel) (by simp)
  · exact go _ [.type "list", .type "object"] (by decide +kernel) (by simp)
  · exact go _ [.type "dict", .type "object"] (by decide +kernel) (by simp)
theorem vn {l : List V} {r : List Value} (h : Vals l r) : Vals (.non :: l) (.none :: r) := .cons rfl h
theorem vi {i : Int} {t : Tok} {l : List V} {r : List Value} (h : Vals l r) : Vals (.int i :: l) (.int i t :: r) := .cons ⟨_, rfl⟩ h
theorem vs {i : Str} {t : Tok} {l : List V} {r : List Value} (h : Vals l r) : Vals (.str i :: l) (.str i t :: r) := .cons ⟨_, rfl⟩ h
theorem vr {a : Addr} {l : List V} {r : List Value} (h : Vals l r) : Vals (.ref a :: l) (.ref a :: r) := .cons rfl h
theorem fr_mk {K : PySem.W.Frag} {h : Heap} {mg : Str → Option Value} {a0 a1 a2 a3 a4 a5 a6 a7 a8 a9 a10 a11 a12 a13 a14 a15 a16 a17 a18 a19 a20 a21 a22 a23 : Addr} {d0 d1 d2 d3 d4 d5 d6 d7 d8 d9 d10 d11 d12 d13 d14 d15 d16 d17 d18 d19 d20 d21 d22 d23 : Option Addr} {n0 n1 n2 n3 n4 n5 n6 n7 n8 n9 n10 n11 n12 n13 n14 n15 n16 n17 n18 n19 n20 n21 n22 n23 : Nat} {s0 s1 s2 s3 s4 s5 s6 s7 s8 s9 s10 s11 s12 s13 s14 s15 s16 s17 s18 s19 s20 s21 s22 s23 : Array (Option Value)} {t0 t1 t2 t3 t4 t5 t6 t7 t8 t9 t10 t11 t12 t13 t14 t15 t16 t17 t18 t19 t20 t21 t22 t23 : Tok} (X : K.In h) (G : h.Ns mainGlobals mg)
    (a : PySem.W.nsIn K mainGlobals "FIRST_ROWS" = some (some (.ref a0)))
    (l0 : K.lookup a0 = some ⟨.type "tuple", d0, .seq #[.ref a1, .ref a3, .ref a5, .ref a10, .ref a11, .ref a22] n0, s0⟩)
    (l1 : K.lookup a1 = some ⟨.type "tuple", d1, .seq #[.str "int" t0, .int 0 t1, .ref a2, .none] n1, s1⟩)
    (l2 : K.lookup a2 = some ⟨.type "tuple", d2, .seq #[] n2, s2⟩)
    (l3 : K.lookup a3 = some ⟨.type "tuple", d3, .seq #[.str "string" t2, .int 0 t3, .ref a4, .none] n3, s3⟩)
    (l4 : K.lookup a4 = some ⟨.type "tuple", d4, .seq #[] n4, s4⟩)
    (l5 : K.lookup a5 = some ⟨.type "tuple", d5, .seq #[.str "bool" t4, .int 0 t5, .ref a6, .ref a7] n5, s5⟩)
    (l6 : K.lookup a6 = some ⟨.type "tuple", d6, .seq #[] n6, s6⟩)
    (l7 : K.lookup a7 = some ⟨.type "tuple", d7, .seq #[.ref a8, .ref a9] n7, s7⟩)
    (l8 : K.lookup a8 = some ⟨.type "tuple", d8, .seq #[.str "True" t6, .none] n8, s8⟩)
    (l9 : K.lookup a9 = some ⟨.type "tuple", d9, .seq #[.str "False" t7, .none] n9, s9⟩)
    (l10 : K.lookup a10 = some ⟨.type "tuple", d10, .seq #[.str "exn" t8, .int 0 t9, .none, .none] n10, s10⟩)
    (l11 : K.lookup a11 = some ⟨.type "tuple", d11, .seq #[.str "list" t10, .int 1 t11, .ref a12, .ref a13] n11, s11⟩)
    (l12 : K.lookup a12 = some ⟨.type "tuple", d12, .seq #[.int 0 t12] n12, s12⟩)
    (l13 : K.lookup a13 = some ⟨.type "tuple", d13, .seq #[.ref a14, .ref a15] n13, s13⟩)
    (l14 : K.lookup a14 = some ⟨.type "tuple", d14, .seq #[.str "Nil" t13, .none] n14, s14⟩)
    (l15 : K.lookup a15 = some ⟨.type "tuple", d15, .seq #[.str "Cons" t14, .ref a16] n15, s15⟩)
    (l16 : K.lookup a16 = some ⟨.type "tuple", d16, .seq #[.str "tuple" t15, .ref a17] n16, s16⟩)
    (l17 : K.lookup a17 = some ⟨.type "tuple", d17, .seq #[.ref a18, .ref a19] n17, s17⟩)
    (l18 : K.lookup a18 = some ⟨.type "tuple", d18, .seq #[.str "var" t16, .int 0 t17] n18, s18⟩)
    (l19 : K.lookup a19 = some ⟨.type "tuple", d19, .seq #[.str "made" t18, .int 5 t19, .ref a20] n19, s19⟩)
    (l20 : K.lookup a20 = some ⟨.type "tuple", d20, .seq #[.ref a21] n20, s20⟩)
    (l21 : K.lookup a21 = some ⟨.type "tuple", d21, .seq #[.str "var" t20, .int 0 t21] n21, s21⟩)
    (l22 : K.lookup a22 = some ⟨.type "tuple", d22, .seq #[.str "ref" t22, .int 1 t23, .ref a23, .none] n22, s22⟩)
    (l23 : K.lookup a23 = some ⟨.type "tuple", d23, .seq #[] n23, s23⟩) : Cn K mg "FIRST_ROWS" (rowsD firstRows) :=
  cn_tup X G a fun H => (.tup (tup_mk (xs := [.ref a1, .ref a3, .ref a5, .ref a10, .ref a11, .ref a22]) l0 (vr (vr (vr (vr (vr (vr .nil)))))) (by show 6 ≤ sizeLine; decide) H) (.cons (.tup (tup_mk (xs := [.str "int", .int 0, .ref a2, .non]) l1 (vs (vi (vr (vn .nil)))) (by show 4 ≤ sizeLine; decide) H) (.cons .str (.cons .int (.cons (.tup (tup_mk (xs := []) l2 .nil (by show 0 ≤ sizeLine; decide) H) .nil) (.cons .non .nil))))) (.cons (.tup (tup_mk (xs := [.str "string", .int 0, .ref a4, .non]) l3 (vs (vi (vr (vn .nil)))) (by show 4 ≤ sizeLine; decide) H) (.cons .str (.cons .int (.cons (.tup (tup_mk (xs := []) l4 .nil (by show 0 ≤ sizeLine; decide) H) .nil) (.cons .non .nil))))) (.cons (.tup (tup_mk (xs := [.str "bool", .int 0, .ref a6, .ref a7]) l5 (vs (vi (vr (vr .nil)))) (by show 4 ≤ sizeLine; decide) H) (.cons .str (.cons .int (.cons (.tup (tup_mk (xs := []) l6 .nil (by show 0 ≤ sizeLine; decide) H) .nil) (.cons (.tup (tup_mk (xs := [.ref a8, .ref a9]) l7 (vr (vr .nil)) (by show 2 ≤ sizeLine; decide) H) (.cons (.tup (tup_mk (xs := [.str "True", .non]) l8 (vs (vn .nil)) (by show 2 ≤ sizeLine; decide) H) (.cons .str (.cons .non .nil))) (.cons (.tup (tup_mk (xs := [.str "False", .non]) l9 (vs (vn .nil)) (by show 2 ≤ sizeLine; decide) H) (.cons .str (.cons .non .nil))) .nil))) .nil))))) (.cons (.tup (tup_mk (xs := [.str "exn", .int 0, .non, .non]) l10 (vs (vi (vn (vn .nil)))) (by show 4 ≤ sizeLine; decide) H) (.cons .str (.cons .int (.cons .non (.cons .non .nil))))) (.cons (.tup (tup_mk (xs := [.str "list", .int 1, .ref a12, .ref a13]) l11 (vs (vi (vr (vr .nil)))) (by show 4 ≤ sizeLine; decide) H) (.cons .str (.cons .int (.cons (.tup (tup_mk (xs := [.int 0]) l12 (vi .nil) (by show 1 ≤ sizeLine; decide) H) (.cons .int .nil)) (.cons (.tup (tup_mk (xs := [.ref a14, .ref a15]) l13 (vr (vr .nil)) (by show 2 ≤ sizeLine; decide) H) (.cons (.tup (tup_mk (xs := [.str "Nil", .non]) l14 (vs (vn .nil)) (by show 2 ≤ sizeLine; decide) H) (.cons .str (.cons .non .nil))) (.cons (.tup (tup_mk (xs := [.str "Cons", .ref a16]) l15 (vs (vr .nil)) (by show 2 ≤ sizeLine; decide) H) (.cons .str (.cons (.tup (tup_mk (xs := [.str "tuple", .ref a17]) l16 (vs (vr .nil)) (by show 2 ≤ sizeLine; decide) H) (.cons .str (.cons (.tup (tup_mk (xs := [.ref a18, .ref a19]) l17 (vr (vr .nil)) (by show 2 ≤ sizeLine; decide) H) (.cons (.tup (tup_mk (xs := [.str "var", .int 0]) l18 (vs (vi .nil)) (by show 2 ≤ sizeLine; decide) H) (.cons .str (.cons .int .nil))) (.cons (.tup (tup_mk (xs := [.str "made", .int 5, .ref a20]) l19 (vs (vi (vr .nil))) (by show 3 ≤ sizeLine; decide) H) (.cons .str (.cons .int (.cons (.tup (tup_mk (xs := [.ref a21]) l20 (vr .nil) (by show 1 ≤ sizeLine; decide) H) (.cons (.tup (tup_mk (xs := [.str "var", .int 0]) l21 (vs (vi .nil)) (by show 2 ≤ sizeLine; decide) H) (.cons .str (.cons .int .nil))) .nil)) .nil)))) .nil))) .nil))) .nil))) .nil))) .nil))))) (.cons (.tup (tup_mk (xs := [.str "ref", .int 1, .ref a23, .non]) l22 (vs (vi (vr (vn .nil)))) (by show 4 ≤ sizeLine; decide) H) (.cons .str (.cons .int (.cons (.tup (tup_mk (xs := []) l23 .nil (by show 0 ≤ sizeLine; decide) H) .nil) (.cons .non .nil))))) .nil)))))))
theorem kw_mk {K : PySem.W.Frag} {h : Heap} {mg : Str → Option Value} {a0 : Addr} {d0 : Option Addr} {n0 : Nat} {s0 : Array (Option Value)} {t0 t1 t2 t3 t4 t5 t6 t7 t8 t9 t10 t11 t12 t13 t14 t15 t16 t17 t18 t19 t20 t21 t22 t23 t24 t25 t26 t27 t28 t29 t30 t31 t32 t33 t34 t35 t36 t37 t38 : Tok} (X : K.In h) (G : h.Ns mainGlobals mg)
    (a : PySem.W.nsIn K mainGlobals "KEYWORDS" = some (some (.ref a0)))
    (l0 : K.lookup a0 = some ⟨.type "tuple", d0, .seq #[.str "and" t0, .str "andalso" t1, .str "as" t2, .str "case" t3, .str "datatype" t4, .str "div" t5, .str "do" t6, .str "else" t7, .str "end" t8, .str "eqtype" t9, .str "exception" t10, .str "fn" t11, .str "functor" t12, .str "handle" t13, .str "if" t14, .str "in" t15, .str "include" t16, .str "let" t17, .str "mod" t18, .str "of" t19, .str "open" t20, .str "orelse" t21, .str "print" t22, .str "raise" t23, .str "read" t24, .str "rec" t25, .str "ref" t26, .str "sig" t27, .str "signature" t28, .str "struct" t29, .str "structure" t30, .str "text" t31, .str "then" t32, .str "type" t33, .str "unit" t34, .str "val" t35, .str "when" t36, .str "where" t37, .str "while" t38] n0, s0⟩) : Cn K mg "KEYWORDS" (.tup KWS) :=
  cn_tup X G a fun H => (.tup (tup_mk (xs := [.str "and", .str "andalso", .str "as", .str "case", .str "datatype", .str "div", .str "do", .str "else", .str "end", .str "eqtype", .str "exception", .str "fn", .str "functor", .str "handle", .str "if", .str "in", .str "include", .str "let", .str "mod", .str "of", .str "open", .str "orelse", .str "print", .str "raise", .str "read", .str "rec", .str "ref", .str "sig", .str "signature", .str "struct", .str "structure", .str "text", .str "then", .str "type", .str "unit", .str "val", .str "when", .str "where", .str "while"]) l0 (vs (vs (vs (vs (vs (vs (vs (vs (vs (vs (vs (vs (vs (vs (vs (vs (vs (vs (vs (vs (vs (vs (vs (vs (vs (vs (vs (vs (vs (vs (vs (vs (vs (vs (vs (vs (vs (vs (vs .nil))))))))))))))))))))))))))))))))))))))) (by show 39 ≤ sizeLine; decide) H) (.cons .str (.cons .str (.cons .str (.cons .str (.cons .str (.cons .str (.cons .str (.cons .str (.cons .str (.cons .str (.cons .str (.cons .str (.cons .str (.cons .str (.cons .str (.cons .str (.cons .str (.cons .str (.cons .str (.cons .str (.cons .str (.cons .str (.cons .str (.cons .str (.cons .str (.cons .str (.cons .str (.cons .str (.cons .str (.cons .str (.cons .str (.cons .str (.cons .str (.cons .str (.cons .str (.cons .str (.cons .str (.cons .str (.cons .str .nil))))))))))))))))))))))))))))))))))))))))
theorem walk {l : PySem.W.OpenLaw} {q : Program} {loose : List Str} {XP : (Str → Option Value) → Heap → Prop} {YP : World → Heap → Prop} {d : DefRec} {K : Params → PySem.W.Frag} (hn : l.most = some 63) (hdf : d.params.defaults = [])
    (hY : ∀ (w : World) (h : Heap), YP w h → (K w.params).In h)
    (F : ∀ (w : World) (mg : Str → Option Value) (fa : Addr) (h : Heap), (K w.params).In h → h.Ns mainGlobals mg → mg d.name = some (.ref fa) →
      ∃ fd : FuncData, (∀ (s : Shared) (u : Value), BindsTo s fd ⟨[u], []⟩ [("_law_script", u)]) ∧ ∀ base : Heap, (K w.params).In base → base.Ns mainGlobals mg → FnOk l.prog w (K w.params) mg base CX0 44 fa fd ["_law_script"] (spLaw (K w.params))) :
    PySem.W.WalkO q loose XP YP l.row.toRowW d [] (fun f vs => PySem.call f vs) :=
  L2.walk_of (n := 63) (k := 44) (x := "_law_script") (CX := fun _ => CX0) (sp := fun w => spLaw (K w.params)) hn (by decide) hdf ⟨rfl, by decide, by decide⟩ hY F
    (fun _ _ a ns hl _ hS => ⟨a, ns, rfl, hS, hl, fun _ => rfl⟩) fun _ _ _ _ _ z => z
theorem fin {l : PySem.W.OpenLaw} {w : World} {K : PySem.W.Frag} {h : Heap} {mg : Str → Option Value} {fa C Gs fL am an : Addr} {odL anL odM : Option Addr} {slL slM : Array (Option Value)} {ocL kVL dcL pmL cdL ctL : Value} {nM : Nat}
    (X : K.In h) (G : h.Ns mainGlobals mg) (hfa : mg "law" = some (.ref fa))
    (aL : PySem.W.nsIn K mainGlobals "law" = some (some (.ref fL))) (lL : K.lookup fL = some ⟨ocL, odL, .func (PySem.W.fnOf "law" "law" (defArgs s_law) (defBody s_law) (defScope s_law) .none kVL dcL pmL anL cdL ctL), slL⟩) (cL : PySem.W.codeIn K cdL "law" = true) (kL : PySem.W.keepIn K (.ref fL) = true)
    (aC : PySem.W.nsIn K mainGlobals "Book" = some (some (.ref C))) (mk : PySem.W.makesIn K C = true) (kC : PySem.W.keepIn K (.ref C) = true) (aD : PySem.W.nsIn K mainGlobals "Scheme" = some (some (.ref Gs))) (mkD : PySem.W.makesIn K Gs = true) (kD : PySem.W.keepIn K (.ref Gs) = true)
    (A_is_integer : At K mg "is_integer" s_is_integer ["value"])
    (A_is_whole : At K mg "is_whole" s_is_whole ["value"])
    (A_is_place : At K mg "is_place" s_is_place ["value"])
    (A_is_ascending : At K mg "is_ascending" s_is_ascending ["value"])
    (A__is_word : At K mg "_is_word" s__is_word ["value"])
    (A_is_low : At K mg "is_low" s_is_low ["value"])
    (A_is_high : At K mg "is_high" s_is_high ["value"])
    (A_children : At K mg "children" s_children ["T"])
    (A_with_children : At K mg "with_children" s_with_children ["T", "parts"])
    (A__parts_of : At K mg "_parts_of" s__parts_of ["value"])
    (A__made_in : At K mg "_made_in" s__made_in ["value"])
    (A_is_shape : At K mg "is_shape" s_is_shape ["value", "arities"])
    (A_nodes_of : At K mg "nodes_of" s_nodes_of ["T"])
    (A_outline : At K mg "outline" s_outline ["T"])
    (A_variables_in : At K mg "variables_in" s_variables_in ["T"])
    (A_replaced : At K mg "replaced" s_replaced ["T", "images"])
    (A_numbered : At K mg "numbered" s_numbered ["variables"])
    (A_is_arity : At K mg "is_arity" s_is_arity ["value"])
    (A_is_carried : At K mg "is_carried" s_is_carried ["value", "arity", "arities"])
    (A__is_outline : At K mg "_is_outline" s__is_outline ["value"])
    (A_are_constructors : At K mg "are_constructors" s_are_constructors ["value", "arity", "arities"])
    (A_check_book : At K mg "check_book" s_check_book ["book"])
    (A_is_type : At K mg "is_type" s_is_type ["book", "value"])
    (A_check_type : At K mg "check_type" s_check_type ["book", "T"])
    (A_check_marked : At K mg "check_marked" s_check_marked ["marked"])
    (A__variable_text : At K mg "_variable_text" s__variable_text ["number", "marked"])
    (A__parted : At K mg "_parted" s__parted ["types", "separator", "row"])
    (A__items_of : At K mg "_items_of" s__items_of ["book", "T", "row", "marked"])
    (A__made_items : At K mg "_made_items" s__made_items ["printed", "types"])
    (A_text_with : At K mg "text_with" s_text_with ["book", "T", "marked"])
    (A__law_hat : At K mg "_law_hat" s__law_hat ["_law_script", "_law_spot"])
    (A__law_lift : At K mg "_law_lift" s__law_lift ["_law_hat_here", "_law_total"])
    (A__law_choice : At K mg "_law_choice" s__law_choice ["_law_hat_here", "_law_items"])
    (A__law_rows : At K mg "_law_rows" s__law_rows ["_law_hat_here"])
    (A__law_table : At K mg "_law_table" s__law_table ["_law_rows_here"])
    (A__law_type : At K mg "_law_type" s__law_type ["_law_hat_here", "_law_count", "_law_deep"])
    (A__law_inner : At K mg "_law_inner" s__law_inner ["_law_kt"])
    (A__law_vars : At K mg "_law_vars" s__law_vars ["_law_kt"])
    (A__law_put : At K mg "_law_put" s__law_put ["_law_kt", "_law_types"])
    (A__law_numbered : At K mg "_law_numbered" s__law_numbered ["_law_types"])
    (A__law_letter : At K mg "_law_letter" s__law_letter ["_law_number", "_law_marked_in"])
    (A__law_closed : At K mg "_law_closed" s__law_closed ["_law_table_here", "_law_kt", "_law_marked_in"])
    (A__law_text : At K mg "_law_text" s__law_text ["_law_table_here", "_law_kt", "_law_marked_in"])
    (A__law_right : At K mg "_law_right" s__law_right ["_law_hat_here"])
    (M__row : AtM K C "_row" "Book._row" s_Book__row ["self", "stamp"])
    (M_printed : AtM K C "printed" "Book.printed" s_Book_printed ["self", "stamp"])
    (M_with_stamps : AtM K C "with_stamps" "Book.with_stamps" s_Book_with_stamps ["self", "rows"])
    (M__extended : AtM K C "_extended" "Book._extended" s_Book__extended ["self", "rows"])
    (M___init__ : AtM K C "__init__" "Book.__init__" s_Book___init__ ["self"])
    (Z___init__ : AtM K Gs "__init__" "Scheme.__init__" s_Scheme___init__ ["self", "book", "marks", "body"])
    (Z__check_body : AtM K Gs "_check_body" "Scheme._check_body" s_Scheme__check_body ["self", "book"])
    (Z_text : AtM K Gs "text" "Scheme.text" s_Scheme_text ["self", "book"])
    (T_BEYOND : Cn K mg "BEYOND" (.int BEY))
    (T_LONGEST_NAME : Cn K mg "LONGEST_NAME" (.int 8))
    (T_LOW_LETTERS : Cn K mg "LOW_LETTERS" (.str LOWL))
    (T_HIGH_LETTERS : Cn K mg "HIGH_LETTERS" (.str HIGHL))
    (T_KEYWORDS : Cn K mg "KEYWORDS" (.tup KWS))
    (T_MAX_SIZE : Cn K mg "MAX_SIZE" (.int 300))
    (T_MAX_ARITY : Cn K mg "MAX_ARITY" (.int 4))
    (T_FIRST_ROWS : Cn K mg "FIRST_ROWS" (rowsD firstRows))
    (T_NAME_ROW : Cn K mg "NAME_ROW" (.int 2))
    (T_TUPLE_ROW : Cn K mg "TUPLE_ROW" (.int 1))
    (T_FN_ROW : Cn K mg "FN_ROW" (.int 0))
    (T_Scheme : Cn K mg "Scheme" (.ref Gs))
    (A_type_text : AtD K mg "type_text" s_type_text [("marked", .ref am)]) (A_of : AtC K Gs "of" "Scheme.of" s_Scheme_of [("marked", .ref an)]) (S : Sk K mg Gs) (lM : K.lookup am = some ⟨.type "tuple", odM, .seq #[] nM, slM⟩) (B : Bi mg) (T : Bk K mg C) :
    ∃ fd : FuncData, (∀ (s : Shared) (v : Value), BindsTo s fd ⟨[v], []⟩ [("_law_script", v)]) ∧ ∀ base : Heap, K.In base → base.Ns mainGlobals mg → FnOk l.prog w K mg base CX0 44 fa fd ["_law_script"] (spLaw K) := by
  have e := hfa.symm.trans (PySem.W.mg_of X G aL)
  cases e
  refine ⟨PySem.W.fnOf "law" "law" (defArgs s_law) (defBody s_law) (defScope s_law) .none kVL dcL pmL anL cdL ctL, fun s v => .of_eq rfl, fun base _ _ => ?_⟩
  exact law_all (fun_mk (st := s_law) lL cL kL) A_is_integer A_is_whole A_is_place A_is_ascending A__is_word A_is_low A_is_high A_children A_with_children A__parts_of A__made_in A_is_shape A_nodes_of A_outline A_variables_in A_replaced A_numbered A_is_arity A_is_carried A__is_outline A_are_constructors A_check_book A_is_type A_check_type A_check_marked A__variable_text A__parted A__items_of A__made_items A_text_with A__law_hat A__law_lift A__law_choice A__law_rows A__law_table A__law_type A__law_inner A__law_vars A__law_put A__law_numbered A__law_letter A__law_closed A__law_text A__law_right M__row M_printed M_with_stamps M__extended M___init__ Z___init__ Z__check_body Z_text T_BEYOND T_LONGEST_NAME T_LOW_LETTERS T_HIGH_LETTERS T_KEYWORDS T_MAX_SIZE T_MAX_ARITY T_FIRST_ROWS T_NAME_ROW T_TUPLE_ROW T_FN_ROW T_Scheme A_type_text (tup_mk (xs := []) lM .nil (by show 0 ≤ sizeLine; decide)) A_of S mkD kD (PySem.W.mg_of X G aD) B T mk kC (PySem.W.mg_of X G aC)
end Pl
open PySem PySem.W PyProof.Rows
set_option maxRecDepth 100000 in
set_option maxHeartbeats 0 in
theorem PySem.Challenge.cw_letquay_k11_whole_texts_of_types_holds : PySem.Challenge.rw_letquay_k11_whole_texts_of_types.Holds := by
  w_on; o_law; k_head; (case hw => w_witness2)
  k_fill
  refine Pl.walk (l := PySem.Challenge.rw_letquay_k11_whole_texts_of_types) rfl rfl (fun w h Y => PySem.W.kIn_of Y) ?F
  case F =>
    intro w mg fa h KX G hmg
    refine' Pl.fin KX G hmg ?aL ?lL ?cL ?kL ?aC ?mk ?kC ?aD ?mkD ?kD ?A_is_integer ?A_is_whole ?A_is_place ?A_is_ascending ?A__is_word ?A_is_low ?A_is_high ?A_children ?A_with_children ?A__parts_of ?A__made_in ?A_is_shape ?A_nodes_of ?A_outline ?A_variables_in ?A_replaced ?A_numbered ?A_is_arity ?A_is_carried ?A__is_outline ?A_are_constructors ?A_check_book ?A_is_type ?A_check_type ?A_check_marked ?A__variable_text ?A__parted ?A__items_of ?A__made_items ?A_text_with ?A__law_hat ?A__law_lift ?A__law_choice ?A__law_rows ?A__law_table ?A__law_type ?A__law_inner ?A__law_vars ?A__law_put ?A__law_numbered ?A__law_letter ?A__law_closed ?A__law_text ?A__law_right ?M__row ?M_printed ?M_with_stamps ?M__extended ?M___init__ ?Z___init__ ?Z__check_body ?Z_text ?T_BEYOND ?T_LONGEST_NAME ?T_LOW_LETTERS ?T_HIGH_LETTERS ?T_KEYWORDS ?T_MAX_SIZE ?T_MAX_ARITY ?T_FIRST_ROWS ?T_NAME_ROW ?T_TUPLE_ROW ?T_FN_ROW ?T_Scheme ?A_type_text ?A_of ?S ?lM ?B ?T
    (case aL => k_is)
    (case lL => k_is)
    (case cL => k_is)
    (case kL => k_is)
    (case aC => k_is)
    (case mk => k_is)
    (case kC => k_is)
    (case aD => k_is)
    (case mkD => k_is)
    (case kD => k_is)
    (case A_type_text => refine' Pl.atd_mk KX G ?a ?l ?c ?k ?n; (case a => k_is); (case l => k_is); (case c => k_is); (case k => k_is); (case n => k_is))
    (case A_of => refine' Pl.atc_mk ?rd ?ga ?a ?rc ?fi ?l ?c ?k ?n; (case rd => k_is); (case ga => k_is); (case a => k_is); (case rc => k_is); (case fi => k_is); (case l => k_is); (case c => k_is); (case k => k_is); (case n => k_is))
    (case S => refine' ⟨?cl, ?n1, ?n2, ?n3, ?n4⟩; (case cl => refine' ⟨?_, ?_, ?_, ?_⟩ <;> k_is); (case n1 => unfold L2.NoAttr; k_is); (case n2 => unfold L2.NoAttr; k_is); (case n3 => unfold L2.NoAttr; k_is); (case n4 => unfold L2.NoAttr; k_is))
    (case lM => k_is)
    (case A_is_integer => refine' Pl.at_mk KX G ?a ?l ?c ?k ?b; (case a => k_is); (case l => k_is); (case c => k_is); (case k => k_is); (case b => exact fun _ _ _ _ _ _ us hl => match us, hl with | [_], _ => rfl))
    (case A_is_whole => refine' Pl.at_mk KX G ?a ?l ?c ?k ?b; (case a => k_is); (case l => k_is); (case c => k_is); (case k => k_is); (case b => exact fun _ _ _ _ _ _ us hl => match us, hl with | [_], _ => rfl))
    (case A_is_place => refine' Pl.at_mk KX G ?a ?l ?c ?k ?b; (case a => k_is); (case l => k_is); (case c => k_is); (case k => k_is); (case b => exact fun _ _ _ _ _ _ us hl => match us, hl with | [_], _ => rfl))
    (case A_is_ascending => refine' Pl.at_mk KX G ?a ?l ?c ?k ?b; (case a => k_is); (case l => k_is); (case c => k_is); (case k => k_is); (case b => exact fun _ _ _ _ _ _ us hl => match us, hl with | [_], _ => rfl))
    (case A__is_word => refine' Pl.at_mk KX G ?a ?l ?c ?k ?b; (case a => k_is); (case l => k_is); (case c => k_is); (case k => k_is); (case b => exact fun _ _ _ _ _ _ us hl => match us, hl with | [_], _ => rfl))
    (case A_is_low => refine' Pl.at_mk KX G ?a ?l ?c ?k ?b; (case a => k_is); (case l => k_is); (case c => k_is); (case k => k_is); (case b => exact fun _ _ _ _ _ _ us hl => match us, hl with | [_], _ => rfl))
    (case A_is_high => refine' Pl.at_mk KX G ?a ?l ?c ?k ?b; (case a => k_is); (case l => k_is); (case c => k_is); (case k => k_is); (case b => exact fun _ _ _ _ _ _ us hl => match us, hl with | [_], _ => rfl))
    (case A_children => refine' Pl.at_mk KX G ?a ?l ?c ?k ?b; (case a => k_is); (case l => k_is); (case c => k_is); (case k => k_is); (case b => exact fun _ _ _ _ _ _ us hl => match us, hl with | [_], _ => rfl))
    (case A_with_children => refine' Pl.at_mk KX G ?a ?l ?c ?k ?b; (case a => k_is); (case l => k_is); (case c => k_is); (case k => k_is); (case b => exact fun _ _ _ _ _ _ us hl => match us, hl with | [_, _], _ => rfl))
    (case A__parts_of => refine' Pl.at_mk KX G ?a ?l ?c ?k ?b; (case a => k_is); (case l => k_is); (case c => k_is); (case k => k_is); (case b => exact fun _ _ _ _ _ _ us hl => match us, hl with | [_], _ => rfl))
    (case A__made_in => refine' Pl.at_mk KX G ?a ?l ?c ?k ?b; (case a => k_is); (case l => k_is); (case c => k_is); (case k => k_is); (case b => exact fun _ _ _ _ _ _ us hl => match us, hl with | [_], _ => rfl))
    (case A_is_shape => refine' Pl.at_mk KX G ?a ?l ?c ?k ?b; (case a => k_is); (case l => k_is); (case c => k_is); (case k => k_is); (case b => exact fun _ _ _ _ _ _ us hl => match us, hl with | [_, _], _ => rfl))
    (case A_nodes_of => refine' Pl.at_mk KX G ?a ?l ?c ?k ?b; (case a => k_is); (case l => k_is); (case c => k_is); (case k => k_is); (case b => exact fun _ _ _ _ _ _ us hl => match us, hl with | [_], _ => rfl))
    (case A_outline => refine' Pl.at_mk KX G ?a ?l ?c ?k ?b; (case a => k_is); (case l => k_is); (case c => k_is); (case k => k_is); (case b => exact fun _ _ _ _ _ _ us hl => match us, hl with | [_], _ => rfl))
    (case A_variables_in => refine' Pl.at_mk KX G ?a ?l ?c ?k ?b; (case a => k_is); (case l => k_is); (case c => k_is); (case k => k_is); (case b => exact fun _ _ _ _ _ _ us hl => match us, hl with | [_], _ => rfl))
    (case A_replaced => refine' Pl.at_mk KX G ?a ?l ?c ?k ?b; (case a => k_is); (case l => k_is); (case c => k_is); (case k => k_is); (case b => exact fun _ _ _ _ _ _ us hl => match us, hl with | [_, _], _ => rfl))
    (case A_numbered => refine' Pl.at_mk KX G ?a ?l ?c ?k ?b; (case a => k_is); (case l => k_is); (case c => k_is); (case k => k_is); (case b => exact fun _ _ _ _ _ _ us hl => match us, hl with | [_], _ => rfl))
    (case A_is_arity => refine' Pl.at_mk KX G ?a ?l ?c ?k ?b; (case a => k_is); (case l => k_is); (case c => k_is); (case k => k_is); (case b => exact fun _ _ _ _ _ _ us hl => match us, hl with | [_], _ => rfl))
    (case A_is_carried => refine' Pl.at_mk KX G ?a ?l ?c ?k ?b; (case a => k_is); (case l => k_is); (case c => k_is); (case k => k_is); (case b => exact fun _ _ _ _ _ _ us hl => match us, hl with | [_, _, _], _ => rfl))
    (case A__is_outline => refine' Pl.at_mk KX G ?a ?l ?c ?k ?b; (case a => k_is); (case l => k_is); (case c => k_is); (case k => k_is); (case b => exact fun _ _ _ _ _ _ us hl => match us, hl with | [_], _ => rfl))
    (case A_are_constructors => refine' Pl.at_mk KX G ?a ?l ?c ?k ?b; (case a => k_is); (case l => k_is); (case c => k_is); (case k => k_is); (case b => exact fun _ _ _ _ _ _ us hl => match us, hl with | [_, _, _], _ => rfl))
    (case A_check_book => refine' Pl.at_mk KX G ?a ?l ?c ?k ?b; (case a => k_is); (case l => k_is); (case c => k_is); (case k => k_is); (case b => exact fun _ _ _ _ _ _ us hl => match us, hl with | [_], _ => rfl))
    (case A_is_type => refine' Pl.at_mk KX G ?a ?l ?c ?k ?b; (case a => k_is); (case l => k_is); (case c => k_is); (case k => k_is); (case b => exact fun _ _ _ _ _ _ us hl => match us, hl with | [_, _], _ => rfl))
    (case A_check_type => refine' Pl.at_mk KX G ?a ?l ?c ?k ?b; (case a => k_is); (case l => k_is); (case c => k_is); (case k => k_is); (case b => exact fun _ _ _ _ _ _ us hl => match us, hl with | [_, _], _ => rfl))
    (case A_check_marked => refine' Pl.at_mk KX G ?a ?l ?c ?k ?b; (case a => k_is); (case l => k_is); (case c => k_is); (case k => k_is); (case b => exact fun _ _ _ _ _ _ us hl => match us, hl with | [_], _ => rfl))
    (case A__variable_text => refine' Pl.at_mk KX G ?a ?l ?c ?k ?b; (case a => k_is); (case l => k_is); (case c => k_is); (case k => k_is); (case b => exact fun _ _ _ _ _ _ us hl => match us, hl with | [_, _], _ => rfl))
    (case A__parted => refine' Pl.at_mk KX G ?a ?l ?c ?k ?b; (case a => k_is); (case l => k_is); (case c => k_is); (case k => k_is); (case b => exact fun _ _ _ _ _ _ us hl => match us, hl with | [_, _, _], _ => rfl))
    (case A__items_of => refine' Pl.at_mk KX G ?a ?l ?c ?k ?b; (case a => k_is); (case l => k_is); (case c => k_is); (case k => k_is); (case b => exact fun _ _ _ _ _ _ us hl => match us, hl with | [_, _, _, _], _ => rfl))
    (case A__made_items => refine' Pl.at_mk KX G ?a ?l ?c ?k ?b; (case a => k_is); (case l => k_is); (case c => k_is); (case k => k_is); (case b => exact fun _ _ _ _ _ _ us hl => match us, hl with | [_, _], _ => rfl))
    (case A_text_with => refine' Pl.at_mk KX G ?a ?l ?c ?k ?b; (case a => k_is); (case l => k_is); (case c => k_is); (case k => k_is); (case b => exact fun _ _ _ _ _ _ us hl => match us, hl with | [_, _, _], _ => rfl))
    (case A__law_hat => refine' Pl.at_mk KX G ?a ?l ?c ?k ?b; (case a => k_is); (case l => k_is); (case c => k_is); (case k => k_is); (case b => exact fun _ _ _ _ _ _ us hl => match us, hl with | [_, _], _ => rfl))
    (case A__law_lift => refine' Pl.at_mk KX G ?a ?l ?c ?k ?b; (case a => k_is); (case l => k_is); (case c => k_is); (case k => k_is); (case b => exact fun _ _ _ _ _ _ us hl => match us, hl with | [_, _], _ => rfl))
    (case A__law_choice => refine' Pl.at_mk KX G ?a ?l ?c ?k ?b; (case a => k_is); (case l => k_is); (case c => k_is); (case k => k_is); (case b => exact fun _ _ _ _ _ _ us hl => match us, hl with | [_, _], _ => rfl))
    (case A__law_rows => refine' Pl.at_mk KX G ?a ?l ?c ?k ?b; (case a => k_is); (case l => k_is); (case c => k_is); (case k => k_is); (case b => exact fun _ _ _ _ _ _ us hl => match us, hl with | [_], _ => rfl))
    (case A__law_table => refine' Pl.at_mk KX G ?a ?l ?c ?k ?b; (case a => k_is); (case l => k_is); (case c => k_is); (case k => k_is); (case b => exact fun _ _ _ _ _ _ us hl => match us, hl with | [_], _ => rfl))
    (case A__law_type => refine' Pl.at_mk KX G ?a ?l ?c ?k ?b; (case a => k_is); (case l => k_is); (case c => k_is); (case k => k_is); (case b => exact fun _ _ _ _ _ _ us hl => match us, hl with | [_, _, _], _ => rfl))
    (case A__law_inner => refine' Pl.at_mk KX G ?a ?l ?c ?k ?b; (case a => k_is); (case l => k_is); (case c => k_is); (case k => k_is); (case b => exact fun _ _ _ _ _ _ us hl => match us, hl with | [_], _ => rfl))
    (case A__law_vars => refine' Pl.at_mk KX G ?a ?l ?c ?k ?b; (case a => k_is); (case l => k_is); (case c => k_is); (case k => k_is); (case b => exact fun _ _ _ _ _ _ us hl => match us, hl with | [_], _ => rfl))
    (case A__law_put => refine' Pl.at_mk KX G ?a ?l ?c ?k ?b; (case a => k_is); (case l => k_is); (case c => k_is); (case k => k_is); (case b => exact fun _ _ _ _ _ _ us hl => match us, hl with | [_, _], _ => rfl))
    (case A__law_numbered => refine' Pl.at_mk KX G ?a ?l ?c ?k ?b; (case a => k_is); (case l => k_is); (case c => k_is); (case k => k_is); (case b => exact fun _ _ _ _ _ _ us hl => match us, hl with | [_], _ => rfl))
    (case A__law_letter => refine' Pl.at_mk KX G ?a ?l ?c ?k ?b; (case a => k_is); (case l => k_is); (case c => k_is); (case k => k_is); (case b => exact fun _ _ _ _ _ _ us hl => match us, hl with | [_, _], _ => rfl))
    (case A__law_closed => refine' Pl.at_mk KX G ?a ?l ?c ?k ?b; (case a => k_is); (case l => k_is); (case c => k_is); (case k => k_is); (case b => exact fun _ _ _ _ _ _ us hl => match us, hl with | [_, _, _], _ => rfl))
    (case A__law_text => refine' Pl.at_mk KX G ?a ?l ?c ?k ?b; (case a => k_is); (case l => k_is); (case c => k_is); (case k => k_is); (case b => exact fun _ _ _ _ _ _ us hl => match us, hl with | [_, _, _], _ => rfl))
    (case A__law_right => refine' Pl.at_mk KX G ?a ?l ?c ?k ?b; (case a => k_is); (case l => k_is); (case c => k_is); (case k => k_is); (case b => exact fun _ _ _ _ _ _ us hl => match us, hl with | [_], _ => rfl))
    (case M__row => refine' Pl.atm_mk ?a ?i ?l ?c ?k ?b; (case a => k_is); (case i => k_is); (case l => k_is); (case c => k_is); (case k => k_is); (case b => exact fun _ _ _ _ _ _ us hl => match us, hl with | [_, _], _ => rfl))
    (case M_printed => refine' Pl.atm_mk ?a ?i ?l ?c ?k ?b; (case a => k_is); (case i => k_is); (case l => k_is); (case c => k_is); (case k => k_is); (case b => exact fun _ _ _ _ _ _ us hl => match us, hl with | [_, _], _ => rfl))
    (case M_with_stamps => refine' Pl.atm_mk ?a ?i ?l ?c ?k ?b; (case a => k_is); (case i => k_is); (case l => k_is); (case c => k_is); (case k => k_is); (case b => exact fun _ _ _ _ _ _ us hl => match us, hl with | [_, _], _ => rfl))
    (case M__extended => refine' Pl.atm_mk ?a ?i ?l ?c ?k ?b; (case a => k_is); (case i => k_is); (case l => k_is); (case c => k_is); (case k => k_is); (case b => exact fun _ _ _ _ _ _ us hl => match us, hl with | [_, _], _ => rfl))
    (case M___init__ => refine' Pl.atm_mk ?a ?i ?l ?c ?k ?b; (case a => k_is); (case i => k_is); (case l => k_is); (case c => k_is); (case k => k_is); (case b => exact fun _ _ _ _ _ _ us hl => match us, hl with | [_], _ => rfl))
    (case Z___init__ => refine' Pl.atm_mk ?a ?i ?l ?c ?k ?b; (case a => k_is); (case i => k_is); (case l => k_is); (case c => k_is); (case k => k_is); (case b => exact fun _ _ _ _ _ _ us hl => match us, hl with | [_, _, _, _], _ => rfl))
    (case Z__check_body => refine' Pl.atm_mk ?a ?i ?l ?c ?k ?b; (case a => k_is); (case i => k_is); (case l => k_is); (case c => k_is); (case k => k_is); (case b => exact fun _ _ _ _ _ _ us hl => match us, hl with | [_, _], _ => rfl))
    (case Z_text => refine' Pl.atm_mk ?a ?i ?l ?c ?k ?b; (case a => k_is); (case i => k_is); (case l => k_is); (case c => k_is); (case k => k_is); (case b => exact fun _ _ _ _ _ _ us hl => match us, hl with | [_, _], _ => rfl))
    (case T_BEYOND => rw [show Pl.BEY = 1000000000000000000000000000000000000000000000000000000000000 by decide +kernel]; refine' Pl.cn_int KX G ?e; (case e => k_is))
    (case T_LONGEST_NAME => refine' Pl.cn_int KX G ?e; (case e => k_is))
    (case T_MAX_SIZE => refine' Pl.cn_int KX G ?e; (case e => k_is))
    (case T_MAX_ARITY => refine' Pl.cn_int KX G ?e; (case e => k_is))
    (case T_NAME_ROW => refine' Pl.cn_int KX G ?e; (case e => k_is))
    (case T_TUPLE_ROW => refine' Pl.cn_int KX G ?e; (case e => k_is))
    (case T_FN_ROW => refine' Pl.cn_int KX G ?e; (case e => k_is))
    (case T_LOW_LETTERS => refine' Pl.cn_str KX G ?e; (case e => k_is))
    (case T_HIGH_LETTERS => refine' Pl.cn_str KX G ?e; (case e => k_is))
    (case T_Scheme => refine' Pl.cn_ref KX G ?e; (case e => k_is))
    (case T_KEYWORDS => refine' Pl.kw_mk KX G ?a ?l0; (case a => k_is); (case l0 => k_is))
    (case T_FIRST_ROWS => refine' Pl.fr_mk KX G ?a ?l0 ?l1 ?l2 ?l3 ?l4 ?l5 ?l6 ?l7 ?l8 ?l9 ?l10 ?l11 ?l12 ?l13 ?l14 ?l15 ?l16 ?l17 ?l18 ?l19 ?l20 ?l21 ?l22 ?l23; (case a => k_is); (case l0 => k_is); (case l1 => k_is); (case l2 => k_is); (case l3 => k_is); (case l4 => k_is); (case l5 => k_is); (case l6 => k_is); (case l7 => k_is); (case l8 => k_is); (case l9 => k_is); (case l10 => k_is); (case l11 => k_is); (case l12 => k_is); (case l13 => k_is); (case l14 => k_is); (case l15 => k_is); (case l16 => k_is); (case l17 => k_is); (case l18 => k_is); (case l19 => k_is); (case l20 => k_is); (case l21 => k_is); (case l22 => k_is); (case l23 => k_is))
    (case B => refine' ⟨mg_none_of KX G ?_, mg_none_of KX G ?_, mg_none_of KX G ?_, mg_none_of KX G ?_, mg_none_of KX G ?_, mg_none_of KX G ?_, mg_none_of KX G ?_, mg_none_of KX G ?_, mg_none_of KX G ?_, mg_none_of KX G ?_, mg_none_of KX G ?_, mg_none_of KX G ?_, mg_none_of KX G ?_, mg_none_of KX G ?_, mg_none_of KX G ?_, mg_none_of KX G ?_, mg_none_of KX G ?_, mg_none_of KX G ?_, mg_none_of KX G ?_, mg_none_of KX G ?_⟩ <;> k_is)
    (case T => refine' ⟨?cl, ?nr, ?na, ⟨?cl2, ?ha, ?hn, ?htk, ?hm, Pl.off_mk ?off1 ?off2⟩, ⟨?hm2, ?ne⟩, Pl.cn_ref KX G ?nm⟩; (case cl => refine' ⟨?_, ?_, ?_, ?_⟩ <;> k_is); (case cl2 => refine' ⟨?_, ?_, ?_, ?_⟩ <;> k_is); (case nr => unfold L2.NoAttr; k_is); (case na => unfold L2.NoAttr; k_is); (case ha => k_is); (case hn => k_is); (case htk => k_is); (case hm => k_is); (case off1 => k_is); (case off2 => k_is); (case hm2 => k_is); (case ne => k_is); (case nm => k_is))
#print axioms PySem.Challenge.cw_letquay_k11_whole_texts_of_types_holds

