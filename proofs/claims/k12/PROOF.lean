import PyProof.Rows.All
import Wide.All
import OpenK.AllK
import Wide.FinOn
import KE.KOpsOwn
import KE.KCallOwn
import HandS.ForMost
import HandS.Wide
import HandS.Property
import HandS.IsInst
import HandS.OwnEq
import HandS.Flow
import KE.KEqDict
import HandS.Walk
import HandS.Zip
import KE.GoesEnum
import HandS.Defaults
import HandS.DictComp
import HandS.More
import HandS.TupAny
import HandS.TupLe
import HandS.Star
import PyProof.WalksMore
import PyProof.TupleIter
import PyProof.CollectIter
import PyProof.Walks
import HandS.WordsDict
import HandS.MakeKwOnly
import HandS.SetTxt0
import HandS.SetBool
import HandS.TupSets
import HandS.ClsMeth
import HandS.ExcValue
import HandS.ExcInit
import HandS.ExcField
import HandS.Exc
import HandS.TryMany
import KE.KExcSuper
import KE.KExcInit
import KE.KExcPX
import PyProof.TupleOfGen
import KE.KDictSum
import KE.DataEq
import HandS.DeepEq
import HandS.FStr
import HandS.WordsExc
import HandS.ListItems
import HandS.Ends
import PySem.Challenge.RW_surelyends_k12_calls_and_ends
set_option Elab.async false
set_option linter.all false
set_option maxRecDepth 100000
set_option maxHeartbeats 4000000
/-! Operators between instances of an own class and other values -/
namespace OW
open PySem PySem.Spec PySem.W PySem.Calls PyProof.Rows
section
variable {prog : Program} {w : World} {A : Around} {E : Value → Shared → Prop} {s : Shared} {K : Frag} {x C L f g : Addr} {h₀ : Heap} {m : Str → Option Value} {ox : Obj} {od : Option Obj} {T idl : String}
/-- a built-in value in front, which declines: the reflected method -/
theorem binop_right {op : Operator} {b : Value} {Q : Value → Shared → Prop} (X : K.In s.heap) (I : InstAt s.heap x ox C od) (hb : typeOf b = pure (.type T)) (hT : s.TypeIs b T) (hc : selfFirst K C = true)
    (h0 : findIn K (.ref C) (PySem.dunder op.info.2) = some (some (.ref g))) (hs : findIn K (.ref C) (dunderR op.info.2) = some (some (.ref f))) (hf : isFn K (.ref f) = true)
    (hfT : fillsNumberSlot (.type T) op.info.2 = pure true) (hsub : subIn K (.ref C) (.type T) = some false) (hl : Slot T (PySem.dunder op.info.2) idl)
    (hd : ∀ Q' : Value → Shared → Prop, Q' .notImplemented s → wpAny (model prog w) A (call (.builtin idl) [b, .ref x]) Q' E s)
    (h : wpAny (model prog w) A (call (.ref f) [.ref x, b]) (PySem.W.CmpBack Q) E s) : wpAny (model prog w) A (binaryOp op b (.ref x)) Q E s := by
  obtain ⟨cd, rest, hcd, hm⟩ := ksp_first hc
  rcases hi : op.info with ⟨sym, nm'⟩
  rw [hi] at h0 hs hfT hl
  dsimp only at h0 hs hfT hl
  have one := ksp_try X I hs hf h
  have L1 : Looks (model prog w) s.heap (typeOf (.ref x)) (.ref C) := I.type
  have L2 : Looks (model prog w) s.heap (typeOf b) (.type T) := Looks.of_pure hb
  have L3 : Looks (model prog w) s.heap (fillsNumberSlot (.ref C) nm') true := fills_K X hcd hm h0
  have L4 : Looks (model prog w) s.heap (fillsNumberSlot (.type T) nm') true := Looks.of_pure hfT
  have L5 : Looks (model prog w) s.heap (isSubtype (.ref C) (.type T)) false := looks_subIn X hsub
  have hpy : numberSlotInPython (.type T) nm' = pure false := rfl
  have hne : (Value.type T == Value.ref C) = false := Bool.eq_false_iff.mpr fun q => by cases beq_iff_eq.mp q
  simp only [binaryOp, hi]
  refine wpAny_holding (wpAny_bind ?_)
  unfold binaryOp1
  refine wpAny_bind (L2.here (wpAny_bind (L1.here (wpAny_bind (L4.here ?_)))))
  simp only [hne, Bool.false_eq_true, if_false]
  refine wpAny_bind (L3.here ?_)
  simp only [Bool.and_self, if_true]
  refine wpAny_bind (L5.here ?_)
  simp only [Bool.false_eq_true, if_false, pure_bind, Bool.not_false, Bool.and_self, if_true, hpy]
  refine wpAny_bind (m := tryMethod b _ (.ref x)) (wpAny_tryMethod_declines hT hl (hd _ ⟨rfl, ?_⟩))
  refine wpAny_bind (m := tryMethod (.ref x) _ b) (wpAny_mono one (fun r s' hr' => ?_) fun _ _ e => e)
  obtain ⟨v, rfl, hq⟩ := hr'
  exact wpAny_bind (wpAny_rule (wpAny_pure (wpAny_pure hq)))
/-! ### == and != -/
theorem try_eq {b : Value} {Q : Value → Shared → Prop} (X : K.In s.heap) (I : InstAt s.heap x ox C od) (hs : findIn K (.ref C) "__eq__" = some (some (.ref f))) (hf : isFn K (.ref f) = true)
    (h : wpAny (model prog w) A (call (.ref f) [.ref x, b]) (PySem.W.CmpBack Q) E s) : wpAny (model prog w) A (tryCompare (.ref x) "__eq__" b) (fun r s' => ∃ v, r = some v ∧ Q v s') E s := by
  unfold tryCompare
  refine wpAny_bind (ifBound_K X I hs hf (wpAny_mono h (fun v s' hv => ?_) fun _ _ e => e))
  cases v <;> first | exact hv.elim | exact wpAny_pure ⟨_, rfl, hv⟩
theorem run_ne {b : Value} {Q : Value → Shared → Prop} (hu : A.units < cLine) (X : K.In s.heap) (I : InstAt s.heap x ox C od) (hs : findIn K (.ref C) "__eq__" = some (some (.ref f))) (hf : isFn K (.ref f) = true)
    (h : wpAny (model prog w) A (call (.ref f) [.ref x, b]) (fun v s' => ∃ r, v = .bool r ∧ Q (.bool (!r)) s') E s) :
    wpAny (model prog w) A (Builtin.«object.__ne__» ⟨[.ref x, b], []⟩) (fun fin s' => ∃ v, fin = .done (.ret v) ∧ Q v s') E s := by
  unfold Builtin.«object.__ne__»
  repeat (first
    | with_reducible refine wpAny_cRoomFor hu ?_
    | (refine wpAny_bind (m := callSpecialIfBound? (.ref x) (Str.ofString "__eq__") [b]) (ifBound_K X I hs hf (wpAny_mono h (fun v s' hv => by
        obtain ⟨r, rfl, q⟩ := hv
        repeat (first | exact ⟨_, rfl, q⟩ | exact wpAny_pure ⟨_, rfl, q⟩ | (refine wpAny_bind (m := truthy (.bool _)) (wpAny_truthy_bool ?_)) | wp_step)) fun _ _ e => e)))
    | wp_step)
theorem try_ne {b : Value} {Q : Value → Shared → Prop} (hu : A.units + 1 < cLine) (X : K.In s.heap) (I : InstAt s.heap x ox C od) (hs : findIn K (.ref C) "__eq__" = some (some (.ref f))) (hf : isFn K (.ref f) = true)
    (hn : findIn K (.ref C) "__ne__" = some (some (.builtin "object.__ne__"))) (ho : subIn K (.ref C) (.type "object") = some true)
    (h : wpAny (model prog w) A.in1 (call (.ref f) [.ref x, b]) (fun v s' => ∃ r, v = .bool r ∧ Q (.bool (!r)) s') E s) :
    wpAny (model prog w) A (tryCompare (.ref x) "__ne__" b) (fun r s' => ∃ v, r = some v ∧ Q v s' ∧ ∃ z, v = .bool z) E s := by
  have L1 : Looks (model prog w) s.heap (typeOf (.ref x)) (.ref C) := I.type
  have c : wpAny (model prog w) A (call (.builtin "object.__ne__") [.ref x, b]) (fun v s' => Q v s' ∧ ∃ z, v = .bool z) E s := by
    refine wpAny_call (codeAny_call_builtin F.cmp_object.ne.plain F.cmpEntry_ne (check_slot F.cmpKind_ne F.cmpSplit_ne (L1.andThen (looks_subIn X ho)) (F.cmpArgs_ne _ _) ?_))
    refine wpAny_mono (run_ne (A := A.in1) (Q := fun v s' => Q v s' ∧ ∃ z, v = .bool z) hu X I hs hf (wpAny_mono h (fun v s' hv => ?_) fun _ _ e => e)) (fun fin s' hv => ?_) fun _ _ z => z
    · obtain ⟨r, rfl, q⟩ := hv
      exact ⟨r, rfl, q, _, rfl⟩
    · obtain ⟨v, rfl, q⟩ := hv
      exact q
  unfold tryCompare
  refine wpAny_bind ?_
  simp only [callSpecialIfBound?, bindSpecialIfBound?]
  refine wpAny_holding (wpAny_bind (wpAny_bind (wpAny_bind (I.type.here ((looks_findIn X hn).here ?_)))))
  have fin : wpAny (model prog w) A (call (.builtin "object.__ne__") ([.ref x] ++ [b]) >>= fun v => pure (some v)) (fun r s' => ∃ v, r = some v ∧ Q v s' ∧ ∃ z, v = .bool z) E s :=
    wpAny_bind (wpAny_mono c (fun v s' h' => wpAny_pure ⟨v, rfl, h'⟩) fun _ _ h' => h')
  have hb := F.cmp_object.ne.bind (.ref x)
  refine wpAny_bind (wpAny_askSetting (wpAny_ite ?_))
  have fin2 := wpAny_mono (Q' := fun r s' => wpAny (model prog w) A (match r with | some .notImplemented => pure none | none => pure none | some v => pure (some v)) (fun r s' => ∃ v, r = some v ∧ Q v s' ∧ ∃ z, v = .bool z) E s') fin (fun r s' h' => by
    obtain ⟨v, rfl, q, z, rfl⟩ := h'
    exact wpAny_pure ⟨_, rfl, q, _, rfl⟩) fun _ _ e => e
  split
  · rw [hb]
    exact wpAny_bind (wpAny_pure (wpAny_pure fin2))
  · rw [hb]
    exact wpAny_tryCatch (wpAny_bind (wpAny_pure (wpAny_pure fin2)))
end
end OW
set_option Elab.async false
set_option linter.all false
set_option maxRecDepth 100000
set_option maxHeartbeats 4000000
namespace OW
open PySem PySem.Spec PySem.W PySem.Calls PyProof.Rows
section
variable {prog : Program} {w : World} {A : Around} {E : Value → Shared → Prop} {s : Shared} {K : Frag} {x C L f g : Addr} {h₀ : Heap} {m : Str → Option Value} {ox : Obj} {od : Option Obj} {T idl : String}
theorem ne_left {b tb : Value} {Q : Value → Shared → Prop} (hu : A.units + 1 < cLine) (X : K.In s.heap) (I : InstAt s.heap x ox C od) (hb : Looks (model prog w) s.heap (typeOf b) tb) (hnf : notFirst K C tb = true)
    (hs : findIn K (.ref C) "__eq__" = some (some (.ref f))) (hf : isFn K (.ref f) = true) (hn : findIn K (.ref C) "__ne__" = some (some (.builtin "object.__ne__"))) (ho : subIn K (.ref C) (.type "object") = some true)
    (h : wpAny (model prog w) A.in1 (call (.ref f) [.ref x, b]) (fun v s' => ∃ r, v = .bool r ∧ Q (.bool (!r)) s') E s) : wpAny (model prog w) A (richCompare .NotEq (.ref x) b) Q E s := by
  have one := try_ne hu X I hs hf hn ho h
  unfold richCompare
  simp only [oneThing_ref]
  refine wpAny_holding (wpAny_bind (wpAny_cRoomFor (Nat.lt_of_succ_lt hu) ?_))
  refine wpAny_bind (I.type.here (wpAny_bind (hb.here ?_)))
  split
  · rename_i q
    have e : subIn K tb (.ref C) = some false := by
      rcases Bool.or_eq_true_iff.mp hnf with e | e
      · rw [beq_iff_eq.mp e] at q; simp at q
      · exact beq_iff_eq.mp e
    refine wpAny_bind ((looks_subIn X e).here ?_)
    simp only [Bool.false_eq_true, if_false]
    refine wpAny_bind (wpAny_mono one (fun r s' z => ?_) fun _ _ e => e)
    obtain ⟨v, rfl, hq, _⟩ := z
    exact wpAny_pure hq
  · refine wpAny_bind (wpAny_pure ?_)
    simp only [Bool.false_eq_true, if_false]
    refine wpAny_bind (wpAny_mono one (fun r s' z => ?_) fun _ _ e => e)
    obtain ⟨v, rfl, hq, _⟩ := z
    exact wpAny_pure hq
theorem eq_right {b : Value} {Q : Value → Shared → Prop} (hu : A.units < cLine) (X : K.In s.heap) (I : InstAt s.heap x ox C od) (hT : s.TypeIs b T) (hsub : subIn K (.ref C) (.type T) = some false) (hl : Slot T "__eq__" idl)
    (hd : ∀ Q' : Value → Shared → Prop, Q' .notImplemented s → wpAny (model prog w) A (call (.builtin idl) [b, .ref x]) Q' E s)
    (hs : findIn K (.ref C) "__eq__" = some (some (.ref f))) (hf : isFn K (.ref f) = true)
    (h : wpAny (model prog w) A (call (.ref f) [.ref x, b]) (PySem.W.CmpBack Q) E s) : wpAny (model prog w) A (richCompare .Eq b (.ref x)) Q E s := by
  have one := try_eq X I hs hf h
  have hne : (Value.type T != Value.ref C) = true := by simp
  unfold richCompare
  simp only [hT.oneThing_none]
  refine wpAny_holding (wpAny_bind (wpAny_cRoomFor hu ?_))
  refine wpAny_bind (wpAny_typeOf hT (wpAny_bind (I.type.here ?_)))
  simp only [hne, if_true]
  refine wpAny_bind ((looks_subIn X hsub).here ?_)
  simp only [Bool.false_eq_true, if_false, Bool.not_false, if_true]
  refine wpAny_bind (m := tryCompare b _ (.ref x)) (wpAny_tryCompare_declines hT hl (hd _ ⟨rfl, ?_⟩))
  refine wpAny_bind (m := tryCompare (.ref x) _ b) (wpAny_mono one (fun r s' z => ?_) fun _ _ e => e)
  obtain ⟨v, rfl, hq⟩ := z
  exact wpAny_pure hq
theorem ne_right {b : Value} {Q : Value → Shared → Prop} (hu : A.units + 1 < cLine) (X : K.In s.heap) (I : InstAt s.heap x ox C od) (hT : s.TypeIs b T) (hsub : subIn K (.ref C) (.type T) = some false) (hl : Slot T "__ne__" idl)
    (hd : ∀ Q' : Value → Shared → Prop, Q' .notImplemented s → wpAny (model prog w) A (call (.builtin idl) [b, .ref x]) Q' E s)
    (hs : findIn K (.ref C) "__eq__" = some (some (.ref f))) (hf : isFn K (.ref f) = true) (hn : findIn K (.ref C) "__ne__" = some (some (.builtin "object.__ne__"))) (ho : subIn K (.ref C) (.type "object") = some true)
    (h : wpAny (model prog w) A.in1 (call (.ref f) [.ref x, b]) (fun v s' => ∃ r, v = .bool r ∧ Q (.bool (!r)) s') E s) : wpAny (model prog w) A (richCompare .NotEq b (.ref x)) Q E s := by
  have one := try_ne hu X I hs hf hn ho h
  have hne : (Value.type T != Value.ref C) = true := by simp
  unfold richCompare
  simp only [hT.oneThing_none]
  refine wpAny_holding (wpAny_bind (wpAny_cRoomFor (Nat.lt_of_succ_lt hu) ?_))
  refine wpAny_bind (wpAny_typeOf hT (wpAny_bind (I.type.here ?_)))
  simp only [hne, if_true]
  refine wpAny_bind ((looks_subIn X hsub).here ?_)
  simp only [Bool.false_eq_true, if_false, Bool.not_false, if_true]
  refine wpAny_bind (m := tryCompare b _ (.ref x)) (wpAny_tryCompare_declines hT hl (hd _ ⟨rfl, ?_⟩))
  refine wpAny_bind (m := tryCompare (.ref x) _ b) (wpAny_mono one (fun r s' z => ?_) fun _ _ e => e)
  obtain ⟨v, rfl, hq, _⟩ := z
  exact wpAny_pure hq
end
/-! ### the built-in types decline -/
section
variable {C l dx : Addr}
theorem int_eq_no (b : Int) (u : Tok) : Meets (Builtin.«int.__eq__» ⟨[.int b u, .ref l], []⟩) (fun _ R s => s.heap.get? l = some (instObj C dx) ∧ R (.ok (.ret .notImplemented)) s) :=
  .of_wp fun prog w A R s h => by obtain ⟨hp, g, d, tk, os⟩ := s; obtain ⟨hl, h⟩ := h; wp_walk using wpAny_loadPart' hl, wpAny_load hl; exact ⟨_, rfl, h⟩
theorem int_ne_no (b : Int) (u : Tok) : Meets (Builtin.«int.__ne__» ⟨[.int b u, .ref l], []⟩) (fun _ R s => s.heap.get? l = some (instObj C dx) ∧ R (.ok (.ret .notImplemented)) s) :=
  .of_wp fun prog w A R s h => by obtain ⟨hp, g, d, tk, os⟩ := s; obtain ⟨hl, h⟩ := h; wp_walk using wpAny_loadPart' hl, wpAny_load hl; exact ⟨_, rfl, h⟩
theorem int_add_no (b : Int) (u : Tok) : Meets (Builtin.«int.__add__» ⟨[.int b u, .ref l], []⟩) (fun _ R s => s.heap.get? l = some (instObj C dx) ∧ R (.ok (.ret .notImplemented)) s) :=
  .of_wp fun prog w A R s h => by obtain ⟨hp, g, d, tk, os⟩ := s; obtain ⟨hl, h⟩ := h; wp_walk using wpAny_loadPart' hl, wpAny_load hl; exact ⟨_, rfl, h⟩
theorem int_sub_no (b : Int) (u : Tok) : Meets (Builtin.«int.__sub__» ⟨[.int b u, .ref l], []⟩) (fun _ R s => s.heap.get? l = some (instObj C dx) ∧ R (.ok (.ret .notImplemented)) s) :=
  .of_wp fun prog w A R s h => by obtain ⟨hp, g, d, tk, os⟩ := s; obtain ⟨hl, h⟩ := h; wp_walk using wpAny_loadPart' hl, wpAny_load hl; exact ⟨_, rfl, h⟩
theorem int_mul_no (b : Int) (u : Tok) : Meets (Builtin.«int.__mul__» ⟨[.int b u, .ref l], []⟩) (fun _ R s => s.heap.get? l = some (instObj C dx) ∧ R (.ok (.ret .notImplemented)) s) :=
  .of_wp fun prog w A R s h => by obtain ⟨hp, g, d, tk, os⟩ := s; obtain ⟨hl, h⟩ := h; wp_walk using wpAny_loadPart' hl, wpAny_load hl; exact ⟨_, rfl, h⟩
theorem bool_eq_no (b : Bool) : Meets (Builtin.«int.__eq__» ⟨[.bool b, .ref l], []⟩) (fun _ R s => s.heap.get? l = some (instObj C dx) ∧ R (.ok (.ret .notImplemented)) s) :=
  .of_wp fun prog w A R s h => by obtain ⟨hp, g, d, tk, os⟩ := s; obtain ⟨hl, h⟩ := h; wp_walk using wpAny_loadPart' hl, wpAny_load hl; exact ⟨_, rfl, h⟩
theorem str_eq_no (b : Str) (u : Tok) : Meets (Builtin.«str.__eq__» ⟨[.str b u, .ref l], []⟩) (fun _ R s => s.heap.get? l = some (instObj C dx) ∧ R (.ok (.ret .notImplemented)) s) :=
  .of_wp fun prog w A R s h => by obtain ⟨hp, g, d, tk, os⟩ := s; obtain ⟨hl, h⟩ := h; wp_walk using wpAny_loadPart' hl, wpAny_load hl; exact ⟨_, rfl, h⟩
end
end OW
set_option Elab.async false
set_option linter.all false
set_option maxRecDepth 100000
set_option maxHeartbeats 4000000
namespace OW
open PySem PySem.Spec PySem.W PySem.Calls PyProof.Rows
open AutoSeq1 (wpAny_loadPart')
section
variable {C x l dx : Addr} {K : Frag} {od : Option Obj}
theorem list_eq_no (hs : subIn K (.ref C) (.type "list") = some false) (items : Array Value) (n : Nat) (dd : Option Addr) (sl : Array (Option Value)) : Meets (Builtin.«list.__eq__» ⟨[.ref l, .ref x], []⟩)
    (fun _ R s => s.heap.get? l = some { cls := .type "list", dict := dd, data := .seq items n, slots := sl } ∧ K.In s.heap ∧ s.heap.get? x = some (instObj C dx) ∧ R (.ok (.ret .notImplemented)) s) :=
  .of_wp fun prog w A R s h => by
    obtain ⟨hl, X, hx, h⟩ := h
    have L : Looks (model prog w) s.heap (isSubtype (.ref C) (.type "list")) false := looks_subIn X hs
    obtain ⟨hp, g, d, tk, os⟩ := s
    wp_walk using wpAny_loadPart' hl, wpAny_loadPart' hx, L.here
    exact ⟨_, rfl, h⟩
theorem tuple_eq_no (hs : subIn K (.ref C) (.type "tuple") = some false) (items : Array Value) (n : Nat) (dd : Option Addr) (sl : Array (Option Value)) : Meets (Builtin.«tuple.__eq__» ⟨[.ref l, .ref x], []⟩)
    (fun _ R s => s.heap.get? l = some { cls := .type "tuple", dict := dd, data := .seq items n, slots := sl } ∧ K.In s.heap ∧ s.heap.get? x = some (instObj C dx) ∧ R (.ok (.ret .notImplemented)) s) :=
  .of_wp fun prog w A R s h => by
    obtain ⟨hl, X, hx, h⟩ := h
    have L : Looks (model prog w) s.heap (isSubtype (.ref C) (.type "tuple")) false := looks_subIn X hs
    obtain ⟨hp, g, d, tk, os⟩ := s
    wp_walk using wpAny_loadPart' hl, wpAny_loadPart' hx, L.here
    exact ⟨_, rfl, h⟩
end
section
variable {prog : Program} {w : World} {A : Around} {E : Value → Shared → Prop} {s : Shared} {K : Frag} {x C a : Addr} {ox : Obj} {od : Option Obj}
theorem dict_eq_no {Q : Value → Shared → Prop} (hT : s.TypeIs (.ref a) "dict") (X : K.In s.heap) (I : InstAt s.heap x ox C od) (hs : subIn K (.ref C) (.type "dict") = some false) (h : Q .notImplemented s) :
    wpAny (model prog w) A (call (.builtin "dict.__eq__") [.ref a, .ref x]) Q E s := by
  have L1 : Looks (model prog w) s.heap (typeOf (.ref x)) (.ref C) := I.type
  have L : Looks (model prog w) s.heap (isInstance (.ref x) (.type "dict")) false := L1.andThen (looks_subIn X hs)
  refine wpAny_call_entry PySem.F.slot_dict_eq hT PySem.F.entry_dict_eq ?_ (PySem.F.args_dict_eq_2 _ _)
  show wpAny _ _ (Builtin.Dict.dictSlotArgs "__eq__" ⟨[.ref a, .ref x], []⟩ >>= _) _ _ s
  refine wpAny_bind ?_
  unfold Builtin.Dict.dictSlotArgs
  refine wpAny_bind (wpAny_notOrdered_dict hT ?_)
  show wpAny _ _ (pure (Value.ref a, Value.ref x)) _ _ s
  refine wpAny_pure ?_
  refine wpAny_bind (L.here ?_)
  wp_walk
  exact ⟨_, rfl, h⟩
end
end OW
set_option Elab.async false
set_option linter.all false
set_option maxRecDepth 100000
set_option maxHeartbeats 4000000
namespace L2
open PySem PySem.Spec PyProof.Rows PySem.Calls
theorem rRef (a : Addr) : RelV (.ref a) (.ref a) := rfl
theorem rInt (i : Int) (t : Tok) : RelV (.int i) (.int i t) := ⟨t, rfl⟩
/-- the class at C has this name as the def at f -/
structure Dun (K : PySem.W.Frag) (C : Addr) (nm : Str) (f : Addr) : Prop where
  at_ : PySem.W.findIn K (.ref C) nm = some (some (.ref f))
  fn : PySem.W.isFn K (.ref f) = true
section
variable {X : Cx} {CX : CXT} {k : Nat} {f C C' a : Addr} {fd : FuncData} {ps : List Str} {sp : Sp} {E : XK} {pins : List (Addr × Obj)} {σ : St} {H : Hp} {s : Shared} {Q : VK}
theorem run_sub {A : Around} {us : List Value} {vs : List V} (sb : Sub X k A) (F : FnOk X.prog X.w X.K X.mg X.base CX k f fd ps sp) (hb : Binds X.K fd ps []) (hx : Passes CX X E)
    (I : Inv X pins σ H s) (r : Vals vs us) (h : sp vs H Q E) : wpAny (model X.prog X.w) A (call (.ref f) us) (EP X pins σ Q) X.xe s := by
  have e0 : Env0 X.prog X.w X.K X.mg X.base A X.stack s H := by
    have e := I.env0
    exact ⟨by rw [sb.fr]; exact e.frames, e.mod, e.bs, e.bsz, e.funs, e.frf, e.hok, e.bare⟩
  have hl := F.len _ _ _ _ h
  refine wpAny_call (codeAny_mono (F.run A X.stack s H ⟨us, []⟩ us vs Q E sb.room e0 (by
    have := hb s us I.kIn (by rw [List.append_nil, ← r.length]; exact hl)
    rw [List.append_nil] at this
    exact this) r h) fun r s' hq => ?_)
  cases r with
  | error e => exact hx pins σ H s e s' I hq
  | ok fl =>
    cases fl with
    | ret w =>
      obtain ⟨z, H', I', rz, q⟩ := I.after hq
      exact ⟨z, H', I', rz, q⟩
    | next => exact False.elim hq
    | brk => exact False.elim hq
    | cont => exact False.elim hq
theorem back_rel {v : V} {u : Value} {s' : Shared} {R : Value → Shared → Prop} (r : RelV v u) (q : R u s') : PySem.W.CmpBack R u s' := by
  cases u
  case notImplemented =>
    cases v with
    | non => exact nomatch (show Value.notImplemented = Value.none from r)
    | bl b => exact nomatch (show Value.notImplemented = Value.bool b from r)
    | int i => obtain ⟨t, e⟩ := (show ∃ t, Value.notImplemented = Value.int i t from r); exact nomatch e
    | str x => obtain ⟨t, e⟩ := (show ∃ t, Value.notImplemented = Value.str x t from r); exact nomatch e
    | byt b => obtain ⟨t, e⟩ := (show ∃ t, Value.notImplemented = Value.bytes b t from r); exact nomatch e
    | flt b => obtain ⟨t, e⟩ := (show ∃ t, Value.notImplemented = Value.float b t from r); exact nomatch e
    | ref a => exact nomatch (show Value.notImplemented = Value.ref a from r)
    | ty n => exact nomatch (show Value.notImplemented = Value.type n from r)
  all_goals exact q
theorem ins_at {dx : Addr} {fs : List (Str × V)} (I : Inv X pins σ H s) (e : H a = some (.ins C dx fs)) : ∃ od, PySem.W.InstAt s.heap a (PySem.W.instObj C dx) C (some od) ∧ s.heap.get? a = some (PySem.W.instObj C dx) := by
  obtain ⟨mA, O, _⟩ := ins_get I.hok e
  obtain ⟨od, J, _⟩ := O.look
  exact ⟨od, J, O.obj⟩
/-- x op y, x an instance whose class has the method, y one of the same class -/
def rOw2 (C : Addr) (sp : Sp) (E : XK) : R2 := fun x y H Q => ∃ a b dx dy fs gs, x = .ref a ∧ y = .ref b ∧ H a = some (.ins C dx fs) ∧ H b = some (.ins C dy gs) ∧ sp [.ref a, .ref b] H Q E
theorem op_own2 {op : Operator} (D : Dun X.K C (PySem.dunder op.info.2) f) (hc : PySem.W.selfFirst X.K C = true) (F : FnOk X.prog X.w X.K X.mg X.base CX k f fd ps sp) (hr : Room k X.A) (hb : Binds X.K fd ps []) (hx : Passes CX X E) :
    OpR X (binaryOp op) (rOw2 C sp E) := by
  intro pins s σ H x y v u Q I rx ry ⟨a, b, dx, dy, fs, gs, ex, ey, ea, eb, h⟩
  subst ex ey
  cases (show v = .ref a from rx)
  cases (show u = .ref b from ry)
  obtain ⟨od, J, _⟩ := ins_at I ea
  obtain ⟨od', J', _⟩ := ins_at I eb
  obtain ⟨m, hF⟩ := I.fr
  exact PySem.W.binop_K hF I.ok.mod.kin J J'.type hc D.at_ D.fn (wpAny_mono (run_sub ⟨hr, rfl⟩ F hb hx I (.cons (rRef a) (.cons (rRef b) .nil)) h) (fun w' s' ⟨z, H', I', rz, q⟩ => back_rel rz ⟨z, H', I', rz, q⟩) fun _ _ e => e)
/-- x op y, y an integer -/
def rOwI (C : Addr) (sp : Sp) (E : XK) : R2 := fun x y H Q => ∃ a i dx fs, x = .ref a ∧ y = .int i ∧ H a = some (.ins C dx fs) ∧ sp [.ref a, .int i] H Q E
theorem op_ownI {op : Operator} {fo ro rc : Option Value} (D : Dun X.K C (PySem.dunder op.info.2) f) (hc : PySem.W.selfFirst X.K C = true) (hR : PySem.W.findIn X.K (.ref C) (dunderR op.info.2) = some rc) (hp : rc = none ∨ ∃ g : Addr, rc = some (.ref g))
    (h1 : PySem.W.findIn X.K (.type "int") (PySem.dunder op.info.2) = some fo) (h2 : PySem.W.findIn X.K (.type "int") (dunderR op.info.2) = some ro) (hs : PySem.W.subIn X.K (.type "int") (.ref C) = some false)
    (F : FnOk X.prog X.w X.K X.mg X.base CX k f fd ps sp) (hr : Room k X.A) (hb : Binds X.K fd ps []) (hx : Passes CX X E) : OpR X (binaryOp op) (rOwI C sp E) := by
  intro pins s σ H x y v u Q I rx ry ⟨a, i, dx, fs, ex, ey, ea, h⟩
  subst ex ey
  cases (show v = .ref a from rx)
  obtain ⟨t, rfl⟩ := (show ∃ t, u = Value.int i t from ry)
  obtain ⟨od, J, _⟩ := ins_at I ea
  obtain ⟨m, hF⟩ := I.fr
  exact PySem.W.ksp_binT hF I.ok.mod.kin J rfl hc D.at_ D.fn hR hp h1 h2 hs (wpAny_mono (run_sub ⟨hr, rfl⟩ F hb hx I (.cons (rRef a) (.cons (rInt i t) .nil)) h) (fun w' s' ⟨z, H', I', rz, q⟩ => back_rel rz ⟨z, H', I', rz, q⟩) fun _ _ e => e)
/-- i op x, i an integer: the reflected method -/
def rIOw (C : Addr) (sp : Sp) (E : XK) : R2 := fun x y H Q => ∃ a i dx fs, x = .int i ∧ y = .ref a ∧ H a = some (.ins C dx fs) ∧ sp [.ref a, .int i] H Q E
theorem op_Iown {op : Operator} {g : Addr} {idl : String} {B : Builtin} (D0 : Dun X.K C (PySem.dunder op.info.2) g) (D : Dun X.K C (dunderR op.info.2) f) (hc : PySem.W.selfFirst X.K C = true)
    (hfT : fillsNumberSlot (.type "int") op.info.2 = pure true) (hl : Slot "int" (PySem.dunder op.info.2) idl) (en : entryFor table idl = some B) (ar : ∀ x y, argsOk idl ⟨[x, y], []⟩)
    (no : ∀ (i : Int) (t : Tok) (l dx : Addr), Meets (B ⟨[.int i t, .ref l], []⟩) (fun _ R s => s.heap.get? l = some (PySem.W.instObj C dx) ∧ R (.ok (.ret .notImplemented)) s)) (hs : PySem.W.subIn X.K (.ref C) (.type "int") = some false)
    (F : FnOk X.prog X.w X.K X.mg X.base CX k f fd ps sp) (hr : Room k X.A) (hb : Binds X.K fd ps []) (hx : Passes CX X E) : OpR X (binaryOp op) (rIOw C sp E) := by
  intro pins s σ H x y v u Q I rx ry ⟨a, i, dx, fs, ex, ey, ea, h⟩
  subst ex ey
  cases (show u = .ref a from ry)
  obtain ⟨t, rfl⟩ := (show ∃ t, v = Value.int i t from rx)
  obtain ⟨od, J, O⟩ := ins_at I ea
  refine OW.binop_right I.kIn J rfl (typeIs_int s i t) hc D0.at_ D.at_ D.fn hfT hs hl (fun Q' q' => call_meets hl (typeIs_int s i t) en (ar _ _) (no i t a dx) ⟨O, q'⟩) ?_
  exact wpAny_mono (run_sub ⟨hr, rfl⟩ F hb hx I (.cons (rRef a) (.cons (rInt i t) .nil)) h) (fun w' s' ⟨z, H', I', rz, q⟩ => back_rel rz ⟨z, H', I', rz, q⟩) fun _ _ e => e
/-- -x -/
def rNeg (C : Addr) (sp : Sp) (E : XK) : V → Hp → VK → Prop := fun x H Q => ∃ a dx fs, x = .ref a ∧ H a = some (.ins C dx fs) ∧ sp [.ref a] H Q E
theorem un_own (D : Dun X.K C "__neg__" f) (F : FnOk X.prog X.w X.K X.mg X.base CX k f fd ps sp) (hr : Room k X.A) (hb : Binds X.K fd ps []) (hx : Passes CX X E) : UnR X (unaryOp .USub) (rNeg C sp E) := by
  intro pins s σ H x v Q I rx ⟨a, dx, fs, ex, ea, h⟩
  subst ex
  cases (show v = .ref a from rx)
  obtain ⟨od, J, _⟩ := ins_at I ea
  obtain ⟨m, hF⟩ := I.fr
  exact PySem.W.ksp_neg hF I.ok.mod.kin J D.at_ D.fn (run_sub ⟨hr, rfl⟩ F hb hx I (.cons (rRef a) .nil) h)
/-- abs(x) -/
def rAbs (C : Addr) (sp : Sp) (E : XK) : List V → Hp → VK → Prop := fun xs H Q => ∃ a dx fs, xs = [.ref a] ∧ H a = some (.ins C dx fs) ∧ sp [.ref a] H Q E
theorem call_absOwn (D : Dun X.K C "__abs__" f) (F : FnOk X.prog X.w X.K X.mg X.base CX k f fd ps sp) (hr : Room (k + 1) X.A) (hb : Binds X.K fd ps []) (hx : Passes CX X E) : CallR X (.builtin "abs") (rAbs C sp E) := by
  intro pins s σ H xs us Q I r ⟨a, dx, fs, ex, ea, h⟩
  subst ex
  obtain ⟨u, rfl, ru⟩ := vals1 r
  cases (show u = .ref a from ru)
  obtain ⟨od, J, _⟩ := ins_at I ea
  refine call_function_entry kind_abs plain_abs entry_abs (args_abs _) ?_
  unfold Builtin.«abs»
  refine wpAny_bind (m := oneArg "abs" _) (wpAny_pure ?_)
  refine wpAny_bind (m := callSpecial? (.ref a) (Str.ofString "__abs__")) (PySem.W.special_fn I.kIn J D.at_ (beq_iff_eq.mp D.fn) (wpAny_mono (run_sub ⟨hr.in1, rfl⟩ F hb hx I (.cons (rRef a) .nil) h) (fun w' s' z => ?_) fun _ _ e => e))
  exact wpAny_pure ⟨_, rfl, z⟩
/-- str(x) -/
def rStr (C : Addr) (sp : Sp) (E : XK) : List V → Hp → VK → Prop := fun xs H Q => ∃ a dx fs, xs = [.ref a] ∧ H a = some (.ins C dx fs) ∧ sp [.ref a] H (fun z H' => (∃ t, z = .str t) ∧ Q z H') E
theorem call_strOwn (D : Dun X.K C "__str__" f) (F : FnOk X.prog X.w X.K X.mg X.base CX k f fd ps sp) (hr : Room (k + 2) X.A) (hb : Binds X.K fd ps []) (hx : Passes CX X E) : CallR X (.type "str") (rStr C sp E) := by
  intro pins s σ H xs us Q I r ⟨a, dx, fs, ex, ea, h⟩
  subst ex
  obtain ⟨u, rfl, ru⟩ := vals1 r
  cases (show u = .ref a from ru)
  obtain ⟨od, J, _⟩ := ins_at I ea
  refine PySem.W.kso_call hr.in1.in1.units0 I.kIn J D.at_ D.fn (wpAny_mono (run_sub ⟨hr.in1.in1, rfl⟩ F hb hx I (.cons (rRef a) .nil) h) (fun w' s' ⟨z, H', I', rz, ⟨t, ez⟩, q⟩ => ?_) fun _ _ e => e)
  subst ez
  obtain ⟨tk, rfl⟩ := (show ∃ tk, w' = Value.str t tk from rz)
  exact ⟨_, H', I', rz, q⟩
end
end L2
set_option Elab.async false
set_option linter.all false
set_option maxRecDepth 100000
set_option maxHeartbeats 4000000
namespace L2
open PySem PySem.Spec PyProof.Rows PySem.Calls
section
variable {X : Cx} {CX : CXT} {k : Nat} {f C a : Addr} {fd : FuncData} {ps : List Str} {sp : Sp} {E : XK} {pins : List (Addr × Obj)} {σ : St} {H : Hp} {s : Shared} {Q : VK}
/-- x == y, x an instance whose class has __eq__ -/
def rEqL (K : PySem.W.Frag) (C : Addr) (sp : Sp) (E : XK) : R2 := fun x y H Q => ∃ a dx fs t, x = .ref a ∧ H a = some (.ins C dx fs) ∧ TyX K H y t ∧ PySem.W.notFirst K C t = true ∧ sp [.ref a, y] H Q E
theorem op_eqL (D : Dun X.K C "__eq__" f) (F : FnOk X.prog X.w X.K X.mg X.base CX k f fd ps sp) (hr : Room k X.A) (hb : Binds X.K fd ps []) (hx : Passes CX X E) : OpR X (compareOp .Eq) (rEqL X.K C sp E) := by
  intro pins s σ H x y v u Q I rx ry ⟨a, dx, fs, t, ex, ea, ty, hn, h⟩
  subst ex
  cases (show v = .ref a from rx)
  obtain ⟨od, J, _⟩ := ins_at I ea
  obtain ⟨m, hF⟩ := I.fr
  obtain ⟨P, Z, p, _⟩ := kit_of I ry ty
  exact PySem.W.cmp_K (op := .Eq) (tb := t) hr.units0 hF I.ok.mod.kin J (Z.ty _ _ I.kIn p) hn D.at_ D.fn (wpAny_mono (run_sub ⟨hr, rfl⟩ F hb hx I (.cons (rRef a) (.cons ry .nil)) h) (fun w' s' ⟨z, H', I', rz, q⟩ => back_rel rz ⟨z, H', I', rz, q⟩) fun _ _ e => e)
/-- x != y, by the class's __eq__ -/
def rNeL (K : PySem.W.Frag) (C : Addr) (sp : Sp) (E : XK) : R2 := fun x y H Q => ∃ a dx fs t, x = .ref a ∧ H a = some (.ins C dx fs) ∧ TyX K H y t ∧ PySem.W.notFirst K C t = true ∧ sp [.ref a, y] H (fun z H' => ∃ r, z = .bl r ∧ Q (.bl (!r)) H') E
structure NeOf (K : PySem.W.Frag) (C : Addr) : Prop where
  ne : PySem.W.findIn K (.ref C) "__ne__" = some (some (.builtin "object.__ne__"))
  ob : PySem.W.subIn K (.ref C) (.type "object") = some true
theorem op_neL (D : Dun X.K C "__eq__" f) (N : NeOf X.K C) (F : FnOk X.prog X.w X.K X.mg X.base CX k f fd ps sp) (hr : Room (k + 1) X.A) (hb : Binds X.K fd ps []) (hx : Passes CX X E) : OpR X (compareOp .NotEq) (rNeL X.K C sp E) := by
  intro pins s σ H x y v u Q I rx ry ⟨a, dx, fs, t, ex, ea, ty, hn, h⟩
  subst ex
  cases (show v = .ref a from rx)
  obtain ⟨od, J, _⟩ := ins_at I ea
  obtain ⟨P, Z, p, _⟩ := kit_of I ry ty
  refine OW.ne_left (by have := hr.un; omega) I.kIn J (Z.ty _ _ I.kIn p) hn D.at_ D.fn N.ne N.ob (wpAny_mono (run_sub ⟨hr.in1, rfl⟩ F hb hx I (.cons (rRef a) (.cons ry .nil)) h) (fun w' s' ⟨z, H', I', rz, r, ez, q⟩ => ?_) fun _ _ e => e)
  subst ez
  cases (show w' = .bool r from rz)
  exact ⟨r, rfl, .bl (!r), H', I', rfl, q⟩
/-- a value of a built-in type, which declines when it is compared with an instance -/
inductive Odd (K : PySem.W.Frag) (H : Hp) : V → String → Prop where
  | non : Odd K H .non "NoneType"
  | bl (b : Bool) : Odd K H (.bl b) "bool"
  | int (i : Int) : Odd K H (.int i) "int"
  | str (x : Str) : Odd K H (.str x) "str"
  | lst {a : Addr} {xs : List V} (e : H a = some (.lst xs)) : Odd K H (.ref a) "list"
  | tup {a : Addr} {xs : List V} (e : H a = some (.tup xs)) : Odd K H (.ref a) "tuple"
  | dK {a : Addr} {kvs : List (Key × V)} (e : H a = some (.dK kvs)) : Odd K H (.ref a) "dict"
theorem Odd.ty {K : PySem.W.Frag} {x : V} {T : String} (o : Odd K H x T) : TyX K H x (.type T) := by
  cases o with
  | non => exact .base .non
  | bl b => exact .base (.bl b)
  | int i => exact .base (.int i)
  | str y => exact .base (.str y)
  | lst e => exact .base (.lst e)
  | tup e => exact .base (.tup e)
  | dK e => exact .base (.dK e)
/-- y == x, y such a value -/
def rEqR (K : PySem.W.Frag) (C : Addr) (sp : Sp) (E : XK) : R2 := fun x y H Q => ∃ a dx fs T, y = .ref a ∧ H a = some (.ins C dx fs) ∧ Odd K H x T ∧ PySem.W.subIn K (.ref C) (.type T) = some false ∧ sp [.ref a, x] H Q E
theorem op_eqR (D : Dun X.K C "__eq__" f) (F : FnOk X.prog X.w X.K X.mg X.base CX k f fd ps sp) (hr : Room k X.A) (hb : Binds X.K fd ps []) (hx : Passes CX X E) : OpR X (compareOp .Eq) (rEqR X.K C sp E) := by
  intro pins s σ H x y v u Q I rx ry ⟨a, dx, fs, T, ey, ea, od', hs, h⟩
  subst ey
  cases (show u = .ref a from ry)
  obtain ⟨od, J, O⟩ := ins_at I ea
  have fin : wpAny (model X.prog X.w) X.A (call (.ref f) [.ref a, v]) (PySem.W.CmpBack (EP X pins σ Q)) X.xe s :=
    wpAny_mono (run_sub ⟨hr, rfl⟩ F hb hx I (.cons (rRef a) (.cons rx .nil)) h) (fun w' s' ⟨z, H', I', rz, q⟩ => back_rel rz ⟨z, H', I', rz, q⟩) fun _ _ e => e
  show wpAny (model X.prog X.w) X.A (richCompare .Eq v (.ref a)) (EP X pins σ Q) X.xe s
  cases od' with
  | non =>
    cases (show v = .none from rx)
    exact OW.eq_right hr.units0 I.kIn J rfl hs PySem.F.slot_NoneType_eq (fun Q' q' => call_gives PySem.F.slot_NoneType_eq rfl PySem.F.entry_NoneType_eq (PySem.F.args_NoneType_eq_2 _ _) (PySem.SeqAt.NoneType___eq___none_ref_0 a) q') D.at_ D.fn fin
  | bl b =>
    cases (show v = .bool b from rx)
    exact OW.eq_right hr.units0 I.kIn J rfl hs PySem.F.slot_bool_eq (fun Q' q' => call_meets PySem.F.slot_bool_eq rfl PySem.F.entry_int_eq (PySem.F.args_int_eq_2 _ _) (OW.bool_eq_no (C := C) (dx := dx) b) ⟨O, q'⟩) D.at_ D.fn fin
  | int i =>
    obtain ⟨t, rfl⟩ := (show ∃ t, v = Value.int i t from rx)
    exact OW.eq_right hr.units0 I.kIn J (typeIs_int s i t) hs PySem.F.slot_int_eq (fun Q' q' => call_meets PySem.F.slot_int_eq (typeIs_int s i t) PySem.F.entry_int_eq (PySem.F.args_int_eq_2 _ _) (OW.int_eq_no (C := C) (dx := dx) i t) ⟨O, q'⟩) D.at_ D.fn fin
  | str z =>
    obtain ⟨t, rfl⟩ := (show ∃ t, v = Value.str z t from rx)
    exact OW.eq_right hr.units0 I.kIn J (typeIs_str s z t) hs PySem.F.slot_str_eq (fun Q' q' => call_meets PySem.F.slot_str_eq (typeIs_str s z t) PySem.F.entry_str_eq (PySem.F.args_str_eq_2 _ _) (OW.str_eq_no (C := C) (dx := dx) z t) ⟨O, q'⟩) D.at_ D.fn fin
  | @lst l xs e =>
    cases (show v = .ref l from rx)
    obtain ⟨z, its, n, r, e1⟩ := I.hok l _ e
    exact OW.eq_right hr.units0 I.kIn J ⟨_, e1, rfl⟩ hs PySem.F.slot_list_eq (fun Q' q' => call_meets PySem.F.slot_list_eq ⟨_, e1, rfl⟩ PySem.F.entry_list_eq (PySem.F.args_list_eq_2 _ _) (OW.list_eq_no hs _ _ _ _) ⟨e1, I.kIn, O, q'⟩) D.at_ D.fn fin
  | @tup l xs e =>
    cases (show v = .ref l from rx)
    obtain ⟨_, its, _, o, h1, h2, n, h3⟩ := (show ObjOk X.prog X.w H s.heap l (.tup xs) from I.hok l _ e)
    obtain ⟨cls, dd, data, sl⟩ := o
    simp only at h2 h3
    subst h2 h3
    exact OW.eq_right hr.units0 I.kIn J ⟨_, h1, rfl⟩ hs PySem.F.slot_tuple_eq (fun Q' q' => call_meets PySem.F.slot_tuple_eq ⟨_, h1, rfl⟩ PySem.F.entry_tuple_eq (PySem.F.args_tuple_eq_2 _ _) (OW.tuple_eq_no hs _ _ _ _) ⟨h1, I.kIn, O, q'⟩) D.at_ D.fn fin
  | @dK l kvs e =>
    cases (show v = .ref l from rx)
    obtain ⟨_, _, vs, _, o, es, ep, h1, h2, _⟩ := (show ObjOk X.prog X.w H s.heap l (.dK kvs) from I.hok l _ e)
    have hT : s.TypeIs (.ref l) "dict" := ⟨_, h1, h2.1⟩
    exact OW.eq_right hr.units0 I.kIn J hT hs PySem.F.slot_dict_eq (fun Q' q' => OW.dict_eq_no hT I.kIn J hs q') D.at_ D.fn fin
/-- i != x, i an integer -/
def rNeR (C : Addr) (sp : Sp) (E : XK) : R2 := fun x y H Q => ∃ a dx fs i, y = .ref a ∧ H a = some (.ins C dx fs) ∧ x = .int i ∧ sp [.ref a, .int i] H (fun z H' => ∃ r, z = .bl r ∧ Q (.bl (!r)) H') E
theorem op_neR (D : Dun X.K C "__eq__" f) (N : NeOf X.K C) (hs : PySem.W.subIn X.K (.ref C) (.type "int") = some false) (F : FnOk X.prog X.w X.K X.mg X.base CX k f fd ps sp) (hr : Room (k + 1) X.A) (hb : Binds X.K fd ps []) (hx : Passes CX X E) :
    OpR X (compareOp .NotEq) (rNeR C sp E) := by
  intro pins s σ H x y v u Q I rx ry ⟨a, dx, fs, i, ey, ea, ex, h⟩
  subst ex ey
  cases (show u = .ref a from ry)
  obtain ⟨t, rfl⟩ := (show ∃ t, v = Value.int i t from rx)
  obtain ⟨od, J, O⟩ := ins_at I ea
  refine OW.ne_right (by have := hr.un; omega) I.kIn J (typeIs_int s i t) hs PySem.F.slot_int_ne (fun Q' q' => call_meets PySem.F.slot_int_ne (typeIs_int s i t) PySem.F.entry_int_ne (PySem.F.args_int_ne_2 _ _) (OW.int_ne_no (C := C) (dx := dx) i t) ⟨O, q'⟩) D.at_ D.fn N.ne N.ob
    (wpAny_mono (run_sub ⟨hr.in1, rfl⟩ F hb hx I (.cons (rRef a) (.cons (rInt i t) .nil)) h) (fun w' s' ⟨z, H', I', rz, r, ez, q⟩ => ?_) fun _ _ e => e)
  subst ez
  cases (show w' = .bool r from rz)
  exact ⟨r, rfl, .bl (!r), H', I', rfl, q⟩
theorem op_neLK {K : PySem.W.Frag} (hK : X.K = K) (D : Dun K C "__eq__" f) (N : NeOf K C) (F : FnOk X.prog X.w K X.mg X.base CX k f fd ps sp) (hr : Room (k + 1) X.A) (hb : Binds K fd ps []) (hx : Passes CX X E) : OpR X (compareOp .NotEq) (rNeL K C sp E) := by
  subst hK
  exact op_neL D N F hr hb hx
theorem op_eqLK {K : PySem.W.Frag} (hK : X.K = K) (D : Dun K C "__eq__" f) (F : FnOk X.prog X.w K X.mg X.base CX k f fd ps sp) (hr : Room k X.A) (hb : Binds K fd ps []) (hx : Passes CX X E) : OpR X (compareOp .Eq) (rEqL K C sp E) := by
  subst hK
  exact op_eqL D F hr hb hx
theorem op_eqRK {K : PySem.W.Frag} (hK : X.K = K) (D : Dun K C "__eq__" f) (F : FnOk X.prog X.w K X.mg X.base CX k f fd ps sp) (hr : Room k X.A) (hb : Binds K fd ps []) (hx : Passes CX X E) : OpR X (compareOp .Eq) (rEqR K C sp E) := by
  subst hK
  exact op_eqR D F hr hb hx
end
end L2
set_option Elab.async false
set_option linter.all false
set_option maxRecDepth 100000
set_option maxHeartbeats 4000000
/-! enumerate of a tuple -/
namespace SU
open PySem PySem.Spec PyProof.Rows
open AutoSeq1 (wpAny_loadPart')
set_option maxHeartbeats 1000000 in
theorem meets_enum1 {v : Value} {o : Obj} {H : Heap → Prop} (B : Begins v o H) :
    Meets (Builtin.«enumerate.__new__» ⟨[.type "enumerate", v], []⟩) (fun _ R s => H s.heap ∧
      R (.ok (.ret (.ref (s.heap.push o).objs.size))) { s with heap := (s.heap.push o).push { cls := .type "enumerate", data := .fields #[.none, .bool false, .ref s.heap.objs.size, rawInt 0, .none, .none] } }) :=
  .of_wp fun prog w A R s h => by
    obtain ⟨hp, g, d, tk, os⟩ := s; obtain ⟨h1, h⟩ := h
    have hsub := sub_enumerate
    have q1 : ∀ {A' : Around} {E : Value → Shared → Prop} {Q : Value → Shared → Prop}, Q (.ref hp.objs.size) ⟨hp.push o, g, d, tk, os⟩ → wpAny (model prog w) A' (pyIter v) Q E ⟨hp, g, d, tk, os⟩ :=
      fun q => B.iter prog w _ _ ⟨hp, g, d, tk, os⟩ _ h1 q
    wp_walk using q1
    refine wpAny_stack_any fun st => wpAny_pure ?_
    split
    · rename_i c _ _ _ _ _
      cases (c == Value.type "enumerate")
      · wp_walk using q1
        exact ⟨_, rfl, h⟩
      · wp_walk using q1
        exact ⟨_, rfl, h⟩
    · wp_walk using q1
      exact ⟨_, rfl, h⟩
section
variable {prog : Program} {w : World} {A : Around} {E : Value → Shared → Prop} {s : Shared}
theorem enum_begins1 {v : Value} {o : Obj} {H : Heap → Prop} {Q : Value → Shared → Prop} (B : Begins v o H) (h1 : H s.heap)
    (h : ∀ h', IsEnum h' (s.heap.objs.size + 1) s.heap.objs.size 0 .none → h'.get? s.heap.objs.size = some o → h'.objs.size = s.heap.objs.size + 2 →
      (∀ b o, s.heap.get? b = some o → h'.get? b = some o) → Q (.ref (s.heap.objs.size + 1)) { s with heap := h' }) :
    wpAny (model prog w) A (call (.type "enumerate") [v]) Q E s := by
  refine callType_new F.called_enumerate (by decide) (F.typeCall_enumerate_1 _) (F.newCall_enumerate_1 _) (fun obj => F.args_object_init_2 obj _) F.entry_enumerate_new
    (meets_enum1 B) ⟨h1, ?_⟩
  have hz : (s.heap.push o).objs.size = s.heap.objs.size + 1 := Heap.size_push ..
  show _ ∧ _
  rw [hz]
  have he : IsEnum ((s.heap.push o).push { cls := .type "enumerate", data := .fields #[.none, .bool false, .ref s.heap.objs.size, rawInt 0, .none, .none] }) (s.heap.objs.size + 1) s.heap.objs.size 0 .none := by
    have := Heap.get?_push_size (s.heap.push o) (o := { cls := .type "enumerate", data := .fields #[.none, .bool false, .ref s.heap.objs.size, rawInt 0, .none, .none] }) rfl
    rw [hz] at this; exact this
  refine ⟨⟨_, he, rfl⟩, h _ he (Heap.get?_push_of_some _ (Heap.get?_push_size _ B.free)) (by rw [Heap.size_push, hz]) fun b o x => Heap.get?_push_of_some _ (Heap.get?_push_of_some _ x)⟩
end
end SU
namespace L2
open PySem PySem.Spec PyProof.Rows
/-- the tuple at a, each item in a new pair -/
def IteT (K : PySem.W.Frag) (a : Addr) : It :=
  ⟨fun i H => ∃ (xs : List V) (x : V), SqT K H a xs ∧ xs[i]? = some x, fun i H v H' => ∃ T x, v = .ref T ∧ H T = none ∧ H' = upd H T (.tup [.int (i : Nat), x]) ∧ ∀ xs, SqT K H a xs → xs[i]? = some x, fun i H => ∃ xs : List V, SqT K H a xs ∧ xs.length ≤ i⟩
theorem turn_enumT {P : Program} {w : World} {K : PySem.W.Frag} {elts : List Expr} {kk : Nat} {tpos : Pos} (a e it : Addr) :
    Turn P w K (.Tuple elts kk tpos) (IteT K a) [e, it] e (fun i h => (∃ old, IsEnum h e it ((i : Nat) : Int) old) ∧ h.IsTupleIter it a i ∧ e ≠ it) where
  mem := by simp
  obj := fun i h st b hb => by
    obtain ⟨⟨old, he⟩, ⟨o, ho, hc, hd⟩, _⟩ := st
    have e' : b = e ∨ b = it := by simpa using hb
    rcases e' with z | z
    · rw [z]; exact ⟨_, he, fun v q => nomatch q⟩
    · rw [z]; exact ⟨o, ho, fun v q => by rw [hd] at q; cases q⟩
  keep := fun i h h' st k => let ⟨⟨old, he⟩, hi, hne⟩ := st; ⟨⟨old, k e (by simp) _ he⟩, hi.at fun o q => k it (by simp) o q, hne⟩
  item := by
    intro X hP hw hK hc i pins s σ H E I hf st hg
    subst hP hw hK
    obtain ⟨⟨old, he⟩, hit, hne⟩ := st
    obtain ⟨xs, x, hq, hx⟩ := hg
    obtain ⟨its, rv, p, hz⟩ := I.tuple hq
    obtain ⟨u, hu, ru⟩ := rv.get hx
    have hel : e < s.heap.objs.size := Heap.lt_size he
    have hil : it < s.heap.objs.size := by obtain ⟨_, q, _⟩ := hit; exact Heap.lt_size q
    have pt : s.heap.IsTuple a its.toArray := p
    have tit : a ≠ it := fun z => by
      obtain ⟨o1, h1, c1, _⟩ := hit
      obtain ⟨o2, h2, c2, _⟩ := pt
      rw [z, h1] at h2
      cases h2
      rw [c1] at c2
      exact absurd c2 (by decide)
    have te : e ∉ [it, a] := fun m => by
      simp only [List.mem_cons, List.mem_nil_iff, or_false] at m
      rcases m with z | z
      · exact hne z
      · obtain ⟨o2, h2, c2, _⟩ := pt
        have he' : s.heap.get? e = _ := he
        rw [z, h2] at he'
        cases he'
        have c2 : Value.type "enumerate" = Value.type "tuple" := c2
        exact absurd c2 (by decide)
    have lt : i < its.toArray.size := by
      have h1 := (List.getElem?_eq_some_iff.mp hu).1
      simpa using h1
    refine wpAny_pyNext_enum_itemD (Draws.tuple (A := X.A.in1) (I.ok.hd hc) it a tit its.toArray) he ⟨hit, pt⟩ lt hne te fun x' h' tk hx' ho hst' hT hsz hk => ?_
    have ex : x' = u := by
      have : its.toArray[i]? = some u := by simpa using hu
      rw [this] at hx'
      exact (Option.some.inj hx').symm
    subst ex
    obtain ⟨hit', _⟩ := hst'
    refine ⟨_, rfl, wpAny_letOwnedTupleGo_enum (s := { s with heap := h', toks := tk + 1 }) ho fun h'' he' sb => ?_⟩
    have hT2 : h''.get? s.heap.objs.size = some { cls := .type "tuple", data := .seq #[.int i tk, x'] } := (sb.2 _ (Nat.ne_of_gt hel)).trans hT
    have new : ObjOk X.prog X.w (upd H s.heap.objs.size (.tup [.int (i : Nat), x])) h'' s.heap.objs.size (.tup [.int (i : Nat), x]) :=
      ⟨by show 2 ≤ sizeLine; decide, [.int i tk, x'], .cons ⟨_, rfl⟩ (.cons ru .nil), ⟨_, hT2, rfl, _, rfl⟩⟩
    have I1 : Inv X pins σ (upd H s.heap.objs.size (.tup [.int (i : Nat), x])) { s with heap := h'', toks := tk + 1 } :=
      I.turnedNew (ch := [e, it]) (fun b ob hb q => (sb.2 b (fun z => hb (by simp [z]))).trans (hk b ob (fun z => hb (by simp [z])) (fun z => hb (by simp [z])) q)) hf (Nat.le_refl _) new
    refine ⟨.ref s.heap.objs.size, _, I1, rfl, ⟨_, x, rfl, I.hok.fresh (Nat.le_refl _), rfl, fun ys hy => by rw [I.tuple_inj hy hq]; exact hx⟩, ⟨⟨x', ?_⟩, hit'.at fun o q => (sb.2 it (Ne.symm hne)).trans q, hne⟩, fun b hb => ?_⟩
    · have e1 : ((i + 1 : Nat) : Int) = (i : Int) + 1 := by omega
      rw [e1]; exact he'
    · have hb' : b < s.heap.objs.size := by
        have e' : b = e ∨ b = it := by simpa using hb
        rcases e' with z | z
        · rw [z]; exact hel
        · rw [z]; exact hil
      rw [upd_ne (Nat.ne_of_lt hb')]
      exact (hf b hb).1
  done := by
    intro X hP hw hK hc i pins s σ H E I hf st hg
    subst hP hw hK
    obtain ⟨⟨old, he⟩, hit, hne⟩ := st
    obtain ⟨xs, hq, hx⟩ := hg
    obtain ⟨its, rv, p, hz⟩ := I.tuple hq
    obtain ⟨f0, f1, f2, f3, f4, f5⟩ := hf it (by simp)
    have hl := rv.length
    have hT : s.TypeIs (.ref e) "enumerate" := ⟨_, he, rfl⟩
    unfold pyNext
    refine wpAny_bind (wpAny_attempt (wpAny_callSpecial?_slot (name := Str.ofString "__next__") hT F.slot_enumerate_next
      (wpAny_call_entry F.slot_enumerate_next hT F.entry_enumerate_next ?_ (F.args_enumerate_next_1 _))))
    show wpAny _ _ (field (.ref e) 2 >>= _) _ _ _
    refine wpAny_bind (wpAny_field he rfl (x := .ref it) rfl ?_)
    refine wpAny_bind (wpAny_nextOf_tuple_end (I.ok.hd hc) hit (show s.heap.IsTuple a its.toArray from p) (by simp; omega) fun h' x he' hx' => ?_)
    obtain ⟨o, ho, hc'⟩ := hx'
    refine wpAny_bind (wpAny_isInstance (T := "StopIteration") (b := true) ⟨o, ho, hc'⟩ isSubtype_stop ?_)
    exact wpAny_pure ⟨rfl, I.turned (t' := s.toks) (fun b o hb q => he' b o hb q) f0 f1 f3 f4 f5⟩
  self := fun A i s Q E st h => let ⟨⟨_, he⟩, _⟩ := st; wpAny_pyIter_enum he h
def iEnumT (K : PySem.W.Frag) (ta : TA) : TI := fun σ H R => ta σ H fun vs H1 => ∃ a xs, vs = [.ref a] ∧ SqT K H1 a xs ∧ R (IteT K a) H1
theorem pi_enumT {X : Cx} {e : Expr} {ta : TA} {p pos tpos : Pos} {elts : List Expr} {kk : Nat} (hg : Gl X "enumerate") (hm : X.mg "enumerate" = none) (ha : PA X [e] ta) (hs : starEach [e] X.env = [(false, eval e X.env)] := by rfl) :
    PI X (.Tuple elts kk tpos) (.Call (.Name "enumerate" p) [e] [] pos) (iEnumT X.K ta) := by
  refine ⟨fun pins s σ H R I h => ?_⟩
  refine Call_ (ld_blt I hg hm boot_enumerate (PyProof.Rows.callWith_type1 (thn (ha.run pos pins s σ H _ I h) fun us s1 ⟨vs, H1, I1, r1, q1⟩ => ?_) hs rfl))
  obtain ⟨a, xs, ex, hq, q⟩ := q1
  subst ex
  cases r1 with
  | cons r rr =>
    cases rr
    cases r
    obtain ⟨its, rv, p', hz⟩ := I1.tuple hq
    refine SU.enum_begins1 (begins_tuple a its.toArray) (show s1.heap.IsTuple a its.toArray from p') fun h' he hit hsz hk => wpAny_pyIter_enum he ?_
    have I2 : Inv X pins σ H1 { s1 with heap := h' } := I1.kept (t' := s1.toks) hk
    refine ⟨s1.heap.objs.size + 1, [s1.heap.objs.size + 1, s1.heap.objs.size], _, _, H1, rfl, I2, turn_enumT a (s1.heap.objs.size + 1) s1.heap.objs.size, ⟨⟨.none, he⟩, ⟨_, hit, rfl, rfl⟩, Nat.succ_ne_self _⟩, fun b hb => ?_, q⟩
    have e' : b = s1.heap.objs.size + 1 ∨ b = s1.heap.objs.size := by simpa using hb
    have hle : s1.heap.objs.size ≤ b := by
      rcases e' with z | z
      · rw [z]; exact Nat.le_add_right _ _
      · rw [z]; exact Nat.le_refl _
    exact I1.fpOk hle (I1.hok.fresh hle)
theorem walk_enumT {K : PySem.W.Frag} {a : Addr} {xs : List V} : Walk (IteT K a) xs.length (fun H => SqT K H a xs) (YPair (fun i => some (.int (i : Nat))) (fun i => xs[i]?)) := by
  refine ⟨fun i _ hi q => ⟨xs, xs[i], q, by simp [hi]⟩, fun _ q => ⟨xs, q, Nat.le_refl _⟩, fun i H v H' _ q y => ?_⟩
  obtain ⟨T, x, h1, h2, h3, h4⟩ := y
  exact ⟨T, .int (i : Nat), x, h1, h2, h3, rfl, h4 xs q⟩
end L2
set_option Elab.async false
set_option linter.all false
set_option maxRecDepth 100000
set_option maxHeartbeats 4000000
/-! taken over: lists of things, walks -/
namespace FR
open PySem PySem.Spec PyProof.Rows L2
def top (i : Nat) : Stmt := PySem.Challenge.pw_surelyends_k12_calls_and_ends.main.body.getD i (.Pass ⟨0, 0, 0, 0⟩)
def retE : Stmt → Expr
  | .Return (some e) _ => e
  | _ => .Constant .none 0 ⟨0, 0, 0, 0⟩
def relS (sc fs : Scope) : Scope := { sc with names := sc.names.map fun (n, k) => if (k == .free && fs.kind == .function && fs.names.lookup n == some .cell) then (n, .cell) else (n, k) }
def lcEl : Expr → Expr
  | .ListComp e _ _ _ => e
  | e => e
def lcSc : Expr → Scope
  | .ListComp _ _ sc _ => sc
  | _ => defScope (.Pass ⟨0, 0, 0, 0⟩)
theorem pi_zipK {X : Cx} {K : PySem.W.Frag} {e e2 : Expr} {ta : TA} {p pos tpos : Pos} {elts : List Expr} {kk : Nat} (hK : X.K = K) (hg : Gl X "zip") (hm : X.mg "zip" = none) (ha : PA X [e, e2] ta)
    (hs : starEach [e, e2] X.env = (false, eval e X.env) :: starEach [e2] X.env := by rfl) (hpl : (backTo pos (starEach [e2] X.env)).any (·.1) = false := by rfl) :
    L2.PI X (.Tuple elts kk tpos) (.Call (.Name "zip" p) [e, e2] [] pos) (iZip K ta) := by
  subst hK
  exact pi_zip hg hm ha hs hpl
theorem ix_listK {X : Cx} {K : PySem.W.Frag} (hK : X.K = K) : IxR X (rIxL K) := by
  subst hK
  exact ix_list
theorem pg_tupK {X : Cx} {K : PySem.W.Frag} {es : List Expr} {k : Nat} {pos : Pos} {t : TGs} {n : Nat} (hK : X.K = K) (hc : X.calm = true) (h : PGs X es t)
    (hn : (assignEach es X.env).length = n := by rfl) (hst : (assignEach es X.env).findIdx? (·.1) = none := by rfl) : PG X (.Tuple es k pos) (gTup K n t) := by
  subst hK
  exact pg_tup hc h hn hst
theorem same_grow {H H' : Hp} {D : Addr} {o : HO} (hD : H D = none) (s : Same H H') : Same H (upd H' D o) := fun q o' e => by
  rw [upd_ne (ne_of_none e hD)]
  exact s _ _ e
theorem same_new {H : Hp} {p : Addr} {o : HO} (h : H p = none) : Same H (upd H p o) := fun q o' e => by rw [upd_ne (ne_of_none e h)]; exact e
theorem same_upd {H0 H : Hp} {D : Addr} {o : HO} (hD : H0 D = none) (s : Same H0 H) : Same H0 (upd H D o) := same_grow hD s
theorem take_snoc {α : Type} {l : List α} {i : Nat} {x : α} (h : l[i]? = some x) : l.take (i + 1) = l.take i ++ [x] := by
  rw [List.take_add_one, h]
  rfl
def AG {α : Type} (R : V → α → Prop) (vs : List V) (as : List α) : Prop := vs.length = as.length ∧ ∀ (i : Nat) (v : V), vs[i]? = some v → ∃ p : α, as[i]? = some p ∧ R v p
theorem AG.nil {α : Type} {R : V → α → Prop} : AG R [] [] := ⟨rfl, fun i v h => by simp at h⟩
theorem AG.snoc {α : Type} {R : V → α → Prop} {v : V} {p : α} {vs : List V} {ps : List α} (h : AG R vs ps) (r : R v p) : AG R (vs ++ [v]) (ps ++ [p]) := by
  refine ⟨by rw [List.length_append, List.length_append, h.1]; rfl, fun i w e => ?_⟩
  by_cases z : i < vs.length
  · rw [List.getElem?_append_left z] at e
    obtain ⟨q, hq, hr⟩ := h.2 i w e
    exact ⟨q, by rw [List.getElem?_append_left (by rw [← h.1]; exact z)]; exact hq, hr⟩
  · rw [List.getElem?_append_right (by omega)] at e
    have e0 : i = vs.length := by
      have := (List.getElem?_eq_some_iff.mp e).1
      rw [List.length_singleton] at this
      omega
    subst e0
    rw [Nat.sub_self] at e
    cases e
    refine ⟨p, by rw [List.getElem?_append_right (by rw [h.1]; exact Nat.le_refl _), h.1, Nat.sub_self]; rfl, r⟩
theorem AG.imp {α : Type} {R R' : V → α → Prop} {vs : List V} {ps : List α} (h : AG R vs ps) (f : ∀ v p, R v p → R' v p) : AG R' vs ps := ⟨h.1, fun i v e => by
  obtain ⟨p, hp, r⟩ := h.2 i v e
  exact ⟨p, hp, f v p r⟩⟩
theorem AG.take {α : Type} {R : V → α → Prop} {vs : List V} {ps : List α} (h : AG R vs ps) (n : Nat) : AG R (vs.take n) (ps.take n) := ⟨by rw [List.length_take, List.length_take, h.1], fun i v e => by
  rw [List.getElem?_take] at e ⊢
  split at e
  · next z => rw [if_pos z]; exact h.2 i v e
  · cases e⟩
theorem AG.uncons {α : Type} {R : V → α → Prop} {v : V} {p : α} {vs : List V} {ps : List α} (h : AG R (v :: vs) (p :: ps)) : R v p ∧ AG R vs ps := by
  obtain ⟨q, hq, r⟩ := h.2 0 v rfl
  cases hq
  exact ⟨r, by have := h.1; simpa using this, fun i w e => h.2 (i + 1) w e⟩
theorem AG.consA {β : Type} {R : V → β → Prop} {x : V} {y : β} {xs : List V} {ys : List β} (h : R x y) (g : AG R xs ys) : AG R (x :: xs) (y :: ys) := by
  refine ⟨by rw [List.length_cons, List.length_cons, g.1], fun i v hv => ?_⟩
  match i, hv with
  | 0, hv => cases hv; exact ⟨y, rfl, h⟩
  | i + 1, hv => exact g.2 i v hv
theorem AG.app {α : Type} {R : V → α → Prop} : ∀ {xs ys : List V} {as bs : List α}, AG R xs as → AG R ys bs → AG R (xs ++ ys) (as ++ bs)
  | [], ys, [], bs, _, g => g
  | [], _, _ :: _, _, h, _ => by simp [AG] at h
  | _ :: _, _, [], _, h, _ => by simp [AG] at h
  | x :: xs, ys, a :: as, bs, h, g => by
    obtain ⟨r, h⟩ := AG.uncons h
    exact AG.consA r (AG.app h g)
structure Glo (P : Program) (w : World) (K : PySem.W.Frag) (mg : Str → Option Value) (base : Heap) (nm : Str) (n : Nat) (ps : List Str) (sp : Sp) where
  f : Addr
  fd : FuncData
  G : FnOk P w K mg base CX0 n f fd ps sp
  m : mg nm = some (.ref f)
  k : PySem.W.keepIn K (.ref f) = true
  b : Binds K fd ps []
structure Met (P : Program) (w : World) (K : PySem.W.Frag) (mg : Str → Option Value) (base : Heap) (C : Addr) (nm : Str) (n : Nat) (ps : List Str) (sp : Sp) where
  f : Addr
  fd : FuncData
  D : Dun K C nm f
  kp : PySem.W.keepIn K (.ref f) = true
  G : FnOk P w K mg base CX0 n f fd ps sp
  b : Binds K fd ps []
theorem fn_weaken {P : Program} {w : World} {K : PySem.W.Frag} {mg : Str → Option Value} {base : Heap} {CX : CXT} {k : Nat} {f : Addr} {fd : FuncData} {ps : List Str} {sp sp' : Sp} (F : FnOk P w K mg base CX k f fd ps sp) (g : ∀ vs H Q E, sp' vs H Q E → sp vs H Q E) : FnOk P w K mg base CX k f fd ps sp' :=
  ⟨fun vs H Q E h => F.len vs H Q E (g vs H Q E h), fun A o s H ar us vs Q E hr e0 b r h => F.run A o s H ar us vs Q E hr e0 b r (g vs H Q E h)⟩
theorem pi_tupK {X : Cx} {K : PySem.W.Frag} {tg l : Expr} {tl : TE} (hK : X.K = K) (hl : PE X l tl) : L2.PI X tg l (iTup K tl) := by
  subst hK
  exact pi_tup hl
theorem pi_listK {X : Cx} {K : PySem.W.Frag} {tg l : Expr} {tl : TE} (hK : X.K = K) (hl : PE X l tl) : L2.PI X tg l (iList K tl) := by
  subst hK
  exact pi_list hl
theorem ix_tupK {X : Cx} {K : PySem.W.Frag} (hK : X.K = K) : IxR X (rIxT K) := by
  subst hK
  exact ix_tup
theorem call_tuple_ofK {X : Cx} {K : PySem.W.Frag} (hK : X.K = K) : CallR X (.type "tuple") (fun xs H Q => ∃ p ys, xs = [.ref p] ∧ ((SqL K H p ys ∧ ∀ l, H l = none → Q (.ref l) (upd H l (.tup ys))) ∨ (SqT K H p ys ∧ Q (.ref p) H))) := by
  subst hK
  exact call_tuple_of
theorem call_isiK {X : Cx} {K : PySem.W.Frag} (hK : X.K = K) : CallR X (.builtin "isinstance") (rIsi K) := by
  subst hK
  exact call_isi
theorem cr_allK {X : Cx} {K : PySem.W.Frag} (hK : X.K = K) (hc : X.calm = true) : CallR X (.builtin "all") (rAll K) := by
  subst hK
  exact cr_all hc
theorem call_len_seqK {X : Cx} {K : PySem.W.Frag} (hK : X.K = K) : CallR X (.builtin "len") (fun xs H Q => ∃ p ys, xs = [.ref p] ∧ (SqL K H p ys ∨ SqT K H p ys) ∧ Q (.int ys.length) H) := by
  subst hK
  exact call_len_seq
theorem pi_enumTK {X : Cx} {K : PySem.W.Frag} {e : Expr} {ta : TA} {p pos tpos : Pos} {elts : List Expr} {kk : Nat} (hK : X.K = K) (hg : Gl X "enumerate") (hm : X.mg "enumerate" = none) (ha : PA X [e] ta) (hs : starEach [e] X.env = [(false, eval e X.env)] := by rfl) :
    PI X (.Tuple elts kk tpos) (.Call (.Name "enumerate" p) [e] [] pos) (iEnumT K ta) := by
  subst hK
  exact pi_enumT hg hm ha hs
end FR
set_option Elab.async false
set_option linter.all false
set_option maxRecDepth 100000
set_option maxHeartbeats 1000000
/-! bodies of procedures; bodies_in -/
namespace FR
open PySem PySem.Spec PyProof.Rows L2
inductive St where
  | note (s : Str)
  | call (s : Str)
  | stay
  | again (a b : Int) (inner : List St)
  | choose (bs : List (List St))
  | toss (rs : List (Int × List St))
abbrev Bd := List St
def St.kids : St → List Bd
  | .again _ _ b => [b]
  | .choose bs => bs
  | .toss rs => rs.map fun r => r.2
  | _ => []
def St.word : St → Str
  | .note _ => "note"
  | .call _ => "call"
  | .stay => "stay"
  | .again _ _ _ => "again"
  | .choose _ => "choose"
  | .toss _ => "toss"
/-- a statement stands at v, its bodies by B -/
def StW (B : Hp → V → Bd → Prop) (H : Hp) (v : V) : St → Prop
  | .note s => ∃ a, v = .ref a ∧ H a = some (.tup [.str "note", .str s])
  | .call s => ∃ a, v = .ref a ∧ H a = some (.tup [.str "call", .str s])
  | .stay => ∃ a, v = .ref a ∧ H a = some (.tup [.str "stay"])
  | .again i j b => ∃ a w, v = .ref a ∧ H a = some (.tup [.str "again", .int i, .int j, w]) ∧ B H w b
  | .choose bs => ∃ a ws, v = .ref a ∧ H a = some (.tup (.str "choose" :: ws)) ∧ AG (fun w b => B H w b) ws bs
  | .toss rs => ∃ a ws, v = .ref a ∧ H a = some (.tup (.str "toss" :: ws)) ∧ AG (fun w r => ∃ p x, w = .ref p ∧ H p = some (.tup [.int r.1, x]) ∧ B H x r.2) ws rs
/-- a body, nested less than n deep -/
def BdAt : Nat → Hp → V → Bd → Prop
  | 0 => fun _ _ _ => False
  | n + 1 => fun H v b => ∃ a xs, v = .ref a ∧ H a = some (.tup xs) ∧ AG (fun w s => StW (BdAt n) H w s) xs b
abbrev StAt (n : Nat) (H : Hp) (v : V) (s : St) : Prop := StW (BdAt n) H v s
theorem stW_imp {B B' : Hp → V → Bd → Prop} {H H' : Hp} (e : ∀ a xs, H a = some (.tup xs) → H' a = some (.tup xs)) (f : ∀ v b, B H v b → B' H' v b) : ∀ {v : V} {s : St}, StW B H v s → StW B' H' v s
  | _, .note s, ⟨a, ev, h⟩ => ⟨a, ev, e _ _ h⟩
  | _, .call s, ⟨a, ev, h⟩ => ⟨a, ev, e _ _ h⟩
  | _, .stay, ⟨a, ev, h⟩ => ⟨a, ev, e _ _ h⟩
  | _, .again i j b, ⟨a, w, ev, h, g⟩ => ⟨a, w, ev, e _ _ h, f _ _ g⟩
  | _, .choose bs, ⟨a, ws, ev, h, g⟩ => ⟨a, ws, ev, e _ _ h, g.imp fun _ _ z => f _ _ z⟩
  | _, .toss rs, ⟨a, ws, ev, h, g⟩ => ⟨a, ws, ev, e _ _ h, g.imp fun _ _ ⟨p, x, e1, h1, z⟩ => ⟨p, x, e1, e _ _ h1, f _ _ z⟩⟩
/-- tuples stay: so do bodies -/
theorem bdAt_keep {H H' : Hp} (e : ∀ a xs, H a = some (.tup xs) → H' a = some (.tup xs)) : ∀ n v b, BdAt n H v b → BdAt n H' v b
  | 0, _, _, h => h.elim
  | n + 1, _, _, ⟨a, xs, ev, h, g⟩ => ⟨a, xs, ev, e _ _ h, g.imp fun _ _ z => stW_imp e (bdAt_keep e n) z⟩
theorem BdAt.same {n : Nat} {H H' : Hp} {v : V} {b : Bd} (h : BdAt n H v b) (s : Same H H') : BdAt n H' v b := bdAt_keep (fun _ _ x => s _ _ x) n v b h
theorem StAt.same {n : Nat} {H H' : Hp} {v : V} {x : St} (h : StAt n H v x) (s : Same H H') : StAt n H' v x := stW_imp (fun _ _ x => s _ _ x) (bdAt_keep (fun _ _ x => s _ _ x) n) h
theorem bdAt_up : ∀ n H v b, BdAt n H v b → BdAt (n + 1) H v b
  | 0, _, _, _, h => h.elim
  | n + 1, H, _, _, ⟨a, xs, ev, h, g⟩ => ⟨a, xs, ev, h, g.imp fun _ _ z => stW_imp (fun _ _ x => x) (fun v b y => bdAt_up n H v b y) z⟩
theorem StAt.up {n : Nat} {H : Hp} {v : V} {x : St} (h : StAt n H v x) : StAt (n + 1) H v x := stW_imp (fun _ _ x => x) (fun v b y => bdAt_up n H v b y) h
/-- the word stands first -/
theorem StAt.head {n : Nat} {H : Hp} {v : V} : ∀ {x : St}, StAt n H v x → ∃ a xs, v = .ref a ∧ H a = some (.tup (.str x.word :: xs))
  | .note _, ⟨a, ev, h⟩ => ⟨a, _, ev, h⟩
  | .call _, ⟨a, ev, h⟩ => ⟨a, _, ev, h⟩
  | .stay, ⟨a, ev, h⟩ => ⟨a, _, ev, h⟩
  | .again _ _ _, ⟨a, _, ev, h, _⟩ => ⟨a, _, ev, h⟩
  | .choose _, ⟨a, _, ev, h, _⟩ => ⟨a, _, ev, h⟩
  | .toss _, ⟨a, _, ev, h, _⟩ => ⟨a, _, ev, h⟩
theorem cut_tail (x : V) (xs : List V) : cutV (x :: xs) (some 1) none = xs ∧ ¬ (HT.sIx (x :: xs).length 0 (some 1) = 0 ∧ HT.sIx (x :: xs).length (x :: xs).length none = (x :: xs).length) := by
  have e : HT.sIx (x :: xs).length 0 (some 1) = 1 := by
    show (if (1 : Int) < 0 then ((1 : Int) + ((x :: xs).length : Int)).toNat else min (1 : Int).toNat (x :: xs).length) = 1
    rw [if_neg (by decide)]
    show min 1 (xs.length + 1) = 1
    omega
  refine ⟨?_, fun z => ?_⟩
  · unfold cutV
    rw [HT.sIx_none, e]
    show xs.take (xs.length + 1 - 1) = xs
    rw [Nat.add_sub_cancel, List.take_length]
  · rw [e] at z
    exact absurd z.1 (by decide)
section
variable {P : Program} {w : World} {K : PySem.W.Frag} {mg : Str → Option Value} {base : Heap}
abbrev sBin : Stmt := top 10
abbrev NBin : List Str := ["statement", "word", "_", "body"]
theorem scBin : FnScope NBin ["statement"] (defScope sBin) := ⟨rfl, rfl, rfl, by decide +kernel, rfl, by decide +kernel, by decide +kernel⟩
def spBin (n : Nat) : Sp := fun vs H Q _ => ∃ v x, vs = [v] ∧ StAt n H v x ∧ x.kids.length ≤ 90 ∧ ∀ a ws H', Same H H' → H' a = some (.tup ws) → AG (fun w b => BdAt n H' w b) ws x.kids → Q (.ref a) H'
theorem ok_bin {f : Addr} {fd : FuncData} {n : Nat} (F : Fun K "bodies_in" "bodies_in" sBin f fd) (mT : mg "tuple" = none) : FnOk P w K mg base CX0 1 f fd ["statement"] (spBin n) := by
  refine F.ok scBin (fun vs H Q E h => ?_) (fun cdv A outer s H vs Q E hr h => ?_)
  · obtain ⟨v, x, rfl, _⟩ := h
    rfl
  · obtain ⟨v, x, rfl, hv, few, q⟩ := h
    refine ⟨_, (pss_cons (ps_set (i := 1) scBin.nd rfl (Or.inl rfl) (pe_ix ix_tup (pv 0) pe_int (fun _ _ => rfl)))
      (pss_cons (ps_if (pt_cmpR op_eq (pv 1) pe_str (nomark _)) (pss_one (ps_ret (pe_callTy call_tuple_of (by rfl) mT (by decide +kernel) (pa_cons (pe_lc (X := (cxOf CX0 P w K mg base NBin "bodies_in" (defScope sBin) f cdv A outer s H E).nox) (own := [("_", 2), ("body", 3)]) (g := (gTup K 2 (gCons (gName 2) (gCons (gName 3) gNil)))) (tt := tYes) rfl scBin.nd (pi_tup (pe_slice sl_tupA (pv 0) (po_some pe_int) po_none)) (blkOk_by (N := NBin) (sc := defScope sBin) (by decide +kernel)) (fun _ _ _ _ _ => (pg_tupK (K := K) rfl rfl (pgs_cons (pg_name (i := 2) scBin.nd rfl (.inl rfl)) (pgs_cons (pg_name (i := 3) scBin.nd rfl (.inl rfl)) pgs_nil)))) (fun _ _ _ _ _ => pts_nil) (fun _ _ _ _ _ => (pv 3))) pa_nil)))) pss_nil)
      (pss_cons (ps_if (pt_cmpR op_eq (pv 1) pe_str (nomark _)) (pss_one (ps_ret (pe_tup (pa_cons (pe_ix ix_tup (pv 0) pe_int (fun _ _ => rfl)) pa_nil)))) pss_nil)
      (pss_cons (ps_if (pt_cmpR op_eq (pv 1) pe_str (nomark _)) (pss_one (ps_ret (pe_slice sl_tupA (pv 0) (po_some pe_int) po_none))) pss_nil)
      (pss_one (ps_ret (pe_tup pa_nil))))))), ?_⟩
    obtain ⟨a, xs, rfl, ha⟩ := hv.head
    refine ⟨_, rfl, a, _, 0, _, rfl, rfl, SqT.of ha, atI_nat (j := 0) rfl, ?_⟩
    match x, hv, few, q with
    | .note z, ⟨_, e, _⟩, few, q => exact ⟨_, rfl, rfl, _, rfl, iteF ⟨_, rfl, rfl, _, rfl, iteF ⟨_, rfl, rfl, _, rfl, iteF ⟨Nat.zero_le _, fun p hp => q p [] _ (same_new hp) upd_same AG.nil⟩⟩⟩⟩
    | .call z, ⟨_, e, _⟩, few, q => exact ⟨_, rfl, rfl, _, rfl, iteF ⟨_, rfl, rfl, _, rfl, iteF ⟨_, rfl, rfl, _, rfl, iteF ⟨Nat.zero_le _, fun p hp => q p [] _ (same_new hp) upd_same AG.nil⟩⟩⟩⟩
    | .stay, ⟨_, e, _⟩, few, q => exact ⟨_, rfl, rfl, _, rfl, iteF ⟨_, rfl, rfl, _, rfl, iteF ⟨_, rfl, rfl, _, rfl, iteF ⟨Nat.zero_le _, fun p hp => q p [] _ (same_new hp) upd_same AG.nil⟩⟩⟩⟩
    | .again i j b, ⟨a', w0, e, ha', g⟩, few, q =>
      cases e
      refine ⟨_, rfl, rfl, _, rfl, iteF ⟨_, rfl, rfl, _, rfl, iteT ?_⟩⟩
      refine ⟨_, rfl, a, _, 3, _, rfl, rfl, SqT.of ha', atI_nat (j := 3) rfl, small1000 (Nat.le_of_ble_eq_true rfl), fun p hp => ?_⟩
      have sp := same_new (o := .tup [w0]) hp
      exact q p [w0] _ sp upd_same (AG.consA (BdAt.same g sp) AG.nil)
    | .choose bs, ⟨a', ws, e, ha', g⟩, few, q =>
      cases e
      obtain ⟨ec, ew⟩ := cut_tail (.str "choose") ws
      refine ⟨_, rfl, rfl, _, rfl, iteF ⟨_, rfl, rfl, _, rfl, iteF ⟨_, rfl, rfl, _, rfl, iteT ?_⟩⟩⟩
      refine ⟨_, rfl, _, rfl, a, _, rfl, SqT.of ha', fun z => (ew z).elim, fun _ p hp => ?_⟩
      rw [ec]
      have sp := same_new (o := .tup ws) hp
      exact q p ws _ sp upd_same (g.imp fun _ _ z => BdAt.same z sp)
    | .toss rs, ⟨a', ws, e, ha', g⟩, few, q =>
      cases e
      obtain ⟨ec, ew⟩ := cut_tail (.str "toss") ws
      refine ⟨_, rfl, rfl, _, rfl, iteT ?_⟩
      refine ⟨_, rfl, _, rfl, a, _, rfl, SqT.of ha', fun z => (ew z).elim, fun _ p hp => ?_⟩
      rw [ec]
      have sp := same_new (o := .tup ws) hp
      have hp1 : upd H p (.tup ws) p = some (.tup ws) := upd_same
      have g1 := g.imp (R' := fun w0 r => ∃ p0 x, w0 = .ref p0 ∧ upd H p (.tup ws) p0 = some (.tup [.int r.1, x]) ∧ BdAt n (upd H p (.tup ws)) x r.2) fun _ _ ⟨p0, x, e1, h1, z⟩ => ⟨p0, x, e1, sp _ _ h1, BdAt.same z sp⟩
      generalize upd H p (.tup ws) = H1 at sp hp1 g1 ⊢
      have lw : ws.length ≤ 90 := by rw [g1.1]; have : (rs.map fun r => r.2).length ≤ 90 := few; rw [List.length_map] at this; exact this
      refine ⟨p, rfl, ⟨_, SqT.of hp1⟩, fun D hD => ?_⟩
      refine lc_tup (xs := ws) (fun i Hc => Same H1 Hc ∧ ∃ us, Hc D = some (.lst us) ∧ AG (fun w b => BdAt n Hc w b) us ((rs.map fun r => r.2).take i)) ⟨same_new hD, [], upd_same, AG.nil⟩ (fun i Hc _ p' => SqT.of (p'.1 _ _ hp1)) ?_ ?_
      · rintro i v Hc hvi ⟨sm, us, hDc, hu⟩
        obtain ⟨r, hr, p0, x0, rfl, h0, z⟩ := g1.2 i v hvi
        have il := (List.getElem?_eq_some_iff.mp hvi).1
        have h0 := sm _ _ h0
        have z := BdAt.same z sm
        refine ⟨p0, _, rfl, SqT.of h0, rfl, _, _, rfl, _, _, rfl, rfl, rfl, ?_⟩
        have dt : ∀ b xs, Hc b = some (.tup xs) → upd Hc D (.lst (us ++ [x0])) b = some (.tup xs) := fun b xs e => by rw [upd_ne (fun y => by rw [y, hDc] at e; cases e)]; exact e
        refine ⟨_, rfl, us, hDc, small1000 (by rw [hu.1, List.length_take, List.length_map]; have := g1.1; omega), same_upd hD sm, us ++ [x0], upd_same, ?_⟩
        have hr2 : (rs.map fun r => r.2)[i]? = some r.2 := by rw [List.getElem?_map, hr]; rfl
        rw [take_snoc hr2]
        exact AG.snoc (hu.imp fun _ _ y => bdAt_keep dt n _ _ y) (bdAt_keep dt n _ _ z)
      · rintro Hc ⟨sm, us, hDc, hu⟩
        rw [List.take_of_length_le (by rw [List.length_map, g1.1]; exact Nat.le_refl _)] at hu
        refine ⟨D, _, rfl, .inl ⟨SqL.of hDc, fun t ht => ?_⟩⟩
        have st := same_new (o := .tup us) ht
        exact q t us _ ((sp.trans sm).trans st) upd_same (hu.imp fun _ _ y => BdAt.same y st)
end
end FR
set_option Elab.async false
set_option linter.all false
set_option maxRecDepth 100000
set_option maxHeartbeats 1000000
/-! placed_statements -/
namespace FR
open PySem PySem.Spec PyProof.Rows L2
/-- all but lists stays -/
def Kt (H H' : Hp) : Prop := ∀ a o, H a = some o → (∀ xs, o ≠ .lst xs) → H' a = some o
theorem Kt.same {H H' : Hp} (s : Same H H') : Kt H H' := fun a o h _ => s a o h
theorem Kt.trans {H H1 H2 : Hp} (a : Kt H H1) (b : Kt H1 H2) : Kt H H2 := fun q o h n => b q o (a q o h n) n
theorem Kt.upd {H : Hp} {l : Addr} {xs : List V} {o : HO} (h : H l = some (.lst xs)) : Kt H (L2.upd H l o) := fun a o' e n => by
  rw [upd_ne (fun z => by rw [z, h] at e; cases e; exact n xs rfl)]; exact e
theorem Kt.tup {H H' : Hp} (k : Kt H H') {a : Addr} {xs : List V} (h : H a = some (.tup xs)) : H' a = some (.tup xs) := k a _ h fun _ z => by cases z
theorem Kt.seqT {K : PySem.W.Frag} {H H' : Hp} (k : Kt H H') {a : Addr} {xs : List V} (h : SqT K H a xs) : SqT K H' a xs := by
  rcases h with (h | ⟨o, h⟩) | h
  · exact .inl (.inl (k.tup h))
  · exact .inl (.inr ⟨o, k _ _ h fun _ z => by cases z⟩)
  · exact .inr h
theorem Kt.bd {n : Nat} {H H' : Hp} (k : Kt H H') {v : V} {b : Bd} (h : BdAt n H v b) : BdAt n H' v b := bdAt_keep (fun _ _ x => k.tup x) n v b h
theorem Kt.st {n : Nat} {H H' : Hp} (k : Kt H H') {v : V} {x : St} (h : StAt n H v x) : StAt n H' v x := stW_imp (fun _ _ x => k.tup x) (bdAt_keep (fun _ _ x => k.tup x) n) h
/-! ### what is placed -/
abbrev PL1 : Type := List Nat × St
def kidsP (pl : Bd → List Nat → List PL1) (s : St) (p : List Nat) : List PL1 := s.kids.zipIdx.flatMap fun z => pl z.1 (p ++ [z.2])
def stP (pl : Bd → List Nat → List PL1) (s : St) (p : List Nat) : List PL1 := (p, s) :: kidsP pl s p
def placed : Nat → Bd → List Nat → List PL1
  | 0, _, _ => []
  | n + 1, b, p => b.zipIdx.flatMap fun z => stP (placed n) z.1 (p ++ [z.2])
/-- few bodies in each statement -/
def FewB : Nat → Bd → Prop
  | 0, _ => True
  | n + 1, b => ∀ s ∈ b, s.kids.length ≤ 90 ∧ ∀ k ∈ s.kids, FewB n k
theorem flat_le {α β : Type} {f : α → List β} : ∀ {l : List α} {x : α}, x ∈ l → (f x).length ≤ (l.flatMap f).length
  | y :: r, x, h => by
    rw [List.flatMap_cons, List.length_append]
    rcases List.mem_cons.mp h with e | h
    · rw [e]; omega
    · have := flat_le (f := f) h; omega
theorem flat_take {α β : Type} {f : α → List β} {l : List α} {i : Nat} {x : α} (h : l[i]? = some x) : (l.take (i + 1)).flatMap f = (l.take i).flatMap f ++ f x := by
  rw [take_snoc h, List.flatMap_append, List.flatMap_cons, List.flatMap_nil, List.append_nil]
theorem flat_take_le {α β : Type} {f : α → List β} (l : List α) (i : Nat) : ((l.take i).flatMap f).length ≤ (l.flatMap f).length := by
  conv => rhs; rw [← List.take_append_drop i l, List.flatMap_append, List.length_append]
  omega
theorem zip_get {α : Type} {l : List α} {i : Nat} {x : α} (h : l[i]? = some x) : l.zipIdx[i]? = some (x, i) := by
  rw [List.getElem?_zipIdx, h]
  simp
section
variable (K : PySem.W.Frag)
/-- a place and the statement there -/
def Pl (n : Nat) (H : Hp) (z : V) (y : PL1) : Prop := ∃ t a s, z = .ref t ∧ H t = some (.tup [.ref a, s]) ∧ SqT K H a (y.1.map fun i => V.int (i : Nat)) ∧ StAt n H s y.2
end
variable {K : PySem.W.Frag}
theorem Kt.pl {n : Nat} {H H' : Hp} (k : Kt H H') {z : V} {y : PL1} (h : Pl K n H z y) : Pl K n H' z y := by
  obtain ⟨t, a, s, e, ht, ha, hs⟩ := h
  exact ⟨t, a, s, e, k.tup ht, k.seqT ha, k.st hs⟩
theorem Pl.up {n : Nat} {H : Hp} {z : V} {y : PL1} (h : Pl K n H z y) : Pl K (n + 1) H z y := by
  obtain ⟨t, a, s, e, ht, ha, hs⟩ := h
  exact ⟨t, a, s, e, ht, ha, hs.up⟩
/-- p + (i,) -/
theorem cat_path {H : Hp} {a b : Addr} {p : List Nat} {i : Nat} {Q : VK} (h : SqT K H a (p.map fun i => V.int (i : Nat))) (g : H b = some (.tup [.int (i : Nat)])) (l : p.length ≤ 900) (q : ∀ c H', Same H H' → SqT K H' c ((p ++ [i]).map fun i => V.int (i : Nat)) → Q (.ref c) H') : rCatA K (.ref a) (.ref b) H Q := by
  have e : (p ++ [i]).map (fun i => V.int (i : Nat)) = p.map (fun i => V.int (i : Nat)) ++ [V.int (i : Nat)] := by rw [List.map_append]; rfl
  refine ⟨a, b, _, _, rfl, rfl, h, SqT.of g, Nat.le_of_lt (small1000 (by rw [List.length_map]; show _ + 1 ≤ 1000; omega)), fun z => q b H (Same.refl H) ?_, fun _ (z : [V.int (i : Nat)] = []) => (List.cons_ne_nil _ _ z).elim, fun _ _ c hc => q c _ (same_new hc) ?_⟩
  · rw [e, z]; exact SqT.of g
  · rw [e]; exact SqT.of upd_same
section
variable {P : Program} {w : World} {mg : Str → Option Value} {base : Heap}
abbrev sPls : Stmt := top 11
abbrev NPls : List Str := ["body", "path", "found", "number", "statement", "at", "inner", "part"]
theorem scPls : FnScope NPls ["body", "path"] (defScope sPls) := ⟨rfl, rfl, rfl, by decide +kernel, rfl, by decide +kernel, by decide +kernel⟩
def spPls (K : PySem.W.Frag) (n : Nat) : Sp := fun vs H Q _ => ∃ v pa b p, vs = [v, .ref pa] ∧ BdAt n H v b ∧ SqT K H pa (p.map fun i => V.int (i : Nat)) ∧ FewB n b ∧ p.length + 2 * n ≤ 100 ∧ (placed n b p).length ≤ 900 ∧
  ∀ l zs H', H l = none → Same H H' → H' l = some (.lst zs) → AG (fun z y => Pl K n H' z y) zs (placed n b p) → Q (.ref l) H'
theorem ok_pls {f : Addr} {fd : FuncData} {dT : Addr} {n k : Nat} (F : FunD K "placed_statements" "placed_statements" (defArgs sPls) (defBody sPls) (defScope sPls) [V.ref dT] [] f fd) (gB : Glo P w K mg base "bodies_in" 1 ["statement"] (spBin n)) (gS : FnOk P w K mg base CX0 k f fd ["body", "path"] (spPls K n)) (k1 : 1 ≤ k)
    (mS : mg "placed_statements" = some (.ref f)) (kS : PySem.W.keepIn K (.ref f) = true) (bS : Binds K fd ["body", "path"] []) (mEn : mg "enumerate" = none) : FnOk P w K mg base CX0 (k + 1) f fd ["body", "path"] (spPls K (n + 1)) := by
  refine F.ok scPls (fun vs H Q E h => ?_) (fun cdv A outer s H vs Q E hr h => ?_)
  · obtain ⟨v, pa, b, p, rfl, _⟩ := h
    rfl
  · obtain ⟨v, pa, b, p, rfl, ⟨a, xs, rfl, ha, hx⟩, hp, few, lp, sz, q⟩ := h
    refine ⟨_, PSs.nox (X := cxOf CX0 P w K mg base NPls "placed_statements" (defScope sPls) f cdv A outer s H E) (pss_cons (ps_set (i := 2) scPls.nd rfl (Or.inl rfl) (pe_lst pa_nil))
      (pss_cons (ps_for PassesOwn.never rfl (pi_enumT (by rfl) mEn (pa_cons (pv 0) pa_nil)) (pg_tup (by rfl) (pgs_cons (pg_name (i := 3) scPls.nd rfl (.inl rfl)) (pgs_cons (pg_name (i := 4) scPls.nd rfl (.inl rfl)) pgs_nil)))
        (pss_cons (ps_set (i := 5) scPls.nd rfl (Or.inl rfl) (pe_op op_catA (pv 1) (pe_tup (pa_cons (pv 3) pa_nil))))
        (pss_cons (ps_expr (pe_bm PySem.F.plainAttrs_list PySem.F.slot_list_append PySem.F.type_list_append mt_append (pv 2) (pa_cons (pe_tup (pa_cons (pv 5) (pa_cons (pv 4) pa_nil))) pa_nil)))
        (pss_one (ps_for PassesOwn.never rfl (pi_enumT (by rfl) mEn (pa_cons (pe_call gB.G (hr.mono k1) (by rfl) gB.m gB.k gB.b .nil pass0 (pa_cons (pv 4) pa_nil)) pa_nil)) (pg_tup (by rfl) (pgs_cons (pg_name (i := 6) scPls.nd rfl (.inl rfl)) (pgs_cons (pg_name (i := 7) scPls.nd rfl (.inl rfl)) pgs_nil)))
          (pss_one (ps_expr (pe_bm PySem.F.plainAttrs_list PySem.F.slot_list_extend PySem.F.type_list_extend mt_extend (pv 2) (pa_cons (pe_call gS hr (by rfl) mS kS bS .nil pass0 (pa_cons (pv 7) (pa_cons (pe_op op_catA (pv 5) (pe_tup (pa_cons (pv 6) pa_nil))) pa_nil))) pa_nil)))))))))
      (pss_one (ps_ret (pv 2))))), ?_⟩
    refine ⟨Nat.zero_le _, fun fo hfo => ?_⟩
    have s0 := same_new (o := .lst []) hfo
    have h0 : upd H fo (.lst []) fo = some (.lst []) := upd_same
    generalize upd H fo (.lst []) = H0 at s0 h0 ⊢
    refine ⟨_, rfl, a, xs, rfl, SqT.of (s0 _ _ ha), ?_⟩
    have xl : xs.length = b.length := hx.1
    let ft : Nat → List PL1 := fun i => (b.zipIdx.take i).flatMap fun z => stP (placed n) z.1 (p ++ [z.2])
    refine for_it (walk_enumT (xs := xs)) (fun i σ Hc => Same H Hc ∧ ∃ (us : List V) (x3 x4 x5 x6 x7 : Option V), σ = [some (.ref a), some (.ref pa), some (.ref fo), x3, x4, x5, x6, x7] ∧ Hc fo = some (.lst us) ∧ AG (fun z y => Pl K (n + 1) Hc z y) us (ft i))
      ⟨s0, [], _, _, _, _, _, rfl, h0, AG.nil⟩ (fun i σ Hc _ p' => SqT.of (p'.1 _ _ ha)) ?_ ?_
    · rintro i v σ Hc H' hi ⟨sm, us, x3, x4, x5, x6, x7, rfl, hfc, hu⟩ ⟨T0, u1, u2, rfl, nT, rfl, h1, h2⟩
      have h1 : some (V.int (i : Nat)) = some u1 := h1
      cases h1
      have h2 : xs[i]? = some u2 := h2
      obtain ⟨st, hst, hs⟩ := hx.2 i u2 h2
      have il : i < b.length := (List.getElem?_eq_some_iff.mp hst).1
      obtain ⟨fk, fks⟩ := few st (List.mem_of_getElem? hst)
      have sT := same_new (o := .tup [V.int (i : Nat), u2]) nT
      have tt0 : upd Hc T0 (.tup [V.int (i : Nat), u2]) T0 = some (.tup [V.int (i : Nat), u2]) := upd_same
      refine ⟨T0, _, rfl, SqT.of tt0, rfl, _, _, rfl, _, _, rfl, rfl, ?_⟩
      have s1 := sm.trans sT
      have hf1 := sT _ _ hfc
      have k1' : Kt Hc (upd Hc T0 (.tup [V.int (i : Nat), u2])) := Kt.same sT
      generalize upd Hc T0 (.tup [V.int (i : Nat), u2]) = HA at s1 hf1 k1' ⊢
      -- the place
      refine ⟨_, rfl, _, rfl, small1000 (Nat.le_of_ble_eq_true rfl), fun p1 hp1 => ?_⟩
      have s2 := same_new (o := .tup [V.int (i : Nat)]) hp1
      refine cat_path ((Kt.same (s1.trans s2)).seqT hp) upd_same (by omega) fun ac HB sB hac => ?_
      have s3 := s2.trans sB
      have hf3 := s3 _ _ hf1
      refine ⟨_, rfl, .inl ⟨rfl, _, SqL.of hf3⟩, _, rfl, _, rfl, small1000 (Nat.le_of_ble_eq_true rfl), fun t ht => ?_⟩
      have s4 := same_new (o := .tup [V.ref ac, u2]) ht
      have ht4 : upd HB t (.tup [V.ref ac, u2]) t = some (.tup [V.ref ac, u2]) := upd_same
      have hf4 := s4 _ _ hf3
      have s04 := (s1.trans s3).trans s4
      have kc4 := (k1'.trans (Kt.same s3)).trans (Kt.same s4)
      have hac4 := (Kt.same s4).seqT hac
      generalize upd HB t (.tup [V.ref ac, u2]) = HC at ht4 hf4 s04 kc4 hac4 ⊢
      have total : (placed (n + 1) b p).length ≤ 900 := sz
      have hit : (ft (i + 1)).length ≤ 900 := Nat.le_trans (flat_take_le _ _) total
      have step : ft (i + 1) = ft i ++ stP (placed n) st (p ++ [i]) := flat_take (zip_get hst)
      have lft : us.length = (ft i).length := hu.1
      have lst_ : (ft i).length + 1 + (kidsP (placed n) st (p ++ [i])).length ≤ 900 := by
        rw [step, List.length_append] at hit
        unfold stP at hit
        rw [List.length_cons] at hit
        omega
      refine ⟨fo, us, _, rfl, rfl, hf4, small1000 (by omega), ?_⟩
      have kd := Kt.upd (o := .lst (us ++ [V.ref t])) hf4
      have hf5 : upd HC fo (.lst (us ++ [V.ref t])) fo = some (.lst (us ++ [V.ref t])) := upd_same
      have s05 : Same H (upd HC fo (.lst (us ++ [V.ref t]))) := same_upd hfo s04
      have kc5 := kc4.trans kd
      have hac5 := kd.seqT hac4
      have hs5 := ((Kt.same sm).trans kc5).st hs
      have hu5 : AG (fun z y => Pl K (n + 1) (upd HC fo (.lst (us ++ [V.ref t]))) z y) (us ++ [V.ref t]) (ft i ++ [(p ++ [i], st)]) := AG.snoc (hu.imp fun _ _ y => kc5.pl y) ⟨t, ac, u2, rfl, kd.tup ht4, hac5, hs5.up⟩
      generalize upd HC fo (.lst (us ++ [V.ref t])) = HD at hf5 s05 kc5 hac5 hs5 hu5 ⊢
      -- the bodies in it
      refine ⟨_, rfl, u2, st, rfl, hs5, fk, fun ka ks HE sE hka hks => ⟨ka, ks, rfl, SqT.of hka, ?_⟩⟩
      have kl : ks.length = st.kids.length := hks.1
      let fk_ : Nat → List PL1 := fun j => (st.kids.zipIdx.take j).flatMap fun z => placed n z.1 (p ++ [i] ++ [z.2])
      refine for_it (walk_enumT (xs := ks)) (fun j σ Hx => Same H Hx ∧ Kt HE Hx ∧ ∃ (ws : List V) (x6 x7 : Option V), σ = [some (.ref a), some (.ref pa), some (.ref fo), some (.int (i : Nat)), some u2, some (.ref ac), x6, x7] ∧ Hx fo = some (.lst ws) ∧ AG (fun z y => Pl K (n + 1) Hx z y) ws ((ft i ++ [(p ++ [i], st)]) ++ fk_ j))
        ⟨s05.trans sE, Kt.same (Same.refl _), _, _, _, rfl, sE _ _ hf5, by
          show AG _ _ ((ft i ++ [(p ++ [i], st)]) ++ [])
          rw [List.append_nil]
          exact hu5.imp fun _ _ y => (Kt.same sE).pl y⟩ (fun j σ Hx _ p' => SqT.of (p'.2.1.tup hka)) ?_ ?_
      · rintro j v σ Hx H' hj ⟨sx, kx, ws, x6, x7, rfl, hfx, hw⟩ ⟨T1, u3, u4, rfl, nT1, rfl, h3, h4⟩
        have h3 : some (V.int (j : Nat)) = some u3 := h3
        cases h3
        have h4 : ks[j]? = some u4 := h4
        obtain ⟨kb, hkb, hb⟩ := hks.2 j u4 h4
        have sT1 := same_new (o := .tup [V.int (j : Nat), u4]) nT1
        have tt1 : upd Hx T1 (.tup [V.int (j : Nat), u4]) T1 = some (.tup [V.int (j : Nat), u4]) := upd_same
        refine ⟨T1, _, rfl, SqT.of tt1, rfl, _, _, rfl, _, _, rfl, rfl, ?_⟩
        have hfx1 := sT1 _ _ hfx
        refine ⟨_, rfl, .inl ⟨rfl, _, SqL.of hfx1⟩, _, rfl, _, rfl, _, rfl, small1000 (Nat.le_of_ble_eq_true rfl), fun p2 hp2 => ?_⟩
        have sp2 := same_new (o := .tup [V.int (j : Nat)]) hp2
        have sx2 := sT1.trans sp2
        refine cat_path (((Kt.same sE).trans kx).trans (Kt.same sx2) |>.seqT hac5) upd_same (by rw [List.length_append]; show p.length + 1 ≤ 900; omega) fun kc HF sF hkc => ?_
        have sx3 := sx2.trans sF
        have stepk : fk_ (j + 1) = fk_ j ++ placed n kb (p ++ [i] ++ [j]) := flat_take (zip_get hkb)
        have lek : (fk_ (j + 1)).length ≤ (kidsP (placed n) st (p ++ [i])).length := flat_take_le _ _
        rw [stepk, List.length_append] at lek
        refine ⟨u4, kc, kb, p ++ [i] ++ [j], rfl, (kx.trans (Kt.same sx3)).bd hb, hkc, fks kb (List.mem_of_getElem? hkb), by rw [List.length_append, List.length_append]; show p.length + 1 + 1 + 2 * n ≤ 100; omega, by omega, fun l2 zs HG nl2 sG hl2 hz => ?_⟩
        have sx4 := sx3.trans sG
        have lw : ws.length = (ft i).length + 1 + (fk_ j).length := by
          have := hw.1
          rw [List.length_append, List.length_append] at this
          exact this
        have lz : zs.length = (placed n kb (p ++ [i] ++ [j])).length := hz.1
        have hfG := sx4 _ _ hfx
        refine ⟨fo, l2, ws, zs, rfl, rfl, hfG, hl2, Nat.le_of_lt (small1000 (by omega)), ?_⟩
        have kG := Kt.upd (o := .lst (ws ++ zs)) hfG
        refine ⟨same_upd hfo (sx.trans sx4), (kx.trans (Kt.same sx4)).trans kG, _, _, _, rfl, upd_same, ?_⟩
        rw [stepk, ← List.append_assoc]
        exact AG.app (hw.imp fun _ _ y => ((Kt.same sx4).trans kG).pl y) (hz.imp fun _ _ y => kG.pl y.up)
      · rintro σ Hx ⟨sx, kx, ws, x6, x7, rfl, hfx, hw⟩
        have e : fk_ ks.length = kidsP (placed n) st (p ++ [i]) := by
          show (st.kids.zipIdx.take ks.length).flatMap _ = _
          rw [List.take_of_length_le (by rw [List.length_zipIdx, kl]; exact Nat.le_refl _)]
          rfl
        rw [e, List.append_assoc] at hw
        refine ⟨sx, ws, _, _, _, _, _, rfl, hfx, ?_⟩
        rw [step]
        exact hw
    · rintro σ Hc ⟨sm, us, x3, x4, x5, x6, x7, rfl, hfc, hu⟩
      have e : ft xs.length = placed (n + 1) b p := by
        show (b.zipIdx.take xs.length).flatMap _ = _
        rw [List.take_of_length_le (by rw [List.length_zipIdx, xl]; exact Nat.le_refl _)]
        rfl
      rw [e] at hu
      exact ⟨_, rfl, q fo us Hc hfo sm hfc hu⟩
end
end FR
set_option Elab.async false
set_option linter.all false
set_option maxRecDepth 100000
set_option maxHeartbeats 1000000
/-! placed_statements at every level; statements_of -/
namespace FR
open PySem PySem.Spec PyProof.Rows L2
section
variable {P : Program} {w : World} {K : PySem.W.Frag} {mg : Str → Option Value} {base : Heap}
/-- at every level -/
theorem ok_placed {f dT : Addr} {fd : FuncData} (F : FunD K "placed_statements" "placed_statements" (defArgs sPls) (defBody sPls) (defScope sPls) [V.ref dT] [] f fd) (gB : ∀ n, Glo P w K mg base "bodies_in" 1 ["statement"] (spBin n))
    (mS : mg "placed_statements" = some (.ref f)) (kS : PySem.W.keepIn K (.ref f) = true) (bS : Binds K fd ["body", "path"] []) (mEn : mg "enumerate" = none) : ∀ n, FnOk P w K mg base CX0 (n + 1) f fd ["body", "path"] (spPls K n)
  | 0 => by
    refine F.ok scPls (fun vs H Q E h => ?_) (fun cdv A outer s H vs Q E hr h => ?_)
    · obtain ⟨v, pa, b, p, rfl, h, _⟩ := h
      exact h.elim
    · obtain ⟨v, pa, b, p, rfl, h, _⟩ := h
      exact h.elim
  | n + 1 => ok_pls F (gB n) (ok_placed F gB mS kS bS mEn n) (by omega) mS kS bS mEn
abbrev sSof : Stmt := top 12
abbrev NSof : List Str := ["body", "word", "_", "statement"]
theorem scSof : FnScope NSof ["body", "word"] (defScope sSof) := ⟨rfl, rfl, rfl, by decide +kernel, rfl, by decide +kernel, by decide +kernel⟩
/-- those of this word -/
def ofWord (n : Nat) (b : Bd) (z : Str) : List St := ((placed n b []).map fun y => y.2).filter fun x => decide (x.word = z)
def spSof (K : PySem.W.Frag) (n : Nat) : Sp := fun vs H Q _ => ∃ v b z, vs = [v, .str z] ∧ BdAt n H v b ∧ FewB n b ∧ 2 * n ≤ 100 ∧ (placed n b []).length ≤ 900 ∧ ∀ l us H', Same H H' → H' l = some (.lst us) → AG (fun v x => StAt n H' v x) us (ofWord n b z) → Q (.ref l) H'
theorem ok_sof {f fp dT : Addr} {fd fdp : FuncData} {n : Nat} (F : Fun K "statements_of" "statements_of" sSof f fd) (GP : FnOk P w K mg base CX0 (n + 1) fp fdp ["body", "path"] (spPls K n)) (mP : mg "placed_statements" = some (.ref fp)) (kP : PySem.W.keepIn K (.ref fp) = true)
    {ds : List Value} (bP : Binds K fdp ["body", "path"] ds) (vP : Vals [V.ref dT] ds) (hT : ∀ H, SqT K H dT []) : FnOk P w K mg base CX0 (n + 2) f fd ["body", "word"] (spSof K n) := by
  refine F.ok scSof (fun vs H Q E h => ?_) (fun cdv A outer s H vs Q E hr h => ?_)
  · obtain ⟨v, b, z, rfl, _⟩ := h
    rfl
  · obtain ⟨v, b, z, rfl, hb, few, n50, sz, q⟩ := h
    refine ⟨_, (pss_one (ps_ret (pe_lc (X := (cxOf CX0 P w K mg base NSof "statements_of" (defScope sSof) f cdv A outer s H E).nox) (own := [("_", 2), ("statement", 3)]) (g := (gTup K 2 (gCons (gName 2) (gCons (gName 3) gNil)))) rfl scSof.nd (pi_list (pe_call GP hr (by rfl) mP kP bP vP pass0 (pa_cons (pv 0) pa_nil))) (blkOk_by (N := NSof) (sc := defScope sSof) (by decide +kernel)) (fun _ _ _ _ _ => (pg_tupK (K := K) rfl rfl (pgs_cons (pg_name (i := 2) scSof.nd rfl (.inl rfl)) (pgs_cons (pg_name (i := 3) scSof.nd rfl (.inl rfl)) pgs_nil)))) (fun _ _ _ _ _ => (pts_one (pt_cmpR op_eq (pe_ix (ix_tupK (K := K) rfl) (pv 3) pe_int (fun _ _ => rfl)) (pv 1) (nomark _)))) (fun _ _ _ _ _ => (pv 3))))), ?_⟩
    refine ⟨_, rfl, v, dT, b, [], rfl, hb, hT H, few, by show 0 + 2 * n ≤ 100; omega, sz, fun l zs H1 nl s1 hl hz => ?_⟩
    have zl : zs.length = (placed n b []).length := hz.1
    refine ⟨l, rfl, ⟨_, SqL.of hl⟩, fun D hD => ?_⟩
    let g : Nat → List St := fun i => (((placed n b []).take i).map fun y => y.2).filter fun x => decide (x.word = z)
    refine lc_list (xs := zs) (fun i Hc => Same H1 Hc ∧ ∃ us, Hc D = some (.lst us) ∧ us.length ≤ i ∧ AG (fun v x => StAt n Hc v x) us (g i)) ⟨same_new hD, [], upd_same, Nat.le_refl _, AG.nil⟩ (fun i Hc _ p => SqL.of (p.1 _ _ hl)) ?_ ?_
    · rintro i v' Hc hvi ⟨sm, us, hDc, lu, hu⟩
      obtain ⟨y, hy, t, a, x, rfl, ht, _, hx⟩ := hz.2 i v' hvi
      have il := (List.getElem?_eq_some_iff.mp hvi).1
      have ht := sm _ _ ht
      have hx := (Kt.same sm).st hx
      obtain ⟨ax, xs, rfl, hax⟩ := hx.head
      have gs : g (i + 1) = g i ++ (if decide (y.2.word = z) = true then [y.2] else []) := by
        show (((placed n b []).take (i + 1)).map _).filter _ = _
        rw [take_snoc hy, List.map_append, List.filter_append]
        congr 1
        show List.filter _ [y.2] = _
        rw [List.filter_cons]
        split <;> rfl
      refine ⟨t, _, rfl, SqT.of ht, rfl, _, _, rfl, _, _, rfl, rfl, rfl, ?_⟩
      refine ⟨_, rfl, ax, _, 0, _, rfl, rfl, SqT.of hax, atI_nat (j := 0) rfl, _, rfl, rfl, _, rfl, ?_⟩
      have de : decide (V.str y.2.word = V.str z) = decide (y.2.word = z) := by
        by_cases h : y.2.word = z
        · rw [h, decide_eq_true rfl, decide_eq_true rfl]
        · rw [decide_eq_false h, decide_eq_false fun e => h (V.str.inj e)]
      rw [de]
      refine ite2 (fun h => ?_) (fun h => ?_)
      · rw [if_pos h] at gs
        have kd := Kt.upd (o := .lst (us ++ [V.ref ax])) hDc
        refine ⟨_, rfl, us, hDc, small1000 (by omega), same_upd hD sm, us ++ [.ref ax], upd_same, by rw [List.length_append]; show us.length + 1 ≤ i + 1; omega, ?_⟩
        rw [gs]
        exact AG.snoc (hu.imp fun _ _ y => kd.st y) (kd.st hx)
      · rw [if_neg h, List.append_nil] at gs
        exact ⟨sm, us, hDc, by omega, by rw [gs]; exact hu⟩
    · rintro Hc ⟨sm, us, hDc, _, hu⟩
      have e : g zs.length = ofWord n b z := by
        show (((placed n b []).take zs.length).map _).filter _ = _
        rw [zl, List.take_length]
        rfl
      rw [e] at hu
      exact q D us Hc (s1.trans sm) hDc hu
end
end FR
set_option Elab.async false
set_option linter.all false
set_option maxRecDepth 100000
set_option maxHeartbeats 1000000
/-! is_between, is_name, _is_weight -/
namespace FR
open PySem PySem.Spec PyProof.Rows L2
abbrev sPlain : Stmt := top 7
abbrev sBet : Stmt := top 8
abbrev sNm : Stmt := top 20
abbrev sWt : Stmt := top 25
def spPlain (K : PySem.W.Frag) : Sp := fun vs H Q _ => ∃ (v : V) (t : Value) (b1 b2 : Bool), vs = [v] ∧ TyX K H v t ∧ PySem.W.kitOne K t (.type "int") = some b1 ∧ PySem.W.kitOne K t (.type "bool") = some b2 ∧ Q (.bl (b1 && !b2)) H
section
variable {P : Program} {w : World} {K : PySem.W.Frag} {mg : Str → Option Value} {base : Heap}
theorem scP : FnScope ["value"] ["value"] (defScope sPlain) := ⟨rfl, rfl, rfl, by decide +kernel, rfl, by decide +kernel, by decide +kernel⟩
theorem ok_plain {f : Addr} {fd : FuncData} (F : Fun K "is_plain_integer" "is_plain_integer" sPlain f fd) (m1 : mg "isinstance" = none) (m2 : mg "int" = none) (m3 : mg "bool" = none) : FnOk P w K mg base CX0 1 f fd ["value"] (spPlain K) := by
  refine F.ok scP (fun vs H Q E h => ?_) (fun cdv A outer s H vs Q E hr h => ?_)
  · obtain ⟨v, _, _, _, rfl, _⟩ := h
    rfl
  · obtain ⟨v, t, b1, b2, rfl, ht, h1, h2, k⟩ := h
    refine ⟨_, pss_one (ps_ret (pe_and (pe_callB call_isi (by rfl) m1 PyProof.Rows.boot_isinstance (pa_cons (pv 0) (pa_cons (pe_bltn (v := .ty "int") (by rfl) m2 (by decide +kernel) rfl) pa_nil)))
      (pe_one (pe_not (pe_callB call_isi (by rfl) m1 PyProof.Rows.boot_isinstance (pa_cons (pv 0) (pa_cons (pe_bltn (v := .ty "bool") (by rfl) m3 (by decide +kernel) rfl) pa_nil))))))), ?_⟩
    refine ⟨_, rfl, v, _, t, _, b1, rfl, .ty _, ht, h1, _, rfl, ?_⟩
    cases b1 with
    | false => exact k
    | true => exact ⟨_, rfl, v, _, t, _, b2, rfl, .ty _, ht, h2, _, rfl, k⟩
theorem kI1 : PySem.W.kitOne K (.type "int") (.type "int") = some true := kit_ty (by decide +kernel)
theorem kI2 : PySem.W.kitOne K (.type "int") (.type "bool") = some false := kit_ty (by decide +kernel)
theorem scBet : FnScope ["value", "least", "greatest"] ["value", "least", "greatest"] (defScope sBet) := ⟨rfl, rfl, rfl, by decide +kernel, rfl, by decide +kernel, by decide +kernel⟩
def spBetX : Sp := fun vs H Q _ => ∃ i lo hi : Int, vs = [.int i, .int lo, .int hi] ∧ Q (.bl (decide (lo ≤ i) && decide (i ≤ hi))) H
theorem ok_betX {f fP : Addr} {fd fdP : FuncData} (F : Fun K "is_between" "is_between" sBet f fd) (GP : FnOk P w K mg base CX0 1 fP fdP ["value"] (spPlain K)) (mP : mg "is_plain_integer" = some (.ref fP))
    (kP : PySem.W.keepIn K (.ref fP) = true) (bP : Binds K fdP ["value"] []) : FnOk P w K mg base CX0 2 f fd ["value", "least", "greatest"] spBetX := by
  refine F.ok scBet (fun vs H Q E h => ?_) (fun cdv A outer s H vs Q E hr h => ?_)
  · obtain ⟨i, lo, hi, rfl, _⟩ := h
    rfl
  · obtain ⟨i, lo, hi, rfl, q⟩ := h
    refine ⟨_, pss_one (ps_ret (pe_and (pe_call GP hr (by rfl) mP kP bP .nil pass0 (pa_cons (pv 0) pa_nil)) (pe_one (pe_chain op_le op_le (pv 1) (pv 0) (pv 2))))), ?_⟩
    refine ⟨_, rfl, _, _, true, false, rfl, .base (.int i), kI1, kI2, _, rfl, ?_⟩
    refine ⟨_, rfl, _, rfl, _, _, rfl, rfl, _, rfl, ?_⟩
    by_cases h1 : lo ≤ i
    · rw [if_pos (decide_eq_true h1)]
      refine ⟨_, rfl, _, _, rfl, rfl, ?_⟩
      rw [decide_eq_true h1, Bool.true_and] at q
      exact q
    · rw [if_neg (by rw [decide_eq_false h1]; decide)]
      rw [decide_eq_false h1, Bool.false_and] at q
      first
      | exact q
      | (rw [decide_eq_false h1]; exact q)
end
def lets : Str := "abcdefghijklmnopqrstuvwxyz"
/-- whether it is a name -/
def nameB (z : Str) : Bool := (decide ((1 : Int) ≤ (z.length : Nat)) && decide (((z.length : Nat) : Int) ≤ 8)) && z.cps.toList.all fun c => decide (c ∈ lets.cps.toList)
section
variable {P : Program} {w : World} {K : PySem.W.Frag} {mg : Str → Option Value} {base : Heap}
abbrev NNm : List Str := ["value", "letter"]
theorem scNm : FnScope NNm ["value"] (defScope sNm) := ⟨rfl, rfl, rfl, by decide +kernel, rfl, by decide +kernel, by decide +kernel⟩
/-- a text; or no text at all -/
def spNm (K : PySem.W.Frag) : Sp := fun vs H Q _ => (∃ z, vs = [.str z] ∧ z.length ≤ sizeLine ∧ ∀ H', Same H H' → Q (.bl (nameB z)) H') ∨ (∃ v t, vs = [v] ∧ TyX K H v t ∧ PySem.W.kitOne K t (.type "str") = some false ∧ Q (.bl false) H)
structure TxtN (mg : Str → Option Value) : Prop where
  isi : mg "isinstance" = none
  str : mg "str" = none
  len : mg "len" = none
  all : mg "all" = none
  ml : ∃ t, mg "MAX_LETTERS" = some (.int 8 t)
  le : ∃ t, mg "LETTERS" = some (.str lets t)
theorem ok_nm {f : Addr} {fd : FuncData} (F : Fun K "is_name" "is_name" sNm f fd) (T : TxtN mg) (gB : Glo P w K mg base "is_between" 2 ["value", "least", "greatest"] spBetX) : FnOk P w K mg base CX0 3 f fd ["value"] (spNm K) := by
  refine F.ok scNm (fun vs H Q E h => ?_) (fun cdv A outer s H vs Q E hr h => ?_)
  · rcases h with ⟨z, rfl, _⟩ | ⟨v, t, rfl, _⟩ <;> rfl
  · obtain ⟨t1, m1⟩ := T.ml
    obtain ⟨t2, m2⟩ := T.le
    refine ⟨_, (pss_cons (ps_if (PW.pt (pw_or (pt_not (pt_val (pe_callB call_isi (by rfl) T.isi PyProof.Rows.boot_isinstance (pa_cons (pv 0) (pa_cons (pe_bltn (v := .ty "str") (by rfl) T.str (by decide +kernel) rfl) pa_nil))))) (pw_or1 (pt_not (pt_val (pe_call gB.G (hr.mono (by decide)) (by rfl) gB.m gB.k gB.b .nil pass0 (pa_cons (pe_callB call_len_str (by rfl) T.len PySem.boot_len (pa_cons (pv 0) pa_nil)) (pa_cons pe_int (pa_cons (pe_glob (v := .int 8) (by rfl) m1 ⟨t1, rfl⟩) pa_nil))))))))) (pss_one (ps_ret pe_bl)) pss_nil)
      (pss_one (ps_ret (pe_callB (cr_all rfl) (by rfl) T.all (by decide +kernel) (pa_cons (pe_lc (X := (cxOf CX0 P w K mg base NNm "is_name" (defScope sNm) f cdv A outer s H E).nox) (own := [("letter", 1)]) (g := (gName 1)) (tt := tYes) rfl scNm.nd (pi_str (pv 0)) (blkOk_by (N := NNm) (sc := defScope sNm) (by decide +kernel)) (fun _ _ _ _ _ => (pg_name (i := 1) scNm.nd rfl (.inl rfl))) (fun _ _ _ _ _ => pts_nil) (fun _ _ _ _ _ => (pe_cmpR op_in_sign (pv 1) (pe_glob (v := .str lets) (by rfl) m2 ⟨t2, rfl⟩) rfl))) pa_nil))))), ?_⟩
    rcases h with ⟨z, rfl, zl, q⟩ | ⟨v, t, rfl, ty, kt, q⟩
    · refine ⟨_, rfl, _, _, _, _, true, rfl, .ty _, .base (.str z), kit_ty (by decide +kernel), _, rfl, iteF ?_⟩
      refine ⟨_, rfl, z, rfl, zl, _, 1, 8, rfl, _, rfl, ?_⟩
      unfold nameB at q
      cases c1 : (decide ((1 : Int) ≤ (z.length : Nat)) && decide (((z.length : Nat) : Int) ≤ 8)) with
      | false =>
        rw [c1, Bool.false_and] at q
        exact iteT (q H (Same.refl H))
      | true =>
      rw [c1, Bool.true_and] at q
      have l8 : z.cps.size ≤ 8 := by
        have := of_decide_eq_true (Bool.and_eq_true_iff.mp c1).2
        have e : z.length = z.cps.size := rfl
        omega
      refine iteF ⟨_, rfl, z, rfl, fun D hD => ?_⟩
      let bs : List Bool := z.cps.toList.map fun c => decide (c ∈ lets.cps.toList)
      refine lc_it walk_str (fun i Hc => Same H Hc ∧ Hc D = some (.lst ((bs.take i).map V.bl))) ⟨same_new hD, upd_same⟩ (fun _ _ _ _ => True.intro) ?_ ?_
      · rintro i x Hc H' hi ⟨sm, hDc⟩ ⟨rfl, c, hc, rfl⟩
        have hb : bs[i]? = some (decide (c ∈ lets.cps.toList)) := by
          show (z.cps.toList.map _)[i]? = _
          rw [List.getElem?_map, Array.getElem?_toList, hc]; rfl
        refine ⟨rfl, _, rfl, c, lets, rfl, rfl, _, hDc, small1000 (by rw [List.length_map, List.length_take]; omega), same_upd hD sm, ?_⟩
        rw [take_snoc hb, List.map_append]
        exact upd_same
      · rintro Hc ⟨sm, hDc⟩
        rw [List.take_of_length_le (by show (z.cps.toList.map _).length ≤ _; rw [List.length_map, Array.length_toList]; exact Nat.le_refl _)] at hDc
        refine ⟨D, _, rfl, SqL.of hDc, ?_⟩
        have e : bs.all id = z.cps.toList.all fun c => decide (c ∈ lets.cps.toList) := by
          show (z.cps.toList.map _).all id = _
          rw [List.all_map]; rfl
        rw [e]
        exact q Hc sm
    · exact ⟨_, rfl, _, _, _, _, false, rfl, .ty _, ty, kt, _, rfl, iteT q⟩
theorem scWt : FnScope ["value"] ["value"] (defScope sWt) := ⟨rfl, rfl, rfl, by decide +kernel, rfl, by decide +kernel, by decide +kernel⟩
def spWt : Sp := fun vs H Q _ => ∃ i : Int, vs = [.int i] ∧ Q (.bl (decide (1 ≤ i) && decide (i ≤ 99))) H
theorem ok_wt {f : Addr} {fd : FuncData} (F : Fun K "_is_weight" "_is_weight" sWt f fd) {t : Tok} (m1 : mg "MAX_WEIGHT" = some (.int 99 t)) (gB : Glo P w K mg base "is_between" 2 ["value", "least", "greatest"] spBetX) : FnOk P w K mg base CX0 3 f fd ["value"] spWt := by
  refine F.ok scWt (fun vs H Q E h => ?_) (fun cdv A outer s H vs Q E hr h => ?_)
  · obtain ⟨i, rfl, _⟩ := h
    rfl
  · obtain ⟨i, rfl, q⟩ := h
    refine ⟨_, (pss_one (ps_ret (pe_call gB.G (hr.mono (by decide)) (by rfl) gB.m gB.k gB.b .nil pass0 (pa_cons (pv 0) (pa_cons pe_int (pa_cons (pe_glob (v := .int 99) (by rfl) m1 ⟨t, rfl⟩) pa_nil)))))), ?_⟩
    exact ⟨_, rfl, i, 1, 99, rfl, q⟩
end
end FR
set_option Elab.async false
set_option linter.all false
set_option maxRecDepth 100000
set_option maxHeartbeats 4000000
/-! a, *b = a tuple -/
namespace SV
open PySem PySem.Spec PyProof.Rows
theorem tail {prog : Program} {w : World} {A : Around} (hh : A.handled = none) (I ax : Addr) (hne : ax ≠ I) (items : Array Value) :
    Walks prog w A I [I, ax] [I] (items.size - 1) (fun i v => items[i + 1]? = some v) (fun i h => h.IsTupleIter I ax (i + 1) ∧ h.IsTuple ax items) where
  sub := fun b hb => by simp at hb; simp [hb]
  frame := fun _ _ _ st hk => ⟨st.1.at fun o e => hk I (by simp) o e, st.2.at fun o e => hk ax (by simp) o e⟩
  item := fun i s Q E hi st hQ => by
    have lt : i + 1 < items.size := by omega
    refine wpAny_pyNext_tuple_item st.1 st.2 (x := items[i + 1]) (by simp [lt]) fun h' hit' hs' => ?_
    exact hQ _ h' s.toks (by simp [lt]) ⟨hit', st.2.extBut hs'.extBut hne⟩ fun b o hb e => hs'.extBut b o (fun h => hb (by simp [h])) e
  done := fun s Q E st hQ => wpAny_pyNext_tuple_end hh st.1 st.2 (by simp; omega) fun h' he' => hQ h' s.toks fun b o hb e => he' b o (fun h => hb (by simp [h])) e
  self := fun _ _ _ _ st hQ => wpAny_pyIter_tupleiter st.1 hQ
section
variable {prog : Program} {w : World} {A : Around} {E : Value → Shared → Prop} {s : Shared}
theorem unpackItems_star {l : Addr} {items : Array Value} {Q : List Value → Shared → Prop} (hh : A.handled = none) (hl : s.heap.IsTuple l items) (h0 : 0 < items.size) (hz : items.size ≤ sizeLine)
    (hQ : ∀ (h' : Heap) (tk : Nat), (∀ b o, s.heap.get? b = some o → h'.get? b = some o) → s.toks ≤ tk → Q [items[0], .ref h'.objs.size] { s with heap := h'.push { cls := .type "list", data := .seq (items.toList.drop 1).toArray }, toks := tk }) :
    wpAny (model prog w) A (unpackItems (.ref l) 2 (some 1)) Q E s := by
  have hlt : l ≠ s.heap.objs.size := by obtain ⟨o, ho, _⟩ := hl; exact Nat.ne_of_lt (Heap.lt_size ho)
  unfold unpackItems
  refine wpAny_bind ?_
  unfold notIterableAtAll
  refine wpAny_bind (wpAny_specialOf hl.typeIs slot_tuple_iter.lookup ?_)
  refine wpAny_pure ?_
  simp only [Bool.false_eq_true, if_false]
  refine wpAny_bind (wpAny_holding (wpAny_pyIter_tuple hl ?_))
  have hl1 : (s.heap.push { cls := .type "tuple_iterator", data := .fields #[.ref l, .int 0 0] }).IsTuple l items := hl.push _
  have hit0 : (s.heap.push { cls := .type "tuple_iterator", data := .fields #[.ref l, .int 0 0] }).IsTupleIter s.heap.objs.size l 0 := ⟨_, Heap.get?_push_size _ rfl, rfl, rfl⟩
  refine wpAny_bind (wpAny_holding ?_)
  show wpAny _ _ (pyNext (.ref s.heap.objs.size) >>= _) _ _ _
  refine wpAny_bind (wpAny_pyNext_tuple_item hit0 hl1 (x := items[0]) (by simp [h0]) fun h1 hit1 hs1 => ?_)
  refine wpAny_bind (wpAny_holding (wpAny_pure (wpAny_pure ?_)))
  show wpAny _ _ (if ([items[0]] : List Value).length < 1 then _ else _) _ _ _
  rw [if_neg (by simp)]
  have hl2 : h1.IsTuple l items := hl1.extBut hs1.extBut hlt
  have isz : s.heap.objs.size < h1.objs.size := by obtain ⟨o, ho, _⟩ := hit1; exact Heap.lt_size ho
  have lsz : l < h1.objs.size := by obtain ⟨o, ho, _⟩ := hl2; exact Heap.lt_size ho
  refine wpAny_bind (wpAny_holding (wpAny_collect_iter (T := "tuple_iterator") (.inr (.inr (.inr rfl))) (tail (A := A.in1) hh s.heap.objs.size l hlt items).toS (fun i s' st => st.1.typeIs) ⟨hit1, hl2⟩ (fun b hb => ?_) (by simp) (fun s' acc hm hacc => ?_) (by omega)))
  · simp only [List.mem_cons, List.mem_nil_iff, or_false] at hb
    rcases hb with e | e
    · rw [e]; exact isz
    · rw [e]; exact lsz
  have ea : acc.toList = items.toList.drop 1 := by
    refine List.ext_getElem? fun j => ?_
    rw [List.getElem?_drop]
    by_cases hj : j < acc.size
    · have h2 := hacc.2 j acc[j] (by simp [hj])
      have e1 : acc.toList[j]? = some acc[j] := by simp [hj]
      rw [e1]
      have : items.toList[1 + j]? = items[j + 1]? := by rw [Nat.add_comm 1 j]; simp
      rw [this, h2]
    · have hs := hacc.1
      rw [List.getElem?_eq_none (by simpa using hj), List.getElem?_eq_none (by simp; omega)]
  rw [ea]
  show wpAny _ _ (if (items.toList.drop 1).length < 0 then _ else _) _ _ _
  rw [if_neg (by omega)]
  have tk : (items.toList.drop 1).take (items.toList.drop 1).length = items.toList.drop 1 := List.take_length
  have dr : (items.toList.drop 1).drop (items.toList.drop 1).length = [] := List.drop_length
  show wpAny _ _ (newList ((items.toList.drop 1).take (items.toList.drop 1).length) >>= fun a => pure ([items[0]] ++ [a] ++ (items.toList.drop 1).drop (items.toList.drop 1).length)) _ _ _
  rw [tk, dr]
  refine wpAny_bind (wpAny_newObj_type (wpAny_pure ?_) (by show (List.drop 1 items.toList).toArray.size ≤ sizeLine; rw [List.size_toArray, List.length_drop]; have : items.toList.length = items.size := by simp
                                                           omega))
  obtain ⟨hp, g, d, tks, os⟩ := s'
  have e1 : g = _ := hm.gens
  have e2 : d = _ := hm.drawn
  have e3 : os = _ := hm.os
  subst e1 e2 e3
  refine hQ hp tks (fun b o e => ?_) hm.toks
  have nb : b ≠ s.heap.objs.size := Nat.ne_of_lt (Heap.lt_size e)
  exact hm.heap b o (by simp [nb]) (hs1.extBut b o nb (Heap.get?_push_of_some _ e))
theorem assign_star {l : Addr} {items : Array Value} {env : Env} {t1 t2 : Expr} {p2 pos : Pos} {k} {Q : Unit → Shared → Prop} (hh : A.handled = none) (hl : s.heap.IsTuple l items) (h0 : 0 < items.size) (hz : items.size ≤ sizeLine)
    (hs : assignEach [t1, .Starred t2 p2] env = [(false, assign t1 env), (true, assign t2 env)])
    (hQ : ∀ (h' : Heap) (tk : Nat), (∀ b o, s.heap.get? b = some o → h'.get? b = some o) → s.toks ≤ tk → wpAny (model prog w) A (assignInOrder [assign t1 env, assign t2 env] [items[0], .ref h'.objs.size]) Q E { s with heap := h'.push { cls := .type "list", data := .seq (items.toList.drop 1).toArray }, toks := tk }) :
    wpAny (model prog w) A (assign (.Tuple [t1, .Starred t2 p2] k pos) env (.ref l)) Q E s := by
  rw [assign_Tuple, hs]
  refine wpAny_bind (wpAny_standAt ?_)
  unfold unpack
  exact wpAny_bind (wpAny_holding (unpackItems_star hh hl h0 hz hQ))
end
end SV
namespace L2
open PySem PySem.Spec PyProof.Rows
/-- a, *b = a tuple that isn't empty -/
def gStarT (K : PySem.W.Frag) (g1 g2 : TG) : TG := fun v σ H Q => ∃ a y ys, v = .ref a ∧ SqT K H a (y :: ys) ∧ ys.length ≤ 1000 ∧ ∀ l, H l = none → g1 y σ (upd H l (.lst ys)) fun σ1 H1 => g2 (.ref l) σ1 H1 Q
theorem pg_starT {X : Cx} {t1 t2 : Expr} {p2 pos : Pos} {k : Nat} {g1 g2 : TG} (hc : X.calm = true) (h1 : PG X t1 g1) (h2 : PG X t2 g2) (hs : assignEach [t1, .Starred t2 p2] X.env = [(false, assign t1 X.env), (true, assign t2 X.env)] := by rfl) : PG X (.Tuple [t1, .Starred t2 p2] k pos) (gStarT X.K g1 g2) := by
  refine ⟨fun pins s σ H v u Q I r hw => ?_⟩
  obtain ⟨a, y, ys, e1, hq, hl, hw⟩ := hw
  subst e1
  cases r
  obtain ⟨its, rv, pl, hz⟩ := I.tuple hq
  cases rv with
  | cons ry rys =>
    rename_i uy uys
    refine SV.assign_star (I.ok.hd hc) pl (by simp) (by have e := rys.length; simp only [List.size_toArray, List.length_cons]; have hz : (y :: ys).length ≤ sizeLine := hz; rw [List.length_cons, e] at hz; exact hz) hs fun h' tk kk _ => ?_
    have I1 : Inv X pins σ H { s with heap := h', toks := tk } := I.kept kk
    have hf : H h'.objs.size = none := I1.hok.fresh (Nat.le_refl _)
    have I2 : Inv X pins σ (upd H h'.objs.size (.lst ys)) { s with heap := h'.push { cls := .type "list", data := .seq ((uy :: uys).toArray.toList.drop 1).toArray }, toks := tk } := I1.laid (t' := tk) (fun b u e => Heap.get?_push_of_some _ e) (Nat.le_refl _) (by
      refine ⟨?_, uys, 0, rys, Heap.get?_push_size _ rfl⟩
      exact Nat.le_of_lt (small1000 hl))
    have run := hw h'.objs.size hf
    refine assignInOrder_cons (thn (h1.run pins _ σ _ y _ _ I2 ry run) fun _ s1 ⟨σ1, H1, I3, q1⟩ => ?_)
    refine assignInOrder_cons (thn (h2.run pins s1 σ1 H1 (.ref h'.objs.size) _ _ I3 rfl q1) fun _ s2 ⟨σ2, H2, I4, q2⟩ => ?_)
    exact assignInOrder_nil ⟨σ2, H2, I4, q2⟩
end L2
set_option Elab.async false
set_option linter.all false
set_option maxRecDepth 100000
set_option maxHeartbeats 1000000
/-! _inner_of -/
namespace FR
open PySem PySem.Spec PyProof.Rows L2
def wtB (i : Int) : Bool := decide (1 ≤ i) && decide (i ≤ 99)
/-- a statement that may stand in a program -/
def okS : St → Bool
  | .note z => nameB z
  | .call z => nameB z
  | .stay => true
  | .again i j _ => wtB i && wtB j
  | .choose bs => decide ((2 : Int) ≤ (bs.length : Nat)) && decide (((bs.length : Nat) : Int) ≤ 3)
  | .toss rs => (decide ((2 : Int) ≤ (rs.length : Nat)) && decide (((rs.length : Nat) : Int) ≤ 4)) && rs.all fun r => wtB r.1
structure TxtI (mg : Str → Option Value) : Prop where
  isi : mg "isinstance" = none
  tup : mg "tuple" = none
  str : mg "str" = none
  len : mg "len" = none
  all : mg "all" = none
theorem name_len {z : Str} (h : nameB z = true) : z.length ≤ sizeLine := by
  unfold nameB at h
  have := of_decide_eq_true (Bool.and_eq_true_iff.mp (Bool.and_eq_true_iff.mp h).1).2
  exact Nat.le_of_lt (small1000 (by omega))
section
variable {P : Program} {w : World} {K : PySem.W.Frag} {mg : Str → Option Value} {base : Heap}
abbrev sBr : Stmt := top 24
theorem scBr : FnScope ["value"] ["value"] (defScope sBr) := ⟨rfl, rfl, rfl, by decide +kernel, rfl, by decide +kernel, by decide +kernel⟩
def spBr : Sp := fun vs H Q _ => ∃ p i x, vs = [.ref p] ∧ H p = some (.tup [.int i, x]) ∧ Q (.bl (wtB i)) H
theorem ok_br {f : Addr} {fd : FuncData} (F : Fun K "_is_branch" "_is_branch" sBr f fd) (T : TxtI mg) (gW : Glo P w K mg base "_is_weight" 3 ["value"] spWt) : FnOk P w K mg base CX0 4 f fd ["value"] spBr := by
  refine F.ok scBr (fun vs H Q E h => ?_) (fun cdv A outer s H vs Q E hr h => ?_)
  · obtain ⟨p, i, x, rfl, _⟩ := h
    rfl
  · obtain ⟨p, i, x, rfl, hp, q⟩ := h
    refine ⟨_, (pss_one (ps_ret (pe_and (pe_callB call_isi (by rfl) T.isi PyProof.Rows.boot_isinstance (pa_cons (pv 0) (pa_cons (pe_bltn (v := .ty "tuple") (by rfl) T.tup (by decide +kernel) rfl) pa_nil))) (pe_and (pe_cmpR op_eq (pe_callB call_len_seq (by rfl) T.len PySem.boot_len (pa_cons (pv 0) pa_nil)) pe_int (nomark _)) (pe_one (pe_call gW.G (hr.mono (by decide)) (by rfl) gW.m gW.k gW.b .nil pass0 (pa_cons (pe_ix ix_tup (pv 0) pe_int (fun _ _ => rfl)) pa_nil))))))), ?_⟩
    refine ⟨_, rfl, _, _, _, _, true, rfl, .ty _, .base (.tup hp), kit_ty (by decide +kernel), _, rfl, iteT ?_⟩
    refine ⟨_, rfl, p, _, rfl, .inr (SqT.of hp), rfl, _, rfl, ?_⟩
    refine iteT ⟨_, rfl, p, _, 0, _, rfl, rfl, SqT.of hp, atI_nat (j := 0) rfl, i, rfl, q⟩
abbrev sInn : Stmt := top 23
abbrev NInn : List Str := ["value", "word", "parts", "part"]
theorem scInn : FnScope NInn ["value"] (defScope sInn) := ⟨rfl, rfl, rfl, by decide +kernel, rfl, by decide +kernel, by decide +kernel⟩
def spInn (n : Nat) : Sp := fun vs H Q _ => ∃ v x, vs = [v] ∧ StAt n H v x ∧ okS x = true ∧ ∀ l us H', Same H H' → H' l = some (.lst us) → AG (fun w b => BdAt n H' w b) us x.kids → Q (.ref l) H'
theorem ok_inn {f : Addr} {fd : FuncData} {n : Nat} (F : Fun K "_inner_of" "_inner_of" sInn f fd) (T : TxtI mg) (gB : Glo P w K mg base "is_between" 2 ["value", "least", "greatest"] spBetX) (gN : Glo P w K mg base "is_name" 3 ["value"] (spNm K)) (gW : Glo P w K mg base "_is_weight" 3 ["value"] spWt) (gBr : Glo P w K mg base "_is_branch" 4 ["value"] spBr) : FnOk P w K mg base CX0 5 f fd ["value"] (spInn n) := by
  refine F.ok scInn (fun vs H Q E h => ?_) (fun cdv A outer s H vs Q E hr h => ?_)
  · obtain ⟨v, x, rfl, _⟩ := h
    rfl
  · obtain ⟨v, x, rfl, hv, ok, q⟩ := h
    refine ⟨_, (pss_cons (ps_if (PW.pt (pw_or (pt_not (pt_val (pe_callB call_isi (by rfl) T.isi PyProof.Rows.boot_isinstance (pa_cons (pv 0) (pa_cons (pe_bltn (v := .ty "tuple") (by rfl) T.tup (by decide +kernel) rfl) pa_nil))))) (pw_or (pt_cmpR op_eq (pe_callB call_len_seq (by rfl) T.len PySem.boot_len (pa_cons (pv 0) pa_nil)) pe_int (nomark _)) (pw_or1 (pt_not (pt_val (pe_callB call_isi (by rfl) T.isi PyProof.Rows.boot_isinstance (pa_cons (pe_ix ix_tup (pv 0) pe_int (fun _ _ => rfl)) (pa_cons (pe_bltn (v := .ty "str") (by rfl) T.str (by decide +kernel) rfl) pa_nil))))))))) (pss_one (ps_ret pe_non)) pss_nil)
      (pss_cons (ps_asg (pv 0) (pg_starT rfl (pg_name (i := 1) scInn.nd rfl (.inl rfl)) (pg_name (i := 2) scInn.nd rfl (.inl rfl))))
      (pss_cons (ps_if (pt_cmpR op_in_seq (pv 1) (pe_tup (pa_cons pe_str (pa_cons pe_str pa_nil))) rfl) (pss_one (ps_ret (pe_ifExp (PW.pt (pw_and (pt_cmpR op_eq (pe_callB call_len_seq (by rfl) T.len PySem.boot_len (pa_cons (pv 2) pa_nil)) pe_int (nomark _)) (pw_and1 (pt_val (pe_call gN.G (hr.mono (by decide)) (by rfl) gN.m gN.k gN.b .nil pass0 (pa_cons (pe_ix ix_list (pv 2) pe_int (fun _ _ => rfl)) pa_nil)))))) (pe_lst pa_nil) pe_non))) pss_nil)
      (pss_cons (ps_if (pt_cmpR op_eq (pv 1) pe_str (nomark _)) (pss_one (ps_ret (pe_ifExp (pt_cmpR op_eq (pe_callB call_len_seq (by rfl) T.len PySem.boot_len (pa_cons (pv 2) pa_nil)) pe_int (nomark _)) (pe_lst pa_nil) pe_non))) pss_nil)
      (pss_cons (ps_if (pt_cmpR op_eq (pv 1) pe_str (nomark _)) (pss_one (ps_ret (pe_ifExp (PW.pt (pw_and (pt_cmpR op_eq (pe_callB call_len_seq (by rfl) T.len PySem.boot_len (pa_cons (pv 2) pa_nil)) pe_int (nomark _)) (pw_and (pt_val (pe_call gW.G (hr.mono (by decide)) (by rfl) gW.m gW.k gW.b .nil pass0 (pa_cons (pe_ix ix_list (pv 2) pe_int (fun _ _ => rfl)) pa_nil))) (pw_and1 (pt_val (pe_call gW.G (hr.mono (by decide)) (by rfl) gW.m gW.k gW.b .nil pass0 (pa_cons (pe_ix ix_list (pv 2) pe_int (fun _ _ => rfl)) pa_nil))))))) (pe_slice sl_list (pv 2) (po_some pe_int) po_none) pe_non))) pss_nil)
      (pss_cons (ps_if (pt_cmpR op_eq (pv 1) pe_str (nomark _)) (pss_one (ps_ret (pe_ifExp (pt_val (pe_call gB.G (hr.mono (by decide)) (by rfl) gB.m gB.k gB.b .nil pass0 (pa_cons (pe_callB call_len_seq (by rfl) T.len PySem.boot_len (pa_cons (pv 2) pa_nil)) (pa_cons pe_int (pa_cons pe_int pa_nil))))) (pv 2) pe_non))) pss_nil)
      (pss_cons (ps_if (PW.pt (pw_and (pt_cmpR op_eq (pv 1) pe_str (nomark _)) (pw_and (pt_val (pe_call gB.G (hr.mono (by decide)) (by rfl) gB.m gB.k gB.b .nil pass0 (pa_cons (pe_callB call_len_seq (by rfl) T.len PySem.boot_len (pa_cons (pv 2) pa_nil)) (pa_cons pe_int (pa_cons pe_int pa_nil))))) (pw_and1 (pt_val (pe_callB (cr_all rfl) (by rfl) T.all (by decide +kernel) (pa_cons (pe_lc (X := (cxOf CX0 P w K mg base NInn "_inner_of" (defScope sInn) f cdv A outer s H E).nox) (own := [("part", 3)]) (g := (gName 3)) (tt := tYes) rfl scInn.nd (pi_list (pv 2)) (blkOk_by (N := NInn) (sc := defScope sInn) (by decide +kernel)) (fun _ _ _ _ _ => (pg_name (i := 3) scInn.nd rfl (.inl rfl))) (fun _ _ _ _ _ => pts_nil) (fun _ _ _ _ _ => (pe_call gBr.G (hr.mono (by decide)) (by rfl) gBr.m gBr.k gBr.b .nil pass0 (pa_cons (pv 3) pa_nil)))) pa_nil))))))) (pss_one (ps_ret (pe_lc (X := (cxOf CX0 P w K mg base NInn "_inner_of" (defScope sInn) f cdv A outer s H E).nox) (own := [("part", 3)]) (g := (gName 3)) (tt := tYes) rfl scInn.nd (pi_list (pv 2)) (blkOk_by (N := NInn) (sc := defScope sInn) (by decide +kernel)) (fun _ _ _ _ _ => (pg_name (i := 3) scInn.nd rfl (.inl rfl))) (fun _ _ _ _ _ => pts_nil) (fun _ _ _ _ _ => (pe_ix (ix_tupK (K := K) rfl) (pv 3) pe_int (fun _ _ => rfl)))))) pss_nil)
      (pss_one (ps_ret pe_non))))))))), ?_⟩
    obtain ⟨a, xs, rfl, ha⟩ := hv.head
    refine ⟨_, rfl, _, _, _, _, true, rfl, .ty _, .base (.tup ha), kit_ty (by decide +kernel), _, rfl, iteF ?_⟩
    refine ⟨_, rfl, a, _, rfl, .inr (SqT.of ha), rfl, _, rfl, ?_⟩
    have lx : decide (V.int ((.str x.word :: xs : List V).length : Nat) = V.int 0) = false := decide_eq_false fun z => by
      have := V.int.inj z
      rw [List.length_cons] at this
      omega
    rw [lx]
    refine iteF ⟨_, rfl, a, _, 0, _, rfl, rfl, SqT.of ha, atI_nat (j := 0) rfl, _, _, _, _, true, rfl, .ty _, .base (.str x.word), kit_ty (by decide +kernel), _, rfl, iteF ?_⟩
    match x, hv, ok, q with
    | .note z, ⟨_, e, hz⟩, ok, q =>
      cases e
      rw [hz] at ha
      cases ha
      have ok : nameB z = true := ok
      refine ⟨_, rfl, a, _, _, rfl, SqT.of hz, by show 1 ≤ 1000; decide, fun l hl => ?_⟩
      have s1 := same_new (o := .lst [V.str z]) hl
      have hl1 : upd H l (.lst [V.str z]) l = some (.lst [V.str z]) := upd_same
      generalize upd H l (.lst [V.str z]) = H1 at s1 hl1 ⊢
      refine ⟨_, rfl, small1000 (Nat.le_of_ble_eq_true rfl), fun p2 hp2 => ⟨p2, _, rfl, .inr (SqT.of upd_same), rfl, rfl, _, rfl, ?_⟩⟩
      have s2 := same_new (o := .tup [V.str "note", V.str "call"]) hp2
      have ei : inV (V.str "note") [V.str "note", V.str "call"] = true := by decide +kernel
      refine ite2 (fun _ => ?_) (fun h => (h ei).elim)
      refine ⟨_, rfl, l, _, rfl, .inl (SqL.of (s2 _ _ hl1)), rfl, _, rfl, iteT ⟨_, rfl, l, _, 0, _, rfl, rfl, SqL.of (s2 _ _ hl1), atI_nat (j := 0) rfl, .inl ⟨z, rfl, name_len ok, fun H3 s3 => ⟨_, rfl, ?_⟩⟩⟩⟩
      rw [ok]
      exact iteT ⟨Nat.zero_le _, fun p hp => q p [] _ (((s1.trans s2).trans s3).trans (same_new hp)) upd_same AG.nil⟩
    | .call z, ⟨_, e, hz⟩, ok, q =>
      cases e
      rw [hz] at ha
      cases ha
      have ok : nameB z = true := ok
      refine ⟨_, rfl, a, _, _, rfl, SqT.of hz, by show 1 ≤ 1000; decide, fun l hl => ?_⟩
      have s1 := same_new (o := .lst [V.str z]) hl
      have hl1 : upd H l (.lst [V.str z]) l = some (.lst [V.str z]) := upd_same
      generalize upd H l (.lst [V.str z]) = H1 at s1 hl1 ⊢
      refine ⟨_, rfl, small1000 (Nat.le_of_ble_eq_true rfl), fun p2 hp2 => ⟨p2, _, rfl, .inr (SqT.of upd_same), rfl, rfl, _, rfl, ?_⟩⟩
      have s2 := same_new (o := .tup [V.str "note", V.str "call"]) hp2
      have ei : inV (V.str "call") [V.str "note", V.str "call"] = true := by decide +kernel
      refine ite2 (fun _ => ?_) (fun h => (h ei).elim)
      refine ⟨_, rfl, l, _, rfl, .inl (SqL.of (s2 _ _ hl1)), rfl, _, rfl, iteT ⟨_, rfl, l, _, 0, _, rfl, rfl, SqL.of (s2 _ _ hl1), atI_nat (j := 0) rfl, .inl ⟨z, rfl, name_len ok, fun H3 s3 => ⟨_, rfl, ?_⟩⟩⟩⟩
      rw [ok]
      exact iteT ⟨Nat.zero_le _, fun p hp => q p [] _ (((s1.trans s2).trans s3).trans (same_new hp)) upd_same AG.nil⟩
    | .stay, ⟨_, e, hz⟩, ok, q =>
      cases e
      rw [hz] at ha
      cases ha
      refine ⟨_, rfl, a, _, _, rfl, SqT.of hz, Nat.zero_le _, fun l hl => ?_⟩
      have s1 := same_new (o := .lst []) hl
      have hl1 : upd H l (.lst []) l = some (.lst []) := upd_same
      generalize upd H l (.lst []) = H1 at s1 hl1 ⊢
      refine ⟨_, rfl, small1000 (Nat.le_of_ble_eq_true rfl), fun p2 hp2 => ⟨p2, _, rfl, .inr (SqT.of upd_same), rfl, rfl, _, rfl, ?_⟩⟩
      have s2 := same_new (o := .tup [V.str "note", V.str "call"]) hp2
      have ei : inV (V.str "stay") [V.str "note", V.str "call"] = false := by decide +kernel
      refine ite2 (fun h => absurd h (by rw [show (if false = true then !inV (V.str "stay") [V.str "note", V.str "call"] else inV (V.str "stay") [V.str "note", V.str "call"]) = inV (V.str "stay") [V.str "note", V.str "call"] from rfl, ei]; decide)) (fun _ => ?_)
      have s12 := s1.trans s2
      have hl2 := s2 _ _ hl1
      generalize upd H1 p2 (.tup [V.str "note", V.str "call"]) = H2 at s12 hl2 ⊢
      refine ⟨_, rfl, rfl, _, rfl, iteT ?_⟩
      exact ⟨_, rfl, l, _, rfl, .inl (SqL.of hl2), rfl, _, rfl, iteT ⟨Nat.zero_le _, fun p hp => q p [] _ (s12.trans (same_new hp)) upd_same AG.nil⟩⟩
    | .again i j b, ⟨a', w0, e, ha', g⟩, ok, q =>
      cases e
      rw [ha'] at ha
      cases ha
      refine ⟨_, rfl, a, _, _, rfl, SqT.of ha', by show 3 ≤ 1000; decide, fun l hl => ?_⟩
      have s1 := same_new (o := .lst [V.int i, V.int j, w0]) hl
      have hl1 : upd H l (.lst [V.int i, V.int j, w0]) l = some (.lst [V.int i, V.int j, w0]) := upd_same
      generalize upd H l (.lst [V.int i, V.int j, w0]) = H1 at s1 hl1 ⊢
      refine ⟨_, rfl, small1000 (Nat.le_of_ble_eq_true rfl), fun p2 hp2 => ⟨p2, _, rfl, .inr (SqT.of upd_same), rfl, rfl, _, rfl, ?_⟩⟩
      have s2 := same_new (o := .tup [V.str "note", V.str "call"]) hp2
      have ei : inV (V.str "again") [V.str "note", V.str "call"] = false := by decide +kernel
      refine ite2 (fun h => absurd h (by rw [show (if false = true then !inV (V.str "again") [V.str "note", V.str "call"] else inV (V.str "again") [V.str "note", V.str "call"]) = inV (V.str "again") [V.str "note", V.str "call"] from rfl, ei]; decide)) (fun _ => ?_)
      have s12 := s1.trans s2
      have hl2 := s2 _ _ hl1
      generalize upd H1 p2 (.tup [V.str "note", V.str "call"]) = H2 at s12 hl2 ⊢
      have ok : (wtB i && wtB j) = true := ok
      obtain ⟨o1, o2⟩ := Bool.and_eq_true_iff.mp ok
      refine ⟨_, rfl, rfl, _, rfl, iteF ⟨_, rfl, rfl, _, rfl, iteT ?_⟩⟩
      refine ⟨_, rfl, l, _, rfl, .inl (SqL.of hl2), rfl, _, rfl, iteT ?_⟩
      refine ⟨_, rfl, l, _, 0, _, rfl, rfl, SqL.of hl2, atI_nat (j := 0) rfl, i, rfl, _, rfl, ?_⟩
      have o1 : (decide (1 ≤ i) && decide (i ≤ 99)) = true := o1
      have o2 : (decide (1 ≤ j) && decide (j ≤ 99)) = true := o2
      rw [o1]
      refine iteT ⟨_, rfl, l, _, 1, _, rfl, rfl, SqL.of hl2, atI_nat (j := 1) rfl, j, rfl, _, rfl, ?_⟩
      rw [o2]
      refine iteT ⟨_, rfl, _, rfl, l, _, rfl, SqL.of hl2, fun p hp => ?_⟩
      have sp := same_new (o := .lst (cutV [V.int i, V.int j, w0] (some 2) none)) hp
      have hp1 : upd H2 p (.lst (cutV [V.int i, V.int j, w0] (some 2) none)) p = some (.lst [w0]) := upd_same
      exact q p [w0] _ (s12.trans sp) hp1 (AG.consA (BdAt.same g (s12.trans sp)) AG.nil)
    | .choose bs, ⟨a', ws, e, ha', g⟩, ok, q =>
      cases e
      rw [ha'] at ha
      cases ha
      have ok : (decide ((2 : Int) ≤ (bs.length : Nat)) && decide (((bs.length : Nat) : Int) ≤ 3)) = true := ok
      have lb : xs.length ≤ 3 := by
        have := of_decide_eq_true (Bool.and_eq_true_iff.mp ok).2
        rw [g.1]; omega
      refine ⟨_, rfl, a, _, _, rfl, SqT.of ha', by have := lb; omega, fun l hl => ?_⟩
      have s1 := same_new (o := .lst xs) hl
      have hl1 : upd H l (.lst xs) l = some (.lst xs) := upd_same
      generalize upd H l (.lst xs) = H1 at s1 hl1 ⊢
      refine ⟨_, rfl, small1000 (Nat.le_of_ble_eq_true rfl), fun p2 hp2 => ⟨p2, _, rfl, .inr (SqT.of upd_same), rfl, rfl, _, rfl, ?_⟩⟩
      have s2 := same_new (o := .tup [V.str "note", V.str "call"]) hp2
      have ei : inV (V.str "choose") [V.str "note", V.str "call"] = false := by decide +kernel
      refine ite2 (fun h => absurd h (by rw [show (if false = true then !inV (V.str "choose") [V.str "note", V.str "call"] else inV (V.str "choose") [V.str "note", V.str "call"]) = inV (V.str "choose") [V.str "note", V.str "call"] from rfl, ei]; decide)) (fun _ => ?_)
      have s12 := s1.trans s2
      have hl2 := s2 _ _ hl1
      generalize upd H1 p2 (.tup [V.str "note", V.str "call"]) = H2 at s12 hl2 ⊢
      refine ⟨_, rfl, rfl, _, rfl, iteF ⟨_, rfl, rfl, _, rfl, iteF ⟨_, rfl, rfl, _, rfl, iteT ?_⟩⟩⟩
      refine ⟨_, rfl, l, _, rfl, .inl (SqL.of hl2), _, 2, 3, rfl, _, rfl, ?_⟩
      rw [g.1, ok]
      exact iteT ⟨_, rfl, q l xs H2 s12 hl2 (g.imp fun _ _ z => BdAt.same z s12)⟩
    | .toss rs, ⟨a', ws, e, ha', g⟩, ok, q =>
      cases e
      rw [ha'] at ha
      cases ha
      have ok : ((decide ((2 : Int) ≤ (rs.length : Nat)) && decide (((rs.length : Nat) : Int) ≤ 4)) && rs.all fun r => wtB r.1) = true := ok
      obtain ⟨ok1, ok2⟩ := Bool.and_eq_true_iff.mp ok
      have lb : xs.length ≤ 4 := by
        have := of_decide_eq_true (Bool.and_eq_true_iff.mp ok1).2
        rw [g.1]; omega
      refine ⟨_, rfl, a, _, _, rfl, SqT.of ha', by have := lb; omega, fun l hl => ?_⟩
      have s1 := same_new (o := .lst xs) hl
      have hl1 : upd H l (.lst xs) l = some (.lst xs) := upd_same
      generalize upd H l (.lst xs) = H1 at s1 hl1 ⊢
      refine ⟨_, rfl, small1000 (Nat.le_of_ble_eq_true rfl), fun p2 hp2 => ⟨p2, _, rfl, .inr (SqT.of upd_same), rfl, rfl, _, rfl, ?_⟩⟩
      have s2 := same_new (o := .tup [V.str "note", V.str "call"]) hp2
      have ei : inV (V.str "toss") [V.str "note", V.str "call"] = false := by decide +kernel
      refine ite2 (fun h => absurd h (by rw [show (if false = true then !inV (V.str "toss") [V.str "note", V.str "call"] else inV (V.str "toss") [V.str "note", V.str "call"]) = inV (V.str "toss") [V.str "note", V.str "call"] from rfl, ei]; decide)) (fun _ => ?_)
      have s12 := s1.trans s2
      have hl2 := s2 _ _ hl1
      generalize upd H1 p2 (.tup [V.str "note", V.str "call"]) = H2 at s12 hl2 ⊢
      refine ⟨_, rfl, rfl, _, rfl, iteF ⟨_, rfl, rfl, _, rfl, iteF ⟨_, rfl, rfl, _, rfl, iteF ⟨_, rfl, rfl, _, rfl, iteT ?_⟩⟩⟩⟩
      refine ⟨_, rfl, l, _, rfl, .inl (SqL.of hl2), _, 2, 4, rfl, _, rfl, ?_⟩
      rw [g.1, ok1]
      have g2 := g.imp (R' := fun w0 r => ∃ p0 x, w0 = .ref p0 ∧ H2 p0 = some (.tup [.int r.1, x]) ∧ BdAt n H2 x r.2) fun _ _ ⟨p0, x, e1, h1, z⟩ => ⟨p0, x, e1, s12 _ _ h1, BdAt.same z s12⟩
      refine iteT ⟨_, rfl, l, rfl, ⟨_, SqL.of hl2⟩, fun D hD => ?_⟩
      refine lc_list (xs := xs) (fun i Hc => Same H2 Hc ∧ Hc D = some (.lst (((rs.take i).map fun r => wtB r.1).map V.bl))) ⟨same_new hD, upd_same⟩ (fun i Hc _ p' => SqL.of (p'.1 _ _ hl2)) ?_ ?_
      · rintro i v Hc hvi ⟨sm, hDc⟩
        obtain ⟨r, hr, p0, x0, rfl, h0, z⟩ := g2.2 i v hvi
        have il := (List.getElem?_eq_some_iff.mp hvi).1
        refine ⟨rfl, _, rfl, p0, r.1, x0, rfl, sm _ _ h0, _, hDc, small1000 (by rw [List.length_map, List.length_map, List.length_take]; omega), same_upd hD sm, ?_⟩
        rw [take_snoc hr, List.map_append, List.map_append]
        exact upd_same
      rintro H3 ⟨s3, hD3⟩
      rw [List.take_of_length_le (by rw [g.1]; exact Nat.le_refl _)] at hD3
      refine ⟨D, _, rfl, SqL.of hD3, _, rfl, ?_⟩
      have ea : (rs.map fun r => wtB r.1).all id = rs.all fun r => wtB r.1 := by rw [List.all_map]; rfl
      rw [ea, ok2]
      have hl3 := s3 _ _ hl2
      refine iteT ⟨_, rfl, l, rfl, ⟨_, SqL.of hl3⟩, fun D2 hD2 => ?_⟩
      refine lc_list (xs := xs) (fun i Hc => Same H3 Hc ∧ ∃ us, Hc D2 = some (.lst us) ∧ AG (fun w b => BdAt n Hc w b) us ((rs.take i).map fun r => r.2)) ⟨same_new hD2, [], upd_same, AG.nil⟩ (fun i Hc _ p' => SqL.of (p'.1 _ _ hl3)) ?_ ?_
      · rintro i v Hc hvi ⟨sm, us, hDc, hu⟩
        obtain ⟨r, hr, p0, x0, rfl, h0, z⟩ := g2.2 i v hvi
        have il := (List.getElem?_eq_some_iff.mp hvi).1
        have h0 := sm _ _ (s3 _ _ h0)
        have z := BdAt.same z (s3.trans sm)
        have kd := Kt.upd (o := .lst (us ++ [x0])) hDc
        refine ⟨rfl, _, rfl, p0, _, 1, _, rfl, rfl, SqT.of h0, atI_nat (j := 1) rfl, us, hDc, small1000 (by rw [hu.1, List.length_map, List.length_take]; omega), same_upd hD2 sm, us ++ [x0], upd_same, ?_⟩
        rw [take_snoc hr, List.map_append]
        exact AG.snoc (hu.imp fun _ _ y => kd.bd y) (kd.bd z)
      · rintro Hc ⟨sm, us, hDc, hu⟩
        rw [List.take_of_length_le (by rw [g.1]; exact Nat.le_refl _)] at hu
        exact q D2 us Hc ((s12.trans s3).trans sm) hDc hu
end
end FR
set_option Elab.async false
set_option linter.all false
set_option maxRecDepth 100000
set_option maxHeartbeats 1000000
/-! _left_behind -/
namespace FR
open PySem PySem.Spec PyProof.Rows L2
/-- how many statements -/
def cnt : Nat → Bd → Nat
  | 0, _ => 0
  | n + 1, b => b.length + (b.map fun s => (s.kids.map (cnt n)).sum).sum
def okB : Nat → Bd → Prop
  | 0, _ => True
  | n + 1, b => ∀ s ∈ b, okS s = true ∧ ∀ k ∈ s.kids, okB n k
theorem sum_take {α : Type} {f : α → Nat} {l : List α} {i : Nat} {x : α} (h : l[i]? = some x) : ((l.take (i + 1)).map f).sum = ((l.take i).map f).sum + f x := by
  rw [take_snoc h, List.map_append, List.sum_append]
  simp
theorem sum_take_le {α : Type} {f : α → Nat} (l : List α) (i : Nat) : ((l.take i).map f).sum ≤ (l.map f).sum := by
  conv => rhs; rw [← List.take_append_drop i l, List.map_append, List.sum_append]
  omega
section
variable {P : Program} {w : World} {K : PySem.W.Frag} {mg : Str → Option Value} {base : Heap}
abbrev sLb : Stmt := top 22
abbrev NLb : List Str := ["value", "depth", "left", "still", "statement", "inner", "body"]
theorem scLb : FnScope NLb ["value", "depth", "left"] (defScope sLb) := ⟨rfl, rfl, rfl, by decide +kernel, rfl, by decide +kernel, by decide +kernel⟩
def spLb (n : Nat) : Sp := fun vs H Q _ => ∃ (v : V) (d m : Nat) (b : Bd), vs = [v, .int ((d : Int) - 1), .int (m : Nat)] ∧ BdAt n H v b ∧ okB n b ∧ n ≤ d ∧ cnt n b ≤ m ∧ ∀ H', Same H H' → Q (.int ((m - cnt n b : Nat) : Nat)) H'
theorem ok_lb {f : Addr} {fd : FuncData} {n k : Nat} (F : Fun K "_left_behind" "_left_behind" sLb f fd) (T : TxtI mg) (gI : Glo P w K mg base "_inner_of" 5 ["value"] (spInn n)) (gS : FnOk P w K mg base CX0 k f fd ["value", "depth", "left"] (spLb n)) (k5 : 5 ≤ k) (mS : mg "_left_behind" = some (.ref f)) (kS : PySem.W.keepIn K (.ref f) = true) (bS : Binds K fd ["value", "depth", "left"] []) : FnOk P w K mg base CX0 (k + 1) f fd ["value", "depth", "left"] (spLb (n + 1)) := by
  refine F.ok scLb (fun vs H Q E h => ?_) (fun cdv A outer s H vs Q E hr h => ?_)
  · obtain ⟨v, d, m, b, rfl, _⟩ := h
    rfl
  · obtain ⟨v, d, m, b, rfl, ⟨a, xs, rfl, ha, hx⟩, ok, nd, le, q⟩ := h
    refine ⟨_, (pss_cons (ps_if (PW.pt (pw_or (pt_not (pt_val (pe_callB call_isi (by rfl) T.isi PyProof.Rows.boot_isinstance (pa_cons (pv 0) (pa_cons (pe_bltn (v := .ty "tuple") (by rfl) T.tup (by decide +kernel) rfl) pa_nil))))) (pw_or1 (pt_cmpR op_gt (pe_callB call_len_seq (by rfl) T.len PySem.boot_len (pa_cons (pv 0) pa_nil)) (pv 2) (nomark _))))) (pss_one (ps_ret pe_non)) pss_nil)
      (pss_cons (ps_set (i := 3) scLb.nd rfl (Or.inl rfl) (pe_op op_sub (pv 2) (pe_callB call_len_seq (by rfl) T.len PySem.boot_len (pa_cons (pv 0) pa_nil))))
      (pss_cons (ps_for PassesOwn.never rfl (pi_tup (pv 0)) (pg_name (i := 4) scLb.nd rfl (.inl rfl)) (pss_cons (ps_set (i := 5) scLb.nd rfl (Or.inl rfl) (pe_call gI.G (hr.mono k5) (by rfl) gI.m gI.k gI.b .nil pass0 (pa_cons (pv 4) pa_nil))) (pss_cons (ps_if (PW.pt (pw_or (pt_cmpR op_isN (pv 5) pe_non (nomark _)) (pw_or1 (PW.pt (pw_and (pt_cmpR op_gt (pe_callB call_len_seq (by rfl) T.len PySem.boot_len (pa_cons (pv 5) pa_nil)) pe_int (nomark _)) (pw_and1 (pt_cmpR op_eq (pv 1) pe_int (nomark _)))))))) (pss_one (ps_ret pe_non)) pss_nil) (pss_one (ps_for PassesOwn.never rfl (pi_list (pv 5)) (pg_name (i := 6) scLb.nd rfl (.inl rfl)) (pss_cons (ps_set (i := 3) scLb.nd rfl (Or.inl rfl) (pe_call gS hr (by rfl) mS kS bS .nil pass0 (pa_cons (pv 6) (pa_cons (pe_op op_sub (pv 1) pe_int) (pa_cons (pv 3) pa_nil))))) (pss_one (ps_if (pt_cmpR op_isN (pv 3) pe_non (nomark _)) (pss_one (ps_ret pe_non)) pss_nil))))))))
      (pss_one (ps_ret (pv 3)))))), ?_⟩
    have xl : xs.length = b.length := hx.1
    have bl : b.length ≤ m := by
      have : b.length + (b.map fun s => (s.kids.map (cnt n)).sum).sum ≤ m := le
      omega
    refine ⟨_, rfl, _, _, _, _, true, rfl, .ty _, .base (.tup ha), kit_ty (by decide +kernel), _, rfl, iteF ?_⟩
    refine ⟨_, rfl, a, _, rfl, .inr (SqT.of ha), _, rfl, _, _, rfl, rfl, _, rfl, ?_⟩
    refine ite2 (fun z => absurd (of_decide_eq_true z) (by omega)) (fun _ => ?_)
    refine ⟨_, rfl, _, rfl, a, _, rfl, .inr (SqT.of ha), _, _, rfl, rfl, ?_⟩
    let sf : St → Nat := fun s => (s.kids.map (cnt n)).sum
    let lf : Nat → Nat := fun i => m - (b.length + ((b.take i).map sf).sum)
    have hm : (fun i j : Int => V.int (i - j)) (m : Int) (xs.length : Int) = V.int (lf 0 : Nat) := by
      show V.int ((m : Int) - (xs.length : Int)) = V.int ((m - (b.length + 0) : Nat) : Int)
      congr 1
      omega
    rw [hm]
    refine ⟨_, rfl, a, rfl, ⟨_, SqT.of ha⟩, ?_⟩
    refine for_tup (xs := xs) (fun i σ Hc => Same H Hc ∧ ∃ (x4 x5 x6 : Option V), σ = [some (.ref a), some (.int ((d : Int) - 1)), some (.int (m : Nat)), some (.int (lf i : Nat)), x4, x5, x6]) ⟨Same.refl H, _, _, _, rfl⟩ (fun i σ Hc _ p => SqT.of (p.1 _ _ ha)) ?_ ?_
    · rintro i v Hc' Hc hvi ⟨sm, x4, x5, x6, e⟩
      subst e
      obtain ⟨st, hst, hs⟩ := hx.2 i v hvi
      obtain ⟨ok1, ok2⟩ := ok st (List.mem_of_getElem? hst)
      have hsm := (Kt.same sm).st hs
      refine ⟨_, rfl, v, st, rfl, hsm, ok1, fun l us H1 s1 hl hu => ?_⟩
      have ul : us.length = st.kids.length := hu.1
      refine ⟨_, rfl, rfl, _, rfl, iteF ?_⟩
      refine ⟨_, rfl, l, us, rfl, .inl (SqL.of hl), _, _, rfl, rfl, _, rfl, ?_⟩
      have deep : 0 < us.length → 0 < n := fun z => by
        cases n with
        | zero =>
          obtain ⟨w0, hw⟩ : ∃ w0, us[0]? = some w0 := ⟨_, List.getElem?_eq_getElem z⟩
          obtain ⟨b0, _, h0⟩ := hu.2 0 w0 hw
          exact h0.elim
        | succ n => omega
      have tot : b.length + ((b.take i).map sf).sum + sf st ≤ m := by
        have h1 : ((b.take (i + 1)).map sf).sum = ((b.take i).map sf).sum + sf st := sum_take hst
        have h2 := sum_take_le (f := sf) b (i + 1)
        have h3 : b.length + (b.map sf).sum ≤ m := le
        omega
      let kf : Nat → Nat := fun j => ((st.kids.take j).map (cnt n)).sum
      let li : Nat → Nat := fun j => m - (b.length + ((b.take i).map sf).sum + kf j)
      refine ite2 (fun z => ⟨_, rfl, rfl, _, rfl, ite2 (fun z2 => absurd (V.int.inj (of_decide_eq_true z2)) (by have := of_decide_eq_true z; have := deep (by omega); omega)) (fun _ => ?_)⟩) (fun z => iteF ?_)
      all_goals
        refine ⟨_, rfl, l, rfl, ⟨_, SqL.of hl⟩, ?_⟩
        refine for_list (xs := us) (fun j σ Hx => Same H1 Hx ∧ ∃ x6 : Option V, σ = [some (.ref a), some (.int ((d : Int) - 1)), some (.int (m : Nat)), some (.int (li j : Nat)), some v, some (.ref l), x6]) ⟨Same.refl H1, _, rfl⟩ (fun j σ Hx _ p => SqL.of (p.1 _ _ hl)) ?_ ?_
        · rintro j w0 σ Hx hwj ⟨sx, x6, rfl⟩
          obtain ⟨kb, hkb, hb⟩ := hu.2 j w0 hwj
          have hb := (Kt.same sx).bd hb
          have n0 : 0 < n := deep (Nat.lt_of_le_of_lt (Nat.zero_le _) (List.getElem?_eq_some_iff.mp hwj).1)
          have k1 : kf (j + 1) = kf j + cnt n kb := sum_take hkb
          have k2 : kf (j + 1) ≤ sf st := sum_take_le _ _
          have dd : ((d - 1 : Nat) : Int) = (d : Int) - 1 := by omega
          refine ⟨_, rfl, _, rfl, _, _, rfl, rfl, _, rfl, w0, d - 1, li j, kb, by rw [dd]; rfl, hb, ok2 kb (List.mem_of_getElem? hkb), by omega, by show cnt n kb ≤ m - _; omega, fun H2 s2 => ?_⟩
          refine ⟨_, rfl, rfl, _, rfl, iteF ⟨sx.trans s2, some w0, ?_⟩⟩
          have e : li j - cnt n kb = li (j + 1) := by
            show m - (b.length + ((b.take i).map sf).sum + kf j) - cnt n kb = m - (b.length + ((b.take i).map sf).sum + kf (j + 1))
            omega
          rw [← e]
          rfl
        · rintro σ Hx ⟨sx, x6, rfl⟩
          refine ⟨(sm.trans s1).trans sx, some v, some (.ref l), x6, ?_⟩
          have e : li us.length = lf (i + 1) := by
            have h1 : ((b.take (i + 1)).map sf).sum = ((b.take i).map sf).sum + sf st := sum_take hst
            have h2 : kf us.length = sf st := by
              show ((st.kids.take us.length).map (cnt n)).sum = (st.kids.map (cnt n)).sum
              rw [ul, List.take_length]
            show m - (b.length + ((b.take i).map sf).sum + kf us.length) = m - (b.length + ((b.take (i + 1)).map sf).sum)
            omega
          rw [← e]
    · rintro σ Hc ⟨sm, x4, x5, x6, rfl⟩
      have e : lf xs.length = m - cnt (n + 1) b := by
        show m - (b.length + ((b.take xs.length).map sf).sum) = m - (b.length + (b.map sf).sum)
        rw [xl, List.take_length]
      refine ⟨_, rfl, ?_⟩
      rw [e]
      exact q Hc sm
end
end FR
set_option Elab.async false
set_option linter.all false
set_option maxRecDepth 100000
set_option maxHeartbeats 1000000
/-! _left_behind at every level, is_body, _names_called -/
namespace FR
open PySem PySem.Spec PyProof.Rows L2
section
variable {P : Program} {w : World} {K : PySem.W.Frag} {mg : Str → Option Value} {base : Heap}
theorem ok_left {f : Addr} {fd : FuncData} (F : Fun K "_left_behind" "_left_behind" sLb f fd) (T : TxtI mg) (gI : ∀ n, Glo P w K mg base "_inner_of" 5 ["value"] (spInn n)) (mS : mg "_left_behind" = some (.ref f)) (kS : PySem.W.keepIn K (.ref f) = true) (bS : Binds K fd ["value", "depth", "left"] []) : ∀ n, FnOk P w K mg base CX0 (n + 5) f fd ["value", "depth", "left"] (spLb n)
  | 0 => by
    refine F.ok scLb (fun vs H Q E h => ?_) (fun cdv A outer s H vs Q E hr h => ?_)
    · obtain ⟨v, d, m, b, rfl, h, _⟩ := h
      exact h.elim
    · obtain ⟨v, d, m, b, rfl, h, _⟩ := h
      exact h.elim
  | n + 1 => by
    have := ok_lb F T (gI n) (ok_left F T gI mS kS bS n) (by omega) mS kS bS
    have e : n + 1 + 5 = n + 5 + 1 := by omega
    rw [e]
    exact this
abbrev sIb : Stmt := top 21
theorem scIb : FnScope ["value"] ["value"] (defScope sIb) := ⟨rfl, rfl, rfl, by decide +kernel, rfl, by decide +kernel, by decide +kernel⟩
/-- a body that may stand in a program -/
def spIb : Sp := fun vs H Q _ => ∃ v b, vs = [v] ∧ BdAt 5 H v b ∧ okB 5 b ∧ cnt 5 b ≤ 60 ∧ ∀ H', Same H H' → Q (.bl true) H'
theorem ok_ib {f : Addr} {fd : FuncData} {t1 t2 : Tok} (F : Fun K "is_body" "is_body" sIb f fd) (m1 : mg "MAX_DEPTH" = some (.int 4 t1)) (m2 : mg "MAX_STATEMENTS" = some (.int 60 t2)) (gL : Glo P w K mg base "_left_behind" 10 ["value", "depth", "left"] (spLb 5)) : FnOk P w K mg base CX0 11 f fd ["value"] spIb := by
  refine F.ok scIb (fun vs H Q E h => ?_) (fun cdv A outer s H vs Q E hr h => ?_)
  · obtain ⟨v, b, rfl, _⟩ := h
    rfl
  · obtain ⟨v, b, rfl, hb, ok, le, q⟩ := h
    refine ⟨_, (pss_one (ps_ret (pe_cmpR op_notN (pe_call gL.G (hr.mono (by decide)) (by rfl) gL.m gL.k gL.b .nil pass0 (pa_cons (pv 0) (pa_cons (pe_glob (v := .int 4) (by rfl) m1 ⟨t1, rfl⟩) (pa_cons (pe_glob (v := .int 60) (by rfl) m2 ⟨t2, rfl⟩) pa_nil)))) pe_non (nomark _)))), ?_⟩
    refine ⟨_, rfl, v, 5, 60, b, rfl, hb, ok, by omega, le, fun H' s' => ⟨rfl, ?_⟩⟩
    exact q H' s'
/-- the name in a statement -/
def St.nm : St → Str
  | .note s => s
  | .call s => s
  | _ => ""
def callsOf (b : Bd) : List Str := (ofWord 5 b "call").map St.nm
abbrev sNc : Stmt := top 27
abbrev NNc : List Str := ["body", "_", "name"]
theorem scNc : FnScope NNc ["body"] (defScope sNc) := ⟨rfl, rfl, rfl, by decide +kernel, rfl, by decide +kernel, by decide +kernel⟩
def spNc (K : PySem.W.Frag) : Sp := fun vs H Q _ => ∃ v b, vs = [v] ∧ BdAt 5 H v b ∧ FewB 5 b ∧ (placed 5 b []).length ≤ 900 ∧ ∀ l H', Same H H' → H' l = some (.lst ((callsOf b).map V.str)) → Q (.ref l) H'
theorem ofWord_len (n : Nat) (b : Bd) (z : Str) : (ofWord n b z).length ≤ (placed n b []).length := by
  unfold ofWord
  refine Nat.le_trans (List.length_filter_le _ _) ?_
  rw [List.length_map]
  exact Nat.le_refl _
theorem ofWord_mem {n : Nat} {b : Bd} {z : Str} {x : St} (h : x ∈ ofWord n b z) : x.word = z := by
  unfold ofWord at h
  exact of_decide_eq_true (List.mem_filter.mp h).2
theorem call_at {n : Nat} {H : Hp} {v : V} : ∀ {x : St}, x.word = "call" → StAt n H v x → ∃ a, v = .ref a ∧ H a = some (.tup [.str "call", .str x.nm])
  | .call s, _, ⟨a, e, h⟩ => ⟨a, e, h⟩
  | .note s, h, _ => absurd h (by show ¬ (("note" : Str) = "call"); decide +kernel)
  | .stay, h, _ => absurd h (by decide +kernel)
  | .again _ _ _, h, _ => absurd h (by show ¬ (("again" : Str) = "call"); decide +kernel)
  | .choose _, h, _ => absurd h (by show ¬ (("choose" : Str) = "call"); decide +kernel)
  | .toss _, h, _ => absurd h (by show ¬ (("toss" : Str) = "call"); decide +kernel)
theorem ok_nc {f : Addr} {fd : FuncData} (F : Fun K "_names_called" "_names_called" sNc f fd) (gS : Glo P w K mg base "statements_of" 7 ["body", "word"] (spSof K 5)) : FnOk P w K mg base CX0 8 f fd ["body"] (spNc K) := by
  refine F.ok scNc (fun vs H Q E h => ?_) (fun cdv A outer s H vs Q E hr h => ?_)
  · obtain ⟨v, b, rfl, _⟩ := h
    rfl
  · obtain ⟨v, b, rfl, hb, few, sz, q⟩ := h
    refine ⟨_, (pss_one (ps_ret (pe_lc (X := (cxOf CX0 P w K mg base NNc "_names_called" (defScope sNc) f cdv A outer s H E).nox) (own := [("_", 1), ("name", 2)]) (g := (gTup K 2 (gCons (gName 1) (gCons (gName 2) gNil)))) (tt := tYes) rfl scNc.nd (pi_list (pe_call gS.G (hr.mono (by decide)) (by rfl) gS.m gS.k gS.b .nil pass0 (pa_cons (pv 0) (pa_cons pe_str pa_nil)))) (blkOk_by (N := NNc) (sc := defScope sNc) (by decide +kernel)) (fun _ _ _ _ _ => (pg_tupK (K := K) rfl rfl (pgs_cons (pg_name (i := 1) scNc.nd rfl (.inl rfl)) (pgs_cons (pg_name (i := 2) scNc.nd rfl (.inl rfl)) pgs_nil)))) (fun _ _ _ _ _ => pts_nil) (fun _ _ _ _ _ => (pv 2))))), ?_⟩
    refine ⟨_, rfl, v, b, "call", rfl, hb, few, by decide, sz, fun l us H1 s1 hl hu => ?_⟩
    refine ⟨l, rfl, ⟨_, SqL.of hl⟩, fun D hD => ?_⟩
    have ul : us.length = (ofWord 5 b "call").length := hu.1
    have ub := ofWord_len 5 b "call"
    refine lc_list (xs := us) (fun i Hc => Same H1 Hc ∧ Hc D = some (.lst ((((ofWord 5 b "call").take i).map St.nm).map V.str))) ⟨same_new hD, upd_same⟩ (fun i Hc _ p => SqL.of (p.1 _ _ hl)) ?_ ?_
    · rintro i v' Hc hvi ⟨sm, hDc⟩
      obtain ⟨x, hx, hs⟩ := hu.2 i v' hvi
      have il := (List.getElem?_eq_some_iff.mp hvi).1
      obtain ⟨a, rfl, ha⟩ := call_at (ofWord_mem (List.mem_of_getElem? hx)) hs
      have ha := sm _ _ ha
      refine ⟨a, _, rfl, SqT.of ha, rfl, _, _, rfl, _, _, rfl, rfl, rfl, ?_⟩
      refine ⟨_, rfl, _, hDc, small1000 (by rw [List.length_map, List.length_map, List.length_take]; omega), same_upd hD sm, ?_⟩
      rw [take_snoc hx, List.map_append, List.map_append]
      exact upd_same
    · rintro Hc ⟨sm, hDc⟩
      rw [List.take_of_length_le (by omega)] at hDc
      exact q D Hc (s1.trans sm) hDc
end
end FR
set_option Elab.async false
set_option linter.all false
set_option maxRecDepth 100000
set_option maxHeartbeats 1000000
/-! _are_program of a right dict -/
namespace FR
open PySem PySem.Spec PyProof.Rows L2
abbrev Pg : Type := List (Str × Bd)
/-- a program -/
structure Prg (p : Pg) : Prop where
  len : 1 ≤ p.length ∧ p.length ≤ 8
  ok : ∀ x ∈ p, nameB x.1 = true ∧ okB 5 x.2 ∧ cnt 5 x.2 ≤ 60 ∧ FewB 5 x.2
  sz : (p.map fun x => (placed 5 x.2 []).length).sum ≤ 60
  cl : ∀ x ∈ p, ∀ z ∈ callsOf x.2, z ∈ p.map (·.1)
/-- these pairs are it -/
def PrgK (H : Hp) (kvs : List (Key × V)) (p : Pg) : Prop := kvs.length = p.length ∧ ∀ (i : Nat) (k : Key) (v : V), kvs[i]? = some (k, v) → ∃ z b, k = .inr z ∧ p[i]? = some (z, b) ∧ BdAt 5 H v b
theorem PrgK.keep {H H' : Hp} {kvs : List (Key × V)} {p : Pg} (h : PrgK H kvs p) (e : ∀ a xs, H a = some (.tup xs) → H' a = some (.tup xs)) : PrgK H' kvs p := ⟨h.1, fun i k v q => by
  obtain ⟨z, b, e1, e2, e3⟩ := h.2 i k v q
  exact ⟨z, b, e1, e2, bdAt_keep e 5 v b e3⟩⟩
theorem same_lock {H H' : Hp} {d : Addr} {u : HO} {od : Obj} (hd : H d = some u) (s : Same (upd H d (.frz od u)) H') : Same H (upd H' d u) := fun a o e => by
  by_cases h : a = d
  · rw [h] at e ⊢
    rw [upd_same, ← hd, e]
  · rw [upd_ne h]
    exact s a o (by rw [upd_ne h]; exact e)
theorem lock_tup {H : Hp} {d : Addr} {kvs : List (Key × V)} {x : HO} (hd : H d = some (.dK kvs)) : ∀ a xs, H a = some (.tup xs) → upd H d x a = some (.tup xs) := fun a xs e => by
  rw [upd_ne (fun z => by rw [z, hd] at e; cases e)]
  exact e
theorem len_mem_sum {α : Type} {f : α → Nat} : ∀ {l : List α} {x : α}, x ∈ l → f x ≤ (l.map f).sum
  | y :: l, x, h => by
    show f x ≤ f y + (l.map f).sum
    rcases List.mem_cons.mp h with e | e
    · rw [e]; omega
    · have := len_mem_sum (f := f) e
      omega
theorem valV_of {kvs : List (Key × V)} {k : Key} (h : k ∈ kvs.map (·.1)) : (valV kvs k).isSome = true := by
  cases e : valV kvs k with
  | some v => rfl
  | none => exact absurd h (valV_not e)
theorem PrgK.at {H : Hp} {kvs : List (Key × V)} {p : Pg} (h : PrgK H kvs p) {i : Nat} (hi : i < kvs.length) : ∃ z v b, kvs[i]? = some (.inr z, v) ∧ p[i]? = some (z, b) ∧ BdAt 5 H v b := by
  cases e : kvs[i]? with
  | none => exact absurd (List.getElem?_eq_none_iff.mp e) (by omega)
  | some kv =>
    obtain ⟨k, v⟩ := kv
    obtain ⟨z, b, rfl, h1, h2⟩ := h.2 i k v e
    exact ⟨z, v, b, rfl, h1, h2⟩
theorem PrgK.mem {H : Hp} {kvs : List (Key × V)} {p : Pg} (h : PrgK H kvs p) {z : Str} (hz : z ∈ p.map (·.1)) : (Sum.inr z : Key) ∈ kvs.map (·.1) := by
  obtain ⟨x, hx, rfl⟩ := List.mem_map.mp hz
  obtain ⟨i, hi, e⟩ := List.getElem_of_mem hx
  obtain ⟨z', v, b, h1, h2, _⟩ := h.at (i := i) (by rw [h.1]; exact hi)
  rw [List.getElem?_eq_getElem hi, e] at h2
  have e2 := Option.some.inj h2
  rw [e2]
  exact List.mem_map.mpr ⟨_, List.mem_of_getElem? h1, rfl⟩
theorem str_bl : ∀ {xs : List Str} {bs : List Bool}, xs.map V.str = bs.map V.bl → xs = []
  | [], _, _ => rfl
  | x :: xs, [], h => by cases h
  | x :: xs, y :: bs, h => by
    have := (List.cons.inj h).1
    cases this
theorem rep_bl {n : Nat} : ((List.replicate n true).map V.bl) ++ [V.bl true] = (List.replicate (n + 1) true).map V.bl := by
  rw [List.replicate_succ', List.map_append]
  rfl
theorem rep_all {n : Nat} : (List.replicate n true).all id = true := by
  induction n with
  | zero => rfl
  | succ n ih => rw [List.replicate_succ, List.all_cons, ih]; rfl
theorem sum_cast {α : Type} {f : α → Nat} : ∀ l : List α, (l.map fun x => ((f x : Nat) : Int)).sum = (((l.map f).sum : Nat) : Int)
  | [] => rfl
  | x :: l => by
    show (f x : Int) + (l.map fun x => ((f x : Nat) : Int)).sum = ((f x + (l.map f).sum : Nat) : Int)
    rw [sum_cast l]
    omega
/-- walks, whatever the turn does -/
theorem walk_core {J : It} {n : Nat} {G : Hp → Prop} {Y : Nat → Hp → V → Hp → Prop} (w : Walk J n G Y) {Body : (Hp → Prop) → V → Hp → Prop} {H0 : Hp} {Qd : Hp → Prop} (Pv : Nat → Hp → Prop) (h0 : Pv 0 H0) (hG : ∀ i H, i ≤ n → Pv i H → G H)
    (hs : ∀ i x H H', i < n → Pv i H → Y i H x H' → Body (Pv (i + 1)) x H') (hd : ∀ H, Pv n H → Qd H) :
    ∃ W : Nat → Nat → Hp → Prop, (∃ m, W 0 m H0) ∧ ∀ i m H, W i m H → (J.stop i H ∧ Qd H) ∨ (J.go i H ∧ ∃ Nx : Hp → Prop, (∀ H', Nx H' → ∃ m', m' < m ∧ W (i + 1) m' H') ∧ ∀ x H', J.yld i H x H' → Body Nx x H') := by
  refine ⟨fun i m H => m = n - i ∧ i ≤ n ∧ Pv i H, ⟨n, by simp, Nat.zero_le _, h0⟩, ?_⟩
  rintro i m H ⟨rfl, hi, p⟩
  have q := hG i H hi p
  by_cases hlt : i < n
  · exact .inr ⟨w.goes i H hlt q, Pv (i + 1), fun H' p' => ⟨n - (i + 1), by omega, rfl, hlt, p'⟩, fun x H' y => hs i x H H' hlt p (w.yields i H x H' hlt q y)⟩
  · have e : i = n := by omega
    subst e
    exact .inl ⟨w.stops H q, hd H p⟩
section
variable {P : Program} {w : World} {K : PySem.W.Frag} {mg : Str → Option Value} {base : Heap}
abbrev sAp : Stmt := top 26
abbrev NAp : List Str := ["bodies", "name", "body"]
theorem scAp : FnScope NAp ["bodies"] (defScope sAp) := ⟨rfl, rfl, rfl, by decide +kernel, rfl, by decide +kernel, by decide +kernel⟩
def spAp : Sp := fun vs H Q _ => ∃ d kvs p, vs = [.ref d] ∧ H d = some (.dK kvs) ∧ PrgK H kvs p ∧ Prg p ∧ ∀ H', Same H H' → Q (.bl true) H'
structure TxtD (mg : Str → Option Value) : Prop where
  isi : mg "isinstance" = none
  dict : mg "dict" = none
  len : mg "len" = none
  all : mg "all" = none
  sum : mg "sum" = none
theorem ok_ap {f fp dT : Addr} {fd fdp : FuncData} {t8 t60 : Tok} (F : Fun K "_are_program" "_are_program" sAp f fd) (T : TxtD mg) (m8 : mg "MAX_PROCEDURES" = some (.int 8 t8)) (m60 : mg "MAX_STATEMENTS" = some (.int 60 t60)) (gB : Glo P w K mg base "is_between" 2 ["value", "least", "greatest"] spBetX) (gN : Glo P w K mg base "is_name" 3 ["value"] (spNm K)) (gI : Glo P w K mg base "is_body" 11 ["value"] spIb) (gC : Glo P w K mg base "_names_called" 8 ["body"] (spNc K))
    (GP : FnOk P w K mg base CX0 6 fp fdp ["body", "path"] (spPls K 5)) (mP : mg "placed_statements" = some (.ref fp)) (kP : PySem.W.keepIn K (.ref fp) = true) {ds : List Value} (bP : Binds K fdp ["body", "path"] ds) (vP : Vals [V.ref dT] ds) (hT : ∀ H, SqT K H dT []) : FnOk P w K mg base CX0 12 f fd ["bodies"] spAp := by
  refine F.ok scAp (fun vs H Q E h => ?_) (fun cdv A outer s H vs Q E hr h => ?_)
  · obtain ⟨d, kvs, p, rfl, _⟩ := h
    rfl
  · obtain ⟨d, kvs, p, rfl, hd, hk, hp, q⟩ := h
    have hu := hu_of hr
    refine ⟨_, (pss_cons (ps_if (PW.pt (pw_or (pt_not (pt_val (pe_callB call_isi (by rfl) T.isi PyProof.Rows.boot_isinstance (pa_cons (pv 0) (pa_cons (pe_bltn (v := .ty "dict") (by rfl) T.dict (by decide +kernel) rfl) pa_nil))))) (pw_or1 (pt_not (pt_val (pe_call gB.G (hr.mono (by decide)) (by rfl) gB.m gB.k gB.b .nil pass0 (pa_cons (pe_callB call_lenD (by rfl) T.len PySem.boot_len (pa_cons (pv 0) pa_nil)) (pa_cons pe_int (pa_cons (pe_glob (v := .int 8) (by rfl) m8 ⟨t8, rfl⟩) pa_nil))))))))) (pss_one (ps_ret pe_bl)) pss_nil)
      (pss_cons (ps_if (pt_not (pt_val (pe_callB (cr_all rfl) (by rfl) T.all (by decide +kernel) (pa_cons (pe_lock (pe_lc (X := (cxOf CX0 P w K mg base NAp "_are_program" (defScope sAp) f cdv A outer s H E).nox) (own := [("name", 1), ("body", 2)]) (g := (gTup K 2 (gCons (gName 1) (gCons (gName 2) gNil)))) (tt := tYes) rfl scAp.nd (pi_items (pv 0)) (blkOk_by (N := NAp) (sc := defScope sAp) (by decide +kernel)) (fun _ _ _ _ _ => (pg_tupK (K := K) rfl rfl (pgs_cons (pg_name (i := 1) scAp.nd rfl (.inl rfl)) (pgs_cons (pg_name (i := 2) scAp.nd rfl (.inl rfl)) pgs_nil)))) (fun _ _ _ _ _ => pts_nil) (fun _ _ _ _ _ => (pe_and (pe_call gN.G (hr.mono (by decide)) (by rfl) gN.m gN.k gN.b .nil pass0 (pa_cons (pv 1) pa_nil)) (pe_one (pe_call gI.G (hr.mono (by decide)) (by rfl) gI.m gI.k gI.b .nil pass0 (pa_cons (pv 2) pa_nil))))))) pa_nil)))) (pss_one (ps_ret pe_bl)) pss_nil)
      (pss_cons (ps_if (pt_cmpR op_gt (pe_callB (cr_sum rfl) (by rfl) T.sum (by decide +kernel) (pa_cons (pe_lock (pe_lc (X := (cxOf CX0 P w K mg base NAp "_are_program" (defScope sAp) f cdv A outer s H E).nox) (own := [("body", 2)]) (g := (gName 2)) (tt := tYes) rfl scAp.nd (pi_values (pv 0)) (blkOk_by (N := NAp) (sc := defScope sAp) (by decide +kernel)) (fun _ _ _ _ _ => (pg_name (i := 2) scAp.nd rfl (.inl rfl))) (fun _ _ _ _ _ => pts_nil) (fun _ _ _ _ _ => (pe_callB (call_len_seqK (K := K) rfl) (by rfl) T.len PySem.boot_len (pa_cons (pe_call GP (hr.mono (by decide)) (by rfl) mP kP bP vP pass0 (pa_cons (pv 2) pa_nil)) pa_nil))))) pa_nil)) (pe_glob (v := .int 60) (by rfl) m60 ⟨t60, rfl⟩) (nomark _)) (pss_one (ps_ret pe_bl)) pss_nil)
      (pss_one (ps_ret (pe_callB (cr_all rfl) (by rfl) T.all (by decide +kernel) (pa_cons (pe_lock (pe_lc2 (X := (cxOf CX0 P w K mg base NAp "_are_program" (defScope sAp) f cdv A outer s H E).nox) (own := [("body", 2), ("name", 1)]) (vs1 := [1]) (g := (gName 2)) (tt := tYes) (g1 := (gName 1)) (tt1 := tYes) rfl scAp.nd (pi_values (pv 0)) (blkOk_by (N := NAp) (sc := defScope sAp) (by decide +kernel)) (by decide) (fun _ _ _ _ _ => (pg_name (i := 2) scAp.nd rfl (.inl rfl))) (fun _ _ _ _ _ => pts_nil) (fun _ _ _ _ _ => (pi_listK (K := K) rfl (pe_call gC.G (hr.mono (by decide)) (by rfl) gC.m gC.k gC.b .nil pass0 (pa_cons (pv 2) pa_nil)))) (fun _ _ _ _ _ => (pg_name (i := 1) scAp.nd rfl (.inl rfl))) (fun _ _ _ _ _ => pts_nil) (fun _ _ _ _ _ => (pe_cmp (pc_din hu (pv 1) (pv 0)))))) pa_nil))))))), ?_⟩
    have lk : kvs.length = p.length := hk.1
    have c1 : (decide ((1 : Int) ≤ (kvs.length : Nat)) && decide (((kvs.length : Nat) : Int) ≤ 8)) = true := by
      have := hp.len
      rw [Bool.and_eq_true]
      exact ⟨decide_eq_true (by omega), decide_eq_true (by omega)⟩
    refine ⟨_, rfl, _, _, _, _, true, rfl, .ty _, .base (.dK hd), kit_ty (by decide +kernel), _, rfl, iteF ?_⟩
    refine ⟨_, rfl, d, kvs, rfl, hd, _, 1, 8, rfl, _, rfl, ?_⟩
    rw [c1]
    refine iteF ?_
    -- names and bodies
    refine ⟨d, _, hd, trivial, fun od => ?_⟩
    have hk1 := hk.keep (lock_tup (x := .frz od (.dK kvs)) hd)
    have hdl : upd H d (.frz od (.dK kvs)) d = some (.frz od (.dK kvs)) := upd_same
    have back : ∀ H', Same (upd H d (.frz od (.dK kvs))) H' → Same H (upd H' d (.dK kvs)) := fun H' s => same_lock hd s
    generalize upd H d (.frz od (.dK kvs)) = H1 at hk1 hdl back ⊢
    refine ⟨_, rfl, d, od, kvs, rfl, hdl, fun D hD => ?_⟩
    refine lc_it walk_items (fun i Hc => Same H1 Hc ∧ Hc D = some (.lst ((List.replicate i true).map V.bl))) ⟨same_new hD, upd_same⟩ (fun i Hc _ p => p.1 _ _ hdl) ?_ ?_
    · rintro i x Hc H' hi ⟨sm, hDc⟩ ⟨T1, x1, y1, rfl, hT1, rfl, hx, hy⟩
      obtain ⟨z, v, b, hkv, hpi, hb⟩ := hk1.at hi
      have hx : (kvs[i]?.map fun kv => kV kv.1) = some x1 := hx
      have hy : (kvs[i]?.map Prod.snd) = some y1 := hy
      rw [hkv] at hx hy
      have ex : V.str z = x1 := Option.some.inj hx
      have ey : v = y1 := Option.some.inj hy
      subst ex ey
      have sT := same_new (o := .tup [V.str z, v]) hT1
      have hDt := sT _ _ hDc
      have sm2 := sm.trans sT
      have h1 : upd Hc T1 (.tup [V.str z, v]) T1 = some (.tup [V.str z, v]) := upd_same
      generalize upd Hc T1 (.tup [V.str z, v]) = H2 at hDt sm2 h1 ⊢
      obtain ⟨nb, ob, cb, fb⟩ := hp.ok _ (List.mem_of_getElem? hpi)
      refine ⟨T1, _, rfl, SqT.of h1, rfl, _, _, rfl, _, _, rfl, rfl, rfl, ?_⟩
      refine ⟨_, rfl, .inl ⟨z, rfl, name_len nb, fun H3 s3 => ?_⟩⟩
      rw [nb]
      refine ⟨_, rfl, iteT ?_⟩
      refine ⟨_, rfl, v, b, rfl, ((hb.same sm2).same s3), ob, cb, fun H4 s4 => ?_⟩
      have hD4 := s4 _ _ (s3 _ _ hDt)
      refine ⟨_, hD4, small1000 (by rw [List.length_map, List.length_replicate]; have := hp.len; omega), same_upd hD ((sm2.trans s3).trans s4), ?_⟩
      rw [rep_bl]
      exact upd_same
    · rintro Hc ⟨sm, hDc⟩
      refine ⟨sm _ _ hdl, ?_⟩
      have sb := back Hc sm
      have hDb : upd Hc d (.dK kvs) D = some (.lst ((List.replicate kvs.length true).map V.bl)) := by
        rw [upd_ne (fun z => by rw [z, hdl] at hD; cases hD)]
        exact hDc
      generalize upd Hc d (.dK kvs) = Ha at sb hDb ⊢
      refine ⟨D, _, rfl, SqL.of hDb, _, rfl, ?_⟩
      rw [rep_all]
      refine iteF ?_
      -- sizes
      have hda := sb _ _ hd
      have hka := hk.keep (fun a xs e => sb a _ e)
      clear hDb hDc
      refine ⟨d, _, hda, trivial, fun od2 => ?_⟩
      have hk1 := hka.keep (lock_tup (x := .frz od2 (.dK kvs)) hda)
      have hdl : upd Ha d (.frz od2 (.dK kvs)) d = some (.frz od2 (.dK kvs)) := upd_same
      have back : ∀ H', Same (upd Ha d (.frz od2 (.dK kvs))) H' → Same Ha (upd H' d (.dK kvs)) := fun H' s => same_lock hda s
      generalize upd Ha d (.frz od2 (.dK kvs)) = H2 at hk1 hdl back ⊢
      refine ⟨_, rfl, d, od2, kvs, rfl, hdl, fun D2 hD2 => ?_⟩
      let ls : List Int := p.map fun x => (((placed 5 x.2 []).length : Nat) : Int)
      refine lc_it walk_values (fun i Hc => Same H2 Hc ∧ Hc D2 = some (.lst ((ls.take i).map V.int))) ⟨same_new hD2, upd_same⟩ (fun i Hc _ p => p.1 _ _ hdl) ?_ ?_
      · rintro i x Hc H' hi ⟨sm, hDc⟩ ⟨rfl, k0, hkv⟩
        obtain ⟨z, b, rfl, hpi, hb⟩ := hk1.2 i _ _ hkv
        obtain ⟨nb, ob, cb, fb⟩ := hp.ok _ (List.mem_of_getElem? hpi)
        have l60 : (placed 5 b []).length ≤ 60 := Nat.le_trans (len_mem_sum (f := fun x : Str × Bd => (placed 5 x.2 []).length) (List.mem_of_getElem? hpi)) hp.sz
        refine ⟨rfl, _, rfl, x, dT, b, [], rfl, hb.same sm, hT _, fb, by decide, Nat.le_trans l60 (by decide), fun l zs H3 nl3 s3 hl hz => ?_⟩
        refine ⟨l, zs, rfl, .inl (SqL.of hl), _, s3 _ _ hDc, small1000 (by rw [List.length_map, List.length_take]; have := hp.len; omega), same_upd hD2 (sm.trans s3), ?_⟩
        have hls : ls[i]? = some ((zs.length : Nat) : Int) := by
          show (p.map _)[i]? = _
          rw [List.getElem?_map, hpi, hz.1]
          rfl
        rw [take_snoc hls, List.map_append]
        exact upd_same
      · rintro Hc ⟨sm, hDc⟩
        rw [List.take_of_length_le (by show (p.map _).length ≤ _; rw [List.length_map]; omega)] at hDc
        refine ⟨sm _ _ hdl, ?_⟩
        have sb2 := back Hc sm
        have hDb : upd Hc d (.dK kvs) D2 = some (.lst (ls.map V.int)) := by
          rw [upd_ne (fun z => by rw [z, hdl] at hD2; cases hD2)]
          exact hDc
        generalize upd Hc d (.dK kvs) = Hb at sb2 hDb ⊢
        refine ⟨D2, ls, rfl, SqL.of hDb, _, _, rfl, rfl, _, rfl, ?_⟩
        have le60 : ls.sum ≤ 60 := by
          show (p.map fun x => (((placed 5 x.2 []).length : Nat) : Int)).sum ≤ 60
          rw [sum_cast]
          have := hp.sz
          omega
        refine ite2 (fun z => absurd (of_decide_eq_true z) (by omega)) (fun _ => ?_)
        -- what is called
        have sab := sb.trans sb2
        have hdb := sab _ _ hd
        have hkb := hk.keep (fun a xs e => sab a _ e)
        clear hDb hDc
        refine ⟨d, _, hdb, trivial, fun od3 => ?_⟩
        have hk1 := hkb.keep (lock_tup (x := .frz od3 (.dK kvs)) hdb)
        have hdl : upd Hb d (.frz od3 (.dK kvs)) d = some (.frz od3 (.dK kvs)) := upd_same
        have back : ∀ H', Same (upd Hb d (.frz od3 (.dK kvs))) H' → Same Hb (upd H' d (.dK kvs)) := fun H' s => same_lock hdb s
        generalize upd Hb d (.frz od3 (.dK kvs)) = H3 at hk1 hdl back ⊢
        refine ⟨_, rfl, d, od3, kvs, rfl, hdl, fun D3 hD3 => ?_⟩
        refine walk_core walk_values (fun i Hc => Same H3 Hc ∧ ∃ m, m ≤ 60 * i ∧ Hc D3 = some (.lst ((List.replicate m true).map V.bl))) ⟨same_new hD3, 0, Nat.zero_le _, upd_same⟩ (fun i Hc _ p => p.1 _ _ hdl) ?_ ?_
        · rintro i x Hc H' hi ⟨sm, m, hm, hDc⟩ ⟨rfl, k0, hkv⟩
          obtain ⟨z, b, rfl, hpi, hb⟩ := hk1.2 i _ _ hkv
          obtain ⟨nb, ob, cb, fb⟩ := hp.ok _ (List.mem_of_getElem? hpi)
          have cl := hp.cl _ (List.mem_of_getElem? hpi)
          have l60 : (placed 5 b []).length ≤ 60 := Nat.le_trans (len_mem_sum (f := fun x : Str × Bd => (placed 5 x.2 []).length) (List.mem_of_getElem? hpi)) hp.sz
          have c60 : (callsOf b).length ≤ 60 := by
            unfold callsOf
            rw [List.length_map]
            exact Nat.le_trans (ofWord_len 5 b "call") l60
          refine ⟨rfl, _, rfl, x, b, rfl, hb.same sm, fb, Nat.le_trans l60 (by decide), fun l H4 s4 hl => ?_⟩
          have sm4 := sm.trans s4
          have hD4 := s4 _ _ hDc
          refine ⟨l, rfl, ⟨_, SqL.of hl⟩, ?_⟩
          refine walk_core (walk_list (xs := (callsOf b).map V.str)) (fun j Hx => Same H3 Hx ∧ Hx l = some (.lst ((callsOf b).map V.str)) ∧ Hx D3 = some (.lst ((List.replicate (m + j) true).map V.bl))) ⟨sm4, hl, hD4⟩ (fun j Hx _ p => SqL.of p.2.1) ?_ ?_
          · rintro j y Hx H' hj ⟨sx, hlx, hDx⟩ ⟨rfl, hy⟩
            rw [List.length_map] at hj
            rw [List.getElem?_map, List.getElem?_eq_getElem hj] at hy
            have ey : V.str ((callsOf b)[j]) = y := Option.some.inj hy
            subst ey
            have hin := cl _ (List.getElem_mem hj)
            have hv := valV_of (hk.mem hin)
            refine ⟨rfl, _, rfl, _, rfl, d, _, rfl, .inl ⟨kvs, .inr _, .inr ⟨od3, sx _ _ hdl⟩, rfl, rfl⟩, ?_⟩
            rw [hv]
            refine ⟨_, hDx, small1000 (by rw [List.length_map, List.length_replicate]; have := hp.len; omega), same_upd hD3 sx, ?_, ?_⟩
            · rw [upd_ne (fun e => by
                rw [e, hDx] at hlx
                have e2 : (List.replicate (m + j) true).map V.bl = (callsOf b).map V.str := by injection hlx with h; injection h
                rw [str_bl e2.symm] at hj
                exact absurd hj (Nat.not_lt_zero _))]
              exact hlx
            · rw [rep_bl]
              exact upd_same
          · rintro Hx ⟨sx, hlx, hDx⟩
            rw [List.length_map] at hDx
            exact ⟨sx, _, by omega, hDx⟩
        · rintro Hc ⟨sm, m, hm, hDc⟩
          refine ⟨sm _ _ hdl, ?_⟩
          have sb3 := back Hc sm
          have hDb : upd Hc d (.dK kvs) D3 = some (.lst ((List.replicate m true).map V.bl)) := by
            rw [upd_ne (fun z => by rw [z, hdl] at hD3; cases hD3)]
            exact hDc
          generalize upd Hc d (.dK kvs) = Hd at sb3 hDb ⊢
          refine ⟨D3, _, rfl, SqL.of hDb, ?_⟩
          rw [rep_all]
          exact q Hd (sab.trans sb3)
end
end FR
set_option Elab.async false
set_option linter.all false
set_option maxRecDepth 100000
set_option maxHeartbeats 1000000
/-! def f(self, **rest): a call with one keyword -/
namespace FR
open PySem PySem.Spec PyProof.Rows L2
theorem put_new (name : Str) (h : Int) (key v : Value) : Obj.putName name h key v { cls := .type "dict", data := .dict #[] } = { cls := .type "dict", data := .dict #[⟨h, key, v⟩] 1 } := by
  rw [Obj.putName_eq]
  simp [Obj.putNameByArray]
theorem nsSet_new {prog : Program} {w : World} {A : Around} {E : Value → Shared → Prop} {s : Shared} {a : Addr} {name : Str} {v : Value} {Q : Unit → Shared → Prop} (ha : s.heap.get? a = some { cls := .type "dict", data := .dict #[] })
    (h : ∀ h', h'.DictOf (mixKind prog w) a [(.inr name, v)] → Heap.SameBut a s.heap h' → Q () { s with heap := h', toks := s.toks + 1 }) : wpAny (model prog w) A (nsSet a name v) Q E s := fun Γ p _ => by
  simp only [nsSet, strHash, Sem.wp_bind', Sem.wp_cmd_ask, Sem.wp_pure', Sem.wp_cmd_mkText]
  rw [Sem.wp_loadPart_of (model prog w) Γ _ p { s with toks := s.toks + 1 } (o := { cls := .type "dict", data := .dict #[] }) _ ha]
  simp only [aRefKeyMayBeTheName_eq, aRefKeyMayBeTheNameByArray]
  rw [if_neg (by simp)]
  simp only [Sem.wp_cmd_updatePart]
  refine ⟨by rw [ha]; rfl, h _ ?_ (Heap.SameBut.update ..)⟩
  refine ⟨_, #[⟨_, _, v⟩], 1, Heap.get?_update_self _ ha (by rw [put_new]; rfl), ?_, by rw [put_new], ?_, ?_, ?_⟩
  · rw [put_new]; exact ⟨rfl, rfl, rfl⟩
  · intro e he
    have he := List.mem_singleton.mp (Array.mem_toList_iff.mpr he)
    subst he
    exact ⟨.inr name, keyIs_str _ s.toks, rfl⟩
  · exact .cons (keyIs_str _ s.toks) rfl .nil
  · simp
theorem bind_rest {prog : Program} {w : World} {A : Around} {E : Value → Shared → Prop} {s : Shared} {Q : List (Str × Value) → Shared → Prop} {fd : FuncData} {x y : Arg} {k : Str} {u v : Value} 
    (hp : fd.params = ⟨[], [x], none, [], [], some y, []⟩) (hd : fd.defaults = .none) (hk : ¬ k = x.arg)
    (h : ∀ h' d, h'.DictOf (mixKind prog w) d [(.inr k, v)] → s.heap.objs.size = d → (∀ b o, s.heap.get? b = some o → h'.get? b = some o) → Q [(x.arg, u), (y.arg, .ref d)] { s with heap := h', toks := s.toks + 1 }) :
    wpAny (model prog w) A (bindArgs fd ⟨[u], [(k, v)]⟩) Q E s := by
  unfold bindArgs
  rw [hp, hd]
  simp [hk, seqItems?]
  refine wpAny_bind (wpAny_pure (wpAny_bind (wpAny_alloc ?_)))
  rw [← bind_pure_comp]
  refine wpAny_bind (nsSet_new (Heap.get?_push_size _ rfl) fun h' hd' sb => wpAny_pure (h h' _ hd' rfl fun b o e => ?_))
  exact (sb.2 b (Nat.ne_of_lt (Heap.lt_size e))).trans (Heap.get?_push_of_some _ e)
theorem frs_there {h base : Heap} : ∀ {l : List Env}, h.FunFrames base l → ∀ b ∈ frs l, ∃ o, h.get? b = some o
  | [], _, b, hb => absurd hb (by simp [frs])
  | env :: l, ⟨_, ⟨L, o, hf, _, ho, _⟩, hr⟩, b, hb => by
    unfold frs at hb
    simp [hf] at hb
    rcases hb with e | e
    · exact ⟨o, by rw [e]; exact ho⟩
    · exact frs_there hr b (by unfold frs; simpa using e)
/-- def f(x, **y), called with one value and one keyword of this name -/
structure FnRest (P : Program) (w : World) (K : PySem.W.Frag) (mg : Str → Option Value) (base : Heap) (k : Nat) (f : Addr) (key : Str) (sp : Sp) : Prop where
  run : ∀ (A : Around) (outer : List Env) (s : Shared) (H : Hp) (u g : Value) (vu vg : V) (Q : VK) (E : XK), Room k A → Env0 P w K mg base A outer s H → RelV vu u → RelV vg g → (∀ d, H d = none → sp [vu, .ref d] (upd H d (.dK [(.inr key, vg)])) Q E) →
    codeAny (model P w) A (.call (.ref f) ⟨[u], [(key, g)]⟩) (CR CX0 outer P w H s Q E) s
section
variable {P : Program} {w : World} {K : PySem.W.Frag} {mg : Str → Option Value} {base : Heap}
theorem rest_ok {nm qual key : Str} {x y : Arg} {st : Stmt} {f : Addr} {fd : FuncData} {N : List Str} {k : Nat} {sp : Sp} (F : Fun K nm qual st f fd) (hp : defArgs st = ⟨[], [x], none, [], [], some y, []⟩) (S : FnScope N [x.arg, y.arg] (defScope st)) (hk : ¬ key = x.arg)
    (len : ∀ vs H Q E, sp vs H Q E → vs.length = 2)
    (hbody : ∀ (cdv : Value) (A : Around) (outer : List Env) (s : Shared) (H : Hp) (vs : List V) (Q : VK) (E : XK), Room k (A.deeper (envOfC qual (defScope st) s.heap.objs.size f cdv)) → sp vs H Q E →
      ∃ t, PSs (cxOf CX0 P w K mg base N qual (defScope st) f cdv A outer s H E).nox (defBody st) t ∧ t { nx := fun _ H' => Q .non H', rt := Q } (start N vs) H) : FnRest P w K mg base (k + 1) f key sp := by
  obtain ⟨oc, od, kV, doc, pm, an, cdv, ct, osl, rfl, lk, hcd⟩ := F.ex
  refine ⟨fun A outer s H u g vu vg Q E hr e0 ru rg hsp => ?_⟩
  have KX0 : K.In s.heap := e0.mod.kin.keeps fun b o e => (e0.bs b o e).1
  refine codeAny_call_function hr.depth (KX0 _ _ lk) rfl S.co S.gen rfl (PySem.W.codeRec_of KX0 hcd) (bind_rest hp rfl hk fun h' d hd' ed keep => ?_)
  -- the state behind the binding
  have hn : H d = none := e0.hok.fresh (Nat.le_of_eq ed)
  have hlt : d < h'.objs.size := by
    obtain ⟨o, es, ep, e, _⟩ := hd'
    exact Heap.lt_size e
  have big : sysModules < s.heap.objs.size := by
    have h : mainGlobals < s.heap.objs.size := (e0.mod.glob.keeps fun b o e => (e0.bs b o e).1).lt
    exact Nat.lt_trans (by decide) h
  have hok : HOk P w (upd H d (.dK [(.inr key, vg)])) h' := e0.hok.laid keep (Nat.le_of_eq ed) ⟨by show 1 ≤ sizeLine; rw [sizeLine_eq]; omega, beq_eq_false_iff_ne.mpr (by rw [← ed]; exact Ne.symm (Nat.ne_of_lt big)), _, .cons ⟨rfl, rg⟩ .nil, hd'⟩
  have un : Un (frs outer) [] H (upd H d (.dK [(.inr key, vg)])) s.heap h' := Un.laid keep (Nat.le_of_eq ed) hn
  have e1 : Env0 P w K mg base A outer { s with heap := h', toks := s.toks + 1 } (upd H d (.dK [(.inr key, vg)])) := by
    refine ⟨e0.frames, e0.mod, fun b o e => ⟨keep _ _ (e0.bs b o e).1, ?_⟩, Nat.le_trans e0.bsz (by rw [ed]; exact Nat.le_of_lt hlt), Heap.FunFrames.of_keeps (fun b o e _ => ⟨o, keep _ _ e, rfl⟩) e0.funs, fun b hb => ?_, hok, e0.bare⟩
    · have lt := Heap.lt_size (e0.bs b o e).1
      rw [ed] at lt
      rw [upd_ne (Nat.ne_of_lt lt)]
      exact (e0.bs b o e).2
    · have hb0 := e0.frf b hb
      obtain ⟨o, e⟩ := frs_there e0.funs b hb
      have lt := Heap.lt_size e
      rw [ed] at lt
      rw [upd_ne (Nat.ne_of_lt lt)]
      exact hb0
  have q1 := hsp d hn
  generalize hs1 : ({ s with heap := h', toks := s.toks + 1 } : Shared) = s1 at e1
  have es1 : s1.heap = h' := by rw [← hs1]
  have eo1 : s1.os = s.os := by rw [← hs1]
  have hl : [vu, V.ref d].length = [x.arg, y.arg].length := rfl
  have r : Vals [vu, V.ref d] [u, Value.ref d] := .cons ru (.cons rfl .nil)
  have KX : K.In s1.heap := e1.mod.kin.keeps fun b o e => (e1.bs b o e).1
  have lim : s1.heap.NoLimit := e1.mod.nolimit.keeps fun b o e => (e1.bs b o e).1
  have hkind : ∀ z ∈ [x.arg, y.arg].zip [u, Value.ref d], (defScope st).names.lookup z.1 = some .local ∨ ((defScope st).names.lookup z.1 = some .cell ∧ ((cellsFrom (s1.heap.objs.size + 1) (defScope st).names []).lookup z.1).isSome = true) := fun ⟨n, v⟩ hy => by
    rcases S.par n (List.of_mem_zip hy).1 with q | q
    · exact .inl q
    · exact .inr ⟨q, PySem.W.cellsFrom_some _ _ _ (.inl q)⟩
  refine wpAny_newFunctionEnv_cells (binds := [x.arg, y.arg].zip [u, Value.ref d]) S.kind hkind fun env he s2 x2 => ?_
  subst he
  refine ⟨lim.keeps x2.toInCall.keep, codeAny_func ?_⟩
  obtain ⟨t, ht, hq⟩ := hbody cdv A outer s1 _ _ _ _ (hr.deeper _) q1
  have I : Inv (cxOf CX0 P w K mg base N qual (defScope st) f cdv A outer s1 (upd H d (.dK [(.inr key, vg)])) E) [] (start N [vu, V.ref d]) (upd H d (.dK [(.inr key, vg)])) s2 := inv_start S hr.hd e1 hl r x2
  refine wpAny_mono (ht.nox.run [] s2 (start N [vu, V.ref d]) _ _ I hq) (fun fl s' hs => ?_) fun e s' hs => hs
  have fin : ∀ {σ' : L2.St} {H' : Hp} {v : V} {u : Value}, Inv (cxOf CX0 P w K mg base N qual (defScope st) f cdv A outer s1 (upd H d (.dK [(.inr key, vg)])) E) [] σ' H' s' → RelV v u → Q v H' → CE outer P w H s Q u s' :=
    fun {σ' H' v u} J rv q => ⟨v, H', J.os.trans eo1, J.bare, un.trans (by rw [← es1]; exact J.base), J.hok, rv, q⟩
  cases fl with
  | ret u =>
    obtain ⟨v, σ', H', J, rv, q⟩ := hs
    exact fin J rv q
  | next =>
    obtain ⟨σ', H', J, q⟩ := hs
    exact fin (v := V.non) (u := Value.none) J rfl q
  | brk =>
    obtain ⟨_, _, _, q⟩ := hs
    exact False.elim q
  | cont =>
    obtain ⟨_, _, _, q⟩ := hs
    exact False.elim q
end
end FR
set_option Elab.async false
set_option linter.all false
set_option maxRecDepth 100000
set_option maxHeartbeats 1000000
/-! C(key = e), C's __init__ takes self and **rest -/
namespace FR
open PySem PySem.Spec PyProof.Rows L2
/-- a new instance and its dict, a new dict of the keyword, then __init__ -/
def tMakeR (C : Addr) (key : Str) (sp : Sp) (tk : TA) : TE := fun σ H Q => tk σ H fun zs H2 => ∃ g, zs = [g] ∧ ∀ x dx, H2 x = none → H2 dx = none → dx ≠ x → ∀ d, upd (upd H2 dx (.own x)) x (.ins C dx []) d = none →
  sp [.ref x, .ref d] (upd (upd (upd H2 dx (.own x)) x (.ins C dx [])) d (.dK [(.inr key, g)])) (fun v H3 => v = .non ∧ Q (.ref x) H3) E0
section
variable {X : Cx} {k : Nat} {f C : Addr} {key : Str} {sp : Sp} {x : Str} {p pos : Pos} {kws : List Keyword} {tk : TA}
theorem pe_makeR (M : Mk X.K C f) (F : FnRest X.prog X.w X.K X.mg X.base k f key sp) (hr : Room (k + 1) X.A) (hg : Gl X x) (hm : X.mg x = some (.ref C)) (hkw : PK X kws tk)
    (hall : (backToKw pos (keywordEach kws X.env)).all (·.1.isSome) = true := by rfl) (hks : (backToKw pos (keywordEach kws X.env)).filterMap (·.1) = [key] := by rfl) (hdb : (x == ("__debug__" : Str)) = false := by decide)
    (hpl : ((backTo pos (starEach [] X.env)).any (·.1) || (backToKw pos (keywordEach kws X.env)).any (·.1.isNone)) = false := by rfl) :
    PE X (.Call (.Name x p) [] kws pos) (tMakeR C key sp tk) := by
  refine ⟨fun pins s σ H Q I h => ?_⟩
  refine wpAny_Call_Name_kw (ld_glob I hg hm ?_ hdb)
  refine PySem.W.callWith_KW0 (h₀ := X.base) I.ok.mod.kin M.kp hall ?_ hpl
  refine thn (hkw.run pos pins s σ H _ I h) fun ws s2 ⟨zs, H2, I2, rz, g, ez, q2⟩ => ⟨I2.kIn, ?_⟩
  rw [hks]
  subst ez
  obtain ⟨w, rfl, rw⟩ := vals1 rz
  have hq := q2 (s2.heap.objs.size + 1) s2.heap.objs.size (I2.hok.fresh (Nat.le_succ _)) (I2.hok.fresh (Nat.le_refl _)) (Nat.ne_of_lt (Nat.lt_succ_self _))
  have I3 := Inv.made (C := C) I2
  refine wpAny_call (make_map (f := f) I2.kIn M.makes M.init (beq_iff_eq.mp M.fn) (codeAny_mono (F.run _ X.stack _ _ (.ref (s2.heap.objs.size + 1)) w (.ref (s2.heap.objs.size + 1)) g _ E0 (hr.make C [] [(key, w)]) (I3.env0.make C [] [(key, w)]) rfl rw hq) fun r s' hq' => ?_))
  cases r with
  | error e => exact False.elim hq'
  | ok fl =>
    cases fl with
    | ret u =>
      obtain ⟨v, H', I4, rv, ev, q3⟩ := I3.after hq'
      subst ev
      exact ⟨rv, ⟨V.ref (s2.heap.objs.size + 1), H', I4, rfl, q3⟩⟩
    | next => exact False.elim hq'
    | brk => exact False.elim hq'
    | cont => exact False.elim hq'
end
end FR
set_option Elab.async false
set_option linter.all false
set_option maxRecDepth 100000
set_option maxHeartbeats 1000000
/-! Given; Program.__init__: its names -/
namespace FR
open PySem PySem.Spec PyProof.Rows L2
section
variable {P : Program} {w : World} {K : PySem.W.Frag} {mg : Str → Option Value} {base : Heap}
abbrev sGi : Stmt := inClass (top 28) 0
theorem scGi : FnScope ["self", "table"] ["self", "table"] (defScope sGi) := ⟨rfl, rfl, rfl, by decide +kernel, rfl, by decide +kernel, by decide +kernel⟩
/-- Given(v) is told by its instance -/
def spGi (C : Addr) : Sp := fun vs H Q _ => ∃ (p dx : Addr) (v : V), vs = [.ref p, v] ∧ H p = some (.ins C dx []) ∧ Q .non (upd H p (.ins C dx [("table", v)]))
theorem ok_gi {f C : Addr} {fd : FuncData} (F : Fun K "__init__" "Given.__init__" sGi f fd) (cl : Cls K C) (nt : NoAttr K C "table") : FnOk P w K mg base CX0 1 f fd ["self", "table"] (spGi C) := by
  refine F.ok scGi (fun vs H Q E h => ?_) (fun cdv A outer s H vs Q E hr h => ?_)
  · obtain ⟨p, dx, v, rfl, _⟩ := h
    rfl
  · obtain ⟨p, dx, v, rfl, hp, q⟩ := h
    refine ⟨_, pss_one (ps_fld (pv 0) (pv 1) rfl), ?_⟩
    exact ⟨_, rfl, _, rfl, p, C, dx, [], rfl, hp, cl, nt, by show 0 < 1000; decide, q⟩
abbrev sPi : Stmt := inClass (top 29) 0
abbrev NPi : List Str := ["self", "bodies", "given", "table", "placed", "name", "body", "path", "statement", "_"]
theorem scPi : FnScope NPi ["self", "bodies"] (defScope sPi) := ⟨rfl, rfl, rfl, by decide +kernel, rfl, by decide +kernel, by decide +kernel⟩
end
end FR
set_option Elab.async false
set_option linter.all false
set_option maxRecDepth 100000
set_option maxHeartbeats 1000000
/-! Program.__init__: its first six statements are read by these rules -/
namespace FR
open PySem PySem.Spec PyProof.Rows L2
section
variable {P : Program} {w : World} {K : PySem.W.Frag} {mg : Str → Option Value} {base : Heap}
structure TxtP (mg : Str → Option Value) : Prop where
  isi : mg "isinstance" = none
  sorted : mg "sorted" = none
  len : mg "len" = none
  tup : mg "tuple" = none
theorem pi_head {k : Nat} {f fp dT : Addr} {fdp : FuncData} (GP : FnOk P w K mg base CX0 6 fp fdp ["body", "path"] (spPls K 5)) (mP : mg "placed_statements" = some (.ref fp)) (kP : PySem.W.keepIn K (.ref fp) = true) {ds : List Value} (bP : Binds K fdp ["body", "path"] ds) (vP : Vals [V.ref dT] ds) {CG : Addr} {cdv : Value} {A : Around} {outer : List Env} {s : Shared} {H : Hp} {E : XK} (T : TxtP mg) (mG : mg "Given" = some (.ref CG)) (gA : Glo P w K mg base "_are_program" 12 ["bodies"] spAp) (hr : Room 12 (A.deeper (envOfC "Program.__init__" (defScope sPi) s.heap.objs.size f cdv))) :
    ∃ t, PSs (cxOf CX0 P w K mg base NPi "Program.__init__" (defScope sPi) f cdv A outer s H E).nox (defBody sPi) t := by
  have hu := hu_of hr
  exact ⟨_, (pss_cons (ps_set (i := 2) scPi.nd rfl (Or.inl rfl) (pe_dget1 hu (pv 1) pe_str ⟨by rfl, by rfl, by rfl, by rfl⟩))
      (pss_cons (ps_set (i := 3) scPi.nd rfl (Or.inr rfl) (pe_ifExp (pt_val (pe_callB call_isi (by rfl) T.isi PyProof.Rows.boot_isinstance (pa_cons (pv 2) (pa_cons (pe_glob (v := .ref CG) (by rfl) mG rfl) pa_nil)))) (pe_fld (pv 2) rfl) (pv 1)))
      (pss_cons (ps_if (pt_not (pt_val (pe_call gA.G (hr.mono (by decide)) (by rfl) gA.m gA.k gA.b .nil pass0 (pa_cons (pv 3) pa_nil)))) pss_never pss_nil)
      (pss_cons (ps_fld (pv 0) (pe_dc (X := (cxOf CX0 P w K mg base NPi "Program.__init__" (defScope sPi) f cdv A outer s H E).nox) (own := [("name", 5)]) (g := (gName 5)) (tt := tYes) rfl scPi.nd (pi_list (pe_callB (call_sortedD rfl) (by rfl) T.sorted (by decide +kernel) (pa_cons (pv 3) pa_nil))) (blkOk_by (N := NPi) (sc := defScope sPi) (by decide +kernel)) (fun _ _ _ _ _ => (pg_name (i := 5) scPi.nd rfl (.inl rfl))) (fun _ _ _ _ _ => pts_nil) (fun _ _ _ _ _ => (pv 5)) (fun _ _ _ _ _ => (pe_dget hu (pv 3) (pv 5) (fun _ _ => rfl)))) rfl)
      (pss_cons (ps_lock (ps_setLc2 (i := 4) (X := (cxOf CX0 P w K mg base NPi "Program.__init__" (defScope sPi) f cdv A outer s H E).nox) (own := [("name", 5), ("body", 6), ("path", 7), ("statement", 8)]) (vs1 := [7, 8]) (g := (gTup K 2 (gCons (gName 5) (gCons (gName 6) gNil)))) (tt := tYes) (g1 := (gTup K 2 (gCons (gName 7) (gCons (gName 8) gNil)))) (tt1 := tYes) rfl scPi.nd rfl rfl (by rfl) (pi_items (pe_fld (pv 0) rfl)) (blkOk_by (N := NPi) (sc := defScope sPi) (by decide +kernel)) (by decide) (fun _ _ _ _ _ => (pg_tupK (K := K) rfl rfl (pgs_cons (pg_name (i := 5) scPi.nd rfl (.inl rfl)) (pgs_cons (pg_name (i := 6) scPi.nd rfl (.inl rfl)) pgs_nil)))) (fun _ _ _ _ _ => pts_nil) (fun _ _ _ _ _ => (pi_listK (K := K) rfl (pe_call GP (hr.mono (by decide)) (by rfl) mP kP bP vP pass0 (pa_cons (pv 6) pa_nil)))) (fun _ _ _ _ _ => (pg_tupK (K := K) rfl rfl (pgs_cons (pg_name (i := 7) scPi.nd rfl (.inl rfl)) (pgs_cons (pg_name (i := 8) scPi.nd rfl (.inl rfl)) pgs_nil)))) (fun _ _ _ _ _ => pts_nil) (fun _ _ _ _ _ => (pe_tup (pa_cons (pv 5) (pa_cons (pv 7) (pa_cons (pv 8) pa_nil)))))))
      (pss_cons (ps_fld (pv 0) (pe_callB call_len_seq (by rfl) T.len PySem.boot_len (pa_cons (pv 4) pa_nil)) rfl)
      pss_never))))))⟩
end
end FR
set_option Elab.async false
set_option linter.all false
set_option maxRecDepth 100000
set_option maxHeartbeats 1000000
/-! sorted texts; a program's procedures in order -/
namespace FR
open PySem PySem.Spec PyProof.Rows L2
def leS (a b : Str) : Prop := ltCps b.cps.toList a.cps.toList = false
theorem leS_iff {a b : Str} : leS a b ↔ a.cps.toList ≤ b.cps.toList := by
  unfold leS
  rw [PyProof.Rows.ltCps_eq]
  simp
theorem leS_trans {a b c : Str} (h : leS a b) (g : leS b c) : leS a c := leS_iff.mpr (List.le_trans (leS_iff.mp h) (leS_iff.mp g))
theorem leS_antisymm {a b : Str} (h : leS a b) (g : leS b a) : a = b := by
  have e : a.cps.toList = b.cps.toList := List.le_antisymm (leS_iff.mp h) (leS_iff.mp g)
  obtain ⟨⟨x⟩⟩ := a
  obtain ⟨⟨y⟩⟩ := b
  have e : x = y := e
  rw [e]
theorem rising_pair : ∀ (p : Str) (l : List Str), risingS p l = true → (p :: l).Pairwise leS
  | p, [], _ => List.pairwise_singleton _ _
  | p, x :: r, h => by
    have h : (!ltCps x.cps.toList p.cps.toList && risingS x r) = true := h
    rw [Bool.and_eq_true] at h
    have a : leS p x := by
      unfold leS
      have := h.1
      simpa using this
    have b := rising_pair x r h.2
    refine List.pairwise_cons.mpr ⟨fun y hy => ?_, b⟩
    rcases List.mem_cons.mp hy with e | hy
    · rw [e]; exact a
    · exact leS_trans a ((List.pairwise_cons.mp b).1 y hy)
theorem sorted_pair : ∀ {l : List Str}, sortedS l = true → l.Pairwise leS
  | [], _ => List.Pairwise.nil
  | x :: r, h => rising_pair x r h
/-- two sorted rows of the same texts are one -/
theorem sorted_perm {l m : List Str} (p : l.Perm m) (h : sortedS l = true) (g : sortedS m = true) : l = m :=
  p.eq_of_pairwise (fun _ _ _ _ x y => leS_antisymm x y) (sorted_pair h) (sorted_pair g)
theorem nodup_perm {α : Type} [DecidableEq α] : ∀ {l m : List α}, l.Nodup → m.Nodup → (∀ z, z ∈ l ↔ z ∈ m) → l.Perm m
  | [], m, _, _, h => by
    cases m with
    | nil => exact .refl _
    | cons x m => exact absurd ((h x).mpr List.mem_cons_self) (by simp)
  | x :: l, m, hl, hm, h => by
    obtain ⟨h1, h2⟩ := List.nodup_cons.mp hl
    have hx : x ∈ m := (h x).mp List.mem_cons_self
    have pm := List.perm_cons_erase hx
    refine ((nodup_perm h2 (hm.erase x) fun z => ?_).cons x).trans pm.symm
    rw [hm.mem_erase_iff]
    constructor
    · intro hz
      exact ⟨fun e => h1 (e ▸ hz), (h z).mp (List.mem_cons_of_mem _ hz)⟩
    · rintro ⟨a, b⟩
      rcases List.mem_cons.mp ((h z).mpr b) with e | hz
      · exact absurd e a
      · exact hz
theorem sorted_nodup {l m : List Str} (a : l.Nodup) (b : m.Nodup) (h : ∀ z, z ∈ l ↔ z ∈ m) (x : sortedS l = true) (y : sortedS m = true) : l = m := sorted_perm (nodup_perm a b h) x y
abbrev names (p : Pg) : List Str := p.map (·.1)
/-- the body of a procedure -/
def bodyOf : Pg → Str → Bd
  | [], _ => []
  | x :: p, z => if x.1 = z then x.2 else bodyOf p z
theorem bodyOf_mem : ∀ {p : Pg}, (names p).Nodup → ∀ {x : Str × Bd}, x ∈ p → bodyOf p x.1 = x.2
  | y :: p, h, x, hx => by
    obtain ⟨h1, h2⟩ := List.nodup_cons.mp h
    unfold bodyOf
    rcases List.mem_cons.mp hx with e | hx
    · rw [e, if_pos rfl]
    · have ne : ¬ y.1 = x.1 := fun e => h1 (by show y.1 ∈ _; rw [e]; exact List.mem_map.mpr ⟨x, hx, rfl⟩)
      rw [if_neg ne]
      exact bodyOf_mem h2 hx
theorem pg_eta {p : Pg} (h : (names p).Nodup) : (names p).map (fun z => (z, bodyOf p z)) = p := by
  rw [List.map_map]
  conv => rhs; rw [← List.map_id p]
  exact List.map_congr_left fun x hx => by
    show (x.1, bodyOf p x.1) = x
    rw [bodyOf_mem h hx]
/-- the procedures in another order -/
theorem pg_perm {p : Pg} (h : (names p).Nodup) {ys : List Str} (hy : ys.Perm (names p)) : (ys.map fun z => (z, bodyOf p z)).Perm p ∧ names (ys.map fun z => (z, bodyOf p z)) = ys := by
  refine ⟨?_, by rw [names, List.map_map]; exact List.map_id _⟩
  have e := hy.map fun z => (z, bodyOf p z)
  rw [pg_eta h] at e
  exact e
theorem PrgK.keys {H : Hp} : ∀ {kvs : List (Key × V)} {p : Pg}, PrgK H kvs p → kvs.map (·.1) = (names p).map Sum.inr
  | [], [], _ => rfl
  | [], _ :: _, h => by simp [PrgK] at h
  | _ :: _, [], h => by simp [PrgK] at h
  | (k, v) :: kvs, y :: p, h => by
    obtain ⟨z, b, e1, e2, _⟩ := h.2 0 k v rfl
    cases e2
    have t : PrgK H kvs p := ⟨by have := h.1; simpa using this, fun i k v e => h.2 (i + 1) k v e⟩
    show k :: kvs.map (·.1) = Sum.inr z :: (names p).map Sum.inr
    rw [e1, t.keys]
theorem valV_get {kvs : List (Key × V)} {k : Key} {v : V} (h : valV kvs k = some v) : ∃ i : Nat, kvs[i]? = some (k, v) := by
  induction kvs with
  | nil => cases h
  | cons x r ih =>
    by_cases e : x.1 = k
    · rw [valV_pos e] at h
      refine ⟨0, ?_⟩
      rw [← e, ← Option.some.inj h]
      rfl
    · rw [valV_neg e] at h
      obtain ⟨i, hi⟩ := ih h
      exact ⟨i + 1, hi⟩
theorem PrgK.val {H : Hp} {kvs : List (Key × V)} {p : Pg} (h : PrgK H kvs p) (hn : (names p).Nodup) {z : Str} (hz : z ∈ names p) : ∃ v, valV kvs (Sum.inr z) = some v ∧ BdAt 5 H v (bodyOf p z) := by
  cases e : valV kvs (Sum.inr z) with
  | none =>
    have := valV_of (h.mem hz)
    rw [e] at this
    cases this
  | some v =>
    obtain ⟨i, hi⟩ := valV_get e
    obtain ⟨z', b, e1, e2, hb⟩ := h.2 i _ v hi
    cases e1
    have := bodyOf_mem hn (List.mem_of_getElem? e2)
    rw [this]
    exact ⟨v, rfl, hb⟩
theorem PrgK.none {H : Hp} {kvs : List (Key × V)} {p : Pg} (h : PrgK H kvs p) {z : Str} (hz : z ∉ names p) : valV kvs (Sum.inr z) = none := by
  cases e : valV kvs (Sum.inr z) with
  | none => rfl
  | some v =>
    obtain ⟨i, hi⟩ := valV_get e
    obtain ⟨z', b, e1, e2, hb⟩ := h.2 i _ v hi
    cases e1
    exact absurd (List.mem_map.mpr ⟨_, List.mem_of_getElem? e2, rfl⟩) hz
theorem PrgK.nil {H : Hp} : PrgK H [] [] := ⟨rfl, fun i k v e => by simp at e⟩
theorem PrgK.snoc {H : Hp} {kvs : List (Key × V)} {p : Pg} {z : Str} {v : V} {b : Bd} (h : PrgK H kvs p) (hv : BdAt 5 H v b) : PrgK H (kvs ++ [(.inr z, v)]) (p ++ [(z, b)]) := by
  refine ⟨by rw [List.length_append, List.length_append, h.1]; rfl, fun i k x e => ?_⟩
  by_cases c : i < kvs.length
  · rw [List.getElem?_append_left c] at e
    obtain ⟨z', b', e1, e2, e3⟩ := h.2 i k x e
    exact ⟨z', b', e1, by rw [List.getElem?_append_left (by rw [← h.1]; exact c)]; exact e2, e3⟩
  · have ei : i = kvs.length := by
      have := (List.getElem?_eq_some_iff.mp e).1
      rw [List.length_append] at this
      have : ([(Sum.inr z, v)] : List (Key × V)).length = 1 := rfl
      omega
    subst ei
    rw [List.getElem?_append_right (Nat.le_refl _), Nat.sub_self] at e
    cases e
    exact ⟨z, b, rfl, by rw [List.getElem?_append_right (by rw [h.1]; exact Nat.le_refl _), h.1, Nat.sub_self]; rfl, hv⟩
theorem Prg.perm {p q : Pg} (h : Prg p) (e : q.Perm p) : Prg q where
  len := by rw [e.length_eq]; exact h.len
  ok := fun x hx => h.ok x (e.mem_iff.mp hx)
  sz := by
    have : (q.map fun x => (placed 5 x.2 []).length).sum = (p.map fun x => (placed 5 x.2 []).length).sum := (e.map _).sum_nat
    rw [this]
    exact h.sz
  cl := fun x hx z hz => (e.map (·.1)).mem_iff.mpr (h.cl x (e.mem_iff.mp hx) z hz)
end FR
set_option Elab.async false
set_option linter.all false
set_option maxRecDepth 100000
set_option maxHeartbeats 1000000
/-! what a program's instance holds -/
namespace FR
open PySem PySem.Spec PyProof.Rows L2
/-- all statements, with the procedure and the path -/
def allP (p : Pg) : List (Str × PL1) := p.flatMap fun x => (placed 5 x.2 []).map fun y => (x.1, y)
def notes (l : List (Str × PL1)) : List Str := l.flatMap fun z => if z.2.2.word = ("note" : Str) then [z.2.2.nm] else []
def chosen (l : List (Str × PL1)) : List (Str × List Nat) := l.flatMap fun z => if z.2.2.word = ("choose" : Str) then [(z.1, z.2.1)] else []
def TrAt (K : PySem.W.Frag) (H : Hp) (z : V) (y : Str × PL1) : Prop := ∃ t a s, z = .ref t ∧ H t = some (.tup [.str y.1, .ref a, s]) ∧ SqT K H a (y.2.1.map fun i => V.int (i : Nat)) ∧ StAt 5 H s y.2.2
def ChAt (K : PySem.W.Frag) (H : Hp) (z : V) (y : Str × List Nat) : Prop := ∃ t a, z = .ref t ∧ H t = some (.tup [.str y.1, .ref a]) ∧ SqT K H a (y.2.map fun i => V.int (i : Nat))
def EvOk (es : List Str) (p : Pg) : Prop := sortedS es = true ∧ es.Nodup ∧ ∀ z, z ∈ es ↔ z ∈ notes (allP p)
/-- the instance at x is this program -/
def IsPg (K : PySem.W.Frag) (C : Addr) (H : Hp) (x : Addr) (p : Pg) : Prop := ∃ dx d e c kvs es cs, H x = some (.ins C dx [("_bodies", .ref d), ("_size", .int ((allP p).length : Nat)), ("_events", .ref e), ("_choices", .ref c)]) ∧ H d = some (.dK kvs) ∧ PrgK H kvs p ∧
  H e = some (.tup (es.map V.str)) ∧ EvOk es p ∧ H c = some (.tup cs) ∧ AG (fun z y => ChAt K H z y) cs (chosen (allP p))
/-- tuples stay -/
def Tk (H H' : Hp) : Prop := (∀ a xs, H a = some (.tup xs) → H' a = some (.tup xs)) ∧ ∀ a o xs, H a = some (.frz o (.tup xs)) → H' a = some (.frz o (.tup xs))
theorem Tk.trans {H H1 H2 : Hp} (a : Tk H H1) (b : Tk H1 H2) : Tk H H2 := ⟨fun q x e => b.1 q x (a.1 q x e), fun q o x e => b.2 q o x (a.2 q o x e)⟩
theorem Tk.refl (H : Hp) : Tk H H := ⟨fun _ _ e => e, fun _ _ _ e => e⟩
theorem Tk.same {H H' : Hp} (s : Same H H') : Tk H H' := ⟨fun a xs e => s a _ e, fun a o xs e => s a _ e⟩
theorem Tk.upd {H : Hp} {l : Addr} {u o : HO} (h : H l = some u) (n1 : ∀ xs, u ≠ .tup xs) (n2 : ∀ q xs, u ≠ .frz q (.tup xs)) : Tk H (L2.upd H l o) :=
  ⟨fun a xs e => by rw [upd_ne (fun z => by rw [z, h] at e; exact n1 xs (Option.some.inj e))]; exact e, fun a q xs e => by rw [upd_ne (fun z => by rw [z, h] at e; exact n2 q xs (Option.some.inj e))]; exact e⟩
theorem Tk.seqT {K : PySem.W.Frag} {H H' : Hp} (k : Tk H H') {a : Addr} {xs : List V} (h : SqT K H a xs) : SqT K H' a xs := by
  rcases h with (h | ⟨o, h⟩) | h
  · exact .inl (.inl (k.1 _ _ h))
  · exact .inl (.inr ⟨o, k.2 _ _ _ h⟩)
  · exact .inr h
theorem Tk.bd {n : Nat} {H H' : Hp} (k : Tk H H') {v : V} {b : Bd} (h : BdAt n H v b) : BdAt n H' v b := bdAt_keep k.1 n v b h
theorem Tk.st {n : Nat} {H H' : Hp} (k : Tk H H') {v : V} {x : St} (h : StAt n H v x) : StAt n H' v x := stW_imp k.1 (bdAt_keep k.1 n) h
theorem Tk.pg {H H' : Hp} (k : Tk H H') {kvs : List (Key × V)} {p : Pg} (h : PrgK H kvs p) : PrgK H' kvs p := h.keep k.1
theorem Tk.tr {K : PySem.W.Frag} {H H' : Hp} (k : Tk H H') {z : V} {y : Str × PL1} (h : TrAt K H z y) : TrAt K H' z y := by
  obtain ⟨t, a, s, e, ht, ha, hs⟩ := h
  exact ⟨t, a, s, e, k.1 _ _ ht, k.seqT ha, k.st hs⟩
theorem Tk.ch {K : PySem.W.Frag} {H H' : Hp} (k : Tk H H') {z : V} {y : Str × List Nat} (h : ChAt K H z y) : ChAt K H' z y := by
  obtain ⟨t, a, e, ht, ha⟩ := h
  exact ⟨t, a, e, k.1 _ _ ht, k.seqT ha⟩
theorem Tk.trs {K : PySem.W.Frag} {H H' : Hp} (k : Tk H H') {zs : List V} {ys : List (Str × PL1)} (h : AG (fun z y => TrAt K H z y) zs ys) : AG (fun z y => TrAt K H' z y) zs ys := h.imp fun _ _ x => k.tr x
theorem Tk.chs {K : PySem.W.Frag} {H H' : Hp} (k : Tk H H') {zs : List V} {ys : List (Str × List Nat)} (h : AG (fun z y => ChAt K H z y) zs ys) : AG (fun z y => ChAt K H' z y) zs ys := h.imp fun _ _ x => k.ch x
/-- all stays but what stands at x -/
def But (x : Addr) (H H' : Hp) : Prop := ∀ a o, a ≠ x → H a = some o → H' a = some o
theorem But.trans {x : Addr} {H H1 H2 : Hp} (a : But x H H1) (b : But x H1 H2) : But x H H2 := fun q o n e => b q o n (a q o n e)
theorem But.same {x : Addr} {H H' : Hp} (s : Same H H') : But x H H' := fun a o _ e => s a o e
theorem But.upd {x : Addr} {H : Hp} {o : HO} : But x H (L2.upd H x o) := fun a u n e => by rw [upd_ne n]; exact e
theorem But.tk {x : Addr} {H H' : Hp} (s : But x H H') {u : HO} (h : H x = some u) (n1 : ∀ xs, u ≠ .tup xs) (n2 : ∀ q xs, u ≠ .frz q (.tup xs)) : Tk H H' :=
  ⟨fun a xs e => s a _ (fun z => by rw [z, h] at e; exact n1 xs (Option.some.inj e)) e, fun a q xs e => s a _ (fun z => by rw [z, h] at e; exact n2 q xs (Option.some.inj e)) e⟩
theorem IsPg.keep {K : PySem.W.Frag} {C : Addr} {H H' : Hp} {x : Addr} {p : Pg} (h : IsPg K C H x p) (k : Tk H H') (h1 : ∀ a C dx fs, H a = some (.ins C dx fs) → H' a = some (.ins C dx fs)) (h2 : ∀ a kvs, H a = some (.dK kvs) → H' a = some (.dK kvs)) : IsPg K C H' x p := by
  obtain ⟨dx, d, e, c, kvs, es, cs, a1, a2, a3, a4, a5, a6, a7⟩ := h
  exact ⟨dx, d, e, c, kvs, es, cs, h1 _ _ _ _ a1, h2 _ _ a2, k.pg a3, k.1 _ _ a4, a5, k.1 _ _ a6, k.chs a7⟩
theorem IsPg.same {K : PySem.W.Frag} {C : Addr} {H H' : Hp} {x : Addr} {p : Pg} (h : IsPg K C H x p) (s : Same H H') : IsPg K C H' x p := h.keep (Tk.same s) (fun a _ _ _ e => s a _ e) fun a _ e => s a _ e
theorem allP_len (p : Pg) : (allP p).length = (p.map fun x => (placed 5 x.2 []).length).sum := by
  unfold allP
  rw [List.length_flatMap]
  congr 1
  exact List.map_congr_left fun x _ => by rw [List.length_map]
theorem notes_snoc (l : List (Str × PL1)) (y : Str × PL1) : notes (l ++ [y]) = notes l ++ (if y.2.2.word = ("note" : Str) then [y.2.2.nm] else []) := by
  unfold notes
  rw [List.flatMap_append, List.flatMap_cons, List.flatMap_nil, List.append_nil]
theorem chosen_snoc (l : List (Str × PL1)) (y : Str × PL1) : chosen (l ++ [y]) = chosen l ++ (if y.2.2.word = ("choose" : Str) then [(y.1, y.2.1)] else []) := by
  unfold chosen
  rw [List.flatMap_append, List.flatMap_cons, List.flatMap_nil, List.append_nil]
theorem notes_len (l : List (Str × PL1)) : (notes l).length ≤ l.length := by
  induction l with
  | nil => exact Nat.le_refl _
  | cons y l ih =>
    have e : notes (y :: l) = (if y.2.2.word = ("note" : Str) then [y.2.2.nm] else []) ++ notes l := List.flatMap_cons
    rw [e, List.length_append, List.length_cons]
    split
    · show 1 + _ ≤ _; omega
    · show 0 + _ ≤ _; omega
theorem chosen_len (l : List (Str × PL1)) : (chosen l).length ≤ l.length := by
  induction l with
  | nil => exact Nat.le_refl _
  | cons y l ih =>
    have e : chosen (y :: l) = (if y.2.2.word = ("choose" : Str) then [(y.1, y.2.1)] else []) ++ chosen l := List.flatMap_cons
    rw [e, List.length_append, List.length_cons]
    split
    · show 1 + _ ≤ _; omega
    · show 0 + _ ≤ _; omega
theorem note_at {n : Nat} {H : Hp} {v : V} : ∀ {x : St}, x.word = ("note" : Str) → StAt n H v x → ∃ a, v = .ref a ∧ H a = some (.tup [.str "note", .str x.nm])
  | .note s, _, ⟨a, e, h⟩ => ⟨a, e, h⟩
  | .call s, h, _ => absurd h (by show ¬ (("call" : Str) = "note"); decide +kernel)
  | .stay, h, _ => absurd h (by decide +kernel)
  | .again _ _ _, h, _ => absurd h (by show ¬ (("again" : Str) = "note"); decide +kernel)
  | .choose _, h, _ => absurd h (by show ¬ (("choose" : Str) = "note"); decide +kernel)
  | .toss _, h, _ => absurd h (by show ¬ (("toss" : Str) = "note"); decide +kernel)
theorem dec_str {a b : Str} : decide (V.str a = V.str b) = decide (a = b) := by
  by_cases h : a = b
  · rw [h, decide_eq_true rfl, decide_eq_true rfl]
  · rw [decide_eq_false h, decide_eq_false fun e => h (V.str.inj e)]
end FR
set_option Elab.async false
set_option linter.all false
set_option maxRecDepth 100000
set_option maxHeartbeats 1000000
/-! sets of texts that can be walked: what one holds, and an add -/
namespace SX
open PySem PySem.Spec PyProof.Rows L2 PySem.Froz
noncomputable section
def txOf : Value → Str
  | .str x _ => x
  | _ => Str.empty
theorem strs_of : ∀ {vs : List Value}, (∀ v ∈ vs, ∃ x u, v = Value.str x u) → StrsAre vs (vs.map txOf)
  | [], _ => .nil
  | v :: vs, h => by
    obtain ⟨x, u, rfl⟩ := h v List.mem_cons_self
    exact .cons x u (strs_of fun y hy => h y (List.mem_cons_of_mem _ hy))
/-- a text more -/
def ins (k : Str) (l : List Str) : List Str := if k ∈ l then l else k :: l
theorem mem_ins {k x : Str} {l : List Str} : x ∈ ins k l ↔ x = k ∨ x ∈ l := by
  unfold ins
  by_cases h : k ∈ l
  · rw [if_pos h]
    exact ⟨.inr, fun z => z.elim (fun e => e ▸ h) id⟩
  · rw [if_neg h, List.mem_cons]
theorem nodup_ins {k : Str} {l : List Str} (h : l.Nodup) : (ins k l).Nodup := by
  unfold ins
  by_cases c : k ∈ l
  · rw [if_pos c]; exact h
  · rw [if_neg c]; exact List.nodup_cons.mpr ⟨c, h⟩
theorem len_ins (k : Str) (l : List Str) : (ins k l).length ≤ l.length + 1 := by
  unfold ins
  by_cases c : k ∈ l
  · rw [if_pos c]; omega
  · rw [if_neg c]; exact Nat.le_refl _
section
variable {P : Program} {w : World}
/-- a set's payload: the texts l, each once; its table rises -/
structure Pay (P : Program) (w : World) (D : SD) (l : List Str) : Prop where
  ok : TxOk P w D l
  nd : l.Nodup
  few : l.length < scanBound
  pm : (D.1.toList.map fun e => txOf e.2).Perm l
  ris : Ris D.2.2.place.toList
  led : w.params.followText "set-order" = true ∨ D.2.2.led = true
theorem Pay.strs {D : SD} {l : List Str} (F : Pay P w D l) : ∀ v ∈ D.1.toList.map (·.2), ∃ x u, v = Value.str x u := fun v hv => by
  obtain ⟨e, he, rfl⟩ := List.mem_map.mp hv
  obtain ⟨⟨k, hk, _⟩, _⟩ := F.ok.el e he
  obtain ⟨t, z⟩ := Value.isStrOf_shape (x := k) (v := e.2) hk
  exact ⟨k, t, z⟩
theorem tail_facts (ep : Nat) (es1 : Array (Int × Value)) (t2 : SetTable) (d : Bool) (r : Ris t2.place.toList) : (tailTx ep es1 t2 d).1.toList.Perm es1.toList ∧ Ris (tailTx ep es1 t2 d).2.2.place.toList ∧ (tailTx ep es1 t2 d).2.2.led = t2.led := by
  unfold tailTx
  split
  · exact ⟨relayAll_perm _ _ _, relayAll_ris _ _ _, relayAll_led _ _ _⟩
  · exact ⟨List.Perm.refl _, r, rfl⟩
theorem add_facts (h : Int) (v : Value) (D : SD) (r : Ris D.2.2.place.toList) : (addTx h v D).1.toList.Perm ((h, v) :: D.1.toList) ∧ Ris (addTx h v D).2.2.place.toList ∧ (addTx h v D).2.2.led = D.2.2.led := by
  obtain ⟨es, ep, t⟩ := D
  have p1 := layNew_perm t es h v
  have r1 := layNew_ris t es h v r
  have l1 := layNew_led t es h v
  rw [Array.toList_push] at p1
  unfold addTx
  dsimp only
  generalize layNew t es h v = Z at p1 r1 l1 ⊢
  have z : ∀ t2 : SetTable, Ris t2.place.toList → t2.led = t.led → (tailTx ep Z.1 t2 Z.2.2.1).1.toList.Perm ((h, v) :: es.toList) ∧ Ris (tailTx ep Z.1 t2 Z.2.2.1).2.2.place.toList ∧ (tailTx ep Z.1 t2 Z.2.2.1).2.2.led = t.led := fun t2 r2 l2 => by
    obtain ⟨a, b, c⟩ := tail_facts ep Z.1 t2 Z.2.2.1 r2
    exact ⟨a.trans (p1.trans (List.perm_append_singleton _ _)), b, c.trans l2⟩
  by_cases c : Z.2.1.plain = true
  · rw [if_pos c]; exact z _ r1 l1
  · rw [if_neg c]; exact z _ r1 l1
theorem Pay.add {D : SD} {l : List Str} {k : Str} (u : Tok) (F : Pay P w D l) (hk : k ∉ l) (room : l.length + 1 < scanBound) : Pay P w (addTx (hashStr w k) (.str k u) D) (k :: l) where
  ok := add_ok u F.ok
  nd := List.nodup_cons.mpr ⟨hk, F.nd⟩
  few := room
  pm := ((add_facts (hashStr w k) (.str k u) D F.ris).1.map fun e => txOf e.2).trans (List.Perm.cons _ F.pm)
  ris := (add_facts _ _ _ F.ris).2.1
  led := F.led.imp id fun z => by rw [(add_facts _ _ _ F.ris).2.2]; exact z
/-- a new set's payload -/
def new0 (w : World) : SD := (#[], 0, .fresh 0 0 (!w.params.followText "set-order"))
theorem pay_new : Pay P w (new0 w) [] where
  ok := TxOk.nil rfl
  nd := List.nodup_nil
  few := by decide
  pm := List.Perm.refl _
  ris := List.Pairwise.nil
  led := by
    show _ ∨ (!w.params.followText "set-order") = true
    cases w.params.followText "set-order"
    · exact .inr rfl
    · exact .inl rfl
/-- at a stands the set of the texts l -/
def SetT (P : Program) (w : World) (h : Heap) (a : Addr) (l : List Str) : Prop := ∃ D, h.get? a = some (sObj "set" D) ∧ Pay P w D l
variable {h h' : Heap} {a : Addr} {l : List Str}
theorem SetT.at (R : SetT P w h a l) (k : ∀ o, h.get? a = some o → h'.get? a = some o) : SetT P w h' a l := by
  obtain ⟨D, e, p⟩ := R
  exact ⟨D, k _ e, p⟩
theorem SetT.ty {s : Shared} (R : SetT P w s.heap a l) : s.TypeIs (.ref a) "set" := by
  obtain ⟨D, e, p⟩ := R
  exact ⟨_, e, rfl⟩
end
section
variable {P : Program} {w : World} {A : Around} {E : Value → Shared → Prop} {s : Shared} {a : Addr} {l : List Str} {k : Str} {u : Tok}
/-- the add of a text with its hash, there or not -/
theorem put_hashed {Q : Bool → Shared → Prop} (R : SetT P w s.heap a l) (room : l.length + 1 < scanBound)
    (hQ : ∀ b h', Heap.SameBut a s.heap h' → SetT P w h' a (ins k l) → Q b { s with heap := h' }) : wpAny (model P w) A (setAddHashed a (.str k u) (hashStr w k)) Q E s := by
  obtain ⟨D, ho, F⟩ := R
  by_cases hk : k ∈ l
  · have hk' : ins k l = l := if_pos hk
    obtain ⟨es, ep, t⟩ := D
    obtain ⟨e0, he0, q0⟩ := (F.ok.mem k).mp hk
    have sz : es.size < scanBound := by
      rw [show es.size = l.length from F.ok.sz]
      exact F.few
    unfold setAddHashed setAddHashedIn
    refine wpAny_holding (wpAny_bind (wpAny_setState_of ho (t := t) (es := es) (ep := ep) rfl F.ok.fit ?_))
    dsimp only
    rw [byScan_of (knd := strKind P w) (x := Value.str k u) rfl sz F.ok.el, if_pos rfl]
    unfold setAddByScan
    refine wpAny_bind (wpAny_bind (wpAny_rule (wpAny_bind (wpAny_setScan_of (knd := strKind P w) (k := k) (is_str k u) ho (t := t) (es := es) (ep := ep) rfl F.ok.fit F.ok.el ?_))))
    cases hr : List.findIdx? (fun e => (strKind P w).is k e.2) es.toList with
    | none =>
      have c := List.findIdx?_eq_none_iff.mp hr e0 he0
      rw [q0] at c
      cases c
    | some j =>
      dsimp only
      exact wpAny_pure (wpAny_pure (hQ _ s.heap (Heap.SameBut.refl a _) ⟨_, ho, hk'.symm ▸ F⟩))
  · have hk' : ins k l = k :: l := if_neg hk
    refine add_x (l := l) ho F.ok hk room (hQ _ _ (Heap.SameBut.update _ _ _) ⟨_, get_upd _ ho rfl, ?_⟩)
    rw [hk']
    exact F.add u hk room
/-- x.add(k) -/
theorem put_call {Q : Value → Shared → Prop} (R : SetT P w s.heap a l) (room : l.length + 1 < scanBound)
    (hQ : ∀ h', Heap.SameBut a s.heap h' → SetT P w h' a (ins k l) → Q .none { s with heap := h', toks := s.toks + 1 }) : wpAny (model P w) A (call (.builtin "set.add") [.ref a, .str k u]) Q E s := by
  refine wpAny_call_entry PySem.F.slot_set_add R.ty PySem.F.entry_set_add ?_ (PySem.F.args_set_add_2 _ _)
  unfold Builtin.«set.add» Builtin.Frozenset.oneOther
  simp only [List.isEmpty_nil, bind_assoc]
  unfold Builtin.Frozenset.addrOf setAdd
  refine wpAny_bind (wpAny_pure ?_)
  try dsimp only
  refine wpAny_bind (wpAny_pure ?_)
  try dsimp only
  refine wpAny_bind (wpAny_holding (wpAny_bind ((strKind P w).pyHash (k := k) (is_str k u) ?_)))
  exact put_hashed (s := { s with toks := s.toks + 1 }) R room fun b h' sb r => wpAny_pure ⟨_, rfl, hQ h' sb r⟩
end
/-! ### as a tracked thing -/
/-- the set of the texts l at a -/
def SetTO (P : Program) (w : World) (a : Addr) (l : List Str) : HO := .ext fun h => SetT P w h a l
theorem setTO_new {P : Program} {w : World} {H : Hp} {h : Heap} {a : Addr} {l : List Str} (R : SetT P w h a l) : ObjOk P w H h a (SetTO P w a l) := by
  have ⟨D, ho, _⟩ := R
  exact ⟨R, ⟨_, ho⟩, fun h1 h2 p k => SetT.at p k⟩
section
variable {X : Cx} {pins : List (Addr × Obj)} {σ : L2.St} {H : Hp} {s : Shared}
theorem setTO_get {a : Addr} {l : List Str} (I : Inv X pins σ H s) (ha : H a = some (SetTO X.prog X.w a l)) : SetT X.prog X.w s.heap a l := (I.hok a _ ha).1
theorem put_ok {E : Value → Shared → Prop} {D : Addr} {l : List Str} {k : Str} {u : Tok} {Q : Value → Shared → Prop} (I : Inv X pins σ H s) (hD : H D = some (SetTO X.prog X.w D l)) (room : l.length + 1 < scanBound)
    (h : ∀ s', Inv X pins σ (upd H D (SetTO X.prog X.w D (ins k l))) s' → Q .none s') : wpAny (model X.prog X.w) X.A (call (.builtin "set.add") [.ref D, .str k u]) Q E s :=
  put_call (setTO_get I hD) room fun h' sb new => by
    have he : ∃ q, h'.get? D = some q := let ⟨_, e, _⟩ := new; ⟨_, e⟩
    exact h _ (I.write (e := D) (t' := s.toks + 1) (by rw [hD]; trivial) (.inl rfl) (fun b q hb hq => (sb.2 b hb).trans hq) he (setTO_new new))
end
end
end SX
set_option Elab.async false
set_option linter.all false
set_option maxRecDepth 100000
set_option maxHeartbeats 1000000
/-! sorted of a set of texts; set(texts); {e for ..} of texts -/
namespace SX
open PySem PySem.Spec PyProof.Rows L2 PySem.Froz
noncomputable section
section
variable {X : Cx}
/-- sorted(s), s a set of fewer than 64 texts -/
def rSortedTx (P : Program) (w : World) : List V → Hp → VK → Prop := fun vs H Q => ∃ (a : Addr) (l : List Str), vs = [V.ref a] ∧ H a = some (SetTO P w a l) ∧ l.length < 64 ∧
  ∀ ys p, ys.Perm l → sortedS ys = true → ys.Nodup → H p = none → Q (.ref p) (upd H p (.lst (ys.map V.str)))
theorem cr_sortedTx (hc : X.calm = true) : CallR X (.builtin "sorted") (rSortedTx X.prog X.w) := by
  intro pins s σ H vs us Q I r h
  obtain ⟨a, l, rfl, ha, h64, q⟩ := h
  obtain ⟨⟨es, ep, t⟩, ho, F⟩ := setTO_get I ha
  rw [Vals.ref1 r]
  have sz : es.size = l.length := F.ok.sz
  have szb : es.size < scanBound := by rw [sz]; exact F.few
  refine Calls.call_function_entry PyProof.Rows.kind_sorted PyProof.Rows.plain_sorted PyProof.Rows.entry_sorted (PyProof.Rows.args_sorted1 _) ?_
  unfold Builtin.«sorted»
  refine wpAny_bind (m := checkCount "sorted" 1 1 _) (wpAny_pure (wpAny_bind (collect_set (A := X.A.in1) (I.ok.hd hc) ⟨_, ho, rfl, rfl⟩ F.ok.fit szb F.ris F.led fun s1 out k1 hz g1 o1 pm => ?_)))
  have I1 : Inv X pins σ H s1 := I.call' (ch := []) o1 (Un.kept k1) (I.hok.kept k1) (by rw [g1]; exact I.bare) (fun _ z => nomatch z)
  have ol : out.length = l.length := by rw [pm.length_eq, List.length_map, Array.length_toList, sz]
  have S : StrsAre out (out.map txOf) := strs_of fun v hv => F.strs v (pm.mem_iff.mp hv)
  have pl : (out.map txOf).Perm l := by
    refine (pm.map txOf).trans ?_
    rw [List.map_map]
    exact F.pm
  have big : out.length < 64 := by rw [ol]; exact h64
  refine wpAny_bind (wpAny_newList ?_ (by rw [sizeLine_eq]; omega))
  have oL : (s1.heap.push (seqObj "list" out.toArray 0)).get? s1.heap.objs.size = some (seqObj "list" out.toArray 0) := Heap.get?_push_size _ rfl
  refine wpAny_bind (wpAny_holding (wpAny_call_entry PyProof.Rows.slot_list_sort ⟨_, oL, rfl⟩ PyProof.Rows.entry_list_sort
    (list_sort_treeK strKind_oneLt (s := { s1 with heap := s1.heap.push (seqObj "list" out.toArray 0) }) oL S.keysOf (fun v₁ v₂ rest e => keyKind_strs (by rw [← e]; exact S)) big fun st' hp hs => ⟨_, rfl, ?_⟩)
    (PyProof.Rows.args_list_sort _)))
  obtain ⟨ys, g1', g2, g3⟩ := sorted_out_str S hp hs
  obtain ⟨e', he'⟩ := PyProof.Rows.sortedHeap_at (vs := out) (out := (arrOf st').map (·.2)) oL
  have hlen : (ys.map V.str).length ≤ sizeLine := by
    rw [List.length_map, g2.length_eq, List.length_map, sizeLine_eq]; omega
  have py : ys.Perm l := g2.trans pl
  refine wpAny_pure ⟨_, rfl, .ref s1.heap.objs.size, upd H s1.heap.objs.size (.lst (ys.map V.str)), I1.laid (t' := s1.toks) (fun b u e => ?_) (Nat.le_refl _)
    (show ObjOk X.prog X.w _ _ _ (.lst (ys.map V.str)) from ⟨hlen, ((arrOf st').map (·.2)).toList, e', vals_of_strs g1', by rw [Array.toArray_toList]; exact he'⟩), rfl, q ys _ py g3 (py.nodup_iff.mpr F.nd) (I1.hok.fresh (Nat.le_refl _))⟩
  have hb : b < s1.heap.objs.size := Heap.lt_size e
  rw [PyProof.Rows.sortedHeap_old (Nat.ne_of_lt hb) (by rw [size_push']; exact Nat.lt_succ_of_lt hb)]
  exact Heap.get?_push_of_some _ e
end
/-! ### set(texts) -/
/-- the texts met, each once -/
def gather (xs : List Str) : List Str := xs.foldl (fun l k => ins k l) []
theorem gather_snoc (xs : List Str) (k : Str) : gather (xs ++ [k]) = ins k (gather xs) := by
  unfold gather
  rw [List.foldl_append]
  rfl
theorem mem_gather_go {x : Str} : ∀ (xs l : List Str), x ∈ xs.foldl (fun l k => ins k l) l ↔ x ∈ xs ∨ x ∈ l
  | [], l => by simp
  | k :: xs, l => by
    show x ∈ xs.foldl (fun l k => ins k l) (ins k l) ↔ _
    rw [mem_gather_go xs (ins k l), mem_ins, List.mem_cons]
    exact ⟨fun h => h.elim (fun z => .inl (.inr z)) fun h => h.elim (fun z => .inl (.inl z)) .inr, fun h => h.elim (fun h => h.elim (fun z => .inr (.inl z)) .inl) fun z => .inr (.inr z)⟩
theorem mem_gather {x : Str} {xs : List Str} : x ∈ gather xs ↔ x ∈ xs := by
  unfold gather
  rw [mem_gather_go]
  simp
theorem len_gather_go : ∀ (xs l : List Str), (xs.foldl (fun l k => ins k l) l).length ≤ l.length + xs.length
  | [], l => Nat.le_refl _
  | k :: xs, l => by
    have h1 := len_gather_go xs (ins k l)
    have h2 := len_ins k l
    show (xs.foldl (fun l k => ins k l) (ins k l)).length ≤ l.length + (xs.length + 1)
    omega
theorem len_gather (xs : List Str) : (gather xs).length ≤ xs.length := by
  have := len_gather_go xs []
  simpa [gather] using this
theorem nodup_gather_go : ∀ (xs l : List Str), l.Nodup → (xs.foldl (fun l k => ins k l) l).Nodup
  | [], _, h => h
  | k :: xs, l, h => nodup_gather_go xs (ins k l) (nodup_ins h)
theorem nodup_gather (xs : List Str) : (gather xs).Nodup := nodup_gather_go xs [] List.nodup_nil
/-- all that stood stands, and the rest of the machine is as it was -/
structure Old (s0 s : Shared) : Prop where
  heap : ∀ b o, s0.heap.get? b = some o → s.heap.get? b = some o
  gens : s.gens = s0.gens
  drawn : s.drawn = s0.drawn
  os : s.os = s0.os
section
variable {P : Program} {w : World} {A : Around} {E : Value → Shared → Prop} {s : Shared}
theorem update_loop {I S : Addr} {fp wr : List Addr} {G : Array GenState → Array GenState → Prop} {n : Nat} {Pv : Nat → Value → Prop} {St : Nat → Shared → Prop} {R : Result → Shared → Prop} (W : WalksS P w A.in1 I fp wr G n Pv St) (hG : ∀ x y, G x y → y = x) (hS : S ∉ fp) {xs : List Str} (hn : n = xs.length) (hb : n < scanBound)
    (hv : ∀ i v, Pv i v → ∃ x u, xs[i]? = some x ∧ v = Value.str x u) {s0 : Shared} (f1 : s0.heap.get? S = none) (f2 : ∀ b ∈ wr, s0.heap.get? b = none) (hR : ∀ s', Old s0 s' → SetT P w s'.heap S (gather xs) → R (.ok (.ret .none)) s') :
    ∀ (m i : Nat) (s : Shared), n - i = m → i ≤ n → St i s → Old s0 s → SetT P w s.heap S (gather (xs.take i)) → codeAny (model P w) A (.builtin "set.update.loop" ⟨[.ref S, .ref I], []⟩) R s := by
  have old : ∀ {s s' : Shared}, Moved wr G s s' → Old s0 s → Old s0 s' := fun m o => ⟨fun b u e => m.heap b u (fun z => by rw [f2 b z] at e; cases e) (o.heap b u e), (hG _ _ m.gens).trans o.gens, m.drawn.trans o.drawn, m.os.trans o.os⟩
  have stays : ∀ {s s' : Shared} {l : List Str}, Moved wr G s s' → SetT P w s.heap S l → SetT P w s'.heap S l := fun m r => r.at fun o e => m.heap S o (fun z => hS (W.sub _ z)) e
  intro m
  induction m with
  | zero =>
    intro i s hm hi st o r
    have e : i = n := by omega
    rw [e] at st r
    refine codeAny_builtin PyProof.Rows.F.entry_set_update_loop ?_
    rw [Around.under_plainId PyProof.Rows.F.plain_set_update_loop _]
    show wpAny _ A.in1 (pyNext (.ref I) >>= _) _ _ s
    refine wpAny_bind (W.done s _ _ st fun s' mv => wpAny_pure (hR s' (old mv o) ?_))
    rw [hn, List.take_length] at r
    exact stays mv r
  | succ m ih =>
    intro i s hm hi st o r
    have lt : i < n := by omega
    refine codeAny_builtin PyProof.Rows.F.entry_set_update_loop ?_
    rw [Around.under_plainId PyProof.Rows.F.plain_set_update_loop _]
    show wpAny _ A.in1 (pyNext (.ref I) >>= _) _ _ s
    refine wpAny_bind (W.item i s _ _ lt st fun v s' hP st' mv => ?_)
    obtain ⟨x, u, hx, rfl⟩ := hv i v hP
    have r' := stays mv r
    have o' := old mv o
    have tk : xs.take (i + 1) = xs.take i ++ [x] := take_next hx
    have room : (gather (xs.take i)).length + 1 < scanBound + 1 := by
      have h1 := len_gather (xs.take i)
      have h2 : (xs.take i).length ≤ i := by rw [List.length_take]; omega
      omega
    show wpAny _ A.in1 (holding [Value.str x u] (setAdd S (.str x u)) >>= _) _ _ s'
    refine wpAny_bind (wpAny_holding ?_)
    unfold setAdd
    refine wpAny_holding (wpAny_bind ((strKind P w).pyHash (k := x) (is_str x u) (put_hashed (s := { s' with toks := s'.toks + 1 }) r' ?_ fun b h' sb r2 => ?_)))
    · have h1 := len_gather (xs.take i)
      have h2 : (xs.take i).length ≤ i := by rw [List.length_take]; omega
      omega
    · rw [← gather_snoc, ← tk] at r2
      refine wpAny_pure ⟨plainId_quiet PyProof.Rows.F.plain_set_update_loop _, ih (i + 1) _ (by omega) lt (W.frame _ s' _ _ st' (Nat.le_add_right _ _) fun b hb o e => ?_) ⟨fun b u e => ?_, o'.gens, o'.drawn, o'.os⟩ r2⟩
      · exact (sb.2 b (fun z => hS (z ▸ hb))).trans e
      · exact (sb.2 b (fun z => by rw [z, f1] at e; cases e)).trans (o'.heap b u e)
end
abbrev sNew (w : World) : Obj := sObj "set" (new0 w)
theorem set_new (h : Heap) {P : Program} {w : World} {h' : Heap} (k : ∀ b o, (h.push (sNew w)).get? b = some o → h'.get? b = some o) : SetT P w h' h.objs.size [] := ⟨_, k _ _ (Heap.get?_push_size _ rfl), pay_new⟩
section
variable {P : Program} {w : World} {A : Around} {E : Value → Shared → Prop} {s : Shared}
theorem none_up {h : Heap} {b : Addr} (z : h.objs.size ≤ b) : h.get? b = none := by
  cases q : h.get? b with
  | none => rfl
  | some o => exact absurd (Nat.lt_of_lt_of_le (Heap.lt_size q) z) (Nat.lt_irrefl _)
theorem strs_get {xs : List Str} : ∀ {us : List Value}, StrsAre us xs → ∀ (i : Nat) (v : Value), us[i]? = some v → ∃ x u, xs[i]? = some x ∧ v = Value.str x u := by
  intro us h
  induction h with
  | nil => intro i v e; simp at e
  | cons y t r ih =>
    intro i v e
    cases i with
    | zero => exact ⟨y, t, rfl, (Option.some.inj e).symm⟩
    | succ i => exact ih i v e
theorem strs_len {us : List Value} {xs : List Str} (h : StrsAre us xs) : us.length = xs.length := by
  induction h with
  | nil => rfl
  | cons y t r ih => simp [ih]
set_option maxHeartbeats 4000000 in
theorem call_setTx {l : Addr} {items : Array Value} {xs : List Str} {Q : Value → Shared → Prop} (hh : A.handled = none) (hl : s.heap.IsList l items) (hx : StrsAre items.toList xs) (hb : xs.length < scanBound)
    (hQ : ∀ s', Old s s' → SetT P w s'.heap s.heap.objs.size (gather xs) → Q (.ref s.heap.objs.size) s') : wpAny (model P w) A (call (.type "set") [.ref l]) Q E s := by
  have isz : items.size = xs.length := by rw [← Array.length_toList]; exact strs_len hx
  obtain ⟨c, tl, hmro⟩ := PySem.F.called_set.mro
  have hm := PySem.F.called_set.made
  have hs := PySem.F.called_set.sub
  refine wpAny_call (codeAny_of_tree ?_)
  show wpAny _ _ (callAny (.type "set") _) _ _ _
  refine wpAny_pure ⟨Code.quiet_builtin _ (by decide +kernel), codeAny_builtin PySem.F.entry_type_call ?_⟩
  rw [Around.under_plain (weight_type_call_type "set" [.ref l] []) rfl]
  have t1 := PySem.F.called_set.notType
  have t2 := PySem.F.called_set.canCreate
  have ct := PySem.F.typeCall_set_1 (.ref l)
  repeat (any_goals (first | assumption | wp_step))
  refine codeAny_mono (code_set_led1 (.ref l) (E := E) (Q₁ := fun obj s₁ => obj = .ref s.heap.objs.size ∧ s₁ = { s with heap := s.heap.push (sNew w) }) ⟨rfl, rfl⟩) fun r s₁ hr => ?_
  cases r with
  | error e => exact hr
  | ok fl => cases fl with
    | ret obj =>
      obtain ⟨rfl, rfl⟩ := hr
      have ob : (s.heap.push (sNew w)).get? s.heap.objs.size = some (sNew w) := Heap.get?_push_size _ rfl
      have ty : Shared.TypeIs { s with heap := s.heap.push (sNew w) } (.ref s.heap.objs.size) "set" := ⟨_, ob, rfl⟩
      have li := PySem.F.called_set.init.lookup
      have bi := PySem.F.called_set.init.bind (.ref s.heap.objs.size)
      repeat (any_goals (first | assumption | wp_step))
      refine codeAny_mono (codeAny_call_builtin (R := wants (fun r s₂ => r = .none ∧ Old s s₂ ∧ SetT P w s₂.heap s.heap.objs.size (gather xs)) E) PySem.F.called_set.init.plain PySem.F.entry_set_init (check_set_init_1 ty ?_)) fun r₂ s₂ hr₂ => ?_
      · obtain ⟨⟨oc, od, odata, osl⟩, hol, hcl, nl, hdl⟩ := hl
        simp only at hcl hdl
        subst hcl hdl
        have hol' : (s.heap.push (sNew w)).get? l = some { cls := .type "list", dict := od, data := .seq items nl, slots := osl } := Heap.get?_push_of_some _ hol
        have s1 := PySem.F.sub_list_set
        have s2 := PySem.F.sub_list_frozenset
        have s3 : (Value.type "list" == Value.type "dict") = false := by decide
        have hl1 : (s.heap.push (sNew w)).IsList l items := ⟨_, hol', rfl, nl, rfl⟩
        unfold Builtin.«set.__init__» noKeywords Builtin.Frozenset.updateFrom
        generalize hPI : pyIter = PI
        wp_walk
        subst hPI
        refine wpAny_pyIter_list hl1 (wpAny_bind (wpAny_runValue ?_))
        have lt : l < s.heap.objs.size := Heap.lt_size hol
        have z1 : (s.heap.push (sNew w)).objs.size = s.heap.objs.size + 1 := Heap.size_push ..
        have ne1 : l ≠ (s.heap.push (sNew w)).objs.size := by rw [z1]; exact Nat.ne_of_lt (Nat.lt_succ_of_lt lt)
        refine update_loop ((Walks.list (by simp [hh]) _ l ne1 items).toS) (fun _ _ e => e) (S := s.heap.objs.size) ?_ (xs := xs) isz (by omega) (fun i v hv => strs_get hx i v (by rw [Array.getElem?_toList]; exact hv))
          (s0 := s) (none_up (Nat.le_refl _)) (fun b hb => none_up ?_) (fun s' o r => ?_) (items.size - 0) 0 _ rfl (Nat.zero_le _) ⟨⟨_, Heap.get?_push_size _ rfl, rfl, rfl⟩, hl1.push _⟩
          ⟨fun b o e => Heap.get?_push_of_some _ (Heap.get?_push_of_some _ e), rfl, rfl, rfl⟩ (set_new s.heap fun b o e => Heap.get?_push_of_some _ e)
        · simp only [List.mem_cons, List.mem_singleton, List.not_mem_nil, or_false, not_or]
          exact ⟨by rw [z1]; exact Nat.ne_of_lt (Nat.lt_succ_self _), Nat.ne_of_gt lt⟩
        · rw [List.mem_singleton.mp hb]; omega
        · refine wpAny_pure ?_
          show wpAny _ _ (ret Value.none) _ _ _
          exact wpAny_pure ⟨rfl, o, r⟩
      · cases r₂ with
        | error e => exact hr₂
        | ok fl₂ => cases fl₂ with
          | ret r =>
            obtain ⟨rfl, o, hr⟩ := hr₂
            repeat (any_goals (first | assumption | wp_step))
            exact hQ _ o hr
          | _ => exact hr₂.elim
    | _ => exact hr.elim
end
section
variable {X : Cx}
/-- set(xs), xs a list of texts -/
def rSetOfTx (K : PySem.W.Frag) (P : Program) (w : World) : List V → Hp → VK → Prop := fun vs H Q => ∃ (a : Addr) (xs : List Str), vs = [V.ref a] ∧ SqL K H a (xs.map V.str) ∧ xs.length < scanBound ∧ ∀ p, H p = none → Q (.ref p) (upd H p (SetTO P w p (gather xs)))
theorem cr_setOfTx (hc : X.calm = true) : CallR X (.type "set") (rSetOfTx X.K X.prog X.w) := by
  intro pins s σ H vs us Q I r h
  obtain ⟨a, xs, rfl, hs, hb, q⟩ := h
  obtain ⟨its, rv, hl, hz⟩ := I.list hs
  rw [Vals.ref1 r]
  refine call_setTx (I.ok.hd hc) hl.isList (by simpa using rv.strs) hb fun s' o new => ?_
  have hn : H s.heap.objs.size = none := I.hok.fresh (Nat.le_refl _)
  exact ⟨.ref _, _, I.call' (ch := []) o.os (Un.laid o.heap (Nat.le_refl _) hn) (I.hok.laid o.heap (Nat.le_refl _) (setTO_new new)) (by rw [o.gens]; exact I.bare) (fun _ z => nomatch z), rfl, q _ hn⟩
end
end
end SX
set_option Elab.async false
set_option linter.all false
set_option maxRecDepth 100000
set_option maxHeartbeats 2000000
/-! {e for target in walked if test}, e a text -/
namespace SX
open PySem PySem.Spec PyProof.Rows L2 PySem.Froz PpSet
noncomputable section
/-- behind a turn's test: the text goes into the set at D -/
def tPut (P : Program) (w : World) (D : Addr) (te : TE) (σ : L2.St) (Nx : Hp → Prop) : Bool → Hp → Prop := fun b H =>
  if b = true then te σ H fun y H' => ∃ k l, y = .str k ∧ H' D = some (SetTO P w D l) ∧ l.length + 1 < scanBound ∧ Nx (upd H' D (SetTO P w D (ins k l))) else Nx H
def tSetc (P : Program) (w : World) (wi : TI) (g : TG) (tt : TT) (te : TE) (vs : List Nat) : TE := fun σ H Q => wi σ H fun J H1 => ∀ D, H1 D = none → ∃ W : Nat → Nat → Hp → Prop, (∃ m, W 0 m (upd H1 D (SetTO P w D []))) ∧ ∀ i m H, W i m H →
  (J.stop i H ∧ Q (.ref D) H) ∨ (J.go i H ∧ ∃ Nx : Hp → Prop, (∀ H', Nx H' → ∃ m', m' < m ∧ W (i + 1) m' H') ∧ ∀ x H', J.yld i H x H' → g x (wipe σ vs) H' fun σ2 H2 => wipe σ2 vs = wipe σ vs ∧ tt σ2 H2 (tPut P w D te σ2 Nx))
section
variable {X : Cx}
theorem pe_setc {elt tg iter : Expr} {ifs : List Expr} {scope : Scope} {own : List (PySem.Str × Nat)} {pos : Pos} {wi : TI} {g : TG} {tt : TT} {te : TE} (hc : X.calm = true) (hN : X.N.Nodup) (hi : PI X tg iter wi) (ok : BlkOk X.N X.env.scope scope own)
    (hg : ∀ (s : Shared) (H : Hp) (C : Addr) (cl : List (PySem.Str × Addr)) (fp : List Addr), PG (X.blk s H scope (compEnvC scope cl C X.env) fp) tg g) (ht : ∀ (s : Shared) (H : Hp) (C : Addr) (cl : List (PySem.Str × Addr)) (fp : List Addr), PTs (X.blk s H scope (compEnvC scope cl C X.env) fp) ifs tt)
    (he : ∀ (s : Shared) (H : Hp) (C : Addr) (cl : List (PySem.Str × Addr)) (fp : List Addr), PE (X.blk s H scope (compEnvC scope cl C X.env) fp) elt te) (hs : ∀ x, foldedSetIterable iter X.env x = pure x := by intro _; rfl) :
    PE X (.SetComp elt [⟨tg, iter, ifs, 0⟩] scope pos) (tSetc X.prog X.w wi g tt te (own.map (·.2))) := by
  refine ⟨fun pins s σ H Q I h => ?_⟩
  rw [eval_SetComp]
  refine wpAny_comprehension_free (use := none) rfl hs (closure_ok fun y hy e => (ok.free y hy e).elim (fun k => I.ok.has _ (.inl k)) fun k => I.ok.has _ (.inr k)) ok.kind (fun y hy e => by rw [ok.uniq y hy, e])
    (thn (hi.run pins s σ H _ I h) fun xv s1 hx => thn hx fun itv s2 ⟨it, fp, tn, J, H2, e, I2, T, st2, f2, q⟩ => ?_)
  subst e
  refine newSet_ok (newEnv_comp ?_)
  generalize hD : s2.heap.objs.size = D
  have nD : H2 D = none := I2.hok.fresh (Nat.le_of_eq hD)
  obtain ⟨W, ⟨m0, w0⟩, turn⟩ := q D nD
  generalize hs3 : ({ s2 with heap := s2.heap.push { cls := .type "set", dict := none, data := .set #[] 0 (.fresh 0 0 (!X.w.params.followText "set-order")) } } : Shared) = s3
  have h3 : s3.heap = s2.heap.push (sNew X.w) := by rw [← hs3]; rfl
  have I3 : Inv X pins σ (upd H2 D (SetTO X.prog X.w D [])) s3 := by
    rw [← hs3]
    exact I2.laid (t' := s2.toks) (fun b o e => Heap.get?_push_of_some _ e) (Nat.le_of_eq hD) (hD ▸ setTO_new (set_new s2.heap fun b o e => e))
  have f3 : ∀ b ∈ fp, FpOk X pins (upd H2 D (SetTO X.prog X.w D [])) b ∧ b < s3.heap.objs.size := fun b hb => by
    obtain ⟨o, e, _⟩ := T.obj _ _ st2 b hb
    have lt := Heap.lt_size e
    refine ⟨⟨?_, (f2 b hb).2⟩, by rw [h3, Heap.size_push]; exact Nat.lt_succ_of_lt lt⟩
    rw [upd_ne (Nat.ne_of_lt (hD ▸ lt))]
    exact (f2 b hb).1
  have st3 : tn 0 s3.heap := T.keep _ _ _ st2 fun b _ o e => by rw [h3]; exact Heap.get?_push_of_some _ e
  have I4 := block_start I3 ok hN f3
  show codeAny _ _ (.compStart (.SetComp elt [⟨tg, iter, ifs, 0⟩] scope pos) 0 (.ref it) (.ref D) (compEnvC scope (cellsFrom (s3.heap.objs.size + 1) scope.names (cloFrom X.env.cells scope.names [])) s3.heap.objs.size X.env)) (compPost (model X.prog X.w) X.A X.xe none (EP X pins σ Q) (.ref D) s3.heap.objs.size) { s3 with heap := pushCells (s3.heap.push { cls := .type "dict", data := .dict #[] }) scope.names }
  generalize hC : s3.heap.objs.size = C at I4 ⊢
  generalize hcl : cellsFrom (C + 1) scope.names (cloFrom X.env.cells scope.names []) = cl at I4 ⊢
  generalize hH3 : upd H2 D (SetTO X.prog X.w D []) = H3 at I3 I4 w0 f3
  have pg := hg s3 H3 C cl fp
  have pt := ht s3 H3 C cl fp
  have pe := he s3 H3 C cl fp
  generalize hce : compEnvC scope cl C X.env = ce at I4 pg pt pe ⊢
  have cL : ce.locals = C := by rw [← hce]; rfl
  generalize hs4 : ({ s3 with heap := pushCells (s3.heap.push { cls := .type "dict", data := .dict #[] }) scope.names } : Shared) = s4 at I4 ⊢
  have st4 : tn 0 s4.heap := T.keep _ _ _ st3 fun b _ o e => by rw [← hs4]; exact pushCells_keeps _ _ _ _ (Heap.get?_push_of_some _ e)
  have stat : ∀ {σ' : L2.St} {H' : Hp} {s' : Shared}, Inv (X.blk s3 H3 scope ce fp) [] σ' H' s' → (∀ b ∈ fp, H' b = none) → ∀ b ∈ fp, FpOk (X.blk s3 H3 scope ce fp) [] H' b := fun I' hn b hb =>
    ⟨hn b hb, (I'.ok.exf b hb).1, I'.ok.exfs b hb, .inl hb, fun x c e => (I'.ok.exf b hb).2 x c e, fun p hp => absurd (show p ∈ ([] : List (Addr × Obj)) ++ [] from hp) (by simp)⟩
  have loop : codeAny (model X.prog X.w) X.A (.compLoop (.SetComp elt [⟨tg, iter, ifs, 0⟩] scope pos) 0 (.ref it) (.ref D) ce) (compPost (model X.prog X.w) X.A X.xe none (EP X pins σ Q) (.ref D) C) s4 := by
    refine compLoopS_any (fun n s' => ∃ i H', Inv (X.blk s3 H3 scope ce fp) [] (wipe σ (own.map (·.2))) H' s' ∧ tn i s'.heap ∧ (∀ b ∈ fp, H' b = none) ∧ W i n H') ?_ m0 ⟨0, H3, I4, st4, fun b hb => (f3 b hb).1.1, w0⟩
    rintro n s5 ⟨i, H5, I5, st5, n5, w5⟩
    rcases turn i n H5 w5 with ⟨stop, qq⟩ | ⟨go, Nx, hNx, step⟩
    · refine thnF (T.done (X.blk s3 H3 scope ce fp) rfl rfl rfl hc i [] s5 _ H5 (fun _ _ => False) I5 (stat I5 n5) st5 stop) fun r s6 ⟨hr, I6⟩ => ?_
      subst hr
      have I7 : Inv X pins σ H5 s6 := I3.call' (ch := fp) I6.os I6.base I6.hok I6.bare fun b hb => ⟨(f3 b hb).1.2.2.2.1, (f3 b hb).1.2.1, (f3 b hb).1.2.2.2.2.1, (f3 b hb).1.2.2.2.2.2⟩
      have nC : H5 s3.heap.objs.size = none := by rw [hC, ← cL]; exact I6.free
      obtain ⟨m, hn, _⟩ := I6.loc
      have hn : s6.heap.Ns ce.locals m := hn
      rw [cL] at hn
      obtain ⟨f0, f1, _, f3', f4, f5⟩ := I3.fpOk (Nat.le_refl _) nC
      refine ⟨m, hn, fun h'' sb => ⟨.ref D, H5, I7.turned (t' := s6.toks) (fun b o hb e => (sb.2 b hb).trans e) (by rw [← hC]; exact f0) (by rw [← hC]; exact f1) (by rw [← hC]; exact f3') (by rw [← hC]; exact f4) (by rw [← hC]; exact f5), rfl, qq⟩⟩
    · refine thnF (T.item (X.blk s3 H3 scope ce fp) rfl rfl rfl hc i [] s5 _ H5 (fun _ _ => False) I5 (stat I5 n5) st5 go) fun r s6 ⟨u, hr, h6⟩ => ?_
      subst hr
      refine thnF h6 fun _ s7 ⟨x, H7, I7, r7, y7, st7, n7⟩ => ?_
      have I7' := I7.pinned (stat I7 n7) (T.obj _ _ st7)
      refine thnF (pg.run _ s7 _ H7 x u _ I7' r7 (step x H7 y7)) fun _ s8 ⟨σ8, H8, I8, hw8, q8⟩ => ?_
      refine thnF (pt.run _ s8 σ8 H8 _ I8 q8) fun b s9 ⟨H9, I9, q9⟩ => ?_
      have fin : ∀ {s' : Shared} {H' : Hp}, Inv (X.blk s3 H3 scope ce fp) ([] ++ pinsAt fp s7.heap) σ8 H' s' → Nx H' → ∃ m, m < n ∧ ∃ i H', Inv (X.blk s3 H3 scope ce fp) [] (wipe σ (own.map (·.2))) H' s' ∧ tn i s'.heap ∧ (∀ b ∈ fp, H' b = none) ∧ W i m H' := fun {s' H'} I' nx => by
        obtain ⟨m', hm, w'⟩ := hNx H' nx
        have pin : ∀ b ∈ fp, ∀ o, s7.heap.get? b = some o → s'.heap.get? b = some o ∧ H' b = none := fun b hb o e =>
          let z := I'.pin (b, o) (List.mem_append_right _ (List.mem_append_right _ (mem_pinsAt hb e)))
          ⟨z.1, z.2.1⟩
        refine ⟨m', hm, i + 1, H', (I'.unpinned (pins := [])).weak (by rw [← hw8, wipe_length]) (fun j v e => (wipe_some (hw8 ▸ e)).1), T.keep _ _ _ st7 fun b hb o e => (pin b hb o e).1, fun b hb => ?_, w'⟩
        obtain ⟨o, e, _⟩ := T.obj _ _ st7 b hb
        exact (pin b hb o e).2
      unfold tPut at q9
      cases b with
      | false =>
        simp only [Bool.false_eq_true, if_false] at q9 ⊢
        exact fin I9 q9
      | true =>
        simp only [if_true] at q9 ⊢
        refine thnF (pe.run _ s9 σ8 H9 _ I9 q9) fun z s10 ⟨yv, H10, I10, r10, k, l, ey, hl, room, nx⟩ => ?_
        subst ey
        obtain ⟨tk, rfl⟩ := r10
        exact put_ok (X := X.blk s3 H3 scope ce fp) I10 hl room fun s11 I11 => fin I11 nx
  exact codeAny_compStart_set loop (T.self X.A 0 _ _ _ st4 loop)
end
end
end SX
set_option Elab.async false
set_option linter.all false
set_option maxRecDepth 100000
set_option maxHeartbeats 1000000
/-! Program.__init__ -/
namespace FR
open PySem PySem.Spec PyProof.Rows L2

section
variable {P : Program} {w : World} {K : PySem.W.Frag} {mg : Str → Option Value} {base : Heap}
/-- instances of an own class, as isinstance sees them -/
structure OwnTy (K : PySem.W.Frag) (C : Addr) : Prop where
  cl : Cls K C
  ha : PySem.W.findIn K (.ref C) "__class__" = some (some (.builtin "object.__class__"))
  hn : PySem.W.specialIn K (.builtin "object.__class__") "__get__" = some (some (.builtin "getset_descriptor.__get__"))
  htk : PySem.W.takesIn K (.builtin "object.__class__") = some true
  hm : PySem.W.mroIn K C (.type "object") = some true
theorem OwnTy.ins {K : PySem.W.Frag} {C : Addr} (o : OwnTy K C) {H : Hp} {a dx : Addr} {fs : List (Str × V)} (e : H a = some (.ins C dx fs)) : TyOf K H (.ref a) (.ref C) := TyOf.ins e o.cl o.ha o.hn o.htk o.hm
/-- the dict of bodies in the instance at x is new -/
def FreshB (H H' : Hp) (x : Addr) : Prop := ∃ d C dx r, H' x = some (.ins C dx (("_bodies", .ref d) :: r)) ∧ H d = none
theorem FreshB.back {H H1 H' : Hp} {x : Addr} (h : FreshB H1 H' x) (s : Same H H1) : FreshB H H' x := by
  obtain ⟨d, C, dx, r, e, n⟩ := h
  refine ⟨d, C, dx, r, e, ?_⟩
  cases c : H d with
  | none => rfl
  | some o => rw [s _ _ c] at n; cases n
/-- Program(..): the bodies come in a Given, or as keywords -/
def spPi (K : PySem.W.Frag) (C CG : Addr) : Sp := fun vs H Q _ => ∃ (x d dx : Addr) (kvs : List (Key × V)) (p : Pg), vs = [.ref x, .ref d] ∧ H x = some (.ins C dx []) ∧
  ((∃ g dg t, H d = some (.dK [(.inr "_given", .ref g)]) ∧ H g = some (.ins CG dg [("table", .ref t)]) ∧ H t = some (.dK kvs)) ∨ (H d = some (.dK kvs) ∧ valV kvs (.inr "_given") = none)) ∧ PrgK H kvs p ∧ Prg p ∧ (names p).Nodup ∧
  ∀ q H', q.Perm p → sortedS (names q) = true → (∀ a o, a ≠ x → H a = some o → H' a = some o) → IsPg K C H' x q → FreshB H H' x → Q .non H'
theorem pi_read {k : Nat} {f fp dT : Addr} {fdp : FuncData} (GP : FnOk P w K mg base CX0 6 fp fdp ["body", "path"] (spPls K 5)) (mP : mg "placed_statements" = some (.ref fp)) (kP : PySem.W.keepIn K (.ref fp) = true) {ds : List Value} (bP : Binds K fdp ["body", "path"] ds) (vP : Vals [V.ref dT] ds) (hT : ∀ H, SqT K H dT []) {C CG : Addr} (cl : Cls K C) (nb : NoAttr K C "_bodies") (ns : NoAttr K C "_size") (ne : NoAttr K C "_events") (nc : NoAttr K C "_choices") (clG : Cls K CG) (nG : NoAttr K CG "table") (oG : OwnTy K CG) (kNo : PySem.W.kitOne K (.type "NoneType") (.ref CG) = some false) (kYes : PySem.W.kitOne K (.ref CG) (.ref CG) = some true) {cdv : Value} {A : Around} {outer : List Env} {s : Shared} {H : Hp} {E : XK} {vs : List V} {Q : VK} (T : TxtP mg) (mG : mg "Given" = some (.ref CG)) (gA : Glo P w K mg base "_are_program" 12 ["bodies"] spAp) (hr : Room 12 (A.deeper (envOfC "Program.__init__" (defScope sPi) s.heap.objs.size f cdv)))
    (h : spPi K C CG vs H Q E) : ∃ t, PSs (cxOf CX0 P w K mg base NPi "Program.__init__" (defScope sPi) f cdv A outer s H E).nox (defBody sPi) t ∧ t { nx := fun _ H' => Q .non H', rt := Q } (start NPi vs) H := by
  have hu := hu_of hr
  obtain ⟨x, d, dx, kvs, p, rfl, hx, hd, hk, hp, hn, q⟩ := h
  obtain ⟨tR, hR, qR⟩ : ∃ t, PSs (cxOf CX0 P w K mg base NPi "Program.__init__" (defScope sPi) f cdv A outer s H E).nox ((defBody sPi).drop 2) t ∧ ∀ (gv : V) (tt : Addr), H tt = some (.dK kvs) → t { nx := fun _ H' => Q .non H', rt := Q } [some (.ref x), some (.ref d), some gv, some (.ref tt), none, none, none, none, none, none] H := by
    refine ⟨_, (pss_cons (ps_if (pt_not (pt_val (pe_call gA.G (hr.mono (by decide)) (by rfl) gA.m gA.k gA.b .nil pass0 (pa_cons (pv 3) pa_nil)))) pss_never pss_nil)
      (pss_cons (ps_fld (pv 0) (pe_dc (X := (cxOf CX0 P w K mg base NPi "Program.__init__" (defScope sPi) f cdv A outer s H E).nox) (own := [("name", 5)]) (g := (gName 5)) (tt := tYes) rfl scPi.nd (pi_list (pe_callB (call_sortedD rfl) (by rfl) T.sorted (by decide +kernel) (pa_cons (pv 3) pa_nil))) (blkOk_by (N := NPi) (sc := defScope sPi) (by decide +kernel)) (fun _ _ _ _ _ => (pg_name (i := 5) scPi.nd rfl (.inl rfl))) (fun _ _ _ _ _ => pts_nil) (fun _ _ _ _ _ => (pv 5)) (fun _ _ _ _ _ => (pe_dget hu (pv 3) (pv 5) (fun _ _ => rfl)))) rfl)
      (pss_cons (ps_lock (ps_setLc2 (i := 4) (X := (cxOf CX0 P w K mg base NPi "Program.__init__" (defScope sPi) f cdv A outer s H E).nox) (own := [("name", 5), ("body", 6), ("path", 7), ("statement", 8)]) (vs1 := [7, 8]) (g := (gTup K 2 (gCons (gName 5) (gCons (gName 6) gNil)))) (tt := tYes) (g1 := (gTup K 2 (gCons (gName 7) (gCons (gName 8) gNil)))) (tt1 := tYes) rfl scPi.nd rfl rfl (by rfl) (pi_items (pe_fld (pv 0) rfl)) (blkOk_by (N := NPi) (sc := defScope sPi) (by decide +kernel)) (by decide) (fun _ _ _ _ _ => (pg_tupK (K := K) rfl rfl (pgs_cons (pg_name (i := 5) scPi.nd rfl (.inl rfl)) (pgs_cons (pg_name (i := 6) scPi.nd rfl (.inl rfl)) pgs_nil)))) (fun _ _ _ _ _ => pts_nil) (fun _ _ _ _ _ => (pi_listK (K := K) rfl (pe_call GP (hr.mono (by decide)) (by rfl) mP kP bP vP pass0 (pa_cons (pv 6) pa_nil)))) (fun _ _ _ _ _ => (pg_tupK (K := K) rfl rfl (pgs_cons (pg_name (i := 7) scPi.nd rfl (.inl rfl)) (pgs_cons (pg_name (i := 8) scPi.nd rfl (.inl rfl)) pgs_nil)))) (fun _ _ _ _ _ => pts_nil) (fun _ _ _ _ _ => (pe_tup (pa_cons (pv 5) (pa_cons (pv 7) (pa_cons (pv 8) pa_nil)))))))
      (pss_cons (ps_fld (pv 0) (pe_callB call_len_seq (by rfl) T.len PySem.boot_len (pa_cons (pv 4) pa_nil)) rfl)
      (pss_cons (ps_fld (pv 0) (pe_callTy (call_tuple_ofK (K := K) rfl) (by rfl) T.tup (by decide +kernel) (pa_cons (pe_callB (SX.cr_sortedTx rfl) (by rfl) T.sorted (by decide +kernel) (pa_cons (SX.pe_setc (X := (cxOf CX0 P w K mg base NPi "Program.__init__" (defScope sPi) f cdv A outer s H E).nox) (own := [("_", 9), ("statement", 8)]) (g := (gTup K 3 (gCons (gName 9) (gCons (gName 9) (gCons (gName 8) gNil))))) rfl scPi.nd (pi_listK (K := K) rfl (pv 4)) (blkOk_by (N := NPi) (sc := defScope sPi) (by decide +kernel)) (fun _ _ _ _ _ => (pg_tupK (K := K) rfl rfl (pgs_cons (pg_name (i := 9) scPi.nd rfl (.inl rfl)) (pgs_cons (pg_name (i := 9) scPi.nd rfl (.inl rfl)) (pgs_cons (pg_name (i := 8) scPi.nd rfl (.inl rfl)) pgs_nil))))) (fun _ _ _ _ _ => (pts_one (pt_cmpR op_eq (pe_ix (ix_tupK (K := K) rfl) (pv 8) pe_int (fun _ _ => rfl)) pe_str (nomark _)))) (fun _ _ _ _ _ => (pe_ix (ix_tupK (K := K) rfl) (pv 8) pe_int (fun _ _ => rfl)))) pa_nil)) pa_nil)) rfl)
      (pss_one (ps_fld (pv 0) (pe_callTy (call_tuple_ofK (K := K) rfl) (by rfl) T.tup (by decide +kernel) (pa_cons (pe_lc (X := (cxOf CX0 P w K mg base NPi "Program.__init__" (defScope sPi) f cdv A outer s H E).nox) (own := [("name", 5), ("path", 7), ("statement", 8)]) (g := (gTup K 3 (gCons (gName 5) (gCons (gName 7) (gCons (gName 8) gNil))))) rfl scPi.nd (pi_listK (K := K) rfl (pv 4)) (blkOk_by (N := NPi) (sc := defScope sPi) (by decide +kernel)) (fun _ _ _ _ _ => (pg_tupK (K := K) rfl rfl (pgs_cons (pg_name (i := 5) scPi.nd rfl (.inl rfl)) (pgs_cons (pg_name (i := 7) scPi.nd rfl (.inl rfl)) (pgs_cons (pg_name (i := 8) scPi.nd rfl (.inl rfl)) pgs_nil))))) (fun _ _ _ _ _ => (pts_one (pt_cmpR op_eq (pe_ix (ix_tupK (K := K) rfl) (pv 8) pe_int (fun _ _ => rfl)) pe_str (nomark _)))) (fun _ _ _ _ _ => (pe_tup (pa_cons (pv 5) (pa_cons (pv 7) pa_nil))))) pa_nil)) rfl))))))), fun gv tt htt => ?_⟩
    have lk : kvs.length = p.length := hk.1
    refine ⟨_, rfl, tt, kvs, p, rfl, htt, hk, hp, fun H1 s1 => ⟨_, rfl, iteF ?_⟩⟩
    have hx1 := s1 _ _ hx
    have htt1 := s1 _ _ htt
    have hk1 := hk.keep fun a xs e => s1 a _ e
    refine ⟨_, rfl, tt, kvs, names p, rfl, .inl htt1, hk1.keys, by rw [List.length_map]; have := hp.len; omega, fun ys l hy sy hl => ?_⟩
    have hy64 : ys.length ≤ 8 := by rw [hy.length_eq, List.length_map]; exact hp.len.2
    obtain ⟨qp, qn⟩ := pg_perm hn hy
    have sl := same_new (o := .lst (ys.map V.str)) hl
    have hl2 : upd H1 l (.lst (ys.map V.str)) l = some (.lst (ys.map V.str)) := upd_same
    have hx2 := sl _ _ hx1
    have htt2 := sl _ _ htt1
    have hk2 := (Tk.same sl).pg hk1
    have s2 := s1.trans sl
    generalize upd H1 l (.lst (ys.map V.str)) = H2 at sl hl2 hx2 htt2 hk2 s2 ⊢
    let qq : Pg := ys.map fun z => (z, bodyOf p z)
    have qd : qq = ys.map fun z => (z, bodyOf p z) := rfl
    rw [← qd] at qp qn
    have hq := hp.perm qp
    refine ⟨l, rfl, ⟨_, SqL.of hl2⟩, fun D hD => ?_⟩
    refine walk_core (walk_list (xs := ys.map V.str)) (fun i Hc => Same H2 Hc ∧ ∃ kvs2, Hc D = some (.dK kvs2) ∧ PrgK Hc kvs2 (qq.take i)) ⟨same_new hD, [], upd_same, PrgK.nil⟩ (fun i Hc _ p => SqL.of (p.1 _ _ hl2)) ?_ ?_
    · rintro i v Hc H' hi ⟨sm, kvs2, hDc, hkc⟩ ⟨rfl, hv⟩
      rw [List.length_map] at hi
      rw [List.getElem?_map, List.getElem?_eq_getElem hi] at hv
      have ev : V.str ys[i] = v := Option.some.inj hv
      subst ev
      have hz : ys[i] ∈ names p := hy.mem_iff.mp (List.getElem_mem hi)
      obtain ⟨bv, e1, hb⟩ := hk2.val hn hz
      have hnew : valV kvs2 (Sum.inr ys[i]) = none := hkc.none fun z => by
        have e : names (qq.take i) = ys.take i := by rw [names, List.map_take, ← names, qn]
        rw [e] at z
        have nd : ys.Nodup := hy.nodup_iff.mpr hn
        obtain ⟨j, hj, ej⟩ := List.getElem_of_mem z
        rw [List.length_take] at hj
        rw [List.getElem_take] at ej
        exact List.pairwise_iff_getElem.mp nd j i (by omega) hi (by omega) ej
      have lt : kvs2.length ≤ 8 := by rw [hkc.1, List.length_take]; have : qq.length = ys.length := List.length_map ..; omega
      refine ⟨rfl, _, rfl, _, rfl, _, rfl, tt, bv, rfl, ?_, kvs2, .inr ys[i], rfl, hDc, small1000 (by omega), same_upd hD sm, _, upd_same, ?_⟩
      · have g := DGet.k (k := .inr ys[i]) (sm _ _ htt2)
        rw [e1] at g
        exact g
      · rw [putK_new _ hnew]
        have e : qq[i]? = some (ys[i], bodyOf p ys[i]) := by
          show (ys.map _)[i]? = _
          rw [List.getElem?_map, List.getElem?_eq_getElem hi]
          rfl
        rw [take_snoc e]
        have kt : Tk H' (upd H' D (.dK (kvs2 ++ [(Sum.inr ys[i], bv)]))) := Tk.upd hDc (fun _ z => by cases z) (fun _ _ z => by cases z)
        exact PrgK.snoc (kt.pg hkc) (kt.bd ((Tk.same sm).bd hb))
    · rintro Hc ⟨sm, kvs2, hDc, hkc⟩
      rw [List.length_map] at hkc
      rw [List.take_of_length_le (by show (ys.map _).length ≤ _; rw [List.length_map]; exact Nat.le_refl _)] at hkc
      have hx3 := sm _ _ hx2
      have b3 := But.same (x := x) (s2.trans sm)
      have nDx : D ≠ x := fun z => by rw [z, hx2] at hD; cases hD
      refine ⟨_, rfl, x, C, dx, [], rfl, hx3, cl, nb, by show 0 < 1000; decide, ?_⟩
      have hx4 : upd Hc x (.ins C dx [("_bodies", .ref D)]) x = some (.ins C dx [("_bodies", .ref D)]) := upd_same
      have hD4 : upd Hc x (.ins C dx [("_bodies", .ref D)]) D = some (.dK kvs2) := by rw [upd_ne nDx]; exact hDc
      have hk4 : PrgK (upd Hc x (.ins C dx [("_bodies", .ref D)])) kvs2 qq := (Tk.upd hx3 (fun _ z => by cases z) (fun _ _ z => by cases z)).pg hkc
      have b4 := b3.trans (But.upd (o := .ins C dx [("_bodies", .ref D)]))
      have nDH : H D = none := by
        cases e : H D with
        | none => rfl
        | some o => rw [s2 _ _ e] at hD; cases hD
      clear hDc hkc hx3 sm
      show tLock _ _ _ (upd Hc x (.ins C dx [("_bodies", .ref D)]))
      generalize upd Hc x (.ins C dx [("_bodies", .ref D)]) = H4 at hx4 hD4 hk4 b4 ⊢
      refine ⟨D, _, hD4, trivial, fun od => ?_⟩
      have hk5 := hk4.keep (lock_tup (x := .frz od (.dK kvs2)) hD4)
      have hdl : upd H4 D (.frz od (.dK kvs2)) D = some (.frz od (.dK kvs2)) := upd_same
      have hx5 : upd H4 D (.frz od (.dK kvs2)) x = some (.ins C dx [("_bodies", .ref D)]) := by rw [upd_ne (Ne.symm nDx)]; exact hx4
      have back : ∀ H', Same (upd H4 D (.frz od (.dK kvs2))) H' → Same H4 (upd H' D (.dK kvs2)) := fun H' s => same_lock hD4 s
      generalize upd H4 D (.frz od (.dK kvs2)) = H5 at hk5 hdl hx5 back ⊢
      refine ⟨_, rfl, x, C, dx, _, _, rfl, hx5, cl, nb, rfl, D, od, kvs2, rfl, hdl, fun D2 hD2 => ?_⟩
      have lkq : kvs2.length = qq.length := hk5.1
      refine walk_core walk_items (fun i Hc => Same H5 Hc ∧ ∃ acc, Hc D2 = some (.lst acc) ∧ AG (fun z y => TrAt K Hc z y) acc (allP (qq.take i))) ⟨same_new hD2, [], upd_same, AG.nil⟩ (fun i Hc _ p => p.1 _ _ hdl) ?_ ?_
      · rintro i x0 Hc H' hi ⟨sm, acc, hDc, ha⟩ ⟨T1, x1, y1, rfl, hT1, rfl, hx1, hy1⟩
        obtain ⟨z, v, b, hkv, hpi, hb⟩ := hk5.at hi
        have hx1 : (kvs2[i]?.map fun kv => kV kv.1) = some x1 := hx1
        have hy1 : (kvs2[i]?.map Prod.snd) = some y1 := hy1
        rw [hkv] at hx1 hy1
        have ex : V.str z = x1 := Option.some.inj hx1
        have ey : v = y1 := Option.some.inj hy1
        subst ex ey
        have sT := same_new (o := .tup [V.str z, v]) hT1
        have hDt := sT _ _ hDc
        have hat := (Tk.same sT).trs ha
        have sm2 := sm.trans sT
        have h1 : upd Hc T1 (.tup [V.str z, v]) T1 = some (.tup [V.str z, v]) := upd_same
        generalize upd Hc T1 (.tup [V.str z, v]) = H6 at hDt hat sm2 h1 ⊢
        obtain ⟨nb, ob, cb, fb⟩ := hq.ok _ (List.mem_of_getElem? hpi)
        have l60 : (placed 5 b []).length ≤ 60 := Nat.le_trans (len_mem_sum (f := fun x : Str × Bd => (placed 5 x.2 []).length) (List.mem_of_getElem? hpi)) hq.sz
        refine ⟨T1, _, rfl, SqT.of h1, rfl, _, _, rfl, _, _, rfl, rfl, rfl, _, rfl, v, dT, b, [], rfl, (Tk.same sm2).bd hb, hT _, fb, by decide, Nat.le_trans l60 (by decide), fun l2 zs H7 nl7 s7 hl7 hz => ⟨l2, rfl, ⟨_, SqL.of hl7⟩, ?_⟩⟩
        have nl2 : l2 ≠ D2 := fun e => by rw [e, hDt] at nl7; cases nl7
        have stp : allP (qq.take (i + 1)) = allP (qq.take i) ++ (placed 5 b []).map fun y => (z, y) := flat_take hpi
        have tot : (allP (qq.take (i + 1))).length ≤ 60 := by
          rw [allP_len]
          exact Nat.le_trans (sum_take_le qq (i + 1)) hq.sz
        rw [stp, List.length_append, List.length_map] at tot
        refine walk_core (walk_list (xs := zs)) (fun j Hx => Same H5 Hx ∧ Tk H7 Hx ∧ Hx l2 = some (.lst zs) ∧ ∃ acc2, Hx D2 = some (.lst acc2) ∧ AG (fun z y => TrAt K Hx z y) acc2 (allP (qq.take i) ++ ((placed 5 b []).take j).map fun y => (z, y))) ⟨sm2.trans s7, Tk.refl _, hl7, acc, s7 _ _ hDt, ?_⟩ (fun j Hx _ p => SqL.of p.2.2.1) ?_ ?_
        · rw [List.take_zero, List.map_nil, List.append_nil]
          exact (Tk.same s7).trs hat
        · rintro j y Hx H' hj ⟨sx, tx, hlx, acc2, hDx, ha2⟩ ⟨rfl, hy⟩
          obtain ⟨pl, hpl, t, a, s0, rfl, ht, hpa, hs⟩ := hz.2 j y hy
          refine ⟨t, _, rfl, SqT.of (tx.1 _ _ ht), rfl, _, _, rfl, _, _, rfl, rfl, rfl, _, rfl, _, rfl, _, rfl, small1000 (Nat.le_of_ble_eq_true rfl), fun t3 ht3 => ?_⟩
          have s3 := same_new (o := .tup [V.str z, V.ref a, s0]) ht3
          have h3 : upd H' t3 (.tup [V.str z, V.ref a, s0]) t3 = some (.tup [V.str z, V.ref a, s0]) := upd_same
          have hl8 := s3 _ _ hlx
          have hd8 := s3 _ _ hDx
          have sx8 := sx.trans s3
          have tx8 := tx.trans (Tk.same s3)
          have ha8 := (Tk.same s3).trs ha2
          generalize upd H' t3 (.tup [V.str z, V.ref a, s0]) = H8 at h3 hl8 hd8 sx8 tx8 ha8 ⊢
          have lj : acc2.length < 60 := by
            have e := ha2.1
            rw [List.length_append, List.length_map, List.length_take] at e
            have := hz.1
            omega
          have k9 : Tk H8 (upd H8 D2 (.lst (acc2 ++ [V.ref t3]))) := Tk.upd hd8 (fun _ z => by cases z) (fun _ _ z => by cases z)
          refine ⟨acc2, hd8, small1000 (by omega), same_upd hD2 sx8, tx8.trans k9, by rw [upd_ne nl2]; exact hl8, _, upd_same, ?_⟩
          rw [take_snoc hpl, List.map_append, ← List.append_assoc]
          exact AG.snoc (k9.trs ha8) ⟨t3, a, s0, rfl, k9.1 _ _ h3, (tx8.trans k9).seqT hpa, (tx8.trans k9).st hs⟩
        · rintro Hx ⟨sx, tx, hlx, acc2, hDx, ha2⟩
          rw [hz.1, List.take_length] at ha2
          exact ⟨sx, acc2, hDx, by rw [stp]; exact ha2⟩
      · rintro Hc ⟨sm, acc, hDc, ha⟩
        rw [lkq, List.take_length] at ha
        refine ⟨sm _ _ hdl, ?_⟩
        have sb := back Hc sm
        have hc := sm _ _ hdl
        have kb : Tk Hc (upd Hc D (.dK kvs2)) := Tk.upd hc (fun _ z => by cases z) (fun _ _ z => by cases z)
        have hDb : upd Hc D (.dK kvs2) D2 = some (.lst acc) := by
          rw [upd_ne (fun z => by rw [z, hdl] at hD2; cases hD2)]
          exact hDc
        have hab := kb.trs ha
        clear hDc ha kb hc
        generalize upd Hc D (.dK kvs2) = H9 at sb hDb hab ⊢
        have b9 := b4.trans (But.same sb)
        have hx9 := sb _ _ hx4
        have hD9 := sb _ _ hD4
        have hk9 := (Tk.same sb).pg hk4
        have la : acc.length = (allP qq).length := hab.1
        have l60 : (allP qq).length ≤ 60 := by rw [allP_len]; exact hq.sz
        clear sb hx4 hD4 b4 back hdl hx5 hk5 hk4 b3
        -- the size
        refine ⟨_, rfl, D2, acc, rfl, .inl (SqL.of hDb), _, rfl, x, C, dx, _, rfl, hx9, cl, ns, by show 1 < 1000; decide, ?_⟩
        generalize hA : upd H9 x _ = HA
        have hxA : HA x = some (.ins C dx [("_bodies", .ref D), ("_size", .int ((allP qq).length : Nat))]) := by
          rw [← hA, upd_same, ← la]
          rfl
        have bu : But x H9 HA := by rw [← hA]; exact But.upd
        have tu : Tk H9 HA := by rw [← hA]; exact Tk.upd hx9 (fun _ z => by cases z) (fun _ _ z => by cases z)
        have n2x : D2 ≠ x := fun z => by rw [z, hx9] at hDb; cases hDb
        have bA := b9.trans bu
        have hDA := bu _ _ nDx hD9
        have hkA := tu.pg hk9
        have h2A := bu _ _ n2x hDb
        have haA := tu.trs hab
        clear hA bu tu b9 hx9 hD9 hk9 hDb hab
        -- the events
        refine ⟨_, rfl, D2, rfl, ⟨_, SqL.of h2A⟩, fun S hS => ?_⟩
        refine walk_core (walk_list (xs := acc)) (fun i Hc => Same HA Hc ∧ Hc S = some (SX.SetTO P w S (SX.gather (notes ((allP qq).take i))))) ⟨same_new hS, upd_same⟩ (fun i Hc _ p => SqL.of (p.1 _ _ h2A)) ?_ ?_
        · rintro i y Hc H' hi ⟨sm, hSc⟩ ⟨rfl, hy⟩
          obtain ⟨tr, htr, t, a, s0, rfl, ht, hpa, hs⟩ := haA.2 i y hy
          have hs := (Tk.same sm).st hs
          obtain ⟨ax, xs, rfl, hax⟩ := hs.head
          have e := notes_snoc ((allP qq).take i) tr
          rw [← take_snoc htr] at e
          refine ⟨t, _, rfl, SqT.of (sm _ _ ht), rfl, _, _, rfl, _, _, rfl, _, _, rfl, rfl, rfl, ?_⟩
          refine ⟨_, rfl, ax, _, 0, _, rfl, rfl, SqT.of hax, atI_nat (j := 0) rfl, rfl, _, rfl, ?_⟩
          show SX.tPut _ _ _ _ _ _ (decide (V.str tr.2.2.word = V.str "note")) _
          rw [dec_str]
          by_cases c : tr.2.2.word = ("note" : Str)
          · rw [if_pos c] at e
            rw [decide_eq_true c]
            obtain ⟨a', ea, hn2⟩ := note_at c hs
            cases ea
            refine ⟨_, rfl, ax, _, 1, _, rfl, rfl, SqT.of hn2, atI_nat (j := 1) rfl, _, _, rfl, hSc, ?_, same_upd hS sm, ?_⟩
            · have h1 := SX.len_gather (notes ((allP qq).take i))
              have h2 := notes_len ((allP qq).take i)
              rw [List.length_take] at h2
              show _ < 4096
              omega
            · rw [e, SX.gather_snoc]
              exact upd_same
          · rw [if_neg c, List.append_nil] at e
            rw [decide_eq_false c]
            exact ⟨sm, by rw [e]; exact hSc⟩
        · rintro Hc ⟨sm, hSc⟩
          rw [la, List.take_length] at hSc
          have hl1 := SX.len_gather (notes (allP qq))
          have hl2' := notes_len (allP qq)
          refine ⟨S, _, rfl, hSc, by omega, fun es pe hpe hse hne hpn => ?_⟩
          have s1e := same_new (o := .lst (es.map V.str)) hpn
          have hpe2 : upd Hc pe (.lst (es.map V.str)) pe = some (.lst (es.map V.str)) := upd_same
          refine ⟨pe, _, rfl, .inl ⟨SqL.of hpe2, fun ta hta => ?_⟩⟩
          have s2e := same_new (o := .tup (es.map V.str)) hta
          have hta2 : upd (upd Hc pe (.lst (es.map V.str))) ta (.tup (es.map V.str)) ta = some (.tup (es.map V.str)) := upd_same
          have sB := (sm.trans s1e).trans s2e
          clear hpe2 s1e s2e hSc
          generalize upd (upd Hc pe (.lst (es.map V.str))) ta (.tup (es.map V.str)) = HB at hta2 sB ⊢
          have hxB := sB _ _ hxA
          refine ⟨_, rfl, x, C, dx, _, rfl, hxB, cl, ne, by show 2 < 1000; decide, ?_⟩
          generalize hC : upd HB x _ = HC
          have hxC : HC x = some (.ins C dx [("_bodies", .ref D), ("_size", .int ((allP qq).length : Nat)), ("_events", .ref ta)]) := by
            rw [← hC, upd_same]
            rfl
          have bu : But x HA HC := (But.same sB).trans (by rw [← hC]; exact But.upd)
          have tu : Tk HA HC := (Tk.same sB).trans (by rw [← hC]; exact Tk.upd hxB (fun _ z => by cases z) (fun _ _ z => by cases z))
          have bC := bA.trans bu
          have hDC := bu _ _ nDx hDA
          have hkC := tu.pg hkA
          have h2C := bu _ _ n2x h2A
          have haC := tu.trs haA
          have htC : HC ta = some (.tup (es.map V.str)) := by
            have n : ta ≠ x := fun z => by rw [z, hxB] at hta2; cases hta2
            rw [← hC, upd_ne n]
            exact hta2
          clear hC bu tu bA hxA hDA hkA h2A haA hta2 sB hxB
          have hev : EvOk es qq := ⟨hse, hne, fun z => by rw [hpe.mem_iff, SX.mem_gather]⟩
          -- the choices
          refine ⟨_, rfl, D2, rfl, ⟨_, SqL.of h2C⟩, fun R hR => ?_⟩
          refine walk_core (walk_list (xs := acc)) (fun i Hy => Same HC Hy ∧ ∃ cs, Hy R = some (.lst cs) ∧ AG (fun z y => ChAt K Hy z y) cs (chosen ((allP qq).take i))) ⟨same_new hR, [], upd_same, AG.nil⟩ (fun i Hy _ p => SqL.of (p.1 _ _ h2C)) ?_ ?_
          · rintro i y Hy H' hi ⟨sm, cs, hRc, hcs⟩ ⟨rfl, hy⟩
            obtain ⟨tr, htr, t, a, s0, rfl, ht, hpa, hs⟩ := haC.2 i y hy
            have hs := (Tk.same sm).st hs
            have hpa := (Tk.same sm).seqT hpa
            obtain ⟨ax, xs, rfl, hax⟩ := hs.head
            have e := chosen_snoc ((allP qq).take i) tr
            rw [← take_snoc htr] at e
            have lc := chosen_len ((allP qq).take i)
            rw [List.length_take] at lc
            have lcs := hcs.1
            refine ⟨t, _, rfl, SqT.of (sm _ _ ht), rfl, _, _, rfl, _, _, rfl, _, _, rfl, rfl, rfl, ?_⟩
            refine ⟨_, rfl, ax, _, 0, _, rfl, rfl, SqT.of hax, atI_nat (j := 0) rfl, rfl, _, rfl, ?_⟩
            show if (decide (V.str tr.2.2.word = V.str "choose")) = true then _ else _
            rw [dec_str]
            by_cases c : tr.2.2.word = ("choose" : Str)
            · rw [if_pos c] at e
              rw [decide_eq_true c, if_pos rfl]
              refine ⟨_, rfl, _, rfl, small1000 (Nat.le_of_ble_eq_true rfl), fun t3 ht3 => ?_⟩
              have s3 := same_new (o := .tup [V.str tr.1, V.ref a]) ht3
              have h3 : upd H' t3 (.tup [V.str tr.1, V.ref a]) t3 = some (.tup [V.str tr.1, V.ref a]) := upd_same
              have hR3 := s3 _ _ hRc
              have k9 : Tk (upd H' t3 (.tup [V.str tr.1, V.ref a])) (upd (upd H' t3 (.tup [V.str tr.1, V.ref a])) R (.lst (cs ++ [V.ref t3]))) := Tk.upd hR3 (fun _ z => by cases z) (fun _ _ z => by cases z)
              refine ⟨cs, hR3, small1000 (by omega), same_upd hR (sm.trans s3), _, upd_same, ?_⟩
              rw [e]
              exact AG.snoc (((Tk.same s3).trans k9).chs hcs) ⟨t3, a, rfl, k9.1 _ _ h3, ((Tk.same s3).trans k9).seqT hpa⟩
            · rw [if_neg c, List.append_nil] at e
              rw [decide_eq_false c, if_neg (by decide)]
              exact ⟨sm, cs, hRc, by rw [e]; exact hcs⟩
          · rintro Hy ⟨sm, cs, hRc, hcs⟩
            rw [la, List.take_length] at hcs
            refine ⟨R, _, rfl, .inl ⟨SqL.of hRc, fun tc htc => ?_⟩⟩
            have s2e := same_new (o := .tup cs) htc
            have htc2 : upd Hy tc (.tup cs) tc = some (.tup cs) := upd_same
            have hcs2 := (Tk.same s2e).chs hcs
            have sD := sm.trans s2e
            generalize upd Hy tc (.tup cs) = HD at htc2 hcs2 sD ⊢
            have hxD := sD _ _ hxC
            refine ⟨_, rfl, x, C, dx, _, rfl, hxD, cl, nc, by show 3 < 1000; decide, ?_⟩
            generalize hF : upd HD x _ = HF
            have hxF : HF x = some (.ins C dx [("_bodies", .ref D), ("_size", .int ((allP qq).length : Nat)), ("_events", .ref ta), ("_choices", .ref tc)]) := by
              rw [← hF, upd_same]
              rfl
            have bu : But x HD HF := by rw [← hF]; exact But.upd
            have tu : Tk HD HF := by rw [← hF]; exact Tk.upd hxD (fun _ z => by cases z) (fun _ _ z => by cases z)
            have td := (Tk.same sD).trans tu
            exact q qq HF qp (by rw [qn]; exact sy) ((bC.trans (But.same sD)).trans bu) ⟨dx, D, ta, tc, kvs2, es, cs, hxF, bu _ _ nDx (sD _ _ hDC), td.pg hkC, td.1 _ _ htC, hev, tu.1 _ _ htc2, tu.chs hcs2⟩ ⟨D, C, dx, _, hxF, nDH⟩
  refine ⟨_, pss_cons (ps_set (i := 2) scPi.nd rfl (Or.inl rfl) (pe_dget1 hu (pv 1) pe_str ⟨by rfl, by rfl, by rfl, by rfl⟩)) (pss_cons (ps_set (i := 3) scPi.nd rfl (Or.inr rfl) (pe_ifExp (pt_val (pe_callB call_isi (by rfl) T.isi PyProof.Rows.boot_isinstance (pa_cons (pv 2) (pa_cons (pe_glob (v := .ref CG) (by rfl) mG rfl) pa_nil)))) (pe_fld (pv 2) rfl) (pv 1))) hR), ?_⟩
  rcases hd with ⟨g, dg, tt, hd, hg, htt⟩ | ⟨hd, hno⟩
  · have g1 := DGet.k (k := .inr "_given") hd
    rw [valV_pos rfl] at g1
    refine ⟨_, rfl, d, rfl, .inl ⟨_, .inl hd⟩, _, g1, ?_⟩
    exact ⟨_, rfl, _, _, _, _, true, rfl, .own CG, .base (oG.ins hg), kYes, _, rfl, iteT ⟨_, rfl, g, CG, dg, _, _, rfl, hg, clG, nG, rfl, qR _ _ htt⟩⟩
  · have g := DGet.k (k := .inr "_given") hd
    rw [hno] at g
    exact ⟨_, rfl, d, rfl, .inl ⟨_, .inl hd⟩, _, g, _, rfl, _, _, _, _, false, rfl, .own CG, .base .non, kNo, _, rfl, iteF ⟨_, rfl, qR _ _ hd⟩⟩
theorem ok_pi {f fp dT : Addr} {fd fdp : FuncData} (GP : FnOk P w K mg base CX0 6 fp fdp ["body", "path"] (spPls K 5)) (mP : mg "placed_statements" = some (.ref fp)) (kP : PySem.W.keepIn K (.ref fp) = true) {ds : List Value} (bP : Binds K fdp ["body", "path"] ds) (vP : Vals [V.ref dT] ds) (hT : ∀ H, SqT K H dT []) {C CG : Addr} (cl : Cls K C) (nb : NoAttr K C "_bodies") (ns : NoAttr K C "_size") (ne : NoAttr K C "_events") (nc : NoAttr K C "_choices") (clG : Cls K CG) (nG : NoAttr K CG "table") (oG : OwnTy K CG) (kNo : PySem.W.kitOne K (.type "NoneType") (.ref CG) = some false) (kYes : PySem.W.kitOne K (.ref CG) (.ref CG) = some true) (T : TxtP mg) (mG : mg "Given" = some (.ref CG)) (gA : Glo P w K mg base "_are_program" 12 ["bodies"] spAp) (F : Fun K "__init__" "Program.__init__" sPi f fd) {key : Str} (hk : ¬ key = "self") : FnRest P w K mg base 13 f key (spPi K C CG) := by
  refine rest_ok F (x := ⟨"self", _, _⟩) (y := ⟨"bodies", _, _⟩) rfl scPi hk (fun vs H Q E h => ?_) fun cdv A outer s H vs Q E hr h => ?_
  · obtain ⟨x, d, dx, kvs, p, rfl, _⟩ := h
    rfl
  · exact pi_read (k := 12) GP mP kP bP vP hT cl nb ns ne nc clG nG oG kNo kYes T mG gA hr h
end
end FR
set_option Elab.async false
set_option linter.all false
set_option maxRecDepth 100000
set_option maxHeartbeats 1000000
/-! def f(self, **rest): a call with some keywords; C(key = e, ..) -/
namespace FR
open PySem PySem.Spec PyProof.Rows L2
theorem forIn_all {α β : Type} (g : β → α → β) {l : List α} {f : α → β → Sem (ForInStep β)} (h : ∀ a ∈ l, ∀ b, f a b = pure (.yield (g b a))) (b : β) : forIn l b f = pure (l.foldl g b) := by
  induction l generalizing b with
  | nil => rfl
  | cons x l ih =>
    rw [List.forIn_cons, h x List.mem_cons_self]
    simp only [pure_bind]
    rw [ih fun a ha => h a (List.mem_cons_of_mem _ ha)]
    rfl
theorem foldl_gather {α : Type} {γ : Type} (sl : γ) : ∀ (l acc : List α), l.foldl (fun (b : γ × List α) a => (b.1, b.2 ++ [a])) (sl, acc) = (sl, acc ++ l)
  | [], acc => by rw [List.append_nil]; rfl
  | x :: l, acc => by
    show l.foldl _ (sl, acc ++ [x]) = _
    rw [foldl_gather sl l (acc ++ [x]), List.append_assoc]
    rfl
abbrev kvsOf (ks : List (Str × Value)) : List (Key × Value) := ks.map fun p => (Sum.inr p.1, p.2)
theorem pairs_snoc {prog : Program} {w : World} {n : Str} {v : Value} {h : Int} {key : Value} (hk : keyIs (.inr n) key = true) : ∀ {l : List DictEntry} {m : List (Key × Value)}, Pairs (mixKind prog w) l m → Pairs (mixKind prog w) (l ++ [⟨h, key, v⟩]) (m ++ [(.inr n, v)])
  | _, _, .nil => .cons hk rfl .nil
  | _, _, .cons a b c => .cons a b (pairs_snoc hk c)
/-- a dict of texts takes one more -/
theorem nsSet_more {prog : Program} {w : World} {A : Around} {E : Value → Shared → Prop} {s : Shared} {a : Addr} {ks : List (Str × Value)} {name : Str} {v : Value} {Q : Unit → Shared → Prop} (ha : s.heap.DictOf (mixKind prog w) a (kvsOf ks)) (hn : name ∉ ks.map (·.1))
    (h : ∀ h', h'.DictOf (mixKind prog w) a (kvsOf (ks ++ [(name, v)])) → Heap.SameBut a s.heap h' → Q () { s with heap := h', toks := s.toks + 1 }) : wpAny (model prog w) A (nsSet a name v) Q E s := fun Γ p _ => by
  obtain ⟨⟨c, dd, dat, sl⟩, es, ep, ho, hex, hd, hk, hp, hnd⟩ := ha
  subst hd
  have allS : ∀ e ∈ es.toList, ∃ z t, e.key = .str z t ∧ z ∈ ks.map (·.1) := by
    clear hk hnd h ho hex
    generalize es.toList = l at hp
    induction ks generalizing l with
    | nil => cases hp; intro e he; cases he
    | cons q ks ih =>
      cases hp with
      | cons h1 h2 h3 =>
        intro e he
        rcases List.mem_cons.mp he with ee | he
        · subst ee
          obtain ⟨t, ht⟩ := Value.isStrOf_shape h1
          exact ⟨q.1, t, ht, List.mem_cons_self⟩
        · obtain ⟨z, t, a, b⟩ := ih (fun z => hn (List.mem_cons_of_mem _ z)) _ h3 e he
          exact ⟨z, t, a, List.mem_cons_of_mem _ b⟩
  have no : ∀ e ∈ es.toList, e.key.isStr name = false ∧ e.refKey = false := fun e he => by
    obtain ⟨z, t, a, b⟩ := allS e he
    constructor
    · rw [a]
      have : z ≠ name := fun q => hn (q ▸ b)
      simp [Value.isStr, this]
    · unfold DictEntry.refKey
      rw [a]
  have n1 : es.any (·.key.isStr name) = false := by
    rw [← Array.any_toList, List.any_eq_false]
    intro e he
    rw [(no e he).1]
    exact Bool.false_ne_true
  have n2 : es.any (·.refKey) = false := by
    rw [← Array.any_toList, List.any_eq_false]
    intro e he
    rw [(no e he).2]
    exact Bool.false_ne_true
  have n3 : es.findIdx? (·.key.isStr name) = none := by
    rw [Array.findIdx?_eq_none_iff]
    intro e he
    exact (no e (Array.mem_toList_iff.mpr he)).1
  have put : ∀ hh : Int, ∀ key : Value, Obj.putName name hh key v ⟨c, dd, .dict es ep, sl⟩ = ⟨c, dd, .dict (es.push ⟨hh, key, v⟩) (ep + 1), sl⟩ := fun hh key => by
    rw [Obj.putName_eq]
    unfold Obj.putNameByArray
    dsimp only
    rw [n3]
  simp only [nsSet, strHash, Sem.wp_bind', Sem.wp_cmd_ask, Sem.wp_pure', Sem.wp_cmd_mkText]
  rw [Sem.wp_loadPart_of (model prog w) Γ _ p { s with toks := s.toks + 1 } (o := ⟨c, dd, .dict es ep, sl⟩) _ ho]
  simp only [aRefKeyMayBeTheName_eq, aRefKeyMayBeTheNameByArray]
  rw [n1, n2, if_neg (by simp)]
  simp only [Sem.wp_cmd_updatePart]
  refine ⟨by rw [ho]; rfl, h _ ?_ (Heap.SameBut.update ..)⟩
  refine ⟨_, es.push ⟨_, _, v⟩, ep + 1, Heap.get?_update_self _ ho (by rw [put]; rfl), ?_, by rw [put], ?_, ?_, ?_⟩
  · rw [put]; exact hex
  · intro e he
    rcases Array.mem_push.mp he with he | he
    · exact hk e he
    · subst he
      exact ⟨.inr name, keyIs_str _ s.toks, rfl⟩
  · rw [Array.toList_push]
    show Pairs _ _ (List.map _ (ks ++ [(name, v)]))
    rw [List.map_append]
    exact pairs_snoc (keyIs_str _ s.toks) hp
  · show ((List.map _ (ks ++ [(name, v)])).map _).Nodup
    rw [List.map_append, List.map_append, List.nodup_append]
    refine ⟨hnd, by simp, fun a ha b hb => ?_⟩
    have eb : b = .inr name := List.mem_singleton.mp hb
    rw [eb]
    obtain ⟨q, hq, e⟩ := List.mem_map.mp ha
    obtain ⟨r, hr, e2⟩ := List.mem_map.mp hq
    intro z
    rw [← e, ← e2] at z
    exact hn (List.mem_map.mpr ⟨r, hr, Sum.inr.inj z⟩)
theorem nsSets {prog : Program} {w : World} {A : Around} {E : Value → Shared → Prop} {a : Addr} {Q : Unit → Shared → Prop} : ∀ (ks ls : List (Str × Value)) (s : Shared), s.heap.DictOf (mixKind prog w) a (kvsOf ls) → ((ls ++ ks).map (·.1)).Nodup →
    (∀ h' t, h'.DictOf (mixKind prog w) a (kvsOf (ls ++ ks)) → Heap.SameBut a s.heap h' → Q () { s with heap := h', toks := t }) → wpAny (model prog w) A (List.foldlM (fun (_ : PUnit) x => nsSet a x.1 x.2) PUnit.unit ks) Q E s
  | [], ls, s, ha, hn, h => by
    rw [List.append_nil] at h
    exact wpAny_pure (h s.heap s.toks ha (Heap.SameBut.refl a _))
  | x :: ks, ls, s, ha, hn, h => by
    have e : ls ++ x :: ks = (ls ++ [x]) ++ ks := by rw [List.append_assoc]; rfl
    rw [e] at hn h
    rw [List.foldlM_cons]
    refine wpAny_bind (nsSet_more ha ?_ fun h' ha' sb => nsSets ks (ls ++ [x]) _ ha' hn fun h'' t ha'' sb' => h h'' t ha'' (sb.trans sb'))
    rw [List.map_append, List.map_append, List.append_assoc, List.nodup_append] at hn
    exact fun z => hn.2.2 _ z _ List.mem_cons_self rfl
theorem bind_rests {prog : Program} {w : World} {A : Around} {E : Value → Shared → Prop} {s : Shared} {Q : List (Str × Value) → Shared → Prop} {fd : FuncData} {x y : Arg} {ks : List (Str × Value)} {u : Value} 
    (hp : fd.params = ⟨[], [x], none, [], [], some y, []⟩) (hd : fd.defaults = .none) (hk : ∀ p ∈ ks, ¬ p.1 = x.arg) (hn : (ks.map (·.1)).Nodup) (few : ks.length ≤ sizeLine)
    (h : ∀ h' d t, h'.DictOf (mixKind prog w) d (kvsOf ks) → s.heap.objs.size = d → (∀ b o, s.heap.get? b = some o → h'.get? b = some o) → Q [(x.arg, u), (y.arg, .ref d)] { s with heap := h', toks := t }) :
    wpAny (model prog w) A (bindArgs fd ⟨[u], ks⟩) Q E s := by
  unfold bindArgs
  rw [hp, hd]
  simp [seqItems?]
  rw [forIn_all (fun b a => (b.1, b.2 ++ [a])) (fun a ha b => by simp [hk a ha])]
  rw [foldl_gather]
  simp
  have f2 : ¬ sizeLine + 1 < ks.length := by omega
  rw [if_neg f2]
  refine wpAny_bind (wpAny_pure (wpAny_bind (wpAny_alloc ?_)))
  rw [← bind_pure_comp]
  have d0 : (s.heap.push { cls := .type "dict", data := .dict #[] }).DictOf (mixKind prog w) s.heap.objs.size (kvsOf []) :=
    ⟨_, #[], 0, Heap.get?_push_size _ rfl, ⟨rfl, rfl, rfl⟩, rfl, (fun e he => by simp at he), .nil, List.nodup_nil⟩
  refine wpAny_bind (nsSets ks [] _ d0 (by simpa using hn) fun h' t ha sb => wpAny_pure (h h' _ t (by simpa using ha) rfl fun b o e => ?_))
  exact (sb.2 b (Nat.ne_of_lt (Heap.lt_size e))).trans (Heap.get?_push_of_some _ e)
/-- the keywords, as a dict -/
def dkOf (ks : List Str) (gs : List V) : List (Key × V) := (ks.zip gs).map fun p => (.inr p.1, p.2)
theorem dkOf_kv : ∀ (ks : List Str) {gs : List V} {ws : List Value}, Vals gs ws → KV (dkOf ks gs) (kvsOf (ks.zip ws))
  | [], _, _, _ => .nil
  | _ :: _, [], [], .nil => .nil
  | _ :: ks, _ :: _, _ :: _, .cons a b => .cons ⟨rfl, a⟩ (dkOf_kv ks b)
/-- def f(x, **y), called with one value and keywords of these names -/
structure FnRs (P : Program) (w : World) (K : PySem.W.Frag) (mg : Str → Option Value) (base : Heap) (k : Nat) (f : Addr) (ks : List Str) (sp : Sp) : Prop where
  run : ∀ (A : Around) (outer : List Env) (s : Shared) (H : Hp) (u : Value) (ws : List Value) (vu : V) (gs : List V) (Q : VK) (E : XK), Room k A → Env0 P w K mg base A outer s H → RelV vu u → Vals gs ws → ws.length = ks.length → (∀ d, H d = none → sp [vu, .ref d] (upd H d (.dK (dkOf ks gs))) Q E) →
    codeAny (model P w) A (.call (.ref f) ⟨[u], ks.zip ws⟩) (CR CX0 outer P w H s Q E) s
section
variable {P : Program} {w : World} {K : PySem.W.Frag} {mg : Str → Option Value} {base : Heap}
theorem rests_ok {nm qual : Str} {ks : List Str} {x y : Arg} {st : Stmt} {f : Addr} {fd : FuncData} {N : List Str} {k : Nat} {sp : Sp} (F : Fun K nm qual st f fd) (hp : defArgs st = ⟨[], [x], none, [], [], some y, []⟩) (S : FnScope N [x.arg, y.arg] (defScope st)) (hk : ∀ k ∈ ks, ¬ k = x.arg) (hnd : ks.Nodup) (hfew : ks.length ≤ 900)
    (len : ∀ vs H Q E, sp vs H Q E → vs.length = 2)
    (hbody : ∀ (cdv : Value) (A : Around) (outer : List Env) (s : Shared) (H : Hp) (vs : List V) (Q : VK) (E : XK), Room k (A.deeper (envOfC qual (defScope st) s.heap.objs.size f cdv)) → sp vs H Q E →
      ∃ t, PSs (cxOf CX0 P w K mg base N qual (defScope st) f cdv A outer s H E).nox (defBody st) t ∧ t { nx := fun _ H' => Q .non H', rt := Q } (start N vs) H) : FnRs P w K mg base (k + 1) f ks sp := by
  obtain ⟨oc, od, kV, doc, pm, an, cdv, ct, osl, rfl, lk, hcd⟩ := F.ex
  refine ⟨fun A outer s H u ws vu gs Q E hr e0 ru rg hlw hsp => ?_⟩
  have ez : (ks.zip ws).map (·.1) = ks := List.map_fst_zip (by omega)
  have lz : (ks.zip ws).length = ks.length := by rw [List.length_zip]; omega
  have KX0 : K.In s.heap := e0.mod.kin.keeps fun b o e => (e0.bs b o e).1
  refine codeAny_call_function hr.depth (KX0 _ _ lk) rfl S.co S.gen rfl (PySem.W.codeRec_of KX0 hcd) (bind_rests hp rfl (fun p hp => hk _ (by rw [← ez]; exact List.mem_map.mpr ⟨p, hp, rfl⟩)) (by rw [ez]; exact hnd) (by rw [lz, sizeLine_eq]; omega) fun h' d tk hd' ed keep => ?_)
  -- the state behind the binding
  have hn : H d = none := e0.hok.fresh (Nat.le_of_eq ed)
  have hlt : d < h'.objs.size := by
    obtain ⟨o, es, ep, e, _⟩ := hd'
    exact Heap.lt_size e
  have big : sysModules < s.heap.objs.size := by
    have h : mainGlobals < s.heap.objs.size := (e0.mod.glob.keeps fun b o e => (e0.bs b o e).1).lt
    exact Nat.lt_trans (by decide) h
  have hok : HOk P w (upd H d (.dK (dkOf ks gs))) h' := e0.hok.laid keep (Nat.le_of_eq ed) ⟨by unfold dkOf; rw [List.length_map, List.length_zip, sizeLine_eq]; omega, beq_eq_false_iff_ne.mpr (by rw [← ed]; exact Ne.symm (Nat.ne_of_lt big)), _, dkOf_kv ks rg, hd'⟩
  have un : Un (frs outer) [] H (upd H d (.dK (dkOf ks gs))) s.heap h' := Un.laid keep (Nat.le_of_eq ed) hn
  have e1 : Env0 P w K mg base A outer { s with heap := h', toks := tk } (upd H d (.dK (dkOf ks gs))) := by
    refine ⟨e0.frames, e0.mod, fun b o e => ⟨keep _ _ (e0.bs b o e).1, ?_⟩, Nat.le_trans e0.bsz (by rw [ed]; exact Nat.le_of_lt hlt), Heap.FunFrames.of_keeps (fun b o e _ => ⟨o, keep _ _ e, rfl⟩) e0.funs, fun b hb => ?_, hok, e0.bare⟩
    · have lt := Heap.lt_size (e0.bs b o e).1
      rw [ed] at lt
      rw [upd_ne (Nat.ne_of_lt lt)]
      exact (e0.bs b o e).2
    · have hb0 := e0.frf b hb
      obtain ⟨o, e⟩ := frs_there e0.funs b hb
      have lt := Heap.lt_size e
      rw [ed] at lt
      rw [upd_ne (Nat.ne_of_lt lt)]
      exact hb0
  have q1 := hsp d hn
  generalize hs1 : ({ s with heap := h', toks := tk } : Shared) = s1 at e1
  have es1 : s1.heap = h' := by rw [← hs1]
  have eo1 : s1.os = s.os := by rw [← hs1]
  have hl : [vu, V.ref d].length = [x.arg, y.arg].length := rfl
  have r : Vals [vu, V.ref d] [u, Value.ref d] := .cons ru (.cons rfl .nil)
  have KX : K.In s1.heap := e1.mod.kin.keeps fun b o e => (e1.bs b o e).1
  have lim : s1.heap.NoLimit := e1.mod.nolimit.keeps fun b o e => (e1.bs b o e).1
  have hkind : ∀ z ∈ [x.arg, y.arg].zip [u, Value.ref d], (defScope st).names.lookup z.1 = some .local ∨ ((defScope st).names.lookup z.1 = some .cell ∧ ((cellsFrom (s1.heap.objs.size + 1) (defScope st).names []).lookup z.1).isSome = true) := fun ⟨n, v⟩ hy => by
    rcases S.par n (List.of_mem_zip hy).1 with q | q
    · exact .inl q
    · exact .inr ⟨q, PySem.W.cellsFrom_some _ _ _ (.inl q)⟩
  refine wpAny_newFunctionEnv_cells (binds := [x.arg, y.arg].zip [u, Value.ref d]) S.kind hkind fun env he s2 x2 => ?_
  subst he
  refine ⟨lim.keeps x2.toInCall.keep, codeAny_func ?_⟩
  obtain ⟨t, ht, hq⟩ := hbody cdv A outer s1 _ _ _ _ (hr.deeper _) q1
  have I : Inv (cxOf CX0 P w K mg base N qual (defScope st) f cdv A outer s1 (upd H d (.dK (dkOf ks gs))) E) [] (start N [vu, V.ref d]) (upd H d (.dK (dkOf ks gs))) s2 := inv_start S hr.hd e1 hl r x2
  refine wpAny_mono (ht.nox.run [] s2 (start N [vu, V.ref d]) _ _ I hq) (fun fl s' hs => ?_) fun e s' hs => hs
  have fin : ∀ {σ' : L2.St} {H' : Hp} {v : V} {u : Value}, Inv (cxOf CX0 P w K mg base N qual (defScope st) f cdv A outer s1 (upd H d (.dK (dkOf ks gs))) E) [] σ' H' s' → RelV v u → Q v H' → CE outer P w H s Q u s' :=
    fun {σ' H' v u} J rv q => ⟨v, H', J.os.trans eo1, J.bare, un.trans (by rw [← es1]; exact J.base), J.hok, rv, q⟩
  cases fl with
  | ret u =>
    obtain ⟨v, σ', H', J, rv, q⟩ := hs
    exact fin J rv q
  | next =>
    obtain ⟨σ', H', J, q⟩ := hs
    exact fin (v := V.non) (u := Value.none) J rfl q
  | brk =>
    obtain ⟨_, _, _, q⟩ := hs
    exact False.elim q
  | cont =>
    obtain ⟨_, _, _, q⟩ := hs
    exact False.elim q
end
/-- a new instance and its dict, a new dict of the keywords, then __init__ -/
def tMakeRs (C : Addr) (ks : List Str) (sp : Sp) (tk : TA) : TE := fun σ H Q => tk σ H fun zs H2 => zs.length = ks.length ∧ ∀ x dx, H2 x = none → H2 dx = none → dx ≠ x → ∀ d, upd (upd H2 dx (.own x)) x (.ins C dx []) d = none →
  sp [.ref x, .ref d] (upd (upd (upd H2 dx (.own x)) x (.ins C dx [])) d (.dK (dkOf ks zs))) (fun v H3 => v = .non ∧ Q (.ref x) H3) E0
section
variable {X : Cx} {k : Nat} {f C : Addr} {ks : List Str} {sp : Sp} {x : Str} {p pos : Pos} {kws : List Keyword} {tk : TA}
theorem pe_makeRs (M : Mk X.K C f) (F : FnRs X.prog X.w X.K X.mg X.base k f ks sp) (hr : Room (k + 1) X.A) (hg : Gl X x) (hm : X.mg x = some (.ref C)) (hkw : PK X kws tk)
    (hall : (backToKw pos (keywordEach kws X.env)).all (·.1.isSome) = true := by rfl) (hks : (backToKw pos (keywordEach kws X.env)).filterMap (·.1) = ks := by rfl) (hdb : (x == ("__debug__" : Str)) = false := by decide)
    (hpl : ((backTo pos (starEach [] X.env)).any (·.1) || (backToKw pos (keywordEach kws X.env)).any (·.1.isNone)) = false := by rfl) :
    PE X (.Call (.Name x p) [] kws pos) (tMakeRs C ks sp tk) := by
  refine ⟨fun pins s σ H Q I h => ?_⟩
  refine wpAny_Call_Name_kw (ld_glob I hg hm ?_ hdb)
  refine PySem.W.callWith_KW0 (h₀ := X.base) I.ok.mod.kin M.kp hall ?_ hpl
  refine thn (hkw.run pos pins s σ H _ I h) fun ws s2 ⟨zs, H2, I2, rz, lz, q2⟩ => ⟨I2.kIn, ?_⟩
  rw [hks]
  have hlw : ws.length = ks.length := by rw [← rz.length]; exact lz
  have hq := q2 (s2.heap.objs.size + 1) s2.heap.objs.size (I2.hok.fresh (Nat.le_succ _)) (I2.hok.fresh (Nat.le_refl _)) (Nat.ne_of_lt (Nat.lt_succ_self _))
  have I3 := Inv.made (C := C) I2
  refine wpAny_call (make_map (f := f) I2.kIn M.makes M.init (beq_iff_eq.mp M.fn) (codeAny_mono (F.run _ X.stack _ _ (.ref (s2.heap.objs.size + 1)) ws (.ref (s2.heap.objs.size + 1)) zs _ E0 (hr.make C [] (ks.zip ws)) (I3.env0.make C [] (ks.zip ws)) rfl rz hlw hq) fun r s' hq' => ?_))
  cases r with
  | error e => exact False.elim hq'
  | ok fl =>
    cases fl with
    | ret u =>
      obtain ⟨v, H', I4, rv, ev, q3⟩ := I3.after hq'
      subst ev
      exact ⟨rv, ⟨V.ref (s2.heap.objs.size + 1), H', I4, rfl, q3⟩⟩
    | next => exact False.elim hq'
    | brk => exact False.elim hq'
    | cont => exact False.elim hq'
end
end FR
set_option Elab.async false
set_option linter.all false
set_option maxRecDepth 100000
set_option maxHeartbeats 1000000
/-! C.m(e, ..), m a staticmethod; Program.of -/
namespace FR
open PySem PySem.Spec PyProof.Rows L2
/-- C.m is a staticmethod: its record at p, its def at g -/
structure SMet (K : PySem.W.Frag) (C : Addr) (mc : Value) (m : Str) (p g : Addr) : Prop where
  at_ : PySem.W.findCls K (.ref C) mc m = some (.get (.builtin "staticmethod.__get__") (.ref p) .none (.ref C))
  rc : ∃ rest, PySem.W.recIn K p "staticmethod" = some (.ref g :: rest)
  hv : PySem.W.handedIn (.ref g) = true
  kp : PySem.W.keepIn K (.ref g) = true
def tSMeth (C : Addr) (sp : Sp) (dvs : List V) (E : XK) (ta : TE) (t : TA) : TE := fun σ H Q => ta σ H fun x H1 => x = .ref C ∧ t σ H1 fun vs H2 => sp (vs ++ dvs) H2 Q E
section
variable {X : Cx} {CX : CXT} {k : Nat} {C p g : Addr} {mc : Value} {fd : FuncData} {ps : List Str} {sp : Sp} {ds : List Value} {dvs : List V} {E : XK} {o e : Expr} {es : List Expr} {m : Str} {pos apos : Pos} {ta : TE} {t : TA} {pl : Sem Bool}
theorem pe_smeth (he : PE X o ta) (r : ClX.CRead X.K C mc) (c : SMet X.K C mc m p g) (F : FnOk X.prog X.w X.K X.mg X.base CX k g fd ps sp) (hr : Room k X.A) (hb : Binds X.K fd ps ds) (hd : Vals dvs ds) (hx : Passes CX X E) (ha : PA X (e :: es) t)
    (hst : starEach (e :: es) X.env = (false, eval e X.env) :: starEach es X.env := by rfl) (hpl : (backTo pos (starEach es X.env)).any (·.1) = false := by rfl)
    (ht : eval (.Call (.Attribute o m apos) (e :: es) [] pos) X.env = (do
      let ov ← eval o X.env
      standAt apos.atName
      let (f, first) ← holding [ov] (getMethod ov m pl)
      callWith pos f first (backTo pos (starEach (e :: es) X.env)) (backToKw pos (keywordEach [] X.env))) := by rfl) :
    PE X (.Call (.Attribute o m apos) (e :: es) [] pos) (tSMeth C sp dvs E ta t) := by
  refine ⟨fun pins s σ H Q I h => ?_⟩
  refine PySem.W.methodCall_KW (pl := pl) (thn (he.run pins s σ H _ I h) fun u s1 ⟨x, H1, I1, rx, ex, q⟩ => ?_) ht
  subst ex
  obtain rfl : u = Value.ref C := rx
  obtain ⟨rest, hp⟩ := c.rc
  refine PySem.W.method_cls I1.kIn r.ga (PySem.W.cls_bind I1.kIn r.rd c.at_ (wpAny_call (PySem.W.sm_get (s := { s1 with toks := s1.toks + 1 }) I1.kIn hp (PySem.W.handed_on c.hv ?_))))
  have I2 : Inv X pins σ H1 { s1 with toks := s1.toks + 1 } := I1.tok _
  refine PySem.W.callWith_K (h₀ := X.base) I2.ok.mod.kin c.kp (thn (ha.run pos pins _ σ H1 _ I2 q) fun us s3 ⟨vs, H3, I3, rv, q3⟩ => ⟨I3.kIn, ?_⟩) hst hpl
  exact run_fn F hr hb hd hx I3 rv q3
end
section
variable {P : Program} {w : World} {K : PySem.W.Frag} {mg : Str → Option Value} {base : Heap}
abbrev sPo : Stmt := inClass (top 29) 1
theorem scPo : FnScope ["bodies"] ["bodies"] (defScope sPo) := ⟨rfl, rfl, rfl, by decide +kernel, rfl, by decide +kernel, by decide +kernel⟩
def spOf (K : PySem.W.Frag) (C : Addr) : Sp := fun vs H Q _ => ∃ t kvs p, vs = [.ref t] ∧ H t = some (.dK kvs) ∧ PrgK H kvs p ∧ Prg p ∧ (names p).Nodup ∧
  ∀ q x H', q.Perm p → sortedS (names q) = true → H x = none → Same H H' → IsPg K C H' x q → FreshB H H' x → Q (.ref x) H'
/-- what a new instance's __init__ asks, from what the caller wants -/
theorem new_pi {C CG : Addr} {H HG : Hp} {x dx d : Addr} {kvs gvs : List (Key × V)} {p : Pg} {Q : VK} (s1 : Same H HG) (nx : HG x = none) (ndx : HG dx = none) (nex : dx ≠ x) (nd : upd (upd HG dx (.own x)) x (.ins C dx []) d = none)
    (hk : PrgK H kvs p) (hp : Prg p) (hn : (names p).Nodup) (hg : (∃ g dg t, gvs = [(.inr "_given", .ref g)] ∧ HG g = some (.ins CG dg [("table", .ref t)]) ∧ HG t = some (.dK kvs)) ∨ (gvs = kvs ∧ valV kvs (.inr "_given") = none))
    (q : ∀ q x H', q.Perm p → sortedS (names q) = true → H x = none → Same H H' → IsPg K C H' x q → FreshB H H' x → Q (.ref x) H') {E : XK} :
    spPi K C CG [V.ref x, V.ref d] (upd (upd (upd HG dx (.own x)) x (.ins C dx [])) d (.dK gvs)) (fun v H3 => v = V.non ∧ Q (.ref x) H3) E := by
  have ndx' : d ≠ x := fun e => by rw [e, upd_same] at nd; cases nd
  have keep : ∀ a o, HG a = some o → upd (upd (upd HG dx (.own x)) x (.ins C dx [])) d (.dK gvs) a = some o := fun a o e => by
    have n1 : a ≠ x := ne_of_none e nx
    have n2 : a ≠ dx := ne_of_none e ndx
    have n3 : a ≠ d := fun z => by
      rw [← z, upd_ne n1, upd_ne n2, e] at nd
      cases nd
    rw [upd_ne n3, upd_ne n1, upd_ne n2]
    exact e
  have s2 : Same H (upd (upd (upd HG dx (.own x)) x (.ins C dx [])) d (.dK gvs)) := fun a o e => keep _ _ (s1 _ _ e)
  have hxN : H x = none := by
    cases e : H x with
    | none => rfl
    | some o => rw [s1 _ _ e] at nx; cases nx
  refine ⟨x, d, dx, kvs, p, rfl, by rw [upd_ne (Ne.symm ndx'), upd_same], ?_, (Tk.same s2).pg hk, hp, hn, fun qq H' qp qs b i f => ⟨rfl, q qq x H' qp qs hxN (fun a o e => b a o (ne_of_none e hxN) (s2 _ _ e)) i (f.back s2)⟩⟩
  rcases hg with ⟨g, dg, t, e1, e2, e3⟩ | ⟨e1, e2⟩
  · exact .inl ⟨g, dg, t, by rw [upd_same, e1], keep _ _ e2, keep _ _ e3⟩
  · exact .inr ⟨by rw [upd_same, e1], e2⟩
theorem ok_of {f fi gi C CG : Addr} {fd gd : FuncData} (F : Fun K "of" "Program.of" sPo f fd) (M : Mk K C fi) (G : FnRs P w K mg base 13 fi ["_given"] (spPi K C CG)) (mC : mg "Program" = some (.ref C)) (MG : Mk K CG gi) (GG : FnOk P w K mg base CX0 1 gi gd ["self", "table"] (spGi CG)) (mG : mg "Given" = some (.ref CG)) (bG : Binds K gd ["self", "table"] []) : FnOk P w K mg base CX0 15 f fd ["bodies"] (spOf K C) := by
  refine F.ok scPo (fun vs H Q E h => ?_) (fun cdv A outer s H vs Q E hr h => ?_)
  · obtain ⟨t, kvs, p, rfl, _⟩ := h
    rfl
  · obtain ⟨t, kvs, p, rfl, ht, hk, hp, hn, q⟩ := h
    refine ⟨_, pss_one (ps_ret (pe_makeRs M G hr (by rfl) mC (pk_cons (pe_make MG GG (hr.mono (by decide)) (by rfl) mG bG .nil pass0 (pa_cons (pv 0) pa_nil)) pk_nil))), ?_⟩
    refine ⟨_, rfl, fun g dg ng ndg neg => ⟨g, dg, V.ref t, rfl, upd_same, ?_⟩⟩
    have s1 : Same H (upd (upd (upd H dg (.own g)) g (.ins CG dg [])) g (.ins CG dg [("table", .ref t)])) := fun a o e => by
      have n1 : a ≠ g := ne_of_none e ng
      have n2 : a ≠ dg := ne_of_none e ndg
      rw [upd_ne n1, upd_ne n1, upd_ne n2]
      exact e
    have hg1 : (upd (upd (upd H dg (.own g)) g (.ins CG dg [])) g (.ins CG dg [("table", .ref t)])) g = some (.ins CG dg [("table", .ref t)]) := upd_same
    refine ⟨rfl, rfl, ?_⟩
    generalize upd (upd (upd H dg (.own g)) g (.ins CG dg [])) g (.ins CG dg [("table", .ref t)]) = HG at s1 hg1 ⊢
    intro x dx nx ndx nex d nd
    exact new_pi (HG := HG) s1 nx ndx nex nd hk hp hn (.inl ⟨g, dg, t, rfl, hg1, s1 _ _ ht⟩) q
end
end FR
set_option Elab.async false
set_option linter.all false
set_option maxRecDepth 100000
set_option maxHeartbeats 1000000
/-! len(x), v in x, x[v] by own methods -/
namespace L2
open PySem PySem.Spec PyProof.Rows PySem.Calls
section
variable {X : Cx} {CX : CXT} {k : Nat} {f C a : Addr} {fd : FuncData} {ps : List Str} {sp : Sp} {E : XK}
/-- len(x) -/
def rLenOwn (C : Addr) (sp : Sp) (E : XK) : List V → Hp → VK → Prop := fun xs H Q => ∃ a dx fs, xs = [.ref a] ∧ H a = some (.ins C dx fs) ∧ sp [.ref a] H (fun z H' => ∃ n : Int, z = .int n ∧ (0 ≤ n ∧ n < 2 ^ 63) ∧ Q z H') E
theorem call_lenOwn (D : Dun X.K C "__len__" f) (F : FnOk X.prog X.w X.K X.mg X.base CX k f fd ps sp) (hr : Room (k + 1) X.A) (hb : Binds X.K fd ps []) (hx : Passes CX X E) : CallR X (.builtin "len") (rLenOwn C sp E) := by
  intro pins s σ H xs us Q I r ⟨a, dx, fs, ex, ea, h⟩
  subst ex
  obtain ⟨u, rfl, ru⟩ := vals1 r
  cases (show u = .ref a from ru)
  obtain ⟨od, J, _⟩ := ins_at I ea
  obtain ⟨m, hF⟩ := I.fr
  refine PySem.W.len_K hF I.ok.mod.kin J D.at_ D.fn (wpAny_mono (run_sub ⟨hr.in1, rfl⟩ F hb hx I (.cons (rRef a) .nil) h) (fun w' s' ⟨z, H', I', rz, n, ez, hn, q⟩ => ?_) fun _ _ e => e)
  subst ez
  obtain ⟨t, rfl⟩ := rz
  exact ⟨hn, .int n, H', I'.tok _, rInt n _, q⟩
/-- v in x -/
def rInOwn (C : Addr) (sp : Sp) (E : XK) : R2 := fun x y H Q => ∃ a dx fs, y = .ref a ∧ H a = some (.ins C dx fs) ∧ sp [.ref a, x] H (fun z H' => ∃ r, z = .bl r ∧ Q z H') E
theorem op_inOwn (D : Dun X.K C "__contains__" f) (F : FnOk X.prog X.w X.K X.mg X.base CX k f fd ps sp) (hr : Room k X.A) (hb : Binds X.K fd ps []) (hx : Passes CX X E) : OpR X (compareOp .In) (rInOwn C sp E) := by
  intro pins s σ H x y v u Q I rx ry ⟨a, dx, fs, ey, ea, h⟩
  subst ey
  cases (show u = .ref a from ry)
  obtain ⟨od, J, _⟩ := ins_at I ea
  obtain ⟨m, hF⟩ := I.fr
  refine PySem.W.in_K hF I.ok.mod.kin J D.at_ D.fn (wpAny_mono (run_sub ⟨hr, rfl⟩ F hb hx I (.cons (rRef a) (.cons rx .nil)) h) (fun w' s' ⟨z, H', I', rz, r, ez, q⟩ => ?_) fun _ _ e => e)
  subst ez
  cases (show w' = .bool r from rz)
  exact wpAny_truthy_bool ⟨.bl r, H', I', rfl, q⟩
def rNotInOwn (C : Addr) (sp : Sp) (E : XK) : R2 := fun x y H Q => ∃ a dx fs, y = .ref a ∧ H a = some (.ins C dx fs) ∧ sp [.ref a, x] H (fun z H' => ∃ r, z = .bl r ∧ Q (.bl (!r)) H') E
theorem op_notInOwn (D : Dun X.K C "__contains__" f) (F : FnOk X.prog X.w X.K X.mg X.base CX k f fd ps sp) (hr : Room k X.A) (hb : Binds X.K fd ps []) (hx : Passes CX X E) : OpR X (compareOp .NotIn) (rNotInOwn C sp E) := by
  intro pins s σ H x y v u Q I rx ry ⟨a, dx, fs, ey, ea, h⟩
  subst ey
  cases (show u = .ref a from ry)
  obtain ⟨od, J, _⟩ := ins_at I ea
  obtain ⟨m, hF⟩ := I.fr
  refine PySem.W.notIn_K hF I.ok.mod.kin J D.at_ D.fn (wpAny_mono (run_sub ⟨hr, rfl⟩ F hb hx I (.cons (rRef a) (.cons rx .nil)) h) (fun w' s' ⟨z, H', I', rz, r, ez, q⟩ => ?_) fun _ _ e => e)
  subst ez
  cases (show w' = .bool r from rz)
  exact wpAny_truthy_bool ⟨.bl (!r), H', I', rfl, q⟩
/-- x[v] -/
def tSubOwn (C : Addr) (sp : Sp) (E : XK) (to te : TE) : TE := fun σ H Q => to σ H fun x H1 => te σ H1 fun y H2 => ∃ a dx fs, x = .ref a ∧ H2 a = some (.ins C dx fs) ∧ sp [.ref a, y] H2 Q E
variable {o e : Expr} {to te : TE} {pos : Pos}
theorem pe_subOwn (D : Dun X.K C "__getitem__" f) (hfi : PySem.W.fnIn X.K f = true) (F : FnOk X.prog X.w X.K X.mg X.base CX k f fd ps sp) (hr : Room (k + 1) X.A) (hb : Binds X.K fd ps []) (hx : Passes CX X E) (ho : PE X o to) (he : PE X e te)
    (hsl : ∀ x i, subscripted e true (.ref x) i = runValue (.builtin "lifetime.subscript" ⟨[.ref x, i], []⟩) := by intro _ _; with_unfolding_all rfl) : PE X (.Subscript o e pos) (tSubOwn C sp E to te) := by
  refine ⟨fun pins s σ H Q I h => ?_⟩
  refine Subscript_ (thn (ho.run pins s σ H _ I h) fun v s1 ⟨x, H1, I1, rx, q1⟩ => thn (he.run pins s1 σ H1 _ I1 q1) fun u s2 ⟨y, H2, I2, ry, a, dx, fs, ex, ea, q2⟩ => ?_)
  subst ex
  cases (show v = .ref a from rx)
  obtain ⟨od, J, _⟩ := ins_at I2 ea
  obtain ⟨m, hF⟩ := I2.fr
  exact PySem.W.sub_K hF I2.ok.mod.kin J D.at_ hfi D.fn (run_sub ⟨hr.in1, rfl⟩ F hb hx I2 (.cons (rRef a) (.cons ry .nil)) q2) (hsl a u)
end
end L2
set_option Elab.async false
set_option linter.all false
set_option maxRecDepth 100000
set_option maxHeartbeats 2000000
/-! KeyError: its __new__ is that of LookupError, its __init__ its own -/
namespace XN
open PySem PySem.W PySem.Calls PyProof.Rows PySem.Spec
abbrev keB : List Value := [.type "KeyError", .type "LookupError", .type "Exception", .type "BaseException", .type "object"]
theorem ke_kxs : KxsFacts "KeyError" "KeyError.__init__" :=
  { typ := (by show builtinType _ = _; rw [builtinType_eq_fast] <;> kernel_rfl), nac := (by first | kernel_rfl | rfl) }
theorem ke_store : StoreFacts "KeyError" keB "object.__setattr__" "object" := {
  mro := (by kernel_rfl), entry := PySem.F.store_ValueError.entry, kind := (by decide +kernel), split := (by decide +kernel), hasOwner := (by decide +kernel), args := PySem.F.store_ValueError.args, passes := (fun _ => by kernel_rfl),
  slot := .of (owner := "object") (n := "__setattr__") (by rw [typeLookup_type, builtinLookup_eq_fast] <;> kernel_rfl) (by decide +kernel) (by decide +kernel) (by decide +kernel) (by first | exact .inl (by decide +kernel) | exact .inr (by decide +kernel)) (by rw [isSubtype_type] <;> kernel_rfl) }
theorem ke_init : Slot "KeyError" "__init__" "KeyError.__init__" :=
  .of (owner := "KeyError") (n := "__init__") (by rw [typeLookup_type, builtinLookup_eq_fast] <;> kernel_rfl) (by decide +kernel) (by decide +kernel) (by decide +kernel) (by first | exact .inl (by decide +kernel) | exact .inr (by decide +kernel)) (by rw [isSubtype_type] <;> kernel_rfl)
theorem ke_initEntry : entryFor table "KeyError.__init__" = some Builtin.«BaseException.__init__» :=
  entryFor_alias (id' := "BaseException.__init__") (by rw [fastTable_eq_tree] <;> kernel_rfl) (by first | rfl | decide +kernel) (by decide +kernel) (by rw [fastTable_eq_tree] <;> kernel_rfl)
theorem ke_kind : builtinKind "KeyError.__init__" = some .slot := by kernel_rfl
theorem ke_row : Manifest.signature? "KeyError.__init__" = some ⟨.positional, "*", "KeyError", .self, [⟨"args", .varPos, false⟩]⟩ := by kernel_rfl
section
variable {prog : Program} {w : World} {M : Model} {A : Around} {E : Value → Shared → Prop} {R : Result → Shared → Prop} {h : Heap} {g : Array GenState} {d : Drawn} {t : Nat} {os : OsState}
variable {nm q : Str} {C N : Addr} {bs bm bmB : List Value} {hdct : Bool} {sn : List Str} {sub : List Value} {ab : Bool} {col : Option Bool} {dd : Option Addr} {k0 k1 k2 k3 k5 : Option Value} {B newId initId : String}
theorem ke_bound {e : Addr} {oe : Obj} {rest : List Value} {Q : Unit → Shared → Prop} (hC : h.get? C = some (excClassObj nm q C N bs bm hdct sn sub ab col dd k0 k1 k2 k3 k5 newId)) (he : h.get? e = some oe) (hcls : oe.cls = .ref C)
    (hq : Q () ⟨h, g, d, t, os⟩) : wpAny M A (checkBoundCall "KeyError.__init__" ⟨.ref e :: rest, []⟩) Q E ⟨h, g, d, t, os⟩ := by
  have hshort : ("KeyError" != "*") = true := by decide +kernel
  simp only [checkBoundCall, ke_kind, ke_row]
  repeat (first
    | (with_reducible refine wpAny_loadPart_at he ?_; rw [hcls])
    | with_reducible refine wpAny_loadPart_at hC ?_
    | wp_step)
  refine wpAny_onRaise ?_
  have z : ∀ (a b : String) (n : Nat), Bind.check ⟨.positional, "*", "KeyError", .self, [⟨"args", .varPos, false⟩]⟩ a b n (List.map (fun x => x.fst) ({ pos := Value.ref e :: rest } : Args).kw) = pure () := fun a b n => check_star_args _ _ _ _ _ _
  rw [z]
  exact wpAny_pure hq
theorem ke_bw {u e t0 : Addr} {rest : List Value} {Q : Value → Shared → Prop} (hC : h.get? C = some (excClassObj nm q C N bs bm hdct sn sub ab col dd k0 k1 k2 k3 k5 newId)) (he : h.get? e = some (excObj C t0 none .none))
    (hu : h.get? u = some (kxs_mw "KeyError.__init__" e)) (hz : rest.length ≤ sizeLine)
    (hq : ∀ h' t1, (∀ b o, b ≠ e → h.get? b = some o → h'.get? b = some o) → h'.get? e = some (excObj C t1 none .none) → Q .none ⟨h', g, d, t, os⟩) : wpAny (model prog w) A (call (.ref u) rest) Q E ⟨h, g, d, t, os⟩ := by
  refine wpAny_call (codeAny_of_tree (show wpAny _ A.in1 (callAny (.ref u) ⟨rest, []⟩) _ _ _ from ?_))
  simp only [callAny]
  refine wpAny_bind (wpAny_load hu ?_)
  have y : (Value.type "method-wrapper" == Value.type "method" || Value.type "method-wrapper" == Value.type "builtin_function_or_method" || Value.type "method-wrapper" == Value.type "method-wrapper") = true := by decide
  simp only [kxs_mw, y, if_true]
  refine KFB.if_so (by decide) (wpAny_bind (ke_bound hC he rfl ?_))
  refine wpAny_bind (wpAny_pure (wpAny_pure ⟨plainId_quiet ke_init.plain _, codeAny_builtin ke_initEntry ?_⟩))
  exact exc_init_tree (cls := .ref C) (t0 := t0) (dv := none) (c2 := .none) (c3 := .none) (b4 := .bool false) he hz fun h' k e' _ => hq h' _ k e'
theorem n_new (F : ExcBaseFacts B newId initId bmB) (hB : (Value.ref C :: bm).contains (.type B) = true) (hA : (Value.ref C :: bm).contains (.type "AttributeError") = false) (hN : (Value.ref C :: bm).contains (.type "NameError") = false)
    {rest : List Value} (hC : h.get? C = some (excClassObj nm q C N bs bm hdct sn sub ab col dd k0 k1 k2 k3 k5 newId)) (hrest : rest.length ≤ sizeLine)
    (hq : R (.ok (.ret (.ref (h.objs.size + 1)))) ⟨(h.push (W.kdv_tup rest)).push (PX.excO C h.objs.size), g, d, t, os⟩) : codeAny (model prog w) A (.builtin newId ⟨.ref C :: rest, []⟩) R ⟨h, g, d, t, os⟩ := by
  have hends := F.ends
  refine codeAny_builtinAt F.entry ?_
  unfold Builtin.«BaseException.__new__»
  refine PySem.wpAt_bind (show PySem.wpAt _ _ _ (stack >>= _) _ _ _ from ?_)
  refine PySem.wpAt_bind (PySem.wpAt_stack fun p below => PySem.wpAt_of_wpAny ?_)
  wp_walk
  refine PySem.wpAt_of_wpAny ?_
  rw [F.owner]
  repeat (first
    | with_reducible refine wpAny_madeHere_exc F.canon hC ?_
    | with_reducible refine wpAny_loadPart_at hC ?_
    | (with_reducible refine wpAny_isSubtype_exc hC ?_; first | rw [hB] | rw [hA] | rw [hN])
    | wp_step)
  have z : R (.ok (.ret (.ref (h.push (W.kdv_tup rest)).objs.size))) ⟨(h.push (W.kdv_tup rest)).push (PX.excO C h.objs.size), g, d, t, os⟩ := by
    rw [Heap.size_push]
    exact hq
  exact z
/-- type.__call__ on a class whose built-in __new__ is that of B, whatever else stands among its bases -/
theorem n_call (F : ExcBaseFacts B newId initId bmB) (hB : (Value.ref C :: bm).contains (.type B) = true) (hA : (Value.ref C :: bm).contains (.type "AttributeError") = false) (hN : (Value.ref C :: bm).contains (.type "NameError") = false)
    {rest : List Value} {fI : Addr} (hC : h.get? C = some (excClassObj nm q C N bs bm hdct sn sub ab col dd k0 k1 k2 k3 k5 newId)) (hi : W.Looks (model prog w) h (typeLookup (.ref C) "__init__") (some (.ref fI)))
    (hb : ∀ self, W.Looks (model prog w) h (bindSpecial (.ref fI) self) (.ref fI, [self])) (hrest : rest.length ≤ sizeLine)
    (hq : codeAny (model prog w) (A.under (.builtin "type.__call__" ⟨.ref C :: rest, []⟩)) (.call (.ref fI) ⟨.ref (h.objs.size + 1) :: rest, []⟩) (W.InitBack (h.objs.size + 1) R) ⟨(h.push (W.kdv_tup rest)).push (PX.excO C h.objs.size), g, d, t, os⟩) :
    codeAny (model prog w) A (.call (.ref C) ⟨rest, []⟩) R ⟨h, g, d, t, os⟩ := by
  have tyC : (⟨h, g, d, t, os⟩ : Shared).TypeIs (.ref C) "type" := ⟨_, hC, rfl⟩
  have l1 := tc_lookup
  have l2 := tc_bind (.ref C)
  have hstar := F.noStar
  refine codeAny_of_tree (show wpAny _ _ (callAny (.ref C) _) _ _ _ from ?_)
  repeat (any_goals (first
    | assumption
    | with_reducible refine wpAny_loadPart_at hC ?_
    | wp_step))
  refine ⟨rfl, codeAny_call_builtin_at (Code.quiet_builtin _ (by decide +kernel)) entry_typeCall (wpAny_check_type_call_sub hC ?_)⟩
  repeat (first
    | with_reducible refine wpAny_loadPart_at hC ?_
    | with_reducible refine wpAny_madeBy_exc hC ?_
    | wp_step)
  refine codeAny_call_builtin_code (Code.quiet_builtin _ F.quiet) ?_
  simp only [checkBuiltinCall, F.newKind, F.newSplit, F.newRow]
  repeat (first
    | refine wpAny_loadPart_at hC ?_
    | (refine wpAny_isSubtype_exc hC ?_; rw [hB])
    | refine wpAny_staticBase_exc hC ?_
    | refine wpAny_madeBy_exc hC ?_
    | simp only [bne_self_eq_false, Bool.false_eq_true, if_false]
    | wp_step)
  refine n_new F hB hA hN hC hrest ?_
  show wpAny _ _ _ _ _ _
  have kk : ∀ b o, h.get? b = some o → ((h.push (W.kdv_tup rest)).push (PX.excO C h.objs.size)).get? b = some o := fun b o e => Heap.get?_push_of_some _ (Heap.get?_push_of_some _ e)
  have hC₁ := kk _ _ hC
  have hget : ((h.push (W.kdv_tup rest)).push (PX.excO C h.objs.size)).get? (h.objs.size + 1) = some (PX.excO C h.objs.size) := by heap_get
  have hcC : (Value.ref C :: bm).contains (.ref C) = true := by simp
  have i1 := hi.keeps kk
  have b1 := (hb (.ref (h.objs.size + 1))).keeps kk
  unfold isInstance
  repeat (first
    | with_reducible refine wpAny_loadPart_at hget ?_
    | wp_step)
  show wpAny _ _ (isSubtype (.ref C) (.ref C)) _ _ _
  refine wpAny_isSubtype_exc hC₁ ?_
  rw [hcC]
  repeat (first
    | with_reducible refine wpAny_loadPart_at hget ?_
    | wp_step)
  show wpAny _ _ (typeLookup (.ref C) _) _ _ _
  refine i1.at (wpAny_holding (wpAny_bind (b1.at (wpAny_bind (wpAny_call (codeAny_mono hq fun r s' z => ?_))))))
  rcases r with e | fl
  · exact z
  · cases fl with
    | ret v =>
      obtain ⟨rfl, z⟩ := z
      first
        | exact wpAny_pure (wpAny_pure z)
        | (wp_walk; exact z)
    | next => exact z.elim
    | brk => exact z.elim
    | cont => exact z.elim
end
end XN
namespace XN
open PySem PySem.W PySem.Calls PyProof.Rows PySem.Spec
/-- the same for a class over KeyError -/
structure VTxtK (P : Program) (K : Frag) (mg : Str → Option Value) (C fI : Addr) : Prop where
  init : findIn K (.ref C) "__init__" = some (some (.ref fI))
  q : excInitIn K C keB "LookupError.__new__" = true
  isf : isFn K (.ref fI) = true
  gS : mg "super" = none
  any : nsIn K cStatics "thirdparty.any" = some none
  sm : ks_superIn K C C "__init__" = some (some (.builtin "KeyError.__init__"))
  sB : subIn K (.ref C) (.type "KeyError") = some true
  sa : findIn K (.ref C) "__setattr__" = some (some (.builtin "object.__setattr__"))
  ov : excOver K C keB = true
  tk : takerIn K C "name" = some none
  hh : hasDictIn K C = true
  me : mroIn K C (.ref C) = some true
  top : (P.main.scope.names.lookup ("super" : Str)).isSome = false
theorem boot_super : bootBuiltins "super" = some (.type "super") := by decide +kernel
/-! ### name -/
abbrev sV_name : Stmt := L2.inClass (FR.top 5) 0
/-- the function of such an __init__ stands at fI -/
def VFn_name (P : Program) (K : Frag) (C fI : Addr) (qual : Str) : Prop := ∃ (oc doc pm kV ct : Value) (od an : Option Addr) (cda cc : Addr) (osl : Array (Option Value)),
    K.lookup fI = some ⟨oc, od, .func (ksFn "__init__" qual (L2.defArgs sV_name) (L2.defBody sV_name) (L2.defScope sV_name) .none kV doc pm an (.ref cda) ct cc), osl⟩ ∧ codeIn K (.ref cda) qual = true ∧
    (∃ ccl cdd vs ccs file tf, K.lookup cda = some ⟨ccl, cdd, .fields vs, ccs⟩ ∧ vs[2]? = some (.str file tf) ∧ ((P.main.file : Str) == file) = true) ∧
    ∃ cl cld csl, K.lookup cc = some ⟨cl, cld, .cell (some (.ref C)), csl⟩
section
variable {P : Program} {w : World} {A : Around} {E : Value → Shared → Prop} {s : Shared} {K : Frag} {mg : Str → Option Value} {h₀ : Heap} {L C fI : Addr} {m : Str → Option Value}
variable {qual fld : Str} {B newId i : String} {bmB : List Value}
theorem v_made_name (T : VTxtK P K mg C fI) (TF : VFn_name P K C fI qual) (M : L2.Mod K mg h₀) (F : Fr h₀ L s.heap m) (hroom : A.depth + 1 < recursionLimit) {v : Value} {Q : Value → Shared → Prop}
    (hq : ∀ (h' : Heap) (tk : Nat) (e t d : Addr) (o : Obj), (∀ b u, s.heap.get? b = some u → h'.get? b = some u) → s.heap.objs.size ≤ e → s.heap.objs.size ≤ d → d ≠ e →
      h'.get? e = some (excObj C t (some d) .none) → h'.get? d = some o → lookIn "name" o = some (some v) → Q (.ref e) { s with heap := h', toks := tk }) :
    wpAny (model P w) A (call (.ref C) [v]) Q E s := by
  obtain ⟨oc, doc, pm, kV, ct, od, an, cda, cc, osl, hfn, hcode, ⟨ccl, cdd, vs, ccs, file, tf, hcda, hvs2, hfile⟩, cl, cld, csl, hcell⟩ := TF
  obtain ⟨mb, nb, hbb⟩ := M.blt
  have X : K.In s.heap := M.kin.keeps F.keep
  obtain ⟨nm, N', qn, bs, bm, hdct, sn, sub, ab, col, dd, k0, k1, k2, k3, k5, hC, hT⟩ := excInit_of X T.q
  obtain ⟨oI, hoI, hcI⟩ : ∃ oI, s.heap.get? fI = some oI ∧ oI.cls = .type "function" := by
    obtain ⟨o, ho, hc⟩ := Option.map_eq_some_iff.mp (show (K.lookup fI).map (·.cls) = some (.type "function") from beq_iff_eq.mp T.isf)
    exact ⟨o, X _ _ ho, hc⟩
  obtain ⟨cdC, hcdC⟩ : ∃ cdC, clsIn K C = some cdC := by
    obtain ⟨z, y, _⟩ := any_some T.hh
    exact ⟨z, y⟩
  obtain ⟨hp, g, dr, tk, os⟩ := s
  dsimp only at hq F X hC hoI
  have hB : (Value.ref C :: bm).contains (.type "LookupError") = true := by
    rw [List.contains_cons, hT]
    rfl
  have hA : (Value.ref C :: bm).contains (.type "AttributeError") = false := by
    rw [List.contains_cons, hT]
    rfl
  have hN : (Value.ref C :: bm).contains (.type "NameError") = false := by
    rw [List.contains_cons, hT]
    rfl
  refine wpAny_call (n_call PySem.F.excBase_LookupError hB hA hN hC (looks_findIn X T.init) (fun self => exc_bind hoI hcI self) (by show 1 ≤ sizeLine; decide) ?_)
  generalize hh1 : (hp.push (kdv_tup [v])).push (PX.excO C hp.objs.size) = h1
  have k1 : ∀ b u, hp.get? b = some u → h1.get? b = some u := fun b u e => by
    rw [← hh1]
    exact Heap.get?_push_of_some _ (Heap.get?_push_of_some _ e)
  have he : h1.get? (hp.objs.size + 1) = some (excObj C hp.objs.size none .none) := by
    rw [← hh1]
    heap_get
  have s1 : h1.objs.size = hp.objs.size + 2 := by
    rw [← hh1, Heap.size_push, Heap.size_push]
  have X1 : K.In h1 := X.keeps k1
  have hlow : h₀.objs.size < hp.objs.size := Nat.lt_of_le_of_lt F.above F.ns.lt
  refine ks_codeAny_call_defAt (fd := ksFn "__init__" qual (L2.defArgs sV_name) (L2.defBody sV_name) (L2.defScope sV_name) .none kV doc pm an (.ref cda) ct cc) (body := L2.defBody sV_name) (binds := [("self", Value.ref (hp.objs.size + 1)), ("name", v)])
    (by show A.depth + 1 < recursionLimit; exact hroom) (X1 _ _ hfn) rfl ((M.nolimit.keeps F.keep).keeps k1) (codeRec_of X1 hcode) rfl (BindsTo.of_eq (by first | rfl | with_unfolding_all rfl))
    (by show ∀ x ∈ (L2.defScope sV_name).names, x.2 ≠ NameKind.cell; decide) (by simp only [List.mem_cons, List.not_mem_nil, or_false, forall_eq_or_imp, forall_eq]; exact ⟨rfl, rfl⟩) (fun h2 hn2 k2 => ?_)
  have F2 : Fr hp h1.objs.size h2 (fun x => ([("self", Value.ref (hp.objs.size + 1)), ("name", v)] : List (Str × Value)).reverse.lookup x) :=
    ⟨hn2, fun b o e => k2 b o (k1 b o e), by
      show hp.objs.size ≤ h1.objs.size
      omega⟩
  have N2 : News hp h1.objs.size h2 [(hp.objs.size + 1, excObj C hp.objs.size none .none)] := fun p hp' => by
    rcases List.mem_cons.mp hp' with rfl | z
    · refine ⟨k2 _ _ he, ?_, ?_⟩
      · show hp.objs.size + 1 ≠ h1.objs.size
        omega
      · cases z : hp.get? (hp.objs.size + 1) with
        | none => rfl
        | some o =>
          have z1 : hp.objs.size + 1 < hp.objs.size := Heap.lt_size z
          omega
    · cases z
  show _root_.PySem.wpAt _ _ _ (execs (L2.defBody sV_name) (ksEnv qual (L2.defScope sV_name) h1.objs.size fI (.ref cda) cc)) _ _ _
  refine ks_wpAt_execs_cons (ks_wpAt_Expr_any (ks_wpAt_MethodCall ?_))
  have X2 : K.In h2 := X1.keeps k2
  have G2 : h2.Ns mainGlobals mg := (M.glob.keeps F.keep).keeps fun b o e => k2 b o (k1 b o e)
  have B2 : h2.Ns builtinsNs mb := (nb.keeps F.keep).keeps fun b o e => k2 b o (k1 b o e)
  have I2 : InstAt h2 (hp.objs.size + 1) (excObj C hp.objs.size none .none) C none := ⟨k2 _ _ he, rfl, rfl, trivial⟩
  obtain ⟨oD, hD1, hD2⟩ : ∃ oD, h2.get? C = some oD ∧ oD.data = .cls cdC := by
    unfold clsIn at hcdC
    split at hcdC
    · rename_i c d cd' sl ho
      cases hcdC
      exact ⟨_, X2 _ _ ho, rfl⟩
    · cases hcdC
  refine ks_wpAt_super_base (env := ksEnv qual (L2.defScope sV_name) h1.objs.size fI (.ref cda) cc) rfl rfl rfl rfl (X2 _ _ hfn) rfl rfl rfl (X2 _ _ hcda) rfl hvs2 hfile T.top ?_
  refine ks_loadName_global rfl rfl (loadGlobal_builtin (env := ksEnv qual (L2.defScope sV_name) h1.objs.size fI (.ref cda) cc) G2 T.gS B2 ((hbb _ (by decide +kernel)).trans boot_super) ⟨rfl, ?_⟩)
  refine wpAny_loadName_free rfl rfl rfl ⟨_, X2 _ _ hcell, rfl⟩ ?_
  refine wpAny_loadName_local (v := .ref (hp.objs.size + 1)) rfl rfl F2.ns (by first | rfl | with_unfolding_all rfl | kernel_rfl) ?_
  refine ks_wpAny_isType_cls hD1 hD2 ⟨rfl, ?_⟩
  refine ks_wpAny_call_super hD1 hD2 I2.at_ I2.cls (fun c e => nomatch e) (looks_mroIn X2 T.me) (fun h3 e3 k3 => ?_)
  obtain ⟨F3, N3, _⟩ := ks_newsPush (s := ⟨h2, g, dr, 0, os⟩) F2 N2 rfl e3 k3
  have I3 : InstAt h3 (hp.objs.size + 1) (excObj C hp.objs.size none .none) C none := ⟨k3 _ _ (k2 _ _ he), rfl, rfl, trivial⟩
  refine kxs_method (D := C) ke_kxs F3 X N3 (by simp) I3 T.any T.sm T.sB rfl (fun q h4 F4 N4 lt4 => ?_)
  refine kxs_callWith1 (i := "KeyError.__init__") (x := hp.objs.size + 1) N4 (by simp) ?_ rfl rfl
  refine Calls.spliced_cons ?_
  refine Calls.Constant_str (k := 0) (pos := ⟨0, 0, 0, 0⟩) ?_
  refine Calls.spliced_nil ⟨kxs_at (i := "KeyError.__init__") N4 (by simp), ?_⟩
  have he4 := (N4 (hp.objs.size + 1, excObj C hp.objs.size none .none) (by simp)).1
  have hu4 := (N4 (q, kxs_mw "KeyError.__init__" (hp.objs.size + 1)) (by simp)).1
  have hs4 := (N4 (h2.objs.size, ks_superObj C (hp.objs.size + 1) C) (by simp)).1
  have neq : q ≠ hp.objs.size + 1 := Nat.ne_of_gt (lt4 (hp.objs.size + 1, excObj C hp.objs.size none .none) (by simp))
  have nes : h2.objs.size ≠ hp.objs.size + 1 := Nat.ne_of_gt (Heap.lt_size (k2 _ _ he))
  refine ke_bw (F4.keep _ _ hC) he4 hu4 (by show 1 ≤ sizeLine; decide) (fun h5 t5 k5 e5 => ?_)
  have F5 : Fr hp h1.objs.size h5 (fun x => ([("self", Value.ref (hp.objs.size + 1)), ("name", v)] : List (Str × Value)).reverse.lookup x) := by
    obtain ⟨oL, es, ep, hL, r⟩ := F4.ns
    refine ⟨⟨oL, es, ep, k5 _ _ ?_ hL, r⟩, fun b o z => k5 b o (fun y => ?_) (F4.keep b o z), F4.above⟩
    · show h1.objs.size ≠ hp.objs.size + 1
      omega
    · have y2 : b < hp.objs.size := Heap.lt_size z
      rw [y] at y2
      exact Nat.not_lt.mpr (Nat.le_succ _) y2
  have N5 : News hp h1.objs.size h5 [(q, kxs_mw "KeyError.__init__" (hp.objs.size + 1)), (h2.objs.size, ks_superObj C (hp.objs.size + 1) C), (hp.objs.size + 1, excObj C t5 none .none)] := by
    intro p hp'
    simp only [List.mem_cons, List.not_mem_nil, or_false] at hp'
    rcases hp' with rfl | rfl | rfl
    · exact ⟨k5 _ _ neq hu4, (N4 (q, kxs_mw "KeyError.__init__" (hp.objs.size + 1)) (by simp)).2⟩
    · exact ⟨k5 _ _ nes hs4, (N4 (h2.objs.size, ks_superObj C (hp.objs.size + 1) C) (by simp)).2⟩
    · exact ⟨e5, (N4 (hp.objs.size + 1, excObj C hp.objs.size none .none) (by simp)).2⟩
  refine ks_wpAt_execs_cons (ks_wpAt_Assign_Attr (wpAt_of_wpAny ?_))
  refine wpAny_Name ?_
  refine wpAny_loadName_local (v := v) rfl rfl F5.ns (by first | rfl | with_unfolding_all rfl | kernel_rfl) ?_
  refine wpAny_Name ?_
  refine wpAny_loadName_local (v := .ref (hp.objs.size + 1)) rfl rfl F5.ns (by first | rfl | with_unfolding_all rfl | kernel_rfl) ?_
  have U5 : UpdF (hp.objs.size + 1) (excObj C t5 none .none) [(q, kxs_mw "KeyError.__init__" (hp.objs.size + 1)), (h2.objs.size, ks_superObj C (hp.objs.size + 1) C), (hp.objs.size + 1, excObj C t5 none .none)]
      (fun o' => [(q, kxs_mw "KeyError.__init__" (hp.objs.size + 1)), (h2.objs.size, ks_superObj C (hp.objs.size + 1) C), (hp.objs.size + 1, o')]) := .tail neq (.tail nes (.head fun p z => nomatch z))
  refine set_exc0 ke_store F5 X N5 (by simp) T.sa T.ov T.tk T.hh rfl U5 (by show 1 ≤ 1000; decide) (fun dx h6 F6 N6 lt6 => ?_)
  refine wpAt_of_wpAny (wpAny_execs_nil ⟨rfl, ?_⟩)
  refine hq h6 _ (hp.objs.size + 1) t5 dx _ F6.keep (Nat.le_succ _) ?_ ?_ (N6 (hp.objs.size + 1, excObj C t5 (some dx) .none) (by simp)).1 (N6 _ (List.mem_cons_self)).1 ?_
  · exact Nat.le_of_lt (Nat.lt_of_succ_lt (lt6 (hp.objs.size + 1, excObj C t5 none .none) (by simp)))
  · exact Nat.ne_of_gt (lt6 (hp.objs.size + 1, excObj C t5 none .none) (by simp))
  · first | rfl | with_unfolding_all rfl | simp [lookIn, putL, Value.isStr]
end
end XN
namespace L2
open PySem PySem.Spec PyProof.Rows
/-- the own dict of an exception held as a value: its field -/
def ExD (fld : Str) (v : V) (d : Addr) : HO := .ext fun h => ∃ (o : Obj) (u : Value), h.get? d = some o ∧ PySem.W.lookIn fld o = some (some u) ∧ RelV v u
/-- the class at C makes exceptions that keep their one argument as the attribute fld -/
def VMade (P : Program) (w : World) (K : PySem.W.Frag) (mg : Str → Option Value) (C : Addr) (fld : Str) : Prop :=
  ∀ {A : Around} {E : Value → Shared → Prop} {s : Shared} {h₀ : Heap} {L : Addr} {m : Str → Option Value}, Mod K mg h₀ → Fr h₀ L s.heap m → A.depth + 1 < recursionLimit → ∀ {v : Value} {Q : Value → Shared → Prop},
    (∀ (h' : Heap) (tk : Nat) (e t d : Addr) (o : Obj), (∀ b u, s.heap.get? b = some u → h'.get? b = some u) → s.heap.objs.size ≤ e → s.heap.objs.size ≤ d → d ≠ e →
      h'.get? e = some (PySem.W.excObj C t (some d) .none) → h'.get? d = some o → PySem.W.lookIn fld o = some (some v) → Q (.ref e) { s with heap := h', toks := tk }) →
    wpAny (model P w) A (call (.ref C) [v]) Q E s
section
variable {X : Cx}
/-- raise C(e), C's instances keep their one argument -/
def tMkN (C : Addr) (fld : Str) (ta : TE) : St → Hp → XK → Prop := fun σ H Q => ta σ H fun v H1 => ∀ d, H1 d = none → Q (.ref C) (some d) (upd H1 d (ExD fld v d))
theorem pmk_name {C : Addr} {fld x : Str} {e : Expr} {ta : TE} {p pos : Pos} {k : Nat} (T : VMade X.prog X.w X.K X.mg C fld) (R : Raises X (.ref C)) (hr : Room k X.A) (gC : X.mg x = some (.ref C)) (kC : PySem.W.keepIn X.K (.ref C) = true) (hg : Gl X x)
    (he : PE X e ta) (hs : starEach [e] X.env = (false, eval e X.env) :: starEach [] X.env := by rfl) (hdb : (x == ("__debug__" : Str)) = false := by decide) :
    PMk X (.Call (.Name x p) [e] [] pos) (tMkN C fld ta) := by
  intro pins s σ H Q I h
  refine wpAny_Call_Name_kw (ld_glob I hg gC ?_ hdb)
  refine PySem.W.callWith_K (h₀ := X.base) I.ok.mod.kin kC ?_ hs (by rfl)
  rw [hs]
  refine Calls.spliced_cons (thn (he.run pins s σ H _ I h) fun u s1 ⟨v, H1, I1, r1, q1⟩ => Calls.spliced_nil ⟨I1.kIn, ?_⟩)
  show wpAny _ _ (call (.ref C) [u]) _ _ _
  obtain ⟨m, F⟩ := I1.fr
  refine T I1.mod F (by have := hr.dp; omega) fun h' tk a t d o kk ha hd ne ea ed el => ?_
  obtain ⟨G, g1, g2⟩ := restrict h' fun b => decide (b ≠ a)
  have gk : ∀ b, b ≠ a → G.get? b = h'.get? b := fun b hb => g1 b (decide_eq_true hb)
  have ga : G.get? a = none := g2 a (by simp)
  have na : H1 a = none := I1.hok.fresh ha
  have nd : H1 d = none := I1.hok.fresh hd
  have J1 : Inv X pins σ (upd H1 d (ExD fld v d)) { s1 with heap := G, toks := tk } :=
    I1.laid (t' := tk) (fun b y q => (gk b (Nat.ne_of_lt (Nat.lt_of_lt_of_le (Heap.lt_size q) ha))).trans (kk b y q)) hd
      ⟨⟨o, u, (gk d ne).trans ed, el, r1⟩, ⟨o, (gk d ne).trans ed⟩, fun _ _ ⟨o2, u2, y1, y2, y3⟩ k => ⟨o2, u2, k o2 y1, y2, y3⟩⟩
  exact ⟨a, _, _, _, _, .ref C, some d, rfl, J1, fun b y q => by
    by_cases hb : b = a
    · have q2 : G.get? b = some y := q
      rw [hb, ga] at q2
      cases q2
    · exact (gk b hb).symm.trans q, ga, ea, ⟨rfl, rfl⟩, rfl, rfl, by rw [upd_ne (Ne.symm ne)]; exact na, rfl, I1.bare, R, q1 d nd⟩
/-- e.fld in the suite that caught it -/
def tXn (a : Addr) (cls : Value) (d : Option Addr) (C : Addr) (f : Str) (te : TE) : TE := fun σ H Q => te σ H fun x H1 => x = .ref a ∧ cls = .ref C ∧ ∃ (dd : Addr) (v : V), d = some dd ∧ H1 dd = some (ExD f v dd) ∧ Q v H1
theorem pe_xn {a C : Addr} {oe : Obj} {cls : Value} {d : Option Addr} {pn : List (Addr × Obj)} {e : Expr} {te : TE} {pos : Pos} {n : Str} (T : XfC X.K C) (hno : PySem.W.findIn X.K (.ref C) n = some none)
    (hz : Zc cls d oe) (hf : ∃ vs, oe.data = .fields vs) (he : PE (X.suite a ((a, oe) :: pn)) e te) (hb : attributeBase e n X.env (eval e X.env) = eval e X.env := by rfl) :
    PE (X.suite a ((a, oe) :: pn)) (.Attribute e n pos) (tXn a cls d C n te) := by
  refine ⟨fun pins s σ H Q I h => attr_of hb (thn (he.run pins s σ H _ I h) fun u s1 hh => ?_)⟩
  obtain ⟨x, H1, I1, rx, ex, ec, dd, v, ed, ea, q⟩ := hh
  subst ex ec ed
  obtain rfl : u = Value.ref a := rx
  obtain ⟨ha, _⟩ := I1.pin (a, oe) (List.mem_append_left _ List.mem_cons_self)
  obtain ⟨vs, hd⟩ := hf
  obtain ⟨⟨od, w0, ho, hl, ru⟩, _, _⟩ := I1.hok dd _ ea
  have J : PySem.W.InstAt s1.heap a oe C (some od) := ⟨ha, hz.1, by unfold PySem.W.notCls; rw [hd] <;> rfl, by rw [hz.2]; exact ho⟩
  exact HandSPX.exc_get I1.kIn J T.ga T.gg T.exC (PySem.W.findObj_own T.hdC hno rfl hl) (handed_of ru) ⟨v, H1, I1.tok _, ru, q⟩
end
end L2
set_option Elab.async false
set_option linter.all false
set_option maxRecDepth 100000
set_option maxHeartbeats 1000000
/-! tuple(d) of a dict -/
namespace L2
open PySem PySem.Spec PyProof.Rows
section
variable {X : Cx}
theorem call_tuple_dK (hc : X.calm = true) : CallR X (.type "tuple") (fun xs H Q => ∃ (a : Addr) (kvs : List (Key × V)), xs = [.ref a] ∧ Rd H a (.dK kvs) ∧ ∀ p, H p = none → Q (.ref p) (upd H p (.tup (kvs.map fun kv => kV kv.1)))) := by
  intro pins s σ H xs us Q I r q
  obtain ⟨a, kvs, rfl, hd, q⟩ := q
  obtain ⟨u, rfl, rx⟩ := vals1 r
  cases rx
  obtain ⟨z, lo, vs, rel, dd⟩ := dk_rd I.hok hd
  obtain ⟨ep, hat⟩ := dd.dictAt
  have hT : s.TypeIs (.ref a) "dict" := dd.typeIs
  have ek : (kvs.map fun kv => kV kv.1) = vs.map fun p => kV p.1 := by
    have e := congrArg (List.map kV) rel.keys
    rw [List.map_map, List.map_map] at e
    exact e
  have fin : ∀ (h' : Heap) (tk : Nat) (acc : Array Value), (∀ b o, s.heap.get? b = some o → h'.get? b = some o) → Vals (vs.map fun p => kV p.1) acc.toList →
      EP X pins σ Q (.ref h'.objs.size) { s with heap := h'.push { cls := .type "tuple", data := .seq acc.toList.toArray }, toks := tk } := fun h' tk acc k hv => by
    have I1 : Inv X pins σ H { s with heap := h', toks := tk } := I.kept (t' := tk) k
    exact ⟨.ref h'.objs.size, _, I1.laid (t' := tk) (fun b o e => Heap.get?_push_of_some _ e) (Nat.le_refl _) (show ObjOk X.prog X.w _ _ _ (.tup (kvs.map fun kv => kV kv.1)) from ⟨by rw [List.length_map]; exact z, acc.toList, by rw [ek]; exact hv, IsTup.new _ _⟩), rfl, q _ (I1.hok.fresh (Nat.le_refl _))⟩
  refine callType_codes (Q₁ := fun obj s₁ => s₁.TypeIs obj "tuple" ∧ EP X pins σ Q obj s₁) PySem.F.called_tuple (PySem.F.typeCall_tuple_1 _) PySem.F.entry_object_init ?_ fun obj s₁ h₁ =>
    ⟨h₁.1, PySem.F.args_object_init_2 obj _, object_init_meets PySem.F.called_tuple.init.lookup PySem.F.called_tuple.made (by decide) X.prog X.w X.A.in1 _ s₁ ⟨h₁.1, rfl, h₁.2⟩⟩
  refine codeAny_of_tree ?_
  show wpAny _ _ (do checkBuiltinCall "tuple.__new__" ⟨[.type "tuple", .ref a], []⟩; again (.builtin "tuple.__new__" ⟨[.type "tuple", .ref a], []⟩)) _ _ s
  refine wpAny_bind (wpAny_of_eq (PySem.F.newCall_tuple_1 _) (wpAny_pure ⟨plainId_quiet PySem.F.plain_tuple_new _, codeAny_builtin PySem.F.entry_tuple_new ?_⟩))
  rw [Around.under_plainId PySem.F.plain_tuple_new _]
  have hsub := sub_tuple_self
  have hinit := init_tuple_lookup
  have hmh := madeHere_tuple
  have hh : X.A.handled = none := I.ok.hd hc
  wp_walk using wpAny_typeOf hT, PySem.W.kdu_collect (PySem.W.kdl_dict (knd := mixKind X.prog X.w) (kvs := vs) (ep := ep) lo) (by exact hh) hat (by rw [← rel.length]; exact z)
  intro h' tk acc hk hacc
  show wpAny _ _ (Builtin.Tuple.tupleExact acc.toList.toArray >>= fun v => ret v) _ _ _
  unfold Builtin.Tuple.tupleExact
  refine wpAny_bind (wpAny_newObj_type ?_ (by show acc.toList.toArray.size ≤ sizeLine; rw [Array.toArray_toList, hacc.1, ← rel.length]; exact z))
  exact wpAny_pure ⟨⟨_, Heap.get?_push_size _ rfl, rfl⟩, fin h' tk acc hk (keys_at (by rw [Array.length_toList]; exact hacc.1) fun j v e => hacc.2 j v (by rw [← Array.getElem?_toList]; exact e))⟩
end
end L2
set_option Elab.async false
set_option linter.all false
set_option maxRecDepth 100000
set_option maxHeartbeats 1000000
/-! == of data without dicts; of dicts of such; bodies as data -/
namespace L2
open PySem PySem.Spec PyProof.Rows
/-- data without dicts, not too deep -/
def PlainD (d : PyData) : Prop := d.plain = true ∧ d.depth ≤ 60
def rEqP (K : PySem.W.Frag) : R2 := fun x y H Q => ∃ d e, Dp K H x d ∧ Dp K H y e ∧ PlainD d ∧ PlainD e ∧ Q (.bl (PyData.eqv d e)) H
def rNeP (K : PySem.W.Frag) : R2 := fun x y H Q => ∃ d e, Dp K H x d ∧ Dp K H y e ∧ PlainD d ∧ PlainD e ∧ Q (.bl (!PyData.eqv d e)) H
section
variable {X : Cx}
theorem op_eqP {K : PySem.W.Frag} (hK : X.K = K) (hu : X.A.units + 64 < cLine) : OpR X (compareOp .Eq) (rEqP K) := by
  subst hK
  intro pins s σ H x y v u Q I rx ry ⟨d, e, hd, he, pd, pe, q⟩
  obtain ⟨as, r1⟩ := Dp.reads I d x v hd rx
  obtain ⟨bs, r2⟩ := Dp.reads I e y u he ry
  exact SeqAt.eq_plain r1 r2 pd.1 pe.1 (by have := pd.2; have := Nat.min_le_left d.depth e.depth; omega) ⟨.bl _, H, I, rfl, q⟩
theorem op_neP {K : PySem.W.Frag} (hK : X.K = K) (hu : X.A.units + 64 < cLine) : OpR X (compareOp .NotEq) (rNeP K) := by
  subst hK
  intro pins s σ H x y v u Q I rx ry ⟨d, e, hd, he, pd, pe, q⟩
  obtain ⟨as, r1⟩ := Dp.reads I d x v hd rx
  obtain ⟨bs, r2⟩ := Dp.reads I e y u he ry
  exact SeqAt.ne_plain r1 r2 pd.1 pe.1 (by have := pd.2; have := Nat.min_le_left d.depth e.depth; omega) ⟨.bl _, H, I, rfl, q⟩
/-- how the pairs of a dict are met in another -/
inductive Hits (K : PySem.W.Frag) (H : Hp) (ls : List (Key × V)) : List (Key × V) → Bool → Prop
  | nil : Hits K H ls [] true
  | miss {k : Key} {v : V} {r : List (Key × V)} : valV ls k = none → Hits K H ls ((k, v) :: r) false
  | hit {k : Key} {v u : V} {d e : PyData} {r : List (Key × V)} {b : Bool} : valV ls k = some u → Dp K H v d → Dp K H u e → PlainD d → PlainD e → Hits K H ls r b → Hits K H ls ((k, v) :: r) (PyData.eqv d e && b)
theorem hits_of {pins : List (Addr × Obj)} {σ : St} {H : Hp} {s : Shared} (I : Inv X pins σ H s) {A : Around} (hu : A.units + 62 < cLine) {ls : List (Key × V)} {vb : List (Key × Value)} (rb : KV ls vb) :
    ∀ {ks : List (Key × V)} {r : Bool}, Hits X.K H ls ks r → ∀ {va : List (Key × Value)}, KV ks va → PySem.W.KeqHitsP X.prog X.w A s vb va r := by
  intro ks r h
  induction h with
  | nil => intro va ra; cases ra; exact .nil
  | @miss k v r hn =>
    intro va ra
    cases ra with
    | @cons p q ps qs h1 h2 =>
      obtain ⟨k', v'⟩ := q
      obtain ⟨e1, _⟩ := h1
      have e1 : k = k' := e1
      subst e1
      have rr := rb.val k
      rw [hn] at rr
      refine .miss ?_
      cases e : valueAt vb k with
      | none => rfl
      | some y => rw [e] at rr; exact (show False from rr).elim
  | @hit k v u d e r b hu' hd he pd pe hr ih =>
    intro va ra
    cases ra with
    | @cons p q ps qs h1 h2 =>
      obtain ⟨k', v'⟩ := q
      obtain ⟨e1, rv⟩ := h1
      have e1 : k = k' := e1
      subst e1
      have rr : RelO (some u) (valueAt vb k) := by rw [← hu']; exact rb.val k
      obtain ⟨y, hy, ry⟩ := rr.some_of
      obtain ⟨as, r1⟩ := Dp.reads I d v v' hd rv
      obtain ⟨bs, r2⟩ := Dp.reads I e u y he ry
      exact .hit hy (SeqAt.eqAt_plain d e A s v' y as bs r1 r2 pd.1 pe.1 (by have := pd.2; have := Nat.min_le_left d.depth e.depth; omega)).eqP (ih h2)
/-- == of two dicts of data -/
def rEqKD (K : PySem.W.Frag) : R2 := fun x y H Q => ∃ a b ks ls r, x = .ref a ∧ y = .ref b ∧ H a = some (.dK ks) ∧ H b = some (.dK ls) ∧ (ks.length = ls.length → Hits K H ls ks r) ∧ Q (.bl (ks.length == ls.length && r)) H
theorem op_eqKD {K : PySem.W.Frag} (hK : X.K = K) (hu : X.A.units + 64 < cLine) : OpR X (compareOp .Eq) (rEqKD K) := by
  subst hK
  intro pins s σ H x y v u Q I rx ry h
  obtain ⟨a, b, ks, ls, r, rfl, rfl, ha, hb, hits, q⟩ := h
  cases rx
  cases ry
  obtain ⟨_, ya, va, ra, da⟩ := dk_of I.hok ha
  obtain ⟨_, yb, vb, rb, db⟩ := dk_of I.hok hb
  refine PySem.W.rcP_dicts (knd := mixKind X.prog X.w) (r := r) ya yb da db (by omega) (fun e => ?_) _ _ ?_
  · exact hits_of I (A := X.A.in1) (by show X.A.units + 1 + 62 < cLine; omega) rb (hits (by rw [ra.length, rb.length]; exact e)) ra
  · rw [← ra.length, ← rb.length]
    exact ⟨.bl _, H, I, rfl, q⟩
end
end L2
namespace FR
open PySem PySem.Spec PyProof.Rows L2
/-- a statement as data, its bodies by d -/
def dS (d : Bd → PyData) : St → PyData
  | .note z => .tuple [.str "note", .str z]
  | .call z => .tuple [.str "call", .str z]
  | .stay => .tuple [.str "stay"]
  | .again i j b => .tuple [.str "again", .int i, .int j, d b]
  | .choose bs => .tuple (.str "choose" :: bs.map d)
  | .toss rs => .tuple (.str "toss" :: rs.map fun r => .tuple [.int r.1, d r.2])
def dB : Nat → Bd → PyData
  | 0, _ => .none
  | n + 1, b => .tuple (b.map (dS (dB n)))
theorem dpAll {K : PySem.W.Frag} {H : Hp} {α : Type} {R : V → α → Prop} {d : α → PyData} (h : ∀ v x, R v x → Dp K H v (d x)) : ∀ {vs : List V} {xs : List α}, AG R vs xs → DpAll K H vs (xs.map d)
  | [], [], _ => .nil
  | [], _ :: _, g => by simp [AG] at g
  | _ :: _, [], g => by simp [AG] at g
  | v :: vs, x :: xs, g => .cons (h _ _ (AG.uncons g).1) (dpAll h (AG.uncons g).2)
theorem dpS {K : PySem.W.Frag} {H : Hp} {B : Hp → V → Bd → Prop} {d : Bd → PyData} (hB : ∀ v b, B H v b → Dp K H v (d b)) : ∀ {v : V} {s : St}, StW B H v s → Dp K H v (dS d s)
  | _, .note z, ⟨a, rfl, h⟩ => .tup (.of h) (.cons (.str _) (.cons (.str _) .nil))
  | _, .call z, ⟨a, rfl, h⟩ => .tup (.of h) (.cons (.str _) (.cons (.str _) .nil))
  | _, .stay, ⟨a, rfl, h⟩ => .tup (.of h) (.cons (.str _) .nil)
  | _, .again i j b, ⟨a, w, rfl, h, g⟩ => .tup (.of h) (.cons (.str _) (.cons (.int _) (.cons (.int _) (.cons (hB _ _ g) .nil))))
  | _, .choose bs, ⟨a, ws, rfl, h, g⟩ => .tup (.of h) (.cons (.str _) (dpAll hB g))
  | _, .toss rs, ⟨a, ws, rfl, h, g⟩ => .tup (.of h) (.cons (.str _) (dpAll (fun _ _ ⟨p, x, e, hp, hx⟩ => e ▸ .tup (.of hp) (.cons (.int _) (.cons (hB _ _ hx) .nil))) g))
theorem dpB {K : PySem.W.Frag} {H : Hp} : ∀ n {v : V} {b : Bd}, BdAt n H v b → Dp K H v (dB n b)
  | 0, _, _, h => h.elim
  | n + 1, _, _, ⟨a, xs, rfl, h, g⟩ => .tup (.of h) (dpAll (fun _ _ z => dpS (fun _ _ y => dpB n y) z) g)
theorem plainAll_map {α : Type} {d : α → PyData} : ∀ {xs : List α}, (∀ x ∈ xs, (d x).plain = true) → PyData.plainAll (xs.map d) = true
  | [], _ => rfl
  | x :: xs, h => by
    show ((d x).plain && PyData.plainAll (xs.map d)) = true
    rw [h x List.mem_cons_self, plainAll_map fun y hy => h y (List.mem_cons_of_mem _ hy)]
    rfl
theorem plainS {d : Bd → PyData} (h : ∀ b, (d b).plain = true) : ∀ s, (dS d s).plain = true
  | .note _ => rfl
  | .call _ => rfl
  | .stay => rfl
  | .again _ _ b => by simp [dS, PyData.plain, PyData.plainAll, h b]
  | .choose bs => by
    show (true && PyData.plainAll (bs.map d)) = true
    rw [plainAll_map fun b _ => h b]
    rfl
  | .toss rs => by
    show (true && PyData.plainAll (rs.map _)) = true
    rw [plainAll_map fun r _ => by simp [PyData.plain, PyData.plainAll, h r.2]]
    rfl
theorem plainB : ∀ n b, (dB n b).plain = true
  | 0, _ => rfl
  | n + 1, b => plainAll_map fun s _ => plainS (plainB n) s
theorem depthAll_map {α : Type} {d : α → PyData} {m : Nat} : ∀ {xs : List α}, (∀ x ∈ xs, (d x).depth ≤ m) → PyData.depthAll (xs.map d) ≤ m
  | [], _ => Nat.zero_le _
  | x :: xs, h => by
    show max (d x).depth (PyData.depthAll (xs.map d)) ≤ m
    exact Nat.max_le.mpr ⟨h x List.mem_cons_self, depthAll_map fun y hy => h y (List.mem_cons_of_mem _ hy)⟩
theorem depthS {d : Bd → PyData} {m : Nat} (h : ∀ b, (d b).depth ≤ m) : ∀ s, (dS d s).depth ≤ m + 2
  | .note _ => by simp [dS, PyData.depth, PyData.depthAll]
  | .call _ => by simp [dS, PyData.depth, PyData.depthAll]
  | .stay => by simp [dS, PyData.depth, PyData.depthAll]
  | .again _ _ b => by
    have := h b
    simp only [dS, PyData.depth, PyData.depthAll]
    omega
  | .choose bs => by
    have := depthAll_map (xs := bs) fun b _ => h b
    show max 0 (PyData.depthAll (bs.map d)) + 1 ≤ _
    omega
  | .toss rs => by
    have := depthAll_map (xs := rs) (d := fun r => PyData.tuple [.int r.1, d r.2]) (m := m + 1) fun r _ => by
      have := h r.2
      simp only [PyData.depth, PyData.depthAll]
      omega
    show max 0 (PyData.depthAll (rs.map _)) + 1 ≤ _
    omega
theorem depthB : ∀ n b, (dB n b).depth ≤ 3 * n
  | 0, _ => Nat.le_refl _
  | n + 1, b => by
    have := depthAll_map (xs := b) fun s _ => depthS (depthB n) s
    show PyData.depthAll _ + 1 ≤ _
    omega
theorem plainD_B {n : Nat} (h : n ≤ 10) (b : Bd) : PlainD (dB n b) := ⟨plainB n b, by have := depthB n b; omega⟩
theorem eqv_self {d : PyData} (h : d.plain = true) : PyData.eqv d d = true := SeqAt.eqv_refl_plain d h
end FR
set_option Elab.async false
set_option linter.all false
set_option maxRecDepth 100000
set_option maxHeartbeats 1000000
/-! Program's own methods -/
namespace FR
open PySem PySem.Spec PyProof.Rows L2
abbrev sCt : Stmt := inClass (top 29) 13
abbrev NCt : List Str := ["self", "value"]
theorem scCt : FnScope NCt ["self", "value"] (defScope sCt) := ⟨rfl, rfl, rfl, by decide +kernel, rfl, by decide +kernel, by decide +kernel⟩
abbrev sLe : Stmt := inClass (top 29) 15
abbrev NLe : List Str := ["self"]
theorem scLe : FnScope NLe ["self"] (defScope sLe) := ⟨rfl, rfl, rfl, by decide +kernel, rfl, by decide +kernel, by decide +kernel⟩
abbrev sNa : Stmt := inClass (top 29) 2
abbrev NNa : List Str := ["self"]
theorem scNa : FnScope NNa ["self"] (defScope sNa) := ⟨rfl, rfl, rfl, by decide +kernel, rfl, by decide +kernel, by decide +kernel⟩
abbrev sBo : Stmt := inClass (top 29) 3
abbrev NBo : List Str := ["self"]
theorem scBo : FnScope NBo ["self"] (defScope sBo) := ⟨rfl, rfl, rfl, by decide +kernel, rfl, by decide +kernel, by decide +kernel⟩
abbrev sEv : Stmt := inClass (top 29) 4
abbrev NEv : List Str := ["self"]
theorem scEv : FnScope NEv ["self"] (defScope sEv) := ⟨rfl, rfl, rfl, by decide +kernel, rfl, by decide +kernel, by decide +kernel⟩
abbrev sCh : Stmt := inClass (top 29) 5
abbrev NCh : List Str := ["self"]
theorem scCh : FnScope NCh ["self"] (defScope sCh) := ⟨rfl, rfl, rfl, by decide +kernel, rfl, by decide +kernel, by decide +kernel⟩
abbrev sIc : Stmt := inClass (top 29) 6
abbrev NIc : List Str := ["self"]
theorem scIc : FnScope NIc ["self"] (defScope sIc) := ⟨rfl, rfl, rfl, by decide +kernel, rfl, by decide +kernel, by decide +kernel⟩
abbrev sGt : Stmt := inClass (top 29) 12
abbrev NGt : List Str := ["self", "at"]
theorem scGt : FnScope NGt ["self", "at"] (defScope sGt) := ⟨rfl, rfl, rfl, by decide +kernel, rfl, by decide +kernel, by decide +kernel⟩
abbrev sEq : Stmt := inClass (top 29) 16
abbrev NEq : List Str := ["self", "other"]
theorem scEq : FnScope NEq ["self", "other"] (defScope sEq) := ⟨rfl, rfl, rfl, by decide +kernel, rfl, by decide +kernel, by decide +kernel⟩
abbrev sSt : Stmt := inClass (top 29) 17
abbrev NSt : List Str := ["self"]
theorem scSt : FnScope NSt ["self"] (defScope sSt) := ⟨rfl, rfl, rfl, by decide +kernel, rfl, by decide +kernel, by decide +kernel⟩
abbrev sCn : Stmt := top 32
abbrev NCn : List Str := ["free", "name"]
theorem scCn : FnScope NCn ["free", "name"] (defScope sCn) := ⟨rfl, rfl, rfl, by decide +kernel, rfl, by decide +kernel, by decide +kernel⟩
section
variable {P : Program} {w : World} {K : PySem.W.Frag} {mg : Str → Option Value} {base : Heap} {k : Nat} {f : Addr} {fd : FuncData} {ps : List Str} {sp sp' : Sp}
theorem fn_lift (F : FnOk P w K mg base CX0 k f fd ps sp) : FnOk P w K mg base (L2.CX P w) k f fd ps sp :=
  ⟨F.len, fun A o s H ar us vs Q E hr e0 b r h => codeAny_mono (F.run A o s H ar us vs Q E hr e0 b r h) fun res s' hq => by
    cases res with
    | error e => exact (show False from hq).elim
    | ok fl => cases fl <;> exact hq⟩
theorem fn_or {CX : CXT} (F : FnOk P w K mg base CX k f fd ps sp) (G : FnOk P w K mg base CX k f fd ps sp') : FnOk P w K mg base CX k f fd ps (fun vs H Q E => sp vs H Q E ∨ sp' vs H Q E) :=
  ⟨fun vs H Q E h => h.elim (F.len vs H Q E) (G.len vs H Q E), fun A o s H ar us vs Q E hr e0 b r h => h.elim (F.run A o s H ar us vs Q E hr e0 b r) (G.run A o s H ar us vs Q E hr e0 b r)⟩
/-- a def of the top that may raise, with its promise -/
structure GloX (P : Program) (w : World) (K : PySem.W.Frag) (mg : Str → Option Value) (base : Heap) (nm : Str) (n : Nat) (ps : List Str) (sp : Sp) where
  f : Addr
  fd : FuncData
  G : FnOk P w K mg base (L2.CX P w) n f fd ps sp
  m : mg nm = some (.ref f)
  k : PySem.W.keepIn K (.ref f) = true
  b : Binds K fd ps []
structure MetX (P : Program) (w : World) (K : PySem.W.Frag) (mg : Str → Option Value) (base : Heap) (C : Addr) (nm : Str) (n : Nat) (ps : List Str) (sp : Sp) where
  f : Addr
  fd : FuncData
  D : Dun K C nm f
  kp : PySem.W.keepIn K (.ref f) = true
  G : FnOk P w K mg base (L2.CX P w) n f fd ps sp
  b : Binds K fd ps []
end
structure TxtQ (mg : Str → Option Value) : Prop where
  isi : mg "isinstance" = none
  str : mg "str" = none
  len : mg "len" = none
  tup : mg "tuple" = none
  dict : mg "dict" = none
section
variable {P : Program} {w : World} {K : PySem.W.Frag} {mg : Str → Option Value} {base : Heap}
/-- the class of programs: its instances' fields are their own -/
structure PgC (K : PySem.W.Frag) (C : Addr) : Prop where
  cl : Cls K C
  nb : NoAttr K C "_bodies"
  ns : NoAttr K C "_size"
  ne : NoAttr K C "_events"
  nc : NoAttr K C "_choices"
  ty : OwnTy K C
/-- value in program -/
def spCt (K : PySem.W.Frag) (C : Addr) : Sp := fun vs H Q _ => ∃ x v p, vs = [.ref x, v] ∧ IsPg K C H x p ∧ ((∃ z, v = .str z ∧ Q (.bl (decide (z ∈ names p))) H) ∨ ∃ t, TyX K H v t ∧ PySem.W.kitOne K t (.type "str") = some false ∧ Q (.bl false) H)
theorem ok_ct {f C : Addr} {fd : FuncData} (F : Fun K "__contains__" "Program.__contains__" sCt f fd) (R : PgC K C) (T : TxtQ mg) : FnOk P w K mg base CX0 1 f fd ["self", "value"] (spCt K C) := by
  refine F.ok scCt (fun vs H Q E h => ?_) (fun cdv A outer s H vs Q E hr h => ?_)
  · obtain ⟨x, v, p, rfl, _⟩ := h
    rfl
  · obtain ⟨x, v, p, rfl, ⟨dx, d, e, c, kvs, es, cs, hx, hd, hk, _⟩, q⟩ := h
    have hu := hu_of hr
    refine ⟨_, (pss_one (ps_ret (pe_and (pe_callB call_isi (by rfl) T.isi PyProof.Rows.boot_isinstance (pa_cons (pv 1) (pa_cons (pe_bltn (v := .ty "str") (by rfl) T.str (by decide +kernel) rfl) pa_nil))) (pe_one (pe_cmp (pc_din hu (pv 1) (pe_fld (pv 0) rfl))))))), ?_⟩
    rcases q with ⟨z, rfl, q⟩ | ⟨t, ht, hno, q⟩
    · refine ⟨_, rfl, _, _, _, _, true, rfl, .ty _, .base (.str z), kit_ty (by decide +kernel), _, rfl, iteT ?_⟩
      refine ⟨_, rfl, _, rfl, x, C, dx, _, _, rfl, hx, R.cl, R.nb, rfl, d, _, rfl, DGet.k (k := .inr z) hd, ?_⟩
      have e : (valV kvs (Sum.inr z)).isSome = decide (z ∈ names p) := by
        by_cases h : z ∈ names p
        · rw [decide_eq_true h]; exact valV_of (hk.mem h)
        · rw [decide_eq_false h, hk.none h]; rfl
      rw [e]
      exact q
    · exact ⟨_, rfl, _, _, _, _, false, rfl, .ty _, ht, hno, _, rfl, iteF q⟩
def spLe (K : PySem.W.Frag) (C : Addr) : Sp := fun vs H Q _ => ∃ x p, vs = [.ref x] ∧ IsPg K C H x p ∧ Q (.int (p.length : Nat)) H
theorem ok_le {f C : Addr} {fd : FuncData} (F : Fun K "__len__" "Program.__len__" sLe f fd) (R : PgC K C) (T : TxtQ mg) : FnOk P w K mg base CX0 1 f fd ["self"] (spLe K C) := by
  refine F.ok scLe (fun vs H Q E h => ?_) (fun cdv A outer s H vs Q E hr h => ?_)
  · obtain ⟨x, p, rfl, _⟩ := h
    rfl
  · obtain ⟨x, p, rfl, ⟨dx, d, e, c, kvs, es, cs, hx, hd, hk, _⟩, q⟩ := h
    refine ⟨_, (pss_one (ps_ret (pe_callB call_lenD (by rfl) T.len PySem.boot_len (pa_cons (pe_fld (pv 0) rfl) pa_nil)))), ?_⟩
    refine ⟨_, rfl, x, C, dx, _, _, rfl, hx, R.cl, R.nb, rfl, d, kvs, rfl, hd, ?_⟩
    rw [hk.1]
    exact q
/-- the names, as a tuple -/
def spNa (K : PySem.W.Frag) (C : Addr) : Sp := fun vs H Q _ => ∃ x p, vs = [.ref x] ∧ IsPg K C H x p ∧ ∀ t H', H t = none → Same H H' → H' t = some (.tup ((names p).map V.str)) → Q (.ref t) H'
theorem PrgK.strs {H : Hp} {kvs : List (Key × V)} {p : Pg} (h : PrgK H kvs p) : (kvs.map fun kv => kV kv.1) = (names p).map V.str := by
  have e := congrArg (List.map kV) h.keys
  rw [List.map_map, List.map_map] at e
  exact e
theorem ok_na {f C : Addr} {fd : FuncData} (F : Fun K "names" "Program.names" sNa f fd) (R : PgC K C) (T : TxtQ mg) : FnOk P w K mg base CX0 1 f fd ["self"] (spNa K C) := by
  refine F.ok scNa (fun vs H Q E h => ?_) (fun cdv A outer s H vs Q E hr h => ?_)
  · obtain ⟨x, p, rfl, _⟩ := h
    rfl
  · obtain ⟨x, p, rfl, ⟨dx, d, e, c, kvs, es, cs, hx, hd, hk, _⟩, q⟩ := h
    refine ⟨_, (pss_one (ps_ret (pe_callTy (call_tuple_dK rfl) (by rfl) T.tup (by decide +kernel) (pa_cons (pe_fld (pv 0) rfl) pa_nil)))), ?_⟩
    refine ⟨_, rfl, x, C, dx, _, _, rfl, hx, R.cl, R.nb, rfl, d, kvs, rfl, .inl hd, fun t ht => ?_⟩
    rw [hk.strs]
    exact q t _ ht (same_new ht) upd_same
/-- a copy of the dict -/
def spBo (K : PySem.W.Frag) (C : Addr) : Sp := fun vs H Q _ => ∃ x p, vs = [.ref x] ∧ IsPg K C H x p ∧ ∀ t kvs H', H t = none → Same H H' → H' t = some (.dK kvs) → PrgK H' kvs p → Q (.ref t) H'
theorem ok_bo {f C : Addr} {fd : FuncData} (F : Fun K "bodies" "Program.bodies" sBo f fd) (R : PgC K C) (T : TxtQ mg) : FnOk P w K mg base CX0 1 f fd ["self"] (spBo K C) := by
  refine F.ok scBo (fun vs H Q E h => ?_) (fun cdv A outer s H vs Q E hr h => ?_)
  · obtain ⟨x, p, rfl, _⟩ := h
    rfl
  · obtain ⟨x, p, rfl, ⟨dx, d, e, c, kvs, es, cs, hx, hd, hk, _⟩, q⟩ := h
    refine ⟨_, (pss_one (ps_ret (pe_callTy call_dictD (by rfl) T.dict (by decide +kernel) (pa_cons (pe_fld (pv 0) rfl) pa_nil)))), ?_⟩
    refine ⟨_, rfl, x, C, dx, _, _, rfl, hx, R.cl, R.nb, rfl, d, kvs, rfl, .inl hd, fun t ht => ?_⟩
    have st := same_new (o := .dK kvs) ht
    exact q t kvs _ ht st upd_same ((Tk.same st).pg hk)
def spEv (K : PySem.W.Frag) (C : Addr) : Sp := fun vs H Q _ => ∃ x p, vs = [.ref x] ∧ IsPg K C H x p ∧ ∀ t es, H t = some (.tup (es.map V.str)) → EvOk es p → Q (.ref t) H
def spCh (K : PySem.W.Frag) (C : Addr) : Sp := fun vs H Q _ => ∃ x p, vs = [.ref x] ∧ IsPg K C H x p ∧ ∀ t cs, H t = some (.tup cs) → AG (fun z y => ChAt K H z y) cs (chosen (allP p)) → Q (.ref t) H
theorem ok_ch {f C : Addr} {fd : FuncData} (F : Fun K "choices" "Program.choices" sCh f fd) (R : PgC K C) : FnOk P w K mg base CX0 1 f fd ["self"] (spCh K C) := by
  refine F.ok scCh (fun vs H Q E h => ?_) (fun cdv A outer s H vs Q E hr h => ?_)
  · obtain ⟨x, p, rfl, _⟩ := h
    rfl
  · obtain ⟨x, p, rfl, ⟨dx, d, e, c, kvs, es, cs, hx, hd, hk, he, ho, hc, hcs⟩, q⟩ := h
    refine ⟨_, (pss_one (ps_ret (pe_fld (pv 0) rfl))), ?_⟩
    exact ⟨_, rfl, x, C, dx, _, _, rfl, hx, R.cl, R.nc, rfl, q c cs hc hcs⟩
def spIc (K : PySem.W.Frag) (C : Addr) : Sp := fun vs H Q _ => ∃ x p, vs = [.ref x] ∧ IsPg K C H x p ∧ Q (.bl (decide (chosen (allP p) = []))) H
theorem ok_ic {f C : Addr} {fd : FuncData} (F : Fun K "is_closed" "Program.is_closed" sIc f fd) (R : PgC K C) (T : TxtQ mg) : FnOk P w K mg base CX0 1 f fd ["self"] (spIc K C) := by
  refine F.ok scIc (fun vs H Q E h => ?_) (fun cdv A outer s H vs Q E hr h => ?_)
  · obtain ⟨x, p, rfl, _⟩ := h
    rfl
  · obtain ⟨x, p, rfl, ⟨dx, d, e, c, kvs, es, cs, hx, hd, hk, he, ho, hc, hcs⟩, q⟩ := h
    refine ⟨_, (pss_one (ps_ret (pe_cmpR op_eq (pe_callB call_len_seq (by rfl) T.len PySem.boot_len (pa_cons (pe_fld (pv 0) rfl) pa_nil)) pe_int (nomark _)))), ?_⟩
    refine ⟨_, rfl, x, C, dx, _, _, rfl, hx, R.cl, R.nc, rfl, c, cs, rfl, .inr (SqT.of hc), rfl, ?_⟩
    have l := hcs.1
    have e : decide (V.int (cs.length : Nat) = V.int 0) = decide (chosen (allP p) = []) := by
      rw [l]
      cases chosen (allP p) with
      | nil => rfl
      | cons y l =>
        rw [decide_eq_false (fun z => by have := V.int.inj z; rw [List.length_cons] at this; omega), decide_eq_false (fun z => nomatch z)]
    rw [e]
    exact q
/-- what check_name needs of UnknownName -/
structure UnkC (P : Program) (w : World) (K : PySem.W.Frag) (mg : Str → Option Value) (U : Addr) : Prop where
  made : VMade P w K mg U "name"
  b : PySem.W.subIn K (.ref U) (.type "BaseException") = some true
  t : PySem.W.typeIn K (.ref U) = some (.type "type")
  g : mg "UnknownName" = some (.ref U)
  k : PySem.W.keepIn K (.ref U) = true
theorem UnkC.rs {X : Cx} {U : Addr} (T : UnkC P w X.K mg U) : Raises X (.ref U) := raises_own T.b T.t
/-- the name is there -/
def spCn (K : PySem.W.Frag) (C : Addr) : Sp := fun vs H Q _ => ∃ x z p, vs = [.ref x, .str z] ∧ IsPg K C H x p ∧ z ∈ names p ∧ Q .non H
theorem ok_cn {f C : Addr} {fd : FuncData} (F : Fun K "check_name" "check_name" sCn f fd) (M : Met P w K mg base C "__contains__" 1 ["self", "value"] (spCt K C)) : FnOk P w K mg base CX0 2 f fd ["free", "name"] (spCn K C) := by
  refine F.ok scCn (fun vs H Q E h => ?_) (fun cdv A outer s H vs Q E hr h => ?_)
  · obtain ⟨x, z, p, rfl, _⟩ := h
    rfl
  · obtain ⟨x, z, p, rfl, hx, hz, q⟩ := h
    refine ⟨_, (pss_one (ps_if (pt_cmpR (op_notInOwn M.D M.G hr M.b pass0) (pv 1) (pv 0) rfl) pss_never pss_nil)), ?_⟩
    have hx0 := hx
    obtain ⟨dx, d, e, c, kvs, es, cs, h1, _⟩ := hx0
    refine ⟨_, rfl, _, rfl, x, dx, _, rfl, h1, x, _, p, rfl, hx, .inl ⟨z, rfl, _, rfl, _, rfl, ?_⟩⟩
    rw [decide_eq_true hz]
    exact iteF q
/-- it isn't -/
def Unk (U : Addr) (v : V) (H : Hp) (E : XK) : Prop := ∀ d H', H d = none → Same H H' → H' d = some (ExD "name" v d) → E (.ref U) (some d) H'
def spCnX (K : PySem.W.Frag) (C U : Addr) : Sp := fun vs H Q E => ∃ x v p, vs = [.ref x, v] ∧ IsPg K C H x p ∧ ((∃ z, v = .str z ∧ z ∉ names p) ∨ ∃ t, TyX K H v t ∧ PySem.W.kitOne K t (.type "str") = some false) ∧ Unk U v H E
theorem ok_cnX {f C U : Addr} {fd : FuncData} (F : Fun K "check_name" "check_name" sCn f fd) (M : Met P w K mg base C "__contains__" 1 ["self", "value"] (spCt K C)) (TU : UnkC P w K mg U) : FnOk P w K mg base (L2.CX P w) 2 f fd ["free", "name"] (spCnX K C U) := by
  refine F.okX scCn (fun vs H Q E h => ?_) (fun cdv A outer s H vs Q E hr h => ?_)
  · obtain ⟨x, v, p, rfl, _⟩ := h
    rfl
  · obtain ⟨x, v, p, rfl, hx, hv, q⟩ := h
    refine ⟨_, (pss_one (ps_if (pt_cmpR (op_notInOwn M.D (fn_lift M.G) hr M.b (passes_call (takes_of rfl rfl rfl rfl) (fun _ _ _ _ h => h))) (pv 1) (pv 0) rfl) (pss_one (ps_raise rfl (takes_of rfl rfl rfl rfl) (pmk_name TU.made TU.rs hr TU.g TU.k (by rfl) (pv 1)))) pss_nil)), ?_⟩
    have hx0 := hx
    obtain ⟨dx, d, e, c, kvs, es, cs, h1, _⟩ := hx0
    have fin : ∀ d, H d = none → E (.ref U) (some d) (upd H d (ExD "name" v d)) := fun d nd => q d _ nd (same_new nd) upd_same
    refine ⟨_, rfl, _, rfl, x, dx, _, rfl, h1, x, _, p, rfl, hx, ?_⟩
    rcases hv with ⟨z, rfl, hz⟩ | ⟨t, ht, hno⟩
    · refine .inl ⟨z, rfl, _, rfl, _, rfl, ?_⟩
      rw [decide_eq_false hz]
      exact iteT ⟨_, rfl, fin⟩
    · exact .inr ⟨t, ht, hno, _, rfl, _, rfl, iteT ⟨_, rfl, fin⟩⟩
/-- program[name] -/
def spGt (K : PySem.W.Frag) (C : Addr) : Sp := fun vs H Q _ => ∃ x z p, vs = [.ref x, .str z] ∧ IsPg K C H x p ∧ (names p).Nodup ∧ z ∈ names p ∧ ∀ v, BdAt 5 H v (bodyOf p z) → Q v H
theorem ok_gt {f C : Addr} {fd : FuncData} (F : Fun K "__getitem__" "Program.__getitem__" sGt f fd) (R : PgC K C) (gC : Glo P w K mg base "check_name" 2 ["free", "name"] (spCn K C)) : FnOk P w K mg base CX0 3 f fd ["self", "at"] (spGt K C) := by
  refine F.ok scGt (fun vs H Q E h => ?_) (fun cdv A outer s H vs Q E hr h => ?_)
  · obtain ⟨x, z, p, rfl, _⟩ := h
    rfl
  · obtain ⟨x, z, p, rfl, hx, hn, hz, q⟩ := h
    have hu := hu_of hr
    refine ⟨_, (pss_cons (ps_expr (pe_call gC.G (hr.mono (by decide)) (by rfl) gC.m gC.k gC.b .nil pass0 (pa_cons (pv 0) (pa_cons (pv 1) pa_nil))))
      (pss_one (ps_ret (pe_dget hu (pe_fld (pv 0) rfl) (pv 1) (fun _ _ => rfl))))), ?_⟩
    have hx0 := hx
    obtain ⟨dx, d, e, c, kvs, es, cs, h1, hd, hk, _⟩ := hx0
    obtain ⟨v, e1, hb⟩ := hk.val hn hz
    have g := DGet.k (k := .inr z) hd
    rw [e1] at g
    exact ⟨_, rfl, _, rfl, x, z, p, rfl, hx, hz, _, rfl, x, C, dx, _, _, rfl, h1, R.cl, R.nb, rfl, _, rfl, d, v, rfl, g, q v hb⟩
/-- .. of another one -/
theorem ok_gtX {f C U : Addr} {fd : FuncData} (F : Fun K "__getitem__" "Program.__getitem__" sGt f fd) (gC : GloX P w K mg base "check_name" 2 ["free", "name"] (spCnX K C U)) : FnOk P w K mg base (L2.CX P w) 3 f fd ["self", "at"] (spCnX K C U) := by
  refine F.okX scGt (fun vs H Q E h => ?_) (fun cdv A outer s H vs Q E hr h => ?_)
  · obtain ⟨x, v, p, rfl, _⟩ := h
    rfl
  · obtain ⟨x, v, p, rfl, hx, hv, q⟩ := h
    have hu := hu_of hr
    refine ⟨_, (pss_cons (ps_expr (pe_call gC.G hr (by rfl) gC.m gC.k gC.b .nil (passes_call (takes_of rfl rfl rfl rfl) (fun _ _ _ _ h => h)) (pa_cons (pv 0) (pa_cons (pv 1) pa_nil))))
      (pss_one (ps_ret (pe_dget hu (pe_fld (pv 0) rfl) (pv 1) (fun _ _ => rfl))))), ?_⟩
    exact ⟨_, rfl, _, rfl, x, v, p, rfl, hx, hv, q⟩
theorem PrgK.eq_hits {H : Hp} {ls : List (Key × V)} {q : Pg} (hl : PrgK H ls q) (hn : (names q).Nodup) : ∀ {kvs : List (Key × V)} {p : Pg}, PrgK H kvs p → ∃ r, Hits K H ls kvs r ∧ (r = true ↔ ∀ x ∈ p, x.1 ∈ names q ∧ PyData.eqv (dB 5 x.2) (dB 5 (bodyOf q x.1)) = true)
  | [], [], _ => ⟨true, .nil, by simp⟩
  | [], _ :: _, h => by simp [PrgK] at h
  | _ :: _, [], h => by simp [PrgK] at h
  | (k, v) :: kvs, y :: p, h => by
    obtain ⟨z, b, e1, e2, hb⟩ := h.2 0 k v rfl
    cases e2
    cases e1
    have t : PrgK H kvs p := ⟨by have := h.1; simpa using this, fun i k v e => h.2 (i + 1) k v e⟩
    obtain ⟨r, hr, hiff⟩ := PrgK.eq_hits hl hn t
    by_cases hz : z ∈ names q
    · obtain ⟨u, e3, hu⟩ := hl.val hn hz
      refine ⟨_, .hit e3 (dpB 5 hb) (dpB 5 hu) (plainD_B (by decide) b) (plainD_B (by decide) _) hr, ?_⟩
      rw [Bool.and_eq_true, hiff]
      constructor
      · rintro ⟨a, c⟩ x hx
        rcases List.mem_cons.mp hx with e | hx
        · rw [e]; exact ⟨hz, a⟩
        · exact c x hx
      · intro c
        exact ⟨(c _ List.mem_cons_self).2, fun x hx => c x (List.mem_cons_of_mem _ hx)⟩
    · refine ⟨false, .miss (hl.none hz), ?_⟩
      constructor
      · intro h; cases h
      · intro c; exact absurd (c _ List.mem_cons_self).1 hz
/-- program == value -/
def spEq (K : PySem.W.Frag) (C : Addr) : Sp := fun vs H Q _ => ∃ x v p, vs = [.ref x, v] ∧ IsPg K C H x p ∧ ((∃ y q, v = .ref y ∧ IsPg K C H y q ∧ (names q).Nodup ∧ ∀ r, (r = true ↔ p.length = q.length ∧ ∀ x ∈ p, x.1 ∈ names q ∧ PyData.eqv (dB 5 x.2) (dB 5 (bodyOf q x.1)) = true) → Q (.bl r) H) ∨
  ∃ t, TyX K H v t ∧ PySem.W.kitOne K t (.ref C) = some false ∧ Q (.bl false) H)
theorem ok_eq {f C : Addr} {fd : FuncData} (F : Fun K "__eq__" "Program.__eq__" sEq f fd) (R : PgC K C) (T : TxtQ mg) (mC : mg "Program" = some (.ref C)) (kYes : PySem.W.kitOne K (.ref C) (.ref C) = some true) : FnOk P w K mg base CX0 1 f fd ["self", "other"] (spEq K C) := by
  refine F.ok scEq (fun vs H Q E h => ?_) (fun cdv A outer s H vs Q E hr h => ?_)
  · obtain ⟨x, v, p, rfl, _⟩ := h
    rfl
  · obtain ⟨x, v, p, rfl, ⟨dx, d, e, c, kvs, es, cs, hx, hd, hk, _⟩, q⟩ := h
    refine ⟨_, (pss_one (ps_ret (pe_and (pe_callB call_isi (by rfl) T.isi PyProof.Rows.boot_isinstance (pa_cons (pv 1) (pa_cons (pe_glob (v := .ref C) (by rfl) mC rfl) pa_nil))) (pe_one (pe_cmpR (op_eqKD (K := K) rfl hr.units) (pe_fld (pv 0) rfl) (pe_fld (pv 1) rfl) (nomark _)))))), ?_⟩
    rcases q with ⟨y, pq, rfl, ⟨dy, d2, e2, c2, ls, es2, cs2, hy, hd2, hk2, _⟩, hn, q⟩ | ⟨t, ht, hno, q⟩
    · refine ⟨_, rfl, _, _, _, _, true, rfl, .own C, .base (R.ty.ins hy), kYes, _, rfl, iteT ?_⟩
      obtain ⟨r, hr, hiff⟩ := PrgK.eq_hits (K := K) hk2 hn hk
      refine ⟨_, rfl, x, C, dx, _, _, rfl, hx, R.cl, R.nb, rfl, _, rfl, y, C, dy, _, _, rfl, hy, R.cl, R.nb, rfl, d, d2, kvs, ls, r, rfl, rfl, hd, hd2, fun _ => hr, q _ ?_⟩
      rw [Bool.and_eq_true, hiff, hk.1, hk2.1, beq_iff_eq]
    · exact ⟨_, rfl, _, _, _, _, false, rfl, .own C, ht, hno, _, rfl, iteF q⟩
theorem num_small (n : Nat) (h : n ≤ 60) : ((n : Nat) : Int).natAbs.log2 < 1920 ∧ (toString ((n : Nat) : Int) : Str).length ≤ 2 := by
  have all : ((List.range 61).all fun n => decide (((n : Nat) : Int).natAbs.log2 < 1920) && decide ((toString ((n : Nat) : Int) : Str).length ≤ 2)) = true := by decide +kernel
  have z := List.all_eq_true.mp all n (List.mem_range.mpr (by omega))
  obtain ⟨a, b⟩ := Bool.and_eq_true_iff.mp z
  exact ⟨of_decide_eq_true a, of_decide_eq_true b⟩
theorem str_len_append (a b : Str) : (a ++ b).length = a.length + b.length := by
  show (a ++ b).cps.size = a.cps.size + b.cps.size
  exact Array.size_append
theorem fit_cat {a b : Str} {m n : Nat} (ha : a.length ≤ m) (hb : b.length ≤ n) (h : m + n ≤ 900) : (a ++ b).length ≤ sizeLine := by
  rw [str_len_append, sizeLine_eq]
  omega
/-- str(program) -/
def shown (p : Pg) : Str := "program of " ++ (toString ((p.length : Nat) : Int) : Str) ++ " procedures, " ++ (toString (((allP p).length : Nat) : Int) : Str) ++ " statements"
def spSt (K : PySem.W.Frag) (C : Addr) : Sp := fun vs H Q _ => ∃ x p, vs = [.ref x] ∧ IsPg K C H x p ∧ p.length ≤ 8 ∧ (allP p).length ≤ 60 ∧ Q (.str (shown p)) H
theorem ok_st {f C : Addr} {fd : FuncData} (F : Fun K "__str__" "Program.__str__" sSt f fd) (R : PgC K C) (T : TxtQ mg) : FnOk P w K mg base CX0 1 f fd ["self"] (spSt K C) := by
  refine F.ok scSt (fun vs H Q E h => ?_) (fun cdv A outer s H vs Q E hr h => ?_)
  · obtain ⟨x, p, rfl, _⟩ := h
    rfl
  · obtain ⟨x, p, rfl, ⟨dx, d, e, c, kvs, es, cs, hx, hd, hk, _⟩, l8, l60, q⟩ := h
    refine ⟨_, (pss_one (ps_ret (pe_joined (.cons pe_str (.cons (pe_fmt (pe_callB call_lenD (by rfl) T.len PySem.boot_len (pa_cons (pe_fld (pv 0) rfl) pa_nil))) (.cons pe_str (.cons (pe_fmt (pe_fld (pv 0) rfl)) (.cons pe_str .nil)))))))), ?_⟩
    obtain ⟨n1, z1⟩ := num_small p.length (by omega)
    obtain ⟨n2, z2⟩ := num_small (allP p).length l60
    have e1 : kvs.length = p.length := hk.1
    have c1 : (Str.empty ++ ("program of " : Str)).length ≤ 20 := by decide +kernel
    have c2 : (" procedures, " : Str).length ≤ 20 := by decide +kernel
    have c3 : (" statements" : Str).length ≤ 20 := by decide +kernel
    have l1 := str_len_append (Str.empty ++ ("program of " : Str)) (toString ((p.length : Nat) : Int) : Str)
    have l2 := str_len_append (Str.empty ++ ("program of " : Str) ++ (toString ((p.length : Nat) : Int) : Str)) (" procedures, " : Str)
    have l3 := str_len_append (Str.empty ++ ("program of " : Str) ++ (toString ((p.length : Nat) : Int) : Str) ++ (" procedures, " : Str)) (toString (((allP p).length : Nat) : Int) : Str)
    have l4 := str_len_append (Str.empty ++ ("program of " : Str) ++ (toString ((p.length : Nat) : Int) : Str) ++ (" procedures, " : Str) ++ (toString (((allP p).length : Nat) : Int) : Str)) (" statements" : Str)
    have big : 900 ≤ sizeLine := by rw [sizeLine_eq]; decide
    refine ⟨_, rfl, by omega, ?_⟩
    refine ⟨_, rfl, x, C, dx, _, _, rfl, hx, R.cl, R.nb, rfl, d, kvs, rfl, hd, .inr ⟨_, rfl, by rw [e1]; exact n1, ?_⟩⟩
    rw [e1]
    refine ⟨_, rfl, by omega, _, rfl, by omega, ?_⟩
    refine ⟨_, rfl, x, C, dx, _, _, rfl, hx, R.cl, R.ns, rfl, .inr ⟨_, rfl, n2, _, rfl, by omega, _, rfl, by omega, ?_⟩⟩
    have e0 : Str.empty ++ ("program of " : Str) = ("program of " : Str) := PySem.Str.empty_append _
    show Q (V.str (Str.empty ++ ("program of " : Str) ++ (toString ((p.length : Nat) : Int) : Str) ++ (" procedures, " : Str) ++ (toString (((allP p).length : Nat) : Int) : Str) ++ (" statements" : Str))) H
    rw [e0]
    exact q
end
end FR
set_option Elab.async false
set_option linter.all false
set_option maxRecDepth 100000
set_option maxHeartbeats 1000000
/-! another body for a procedure -/
namespace FR
open PySem PySem.Spec PyProof.Rows L2
/-- the program with this body for a procedure -/
def setP (p : Pg) (z : Str) (b : Bd) : Pg := if z ∈ names p then p.map fun x => if x.1 = z then (z, b) else x else p ++ [(z, b)]
theorem PrgK.any {H : Hp} {kvs : List (Key × V)} {p : Pg} (h : PrgK H kvs p) (z : Str) : (kvs.any fun kv => decide (kv.1 = (Sum.inr z : Key))) = decide (z ∈ names p) := by
  rw [valV_any]
  by_cases c : z ∈ names p
  · rw [decide_eq_true c]; exact valV_of (h.mem c)
  · rw [decide_eq_false c, h.none c]; rfl
theorem PrgK.set {H : Hp} {kvs : List (Key × V)} {p : Pg} {z : Str} {v : V} {b : Bd} (h : PrgK H kvs p) (hv : BdAt 5 H v b) : PrgK H (putK kvs (.inr z) v) (setP p z b) := by
  by_cases c : z ∈ names p
  · have e : putK kvs (.inr z) v = kvs.map fun kv => if kv.1 = .inr z then (kv.1, v) else kv := by
      unfold putK
      rw [if_pos (by rw [h.any]; exact decide_eq_true c)]
    unfold setP
    rw [e, if_pos c]
    refine ⟨by rw [List.length_map, List.length_map, h.1], fun i k u hi => ?_⟩
    rw [List.getElem?_map] at hi
    cases hk : kvs[i]? with
    | none => rw [hk] at hi; cases hi
    | some kv =>
      rw [hk] at hi
      obtain ⟨k0, u0⟩ := kv
      obtain ⟨z', b', e1, e2, e3⟩ := h.2 i k0 u0 hk
      subst e1
      have hi : (if (Sum.inr z' : Key) = .inr z then (Sum.inr z', v) else (Sum.inr z', u0)) = (k, u) := Option.some.inj hi
      rw [List.getElem?_map, e2]
      by_cases q : z' = z
      · subst q
        rw [if_pos rfl] at hi
        cases hi
        exact ⟨z', b, rfl, by show some (if z' = z' then (z', b) else (z', b')) = _; rw [if_pos rfl], hv⟩
      · rw [if_neg (fun y => q (Sum.inr.inj y))] at hi
        cases hi
        exact ⟨z', b', rfl, by show some (if z' = z then (z, b) else (z', b')) = _; rw [if_neg q], e3⟩
  · unfold setP
    rw [if_neg c, putK_new _ (h.none c)]
    exact h.snoc hv
theorem setP_names (p : Pg) (z : Str) (b : Bd) : names (setP p z b) = if z ∈ names p then names p else names p ++ [z] := by
  unfold setP
  by_cases c : z ∈ names p
  · rw [if_pos c, if_pos c, names, List.map_map]
    exact List.map_congr_left fun x _ => by
      show (if x.1 = z then (z, b) else x).1 = x.1
      by_cases q : x.1 = z
      · rw [if_pos q, q]
      · rw [if_neg q]
  · rw [if_neg c, if_neg c, names, List.map_append]
    rfl
theorem setP_nodup {p : Pg} {z : Str} {b : Bd} (h : (names p).Nodup) : (names (setP p z b)).Nodup := by
  rw [setP_names]
  by_cases c : z ∈ names p
  · rw [if_pos c]; exact h
  · rw [if_neg c, List.nodup_append]
    exact ⟨h, by simp, fun a ha b hb e => c (List.mem_singleton.mp hb ▸ e ▸ ha)⟩
end FR
set_option Elab.async false
set_option linter.all false
set_option maxRecDepth 100000
namespace LD
open PySem PySem.Spec PyProof.Rows L2
/-! ### The text by places -/
def top (i : Nat) : Stmt := PySem.Challenge.pw_surelyends_k12_calls_and_ends.main.body.getD i (.Pass ⟨0, 0, 0, 0⟩)
abbrev sDice : Stmt := top 41
abbrev sRoll : Stmt := top 42
abbrev sOneOf : Stmt := top 43
/-! ### The dice -/
abbrev dxs (a b c : Int) : List V := [V.int a, V.int b, V.int c]
/-- the dice stand at d -/
def DiceAt (H : Hp) (d : Addr) : Prop := ∃ a b c : Int, H d = some (.lst (dxs a b c))
/-- nothing but the dice has changed -/
structure Rolled (H H' : Hp) (d : Addr) : Prop where
  ho : ∃ a b c : Int, H' = upd H d (.lst (dxs a b c))
def spRoll : Sp := fun vs H Q _ => ∃ (d : Addr) (n : Int), vs = [.ref d, .int n] ∧ DiceAt H d ∧ 0 < n ∧ n < 1073741824 ∧
  ∀ (r a b c : Int), 0 ≤ r → r < n → Q (.int r) (upd H d (.lst (dxs a b c)))
section
variable {P : Program} {w : World} {K : PySem.W.Frag} {mg : Str → Option Value} {base : Heap}
theorem scR : FnScope ["_law_dice_here", "_law_total", "_law_found", "_law_one", "_law_two"] ["_law_dice_here", "_law_total"] (defScope sRoll) :=
  ⟨rfl, rfl, rfl, by decide +kernel, rfl, by decide +kernel, by decide +kernel⟩
theorem nz1 : (2305843009213693951 : Int) ≠ 0 := by decide
theorem nz2 : (2305843009213693921 : Int) ≠ 0 := by decide
theorem nz3 : (2305843009213693907 : Int) ≠ 0 := by decide
theorem at0 {a b c : Int} : atI (dxs a b c) (0 : Int) = some (V.int a) := rfl
theorem at1 {a b c : Int} : atI (dxs a b c) (1 : Int) = some (V.int b) := rfl
theorem at2 {a b c : Int} : atI (dxs a b c) (2 : Int) = some (V.int c) := rfl
theorem ok_roll {f : Addr} {fd : FuncData} (F : Fun K "_law_roll" "_law_roll" sRoll f fd) (mI : mg "int" = none) : FnOk P w K mg base CX0 1 f fd ["_law_dice_here", "_law_total"] spRoll := by
  refine F.ok scR (fun vs H Q E h => ?_) (fun cdv A outer s H vs Q E hr h => ?_)
  · obtain ⟨d, n, rfl, _⟩ := h
    rfl
  · obtain ⟨d, n, rfl, ⟨a, b, c, hd⟩, h0, h1, k⟩ := h
    have hu := hu_of hr
    refine ⟨_, pss_cons (ps_if (pt_cmpR op_gt (pe_ix ix_list (pv 0) pe_int (fun _ _ => rfl)) pe_int (nomark _))
        (pss_cons (ps_set (i := 2) scR.nd rfl (Or.inl rfl) (pe_op op_modN (pe_callTy call_int1 (by rfl) mI (by decide +kernel) (pa_cons (pe_ix ix_list (pv 0) pe_int (fun _ _ => rfl)) pa_nil)) (pv 1)))
        (pss_cons (ps_asg (pe_op op_fdivN (pe_ix ix_list (pv 0) pe_int (fun _ _ => rfl)) (pv 1)) (pg_sub (pv 0) pe_int set_list))
        (pss_one (ps_ret (pv 2))))) pss_nil)
      (pss_cons (ps_asg (pe_op op_add (pe_ix ix_list (pv 0) pe_int (fun _ _ => rfl)) pe_int) (pg_sub (pv 0) pe_int set_list))
      (pss_cons (ps_set (i := 3) scR.nd rfl (Or.inl rfl) (pe_op op_modN (pe_callTy call_int1 (by rfl) mI (by decide +kernel) (pa_cons (pe_op op_add (pe_ix ix_list (pv 0) pe_int (fun _ _ => rfl)) (pe_op op_mul pe_int (pe_ix ix_list (pv 0) pe_int (fun _ _ => rfl)))) pa_nil)) pe_int))
      (pss_cons (ps_set (i := 4) scR.nd rfl (Or.inl rfl) (pe_op op_add (pe_op op_mul (pe_op op_modN (pe_callTy call_int1 (by rfl) mI (by decide +kernel) (pa_cons (pe_op op_mul (pv 3) (pv 3)) pa_nil)) pe_int) (pv 3)) (pe_op op_mul pe_int (pe_ix ix_list (pv 0) pe_int (fun _ _ => rfl)))))
      (pss_cons (ps_set (i := 4) scR.nd rfl (Or.inl rfl) (pe_op op_modN (pe_callTy call_int1 (by rfl) mI (by decide +kernel) (pa_cons (pv 4) pa_nil)) pe_int))
      (pss_one (ps_ret (pe_op op_modN (pe_callTy call_int1 (by rfl) mI (by decide +kernel) (pa_cons (pe_op op_fdivN (pv 4) pe_int) pa_nil)) (pv 1)))))))), ?_⟩
    refine ⟨_, rfl, d, _, _, _, rfl, rfl, SqL.of hd, at0, _, _, rfl, rfl, _, rfl, ?_⟩
    have hm : ∀ x : Int, 0 ≤ x.fmod n ∧ x.fmod n < n := fun x => by
      rw [Int.fmod_eq_emod_of_nonneg x (by omega)]
      exact ⟨Int.emod_nonneg x (by omega), Int.emod_lt_of_pos x h0⟩
    refine ite2 (fun ha => ?_) (fun ha => ?_)
    · refine ⟨_, rfl, d, _, _, _, rfl, rfl, SqL.of hd, at0, .inl ⟨_, rfl, ?_⟩⟩
      refine ⟨_, rfl, _, _, rfl, rfl, by omega, ?_⟩
      refine ⟨_, rfl, d, _, _, _, rfl, rfl, SqL.of hd, at0, _, rfl, _, _, rfl, rfl, ⟨by omega, by omega⟩, ?_⟩
      refine ⟨_, rfl, d, _, _, 0, rfl, rfl, hd, rfl, ?_⟩
      refine ⟨_, rfl, ?_⟩
      exact k _ _ _ _ (hm _).1 (hm _).2
    · refine ⟨_, rfl, d, _, _, _, rfl, rfl, SqL.of hd, at2, _, _, rfl, rfl, ?_⟩
      refine ⟨_, rfl, d, _, _, 2, rfl, rfl, hd, rfl, ?_⟩
      have hd2 : upd H d (.lst (dxs a b (c + 1))) d = some (.lst (dxs a b (c + 1))) := upd_same
      refine ⟨_, rfl, d, _, _, _, rfl, rfl, SqL.of hd2, at1, ?_⟩
      refine ⟨_, rfl, d, _, _, _, rfl, rfl, SqL.of hd2, at2, ?_⟩
      refine ⟨_, _, rfl, rfl, .inl ⟨by decide, by decide⟩, ?_⟩
      refine ⟨_, _, rfl, rfl, .inl ⟨_, rfl, ?_⟩⟩
      refine ⟨_, _, rfl, rfl, nz1, ?_⟩
      generalize hone : Int.fmod (b + 1000193 * (c + 1)) 2305843009213693951 = one
      have ho : 0 ≤ one ∧ one < 2305843009213693951 := by
        rw [← hone, Int.fmod_eq_emod_of_nonneg _ (by decide)]
        exact ⟨Int.emod_nonneg _ (by decide), Int.emod_lt_of_pos _ (by decide)⟩
      refine ⟨_, rfl, _, rfl, _, _, rfl, rfl, .inl ⟨by omega, by omega⟩, .inl ⟨_, rfl, ?_⟩⟩
      refine ⟨_, _, rfl, rfl, nz2, ?_⟩
      generalize htwo : Int.fmod (one * one) 2305843009213693921 = two
      refine ⟨_, rfl, _, _, rfl, rfl, .inr ⟨by omega, by omega⟩, ?_⟩
      refine ⟨_, rfl, d, _, _, _, rfl, rfl, SqL.of hd2, at2, ?_⟩
      refine ⟨_, _, rfl, rfl, .inl ⟨by decide, by decide⟩, ?_⟩
      refine ⟨_, _, rfl, rfl, ?_⟩
      generalize two * one + 8221 * (c + 1) = three
      refine ⟨_, rfl, .inl ⟨_, rfl, ?_⟩⟩
      refine ⟨_, _, rfl, rfl, nz3, ?_⟩
      refine ⟨_, rfl, _, _, rfl, rfl, ⟨by decide, by decide⟩, .inl ⟨_, rfl, ?_⟩⟩
      refine ⟨_, rfl, _, _, rfl, rfl, by omega, ?_⟩
      exact k _ _ _ _ (hm _).1 (hm _).2

/-! ### powers of any size within the line -/
def CPowW (i j : Int) : Prop := 0 ≤ j ∧ (Builtin.Int.intBits i : Int) * j ≤ 2 ^ 27
theorem op_powW {X : Cx} : OpR X (binaryOp .Pow) (rI CPowW fun i j => .int (i ^ j.toNat)) := opI fun _ _ _ _ _ _ _ hc q => pow_int hc.1 hc.2 q
theorem pow60 : CPowW 10 60 := ⟨by decide, by decide +kernel⟩
theorem pow600 : CPowW ((10 : Int) ^ (60 : Int).toNat) 10 := ⟨by decide, by decide +kernel⟩
theorem pow18 : CPowW 10 18 := ⟨by decide, by decide +kernel⟩
def big600 : Int := ((10 : Int) ^ (60 : Int).toNat) ^ (10 : Int).toNat
theorem big600_nz : ((10 : Int) ^ (60 : Int).toNat) ^ (10 : Int).toNat ≠ 0 := by decide +kernel
theorem nz4 : (2147483549 : Int) ≠ 0 := by decide
theorem nz5 : (2147483543 : Int) ≠ 0 := by decide
def spDice (K : PySem.W.Frag) : Sp := fun vs H Q _ => ∃ (a : Addr) (ns : List Int) (i : Nat) (j : Int), vs = [.ref a, .int j] ∧ j = (i : Int) ∧ SqL K H a (ns.map V.int) ∧
  ∀ (p : Addr) (x y z : Int), H p = none → Q (.ref p) (upd H p (.lst (dxs x y z)))
structure TxtD (mg : Str → Option Value) : Prop where
  mI : mg "int" = none
  mL : mg "len" = none
  mA : mg "abs" = none
  mM : mg "max" = none
theorem scD : FnScope ["_law_script", "_law_at", "_law_cell", "_law_great", "_law_mixed_here"] ["_law_script", "_law_at"] (defScope sDice) :=
  ⟨rfl, rfl, rfl, by decide +kernel, rfl, by decide +kernel, by decide +kernel⟩
theorem ok_dice {f : Addr} {fd : FuncData} (F : Fun K "_law_dice" "_law_dice" sDice f fd) (T : TxtD mg) : FnOk P w K mg base CX0 1 f fd ["_law_script", "_law_at"] (spDice K) := by
  refine F.ok scD (fun vs H Q E h => ?_) (fun cdv A outer s H vs Q E hr h => ?_)
  · obtain ⟨a, ns, i, j, rfl, _⟩ := h
    rfl
  · obtain ⟨a, ns, i, j, rfl, rfl, hs, k⟩ := h
    have hu := hu_of hr
    refine ⟨_, pss_cons (ps_set (i := 2) scD.nd rfl (Or.inl rfl) (pe_op op_add (pe_op op_mul pe_int (pv 1)) pe_int))
      (pss_cons (ps_if (pt_cmpR op_lt (pv 1) (pe_callB call_len_seq (by rfl) T.mL PySem.boot_len (pa_cons (pv 0) pa_nil)) (nomark _))
        (pss_one (ps_set (i := 2) scD.nd rfl (Or.inl rfl) (pe_ix ix_list (pv 0) (pv 1) (fun _ _ => rfl)))) pss_nil)
      (pss_cons (ps_set (i := 3) scD.nd rfl (Or.inl rfl) (pe_op op_modN (pe_callTy call_int1 (by rfl) T.mI (by decide +kernel) (pa_cons (pe_callB call_abs (by rfl) T.mA (by decide +kernel) (pa_cons (pv 2) pa_nil)) pa_nil))
          (pe_op op_powW (pe_op op_powW pe_int pe_int) pe_int)))
      (pss_cons (ps_set (i := 4) scD.nd rfl (Or.inl rfl) (pe_op op_add (pe_op op_add (pe_op op_add
          (pe_op op_mul (pe_op op_modN (pe_callTy call_int1 (by rfl) T.mI (by decide +kernel) (pa_cons (pv 3) pa_nil)) pe_int) pe_int)
          (pe_op op_mul pe_int (pv 1)))
          (pe_op op_mul pe_int (pe_callTy call_int1 (by rfl) T.mI (by decide +kernel) (pa_cons (pe_cmpR op_lt (pv 2) pe_int (nomark _)) pa_nil)))) pe_int))
      (pss_one (ps_ret (pe_lst (pa_cons (pe_callB (call_max2 rfl) (by rfl) T.mM (by decide +kernel) (pa_cons pe_int (pa_cons (pe_op op_sub (pv 3) (pe_op op_powW pe_int pe_int)) pa_nil)))
          (pa_cons (pe_op op_modN (pe_callTy call_int1 (by rfl) T.mI (by decide +kernel) (pa_cons (pv 4) pa_nil)) pe_int) (pa_cons pe_int pa_nil))))))))), ?_⟩
    refine ⟨_, rfl, _, _, rfl, rfl, .inl ⟨by decide, by decide⟩, _, _, rfl, rfl, ?_⟩
    refine ⟨_, rfl, _, rfl, a, _, rfl, .inl hs, _, _, rfl, rfl, _, rfl, ?_⟩
    refine ite2 (fun ha => ?_) (fun ha => ?_)
    · have hlt : i < (ns.map V.int).length := by
        have z := of_decide_eq_true ha
        omega
      refine ⟨_, rfl, _, rfl, a, _, _, V.int ((ns.getD i 0)), rfl, rfl, hs, atI_nat (by
        rw [List.length_map] at hlt
        simp [hlt]), ?_⟩
      refine ⟨_, rfl, _, rfl, .inl ⟨_, rfl, ?_⟩⟩
      refine ⟨_, _, rfl, rfl, pow60, _, _, rfl, rfl, pow600, _, _, rfl, rfl, big600_nz, ?_⟩
      refine ⟨_, rfl, .inl ⟨_, rfl, ?_⟩⟩
      refine ⟨_, _, rfl, rfl, nz4, _, _, rfl, rfl, .inr ⟨by decide, by decide⟩, ?_⟩
      refine ⟨_, rfl, _, _, rfl, rfl, .inl ⟨by decide, by decide⟩, _, _, rfl, rfl, ?_⟩
      refine ⟨_, rfl, _, _, rfl, rfl, .inr ⟨_, rfl, ?_⟩⟩
      refine ⟨_, _, rfl, rfl, .inl ⟨by decide, by decide⟩, _, _, rfl, rfl, _, _, rfl, rfl, ?_⟩
      refine ⟨_, rfl, _, _, rfl, rfl, pow18, _, _, rfl, rfl, _, _, rfl, ?_⟩
      refine ⟨_, rfl, .inl ⟨_, rfl, ?_⟩⟩
      refine ⟨_, _, rfl, rfl, nz5, ?_⟩
      refine ⟨by show 3 ≤ sizeLine; decide, fun p hp => ?_⟩
      exact k _ _ _ _ hp
    · refine ⟨_, rfl, _, rfl, .inl ⟨_, rfl, ?_⟩⟩
      refine ⟨_, _, rfl, rfl, pow60, _, _, rfl, rfl, pow600, _, _, rfl, rfl, big600_nz, ?_⟩
      refine ⟨_, rfl, .inl ⟨_, rfl, ?_⟩⟩
      refine ⟨_, _, rfl, rfl, nz4, _, _, rfl, rfl, .inr ⟨by decide, by decide⟩, ?_⟩
      refine ⟨_, rfl, _, _, rfl, rfl, .inl ⟨by decide, by decide⟩, _, _, rfl, rfl, ?_⟩
      refine ⟨_, rfl, _, _, rfl, rfl, .inr ⟨_, rfl, ?_⟩⟩
      refine ⟨_, _, rfl, rfl, .inl ⟨by decide, by decide⟩, _, _, rfl, rfl, _, _, rfl, rfl, ?_⟩
      refine ⟨_, rfl, _, _, rfl, rfl, pow18, _, _, rfl, rfl, _, _, rfl, ?_⟩
      refine ⟨_, rfl, .inl ⟨_, rfl, ?_⟩⟩
      refine ⟨_, _, rfl, rfl, nz5, ?_⟩
      refine ⟨by show 3 ≤ sizeLine; decide, fun p hp => ?_⟩
      exact k _ _ _ _ hp
/-! ### one of a list's items -/
def spOneOf : Sp := fun vs H Q _ => ∃ (d p : Addr) (xs : List V), vs = [.ref d, .ref p] ∧ DiceAt H d ∧ H p = some (.lst xs) ∧ p ≠ d ∧ 0 < xs.length ∧ xs.length < 1000 ∧
  ∀ (k : Nat) (x : V) (a b c : Int), xs[k]? = some x → Q x (upd H d (.lst (dxs a b c)))
theorem scO : FnScope ["_law_dice_here", "_law_items"] ["_law_dice_here", "_law_items"] (defScope sOneOf) :=
  ⟨rfl, rfl, rfl, by decide +kernel, rfl, by decide +kernel, by decide +kernel⟩
theorem ok_oneOf {f fR : Addr} {fd fdR : FuncData} (F : Fun K "_law_one_of" "_law_one_of" sOneOf f fd) (T : TxtD mg) (FR : Fun K "_law_roll" "_law_roll" sRoll fR fdR)
    (mR : mg "_law_roll" = some (.ref fR)) (kR : PySem.W.keepIn K (.ref fR) = true) (bR : Binds K fdR ["_law_dice_here", "_law_total"] []) : FnOk P w K mg base CX0 2 f fd ["_law_dice_here", "_law_items"] spOneOf := by
  have G : FnOk P w K mg base CX0 1 fR fdR ["_law_dice_here", "_law_total"] spRoll := ok_roll FR T.mI
  refine F.ok scO (fun vs H Q E h => ?_) (fun cdv A outer s H vs Q E hr h => ?_)
  · obtain ⟨d, p, xs, rfl, _⟩ := h
    rfl
  · obtain ⟨d, p, xs, rfl, hd, hp, ne, h0, h1, k⟩ := h
    have hu := hu_of hr
    refine ⟨_, pss_one (ps_ret (pe_ix ix_list (pv 1) (pe_call G hr (by rfl) mR kR bR .nil pass0
      (pa_cons (pv 0) (pa_cons (pe_callB call_len_seq (by rfl) T.mL PySem.boot_len (pa_cons (pv 1) pa_nil)) pa_nil))) (fun _ _ => rfl))), ?_⟩
    refine ⟨_, rfl, _, rfl, _, rfl, p, xs, rfl, .inl (SqL.of hp), d, _, rfl, hd, by omega, by omega, fun r a b c hr0 hr1 => ?_⟩
    obtain ⟨k', rfl⟩ : ∃ k' : Nat, r = (k' : Int) := ⟨r.toNat, by omega⟩
    have hk : k' < xs.length := by omega
    refine ⟨p, xs, _, xs[k'], rfl, rfl, SqL.of (by rw [upd_ne ne]; exact hp), atI_nat (List.getElem?_eq_getElem hk), ?_⟩
    exact k k' _ a b c (List.getElem?_eq_getElem hk)
end
end LD
set_option Elab.async false
set_option linter.all false
set_option maxRecDepth 100000
set_option maxHeartbeats 1000000
/-! the law's dice; _law_mixed, _law_weight -/
namespace FR
open PySem PySem.Spec PyProof.Rows L2 LD
abbrev sMx : Stmt := FR.top 44
abbrev NMx : List Str := ["_law_dice_here", "_law_items", "_law_left", "_law_turn"]
theorem scMx : FnScope NMx ["_law_dice_here", "_law_items"] (defScope sMx) := ⟨rfl, rfl, rfl, by decide +kernel, rfl, by decide +kernel, by decide +kernel⟩
abbrev sWe : Stmt := FR.top 45
abbrev NWe : List Str := ["_law_dice_here"]
theorem scWe : FnScope NWe ["_law_dice_here"] (defScope sWe) := ⟨rfl, rfl, rfl, by decide +kernel, rfl, by decide +kernel, by decide +kernel⟩
theorem pe_bmK {X : Cx} {K : PySem.W.Frag} {T : String} {name : Str} {id : String} {r : V → List V → Hp → VK → Prop} {o e : Expr} {es : List Expr} {to : TE} {t : L2.TA} {apos cpos : Pos} (hK : X.K = K) (pa : PlainAttrs T) (slot : Slot T name id) (hty : typeOf (.builtin id) = pure (.type "method_descriptor")) (hm : MtR X id r) (ho : PE X o to) (ha : PA X (e :: es) t)
    (hbase : attributeBase o name X.env (eval o X.env) = eval o X.env := by rfl)
    (hfew : ((backTo cpos (starEach (e :: es) X.env)).all (fun x => !x.1) && (backToKw cpos (keywordEach [] X.env)).all (fun x => x.1.isSome)
      && decide ((e :: es).length + ([] : List Keyword).length + (if ([] : List Keyword).isEmpty then 0 else 1) < 30)) = true := by rfl)
    (hline : (apos.endLine == cpos.line) = true := by rfl) (hs : starEach (e :: es) X.env = (false, eval e X.env) :: starEach es X.env := by rfl) (hplain : (backTo cpos (starEach es X.env)).any (·.1) = false := by rfl) :
    PE X (.Call (.Attribute o name apos) (e :: es) [] cpos) (tBM K T r to t) := by
  subst hK
  exact pe_bm pa slot hty hm ho ha hbase hfew hline hs hplain
/-- behind rolls: the dice are dice, all else stays -/
def Rl (d : Addr) (H H' : Hp) : Prop := DiceAt H' d ∧ But d H H'
theorem Rl.refl {d : Addr} {H : Hp} (h : DiceAt H d) : Rl d H H := ⟨h, fun _ _ _ e => e⟩
theorem Rl.trans {d : Addr} {H H1 H2 : Hp} (a : Rl d H H1) (b : Rl d H1 H2) : Rl d H H2 := ⟨b.1, a.2.trans b.2⟩
theorem Rl.roll {d : Addr} {H H1 : Hp} {a b c : Int} (r : Rl d H H1) : Rl d H (upd H1 d (.lst (dxs a b c))) := ⟨⟨a, b, c, upd_same⟩, r.2.trans But.upd⟩
theorem Rl.same {d : Addr} {H H1 H2 : Hp} (r : Rl d H H1) (s : Same H1 H2) : Rl d H H2 := ⟨by obtain ⟨a, b, c, e⟩ := r.1; exact ⟨a, b, c, s _ _ e⟩, r.2.trans (But.same s)⟩
theorem Rl.tk {d : Addr} {H H' : Hp} (r : Rl d H H') (h : DiceAt H d) : Tk H H' := by
  obtain ⟨a, b, c, e⟩ := h
  exact r.2.tk e (fun _ z => by cases z) (fun _ _ z => by cases z)
theorem dice_same {d : Addr} {H H' : Hp} (h : DiceAt H d) (s : Same H H') : DiceAt H' d := by
  obtain ⟨a, b, c, e⟩ := h
  exact ⟨a, b, c, s _ _ e⟩
theorem none_of_but {x a : Addr} {H H' : Hp} (b : But x H H') (n : a ≠ x) (h : H' a = none) : H a = none := by
  cases e : H a with
  | none => rfl
  | some o => rw [b _ _ n e] at h; cases h
theorem none_of_same {a : Addr} {H H' : Hp} (b : Same H H') (h : H' a = none) : H a = none := by
  cases e : H a with
  | none => rfl
  | some o => rw [b _ _ e] at h; cases h
theorem Rl.none {d a : Addr} {H H' : Hp} (r : Rl d H H') (hd : DiceAt H d) (h : H' a = none) : H a = none := by
  by_cases c : a = d
  · obtain ⟨x, y, z, e⟩ := r.1
    rw [c, e] at h
    cases h
  · exact none_of_but r.2 c h
/-- texts in a list, or as the keys of a dict -/
def Txs (H : Hp) (p : Addr) (xs : List Str) : Prop := H p = some (.lst (xs.map V.str)) ∨ ∃ kvs, H p = some (.dK kvs) ∧ (kvs.map fun kv => kV kv.1) = xs.map V.str
theorem erase_map {α β : Type} (f : α → β) : ∀ (l : List α) (i : Nat), (l.map f).eraseIdx i = (l.eraseIdx i).map f
  | [], _ => rfl
  | _ :: _, 0 => rfl
  | x :: l, i + 1 => by
    show f x :: (l.map f).eraseIdx i = f x :: (l.eraseIdx i).map f
    rw [erase_map f l i]
theorem erase_perm {α : Type} : ∀ (l : List α) (i : Nat) (y : α), l[i]? = some y → (y :: l.eraseIdx i).Perm l
  | x :: l, 0, y, h => by cases h; exact .refl _
  | x :: l, i + 1, y, h => by
    have := erase_perm l i y h
    exact (List.Perm.swap x y _).trans (this.cons x)
section
variable {P : Program} {w : World} {K : PySem.W.Frag} {mg : Str → Option Value} {base : Heap}
/-- the items in some order -/
def spMx : Sp := fun vs H Q _ => ∃ (d p : Addr) (xs : List Str), vs = [.ref d, .ref p] ∧ DiceAt H d ∧ Txs H p xs ∧ p ≠ d ∧ xs.length < 900 ∧ ∀ (ys : List Str) l H', ys.Perm xs → H l = none → Rl d H H' → H' l = some (.lst (ys.map V.str)) → Q (.ref l) H'
theorem ok_mx {f : Addr} {fd : FuncData} (F : Fun K "_law_mixed" "_law_mixed" sMx f fd) (T : LD.TxtD mg) (ml : mg "list" = none) (mr : mg "range" = none) (gR : Glo P w K mg base "_law_roll" 1 ["_law_dice_here", "_law_total"] spRoll) : FnOk P w K mg base CX0 2 f fd ["_law_dice_here", "_law_items"] spMx := by
  refine F.ok scMx (fun vs H Q E h => ?_) (fun cdv A outer s H vs Q E hr h => ?_)
  · obtain ⟨d, p, xs, rfl, _⟩ := h
    rfl
  · obtain ⟨d, p, xs, rfl, hd, hx, nd, few, q⟩ := h
    obtain ⟨tR, hR, qR⟩ : ∃ t, PSs (cxOf CX0 P w K mg base NMx "_law_mixed" (defScope sMx) f cdv A outer s H E).nox ((defBody sMx).drop 1) t ∧ ∀ l, H l = none → t { nx := fun _ H' => Q .non H', rt := Q } [some (.ref d), some (.ref p), some (.ref l), none] (upd H l (.lst (xs.map V.str))) := by
      refine ⟨_, (pss_one (ps_ret (pe_lc (X := (cxOf CX0 P w K mg base NMx "_law_mixed" (defScope sMx) f cdv A outer s H E).nox) (own := [("_law_turn", 3)]) (g := (gName 3)) (tt := tYes) rfl scMx.nd (pi_range1 (by rfl) mr (pa_cons (pe_callB (CallR.or call_len_seq call_lenD) (by rfl) T.mL PySem.boot_len (pa_cons (pv 1) pa_nil)) pa_nil)) (blkOk_by (N := NMx) (sc := defScope sMx) (by decide +kernel)) (fun _ _ _ _ _ => (pg_name (i := 3) scMx.nd rfl (.inl rfl))) (fun _ _ _ _ _ => pts_nil) (fun _ _ _ _ _ => (pe_bmK (K := K) rfl PySem.F.plainAttrs_list PySem.F.slot_list_pop PySem.F.type_list_pop mt_popAt (pv 2) (pa_cons (pe_call gR.G (hr.mono (by decide)) (by rfl) gR.m gR.k gR.b .nil pass0 (pa_cons (pv 0) (pa_cons (pe_callB (call_len_seqK (K := K) rfl) (by rfl) T.mL PySem.boot_len (pa_cons (pv 2) pa_nil)) pa_nil))) pa_nil)))))), fun l hl => ?_⟩
      have s1 := same_new (o := .lst (xs.map V.str)) hl
      have hl1 : upd H l (.lst (xs.map V.str)) l = some (.lst (xs.map V.str)) := upd_same
      have nl : l ≠ d := by
        obtain ⟨x, y, z, e⟩ := hd
        exact fun c => by rw [c, e] at hl; cases hl
      have hd1 := dice_same hd s1
      have hx1 : Txs (upd H l (.lst (xs.map V.str))) p xs := hx.elim (fun e => .inl (s1 _ _ e)) fun ⟨kvs, e, k⟩ => .inr ⟨kvs, s1 _ _ e, k⟩
      generalize upd H l (.lst (xs.map V.str)) = H1 at s1 hl1 hd1 hx1 ⊢
      have rng : ∀ (R : It → Hp → Prop), R (Itr 0 xs.length) H1 → (iRng1 (tCons (tCB (fun xs H Q => (∃ p ys, xs = [V.ref p] ∧ (SqL K H p ys ∨ SqT K H p ys) ∧ Q (.int ys.length) H) ∨ ∃ a kvs, xs = [V.ref a] ∧ H a = some (.dK kvs) ∧ Q (.int kvs.length) H) (tCons (tVar 1) tNil)) tNil)) [some (.ref d), some (.ref p), some (.ref l), none] H1 R := fun R h => by
        rcases hx1 with e | ⟨kvs, e, k⟩
        · refine ⟨_, rfl, .inl ⟨p, _, rfl, .inl (SqL.of e), _, rfl, ?_, ?_, ?_⟩⟩
          · omega
          · rw [List.length_map]; omega
          · rw [List.length_map]; exact h
        · have le : kvs.length = xs.length := by
            have z := congrArg List.length k
            rw [List.length_map, List.length_map] at z
            exact z
          refine ⟨_, rfl, .inr ⟨p, kvs, rfl, e, _, rfl, ?_, ?_, ?_⟩⟩
          · omega
          · omega
          · rw [le]; exact h
      unfold tRet tLc
      refine rng _ ?_
      intro D hD
      refine lc_range (lo := 0) (n := xs.length) (fun i Hc => (∀ a o, a ≠ d → a ≠ l → H1 a = some o → Hc a = some o) ∧ DiceAt Hc d ∧ ∃ ys ls : List Str, Hc l = some (.lst (ls.map V.str)) ∧ Hc D = some (.lst (ys.map V.str)) ∧ (ys ++ ls).Perm xs ∧ ys.length = i) ?_ ?_ ?_
      · exact ⟨fun a o _ _ e => (same_new hD) _ _ e, dice_same hd1 (same_new hD), [], xs, (same_new hD) _ _ hl1, upd_same, .refl _, rfl⟩
      · rintro i Hc hi ⟨keep, hdc, ys, ls, hlc, hDc, pm, ly⟩
        have tot : ys.length + ls.length = xs.length := by rw [← List.length_append, pm.length_eq]
        refine ⟨rfl, _, rfl, .inl ⟨rfl, _, SqL.of hlc⟩, _, rfl, _, rfl, l, _, rfl, .inl (SqL.of hlc), d, _, rfl, hdc, by rw [List.length_map]; omega, by rw [List.length_map]; omega, fun r a b c r0 r1 => ?_⟩
        rw [List.length_map] at r1
        have hl2 : upd Hc d (.lst (dxs a b c)) l = some (.lst (ls.map V.str)) := by rw [upd_ne nl]; exact hlc
        obtain ⟨r', rfl⟩ : ∃ r' : Nat, r = (r' : Int) := ⟨r.toNat, by omega⟩
        have hr' : r' < ls.length := by omega
        refine ⟨l, _, (r' : Int), r', V.str ls[r'], rfl, rfl, hl2, by omega, by omega, by rw [seqIndex_of (by omega) (by rw [List.length_map]; omega)]; rfl, by rw [List.getElem?_map, List.getElem?_eq_getElem hr']; rfl, ?_⟩
        have nD : D ≠ l := fun z => by
          rw [z] at hD
          rw [hD] at hl1
          cases hl1
        have nDd : D ≠ d := fun z => by
          obtain ⟨x, y, z', e⟩ := hd1
          rw [z, e] at hD
          cases hD
        have eer : (ls.map V.str).eraseIdx r' = (ls.eraseIdx r').map V.str := erase_map V.str ls r'
        rw [eer]
        have hD2 : upd (upd Hc d (.lst (dxs a b c))) l (.lst ((ls.eraseIdx r').map V.str)) D = some (.lst (ys.map V.str)) := by rw [upd_ne nD, upd_ne nDd]; exact hDc
        refine ⟨_, hD2, small1000 (by rw [List.length_map]; omega), fun x o n1 n2 e => ?_, ⟨a, b, c, ?_⟩, ys ++ [ls[r']], ls.eraseIdx r', ?_, ?_, ?_, ?_⟩
        · have nx : x ≠ D := ne_of_none e hD
          rw [upd_ne nx, upd_ne n2, upd_ne n1]
          exact keep x o n1 n2 e
        · rw [upd_ne (Ne.symm nDd), upd_ne (Ne.symm nl), upd_same]
        · rw [upd_ne (Ne.symm nD), upd_same]
        · rw [upd_same, List.map_append]
          rfl
        · rw [List.append_assoc]
          exact ((erase_perm ls r' _ (List.getElem?_eq_getElem hr')).append_left ys).trans pm
        · rw [List.length_append, ly]
          rfl
      · rintro Hc ⟨keep, hdc, ys, ls, hlc, hDc, pm, ly⟩
        have tot : ys.length + ls.length = xs.length := by rw [← List.length_append, pm.length_eq]
        have e0 : ls = [] := List.length_eq_zero_iff.mp (by omega)
        subst e0
        rw [List.append_nil] at pm
        exact q ys D Hc pm (none_of_same s1 hD) ⟨hdc, fun a o n e => keep a o n (ne_of_none e hl) (s1 _ _ e)⟩ hDc
    refine ⟨_, pss_cons (ps_set (i := 2) scMx.nd rfl (Or.inr rfl) (pe_callTy (CallR.or call_list_of (call_listD rfl)) (by rfl) ml (by decide +kernel) (pa_cons (pv 1) pa_nil))) hR, ?_⟩
    rcases hx with hx | ⟨kvs, hx, ek⟩
    · exact ⟨_, rfl, .inl ⟨p, _, rfl, .inl (SqL.of hx), fun l hl => qR l hl⟩⟩
    · refine ⟨_, rfl, .inr ⟨p, kvs, rfl, .inl hx, fun l hl => ?_⟩⟩
      rw [ek]
      exact qR l hl
def spWe : Sp := fun vs H Q _ => ∃ d, vs = [.ref d] ∧ DiceAt H d ∧ ∀ (i : Int) H', 1 ≤ i → i ≤ 9 → Rl d H H' → Q (.int i) H'
theorem ok_we {f : Addr} {fd : FuncData} (F : Fun K "_law_weight" "_law_weight" sWe f fd) (gO : Glo P w K mg base "_law_one_of" 2 ["_law_dice_here", "_law_items"] spOneOf) : FnOk P w K mg base CX0 3 f fd ["_law_dice_here"] spWe := by
  refine F.ok scWe (fun vs H Q E h => ?_) (fun cdv A outer s H vs Q E hr h => ?_)
  · obtain ⟨d, rfl, _⟩ := h
    rfl
  · obtain ⟨d, rfl, hd, q⟩ := h
    refine ⟨_, (pss_one (ps_ret (pe_call gO.G (hr.mono (by decide)) (by rfl) gO.m gO.k gO.b .nil pass0 (pa_cons (pv 0) (pa_cons (pe_lst (pa_cons pe_int (pa_cons pe_int (pa_cons pe_int (pa_cons pe_int (pa_cons pe_int (pa_cons pe_int (pa_cons pe_int (pa_cons pe_int pa_nil))))))))) pa_nil))))), ?_⟩
    refine ⟨_, rfl, small1000 (Nat.le_of_ble_eq_true rfl), fun l hl => ?_⟩
    have s1 := same_new (o := .lst [.int 1, .int 1, .int 2, .int 2, .int 3, .int 4, .int 5, .int 9]) hl
    have nl : l ≠ d := by
      obtain ⟨x, y, z, e⟩ := hd
      exact fun c => by rw [c, e] at hl; cases hl
    refine ⟨d, l, _, rfl, dice_same hd s1, upd_same, nl, by show 0 < 8; decide, by show 8 < 1000; decide, fun k x a b c hk => ?_⟩
    have r : Rl d H (upd (upd H l (.lst [.int 1, .int 1, .int 2, .int 2, .int 3, .int 4, .int 5, .int 9])) d (.lst (dxs a b c))) := ((Rl.refl hd).same s1).roll
    have all : ∀ (k : Nat) (x : V), ([.int 1, .int 1, .int 2, .int 2, .int 3, .int 4, .int 5, .int 9] : List V)[k]? = some x → ∃ i : Int, x = .int i ∧ 1 ≤ i ∧ i ≤ 9 := fun k x h => by
      have m := List.mem_of_getElem? h
      simp only [List.mem_cons, List.not_mem_nil, or_false] at m
      rcases m with e | e | e | e | e | e | e | e <;> exact ⟨_, e, by decide, by decide⟩
    obtain ⟨i, rfl, i1, i2⟩ := all k x hk
    exact q i _ i1 i2 r
end
end FR
set_option Elab.async false
set_option linter.all false
set_option maxRecDepth 100000
set_option maxHeartbeats 1000000
/-! drawn statements and bodies -/
namespace FR
open PySem PySem.Spec PyProof.Rows L2 LD
abbrev sLs : Stmt := FR.top 46
abbrev NLs : List Str := ["_law_dice_here", "_law_deep", "_law_names", "_law_room", "_law_extra", "_law_way", "_law_stop", "_law_go", "_law_rows", "_law_turn"]
theorem scLs : FnScope NLs ["_law_dice_here", "_law_deep", "_law_names", "_law_room", "_law_extra"] (defScope sLs) := ⟨rfl, rfl, rfl, by decide +kernel, rfl, by decide +kernel, by decide +kernel⟩
abbrev sLy : Stmt := FR.top 47
abbrev NLy : List Str := ["_law_dice_here", "_law_deep", "_law_names", "_law_room", "_law_extra", "_law_found", "_law_turn"]
theorem scLy : FnScope NLy ["_law_dice_here", "_law_deep", "_law_names", "_law_room", "_law_extra"] (defScope sLy) := ⟨rfl, rfl, rfl, by decide +kernel, rfl, by decide +kernel, by decide +kernel⟩
abbrev P5 : List Str := ["_law_dice_here", "_law_deep", "_law_names", "_law_room", "_law_extra"]
section
variable {P : Program} {w : World} {K : PySem.W.Frag} {mg : Str → Option Value} {base : Heap}
/-- a statement as it is drawn, its bodies by B -/
def GdS (ns es : List Str) (B : Bd → Prop) : St → Prop
  | .note z => z = "a" ∨ z = "b"
  | .call z => z ∈ ns
  | .stay => ("stay" : Str) ∈ es
  | .again i j b => (1 ≤ i ∧ i ≤ 9) ∧ (1 ≤ j ∧ j ≤ 9) ∧ B b
  | .choose bs => ("choose" : Str) ∈ es ∧ (2 ≤ bs.length ∧ bs.length ≤ 3) ∧ ∀ b ∈ bs, B b
  | .toss rs => (2 ≤ rs.length ∧ rs.length ≤ 4) ∧ ∀ r ∈ rs, (1 ≤ r.1 ∧ r.1 ≤ 9) ∧ B r.2
def GdB (ns es : List Str) : Nat → Bd → Prop
  | 0 => fun _ => False
  | n + 1 => fun b => b.length ≤ 3 ∧ ∀ s ∈ b, GdS ns es (GdB ns es n) s
/-- how many statements are in a statement's bodies -/
abbrev cntS (n : Nat) (s : St) : Nat := (s.kids.map (cnt n)).sum
/-- what the drawing stands on: dice, names, room, extra -/
structure Dw (d n m e : Addr) (ns es : List Str) (H : Hp) (r : Int) : Prop where
  dice : DiceAt H d
  room : H m = some (.lst [.int r])
  nm : H n = some (.lst (ns.map V.str))
  ex : H e = some (.lst (es.map V.str))
  n0 : 0 < ns.length
  n1 : ns.length < 900
  e1 : es.length < 900
  r0 : 0 ≤ r
/-- all stays but dice and room -/
def Bt2 (d m : Addr) (H H' : Hp) : Prop := ∀ a o, a ≠ d → a ≠ m → H a = some o → H' a = some o
theorem Bt2.refl {d m : Addr} (H : Hp) : Bt2 d m H H := fun _ _ _ _ e => e
theorem Bt2.trans {d m : Addr} {H H1 H2 : Hp} (a : Bt2 d m H H1) (b : Bt2 d m H1 H2) : Bt2 d m H H2 := fun q o n1 n2 e => b q o n1 n2 (a q o n1 n2 e)
theorem Bt2.of {d m : Addr} {H H' : Hp} (s : Same H H') : Bt2 d m H H' := fun a o _ _ e => s a o e
theorem Bt2.rl {d m : Addr} {H H' : Hp} (s : Rl d H H') : Bt2 d m H H' := fun a o n _ e => s.2 a o n e
section
variable {d n m e : Addr} {ns es : List Str} {H H' : Hp} {r : Int}
theorem Dw.mD (h : Dw d n m e ns es H r) : m ≠ d := by
  obtain ⟨x, y, z, q⟩ := h.dice
  exact fun c => by rw [← c, h.room] at q; cases q
theorem Dw.nD (h : Dw d n m e ns es H r) : n ≠ d := by
  obtain ⟨x, y, z, q⟩ := h.dice
  intro c
  rw [← c, h.nm] at q
  have q := HO.lst.inj (Option.some.inj q)
  cases ns with
  | nil => cases q
  | cons z t => cases q
theorem Dw.eD (h : Dw d n m e ns es H r) : e ≠ d := by
  obtain ⟨x, y, z, q⟩ := h.dice
  intro c
  rw [← c, h.ex] at q
  have q := HO.lst.inj (Option.some.inj q)
  cases es with
  | nil => cases q
  | cons z t => cases q
theorem Dw.nM (h : Dw d n m e ns es H r) : n ≠ m := by
  have q := h.room
  intro c
  rw [← c, h.nm] at q
  have q := HO.lst.inj (Option.some.inj q)
  cases ns with
  | nil => cases q
  | cons z t => cases q
theorem Dw.eM (h : Dw d n m e ns es H r) : e ≠ m := by
  have q := h.room
  intro c
  rw [← c, h.ex] at q
  have q := HO.lst.inj (Option.some.inj q)
  cases es with
  | nil => cases q
  | cons z t => cases q
theorem Dw.rl (h : Dw d n m e ns es H r) (s : Rl d H H') : Dw d n m e ns es H' r where
  dice := s.1
  room := s.2 _ _ h.mD h.room
  nm := s.2 _ _ h.nD h.nm
  ex := s.2 _ _ h.eD h.ex
  n0 := h.n0
  n1 := h.n1
  e1 := h.e1
  r0 := h.r0
theorem Dw.same (h : Dw d n m e ns es H r) (s : Same H H') : Dw d n m e ns es H' r := h.rl ((Rl.refl h.dice).same s)
theorem Dw.put (h : Dw d n m e ns es H r) {r' : Int} (p : 0 ≤ r') : Dw d n m e ns es (upd H m (.lst [.int r'])) r' where
  dice := by
    obtain ⟨x, y, z, q⟩ := h.dice
    exact ⟨x, y, z, by rw [upd_ne h.mD.symm]; exact q⟩
  room := upd_same
  nm := by rw [upd_ne h.nM]; exact h.nm
  ex := by rw [upd_ne h.eM]; exact h.ex
  n0 := h.n0
  n1 := h.n1
  e1 := h.e1
  r0 := p
theorem Bt2.tk (h : Dw d n m e ns es H r) (b : Bt2 d m H H') : Tk H H' := by
  obtain ⟨x, y, z, q⟩ := h.dice
  have p := h.room
  refine ⟨fun a xs e => b a _ (fun c => ?_) (fun c => ?_) e, fun a o xs e => b a _ (fun c => ?_) (fun c => ?_) e⟩
  · rw [c, q] at e; cases e
  · rw [c, p] at e; cases e
  · rw [c, q] at e; cases e
  · rw [c, p] at e; cases e
theorem Dw.free (h : Dw d n m e ns es H r) {r' : Int} (b : Bt2 d m H H') (g : Dw d n m e ns es H' r') {a : Addr} (f : H' a = none) : H a = none := by
  cases c : H a with
  | none => rfl
  | some o =>
    by_cases q : a = d
    · obtain ⟨x, y, z, u⟩ := g.dice
      rw [q, u] at f; cases f
    · by_cases q2 : a = m
      · rw [q2, g.room] at f; cases f
      · rw [b a o q q2 c] at f; cases f
end
def spLs (k : Nat) : Sp := fun vs H Q _ => ∃ (d n m e : Addr) (ns es : List Str) (r : Int), vs = [.ref d, .int (k : Nat), .ref n, .ref m, .ref e] ∧ Dw d n m e ns es H r ∧
  ∀ v s H' r', Dw d n m e ns es H' r' → Bt2 d m H H' → StAt k H' v s → GdS ns es (GdB ns es k) s → (cntS k s : Int) + r' = r → Q v H'
def spLy (k : Nat) : Sp := fun vs H Q _ => ∃ (d n m e : Addr) (ns es : List Str) (r : Int), 1 ≤ k ∧ vs = [.ref d, .int ((k : Int) - 1), .ref n, .ref m, .ref e] ∧ Dw d n m e ns es H r ∧
  ∀ v b H' r', Dw d n m e ns es H' r' → Bt2 d m H H' → BdAt k H' v b → GdB ns es k b → (cnt k b : Int) + r' = r → Q v H'
theorem or_if {c1 c2 : Bool} {A B X : Prop} (hx : (if c2 = true then A else B) → X) (ha : (c1 || c2) = true → A) (hb : (c1 || c2) = false → B) : if c1 = true then (if true = true then A else B) else X := by
  cases c1 with
  | true => exact ha rfl
  | false => exact hx (by cases c2 with | true => exact ha rfl | false => exact hb rfl)
theorem and_if {c1 c2 : Bool} {A B X : Prop} (hx : (if c2 = true then A else B) → X) (ha : (c1 && c2) = true → A) (hb : (c1 && c2) = false → B) : if c1 = true then X else (if false = true then A else B) := by
  cases c1 with
  | true => exact hx (by cases c2 with | true => exact ha rfl | false => exact hb rfl)
  | false => exact hb rfl
theorem inV_strs {z : Str} : ∀ {es : List Str}, inV (.str z) (es.map V.str) = decide (z ∈ es)
  | [] => rfl
  | x :: es => by
    have e : inV (.str z) ((x :: es).map V.str) = (eqV (.str x) (.str z) || inV (.str z) (es.map V.str)) := rfl
    have e2 : eqV (.str x) (.str z) = decide (x = z) := rfl
    rw [e, inV_strs, e2]
    by_cases h : x = z
    · subst h; simp
    · have : z ≠ x := fun q => h q.symm
      simp [h, this]
theorem flat_strs : ∀ {es : List Str}, (es.map V.str).all flatV = true
  | [] => rfl
  | _ :: es => flat_strs (es := es)
section
variable {d n m e : Addr} {ns es : List Str} {H H' : Hp} {r : Int}
theorem Dw.grow (h : Dw d n m e ns es H r) {r' : Int} (g : Dw d n m e ns es H' r') {D : Addr} {o : HO} (f : H D = none) : Dw d n m e ns es (upd H' D o) r' where
  dice := by
    obtain ⟨x, y, z, q⟩ := g.dice
    obtain ⟨x', y', z', q'⟩ := h.dice
    exact ⟨x, y, z, by rw [upd_ne (ne_of_none q' f)]; exact q⟩
  room := by rw [upd_ne (ne_of_none h.room f)]; exact g.room
  nm := by rw [upd_ne (ne_of_none h.nm f)]; exact g.nm
  ex := by rw [upd_ne (ne_of_none h.ex f)]; exact g.ex
  n0 := h.n0
  n1 := h.n1
  e1 := h.e1
  r0 := g.r0
theorem Bt2.grow (b : Bt2 d m H H') {D : Addr} {o : HO} (f : H D = none) : Bt2 d m H (upd H' D o) := fun a u n1 n2 e => by
  rw [upd_ne (ne_of_none e f)]
  exact b a u n1 n2 e
end
theorem ok_ls {f fb : Addr} {fd fdb : FuncData} {k kb : Nat} (F : Fun K "_law_statement" "_law_statement" sLs f fd) (mr : mg "range" = none) (mt : mg "tuple" = none) (gR : Glo P w K mg base "_law_roll" 1 ["_law_dice_here", "_law_total"] spRoll) (gO : Glo P w K mg base "_law_one_of" 2 ["_law_dice_here", "_law_items"] spOneOf) (gW : Glo P w K mg base "_law_weight" 3 ["_law_dice_here"] spWe)
    (GB : FnOk P w K mg base CX0 kb fb fdb P5 (spLy k)) (k3 : 3 ≤ kb) (mB : mg "_law_body" = some (.ref fb)) (kB : PySem.W.keepIn K (.ref fb) = true) (bB : Binds K fdb P5 []) : FnOk P w K mg base CX0 (kb + 1) f fd P5 (spLs k) := by
  refine F.ok scLs (fun vs H Q E h => ?_) (fun cdv A outer s H vs Q E hr h => ?_)
  · obtain ⟨d, n, m, e, ns, es, r, rfl, _⟩ := h
    rfl
  · obtain ⟨d, n, m, e, ns, es, r, rfl, hw, q⟩ := h
    refine ⟨_, (pss_cons (ps_set (i := 5) scLs.nd rfl (Or.inl rfl) (pe_call gR.G (hr.mono (by omega)) (by rfl) gR.m gR.k gR.b .nil pass0 (pa_cons (pv 0) (pa_cons pe_int pa_nil))))
      (pss_cons (ps_if (pt_cmpR op_lt (pv 5) pe_int (nomark _)) (pss_one (ps_ret (pe_tup (pa_cons pe_str (pa_cons (pe_call gO.G (hr.mono (by omega)) (by rfl) gO.m gO.k gO.b .nil pass0 (pa_cons (pv 0) (pa_cons (pe_lst (pa_cons pe_str (pa_cons pe_str pa_nil))) pa_nil))) pa_nil))))) pss_nil)
      (pss_cons (ps_if (PW.pt (pw_or (pt_cmpR op_lt (pv 5) pe_int (nomark _)) (pw_or1 (pt_cmpR op_lt (pv 1) pe_int (nomark _))))) (pss_one (ps_ret (pe_tup (pa_cons pe_str (pa_cons (pe_call gO.G (hr.mono (by omega)) (by rfl) gO.m gO.k gO.b .nil pass0 (pa_cons (pv 0) (pa_cons (pv 2) pa_nil))) pa_nil))))) pss_nil)
      (pss_cons (ps_if (PW.pt (pw_and (pt_cmpR op_eq (pv 5) pe_int (nomark _)) (pw_and1 (pt_cmpR op_in_seq pe_str (pv 4) (by rfl))))) (pss_one (ps_ret (pe_tup (pa_cons pe_str pa_nil)))) pss_nil)
      (pss_cons (ps_if (pt_cmpR op_lt (pv 5) pe_int (nomark _)) (pss_cons (ps_par (i := 6) (j := 7) (by rfl) scLs.nd rfl rfl (by decide) rfl rfl (pa_cons (pe_call gW.G (hr.mono (by omega)) (by rfl) gW.m gW.k gW.b .nil pass0 (pa_cons (pv 0) pa_nil)) (pa_cons (pe_call gW.G (hr.mono (by omega)) (by rfl) gW.m gW.k gW.b .nil pass0 (pa_cons (pv 0) pa_nil)) pa_nil)) (by rfl))
      (pss_one (ps_ret (pe_tup (pa_cons pe_str (pa_cons (pv 6) (pa_cons (pv 7) (pa_cons (pe_call GB (hr.mono (by omega)) (by rfl) mB kB bB .nil pass0 (pa_cons (pv 0) (pa_cons (pe_op op_sub (pv 1) pe_int) (pa_cons (pv 2) (pa_cons (pv 3) (pa_cons (pv 4) pa_nil)))))) pa_nil)))))))) pss_nil)
      (pss_cons (ps_if (PW.pt (pw_and (pt_cmpR op_eq (pv 5) pe_int (nomark _)) (pw_and1 (pt_cmpR op_in_seq pe_str (pv 4) (by rfl))))) (pss_cons (ps_setLc (i := 8) (X := (cxOf CX0 P w K mg base NLs "_law_statement" (defScope sLs) f cdv A outer s H E).nox) (own := [("_law_turn", 9)]) (g := (gName 9)) (tt := tYes) rfl scLs.nd rfl rfl (sw_true rfl rfl rfl (by decide +kernel)) (pi_range1 (by rfl) mr (pa_cons (pe_op op_add pe_int (pe_call gR.G (hr.mono (by omega)) (by rfl) gR.m gR.k gR.b .nil pass0 (pa_cons (pv 0) (pa_cons pe_int pa_nil)))) pa_nil)) (blkOk_by (N := NLs) (sc := defScope sLs) (by decide +kernel)) (fun _ _ _ _ _ => (pg_name (i := 9) scLs.nd rfl (.inl rfl))) (fun _ _ _ _ _ => pts_nil) (fun _ _ _ _ _ => (pe_call GB (hr.mono (by omega)) (by rfl) mB kB bB .nil pass0 (pa_cons (pv 0) (pa_cons (pe_op op_sub (pv 1) pe_int) (pa_cons (pv 2) (pa_cons (pv 3) (pa_cons (pv 4) pa_nil))))))))
      (pss_one (ps_ret (pe_op op_catA (pe_tup (pa_cons pe_str pa_nil)) (pe_callTy call_tuple_of (by rfl) mt (by decide +kernel) (pa_cons (pv 8) pa_nil)))))) pss_nil)
      (pss_cons (ps_set (i := 8) scLs.nd rfl (Or.inl rfl) (pe_lst pa_nil))
      (pss_cons (ps_for PassesOwn.never rfl (pi_range1 (by rfl) mr (pa_cons (pe_op op_add pe_int (pe_call gO.G (hr.mono (by omega)) (by rfl) gO.m gO.k gO.b .nil pass0 (pa_cons (pv 0) (pa_cons (pe_lst (pa_cons pe_int (pa_cons pe_int (pa_cons pe_int (pa_cons pe_int pa_nil))))) pa_nil)))) pa_nil)) (pg_name (i := 9) scLs.nd rfl (.inl rfl)) (pss_one (ps_expr (pe_bm PySem.F.plainAttrs_list PySem.F.slot_list_append PySem.F.type_list_append mt_append (pv 8) (pa_cons (pe_tup (pa_cons (pe_call gW.G (hr.mono (by omega)) (by rfl) gW.m gW.k gW.b .nil pass0 (pa_cons (pv 0) pa_nil)) (pa_cons (pe_call GB (hr.mono (by omega)) (by rfl) mB kB bB .nil pass0 (pa_cons (pv 0) (pa_cons (pe_op op_sub (pv 1) pe_int) (pa_cons (pv 2) (pa_cons (pv 3) (pa_cons (pv 4) pa_nil)))))) pa_nil))) pa_nil)))))
      (pss_one (ps_ret (pe_op op_catA (pe_tup (pa_cons pe_str pa_nil)) (pe_callTy call_tuple_of (by rfl) mt (by decide +kernel) (pa_cons (pv 8) pa_nil))))))))))))), ?_⟩
    refine ⟨_, rfl, d, 12, rfl, hw.dice, by decide, by decide, fun way a b c w0 w12 => ?_⟩
    have R1 : Rl d H (upd H d (.lst (dxs a b c))) := (Rl.refl hw.dice).roll
    generalize upd H d (.lst (dxs a b c)) = H1 at R1 ⊢
    have W1 := hw.rl R1
    have B1 : Bt2 d m H H1 := .rl R1
    refine ⟨_, rfl, _, _, rfl, rfl, _, rfl, ite2 (fun h3 => ?_) (fun h3 => ?_)⟩
    · refine ⟨_, rfl, small1000 (Nat.le_of_ble_eq_true rfl), fun l hl => ?_⟩
      have s1 := same_new (o := .lst [.str "a", .str "b"]) hl
      have hl1 : upd H1 l (.lst [.str "a", .str "b"]) l = some (.lst [.str "a", .str "b"]) := upd_same
      have nl : l ≠ d := by
        obtain ⟨x, y, z, e⟩ := R1.1
        exact fun c => by rw [c, e] at hl; cases hl
      refine ⟨d, l, _, rfl, dice_same R1.1 s1, hl1, nl, by show 0 < 2; decide, by show 2 < 1000; decide, fun j x a' b' c' hk => ⟨small1000 (Nat.le_of_ble_eq_true rfl), fun p hp => ?_⟩⟩
      have R2 := ((Rl.refl R1.1).same s1).roll (a := a') (b := b') (c := c')
      have m' := List.mem_of_getElem? hk
      obtain ⟨z, rfl, hz⟩ : ∃ z, x = .str z ∧ (z = "a" ∨ z = "b") := by
        rcases List.mem_cons.mp m' with e | e
        · exact ⟨_, e, .inl rfl⟩
        · exact ⟨_, List.mem_singleton.mp e, .inr rfl⟩
      exact q _ (.note z) _ r ((W1.rl R2).same (same_new hp)) ((B1.trans (.rl R2)).trans (.of (same_new hp))) ⟨p, rfl, upd_same⟩ hz (by show (0 : Int) + r = r; omega)
    refine ⟨_, rfl, _, _, rfl, rfl, _, rfl, ?_⟩
    refine or_if (c2 := decide ((k : Int) < 1)) (fun z => ⟨_, rfl, _, _, rfl, rfl, _, rfl, z⟩) (fun hc => ?_) (fun hc => ?_)
    · refine ⟨_, rfl, _, rfl, d, n, _, rfl, W1.dice, W1.nm, W1.nD, by rw [List.length_map]; exact W1.n0, by rw [List.length_map]; exact Nat.lt_of_lt_of_le W1.n1 (by decide), fun j x a' b' c' hk => ⟨small1000 (Nat.le_of_ble_eq_true rfl), fun p hp => ?_⟩⟩
      have R2 := (Rl.refl R1.1).roll (a := a') (b := b') (c := c')
      obtain ⟨z, hz, rfl⟩ := List.mem_map.mp (List.mem_of_getElem? hk)
      exact q _ (.call z) _ r ((W1.rl R2).same (same_new hp)) ((B1.trans (.rl R2)).trans (.of (same_new hp))) ⟨p, rfl, upd_same⟩ hz (by show (0 : Int) + r = r; omega)
    have k1 : 1 ≤ k := by
      rw [Bool.or_eq_false_iff] at hc
      have := of_decide_eq_false hc.2
      omega
    refine ⟨_, rfl, rfl, _, rfl, ?_⟩
    refine and_if (c2 := decide (("stay" : Str) ∈ es)) (fun z => ⟨_, rfl, e, _, rfl, .inl (SqL.of W1.ex), rfl, flat_strs, _, by rw [inV_strs]; rfl, z⟩) (fun hc => ?_) (fun hc => ?_)
    · refine ⟨small1000 (Nat.le_of_ble_eq_true rfl), fun p hp => ?_⟩
      rw [Bool.and_eq_true] at hc
      exact q _ .stay _ r (W1.same (same_new hp)) (B1.trans (.of (same_new hp))) ⟨p, rfl, upd_same⟩ (show ("stay" : Str) ∈ es from of_decide_eq_true hc.2) (by show (0 : Int) + r = r; omega)
    refine ⟨_, rfl, _, _, rfl, rfl, _, rfl, ite2 (fun h8 => ?_) (fun h8 => ?_)⟩
    · refine ⟨_, rfl, d, rfl, W1.dice, fun i H2 i1 i9 R2 => ?_⟩
      have W2 := W1.rl R2
      refine ⟨_, rfl, d, rfl, W2.dice, fun j H3 j1 j9 R3 => ⟨_, _, rfl, ?_⟩⟩
      have W3 := W2.rl R3
      have B3 : Bt2 d m H H3 := (B1.trans (.rl R2)).trans (.rl R3)
      refine ⟨_, rfl, _, rfl, _, rfl, _, rfl, _, _, rfl, rfl, _, rfl, _, rfl, _, rfl, d, n, m, e, ns, es, r, k1, rfl, W3, fun v b H4 r4 W4 B4 hb gb hc4 => ⟨small1000 (Nat.le_of_ble_eq_true rfl), fun p hp => ?_⟩⟩
      have s5 : Same H4 (upd H4 p (.tup [.str "again", .int i, .int j, v])) := same_new hp
      exact q _ (.again i j b) _ r4 (W4.same s5) ((B3.trans B4).trans (.of s5)) ⟨p, v, rfl, upd_same, hb.same s5⟩ ⟨⟨i1, i9⟩, ⟨j1, j9⟩, gb⟩ (by show ((([b].map (cnt k)).sum : Nat) : Int) + r4 = r; rw [List.map_cons, List.map_nil, List.sum_cons, List.sum_nil]; omega)
    refine ⟨_, rfl, rfl, _, rfl, ?_⟩
    refine and_if (c2 := decide (("choose" : Str) ∈ es)) (fun z => ⟨_, rfl, e, _, rfl, .inl (SqL.of W1.ex), rfl, flat_strs, _, by rw [inV_strs]; rfl, z⟩) (fun hc => ?_) (fun hc => ?_)
    · rw [Bool.and_eq_true] at hc
      refine ⟨_, rfl, d, 2, rfl, W1.dice, by decide, by decide, fun x a b c x0 x2 => ?_⟩
      have R2 : Rl d H1 (upd H1 d (.lst (dxs a b c))) := (Rl.refl R1.1).roll
      generalize upd H1 d (.lst (dxs a b c)) = H2 at R2 ⊢
      have W2 := W1.rl R2
      have B2 : Bt2 d m H H2 := B1.trans (.rl R2)
      refine ⟨_, _, rfl, rfl, 2 + x, rfl, by omega, by omega, fun D hD => ?_⟩
      refine lc_range (lo := 0) (n := (2 + x).toNat) (fun i Hc => ∃ rc us bs, Dw d n m e ns es Hc rc ∧ Bt2 d m H2 Hc ∧ Hc D = some (.lst us) ∧ AG (fun w b => BdAt k Hc w b) us bs ∧ us.length = i ∧ (∀ b ∈ bs, GdB ns es k b) ∧ (((bs.map (cnt k)).sum : Nat) : Int) + rc = r) ?_ ?_ ?_
      · exact ⟨r, [], [], W2.same (same_new hD), .of (same_new hD), upd_same, AG.nil, rfl, (fun b h => absurd h List.not_mem_nil), (by show (0 : Int) + r = r; omega)⟩
      · rintro i Hc hi ⟨rc, us, bs, Wc, Bc, hDc, hu, ul, gs, sm⟩
        refine ⟨rfl, _, rfl, _, rfl, _, _, rfl, rfl, _, rfl, _, rfl, _, rfl, d, n, m, e, ns, es, rc, k1, rfl, Wc, fun v b H4 r4 W4 B4 hb gb hc4 => ?_⟩
        have nDd : D ≠ d := fun z => by
          obtain ⟨x, y, z', e⟩ := W2.dice
          rw [z, e] at hD
          cases hD
        have nDm : D ≠ m := fun z => by
          rw [z, W2.room] at hD
          cases hD
        have hD4 : H4 D = some (.lst us) := B4 _ _ nDd nDm hDc
        have tk : Tk H4 (upd H4 D (.lst (us ++ [v]))) := Tk.upd hD4 (fun _ z => by cases z) fun _ _ z => by cases z
        have tk2 : Tk Hc (upd H4 D (.lst (us ++ [v]))) := (Bt2.tk Wc B4).trans tk
        refine ⟨us, hD4, small1000 (by omega), r4, us ++ [v], bs ++ [b], W2.grow W4 hD, (Bc.trans B4).grow hD, upd_same, (hu.imp fun _ _ z => tk2.bd z).snoc (tk.bd hb), by rw [List.length_append, ul]; rfl, fun b' h => ?_, ?_⟩
        · rcases List.mem_append.mp h with h | h
          · exact gs b' h
          · rw [List.mem_singleton.mp h]; exact gb
        · rw [List.map_append, List.sum_append, List.map_cons, List.map_nil, List.sum_cons, List.sum_nil]
          omega
      · rintro Hc ⟨rc, us, bs, Wc, Bc, hDc, hu, ul, gs, sm⟩
        refine ⟨small1000 (Nat.le_of_ble_eq_true rfl), fun t ht => ?_⟩
        have s5 : Same Hc (upd Hc t (.tup [.str "choose"])) := same_new ht
        have ht5 : upd Hc t (.tup [.str "choose"]) t = some (.tup [.str "choose"]) := upd_same
        generalize upd Hc t (.tup [.str "choose"]) = H5 at s5 ht5 ⊢
        refine ⟨_, rfl, D, us, rfl, .inl ⟨SqL.of (s5 _ _ hDc), fun u hu6 => ?_⟩⟩
        have s6 : Same H5 (upd H5 u (.tup us)) := same_new hu6
        have hu6' : upd H5 u (.tup us) u = some (.tup us) := upd_same
        generalize upd H5 u (.tup us) = H6 at s6 hu6' ⊢
        refine ⟨t, u, _, _, rfl, rfl, SqT.of (s6 _ _ ht5), SqT.of hu6', Nat.le_of_lt (small1000 (by show 1 + _ ≤ 1000; omega)), fun z => (by cases z), fun _ z => ?_, fun _ _ p hp => ?_⟩
        · rw [z] at ul
          have : (0 : Nat) = (2 + x).toNat := ul
          omega
        · have s7 : Same H6 (upd H6 p (.tup ([.str "choose"] ++ us))) := same_new hp
          have s57 := (s5.trans s6).trans s7
          have bl := hu.1
          exact q _ (.choose bs) _ rc (Wc.same s57) ((B2.trans Bc).trans (.of s57)) ⟨p, us, rfl, upd_same, hu.imp fun _ _ z => z.same s57⟩ ⟨of_decide_eq_true hc.2, ⟨by omega, by omega⟩, gs⟩ sm
    refine ⟨Nat.zero_le _, fun rw' hrw => ?_⟩
    have W2 := W1.same (same_new (o := .lst []) hrw)
    have B2 : Bt2 d m H1 (upd H1 rw' (.lst [])) := .of (same_new hrw)
    have hrw2 : upd H1 rw' (.lst []) rw' = some (.lst []) := upd_same
    generalize upd H1 rw' (.lst []) = H2 at W2 B2 hrw2 ⊢
    refine ⟨_, rfl, small1000 (Nat.le_of_ble_eq_true rfl), fun l hl => ?_⟩
    have s3 := same_new (o := .lst [.int 0, .int 0, .int 1, .int 2]) hl
    have hl3 : upd H2 l (.lst [.int 0, .int 0, .int 1, .int 2]) l = some (.lst [.int 0, .int 0, .int 1, .int 2]) := upd_same
    have nl : l ≠ d := by
      obtain ⟨x, y, z, e⟩ := W2.dice
      exact fun c => by rw [c, e] at hl; cases hl
    have W3 := W2.same s3
    have B3 := B2.trans (.of s3)
    have hrw3 := s3 _ _ hrw2
    generalize upd H2 l (.lst [.int 0, .int 0, .int 1, .int 2]) = H3 at W3 B3 hl3 hrw3 ⊢
    refine ⟨d, l, _, rfl, W3.dice, hl3, nl, by show 0 < 4; decide, by show 4 < 1000; decide, fun j x a' b' c' hk => ?_⟩
    obtain ⟨x, rfl, x0, x2⟩ : ∃ i : Int, x = .int i ∧ 0 ≤ i ∧ i ≤ 2 := by
      have m := List.mem_of_getElem? hk
      simp only [List.mem_cons, List.not_mem_nil, or_false] at m
      rcases m with e | e | e | e <;> exact ⟨_, e, by decide, by decide⟩
    have R4 : Rl d H3 (upd H3 d (.lst (dxs a' b' c'))) := (Rl.refl W3.dice).roll
    have W4 := W3.rl R4
    have B4 : Bt2 d m H1 (upd H3 d (.lst (dxs a' b' c'))) := B3.trans (.rl R4)
    have nrd : rw' ≠ d := by
      obtain ⟨x, y, z, e⟩ := W1.dice
      exact fun c => by rw [c, e] at hrw; cases hrw
    have nrm : rw' ≠ m := fun z => by
      rw [z, W1.room] at hrw
      cases hrw
    have hrw4 : upd H3 d (.lst (dxs a' b' c')) rw' = some (.lst []) := by rw [upd_ne nrd]; exact hrw3
    generalize upd H3 d (.lst (dxs a' b' c')) = H4 at W4 B4 hrw4 ⊢
    refine ⟨_, _, rfl, rfl, 2 + x, rfl, by omega, by omega, ?_⟩
    refine for_range (n := (2 + x).toNat) (fun i σ Hc => ∃ (rc : Int) (us : List V) (bs : List (Int × Bd)) (y : Option V), σ = [some (.ref d), some (.int (k : Nat)), some (.ref n), some (.ref m), some (.ref e), some (.int way), none, none, some (.ref rw'), y] ∧ Dw d n m e ns es Hc rc ∧ Bt2 d m H1 Hc ∧ Hc rw' = some (.lst us) ∧ AG (fun w r => ∃ p x, w = .ref p ∧ Hc p = some (.tup [.int r.1, x]) ∧ BdAt k Hc x r.2) us bs ∧ us.length = i ∧ (∀ b ∈ bs, (1 ≤ b.1 ∧ b.1 ≤ 9) ∧ GdB ns es k b.2) ∧ ((((bs.map (·.2)).map (cnt k)).sum : Nat) : Int) + rc = r) ?_ ?_ ?_
    · exact ⟨r, [], [], _, rfl, W4, B4, hrw4, AG.nil, rfl, (fun b h => absurd h List.not_mem_nil), (by show (0 : Int) + r = r; omega)⟩
    · rintro i σ Hc hi ⟨rc, us, bs, y, rfl, Wc, Bc, hc4, hu, ul, gs, sm⟩
      refine ⟨_, rfl, .inl ⟨rfl, _, SqL.of hc4⟩, _, rfl, d, rfl, Wc.dice, fun i5 H5 i1 i9 R5 => ?_⟩
      have W5 := Wc.rl R5
      have B5 : Bt2 d m Hc H5 := .rl R5
      refine ⟨_, rfl, _, rfl, _, _, rfl, rfl, _, rfl, _, rfl, _, rfl, d, n, m, e, ns, es, rc, k1, rfl, W5, fun v b H6 r6 W6 B6 hb gb hc6 => ⟨small1000 (Nat.le_of_ble_eq_true rfl), fun p hp => ?_⟩⟩
      have s7 : Same H6 (upd H6 p (.tup [.int i5, v])) := same_new hp
      have hp7 : upd H6 p (.tup [.int i5, v]) p = some (.tup [.int i5, v]) := upd_same
      have W7 := W6.same s7
      have B7 := (B5.trans B6).trans (.of s7)
      have hb7 := hb.same s7
      have hr7 := B7 _ _ nrd nrm hc4
      generalize upd H6 p (.tup [.int i5, v]) = H7 at W7 B7 hp7 hb7 hr7 ⊢
      have tk : Tk H7 (upd H7 rw' (.lst (us ++ [.ref p]))) := Tk.upd hr7 (fun _ z => by cases z) fun _ _ z => by cases z
      have tk2 : Tk Hc (upd H7 rw' (.lst (us ++ [.ref p]))) := (Bt2.tk Wc B7).trans tk
      refine ⟨rw', us, _, rfl, rfl, hr7, small1000 (by omega), ?_⟩
      refine ⟨r6, us ++ [.ref p], bs ++ [(i5, b)], _, rfl, W1.grow W7 hrw, (Bc.trans B7).grow hrw, upd_same, (hu.imp fun _ _ ⟨p', x', e1, e2, e3⟩ => ⟨p', x', e1, tk2.1 _ _ e2, tk2.bd e3⟩).snoc ⟨p, v, rfl, tk.1 _ _ hp7, tk.bd hb7⟩, by rw [List.length_append, ul]; rfl, fun b' h => ?_, ?_⟩
      · rcases List.mem_append.mp h with h | h
        · exact gs b' h
        · rw [List.mem_singleton.mp h]; exact ⟨⟨i1, i9⟩, gb⟩
      · rw [List.map_append, List.map_append, List.sum_append, List.map_cons, List.map_nil, List.map_cons, List.map_nil, List.sum_cons, List.sum_nil]
        show (((((bs.map (·.2)).map (cnt k)).sum + (cnt k b + 0) : Nat)) : Int) + r6 = r
        omega
    · rintro σ Hc ⟨rc, us, bs, y, rfl, Wc, Bc, hDc, hu, ul, gs, sm⟩
      refine ⟨small1000 (Nat.le_of_ble_eq_true rfl), fun t ht => ?_⟩
      have s5 : Same Hc (upd Hc t (.tup [.str "toss"])) := same_new ht
      have ht5 : upd Hc t (.tup [.str "toss"]) t = some (.tup [.str "toss"]) := upd_same
      generalize upd Hc t (.tup [.str "toss"]) = H5 at s5 ht5 ⊢
      refine ⟨_, rfl, rw', us, rfl, .inl ⟨SqL.of (s5 _ _ hDc), fun u hu6 => ?_⟩⟩
      have s6 : Same H5 (upd H5 u (.tup us)) := same_new hu6
      have hu6' : upd H5 u (.tup us) u = some (.tup us) := upd_same
      generalize upd H5 u (.tup us) = H6 at s6 hu6' ⊢
      refine ⟨t, u, _, _, rfl, rfl, SqT.of (s6 _ _ ht5), SqT.of hu6', Nat.le_of_lt (small1000 (by show 1 + _ ≤ 1000; omega)), fun z => (by cases z), fun _ z => ?_, fun _ _ p hp => ?_⟩
      · rw [z] at ul
        have : (0 : Nat) = (2 + x).toNat := ul
        omega
      · have s7 : Same H6 (upd H6 p (.tup ([.str "toss"] ++ us))) := same_new hp
        have s57 := (s5.trans s6).trans s7
        have bl := hu.1
        exact q _ (.toss bs) _ rc (Wc.same s57) ((B1.trans Bc).trans (.of s57)) ⟨p, us, rfl, upd_same, hu.imp fun _ _ ⟨p', x', e1, e2, e3⟩ => ⟨p', x', e1, s57 _ _ e2, e3.same s57⟩⟩ ⟨⟨by omega, by omega⟩, gs⟩ sm
theorem ok_ly {f fb : Addr} {fd fdb : FuncData} {k kb : Nat} (F : Fun K "_law_body" "_law_body" sLy f fd) (mr : mg "range" = none) (mt : mg "tuple" = none) (gO : Glo P w K mg base "_law_one_of" 2 ["_law_dice_here", "_law_items"] spOneOf)
    (GS : FnOk P w K mg base CX0 kb fb fdb P5 (spLs k)) (k3 : 3 ≤ kb) (mS : mg "_law_statement" = some (.ref fb)) (kS : PySem.W.keepIn K (.ref fb) = true) (bS : Binds K fdb P5 []) : FnOk P w K mg base CX0 (kb + 1) f fd P5 (spLy (k + 1)) := by
  refine F.ok scLy (fun vs H Q E h => ?_) (fun cdv A outer s H vs Q E hr h => ?_)
  · obtain ⟨d, n, m, e, ns, es, r, _, rfl, _⟩ := h
    rfl
  · obtain ⟨d, n, m, e, ns, es, r, _, rfl, hw, q⟩ := h
    refine ⟨_, (pss_cons (ps_set (i := 5) scLy.nd rfl (Or.inl rfl) (pe_lst pa_nil))
      (pss_cons (ps_for PassesOwn.never rfl (pi_range1 (by rfl) mr (pa_cons (pe_call gO.G (hr.mono (by omega)) (by rfl) gO.m gO.k gO.b .nil pass0 (pa_cons (pv 0) (pa_cons (pe_lst (pa_cons pe_int (pa_cons pe_int (pa_cons pe_int (pa_cons pe_int (pa_cons pe_int (pa_cons pe_int pa_nil))))))) pa_nil))) pa_nil)) (pg_name (i := 6) scLy.nd rfl (.inl rfl)) (pss_one (ps_if (pt_cmpR op_gt (pe_ix ix_list (pv 3) pe_int (fun _ _ => rfl)) pe_int (nomark _)) (pss_cons (ps_asg (pe_op op_sub (pe_ix ix_list (pv 3) pe_int (fun _ _ => rfl)) pe_int) (pg_sub (pv 3) pe_int set_list))
      (pss_one (ps_expr (pe_bm PySem.F.plainAttrs_list PySem.F.slot_list_append PySem.F.type_list_append mt_append (pv 5) (pa_cons (pe_call GS (hr.mono (by omega)) (by rfl) mS kS bS .nil pass0 (pa_cons (pv 0) (pa_cons (pv 1) (pa_cons (pv 2) (pa_cons (pv 3) (pa_cons (pv 4) pa_nil)))))) pa_nil))))) pss_nil)))
      (pss_one (ps_ret (pe_callTy call_tuple_of (by rfl) mt (by decide +kernel) (pa_cons (pv 5) pa_nil)))))), ?_⟩
    refine ⟨Nat.zero_le _, fun fo hfo => ?_⟩
    have W1 := hw.same (same_new (o := .lst []) hfo)
    have B1 : Bt2 d m H (upd H fo (.lst [])) := .of (same_new hfo)
    have hfo1 : upd H fo (.lst []) fo = some (.lst []) := upd_same
    have nfd : fo ≠ d := by
      obtain ⟨x, y, z, e⟩ := hw.dice
      exact fun c => by rw [c, e] at hfo; cases hfo
    have nfm : fo ≠ m := fun z => by
      rw [z, hw.room] at hfo
      cases hfo
    generalize upd H fo (.lst []) = H1 at W1 B1 hfo1 ⊢
    refine ⟨_, rfl, small1000 (Nat.le_of_ble_eq_true rfl), fun l hl => ?_⟩
    have s3 := same_new (o := .lst [.int 0, .int 1, .int 1, .int 2, .int 2, .int 3]) hl
    have hl3 : upd H1 l (.lst [.int 0, .int 1, .int 1, .int 2, .int 2, .int 3]) l = some (.lst [.int 0, .int 1, .int 1, .int 2, .int 2, .int 3]) := upd_same
    have nl : l ≠ d := by
      obtain ⟨x, y, z, e⟩ := W1.dice
      exact fun c => by rw [c, e] at hl; cases hl
    have W3 := W1.same s3
    have B3 := B1.trans (.of s3)
    have hfo3 := s3 _ _ hfo1
    generalize upd H1 l (.lst [.int 0, .int 1, .int 1, .int 2, .int 2, .int 3]) = H3 at W3 B3 hl3 hfo3 ⊢
    refine ⟨d, l, _, rfl, W3.dice, hl3, nl, by show 0 < 6; decide, by show 6 < 1000; decide, fun j x a' b' c' hk => ?_⟩
    obtain ⟨x, rfl, x0, x3⟩ : ∃ i : Int, x = .int i ∧ 0 ≤ i ∧ i ≤ 3 := by
      have m := List.mem_of_getElem? hk
      simp only [List.mem_cons, List.not_mem_nil, or_false] at m
      rcases m with e | e | e | e | e | e <;> exact ⟨_, e, by decide, by decide⟩
    have R4 : Rl d H3 (upd H3 d (.lst (dxs a' b' c'))) := (Rl.refl W3.dice).roll
    have W4 := W3.rl R4
    have B4 : Bt2 d m H (upd H3 d (.lst (dxs a' b' c'))) := B3.trans (.rl R4)
    have hfo4 : upd H3 d (.lst (dxs a' b' c')) fo = some (.lst []) := by rw [upd_ne nfd]; exact hfo3
    generalize upd H3 d (.lst (dxs a' b' c')) = H4 at W4 B4 hfo4 ⊢
    refine ⟨x, rfl, by omega, by omega, ?_⟩
    refine for_range (n := x.toNat) (fun i σ Hc => ∃ (rc : Int) (us : List V) (b : Bd) (y : Option V), σ = [some (.ref d), some (.int (((k + 1 : Nat) : Int) - 1)), some (.ref n), some (.ref m), some (.ref e), some (.ref fo), y] ∧ Dw d n m e ns es Hc rc ∧ Bt2 d m H Hc ∧ Hc fo = some (.lst us) ∧ AG (fun w s => StAt k Hc w s) us b ∧ us.length ≤ i ∧ (∀ s ∈ b, GdS ns es (GdB ns es k) s) ∧ ((b.length + (b.map fun s => cntS k s).sum : Nat) : Int) + rc = r) ?_ ?_ ?_
    · exact ⟨r, [], [], _, rfl, W4, B4, hfo4, AG.nil, Nat.zero_le _, (fun b h => absurd h List.not_mem_nil), (by show (0 : Int) + r = r; omega)⟩
    · rintro i σ Hc hi ⟨rc, us, b, y, rfl, Wc, Bc, hc4, hu, ul, gs, sm⟩
      refine ⟨_, rfl, m, _, _, _, rfl, rfl, SqL.of Wc.room, rfl, _, _, rfl, rfl, _, rfl, ite2 (fun h0 => ?_) (fun h0 => ?_)⟩
      · have rc0 : 0 < rc := of_decide_eq_true h0
        refine ⟨_, rfl, m, _, _, _, rfl, rfl, SqL.of Wc.room, rfl, _, _, rfl, rfl, ?_⟩
        refine ⟨_, rfl, m, _, _, 0, rfl, rfl, Wc.room, rfl, ?_⟩
        have W5 : Dw d n m e ns es (upd Hc m (.lst [.int (rc - 1)])) (rc - 1) := Wc.put (by omega)
        have B5 : Bt2 d m Hc (upd Hc m (.lst [.int (rc - 1)])) := fun a o _ n2 e => by rw [upd_ne n2]; exact e
        have hc5 : upd Hc m (.lst [.int (rc - 1)]) fo = some (.lst us) := by rw [upd_ne nfm]; exact hc4
        refine ⟨_, rfl, .inl ⟨rfl, _, SqL.of hc5⟩, _, rfl, _, rfl, _, rfl, _, rfl, _, rfl, d, n, m, e, ns, es, rc - 1, by rw [show (((k + 1 : Nat) : Int) - 1) = ((k : Nat) : Int) by omega]; rfl, W5, fun v s H6 r6 W6 B6 hs gb hc6 => ?_⟩
        have hf6 := B6 _ _ nfd nfm hc5
        have tk : Tk H6 (upd H6 fo (.lst (us ++ [v]))) := Tk.upd hf6 (fun _ z => by cases z) fun _ _ z => by cases z
        have tk2 : Tk Hc (upd H6 fo (.lst (us ++ [v]))) := (Bt2.tk Wc (B5.trans B6)).trans tk
        refine ⟨fo, us, v, rfl, rfl, hf6, small1000 (by omega), r6, us ++ [v], b ++ [s], _, rfl, hw.grow W6 hfo, (Bc.trans (B5.trans B6)).grow hfo, upd_same, (hu.imp fun _ _ z => tk2.st z).snoc (tk.st hs), by rw [List.length_append]; show us.length + 1 ≤ i + 1; omega, fun s' h => ?_, ?_⟩
        · rcases List.mem_append.mp h with h | h
          · exact gs s' h
          · rw [List.mem_singleton.mp h]; exact gb
        · rw [List.length_append, List.map_append, List.sum_append, List.map_cons, List.map_nil, List.sum_cons, List.sum_nil]
          show ((b.length + 1 + ((b.map fun s => cntS k s).sum + (cntS k s + 0)) : Nat) : Int) + r6 = r
          omega
      · exact ⟨rc, us, b, _, rfl, Wc, Bc, hc4, hu, by omega, gs, sm⟩
    · rintro σ Hc ⟨rc, us, b, y, rfl, Wc, Bc, hc4, hu, ul, gs, sm⟩
      refine ⟨_, rfl, fo, us, rfl, .inl ⟨SqL.of hc4, fun p hp => ?_⟩⟩
      have s5 : Same Hc (upd Hc p (.tup us)) := same_new hp
      have bl := hu.1
      exact q _ b _ rc (Wc.same s5) (Bc.trans (.of s5)) ⟨p, us, rfl, upd_same, hu.imp fun _ _ z => StAt.same z s5⟩ ⟨by omega, gs⟩ sm
end
end FR
set_option Elab.async false
set_option linter.all false
set_option maxRecDepth 100000
set_option maxHeartbeats 1000000
/-! what is drawn is a program -/
namespace FR
open PySem PySem.Spec PyProof.Rows L2 LD
theorem GdS.imp {ns es : List Str} {B B' : Bd → Prop} (h : ∀ b, B b → B' b) : ∀ {s : St}, GdS ns es B s → GdS ns es B' s
  | .note _, g => g
  | .call _, g => g
  | .stay, g => g
  | .again _ _ _, ⟨a, b, c⟩ => ⟨a, b, h _ c⟩
  | .choose _, ⟨a, b, c⟩ => ⟨a, b, fun x m => h _ (c x m)⟩
  | .toss _, ⟨a, b⟩ => ⟨a, fun x m => ⟨(b x m).1, h _ (b x m).2⟩⟩
theorem GdB.up {ns es : List Str} : ∀ {n : Nat} {b : Bd}, GdB ns es n b → GdB ns es (n + 1) b
  | n + 1, b, ⟨l, g⟩ => ⟨l, fun s hs => (g s hs).imp fun _ h => GdB.up h⟩
theorem GdB.mono {ns es : List Str} {n m : Nat} {b : Bd} (h : GdB ns es n b) (le : n ≤ m) : GdB ns es m b := by
  induction le with
  | refl => exact h
  | step _ ih => exact ih.up
theorem GdS.kids {ns es : List Str} {B : Bd → Prop} : ∀ {s : St}, GdS ns es B s → ∀ k ∈ s.kids, B k
  | .note _, _ => fun _ h => absurd h List.not_mem_nil
  | .call _, _ => fun _ h => absurd h List.not_mem_nil
  | .stay, _ => fun _ h => absurd h List.not_mem_nil
  | .again _ _ _, ⟨_, _, c⟩ => fun k h => by rw [List.mem_singleton.mp h]; exact c
  | .choose _, ⟨_, _, c⟩ => c
  | .toss _, ⟨_, b⟩ => fun k h => by
    obtain ⟨r, hr, rfl⟩ := List.mem_map.mp h
    exact (b r hr).2
theorem GdS.few {ns es : List Str} {B : Bd → Prop} : ∀ {s : St}, GdS ns es B s → s.kids.length ≤ 4
  | .note _, _ => Nat.zero_le _
  | .call _, _ => Nat.zero_le _
  | .stay, _ => Nat.zero_le _
  | .again _ _ _, _ => by show 1 ≤ 4; decide
  | .choose bs, ⟨_, b, _⟩ => by show bs.length ≤ 4; omega
  | .toss rs, ⟨b, _⟩ => by show (rs.map _).length ≤ 4; rw [List.length_map]; exact b.2
theorem cnt_up {ns es : List Str} : ∀ {n : Nat} {b : Bd}, GdB ns es n b → cnt (n + 1) b = cnt n b
  | n + 1, b, ⟨_, g⟩ => by
    show b.length + (b.map fun s => (s.kids.map (cnt (n + 1))).sum).sum = b.length + (b.map fun s => (s.kids.map (cnt n)).sum).sum
    congr 2
    exact List.map_congr_left fun s hs => by rw [List.map_congr_left fun k hk => cnt_up ((g s hs).kids k hk)]
theorem cnt_mono {ns es : List Str} {n m : Nat} {b : Bd} (h : GdB ns es n b) (le : n ≤ m) : cnt m b = cnt n b := by
  induction le with
  | refl => rfl
  | @step m le ih => rw [cnt_up (h.mono le), ih]
theorem bdAt_mono {n m : Nat} {H : Hp} {v : V} {b : Bd} (h : BdAt n H v b) (le : n ≤ m) : BdAt m H v b := by
  induction le with
  | refl => exact h
  | step _ ih => exact bdAt_up _ _ _ _ ih
theorem zip_sum {α : Type} (f : α → Nat) : ∀ (l : List α) (i : Nat), ((l.zipIdx i).map fun z => f z.1).sum = (l.map f).sum
  | [], _ => rfl
  | x :: l, i => by
    show f x + ((l.zipIdx (i + 1)).map fun z => f z.1).sum = f x + (l.map f).sum
    rw [zip_sum f l]
theorem placed_len : ∀ (n : Nat) (b : Bd) (p : List Nat), (placed n b p).length = cnt n b
  | 0, _, _ => rfl
  | n + 1, b, p => by
    show (b.zipIdx.flatMap fun z => stP (placed n) z.1 (p ++ [z.2])).length = b.length + (b.map fun s => (s.kids.map (cnt n)).sum).sum
    rw [List.length_flatMap]
    have e : (b.zipIdx.map fun z => (stP (placed n) z.1 (p ++ [z.2])).length) = b.zipIdx.map fun z => 1 + (z.1.kids.map (cnt n)).sum := List.map_congr_left fun z _ => by
      show (kidsP (placed n) z.1 (p ++ [z.2])).length + 1 = _
      unfold kidsP
      rw [List.length_flatMap]
      have e2 : (z.1.kids.zipIdx.map fun y => (placed n y.1 (p ++ [z.2] ++ [y.2])).length) = z.1.kids.zipIdx.map fun y => cnt n y.1 := List.map_congr_left fun y _ => placed_len n y.1 _
      rw [e2, zip_sum (cnt n)]
      omega
    rw [e]
    have e3 := zip_sum (fun s : St => 1 + (s.kids.map (cnt n)).sum) b 0
    rw [e3]
    clear e e3
    induction b with
    | nil => rfl
    | cons s b ih =>
      rw [List.map_cons, List.sum_cons, List.map_cons, List.sum_cons, List.length_cons, ih]
      omega
theorem wt_ok {i : Int} (h : 1 ≤ i ∧ i ≤ 9) : wtB i = true := by
  unfold wtB
  rw [decide_eq_true h.1, decide_eq_true (show i ≤ 99 by omega)]
  rfl
theorem okS_gd {ns es : List Str} {B : Bd → Prop} (hn : ∀ z ∈ ns, nameB z = true) : ∀ {s : St}, GdS ns es B s → okS s = true
  | .note _, g => by
    rcases g with rfl | rfl
    · show nameB "a" = true; decide +kernel
    · show nameB "b" = true; decide +kernel
  | .call _, g => hn _ g
  | .stay, _ => rfl
  | .again _ _ _, ⟨a, b, _⟩ => by
    show (wtB _ && wtB _) = true
    rw [wt_ok a, wt_ok b]
    rfl
  | .choose bs, ⟨_, b, _⟩ => by
    show (decide ((2 : Int) ≤ (bs.length : Nat)) && decide (((bs.length : Nat) : Int) ≤ 3)) = true
    rw [decide_eq_true (by omega), decide_eq_true (by omega)]
    rfl
  | .toss rs, ⟨b, c⟩ => by
    show ((decide ((2 : Int) ≤ (rs.length : Nat)) && decide (((rs.length : Nat) : Int) ≤ 4)) && rs.all fun r => wtB r.1) = true
    rw [decide_eq_true (by omega), decide_eq_true (by omega), List.all_eq_true.mpr fun r hr => wt_ok (c r hr).1]
    rfl
theorem okB_gd {ns es : List Str} (hn : ∀ z ∈ ns, nameB z = true) : ∀ {n : Nat} {b : Bd}, GdB ns es n b → okB n b
  | n + 1, b, ⟨_, g⟩ => fun s hs => ⟨okS_gd hn (g s hs), fun k hk => okB_gd hn ((g s hs).kids k hk)⟩
theorem fewB_gd {ns es : List Str} : ∀ {n : Nat} {b : Bd}, GdB ns es n b → FewB n b
  | n + 1, b, ⟨_, g⟩ => fun s hs => ⟨by have := (g s hs).few; omega, fun k hk => fewB_gd ((g s hs).kids k hk)⟩
theorem zip_mem {α : Type} {l : List α} {z : α × Nat} (h : z ∈ l.zipIdx) : z.1 ∈ l := by
  obtain ⟨i, hi⟩ := List.getElem?_of_mem h
  rw [List.getElem?_zipIdx] at hi
  cases e : l[i]? with
  | none => rw [e] at hi; cases hi
  | some x => rw [e] at hi; cases hi; exact List.mem_of_getElem? e
theorem placed_gd {ns es : List Str} : ∀ {n : Nat} {b : Bd} {p : List Nat}, GdB ns es n b → ∀ y ∈ placed n b p, ∃ m, GdS ns es (GdB ns es m) y.2
  | n + 1, b, p, ⟨_, g⟩, y, hy => by
    obtain ⟨z, hz, hy⟩ := List.mem_flatMap.mp (show y ∈ b.zipIdx.flatMap fun z => stP (placed n) z.1 (p ++ [z.2]) from hy)
    have gz := g _ (zip_mem hz)
    rcases List.mem_cons.mp hy with e | hy
    · rw [e]; exact ⟨n, gz⟩
    · obtain ⟨u, hu, hy⟩ := List.mem_flatMap.mp (show y ∈ z.1.kids.zipIdx.flatMap fun u => placed n u.1 (p ++ [z.2] ++ [u.2]) from hy)
      exact placed_gd (gz.kids _ (zip_mem hu)) y hy
theorem calls_gd {ns es : List Str} {b : Bd} (g : GdB ns es 5 b) : ∀ z ∈ callsOf b, z ∈ ns := fun z hz => by
  obtain ⟨x, hx, rfl⟩ := List.mem_map.mp (show z ∈ (ofWord 5 b "call").map St.nm from hz)
  have wx := ofWord_mem hx
  unfold ofWord at hx
  obtain ⟨y, hy, rfl⟩ := List.mem_map.mp (List.mem_filter.mp hx).1
  obtain ⟨m, gy⟩ := placed_gd g y hy
  revert wx gy
  generalize y.2 = s
  intro wx gy
  match s, wx, gy with
  | .call z, _, gy => exact gy
  | .note _, h, _ => exact absurd h (by show ¬ (("note" : Str) = "call"); decide +kernel)
  | .stay, h, _ => exact absurd h (by decide +kernel)
  | .again _ _ _, h, _ => exact absurd h (by show ¬ (("again" : Str) = "call"); decide +kernel)
  | .choose _, h, _ => exact absurd h (by show ¬ (("choose" : Str) = "call"); decide +kernel)
  | .toss _, h, _ => exact absurd h (by show ¬ (("toss" : Str) = "call"); decide +kernel)
/-- the names that are drawn -/
abbrev five : List Str := ["x", "y", "z", "go", "a"]
/-- a drawn program, its names ascending -/
structure Drawn (es : List Str) (p : Pg) : Prop where
  len : 1 ≤ p.length ∧ p.length ≤ 5
  nd : (names p).Nodup
  so : sortedS (names p) = true
  nm : ∀ z ∈ names p, z ∈ five
  gd : ∀ x ∈ p, GdB (names p) es 5 x.2
  sz : (p.map fun x => cnt 5 x.2).sum ≤ 50
theorem five_ok : ∀ z ∈ five, nameB z = true := fun z hz => by
  have : five.all nameB = true := by decide +kernel
  exact List.all_eq_true.mp this z hz
theorem Drawn.prg {es : List Str} {p : Pg} (h : Drawn es p) : Prg p where
  len := ⟨h.len.1, by have := h.len.2; omega⟩
  ok := fun x hx => ⟨five_ok _ (h.nm _ (List.mem_map.mpr ⟨x, hx, rfl⟩)), okB_gd (fun z hz => five_ok z (h.nm z hz)) (h.gd x hx), by
    have : cnt 5 x.2 ≤ (p.map fun x => cnt 5 x.2).sum := len_mem_sum (f := fun x : Str × Bd => cnt 5 x.2) hx
    have := h.sz
    omega, fewB_gd (h.gd x hx)⟩
  sz := by
    have e : (p.map fun x => (placed 5 x.2 []).length) = p.map fun x => cnt 5 x.2 := List.map_congr_left fun x _ => placed_len 5 x.2 []
    rw [e]
    have := h.sz
    omega
  cl := fun x hx z hz => calls_gd (h.gd x hx) z hz
theorem ok_draw {P : Program} {w : World} {K : PySem.W.Frag} {mg : Str → Option Value} {base : Heap} {fs fb : Addr} {fds fdb : FuncData} (FS : Fun K "_law_statement" "_law_statement" sLs fs fds) (FB : Fun K "_law_body" "_law_body" sLy fb fdb) (mr : mg "range" = none) (mt : mg "tuple" = none) (gR : Glo P w K mg base "_law_roll" 1 ["_law_dice_here", "_law_total"] spRoll) (gO : Glo P w K mg base "_law_one_of" 2 ["_law_dice_here", "_law_items"] spOneOf) (gW : Glo P w K mg base "_law_weight" 3 ["_law_dice_here"] spWe)
    (mB : mg "_law_body" = some (.ref fb)) (kB : PySem.W.keepIn K (.ref fb) = true) (bB : Binds K fdb P5 []) (mS : mg "_law_statement" = some (.ref fs)) (kS : PySem.W.keepIn K (.ref fs) = true) (bS : Binds K fds P5 []) : ∀ n, FnOk P w K mg base CX0 (2 * n + 3) fb fdb P5 (spLy n) ∧ FnOk P w K mg base CX0 (2 * n + 4) fs fds P5 (spLs n)
  | 0 => by
    have B : FnOk P w K mg base CX0 3 fb fdb P5 (spLy 0) := by
      refine FB.ok scLy (fun vs H Q E h => ?_) (fun cdv A outer s H vs Q E hr h => ?_)
      · obtain ⟨d, n, m, e, ns, es, r, z, _⟩ := h
        exact absurd z (by decide)
      · obtain ⟨d, n, m, e, ns, es, r, z, _⟩ := h
        exact absurd z (by decide)
    exact ⟨B, ok_ls FS mr mt gR gO gW B (by decide) mB kB bB⟩
  | n + 1 => by
    have S := (ok_draw FS FB mr mt gR gO gW mB kB bB mS kS bS n).2
    have B : FnOk P w K mg base CX0 (2 * n + 4 + 1) fb fdb P5 (spLy (n + 1)) := ok_ly FB mr mt gO S (by omega) mS kS bS
    exact ⟨B, ok_ls FS mr mt gR gO gW B (by omega) mB kB bB⟩
end FR
set_option Elab.async false
set_option linter.all false
set_option maxRecDepth 100000
set_option maxHeartbeats 1000000
/-! _law_bodies -/
namespace FR
open PySem PySem.Spec PyProof.Rows L2 LD
abbrev sLo : Stmt := FR.top 48
abbrev NLo : List Str := ["_law_dice_here", "_law_much", "_law_extra", "_law_names", "_law_found", "_law_name_here"]
theorem scLo : FnScope NLo ["_law_dice_here", "_law_much", "_law_extra"] (defScope sLo) := ⟨rfl, rfl, rfl, by decide +kernel, rfl, by decide +kernel, by decide +kernel⟩
theorem lt1_of {a c : Nat} (h : a + 64 < c) : a + 1 < c := by omega
theorem cut_take {xs : List V} {n : Nat} (h : n ≤ xs.length) : cutV xs none (some (n : Int)) = xs.take n := by
  unfold cutV
  rw [HT.sIx_nat, HT.sIx_none, Nat.min_eq_left h, List.drop_zero, Nat.sub_zero]
theorem setP_new {p : Pg} {z : Str} {b : Bd} (h : z ∉ names p) : setP p z b = p ++ [(z, b)] := by
  unfold setP
  rw [if_neg h]
section
variable {P : Program} {w : World} {K : PySem.W.Frag} {mg : Str → Option Value} {base : Heap}
def spLyA : Sp := fun vs H Q E => spLy 2 vs H Q E ∨ spLy 3 vs H Q E
def spLo : Sp := fun vs H Q _ => ∃ (d e : Addr) (mu : Int) (es : List Str), vs = [.ref d, .int mu, .ref e] ∧ 1 ≤ mu ∧ mu ≤ 5 ∧ DiceAt H d ∧ H e = some (.lst (es.map V.str)) ∧ es.length < 900 ∧
  ∀ l kvs p H', H l = none → Rl d H H' → H' l = some (.dK kvs) → PrgK H' kvs p → Drawn es p → Q (.ref l) H'
theorem ok_lo {f fb : Addr} {fd fdb : FuncData} (F : Fun K "_law_bodies" "_law_bodies" sLo f fd) (ms : mg "sorted" = none) (gR : Glo P w K mg base "_law_roll" 1 ["_law_dice_here", "_law_total"] spRoll) (gX : Glo P w K mg base "_law_mixed" 2 ["_law_dice_here", "_law_items"] spMx)
    (GB : FnOk P w K mg base CX0 9 fb fdb P5 spLyA) (mB : mg "_law_body" = some (.ref fb)) (kB : PySem.W.keepIn K (.ref fb) = true) (bB : Binds K fdb P5 []) : FnOk P w K mg base CX0 10 f fd ["_law_dice_here", "_law_much", "_law_extra"] spLo := by
  refine F.ok scLo (fun vs H Q E h => ?_) (fun cdv A outer s H vs Q E hr h => ?_)
  · obtain ⟨d, e, mu, es, rfl, _⟩ := h
    rfl
  · obtain ⟨d, e, mu, es, rfl, m1, m5, hd, he, e9, q⟩ := h
    refine ⟨_, (pss_cons (ps_set (i := 3) scLo.nd rfl (Or.inl rfl) (pe_callB cr_sortedS (by rfl) ms (by decide +kernel) (pa_cons (pe_slice sl_list (pe_call gX.G (hr.mono (by decide)) (by rfl) gX.m gX.k gX.b .nil pass0 (pa_cons (pv 0) (pa_cons (pe_lst (pa_cons pe_str (pa_cons pe_str (pa_cons pe_str (pa_cons pe_str (pa_cons pe_str pa_nil)))))) pa_nil))) po_none (po_some (pe_op op_add pe_int (pe_call gR.G (hr.mono (by decide)) (by rfl) gR.m gR.k gR.b .nil pass0 (pa_cons (pv 0) (pa_cons (pv 1) pa_nil)))))) pa_nil)))
      (pss_cons (ps_set (i := 4) scLo.nd rfl (Or.inl rfl) pe_dnewK)
      (pss_cons (ps_for PassesOwn.never rfl (pi_list (pv 3)) (pg_name (i := 5) scLo.nd rfl (.inl rfl)) (pss_one (ps_dput (lt1_of hr.units) (pv 4) (pv 5) (pe_call GB hr (by rfl) mB kB bB .nil pass0 (pa_cons (pv 0) (pa_cons (pe_op op_add pe_int (pe_call gR.G (hr.mono (by decide)) (by rfl) gR.m gR.k gR.b .nil pass0 (pa_cons (pv 0) (pa_cons pe_int pa_nil)))) (pa_cons (pv 3) (pa_cons (pe_lst (pa_cons (pe_op op_add pe_int (pe_call gR.G (hr.mono (by decide)) (by rfl) gR.m gR.k gR.b .nil pass0 (pa_cons (pv 0) (pa_cons pe_int pa_nil)))) pa_nil)) (pa_cons (pv 2) pa_nil)))))) (by rfl))))
      (pss_one (ps_ret (pv 4)))))), ?_⟩
    refine ⟨_, rfl, small1000 (Nat.le_of_ble_eq_true rfl), fun l0 hl0 => ?_⟩
    have s0 := same_new (o := .lst (five.map V.str)) hl0
    have hl01 : upd H l0 (.lst (five.map V.str)) l0 = some (.lst (five.map V.str)) := upd_same
    have n0 : l0 ≠ d := by
      obtain ⟨x, y, z, e⟩ := hd
      exact fun c => by rw [c, e] at hl0; cases hl0
    have R1 := (Rl.refl hd).same s0
    refine ⟨d, l0, five, rfl, R1.1, .inl hl01, n0, by decide, fun ys l1 H2 pm hl1n R2 hy => ?_⟩
    have hl1n : upd H l0 (.lst (five.map V.str)) l1 = none := hl1n
    have n1 : l1 ≠ d := by
      obtain ⟨x, y, z, e⟩ := R1.1
      exact fun c => by rw [c, e] at hl1n; cases hl1n
    have R12 := R1.trans R2
    clear R1 R2
    refine ⟨_, rfl, _, rfl, d, mu, rfl, R12.1, by omega, by omega, fun r a b c r0 r1 => ?_⟩
    have R3 : Rl d H (upd H2 d (.lst (dxs a b c))) := R12.roll
    have hy3 : upd H2 d (.lst (dxs a b c)) l1 = some (.lst (ys.map V.str)) := by rw [upd_ne n1]; exact hy
    generalize upd H2 d (.lst (dxs a b c)) = H3 at R3 hy3 ⊢
    clear hy R12
    have ly : ys.length = 5 := pm.length_eq
    obtain ⟨n, hn, nn1, nn5⟩ : ∃ n : Nat, (1 : Int) + r = (n : Int) ∧ 1 ≤ n ∧ n ≤ 5 := ⟨(1 + r).toNat, by omega, by omega, by omega⟩
    refine ⟨_, _, rfl, rfl, _, rfl, l1, _, rfl, SqL.of hy3, fun p hp => ?_⟩
    have ecut : cutV (ys.map V.str) none (some (1 + r)) = (ys.take n).map V.str := by
      rw [hn, cut_take (by rw [List.length_map, ly]; exact nn5), List.map_take]
    rw [ecut]
    have R4 : Rl d H (upd H3 p (.lst ((ys.take n).map V.str))) := R3.same (same_new hp)
    have hp4 : upd H3 p (.lst ((ys.take n).map V.str)) p = some (.lst ((ys.take n).map V.str)) := upd_same
    generalize upd H3 p (.lst ((ys.take n).map V.str)) = H4 at R4 hp4 ⊢
    refine ⟨p, ys.take n, rfl, SqL.of hp4, by rw [List.length_take]; omega, fun zs nl pz sz hnl => ?_⟩
    have R5 : Rl d H (upd H4 nl (.lst (zs.map V.str))) := R4.same (same_new hnl)
    have hn5 : upd H4 nl (.lst (zs.map V.str)) nl = some (.lst (zs.map V.str)) := upd_same
    generalize upd H4 nl (.lst (zs.map V.str)) = H5 at R5 hn5 ⊢
    have he5 : H5 e = some (.lst (es.map V.str)) := by
      refine R5.2 _ _ (fun c => ?_) he
      obtain ⟨x, y, z, e'⟩ := hd
      rw [c, e'] at he
      have he := HO.lst.inj (Option.some.inj he)
      cases es with
      | nil => cases he
      | cons z t => cases he
    have lz : zs.length = n := by rw [pz.length_eq, List.length_take]; omega
    have ndz : zs.Nodup := pz.symm.nodup ((pm.symm.nodup (by decide +kernel)).sublist (List.take_sublist _ _))
    have inz : ∀ z ∈ zs, z ∈ five := fun z h => pm.mem_iff.mp (List.take_subset _ _ (pz.mem_iff.mp h))
    intro fo hfo
    refine ⟨_, rfl, _, rfl, ⟨_, SqL.of (same_new hfo _ _ hn5)⟩, ?_⟩
    refine for_list (xs := zs.map V.str) (fun i σ Hc => ∃ (y : Option V) (kvs : List (Key × V)) (p : Pg), σ = [some (.ref d), some (.int mu), some (.ref e), some (.ref nl), some (.ref fo), y] ∧ Rl d H5 Hc ∧ Hc fo = some (.dK kvs) ∧ PrgK Hc kvs p ∧ names p = zs.take i ∧ (∀ x ∈ p, GdB zs es 5 x.2) ∧ (p.map fun x => cnt 5 x.2).sum ≤ 10 * i) ?_ ?_ ?_ ?_
    · exact ⟨_, [], [], rfl, (Rl.refl R5.1).same (same_new hfo), upd_same, PrgK.nil, rfl, (fun x h => absurd h List.not_mem_nil), Nat.zero_le _⟩
    · rintro i σ Hc _ ⟨y, kvs, p, rfl, Rc, _⟩
      refine SqL.of (Rc.2 _ _ (fun c => ?_) hn5)
      obtain ⟨x, y, z, e'⟩ := R5.1
      rw [c, e'] at hn5
      have hn5 := HO.lst.inj (Option.some.inj hn5)
      cases zs with
      | nil => cases hn5
      | cons z t => cases hn5
    · rintro i x σ Hc hx ⟨y, kvs, p, rfl, Rc, hfc, hk, hnm, hgd, hsz⟩
      have ii := (List.getElem?_eq_some_iff.mp hx).1
      rw [List.length_map, lz] at ii
      obtain ⟨z, hz, rfl⟩ : ∃ z, zs[i]? = some z ∧ x = .str z := by
        rw [List.getElem?_map] at hx
        cases e : zs[i]? with
        | none => rw [e] at hx; cases hx
        | some z => rw [e] at hx; cases hx; exact ⟨z, rfl, rfl⟩
      have e10 := hr.units
      have zn : z ∉ names p := fun c => by
        rw [hnm] at c
        have := ndz
        rw [← List.take_append_drop i zs] at this
        have dz : z ∈ zs.drop i := by
          rw [List.mem_iff_getElem?]
          exact ⟨0, by rw [List.getElem?_drop]; exact hz⟩
        exact (List.nodup_append.mp this).2.2 z c z dz rfl
      have hn6 : Hc nl = some (.lst (zs.map V.str)) := by
        refine Rc.2 _ _ (fun c => ?_) hn5
        obtain ⟨x, y, z, e'⟩ := R5.1
        rw [c, e'] at hn5
        have hn5 := HO.lst.inj (Option.some.inj hn5)
        cases zs with
        | nil => cases hn5
        | cons z t => cases hn5
      have ed : e ≠ d := fun c => by
        obtain ⟨x, y, z, e'⟩ := hd
        rw [c, e'] at he
        have he := HO.lst.inj (Option.some.inj he)
        cases es with
        | nil => cases he
        | cons z t => cases he
      have nld : nl ≠ d := fun c => by
        obtain ⟨x, y, z, e'⟩ := R5.1
        rw [c, e'] at hn5
        have hn5 := HO.lst.inj (Option.some.inj hn5)
        cases zs with
        | nil => cases hn5
        | cons z t => cases hn5
      have he6 : Hc e = some (.lst (es.map V.str)) := Rc.2 _ _ ed he5
      have nfd : fo ≠ d := by
        obtain ⟨x, y, z, e⟩ := R5.1
        exact fun c => by rw [c, e] at hfo; cases hfo
      refine ⟨_, rfl, _, rfl, d, 2, rfl, Rc.1, by decide, by decide, fun r a b c r0 r2 => ⟨_, _, rfl, rfl, _, rfl, ?_⟩⟩
      have R6 : Rl d H5 (upd Hc d (.lst (dxs a b c))) := Rc.roll
      have R6' : Rl d Hc (upd Hc d (.lst (dxs a b c))) := (Rl.refl Rc.1).roll
      generalize upd Hc d (.lst (dxs a b c)) = H6 at R6 R6' ⊢
      refine ⟨_, rfl, d, 8, rfl, R6.1, by decide, by decide, fun r' a b c r0' r2' => ⟨_, _, rfl, rfl, Nat.le_of_lt (small1000 (Nat.le_of_ble_eq_true rfl)), fun m hm => ⟨_, rfl, ?_⟩⟩⟩
      have s7 : Same (upd H6 d (.lst (dxs a b c))) (upd (upd H6 d (.lst (dxs a b c))) m (.lst [.int (3 + r')])) := same_new hm
      have R7 : Rl d Hc (upd (upd H6 d (.lst (dxs a b c))) m (.lst [.int (3 + r')])) := R6'.roll.same s7
      have hmc : Hc m = none := R6'.roll.none Rc.1 hm
      have hm7 : upd (upd H6 d (.lst (dxs a b c))) m (.lst [.int (3 + r')]) m = some (.lst [.int (3 + r')]) := upd_same
      have hn7 := R7.2 _ _ nld hn6
      have he7 := R7.2 _ _ ed he6
      have D7 : Dw d nl m e zs es (upd (upd H6 d (.lst (dxs a b c))) m (.lst [.int (3 + r')])) (3 + r') := ⟨R7.1, hm7, hn7, he7, by omega, by omega, e9, by omega⟩
      have step : ∀ (k : Nat) (v : V) (bd : Bd) (H' : Hp) (r'' : Int), k ≤ 5 → Dw d nl m e zs es H' r'' → Bt2 d m (upd (upd H6 d (.lst (dxs a b c))) m (.lst [.int (3 + r')])) H' → BdAt k H' v bd → GdB zs es k bd → (cnt k bd : Int) + r'' = 3 + r' →
          H' fo = some (.dK kvs) ∧ Rl d H5 (upd H' fo (.dK (putK kvs (.inr z) v))) ∧ PrgK (upd H' fo (.dK (putK kvs (.inr z) v))) (putK kvs (.inr z) v) (p ++ [(z, bd)]) ∧ names (p ++ [(z, bd)]) = zs.take (i + 1) ∧ (∀ x ∈ p ++ [(z, bd)], GdB zs es 5 x.2) ∧ ((p ++ [(z, bd)]).map fun x => cnt 5 x.2).sum ≤ 10 * (i + 1) := by
        intro k v bd H' r'' k5 W' B' hb gb hc
        have R8 : Rl d Hc H' := ⟨W'.dice, fun q o n e => B' q o n (ne_of_none e hmc) (R7.2 q o n e)⟩
        have hf8 := R8.2 _ _ nfd hfc
        have tk : Tk H' (upd H' fo (.dK (putK kvs (.inr z) v))) := Tk.upd hf8 (fun _ z => by cases z) fun _ _ z => by cases z
        have R9 := Rc.trans R8
        have hk8 : PrgK H' kvs p := (R8.tk Rc.1).pg hk
        have hk9 := hk8.set (z := z) (bdAt_mono hb k5)
        rw [setP_new zn] at hk9
        have gb5 := gb.mono k5
        have c5 : cnt 5 bd = cnt k bd := cnt_mono gb k5
        have r0'' := W'.r0
        refine ⟨hf8, ⟨?_, fun q o n e => ?_⟩, tk.pg hk9, ?_, fun x hx => ?_, ?_⟩
        · obtain ⟨x, y, z, e⟩ := W'.dice
          exact ⟨x, y, z, by rw [upd_ne nfd.symm]; exact e⟩
        · rw [upd_ne (ne_of_none e hfo)]
          exact R9.2 q o n e
        · rw [take_snoc hz, ← hnm]
          show (p ++ [(z, bd)]).map (·.1) = p.map (·.1) ++ [z]
          rw [List.map_append]
          rfl
        · rcases List.mem_append.mp hx with h | h
          · exact hgd x h
          · rw [List.mem_singleton.mp h]; exact gb5
        · rw [List.map_append, List.sum_append, List.map_cons, List.map_nil, List.sum_cons, List.sum_nil]
          show (p.map fun x => cnt 5 x.2).sum + (cnt 5 bd + 0) ≤ 10 * (i + 1)
          omega
      have lk : kvs.length < sizeLine := small1000 (by
        have h1 := hk.1
        have h2 := congrArg List.length hnm
        rw [List.length_map, List.length_take] at h2
        omega)
      rcases (show r = 0 ∨ r = 1 by omega) with rfl | rfl
      · refine .inl ⟨d, nl, m, e, zs, es, 3 + r', by decide, rfl, D7, fun v bd H' r'' W' B' hb gb hc => ?_⟩
        obtain ⟨a1, a2, a3, a4, a5, a6⟩ := step 2 v bd H' r'' (by decide) W' B' hb gb hc
        exact ⟨_, rfl, _, rfl, fo, _, rfl, DPut.k (k := .inr z) a1 lk, _, _, _, rfl, a2, upd_same, a3, a4, a5, a6⟩
      · refine .inr ⟨d, nl, m, e, zs, es, 3 + r', by decide, rfl, D7, fun v bd H' r'' W' B' hb gb hc => ?_⟩
        obtain ⟨a1, a2, a3, a4, a5, a6⟩ := step 3 v bd H' r'' (by decide) W' B' hb gb hc
        exact ⟨_, rfl, _, rfl, fo, _, rfl, DPut.k (k := .inr z) a1 lk, _, _, _, rfl, a2, upd_same, a3, a4, a5, a6⟩
    · rintro σ Hc ⟨y, kvs, p, rfl, Rc, hfc, hk, hnm, hgd, hsz⟩
      rw [List.length_map, List.take_length] at hnm
      rw [List.length_map, lz] at hsz
      have lp : p.length = n := by rw [← lz, ← hnm, List.length_map]
      refine ⟨_, rfl, q fo kvs p Hc ((R5.none hd hfo)) (R5.trans Rc) hfc hk ⟨⟨by omega, by omega⟩, by rw [hnm]; exact ndz, by rw [hnm]; exact sz, by rw [hnm]; exact inz, by rw [hnm]; exact hgd, by omega⟩⟩
end
end FR
set_option Elab.async false
set_option linter.all false
set_option maxRecDepth 100000
set_option maxHeartbeats 1000000
/-! _law_inner, _law_sorts -/
namespace FR
open PySem PySem.Spec PyProof.Rows L2
abbrev sLi : Stmt := FR.top 49
abbrev NLi : List Str := ["_law_statement_here", "_law_weight_here", "_law_inner_here"]
theorem scLi : FnScope NLi ["_law_statement_here"] (defScope sLi) := ⟨rfl, rfl, rfl, by decide +kernel, rfl, by decide +kernel, by decide +kernel⟩
abbrev sLr : Stmt := FR.top 50
abbrev NLr : List Str := ["_law_body_here", "_law_found", "_law_statement_here", "_law_inner_here"]
theorem scLr : FnScope NLr ["_law_body_here"] (defScope sLr) := ⟨rfl, rfl, rfl, by decide +kernel, rfl, by decide +kernel, by decide +kernel⟩
/-- words and names of all statements -/
def srt : Nat → Bd → List (Str × Str)
  | 0, _ => []
  | n + 1, b => b.flatMap fun s => (s.word, s.nm) :: s.kids.flatMap (srt n)
theorem ta_same {te : TE} {t : TA} {σ : L2.St} {H : Hp} {Q : List V → Hp → Prop} {v : V} (h : ∀ Q' : VK, (∀ H', Same H H' → Q' v H') → te σ H Q') (g : ∀ H', Same H H' → t σ H' fun xs H2 => Q (v :: xs) H2) : tCons te t σ H Q := h _ g
section
variable {P : Program} {w : World} {K : PySem.W.Frag} {mg : Str → Option Value} {base : Heap}
def spLi (n : Nat) : Sp := fun vs H Q _ => ∃ v x, vs = [v] ∧ StAt n H v x ∧ x.kids.length ≤ 90 ∧ ∀ l us H', H l = none → Same H H' → H' l = some (.lst us) → AG (fun w b => BdAt n H' w b) us x.kids → Q (.ref l) H'
theorem ok_li {f : Addr} {fd : FuncData} {n : Nat} (F : Fun K "_law_inner" "_law_inner" sLi f fd) (ml : mg "list" = none) : FnOk P w K mg base CX0 1 f fd ["_law_statement_here"] (spLi n) := by
  refine F.ok scLi (fun vs H Q E h => ?_) (fun cdv A outer s H vs Q E hr h => ?_)
  · obtain ⟨v, x, rfl, _⟩ := h
    rfl
  · obtain ⟨v, x, rfl, hv, few, q⟩ := h
    refine ⟨_, (pss_cons (ps_if (pt_cmpR op_eq (pe_ix ix_tup (pv 0) pe_int (fun _ _ => rfl)) pe_str (nomark _)) (pss_one (ps_ret (pe_lc (X := (cxOf CX0 P w K mg base NLi "_law_inner" (defScope sLi) f cdv A outer s H E).nox) (own := [("_law_weight_here", 1), ("_law_inner_here", 2)]) (g := (gTup K 2 (gCons (gName 1) (gCons (gName 2) gNil)))) (tt := tYes) rfl scLi.nd (pi_tup (pe_slice sl_tupA (pv 0) (po_some pe_int) po_none)) (blkOk_by (N := NLi) (sc := defScope sLi) (by decide +kernel)) (fun _ _ _ _ _ => (pg_tupK (K := K) rfl rfl (pgs_cons (pg_name (i := 1) scLi.nd rfl (.inl rfl)) (pgs_cons (pg_name (i := 2) scLi.nd rfl (.inl rfl)) pgs_nil)))) (fun _ _ _ _ _ => pts_nil) (fun _ _ _ _ _ => (pv 2))))) pss_nil)
      (pss_cons (ps_if (pt_cmpR op_eq (pe_ix ix_tup (pv 0) pe_int (fun _ _ => rfl)) pe_str (nomark _)) (pss_one (ps_ret (pe_lst (pa_cons (pe_ix ix_tup (pv 0) pe_int (fun _ _ => rfl)) pa_nil)))) pss_nil)
      (pss_one (ps_ret (pe_ifExp (pt_cmpR op_eq (pe_ix ix_tup (pv 0) pe_int (fun _ _ => rfl)) pe_str (nomark _)) (pe_callTy call_list_of (by rfl) ml (by decide +kernel) (pa_cons (pe_slice sl_tupA (pv 0) (po_some pe_int) po_none) pa_nil)) (pe_lst pa_nil)))))), ?_⟩
    obtain ⟨a, xs, rfl, ha⟩ := hv.head
    match x, hv, few, q, ha with
    | .note z, ⟨_, e, _⟩, few, q, ha => exact ⟨_, rfl, a, _, 0, _, rfl, rfl, SqT.of ha, atI_nat (j := 0) rfl, rfl, _, rfl, iteF ⟨_, rfl, a, _, 0, _, rfl, rfl, SqT.of ha, atI_nat (j := 0) rfl, rfl, _, rfl, iteF ⟨_, rfl, a, _, 0, _, rfl, rfl, SqT.of ha, atI_nat (j := 0) rfl, rfl, _, rfl, iteF ⟨Nat.zero_le _, fun p hp => q p [] _ hp (same_new hp) upd_same AG.nil⟩⟩⟩⟩
    | .call z, ⟨_, e, _⟩, few, q, ha => exact ⟨_, rfl, a, _, 0, _, rfl, rfl, SqT.of ha, atI_nat (j := 0) rfl, rfl, _, rfl, iteF ⟨_, rfl, a, _, 0, _, rfl, rfl, SqT.of ha, atI_nat (j := 0) rfl, rfl, _, rfl, iteF ⟨_, rfl, a, _, 0, _, rfl, rfl, SqT.of ha, atI_nat (j := 0) rfl, rfl, _, rfl, iteF ⟨Nat.zero_le _, fun p hp => q p [] _ hp (same_new hp) upd_same AG.nil⟩⟩⟩⟩
    | .stay, ⟨_, e, _⟩, few, q, ha => exact ⟨_, rfl, a, _, 0, _, rfl, rfl, SqT.of ha, atI_nat (j := 0) rfl, rfl, _, rfl, iteF ⟨_, rfl, a, _, 0, _, rfl, rfl, SqT.of ha, atI_nat (j := 0) rfl, rfl, _, rfl, iteF ⟨_, rfl, a, _, 0, _, rfl, rfl, SqT.of ha, atI_nat (j := 0) rfl, rfl, _, rfl, iteF ⟨Nat.zero_le _, fun p hp => q p [] _ hp (same_new hp) upd_same AG.nil⟩⟩⟩⟩
    | .again i j b, ⟨a', w0, e, ha', g⟩, few, q, ha =>
      cases e
      refine ⟨_, rfl, a, _, 0, _, rfl, rfl, SqT.of ha, atI_nat (j := 0) rfl, rfl, _, rfl, iteF ⟨_, rfl, a, _, 0, _, rfl, rfl, SqT.of ha, atI_nat (j := 0) rfl, rfl, _, rfl, iteT ?_⟩⟩
      refine ⟨_, rfl, a, _, 3, _, rfl, rfl, SqT.of ha', atI_nat (j := 3) rfl, small1000 (Nat.le_of_ble_eq_true rfl), fun p hp => ?_⟩
      have sp := same_new (o := .lst [w0]) hp
      exact q p [w0] _ hp sp upd_same (AG.consA (BdAt.same g sp) AG.nil)
    | .choose bs, ⟨a', ws, e, ha', g⟩, few, q, ha =>
      cases e
      obtain ⟨ec, ew⟩ := cut_tail (.str "choose") ws
      refine ⟨_, rfl, a, _, 0, _, rfl, rfl, SqT.of ha, atI_nat (j := 0) rfl, rfl, _, rfl, iteF ⟨_, rfl, a, _, 0, _, rfl, rfl, SqT.of ha, atI_nat (j := 0) rfl, rfl, _, rfl, iteF ⟨_, rfl, a, _, 0, _, rfl, rfl, SqT.of ha, atI_nat (j := 0) rfl, rfl, _, rfl, iteT ?_⟩⟩⟩
      refine ⟨_, rfl, _, rfl, a, _, rfl, SqT.of ha', fun z => (ew z).elim, fun _ p hp => ?_⟩
      rw [ec]
      have sp := same_new (o := .tup ws) hp
      have hp1 : upd H p (.tup ws) p = some (.tup ws) := upd_same
      generalize upd H p (.tup ws) = H1 at sp hp1 ⊢
      refine ⟨p, ws, rfl, .inr (SqT.of hp1), fun l hl => ?_⟩
      have s2 := sp.trans (same_new (o := .lst ws) hl)
      exact q l ws _ (none_of_same sp hl) s2 upd_same (g.imp fun _ _ z => BdAt.same z s2)
    | .toss rs, ⟨a', ws, e, ha', g⟩, few, q, ha =>
      cases e
      obtain ⟨ec, ew⟩ := cut_tail (.str "toss") ws
      refine ⟨_, rfl, a, _, 0, _, rfl, rfl, SqT.of ha, atI_nat (j := 0) rfl, rfl, _, rfl, iteT ?_⟩
      refine ⟨_, rfl, _, rfl, a, _, rfl, SqT.of ha', fun z => (ew z).elim, fun _ p hp => ?_⟩
      rw [ec]
      have sp := same_new (o := .tup ws) hp
      have hp1 : upd H p (.tup ws) p = some (.tup ws) := upd_same
      have g1 := g.imp (R' := fun w0 r => ∃ p0 x, w0 = .ref p0 ∧ upd H p (.tup ws) p0 = some (.tup [.int r.1, x]) ∧ BdAt n (upd H p (.tup ws)) x r.2) fun _ _ ⟨p0, x, e1, h1, z⟩ => ⟨p0, x, e1, sp _ _ h1, BdAt.same z sp⟩
      generalize upd H p (.tup ws) = H1 at sp hp1 g1 ⊢
      have lw : ws.length ≤ 90 := by rw [g1.1]; have : (rs.map fun r => r.2).length ≤ 90 := few; rw [List.length_map] at this; exact this
      refine ⟨p, rfl, ⟨_, SqT.of hp1⟩, fun D hD => ?_⟩
      refine lc_tup (xs := ws) (fun i Hc => Same H1 Hc ∧ ∃ us, Hc D = some (.lst us) ∧ AG (fun w b => BdAt n Hc w b) us ((rs.map fun r => r.2).take i)) ⟨same_new hD, [], upd_same, AG.nil⟩ (fun i Hc _ p' => SqT.of (p'.1 _ _ hp1)) ?_ ?_
      · rintro i v Hc hvi ⟨sm, us, hDc, hu⟩
        obtain ⟨r, hr, p0, x0, rfl, h0, z⟩ := g1.2 i v hvi
        have il := (List.getElem?_eq_some_iff.mp hvi).1
        have h0 := sm _ _ h0
        have z := BdAt.same z sm
        refine ⟨p0, _, rfl, SqT.of h0, rfl, _, _, rfl, _, _, rfl, rfl, rfl, ?_⟩
        have dt : ∀ b xs, Hc b = some (.tup xs) → upd Hc D (.lst (us ++ [x0])) b = some (.tup xs) := fun b xs e => by rw [upd_ne (fun y => by rw [y, hDc] at e; cases e)]; exact e
        refine ⟨_, rfl, us, hDc, small1000 (by rw [hu.1, List.length_take, List.length_map]; have := g1.1; omega), same_upd hD sm, us ++ [x0], upd_same, ?_⟩
        have hr2 : (rs.map fun r => r.2)[i]? = some r.2 := by rw [List.getElem?_map, hr]; rfl
        rw [take_snoc hr2]
        exact AG.snoc (hu.imp fun _ _ y => bdAt_keep dt n _ _ y) (bdAt_keep dt n _ _ z)
      · rintro Hc ⟨sm, us, hDc, hu⟩
        rw [List.take_of_length_le (by rw [List.length_map, g1.1]; exact Nat.le_refl _)] at hu
        exact q D us _ (none_of_same sp hD) (sp.trans sm) hDc hu
def spLr (n : Nat) : Sp := fun vs H Q _ => ∃ v b, vs = [v] ∧ BdAt n H v b ∧ FewB n b ∧ (srt n b).length ≤ 900 ∧ ∀ l us H', H l = none → Same H H' → H' l = some (.lst us) → AG (fun z y => ∃ t, z = .ref t ∧ H' t = some (.tup [.str y.1, .str y.2])) us (srt n b) → Q (.ref l) H'
theorem ok_lr {f fs : Addr} {fd fds : FuncData} {n k : Nat} (F : Fun K "_law_sorts" "_law_sorts" sLr f fd) (gI : Glo P w K mg base "_law_inner" 1 ["_law_statement_here"] (spLi n)) (GS : FnOk P w K mg base CX0 k fs fds ["_law_body_here"] (spLr n)) (k1 : 1 ≤ k)
    (mS : mg "_law_sorts" = some (.ref fs)) (kS : PySem.W.keepIn K (.ref fs) = true) (bS : Binds K fds ["_law_body_here"] []) : FnOk P w K mg base CX0 (k + 1) f fd ["_law_body_here"] (spLr (n + 1)) := by
  refine F.ok scLr (fun vs H Q E h => ?_) (fun cdv A outer s H vs Q E hr h => ?_)
  · obtain ⟨v, b, rfl, _⟩ := h
    rfl
  · obtain ⟨v, b, rfl, ⟨a, xs, rfl, ha, hx⟩, few, sz, q⟩ := h
    refine ⟨_, (pss_cons (ps_set (i := 1) scLr.nd rfl (Or.inl rfl) (pe_lst pa_nil))
      (pss_cons (ps_for PassesOwn.never rfl (pi_tup (pv 0)) (pg_name (i := 2) scLr.nd rfl (.inl rfl)) (pss_cons (ps_expr (pe_bm PySem.F.plainAttrs_list PySem.F.slot_list_append PySem.F.type_list_append mt_append (pv 1) (pa_cons (pe_tup (pa_cons (pe_ix ix_tup (pv 2) pe_int (fun _ _ => rfl)) (pa_cons (pe_ifExp (pt_cmpR op_in_seq (pe_ix ix_tup (pv 2) pe_int (fun _ _ => rfl)) (pe_tup (pa_cons pe_str (pa_cons pe_str pa_nil))) rfl) (pe_ix ix_tup (pv 2) pe_int (fun _ _ => rfl)) pe_str) pa_nil))) pa_nil)))
      (pss_one (ps_for PassesOwn.never rfl (pi_list (pe_call gI.G (hr.mono k1) (by rfl) gI.m gI.k gI.b .nil pass0 (pa_cons (pv 2) pa_nil))) (pg_name (i := 3) scLr.nd rfl (.inl rfl)) (pss_one (ps_expr (pe_bm PySem.F.plainAttrs_list PySem.F.slot_list_extend PySem.F.type_list_extend mt_extend (pv 1) (pa_cons (pe_call GS hr (by rfl) mS kS bS .nil pass0 (pa_cons (pv 3) pa_nil)) pa_nil))))))))
      (pss_one (ps_ret (pv 1))))), ?_⟩
    refine ⟨Nat.zero_le _, fun fo hfo => ?_⟩
    have s0 := same_new (o := .lst []) hfo
    have h0 : upd H fo (.lst []) fo = some (.lst []) := upd_same
    generalize upd H fo (.lst []) = H0 at s0 h0 ⊢
    refine ⟨_, rfl, a, rfl, ⟨xs, SqT.of (s0 _ _ ha)⟩, ?_⟩
    have xl : xs.length = b.length := hx.1
    let ft : Nat → List (Str × Str) := fun i => (b.take i).flatMap fun s => (s.word, s.nm) :: s.kids.flatMap (srt n)
    refine for_it (walk_tup (xs := xs)) (fun i σ Hc => Same H Hc ∧ ∃ (us : List V) (x2 x3 : Option V), σ = [some (.ref a), some (.ref fo), x2, x3] ∧ Hc fo = some (.lst us) ∧ AG (fun z y => ∃ t, z = .ref t ∧ Hc t = some (.tup [.str y.1, .str y.2])) us (ft i))
      ⟨s0, [], _, _, rfl, h0, AG.nil⟩ (fun i σ Hc _ p' => SqT.of (p'.1 _ _ ha)) ?_ ?_
    · rintro i v σ Hc H' hi ⟨sm, us, x2, x3, rfl, hfc, hu⟩ ⟨rfl, hxi⟩
      obtain ⟨st, hst, hs⟩ := hx.2 i v hxi
      have il : i < b.length := (List.getElem?_eq_some_iff.mp hst).1
      obtain ⟨fk, fks⟩ := few st (List.mem_of_getElem? hst)
      have hs := StAt.same hs sm
      have step : ft (i + 1) = ft i ++ ((st.word, st.nm) :: st.kids.flatMap (srt n)) := flat_take hst
      have lft : us.length = (ft i).length := hu.1
      have hit : (ft (i + 1)).length ≤ 900 := Nat.le_trans (flat_take_le _ _) sz
      have lst_ : (ft i).length + 1 + (st.kids.flatMap (srt n)).length ≤ 900 := by
        rw [step, List.length_append, List.length_cons] at hit
        omega
      obtain ⟨as, ys, rfl, has⟩ := hs.head
      refine ⟨_, rfl, .inl ⟨rfl, _, SqL.of hfc⟩, _, rfl, as, _, 0, _, rfl, rfl, SqT.of has, atI_nat (j := 0) rfl, ?_⟩
      refine ta_same (v := .str st.nm) (fun Q' h' => ?_) fun H1 s1 => ?_
      · refine ⟨_, rfl, as, _, 0, _, rfl, rfl, SqT.of has, atI_nat (j := 0) rfl, small1000 (Nat.le_of_ble_eq_true rfl), fun tt htt => ⟨tt, _, rfl, .inr (SqT.of upd_same), rfl, rfl, _, rfl, ?_⟩⟩
        have s2 := same_new (o := .tup [.str "call", .str "note"]) htt
        match st, hs, has, h' with
        | .note z, ⟨_, e, ha'⟩, has, h' =>
          cases e
          exact iteT ⟨_, rfl, as, _, 1, _, rfl, rfl, SqT.of (s2 _ _ ha'), atI_nat (j := 1) rfl, h' _ s2⟩
        | .call z, ⟨_, e, ha'⟩, has, h' =>
          cases e
          exact iteT ⟨_, rfl, as, _, 1, _, rfl, rfl, SqT.of (s2 _ _ ha'), atI_nat (j := 1) rfl, h' _ s2⟩
        | .stay, _, has, h' => exact iteF (h' _ s2)
        | .again _ _ _, _, has, h' => exact iteF (h' _ s2)
        | .choose _, _, has, h' => exact iteF (h' _ s2)
        | .toss _, _, has, h' => exact iteF (h' _ s2)
      refine ⟨small1000 (Nat.le_of_ble_eq_true rfl), fun t ht => ?_⟩
      have s2 := s1.trans (same_new (o := .tup [.str st.word, .str st.nm]) ht)
      have ht2 : upd H1 t (.tup [.str st.word, .str st.nm]) t = some (.tup [.str st.word, .str st.nm]) := upd_same
      have hf2 := s2 _ _ hfc
      have s02 := sm.trans s2
      generalize upd H1 t (.tup [.str st.word, .str st.nm]) = H2 at s2 ht2 hf2 s02 ⊢
      refine ⟨fo, us, _, rfl, rfl, hf2, small1000 (by omega), ?_⟩
      have kd := Kt.upd (o := .lst (us ++ [V.ref t])) hf2
      have hf3 : upd H2 fo (.lst (us ++ [V.ref t])) fo = some (.lst (us ++ [V.ref t])) := upd_same
      have s03 : Same H (upd H2 fo (.lst (us ++ [V.ref t]))) := same_upd hfo s02
      have k3 := (Kt.same s2).trans kd
      have hs3 := k3.st hs
      have hu3 : AG (fun z y => ∃ t', z = .ref t' ∧ upd H2 fo (.lst (us ++ [V.ref t])) t' = some (.tup [.str y.1, .str y.2])) (us ++ [V.ref t]) (ft i ++ [(st.word, st.nm)]) := AG.snoc (hu.imp fun _ _ ⟨t', e1, e2⟩ => ⟨t', e1, k3.tup e2⟩) ⟨t, rfl, kd.tup ht2⟩
      generalize upd H2 fo (.lst (us ++ [V.ref t])) = H3 at hf3 s03 hs3 hu3 ⊢
      -- the bodies in it
      refine ⟨_, rfl, _, st, rfl, hs3, fk, fun ka ks HE nka sE hka hks => ⟨ka, rfl, ⟨ks, SqL.of hka⟩, ?_⟩⟩
      have kl : ks.length = st.kids.length := hks.1
      let gk : Nat → List (Str × Str) := fun j => (st.kids.take j).flatMap (srt n)
      refine for_it (walk_list (xs := ks)) (fun j σ Hx => Same H Hx ∧ Kt HE Hx ∧ Hx ka = some (.lst ks) ∧ ∃ (ws : List V) (x3 : Option V), σ = [some (.ref a), some (.ref fo), some (.ref as), x3] ∧ Hx fo = some (.lst ws) ∧ AG (fun z y => ∃ t, z = .ref t ∧ Hx t = some (.tup [.str y.1, .str y.2])) ws ((ft i ++ [(st.word, st.nm)]) ++ gk j))
        ⟨s03.trans sE, Kt.same (Same.refl _), hka, _, _, rfl, sE _ _ hf3, by
          show AG _ _ ((ft i ++ [(st.word, st.nm)]) ++ [])
          rw [List.append_nil]
          exact hu3.imp fun _ _ ⟨t', e1, e2⟩ => ⟨t', e1, sE _ _ e2⟩⟩ (fun j σ Hx _ p' => SqL.of p'.2.2.1) ?_ ?_
      · rintro j v σ Hx H' hj ⟨sx, kx, hkx, ws, x3, rfl, hfx, hw⟩ ⟨rfl, hkj⟩
        obtain ⟨kb, hkb, hb⟩ := hks.2 j v hkj
        have stepk : gk (j + 1) = gk j ++ srt n kb := flat_take hkb
        have lek : (gk (j + 1)).length ≤ (st.kids.flatMap (srt n)).length := flat_take_le _ _
        rw [stepk, List.length_append] at lek
        refine ⟨_, rfl, .inl ⟨rfl, _, SqL.of hfx⟩, _, rfl, _, kb, rfl, kx.bd hb, fks kb (List.mem_of_getElem? hkb), by omega, fun l2 zs HG nl2 sG hl2 hz => ?_⟩
        have lw : ws.length = (ft i).length + 1 + (gk j).length := by
          have := hw.1
          rw [List.length_append, List.length_append] at this
          exact this
        have lz : zs.length = (srt n kb).length := hz.1
        have hfG := sG _ _ hfx
        refine ⟨fo, l2, ws, zs, rfl, rfl, hfG, hl2, Nat.le_of_lt (small1000 (by omega)), ?_⟩
        have kG := Kt.upd (o := .lst (ws ++ zs)) hfG
        have nka' : ka ≠ fo := fun z => by rw [z, hf3] at nka; cases nka
        refine ⟨same_upd hfo (sx.trans sG), (kx.trans (Kt.same sG)).trans kG, by rw [upd_ne nka']; exact sG _ _ hkx, _, _, rfl, upd_same, ?_⟩
        rw [stepk, ← List.append_assoc]
        exact AG.app (hw.imp fun _ _ ⟨t', e1, e2⟩ => ⟨t', e1, kG.tup (sG _ _ e2)⟩) (hz.imp fun _ _ ⟨t', e1, e2⟩ => ⟨t', e1, kG.tup e2⟩)
      · rintro σ Hx ⟨sx, kx, hkx, ws, x3, rfl, hfx, hw⟩
        have e : gk ks.length = st.kids.flatMap (srt n) := by
          show (st.kids.take ks.length).flatMap _ = _
          rw [List.take_of_length_le (by rw [kl]; exact Nat.le_refl _)]
        rw [e, List.append_assoc] at hw
        refine ⟨sx, ws, _, _, rfl, hfx, ?_⟩
        rw [step]
        exact hw
    · rintro σ Hc ⟨sm, us, x2, x3, rfl, hfc, hu⟩
      have e : ft xs.length = srt (n + 1) b := by
        show (b.take xs.length).flatMap _ = _
        rw [List.take_of_length_le (by rw [xl]; exact Nat.le_refl _)]
        rfl
      rw [e] at hu
      exact ⟨_, rfl, q fo us Hc hfo sm hfc hu⟩
end
end FR
set_option Elab.async false
set_option linter.all false
set_option maxRecDepth 100000
set_option maxHeartbeats 1000000
/-! _law_sorts at every level; _law_choices -/
namespace FR
open PySem PySem.Spec PyProof.Rows L2
theorem tif_join {c : TT} {t u : TS} {D : Ends} {σ : L2.St} {H : Hp} {G : Hp → Prop} (h : ∀ Q' : L2.St → Hp → Prop, (∀ H', G H' → Q' σ H') → tIfS c t u { D with nx := Q' } σ H) (g : ∀ H', G H' → D.nx σ H') : tIfS c t u D σ H := h D.nx g
section
variable {P : Program} {w : World} {K : PySem.W.Frag} {mg : Str → Option Value} {base : Heap}
theorem ok_sorts {f : Addr} {fd : FuncData} (F : Fun K "_law_sorts" "_law_sorts" sLr f fd) (gI : ∀ n, Glo P w K mg base "_law_inner" 1 ["_law_statement_here"] (spLi n))
    (mS : mg "_law_sorts" = some (.ref f)) (kS : PySem.W.keepIn K (.ref f) = true) (bS : Binds K fd ["_law_body_here"] []) : ∀ n, FnOk P w K mg base CX0 (n + 1) f fd ["_law_body_here"] (spLr n)
  | 0 => by
    refine F.ok scLr (fun vs H Q E h => ?_) (fun cdv A outer s H vs Q E hr h => ?_)
    · obtain ⟨v, b, rfl, h, _⟩ := h
      exact h.elim
    · obtain ⟨v, b, rfl, h, _⟩ := h
      exact h.elim
  | n + 1 => ok_lr F (gI n) (ok_sorts F gI mS kS bS n) (by omega) mS kS bS
end
end FR
set_option Elab.async false
set_option linter.all false
set_option maxRecDepth 100000
set_option maxHeartbeats 1000000
/-! _law_noted; places and sorts -/
namespace FR
open PySem PySem.Spec PyProof.Rows L2
theorem zip_flat {α β : Type} (f : α → List β) : ∀ (l : List α) (i : Nat), ((l.zipIdx i).flatMap fun z => f z.1) = l.flatMap f
  | [], _ => rfl
  | x :: l, i => by
    show f x ++ ((l.zipIdx (i + 1)).flatMap fun z => f z.1) = f x ++ l.flatMap f
    rw [zip_flat f l]
theorem flat_congr {α β : Type} {f g : α → List β} : ∀ {l : List α}, (∀ x ∈ l, f x = g x) → l.flatMap f = l.flatMap g
  | [], _ => rfl
  | x :: l, h => by
    rw [List.flatMap_cons, List.flatMap_cons, h x List.mem_cons_self, flat_congr fun y hy => h y (List.mem_cons_of_mem _ hy)]
theorem map_flat {α β γ : Type} {f : α → List β} {g : β → γ} : ∀ {l : List α}, (l.flatMap f).map g = l.flatMap fun x => (f x).map g
  | [] => rfl
  | x :: l => by rw [List.flatMap_cons, List.map_append, map_flat, List.flatMap_cons]
theorem flat_flat {α β γ : Type} {f : α → List β} {g : β → List γ} : ∀ {l : List α}, (l.flatMap f).flatMap g = l.flatMap fun x => (f x).flatMap g
  | [] => rfl
  | x :: l => by rw [List.flatMap_cons, List.flatMap_append, flat_flat, List.flatMap_cons]
theorem flat_map {α β γ : Type} {f : α → β} {g : β → List γ} : ∀ {l : List α}, (l.map f).flatMap g = l.flatMap fun x => g (f x)
  | [] => rfl
  | x :: l => by rw [List.map_cons, List.flatMap_cons, flat_map, List.flatMap_cons]
theorem srt_placed : ∀ (n : Nat) (b : Bd) (p : List Nat), (placed n b p).map (fun y => (y.2.word, y.2.nm)) = srt n b
  | 0, _, _ => rfl
  | n + 1, b, p => by
    show (b.zipIdx.flatMap fun z => stP (placed n) z.1 (p ++ [z.2])).map _ = b.flatMap fun s => (s.word, s.nm) :: s.kids.flatMap (srt n)
    rw [map_flat, ← zip_flat (fun s : St => (s.word, s.nm) :: s.kids.flatMap (srt n)) b 0]
    refine flat_congr fun z _ => ?_
    show (z.1.word, z.1.nm) :: (z.1.kids.zipIdx.flatMap fun u => placed n u.1 (p ++ [z.2] ++ [u.2])).map _ = _
    rw [map_flat, ← zip_flat (srt n) z.1.kids 0]
    congr 1
    exact flat_congr fun u _ => srt_placed n u.1 _
theorem srt_len (n : Nat) (b : Bd) : (srt n b).length = cnt n b := by
  rw [← srt_placed n b [], List.length_map, placed_len]
def nts (b : Bd) : List Str := (srt 5 b).flatMap fun y => if y.1 = ("note" : Str) then [y.2] else []
theorem notes_allP (p : Pg) : notes (allP p) = p.flatMap fun x => nts x.2 := by
  unfold notes allP nts
  rw [flat_flat]
  refine flat_congr fun x _ => ?_
  rw [flat_map, ← srt_placed 5 x.2 [], flat_map]
theorem nts_len (b : Bd) : (nts b).length ≤ cnt 5 b := by
  rw [← srt_len]
  unfold nts
  generalize srt 5 b = l
  induction l with
  | nil => exact Nat.le_refl _
  | cons y l ih =>
    rw [List.flatMap_cons, List.length_append, List.length_cons]
    split
    · show 1 + _ ≤ _; omega
    · show 0 + _ ≤ _; omega
theorem allP_cnt (p : Pg) : (allP p).length = (p.map fun x => cnt 5 x.2).sum := by
  rw [allP_len]
  congr 1
  exact List.map_congr_left fun x _ => placed_len 5 x.2 []
theorem Prg.cnts {p : Pg} (h : Prg p) : (p.map fun x => cnt 5 x.2).sum ≤ 60 := by
  rw [← allP_cnt, allP_len]
  exact h.sz
end FR
set_option Elab.async false
set_option linter.all false
set_option maxRecDepth 100000
set_option maxHeartbeats 1000000
/-! _law_told -/
namespace FR
open PySem PySem.Spec PyProof.Rows L2
/-- data, at most n deep -/
def PlN (n : Nat) (d : PyData) : Prop := d.plain = true ∧ d.depth ≤ n
theorem PlN.pl {n : Nat} {d : PyData} (h : PlN n d) (le : n ≤ 60) : PlainD d := ⟨h.1, by have := h.2; omega⟩
theorem plainAll_of : ∀ {ds : List PyData}, (∀ d ∈ ds, d.plain = true) → PyData.plainAll ds = true
  | [], _ => rfl
  | d :: ds, h => by
    show (d.plain && PyData.plainAll ds) = true
    rw [h d List.mem_cons_self, plainAll_of fun y hy => h y (List.mem_cons_of_mem _ hy)]
    rfl
theorem depthAll_of {m : Nat} : ∀ {ds : List PyData}, (∀ d ∈ ds, d.depth ≤ m) → PyData.depthAll ds ≤ m
  | [], _ => Nat.zero_le _
  | d :: ds, h => by
    show max d.depth (PyData.depthAll ds) ≤ m
    exact Nat.max_le.mpr ⟨h d List.mem_cons_self, depthAll_of fun y hy => h y (List.mem_cons_of_mem _ hy)⟩
theorem PlN.tup {n : Nat} {ds : List PyData} (h : ∀ d ∈ ds, PlN n d) : PlN (n + 1) (.tuple ds) := ⟨plainAll_of fun d m => (h d m).1, by
  have := depthAll_of fun d m => (h d m).2
  show PyData.depthAll ds + 1 ≤ n + 1
  omega⟩
theorem PlN.lst {n : Nat} {ds : List PyData} (h : ∀ d ∈ ds, PlN n d) : PlN (n + 1) (.list ds) := ⟨plainAll_of fun d m => (h d m).1, by
  have := depthAll_of fun d m => (h d m).2
  show PyData.depthAll ds + 1 ≤ n + 1
  omega⟩
theorem PlN.str {n : Nat} (z : Str) : PlN n (.str z) := ⟨rfl, Nat.zero_le _⟩
theorem PlN.int {n : Nat} (i : Int) : PlN n (.int i) := ⟨rfl, Nat.zero_le _⟩
theorem PlN.up {n m : Nat} {d : PyData} (h : PlN n d) (le : n ≤ m) : PlN m d := ⟨h.1, Nat.le_trans h.2 le⟩
theorem all1 {n : Nat} {ds : List PyData} {d : PyData} (h : PlN n d) (g : ∀ x ∈ ds, PlN n x) : ∀ x ∈ d :: ds, PlN n x := fun x m => (List.mem_cons.mp m).elim (fun e => e ▸ h) (g x)
theorem all0 {n : Nat} : ∀ x ∈ ([] : List PyData), PlN n x := fun x m => absurd m List.not_mem_nil
theorem allM {α : Type} {n : Nat} {f : α → PyData} {l : List α} (h : ∀ x ∈ l, PlN n (f x)) : ∀ d ∈ l.map f, PlN n d := fun d m => by
  obtain ⟨x, hx, rfl⟩ := List.mem_map.mp m
  exact h x hx
def itD (x : Str × Bd) : PyData := .tuple [.str x.1, dB 5 x.2]
theorem itPl (x : Str × Bd) : PlN 16 (itD x) := .tup (all1 (PlN.str _) (all1 ⟨plainB 5 _, by have := depthB 5 x.2; omega⟩ all0))
theorem strPl (xs : List Str) : ∀ d ∈ xs.map PyData.str, PlN 0 d := allM fun z _ => PlN.str z
theorem dpStrs {K : PySem.W.Frag} {H : Hp} : ∀ xs : List Str, DpAll K H (xs.map V.str) (xs.map PyData.str)
  | [] => .nil
  | x :: xs => .cons (.str x) (dpStrs xs)
def ItAt (H : Hp) (v : V) (x : Str × Bd) : Prop := ∃ t w, v = .ref t ∧ H t = some (.tup [.str x.1, w]) ∧ BdAt 5 H w x.2
theorem dpIt {K : PySem.W.Frag} {H : Hp} {zs : List V} {ys : Pg} (h : AG (fun v x => ItAt H v x) zs ys) : DpAll K H zs (ys.map itD) :=
  dpAll (fun v x ⟨t, w, e, h1, h2⟩ => by rw [e]; exact .tup (.of h1) (.cons (.str _) (.cons (dpB 5 h2) .nil))) h
theorem eqv_nil {α : Type} (f : α → PyData) (l : List α) : PyData.eqv (.list (l.map f)) (.list []) = decide (l.length = 0) := by
  cases l with
  | nil => rfl
  | cons x l => rfl
theorem ItAt.tk {H H' : Hp} (k : Tk H H') {v : V} {x : Str × Bd} (h : ItAt H v x) : ItAt H' v x := by
  obtain ⟨t, w, e, h1, h2⟩ := h
  exact ⟨t, w, e, k.1 _ _ h1, k.bd h2⟩
theorem But.new {x : Addr} {H H' : Hp} (b : But x H H') {D : Addr} {o : HO} (f : H' D = none) : But x H (L2.upd H' D o) := b.trans (But.same (same_new f))
theorem iteNe {a b : V} {A B : Prop} (e : a = b) (h : B) : if (!decide (a = b)) = true then A else B := by
  subst e
  rw [decide_eq_true rfl]
  exact iteF h
theorem orNe {a b : V} {A B X : Prop} (e : a = b) (h : X) : if (!decide (a = b)) = true then (if true = true then A else B) else X := by
  subst e
  rw [decide_eq_true rfl]
  exact iteF h
/-- repr(bool) -/
theorem call_repr_bl {X : Cx} : CallR X (.builtin "repr") (fun xs H Q => ∃ b, xs = [.bl b] ∧ Q (.str (if b then "True" else "False")) H) := by
  intro pins s σ H xs us Q I r h
  obtain ⟨b, rfl, q⟩ := h
  obtain ⟨u, rfl, ru⟩ := vals1 r
  cases ru
  exact PySem.P.repr_of_bool ⟨.str _, H, I.tok _, ⟨_, rfl⟩, q⟩
end FR
set_option Elab.async false
set_option linter.all false
set_option maxRecDepth 100000
set_option maxHeartbeats 1000000
/-! _body_can_end, _statement_can_end -/
namespace FR
open PySem PySem.Spec PyProof.Rows L2
abbrev sBc : Stmt := FR.top 38
abbrev NBc : List Str := ["body", "able", "statement"]
theorem scBc : FnScope NBc ["body", "able"] (defScope sBc) := ⟨rfl, rfl, rfl, by decide +kernel, rfl, by decide +kernel, by decide +kernel⟩
abbrev sSc : Stmt := FR.top 39
abbrev NSc : List Str := ["statement", "able", "word", "body"]
theorem scSc : FnScope NSc ["statement", "able"] (defScope sSc) := ⟨rfl, rfl, rfl, by decide +kernel, rfl, by decide +kernel, by decide +kernel⟩
/-- whether a statement can end, its bodies by r -/
def sE (S : List Str) (r : Bd → Bool) : St → Bool
  | .call z => decide (z ∈ S)
  | .toss rs => (rs.map fun x => x.2).any r
  | .choose bs => bs.all r
  | .stay => false
  | .note _ => true
  | .again _ _ _ => true
def cE (S : List Str) : Nat → Bd → Bool
  | 0, _ => true
  | n + 1, b => b.all (sE S (cE S n))
theorem cnt_kid {n : Nat} {b : Bd} {s : St} (hs : s ∈ b) {k : Bd} (hk : k ∈ s.kids) : cnt n k ≤ cnt (n + 1) b := by
  have h1 := len_mem_sum (f := cnt n) hk
  have h2 := len_mem_sum (f := fun s : St => (s.kids.map (cnt n)).sum) hs
  have h2 : (s.kids.map (cnt n)).sum ≤ (b.map fun s => (s.kids.map (cnt n)).sum).sum := h2
  show _ ≤ b.length + _
  omega
section
variable {P : Program} {w : World} {K : PySem.W.Frag} {mg : Str → Option Value} {base : Heap}
def spBc (K : PySem.W.Frag) (n : Nat) : Sp := fun vs H Q _ => ∃ v ab b S, vs = [v, .ref ab] ∧ BdAt n H v b ∧ FewB n b ∧ cnt n b ≤ 60 ∧ SqL K H ab (S.map V.str) ∧ ∀ H', Same H H' → Q (.bl (cE S n b)) H'
def spSc (K : PySem.W.Frag) (n : Nat) : Sp := fun vs H Q _ => ∃ v ab x S, vs = [v, .ref ab] ∧ StAt n H v x ∧ x.kids.length ≤ 90 ∧ (∀ k ∈ x.kids, FewB n k ∧ cnt n k ≤ 60) ∧ SqL K H ab (S.map V.str) ∧ ∀ H', Same H H' → Q (.bl (sE S (cE S n) x)) H'
theorem ok_bc {f fs : Addr} {fd fds : FuncData} {n k : Nat} (F : Fun K "_body_can_end" "_body_can_end" sBc f fd) (ma : mg "all" = none) (GS : FnOk P w K mg base CX0 k fs fds ["statement", "able"] (spSc K n))
    (mS : mg "_statement_can_end" = some (.ref fs)) (kS : PySem.W.keepIn K (.ref fs) = true) (bS : Binds K fds ["statement", "able"] []) : FnOk P w K mg base CX0 (k + 1) f fd ["body", "able"] (spBc K (n + 1)) := by
  refine F.ok scBc (fun vs H Q E h => ?_) (fun cdv A outer s H vs Q E hr h => ?_)
  · obtain ⟨v, ab, b, S, rfl, _⟩ := h
    rfl
  · obtain ⟨v, ab, b, S, rfl, ⟨a, xs, rfl, ha, hx⟩, few, c60, hS, q⟩ := h
    refine ⟨_, (pss_one (ps_ret (pe_callB (cr_all rfl) (by rfl) ma (by decide +kernel) (pa_cons (pe_lc (X := (cxOf CX0 P w K mg base NBc "_body_can_end" (defScope sBc) f cdv A outer s H E).nox) (own := [("statement", 2)]) (g := (gName 2)) (tt := tYes) rfl scBc.nd (pi_tup (pv 0)) (blkOk_by (N := NBc) (sc := defScope sBc) (by decide +kernel)) (fun _ _ _ _ _ => (pg_name (i := 2) scBc.nd rfl (.inl rfl))) (fun _ _ _ _ _ => pts_nil) (fun _ _ _ _ _ => (pe_call GS hr (by rfl) mS kS bS .nil pass0 (pa_cons (pv 2) (pa_cons (pv 1) pa_nil))))) pa_nil)))), ?_⟩
    refine ⟨_, rfl, a, rfl, ⟨xs, SqT.of ha⟩, fun D hD => ?_⟩
    have xl : xs.length = b.length := hx.1
    have b60 : b.length ≤ 60 := by
      have : cnt (n + 1) b = b.length + (b.map fun s => (s.kids.map (cnt n)).sum).sum := rfl
      omega
    refine lc_tup (xs := xs) (fun i Hx => Same H Hx ∧ Hx D = some (.lst (((b.take i).map (sE S (cE S n))).map V.bl))) ⟨same_new hD, upd_same⟩ (fun j Hx _ p' => SqT.of (p'.1 _ _ ha)) ?_ ?_
    · rintro i v' Hx hv ⟨sx, hDx⟩
      obtain ⟨st, hst, hs⟩ := hx.2 i v' hv
      have ms := List.mem_of_getElem? hst
      obtain ⟨f1, f2⟩ := few st ms
      refine ⟨rfl, _, rfl, _, rfl, v', ab, st, S, rfl, StAt.same hs sx, f1, fun k hk => ⟨f2 k hk, Nat.le_trans (cnt_kid ms hk) c60⟩, sx.seq hS, fun H' s' => ?_⟩
      refine ⟨_, s' _ _ hDx, small1000 (by rw [List.length_map, List.length_map, List.length_take]; omega), same_upd hD (sx.trans s'), ?_⟩
      rw [take_snoc hst, List.map_append, List.map_append]
      exact upd_same
    · rintro Hx ⟨sx, hDx⟩
      rw [List.take_of_length_le (by rw [xl]; exact Nat.le_refl _)] at hDx
      refine ⟨D, _, rfl, SqL.of hDx, ?_⟩
      have e : ((b.map (sE S (cE S n))).all id) = cE S (n + 1) b := by
        show _ = b.all (sE S (cE S n))
        rw [List.all_map]
        rfl
      rw [e]
      exact q _ sx
theorem ok_sc {f fb : Addr} {fd fdb : FuncData} {n k : Nat} (F : Fun K "_statement_can_end" "_statement_can_end" sSc f fd) (ma : mg "all" = none) (mn : mg "any" = none) (gB : Glo P w K mg base "bodies_in" 1 ["statement"] (spBin n)) (GB : FnOk P w K mg base CX0 k fb fdb ["body", "able"] (spBc K n)) (k1 : 1 ≤ k)
    (mB : mg "_body_can_end" = some (.ref fb)) (kB : PySem.W.keepIn K (.ref fb) = true) (bB : Binds K fdb ["body", "able"] []) : FnOk P w K mg base CX0 (k + 1) f fd ["statement", "able"] (spSc K n) := by
  refine F.ok scSc (fun vs H Q E h => ?_) (fun cdv A outer s H vs Q E hr h => ?_)
  · obtain ⟨v, ab, x, S, rfl, _⟩ := h
    rfl
  · obtain ⟨v, ab, x, S, rfl, hv, few, fk, hS, q⟩ := h
    refine ⟨_, (pss_cons (ps_set (i := 2) scSc.nd rfl (Or.inl rfl) (pe_ix ix_tup (pv 0) pe_int (fun _ _ => rfl)))
      (pss_cons (ps_if (pt_cmpR op_eq (pv 2) pe_str (nomark _)) (pss_one (ps_ret (pe_cmpR op_in_seq (pe_ix ix_tup (pv 0) pe_int (fun _ _ => rfl)) (pv 1) rfl))) pss_nil)
      (pss_cons (ps_if (pt_cmpR op_eq (pv 2) pe_str (nomark _)) (pss_one (ps_ret (pe_callB (cr_any rfl) (by rfl) mn (by decide +kernel) (pa_cons (pe_lc (X := (cxOf CX0 P w K mg base NSc "_statement_can_end" (defScope sSc) f cdv A outer s H E).nox) (own := [("body", 3)]) (g := (gName 3)) (tt := tYes) rfl scSc.nd (pi_tup (pe_call gB.G (hr.mono k1) (by rfl) gB.m gB.k gB.b .nil pass0 (pa_cons (pv 0) pa_nil))) (blkOk_by (N := NSc) (sc := defScope sSc) (by decide +kernel)) (fun _ _ _ _ _ => (pg_name (i := 3) scSc.nd rfl (.inl rfl))) (fun _ _ _ _ _ => pts_nil) (fun _ _ _ _ _ => (pe_call GB hr (by rfl) mB kB bB .nil pass0 (pa_cons (pv 3) (pa_cons (pv 1) pa_nil))))) pa_nil)))) pss_nil)
      (pss_cons (ps_if (pt_cmpR op_eq (pv 2) pe_str (nomark _)) (pss_one (ps_ret (pe_callB (cr_all rfl) (by rfl) ma (by decide +kernel) (pa_cons (pe_lc (X := (cxOf CX0 P w K mg base NSc "_statement_can_end" (defScope sSc) f cdv A outer s H E).nox) (own := [("body", 3)]) (g := (gName 3)) (tt := tYes) rfl scSc.nd (pi_tup (pe_call gB.G (hr.mono k1) (by rfl) gB.m gB.k gB.b .nil pass0 (pa_cons (pv 0) pa_nil))) (blkOk_by (N := NSc) (sc := defScope sSc) (by decide +kernel)) (fun _ _ _ _ _ => (pg_name (i := 3) scSc.nd rfl (.inl rfl))) (fun _ _ _ _ _ => pts_nil) (fun _ _ _ _ _ => (pe_call GB hr (by rfl) mB kB bB .nil pass0 (pa_cons (pv 3) (pa_cons (pv 1) pa_nil))))) pa_nil)))) pss_nil)
      (pss_one (ps_ret (pe_cmpR op_ne (pv 2) pe_str (nomark _)))))))), ?_⟩
    obtain ⟨a, xs, rfl, ha⟩ := hv.head
    refine ⟨_, rfl, a, _, 0, _, rfl, rfl, SqT.of ha, atI_nat (j := 0) rfl, ?_⟩
    match x, hv, few, fk, q with
    | .note z, ⟨_, e, _⟩, few, fk, q => exact ⟨_, rfl, rfl, _, rfl, iteF ⟨_, rfl, rfl, _, rfl, iteF ⟨_, rfl, rfl, _, rfl, iteF ⟨_, rfl, rfl, q _ (Same.refl _)⟩⟩⟩⟩
    | .call z, ⟨_, e, ha'⟩, few, fk, q =>
      cases e
      refine ⟨_, rfl, rfl, _, rfl, iteT ⟨_, rfl, a, _, 1, _, rfl, rfl, SqT.of ha', atI_nat (j := 1) rfl, _, rfl, ab, _, rfl, .inl hS, rfl, flat_strs, ?_⟩⟩
      show Q (.bl (inV (.str z) (S.map V.str))) H
      rw [inV_strs]
      exact q _ (Same.refl _)
    | .stay, ⟨_, e, _⟩, few, fk, q => exact ⟨_, rfl, rfl, _, rfl, iteF ⟨_, rfl, rfl, _, rfl, iteF ⟨_, rfl, rfl, _, rfl, iteF ⟨_, rfl, rfl, q _ (Same.refl _)⟩⟩⟩⟩
    | .again i j b, ⟨_, w0, e, ha', g⟩, few, fk, q => exact ⟨_, rfl, rfl, _, rfl, iteF ⟨_, rfl, rfl, _, rfl, iteF ⟨_, rfl, rfl, _, rfl, iteF ⟨_, rfl, rfl, q _ (Same.refl _)⟩⟩⟩⟩
    | .choose bs, hv, few, fk, q =>
      refine ⟨_, rfl, rfl, _, rfl, iteF ⟨_, rfl, rfl, _, rfl, iteF ⟨_, rfl, rfl, _, rfl, iteT ?_⟩⟩⟩
      refine ⟨_, rfl, _, .choose bs, rfl, hv, few, fun ka ws H1 s1 hka hws => ⟨ka, rfl, ⟨_, SqT.of hka⟩, fun D hD => ?_⟩⟩
      have wl : ws.length = (St.choose bs).kids.length := hws.1
      refine lc_tup (xs := ws) (fun i Hx => Same H1 Hx ∧ Hx D = some (.lst ((((St.choose bs).kids.take i).map (cE S n)).map V.bl))) ⟨same_new hD, upd_same⟩ (fun j Hx _ p' => SqT.of (p'.1 _ _ hka)) ?_ ?_
      · rintro i v' Hx hvi ⟨sx, hDx⟩
        obtain ⟨kb, hkb, hb⟩ := hws.2 i v' hvi
        obtain ⟨f1, f2⟩ := fk kb (List.mem_of_getElem? hkb)
        refine ⟨rfl, _, rfl, _, rfl, v', ab, kb, S, rfl, BdAt.same hb sx, f1, f2, (s1.trans sx).seq hS, fun H' s' => ?_⟩
        refine ⟨_, s' _ _ hDx, small1000 (by rw [List.length_map, List.length_map, List.length_take]; omega), same_upd hD (sx.trans s'), ?_⟩
        rw [take_snoc hkb, List.map_append, List.map_append]
        exact upd_same
      · rintro Hx ⟨sx, hDx⟩
        rw [List.take_of_length_le (by rw [wl]; exact Nat.le_refl _)] at hDx
        refine ⟨D, _, rfl, SqL.of hDx, ?_⟩
        have e : (((St.choose bs).kids.map (cE S n)).all id) = sE S (cE S n) (.choose bs) := by
          show _ = bs.all (cE S n)
          rw [List.all_map]
          rfl
        rw [e]
        exact q _ (s1.trans sx)
    | .toss rs, hv, few, fk, q =>
      refine ⟨_, rfl, rfl, _, rfl, iteF ⟨_, rfl, rfl, _, rfl, iteT ?_⟩⟩
      refine ⟨_, rfl, _, .toss rs, rfl, hv, few, fun ka ws H1 s1 hka hws => ⟨ka, rfl, ⟨_, SqT.of hka⟩, fun D hD => ?_⟩⟩
      have wl : ws.length = (St.toss rs).kids.length := hws.1
      refine lc_tup (xs := ws) (fun i Hx => Same H1 Hx ∧ Hx D = some (.lst ((((St.toss rs).kids.take i).map (cE S n)).map V.bl))) ⟨same_new hD, upd_same⟩ (fun j Hx _ p' => SqT.of (p'.1 _ _ hka)) ?_ ?_
      · rintro i v' Hx hvi ⟨sx, hDx⟩
        obtain ⟨kb, hkb, hb⟩ := hws.2 i v' hvi
        obtain ⟨f1, f2⟩ := fk kb (List.mem_of_getElem? hkb)
        refine ⟨rfl, _, rfl, _, rfl, v', ab, kb, S, rfl, BdAt.same hb sx, f1, f2, (s1.trans sx).seq hS, fun H' s' => ?_⟩
        refine ⟨_, s' _ _ hDx, small1000 (by rw [List.length_map, List.length_map, List.length_take]; omega), same_upd hD (sx.trans s'), ?_⟩
        rw [take_snoc hkb, List.map_append, List.map_append]
        exact upd_same
      · rintro Hx ⟨sx, hDx⟩
        rw [List.take_of_length_le (by rw [wl]; exact Nat.le_refl _)] at hDx
        refine ⟨D, _, rfl, SqL.of hDx, ?_⟩
        have e : (((St.toss rs).kids.map (cE S n)).any id) = sE S (cE S n) (.toss rs) := by
          show _ = (rs.map fun x => x.2).any (cE S n)
          rw [List.any_map]
          rfl
        rw [e]
        exact q _ (s1.trans sx)
theorem ok_ends {fb fs : Addr} {fdb fds : FuncData} (FB : Fun K "_body_can_end" "_body_can_end" sBc fb fdb) (FS : Fun K "_statement_can_end" "_statement_can_end" sSc fs fds) (ma : mg "all" = none) (mn : mg "any" = none) (gB : ∀ n, Glo P w K mg base "bodies_in" 1 ["statement"] (spBin n))
    (mB : mg "_body_can_end" = some (.ref fb)) (kB : PySem.W.keepIn K (.ref fb) = true) (bB : Binds K fdb ["body", "able"] []) (mS : mg "_statement_can_end" = some (.ref fs)) (kS : PySem.W.keepIn K (.ref fs) = true) (bS : Binds K fds ["statement", "able"] []) : ∀ n, FnOk P w K mg base CX0 (2 * n + 1) fb fdb ["body", "able"] (spBc K n)
  | 0 => by
    refine FB.ok scBc (fun vs H Q E h => ?_) (fun cdv A outer s H vs Q E hr h => ?_)
    · obtain ⟨v, ab, b, S, rfl, h, _⟩ := h
      exact h.elim
    · obtain ⟨v, ab, b, S, rfl, h, _⟩ := h
      exact h.elim
  | n + 1 => by
    have G := ok_ends FB FS ma mn gB mB kB bB mS kS bS n
    exact ok_bc FB ma (ok_sc FS ma mn (gB n) G (by omega) mB kB bB) mS kS bS
end
end FR
set_option Elab.async false
set_option linter.all false
set_option maxRecDepth 100000
set_option maxHeartbeats 1000000
/-! check_free, check_closed, calls_of, is_whole, _able_more -/
namespace FR
open PySem PySem.Spec PyProof.Rows L2
abbrev sCf : Stmt := FR.top 30
abbrev NCf : List Str := ["free"]
theorem scCf : FnScope NCf ["free"] (defScope sCf) := ⟨rfl, rfl, rfl, by decide +kernel, rfl, by decide +kernel, by decide +kernel⟩
abbrev sCc : Stmt := FR.top 31
abbrev NCc : List Str := ["program"]
theorem scCc : FnScope NCc ["program"] (defScope sCc) := ⟨rfl, rfl, rfl, by decide +kernel, rfl, by decide +kernel, by decide +kernel⟩
abbrev sCo : Stmt := FR.top 33
abbrev NCo : List Str := ["free", "name"]
theorem scCo : FnScope NCo ["free", "name"] (defScope sCo) := ⟨rfl, rfl, rfl, by decide +kernel, rfl, by decide +kernel, by decide +kernel⟩
abbrev sIw : Stmt := FR.top 34
abbrev NIw : List Str := ["free", "name"]
theorem scIw : FnScope NIw ["free", "name"] (defScope sIw) := ⟨rfl, rfl, rfl, by decide +kernel, rfl, by decide +kernel, by decide +kernel⟩
abbrev sAm : Stmt := FR.top 37
abbrev NAm : List Str := ["free", "able", "name"]
theorem scAm : FnScope NAm ["free", "able"] (defScope sAm) := ⟨rfl, rfl, rfl, by decide +kernel, rfl, by decide +kernel, by decide +kernel⟩
theorem op_notIn_seqK {X : Cx} {K : PySem.W.Frag} (hK : X.K = K) : OpR X (compareOp .NotIn) (rIn K true) := by
  subst hK
  exact op_notIn_seq
theorem op_in_seqK {X : Cx} {K : PySem.W.Frag} (hK : X.K = K) : OpR X (compareOp .In) (rIn K false) := by
  subst hK
  exact op_in_seq
theorem pe_subOwnK {X : Cx} {K : PySem.W.Frag} {CX : CXT} {k : Nat} {f C : Addr} {fd : FuncData} {ps : List Str} {sp : Sp} {E : XK} {o e : Expr} {to te : TE} {pos : Pos} (hK : X.K = K) (D : Dun K C "__getitem__" f) (hfi : PySem.W.fnIn K f = true) (F : FnOk X.prog X.w K X.mg X.base CX k f fd ps sp) (hr : Room (k + 1) X.A) (hb : Binds K fd ps []) (hx : Passes CX X E) (ho : PE X o to) (he : PE X e te)
    (hsl : ∀ x i, subscripted e true (.ref x) i = runValue (.builtin "lifetime.subscript" ⟨[.ref x, i], []⟩) := by intro _ _; with_unfolding_all rfl) : PE X (.Subscript o e pos) (tSubOwn C sp E to te) := by
  subst hK
  exact pe_subOwn D hfi F hr hb hx ho he hsl
section
variable {P : Program} {w : World} {K : PySem.W.Frag} {mg : Str → Option Value} {base : Heap}
/-- a property with its promise -/
structure PMet (P : Program) (w : World) (K : PySem.W.Frag) (mg : Str → Option Value) (base : Heap) (C : Addr) (nm : Str) (n : Nat) (ps : List Str) (sp : Sp) where
  p : Addr
  f : Addr
  fd : FuncData
  o : PropOf K C nm p f
  G : FnOk P w K mg base CX0 n f fd ps sp
  b : Binds K fd ps []
def spCf (K : PySem.W.Frag) (C : Addr) : Sp := fun vs H Q _ => ∃ x p, vs = [.ref x] ∧ IsPg K C H x p ∧ Q .non H
theorem ok_cf {f C : Addr} {fd : FuncData} (F : Fun K "check_free" "check_free" sCf f fd) (R : PgC K C) (mi : mg "isinstance" = none) (mC : mg "Program" = some (.ref C)) (kYes : PySem.W.kitOne K (.ref C) (.ref C) = some true) : FnOk P w K mg base CX0 1 f fd ["free"] (spCf K C) := by
  refine F.ok scCf (fun vs H Q E h => ?_) (fun cdv A outer s H vs Q E hr h => ?_)
  · obtain ⟨x, p, rfl, _⟩ := h
    rfl
  · obtain ⟨x, p, rfl, ⟨dx, d, e, c, kvs, es, cs, hx, _⟩, q⟩ := h
    refine ⟨_, (pss_one (ps_if (pt_not (pt_val (pe_callB call_isi (by rfl) mi PyProof.Rows.boot_isinstance (pa_cons (pv 0) (pa_cons (pe_glob (v := .ref C) (by rfl) mC rfl) pa_nil))))) pss_never pss_nil)), ?_⟩
    exact ⟨_, rfl, _, _, _, _, true, rfl, .own C, .base (R.ty.ins hx), kYes, _, rfl, iteF q⟩
def spCc (K : PySem.W.Frag) (C : Addr) : Sp := fun vs H Q _ => ∃ x p, vs = [.ref x] ∧ IsPg K C H x p ∧ chosen (allP p) = [] ∧ Q .non H
theorem ok_cc {f C : Addr} {fd : FuncData} (F : Fun K "check_closed" "check_closed" sCc f fd) (R : PgC K C) (gCf : Glo P w K mg base "check_free" 1 ["free"] (spCf K C)) (pI : PMet P w K mg base C "is_closed" 1 ["self"] (spIc K C)) : FnOk P w K mg base CX0 3 f fd ["program"] (spCc K C) := by
  refine F.ok scCc (fun vs H Q E h => ?_) (fun cdv A outer s H vs Q E hr h => ?_)
  · obtain ⟨x, p, rfl, _⟩ := h
    rfl
  · obtain ⟨x, p, rfl, hi, hc, q⟩ := h
    have hi0 := hi
    obtain ⟨dx, d, e, c, kvs, es, cs, hx, _⟩ := hi0
    refine ⟨_, (pss_cons (ps_expr (pe_call gCf.G (hr.mono (by decide)) (by rfl) gCf.m gCf.k gCf.b .nil pass0 (pa_cons (pv 0) pa_nil)))
      (pss_one (ps_if (pt_not (pt_val (pe_prop (pv 0) R.cl pI.o pI.G (hr.mono (by decide)) pI.b .nil pass0 rfl))) pss_never pss_nil))), ?_⟩
    refine ⟨_, rfl, x, p, rfl, hi, _, rfl, x, dx, _, rfl, hx, x, p, rfl, hi, _, rfl, ?_⟩
    rw [decide_eq_true hc]
    exact iteF q
/-- what a procedure calls, ascending -/
def Asc (es xs : List Str) : Prop := sortedS es = true ∧ es.Nodup ∧ ∀ z, z ∈ es ↔ z ∈ xs
def spCo (K : PySem.W.Frag) (C : Addr) : Sp := fun vs H Q _ => ∃ x z p, vs = [.ref x, .str z] ∧ IsPg K C H x p ∧ Prg p ∧ (names p).Nodup ∧ z ∈ names p ∧ ∀ t es H', H t = none → Same H H' → H' t = some (.tup (es.map V.str)) → Asc es (callsOf (bodyOf p z)) → Q (.ref t) H'
theorem ok_co {f C : Addr} {fd : FuncData} (F : Fun K "calls_of" "calls_of" sCo f fd) (mt : mg "tuple" = none) (ms : mg "sorted" = none) (mst : mg "set" = none) (gCf : Glo P w K mg base "check_free" 1 ["free"] (spCf K C)) (gCn : Glo P w K mg base "check_name" 2 ["free", "name"] (spCn K C)) (gNc : Glo P w K mg base "_names_called" 8 ["body"] (spNc K))
    (mGt : Met P w K mg base C "__getitem__" 3 ["self", "at"] (spGt K C)) (hfi : PySem.W.fnIn K mGt.f = true) : FnOk P w K mg base CX0 9 f fd ["free", "name"] (spCo K C) := by
  refine F.ok scCo (fun vs H Q E h => ?_) (fun cdv A outer s H vs Q E hr h => ?_)
  · obtain ⟨x, z, p, rfl, _⟩ := h
    rfl
  · obtain ⟨x, z, p, rfl, hi, hp, hn, hz, q⟩ := h
    have hi0 := hi
    obtain ⟨dx, d, e, c, kvs, es, cs, hx, _⟩ := hi0
    refine ⟨_, (pss_cons (ps_expr (pe_call gCf.G (hr.mono (by decide)) (by rfl) gCf.m gCf.k gCf.b .nil pass0 (pa_cons (pv 0) pa_nil)))
      (pss_cons (ps_expr (pe_call gCn.G (hr.mono (by decide)) (by rfl) gCn.m gCn.k gCn.b .nil pass0 (pa_cons (pv 0) (pa_cons (pv 1) pa_nil))))
      (pss_one (ps_ret (pe_callTy call_tuple_of (by rfl) mt (by decide +kernel) (pa_cons (pe_callB (SX.cr_sortedTx rfl) (by rfl) ms (by decide +kernel) (pa_cons (pe_callTy (SX.cr_setOfTx rfl) (by rfl) mst (by decide +kernel) (pa_cons (pe_call gNc.G (hr.mono (by decide)) (by rfl) gNc.m gNc.k gNc.b .nil pass0 (pa_cons (pe_subOwnK (K := K) rfl mGt.D hfi mGt.G (hr.mono (by decide)) mGt.b pass0 (pv 0) (pv 1)) pa_nil)) pa_nil)) pa_nil)) pa_nil)))))), ?_⟩
    obtain ⟨bx, hbx, eb⟩ := List.mem_map.mp hz
    have ebz : bodyOf p z = bx.2 := by rw [← eb]; exact bodyOf_mem hn hbx
    obtain ⟨_, _, c60, fb⟩ := hp.ok bx hbx
    have pl60 : (placed 5 (bodyOf p z) []).length ≤ 60 := by rw [placed_len, ebz]; exact c60
    refine ⟨_, rfl, x, p, rfl, hi, _, rfl, _, rfl, x, z, p, rfl, hi, hz, ?_⟩
    refine ⟨_, rfl, _, rfl, x, dx, _, rfl, hx, x, z, p, rfl, hi, hn, hz, fun v hv => ?_⟩
    refine ⟨v, _, rfl, hv, by rw [ebz]; exact fb, by omega, fun l H1 s1 hl => ?_⟩
    have lc : (callsOf (bodyOf p z)).length ≤ 60 := by
      show ((ofWord 5 _ "call").map St.nm).length ≤ 60
      rw [List.length_map]
      exact Nat.le_trans (ofWord_len 5 _ _) pl60
    refine ⟨l, _, rfl, SqL.of hl, by unfold scanBound; omega, fun S hS => ?_⟩
    have s2 := s1.trans (same_new (o := SX.SetTO P w S (SX.gather (callsOf (bodyOf p z)))) hS)
    refine ⟨S, _, rfl, upd_same, Nat.lt_of_le_of_lt (SX.len_gather _) (by omega), fun es2 l2 pe se ne hl2 => ?_⟩
    have s3 := s2.trans (same_new (o := .lst (es2.map V.str)) hl2)
    refine ⟨l2, _, rfl, .inl ⟨SqL.of upd_same, fun r hr' => ?_⟩⟩
    exact q r es2 _ (none_of_same s3 hr') (s3.trans (same_new hr')) upd_same ⟨se, ne, fun y => (pe.mem_iff).trans SX.mem_gather⟩
def spIw (K : PySem.W.Frag) (C : Addr) : Sp := fun vs H Q _ => ∃ x z p, vs = [.ref x, .str z] ∧ IsPg K C H x p ∧ Prg p ∧ (names p).Nodup ∧ z ∈ names p ∧ ∀ H', Same H H' → Q (.bl (decide ((ofWord 5 (bodyOf p z) "stay").length = 0))) H'
theorem ok_iw {f C : Addr} {fd : FuncData} (F : Fun K "is_whole" "is_whole" sIw f fd) (ml : mg "len" = none) (gCf : Glo P w K mg base "check_free" 1 ["free"] (spCf K C)) (gCn : Glo P w K mg base "check_name" 2 ["free", "name"] (spCn K C)) (gSo : Glo P w K mg base "statements_of" 7 ["body", "word"] (spSof K 5))
    (mGt : Met P w K mg base C "__getitem__" 3 ["self", "at"] (spGt K C)) (hfi : PySem.W.fnIn K mGt.f = true) : FnOk P w K mg base CX0 8 f fd ["free", "name"] (spIw K C) := by
  refine F.ok scIw (fun vs H Q E h => ?_) (fun cdv A outer s H vs Q E hr h => ?_)
  · obtain ⟨x, z, p, rfl, _⟩ := h
    rfl
  · obtain ⟨x, z, p, rfl, hi, hp, hn, hz, q⟩ := h
    have hi0 := hi
    obtain ⟨dx, d, e, c, kvs, es, cs, hx, _⟩ := hi0
    refine ⟨_, (pss_cons (ps_expr (pe_call gCf.G (hr.mono (by decide)) (by rfl) gCf.m gCf.k gCf.b .nil pass0 (pa_cons (pv 0) pa_nil)))
      (pss_cons (ps_expr (pe_call gCn.G (hr.mono (by decide)) (by rfl) gCn.m gCn.k gCn.b .nil pass0 (pa_cons (pv 0) (pa_cons (pv 1) pa_nil))))
      (pss_one (ps_ret (pe_cmpR op_eq (pe_callB call_len_seq (by rfl) ml PySem.boot_len (pa_cons (pe_call gSo.G (hr.mono (by decide)) (by rfl) gSo.m gSo.k gSo.b .nil pass0 (pa_cons (pe_subOwnK (K := K) rfl mGt.D hfi mGt.G (hr.mono (by decide)) mGt.b pass0 (pv 0) (pv 1)) (pa_cons pe_str pa_nil))) pa_nil)) pe_int (nomark _)))))), ?_⟩
    obtain ⟨bx, hbx, eb⟩ := List.mem_map.mp hz
    have ebz : bodyOf p z = bx.2 := by rw [← eb]; exact bodyOf_mem hn hbx
    obtain ⟨_, _, c60, fb⟩ := hp.ok bx hbx
    have pl60 : (placed 5 (bodyOf p z) []).length ≤ 60 := by rw [placed_len, ebz]; exact c60
    refine ⟨_, rfl, x, p, rfl, hi, _, rfl, _, rfl, x, z, p, rfl, hi, hz, ?_⟩
    refine ⟨_, rfl, _, rfl, x, dx, _, rfl, hx, x, z, p, rfl, hi, hn, hz, fun v hv => ?_⟩
    refine ⟨v, _, "stay", rfl, hv, by rw [ebz]; exact fb, by decide, by omega, fun l us H1 s1 hl hu => ?_⟩
    have lu : us.length = (ofWord 5 (bodyOf p z) "stay").length := hu.1
    refine ⟨l, _, rfl, .inl (SqL.of hl), rfl, ?_⟩
    have e : decide (V.int (us.length : Nat) = V.int 0) = decide ((ofWord 5 (bodyOf p z) "stay").length = 0) := by
      rw [lu]
      by_cases c : (ofWord 5 (bodyOf p z) "stay").length = 0
      · rw [decide_eq_true c, c]; rfl
      · rw [decide_eq_false c, decide_eq_false (fun y => c (by have := V.int.inj y; omega))]
    show Q (.bl (decide (V.int (us.length : Nat) = V.int 0))) H1
    rw [e]
    exact q _ s1
/-- the procedures that can end more -/
def more (p : Pg) (S : List Str) : List Str := (names p).filter fun z => !decide (z ∈ S) && cE S 5 (bodyOf p z)
def spAm (K : PySem.W.Frag) (C : Addr) : Sp := fun vs H Q _ => ∃ x ab p S, vs = [.ref x, .ref ab] ∧ IsPg K C H x p ∧ Prg p ∧ (names p).Nodup ∧ H ab = some (.lst (S.map V.str)) ∧ ∀ l H', H l = none → Same H H' → H' l = some (.lst ((more p S).map V.str)) → Q (.ref l) H'
theorem ok_am {f C : Addr} {fd : FuncData} (F : Fun K "_able_more" "_able_more" sAm f fd) (R : PgC K C) (pN : PMet P w K mg base C "names" 1 ["self"] (spNa K C)) (gBc : Glo P w K mg base "_body_can_end" 11 ["body", "able"] (spBc K 5))
    (mGt : Met P w K mg base C "__getitem__" 3 ["self", "at"] (spGt K C)) (hfi : PySem.W.fnIn K mGt.f = true) : FnOk P w K mg base CX0 12 f fd ["free", "able"] (spAm K C) := by
  refine F.ok scAm (fun vs H Q E h => ?_) (fun cdv A outer s H vs Q E hr h => ?_)
  · obtain ⟨x, ab, p, S, rfl, _⟩ := h
    rfl
  · obtain ⟨x, ab, p, S, rfl, hi, hp, hn, hS, q⟩ := h
    have hi0 := hi
    obtain ⟨dx, d, e, c, kvs, es, cs, hx, _⟩ := hi0
    refine ⟨_, (pss_one (ps_ret (pe_lc (X := (cxOf CX0 P w K mg base NAm "_able_more" (defScope sAm) f cdv A outer s H E).nox) (own := [("name", 2)]) (g := (gName 2)) rfl scAm.nd (pi_tup (pe_prop (pv 0) R.cl pN.o pN.G (hr.mono (by decide)) pN.b .nil pass0 rfl)) (blkOk_by (N := NAm) (sc := defScope sAm) (by decide +kernel)) (fun _ _ _ _ _ => (pg_name (i := 2) scAm.nd rfl (.inl rfl))) (fun _ _ _ _ _ => (pts_one (PW.pt (pw_and (pt_cmpR (op_notIn_seqK (K := K) rfl) (pv 2) (pv 1) rfl) (pw_and1 (pt_val (pe_call gBc.G (hr.mono (by decide)) (by rfl) gBc.m gBc.k gBc.b .nil pass0 (pa_cons (pe_subOwnK (K := K) rfl mGt.D hfi mGt.G (hr.mono (by decide)) mGt.b pass0 (pv 0) (pv 2)) (pa_cons (pv 1) pa_nil))))))))) (fun _ _ _ _ _ => (pv 2))))), ?_⟩
    have lp := hp.len.2
    refine ⟨_, rfl, x, dx, _, rfl, hx, x, p, rfl, hi, fun t H1 nt s1 ht => ⟨t, rfl, ⟨_, SqT.of ht⟩, fun D hD => ?_⟩⟩
    let g : Nat → List Str := fun i => ((names p).take i).filter fun z => !decide (z ∈ S) && cE S 5 (bodyOf p z)
    refine lc_tup (xs := (names p).map V.str) (fun i Hx => Same H1 Hx ∧ Hx D = some (.lst ((g i).map V.str)) ∧ (g i).length ≤ i) ⟨same_new hD, upd_same, Nat.le_refl _⟩ (fun j Hx _ p' => SqT.of (p'.1 _ _ ht)) ?_ ?_
    · rintro i v0 Hx hv0 ⟨sx, hDx, lg⟩
      have ii := (List.getElem?_eq_some_iff.mp hv0).1
      rw [List.length_map, List.length_map] at ii
      obtain ⟨⟨z, b⟩, hpi⟩ : ∃ y, p[i]? = some y := ⟨p[i], List.getElem?_eq_getElem ii⟩
      have ez : v0 = .str z := by
        rw [List.getElem?_map, List.getElem?_map, hpi] at hv0
        exact (Option.some.inj hv0).symm
      subst ez
      have mz : (z, b) ∈ p := List.mem_of_getElem? hpi
      have zn : z ∈ names p := List.mem_map.mpr ⟨_, mz, rfl⟩
      have hni : (names p)[i]? = some z := by rw [List.getElem?_map, hpi]; rfl
      have ebz : bodyOf p z = b := bodyOf_mem hn mz
      obtain ⟨_, _, c60, fb⟩ := hp.ok _ mz
      have gs : g (i + 1) = g i ++ (if (!decide (z ∈ S) && cE S 5 (bodyOf p z)) = true then [z] else []) := by
        show ((names p).take (i + 1)).filter _ = _
        rw [take_snoc hni, List.filter_append]
        congr 1
        rw [List.filter_cons]
        split <;> rfl
      have sH := s1.trans sx
      have hiH := hi.same sH
      have hiH0 := hiH
      obtain ⟨dx', _, _, _, _, _, _, hx', _⟩ := hiH0
      have hSx := sH _ _ hS
      refine ⟨rfl, _, rfl, _, rfl, ab, _, rfl, .inl (SqL.of hSx), rfl, flat_strs, _, rfl, ?_⟩
      have hin : inV (.str z) (S.map V.str) = decide (z ∈ S) := inV_strs
      refine ite2 (fun h1 => ?_) (fun h1 => ?_)
      · have h1 : (!decide (z ∈ S)) = true := by rw [← hin]; exact h1
        refine ⟨_, rfl, _, rfl, x, dx', _, rfl, hx', x, z, p, rfl, hiH, hn, zn, fun v hv => ⟨_, rfl, v, ab, _, S, rfl, hv, by rw [ebz]; exact fb, by rw [ebz]; exact c60, SqL.of hSx, fun H2 s2 => ⟨_, rfl, ite2 (fun h2 => ?_) (fun h2 => ?_)⟩⟩⟩
        · rw [h1, h2] at gs
          refine ⟨_, rfl, _, s2 _ _ hDx, small1000 (by rw [List.length_map]; omega), same_upd hD (sx.trans s2), ?_, ?_⟩
          · rw [gs, List.map_append]
            exact upd_same
          · rw [gs, List.length_append]
            show (g i).length + 1 ≤ i + 1
            omega
        · have e2 : cE S 5 (bodyOf p z) = false := by
            cases c : cE S 5 (bodyOf p z) with
            | false => rfl
            | true => exact absurd c h2
          rw [h1, e2] at gs
          have gs : g (i + 1) = g i := by rw [gs]; exact List.append_nil _
          exact ⟨sx.trans s2, by rw [gs]; exact s2 _ _ hDx, by rw [gs]; omega⟩
      · have e1 : (!decide (z ∈ S)) = false := by
          cases c : (!decide (z ∈ S)) with
          | false => rfl
          | true => exact absurd (show (!inV (.str z) (S.map V.str)) = true by rw [hin]; exact c) h1
        rw [e1] at gs
        have gs : g (i + 1) = g i := by rw [gs]; exact List.append_nil _
        exact ⟨sx, by rw [gs]; exact hDx, by rw [gs]; omega⟩
    · rintro Hx ⟨sx, hDx, lg⟩
      have e : g ((names p).map V.str).length = more p S := by
        show ((names p).take _).filter _ = _
        rw [List.take_of_length_le (Nat.le_of_eq (by simp))]
        rfl
      rw [e] at hDx
      exact q D Hx (none_of_same s1 hD) (s1.trans sx) hDx
end
end FR
set_option Elab.async false
set_option linter.all false
set_option maxRecDepth 100000
set_option maxHeartbeats 1000000
/-! the rounds: the program's and the law's come to the same procedures -/
namespace FR
open PySem PySem.Spec PyProof.Rows L2
theorem sE_mono {S T : List Str} (h : ∀ z, z ∈ S → z ∈ T) {r r' : Bd → Bool} (hr : ∀ b, r b = true → r' b = true) : ∀ s, sE S r s = true → sE T r' s = true
  | .note _, _ => rfl
  | .call z, e => decide_eq_true (h z (of_decide_eq_true e))
  | .stay, e => e
  | .again _ _ _, _ => rfl
  | .choose bs, e => List.all_eq_true.mpr fun x hx => hr x (List.all_eq_true.mp e x hx)
  | .toss rs, e => by
    obtain ⟨x, hx, e⟩ := List.any_eq_true.mp (show (rs.map fun x => x.2).any r = true from e)
    exact List.any_eq_true.mpr ⟨x, hx, hr x e⟩
theorem cE_mono {S T : List Str} (h : ∀ z, z ∈ S → z ∈ T) : ∀ (n : Nat) (b : Bd), cE S n b = true → cE T n b = true
  | 0, _, _ => rfl
  | n + 1, b, e => List.all_eq_true.mpr fun s hs => sE_mono h (cE_mono h n) s (List.all_eq_true.mp e s hs)
theorem cE_same {S T : List Str} (h : ∀ z, z ∈ S ↔ z ∈ T) (n : Nat) (b : Bd) : cE S n b = cE T n b := by
  cases e : cE T n b with
  | true => exact cE_mono (fun z hz => (h z).mpr hz) n b e
  | false =>
    cases e2 : cE S n b with
    | false => rfl
    | true => rw [cE_mono (fun z hz => (h z).mp hz) n b e2] at e; cases e
/-- the law's rounds -/
def it (p : Pg) : Nat → List Str
  | 0 => []
  | k + 1 => (names p).filter fun z => cE (it p k) 5 (bodyOf p z)
/-- the program's -/
def abl (p : Pg) : Nat → List Str
  | 0 => []
  | k + 1 => abl p k ++ more p (abl p k)
def Able (p : Pg) (z : Str) : Prop := ∃ k, z ∈ it p k
theorem mem_it {p : Pg} {k : Nat} {z : Str} : z ∈ it p (k + 1) ↔ z ∈ names p ∧ cE (it p k) 5 (bodyOf p z) = true := List.mem_filter
theorem mem_more {p : Pg} {S : List Str} {z : Str} : z ∈ more p S ↔ z ∈ names p ∧ z ∉ S ∧ cE S 5 (bodyOf p z) = true := by
  unfold more
  rw [List.mem_filter, Bool.and_eq_true, Bool.not_eq_true', decide_eq_false_iff_not]
theorem it_mono (p : Pg) : ∀ (k : Nat) (z : Str), z ∈ it p k → z ∈ it p (k + 1)
  | 0, z, h => absurd h List.not_mem_nil
  | k + 1, z, h => by
    obtain ⟨a, b⟩ := mem_it.mp h
    exact mem_it.mpr ⟨a, cE_mono (it_mono p k) 5 _ b⟩
theorem it_le {p : Pg} {k j : Nat} (h : k ≤ j) {z : Str} (hz : z ∈ it p k) : z ∈ it p j := by
  induction h with
  | refl => exact hz
  | step _ ih => exact it_mono p _ z ih
theorem it_names {p : Pg} : ∀ {k : Nat} {z : Str}, z ∈ it p k → z ∈ names p
  | 0, _, h => absurd h List.not_mem_nil
  | _ + 1, _, h => (mem_it.mp h).1
theorem mem_abl (p : Pg) : ∀ (k : Nat) (z : Str), z ∈ abl p k ↔ z ∈ it p k
  | 0, _ => Iff.rfl
  | k + 1, z => by
    have ih := mem_abl p k
    show z ∈ abl p k ++ more p (abl p k) ↔ _
    rw [List.mem_append, mem_more, mem_it, cE_same ih]
    constructor
    · rintro (h | ⟨a, _, c⟩)
      · exact mem_it.mp (it_mono p k z ((ih z).mp h))
      · exact ⟨a, c⟩
    · rintro ⟨a, c⟩
      by_cases h : z ∈ abl p k
      · exact .inl h
      · exact .inr ⟨a, h, c⟩
theorem abl_nodup {p : Pg} (hn : (names p).Nodup) : ∀ k, (abl p k).Nodup
  | 0 => List.nodup_nil
  | k + 1 => List.nodup_append.mpr ⟨abl_nodup hn k, hn.sublist List.filter_sublist, fun a ha b hb e => (mem_more.mp hb).2.1 (e ▸ ha)⟩
theorem nodup_le : ∀ {l m : List Str}, l.Nodup → (∀ z ∈ l, z ∈ m) → l.length ≤ m.length
  | [], _, _, _ => Nat.zero_le _
  | x :: l, m, h, s => by
    obtain ⟨h1, h2⟩ := List.nodup_cons.mp h
    have hx := s x List.mem_cons_self
    have le := nodup_le (m := m.erase x) h2 fun z hz => (List.mem_erase_of_ne (fun (e : z = x) => h1 (e ▸ hz))).mpr (s z (List.mem_cons_of_mem _ hz))
    rw [List.length_erase_of_mem hx] at le
    have := List.length_pos_of_mem hx
    rw [List.length_cons]
    omega
theorem nodup_all {l m : List Str} (h : l.Nodup) (s : ∀ z ∈ l, z ∈ m) (le : m.length ≤ l.length) : ∀ z ∈ m, z ∈ l := fun z hz => by
  by_cases c : z ∈ l
  · exact c
  · have := nodup_le (l := z :: l) (m := m) (List.nodup_cons.mpr ⟨c, h⟩) fun y hy => (List.mem_cons.mp hy).elim (fun e => e ▸ hz) (s y)
    rw [List.length_cons] at this
    omega
theorem abl_len {p : Pg} (hn : (names p).Nodup) (k : Nat) : (abl p k).length ≤ p.length := by
  have := nodup_le (abl_nodup hn k) fun z hz => it_names ((mem_abl p k z).mp hz)
  rwa [List.length_map] at this
theorem it_stop {p : Pg} {k : Nat} (h : ∀ z, z ∈ it p (k + 1) → z ∈ it p k) : ∀ z, z ∈ it p k ↔ Able p z := by
  have all : ∀ j z, z ∈ it p j → z ∈ it p k := by
    intro j
    induction j with
    | zero => exact fun z hz => absurd hz List.not_mem_nil
    | succ j ih => exact fun z hz => h z (mem_it.mpr ⟨(mem_it.mp hz).1, cE_mono ih 5 _ (mem_it.mp hz).2⟩)
  exact fun z => ⟨fun hz => ⟨k, hz⟩, fun ⟨j, hj⟩ => all j z hj⟩
theorem abl_stop {p : Pg} {k : Nat} (h : more p (abl p k) = []) : ∀ z, z ∈ abl p k ↔ Able p z := fun z => by
  rw [mem_abl]
  refine it_stop (fun y hy => ?_) z
  rw [← mem_abl]
  have hy := (mem_abl p (k + 1) y).mpr hy
  have e : abl p (k + 1) = abl p k := by show abl p k ++ more p (abl p k) = _; rw [h, List.append_nil]
  rwa [e] at hy
theorem it_nodup {p : Pg} (hn : (names p).Nodup) : ∀ k, (it p k).Nodup
  | 0 => List.nodup_nil
  | _ + 1 => hn.sublist List.filter_sublist
theorem it_len_stop {p : Pg} (hn : (names p).Nodup) {k : Nat} (h : (it p (k + 1)).length ≤ (it p k).length) : ∀ z, z ∈ it p (k + 1) → z ∈ it p k := fun z hz => nodup_all (it_nodup hn k) (it_mono p k) h z hz
theorem filter_sorted : ∀ {l : List Str} {f : Str → Bool}, l.Pairwise leS → (l.filter f).Pairwise leS := fun h => h.sublist List.filter_sublist
theorem pair_sorted : ∀ {l : List Str}, l.Pairwise leS → sortedS l = true
  | [], _ => rfl
  | x :: l, h => by
    induction l generalizing x with
    | nil => rfl
    | cons y l ih =>
      obtain ⟨h1, h2⟩ := List.pairwise_cons.mp h
      show (!ltCps y.cps.toList x.cps.toList && risingS y l) = true
      have a : ltCps y.cps.toList x.cps.toList = false := h1 y List.mem_cons_self
      rw [a]
      exact ih y h2
theorem it_sorted {p : Pg} (hs : sortedS (names p) = true) : ∀ k, sortedS (it p k) = true
  | 0 => rfl
  | _ + 1 => pair_sorted (filter_sorted (sorted_pair hs))
/-- the procedures that can end, ascending -/
def Enders (p : Pg) (es : List Str) : Prop := sortedS es = true ∧ es.Nodup ∧ ∀ z, z ∈ es ↔ Able p z
theorem Enders.eq {p : Pg} {es fs : List Str} (a : Enders p es) (b : Enders p fs) : es = fs := sorted_nodup a.2.1 b.2.1 (fun z => (a.2.2 z).trans (b.2.2 z).symm) a.1 b.1
theorem all_it {p : Pg} : ∀ {S : List Str}, (∀ y, y ∈ S → Able p y) → ∃ k, ∀ y, y ∈ S → y ∈ it p k
  | [], _ => ⟨0, fun y hy => absurd hy List.not_mem_nil⟩
  | x :: S, h => by
    obtain ⟨k, hk⟩ := all_it fun y hy => h y (List.mem_cons_of_mem _ hy)
    obtain ⟨j, hj⟩ := h x List.mem_cons_self
    refine ⟨max k j, fun y hy => ?_⟩
    rcases List.mem_cons.mp hy with e | hy
    · rw [e]; exact it_le (Nat.le_max_right _ _) hj
    · exact it_le (Nat.le_max_left _ _) (hk y hy)
/-- a procedure whose body ends by those that can -/
theorem able_step {p : Pg} {z : Str} {S : List Str} (hz : z ∈ names p) (hS : ∀ y, y ∈ S → Able p y) (h : cE S 5 (bodyOf p z) = true) : Able p z := by
  obtain ⟨k, hk⟩ := all_it hS
  exact ⟨k + 1, mem_it.mpr ⟨hz, cE_mono hk 5 _ h⟩⟩
end FR
set_option Elab.async false
set_option linter.all false
set_option maxRecDepth 100000
set_option maxHeartbeats 1000000
/-! always_able, can_end -/
namespace FR
open PySem PySem.Spec PyProof.Rows L2
abbrev sAa : Stmt := FR.top 36
abbrev NAa : List Str := ["free", "able", "found"]
theorem scAa : FnScope NAa ["free"] (defScope sAa) := ⟨rfl, rfl, rfl, by decide +kernel, rfl, by decide +kernel, by decide +kernel⟩
abbrev sCe : Stmt := FR.top 35
abbrev NCe : List Str := ["program"]
theorem scCe : FnScope NCe ["program"] (defScope sCe) := ⟨rfl, rfl, rfl, by decide +kernel, rfl, by decide +kernel, by decide +kernel⟩
theorem IsPg.but {K : PySem.W.Frag} {C ab : Addr} {H H' : Hp} {x : Addr} {p : Pg} {us : List V} (h : IsPg K C H x p) (ha : H ab = some (.lst us)) (s : But ab H H') : IsPg K C H' x p :=
  h.keep (s.tk ha (fun _ z => by cases z) fun _ _ z => by cases z) (fun q _ _ _ e => s _ _ (fun z => by rw [z, ha] at e; cases e) e) fun q _ e => s _ _ (fun z => by rw [z, ha] at e; cases e) e
section
variable {P : Program} {w : World} {K : PySem.W.Frag} {mg : Str → Option Value} {base : Heap}
def spAa (K : PySem.W.Frag) (C : Addr) : Sp := fun vs H Q _ => ∃ x p, vs = [.ref x] ∧ IsPg K C H x p ∧ Prg p ∧ (names p).Nodup ∧ ∀ t es H', H t = none → Same H H' → H' t = some (.tup (es.map V.str)) → Enders p es → Q (.ref t) H'
theorem ok_aa {f C : Addr} {fd : FuncData} (F : Fun K "always_able" "always_able" sAa f fd) (ml : mg "len" = none) (mt : mg "tuple" = none) (ms : mg "sorted" = none) (gAm : Glo P w K mg base "_able_more" 12 ["free", "able"] (spAm K C)) : FnOk P w K mg base CX0 13 f fd ["free"] (spAa K C) := by
  refine F.ok scAa (fun vs H Q E h => ?_) (fun cdv A outer s H vs Q E hr h => ?_)
  · obtain ⟨x, p, rfl, _⟩ := h
    rfl
  · obtain ⟨x, p, rfl, hi, hp, hn, q⟩ := h
    refine ⟨_, (pss_cons (ps_set (i := 1) scAa.nd rfl (Or.inl rfl) (pe_lst pa_nil))
      (pss_cons (ps_set (i := 2) scAa.nd rfl (Or.inl rfl) (pe_call gAm.G (hr.mono (by decide)) (by rfl) gAm.m gAm.k gAm.b .nil pass0 (pa_cons (pv 0) (pa_cons (pv 1) pa_nil))))
      (pss_cons (ps_while PassesOwn.never (pt_cmpR op_gt (pe_callB call_len_seq (by rfl) ml PySem.boot_len (pa_cons (pv 2) pa_nil)) pe_int (nomark _)) (pss_cons (ps_expr (pe_bm PySem.F.plainAttrs_list PySem.F.slot_list_extend PySem.F.type_list_extend mt_extend (pv 1) (pa_cons (pv 2) pa_nil)))
      (pss_one (ps_set (i := 2) scAa.nd rfl (Or.inl rfl) (pe_call gAm.G (hr.mono (by decide)) (by rfl) gAm.m gAm.k gAm.b .nil pass0 (pa_cons (pv 0) (pa_cons (pv 1) pa_nil)))))))
      (pss_one (ps_ret (pe_callTy call_tuple_of (by rfl) mt (by decide +kernel) (pa_cons (pe_callB cr_sortedS (by rfl) ms (by decide +kernel) (pa_cons (pv 1) pa_nil)) pa_nil))))))), ?_⟩
    have lp := hp.len.2
    refine ⟨Nat.zero_le _, fun ab hab => ?_⟩
    have s1 := same_new (o := .lst []) hab
    have h1 : upd H ab (.lst []) ab = some (.lst ((abl p 0).map V.str)) := upd_same
    generalize upd H ab (.lst []) = H1 at s1 h1 ⊢
    have hi1 := hi.same s1
    refine ⟨_, rfl, _, rfl, x, ab, p, abl p 0, rfl, hi1, hp, hn, h1, fun fo H2 nf s2 hf => ?_⟩
    have nfa : fo ≠ ab := fun z => by rw [z, h1] at nf; cases nf
    have h2 := s2 _ _ h1
    refine ⟨fun m σ Hc => ∃ (k : Nat) (fo : Addr), σ = [some (.ref x), some (.ref ab), some (.ref fo)] ∧ But ab H1 Hc ∧ Hc ab = some (.lst ((abl p k).map V.str)) ∧ Hc fo = some (.lst ((more p (abl p k)).map V.str)) ∧ fo ≠ ab ∧ m + (abl p k).length = p.length, ⟨p.length, 0, fo, rfl, But.same s2, h2, hf, nfa, by show p.length + 0 = _; omega⟩, ?_⟩
    rintro m σ Hc ⟨k, fo, rfl, sc, ha, hfo, nfa, hm⟩
    have lk := abl_len hn k
    refine ⟨_, rfl, fo, _, rfl, .inl (SqL.of hfo), _, _, rfl, rfl, _, rfl, ite2 (fun h0 => ?_) (fun h0 => ?_)⟩
    · have lm : 0 < (more p (abl p k)).length := by
        have := of_decide_eq_true h0
        rw [List.length_map] at this
        omega
      have ls : (abl p (k + 1)).length = (abl p k).length + (more p (abl p k)).length := List.length_append
      have lk1 := abl_len hn (k + 1)
      refine ⟨fun σ' H' => ∃ m', m' < m ∧ ∃ (k : Nat) (fo : Addr), σ' = [some (.ref x), some (.ref ab), some (.ref fo)] ∧ But ab H1 H' ∧ H' ab = some (.lst ((abl p k).map V.str)) ∧ H' fo = some (.lst ((more p (abl p k)).map V.str)) ∧ fo ≠ ab ∧ m' + (abl p k).length = p.length, fun σ' H' h => h, ?_⟩
      refine ⟨_, rfl, .inl ⟨rfl, _, SqL.of ha⟩, _, rfl, ab, fo, _, _, rfl, rfl, ha, hfo, Nat.le_of_lt (small1000 (by rw [List.length_map, List.length_map]; omega)), ?_⟩
      have e2 : (abl p k).map V.str ++ (more p (abl p k)).map V.str = (abl p (k + 1)).map V.str := (List.map_append ..).symm
      have b2 : But ab Hc (upd Hc ab (.lst ((abl p k).map V.str ++ (more p (abl p k)).map V.str))) := But.upd
      have ha2 : upd Hc ab (.lst ((abl p k).map V.str ++ (more p (abl p k)).map V.str)) ab = some (.lst ((abl p (k + 1)).map V.str)) := by rw [upd_same, e2]
      generalize upd Hc ab (.lst ((abl p k).map V.str ++ (more p (abl p k)).map V.str)) = Hd at b2 ha2 ⊢
      have sd := sc.trans b2
      refine ⟨_, rfl, _, rfl, x, ab, p, abl p (k + 1), rfl, hi1.but h1 sd, hp, hn, ha2, fun fo2 He nf2 s3 hf2 => ?_⟩
      exact ⟨p.length - (abl p (k + 1)).length, by omega, k + 1, fo2, rfl, sd.trans (But.same s3), s3 _ _ ha2, hf2, (fun z => by rw [z, ha2] at nf2; cases nf2), by omega⟩
    · have em : more p (abl p k) = [] := by
        cases c : more p (abl p k) with
        | nil => rfl
        | cons y l =>
          refine absurd (decide_eq_true ?_) h0
          rw [c]
          show (0 : Int) < (((y :: l).map V.str).length : Nat)
          rw [List.length_map, List.length_cons]
          omega
      have st := abl_stop em
      refine ⟨_, rfl, ab, abl p k, rfl, SqL.of ha, by omega, fun es l pe se hl => ?_⟩
      have s3 := same_new (o := .lst (es.map V.str)) hl
      have h3 : upd Hc l (.lst (es.map V.str)) l = some (.lst (es.map V.str)) := upd_same
      generalize upd Hc l (.lst (es.map V.str)) = Hd at s3 h3 ⊢
      refine ⟨l, _, rfl, .inl ⟨SqL.of h3, fun t ht => ?_⟩⟩
      have sH : Same H Hc := fun a o e => sc a o (ne_of_none e hab) (s1 _ _ e)
      have s4 := (sH.trans s3).trans (same_new (o := .tup (es.map V.str)) ht)
      exact q t es _ (none_of_same (sH.trans s3) ht) s4 upd_same ⟨se, pe.symm.nodup (abl_nodup hn k), fun z => (pe.mem_iff).trans (st z)⟩
def spCe (K : PySem.W.Frag) (C : Addr) : Sp := fun vs H Q _ => ∃ x p, vs = [.ref x] ∧ IsPg K C H x p ∧ Prg p ∧ (names p).Nodup ∧ chosen (allP p) = [] ∧ ∀ t es H', H t = none → Same H H' → H' t = some (.tup (es.map V.str)) → Enders p es → Q (.ref t) H'
theorem ok_ce {f C : Addr} {fd : FuncData} (F : Fun K "can_end" "can_end" sCe f fd) (gCc : Glo P w K mg base "check_closed" 3 ["program"] (spCc K C)) (gAa : Glo P w K mg base "always_able" 13 ["free"] (spAa K C)) : FnOk P w K mg base CX0 14 f fd ["program"] (spCe K C) := by
  refine F.ok scCe (fun vs H Q E h => ?_) (fun cdv A outer s H vs Q E hr h => ?_)
  · obtain ⟨x, p, rfl, _⟩ := h
    rfl
  · obtain ⟨x, p, rfl, hi, hp, hn, hc, q⟩ := h
    refine ⟨_, (pss_cons (ps_expr (pe_call gCc.G (hr.mono (by decide)) (by rfl) gCc.m gCc.k gCc.b .nil pass0 (pa_cons (pv 0) pa_nil)))
      (pss_one (ps_ret (pe_call gAa.G (hr.mono (by decide)) (by rfl) gAa.m gAa.k gAa.b .nil pass0 (pa_cons (pv 0) pa_nil))))), ?_⟩
    exact ⟨_, rfl, x, p, rfl, hi, hc, _, rfl, x, p, rfl, hi, hp, hn, q⟩
end
end FR
set_option Elab.async false
set_option linter.all false
set_option maxRecDepth 100000
set_option maxHeartbeats 1000000
/-! _law_called, _law_can_end -/
namespace FR
open PySem PySem.Spec PyProof.Rows L2
abbrev sQc : Stmt := FR.top 51
abbrev NQc : List Str := ["_law_body_here", "_law_sort", "_law_name_here"]
theorem scQc : FnScope NQc ["_law_body_here"] (defScope sQc) := ⟨rfl, rfl, rfl, by decide +kernel, rfl, by decide +kernel, by decide +kernel⟩
abbrev sQe : Stmt := FR.top 52
abbrev NQe : List Str := ["_law_body_here", "_law_known", "_law_statement_here", "_law_inner_here", "_law_one"]
theorem scQe : FnScope NQe ["_law_body_here", "_law_known"] (defScope sQe) := ⟨rfl, rfl, rfl, by decide +kernel, rfl, by decide +kernel, by decide +kernel⟩
def cls (b : Bd) : List Str := (srt 5 b).flatMap fun y => if y.1 = ("call" : Str) then [y.2] else []
theorem cls_len (b : Bd) : (cls b).length ≤ cnt 5 b := by
  rw [← srt_len]
  unfold cls
  generalize srt 5 b = l
  induction l with
  | nil => exact Nat.le_refl _
  | cons y l ih =>
    rw [List.flatMap_cons, List.length_append, List.length_cons]
    split
    · show 1 + _ ≤ _; omega
    · show 0 + _ ≤ _; omega
theorem calls_cls (b : Bd) : callsOf b = cls b := by
  unfold callsOf ofWord cls
  rw [← srt_placed 5 b []]
  generalize placed 5 b [] = l
  induction l with
  | nil => rfl
  | cons y l ih =>
    rw [List.map_cons, List.map_cons, List.flatMap_cons, ← ih, List.filter_cons]
    by_cases c : y.2.word = ("call" : Str)
    · rw [if_pos (decide_eq_true c), if_pos c]; rfl
    · rw [if_neg (fun z => c (of_decide_eq_true z)), if_neg c]; rfl
theorem inV_bls {b : Bool} : ∀ {bs : List Bool}, inV (.bl b) (bs.map V.bl) = bs.any (fun x => x == b)
  | [] => rfl
  | x :: bs => by
    have e : inV (.bl b) ((x :: bs).map V.bl) = (eqV (.bl x) (.bl b) || inV (.bl b) (bs.map V.bl)) := rfl
    rw [e, inV_bls]
    cases x <;> cases b <;> rfl
theorem flat_bls : ∀ {bs : List Bool}, (bs.map V.bl).all flatV = true
  | [] => rfl
  | _ :: bs => flat_bls (bs := bs)
/-- no stay, no call of an unknown procedure -/
def ok1 (S : List Str) : St → Bool
  | .stay => false
  | .call z => decide (z ∈ S)
  | _ => true
section
variable {P : Program} {w : World} {K : PySem.W.Frag} {mg : Str → Option Value} {base : Heap}
def spQc : Sp := fun vs H Q _ => ∃ v b, vs = [v] ∧ BdAt 5 H v b ∧ FewB 5 b ∧ cnt 5 b ≤ 60 ∧ ∀ l es H', H l = none → Same H H' → H' l = some (.lst (es.map V.str)) → Asc es (callsOf b) → Q (.ref l) H'
theorem ok_qc {f : Addr} {fd : FuncData} (F : Fun K "_law_called" "_law_called" sQc f fd) (ms : mg "sorted" = none) (mst : mg "set" = none) (gS : Glo P w K mg base "_law_sorts" 6 ["_law_body_here"] (spLr 5)) : FnOk P w K mg base CX0 7 f fd ["_law_body_here"] spQc := by
  refine F.ok scQc (fun vs H Q E h => ?_) (fun cdv A outer s H vs Q E hr h => ?_)
  · obtain ⟨v, b, rfl, _⟩ := h
    rfl
  · obtain ⟨v, b, rfl, hb, few, c60, q⟩ := h
    refine ⟨_, (pss_one (ps_ret (pe_callB (SX.cr_sortedTx rfl) (by rfl) ms (by decide +kernel) (pa_cons (pe_callTy (SX.cr_setOfTx rfl) (by rfl) mst (by decide +kernel) (pa_cons (pe_lc (X := (cxOf CX0 P w K mg base NQc "_law_called" (defScope sQc) f cdv A outer s H E).nox) (own := [("_law_sort", 1), ("_law_name_here", 2)]) (g := (gTup K 2 (gCons (gName 1) (gCons (gName 2) gNil)))) rfl scQc.nd (pi_list (pe_call gS.G (hr.mono (by decide)) (by rfl) gS.m gS.k gS.b .nil pass0 (pa_cons (pv 0) pa_nil))) (blkOk_by (N := NQc) (sc := defScope sQc) (by decide +kernel)) (fun _ _ _ _ _ => (pg_tupK (K := K) rfl rfl (pgs_cons (pg_name (i := 1) scQc.nd rfl (.inl rfl)) (pgs_cons (pg_name (i := 2) scQc.nd rfl (.inl rfl)) pgs_nil)))) (fun _ _ _ _ _ => (pts_one (pt_cmpR op_eq (pv 1) pe_str (nomark _)))) (fun _ _ _ _ _ => (pv 2))) pa_nil)) pa_nil)))), ?_⟩
    refine ⟨_, rfl, v, b, rfl, hb, few, by rw [srt_len]; omega, fun l us H2 nl s2 hl hu => ⟨l, rfl, ⟨_, SqL.of hl⟩, fun D hD => ?_⟩⟩
    have lu : us.length = (srt 5 b).length := hu.1
    have lc := cls_len b
    refine lc_list (xs := us) (fun j Hx => Same H2 Hx ∧ Hx D = some (.lst ((((srt 5 b).take j).flatMap fun y => if y.1 = ("call" : Str) then [y.2] else []).map V.str))) ⟨same_new hD, upd_same⟩ (fun j Hx _ p' => SqL.of (p'.1 _ _ hl)) ?_ ?_
    · rintro j w0 Hx hj ⟨sx, hDx⟩
      obtain ⟨yy, hyy, t', rfl, ht'⟩ := hu.2 j w0 hj
      have ht' := sx _ _ ht'
      have stj : (((srt 5 b).take (j + 1)).flatMap fun y => if y.1 = ("call" : Str) then [y.2] else []) = (((srt 5 b).take j).flatMap fun y => if y.1 = ("call" : Str) then [y.2] else []) ++ (if yy.1 = ("call" : Str) then [yy.2] else []) := flat_take hyy
      have lt : (((srt 5 b).take j).flatMap fun y => if y.1 = ("call" : Str) then [y.2] else []).length ≤ 60 := Nat.le_trans (flat_take_le _ _) (Nat.le_trans lc c60)
      refine ⟨t', _, rfl, SqT.of ht', rfl, _, _, rfl, _, _, rfl, rfl, rfl, ?_⟩
      refine ⟨_, rfl, rfl, _, rfl, ?_⟩
      show if decide (V.str yy.1 = V.str "call") = true then _ else _
      rw [dec_str]
      refine ite2 (fun hw => ?_) (fun hw => ?_)
      · have hw := of_decide_eq_true hw
        rw [if_pos hw] at stj
        refine ⟨_, rfl, _, hDx, small1000 (by rw [List.length_map]; omega), same_upd hD sx, ?_⟩
        rw [stj, List.map_append]
        exact upd_same
      · have hw : ¬ yy.1 = ("call" : Str) := fun z => hw (decide_eq_true z)
        rw [if_neg hw, List.append_nil] at stj
        refine ⟨sx, ?_⟩
        rw [stj]
        exact hDx
    · rintro Hx ⟨sx, hDx⟩
      rw [List.take_of_length_le (by omega)] at hDx
      have hDx : Hx D = some (.lst ((cls b).map V.str)) := hDx
      refine ⟨D, _, rfl, SqL.of hDx, by unfold scanBound; omega, fun S hS => ?_⟩
      have s3 := (s2.trans sx).trans (same_new (o := SX.SetTO P w S (SX.gather (cls b))) hS)
      refine ⟨S, _, rfl, upd_same, Nat.lt_of_le_of_lt (SX.len_gather _) (by omega), fun es2 l2 pe se ne hl2 => ?_⟩
      have s4 := s3.trans (same_new (o := .lst (es2.map V.str)) hl2)
      exact q l2 es2 _ (none_of_same s3 hl2) s4 upd_same ⟨se, ne, fun y => by rw [calls_cls]; exact (pe.mem_iff).trans SX.mem_gather⟩
def spQe (K : PySem.W.Frag) (n : Nat) : Sp := fun vs H Q _ => ∃ v kn b S, vs = [v, .ref kn] ∧ BdAt n H v b ∧ FewB n b ∧ cnt n b ≤ 60 ∧ H kn = some (.lst (S.map V.str)) ∧ ∀ H', Same H H' → Q (.bl (cE S n b)) H'
theorem ok_qe {f fs : Addr} {fd fds : FuncData} {n k : Nat} (F : Fun K "_law_can_end" "_law_can_end" sQe f fd) (gI : Glo P w K mg base "_law_inner" 1 ["_law_statement_here"] (spLi n)) (GS : FnOk P w K mg base CX0 k fs fds ["_law_body_here", "_law_known"] (spQe K n)) (k1 : 1 ≤ k)
    (mS : mg "_law_can_end" = some (.ref fs)) (kS : PySem.W.keepIn K (.ref fs) = true) (bS : Binds K fds ["_law_body_here", "_law_known"] []) : FnOk P w K mg base CX0 (k + 1) f fd ["_law_body_here", "_law_known"] (spQe K (n + 1)) := by
  refine F.ok scQe (fun vs H Q E h => ?_) (fun cdv A outer s H vs Q E hr h => ?_)
  · obtain ⟨v, kn, b, S, rfl, _⟩ := h
    rfl
  · obtain ⟨v, kn, b, S, rfl, ⟨a, xs, rfl, ha, hx⟩, few, c60, hS, q⟩ := h
    refine ⟨_, (pss_cons (ps_for PassesOwn.never rfl (pi_tup (pv 0)) (pg_name (i := 2) scQe.nd rfl (.inl rfl)) (pss_cons (ps_if (PW.pt (pw_or (pt_cmpR op_eq (pe_ix ix_tup (pv 2) pe_int (fun _ _ => rfl)) pe_str (nomark _)) (pw_or1 (PW.pt (pw_and (pt_cmpR op_eq (pe_ix ix_tup (pv 2) pe_int (fun _ _ => rfl)) pe_str (nomark _)) (pw_and1 (pt_cmpR op_notIn_seq (pe_ix ix_tup (pv 2) pe_int (fun _ _ => rfl)) (pv 1) rfl))))))) (pss_one (ps_ret pe_bl)) pss_nil)
      (pss_cons (ps_setLc (i := 3) (X := (cxOf CX0 P w K mg base NQe "_law_can_end" (defScope sQe) f cdv A outer s H E).nox) (own := [("_law_one", 4)]) (g := (gName 4)) (tt := tYes) rfl scQe.nd rfl rfl (sw_true rfl rfl rfl (by decide +kernel)) (pi_list (pe_call gI.G (hr.mono k1) (by rfl) gI.m gI.k gI.b .nil pass0 (pa_cons (pv 2) pa_nil))) (blkOk_by (N := NQe) (sc := defScope sQe) (by decide +kernel)) (fun _ _ _ _ _ => (pg_name (i := 4) scQe.nd rfl (.inl rfl))) (fun _ _ _ _ _ => pts_nil) (fun _ _ _ _ _ => (pe_call GS hr (by rfl) mS kS bS .nil pass0 (pa_cons (pv 4) (pa_cons (pv 1) pa_nil)))))
      (pss_one (ps_if (PW.pt (pw_or (PW.pt (pw_and (pt_cmpR op_eq (pe_ix ix_tup (pv 2) pe_int (fun _ _ => rfl)) pe_str (nomark _)) (pw_and1 (pt_cmpR op_notIn_seq pe_bl (pv 3) rfl)))) (pw_or1 (PW.pt (pw_and (pt_cmpR op_eq (pe_ix ix_tup (pv 2) pe_int (fun _ _ => rfl)) pe_str (nomark _)) (pw_and1 (pt_cmpR op_in_seq pe_bl (pv 3) rfl))))))) (pss_one (ps_ret pe_bl)) pss_nil)))))
      (pss_one (ps_ret pe_bl))), ?_⟩
    refine ⟨_, rfl, a, rfl, ⟨xs, SqT.of ha⟩, ?_⟩
    have xl : xs.length = b.length := hx.1
    refine for_it (walk_tup (xs := xs)) (fun i σ Hc => Same H Hc ∧ (b.take i).all (sE S (cE S n)) = true ∧ ∃ (x2 x3 : Option V), σ = [some (.ref a), some (.ref kn), x2, x3, none])
      ⟨Same.refl _, rfl, _, _, rfl⟩ (fun i σ Hc _ p' => SqT.of (p'.1 _ _ ha)) ?_ ?_
    · rintro i v' σ Hc H' hi ⟨sm, al, x2, x3, rfl⟩ ⟨rfl, hxi⟩
      obtain ⟨st, hst, hs⟩ := hx.2 i v' hxi
      have ms := List.mem_of_getElem? hst
      obtain ⟨f1, f2⟩ := few st ms
      have hs := StAt.same hs sm
      have step : (b.take (i + 1)).all (sE S (cE S n)) = ((b.take i).all (sE S (cE S n)) && sE S (cE S n) st) := by
        rw [take_snoc hst, List.all_append, List.all_cons, List.all_nil, Bool.and_true]
      have no : sE S (cE S n) st = false → cE S (n + 1) b = false := fun e => by
        cases c : cE S (n + 1) b with
        | false => rfl
        | true =>
          have := List.all_eq_true.mp (show b.all (sE S (cE S n)) = true from c) st ms
          rw [e] at this
          cases this
      have hS1 := sm _ _ hS
      obtain ⟨as, ys, rfl, has⟩ := hs.head
      have rF : sE S (cE S n) st = false → ∀ H'', Same H H'' → Q (.bl false) H'' := fun e H'' s => by
        have := q _ s
        rwa [no e] at this
      refine tif_join (G := fun HB => HB = H' ∧ ok1 S st = true) (fun Q' h' => ?_) ?_
      · match st, hs, has, rF, h' with
        | .note z, hs, has, rF, h' => exact ⟨_, rfl, as, _, 0, _, rfl, rfl, SqT.of has, atI_nat (j := 0) rfl, rfl, _, rfl, iteF ⟨_, rfl, as, _, 0, _, rfl, rfl, SqT.of has, atI_nat (j := 0) rfl, rfl, _, rfl, iteF (iteF (h' _ ⟨rfl, rfl⟩))⟩⟩
        | .call z, ⟨_, e, ha'⟩, has, rF, h' =>
          cases e
          refine ⟨_, rfl, as, _, 0, _, rfl, rfl, SqT.of has, atI_nat (j := 0) rfl, rfl, _, rfl, iteF ⟨_, rfl, as, _, 0, _, rfl, rfl, SqT.of has, atI_nat (j := 0) rfl, rfl, _, rfl, iteT ⟨_, rfl, as, _, 1, _, rfl, rfl, SqT.of ha', atI_nat (j := 1) rfl, _, rfl, kn, _, rfl, .inl (SqL.of hS1), rfl, flat_strs, _, rfl, ?_⟩⟩⟩
          have ein : inV (.str z) (S.map V.str) = decide (z ∈ S) := inV_strs
          refine ite2 (fun h1 => ?_) (fun h1 => ?_)
          · refine rF ?_ _ sm
            have h1 : (!decide (z ∈ S)) = true := by rw [← ein]; exact h1
            show decide (z ∈ S) = false
            rwa [Bool.not_eq_true'] at h1
          · refine h' _ ⟨rfl, ?_⟩
            show decide (z ∈ S) = true
            cases c : decide (z ∈ S) with
            | true => rfl
            | false => exact absurd (show (!inV (.str z) (S.map V.str)) = true by rw [ein, c]; rfl) h1
        | .stay, hs, has, rF, h' => exact ⟨_, rfl, as, _, 0, _, rfl, rfl, SqT.of has, atI_nat (j := 0) rfl, rfl, _, rfl, iteT (iteT (rF rfl _ sm))⟩
        | .again _ _ _, hs, has, rF, h' => exact ⟨_, rfl, as, _, 0, _, rfl, rfl, SqT.of has, atI_nat (j := 0) rfl, rfl, _, rfl, iteF ⟨_, rfl, as, _, 0, _, rfl, rfl, SqT.of has, atI_nat (j := 0) rfl, rfl, _, rfl, iteF (iteF (h' _ ⟨rfl, rfl⟩))⟩⟩
        | .choose _, hs, has, rF, h' => exact ⟨_, rfl, as, _, 0, _, rfl, rfl, SqT.of has, atI_nat (j := 0) rfl, rfl, _, rfl, iteF ⟨_, rfl, as, _, 0, _, rfl, rfl, SqT.of has, atI_nat (j := 0) rfl, rfl, _, rfl, iteF (iteF (h' _ ⟨rfl, rfl⟩))⟩⟩
        | .toss _, hs, has, rF, h' => exact ⟨_, rfl, as, _, 0, _, rfl, rfl, SqT.of has, atI_nat (j := 0) rfl, rfl, _, rfl, iteF ⟨_, rfl, as, _, 0, _, rfl, rfl, SqT.of has, atI_nat (j := 0) rfl, rfl, _, rfl, iteF (iteF (h' _ ⟨rfl, rfl⟩))⟩⟩
      rintro HB ⟨rfl, o1⟩
      refine ⟨_, rfl, _, st, rfl, hs, f1, fun ka ks HE nka sE_ hka hks => ⟨ka, rfl, ⟨_, SqL.of hka⟩, fun D hD => ?_⟩⟩
      have kl : ks.length = st.kids.length := hks.1
      refine lc_list (xs := ks) (fun j Hx => Same HE Hx ∧ Hx D = some (.lst (((st.kids.take j).map (cE S n)).map V.bl))) ⟨same_new hD, upd_same⟩ (fun j Hx _ p' => SqL.of (p'.1 _ _ hka)) ?_ ?_
      · rintro j v1 Hx hj ⟨sx, hDx⟩
        obtain ⟨kb, hkb, hb⟩ := hks.2 j v1 hj
        have mk := List.mem_of_getElem? hkb
        refine ⟨rfl, _, rfl, _, rfl, v1, kn, kb, S, rfl, BdAt.same hb sx, f2 kb mk, Nat.le_trans (cnt_kid ms mk) c60, (sE_.trans sx) _ _ hS1, fun H2 s2 => ?_⟩
        refine ⟨_, s2 _ _ hDx, small1000 (by rw [List.length_map, List.length_map, List.length_take]; omega), same_upd hD (sx.trans s2), ?_⟩
        rw [take_snoc hkb, List.map_append, List.map_append]
        exact upd_same
      rintro Hx ⟨sx, hDx⟩
      rw [List.take_of_length_le (by rw [kl]; exact Nat.le_refl _)] at hDx
      have sHx := (sm.trans sE_).trans sx
      have has1 := (sE_.trans sx) _ _ has
      have go : sE S (cE S n) st = true → Same H Hx ∧ (b.take (i + 1)).all (sE S (cE S n)) = true ∧ ∃ (y2 y3 : Option V), [some (V.ref a), some (.ref kn), some (.ref as), some (.ref D), none] = [some (V.ref a), some (.ref kn), y2, y3, (none : Option V)] := fun e => ⟨sHx, by rw [step, al, e]; rfl, _, _, rfl⟩
      match st, has1, o1, go, rF, hDx with
      | .note z, has1, o1, go, rF, hDx => exact ⟨_, rfl, as, _, 0, _, rfl, rfl, SqT.of has1, atI_nat (j := 0) rfl, rfl, _, rfl, iteF ⟨_, rfl, as, _, 0, _, rfl, rfl, SqT.of has1, atI_nat (j := 0) rfl, rfl, _, rfl, iteF (iteF (go rfl))⟩⟩
      | .call z, has1, o1, go, rF, hDx => exact ⟨_, rfl, as, _, 0, _, rfl, rfl, SqT.of has1, atI_nat (j := 0) rfl, rfl, _, rfl, iteF ⟨_, rfl, as, _, 0, _, rfl, rfl, SqT.of has1, atI_nat (j := 0) rfl, rfl, _, rfl, iteF (iteF (go o1))⟩⟩
      | .stay, has1, o1, go, rF, hDx => exact Bool.noConfusion (show false = true from o1)
      | .again _ _ _, has1, o1, go, rF, hDx => exact ⟨_, rfl, as, _, 0, _, rfl, rfl, SqT.of has1, atI_nat (j := 0) rfl, rfl, _, rfl, iteF ⟨_, rfl, as, _, 0, _, rfl, rfl, SqT.of has1, atI_nat (j := 0) rfl, rfl, _, rfl, iteF (iteF (go rfl))⟩⟩
      | .choose bs, has1, o1, go, rF, hDx =>
        refine ⟨_, rfl, as, _, 0, _, rfl, rfl, SqT.of has1, atI_nat (j := 0) rfl, rfl, _, rfl, iteF ⟨_, rfl, as, _, 0, _, rfl, rfl, SqT.of has1, atI_nat (j := 0) rfl, rfl, _, rfl, iteT ⟨_, rfl, D, _, rfl, .inl (SqL.of hDx), rfl, flat_bls, _, rfl, ?_⟩⟩⟩
        have ein : inV (.bl false) (((St.choose bs).kids.map (cE S n)).map V.bl) = !sE S (cE S n) (.choose bs) := by
          rw [inV_bls]
          show ((bs.map (cE S n)).any fun x => x == false) = !bs.all (cE S n)
          rw [List.any_map, List.not_all_eq_any_not]
          congr 1
          funext y
          show (cE S n y == false) = !cE S n y
          cases cE S n y <;> rfl
        refine ite2 (fun h1 => rF ?_ _ sHx) (fun h1 => go ?_)
        · have h1 : (!sE S (cE S n) (.choose bs)) = true := by rw [← ein]; exact h1
          rwa [Bool.not_eq_true'] at h1
        · cases c : sE S (cE S n) (.choose bs) with
          | true => rfl
          | false => exact absurd (show inV (.bl false) (((St.choose bs).kids.map (cE S n)).map V.bl) = true by rw [ein, c]; rfl) h1
      | .toss rs, has1, o1, go, rF, hDx =>
        refine ⟨_, rfl, as, _, 0, _, rfl, rfl, SqT.of has1, atI_nat (j := 0) rfl, rfl, _, rfl, iteT ⟨_, rfl, D, _, rfl, .inl (SqL.of hDx), rfl, flat_bls, _, rfl, ?_⟩⟩
        have ein : inV (.bl true) (((St.toss rs).kids.map (cE S n)).map V.bl) = sE S (cE S n) (.toss rs) := by
          rw [inV_bls]
          show (((rs.map fun r => r.2).map (cE S n)).any fun x => x == true) = (rs.map fun x => x.2).any (cE S n)
          rw [List.any_map]
          congr 1
          funext y
          show (cE S n y == true) = cE S n y
          cases cE S n y <;> rfl
        refine ite2 (fun h1 => ?_) (fun h1 => ?_)
        · have h1 : (!sE S (cE S n) (.toss rs)) = true := by rw [← ein]; exact h1
          exact iteT (rF (by rwa [Bool.not_eq_true'] at h1) _ sHx)
        · have c : sE S (cE S n) (.toss rs) = true := by
            cases c : sE S (cE S n) (.toss rs) with
            | true => rfl
            | false => exact absurd (show (!inV (.bl true) (((St.toss rs).kids.map (cE S n)).map V.bl)) = true by rw [ein, c]; rfl) h1
          exact ⟨_, rfl, as, _, 0, _, rfl, rfl, SqT.of has1, atI_nat (j := 0) rfl, rfl, _, rfl, iteF (iteF (go c))⟩
    · rintro σ Hc ⟨sm, al, x2, x3, rfl⟩
      rw [List.take_of_length_le (by rw [xl]; exact Nat.le_refl _)] at al
      have e : cE S (n + 1) b = true := al
      rw [← e]
      exact q _ sm
theorem ok_qes {f : Addr} {fd : FuncData} (F : Fun K "_law_can_end" "_law_can_end" sQe f fd) (gI : ∀ n, Glo P w K mg base "_law_inner" 1 ["_law_statement_here"] (spLi n))
    (mS : mg "_law_can_end" = some (.ref f)) (kS : PySem.W.keepIn K (.ref f) = true) (bS : Binds K fd ["_law_body_here", "_law_known"] []) : ∀ n, FnOk P w K mg base CX0 (n + 1) f fd ["_law_body_here", "_law_known"] (spQe K n)
  | 0 => by
    refine F.ok scQe (fun vs H Q E h => ?_) (fun cdv A outer s H vs Q E hr h => ?_)
    · obtain ⟨v, kn, b, S, rfl, h, _⟩ := h
      exact h.elim
    · obtain ⟨v, kn, b, S, rfl, h, _⟩ := h
      exact h.elim
  | n + 1 => ok_qe F (gI n) (ok_qes F gI mS kS bS n) (by omega) mS kS bS
end
end FR
set_option Elab.async false
set_option linter.all false
set_option maxRecDepth 100000
set_option maxHeartbeats 1000000
/-! _law_enders -/
namespace FR
open PySem PySem.Spec PyProof.Rows L2
abbrev sEn : Stmt := FR.top 53
abbrev NEn : List Str := ["_law_bodies_here", "_law_found", "_law_much", "_law_name_here"]
theorem scEn : FnScope NEn ["_law_bodies_here"] (defScope sEn) := ⟨rfl, rfl, rfl, by decide +kernel, rfl, by decide +kernel, by decide +kernel⟩
section
variable {P : Program} {w : World} {K : PySem.W.Frag} {mg : Str → Option Value} {base : Heap}
def spEn : Sp := fun vs H Q _ => ∃ t kvs p, vs = [.ref t] ∧ H t = some (.dK kvs) ∧ PrgK H kvs p ∧ Prg p ∧ (names p).Nodup ∧ sortedS (names p) = true ∧ ∀ l es H', H l = none → Same H H' → H' l = some (.lst (es.map V.str)) → Enders p es → Q (.ref l) H'
theorem ok_en {f : Addr} {fd : FuncData} (F : Fun K "_law_enders" "_law_enders" sEn f fd) (ml : mg "len" = none) (ms : mg "sorted" = none) (gQ : Glo P w K mg base "_law_can_end" 6 ["_law_body_here", "_law_known"] (spQe K 5)) : FnOk P w K mg base CX0 7 f fd ["_law_bodies_here"] spEn := by
  refine F.ok scEn (fun vs H Q E h => ?_) (fun cdv A outer s H vs Q E hr h => ?_)
  · obtain ⟨t, kvs, p, rfl, _⟩ := h
    rfl
  · obtain ⟨t, kvs, p, rfl, ht, hk, hp, hn, hs, q⟩ := h
    refine ⟨_, (pss_cons (ps_asg (pe_tup (pa_cons (pe_lst pa_nil) (pa_cons (pe_un un_neg pe_int) pa_nil))) (pg_tup (by rfl) (pgs_cons (pg_name (i := 1) scEn.nd rfl (.inr rfl)) (pgs_cons (pg_name (i := 2) scEn.nd rfl (.inl rfl)) pgs_nil))))
      (pss_cons (ps_while PassesOwn.never (pt_cmpR op_gt (pe_callB call_len_seq (by rfl) ml PySem.boot_len (pa_cons (pv 1) pa_nil)) (pv 2) (nomark _)) (pss_cons (ps_set (i := 2) scEn.nd rfl (Or.inl rfl) (pe_callB call_len_seq (by rfl) ml PySem.boot_len (pa_cons (pv 1) pa_nil)))
      (pss_one (ps_set (i := 1) scEn.nd rfl (Or.inr rfl) (pe_lc (X := (cxOf CX0 P w K mg base NEn "_law_enders" (defScope sEn) f cdv A outer s H E).nox) (own := [("_law_name_here", 3)]) (g := (gName 3)) rfl scEn.nd (pi_list (pe_callB (call_sortedD rfl) (by rfl) ms (by decide +kernel) (pa_cons (pv 0) pa_nil))) (blkOk_by (N := NEn) (sc := defScope sEn) (by decide +kernel)) (fun _ _ _ _ _ => (pg_name (i := 3) scEn.nd rfl (.inl rfl))) (fun _ _ _ _ _ => (pts_one (pt_val (pe_call gQ.G (hr.mono (by decide)) (by rfl) gQ.m gQ.k gQ.b .nil pass0 (pa_cons (pe_dget (lt1_of hr.units) (pv 0) (pv 3) (fun _ _ => rfl)) (pa_cons (pv 1) pa_nil)))))) (fun _ _ _ _ _ => (pv 3)))))))
      (pss_one (ps_ret (pv 1))))), ?_⟩
    have lp := hp.len.2
    refine ⟨Nat.zero_le _, fun f0 hf0 => ?_⟩
    have s1 := same_new (o := .lst []) hf0
    have h1 : upd H f0 (.lst []) f0 = some (.lst ((it p 0).map V.str)) := upd_same
    generalize upd H f0 (.lst []) = H1 at s1 h1 ⊢
    refine ⟨_, rfl, small1000 (Nat.le_of_ble_eq_true rfl), fun tt htt => ?_⟩
    have s2 := same_new (o := .tup [.ref f0, .int (-1)]) htt
    have h2 : upd H1 tt (.tup [.ref f0, .int (-1)]) tt = some (.tup [.ref f0, .int (-1)]) := upd_same
    generalize upd H1 tt (.tup [.ref f0, .int (-1)]) = H2 at s2 h2 ⊢
    refine ⟨tt, _, rfl, SqT.of h2, rfl, _, _, rfl, _, _, rfl, rfl, ?_⟩
    have il : ∀ k, (it p k).length ≤ p.length := fun k => by
      have := nodup_le (it_nodup hn k) fun z hz => it_names hz
      rwa [List.length_map] at this
    refine ⟨fun m σ Hc => ∃ (k : Nat) (fo : Addr) (mu : Int), σ = [some (.ref t), some (.ref fo), some (.int mu), none] ∧ Same H Hc ∧ Hc fo = some (.lst ((it p k).map V.str)) ∧ H fo = none ∧ ((mu = -1 ∧ k = 0) ∨ ∃ j, k = j + 1 ∧ mu = ((it p j).length : Nat)) ∧ (m : Int) + mu = (p.length : Nat),
      ⟨p.length + 1, 0, f0, -1, rfl, s1.trans s2, s2 _ _ h1, hf0, .inl ⟨rfl, rfl⟩, by omega⟩, ?_⟩
    rintro m σ Hc ⟨k, fo, mu, rfl, sc, hfo, nfo, hmu, hm⟩
    have lk := il k
    refine ⟨_, rfl, fo, _, rfl, .inl (SqL.of hfo), _, rfl, _, _, rfl, rfl, _, rfl, ite2 (fun h0 => ?_) (fun h0 => ?_)⟩
    · have h0 : mu < ((it p k).length : Nat) := by
        have := of_decide_eq_true h0
        rwa [List.length_map] at this
      refine ⟨fun σ' H' => ∃ m', m' < m ∧ ∃ (k : Nat) (fo : Addr) (mu : Int), σ' = [some (.ref t), some (.ref fo), some (.int mu), none] ∧ Same H H' ∧ H' fo = some (.lst ((it p k).map V.str)) ∧ H fo = none ∧ ((mu = -1 ∧ k = 0) ∨ ∃ j, k = j + 1 ∧ mu = ((it p j).length : Nat)) ∧ (m' : Int) + mu = (p.length : Nat), fun σ' H' h => h, ?_⟩
      refine ⟨_, rfl, fo, _, rfl, .inl (SqL.of hfo), ?_⟩
      refine ⟨_, rfl, t, kvs, names p, rfl, .inl (sc _ _ ht), ((Tk.same sc).pg hk).keys, by rw [List.length_map]; omega, fun ys l hy sy hl => ?_⟩
      obtain rfl := sorted_perm hy sy hs
      have s3 := same_new (o := .lst ((names p).map V.str)) hl
      have h3 : upd Hc l (.lst ((names p).map V.str)) l = some (.lst ((names p).map V.str)) := upd_same
      generalize upd Hc l (.lst ((names p).map V.str)) = Hd at s3 h3 ⊢
      have sd := sc.trans s3
      refine ⟨l, rfl, ⟨_, SqL.of h3⟩, fun D hD => ?_⟩
      let g : Nat → List Str := fun i => ((names p).take i).filter fun z => cE (it p k) 5 (bodyOf p z)
      refine lc_list (xs := (names p).map V.str) (fun i Hx => Same Hd Hx ∧ Hx D = some (.lst ((g i).map V.str)) ∧ (g i).length ≤ i) ⟨same_new hD, upd_same, Nat.le_refl _⟩ (fun j Hx _ p' => SqL.of (p'.1 _ _ h3)) ?_ ?_
      · rintro i v0 Hx hv0 ⟨sx, hDx, lg⟩
        have ii := (List.getElem?_eq_some_iff.mp hv0).1
        rw [List.length_map, List.length_map] at ii
        obtain ⟨⟨z, b⟩, hpi⟩ : ∃ y, p[i]? = some y := ⟨p[i], List.getElem?_eq_getElem ii⟩
        have ez : v0 = .str z := by
          rw [List.getElem?_map, List.getElem?_map, hpi] at hv0
          exact (Option.some.inj hv0).symm
        subst ez
        have mz : (z, b) ∈ p := List.mem_of_getElem? hpi
        have zn : z ∈ names p := List.mem_map.mpr ⟨_, mz, rfl⟩
        have hni : (names p)[i]? = some z := by rw [List.getElem?_map, hpi]; rfl
        have ebz : bodyOf p z = b := bodyOf_mem hn mz
        obtain ⟨_, _, c60, fb⟩ := hp.ok _ mz
        have gs : g (i + 1) = g i ++ (if cE (it p k) 5 (bodyOf p z) = true then [z] else []) := by
          show ((names p).take (i + 1)).filter _ = _
          rw [take_snoc hni, List.filter_append]
          congr 1
          rw [List.filter_cons]
          split <;> rfl
        have sxx := sd.trans sx
        have tx := sxx _ _ ht
        obtain ⟨v, ev, hv⟩ := ((Tk.same sxx).pg hk).val hn zn
        have dg := DGet.k (k := .inr z) tx
        rw [ev] at dg
        refine ⟨rfl, _, rfl, _, rfl, t, v, rfl, dg, _, rfl, v, fo, _, it p k, rfl, hv, by rw [ebz]; exact fb, by rw [ebz]; exact c60, (s3.trans sx) _ _ hfo, fun H5 s5 => ⟨_, rfl, ite2 (fun h2 => ?_) (fun h2 => ?_)⟩⟩
        · rw [h2] at gs
          refine ⟨_, rfl, _, s5 _ _ hDx, small1000 (by rw [List.length_map]; omega), same_upd hD (sx.trans s5), ?_, ?_⟩
          · rw [gs, List.map_append]
            exact upd_same
          · rw [gs, List.length_append]
            show (g i).length + 1 ≤ i + 1
            omega
        · rw [if_neg h2, List.append_nil] at gs
          exact ⟨sx.trans s5, by rw [gs]; exact s5 _ _ hDx, by rw [gs]; omega⟩
      · rintro Hx ⟨sx, hDx, lg⟩
        have e : g ((names p).map V.str).length = it p (k + 1) := by
          show ((names p).take _).filter _ = _
          rw [List.take_of_length_le (Nat.le_of_eq (by simp))]
          rfl
        rw [e] at hDx
        have m0 : 0 < (p.length : Int) - ((it p k).length : Nat) + 1 := by omega
        exact ⟨((p.length : Int) - ((it p k).length : Nat)).toNat, by omega, k + 1, D, ((it p k).length : Nat), by rw [List.length_map]; rfl, sd.trans sx, hDx, none_of_same sd hD, .inr ⟨k, rfl, rfl⟩, by omega⟩
    · rcases hmu with ⟨rfl, rfl⟩ | ⟨j, rfl, rfl⟩
      · exact absurd (decide_eq_true (by show (-1 : Int) < (((it p 0).map V.str).length : Nat); omega)) h0
      · have le : (it p (j + 1)).length ≤ (it p j).length := by
          have : ¬ (((it p j).length : Nat) : Int) < (((it p (j + 1)).map V.str).length : Nat) := fun z => h0 (decide_eq_true z)
          rw [List.length_map] at this
          omega
        have st := it_stop (it_len_stop hn le)
        exact ⟨_, rfl, q fo _ Hc nfo sc hfo ⟨it_sorted hs _, it_nodup hn _, fun z => ⟨fun hz => ⟨_, hz⟩, fun hz => it_mono p j z ((st z).mpr hz)⟩⟩⟩
end
end FR
set_option Elab.async false
set_option linter.all false
set_option maxRecDepth 100000
set_option maxHeartbeats 1000000
/-! _law_ways -/
namespace FR
open PySem PySem.Spec PyProof.Rows L2
abbrev sWa : Stmt := FR.top 54
abbrev NWa : List Str := ["_law_body_here", "_law_found", "_law_statement_here", "_law_some", "_law_weight_here", "_law_inner_here", "_law_longer", "_law_one", "_law_other"]
theorem scWa : FnScope NWa ["_law_body_here"] (defScope sWa) := ⟨rfl, rfl, rfl, by decide +kernel, rfl, by decide +kernel, by decide +kernel⟩
/-- the ways through a statement -/
def wS (r : Bd → List (List Str)) : St → List (List Str)
  | .stay => []
  | .call z => [[z]]
  | .toss rs => (rs.map fun x => x.2).flatMap r
  | .note _ => [[]]
  | .again _ _ _ => [[]]
  | .choose _ => [[]]
def wStep (fd sm : List (List Str)) : List (List Str) := (fd.flatMap fun one => sm.map fun o => one ++ o).take 40
def wY : Nat → Bd → List (List Str)
  | 0, _ => []
  | n + 1, b => b.foldl (fun fd st => wStep fd (wS (wY n) st)) [[]]
theorem wStep_len (fd sm : List (List Str)) : (wStep fd sm).length ≤ 40 := by
  unfold wStep
  rw [List.length_take]
  omega
theorem fold_len {f : List (List Str) → St → List (List Str)} (h : ∀ fd st, (f fd st).length ≤ 40) : ∀ (b : Bd) (fd : List (List Str)), fd.length ≤ 40 → (b.foldl f fd).length ≤ 40
  | [], _, e => e
  | st :: b, fd, _ => fold_len h b _ (h fd st)
theorem wY_len : ∀ (n : Nat) (b : Bd), (wY n b).length ≤ 40
  | 0, _ => Nat.zero_le _
  | n + 1, b => fold_len (fun fd st => wStep_len fd _) b [[]] (by decide)
theorem flat_len_le {α β : Type} {f : α → List β} {m : Nat} : ∀ {l : List α}, (∀ x ∈ l, (f x).length ≤ m) → (l.flatMap f).length ≤ l.length * m
  | [], _ => Nat.zero_le _
  | x :: l, h => by
    rw [List.flatMap_cons, List.length_append, List.length_cons, Nat.add_mul, Nat.one_mul]
    have a := h x List.mem_cons_self
    have b := flat_len_le (l := l) fun y hy => h y (List.mem_cons_of_mem _ hy)
    omega
theorem wS_few {n : Nat} {s : St} (h : s.kids.length ≤ 90) : (wS (wY n) s).length ≤ 3600 := by
  match s, h with
  | .stay, _ => exact Nat.zero_le _
  | .call z, _ => exact (by decide : 1 ≤ 3600)
  | .note z, _ => exact (by decide : 1 ≤ 3600)
  | .again _ _ _, _ => exact (by decide : 1 ≤ 3600)
  | .choose _, _ => exact (by decide : 1 ≤ 3600)
  | .toss rs, h =>
    have a := flat_len_le (f := wY n) (m := 40) (l := rs.map fun x => x.2) fun b _ => wY_len n b
    have h : (rs.map fun r => r.2).length ≤ 90 := h
    show ((rs.map fun x => x.2).flatMap (wY n)).length ≤ 3600
    omega
theorem wS_each {r : Bd → List (List Str)} {c : Bd → Nat} (hr : ∀ b, ∀ w ∈ r b, w.length ≤ c b) : ∀ {s : St}, ∀ w ∈ wS r s, w.length ≤ 1 + (s.kids.map c).sum
  | .stay, w, h => absurd h List.not_mem_nil
  | .call z, w, h => by rw [List.mem_singleton.mp h]; exact Nat.le_add_right 1 _
  | .note z, w, h => by rw [List.mem_singleton.mp h]; exact Nat.zero_le _
  | .again _ _ _, w, h => by rw [List.mem_singleton.mp h]; exact Nat.zero_le _
  | .choose _, w, h => by rw [List.mem_singleton.mp h]; exact Nat.zero_le _
  | .toss rs, w, h => by
    obtain ⟨b, hb, hw⟩ := List.mem_flatMap.mp (show w ∈ (rs.map fun x => x.2).flatMap r from h)
    have a := hr b w hw
    have d := len_mem_sum (f := c) hb
    show w.length ≤ 1 + ((rs.map fun r => r.2).map c).sum
    omega
theorem mem_step {fd sm : List (List Str)} {w : List Str} (h : w ∈ wStep fd sm) : ∃ one ∈ fd, ∃ o ∈ sm, w = one ++ o := by
  obtain ⟨one, h1, h2⟩ := List.mem_flatMap.mp (List.take_subset _ _ h)
  obtain ⟨o, h3, rfl⟩ := List.mem_map.mp h2
  exact ⟨one, h1, o, h3, rfl⟩
theorem fold_each {n : Nat} (hr : ∀ b, ∀ w ∈ wY n b, w.length ≤ cnt n b) : ∀ (b : Bd) (fd : List (List Str)) (k : Nat), (∀ w ∈ fd, w.length ≤ k) → ∀ w ∈ b.foldl (fun fd st => wStep fd (wS (wY n) st)) fd, w.length ≤ k + (b.length + (b.map fun s => (s.kids.map (cnt n)).sum).sum)
  | [], fd, k, h, w, hw => by have := h w hw; omega
  | st :: b, fd, k, h, w, hw => by
    have := fold_each hr b (wStep fd (wS (wY n) st)) (k + (1 + (st.kids.map (cnt n)).sum)) (fun v hv => by
      obtain ⟨one, h1, o, h2, rfl⟩ := mem_step hv
      have a := h one h1
      have d := wS_each hr o h2
      rw [List.length_append]
      omega) w hw
    rw [List.length_cons, List.map_cons, List.sum_cons]
    omega
theorem wY_each : ∀ (n : Nat) (b : Bd), ∀ w ∈ wY n b, w.length ≤ cnt n b
  | 0, _, w, h => absurd h List.not_mem_nil
  | n + 1, b, w, h => by
    have := fold_each (fun b => wY_each n b) b [[]] 0 (fun v hv => by rw [List.mem_singleton.mp hv]; exact Nat.le_refl 0) w h
    show w.length ≤ b.length + (b.map fun s => (s.kids.map (cnt n)).sum).sum
    omega
/-- no choice in it -/
def NoCh : Nat → Bd → Prop
  | 0, _ => True
  | n + 1, b => ∀ s ∈ b, ¬ s.word = ("choose" : Str) ∧ ∀ k ∈ s.kids, NoCh n k
theorem wS_sound {S : List Str} {n : Nat} (hr : ∀ b, NoCh n b → ∀ w ∈ wY n b, (∀ z ∈ w, z ∈ S) → cE S n b = true) : ∀ {s : St}, ¬ s.word = ("choose" : Str) → (∀ k ∈ s.kids, NoCh n k) → ∀ w ∈ wS (wY n) s, (∀ z ∈ w, z ∈ S) → sE S (cE S n) s = true
  | .stay, _, _, w, h, _ => absurd h List.not_mem_nil
  | .call z, _, _, w, h, a => by
    rw [List.mem_singleton.mp h] at a
    exact decide_eq_true (a z List.mem_cons_self)
  | .note _, _, _, _, _, _ => rfl
  | .again _ _ _, _, _, _, _, _ => rfl
  | .choose _, c, _, _, _, _ => absurd rfl c
  | .toss rs, _, k, w, h, a => by
    obtain ⟨b, hb, hw⟩ := List.mem_flatMap.mp (show w ∈ (rs.map fun x => x.2).flatMap (wY n) from h)
    exact List.any_eq_true.mpr ⟨b, hb, hr b (k b hb) w hw a⟩
theorem fold_sound {S : List Str} {n : Nat} (hr : ∀ b, NoCh n b → ∀ w ∈ wY n b, (∀ z ∈ w, z ∈ S) → cE S n b = true) : ∀ (b : Bd) (fd : List (List Str)), (∀ s ∈ b, ¬ s.word = ("choose" : Str) ∧ ∀ k ∈ s.kids, NoCh n k) →
    ∀ w ∈ b.foldl (fun fd st => wStep fd (wS (wY n) st)) fd, ∃ w0 ∈ fd, (∀ z ∈ w0, z ∈ w) ∧ ((∀ z ∈ w, z ∈ S) → ∀ s ∈ b, sE S (cE S n) s = true)
  | [], fd, _, w, hw => ⟨w, hw, fun _ h => h, fun _ s hs => absurd hs List.not_mem_nil⟩
  | st :: b, fd, h, w, hw => by
    obtain ⟨w1, h1, h2, h3⟩ := fold_sound hr b _ (fun s hs => h s (List.mem_cons_of_mem _ hs)) w hw
    obtain ⟨one, g1, o, g2, rfl⟩ := mem_step h1
    refine ⟨one, g1, fun z hz => h2 z (List.mem_append_left _ hz), fun a s hs => ?_⟩
    rcases List.mem_cons.mp hs with rfl | hs
    · exact wS_sound hr (h s List.mem_cons_self).1 (h s List.mem_cons_self).2 o g2 fun z hz => a z (h2 z (List.mem_append_right _ hz))
    · exact h3 a s hs
theorem wY_sound {S : List Str} : ∀ (n : Nat) (b : Bd), NoCh n b → ∀ w ∈ wY n b, (∀ z ∈ w, z ∈ S) → cE S n b = true
  | 0, _, _, w, h, _ => absurd h List.not_mem_nil
  | n + 1, b, c, w, h, a => by
    obtain ⟨_, _, _, h3⟩ := fold_sound (fun b => wY_sound n b) b [[]] c w h
    exact List.all_eq_true.mpr (h3 a)
/-- closed: no choice -/
theorem noCh_of : ∀ (n : Nat) (b : Bd) (p : List Nat), (∀ y ∈ placed n b p, ¬ y.2.word = ("choose" : Str)) → NoCh n b
  | 0, _, _, _ => trivial
  | n + 1, b, p, h => fun s hs => by
    obtain ⟨i, hi⟩ := List.getElem?_of_mem hs
    have mz : (s, i) ∈ b.zipIdx := List.mem_of_getElem? (zip_get hi)
    have sub : ∀ y ∈ stP (placed n) s (p ++ [i]), y ∈ placed (n + 1) b p := fun y hy => List.mem_flatMap.mpr ⟨(s, i), mz, hy⟩
    refine ⟨h _ (sub (p ++ [i], s) List.mem_cons_self), fun k hk => ?_⟩
    obtain ⟨j, hj⟩ := List.getElem?_of_mem hk
    refine noCh_of n k (p ++ [i] ++ [j]) fun y hy => h y (sub y (List.mem_cons_of_mem _ (List.mem_flatMap.mpr ⟨(k, j), List.mem_of_getElem? (zip_get hj), hy⟩)))
theorem noCh_closed {p : Pg} (h : chosen (allP p) = []) {x : Str × Bd} (hx : x ∈ p) : NoCh 5 x.2 := noCh_of 5 x.2 [] fun y hy c => by
  have m : (x.1, y) ∈ allP p := List.mem_flatMap.mpr ⟨x, hx, List.mem_map.mpr ⟨y, hy, rfl⟩⟩
  have : (x.1, y.1) ∈ chosen (allP p) := List.mem_flatMap.mpr ⟨(x.1, y), m, by
    show _ ∈ if y.2.word = ("choose" : Str) then _ else _
    rw [if_pos c]
    exact List.mem_cons_self⟩
  rw [h] at this
  exact absurd this List.not_mem_nil
/-- new lists of texts in a list, none of them at l -/
def LsAt (H0 : Hp) (l : Addr) (H : Hp) (v : V) (w : List Str) : Prop := ∃ a, v = .ref a ∧ a ≠ l ∧ H0 a = none ∧ H a = some (.lst (w.map V.str))
theorem LsAt.same {H0 H H' : Hp} {l : Addr} {v : V} {w : List Str} (h : LsAt H0 l H v w) (s : Same H H') : LsAt H0 l H' v w := by
  obtain ⟨a, e, n, f, g⟩ := h
  exact ⟨a, e, n, f, s _ _ g⟩
theorem LsAt.upd {H0 H : Hp} {l : Addr} {v : V} {w : List Str} {o : HO} (h : LsAt H0 l H v w) : LsAt H0 l (upd H l o) v w := by
  obtain ⟨a, e, n, f, g⟩ := h
  exact ⟨a, e, n, f, by rw [upd_ne n]; exact g⟩
theorem cut_any {xs : List V} {n : Nat} : cutV xs none (some (n : Int)) = xs.take n := by
  unfold cutV
  rw [HT.sIx_nat, HT.sIx_none, List.drop_zero, Nat.sub_zero]
  by_cases h : n ≤ xs.length
  · rw [Nat.min_eq_left h]
  · rw [Nat.min_eq_right (by omega), List.take_of_length_le (Nat.le_refl _), List.take_of_length_le (by omega)]
theorem join3 {t1 t2 t3 r : TS} {D : Ends} {σ : L2.St} {H : Hp} {G : L2.St → Hp → Prop} (h : ∀ Q' : L2.St → Hp → Prop, (∀ σ' H', G σ' H' → Q' σ' H') → t1 { D with nx := fun σ H => t2 { D with nx := fun σ H => t3 { D with nx := Q' } σ H } σ H } σ H) (g : ∀ σ' H', G σ' H' → r D σ' H') : tSeq t1 (tSeq t2 (tSeq t3 r)) D σ H := h _ g
section
variable {P : Program} {w : World} {K : PySem.W.Frag} {mg : Str → Option Value} {base : Heap}
def spWa (n : Nat) : Sp := fun vs H Q _ => ∃ v b, vs = [v] ∧ BdAt n H v b ∧ FewB n b ∧ cnt n b ≤ 60 ∧ ∀ l us H', H l = none → Same H H' → H' l = some (.lst us) → AG (fun v w => LsAt H l H' v w) us (wY n b) → Q (.ref l) H'
theorem ok_wa {f fs : Addr} {fd fds : FuncData} {n k : Nat} (F : Fun K "_law_ways" "_law_ways" sWa f fd) (GS : FnOk P w K mg base CX0 k fs fds ["_law_body_here"] (spWa n))
    (mS : mg "_law_ways" = some (.ref fs)) (kS : PySem.W.keepIn K (.ref fs) = true) (bS : Binds K fds ["_law_body_here"] []) : FnOk P w K mg base CX0 (k + 1) f fd ["_law_body_here"] (spWa (n + 1)) := by
  refine F.ok scWa (fun vs H Q E h => ?_) (fun cdv A outer s H vs Q E hr h => ?_)
  · obtain ⟨v, b, rfl, _⟩ := h
    rfl
  · obtain ⟨v, b, rfl, ⟨a, xs, rfl, ha, hx⟩, few, c60, q⟩ := h
    refine ⟨_, (pss_cons (ps_set (i := 1) scWa.nd rfl (Or.inl rfl) (pe_lst (pa_cons (pe_lst pa_nil) pa_nil)))
      (pss_cons (ps_for PassesOwn.never rfl (pi_tup (pv 0)) (pg_name (i := 2) scWa.nd rfl (.inl rfl)) (pss_cons (ps_set (i := 3) scWa.nd rfl (Or.inl rfl) (pe_lst (pa_cons (pe_lst pa_nil) pa_nil)))
      (pss_cons (ps_if (pt_cmpR op_eq (pe_ix ix_tup (pv 2) pe_int (fun _ _ => rfl)) pe_str (nomark _)) (pss_one (ps_set (i := 3) scWa.nd rfl (Or.inl rfl) (pe_lst pa_nil))) pss_nil)
      (pss_cons (ps_if (pt_cmpR op_eq (pe_ix ix_tup (pv 2) pe_int (fun _ _ => rfl)) pe_str (nomark _)) (pss_one (ps_set (i := 3) scWa.nd rfl (Or.inl rfl) (pe_lst (pa_cons (pe_lst (pa_cons (pe_ix ix_tup (pv 2) pe_int (fun _ _ => rfl)) pa_nil)) pa_nil)))) pss_nil)
      (pss_cons (ps_if (pt_cmpR op_eq (pe_ix ix_tup (pv 2) pe_int (fun _ _ => rfl)) pe_str (nomark _)) (pss_cons (ps_set (i := 3) scWa.nd rfl (Or.inl rfl) (pe_lst pa_nil))
      (pss_one (ps_for PassesOwn.never rfl (pi_tup (pe_slice sl_tupA (pv 2) (po_some pe_int) po_none)) (pg_tup (by rfl) (pgs_cons (pg_name (i := 4) scWa.nd rfl (.inl rfl)) (pgs_cons (pg_name (i := 5) scWa.nd rfl (.inl rfl)) pgs_nil))) (pss_one (ps_expr (pe_bm PySem.F.plainAttrs_list PySem.F.slot_list_extend PySem.F.type_list_extend mt_extend (pv 3) (pa_cons (pe_call GS hr (by rfl) mS kS bS .nil pass0 (pa_cons (pv 5) pa_nil)) pa_nil))))))) pss_nil)
      (pss_cons (ps_set (i := 6) scWa.nd rfl (Or.inl rfl) (pe_lst pa_nil))
      (pss_cons (ps_for PassesOwn.never rfl (pi_list (pv 1)) (pg_name (i := 7) scWa.nd rfl (.inr rfl)) (pss_one (ps_expr (pe_bm PySem.F.plainAttrs_list PySem.F.slot_list_extend PySem.F.type_list_extend mt_extend (pv 6) (pa_cons (pe_lc (X := (cxOf CX0 P w K mg base NWa "_law_ways" (defScope sWa) f cdv A outer s H E).nox) (own := [("_law_other", 8)]) (g := (gName 8)) (tt := tYes) rfl scWa.nd (pi_list (pv 3)) (blkOk_by (N := NWa) (sc := defScope sWa) (by decide +kernel)) (fun _ _ _ _ _ => (pg_name (i := 8) scWa.nd rfl (.inl rfl))) (fun _ _ _ _ _ => pts_nil) (fun _ _ _ _ _ => (pe_op op_cat (pv 7) (pv 8)))) pa_nil)))))
      (pss_one (ps_set (i := 1) scWa.nd rfl (Or.inl rfl) (pe_slice sl_list (pv 6) po_none (po_some pe_int)))))))))))
      (pss_one (ps_ret (pv 1))))), ?_⟩
    have big : 4000000 < sizeLine := by rw [sizeLine_eq]; decide
    refine ⟨Nat.zero_le _, fun e0 he0 => ?_⟩
    have s1 := same_new (o := .lst []) he0
    have h1 : upd H e0 (.lst []) e0 = some (.lst (([] : List Str).map V.str)) := upd_same
    generalize upd H e0 (.lst []) = H1 at s1 h1 ⊢
    refine ⟨small1000 (Nat.le_of_ble_eq_true rfl), fun fo hfo => ?_⟩
    have s2 := same_new (o := .lst [.ref e0]) hfo
    have h2 : upd H1 fo (.lst [.ref e0]) fo = some (.lst [.ref e0]) := upd_same
    have nef : e0 ≠ fo := ne_of_none h1 hfo
    generalize upd H1 fo (.lst [.ref e0]) = H2 at s2 h2 ⊢
    have xl : xs.length = b.length := hx.1
    let fd : Nat → List (List Str) := fun i => (b.take i).foldl (fun fd st => wStep fd (wS (wY n) st)) [[]]
    have fdl : ∀ i, (fd i).length ≤ 40 := fun i => fold_len (fun fd st => wStep_len fd _) _ _ (by decide)
    have fde : ∀ i, ∀ w ∈ fd i, w.length ≤ 60 := fun i w hw => by
      have := fold_each (fun b => wY_each n b) (b.take i) [[]] 0 (fun v hv => by rw [List.mem_singleton.mp hv]; exact Nat.le_refl 0) w hw
      have a1 := sum_take_le (f := fun s : St => (s.kids.map (cnt n)).sum) b i
      have a2 : (b.take i).length ≤ b.length := by rw [List.length_take]; omega
      have a3 : cnt (n + 1) b = b.length + (b.map fun s => (s.kids.map (cnt n)).sum).sum := rfl
      omega
    refine ⟨_, rfl, a, rfl, ⟨xs, SqT.of ((s1.trans s2) _ _ ha)⟩, ?_⟩
    refine for_it (walk_tup (xs := xs)) (fun i σ Hc => Same H Hc ∧ ∃ (fo : Addr) (us : List V) (x2 x3 x4 x5 x6 x7 : Option V), σ = [some (.ref a), some (.ref fo), x2, x3, x4, x5, x6, x7, none] ∧ H fo = none ∧ Hc fo = some (.lst us) ∧ AG (fun v w => LsAt H fo Hc v w) us (fd i))
      ⟨s1.trans s2, fo, _, _, _, _, _, _, _, rfl, none_of_same s1 hfo, h2, AG.consA ⟨e0, rfl, nef, he0, s2 _ _ h1⟩ AG.nil⟩ (fun i σ Hc _ p' => SqT.of (p'.1 _ _ ha)) ?_ ?_
    · rintro i v' σ Hc H' hi ⟨sm, fo, us, x2, x3, x4, x5, x6, x7, rfl, nfo, hfo, hu⟩ ⟨rfl, hxi⟩
      obtain ⟨st, hst, hs⟩ := hx.2 i v' hxi
      have ms := List.mem_of_getElem? hst
      obtain ⟨f1, f2⟩ := few st ms
      have hs := StAt.same hs sm
      have step : fd (i + 1) = wStep (fd i) (wS (wY n) st) := by
        show (b.take (i + 1)).foldl _ _ = _
        rw [take_snoc hst, List.foldl_append]
        rfl
      have c1 : 1 + (st.kids.map (cnt n)).sum ≤ 61 := by
        have a2 := len_mem_sum (f := fun s : St => (s.kids.map (cnt n)).sum) ms
        have a3 : cnt (n + 1) b = b.length + (b.map fun s => (s.kids.map (cnt n)).sum).sum := rfl
        have a2 : (st.kids.map (cnt n)).sum ≤ (b.map fun s => (s.kids.map (cnt n)).sum).sum := a2
        omega
      have smf := wS_few (n := n) f1
      have sme : ∀ w ∈ wS (wY n) st, w.length ≤ 61 := fun w hw => Nat.le_trans (wS_each (fun b => wY_each n b) w hw) c1
      obtain ⟨as, ys, rfl, has⟩ := hs.head
      -- some
      refine ⟨Nat.zero_le _, fun e1 he1 => ?_⟩
      have s3 := same_new (o := .lst []) he1
      have h3 : upd H' e1 (.lst []) e1 = some (.lst (([] : List Str).map V.str)) := upd_same
      generalize upd H' e1 (.lst []) = H3 at s3 h3 ⊢
      refine ⟨small1000 (Nat.le_of_ble_eq_true rfl), fun so hso => ?_⟩
      have s4 := same_new (o := .lst [.ref e1]) hso
      have h4 : upd H3 so (.lst [.ref e1]) so = some (.lst [.ref e1]) := upd_same
      have ne1 : e1 ≠ so := ne_of_none h3 hso
      have h34 := s4 _ _ h3
      have s34 := s3.trans s4
      have nH1 : H e1 = none := none_of_same sm he1
      have nHs : H so = none := none_of_same (sm.trans s3) hso
      have nso : so ≠ fo := fun z => by rw [z, s3 _ _ hfo] at hso; cases hso
      generalize upd H3 so (.lst [.ref e1]) = H4 at s4 h4 h34 s34 ⊢
      have has4 := s34 _ _ has
      have hs4 := StAt.same hs s34
      dsimp only [gName]
      refine join3 (G := fun σ' HB => ∃ (so : Addr) (us' : List V) (y4 y5 : Option V), σ' = [some (.ref a), some (.ref fo), some (.ref as), some (.ref so), y4, y5, x6, x7, none] ∧ Same H' HB ∧ H' so = none ∧ HB so = some (.lst us') ∧ AG (fun v w => LsAt H so HB v w) us' (wS (wY n) st)) (fun Q' h' => ?_) ?_
      · have nso' : H' so = none := none_of_same s3 hso
        have one : ∀ (h : wS (wY n) st = [[]]), Q' [some (.ref a), some (.ref fo), some (.ref as), some (.ref so), x4, x5, x6, x7, none] H4 := fun e => h' _ _ ⟨so, _, _, _, rfl, s34, nso', h4, by rw [e]; exact AG.consA ⟨e1, rfl, ne1, nH1, h34⟩ AG.nil⟩
        match st, hs4, has4, one, h', f1, f2 with
        | .note z, hs4, has4, one, h', f1, f2 => exact ⟨_, rfl, as, _, 0, _, rfl, rfl, SqT.of has4, atI_nat (j := 0) rfl, rfl, _, rfl, iteF ⟨_, rfl, as, _, 0, _, rfl, rfl, SqT.of has4, atI_nat (j := 0) rfl, rfl, _, rfl, iteF ⟨_, rfl, as, _, 0, _, rfl, rfl, SqT.of has4, atI_nat (j := 0) rfl, rfl, _, rfl, iteF (one rfl)⟩⟩⟩
        | .again _ _ _, hs4, has4, one, h', f1, f2 => exact ⟨_, rfl, as, _, 0, _, rfl, rfl, SqT.of has4, atI_nat (j := 0) rfl, rfl, _, rfl, iteF ⟨_, rfl, as, _, 0, _, rfl, rfl, SqT.of has4, atI_nat (j := 0) rfl, rfl, _, rfl, iteF ⟨_, rfl, as, _, 0, _, rfl, rfl, SqT.of has4, atI_nat (j := 0) rfl, rfl, _, rfl, iteF (one rfl)⟩⟩⟩
        | .choose _, hs4, has4, one, h', f1, f2 => exact ⟨_, rfl, as, _, 0, _, rfl, rfl, SqT.of has4, atI_nat (j := 0) rfl, rfl, _, rfl, iteF ⟨_, rfl, as, _, 0, _, rfl, rfl, SqT.of has4, atI_nat (j := 0) rfl, rfl, _, rfl, iteF ⟨_, rfl, as, _, 0, _, rfl, rfl, SqT.of has4, atI_nat (j := 0) rfl, rfl, _, rfl, iteF (one rfl)⟩⟩⟩
        | .stay, hs4, has4, one, h', f1, f2 =>
          refine ⟨_, rfl, as, _, 0, _, rfl, rfl, SqT.of has4, atI_nat (j := 0) rfl, rfl, _, rfl, iteT ⟨Nat.zero_le _, fun so2 hso2 => ?_⟩⟩
          have s5 := same_new (o := .lst []) hso2
          have h5 : upd H4 so2 (.lst []) so2 = some (.lst []) := upd_same
          generalize upd H4 so2 (.lst []) = H5 at s5 h5 ⊢
          have has5 := s5 _ _ has4
          exact ⟨_, rfl, as, _, 0, _, rfl, rfl, SqT.of has5, atI_nat (j := 0) rfl, rfl, _, rfl, iteF ⟨_, rfl, as, _, 0, _, rfl, rfl, SqT.of has5, atI_nat (j := 0) rfl, rfl, _, rfl, iteF (h' _ _ ⟨so2, [], _, _, rfl, s34.trans s5, none_of_same s34 hso2, h5, AG.nil⟩)⟩⟩
        | .call z, ⟨_, e, ha'⟩, has4, one, h', f1, f2 =>
          cases e
          refine ⟨_, rfl, as, _, 0, _, rfl, rfl, SqT.of has4, atI_nat (j := 0) rfl, rfl, _, rfl, iteF ⟨_, rfl, as, _, 0, _, rfl, rfl, SqT.of has4, atI_nat (j := 0) rfl, rfl, _, rfl, iteT ⟨_, rfl, as, _, 1, _, rfl, rfl, SqT.of ha', atI_nat (j := 1) rfl, small1000 (Nat.le_of_ble_eq_true rfl), fun e2 he2 => ?_⟩⟩⟩
          have s5 := same_new (o := .lst [.str z]) he2
          have h5 : upd H4 e2 (.lst [.str z]) e2 = some (.lst (([z] : List Str).map V.str)) := upd_same
          generalize upd H4 e2 (.lst [.str z]) = H5 at s5 h5 ⊢
          refine ⟨small1000 (Nat.le_of_ble_eq_true rfl), fun so2 hso2 => ?_⟩
          have s6 := same_new (o := .lst [.ref e2]) hso2
          have h6 : upd H5 so2 (.lst [.ref e2]) so2 = some (.lst [.ref e2]) := upd_same
          have ne2 : e2 ≠ so2 := ne_of_none h5 hso2
          have h56 := s6 _ _ h5
          generalize upd H5 so2 (.lst [.ref e2]) = H6 at s6 h6 h56 ⊢
          have has6 := s6 _ _ (s5 _ _ has4)
          exact ⟨_, rfl, as, _, 0, _, rfl, rfl, SqT.of has6, atI_nat (j := 0) rfl, rfl, _, rfl, iteF (h' _ _ ⟨so2, _, _, _, rfl, (s34.trans s5).trans s6, none_of_same (s34.trans s5) hso2, h6, AG.consA ⟨e2, rfl, ne2, none_of_same (sm.trans s34) he2, h56⟩ AG.nil⟩)⟩
        | .toss rs, ⟨a', ws, e, ha', g⟩, has4, one, h', f1, f2 =>
          cases e
          refine ⟨_, rfl, as, _, 0, _, rfl, rfl, SqT.of has4, atI_nat (j := 0) rfl, rfl, _, rfl, iteF ⟨_, rfl, as, _, 0, _, rfl, rfl, SqT.of has4, atI_nat (j := 0) rfl, rfl, _, rfl, iteF ⟨_, rfl, as, _, 0, _, rfl, rfl, SqT.of has4, atI_nat (j := 0) rfl, rfl, _, rfl, iteT ⟨Nat.zero_le _, fun so2 hso2 => ?_⟩⟩⟩⟩
          have s5 := same_new (o := .lst []) hso2
          have h5 : upd H4 so2 (.lst []) so2 = some (.lst []) := upd_same
          have n5 := none_of_same s34 hso2
          generalize upd H4 so2 (.lst []) = H5 at s5 h5 ⊢
          obtain ⟨ec, ew⟩ := cut_tail (.str "toss") ws
          refine ⟨_, rfl, _, rfl, as, _, rfl, SqT.of (s5 _ _ ha'), fun z => (ew z).elim, fun _ p hp => ?_⟩
          rw [ec]
          have s6 := same_new (o := .tup ws) hp
          have hp6 : upd H5 p (.tup ws) p = some (.tup ws) := upd_same
          have h56 := s6 _ _ h5
          have g1 := g.imp (R' := fun w0 r => ∃ p0 x, w0 = .ref p0 ∧ upd H5 p (.tup ws) p0 = some (.tup [.int r.1, x]) ∧ BdAt n (upd H5 p (.tup ws)) x r.2) fun _ _ ⟨p0, x, e1, h1, z⟩ => ⟨p0, x, e1, (s5.trans s6) _ _ h1, BdAt.same z (s5.trans s6)⟩
          have s46 := s34.trans (s5.trans s6)
          generalize upd H5 p (.tup ws) = H6 at s6 hp6 h56 g1 s46 ⊢
          have wl : ws.length = rs.length := g1.1
          have lw : rs.length ≤ 90 := by have : (rs.map fun r => r.2).length ≤ 90 := f1; rwa [List.length_map] at this
          refine ⟨p, rfl, ⟨_, SqT.of hp6⟩, ?_⟩
          let gw : Nat → List (List Str) := fun j => (((rs.map fun x => x.2)).take j).flatMap (wY n)
          have gwl : ∀ j, (gw j).length ≤ 3600 := fun j => by
            have a1 := flat_take_le (f := wY n) (rs.map fun x => x.2) j
            have a2 := flat_len_le (f := wY n) (m := 40) (l := rs.map fun x => x.2) fun b _ => wY_len n b
            rw [List.length_map] at a2
            show ((((rs.map fun x => x.2)).take j).flatMap (wY n)).length ≤ 3600
            omega
          refine for_it (walk_tup (xs := ws)) (fun j σ Hx => Same H' Hx ∧ Hx p = some (.tup ws) ∧ Tk H6 Hx ∧ ∃ (us' : List V) (y4 y5 : Option V), σ = [some (.ref a), some (.ref fo), some (.ref as), some (.ref so2), y4, y5, x6, x7, none] ∧ Hx so2 = some (.lst us') ∧ AG (fun v w => LsAt H so2 Hx v w) us' (gw j))
            ⟨s46, hp6, Tk.refl _, [], _, _, rfl, h56, AG.nil⟩ (fun j σ Hx _ p' => SqT.of p'.2.1) ?_ ?_
          · rintro j v1 σ Hx H'' hj ⟨sx, hpx, tx, us', y4, y5, rfl, hsx, hu'⟩ ⟨rfl, hvj⟩
            obtain ⟨r, hr1, p0, x0, rfl, h0, z⟩ := g1.2 j v1 hvj
            have hr2 : (rs.map fun x => x.2)[j]? = some r.2 := by rw [List.getElem?_map, hr1]; rfl
            have mr : r.2 ∈ (St.toss rs).kids := List.mem_of_getElem? hr2
            have gs : gw (j + 1) = gw j ++ wY n r.2 := flat_take hr2
            refine ⟨p0, _, rfl, SqT.of (tx.1 _ _ h0), rfl, _, _, rfl, _, _, rfl, rfl, ?_⟩
            refine ⟨_, rfl, .inl ⟨rfl, _, SqL.of hsx⟩, _, rfl, x0, r.2, rfl, tx.bd z, f2 _ mr, Nat.le_trans (cnt_kid ms mr) c60, fun l2 us2 H7 nl2 s7 hl2 hu2 => ?_⟩
            have lu' : us'.length = (gw j).length := hu'.1
            have lu2 : us2.length = (wY n r.2).length := hu2.1
            have gj := gwl (j + 1)
            rw [gs, List.length_append] at gj
            have hs7 := s7 _ _ hsx
            refine ⟨so2, l2, us', us2, rfl, rfl, hs7, hl2, by omega, ?_⟩
            have k7 : Tk H7 (upd H7 so2 (.lst (us' ++ us2))) := Tk.upd hs7 (fun _ z => by cases z) fun _ _ z => by cases z
            refine ⟨same_upd n5 (sx.trans s7), k7.1 _ _ (s7 _ _ hpx), (tx.trans (Tk.same s7)).trans k7, us' ++ us2, _, _, rfl, upd_same, ?_⟩
            rw [gs]
            refine AG.app (hu'.imp fun _ _ e => (e.same s7).upd) (hu2.imp fun _ _ ⟨q1, q2, q3, q4, q5⟩ => ?_)
            have nq : q1 ≠ so2 := fun z => by rw [z, hsx] at q4; cases q4
            exact ⟨q1, q2, nq, none_of_same (sm.trans sx) q4, by rw [upd_ne nq]; exact q5⟩
          · rintro σ Hx ⟨sx, hpx, tx, us', y4, y5, rfl, hsx, hu'⟩
            refine h' _ _ ⟨so2, us', _, _, rfl, sx, n5, hsx, ?_⟩
            have e : gw ws.length = wS (wY n) (.toss rs) := by
              show (((rs.map fun x => x.2)).take ws.length).flatMap (wY n) = _
              rw [List.take_of_length_le (by rw [List.length_map, wl]; exact Nat.le_refl _)]
              rfl
            rw [← e]
            exact hu'
      rintro σ' HB ⟨so, us', y4, y5, rfl, sB, nsB, hsB, hu'⟩
      have hfB := sB _ _ hfo
      have huB := hu.imp (R' := fun v w => LsAt H fo HB v w) fun _ _ e => e.same sB
      refine ⟨Nat.zero_le _, fun lo hlo => ?_⟩
      have s5 := same_new (o := .lst []) hlo
      have h5 : upd HB lo (.lst []) lo = some (.lst []) := upd_same
      have nlo : H lo = none := none_of_same (sm.trans sB) hlo
      generalize upd HB lo (.lst []) = HC at s5 h5 ⊢
      refine ⟨_, rfl, fo, rfl, ⟨_, SqL.of (s5 _ _ hfB)⟩, ?_⟩
      have lus : us.length = (fd i).length := hu.1
      have lus' : us'.length = (wS (wY n) st).length := hu'.1
      have fi := fdl i
      let gl : Nat → List (List Str) := fun j => ((fd i).take j).flatMap fun one => (wS (wY n) st).map fun o => one ++ o
      have gll : ∀ j, (gl j).length ≤ 144000 := fun j => by
        have a1 := flat_len_le (f := fun one => (wS (wY n) st).map fun o => one ++ o) (m := 3600) (l := (fd i).take j) fun x _ => by rw [List.length_map]; exact smf
        have a2 : ((fd i).take j).length ≤ 40 := by rw [List.length_take]; omega
        show (((fd i).take j).flatMap _).length ≤ 144000
        omega
      refine for_it (walk_list (xs := us)) (fun j σ Hx => Same HB Hx ∧ ∃ (us6 : List V) (y7 : Option V), σ = [some (.ref a), some (.ref fo), some (.ref as), some (.ref so), y4, y5, some (.ref lo), y7, none] ∧ Hx lo = some (.lst us6) ∧ AG (fun v w => LsAt H lo Hx v w) us6 (gl j))
        ⟨s5, [], _, rfl, h5, AG.nil⟩ (fun j σ Hx _ p' => SqL.of (p'.1 _ _ hfB)) ?_ ?_
      · rintro j v1 σ Hx H'' hj ⟨sx, us6, y7, rfl, hlx, hu6⟩ ⟨rfl, hvj⟩
        obtain ⟨one, hone, a1, rfl, na1, na2, ha1⟩ := huB.2 j v1 hvj
        have l1 := fde i one (List.mem_of_getElem? hone)
        have gs : gl (j + 1) = gl j ++ (wS (wY n) st).map fun o => one ++ o := flat_take hone
        have ha1x := sx _ _ ha1
        refine ⟨_, rfl, .inl ⟨rfl, _, SqL.of hlx⟩, _, rfl, so, rfl, ⟨_, SqL.of (sx _ _ hsB)⟩, fun D hD => ?_⟩
        have nDl : D ≠ lo := fun z => by rw [z, hlx] at hD; cases hD
        refine lc_list (xs := us') (fun k Hy => Same H'' Hy ∧ ∃ ds, Hy D = some (.lst ds) ∧ AG (fun v w => ∃ q, v = .ref q ∧ q ≠ D ∧ q ≠ lo ∧ H q = none ∧ Hy q = some (.lst (w.map V.str))) ds (((wS (wY n) st).take k).map fun o => one ++ o)) ⟨same_new hD, [], upd_same, AG.nil⟩ (fun k Hy _ p' => SqL.of (p'.1 _ _ (sx _ _ hsB))) ?_ ?_
        · rintro k v2 Hy hk ⟨sy, ds, hDy, hds⟩
          obtain ⟨o, ho, a2, rfl, nb1, nb2, ha2⟩ := hu'.2 k v2 hk
          have l2 := sme o (List.mem_of_getElem? ho)
          have ha2y := (sx.trans sy) _ _ ha2
          have lds : ds.length ≤ 3600 := by
            rw [hds.1, List.length_map, List.length_take]
            omega
          refine ⟨rfl, _, rfl, _, rfl, a1, a2, _, _, rfl, rfl, sy _ _ ha1x, ha2y, by rw [List.length_map, List.length_map]; omega, fun p hp => ?_⟩
          have e12 : one.map V.str ++ o.map V.str = (one ++ o).map V.str := (List.map_append ..).symm
          have s7 := same_new (o := .lst (one.map V.str ++ o.map V.str)) hp
          have h7 : upd Hy p (.lst (one.map V.str ++ o.map V.str)) p = some (.lst ((one ++ o).map V.str)) := by rw [upd_same, e12]
          have npD : p ≠ D := fun z => by rw [z, hDy] at hp; cases hp
          have npl : p ≠ lo := fun z => by rw [z, (sy _ _ hlx)] at hp; cases hp
          have npH : H p = none := none_of_same ((sm.trans sB).trans (sx.trans sy)) hp
          generalize upd Hy p (.lst (one.map V.str ++ o.map V.str)) = H7 at s7 h7 ⊢
          refine ⟨ds, s7 _ _ hDy, by omega, same_upd hD (sy.trans s7), ds ++ [.ref p], upd_same, ?_⟩
          rw [take_snoc ho, List.map_append]
          exact AG.snoc (hds.imp fun _ _ ⟨q1, q2, q3, q4, q5, q6⟩ => ⟨q1, q2, q3, q4, q5, by rw [upd_ne q3]; exact s7 _ _ q6⟩) ⟨p, rfl, npD, npl, npH, by rw [upd_ne npD]; exact h7⟩
        · rintro Hy ⟨sy, ds, hDy, hds⟩
          rw [List.take_of_length_le (by omega)] at hds
          have lds : ds.length = (wS (wY n) st).length := by rw [hds.1, List.length_map]
          have l6 : us6.length = (gl j).length := hu6.1
          have g6 := gll j
          have hly := sy _ _ hlx
          refine ⟨lo, D, us6, ds, rfl, rfl, hly, hDy, by omega, same_upd hlo (sx.trans sy), us6 ++ ds, _, rfl, upd_same, ?_⟩
          rw [gs]
          exact AG.app (hu6.imp fun _ _ e => (e.same sy).upd) (hds.imp fun _ _ ⟨q1, q2, q3, q4, q5, q6⟩ => ⟨q1, q2, q4, q5, by rw [upd_ne q4]; exact q6⟩)
      rintro σ Hx ⟨sx, us6, y7, rfl, hlx, hu6⟩
      have e : gl us.length = (fd i).flatMap fun one => (wS (wY n) st).map fun o => one ++ o := by
        show ((fd i).take us.length).flatMap _ = _
        rw [List.take_of_length_le (by omega)]
      rw [e] at hu6
      refine ⟨_, rfl, _, rfl, lo, us6, rfl, SqL.of hlx, fun fo2 hfo2 => ?_⟩
      have ecut : cutV us6 none (some (40 : Int)) = us6.take 40 := cut_any (n := 40)
      have sHx := (sm.trans sB).trans sx
      have s9 := same_new (o := .lst (cutV us6 none (some (40 : Int)))) hfo2
      refine ⟨sHx.trans s9, fo2, us6.take 40, _, _, _, _, _, _, rfl, none_of_same sHx hfo2, by rw [← ecut]; exact upd_same, ?_⟩
      rw [step]
      refine (hu6.take 40).imp fun _ _ ⟨q1, q2, q3, q4, q5⟩ => ?_
      have nq : q1 ≠ fo2 := ne_of_none q5 hfo2
      exact ⟨q1, q2, nq, q4, s9 _ _ q5⟩
    · rintro σ Hc ⟨sm, fo, us, x2, x3, x4, x5, x6, x7, rfl, nfo, hfo, hu⟩
      have e : fd xs.length = wY (n + 1) b := by
        show (b.take xs.length).foldl _ _ = _
        rw [List.take_of_length_le (by rw [xl]; exact Nat.le_refl _)]
        rfl
      rw [e] at hu
      exact ⟨_, rfl, q fo us _ nfo sm hfo hu⟩
theorem ok_ways {f : Addr} {fd : FuncData} (F : Fun K "_law_ways" "_law_ways" sWa f fd) (mS : mg "_law_ways" = some (.ref f)) (kS : PySem.W.keepIn K (.ref f) = true) (bS : Binds K fd ["_law_body_here"] []) : ∀ n, FnOk P w K mg base CX0 (n + 1) f fd ["_law_body_here"] (spWa n)
  | 0 => by
    refine F.ok scWa (fun vs H Q E h => ?_) (fun cdv A outer s H vs Q E hr h => ?_)
    · obtain ⟨v, b, rfl, h, _⟩ := h
      exact h.elim
    · obtain ⟨v, b, rfl, h, _⟩ := h
      exact h.elim
  | n + 1 => ok_wa F (ok_ways F mS kS bS n) mS kS bS
end
end FR
set_option Elab.async false
set_option linter.all false
set_option maxRecDepth 100000
set_option maxHeartbeats 1000000
/-! _law_shown -/
namespace FR
open PySem PySem.Spec PyProof.Rows L2
abbrev sSh : Stmt := FR.top 55
abbrev NSh : List Str := ["_law_bodies_here", "_law_found", "_law_much", "_law_name_here", "_law_ways_here", "_law_way", "_law_one"]
theorem scSh : FnScope NSh ["_law_bodies_here"] (defScope sSh) := ⟨rfl, rfl, rfl, by decide +kernel, rfl, by decide +kernel, by decide +kernel⟩
def asgE : Stmt → Expr
  | .Assign _ e _ => e
  | _ => .Constant .none 0 ⟨0, 0, 0, 0⟩
def whB : Stmt → List Stmt
  | .While _ b _ _ => b
  | _ => []
def foB : Stmt → List Stmt
  | .For _ _ b _ _ => b
  | _ => []
abbrev lcSh : Scope := lcSc (asgE ((foB ((whB ((defBody sSh).getD 1 (.Pass ⟨0, 0, 0, 0⟩))).getD 1 (.Pass ⟨0, 0, 0, 0⟩))).getD 0 (.Pass ⟨0, 0, 0, 0⟩)))
def wD (w : List Str) : PyData := .list (w.map PyData.str)
theorem wPl (w : List Str) : PlN 1 (wD w) := .lst (strPl w)
theorem dpW {K : PySem.W.Frag} {H : Hp} {R : V → List Str → Prop} (h : ∀ v w, R v w → ∃ a, v = .ref a ∧ H a = some (.lst (w.map V.str))) {vs : List V} {ws : List (List Str)} (g : AG R vs ws) : DpAll K H vs (ws.map wD) :=
  dpAll (fun v w r => by
    obtain ⟨a, e, f⟩ := h v w r
    rw [e]
    exact .lst (SqL.of f) (dpStrs w)) g
section
variable {P : Program} {w : World} {K : PySem.W.Frag} {mg : Str → Option Value} {base : Heap}
def spSh : Sp := fun vs H Q _ => ∃ t kvs p, vs = [.ref t] ∧ H t = some (.dK kvs) ∧ PrgK H kvs p ∧ Prg p ∧ (names p).Nodup ∧ sortedS (names p) = true ∧ chosen (allP p) = [] ∧ ∀ (l : Addr) (es : List Str) H', H l = none → Same H H' → H' l = some (.lst (es.map V.str)) → es.length ≤ 8 → (∀ z ∈ es, Able p z) → Q (.ref l) H'
theorem ok_sh {f : Addr} {fd : FuncData} (F : Fun K "_law_shown" "_law_shown" sSh f fd) (ml : mg "len" = none) (ms : mg "sorted" = none) (gWa : Glo P w K mg base "_law_ways" 6 ["_law_body_here"] (spWa 5)) : FnOk P w K mg base CX0 7 f fd ["_law_bodies_here"] spSh := by
  refine F.ok scSh (fun vs H Q E h => ?_) (fun cdv A outer s H vs Q E hr h => ?_)
  · obtain ⟨t, kvs, p, rfl, _⟩ := h
    rfl
  · obtain ⟨t, kvs, p, rfl, ht, hk, hp, hn, hs, hc, q⟩ := h
    refine ⟨_, (pss_cons (ps_asg (pe_tup (pa_cons (pe_lst pa_nil) (pa_cons (pe_un un_neg pe_int) pa_nil))) (pg_tup (by rfl) (pgs_cons (pg_name (i := 1) scSh.nd rfl (.inr rfl)) (pgs_cons (pg_name (i := 2) scSh.nd rfl (.inl rfl)) pgs_nil))))
      (pss_cons (ps_while PassesOwn.never (pt_cmpR op_gt (pe_callB call_len_seq (by rfl) ml PySem.boot_len (pa_cons (pv 1) pa_nil)) (pv 2) (nomark _)) (pss_cons (ps_set (i := 2) scSh.nd rfl (Or.inl rfl) (pe_callB call_len_seq (by rfl) ml PySem.boot_len (pa_cons (pv 1) pa_nil)))
      (pss_one (ps_for PassesOwn.never rfl (pi_list (pe_callB (call_sortedD rfl) (by rfl) ms (by decide +kernel) (pa_cons (pv 0) pa_nil))) (pg_name (i := 3) scSh.nd rfl (.inl rfl)) (pss_cons (ps_setLc (i := 4) (X := (cxOf CX0 P w K mg base NSh "_law_shown" (defScope sSh) f cdv A outer s H E).nox) (own := [("_law_way", 5)]) (g := (gName 5)) rfl scSh.nd rfl rfl (sw_true rfl rfl rfl (by decide +kernel)) (pi_list (pe_call gWa.G (hr.mono (by decide)) (by rfl) gWa.m gWa.k gWa.b .nil pass0 (pa_cons (pe_dget (lt1_of hr.units) (pv 0) (pv 3) (fun _ _ => rfl)) pa_nil))) (blkOk_by (N := NSh) (sc := defScope sSh) (by decide +kernel)) (fun _ _ _ _ _ => (pg_name (i := 5) scSh.nd rfl (.inl rfl))) (fun s0 H0 C0 cl0 fp0 => (pts_one (pt_cmpR (op_eqP (K := K) rfl hr.units) (pe_lc (X := (((cxOf CX0 P w K mg base NSh "_law_shown" (defScope sSh) f cdv A outer s H E).nox).blk s0 H0 lcSh (compEnvC lcSh cl0 C0 ((cxOf CX0 P w K mg base NSh "_law_shown" (defScope sSh) f cdv A outer s H E).nox).env) fp0)) (own := [("_law_one", 6)]) (g := (gName 6)) rfl scSh.nd (pi_listK (K := K) rfl (pv 5)) (blkOk_by (N := NSh) (sc := (relS lcSh (defScope sSh))) (by decide +kernel)) (fun _ _ _ _ _ => (pg_name (i := 6) scSh.nd rfl (.inl rfl))) (fun _ _ _ _ _ => (pts_one (pt_cmpR (op_notIn_seqK (K := K) rfl) (pv 6) (pv 1) rfl))) (fun _ _ _ _ _ => (pv 6))) (pe_lst pa_nil) (nomark _)))) (fun _ _ _ _ _ => (pv 5)))
      (pss_one (ps_if (PW.pt (pw_and (pt_cmpR (op_neP (K := K) rfl hr.units) (pv 4) (pe_lst pa_nil) (nomark _)) (pw_and1 (pt_cmpR op_notIn_seq (pv 3) (pv 1) rfl)))) (pss_one (ps_expr (pe_bm PySem.F.plainAttrs_list PySem.F.slot_list_append PySem.F.type_list_append mt_append (pv 1) (pa_cons (pv 3) pa_nil)))) pss_nil)))))))
      (pss_one (ps_ret (pe_callB cr_sortedS (by rfl) ms (by decide +kernel) (pa_cons (pv 1) pa_nil)))))), ?_⟩
    have lp := hp.len.2
    have ann : ∀ {fs : List Str}, fs.Nodup → (∀ z ∈ fs, Able p z) → fs.length ≤ p.length := fun {fs} h a => by
      have := nodup_le (m := names p) h fun z hz => by
        obtain ⟨k, hk'⟩ := a z hz
        exact it_names hk'
      rwa [List.length_map] at this
    refine ⟨Nat.zero_le _, fun f0 hf0 => ?_⟩
    have s1 := same_new (o := .lst []) hf0
    have h1 : upd H f0 (.lst []) f0 = some (.lst (([] : List Str).map V.str)) := upd_same
    generalize upd H f0 (.lst []) = H1 at s1 h1 ⊢
    refine ⟨_, rfl, small1000 (Nat.le_of_ble_eq_true rfl), fun tt htt => ?_⟩
    have s2 := same_new (o := .tup [.ref f0, .int (-1)]) htt
    have h2 : upd H1 tt (.tup [.ref f0, .int (-1)]) tt = some (.tup [.ref f0, .int (-1)]) := upd_same
    generalize upd H1 tt (.tup [.ref f0, .int (-1)]) = H2 at s2 h2 ⊢
    refine ⟨tt, _, rfl, SqT.of h2, rfl, _, _, rfl, _, _, rfl, rfl, ?_⟩
    have s12 := s1.trans s2
    have f2 := s2 _ _ h1
    have t2 := s12 _ _ ht
    have k2 := (Tk.same s12).pg hk
    have ntf : t ≠ f0 := ne_of_none ht hf0
    refine ⟨fun m σ Hc => ∃ (fs : List Str) (mu : Int) (x3 x4 : Option V), σ = [some (.ref t), some (.ref f0), some (.int mu), x3, x4, none, none] ∧ But f0 H2 Hc ∧ Hc f0 = some (.lst (fs.map V.str)) ∧ fs.Nodup ∧ (∀ z ∈ fs, Able p z) ∧ (m : Int) + mu = (p.length : Nat),
      ⟨p.length + 1, [], -1, _, _, rfl, fun _ _ _ e => e, f2, List.nodup_nil, (fun z hz => absurd hz List.not_mem_nil), by omega⟩, ?_⟩
    rintro m σ Hc ⟨fs, mu, x3, x4, rfl, sc, hfc, nd, ab, hm⟩
    have lf := ann nd ab
    refine ⟨_, rfl, f0, _, rfl, .inl (SqL.of hfc), _, rfl, _, _, rfl, rfl, _, rfl, ite2 (fun h0 => ?_) (fun h0 => ?_)⟩
    · have h0 : mu < (fs.length : Nat) := by
        have := of_decide_eq_true h0
        rwa [List.length_map] at this
      refine ⟨fun σ' H' => ∃ m', m' < m ∧ ∃ (fs : List Str) (mu : Int) (x3 x4 : Option V), σ' = [some (.ref t), some (.ref f0), some (.int mu), x3, x4, none, none] ∧ But f0 H2 H' ∧ H' f0 = some (.lst (fs.map V.str)) ∧ fs.Nodup ∧ (∀ z ∈ fs, Able p z) ∧ (m' : Int) + mu = (p.length : Nat), fun σ' H' h => h, ?_⟩
      refine ⟨_, rfl, f0, _, rfl, .inl (SqL.of hfc), ?_⟩
      have tkc : Tk H2 Hc := sc.tk f2 (fun _ z => by cases z) fun _ _ z => by cases z
      refine ⟨_, rfl, t, kvs, names p, rfl, .inl (sc _ _ ntf t2), (tkc.pg k2).keys, by rw [List.length_map]; omega, fun ys l hy sy hl => ?_⟩
      obtain rfl := sorted_perm hy sy hs
      have s3 := same_new (o := .lst ((names p).map V.str)) hl
      have h3 : upd Hc l (.lst ((names p).map V.str)) l = some (.lst ((names p).map V.str)) := upd_same
      have nlf : l ≠ f0 := fun z => by rw [z, hfc] at hl; cases hl
      generalize upd Hc l (.lst ((names p).map V.str)) = Hd at s3 h3 ⊢
      have sd := sc.trans (But.same s3)
      have ef : ((fs.map V.str).length : Int) = (fs.length : Nat) := by rw [List.length_map]
      refine ⟨l, rfl, ⟨_, SqL.of h3⟩, ?_⟩
      refine for_it (walk_list (xs := (names p).map V.str)) (fun i σ Hx => But f0 H2 Hx ∧ Hx l = some (.lst ((names p).map V.str)) ∧ ∃ (fs' : List Str) (x3 x4 : Option V), σ = [some (.ref t), some (.ref f0), some (.int ((fs.map V.str).length : Nat)), x3, x4, none, none] ∧ Hx f0 = some (.lst (fs'.map V.str)) ∧ fs'.Nodup ∧ (∀ z ∈ fs', Able p z))
        ⟨sd, h3, fs, _, _, rfl, s3 _ _ hfc, nd, ab⟩ (fun i σ Hx _ p' => SqL.of p'.2.1) ?_ ?_
      · rintro i v0 σ Hx H'' hi ⟨sx, hlx, fs', x3, x4, rfl, hfx, nd', ab'⟩ ⟨rfl, hv0⟩
        have ii := (List.getElem?_eq_some_iff.mp hv0).1
        rw [List.length_map, List.length_map] at ii
        obtain ⟨⟨z, b⟩, hpi⟩ : ∃ y, p[i]? = some y := ⟨p[i], List.getElem?_eq_getElem ii⟩
        have ez : v0 = .str z := by
          rw [List.getElem?_map, List.getElem?_map, hpi] at hv0
          exact (Option.some.inj hv0).symm
        subst ez
        have mz : (z, b) ∈ p := List.mem_of_getElem? hpi
        have zn : z ∈ names p := List.mem_map.mpr ⟨_, mz, rfl⟩
        have ebz : bodyOf p z = b := bodyOf_mem hn mz
        obtain ⟨_, _, c60, fb⟩ := hp.ok _ mz
        have tkx : Tk H2 H'' := sx.tk f2 (fun _ z => by cases z) fun _ _ z => by cases z
        have tx := sx _ _ ntf t2
        obtain ⟨v, ev, hv⟩ := (tkx.pg k2).val hn zn
        have dg := DGet.k (k := .inr z) tx
        rw [ev] at dg
        have lf' := ann nd' ab'
        refine ⟨_, rfl, _, rfl, t, v, rfl, dg, v, _, rfl, hv, by rw [ebz]; exact fb, by rw [ebz]; exact c60, fun lw us H3 nlw s4 hlw hus => ⟨lw, rfl, ⟨_, SqL.of hlw⟩, fun D hD => ?_⟩⟩
        rw [ebz] at hus
        have lus : us.length ≤ 40 := by rw [hus.1]; exact wY_len 5 b
        have hf3 := s4 _ _ hfx
        refine lc_list (xs := us) (fun j Hy => Same H3 Hy ∧ ∃ (ds : List V) (ws : List (List Str)), Hy D = some (.lst ds) ∧ AG (fun v w => ∃ a, v = .ref a ∧ H3 a = some (.lst (w.map V.str))) ds ws ∧ ws.length ≤ j ∧ ∀ w ∈ ws, w ∈ wY 5 b ∧ ∀ y ∈ w, y ∈ fs') ⟨same_new hD, [], [], upd_same, AG.nil, Nat.le_refl _, fun w hw => absurd hw List.not_mem_nil⟩ (fun j Hy _ p' => SqL.of (p'.1 _ _ hlw)) ?_ ?_
        · rintro j v1 Hy hj ⟨sy, ds, ws, hDy, hds, lws, hws⟩
          have jl := (List.getElem?_eq_some_iff.mp hj).1
          obtain ⟨w1, hw1, a1, rfl, _, _, ha1⟩ := hus.2 j v1 hj
          have mw := List.mem_of_getElem? hw1
          have lw1 : w1.length ≤ 60 := Nat.le_trans (wY_each 5 b w1 mw) c60
          have ha1y := sy _ _ ha1
          refine ⟨rfl, _, rfl, a1, rfl, ⟨_, SqL.of ha1y⟩, fun D2 hD2 => ?_⟩
          let g : Nat → List Str := fun k => (w1.take k).filter fun y => !decide (y ∈ fs')
          refine lc_list (xs := w1.map V.str) (fun k Hz => Same Hy Hz ∧ Hz D2 = some (.lst ((g k).map V.str)) ∧ (g k).length ≤ k) ⟨same_new hD2, upd_same, Nat.le_refl _⟩ (fun k Hz _ p' => SqL.of (p'.1 _ _ ha1y)) ?_ ?_
          · rintro k v2 Hz hk2 ⟨sz, hDz, lg⟩
            have kk := (List.getElem?_eq_some_iff.mp hk2).1
            rw [List.length_map] at kk
            obtain ⟨y, hy2⟩ : ∃ y, w1[k]? = some y := ⟨w1[k], List.getElem?_eq_getElem kk⟩
            have ey : v2 = .str y := by
              rw [List.getElem?_map, hy2] at hk2
              exact (Option.some.inj hk2).symm
            subst ey
            have gs : g (k + 1) = g k ++ (if (!decide (y ∈ fs')) = true then [y] else []) := by
              show (w1.take (k + 1)).filter _ = _
              rw [take_snoc hy2, List.filter_append]
              congr 1
              rw [List.filter_cons]
              split <;> rfl
            have hfz := sz _ _ (sy _ _ hf3)
            have ein : inV (.str y) (fs'.map V.str) = decide (y ∈ fs') := inV_strs
            refine ⟨rfl, _, rfl, _, rfl, f0, _, rfl, .inl (SqL.of hfz), rfl, flat_strs, _, rfl, ite2 (fun e1 => ?_) (fun e1 => ?_)⟩
            · have e1 : (!decide (y ∈ fs')) = true := by rw [← ein]; exact e1
              rw [if_pos e1] at gs
              refine ⟨_, rfl, _, hDz, small1000 (by rw [List.length_map]; omega), same_upd hD2 sz, ?_, ?_⟩
              · rw [gs, List.map_append]
                exact upd_same
              · rw [gs, List.length_append]
                show (g k).length + 1 ≤ k + 1
                omega
            · have e1 : ¬ (!decide (y ∈ fs')) = true := fun c => e1 (show (!inV (.str y) (fs'.map V.str)) = true by rw [ein]; exact c)
              rw [if_neg e1, List.append_nil] at gs
              exact ⟨sz, by rw [gs]; exact hDz, by rw [gs]; omega⟩
          · rintro Hz ⟨sz, hDz, lg⟩
            have eg : g (w1.map V.str).length = w1.filter fun y => !decide (y ∈ fs') := by
              show (w1.take _).filter _ = _
              rw [List.take_of_length_le (by rw [List.length_map]; exact Nat.le_refl _)]
            rw [eg] at hDz
            refine ⟨Nat.zero_le _, fun L hL => ?_⟩
            have s5 := same_new (o := .lst []) hL
            have h5 : upd Hz L (.lst []) L = some (.lst []) := upd_same
            generalize upd Hz L (.lst []) = H5 at s5 h5 ⊢
            have pd0 : PlainD (.list []) := (PlN.lst (n := 0) all0).pl (by decide)
            have pdw : PlainD (wD (w1.filter fun y => !decide (y ∈ fs'))) := (wPl _).pl (by decide)
            have syz := sy.trans (sz.trans s5)
            refine ⟨wD (w1.filter fun y => !decide (y ∈ fs')), .list [], .lst (SqL.of (s5 _ _ hDz)) (dpStrs _), .lst (SqL.of h5) .nil, pdw, pd0, _, rfl, ite2 (fun e1 => ?_) (fun e1 => ?_)⟩
            · have e1 : decide ((w1.filter fun y => !decide (y ∈ fs')).length = 0) = true := by rw [← eqv_nil PyData.str]; exact e1
              have e1 := List.length_eq_zero_iff.mp (of_decide_eq_true e1)
              have lds : ds.length = ws.length := hds.1
              refine ⟨_, rfl, ds, (sz.trans s5) _ _ hDy, small1000 (by omega), same_upd hD syz, ds ++ [.ref a1], ws ++ [w1], upd_same, hds.snoc ⟨a1, rfl, ha1⟩, by rw [List.length_append]; show ws.length + 1 ≤ j + 1; omega, fun w hw => ?_⟩
              rcases List.mem_append.mp hw with hw | hw
              · exact hws w hw
              · rw [List.mem_singleton.mp hw]
                refine ⟨mw, fun y hy => ?_⟩
                by_cases c : y ∈ fs'
                · exact c
                · have : y ∈ w1.filter fun y => !decide (y ∈ fs') := List.mem_filter.mpr ⟨hy, by rw [decide_eq_false c]; rfl⟩
                  rw [e1] at this
                  exact absurd this List.not_mem_nil
            · exact ⟨syz, ds, ws, (sz.trans s5) _ _ hDy, hds, by omega, hws⟩
        rintro Hy ⟨sy, ds, ws, hDy, hds, lws, hws⟩
        refine ⟨_, rfl, Nat.zero_le _, fun L hL => ?_⟩
        have s6 := same_new (o := .lst []) hL
        have h6 : upd Hy L (.lst []) L = some (.lst []) := upd_same
        generalize upd Hy L (.lst []) = H6 at s6 h6 ⊢
        have s46 := s4.trans (sy.trans s6)
        have hf6 := s46 _ _ hfx
        have pd0 : PlainD (.list []) := (PlN.lst (n := 0) all0).pl (by decide)
        have pdw : PlainD (.list (ws.map wD)) := (PlN.lst (allM fun w _ => wPl w)).pl (by decide)
        have sx6 := sx.trans (But.same s46)
        have go : ∀ (fs'' : List Str) (H7 : Hp), But f0 H6 H7 → H7 f0 = some (.lst (fs''.map V.str)) → fs''.Nodup → (∀ z ∈ fs'', Able p z) → But f0 H2 H7 ∧ H7 l = some (.lst ((names p).map V.str)) ∧ ∃ (gs : List Str) (y3 y4 : Option V), [some (V.ref t), some (.ref f0), some (.int ((fs.map V.str).length : Nat)), some (.str z), some (.ref D), none, none] = [some (V.ref t), some (.ref f0), some (.int ((fs.map V.str).length : Nat)), y3, y4, none, (none : Option V)] ∧ H7 f0 = some (.lst (gs.map V.str)) ∧ gs.Nodup ∧ (∀ z ∈ gs, Able p z) :=
          fun fs'' H7 b7 h7 n7 a7 => ⟨sx6.trans b7, b7 _ _ nlf (s46 _ _ hlx), fs'', _, _, rfl, h7, n7, a7⟩
        have stay := go fs' H6 (fun _ _ _ e => e) hf6 nd' ab'
        refine ⟨.list (ws.map wD), .list [], .lst (SqL.of (s6 _ _ hDy)) (dpW (fun v w ⟨a, e, f⟩ => ⟨a, e, (sy.trans s6) _ _ f⟩) hds), .lst (SqL.of h6) .nil, pdw, pd0, _, rfl, ite2 (fun e1 => ?_) (fun e1 => iteF stay)⟩
        have e1 : (!decide (ws.length = 0)) = true := by rw [← eqv_nil wD]; exact e1
        have ein : inV (.str z) (fs'.map V.str) = decide (z ∈ fs') := inV_strs
        refine ⟨_, rfl, _, rfl, f0, _, rfl, .inl (SqL.of hf6), rfl, flat_strs, _, rfl, ite2 (fun e2 => ?_) (fun e2 => stay)⟩
        have e2 : (!decide (z ∈ fs')) = true := by rw [← ein]; exact e2
        rw [Bool.not_eq_true', decide_eq_false_iff_not] at e1 e2
        obtain ⟨w1, hw1⟩ := List.exists_mem_of_length_pos (Nat.pos_of_ne_zero e1)
        obtain ⟨m1, m2⟩ := hws w1 hw1
        have abz : Able p z := able_step zn ab' (by rw [ebz]; exact wY_sound 5 b (noCh_closed hc mz) w1 m1 m2)
        refine ⟨_, rfl, .inl ⟨rfl, _, SqL.of hf6⟩, _, rfl, f0, _, _, rfl, rfl, hf6, small1000 (by rw [List.length_map]; omega), ?_⟩
        have ea : fs'.map V.str ++ [V.str z] = (fs' ++ [z]).map V.str := by rw [List.map_append]; rfl
        exact go (fs' ++ [z]) _ But.upd (by rw [upd_same, ea]) (List.nodup_append.mpr ⟨nd', List.nodup_cons.mpr ⟨List.not_mem_nil, List.nodup_nil⟩, fun x hx y hy e => e2 (by rw [← List.mem_singleton.mp hy, ← e]; exact hx)⟩) fun y hy => (List.mem_append.mp hy).elim (ab' y) fun h => by rw [List.mem_singleton.mp h]; exact abz
      · rintro σ Hx ⟨sx, hlx, fs', x3, x4, rfl, hfx, nd', ab'⟩
        exact ⟨((p.length : Int) - (fs.length : Nat)).toNat, by omega, fs', ((fs.map V.str).length : Nat), _, _, rfl, sx, hfx, nd', ab', by rw [ef]; omega⟩
    · refine ⟨_, rfl, f0, fs, rfl, SqL.of hfc, by omega, fun es l pe se hl => ?_⟩
      have sH : Same H Hc := fun a o e => sc a o (ne_of_none e hf0) (s12 _ _ e)
      exact q l es _ (none_of_same sH hl) (sH.trans (same_new hl)) upd_same (by rw [pe.length_eq]; omega) fun z hz => ab z (pe.mem_iff.mp hz)
end
end FR
set_option Elab.async false
set_option pp.maxSteps 700
set_option linter.all false
set_option maxRecDepth 100000
set_option maxHeartbeats 1000000
/-! _law_right -/
namespace FR
open PySem PySem.Spec PyProof.Rows L2 LD
abbrev sLw : Stmt := FR.top 56
abbrev NLw : List Str := ["_law_dice_here", "_law_bodies_here", "_law_thing", "_law_name_here", "_law_sorts_here", "_law_sort", "_law_word", "_law_told"]
theorem scLw : FnScope NLw ["_law_dice_here"] (defScope sLw) := ⟨rfl, rfl, rfl, by decide +kernel, rfl, by decide +kernel, by decide +kernel⟩
theorem ite0 {c : Bool} {A B : Prop} (e : c = false) (h : B) : if c = true then A else B := by
  subst e
  exact iteF h
def mergeP (p q : Pg) : Pg := q.foldl (fun acc x => setP acc x.1 x.2) p
theorem PrgK.merge {H : Hp} : ∀ {more : List (Key × V)} {q : Pg} {kvs : List (Key × V)} {p : Pg}, PrgK H kvs p → PrgK H more q → PrgK H (mergeK kvs more) (mergeP p q)
  | [], [], _, _, h, _ => h
  | [], _ :: _, _, _, _, g => by simp [PrgK] at g
  | _ :: _, [], _, _, _, g => by simp [PrgK] at g
  | (k, v) :: more, y :: q, kvs, p, h, g => by
    obtain ⟨z, b, e1, e2, hb⟩ := g.2 0 k v rfl
    cases e2
    have t' : PrgK H more q := ⟨by have := g.1; simpa using this, fun i k v e => g.2 (i + 1) k v e⟩
    subst e1
    show PrgK H (mergeK (putK kvs (.inr z) v) more) (mergeP (setP p z b) q)
    exact PrgK.merge (h.set hb) t'
theorem mergeP_new : ∀ {q p : Pg}, (names (p ++ q)).Nodup → mergeP p q = p ++ q
  | [], p, _ => (List.append_nil p).symm
  | x :: q, p, h => by
    have e : p ++ x :: q = (p ++ [x]) ++ q := by rw [List.append_assoc]; rfl
    have hx : x.1 ∉ names p := fun c => by
      rw [names, List.map_append] at h
      exact (List.nodup_append.mp h).2.2 x.1 c x.1 (List.mem_cons_self) rfl
    show mergeP (setP p x.1 x.2) q = _
    rw [e] at h ⊢
    rw [setP_new hx]
    exact mergeP_new h
theorem IsPg.put {K : PySem.W.Frag} {C : Addr} {H H0 H1 : Hp} {x t : Addr} {p : Pg} {kvs : List (Key × V)} {o : HO} (h : IsPg K C H x p) (ht : H t = some (.dK kvs)) (f : FreshB H0 H1 x) (s : ∀ C dx fs, H1 x = some (.ins C dx fs) → H x = some (.ins C dx fs)) (h0 : ∃ u, H0 t = some u) : IsPg K C (upd H t o) x p := by
  obtain ⟨dx, d, e, c, kvs', es, cs, a1, a2, a3, a4, a5, a6, a7⟩ := h
  obtain ⟨d', C', dx', r, b1, b2⟩ := f
  have b1 := s _ _ _ b1
  rw [a1] at b1
  cases b1
  have nd : d ≠ t := fun z => by
    obtain ⟨u, hu⟩ := h0
    rw [z, hu] at b2
    cases b2
  have nx : x ≠ t := fun z => by rw [z, ht] at a1; cases a1
  have tk : Tk H (upd H t o) := Tk.upd ht (fun _ z => by cases z) fun _ _ z => by cases z
  exact ⟨dx, d, e, c, kvs', es, cs, by rw [upd_ne nx]; exact a1, by rw [upd_ne nd]; exact a2, tk.pg a3, tk.1 _ _ a4, a5, tk.1 _ _ a6, tk.chs a7⟩
theorem pg_eq {p q : Pg} (e : q.Perm p) (hn : (names p).Nodup) (hp : sortedS (names p) = true) (hq : sortedS (names q) = true) : q = p := by
  have en : names q = names p := sorted_perm (e.map _) hq hp
  have hn' : (names q).Nodup := by rw [en]; exact hn
  rw [← pg_eta hn, ← pg_eta hn', en]
  refine List.map_congr_left fun z hz => ?_
  obtain ⟨x, hx, rfl⟩ := List.mem_map.mp (show z ∈ p.map (·.1) from hz)
  rw [bodyOf_mem hn hx, bodyOf_mem hn' (e.mem_iff.mpr hx)]
theorem Asc.eq {es fs xs : List Str} (a : Asc es xs) (b : Asc fs xs) : es = fs := sorted_nodup a.2.1 b.2.1 (fun z => (a.2.2 z).trans (b.2.2 z).symm) a.1 b.1
theorem ite_k {c : Bool} {A B : VK → Prop} {K : VK} {R : V → Hp → Prop} (hA : ∀ K' : VK, (∀ v H, R v H → K' v H) → A K') (hB : ∀ K' : VK, (∀ v H, R v H → K' v H) → B K') (h : ∀ v H, R v H → K v H) : if c = true then A K else B K := by
  cases c
  · exact hB K h
  · exact hA K h
theorem join1 {t r : TS} {D : Ends} {σ : L2.St} {H : Hp} {G : L2.St → Hp → Prop} (h : ∀ Q' : L2.St → Hp → Prop, (∀ σ' H', G σ' H' → Q' σ' H') → t { D with nx := Q' } σ H) (g : ∀ σ' H', G σ' H' → r D σ' H') : tSeq t r D σ H := h _ g
theorem whole_sorts (b : Bd) : (!inV (.str "stay") (((srt 5 b).map fun y => y.1).map V.str)) = decide ((ofWord 5 b "stay").length = 0) := by
  rw [inV_strs]
  have e : (("stay" : Str) ∈ (srt 5 b).map fun y => y.1) ↔ ¬ (ofWord 5 b "stay").length = 0 := by
    rw [← srt_placed 5 b [], List.map_map]
    unfold ofWord
    constructor
    · intro h c
      obtain ⟨y, hy, e⟩ := List.mem_map.mp h
      have hm : y.2 ∈ ((placed 5 b []).map fun y => y.2).filter fun x => decide (x.word = ("stay" : Str)) := List.mem_filter.mpr ⟨List.mem_map.mpr ⟨y, hy, rfl⟩, decide_eq_true e⟩
      rw [List.length_eq_zero_iff.mp c] at hm
      exact absurd hm List.not_mem_nil
    · intro h
      cases c : ((placed 5 b []).map fun y => y.2).filter fun x => decide (x.word = ("stay" : Str)) with
      | nil => exact absurd (by rw [c]; rfl) h
      | cons s l =>
        have hm : s ∈ ((placed 5 b []).map fun y => y.2).filter fun x => decide (x.word = ("stay" : Str)) := by rw [c]; exact List.mem_cons_self
        obtain ⟨h1, h2⟩ := List.mem_filter.mp hm
        obtain ⟨y, hy, rfl⟩ := List.mem_map.mp h1
        exact List.mem_map.mpr ⟨y, hy, of_decide_eq_true h2⟩
  by_cases c : (ofWord 5 b "stay").length = 0
  · rw [decide_eq_true c, decide_eq_false (fun z => e.mp z c)]; rfl
  · rw [decide_eq_false c, decide_eq_true (e.mpr c)]; rfl
theorem repr_same {b c : Bool} (e : b = c) : (!decide (V.str (if b then "True" else "False") = V.str (if c then "True" else "False"))) = false := by
  rw [e, decide_eq_true rfl]
  rfl
section
variable {P : Program} {w : World} {K : PySem.W.Frag} {mg : Str → Option Value} {base : Heap}
def SO (K : PySem.W.Frag) (C : Addr) (mc : Value) (g : Addr) : Prop := ∃ p, SMet K C mc "of" p g
structure OfG (P : Program) (w : World) (K : PySem.W.Frag) (mg : Str → Option Value) (base : Heap) (C : Addr) where
  f : Addr
  fd : FuncData
  G : FnOk P w K mg base CX0 15 f fd ["bodies"] (spOf K C)
  b : Binds K fd ["bodies"] []
  mc : Value
  p : Addr
  rC : ClX.CRead K C mc
  sO : SMet K C mc "of" p f
structure TxtW (mg : Str → Option Value) : Prop where
  tup : mg "tuple" = none
  list : mg "list" = none
  repr : mg "repr" = none
def spLw : Sp := fun vs H Q _ => ∃ d, vs = [.ref d] ∧ DiceAt H d ∧ ∀ H', Rl d H H' → Q (.bl true) H'
theorem ok_lw {f C : Addr} {fd : FuncData} (F : Fun K "_law_right" "_law_right" sLw f fd) (R : PgC K C) (T : TxtW mg) (ne : NeOf K C) (nf : PySem.W.notFirst K C (.ref C) = true) (mC : mg "Program" = some (.ref C)) (gO : OfG P w K mg base C) (gR : Glo P w K mg base "_law_roll" 1 ["_law_dice_here", "_law_total"] spRoll)
    (gB : Glo P w K mg base "_law_bodies" 10 ["_law_dice_here", "_law_much", "_law_extra"] spLo) (gS : Glo P w K mg base "_law_sorts" 6 ["_law_body_here"] (spLr 5)) (gCo : Glo P w K mg base "calls_of" 9 ["free", "name"] (spCo K C)) (gQ : Glo P w K mg base "_law_called" 7 ["_law_body_here"] spQc)
    (gIw : Glo P w K mg base "is_whole" 8 ["free", "name"] (spIw K C)) (gCe : Glo P w K mg base "can_end" 14 ["program"] (spCe K C)) (gEn : Glo P w K mg base "_law_enders" 7 ["_law_bodies_here"] spEn) (gSh : Glo P w K mg base "_law_shown" 7 ["_law_bodies_here"] spSh)
    (pI : PMet P w K mg base C "is_closed" 1 ["self"] (spIc K C)) (mEq : Met P w K mg base C "__eq__" 1 ["self", "other"] (spEq K C)) : FnOk P w K mg base CX0 16 f fd ["_law_dice_here"] spLw := by
  refine F.ok scLw (fun vs H Q E h => ?_) (fun cdv A outer s H vs Q E hr h => ?_)
  · obtain ⟨d, rfl, _⟩ := h
    rfl
  · obtain ⟨d, rfl, hd, q⟩ := h
    refine ⟨_, (pss_cons (ps_set (i := 1) scLw.nd rfl (Or.inl rfl) (pe_call gB.G (hr.mono (by decide)) (by rfl) gB.m gB.k gB.b .nil pass0 (pa_cons (pv 0) (pa_cons pe_int (pa_cons (pe_ifExp (pt_cmpR op_gt (pe_call gR.G (hr.mono (by decide)) (by rfl) gR.m gR.k gR.b .nil pass0 (pa_cons (pv 0) (pa_cons pe_int pa_nil))) pe_int (nomark _)) (pe_lst (pa_cons pe_str pa_nil)) (pe_lst (pa_cons pe_str (pa_cons pe_str pa_nil)))) pa_nil)))))
      (pss_cons (ps_set (i := 2) scLw.nd rfl (Or.inl rfl) (pe_smeth (pe_glob (v := .ref C) (by rfl) mC rfl) gO.rC gO.sO gO.G (hr.mono (by decide)) gO.b .nil pass0 (pa_cons (pv 1) pa_nil)))
      (pss_cons (ps_lock (ps_for PassesOwn.never rfl (pi_keys (pv 1)) (pg_name (i := 3) scLw.nd rfl (.inl rfl)) (pss_cons (ps_setLc (i := 4) (X := (cxOf CX0 P w K mg base NLw "_law_right" (defScope sLw) f cdv A outer s H E).nox) (own := [("_law_sort", 5), ("_law_word", 6)]) (g := (gTup K 2 (gCons (gName 5) (gCons (gName 6) gNil)))) (tt := tYes) rfl scLw.nd rfl rfl (sw_true rfl rfl rfl (by decide +kernel)) (pi_list (pe_call gS.G (hr.mono (by decide)) (by rfl) gS.m gS.k gS.b .nil pass0 (pa_cons (pe_dget (lt1_of hr.units) (pv 1) (pv 3) (fun _ _ => rfl)) pa_nil))) (blkOk_by (N := NLw) (sc := defScope sLw) (by decide +kernel)) (fun _ _ _ _ _ => (pg_tupK (K := K) rfl rfl (pgs_cons (pg_name (i := 5) scLw.nd rfl (.inl rfl)) (pgs_cons (pg_name (i := 6) scLw.nd rfl (.inl rfl)) pgs_nil)))) (fun _ _ _ _ _ => pts_nil) (fun _ _ _ _ _ => (pv 5)))
      (pss_cons (ps_if (pt_cmpR (op_neP (K := K) rfl hr.units) (pe_call gCo.G (hr.mono (by decide)) (by rfl) gCo.m gCo.k gCo.b .nil pass0 (pa_cons (pv 2) (pa_cons (pv 3) pa_nil))) (pe_callTy call_tuple_of (by rfl) T.tup (by decide +kernel) (pa_cons (pe_call gQ.G (hr.mono (by decide)) (by rfl) gQ.m gQ.k gQ.b .nil pass0 (pa_cons (pe_dget (lt1_of hr.units) (pv 1) (pv 3) (fun _ _ => rfl)) pa_nil)) pa_nil)) (nomark _)) (pss_one (ps_ret pe_bl)) pss_nil)
      (pss_one (ps_if (pt_cmpR op_ne (pe_callB call_repr_bl (by rfl) T.repr (by decide +kernel) (pa_cons (pe_call gIw.G (hr.mono (by decide)) (by rfl) gIw.m gIw.k gIw.b .nil pass0 (pa_cons (pv 2) (pa_cons (pv 3) pa_nil))) pa_nil)) (pe_callB call_repr_bl (by rfl) T.repr (by decide +kernel) (pa_cons (pe_cmpR op_notIn_seq pe_str (pv 4) rfl) pa_nil)) (nomark _)) (pss_one (ps_ret pe_bl)) pss_nil))))))
      (pss_cons (ps_if (pt_val (pe_prop (pv 2) R.cl pI.o pI.G (hr.mono (by decide)) pI.b .nil pass0 rfl)) (pss_cons (ps_set (i := 7) scLw.nd rfl (Or.inr rfl) (pe_call gCe.G (hr.mono (by decide)) (by rfl) gCe.m gCe.k gCe.b .nil pass0 (pa_cons (pv 2) pa_nil)))
      (pss_cons (ps_if (pt_cmpR (op_neP (K := K) rfl hr.units) (pe_callTy call_list_of (by rfl) T.list (by decide +kernel) (pa_cons (pv 7) pa_nil)) (pe_call gEn.G (hr.mono (by decide)) (by rfl) gEn.m gEn.k gEn.b .nil pass0 (pa_cons (pv 1) pa_nil)) (nomark _)) (pss_one (ps_ret pe_bl)) pss_nil)
      (pss_one (ps_if (pt_cmpR (op_neP (K := K) rfl hr.units) (pe_lc (X := (cxOf CX0 P w K mg base NLw "_law_right" (defScope sLw) f cdv A outer s H E).nox) (own := [("_law_name_here", 3)]) (g := (gName 3)) rfl scLw.nd (pi_list (pe_call gSh.G (hr.mono (by decide)) (by rfl) gSh.m gSh.k gSh.b .nil pass0 (pa_cons (pv 1) pa_nil))) (blkOk_by (N := NLw) (sc := defScope sLw) (by decide +kernel)) (fun _ _ _ _ _ => (pg_name (i := 3) scLw.nd rfl (.inl rfl))) (fun _ _ _ _ _ => (pts_one (pt_cmpR (op_notIn_seqK (K := K) rfl) (pv 3) (pv 7) rfl))) (fun _ _ _ _ _ => (pv 3))) (pe_lst pa_nil) (nomark _)) (pss_one (ps_ret pe_bl)) pss_nil)))) pss_nil)
      (pss_one (ps_ret (pe_cmpR (op_eqLK (K := K) rfl mEq.D mEq.G (hr.mono (by decide)) mEq.b pass0) (pv 2) (pe_smeth (pe_glob (v := .ref C) (by rfl) mC rfl) gO.rC gO.sO gO.G (hr.mono (by decide)) gO.b .nil pass0 (pa_cons (pv 1) pa_nil)) (nomark _)))))))), ?_⟩
    have un : lt1_of hr.units = lt1_of hr.units := rfl
    refine ⟨_, rfl, _, rfl, d, 3, rfl, hd, by omega, by omega, fun r a b c r0 r1 => ?_⟩
    have R0 : Rl d H (upd H d (.lst (dxs a b c))) := (Rl.refl hd).roll
    generalize upd H d (.lst (dxs a b c)) = H0 at R0 ⊢
    refine ⟨_, _, rfl, rfl, _, rfl, ?_⟩
    refine ite_k (R := fun v Hx => ∃ le es, v = .ref le ∧ Rl d H Hx ∧ Hx le = some (.lst ((es : List Str).map V.str)) ∧ es.length < 900) ?_ ?_ ?_
    · intro K' k
      refine ⟨small1000 (Nat.le_of_ble_eq_true rfl), fun le hle => ?_⟩
      exact k _ _ ⟨le, ["stay"], rfl, R0.same (same_new hle), upd_same, by decide⟩
    · intro K' k
      refine ⟨small1000 (Nat.le_of_ble_eq_true rfl), fun le hle => ?_⟩
      exact k _ _ ⟨le, ["stay", "choose"], rfl, R0.same (same_new hle), upd_same, by decide⟩
    rintro _ H1 ⟨le, es, rfl, R1, hle, e9⟩
    refine ⟨d, le, 5, es, rfl, by decide, by decide, R1.1, hle, e9, fun b kvs p H2 nb R2 hb hk dr => ?_⟩
    have R02 := R1.trans R2
    have hp := dr.prg
    have hn := dr.nd
    have hs := dr.so
    have p60 := hp.cnts
    have nl8 : p.length ≤ 8 := hp.len.2
    have lk : kvs.length = p.length := hk.1
    clear hle R1 R2 R0
    -- the program
    refine ⟨rfl, _, rfl, b, kvs, p, rfl, hb, hk, hp, hn, fun q1 x H3 q1p q1s nx s3 i3 f3 => ?_⟩
    obtain rfl := pg_eq q1p hn hs q1s
    have R03 := R02.same s3
    have hb3 := s3 _ _ hb
    have hk3 := (Tk.same s3).pg hk
    -- locked
    refine ⟨b, _, hb3, trivial, fun od => ?_⟩
    have iL : IsPg K C (upd H3 b (.frz od (.dK kvs))) x q1 := i3.put hb3 f3 (fun C dx fs e => e) ⟨_, hb⟩
    have hkL := hk3.keep (lock_tup (x := .frz od (.dK kvs)) hb3)
    have hbL : upd H3 b (.frz od (.dK kvs)) b = some (.frz od (.dK kvs)) := upd_same
    have back : ∀ H', Same (upd H3 b (.frz od (.dK kvs))) H' → Same H3 (upd H' b (.dK kvs)) := fun H' s => same_lock hb3 s
    generalize upd H3 b (.frz od (.dK kvs)) = HL at iL hkL hbL back ⊢
    refine ⟨_, rfl, b, od, rfl, .inl ⟨kvs, hbL, ?_⟩⟩
    refine for_it walk_keys (fun i σ Hc => Same HL Hc ∧ ∃ (x3 x4 : Option V), σ = [some (.ref d), some (.ref b), some (.ref x), x3, x4, none, none, none]) ⟨Same.refl _, _, _, rfl⟩ (fun i σ Hc _ p' => p'.1 _ _ hbL) ?_ ?_
    · rintro i y σ Hc H' hi ⟨sm, x3, x4, rfl⟩ ⟨rfl, k, v, hkv, rfl⟩
      obtain ⟨z, bz, rfl, hpi, hbv⟩ := hkL.2 i k v hkv
      have mz : (z, bz) ∈ q1 := List.mem_of_getElem? hpi
      have zn : z ∈ names q1 := List.mem_map.mpr ⟨_, mz, rfl⟩
      have ebz : bodyOf q1 z = bz := bodyOf_mem hn mz
      obtain ⟨_, _, c60, fb⟩ := hp.ok _ mz
      have c60 : cnt 5 bz ≤ 60 := c60
      have fb : FewB 5 bz := fb
      obtain ⟨v', ev, hv⟩ := hkL.val hn zn
      rw [ebz] at hv
      have dg : ∀ {Hx}, Same HL Hx → DGet Hx b (kV (.inr z)) (some v') := fun {Hx} s => by
        rw [← ev]; exact .inl ⟨kvs, .inr z, .inr ⟨od, s _ _ hbL⟩, rfl, rfl⟩
      refine ⟨_, rfl, _, rfl, b, v', rfl, dg sm, v', bz, rfl, (Tk.same sm).bd hv, fb, by rw [srt_len]; omega, fun l us H2 nl s2 hl hu => ⟨l, rfl, ⟨_, SqL.of hl⟩, fun D hD => ?_⟩⟩
      have lu : us.length = (srt 5 bz).length := hu.1
      have ls := srt_len 5 bz
      refine lc_list (xs := us) (fun j Hx => Same H2 Hx ∧ Hx D = some (.lst ((((srt 5 bz).take j).map fun y => y.1).map V.str))) ⟨same_new hD, upd_same⟩ (fun j Hx _ p' => SqL.of (p'.1 _ _ hl)) ?_ ?_
      · rintro j w0 Hx hj ⟨sx, hDx⟩
        obtain ⟨yy, hyy, t', rfl, ht'⟩ := hu.2 j w0 hj
        have ht' := sx _ _ ht'
        have jl := (List.getElem?_eq_some_iff.mp hyy).1
        refine ⟨t', _, rfl, SqT.of ht', rfl, _, _, rfl, _, _, rfl, rfl, rfl, ?_⟩
        refine ⟨_, rfl, _, hDx, small1000 (by rw [List.length_map, List.length_map, List.length_take]; omega), same_upd hD sx, ?_⟩
        rw [take_snoc hyy, List.map_append, List.map_append]
        exact upd_same
      · rintro Hx ⟨sx, hDx⟩
        rw [List.take_of_length_le (by omega)] at hDx
        have sX := (sm.trans s2).trans sx
        -- calls
        refine ⟨_, rfl, _, rfl, x, z, q1, rfl, iL.same sX, hp, hn, zn, fun t es1 H4 nt s4 ht a1 => ?_⟩
        rw [ebz] at a1
        have s5 := sX.trans s4
        refine ⟨_, rfl, _, rfl, b, v', rfl, dg s5, v', bz, rfl, (Tk.same s5).bd hv, fb, c60, fun l2 es2 H5 nl2 s6 hl2 a2 => ⟨l2, _, rfl, .inl ⟨SqL.of hl2, fun t2 ht2 => ?_⟩⟩⟩
        obtain rfl := a2.eq a1
        have pst : PlainD (.tuple (es2.map PyData.str)) := (PlN.tup (strPl es2)).pl (by decide)
        have s7 := same_new (o := .tup (es2.map V.str)) ht2
        refine ⟨_, _, .tup (SqT.of (s7 _ _ (s6 _ _ ht))) (dpStrs es2), .tup (SqT.of upd_same) (dpStrs es2), pst, pst, _, rfl, ite0 (by rw [eqv_self pst.1]; rfl) ?_⟩
        have s8 := (s4.trans s6).trans s7
        have hD8 := s8 _ _ hDx
        have s9 := sX.trans s8
        generalize upd H5 t2 (.tup (es2.map V.str)) = H8 at s8 hD8 s9 ⊢
        -- whole
        refine ⟨_, rfl, _, rfl, x, z, q1, rfl, iL.same s9, hp, hn, zn, fun H9 sa => ⟨_, rfl, ?_⟩⟩
        refine ⟨_, rfl, D, _, rfl, .inl (SqL.of (sa _ _ hD8)), rfl, flat_strs, ?_⟩
        refine ⟨_, rfl, ?_⟩
        refine ⟨rfl, _, rfl, ?_⟩
        refine ite0 (repr_same (by rw [ebz]; exact (whole_sorts bz).symm)) ?_
        exact ⟨s9.trans sa, _, _, rfl⟩
    · rintro σ Hc ⟨sm, x3, x4, rfl⟩
      refine ⟨sm _ _ hbL, ?_⟩
      have sb := back _ sm
      generalize upd Hc b (.dK kvs) = Ha at sb ⊢
      have ba := sb _ _ hb3
      have ka := (Tk.same sb).pg hk3
      have ia := i3.same sb
      have Ra := R03.same sb
      have ia0 := ia
      obtain ⟨dx, _, _, _, _, _, _, xa, _⟩ := ia0
      dsimp only
      refine join1 (G := fun σ' Hz => ∃ y7, σ' = [some (.ref d), some (.ref b), some (.ref x), x3, x4, none, none, y7] ∧ Same Ha Hz) (fun Q' k => ?_) ?_
      · refine ⟨_, rfl, x, dx, _, rfl, xa, x, q1, rfl, ia, _, rfl, ite2 (fun hc => ?_) (fun hc => k _ _ ⟨_, rfl, Same.refl _⟩)⟩
        have hc := of_decide_eq_true hc
        refine ⟨_, rfl, x, q1, rfl, ia, hp, hn, hc, fun t es1 H4 nt s4 ht en => ?_⟩
        refine ⟨_, rfl, t, _, rfl, .inr (SqT.of ht), fun l hl => ?_⟩
        have s5 := same_new (o := .lst (es1.map V.str)) hl
        have h5 : upd H4 l (.lst (es1.map V.str)) l = some (.lst (es1.map V.str)) := upd_same
        generalize upd H4 l (.lst (es1.map V.str)) = H5 at s5 h5 ⊢
        have s05 := s4.trans s5
        refine ⟨_, rfl, b, kvs, q1, rfl, s05 _ _ ba, (Tk.same s05).pg ka, hp, hn, hs, fun l2 es2 H6 nl2 s6 hl2 en2 => ?_⟩
        obtain rfl := en2.eq en
        have pst : PlainD (.list (es2.map PyData.str)) := (PlN.lst (strPl es2)).pl (by decide)
        refine ⟨_, _, .lst (SqL.of (s6 _ _ h5)) (dpStrs es2), .lst (SqL.of hl2) (dpStrs es2), pst, pst, _, rfl, ite0 (by rw [eqv_self pst.1]; rfl) ?_⟩
        have s06 := s05.trans s6
        have t6 := s6 _ _ (s5 _ _ ht)
        refine ⟨_, rfl, b, kvs, q1, rfl, s06 _ _ ba, (Tk.same s06).pg ka, hp, hn, hs, hc, fun l3 fs H7 nl3 s7 hl3 len8 able => ⟨l3, rfl, ⟨_, SqL.of hl3⟩, fun D hD => ?_⟩⟩
        have t7 := s7 _ _ t6
        refine lc_list (xs := fs.map V.str) (fun j Hx => Same H7 Hx ∧ Hx D = some (.lst [])) ⟨same_new hD, upd_same⟩ (fun j Hx _ p' => SqL.of (p'.1 _ _ hl3)) ?_ ?_
        · rintro j w0 Hx hj ⟨sx, hDx⟩
          obtain ⟨z, hz, rfl⟩ := List.mem_map.mp (List.mem_of_getElem? hj)
          have mz : z ∈ es2 := (en2.2.2 z).mpr (able z hz)
          refine ⟨rfl, _, rfl, _, rfl, t, _, rfl, .inr (SqT.of (sx _ _ t7)), rfl, flat_strs, _, rfl, ite0 (by rw [inV_strs, decide_eq_true mz]; rfl) ⟨sx, hDx⟩⟩
        · rintro Hx ⟨sx, hDx⟩
          refine ⟨Nat.zero_le _, fun e0 he0 => ?_⟩
          have s8 := same_new (o := .lst []) he0
          have pn : PlainD (.list []) := (PlN.lst (n := 0) all0).pl (by decide)
          refine ⟨_, _, .lst (SqL.of (s8 _ _ hDx)) .nil, .lst (SqL.of upd_same) .nil, pn, pn, _, rfl, ite0 rfl ?_⟩
          exact k _ _ ⟨_, rfl, ((s06.trans s7).trans sx).trans s8⟩
      · rintro _ Hz ⟨y7, rfl, sz⟩
        refine ⟨_, rfl, ?_⟩
        refine ⟨rfl, _, rfl, b, kvs, q1, rfl, sz _ _ ba, (Tk.same sz).pg ka, hp, hn, fun q2 y H7 q2p q2s ny s7 i7 f7 => ?_⟩
        obtain rfl := pg_eq q2p hn hs q2s
        have iz := ia.same (sz.trans s7)
        have iz0 := iz
        obtain ⟨dxz, _, _, _, _, _, _, xz, _⟩ := iz0
        have iy0 := i7
        obtain ⟨dyz, _, _, _, _, _, _, yz, _⟩ := iy0
        refine ⟨x, dxz, _, .ref C, rfl, xz, .base (R.ty.ins yz), nf, x, .ref y, q2, rfl, iz, .inl ⟨y, q2, rfl, i7, hn, fun r hr' => ?_⟩⟩
        obtain rfl : r = true := hr'.mpr ⟨rfl, fun x hx => ⟨List.mem_map.mpr ⟨x, hx, rfl⟩, by rw [bodyOf_mem hn hx]; exact eqv_self (plainB 5 _)⟩⟩
        exact q _ ((Ra.same sz).same s7)
end
end FR
set_option Elab.async false
set_option linter.all false
set_option maxRecDepth 100000
set_option maxHeartbeats 1000000
/-! the law's literal programs -/
namespace FR
open PySem PySem.Spec PyProof.Rows L2
def okBb : Nat → Bd → Bool
  | 0, _ => true
  | n + 1, b => b.all fun s => okS s && s.kids.all (okBb n)
def fewBb : Nat → Bd → Bool
  | 0, _ => true
  | n + 1, b => b.all fun s => decide (s.kids.length ≤ 90) && s.kids.all (fewBb n)
theorem okBb_ok : ∀ {n : Nat} {b : Bd}, okBb n b = true → okB n b
  | 0, _, _ => trivial
  | n + 1, b, h => fun s hs => by
    have := List.all_eq_true.mp h s hs
    rw [Bool.and_eq_true] at this
    exact ⟨this.1, fun k hk => okBb_ok (List.all_eq_true.mp this.2 k hk)⟩
theorem fewBb_ok : ∀ {n : Nat} {b : Bd}, fewBb n b = true → FewB n b
  | 0, _, _ => trivial
  | n + 1, b, h => fun s hs => by
    have := List.all_eq_true.mp h s hs
    rw [Bool.and_eq_true] at this
    exact ⟨of_decide_eq_true this.1, fun k hk => fewBb_ok (List.all_eq_true.mp this.2 k hk)⟩
def prgB (p : Pg) : Bool := (decide (1 ≤ p.length) && decide (p.length ≤ 8)) && (p.all (fun x => nameB x.1 && (okBb 5 x.2 && (decide (cnt 5 x.2 ≤ 60) && fewBb 5 x.2))) && (decide ((p.map fun x => cnt 5 x.2).sum ≤ 60) && p.all fun x => (callsOf x.2).all fun z => decide (z ∈ names p)))
theorem prgB_ok {p : Pg} (h : prgB p = true) : Prg p := by
  unfold prgB at h
  rw [Bool.and_eq_true, Bool.and_eq_true, Bool.and_eq_true, Bool.and_eq_true] at h
  obtain ⟨⟨a, b⟩, c, d, e⟩ := h
  refine ⟨⟨of_decide_eq_true a, of_decide_eq_true b⟩, fun x hx => ?_, ?_, fun x hx z hz => ?_⟩
  · have := List.all_eq_true.mp c x hx
    rw [Bool.and_eq_true, Bool.and_eq_true, Bool.and_eq_true] at this
    exact ⟨this.1, okBb_ok this.2.1, of_decide_eq_true this.2.2.1, fewBb_ok this.2.2.2⟩
  · have e2 : (p.map fun x => (placed 5 x.2 []).length) = p.map fun x => cnt 5 x.2 := List.map_congr_left fun x _ => placed_len 5 x.2 []
    rw [e2]
    exact of_decide_eq_true d
  · exact of_decide_eq_true (List.all_eq_true.mp (List.all_eq_true.mp e x hx) z hz)
theorem enders_lit {p : Pg} {es L : List Str} {k : Nat} (a : Enders p es) (h : it p k = L) (h2 : it p (k + 1) = L) (s : sortedS L = true) (n : L.Nodup) : es = L :=
  a.eq ⟨s, n, fun z => by rw [← h]; exact it_stop (p := p) (k := k) (fun z hz => by rw [h]; rwa [h2] at hz) z⟩
theorem asc_lit {es L xs : List Str} (a : Asc es xs) (s : sortedS L = true) (n : L.Nodup) (h1 : (L.all fun z => decide (z ∈ xs)) = true) (h2 : (xs.all fun z => decide (z ∈ L)) = true) : es = L :=
  a.eq ⟨s, n, fun z => ⟨fun h => of_decide_eq_true (List.all_eq_true.mp h1 z h), fun h => of_decide_eq_true (List.all_eq_true.mp h2 z h)⟩⟩
theorem valV_no {kvs : List (Key × V)} {z : Str} (h : ∀ kv ∈ kvs, ∃ y, kv.1 = .inr y ∧ (y == z) = false) : valV kvs (.inr z) = none := by
  induction kvs with
  | nil => rfl
  | cons kv kvs ih =>
    obtain ⟨y, e, ne⟩ := h kv List.mem_cons_self
    obtain ⟨k, v⟩ := kv
    cases e
    rw [valV_neg (fun e => absurd (Sum.inr.inj e) (by simpa using ne))]
    exact ih fun kv hk => h kv (List.mem_cons_of_mem _ hk)
/-- ring -/
def bR_x : Bd := [.call "y"]
def bR_y : Bd := [.call "x"]
def bR_z : Bd := [.again 1 9 [.stay], .note "a"]
def pgR0 : Pg := [("x", bR_x), ("y", bR_y), ("z", bR_z)]
def pgR : Pg := [("x", bR_x), ("y", bR_y), ("z", bR_z)]
theorem pgR_perm : pgR0.Perm pgR := List.Perm.refl _
theorem pgR_ok : Prg pgR := prgB_ok (by decide +kernel)
theorem pgR0_ok : Prg pgR0 := pgR_ok.perm pgR_perm
theorem pgR_nd : (names pgR).Nodup := by decide +kernel
theorem pgR0_nd : (names pgR0).Nodup := by decide +kernel
theorem pgR_so : sortedS (names pgR) = true := by decide +kernel
theorem pgR_ch : chosen (allP pgR) = [] := by decide +kernel
theorem pgR_en {es : List Str} (h : Enders pgR es) : es = (["z"] : List Str) := enders_lit (k := 3) h (by decide +kernel) (by decide +kernel) (by decide +kernel) (by decide +kernel)
/-- more -/
def bM_x : Bd := [.toss [(1, [.stay]), (9, [.call "x"])]]
def bM_y : Bd := [.toss [(1, [.call "x"]), (9, [.again 1 1 [.call "z", .call "y"]])]]
def bM_z : Bd := [.call "x"]
def pgM0 : Pg := [("x", bM_x), ("y", bM_y), ("z", bM_z)]
def pgM : Pg := [("x", bM_x), ("y", bM_y), ("z", bM_z)]
theorem pgM_perm : pgM0.Perm pgM := List.Perm.refl _
theorem pgM_ok : Prg pgM := prgB_ok (by decide +kernel)
theorem pgM0_ok : Prg pgM0 := pgM_ok.perm pgM_perm
theorem pgM_nd : (names pgM).Nodup := by decide +kernel
theorem pgM0_nd : (names pgM0).Nodup := by decide +kernel
theorem pgM_so : sortedS (names pgM) = true := by decide +kernel
theorem pgM_ch : chosen (allP pgM) = [] := by decide +kernel
theorem pgM_en {es : List Str} (h : Enders pgM es) : es = (["y"] : List Str) := enders_lit (k := 3) h (by decide +kernel) (by decide +kernel) (by decide +kernel) (by decide +kernel)
/-- words -/
def bW_stay : Bd := [.note "again", .call "toss"]
def bW_toss : Bd := [.note "stay"]
def bW_note : Bd := [.call "choose"]
def bW_choose : Bd := [.stay]
def pgW0 : Pg := [("stay", bW_stay), ("toss", bW_toss), ("note", bW_note), ("choose", bW_choose)]
def pgW : Pg := [("choose", bW_choose), ("note", bW_note), ("stay", bW_stay), ("toss", bW_toss)]
theorem perm_lit : pgW0.Perm pgW := (List.perm_append_comm (l₁ := ([("stay", bW_stay), ("toss", bW_toss)] : Pg)) (l₂ := ([("note", bW_note), ("choose", bW_choose)] : Pg))).trans (List.Perm.swap _ _ _ : ([("note", bW_note), ("choose", bW_choose), ("stay", bW_stay), ("toss", bW_toss)] : Pg).Perm [("choose", bW_choose), ("note", bW_note), ("stay", bW_stay), ("toss", bW_toss)])
theorem pgW_perm : pgW0.Perm pgW := perm_lit
theorem pgW_ok : Prg pgW := prgB_ok (by decide +kernel)
theorem pgW0_ok : Prg pgW0 := pgW_ok.perm pgW_perm
theorem pgW_nd : (names pgW).Nodup := by decide +kernel
theorem pgW0_nd : (names pgW0).Nodup := by decide +kernel
theorem pgW_so : sortedS (names pgW) = true := by decide +kernel
theorem pgW_ch : chosen (allP pgW) = [] := by decide +kernel
theorem pgW_en {es : List Str} (h : Enders pgW es) : es = (["stay", "toss"] : List Str) := enders_lit (k := 3) h (by decide +kernel) (by decide +kernel) (by decide +kernel) (by decide +kernel)
/-- tail -/
def bT_a : Bd := [.call "b", .stay]
def bT_b : Bd := [.call "c"]
def bT_c : Bd := [.call "c"]
def bT_d : Bd := []
def pgT0 : Pg := [("a", bT_a), ("b", bT_b), ("c", bT_c), ("d", bT_d)]
def pgT : Pg := [("a", bT_a), ("b", bT_b), ("c", bT_c), ("d", bT_d)]
theorem pgT_perm : pgT0.Perm pgT := List.Perm.refl _
theorem pgT_ok : Prg pgT := prgB_ok (by decide +kernel)
theorem pgT0_ok : Prg pgT0 := pgT_ok.perm pgT_perm
theorem pgT_nd : (names pgT).Nodup := by decide +kernel
theorem pgT0_nd : (names pgT0).Nodup := by decide +kernel
theorem pgT_so : sortedS (names pgT) = true := by decide +kernel
theorem pgT_ch : chosen (allP pgT) = [] := by decide +kernel
theorem pgT_en {es : List Str} (h : Enders pgT es) : es = (["d"] : List Str) := enders_lit (k := 3) h (by decide +kernel) (by decide +kernel) (by decide +kernel) (by decide +kernel)
theorem pgR_z_co {es : List Str} (h : Asc es (callsOf (bodyOf pgR "z"))) : es = ([] : List Str) := asc_lit h (by decide +kernel) (by decide +kernel) (by decide +kernel) (by decide +kernel)
theorem pgM_y_co {es : List Str} (h : Asc es (callsOf (bodyOf pgM "y"))) : es = (["x", "y", "z"] : List Str) := asc_lit h (by decide +kernel) (by decide +kernel) (by decide +kernel) (by decide +kernel)
theorem pgW_stay_co {es : List Str} (h : Asc es (callsOf (bodyOf pgW "stay"))) : es = (["toss"] : List Str) := asc_lit h (by decide +kernel) (by decide +kernel) (by decide +kernel) (by decide +kernel)
theorem pgR_z_wh : decide ((ofWord 5 (bodyOf pgR "z") "stay").length = 0) = false := by decide +kernel
theorem pgR_x_wh : decide ((ofWord 5 (bodyOf pgR "x") "stay").length = 0) = true := by decide +kernel
theorem pgW_choose_wh : decide ((ofWord 5 (bodyOf pgW "choose") "stay").length = 0) = false := by decide +kernel
theorem pgW_note_wh : decide ((ofWord 5 (bodyOf pgW "note") "stay").length = 0) = true := by decide +kernel
theorem pgW_stay_wh : decide ((ofWord 5 (bodyOf pgW "stay") "stay").length = 0) = true := by decide +kernel
theorem pgW_toss_wh : decide ((ofWord 5 (bodyOf pgW "toss") "stay").length = 0) = true := by decide +kernel
theorem pgT_a_wh : decide ((ofWord 5 (bodyOf pgT "a") "stay").length = 0) = false := by decide +kernel
theorem pgT_b_wh : decide ((ofWord 5 (bodyOf pgT "b") "stay").length = 0) = true := by decide +kernel
theorem pgT_c_wh : decide ((ofWord 5 (bodyOf pgT "c") "stay").length = 0) = true := by decide +kernel
theorem pgT_d_wh : decide ((ofWord 5 (bodyOf pgT "d") "stay").length = 0) = true := by decide +kernel
end FR
set_option Elab.async false
set_option pp.maxSteps 700
set_option linter.all false
set_option maxRecDepth 100000
set_option maxHeartbeats 1000000
/-! law -/
namespace FR
open PySem PySem.Spec PyProof.Rows L2 LD
abbrev sLaw : Stmt := FR.top 57
abbrev NLaw : List Str := ["_law_script", "_law_at", "_law_dice_here", "_law_turn", "_law_stay", "_law_last", "_law_ring", "_law_deep", "_law_more", "_law_names", "_law_words", "_law_one", "_law_tail"]
theorem scLaw : FnScope NLaw ["_law_script"] (defScope sLaw) := ⟨rfl, rfl, rfl, by decide +kernel, rfl, by decide +kernel, by decide +kernel⟩
theorem items_at {H : Hp} : ∀ {ts : List Addr} {kvs : List (Key × V)} {p : Pg}, Paired (fun (t : Addr) (q : Key × V) => H t = some (.tup [kV q.1, q.2])) ts kvs → PrgK H kvs p → AG (fun v x => ItAt H v x) (ts.map V.ref) p
  | _, _, [], .nil, _ => AG.nil
  | _, _, _ :: _, .nil, h => by simp [PrgK] at h
  | _, _, [], .cons _ _, h => by simp [PrgK] at h
  | t :: ts, (k, v) :: kvs, y :: p, .cons h1 h2, h => by
    obtain ⟨z, b, e1, e2, hb⟩ := h.2 0 k v rfl
    cases e2
    have t' : PrgK H kvs p := ⟨by have := h.1; simpa using this, fun i k v e => h.2 (i + 1) k v e⟩
    refine AG.consA ⟨t, v, rfl, ?_, hb⟩ (items_at h2 t')
    have h1 : H t = some (.tup [kV k, v]) := h1
    rw [e1] at h1
    exact h1
theorem paired_at {K : PySem.W.Frag} {H : Hp} : ∀ {vs : List V} {p : Pg}, AG (fun v x => ItAt H v x) vs p → ∃ (ps : List Addr) (kvs : List (Key × V)), vs = ps.map V.ref ∧ Paired (fun p kv => SqT K H p [kV kv.1, kv.2]) ps kvs ∧ PrgK H kvs p
  | [], [], _ => ⟨[], [], rfl, .nil, PrgK.nil⟩
  | [], _ :: _, h => by simp [AG] at h
  | _ :: _, [], h => by simp [AG] at h
  | v :: vs, x :: p, h => by
    obtain ⟨⟨t, w, rfl, h1, hb⟩, h2⟩ := AG.uncons h
    obtain ⟨ps, kvs, rfl, g1, g2⟩ := paired_at (K := K) h2
    refine ⟨t :: ps, (.inr x.1, w) :: kvs, rfl, .cons (SqT.of h1) g1, ⟨by simp [g2.1], fun i k u e => ?_⟩⟩
    cases i with
    | zero => cases e; exact ⟨x.1, x.2, rfl, rfl, hb⟩
    | succ i => exact g2.2 i k u e
theorem dpBls {K : PySem.W.Frag} {H : Hp} : ∀ bs : List Bool, DpAll K H (bs.map V.bl) (bs.map PyData.bool)
  | [] => .nil
  | x :: bs => .cons (.bl x) (dpBls bs)
theorem plBls (bs : List Bool) : PlainD (.list (bs.map PyData.bool)) := (PlN.lst (n := 0) (allM fun b _ => ⟨by cases b <;> rfl, Nat.le_refl _⟩)).pl (by decide)
theorem ite1 {c : Bool} {A B : Prop} (e : c = true) (h : A) : if c = true then A else B := by
  subst e
  exact iteT h
/-- whether each procedure is whole -/
def whs (p : Pg) : List Bool := (names p).map fun z => decide ((ofWord 5 (bodyOf p z) "stay").length = 0)
def pgW00 : Pg := [("stay", bW_stay), ("toss", bW_toss), ("note", bW_note)]
section
variable {P : Program} {w : World} {K : PySem.W.Frag} {mg : Str → Option Value} {base : Heap}
structure TxtLw (mg : Str → Option Value) : Prop where
  range : mg "range" = none
  max : mg "max" = none
  min : mg "min" = none
  len : mg "len" = none
  dict : mg "dict" = none
  list : mg "list" = none
def spLaw (K : PySem.W.Frag) : Sp := fun vs H Q _ => ∃ (a : Addr) (ns : List Int), vs = [.ref a] ∧ SqL K H a (ns.map V.int) ∧ ∀ H', Q (.bl true) H'
theorem ok_law {f fi C CG : Addr} {fd : FuncData} (F : Fun K "law" "law" sLaw f fd) (R : PgC K C) (T : TxtLw mg) (mC : mg "Program" = some (.ref C)) (M : Mk K C fi) (G1 : FnRs P w K mg base 13 fi ["x", "y", "z"] (spPi K C CG)) (G2 : FnRs P w K mg base 13 fi ["a", "b", "c", "d"] (spPi K C CG)) (gO : OfG P w K mg base C)
    (gD : Glo P w K mg base "_law_dice" 1 ["_law_script", "_law_at"] (spDice K)) (gW : Glo P w K mg base "_law_right" 16 ["_law_dice_here"] spLw) (gCo : Glo P w K mg base "calls_of" 9 ["free", "name"] (spCo K C)) (gIw : Glo P w K mg base "is_whole" 8 ["free", "name"] (spIw K C)) (gCe : Glo P w K mg base "can_end" 14 ["program"] (spCe K C))
    (pN : PMet P w K mg base C "names" 1 ["self"] (spNa K C)) : FnOk P w K mg base CX0 17 f fd ["_law_script"] (spLaw K) := by
  refine F.ok scLaw (fun vs H Q E h => ?_) (fun cdv A outer s H vs Q E hr h => ?_)
  · obtain ⟨a, ns, rfl, _⟩ := h
    rfl
  · obtain ⟨a, ns, rfl, hs, q⟩ := h
    refine ⟨_, (pss_cons (ps_for PassesOwn.never rfl (pi_range1 (by rfl) T.range (pa_cons (pe_callB (call_max2 rfl) (by rfl) T.max (by decide +kernel) (pa_cons pe_int (pa_cons (pe_callB (call_min2 rfl) (by rfl) T.min (by decide +kernel) (pa_cons pe_int (pa_cons (pe_callB call_len_seq (by rfl) T.len PySem.boot_len (pa_cons (pv 0) pa_nil)) pa_nil))) pa_nil))) pa_nil)) (pg_name (i := 1) scLaw.nd rfl (.inl rfl)) (pss_cons (ps_set (i := 2) scLaw.nd rfl (Or.inl rfl) (pe_call gD.G (hr.mono (by decide)) (by rfl) gD.m gD.k gD.b .nil pass0 (pa_cons (pv 0) (pa_cons (pv 1) pa_nil))))
      (pss_one (ps_for PassesOwn.never rfl (pi_range1 (by rfl) T.range (pa_cons pe_int pa_nil)) (pg_name (i := 3) scLaw.nd rfl (.inl rfl)) (pss_one (ps_if (pt_not (pt_val (pe_call gW.G (hr.mono (by decide)) (by rfl) gW.m gW.k gW.b .nil pass0 (pa_cons (pv 2) pa_nil)))) (pss_one (ps_ret pe_bl)) pss_nil))))))
      (pss_cons (ps_asg (pe_tup (pa_cons (pe_tup (pa_cons (pe_tup (pa_cons pe_str pa_nil)) pa_nil)) (pa_cons (pe_tup (pa_cons (pe_tup (pa_cons pe_str (pa_cons pe_str pa_nil))) pa_nil)) pa_nil))) (pg_tup (by rfl) (pgs_cons (pg_name (i := 4) scLaw.nd rfl (.inl rfl)) (pgs_cons (pg_name (i := 5) scLaw.nd rfl (.inl rfl)) pgs_nil))))
      (pss_cons (ps_set (i := 6) scLaw.nd rfl (Or.inl rfl) (pe_makeRs M G1 (hr.mono (by decide)) (by rfl) mC (pk_cons (pe_tup (pa_cons (pe_tup (pa_cons pe_str (pa_cons pe_str pa_nil))) pa_nil)) (pk_cons (pe_tup (pa_cons (pe_tup (pa_cons pe_str (pa_cons pe_str pa_nil))) pa_nil)) (pk_cons (pe_tup (pa_cons (pe_tup (pa_cons pe_str (pa_cons pe_int (pa_cons pe_int (pa_cons (pv 4) pa_nil))))) (pa_cons (pe_tup (pa_cons pe_str (pa_cons pe_str pa_nil))) pa_nil))) pk_nil)))))
      (pss_cons (ps_if (PW.pt (pw_or (pt_cmpR (op_neP (K := K) rfl hr.units) (pe_call gCe.G (hr.mono (by decide)) (by rfl) gCe.m gCe.k gCe.b .nil pass0 (pa_cons (pv 6) pa_nil)) (pe_tup (pa_cons pe_str pa_nil)) (nomark _)) (pw_or (pt_val (pe_call gIw.G (hr.mono (by decide)) (by rfl) gIw.m gIw.k gIw.b .nil pass0 (pa_cons (pv 6) (pa_cons pe_str pa_nil)))) (pw_or (pt_cmpR (op_neP (K := K) rfl hr.units) (pe_call gCo.G (hr.mono (by decide)) (by rfl) gCo.m gCo.k gCo.b .nil pass0 (pa_cons (pv 6) (pa_cons pe_str pa_nil))) (pe_tup pa_nil) (nomark _)) (pw_or1 (pt_not (pt_val (pe_call gIw.G (hr.mono (by decide)) (by rfl) gIw.m gIw.k gIw.b .nil pass0 (pa_cons (pv 6) (pa_cons pe_str pa_nil)))))))))) (pss_one (ps_ret pe_bl)) pss_nil)
      (pss_cons (ps_set (i := 7) scLaw.nd rfl (Or.inl rfl) (pe_tup (pa_cons (pe_tup (pa_cons pe_str (pa_cons (pe_tup (pa_cons pe_int (pa_cons (pv 5) pa_nil))) (pa_cons (pe_tup (pa_cons pe_int (pa_cons (pe_tup (pa_cons (pe_tup (pa_cons pe_str (pa_cons pe_int (pa_cons pe_int (pa_cons (pe_tup (pa_cons (pe_tup (pa_cons pe_str (pa_cons pe_str pa_nil))) (pa_cons (pe_tup (pa_cons pe_str (pa_cons pe_str pa_nil))) pa_nil))) pa_nil))))) pa_nil)) pa_nil))) pa_nil)))) pa_nil)))
      (pss_cons (ps_set (i := 8) scLaw.nd rfl (Or.inl rfl) (pe_smeth (pe_glob (v := .ref C) (by rfl) mC rfl) gO.rC gO.sO gO.G (hr.mono (by decide)) gO.b .nil pass0 (pa_cons (pe_disp (pps_cons pe_str (pe_tup (pa_cons (pe_tup (pa_cons pe_str (pa_cons (pe_tup (pa_cons pe_int (pa_cons (pv 4) pa_nil))) (pa_cons (pe_tup (pa_cons pe_int (pa_cons (pv 5) pa_nil))) pa_nil)))) pa_nil)) (pps_cons pe_str (pv 7) (pps_cons pe_str (pv 5) pps_nil))) rfl rfl (by decide) (by decide)) pa_nil)))
      (pss_cons (ps_if (PW.pt (pw_or (pt_cmpR (op_neP (K := K) rfl hr.units) (pe_call gCe.G (hr.mono (by decide)) (by rfl) gCe.m gCe.k gCe.b .nil pass0 (pa_cons (pv 8) pa_nil)) (pe_tup (pa_cons pe_str pa_nil)) (nomark _)) (pw_or1 (pt_cmpR (op_neP (K := K) rfl hr.units) (pe_call gCo.G (hr.mono (by decide)) (by rfl) gCo.m gCo.k gCo.b .nil pass0 (pa_cons (pv 8) (pa_cons pe_str pa_nil))) (pe_tup (pa_cons pe_str (pa_cons pe_str (pa_cons pe_str pa_nil)))) (nomark _))))) (pss_one (ps_ret pe_bl)) pss_nil)
      (pss_cons (ps_set (i := 9) scLaw.nd rfl (Or.inl rfl) (pe_disp (pps_cons pe_str (pe_tup (pa_cons (pe_tup (pa_cons pe_str (pa_cons pe_str pa_nil))) (pa_cons (pe_tup (pa_cons pe_str (pa_cons pe_str pa_nil))) pa_nil))) (pps_cons pe_str (pe_tup (pa_cons (pe_tup (pa_cons pe_str (pa_cons pe_str pa_nil))) pa_nil)) (pps_cons pe_str (pe_tup (pa_cons (pe_tup (pa_cons pe_str (pa_cons pe_str pa_nil))) pa_nil)) pps_nil))) rfl rfl (by decide) (by decide)))
      (pss_cons (ps_set (i := 10) scLaw.nd rfl (Or.inr rfl) (pe_smeth (pe_glob (v := .ref C) (by rfl) mC rfl) gO.rC gO.sO gO.G (hr.mono (by decide)) gO.b .nil pass0 (pa_cons (pe_callTy (call_dictP rfl) (by rfl) T.dict (by decide +kernel) (pa_cons (pe_op op_cat (LiI.pe_listItems rfl (pv 9) (by rfl) T.list (by decide +kernel)) (pe_lst (pa_cons (pe_tup (pa_cons pe_str (pa_cons (pv 4) pa_nil))) pa_nil))) pa_nil)) pa_nil)))
      (pss_cons (ps_if (PW.pt (pw_or (pt_cmpR (op_neP (K := K) rfl hr.units) (pe_call gCe.G (hr.mono (by decide)) (by rfl) gCe.m gCe.k gCe.b .nil pass0 (pa_cons (pv 10) pa_nil)) (pe_tup (pa_cons pe_str (pa_cons pe_str pa_nil))) (nomark _)) (pw_or1 (pt_cmpR (op_neP (K := K) rfl hr.units) (pe_call gCo.G (hr.mono (by decide)) (by rfl) gCo.m gCo.k gCo.b .nil pass0 (pa_cons (pv 10) (pa_cons pe_str pa_nil))) (pe_tup (pa_cons pe_str pa_nil)) (nomark _))))) (pss_one (ps_ret pe_bl)) pss_nil)
      (pss_cons (ps_if (pt_cmpR (op_neP (K := K) rfl hr.units) (pe_lc (X := (cxOf CX0 P w K mg base NLaw "law" (defScope sLaw) f cdv A outer s H E).nox) (own := [("_law_one", 11)]) (g := (gName 11)) (tt := tYes) rfl scLaw.nd (pi_tup (pe_prop (pv 10) R.cl pN.o pN.G (hr.mono (by decide)) pN.b .nil pass0 rfl)) (blkOk_by (N := NLaw) (sc := defScope sLaw) (by decide +kernel)) (fun _ _ _ _ _ => (pg_name (i := 11) scLaw.nd rfl (.inl rfl))) (fun _ _ _ _ _ => pts_nil) (fun _ _ _ _ _ => (pe_call gIw.G (hr.mono (by decide)) (by rfl) gIw.m gIw.k gIw.b .nil pass0 (pa_cons (pv 10) (pa_cons (pv 11) pa_nil))))) (pe_lst (pa_cons pe_bl (pa_cons pe_bl (pa_cons pe_bl (pa_cons pe_bl pa_nil))))) (nomark _)) (pss_one (ps_ret pe_bl)) pss_nil)
      (pss_cons (ps_set (i := 12) scLaw.nd rfl (Or.inr rfl) (pe_makeRs M G2 (hr.mono (by decide)) (by rfl) mC (pk_cons (pe_tup (pa_cons (pe_tup (pa_cons pe_str (pa_cons pe_str pa_nil))) (pa_cons (pe_tup (pa_cons pe_str pa_nil)) pa_nil))) (pk_cons (pe_tup (pa_cons (pe_tup (pa_cons pe_str (pa_cons pe_str pa_nil))) pa_nil)) (pk_cons (pe_tup (pa_cons (pe_tup (pa_cons pe_str (pa_cons pe_str pa_nil))) pa_nil)) (pk_cons (pe_tup pa_nil) pk_nil))))))
      (pss_one (ps_ret (pe_and (pe_cmpR (op_eqP (K := K) rfl hr.units) (pe_call gCe.G (hr.mono (by decide)) (by rfl) gCe.m gCe.k gCe.b .nil pass0 (pa_cons (pv 12) pa_nil)) (pe_tup (pa_cons pe_str pa_nil)) (nomark _)) (pe_one (pe_cmpR (op_eqP (K := K) rfl hr.units) (pe_lc (X := (cxOf CX0 P w K mg base NLaw "law" (defScope sLaw) f cdv A outer s H E).nox) (own := [("_law_one", 11)]) (g := (gName 11)) (tt := tYes) rfl scLaw.nd (pi_tup (pe_prop (pv 12) R.cl pN.o pN.G (hr.mono (by decide)) pN.b .nil pass0 rfl)) (blkOk_by (N := NLaw) (sc := defScope sLaw) (by decide +kernel)) (fun _ _ _ _ _ => (pg_name (i := 11) scLaw.nd rfl (.inl rfl))) (fun _ _ _ _ _ => pts_nil) (fun _ _ _ _ _ => (pe_call gIw.G (hr.mono (by decide)) (by rfl) gIw.m gIw.k gIw.b .nil pass0 (pa_cons (pv 12) (pa_cons (pv 11) pa_nil))))) (pe_lst (pa_cons pe_bl (pa_cons pe_bl (pa_cons pe_bl (pa_cons pe_bl pa_nil))))) (nomark _)))))))))))))))))), ?_⟩
    refine ⟨_, rfl, a, _, rfl, .inl hs, _, _, rfl, _, _, rfl, _, rfl, by split <;> (try split) <;> omega, by split <;> (try split) <;> omega, ?_⟩
    refine for_range (fun i σ Hc => (∃ x1 x2 x3 : Option V, σ = [some (.ref a), x1, x2, x3, none, none, none, none, none, none, none, none, none]) ∧ Same H Hc) ⟨⟨_, _, _, rfl⟩, Same.refl H⟩ ?_ ?_
    · rintro i σ Hc hi ⟨⟨x1, x2, x3, rfl⟩, sm⟩
      refine ⟨_, rfl, _, rfl, a, ns, i, _, rfl, by omega, sm.seq hs, fun d x y z nd => ?_⟩
      have r0 : Rl d (upd Hc d (.lst (dxs x y z))) (upd Hc d (.lst (dxs x y z))) := Rl.refl ⟨_, _, _, upd_same⟩
      refine ⟨4, rfl, by decide, by decide, ?_⟩
      refine for_range (n := 4) (fun j σ Hd => (∃ x3 : Option V, σ = [some (.ref a), some (.int (0 + (i : Int))), some (.ref d), x3, none, none, none, none, none, none, none, none, none]) ∧ Rl d (upd Hc d (.lst (dxs x y z))) Hd) ⟨⟨_, rfl⟩, r0⟩ ?_ ?_
      · rintro j σ Hd hj ⟨⟨x3, rfl⟩, r⟩
        refine ⟨_, rfl, d, rfl, r.1, fun H1 r1 => ?_⟩
        exact ⟨_, rfl, iteF ⟨⟨_, rfl⟩, r.trans r1⟩⟩
      · rintro σ Hd ⟨⟨x3, rfl⟩, r⟩
        refine ⟨⟨_, _, _, rfl⟩, fun b o e => ?_⟩
        have hd0 : H d = none := none_of_same sm nd
        exact r.2 b o (ne_of_none e hd0) (same_new nd _ _ (sm _ _ e))
    rintro σ HA ⟨⟨x1, x2, x3, rfl⟩, sm0⟩
    clear sm0 hs
    refine ⟨small1000 (Nat.le_of_ble_eq_true rfl), fun a1 ha1 => ?_⟩
    have sa1 : Same HA (upd HA a1 (.tup [.str "stay"])) := same_new ha1
    have ea1 : upd HA a1 (.tup [.str "stay"]) a1 = some (.tup [.str "stay"]) := upd_same
    generalize upd HA a1 (.tup [.str "stay"]) = H1 at sa1 ea1 ⊢
    refine ⟨small1000 (Nat.le_of_ble_eq_true rfl), fun a2 ha2 => ?_⟩
    have sa2 : Same H1 (upd H1 a2 (.tup [.ref a1])) := same_new ha2
    have ea2 : upd H1 a2 (.tup [.ref a1]) a2 = some (.tup [.ref a1]) := upd_same
    generalize upd H1 a2 (.tup [.ref a1]) = H2 at sa2 ea2 ⊢
    refine ⟨small1000 (Nat.le_of_ble_eq_true rfl), fun a3 ha3 => ?_⟩
    have sa3 : Same H2 (upd H2 a3 (.tup [.str "call", .str "x"])) := same_new ha3
    have ea3 : upd H2 a3 (.tup [.str "call", .str "x"]) a3 = some (.tup [.str "call", .str "x"]) := upd_same
    generalize upd H2 a3 (.tup [.str "call", .str "x"]) = H3 at sa3 ea3 ⊢
    refine ⟨small1000 (Nat.le_of_ble_eq_true rfl), fun a4 ha4 => ?_⟩
    have sa4 : Same H3 (upd H3 a4 (.tup [.ref a3])) := same_new ha4
    have ea4 : upd H3 a4 (.tup [.ref a3]) a4 = some (.tup [.ref a3]) := upd_same
    generalize upd H3 a4 (.tup [.ref a3]) = H4 at sa4 ea4 ⊢
    refine ⟨small1000 (Nat.le_of_ble_eq_true rfl), fun a5 ha5 => ?_⟩
    have sa5 : Same H4 (upd H4 a5 (.tup [.ref a2, .ref a4])) := same_new ha5
    have ea5 : upd H4 a5 (.tup [.ref a2, .ref a4]) a5 = some (.tup [.ref a2, .ref a4]) := upd_same
    generalize upd H4 a5 (.tup [.ref a2, .ref a4]) = H5 at sa5 ea5 ⊢
    refine ⟨a5, _, rfl, SqT.of ea5, rfl, _, _, rfl, _, _, rfl, rfl, ?_⟩
    have pst : ∀ xs : List Str, PlainD (.tuple (xs.map PyData.str)) := fun xs => (PlN.tup (strPl xs)).pl (by decide)
    have bS : BdAt 1 H5 (.ref a2) [.stay] := ⟨a2, _, rfl, ((Same.trans (Same.trans sa3 sa4) sa5) _ _ ea2), (AG.consA ⟨a1, rfl, ((Same.trans (Same.trans (Same.trans sa2 sa3) sa4) sa5) _ _ ea1)⟩ AG.nil)⟩
    have bL : BdAt 1 H5 (.ref a4) [.call "x"] := ⟨a4, _, rfl, (sa5 _ _ ea4), (AG.consA ⟨a3, rfl, ((Same.trans sa4 sa5) _ _ ea3)⟩ AG.nil)⟩
    refine ⟨small1000 (Nat.le_of_ble_eq_true rfl), fun b1 hb1 => ?_⟩
    have sb1 : Same H5 (upd H5 b1 (.tup [.str "call", .str "y"])) := same_new hb1
    have eb1 : upd H5 b1 (.tup [.str "call", .str "y"]) b1 = some (.tup [.str "call", .str "y"]) := upd_same
    generalize upd H5 b1 (.tup [.str "call", .str "y"]) = H6 at sb1 eb1 ⊢
    refine ⟨small1000 (Nat.le_of_ble_eq_true rfl), fun b2 hb2 => ?_⟩
    have sb2 : Same H6 (upd H6 b2 (.tup [.ref b1])) := same_new hb2
    have eb2 : upd H6 b2 (.tup [.ref b1]) b2 = some (.tup [.ref b1]) := upd_same
    generalize upd H6 b2 (.tup [.ref b1]) = H7 at sb2 eb2 ⊢
    refine ⟨small1000 (Nat.le_of_ble_eq_true rfl), fun b3 hb3 => ?_⟩
    have sb3 : Same H7 (upd H7 b3 (.tup [.str "call", .str "x"])) := same_new hb3
    have eb3 : upd H7 b3 (.tup [.str "call", .str "x"]) b3 = some (.tup [.str "call", .str "x"]) := upd_same
    generalize upd H7 b3 (.tup [.str "call", .str "x"]) = H8 at sb3 eb3 ⊢
    refine ⟨small1000 (Nat.le_of_ble_eq_true rfl), fun b4 hb4 => ?_⟩
    have sb4 : Same H8 (upd H8 b4 (.tup [.ref b3])) := same_new hb4
    have eb4 : upd H8 b4 (.tup [.ref b3]) b4 = some (.tup [.ref b3]) := upd_same
    generalize upd H8 b4 (.tup [.ref b3]) = H9 at sb4 eb4 ⊢
    refine ⟨_, rfl, ?_⟩
    refine ⟨small1000 (Nat.le_of_ble_eq_true rfl), fun b5 hb5 => ?_⟩
    have sb5 : Same H9 (upd H9 b5 (.tup [.str "again", .int 1, .int 9, .ref a2])) := same_new hb5
    have eb5 : upd H9 b5 (.tup [.str "again", .int 1, .int 9, .ref a2]) b5 = some (.tup [.str "again", .int 1, .int 9, .ref a2]) := upd_same
    generalize upd H9 b5 (.tup [.str "again", .int 1, .int 9, .ref a2]) = H10 at sb5 eb5 ⊢
    refine ⟨small1000 (Nat.le_of_ble_eq_true rfl), fun b6 hb6 => ?_⟩
    have sb6 : Same H10 (upd H10 b6 (.tup [.str "note", .str "a"])) := same_new hb6
    have eb6 : upd H10 b6 (.tup [.str "note", .str "a"]) b6 = some (.tup [.str "note", .str "a"]) := upd_same
    generalize upd H10 b6 (.tup [.str "note", .str "a"]) = H11 at sb6 eb6 ⊢
    refine ⟨small1000 (Nat.le_of_ble_eq_true rfl), fun b7 hb7 => ?_⟩
    have sb7 : Same H11 (upd H11 b7 (.tup [.ref b5, .ref b6])) := same_new hb7
    have eb7 : upd H11 b7 (.tup [.ref b5, .ref b6]) b7 = some (.tup [.ref b5, .ref b6]) := upd_same
    generalize upd H11 b7 (.tup [.ref b5, .ref b6]) = H12 at sb7 eb7 ⊢
    have hkR : PrgK H12 [(.inr "x", .ref b2), (.inr "y", .ref b4), (.inr "z", .ref b7)] pgR0 := ((PrgK.nil.snoc (z := "x") (b := bR_x) (bdAt_mono (n := 1) ⟨b2, _, rfl, ((Same.trans (Same.trans (Same.trans (Same.trans sb3 sb4) sb5) sb6) sb7) _ _ eb2), (AG.consA ⟨b1, rfl, ((Same.trans (Same.trans (Same.trans (Same.trans (Same.trans sb2 sb3) sb4) sb5) sb6) sb7) _ _ eb1)⟩ AG.nil)⟩ (by decide))).snoc (z := "y") (b := bR_y) (bdAt_mono (n := 1) ⟨b4, _, rfl, ((Same.trans (Same.trans sb5 sb6) sb7) _ _ eb4), (AG.consA ⟨b3, rfl, ((Same.trans (Same.trans (Same.trans sb4 sb5) sb6) sb7) _ _ eb3)⟩ AG.nil)⟩ (by decide))).snoc (z := "z") (b := bR_z) (bdAt_mono (n := 2) ⟨b7, _, rfl, ((Same.refl _) _ _ eb7), (AG.consA ⟨b5, _, rfl, ((Same.trans sb6 sb7) _ _ eb5), (bS.same (Same.trans (Same.trans (Same.trans (Same.trans (Same.trans (Same.trans sb1 sb2) sb3) sb4) sb5) sb6) sb7))⟩ (AG.consA ⟨b6, rfl, (sb7 _ _ eb6)⟩ AG.nil))⟩ (by decide))
    clear eb1 eb2 eb3 eb4 eb5 eb6 eb7
    refine ⟨rfl, fun x dx nx ndx nex dd ndxd => new_pi (Q := fun xx HH => gName 6 xx _ HH _) (HG := H12) (H := H12) (Same.refl _) nx ndx nex ndxd hkR pgR0_ok pgR0_nd (.inr ⟨rfl, valV_no (by intro kv hk; simp only [List.mem_cons, List.not_mem_nil, or_false] at hk; rcases hk with rfl | rfl | rfl <;> exact ⟨_, rfl, by decide +kernel⟩)⟩) fun qx x H13 px ox nx sx ix fx => ?_⟩
    obtain rfl := pg_eq (px.trans pgR_perm) pgR_nd pgR_so ox
    clear fx nex ndxd ndx nx px ox
    refine ⟨_, rfl, x, pgR, rfl, ix.same (Same.refl _), pgR_ok, pgR_nd, pgR_ch, fun tu1 esu1 H14 nu1 s_u1 hu1t enu1 => ?_⟩
    obtain rfl := pgR_en enu1
    refine ⟨small1000 (Nat.le_of_ble_eq_true rfl), fun u1 hu1 => ?_⟩
    have su1 : Same H14 (upd H14 u1 (.tup [.str "z"])) := same_new hu1
    have eu1 : upd H14 u1 (.tup [.str "z"]) u1 = some (.tup [.str "z"]) := upd_same
    generalize upd H14 u1 (.tup [.str "z"]) = H15 at su1 eu1 ⊢
    refine ⟨.tuple ((["z"] : List Str).map PyData.str), .tuple ((["z"] : List Str).map PyData.str), .tup (SqT.of (su1 _ _ hu1t)) (dpStrs (["z"] : List Str)), .tup (SqT.of ((Same.refl _) _ _ eu1)) (dpStrs (["z"] : List Str)), pst _, pst _, _, rfl, ite0 (by rw [eqv_self (pst _).1]; rfl) ?_⟩
    refine ⟨_, rfl, x, "z", pgR, rfl, ix.same (Same.trans s_u1 su1), pgR_ok, pgR_nd, by decide +kernel, fun H16 s_u2 => ⟨_, rfl, ite0 (by rw [pgR_z_wh]) ?_⟩⟩
    refine ⟨_, rfl, x, "z", pgR, rfl, ix.same (Same.trans (Same.trans s_u1 su1) s_u2), pgR_ok, pgR_nd, by decide +kernel, fun tu3 esu3 H17 nu3 s_u3 hu3t enu3 => ?_⟩
    obtain rfl := pgR_z_co enu3
    refine ⟨Nat.zero_le _, fun u3 hu3 => ?_⟩
    have su3 : Same H17 (upd H17 u3 (.tup [])) := same_new hu3
    have eu3 : upd H17 u3 (.tup []) u3 = some (.tup []) := upd_same
    generalize upd H17 u3 (.tup []) = H18 at su3 eu3 ⊢
    refine ⟨.tuple (([] : List Str).map PyData.str), .tuple (([] : List Str).map PyData.str), .tup (SqT.of (su3 _ _ hu3t)) (dpStrs ([] : List Str)), .tup (SqT.of ((Same.refl _) _ _ eu3)) (dpStrs ([] : List Str)), pst _, pst _, _, rfl, ite0 (by rw [eqv_self (pst _).1]; rfl) ?_⟩
    refine ⟨_, rfl, x, "x", pgR, rfl, ix.same (Same.trans (Same.trans (Same.trans (Same.trans s_u1 su1) s_u2) s_u3) su3), pgR_ok, pgR_nd, by decide +kernel, fun H19 s_u4 => ⟨_, rfl, ite0 (by rw [pgR_x_wh]; rfl) ?_⟩⟩
    refine ⟨_, rfl, ?_⟩
    refine ⟨small1000 (Nat.le_of_ble_eq_true rfl), fun c1 hc1 => ?_⟩
    have sc1 : Same H19 (upd H19 c1 (.tup [.int 1, .ref a4])) := same_new hc1
    have ec1 : upd H19 c1 (.tup [.int 1, .ref a4]) c1 = some (.tup [.int 1, .ref a4]) := upd_same
    generalize upd H19 c1 (.tup [.int 1, .ref a4]) = H20 at sc1 ec1 ⊢
    refine ⟨small1000 (Nat.le_of_ble_eq_true rfl), fun c2 hc2 => ?_⟩
    have sc2 : Same H20 (upd H20 c2 (.tup [.str "call", .str "z"])) := same_new hc2
    have ec2 : upd H20 c2 (.tup [.str "call", .str "z"]) c2 = some (.tup [.str "call", .str "z"]) := upd_same
    generalize upd H20 c2 (.tup [.str "call", .str "z"]) = H21 at sc2 ec2 ⊢
    refine ⟨small1000 (Nat.le_of_ble_eq_true rfl), fun c3 hc3 => ?_⟩
    have sc3 : Same H21 (upd H21 c3 (.tup [.str "call", .str "y"])) := same_new hc3
    have ec3 : upd H21 c3 (.tup [.str "call", .str "y"]) c3 = some (.tup [.str "call", .str "y"]) := upd_same
    generalize upd H21 c3 (.tup [.str "call", .str "y"]) = H22 at sc3 ec3 ⊢
    refine ⟨small1000 (Nat.le_of_ble_eq_true rfl), fun c4 hc4 => ?_⟩
    have sc4 : Same H22 (upd H22 c4 (.tup [.ref c2, .ref c3])) := same_new hc4
    have ec4 : upd H22 c4 (.tup [.ref c2, .ref c3]) c4 = some (.tup [.ref c2, .ref c3]) := upd_same
    generalize upd H22 c4 (.tup [.ref c2, .ref c3]) = H23 at sc4 ec4 ⊢
    refine ⟨small1000 (Nat.le_of_ble_eq_true rfl), fun c5 hc5 => ?_⟩
    have sc5 : Same H23 (upd H23 c5 (.tup [.str "again", .int 1, .int 1, .ref c4])) := same_new hc5
    have ec5 : upd H23 c5 (.tup [.str "again", .int 1, .int 1, .ref c4]) c5 = some (.tup [.str "again", .int 1, .int 1, .ref c4]) := upd_same
    generalize upd H23 c5 (.tup [.str "again", .int 1, .int 1, .ref c4]) = H24 at sc5 ec5 ⊢
    refine ⟨small1000 (Nat.le_of_ble_eq_true rfl), fun c6 hc6 => ?_⟩
    have sc6 : Same H24 (upd H24 c6 (.tup [.ref c5])) := same_new hc6
    have ec6 : upd H24 c6 (.tup [.ref c5]) c6 = some (.tup [.ref c5]) := upd_same
    generalize upd H24 c6 (.tup [.ref c5]) = H25 at sc6 ec6 ⊢
    refine ⟨small1000 (Nat.le_of_ble_eq_true rfl), fun c7 hc7 => ?_⟩
    have sc7 : Same H25 (upd H25 c7 (.tup [.int 9, .ref c6])) := same_new hc7
    have ec7 : upd H25 c7 (.tup [.int 9, .ref c6]) c7 = some (.tup [.int 9, .ref c6]) := upd_same
    generalize upd H25 c7 (.tup [.int 9, .ref c6]) = H26 at sc7 ec7 ⊢
    refine ⟨small1000 (Nat.le_of_ble_eq_true rfl), fun c8 hc8 => ?_⟩
    have sc8 : Same H26 (upd H26 c8 (.tup [.str "toss", .ref c1, .ref c7])) := same_new hc8
    have ec8 : upd H26 c8 (.tup [.str "toss", .ref c1, .ref c7]) c8 = some (.tup [.str "toss", .ref c1, .ref c7]) := upd_same
    generalize upd H26 c8 (.tup [.str "toss", .ref c1, .ref c7]) = H27 at sc8 ec8 ⊢
    refine ⟨small1000 (Nat.le_of_ble_eq_true rfl), fun c9 hc9 => ?_⟩
    have sc9 : Same H27 (upd H27 c9 (.tup [.ref c8])) := same_new hc9
    have ec9 : upd H27 c9 (.tup [.ref c8]) c9 = some (.tup [.ref c8]) := upd_same
    generalize upd H27 c9 (.tup [.ref c8]) = H28 at sc9 ec9 ⊢
    have bD : BdAt 3 H28 (.ref c9) bM_y := ⟨c9, _, rfl, ((Same.refl _) _ _ ec9), (AG.consA ⟨c8, _, rfl, (sc9 _ _ ec8), (AG.consA ⟨c1, _, rfl, ((Same.trans (Same.trans (Same.trans (Same.trans (Same.trans (Same.trans (Same.trans sc2 sc3) sc4) sc5) sc6) sc7) sc8) sc9) _ _ ec1), (bdAt_mono (bL.same (Same.trans (Same.trans (Same.trans (Same.trans (Same.trans (Same.trans (Same.trans (Same.trans (Same.trans (Same.trans (Same.trans (Same.trans (Same.trans (Same.trans (Same.trans (Same.trans (Same.trans (Same.trans (Same.trans (Same.trans (Same.trans (Same.trans sb1 sb2) sb3) sb4) sb5) sb6) sb7) sx) s_u1) su1) s_u2) s_u3) su3) s_u4) sc1) sc2) sc3) sc4) sc5) sc6) sc7) sc8) sc9)) (by decide))⟩ (AG.consA ⟨c7, _, rfl, ((Same.trans sc8 sc9) _ _ ec7), ⟨c6, _, rfl, ((Same.trans (Same.trans sc7 sc8) sc9) _ _ ec6), (AG.consA ⟨c5, _, rfl, ((Same.trans (Same.trans (Same.trans sc6 sc7) sc8) sc9) _ _ ec5), ⟨c4, _, rfl, ((Same.trans (Same.trans (Same.trans (Same.trans sc5 sc6) sc7) sc8) sc9) _ _ ec4), (AG.consA ⟨c2, rfl, ((Same.trans (Same.trans (Same.trans (Same.trans (Same.trans (Same.trans sc3 sc4) sc5) sc6) sc7) sc8) sc9) _ _ ec2)⟩ (AG.consA ⟨c3, rfl, ((Same.trans (Same.trans (Same.trans (Same.trans (Same.trans sc4 sc5) sc6) sc7) sc8) sc9) _ _ ec3)⟩ AG.nil))⟩⟩ AG.nil)⟩⟩ AG.nil))⟩ AG.nil)⟩
    clear ec1 ec2 ec3 ec4 ec5 ec6 ec7 ec8 ec9
    refine ⟨rfl, fun m hm => ?_⟩
    have sOm : Same H28 (upd H28 m (.dK [])) := same_new hm
    have eOm : upd H28 m (.dK []) m = some (.dK []) := upd_same
    generalize upd H28 m (.dK []) = H29 at sOm eOm ⊢
    refine ⟨_, rfl, ?_⟩
    refine ⟨small1000 (Nat.le_of_ble_eq_true rfl), fun m1 hm1 => ?_⟩
    have sm1 : Same H29 (upd H29 m1 (.tup [.int 1, .ref a2])) := same_new hm1
    have em1 : upd H29 m1 (.tup [.int 1, .ref a2]) m1 = some (.tup [.int 1, .ref a2]) := upd_same
    generalize upd H29 m1 (.tup [.int 1, .ref a2]) = H30 at sm1 em1 ⊢
    refine ⟨_, rfl, ?_⟩
    refine ⟨small1000 (Nat.le_of_ble_eq_true rfl), fun m2 hm2 => ?_⟩
    have sm2 : Same H30 (upd H30 m2 (.tup [.int 9, .ref a4])) := same_new hm2
    have em2 : upd H30 m2 (.tup [.int 9, .ref a4]) m2 = some (.tup [.int 9, .ref a4]) := upd_same
    generalize upd H30 m2 (.tup [.int 9, .ref a4]) = H31 at sm2 em2 ⊢
    refine ⟨small1000 (Nat.le_of_ble_eq_true rfl), fun m3 hm3 => ?_⟩
    have sm3 : Same H31 (upd H31 m3 (.tup [.str "toss", .ref m1, .ref m2])) := same_new hm3
    have em3 : upd H31 m3 (.tup [.str "toss", .ref m1, .ref m2]) m3 = some (.tup [.str "toss", .ref m1, .ref m2]) := upd_same
    generalize upd H31 m3 (.tup [.str "toss", .ref m1, .ref m2]) = H32 at sm3 em3 ⊢
    refine ⟨small1000 (Nat.le_of_ble_eq_true rfl), fun m4 hm4 => ?_⟩
    have sm4 : Same H32 (upd H32 m4 (.tup [.ref m3])) := same_new hm4
    have em4 : upd H32 m4 (.tup [.ref m3]) m4 = some (.tup [.ref m3]) := upd_same
    generalize upd H32 m4 (.tup [.ref m3]) = H33 at sm4 em4 ⊢
    have bMx : BdAt 2 H33 (.ref m4) bM_x := ⟨m4, _, rfl, ((Same.refl _) _ _ em4), (AG.consA ⟨m3, _, rfl, (sm4 _ _ em3), (AG.consA ⟨m1, _, rfl, ((Same.trans (Same.trans sm2 sm3) sm4) _ _ em1), (bS.same (Same.trans (Same.trans (Same.trans (Same.trans (Same.trans (Same.trans (Same.trans (Same.trans (Same.trans (Same.trans (Same.trans (Same.trans (Same.trans (Same.trans (Same.trans (Same.trans (Same.trans (Same.trans (Same.trans (Same.trans (Same.trans (Same.trans (Same.trans (Same.trans (Same.trans (Same.trans (Same.trans sb1 sb2) sb3) sb4) sb5) sb6) sb7) sx) s_u1) su1) s_u2) s_u3) su3) s_u4) sc1) sc2) sc3) sc4) sc5) sc6) sc7) sc8) sc9) sOm) sm1) sm2) sm3) sm4))⟩ (AG.consA ⟨m2, _, rfl, ((Same.trans sm3 sm4) _ _ em2), (bL.same (Same.trans (Same.trans (Same.trans (Same.trans (Same.trans (Same.trans (Same.trans (Same.trans (Same.trans (Same.trans (Same.trans (Same.trans (Same.trans (Same.trans (Same.trans (Same.trans (Same.trans (Same.trans (Same.trans (Same.trans (Same.trans (Same.trans (Same.trans (Same.trans (Same.trans (Same.trans (Same.trans sb1 sb2) sb3) sb4) sb5) sb6) sb7) sx) s_u1) su1) s_u2) s_u3) su3) s_u4) sc1) sc2) sc3) sc4) sc5) sc6) sc7) sc8) sc9) sOm) sm1) sm2) sm3) sm4))⟩ AG.nil))⟩ AG.nil)⟩
    refine ⟨_, rfl, _, rfl, ?_⟩
    have eEm := (Same.trans (Same.trans (Same.trans sm1 sm2) sm3) sm4) _ _ eOm
    refine ⟨eEm, [(.inr "x", .ref m4), (.inr "y", .ref c9), (.inr "z", .ref a4)], rfl, by show 3 ≤ 15; decide, ?_⟩
    have sm : Same H28 (upd H33 m (.dK (mergeK [] [(.inr "x", .ref m4), (.inr "y", .ref c9), (.inr "z", .ref a4)]))) := same_upd hm (Same.trans (Same.trans (Same.trans (Same.trans sOm sm1) sm2) sm3) sm4)
    have tkm : Tk H33 (upd H33 m (.dK (mergeK [] [(.inr "x", .ref m4), (.inr "y", .ref c9), (.inr "z", .ref a4)]))) := Tk.upd eEm (fun _ z => by cases z) fun _ _ z => by cases z
    have hkm : PrgK (upd H33 m (.dK (mergeK [] [(.inr "x", .ref m4), (.inr "y", .ref c9), (.inr "z", .ref a4)]))) (mergeK [] [(.inr "x", .ref m4), (.inr "y", .ref c9), (.inr "z", .ref a4)]) pgM0 := by
      have z := PrgK.merge PrgK.nil (tkm.pg (show PrgK _ [(.inr "x", .ref m4), (.inr "y", .ref c9), (.inr "z", .ref a4)] pgM0 from ((PrgK.nil.snoc (z := "x") (bdAt_mono bMx (by decide))).snoc (z := "y") (bdAt_mono (bD.same (Same.trans (Same.trans (Same.trans (Same.trans sOm sm1) sm2) sm3) sm4)) (by decide))).snoc (z := "z") (b := bM_z) (bdAt_mono (bL.same (Same.trans (Same.trans (Same.trans (Same.trans (Same.trans (Same.trans (Same.trans (Same.trans (Same.trans (Same.trans (Same.trans (Same.trans (Same.trans (Same.trans (Same.trans (Same.trans (Same.trans (Same.trans (Same.trans (Same.trans (Same.trans (Same.trans (Same.trans (Same.trans (Same.trans (Same.trans (Same.trans sb1 sb2) sb3) sb4) sb5) sb6) sb7) sx) s_u1) su1) s_u2) s_u3) su3) s_u4) sc1) sc2) sc3) sc4) sc5) sc6) sc7) sc8) sc9) sOm) sm1) sm2) sm3) sm4)) (by decide))))
      rw [mergeP_new (p := []) (q := pgM0) (by decide +kernel)] at z
      exact z
    have em : upd H33 m (.dK (mergeK [] [(.inr "x", .ref m4), (.inr "y", .ref c9), (.inr "z", .ref a4)])) m = some (.dK (mergeK [] [(.inr "x", .ref m4), (.inr "y", .ref c9), (.inr "z", .ref a4)])) := upd_same
    generalize upd H33 m (.dK (mergeK [] [(.inr "x", .ref m4), (.inr "y", .ref c9), (.inr "z", .ref a4)])) = H34 at sm hkm em ⊢
    clear tkm eEm eOm
    refine ⟨m, _, pgM0, rfl, em, hkm, pgM0_ok, pgM0_nd, fun qy y H35 py oy ny sy iy fy => ?_⟩
    obtain rfl := pg_eq (py.trans pgM_perm) pgM_nd pgM_so oy
    clear fy ny py oy em hkm
    refine ⟨_, rfl, y, pgM, rfl, iy.same (Same.refl _), pgM_ok, pgM_nd, pgM_ch, fun tu5 esu5 H36 nu5 s_u5 hu5t enu5 => ?_⟩
    obtain rfl := pgM_en enu5
    refine ⟨small1000 (Nat.le_of_ble_eq_true rfl), fun u5 hu5 => ?_⟩
    have su5 : Same H36 (upd H36 u5 (.tup [.str "y"])) := same_new hu5
    have eu5 : upd H36 u5 (.tup [.str "y"]) u5 = some (.tup [.str "y"]) := upd_same
    generalize upd H36 u5 (.tup [.str "y"]) = H37 at su5 eu5 ⊢
    refine ⟨.tuple ((["y"] : List Str).map PyData.str), .tuple ((["y"] : List Str).map PyData.str), .tup (SqT.of (su5 _ _ hu5t)) (dpStrs (["y"] : List Str)), .tup (SqT.of ((Same.refl _) _ _ eu5)) (dpStrs (["y"] : List Str)), pst _, pst _, _, rfl, ite0 (by rw [eqv_self (pst _).1]; rfl) ?_⟩
    refine ⟨_, rfl, y, "y", pgM, rfl, iy.same (Same.trans s_u5 su5), pgM_ok, pgM_nd, by decide +kernel, fun tu6 esu6 H38 nu6 s_u6 hu6t enu6 => ?_⟩
    obtain rfl := pgM_y_co enu6
    refine ⟨small1000 (Nat.le_of_ble_eq_true rfl), fun u6 hu6 => ?_⟩
    have su6 : Same H38 (upd H38 u6 (.tup [.str "x", .str "y", .str "z"])) := same_new hu6
    have eu6 : upd H38 u6 (.tup [.str "x", .str "y", .str "z"]) u6 = some (.tup [.str "x", .str "y", .str "z"]) := upd_same
    generalize upd H38 u6 (.tup [.str "x", .str "y", .str "z"]) = H39 at su6 eu6 ⊢
    refine ⟨.tuple ((["x", "y", "z"] : List Str).map PyData.str), .tuple ((["x", "y", "z"] : List Str).map PyData.str), .tup (SqT.of (su6 _ _ hu6t)) (dpStrs (["x", "y", "z"] : List Str)), .tup (SqT.of ((Same.refl _) _ _ eu6)) (dpStrs (["x", "y", "z"] : List Str)), pst _, pst _, _, rfl, ite0 (by rw [eqv_self (pst _).1]; rfl) ?_⟩
    refine fun g hg => ?_
    have sOg : Same H39 (upd H39 g (.dK [])) := same_new hg
    have eOg : upd H39 g (.dK []) g = some (.dK []) := upd_same
    generalize upd H39 g (.dK []) = H40 at sOg eOg ⊢
    refine ⟨small1000 (Nat.le_of_ble_eq_true rfl), fun g1 hg1 => ?_⟩
    have sg1 : Same H40 (upd H40 g1 (.tup [.str "note", .str "again"])) := same_new hg1
    have eg1 : upd H40 g1 (.tup [.str "note", .str "again"]) g1 = some (.tup [.str "note", .str "again"]) := upd_same
    generalize upd H40 g1 (.tup [.str "note", .str "again"]) = H41 at sg1 eg1 ⊢
    refine ⟨small1000 (Nat.le_of_ble_eq_true rfl), fun g2 hg2 => ?_⟩
    have sg2 : Same H41 (upd H41 g2 (.tup [.str "call", .str "toss"])) := same_new hg2
    have eg2 : upd H41 g2 (.tup [.str "call", .str "toss"]) g2 = some (.tup [.str "call", .str "toss"]) := upd_same
    generalize upd H41 g2 (.tup [.str "call", .str "toss"]) = H42 at sg2 eg2 ⊢
    refine ⟨small1000 (Nat.le_of_ble_eq_true rfl), fun g3 hg3 => ?_⟩
    have sg3 : Same H42 (upd H42 g3 (.tup [.ref g1, .ref g2])) := same_new hg3
    have eg3 : upd H42 g3 (.tup [.ref g1, .ref g2]) g3 = some (.tup [.ref g1, .ref g2]) := upd_same
    generalize upd H42 g3 (.tup [.ref g1, .ref g2]) = H43 at sg3 eg3 ⊢
    refine ⟨small1000 (Nat.le_of_ble_eq_true rfl), fun g4 hg4 => ?_⟩
    have sg4 : Same H43 (upd H43 g4 (.tup [.str "note", .str "stay"])) := same_new hg4
    have eg4 : upd H43 g4 (.tup [.str "note", .str "stay"]) g4 = some (.tup [.str "note", .str "stay"]) := upd_same
    generalize upd H43 g4 (.tup [.str "note", .str "stay"]) = H44 at sg4 eg4 ⊢
    refine ⟨small1000 (Nat.le_of_ble_eq_true rfl), fun g5 hg5 => ?_⟩
    have sg5 : Same H44 (upd H44 g5 (.tup [.ref g4])) := same_new hg5
    have eg5 : upd H44 g5 (.tup [.ref g4]) g5 = some (.tup [.ref g4]) := upd_same
    generalize upd H44 g5 (.tup [.ref g4]) = H45 at sg5 eg5 ⊢
    refine ⟨small1000 (Nat.le_of_ble_eq_true rfl), fun g6 hg6 => ?_⟩
    have sg6 : Same H45 (upd H45 g6 (.tup [.str "call", .str "choose"])) := same_new hg6
    have eg6 : upd H45 g6 (.tup [.str "call", .str "choose"]) g6 = some (.tup [.str "call", .str "choose"]) := upd_same
    generalize upd H45 g6 (.tup [.str "call", .str "choose"]) = H46 at sg6 eg6 ⊢
    refine ⟨small1000 (Nat.le_of_ble_eq_true rfl), fun g7 hg7 => ?_⟩
    have sg7 : Same H46 (upd H46 g7 (.tup [.ref g6])) := same_new hg7
    have eg7 : upd H46 g7 (.tup [.ref g6]) g7 = some (.tup [.ref g6]) := upd_same
    generalize upd H46 g7 (.tup [.ref g6]) = H47 at sg7 eg7 ⊢
    have eEg := (Same.trans (Same.trans (Same.trans (Same.trans (Same.trans (Same.trans sg1 sg2) sg3) sg4) sg5) sg6) sg7) _ _ eOg
    refine ⟨eEg, [(.inr "stay", .ref g3), (.inr "toss", .ref g5), (.inr "note", .ref g7)], rfl, by show 3 ≤ 15; decide, ?_⟩
    have sg : Same H39 (upd H47 g (.dK (mergeK [] [(.inr "stay", .ref g3), (.inr "toss", .ref g5), (.inr "note", .ref g7)]))) := same_upd hg (Same.trans (Same.trans (Same.trans (Same.trans (Same.trans (Same.trans (Same.trans sOg sg1) sg2) sg3) sg4) sg5) sg6) sg7)
    have tkg : Tk H47 (upd H47 g (.dK (mergeK [] [(.inr "stay", .ref g3), (.inr "toss", .ref g5), (.inr "note", .ref g7)]))) := Tk.upd eEg (fun _ z => by cases z) fun _ _ z => by cases z
    have hkg : PrgK (upd H47 g (.dK (mergeK [] [(.inr "stay", .ref g3), (.inr "toss", .ref g5), (.inr "note", .ref g7)]))) (mergeK [] [(.inr "stay", .ref g3), (.inr "toss", .ref g5), (.inr "note", .ref g7)]) pgW00 := by
      have z := PrgK.merge PrgK.nil (tkg.pg (show PrgK _ [(.inr "stay", .ref g3), (.inr "toss", .ref g5), (.inr "note", .ref g7)] pgW00 from ((PrgK.nil.snoc (z := "stay") (b := bW_stay) (bdAt_mono (n := 1) ⟨g3, _, rfl, ((Same.trans (Same.trans (Same.trans sg4 sg5) sg6) sg7) _ _ eg3), (AG.consA ⟨g1, rfl, ((Same.trans (Same.trans (Same.trans (Same.trans (Same.trans sg2 sg3) sg4) sg5) sg6) sg7) _ _ eg1)⟩ (AG.consA ⟨g2, rfl, ((Same.trans (Same.trans (Same.trans (Same.trans sg3 sg4) sg5) sg6) sg7) _ _ eg2)⟩ AG.nil))⟩ (by decide))).snoc (z := "toss") (b := bW_toss) (bdAt_mono (n := 1) ⟨g5, _, rfl, ((Same.trans sg6 sg7) _ _ eg5), (AG.consA ⟨g4, rfl, ((Same.trans (Same.trans sg5 sg6) sg7) _ _ eg4)⟩ AG.nil)⟩ (by decide))).snoc (z := "note") (b := bW_note) (bdAt_mono (n := 1) ⟨g7, _, rfl, ((Same.refl _) _ _ eg7), (AG.consA ⟨g6, rfl, (sg7 _ _ eg6)⟩ AG.nil)⟩ (by decide))))
      rw [mergeP_new (p := []) (q := pgW00) (by decide +kernel)] at z
      exact z
    have eg : upd H47 g (.dK (mergeK [] [(.inr "stay", .ref g3), (.inr "toss", .ref g5), (.inr "note", .ref g7)])) g = some (.dK (mergeK [] [(.inr "stay", .ref g3), (.inr "toss", .ref g5), (.inr "note", .ref g7)])) := upd_same
    generalize upd H47 g (.dK (mergeK [] [(.inr "stay", .ref g3), (.inr "toss", .ref g5), (.inr "note", .ref g7)])) = H48 at sg hkg eg ⊢
    clear tkg eEg eOg
    refine ⟨rfl, _, rfl, g, _, rfl, eg, fun H49 p8 ts sF np8 nts pn hp8 pr => ?_⟩
    have aF := items_at pr ((Tk.same sF).pg hkg)
    refine ⟨_, rfl, ?_⟩
    refine ⟨small1000 (Nat.le_of_ble_eq_true rfl), fun k1 hk1 => ?_⟩
    have sk1 : Same H49 (upd H49 k1 (.tup [.str "choose", .ref a2])) := same_new hk1
    have ek1 : upd H49 k1 (.tup [.str "choose", .ref a2]) k1 = some (.tup [.str "choose", .ref a2]) := upd_same
    generalize upd H49 k1 (.tup [.str "choose", .ref a2]) = H50 at sk1 ek1 ⊢
    refine ⟨small1000 (Nat.le_of_ble_eq_true rfl), fun k2 hk2 => ?_⟩
    have sk2 : Same H50 (upd H50 k2 (.lst [.ref k1])) := same_new hk2
    have ek2 : upd H50 k2 (.lst [.ref k1]) k2 = some (.lst [.ref k1]) := upd_same
    generalize upd H50 k2 (.lst [.ref k1]) = H51 at sk2 ek2 ⊢
    have lts : ts.length = 3 := by have := aF.1; rw [List.length_map] at this; exact this
    have hp8' := (Same.trans sk1 sk2) _ _ hp8
    refine ⟨p8, k2, _, _, rfl, rfl, hp8', ek2, Nat.le_of_lt (small1000 (by rw [List.length_map]; show _ + 1 ≤ 1000; omega)), fun p9 hp9 => ?_⟩
    have sp9 := same_new (o := .lst (ts.map V.ref ++ [.ref k1])) hp9
    have h9 : upd H51 p9 (.lst (ts.map V.ref ++ [.ref k1])) p9 = some (.lst (ts.map V.ref ++ [.ref k1])) := upd_same
    generalize upd H51 p9 (.lst (ts.map V.ref ++ [.ref k1])) = H52 at sp9 h9 ⊢
    have aN : AG (fun v x => ItAt H52 v x) (ts.map V.ref ++ [.ref k1]) pgW0 := AG.snoc (ps := pgW00) (aF.imp fun _ _ e => ItAt.tk (Tk.same (Same.trans (Same.trans sk1 sk2) sp9)) e) ⟨k1, _, rfl, ((Same.trans sk2 sp9) _ _ ek1), bdAt_mono (bS.same (Same.trans (Same.trans (Same.trans (Same.trans (Same.trans (Same.trans (Same.trans (Same.trans (Same.trans (Same.trans (Same.trans (Same.trans (Same.trans (Same.trans (Same.trans (Same.trans (Same.trans (Same.trans (Same.trans (Same.trans (Same.trans (Same.trans (Same.trans (Same.trans (Same.trans (Same.trans (Same.trans (Same.trans (Same.trans (Same.trans (Same.trans (Same.trans (Same.trans sb1 sb2) sb3) sb4) sb5) sb6) sb7) sx) s_u1) su1) s_u2) s_u3) su3) s_u4) sc1) sc2) sc3) sc4) sc5) sc6) sc7) sc8) sc9) sm) sy) s_u5) su5) s_u6) su6) sg) sF) sk1) sk2) sp9)) (by decide)⟩
    obtain ⟨ps9, kv9, e9, pr9, hk9⟩ := paired_at (K := K) aN
    rw [e9] at h9
    refine ⟨p9, ps9, kv9, rfl, SqL.of h9, pr9, fun w hw => ?_⟩
    have hk9' := PrgK.merge PrgK.nil hk9
    rw [mergeP_new (p := []) (q := pgW0) pgW0_nd] at hk9'
    have hk9' : PrgK _ (mergeK [] kv9) pgW0 := hk9'
    generalize mergeK [] kv9 = kvw at hk9' hw ⊢
    have sw : Same H52 (upd H52 w (.dK kvw)) := same_new (o := .dK kvw) hw
    have ew : upd H52 w (.dK kvw) w = some (.dK kvw) := upd_same
    have hkw := (Tk.same sw).pg hk9'
    clear hk9 hk9' pr9 aN aF h9 hp8' hp8 pr e9 ek1 ek2 hkg eg
    generalize upd H52 w (.dK kvw) = H53 at sw ew hkw ⊢
    refine ⟨w, _, pgW0, rfl, ew, hkw, pgW0_ok, pgW0_nd, fun qv v H54 pv ov nv sv iv fv => ?_⟩
    obtain rfl := pg_eq (pv.trans pgW_perm) pgW_nd pgW_so ov
    clear fv nv pv ov ew hkw
    refine ⟨_, rfl, v, pgW, rfl, iv.same (Same.refl _), pgW_ok, pgW_nd, pgW_ch, fun tu7 esu7 H55 nu7 s_u7 hu7t enu7 => ?_⟩
    obtain rfl := pgW_en enu7
    refine ⟨small1000 (Nat.le_of_ble_eq_true rfl), fun u7 hu7 => ?_⟩
    have su7 : Same H55 (upd H55 u7 (.tup [.str "stay", .str "toss"])) := same_new hu7
    have eu7 : upd H55 u7 (.tup [.str "stay", .str "toss"]) u7 = some (.tup [.str "stay", .str "toss"]) := upd_same
    generalize upd H55 u7 (.tup [.str "stay", .str "toss"]) = H56 at su7 eu7 ⊢
    refine ⟨.tuple ((["stay", "toss"] : List Str).map PyData.str), .tuple ((["stay", "toss"] : List Str).map PyData.str), .tup (SqT.of (su7 _ _ hu7t)) (dpStrs (["stay", "toss"] : List Str)), .tup (SqT.of ((Same.refl _) _ _ eu7)) (dpStrs (["stay", "toss"] : List Str)), pst _, pst _, _, rfl, ite0 (by rw [eqv_self (pst _).1]; rfl) ?_⟩
    refine ⟨_, rfl, v, "stay", pgW, rfl, iv.same (Same.trans s_u7 su7), pgW_ok, pgW_nd, by decide +kernel, fun tu8 esu8 H57 nu8 s_u8 hu8t enu8 => ?_⟩
    obtain rfl := pgW_stay_co enu8
    refine ⟨small1000 (Nat.le_of_ble_eq_true rfl), fun u8 hu8 => ?_⟩
    have su8 : Same H57 (upd H57 u8 (.tup [.str "toss"])) := same_new hu8
    have eu8 : upd H57 u8 (.tup [.str "toss"]) u8 = some (.tup [.str "toss"]) := upd_same
    generalize upd H57 u8 (.tup [.str "toss"]) = H58 at su8 eu8 ⊢
    refine ⟨.tuple ((["toss"] : List Str).map PyData.str), .tuple ((["toss"] : List Str).map PyData.str), .tup (SqT.of (su8 _ _ hu8t)) (dpStrs (["toss"] : List Str)), .tup (SqT.of ((Same.refl _) _ _ eu8)) (dpStrs (["toss"] : List Str)), pst _, pst _, _, rfl, ite0 (by rw [eqv_self (pst _).1]; rfl) ?_⟩
    have ju9 := iv.same (Same.trans (Same.trans (Same.trans s_u7 su7) s_u8) su8)
    have ju90 := ju9
    obtain ⟨du9x, _, _, _, _, _, _, hu9x, _⟩ := ju90
    refine ⟨_, rfl, v, du9x, _, rfl, hu9x, v, pgW, rfl, ju9, fun tu9 H59 nu9 s_u9 hu9t => ⟨tu9, rfl, ⟨_, SqT.of hu9t⟩, fun Du9 hDu9 => ?_⟩⟩
    refine lc_tup (xs := (names pgW).map V.str) (fun i Hx => Same H59 Hx ∧ Hx Du9 = some (.lst (((whs pgW).take i).map V.bl))) ⟨same_new hDu9, upd_same⟩ (fun j Hx _ p' => SqT.of (p'.1 _ _ hu9t)) ?_ ?_
    · rintro i v0 Hx hv0 ⟨sx, hDx⟩
      have ii := (List.getElem?_eq_some_iff.mp hv0).1
      rw [List.length_map, List.length_map] at ii
      have i4 : i < 4 := ii
      obtain ⟨z, hz⟩ : ∃ z, (names pgW)[i]? = some z := ⟨(names pgW)[i]'(by rw [List.length_map]; exact ii), List.getElem?_eq_getElem _⟩
      have ez : v0 = .str z := by
        rw [List.getElem?_map, hz] at hv0
        exact (Option.some.inj hv0).symm
      subst ez
      have hw : (whs pgW)[i]? = some (decide ((ofWord 5 (bodyOf pgW z) "stay").length = 0)) := by
        show ((names pgW).map _)[i]? = _
        rw [List.getElem?_map, hz]
        rfl
      refine ⟨rfl, _, rfl, _, rfl, v, z, pgW, rfl, ju9.same (s_u9.trans sx), pgW_ok, pgW_nd, List.mem_of_getElem? hz, fun H5 s5 => ⟨_, s5 _ _ hDx, small1000 (by rw [List.length_map, List.length_take]; omega), same_upd hDu9 (sx.trans s5), ?_⟩⟩
      rw [take_snoc hw, List.map_append]
      exact upd_same
    rintro H60 ⟨su9x, hDxu9⟩
    have ewu9 : (whs pgW).take ((names pgW).map V.str).length = ([false, true, true, true] : List Bool) := by decide +kernel
    rw [ewu9] at hDxu9
    refine ⟨small1000 (Nat.le_of_ble_eq_true rfl), fun u9 hu9 => ?_⟩
    have su9 : Same H60 (upd H60 u9 (.lst [.bl false, .bl true, .bl true, .bl true])) := same_new hu9
    have eu9 : upd H60 u9 (.lst [.bl false, .bl true, .bl true, .bl true]) u9 = some (.lst [.bl false, .bl true, .bl true, .bl true]) := upd_same
    generalize upd H60 u9 (.lst [.bl false, .bl true, .bl true, .bl true]) = H61 at su9 eu9 ⊢
    refine ⟨.list (([false, true, true, true] : List Bool).map PyData.bool), .list (([false, true, true, true] : List Bool).map PyData.bool), .lst (SqL.of (su9 _ _ hDxu9)) (dpBls [false, true, true, true]), .lst (SqL.of ((Same.refl _) _ _ eu9)) (dpBls [false, true, true, true]), plBls _, plBls _, _, rfl, ite0 (by rw [eqv_self (plBls _).1]; rfl) ?_⟩
    refine ⟨small1000 (Nat.le_of_ble_eq_true rfl), fun t1 ht1 => ?_⟩
    have st1 : Same H61 (upd H61 t1 (.tup [.str "call", .str "b"])) := same_new ht1
    have et1 : upd H61 t1 (.tup [.str "call", .str "b"]) t1 = some (.tup [.str "call", .str "b"]) := upd_same
    generalize upd H61 t1 (.tup [.str "call", .str "b"]) = H62 at st1 et1 ⊢
    refine ⟨small1000 (Nat.le_of_ble_eq_true rfl), fun t2 ht2 => ?_⟩
    have st2 : Same H62 (upd H62 t2 (.tup [.str "stay"])) := same_new ht2
    have et2 : upd H62 t2 (.tup [.str "stay"]) t2 = some (.tup [.str "stay"]) := upd_same
    generalize upd H62 t2 (.tup [.str "stay"]) = H63 at st2 et2 ⊢
    refine ⟨small1000 (Nat.le_of_ble_eq_true rfl), fun t3 ht3 => ?_⟩
    have st3 : Same H63 (upd H63 t3 (.tup [.ref t1, .ref t2])) := same_new ht3
    have et3 : upd H63 t3 (.tup [.ref t1, .ref t2]) t3 = some (.tup [.ref t1, .ref t2]) := upd_same
    generalize upd H63 t3 (.tup [.ref t1, .ref t2]) = H64 at st3 et3 ⊢
    refine ⟨small1000 (Nat.le_of_ble_eq_true rfl), fun t4 ht4 => ?_⟩
    have st4 : Same H64 (upd H64 t4 (.tup [.str "call", .str "c"])) := same_new ht4
    have et4 : upd H64 t4 (.tup [.str "call", .str "c"]) t4 = some (.tup [.str "call", .str "c"]) := upd_same
    generalize upd H64 t4 (.tup [.str "call", .str "c"]) = H65 at st4 et4 ⊢
    refine ⟨small1000 (Nat.le_of_ble_eq_true rfl), fun t5 ht5 => ?_⟩
    have st5 : Same H65 (upd H65 t5 (.tup [.ref t4])) := same_new ht5
    have et5 : upd H65 t5 (.tup [.ref t4]) t5 = some (.tup [.ref t4]) := upd_same
    generalize upd H65 t5 (.tup [.ref t4]) = H66 at st5 et5 ⊢
    refine ⟨small1000 (Nat.le_of_ble_eq_true rfl), fun t6 ht6 => ?_⟩
    have st6 : Same H66 (upd H66 t6 (.tup [.str "call", .str "c"])) := same_new ht6
    have et6 : upd H66 t6 (.tup [.str "call", .str "c"]) t6 = some (.tup [.str "call", .str "c"]) := upd_same
    generalize upd H66 t6 (.tup [.str "call", .str "c"]) = H67 at st6 et6 ⊢
    refine ⟨small1000 (Nat.le_of_ble_eq_true rfl), fun t7 ht7 => ?_⟩
    have st7 : Same H67 (upd H67 t7 (.tup [.ref t6])) := same_new ht7
    have et7 : upd H67 t7 (.tup [.ref t6]) t7 = some (.tup [.ref t6]) := upd_same
    generalize upd H67 t7 (.tup [.ref t6]) = H68 at st7 et7 ⊢
    refine ⟨Nat.zero_le _, fun t8 ht8 => ?_⟩
    have st8 : Same H68 (upd H68 t8 (.tup [])) := same_new ht8
    have et8 : upd H68 t8 (.tup []) t8 = some (.tup []) := upd_same
    generalize upd H68 t8 (.tup []) = H69 at st8 et8 ⊢
    have hkT : PrgK H69 [(.inr "a", .ref t3), (.inr "b", .ref t5), (.inr "c", .ref t7), (.inr "d", .ref t8)] pgT0 := (((PrgK.nil.snoc (z := "a") (b := bT_a) (bdAt_mono (n := 1) ⟨t3, _, rfl, ((Same.trans (Same.trans (Same.trans (Same.trans st4 st5) st6) st7) st8) _ _ et3), (AG.consA ⟨t1, rfl, ((Same.trans (Same.trans (Same.trans (Same.trans (Same.trans (Same.trans st2 st3) st4) st5) st6) st7) st8) _ _ et1)⟩ (AG.consA ⟨t2, rfl, ((Same.trans (Same.trans (Same.trans (Same.trans (Same.trans st3 st4) st5) st6) st7) st8) _ _ et2)⟩ AG.nil))⟩ (by decide))).snoc (z := "b") (b := bT_b) (bdAt_mono (n := 1) ⟨t5, _, rfl, ((Same.trans (Same.trans st6 st7) st8) _ _ et5), (AG.consA ⟨t4, rfl, ((Same.trans (Same.trans (Same.trans st5 st6) st7) st8) _ _ et4)⟩ AG.nil)⟩ (by decide))).snoc (z := "c") (b := bT_c) (bdAt_mono (n := 1) ⟨t7, _, rfl, (st8 _ _ et7), (AG.consA ⟨t6, rfl, ((Same.trans st7 st8) _ _ et6)⟩ AG.nil)⟩ (by decide))).snoc (z := "d") (b := bT_d) (bdAt_mono (n := 1) ⟨t8, _, rfl, ((Same.refl _) _ _ et8), AG.nil⟩ (by decide))
    refine ⟨rfl, fun zt dzt nzt ndzt nezt dd ndztd => new_pi (Q := fun xx HH => gName 12 xx _ HH _) (HG := H69) (H := H69) (Same.refl _) nzt ndzt nezt ndztd hkT pgT0_ok pgT0_nd (.inr ⟨rfl, valV_no (by intro kv hk; simp only [List.mem_cons, List.not_mem_nil, or_false] at hk; rcases hk with rfl | rfl | rfl | rfl <;> exact ⟨_, rfl, by decide +kernel⟩)⟩) fun qzt zt H70 pzt ozt nzt szt izt fzt => ?_⟩
    obtain rfl := pg_eq (pzt.trans pgT_perm) pgT_nd pgT_so ozt
    clear fzt nezt ndztd ndzt nzt pzt ozt
    refine ⟨_, rfl, zt, pgT, rfl, izt.same (Same.refl _), pgT_ok, pgT_nd, pgT_ch, fun tu10 esu10 H71 nu10 s_u10 hu10t enu10 => ?_⟩
    obtain rfl := pgT_en enu10
    refine ⟨small1000 (Nat.le_of_ble_eq_true rfl), fun u10 hu10 => ?_⟩
    have su10 : Same H71 (upd H71 u10 (.tup [.str "d"])) := same_new hu10
    have eu10 : upd H71 u10 (.tup [.str "d"]) u10 = some (.tup [.str "d"]) := upd_same
    generalize upd H71 u10 (.tup [.str "d"]) = H72 at su10 eu10 ⊢
    refine ⟨.tuple ((["d"] : List Str).map PyData.str), .tuple ((["d"] : List Str).map PyData.str), .tup (SqT.of (su10 _ _ hu10t)) (dpStrs (["d"] : List Str)), .tup (SqT.of ((Same.refl _) _ _ eu10)) (dpStrs (["d"] : List Str)), pst _, pst _, _, rfl, ite1 (eqv_self (pst _).1) ?_⟩
    have ju11 := izt.same (Same.trans s_u10 su10)
    have ju110 := ju11
    obtain ⟨du11x, _, _, _, _, _, _, hu11x, _⟩ := ju110
    refine ⟨_, rfl, zt, du11x, _, rfl, hu11x, zt, pgT, rfl, ju11, fun tu11 H73 nu11 s_u11 hu11t => ⟨tu11, rfl, ⟨_, SqT.of hu11t⟩, fun Du11 hDu11 => ?_⟩⟩
    refine lc_tup (xs := (names pgT).map V.str) (fun i Hx => Same H73 Hx ∧ Hx Du11 = some (.lst (((whs pgT).take i).map V.bl))) ⟨same_new hDu11, upd_same⟩ (fun j Hx _ p' => SqT.of (p'.1 _ _ hu11t)) ?_ ?_
    · rintro i v0 Hx hv0 ⟨sx, hDx⟩
      have ii := (List.getElem?_eq_some_iff.mp hv0).1
      rw [List.length_map, List.length_map] at ii
      have i4 : i < 4 := ii
      obtain ⟨z, hz⟩ : ∃ z, (names pgT)[i]? = some z := ⟨(names pgT)[i]'(by rw [List.length_map]; exact ii), List.getElem?_eq_getElem _⟩
      have ez : v0 = .str z := by
        rw [List.getElem?_map, hz] at hv0
        exact (Option.some.inj hv0).symm
      subst ez
      have hw : (whs pgT)[i]? = some (decide ((ofWord 5 (bodyOf pgT z) "stay").length = 0)) := by
        show ((names pgT).map _)[i]? = _
        rw [List.getElem?_map, hz]
        rfl
      refine ⟨rfl, _, rfl, _, rfl, zt, z, pgT, rfl, ju11.same (s_u11.trans sx), pgT_ok, pgT_nd, List.mem_of_getElem? hz, fun H5 s5 => ⟨_, s5 _ _ hDx, small1000 (by rw [List.length_map, List.length_take]; omega), same_upd hDu11 (sx.trans s5), ?_⟩⟩
      rw [take_snoc hw, List.map_append]
      exact upd_same
    rintro H74 ⟨su11x, hDxu11⟩
    have ewu11 : (whs pgT).take ((names pgT).map V.str).length = ([false, true, true, true] : List Bool) := by decide +kernel
    rw [ewu11] at hDxu11
    refine ⟨small1000 (Nat.le_of_ble_eq_true rfl), fun u11 hu11 => ?_⟩
    have su11 : Same H74 (upd H74 u11 (.lst [.bl false, .bl true, .bl true, .bl true])) := same_new hu11
    have eu11 : upd H74 u11 (.lst [.bl false, .bl true, .bl true, .bl true]) u11 = some (.lst [.bl false, .bl true, .bl true, .bl true]) := upd_same
    generalize upd H74 u11 (.lst [.bl false, .bl true, .bl true, .bl true]) = H75 at su11 eu11 ⊢
    refine ⟨.list (([false, true, true, true] : List Bool).map PyData.bool), .list (([false, true, true, true] : List Bool).map PyData.bool), .lst (SqL.of (su11 _ _ hDxu11)) (dpBls [false, true, true, true]), .lst (SqL.of ((Same.refl _) _ _ eu11)) (dpBls [false, true, true, true]), plBls _, plBls _, ?_⟩
    rw [eqv_self (plBls _).1]
    exact q _
end
end FR
set_option Elab.async false
set_option linter.all false
set_option maxRecDepth 100000
set_option maxHeartbeats 4000000
/-! what the written part says of the classes, by computation -/
namespace FR
open PySem PySem.Spec PyProof.Rows L2 LD
section
variable {P : Program} {w : World} {K : PySem.W.Frag} {mg : Str → Option Value} {base : Heap}
theorem ok_pis {f fp dT : Addr} {fd fdp : FuncData} (GP : FnOk P w K mg base CX0 6 fp fdp ["body", "path"] (spPls K 5)) (mP : mg "placed_statements" = some (.ref fp)) (kP : PySem.W.keepIn K (.ref fp) = true) {ds : List Value} (bP : Binds K fdp ["body", "path"] ds) (vP : Vals [V.ref dT] ds) (hT : ∀ H, SqT K H dT []) {C CG : Addr} (R : PgC K C) (oG : OwnTy K CG) (nG : NoAttr K CG "table") (kNo : PySem.W.kitOne K (.type "NoneType") (.ref CG) = some false) (kYes : PySem.W.kitOne K (.ref CG) (.ref CG) = some true) (T : TxtP mg) (mG : mg "Given" = some (.ref CG)) (gA : Glo P w K mg base "_are_program" 12 ["bodies"] spAp) (F : Fun K "__init__" "Program.__init__" sPi f fd) {ks : List Str} (hk : ∀ k ∈ ks, ¬ k = "self") (hn : ks.Nodup) (hf : ks.length ≤ 900) : FnRs P w K mg base 13 f ks (spPi K C CG) := by
  refine rests_ok F (x := ⟨"self", _, _⟩) (y := ⟨"bodies", _, _⟩) rfl scPi hk hn hf (fun vs H Q E h => ?_) fun cdv A outer s H vs Q E hr h => ?_
  · obtain ⟨x, d, dx, kvs, p, rfl, _⟩ := h
    rfl
  · exact pi_read (k := 12) GP mP kP bP vP hT R.cl R.nb R.ns R.ne R.nc oG.cl nG oG kNo kYes T mG gA hr h
end
theorem pls_binds {K : PySem.W.Frag} {f dT : Addr} {fd : FuncData} (F : FunD K "placed_statements" "placed_statements" (defArgs sPls) (defBody sPls) (defScope sPls) [V.ref dT] [] f fd) :
    (∃ ds, Vals [V.ref dT] ds ∧ Binds K fd ["body", "path"] ds) ∧ Binds K fd ["body", "path"] [] := by
  have b1 := F.binds1 (ps := ["body", "path"]) 1 0 (by simp) rfl fun T kV doc pm an cdv ct us its hu hi => match us, its, hu, hi with | [_], [_], _, _ => ⟨_, rfl, rfl⟩
  have b2 := F.binds1 (ps := ["body", "path"]) 2 1 (by simp) rfl fun T kV doc pm an cdv ct us its hu hi => match us, its, hu, hi with | [_, _], [_], _, _ => ⟨_, rfl, rfl⟩
  obtain ⟨ds, v, b⟩ := b2
  cases v
  exact ⟨b1, b⟩
def clsB (K : PySem.W.Frag) (C : Addr) : Bool := PySem.W.plainGet K C Str.empty && (PySem.W.hasDictIn K C && (PySem.W.plainOver K C && (PySem.W.findIn K (.ref C) "__setattr__" == some (some (.builtin "object.__setattr__")))))
theorem cls_of {K : PySem.W.Frag} {C : Addr} (h : clsB K C = true) : Cls K C := by
  simp only [clsB, Bool.and_eq_true, beq_iff_eq] at h
  exact ⟨h.1, h.2.1, h.2.2.1, h.2.2.2⟩
def ownB (K : PySem.W.Frag) (C : Addr) : Bool := clsB K C && ((PySem.W.findIn K (.ref C) "__class__" == some (some (.builtin "object.__class__"))) &&
  ((PySem.W.specialIn K (.builtin "object.__class__") "__get__" == some (some (.builtin "getset_descriptor.__get__"))) && ((PySem.W.takesIn K (.builtin "object.__class__") == some true) && (PySem.W.mroIn K C (.type "object") == some true))))
theorem own_of {K : PySem.W.Frag} {C : Addr} (h : ownB K C = true) : OwnTy K C := by
  simp only [ownB, Bool.and_eq_true, beq_iff_eq] at h
  exact ⟨cls_of h.1, h.2.1, h.2.2.1, h.2.2.2.1, h.2.2.2.2⟩
def pgB (K : PySem.W.Frag) (C : Addr) : Bool := ownB K C && ((PySem.W.findIn K (.ref C) "_bodies" == some none) && ((PySem.W.findIn K (.ref C) "_size" == some none) && ((PySem.W.findIn K (.ref C) "_events" == some none) && (PySem.W.findIn K (.ref C) "_choices" == some none))))
theorem pg_of {K : PySem.W.Frag} {C : Addr} (h : pgB K C = true) : PgC K C := by
  simp only [pgB, Bool.and_eq_true, beq_iff_eq] at h
  have o := own_of h.1
  exact ⟨o.cl, h.2.1, h.2.2.1, h.2.2.2.1, h.2.2.2.2, o⟩
def mkB (K : PySem.W.Frag) (C : Addr) : Bool := PySem.W.makesIn K C && PySem.W.keepIn K (.ref C)
def oddB (K : PySem.W.Frag) (C : Addr) : Bool := ((PySem.W.findIn K (.ref C) "__ne__" == some (some (.builtin "object.__ne__"))) && (PySem.W.subIn K (.ref C) (.type "object") == some true)) && PySem.W.notFirst K C (.ref C)
theorem oddk_of {K : PySem.W.Frag} {C : Addr} (h : oddB K C = true) : NeOf K C ∧ PySem.W.notFirst K C (.ref C) = true := by
  simp only [oddB, Bool.and_eq_true, beq_iff_eq] at h
  obtain ⟨⟨a, b⟩, c⟩ := h
  exact ⟨⟨a, b⟩, c⟩
def kitB (K : PySem.W.Frag) (C CG : Addr) : Bool := (PySem.W.kitOne K (.type "NoneType") (.ref CG) == some false) && ((PySem.W.kitOne K (.ref CG) (.ref CG) == some true) && ((PySem.W.kitOne K (.ref C) (.ref C) == some true) && (PySem.W.findIn K (.ref CG) "table" == some none)))
def smB (K : PySem.W.Frag) (C : Addr) (mc : Value) (p g : Addr) : Bool := (PySem.W.readsIn K C mc && ((PySem.W.specialIn K (.ref C) "__getattribute__" == some (some (.builtin "type.__getattribute__"))))) && (PySem.W.handedIn (.ref g) && PySem.W.keepIn K (.ref g))
end FR
set_option Elab.async false
set_option linter.all false
set_option maxRecDepth 100000
set_option maxHeartbeats 4000000
namespace FR
open PySem PySem.Spec PyProof.Rows L2 LD
theorem all_mk {l : PySem.W.OpenLaw} {w : World} {K : PySem.W.Frag} {h : Heap} {mg : Str → Option Value} {fa C CG : Addr} (X : K.In h) (G : h.Ns mainGlobals mg) (hfa : mg "law" = some (.ref fa))
    (aC : PySem.W.nsIn K mainGlobals "Program" = some (some (.ref C)))
    (aG : PySem.W.nsIn K mainGlobals "Given" = some (some (.ref CG)))
    {tkP tkS tkD tkW tkL tkT : Tok}
    (aMP : PySem.W.nsIn K mainGlobals "MAX_PROCEDURES" = some (some (.int 8 tkP)))
    (aMS : PySem.W.nsIn K mainGlobals "MAX_STATEMENTS" = some (some (.int 60 tkS)))
    (aMD : PySem.W.nsIn K mainGlobals "MAX_DEPTH" = some (some (.int 4 tkD)))
    (aMW : PySem.W.nsIn K mainGlobals "MAX_WEIGHT" = some (some (.int 99 tkW)))
    (aML : PySem.W.nsIn K mainGlobals "MAX_LETTERS" = some (some (.int 8 tkL)))
    (aLT : PySem.W.nsIn K mainGlobals "LETTERS" = some (some (.str lets tkT)))
    {f_bin : Addr} {oc_bin kV_bin dc_bin pm_bin cd_bin ct_bin : Value} {od_bin an_bin : Option Addr} {sl_bin : Array (Option Value)}
    (n_bin : PySem.W.nsIn K mainGlobals "bodies_in" = some (some (.ref f_bin)))
    (l_bin : K.lookup f_bin = some ⟨oc_bin, od_bin, .func (PySem.W.fnOf "bodies_in" "bodies_in" (defArgs sBin) (defBody sBin) (defScope sBin) .none kV_bin dc_bin pm_bin an_bin cd_bin ct_bin), sl_bin⟩)
    (d_bin : PySem.W.codeIn K cd_bin "bodies_in" = true)
    (k_bin : PySem.W.keepIn K (.ref f_bin) = true)
    {f_sof : Addr} {oc_sof kV_sof dc_sof pm_sof cd_sof ct_sof : Value} {od_sof an_sof : Option Addr} {sl_sof : Array (Option Value)}
    (n_sof : PySem.W.nsIn K mainGlobals "statements_of" = some (some (.ref f_sof)))
    (l_sof : K.lookup f_sof = some ⟨oc_sof, od_sof, .func (PySem.W.fnOf "statements_of" "statements_of" (defArgs sSof) (defBody sSof) (defScope sSof) .none kV_sof dc_sof pm_sof an_sof cd_sof ct_sof), sl_sof⟩)
    (d_sof : PySem.W.codeIn K cd_sof "statements_of" = true)
    (k_sof : PySem.W.keepIn K (.ref f_sof) = true)
    {f_plain : Addr} {oc_plain kV_plain dc_plain pm_plain cd_plain ct_plain : Value} {od_plain an_plain : Option Addr} {sl_plain : Array (Option Value)}
    (n_plain : PySem.W.nsIn K mainGlobals "is_plain_integer" = some (some (.ref f_plain)))
    (l_plain : K.lookup f_plain = some ⟨oc_plain, od_plain, .func (PySem.W.fnOf "is_plain_integer" "is_plain_integer" (defArgs sPlain) (defBody sPlain) (defScope sPlain) .none kV_plain dc_plain pm_plain an_plain cd_plain ct_plain), sl_plain⟩)
    (d_plain : PySem.W.codeIn K cd_plain "is_plain_integer" = true)
    (k_plain : PySem.W.keepIn K (.ref f_plain) = true)
    {f_bet : Addr} {oc_bet kV_bet dc_bet pm_bet cd_bet ct_bet : Value} {od_bet an_bet : Option Addr} {sl_bet : Array (Option Value)}
    (n_bet : PySem.W.nsIn K mainGlobals "is_between" = some (some (.ref f_bet)))
    (l_bet : K.lookup f_bet = some ⟨oc_bet, od_bet, .func (PySem.W.fnOf "is_between" "is_between" (defArgs sBet) (defBody sBet) (defScope sBet) .none kV_bet dc_bet pm_bet an_bet cd_bet ct_bet), sl_bet⟩)
    (d_bet : PySem.W.codeIn K cd_bet "is_between" = true)
    (k_bet : PySem.W.keepIn K (.ref f_bet) = true)
    {f_nm : Addr} {oc_nm kV_nm dc_nm pm_nm cd_nm ct_nm : Value} {od_nm an_nm : Option Addr} {sl_nm : Array (Option Value)}
    (n_nm : PySem.W.nsIn K mainGlobals "is_name" = some (some (.ref f_nm)))
    (l_nm : K.lookup f_nm = some ⟨oc_nm, od_nm, .func (PySem.W.fnOf "is_name" "is_name" (defArgs sNm) (defBody sNm) (defScope sNm) .none kV_nm dc_nm pm_nm an_nm cd_nm ct_nm), sl_nm⟩)
    (d_nm : PySem.W.codeIn K cd_nm "is_name" = true)
    (k_nm : PySem.W.keepIn K (.ref f_nm) = true)
    {f_wt : Addr} {oc_wt kV_wt dc_wt pm_wt cd_wt ct_wt : Value} {od_wt an_wt : Option Addr} {sl_wt : Array (Option Value)}
    (n_wt : PySem.W.nsIn K mainGlobals "_is_weight" = some (some (.ref f_wt)))
    (l_wt : K.lookup f_wt = some ⟨oc_wt, od_wt, .func (PySem.W.fnOf "_is_weight" "_is_weight" (defArgs sWt) (defBody sWt) (defScope sWt) .none kV_wt dc_wt pm_wt an_wt cd_wt ct_wt), sl_wt⟩)
    (d_wt : PySem.W.codeIn K cd_wt "_is_weight" = true)
    (k_wt : PySem.W.keepIn K (.ref f_wt) = true)
    {f_br : Addr} {oc_br kV_br dc_br pm_br cd_br ct_br : Value} {od_br an_br : Option Addr} {sl_br : Array (Option Value)}
    (n_br : PySem.W.nsIn K mainGlobals "_is_branch" = some (some (.ref f_br)))
    (l_br : K.lookup f_br = some ⟨oc_br, od_br, .func (PySem.W.fnOf "_is_branch" "_is_branch" (defArgs sBr) (defBody sBr) (defScope sBr) .none kV_br dc_br pm_br an_br cd_br ct_br), sl_br⟩)
    (d_br : PySem.W.codeIn K cd_br "_is_branch" = true)
    (k_br : PySem.W.keepIn K (.ref f_br) = true)
    {f_inn : Addr} {oc_inn kV_inn dc_inn pm_inn cd_inn ct_inn : Value} {od_inn an_inn : Option Addr} {sl_inn : Array (Option Value)}
    (n_inn : PySem.W.nsIn K mainGlobals "_inner_of" = some (some (.ref f_inn)))
    (l_inn : K.lookup f_inn = some ⟨oc_inn, od_inn, .func (PySem.W.fnOf "_inner_of" "_inner_of" (defArgs sInn) (defBody sInn) (defScope sInn) .none kV_inn dc_inn pm_inn an_inn cd_inn ct_inn), sl_inn⟩)
    (d_inn : PySem.W.codeIn K cd_inn "_inner_of" = true)
    (k_inn : PySem.W.keepIn K (.ref f_inn) = true)
    {f_lb : Addr} {oc_lb kV_lb dc_lb pm_lb cd_lb ct_lb : Value} {od_lb an_lb : Option Addr} {sl_lb : Array (Option Value)}
    (n_lb : PySem.W.nsIn K mainGlobals "_left_behind" = some (some (.ref f_lb)))
    (l_lb : K.lookup f_lb = some ⟨oc_lb, od_lb, .func (PySem.W.fnOf "_left_behind" "_left_behind" (defArgs sLb) (defBody sLb) (defScope sLb) .none kV_lb dc_lb pm_lb an_lb cd_lb ct_lb), sl_lb⟩)
    (d_lb : PySem.W.codeIn K cd_lb "_left_behind" = true)
    (k_lb : PySem.W.keepIn K (.ref f_lb) = true)
    {f_ib : Addr} {oc_ib kV_ib dc_ib pm_ib cd_ib ct_ib : Value} {od_ib an_ib : Option Addr} {sl_ib : Array (Option Value)}
    (n_ib : PySem.W.nsIn K mainGlobals "is_body" = some (some (.ref f_ib)))
    (l_ib : K.lookup f_ib = some ⟨oc_ib, od_ib, .func (PySem.W.fnOf "is_body" "is_body" (defArgs sIb) (defBody sIb) (defScope sIb) .none kV_ib dc_ib pm_ib an_ib cd_ib ct_ib), sl_ib⟩)
    (d_ib : PySem.W.codeIn K cd_ib "is_body" = true)
    (k_ib : PySem.W.keepIn K (.ref f_ib) = true)
    {f_nc : Addr} {oc_nc kV_nc dc_nc pm_nc cd_nc ct_nc : Value} {od_nc an_nc : Option Addr} {sl_nc : Array (Option Value)}
    (n_nc : PySem.W.nsIn K mainGlobals "_names_called" = some (some (.ref f_nc)))
    (l_nc : K.lookup f_nc = some ⟨oc_nc, od_nc, .func (PySem.W.fnOf "_names_called" "_names_called" (defArgs sNc) (defBody sNc) (defScope sNc) .none kV_nc dc_nc pm_nc an_nc cd_nc ct_nc), sl_nc⟩)
    (d_nc : PySem.W.codeIn K cd_nc "_names_called" = true)
    (k_nc : PySem.W.keepIn K (.ref f_nc) = true)
    {f_ap : Addr} {oc_ap kV_ap dc_ap pm_ap cd_ap ct_ap : Value} {od_ap an_ap : Option Addr} {sl_ap : Array (Option Value)}
    (n_ap : PySem.W.nsIn K mainGlobals "_are_program" = some (some (.ref f_ap)))
    (l_ap : K.lookup f_ap = some ⟨oc_ap, od_ap, .func (PySem.W.fnOf "_are_program" "_are_program" (defArgs sAp) (defBody sAp) (defScope sAp) .none kV_ap dc_ap pm_ap an_ap cd_ap ct_ap), sl_ap⟩)
    (d_ap : PySem.W.codeIn K cd_ap "_are_program" = true)
    (k_ap : PySem.W.keepIn K (.ref f_ap) = true)
    {f_cn : Addr} {oc_cn kV_cn dc_cn pm_cn cd_cn ct_cn : Value} {od_cn an_cn : Option Addr} {sl_cn : Array (Option Value)}
    (n_cn : PySem.W.nsIn K mainGlobals "check_name" = some (some (.ref f_cn)))
    (l_cn : K.lookup f_cn = some ⟨oc_cn, od_cn, .func (PySem.W.fnOf "check_name" "check_name" (defArgs sCn) (defBody sCn) (defScope sCn) .none kV_cn dc_cn pm_cn an_cn cd_cn ct_cn), sl_cn⟩)
    (d_cn : PySem.W.codeIn K cd_cn "check_name" = true)
    (k_cn : PySem.W.keepIn K (.ref f_cn) = true)
    {f_cf : Addr} {oc_cf kV_cf dc_cf pm_cf cd_cf ct_cf : Value} {od_cf an_cf : Option Addr} {sl_cf : Array (Option Value)}
    (n_cf : PySem.W.nsIn K mainGlobals "check_free" = some (some (.ref f_cf)))
    (l_cf : K.lookup f_cf = some ⟨oc_cf, od_cf, .func (PySem.W.fnOf "check_free" "check_free" (defArgs sCf) (defBody sCf) (defScope sCf) .none kV_cf dc_cf pm_cf an_cf cd_cf ct_cf), sl_cf⟩)
    (d_cf : PySem.W.codeIn K cd_cf "check_free" = true)
    (k_cf : PySem.W.keepIn K (.ref f_cf) = true)
    {f_cc : Addr} {oc_cc kV_cc dc_cc pm_cc cd_cc ct_cc : Value} {od_cc an_cc : Option Addr} {sl_cc : Array (Option Value)}
    (n_cc : PySem.W.nsIn K mainGlobals "check_closed" = some (some (.ref f_cc)))
    (l_cc : K.lookup f_cc = some ⟨oc_cc, od_cc, .func (PySem.W.fnOf "check_closed" "check_closed" (defArgs sCc) (defBody sCc) (defScope sCc) .none kV_cc dc_cc pm_cc an_cc cd_cc ct_cc), sl_cc⟩)
    (d_cc : PySem.W.codeIn K cd_cc "check_closed" = true)
    (k_cc : PySem.W.keepIn K (.ref f_cc) = true)
    {f_co : Addr} {oc_co kV_co dc_co pm_co cd_co ct_co : Value} {od_co an_co : Option Addr} {sl_co : Array (Option Value)}
    (n_co : PySem.W.nsIn K mainGlobals "calls_of" = some (some (.ref f_co)))
    (l_co : K.lookup f_co = some ⟨oc_co, od_co, .func (PySem.W.fnOf "calls_of" "calls_of" (defArgs sCo) (defBody sCo) (defScope sCo) .none kV_co dc_co pm_co an_co cd_co ct_co), sl_co⟩)
    (d_co : PySem.W.codeIn K cd_co "calls_of" = true)
    (k_co : PySem.W.keepIn K (.ref f_co) = true)
    {f_iw : Addr} {oc_iw kV_iw dc_iw pm_iw cd_iw ct_iw : Value} {od_iw an_iw : Option Addr} {sl_iw : Array (Option Value)}
    (n_iw : PySem.W.nsIn K mainGlobals "is_whole" = some (some (.ref f_iw)))
    (l_iw : K.lookup f_iw = some ⟨oc_iw, od_iw, .func (PySem.W.fnOf "is_whole" "is_whole" (defArgs sIw) (defBody sIw) (defScope sIw) .none kV_iw dc_iw pm_iw an_iw cd_iw ct_iw), sl_iw⟩)
    (d_iw : PySem.W.codeIn K cd_iw "is_whole" = true)
    (k_iw : PySem.W.keepIn K (.ref f_iw) = true)
    {f_am : Addr} {oc_am kV_am dc_am pm_am cd_am ct_am : Value} {od_am an_am : Option Addr} {sl_am : Array (Option Value)}
    (n_am : PySem.W.nsIn K mainGlobals "_able_more" = some (some (.ref f_am)))
    (l_am : K.lookup f_am = some ⟨oc_am, od_am, .func (PySem.W.fnOf "_able_more" "_able_more" (defArgs sAm) (defBody sAm) (defScope sAm) .none kV_am dc_am pm_am an_am cd_am ct_am), sl_am⟩)
    (d_am : PySem.W.codeIn K cd_am "_able_more" = true)
    (k_am : PySem.W.keepIn K (.ref f_am) = true)
    {f_bc : Addr} {oc_bc kV_bc dc_bc pm_bc cd_bc ct_bc : Value} {od_bc an_bc : Option Addr} {sl_bc : Array (Option Value)}
    (n_bc : PySem.W.nsIn K mainGlobals "_body_can_end" = some (some (.ref f_bc)))
    (l_bc : K.lookup f_bc = some ⟨oc_bc, od_bc, .func (PySem.W.fnOf "_body_can_end" "_body_can_end" (defArgs sBc) (defBody sBc) (defScope sBc) .none kV_bc dc_bc pm_bc an_bc cd_bc ct_bc), sl_bc⟩)
    (d_bc : PySem.W.codeIn K cd_bc "_body_can_end" = true)
    (k_bc : PySem.W.keepIn K (.ref f_bc) = true)
    {f_sc : Addr} {oc_sc kV_sc dc_sc pm_sc cd_sc ct_sc : Value} {od_sc an_sc : Option Addr} {sl_sc : Array (Option Value)}
    (n_sc : PySem.W.nsIn K mainGlobals "_statement_can_end" = some (some (.ref f_sc)))
    (l_sc : K.lookup f_sc = some ⟨oc_sc, od_sc, .func (PySem.W.fnOf "_statement_can_end" "_statement_can_end" (defArgs sSc) (defBody sSc) (defScope sSc) .none kV_sc dc_sc pm_sc an_sc cd_sc ct_sc), sl_sc⟩)
    (d_sc : PySem.W.codeIn K cd_sc "_statement_can_end" = true)
    (k_sc : PySem.W.keepIn K (.ref f_sc) = true)
    {f_aa : Addr} {oc_aa kV_aa dc_aa pm_aa cd_aa ct_aa : Value} {od_aa an_aa : Option Addr} {sl_aa : Array (Option Value)}
    (n_aa : PySem.W.nsIn K mainGlobals "always_able" = some (some (.ref f_aa)))
    (l_aa : K.lookup f_aa = some ⟨oc_aa, od_aa, .func (PySem.W.fnOf "always_able" "always_able" (defArgs sAa) (defBody sAa) (defScope sAa) .none kV_aa dc_aa pm_aa an_aa cd_aa ct_aa), sl_aa⟩)
    (d_aa : PySem.W.codeIn K cd_aa "always_able" = true)
    (k_aa : PySem.W.keepIn K (.ref f_aa) = true)
    {f_ce : Addr} {oc_ce kV_ce dc_ce pm_ce cd_ce ct_ce : Value} {od_ce an_ce : Option Addr} {sl_ce : Array (Option Value)}
    (n_ce : PySem.W.nsIn K mainGlobals "can_end" = some (some (.ref f_ce)))
    (l_ce : K.lookup f_ce = some ⟨oc_ce, od_ce, .func (PySem.W.fnOf "can_end" "can_end" (defArgs sCe) (defBody sCe) (defScope sCe) .none kV_ce dc_ce pm_ce an_ce cd_ce ct_ce), sl_ce⟩)
    (d_ce : PySem.W.codeIn K cd_ce "can_end" = true)
    (k_ce : PySem.W.keepIn K (.ref f_ce) = true)
    {f_dice : Addr} {oc_dice kV_dice dc_dice pm_dice cd_dice ct_dice : Value} {od_dice an_dice : Option Addr} {sl_dice : Array (Option Value)}
    (n_dice : PySem.W.nsIn K mainGlobals "_law_dice" = some (some (.ref f_dice)))
    (l_dice : K.lookup f_dice = some ⟨oc_dice, od_dice, .func (PySem.W.fnOf "_law_dice" "_law_dice" (defArgs LD.sDice) (defBody LD.sDice) (defScope LD.sDice) .none kV_dice dc_dice pm_dice an_dice cd_dice ct_dice), sl_dice⟩)
    (d_dice : PySem.W.codeIn K cd_dice "_law_dice" = true)
    (k_dice : PySem.W.keepIn K (.ref f_dice) = true)
    {f_roll : Addr} {oc_roll kV_roll dc_roll pm_roll cd_roll ct_roll : Value} {od_roll an_roll : Option Addr} {sl_roll : Array (Option Value)}
    (n_roll : PySem.W.nsIn K mainGlobals "_law_roll" = some (some (.ref f_roll)))
    (l_roll : K.lookup f_roll = some ⟨oc_roll, od_roll, .func (PySem.W.fnOf "_law_roll" "_law_roll" (defArgs LD.sRoll) (defBody LD.sRoll) (defScope LD.sRoll) .none kV_roll dc_roll pm_roll an_roll cd_roll ct_roll), sl_roll⟩)
    (d_roll : PySem.W.codeIn K cd_roll "_law_roll" = true)
    (k_roll : PySem.W.keepIn K (.ref f_roll) = true)
    {f_one : Addr} {oc_one kV_one dc_one pm_one cd_one ct_one : Value} {od_one an_one : Option Addr} {sl_one : Array (Option Value)}
    (n_one : PySem.W.nsIn K mainGlobals "_law_one_of" = some (some (.ref f_one)))
    (l_one : K.lookup f_one = some ⟨oc_one, od_one, .func (PySem.W.fnOf "_law_one_of" "_law_one_of" (defArgs LD.sOneOf) (defBody LD.sOneOf) (defScope LD.sOneOf) .none kV_one dc_one pm_one an_one cd_one ct_one), sl_one⟩)
    (d_one : PySem.W.codeIn K cd_one "_law_one_of" = true)
    (k_one : PySem.W.keepIn K (.ref f_one) = true)
    {f_mx : Addr} {oc_mx kV_mx dc_mx pm_mx cd_mx ct_mx : Value} {od_mx an_mx : Option Addr} {sl_mx : Array (Option Value)}
    (n_mx : PySem.W.nsIn K mainGlobals "_law_mixed" = some (some (.ref f_mx)))
    (l_mx : K.lookup f_mx = some ⟨oc_mx, od_mx, .func (PySem.W.fnOf "_law_mixed" "_law_mixed" (defArgs sMx) (defBody sMx) (defScope sMx) .none kV_mx dc_mx pm_mx an_mx cd_mx ct_mx), sl_mx⟩)
    (d_mx : PySem.W.codeIn K cd_mx "_law_mixed" = true)
    (k_mx : PySem.W.keepIn K (.ref f_mx) = true)
    {f_we : Addr} {oc_we kV_we dc_we pm_we cd_we ct_we : Value} {od_we an_we : Option Addr} {sl_we : Array (Option Value)}
    (n_we : PySem.W.nsIn K mainGlobals "_law_weight" = some (some (.ref f_we)))
    (l_we : K.lookup f_we = some ⟨oc_we, od_we, .func (PySem.W.fnOf "_law_weight" "_law_weight" (defArgs sWe) (defBody sWe) (defScope sWe) .none kV_we dc_we pm_we an_we cd_we ct_we), sl_we⟩)
    (d_we : PySem.W.codeIn K cd_we "_law_weight" = true)
    (k_we : PySem.W.keepIn K (.ref f_we) = true)
    {f_ls : Addr} {oc_ls kV_ls dc_ls pm_ls cd_ls ct_ls : Value} {od_ls an_ls : Option Addr} {sl_ls : Array (Option Value)}
    (n_ls : PySem.W.nsIn K mainGlobals "_law_statement" = some (some (.ref f_ls)))
    (l_ls : K.lookup f_ls = some ⟨oc_ls, od_ls, .func (PySem.W.fnOf "_law_statement" "_law_statement" (defArgs sLs) (defBody sLs) (defScope sLs) .none kV_ls dc_ls pm_ls an_ls cd_ls ct_ls), sl_ls⟩)
    (d_ls : PySem.W.codeIn K cd_ls "_law_statement" = true)
    (k_ls : PySem.W.keepIn K (.ref f_ls) = true)
    {f_ly : Addr} {oc_ly kV_ly dc_ly pm_ly cd_ly ct_ly : Value} {od_ly an_ly : Option Addr} {sl_ly : Array (Option Value)}
    (n_ly : PySem.W.nsIn K mainGlobals "_law_body" = some (some (.ref f_ly)))
    (l_ly : K.lookup f_ly = some ⟨oc_ly, od_ly, .func (PySem.W.fnOf "_law_body" "_law_body" (defArgs sLy) (defBody sLy) (defScope sLy) .none kV_ly dc_ly pm_ly an_ly cd_ly ct_ly), sl_ly⟩)
    (d_ly : PySem.W.codeIn K cd_ly "_law_body" = true)
    (k_ly : PySem.W.keepIn K (.ref f_ly) = true)
    {f_lo : Addr} {oc_lo kV_lo dc_lo pm_lo cd_lo ct_lo : Value} {od_lo an_lo : Option Addr} {sl_lo : Array (Option Value)}
    (n_lo : PySem.W.nsIn K mainGlobals "_law_bodies" = some (some (.ref f_lo)))
    (l_lo : K.lookup f_lo = some ⟨oc_lo, od_lo, .func (PySem.W.fnOf "_law_bodies" "_law_bodies" (defArgs sLo) (defBody sLo) (defScope sLo) .none kV_lo dc_lo pm_lo an_lo cd_lo ct_lo), sl_lo⟩)
    (d_lo : PySem.W.codeIn K cd_lo "_law_bodies" = true)
    (k_lo : PySem.W.keepIn K (.ref f_lo) = true)
    {f_li : Addr} {oc_li kV_li dc_li pm_li cd_li ct_li : Value} {od_li an_li : Option Addr} {sl_li : Array (Option Value)}
    (n_li : PySem.W.nsIn K mainGlobals "_law_inner" = some (some (.ref f_li)))
    (l_li : K.lookup f_li = some ⟨oc_li, od_li, .func (PySem.W.fnOf "_law_inner" "_law_inner" (defArgs sLi) (defBody sLi) (defScope sLi) .none kV_li dc_li pm_li an_li cd_li ct_li), sl_li⟩)
    (d_li : PySem.W.codeIn K cd_li "_law_inner" = true)
    (k_li : PySem.W.keepIn K (.ref f_li) = true)
    {f_lr : Addr} {oc_lr kV_lr dc_lr pm_lr cd_lr ct_lr : Value} {od_lr an_lr : Option Addr} {sl_lr : Array (Option Value)}
    (n_lr : PySem.W.nsIn K mainGlobals "_law_sorts" = some (some (.ref f_lr)))
    (l_lr : K.lookup f_lr = some ⟨oc_lr, od_lr, .func (PySem.W.fnOf "_law_sorts" "_law_sorts" (defArgs sLr) (defBody sLr) (defScope sLr) .none kV_lr dc_lr pm_lr an_lr cd_lr ct_lr), sl_lr⟩)
    (d_lr : PySem.W.codeIn K cd_lr "_law_sorts" = true)
    (k_lr : PySem.W.keepIn K (.ref f_lr) = true)
    {f_qc : Addr} {oc_qc kV_qc dc_qc pm_qc cd_qc ct_qc : Value} {od_qc an_qc : Option Addr} {sl_qc : Array (Option Value)}
    (n_qc : PySem.W.nsIn K mainGlobals "_law_called" = some (some (.ref f_qc)))
    (l_qc : K.lookup f_qc = some ⟨oc_qc, od_qc, .func (PySem.W.fnOf "_law_called" "_law_called" (defArgs sQc) (defBody sQc) (defScope sQc) .none kV_qc dc_qc pm_qc an_qc cd_qc ct_qc), sl_qc⟩)
    (d_qc : PySem.W.codeIn K cd_qc "_law_called" = true)
    (k_qc : PySem.W.keepIn K (.ref f_qc) = true)
    {f_qe : Addr} {oc_qe kV_qe dc_qe pm_qe cd_qe ct_qe : Value} {od_qe an_qe : Option Addr} {sl_qe : Array (Option Value)}
    (n_qe : PySem.W.nsIn K mainGlobals "_law_can_end" = some (some (.ref f_qe)))
    (l_qe : K.lookup f_qe = some ⟨oc_qe, od_qe, .func (PySem.W.fnOf "_law_can_end" "_law_can_end" (defArgs sQe) (defBody sQe) (defScope sQe) .none kV_qe dc_qe pm_qe an_qe cd_qe ct_qe), sl_qe⟩)
    (d_qe : PySem.W.codeIn K cd_qe "_law_can_end" = true)
    (k_qe : PySem.W.keepIn K (.ref f_qe) = true)
    {f_en : Addr} {oc_en kV_en dc_en pm_en cd_en ct_en : Value} {od_en an_en : Option Addr} {sl_en : Array (Option Value)}
    (n_en : PySem.W.nsIn K mainGlobals "_law_enders" = some (some (.ref f_en)))
    (l_en : K.lookup f_en = some ⟨oc_en, od_en, .func (PySem.W.fnOf "_law_enders" "_law_enders" (defArgs sEn) (defBody sEn) (defScope sEn) .none kV_en dc_en pm_en an_en cd_en ct_en), sl_en⟩)
    (d_en : PySem.W.codeIn K cd_en "_law_enders" = true)
    (k_en : PySem.W.keepIn K (.ref f_en) = true)
    {f_wa : Addr} {oc_wa kV_wa dc_wa pm_wa cd_wa ct_wa : Value} {od_wa an_wa : Option Addr} {sl_wa : Array (Option Value)}
    (n_wa : PySem.W.nsIn K mainGlobals "_law_ways" = some (some (.ref f_wa)))
    (l_wa : K.lookup f_wa = some ⟨oc_wa, od_wa, .func (PySem.W.fnOf "_law_ways" "_law_ways" (defArgs sWa) (defBody sWa) (defScope sWa) .none kV_wa dc_wa pm_wa an_wa cd_wa ct_wa), sl_wa⟩)
    (d_wa : PySem.W.codeIn K cd_wa "_law_ways" = true)
    (k_wa : PySem.W.keepIn K (.ref f_wa) = true)
    {f_sh : Addr} {oc_sh kV_sh dc_sh pm_sh cd_sh ct_sh : Value} {od_sh an_sh : Option Addr} {sl_sh : Array (Option Value)}
    (n_sh : PySem.W.nsIn K mainGlobals "_law_shown" = some (some (.ref f_sh)))
    (l_sh : K.lookup f_sh = some ⟨oc_sh, od_sh, .func (PySem.W.fnOf "_law_shown" "_law_shown" (defArgs sSh) (defBody sSh) (defScope sSh) .none kV_sh dc_sh pm_sh an_sh cd_sh ct_sh), sl_sh⟩)
    (d_sh : PySem.W.codeIn K cd_sh "_law_shown" = true)
    (k_sh : PySem.W.keepIn K (.ref f_sh) = true)
    {f_lw : Addr} {oc_lw kV_lw dc_lw pm_lw cd_lw ct_lw : Value} {od_lw an_lw : Option Addr} {sl_lw : Array (Option Value)}
    (n_lw : PySem.W.nsIn K mainGlobals "_law_right" = some (some (.ref f_lw)))
    (l_lw : K.lookup f_lw = some ⟨oc_lw, od_lw, .func (PySem.W.fnOf "_law_right" "_law_right" (defArgs sLw) (defBody sLw) (defScope sLw) .none kV_lw dc_lw pm_lw an_lw cd_lw ct_lw), sl_lw⟩)
    (d_lw : PySem.W.codeIn K cd_lw "_law_right" = true)
    (k_lw : PySem.W.keepIn K (.ref f_lw) = true)
    {f_law : Addr} {oc_law kV_law dc_law pm_law cd_law ct_law : Value} {od_law an_law : Option Addr} {sl_law : Array (Option Value)}
    (n_law : PySem.W.nsIn K mainGlobals "law" = some (some (.ref f_law)))
    (l_law : K.lookup f_law = some ⟨oc_law, od_law, .func (PySem.W.fnOf "law" "law" (defArgs sLaw) (defBody sLaw) (defScope sLaw) .none kV_law dc_law pm_law an_law cd_law ct_law), sl_law⟩)
    (d_law : PySem.W.codeIn K cd_law "law" = true)
    (k_law : PySem.W.keepIn K (.ref f_law) = true)
    {f_gi : Addr} {oc_gi kV_gi dc_gi pm_gi cd_gi ct_gi : Value} {od_gi an_gi : Option Addr} {sl_gi : Array (Option Value)}
    (n_gi : PySem.W.findIn K (.ref CG) "__init__" = some (some (.ref f_gi)))
    (l_gi : K.lookup f_gi = some ⟨oc_gi, od_gi, .func (PySem.W.fnOf "__init__" "Given.__init__" (defArgs sGi) (defBody sGi) (defScope sGi) .none kV_gi dc_gi pm_gi an_gi cd_gi ct_gi), sl_gi⟩)
    (d_gi : PySem.W.codeIn K cd_gi "Given.__init__" = true)
    (k_gi : PySem.W.keepIn K (.ref f_gi) = true)
    (i_gi : PySem.W.isFn K (.ref f_gi) = true)
    {f_gt : Addr} {oc_gt kV_gt dc_gt pm_gt cd_gt ct_gt : Value} {od_gt an_gt : Option Addr} {sl_gt : Array (Option Value)}
    (n_gt : PySem.W.findIn K (.ref C) "__getitem__" = some (some (.ref f_gt)))
    (l_gt : K.lookup f_gt = some ⟨oc_gt, od_gt, .func (PySem.W.fnOf "__getitem__" "Program.__getitem__" (defArgs sGt) (defBody sGt) (defScope sGt) .none kV_gt dc_gt pm_gt an_gt cd_gt ct_gt), sl_gt⟩)
    (d_gt : PySem.W.codeIn K cd_gt "Program.__getitem__" = true)
    (k_gt : PySem.W.keepIn K (.ref f_gt) = true)
    (i_gt : PySem.W.isFn K (.ref f_gt) = true)
    {f_ct : Addr} {oc_ct kV_ct dc_ct pm_ct cd_ct ct_ct : Value} {od_ct an_ct : Option Addr} {sl_ct : Array (Option Value)}
    (n_ct : PySem.W.findIn K (.ref C) "__contains__" = some (some (.ref f_ct)))
    (l_ct : K.lookup f_ct = some ⟨oc_ct, od_ct, .func (PySem.W.fnOf "__contains__" "Program.__contains__" (defArgs sCt) (defBody sCt) (defScope sCt) .none kV_ct dc_ct pm_ct an_ct cd_ct ct_ct), sl_ct⟩)
    (d_ct : PySem.W.codeIn K cd_ct "Program.__contains__" = true)
    (k_ct : PySem.W.keepIn K (.ref f_ct) = true)
    (i_ct : PySem.W.isFn K (.ref f_ct) = true)
    {f_eq : Addr} {oc_eq kV_eq dc_eq pm_eq cd_eq ct_eq : Value} {od_eq an_eq : Option Addr} {sl_eq : Array (Option Value)}
    (n_eq : PySem.W.findIn K (.ref C) "__eq__" = some (some (.ref f_eq)))
    (l_eq : K.lookup f_eq = some ⟨oc_eq, od_eq, .func (PySem.W.fnOf "__eq__" "Program.__eq__" (defArgs sEq) (defBody sEq) (defScope sEq) .none kV_eq dc_eq pm_eq an_eq cd_eq ct_eq), sl_eq⟩)
    (d_eq : PySem.W.codeIn K cd_eq "Program.__eq__" = true)
    (k_eq : PySem.W.keepIn K (.ref f_eq) = true)
    (i_eq : PySem.W.isFn K (.ref f_eq) = true)
    {f_pi : Addr} {oc_pi kV_pi dc_pi pm_pi cd_pi ct_pi : Value} {od_pi an_pi : Option Addr} {sl_pi : Array (Option Value)}
    (n_pi : PySem.W.findIn K (.ref C) "__init__" = some (some (.ref f_pi)))
    (l_pi : K.lookup f_pi = some ⟨oc_pi, od_pi, .func (PySem.W.fnOf "__init__" "Program.__init__" (defArgs sPi) (defBody sPi) (defScope sPi) .none kV_pi dc_pi pm_pi an_pi cd_pi ct_pi), sl_pi⟩)
    (d_pi : PySem.W.codeIn K cd_pi "Program.__init__" = true)
    (k_pi : PySem.W.keepIn K (.ref f_pi) = true)
    (i_pi : PySem.W.isFn K (.ref f_pi) = true)
    (fi_gt : PySem.W.fnIn K f_gt = true)
    {f_na : Addr} {oc_na kV_na dc_na pm_na cd_na ct_na : Value} {od_na an_na : Option Addr} {sl_na : Array (Option Value)}
    {p_na : Addr} {r_na : List Value}
    (n_na : PySem.W.findIn K (.ref C) "names" = some (some (.ref p_na)))
    (g_na : PySem.W.specialIn K (.ref p_na) "__get__" = some (some (.builtin "property.__get__")))
    (t_na : PySem.W.takesIn K (.ref p_na) = some true)
    (r_nax : PySem.W.recIn K p_na "property" = some (.ref f_na :: r_na))
    (l_na : K.lookup f_na = some ⟨oc_na, od_na, .func (PySem.W.fnOf "names" "Program.names" (defArgs sNa) (defBody sNa) (defScope sNa) .none kV_na dc_na pm_na an_na cd_na ct_na), sl_na⟩)
    (d_na : PySem.W.codeIn K cd_na "Program.names" = true)
    (k_na : PySem.W.keepIn K (.ref f_na) = true)
    {f_ic : Addr} {oc_ic kV_ic dc_ic pm_ic cd_ic ct_ic : Value} {od_ic an_ic : Option Addr} {sl_ic : Array (Option Value)}
    {p_ic : Addr} {r_ic : List Value}
    (n_ic : PySem.W.findIn K (.ref C) "is_closed" = some (some (.ref p_ic)))
    (g_ic : PySem.W.specialIn K (.ref p_ic) "__get__" = some (some (.builtin "property.__get__")))
    (t_ic : PySem.W.takesIn K (.ref p_ic) = some true)
    (r_icx : PySem.W.recIn K p_ic "property" = some (.ref f_ic :: r_ic))
    (l_ic : K.lookup f_ic = some ⟨oc_ic, od_ic, .func (PySem.W.fnOf "is_closed" "Program.is_closed" (defArgs sIc) (defBody sIc) (defScope sIc) .none kV_ic dc_ic pm_ic an_ic cd_ic ct_ic), sl_ic⟩)
    (d_ic : PySem.W.codeIn K cd_ic "Program.is_closed" = true)
    (k_ic : PySem.W.keepIn K (.ref f_ic) = true)
    {f_of : Addr} {oc_of kV_of dc_of pm_of cd_of ct_of : Value} {od_of an_of : Option Addr} {sl_of : Array (Option Value)}
    {p_of : Addr} {r_of : List Value} {mc : Value}
    (y_of : PySem.W.typeIn K (.ref C) = some mc)
    (n_of : PySem.W.findCls K (.ref C) mc "of" = some (.get (.builtin "staticmethod.__get__") (.ref p_of) .none (.ref C)))
    (r_ofx : PySem.W.recIn K p_of "staticmethod" = some (.ref f_of :: r_of))
    (l_of : K.lookup f_of = some ⟨oc_of, od_of, .func (PySem.W.fnOf "of" "Program.of" (defArgs sPo) (defBody sPo) (defScope sPo) .none kV_of dc_of pm_of an_of cd_of ct_of), sl_of⟩)
    (d_of : PySem.W.codeIn K cd_of "Program.of" = true)
    (k_of : PySem.W.keepIn K (.ref f_of) = true)
    (s_of : smB K C mc p_of f_of = true)
    {f_pls : Addr} {oc_pls kV_pls dc_pls pm_pls cd_pls ct_pls : Value} {od_pls an_pls : Option Addr} {sl_pls : Array (Option Value)}
    {T_pls dT : Addr} {tc_pls : Value} {td_pls : Option Addr} {ti_pls : Array Value} {tn_pls : Nat} {ts_pls : Array (Option Value)} {te_pls : Option Addr} {tf_pls : Array Value} {tm_pls : Nat} {tq_pls : Array (Option Value)}
    (n_pls : PySem.W.nsIn K mainGlobals "placed_statements" = some (some (.ref f_pls)))
    (l_pls : K.lookup f_pls = some ⟨oc_pls, od_pls, .func (PySem.W.fnOf "placed_statements" "placed_statements" (defArgs sPls) (defBody sPls) (defScope sPls) (.ref T_pls) kV_pls dc_pls pm_pls an_pls cd_pls ct_pls), sl_pls⟩)
    (d_pls : PySem.W.codeIn K cd_pls "placed_statements" = true)
    (k_pls : PySem.W.keepIn K (.ref f_pls) = true)
    (T_plsx : K.lookup T_pls = some ⟨tc_pls, td_pls, .seq ti_pls tn_pls, ts_pls⟩)
    (v_pls : ti_pls = [Value.ref dT].toArray)
    (T_plsy : K.lookup dT = some ⟨.type "tuple", te_pls, .seq tf_pls tm_pls, tq_pls⟩)
    (w_pls : tf_pls = [].toArray)
    (z_int : PySem.W.nsIn K mainGlobals "int" = some none)
    (z_len : PySem.W.nsIn K mainGlobals "len" = some none)
    (z_abs : PySem.W.nsIn K mainGlobals "abs" = some none)
    (z_max : PySem.W.nsIn K mainGlobals "max" = some none)
    (z_min : PySem.W.nsIn K mainGlobals "min" = some none)
    (z_isinstance : PySem.W.nsIn K mainGlobals "isinstance" = some none)
    (z_range : PySem.W.nsIn K mainGlobals "range" = some none)
    (z_bool : PySem.W.nsIn K mainGlobals "bool" = some none)
    (z_tuple : PySem.W.nsIn K mainGlobals "tuple" = some none)
    (z_all : PySem.W.nsIn K mainGlobals "all" = some none)
    (z_any : PySem.W.nsIn K mainGlobals "any" = some none)
    (z_sum : PySem.W.nsIn K mainGlobals "sum" = some none)
    (z_enumerate : PySem.W.nsIn K mainGlobals "enumerate" = some none)
    (z_list : PySem.W.nsIn K mainGlobals "list" = some none)
    (z_str : PySem.W.nsIn K mainGlobals "str" = some none)
    (z_repr : PySem.W.nsIn K mainGlobals "repr" = some none)
    (z_sorted : PySem.W.nsIn K mainGlobals "sorted" = some none)
    (z_set : PySem.W.nsIn K mainGlobals "set" = some none)
    (z_dict : PySem.W.nsIn K mainGlobals "dict" = some none)
    (rC : pgB K C = true)
    (rG : ownB K CG = true)
    (mkC : mkB K C = true)
    (mkG : mkB K CG = true)
    (oC : oddB K C = true)
    (kC : kitB K C CG = true) :
    ∃ fd : FuncData, (∀ (s : Shared) (v : Value), BindsTo s fd ⟨[v], []⟩ [("_law_script", v)]) ∧ ∀ base : Heap, K.In base → base.Ns mainGlobals mg → FnOk l.prog w K mg base CX0 17 fa fd ["_law_script"] (spLaw K) := by
  have e := hfa.symm.trans (PySem.W.mg_of X G n_law)
  cases e
  have no : ∀ {x : Str}, PySem.W.nsIn K mainGlobals x = some none → mg x = none := fun z => PySem.W.mg_none_of X G z
  have at_ : ∀ {x : Str} {v : Value}, PySem.W.nsIn K mainGlobals x = some (some v) → mg x = some v := fun z => PySem.W.mg_of X G z
  have F_bin := fun_mk (st := sBin) l_bin d_bin k_bin
  have b_bin := F_bin.binds (ps := ["statement"]) fun _ _ _ _ _ _ us hl => match us, hl with | [_], _ => rfl
  have F_sof := fun_mk (st := sSof) l_sof d_sof k_sof
  have b_sof := F_sof.binds (ps := ["body", "word"]) fun _ _ _ _ _ _ us hl => match us, hl with | [_, _], _ => rfl
  have F_plain := fun_mk (st := sPlain) l_plain d_plain k_plain
  have b_plain := F_plain.binds (ps := ["value"]) fun _ _ _ _ _ _ us hl => match us, hl with | [_], _ => rfl
  have F_bet := fun_mk (st := sBet) l_bet d_bet k_bet
  have b_bet := F_bet.binds (ps := ["value", "least", "greatest"]) fun _ _ _ _ _ _ us hl => match us, hl with | [_, _, _], _ => rfl
  have F_nm := fun_mk (st := sNm) l_nm d_nm k_nm
  have b_nm := F_nm.binds (ps := ["value"]) fun _ _ _ _ _ _ us hl => match us, hl with | [_], _ => rfl
  have F_wt := fun_mk (st := sWt) l_wt d_wt k_wt
  have b_wt := F_wt.binds (ps := ["value"]) fun _ _ _ _ _ _ us hl => match us, hl with | [_], _ => rfl
  have F_br := fun_mk (st := sBr) l_br d_br k_br
  have b_br := F_br.binds (ps := ["value"]) fun _ _ _ _ _ _ us hl => match us, hl with | [_], _ => rfl
  have F_inn := fun_mk (st := sInn) l_inn d_inn k_inn
  have b_inn := F_inn.binds (ps := ["value"]) fun _ _ _ _ _ _ us hl => match us, hl with | [_], _ => rfl
  have F_lb := fun_mk (st := sLb) l_lb d_lb k_lb
  have b_lb := F_lb.binds (ps := ["value", "depth", "left"]) fun _ _ _ _ _ _ us hl => match us, hl with | [_, _, _], _ => rfl
  have F_ib := fun_mk (st := sIb) l_ib d_ib k_ib
  have b_ib := F_ib.binds (ps := ["value"]) fun _ _ _ _ _ _ us hl => match us, hl with | [_], _ => rfl
  have F_nc := fun_mk (st := sNc) l_nc d_nc k_nc
  have b_nc := F_nc.binds (ps := ["body"]) fun _ _ _ _ _ _ us hl => match us, hl with | [_], _ => rfl
  have F_ap := fun_mk (st := sAp) l_ap d_ap k_ap
  have b_ap := F_ap.binds (ps := ["bodies"]) fun _ _ _ _ _ _ us hl => match us, hl with | [_], _ => rfl
  have F_cn := fun_mk (st := sCn) l_cn d_cn k_cn
  have b_cn := F_cn.binds (ps := ["free", "name"]) fun _ _ _ _ _ _ us hl => match us, hl with | [_, _], _ => rfl
  have F_cf := fun_mk (st := sCf) l_cf d_cf k_cf
  have b_cf := F_cf.binds (ps := ["free"]) fun _ _ _ _ _ _ us hl => match us, hl with | [_], _ => rfl
  have F_cc := fun_mk (st := sCc) l_cc d_cc k_cc
  have b_cc := F_cc.binds (ps := ["program"]) fun _ _ _ _ _ _ us hl => match us, hl with | [_], _ => rfl
  have F_co := fun_mk (st := sCo) l_co d_co k_co
  have b_co := F_co.binds (ps := ["free", "name"]) fun _ _ _ _ _ _ us hl => match us, hl with | [_, _], _ => rfl
  have F_iw := fun_mk (st := sIw) l_iw d_iw k_iw
  have b_iw := F_iw.binds (ps := ["free", "name"]) fun _ _ _ _ _ _ us hl => match us, hl with | [_, _], _ => rfl
  have F_am := fun_mk (st := sAm) l_am d_am k_am
  have b_am := F_am.binds (ps := ["free", "able"]) fun _ _ _ _ _ _ us hl => match us, hl with | [_, _], _ => rfl
  have F_bc := fun_mk (st := sBc) l_bc d_bc k_bc
  have b_bc := F_bc.binds (ps := ["body", "able"]) fun _ _ _ _ _ _ us hl => match us, hl with | [_, _], _ => rfl
  have F_sc := fun_mk (st := sSc) l_sc d_sc k_sc
  have b_sc := F_sc.binds (ps := ["statement", "able"]) fun _ _ _ _ _ _ us hl => match us, hl with | [_, _], _ => rfl
  have F_aa := fun_mk (st := sAa) l_aa d_aa k_aa
  have b_aa := F_aa.binds (ps := ["free"]) fun _ _ _ _ _ _ us hl => match us, hl with | [_], _ => rfl
  have F_ce := fun_mk (st := sCe) l_ce d_ce k_ce
  have b_ce := F_ce.binds (ps := ["program"]) fun _ _ _ _ _ _ us hl => match us, hl with | [_], _ => rfl
  have F_dice := fun_mk (st := LD.sDice) l_dice d_dice k_dice
  have b_dice := F_dice.binds (ps := ["_law_script", "_law_at"]) fun _ _ _ _ _ _ us hl => match us, hl with | [_, _], _ => rfl
  have F_roll := fun_mk (st := LD.sRoll) l_roll d_roll k_roll
  have b_roll := F_roll.binds (ps := ["_law_dice_here", "_law_total"]) fun _ _ _ _ _ _ us hl => match us, hl with | [_, _], _ => rfl
  have F_one := fun_mk (st := LD.sOneOf) l_one d_one k_one
  have b_one := F_one.binds (ps := ["_law_dice_here", "_law_items"]) fun _ _ _ _ _ _ us hl => match us, hl with | [_, _], _ => rfl
  have F_mx := fun_mk (st := sMx) l_mx d_mx k_mx
  have b_mx := F_mx.binds (ps := ["_law_dice_here", "_law_items"]) fun _ _ _ _ _ _ us hl => match us, hl with | [_, _], _ => rfl
  have F_we := fun_mk (st := sWe) l_we d_we k_we
  have b_we := F_we.binds (ps := ["_law_dice_here"]) fun _ _ _ _ _ _ us hl => match us, hl with | [_], _ => rfl
  have F_ls := fun_mk (st := sLs) l_ls d_ls k_ls
  have b_ls := F_ls.binds (ps := ["_law_dice_here", "_law_deep", "_law_names", "_law_room", "_law_extra"]) fun _ _ _ _ _ _ us hl => match us, hl with | [_, _, _, _, _], _ => rfl
  have F_ly := fun_mk (st := sLy) l_ly d_ly k_ly
  have b_ly := F_ly.binds (ps := ["_law_dice_here", "_law_deep", "_law_names", "_law_room", "_law_extra"]) fun _ _ _ _ _ _ us hl => match us, hl with | [_, _, _, _, _], _ => rfl
  have F_lo := fun_mk (st := sLo) l_lo d_lo k_lo
  have b_lo := F_lo.binds (ps := ["_law_dice_here", "_law_much", "_law_extra"]) fun _ _ _ _ _ _ us hl => match us, hl with | [_, _, _], _ => rfl
  have F_li := fun_mk (st := sLi) l_li d_li k_li
  have b_li := F_li.binds (ps := ["_law_statement_here"]) fun _ _ _ _ _ _ us hl => match us, hl with | [_], _ => rfl
  have F_lr := fun_mk (st := sLr) l_lr d_lr k_lr
  have b_lr := F_lr.binds (ps := ["_law_body_here"]) fun _ _ _ _ _ _ us hl => match us, hl with | [_], _ => rfl
  have F_qc := fun_mk (st := sQc) l_qc d_qc k_qc
  have b_qc := F_qc.binds (ps := ["_law_body_here"]) fun _ _ _ _ _ _ us hl => match us, hl with | [_], _ => rfl
  have F_qe := fun_mk (st := sQe) l_qe d_qe k_qe
  have b_qe := F_qe.binds (ps := ["_law_body_here", "_law_known"]) fun _ _ _ _ _ _ us hl => match us, hl with | [_, _], _ => rfl
  have F_en := fun_mk (st := sEn) l_en d_en k_en
  have b_en := F_en.binds (ps := ["_law_bodies_here"]) fun _ _ _ _ _ _ us hl => match us, hl with | [_], _ => rfl
  have F_wa := fun_mk (st := sWa) l_wa d_wa k_wa
  have b_wa := F_wa.binds (ps := ["_law_body_here"]) fun _ _ _ _ _ _ us hl => match us, hl with | [_], _ => rfl
  have F_sh := fun_mk (st := sSh) l_sh d_sh k_sh
  have b_sh := F_sh.binds (ps := ["_law_bodies_here"]) fun _ _ _ _ _ _ us hl => match us, hl with | [_], _ => rfl
  have F_lw := fun_mk (st := sLw) l_lw d_lw k_lw
  have b_lw := F_lw.binds (ps := ["_law_dice_here"]) fun _ _ _ _ _ _ us hl => match us, hl with | [_], _ => rfl
  have F_law := fun_mk (st := sLaw) l_law d_law k_law
  have b_law := F_law.binds (ps := ["_law_script"]) fun _ _ _ _ _ _ us hl => match us, hl with | [_], _ => rfl
  have F_gi := fun_mk (st := sGi) l_gi d_gi k_gi
  have b_gi := F_gi.binds (ps := ["self", "table"]) fun _ _ _ _ _ _ us hl => match us, hl with | [_, _], _ => rfl
  have F_gt := fun_mk (st := sGt) l_gt d_gt k_gt
  have b_gt := F_gt.binds (ps := ["self", "at"]) fun _ _ _ _ _ _ us hl => match us, hl with | [_, _], _ => rfl
  have F_ct := fun_mk (st := sCt) l_ct d_ct k_ct
  have b_ct := F_ct.binds (ps := ["self", "value"]) fun _ _ _ _ _ _ us hl => match us, hl with | [_, _], _ => rfl
  have F_eq := fun_mk (st := sEq) l_eq d_eq k_eq
  have b_eq := F_eq.binds (ps := ["self", "other"]) fun _ _ _ _ _ _ us hl => match us, hl with | [_, _], _ => rfl
  have F_na := fun_mk (st := sNa) l_na d_na k_na
  have b_na := F_na.binds (ps := ["self"]) fun _ _ _ _ _ _ us hl => match us, hl with | [_], _ => rfl
  have F_ic := fun_mk (st := sIc) l_ic d_ic k_ic
  have b_ic := F_ic.binds (ps := ["self"]) fun _ _ _ _ _ _ us hl => match us, hl with | [_], _ => rfl
  have F_of := fun_mk (st := sPo) l_of d_of k_of
  have b_of := F_of.binds (ps := ["bodies"]) fun _ _ _ _ _ _ us hl => match us, hl with | [_], _ => rfl
  have F_pi := fun_mk (st := sPi) l_pi d_pi k_pi
  have R := pg_of rC
  have oG := own_of rG
  obtain ⟨neC, nfC⟩ := oddk_of oC
  simp only [mkB, Bool.and_eq_true] at mkC mkG
  simp only [kitB, Bool.and_eq_true, beq_iff_eq] at kC
  obtain ⟨kt1, kt2, kt3, kt4⟩ := kC
  simp only [smB, Bool.and_eq_true, beq_iff_eq] at s_of
  have TD : LD.TxtD mg := ⟨no z_int, no z_len, no z_abs, no z_max⟩
  have TD8 : FR.TxtD mg := ⟨no z_isinstance, no z_dict, no z_len, no z_all, no z_sum⟩
  have TN : TxtN mg := ⟨no z_isinstance, no z_str, no z_len, no z_all, ⟨_, at_ aML⟩, ⟨_, at_ aLT⟩⟩
  have TI : TxtI mg := ⟨no z_isinstance, no z_tuple, no z_str, no z_len, no z_all⟩
  have TP : TxtP mg := ⟨no z_isinstance, no z_sorted, no z_len, no z_tuple⟩
  have TQ : TxtQ mg := ⟨no z_isinstance, no z_str, no z_len, no z_tuple, no z_dict⟩
  have TW : TxtW mg := ⟨no z_tuple, no z_list, no z_repr⟩
  have TL : TxtLw mg := ⟨no z_range, no z_max, no z_min, no z_len, no z_dict, no z_list⟩
  subst v_pls w_pls
  have F_pls : FunD K "placed_statements" "placed_statements" (defArgs sPls) (defBody sPls) (defScope sPls) [V.ref dT] [] f_pls _ := ⟨⟨oc_pls, od_pls, .ref T_pls, kV_pls, dc_pls, pm_pls, an_pls, cd_pls, ct_pls, sl_pls, rfl, l_pls, d_pls, .inr ⟨List.cons_ne_nil _ _, T_pls, _, [.ref dT], tn_pls, rfl, T_plsx, rfl, .cons rfl .nil⟩, .inl rfl⟩, k_pls⟩
  obtain ⟨⟨ds_pls, v_pls, b1_pls⟩, b2_pls⟩ := pls_binds F_pls
  have hT : ∀ H, SqT K H dT [] := fun H => .inr ⟨_, _, _, T_plsy, rfl, rfl, Nat.zero_le _, .nil⟩
  refine ⟨PySem.W.fnOf "law" "law" (defArgs sLaw) (defBody sLaw) (defScope sLaw) .none kV_law dc_law pm_law an_law cd_law ct_law, fun s v => .of_eq rfl, fun base _ _ => ?_⟩
  have GPl : FnOk l.prog w K mg base CX0 1 f_plain _ ["value"] (spPlain K) := ok_plain F_plain (no z_isinstance) (no z_int) (no z_bool)
  have gBet : Glo l.prog w K mg base "is_between" 2 ["value", "least", "greatest"] spBetX := ⟨_, _, ok_betX F_bet GPl (at_ n_plain) k_plain b_plain, at_ n_bet, k_bet, b_bet⟩
  have gNm : Glo l.prog w K mg base "is_name" 3 ["value"] (spNm K) := ⟨_, _, ok_nm F_nm TN gBet, at_ n_nm, k_nm, b_nm⟩
  have gWt : Glo l.prog w K mg base "_is_weight" 3 ["value"] spWt := ⟨_, _, ok_wt F_wt (at_ aMW) gBet, at_ n_wt, k_wt, b_wt⟩
  have gBr : Glo l.prog w K mg base "_is_branch" 4 ["value"] spBr := ⟨_, _, ok_br F_br TI gWt, at_ n_br, k_br, b_br⟩
  have gInn : ∀ n, Glo l.prog w K mg base "_inner_of" 5 ["value"] (spInn n) := fun n => ⟨_, _, ok_inn F_inn TI gBet gNm gWt gBr, at_ n_inn, k_inn, b_inn⟩
  have gLb : Glo l.prog w K mg base "_left_behind" 10 ["value", "depth", "left"] (spLb 5) := ⟨_, _, ok_left F_lb TI gInn (at_ n_lb) k_lb b_lb 5, at_ n_lb, k_lb, b_lb⟩
  have gIb : Glo l.prog w K mg base "is_body" 11 ["value"] spIb := ⟨_, _, ok_ib F_ib (at_ aMD) (at_ aMS) gLb, at_ n_ib, k_ib, b_ib⟩
  have gBin : ∀ n, Glo l.prog w K mg base "bodies_in" 1 ["statement"] (spBin n) := fun n => ⟨_, _, ok_bin F_bin (no z_tuple), at_ n_bin, k_bin, b_bin⟩
  have GPls : FnOk l.prog w K mg base CX0 6 f_pls _ ["body", "path"] (spPls K 5) := ok_placed F_pls gBin (at_ n_pls) k_pls b2_pls (no z_enumerate) 5
  have gSof : Glo l.prog w K mg base "statements_of" 7 ["body", "word"] (spSof K 5) := ⟨_, _, ok_sof F_sof GPls (at_ n_pls) k_pls b1_pls v_pls hT, at_ n_sof, k_sof, b_sof⟩
  have gNc : Glo l.prog w K mg base "_names_called" 8 ["body"] (spNc K) := ⟨_, _, ok_nc F_nc gSof, at_ n_nc, k_nc, b_nc⟩
  have gAp : Glo l.prog w K mg base "_are_program" 12 ["bodies"] spAp := ⟨_, _, ok_ap F_ap TD8 (at_ aMP) (at_ aMS) gBet gNm gIb gNc GPls (at_ n_pls) k_pls b1_pls v_pls hT, at_ n_ap, k_ap, b_ap⟩
  have M : Mk K C f_pi := ⟨mkC.1, n_pi, i_pi, mkC.2⟩
  have MG : Mk K CG f_gi := ⟨mkG.1, n_gi, i_gi, mkG.2⟩
  have GG : FnOk l.prog w K mg base CX0 1 f_gi _ ["self", "table"] (spGi CG) := ok_gi F_gi oG.cl kt4
  have GR1 : FnRs l.prog w K mg base 13 f_pi ["_given"] (spPi K C CG) := ok_pis GPls (at_ n_pls) k_pls b1_pls v_pls hT R oG kt4 kt1 kt2 TP (at_ aG) gAp F_pi (by decide +kernel) (by decide +kernel) (by decide)
  have GR2 : FnRs l.prog w K mg base 13 f_pi ["x", "y", "z"] (spPi K C CG) := ok_pis GPls (at_ n_pls) k_pls b1_pls v_pls hT R oG kt4 kt1 kt2 TP (at_ aG) gAp F_pi (by decide +kernel) (by decide +kernel) (by decide)
  have GR3 : FnRs l.prog w K mg base 13 f_pi ["a", "b", "c", "d"] (spPi K C CG) := ok_pis GPls (at_ n_pls) k_pls b1_pls v_pls hT R oG kt4 kt1 kt2 TP (at_ aG) gAp F_pi (by decide +kernel) (by decide +kernel) (by decide)
  have gOf : OfG l.prog w K mg base C := ⟨f_of, _, ok_of F_of M GR1 (at_ aC) MG GG (at_ aG) b_gi, b_of, mc, p_of, ⟨s_of.1.1, s_of.1.2⟩, ⟨n_of, ⟨_, r_ofx⟩, s_of.2.1, s_of.2.2⟩⟩
  have mCt : Met l.prog w K mg base C "__contains__" 1 ["self", "value"] (spCt K C) := ⟨_, _, ⟨n_ct, i_ct⟩, k_ct, ok_ct F_ct R TQ, b_ct⟩
  have mEq : Met l.prog w K mg base C "__eq__" 1 ["self", "other"] (spEq K C) := ⟨_, _, ⟨n_eq, i_eq⟩, k_eq, ok_eq F_eq R TQ (at_ aC) kt3, b_eq⟩
  have pna : PMet l.prog w K mg base C "names" 1 ["self"] (spNa K C) := ⟨p_na, f_na, _, ⟨n_na, g_na, t_na, ⟨_, r_nax⟩⟩, ok_na F_na R TQ, b_na⟩
  have pic : PMet l.prog w K mg base C "is_closed" 1 ["self"] (spIc K C) := ⟨p_ic, f_ic, _, ⟨n_ic, g_ic, t_ic, ⟨_, r_icx⟩⟩, ok_ic F_ic R TQ, b_ic⟩
  have gCn : Glo l.prog w K mg base "check_name" 2 ["free", "name"] (spCn K C) := ⟨_, _, ok_cn F_cn mCt, at_ n_cn, k_cn, b_cn⟩
  have GGt : FnOk l.prog w K mg base CX0 3 f_gt _ ["self", "at"] (spGt K C) := ok_gt F_gt R gCn
  obtain ⟨mGt, eGt⟩ : ∃ m : Met l.prog w K mg base C "__getitem__" 3 ["self", "at"] (spGt K C), m.f = f_gt := ⟨⟨f_gt, _, ⟨n_gt, i_gt⟩, k_gt, GGt, b_gt⟩, rfl⟩
  have hfi : PySem.W.fnIn K mGt.f = true := by rw [eGt]; exact fi_gt
  have gCf : Glo l.prog w K mg base "check_free" 1 ["free"] (spCf K C) := ⟨_, _, ok_cf F_cf R (no z_isinstance) (at_ aC) kt3, at_ n_cf, k_cf, b_cf⟩
  have gCc : Glo l.prog w K mg base "check_closed" 3 ["program"] (spCc K C) := ⟨_, _, ok_cc F_cc R gCf pic, at_ n_cc, k_cc, b_cc⟩
  have gCo : Glo l.prog w K mg base "calls_of" 9 ["free", "name"] (spCo K C) := ⟨_, _, ok_co F_co (no z_tuple) (no z_sorted) (no z_set) gCf gCn gNc mGt hfi, at_ n_co, k_co, b_co⟩
  have gIw : Glo l.prog w K mg base "is_whole" 8 ["free", "name"] (spIw K C) := ⟨_, _, ok_iw F_iw (no z_len) gCf gCn gSof mGt hfi, at_ n_iw, k_iw, b_iw⟩
  have gBc : Glo l.prog w K mg base "_body_can_end" 11 ["body", "able"] (spBc K 5) := ⟨_, _, ok_ends F_bc F_sc (no z_all) (no z_any) gBin (at_ n_bc) k_bc b_bc (at_ n_sc) k_sc b_sc 5, at_ n_bc, k_bc, b_bc⟩
  have gAm : Glo l.prog w K mg base "_able_more" 12 ["free", "able"] (spAm K C) := ⟨_, _, ok_am F_am R pna gBc mGt hfi, at_ n_am, k_am, b_am⟩
  have gAa : Glo l.prog w K mg base "always_able" 13 ["free"] (spAa K C) := ⟨_, _, ok_aa F_aa (no z_len) (no z_tuple) (no z_sorted) gAm, at_ n_aa, k_aa, b_aa⟩
  have gCe : Glo l.prog w K mg base "can_end" 14 ["program"] (spCe K C) := ⟨_, _, ok_ce F_ce gCc gAa, at_ n_ce, k_ce, b_ce⟩
  have gR : Glo l.prog w K mg base "_law_roll" 1 ["_law_dice_here", "_law_total"] spRoll := ⟨_, _, ok_roll F_roll TD.mI, at_ n_roll, k_roll, b_roll⟩
  have gO : Glo l.prog w K mg base "_law_one_of" 2 ["_law_dice_here", "_law_items"] spOneOf := ⟨_, _, ok_oneOf F_one TD F_roll (at_ n_roll) k_roll b_roll, at_ n_one, k_one, b_one⟩
  have gD : Glo l.prog w K mg base "_law_dice" 1 ["_law_script", "_law_at"] (spDice K) := ⟨_, _, ok_dice F_dice TD, at_ n_dice, k_dice, b_dice⟩
  have gX : Glo l.prog w K mg base "_law_mixed" 2 ["_law_dice_here", "_law_items"] spMx := ⟨_, _, ok_mx F_mx TD (no z_list) (no z_range) gR, at_ n_mx, k_mx, b_mx⟩
  have gWe : Glo l.prog w K mg base "_law_weight" 3 ["_law_dice_here"] spWe := ⟨_, _, ok_we F_we gO, at_ n_we, k_we, b_we⟩
  have dr := ok_draw F_ls F_ly (no z_range) (no z_tuple) gR gO gWe (at_ n_ly) k_ly b_ly (at_ n_ls) k_ls b_ls
  have GLy : FnOk l.prog w K mg base CX0 9 f_ly _ P5 spLyA := fn_or ((dr 2).1.mono (by decide)) (dr 3).1
  have gLo : Glo l.prog w K mg base "_law_bodies" 10 ["_law_dice_here", "_law_much", "_law_extra"] spLo := ⟨_, _, ok_lo F_lo (no z_sorted) gR gX GLy (at_ n_ly) k_ly b_ly, at_ n_lo, k_lo, b_lo⟩
  have gLi : ∀ n, Glo l.prog w K mg base "_law_inner" 1 ["_law_statement_here"] (spLi n) := fun n => ⟨_, _, ok_li F_li (no z_list), at_ n_li, k_li, b_li⟩
  have gLr : Glo l.prog w K mg base "_law_sorts" 6 ["_law_body_here"] (spLr 5) := ⟨_, _, ok_sorts F_lr gLi (at_ n_lr) k_lr b_lr 5, at_ n_lr, k_lr, b_lr⟩
  have gQc : Glo l.prog w K mg base "_law_called" 7 ["_law_body_here"] spQc := ⟨_, _, ok_qc F_qc (no z_sorted) (no z_set) gLr, at_ n_qc, k_qc, b_qc⟩
  have gQe : Glo l.prog w K mg base "_law_can_end" 6 ["_law_body_here", "_law_known"] (spQe K 5) := ⟨_, _, ok_qes F_qe gLi (at_ n_qe) k_qe b_qe 5, at_ n_qe, k_qe, b_qe⟩
  have gEn : Glo l.prog w K mg base "_law_enders" 7 ["_law_bodies_here"] spEn := ⟨_, _, ok_en F_en (no z_len) (no z_sorted) gQe, at_ n_en, k_en, b_en⟩
  have gWa : Glo l.prog w K mg base "_law_ways" 6 ["_law_body_here"] (spWa 5) := ⟨_, _, ok_ways F_wa (at_ n_wa) k_wa b_wa 5, at_ n_wa, k_wa, b_wa⟩
  have gSh : Glo l.prog w K mg base "_law_shown" 7 ["_law_bodies_here"] spSh := ⟨_, _, ok_sh F_sh (no z_len) (no z_sorted) gWa, at_ n_sh, k_sh, b_sh⟩
  have gLw : Glo l.prog w K mg base "_law_right" 16 ["_law_dice_here"] spLw := ⟨_, _, ok_lw F_lw R TW neC nfC (at_ aC) gOf gR gLo gLr gCo gQc gIw gCe gEn gSh pic mEq, at_ n_lw, k_lw, b_lw⟩
  exact ok_law F_law R TL (at_ aC) M GR2 GR3 gOf gD gLw gCo gIw gCe pna
end FR
open PySem PySem.W PyProof.Rows
set_option Elab.async false
set_option maxRecDepth 100000 in
set_option maxHeartbeats 0 in
theorem PySem.Challenge.cw_surelyends_k12_calls_and_ends_holds : PySem.Challenge.rw_surelyends_k12_calls_and_ends.Holds := by
  w_on; o_law; k_head; (case hw => w_witness2)
  k_fill
  refine L2.walk_of (l := PySem.Challenge.rw_surelyends_k12_calls_and_ends) (n := 63) (k := 17) (x := "_law_script") (CX := fun _ => L2.CX0) (sp := fun w => FR.spLaw _) rfl (by decide) rfl ⟨rfl, by decide, by decide⟩ (fun w h Y => PySem.W.kIn_of Y) ?F (fun _ _ a ns hl _ hS => ⟨a, ns, rfl, hS, fun _ => rfl⟩) fun _ _ _ _ _ z => z
  case F =>
    intro w mg fa h KX G hmg
    refine' FR.all_mk KX G hmg ?aC ?aG ?aMP ?aMS ?aMD ?aMW ?aML ?aLT ?n_bin ?l_bin ?d_bin ?k_bin ?n_sof ?l_sof ?d_sof ?k_sof ?n_plain ?l_plain ?d_plain ?k_plain ?n_bet ?l_bet ?d_bet ?k_bet ?n_nm ?l_nm ?d_nm ?k_nm ?n_wt ?l_wt ?d_wt ?k_wt ?n_br ?l_br ?d_br ?k_br ?n_inn ?l_inn ?d_inn ?k_inn ?n_lb ?l_lb ?d_lb ?k_lb ?n_ib ?l_ib ?d_ib ?k_ib ?n_nc ?l_nc ?d_nc ?k_nc ?n_ap ?l_ap ?d_ap ?k_ap ?n_cn ?l_cn ?d_cn ?k_cn ?n_cf ?l_cf ?d_cf ?k_cf ?n_cc ?l_cc ?d_cc ?k_cc ?n_co ?l_co ?d_co ?k_co ?n_iw ?l_iw ?d_iw ?k_iw ?n_am ?l_am ?d_am ?k_am ?n_bc ?l_bc ?d_bc ?k_bc ?n_sc ?l_sc ?d_sc ?k_sc ?n_aa ?l_aa ?d_aa ?k_aa ?n_ce ?l_ce ?d_ce ?k_ce ?n_dice ?l_dice ?d_dice ?k_dice ?n_roll ?l_roll ?d_roll ?k_roll ?n_one ?l_one ?d_one ?k_one ?n_mx ?l_mx ?d_mx ?k_mx ?n_we ?l_we ?d_we ?k_we ?n_ls ?l_ls ?d_ls ?k_ls ?n_ly ?l_ly ?d_ly ?k_ly ?n_lo ?l_lo ?d_lo ?k_lo ?n_li ?l_li ?d_li ?k_li ?n_lr ?l_lr ?d_lr ?k_lr ?n_qc ?l_qc ?d_qc ?k_qc ?n_qe ?l_qe ?d_qe ?k_qe ?n_en ?l_en ?d_en ?k_en ?n_wa ?l_wa ?d_wa ?k_wa ?n_sh ?l_sh ?d_sh ?k_sh ?n_lw ?l_lw ?d_lw ?k_lw ?n_law ?l_law ?d_law ?k_law ?n_gi ?l_gi ?d_gi ?k_gi ?i_gi ?n_gt ?l_gt ?d_gt ?k_gt ?i_gt ?n_ct ?l_ct ?d_ct ?k_ct ?i_ct ?n_eq ?l_eq ?d_eq ?k_eq ?i_eq ?n_pi ?l_pi ?d_pi ?k_pi ?i_pi ?fi_gt ?n_na ?g_na ?t_na ?r_nax ?l_na ?d_na ?k_na ?n_ic ?g_ic ?t_ic ?r_icx ?l_ic ?d_ic ?k_ic ?y_of ?n_of ?r_ofx ?l_of ?d_of ?k_of ?s_of ?n_pls ?l_pls ?d_pls ?k_pls ?T_plsx ?v_pls ?T_plsy ?w_pls ?z_int ?z_len ?z_abs ?z_max ?z_min ?z_isinstance ?z_range ?z_bool ?z_tuple ?z_all ?z_any ?z_sum ?z_enumerate ?z_list ?z_str ?z_repr ?z_sorted ?z_set ?z_dict ?rC ?rG ?mkC ?mkG ?oC ?kC
    (case aC => k_is)
    (case aG => k_is)
    (case aMP => k_is)
    (case aMS => k_is)
    (case aMD => k_is)
    (case aMW => k_is)
    (case aML => k_is)
    (case aLT => k_is)
    (case n_bin => k_is)
    (case l_bin => k_is)
    (case d_bin => k_is)
    (case k_bin => k_is)
    (case n_sof => k_is)
    (case l_sof => k_is)
    (case d_sof => k_is)
    (case k_sof => k_is)
    (case n_plain => k_is)
    (case l_plain => k_is)
    (case d_plain => k_is)
    (case k_plain => k_is)
    (case n_bet => k_is)
    (case l_bet => k_is)
    (case d_bet => k_is)
    (case k_bet => k_is)
    (case n_nm => k_is)
    (case l_nm => k_is)
    (case d_nm => k_is)
    (case k_nm => k_is)
    (case n_wt => k_is)
    (case l_wt => k_is)
    (case d_wt => k_is)
    (case k_wt => k_is)
    (case n_br => k_is)
    (case l_br => k_is)
    (case d_br => k_is)
    (case k_br => k_is)
    (case n_inn => k_is)
    (case l_inn => k_is)
    (case d_inn => k_is)
    (case k_inn => k_is)
    (case n_lb => k_is)
    (case l_lb => k_is)
    (case d_lb => k_is)
    (case k_lb => k_is)
    (case n_ib => k_is)
    (case l_ib => k_is)
    (case d_ib => k_is)
    (case k_ib => k_is)
    (case n_nc => k_is)
    (case l_nc => k_is)
    (case d_nc => k_is)
    (case k_nc => k_is)
    (case n_ap => k_is)
    (case l_ap => k_is)
    (case d_ap => k_is)
    (case k_ap => k_is)
    (case n_cn => k_is)
    (case l_cn => k_is)
    (case d_cn => k_is)
    (case k_cn => k_is)
    (case n_cf => k_is)
    (case l_cf => k_is)
    (case d_cf => k_is)
    (case k_cf => k_is)
    (case n_cc => k_is)
    (case l_cc => k_is)
    (case d_cc => k_is)
    (case k_cc => k_is)
    (case n_co => k_is)
    (case l_co => k_is)
    (case d_co => k_is)
    (case k_co => k_is)
    (case n_iw => k_is)
    (case l_iw => k_is)
    (case d_iw => k_is)
    (case k_iw => k_is)
    (case n_am => k_is)
    (case l_am => k_is)
    (case d_am => k_is)
    (case k_am => k_is)
    (case n_bc => k_is)
    (case l_bc => k_is)
    (case d_bc => k_is)
    (case k_bc => k_is)
    (case n_sc => k_is)
    (case l_sc => k_is)
    (case d_sc => k_is)
    (case k_sc => k_is)
    (case n_aa => k_is)
    (case l_aa => k_is)
    (case d_aa => k_is)
    (case k_aa => k_is)
    (case n_ce => k_is)
    (case l_ce => k_is)
    (case d_ce => k_is)
    (case k_ce => k_is)
    (case n_dice => k_is)
    (case l_dice => k_is)
    (case d_dice => k_is)
    (case k_dice => k_is)
    (case n_roll => k_is)
    (case l_roll => k_is)
    (case d_roll => k_is)
    (case k_roll => k_is)
    (case n_one => k_is)
    (case l_one => k_is)
    (case d_one => k_is)
    (case k_one => k_is)
    (case n_mx => k_is)
    (case l_mx => k_is)
    (case d_mx => k_is)
    (case k_mx => k_is)
    (case n_we => k_is)
    (case l_we => k_is)
    (case d_we => k_is)
    (case k_we => k_is)
    (case n_ls => k_is)
    (case l_ls => k_is)
    (case d_ls => k_is)
    (case k_ls => k_is)
    (case n_ly => k_is)
    (case l_ly => k_is)
    (case d_ly => k_is)
    (case k_ly => k_is)
    (case n_lo => k_is)
    (case l_lo => k_is)
    (case d_lo => k_is)
    (case k_lo => k_is)
    (case n_li => k_is)
    (case l_li => k_is)
    (case d_li => k_is)
    (case k_li => k_is)
    (case n_lr => k_is)
    (case l_lr => k_is)
    (case d_lr => k_is)
    (case k_lr => k_is)
    (case n_qc => k_is)
    (case l_qc => k_is)
    (case d_qc => k_is)
    (case k_qc => k_is)
    (case n_qe => k_is)
    (case l_qe => k_is)
    (case d_qe => k_is)
    (case k_qe => k_is)
    (case n_en => k_is)
    (case l_en => k_is)
    (case d_en => k_is)
    (case k_en => k_is)
    (case n_wa => k_is)
    (case l_wa => k_is)
    (case d_wa => k_is)
    (case k_wa => k_is)
    (case n_sh => k_is)
    (case l_sh => k_is)
    (case d_sh => k_is)
    (case k_sh => k_is)
    (case n_lw => k_is)
    (case l_lw => k_is)
    (case d_lw => k_is)
    (case k_lw => k_is)
    (case n_law => k_is)
    (case l_law => k_is)
    (case d_law => k_is)
    (case k_law => k_is)
    (case n_gi => k_is)
    (case l_gi => k_is)
    (case d_gi => k_is)
    (case k_gi => k_is)
    (case i_gi => k_is)
    (case n_gt => k_is)
    (case l_gt => k_is)
    (case d_gt => k_is)
    (case k_gt => k_is)
    (case i_gt => k_is)
    (case n_ct => k_is)
    (case l_ct => k_is)
    (case d_ct => k_is)
    (case k_ct => k_is)
    (case i_ct => k_is)
    (case n_eq => k_is)
    (case l_eq => k_is)
    (case d_eq => k_is)
    (case k_eq => k_is)
    (case i_eq => k_is)
    (case n_pi => k_is)
    (case l_pi => k_is)
    (case d_pi => k_is)
    (case k_pi => k_is)
    (case i_pi => k_is)
    (case fi_gt => k_is)
    (case n_na => k_is)
    (case g_na => k_is)
    (case t_na => k_is)
    (case r_nax => k_is)
    (case l_na => k_is)
    (case d_na => k_is)
    (case k_na => k_is)
    (case n_ic => k_is)
    (case g_ic => k_is)
    (case t_ic => k_is)
    (case r_icx => k_is)
    (case l_ic => k_is)
    (case d_ic => k_is)
    (case k_ic => k_is)
    (case y_of => k_is)
    (case n_of => k_is)
    (case r_ofx => k_is)
    (case l_of => k_is)
    (case d_of => k_is)
    (case k_of => k_is)
    (case s_of => kernel_rfl)
    (case n_pls => k_is)
    (case l_pls => k_is)
    (case d_pls => k_is)
    (case k_pls => k_is)
    (case T_plsx => k_is)
    (case v_pls => rfl)
    (case T_plsy => k_is)
    (case w_pls => rfl)
    (case z_int => k_is)
    (case z_len => k_is)
    (case z_abs => k_is)
    (case z_max => k_is)
    (case z_min => k_is)
    (case z_isinstance => k_is)
    (case z_range => k_is)
    (case z_bool => k_is)
    (case z_tuple => k_is)
    (case z_all => k_is)
    (case z_any => k_is)
    (case z_sum => k_is)
    (case z_enumerate => k_is)
    (case z_list => k_is)
    (case z_str => k_is)
    (case z_repr => k_is)
    (case z_sorted => k_is)
    (case z_set => k_is)
    (case z_dict => k_is)
    (case rC => kernel_rfl)
    (case rG => kernel_rfl)
    (case mkC => kernel_rfl)
    (case mkG => kernel_rfl)
    (case oC => kernel_rfl)
    (case kC => kernel_rfl)
