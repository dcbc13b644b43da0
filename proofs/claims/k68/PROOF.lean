import PyProof.Rows.All
import Wide.All
import OpenK.AllK
import Wide.FinOn
import KE.KOpsOwn
import KE.KCallOwn
import HandS.ForMost
import HandS.Wide
import HandS.Property
import HandS.IsInst
import HandS.OwnEq
import HandS.Flow
import KE.KEqDict
import HandS.Walk
import HandS.Zip
import KE.GoesEnum
import HandS.Defaults
import HandS.DictComp
import HandS.More
import HandS.TupAny
import HandS.TupLe
import HandS.Star
import PyProof.WalksMore
import PyProof.TupleIter
import PyProof.CollectIter
import PyProof.Walks
import HandS.WordsDict
import HandS.MakeKwOnly
import HandS.SetTxt0
import HandS.SetBool
import HandS.TupSets
import HandS.ClsMeth
import HandS.ExcValue
import HandS.ExcInit
import HandS.ExcField
import HandS.Exc
import HandS.TryMany
import KE.KExcSuper
import KE.KExcInit
import KE.KExcPX
import PyProof.TupleOfGen
import KE.KDictSum
import KE.DataEq
import HandS.DeepEq
import HandS.FStr
import HandS.WordsExc
import PyProof.DictUpdate
import PyProof.DictDisplay
import HandS.Dict
import HandS.ExcCtx
import HandS.SuiteRaise
import HandS.RaiseFrom
import HandS.TryOnly
import HandS.Gcd
import HandS.DictEq
import HandS.ListItems
import HandS.Ends
import PySem.Challenge.RW_surelyends_k68_weights_changed
set_option Elab.async false
set_option linter.all false
set_option maxRecDepth 100000
set_option maxHeartbeats 4000000
/-! Operators between instances of an own class and other values -/
namespace OW
open PySem PySem.Spec PySem.W PySem.Calls PyProof.Rows
section
variable {prog : Program} {w : World} {A : Around} {E : Value → Shared → Prop} {s : Shared} {K : Frag} {x C L f g : Addr} {h₀ : Heap} {m : Str → Option Value} {ox : Obj} {od : Option Obj} {T idl : String}
/-- a built-in value in front, which declines: the reflected method -/
theorem binop_right {op : Operator} {b : Value} {Q : Value → Shared → Prop} (X : K.In s.heap) (I : InstAt s.heap x ox C od) (hb : typeOf b = pure (.type T)) (hT : s.TypeIs b T) (hc : selfFirst K C = true)
    (h0 : findIn K (.ref C) (PySem.dunder op.info.2) = some (some (.ref g))) (hs : findIn K (.ref C) (dunderR op.info.2) = some (some (.ref f))) (hf : isFn K (.ref f) = true)
    (hfT : fillsNumberSlot (.type T) op.info.2 = pure true) (hsub : subIn K (.ref C) (.type T) = some false) (hl : Slot T (PySem.dunder op.info.2) idl)
    (hd : ∀ Q' : Value → Shared → Prop, Q' .notImplemented s → wpAny (model prog w) A (call (.builtin idl) [b, .ref x]) Q' E s)
    (h : wpAny (model prog w) A (call (.ref f) [.ref x, b]) (PySem.W.CmpBack Q) E s) : wpAny (model prog w) A (binaryOp op b (.ref x)) Q E s := by
  obtain ⟨cd, rest, hcd, hm⟩ := ksp_first hc
  rcases hi : op.info with ⟨sym, nm'⟩
  rw [hi] at h0 hs hfT hl
  dsimp only at h0 hs hfT hl
  have one := ksp_try X I hs hf h
  have L1 : Looks (model prog w) s.heap (typeOf (.ref x)) (.ref C) := I.type
  have L2 : Looks (model prog w) s.heap (typeOf b) (.type T) := Looks.of_pure hb
  have L3 : Looks (model prog w) s.heap (fillsNumberSlot (.ref C) nm') true := fills_K X hcd hm h0
  have L4 : Looks (model prog w) s.heap (fillsNumberSlot (.type T) nm') true := Looks.of_pure hfT
  have L5 : Looks (model prog w) s.heap (isSubtype (.ref C) (.type T)) false := looks_subIn X hsub
  have hpy : numberSlotInPython (.type T) nm' = pure false := rfl
  have hne : (Value.type T == Value.ref C) = false := Bool.eq_false_iff.mpr fun q => by cases beq_iff_eq.mp q
  simp only [binaryOp, hi]
  refine wpAny_holding (wpAny_bind ?_)
  unfold binaryOp1
  refine wpAny_bind (L2.here (wpAny_bind (L1.here (wpAny_bind (L4.here ?_)))))
  simp only [hne, Bool.false_eq_true, if_false]
  refine wpAny_bind (L3.here ?_)
  simp only [Bool.and_self, if_true]
  refine wpAny_bind (L5.here ?_)
  simp only [Bool.false_eq_true, if_false, pure_bind, Bool.not_false, Bool.and_self, if_true, hpy]
  refine wpAny_bind (m := tryMethod b _ (.ref x)) (wpAny_tryMethod_declines hT hl (hd _ ⟨rfl, ?_⟩))
  refine wpAny_bind (m := tryMethod (.ref x) _ b) (wpAny_mono one (fun r s' hr' => ?_) fun _ _ e => e)
  obtain ⟨v, rfl, hq⟩ := hr'
  exact wpAny_bind (wpAny_rule (wpAny_pure (wpAny_pure hq)))
/-! ### == and != -/
theorem try_eq {b : Value} {Q : Value → Shared → Prop} (X : K.In s.heap) (I : InstAt s.heap x ox C od) (hs : findIn K (.ref C) "__eq__" = some (some (.ref f))) (hf : isFn K (.ref f) = true)
    (h : wpAny (model prog w) A (call (.ref f) [.ref x, b]) (PySem.W.CmpBack Q) E s) : wpAny (model prog w) A (tryCompare (.ref x) "__eq__" b) (fun r s' => ∃ v, r = some v ∧ Q v s') E s := by
  unfold tryCompare
  refine wpAny_bind (ifBound_K X I hs hf (wpAny_mono h (fun v s' hv => ?_) fun _ _ e => e))
  cases v <;> first | exact hv.elim | exact wpAny_pure ⟨_, rfl, hv⟩
theorem run_ne {b : Value} {Q : Value → Shared → Prop} (hu : A.units < cLine) (X : K.In s.heap) (I : InstAt s.heap x ox C od) (hs : findIn K (.ref C) "__eq__" = some (some (.ref f))) (hf : isFn K (.ref f) = true)
    (h : wpAny (model prog w) A (call (.ref f) [.ref x, b]) (fun v s' => ∃ r, v = .bool r ∧ Q (.bool (!r)) s') E s) :
    wpAny (model prog w) A (Builtin.«object.__ne__» ⟨[.ref x, b], []⟩) (fun fin s' => ∃ v, fin = .done (.ret v) ∧ Q v s') E s := by
  unfold Builtin.«object.__ne__»
  repeat (first
    | with_reducible refine wpAny_cRoomFor hu ?_
    | (refine wpAny_bind (m := callSpecialIfBound? (.ref x) (Str.ofString "__eq__") [b]) (ifBound_K X I hs hf (wpAny_mono h (fun v s' hv => by
        obtain ⟨r, rfl, q⟩ := hv
        repeat (first | exact ⟨_, rfl, q⟩ | exact wpAny_pure ⟨_, rfl, q⟩ | (refine wpAny_bind (m := truthy (.bool _)) (wpAny_truthy_bool ?_)) | wp_step)) fun _ _ e => e)))
    | wp_step)
theorem try_ne {b : Value} {Q : Value → Shared → Prop} (hu : A.units + 1 < cLine) (X : K.In s.heap) (I : InstAt s.heap x ox C od) (hs : findIn K (.ref C) "__eq__" = some (some (.ref f))) (hf : isFn K (.ref f) = true)
    (hn : findIn K (.ref C) "__ne__" = some (some (.builtin "object.__ne__"))) (ho : subIn K (.ref C) (.type "object") = some true)
    (h : wpAny (model prog w) A.in1 (call (.ref f) [.ref x, b]) (fun v s' => ∃ r, v = .bool r ∧ Q (.bool (!r)) s') E s) :
    wpAny (model prog w) A (tryCompare (.ref x) "__ne__" b) (fun r s' => ∃ v, r = some v ∧ Q v s' ∧ ∃ z, v = .bool z) E s := by
  have L1 : Looks (model prog w) s.heap (typeOf (.ref x)) (.ref C) := I.type
  have c : wpAny (model prog w) A (call (.builtin "object.__ne__") [.ref x, b]) (fun v s' => Q v s' ∧ ∃ z, v = .bool z) E s := by
    refine wpAny_call (codeAny_call_builtin F.cmp_object.ne.plain F.cmpEntry_ne (check_slot F.cmpKind_ne F.cmpSplit_ne (L1.andThen (looks_subIn X ho)) (F.cmpArgs_ne _ _) ?_))
    refine wpAny_mono (run_ne (A := A.in1) (Q := fun v s' => Q v s' ∧ ∃ z, v = .bool z) hu X I hs hf (wpAny_mono h (fun v s' hv => ?_) fun _ _ e => e)) (fun fin s' hv => ?_) fun _ _ z => z
    · obtain ⟨r, rfl, q⟩ := hv
      exact ⟨r, rfl, q, _, rfl⟩
    · obtain ⟨v, rfl, q⟩ := hv
      exact q
  unfold tryCompare
  refine wpAny_bind ?_
  simp only [callSpecialIfBound?, bindSpecialIfBound?]
  refine wpAny_holding (wpAny_bind (wpAny_bind (wpAny_bind (I.type.here ((looks_findIn X hn).here ?_)))))
  have fin : wpAny (model prog w) A (call (.builtin "object.__ne__") ([.ref x] ++ [b]) >>= fun v => pure (some v)) (fun r s' => ∃ v, r = some v ∧ Q v s' ∧ ∃ z, v = .bool z) E s :=
    wpAny_bind (wpAny_mono c (fun v s' h' => wpAny_pure ⟨v, rfl, h'⟩) fun _ _ h' => h')
  have hb := F.cmp_object.ne.bind (.ref x)
  refine wpAny_bind (wpAny_askSetting (wpAny_ite ?_))
  have fin2 := wpAny_mono (Q' := fun r s' => wpAny (model prog w) A (match r with | some .notImplemented => pure none | none => pure none | some v => pure (some v)) (fun r s' => ∃ v, r = some v ∧ Q v s' ∧ ∃ z, v = .bool z) E s') fin (fun r s' h' => by
    obtain ⟨v, rfl, q, z, rfl⟩ := h'
    exact wpAny_pure ⟨_, rfl, q, _, rfl⟩) fun _ _ e => e
  split
  · rw [hb]
    exact wpAny_bind (wpAny_pure (wpAny_pure fin2))
  · rw [hb]
    exact wpAny_tryCatch (wpAny_bind (wpAny_pure (wpAny_pure fin2)))
end
end OW
set_option Elab.async false
set_option linter.all false
set_option maxRecDepth 100000
set_option maxHeartbeats 4000000
namespace OW
open PySem PySem.Spec PySem.W PySem.Calls PyProof.Rows
section
variable {prog : Program} {w : World} {A : Around} {E : Value → Shared → Prop} {s : Shared} {K : Frag} {x C L f g : Addr} {h₀ : Heap} {m : Str → Option Value} {ox : Obj} {od : Option Obj} {T idl : String}
theorem ne_left {b tb : Value} {Q : Value → Shared → Prop} (hu : A.units + 1 < cLine) (X : K.In s.heap) (I : InstAt s.heap x ox C od) (hb : Looks (model prog w) s.heap (typeOf b) tb) (hnf : notFirst K C tb = true)
    (hs : findIn K (.ref C) "__eq__" = some (some (.ref f))) (hf : isFn K (.ref f) = true) (hn : findIn K (.ref C) "__ne__" = some (some (.builtin "object.__ne__"))) (ho : subIn K (.ref C) (.type "object") = some true)
    (h : wpAny (model prog w) A.in1 (call (.ref f) [.ref x, b]) (fun v s' => ∃ r, v = .bool r ∧ Q (.bool (!r)) s') E s) : wpAny (model prog w) A (richCompare .NotEq (.ref x) b) Q E s := by
  have one := try_ne hu X I hs hf hn ho h
  unfold richCompare
  simp only [oneThing_ref]
  refine wpAny_holding (wpAny_bind (wpAny_cRoomFor (Nat.lt_of_succ_lt hu) ?_))
  refine wpAny_bind (I.type.here (wpAny_bind (hb.here ?_)))
  split
  · rename_i q
    have e : subIn K tb (.ref C) = some false := by
      rcases Bool.or_eq_true_iff.mp hnf with e | e
      · rw [beq_iff_eq.mp e] at q; simp at q
      · exact beq_iff_eq.mp e
    refine wpAny_bind ((looks_subIn X e).here ?_)
    simp only [Bool.false_eq_true, if_false]
    refine wpAny_bind (wpAny_mono one (fun r s' z => ?_) fun _ _ e => e)
    obtain ⟨v, rfl, hq, _⟩ := z
    exact wpAny_pure hq
  · refine wpAny_bind (wpAny_pure ?_)
    simp only [Bool.false_eq_true, if_false]
    refine wpAny_bind (wpAny_mono one (fun r s' z => ?_) fun _ _ e => e)
    obtain ⟨v, rfl, hq, _⟩ := z
    exact wpAny_pure hq
theorem eq_right {b : Value} {Q : Value → Shared → Prop} (hu : A.units < cLine) (X : K.In s.heap) (I : InstAt s.heap x ox C od) (hT : s.TypeIs b T) (hsub : subIn K (.ref C) (.type T) = some false) (hl : Slot T "__eq__" idl)
    (hd : ∀ Q' : Value → Shared → Prop, Q' .notImplemented s → wpAny (model prog w) A (call (.builtin idl) [b, .ref x]) Q' E s)
    (hs : findIn K (.ref C) "__eq__" = some (some (.ref f))) (hf : isFn K (.ref f) = true)
    (h : wpAny (model prog w) A (call (.ref f) [.ref x, b]) (PySem.W.CmpBack Q) E s) : wpAny (model prog w) A (richCompare .Eq b (.ref x)) Q E s := by
  have one := try_eq X I hs hf h
  have hne : (Value.type T != Value.ref C) = true := by simp
  unfold richCompare
  simp only [hT.oneThing_none]
  refine wpAny_holding (wpAny_bind (wpAny_cRoomFor hu ?_))
  refine wpAny_bind (wpAny_typeOf hT (wpAny_bind (I.type.here ?_)))
  simp only [hne, if_true]
  refine wpAny_bind ((looks_subIn X hsub).here ?_)
  simp only [Bool.false_eq_true, if_false, Bool.not_false, if_true]
  refine wpAny_bind (m := tryCompare b _ (.ref x)) (wpAny_tryCompare_declines hT hl (hd _ ⟨rfl, ?_⟩))
  refine wpAny_bind (m := tryCompare (.ref x) _ b) (wpAny_mono one (fun r s' z => ?_) fun _ _ e => e)
  obtain ⟨v, rfl, hq⟩ := z
  exact wpAny_pure hq
theorem ne_right {b : Value} {Q : Value → Shared → Prop} (hu : A.units + 1 < cLine) (X : K.In s.heap) (I : InstAt s.heap x ox C od) (hT : s.TypeIs b T) (hsub : subIn K (.ref C) (.type T) = some false) (hl : Slot T "__ne__" idl)
    (hd : ∀ Q' : Value → Shared → Prop, Q' .notImplemented s → wpAny (model prog w) A (call (.builtin idl) [b, .ref x]) Q' E s)
    (hs : findIn K (.ref C) "__eq__" = some (some (.ref f))) (hf : isFn K (.ref f) = true) (hn : findIn K (.ref C) "__ne__" = some (some (.builtin "object.__ne__"))) (ho : subIn K (.ref C) (.type "object") = some true)
    (h : wpAny (model prog w) A.in1 (call (.ref f) [.ref x, b]) (fun v s' => ∃ r, v = .bool r ∧ Q (.bool (!r)) s') E s) : wpAny (model prog w) A (richCompare .NotEq b (.ref x)) Q E s := by
  have one := try_ne hu X I hs hf hn ho h
  have hne : (Value.type T != Value.ref C) = true := by simp
  unfold richCompare
  simp only [hT.oneThing_none]
  refine wpAny_holding (wpAny_bind (wpAny_cRoomFor (Nat.lt_of_succ_lt hu) ?_))
  refine wpAny_bind (wpAny_typeOf hT (wpAny_bind (I.type.here ?_)))
  simp only [hne, if_true]
  refine wpAny_bind ((looks_subIn X hsub).here ?_)
  simp only [Bool.false_eq_true, if_false, Bool.not_false, if_true]
  refine wpAny_bind (m := tryCompare b _ (.ref x)) (wpAny_tryCompare_declines hT hl (hd _ ⟨rfl, ?_⟩))
  refine wpAny_bind (m := tryCompare (.ref x) _ b) (wpAny_mono one (fun r s' z => ?_) fun _ _ e => e)
  obtain ⟨v, rfl, hq, _⟩ := z
  exact wpAny_pure hq
end
/-! ### the built-in types decline -/
section
variable {C l dx : Addr}
theorem int_eq_no (b : Int) (u : Tok) : Meets (Builtin.«int.__eq__» ⟨[.int b u, .ref l], []⟩) (fun _ R s => s.heap.get? l = some (instObj C dx) ∧ R (.ok (.ret .notImplemented)) s) :=
  .of_wp fun prog w A R s h => by obtain ⟨hp, g, d, tk, os⟩ := s; obtain ⟨hl, h⟩ := h; wp_walk using wpAny_loadPart' hl, wpAny_load hl; exact ⟨_, rfl, h⟩
theorem int_ne_no (b : Int) (u : Tok) : Meets (Builtin.«int.__ne__» ⟨[.int b u, .ref l], []⟩) (fun _ R s => s.heap.get? l = some (instObj C dx) ∧ R (.ok (.ret .notImplemented)) s) :=
  .of_wp fun prog w A R s h => by obtain ⟨hp, g, d, tk, os⟩ := s; obtain ⟨hl, h⟩ := h; wp_walk using wpAny_loadPart' hl, wpAny_load hl; exact ⟨_, rfl, h⟩
theorem int_add_no (b : Int) (u : Tok) : Meets (Builtin.«int.__add__» ⟨[.int b u, .ref l], []⟩) (fun _ R s => s.heap.get? l = some (instObj C dx) ∧ R (.ok (.ret .notImplemented)) s) :=
  .of_wp fun prog w A R s h => by obtain ⟨hp, g, d, tk, os⟩ := s; obtain ⟨hl, h⟩ := h; wp_walk using wpAny_loadPart' hl, wpAny_load hl; exact ⟨_, rfl, h⟩
theorem int_sub_no (b : Int) (u : Tok) : Meets (Builtin.«int.__sub__» ⟨[.int b u, .ref l], []⟩) (fun _ R s => s.heap.get? l = some (instObj C dx) ∧ R (.ok (.ret .notImplemented)) s) :=
  .of_wp fun prog w A R s h => by obtain ⟨hp, g, d, tk, os⟩ := s; obtain ⟨hl, h⟩ := h; wp_walk using wpAny_loadPart' hl, wpAny_load hl; exact ⟨_, rfl, h⟩
theorem int_mul_no (b : Int) (u : Tok) : Meets (Builtin.«int.__mul__» ⟨[.int b u, .ref l], []⟩) (fun _ R s => s.heap.get? l = some (instObj C dx) ∧ R (.ok (.ret .notImplemented)) s) :=
  .of_wp fun prog w A R s h => by obtain ⟨hp, g, d, tk, os⟩ := s; obtain ⟨hl, h⟩ := h; wp_walk using wpAny_loadPart' hl, wpAny_load hl; exact ⟨_, rfl, h⟩
theorem bool_eq_no (b : Bool) : Meets (Builtin.«int.__eq__» ⟨[.bool b, .ref l], []⟩) (fun _ R s => s.heap.get? l = some (instObj C dx) ∧ R (.ok (.ret .notImplemented)) s) :=
  .of_wp fun prog w A R s h => by obtain ⟨hp, g, d, tk, os⟩ := s; obtain ⟨hl, h⟩ := h; wp_walk using wpAny_loadPart' hl, wpAny_load hl; exact ⟨_, rfl, h⟩
theorem str_eq_no (b : Str) (u : Tok) : Meets (Builtin.«str.__eq__» ⟨[.str b u, .ref l], []⟩) (fun _ R s => s.heap.get? l = some (instObj C dx) ∧ R (.ok (.ret .notImplemented)) s) :=
  .of_wp fun prog w A R s h => by obtain ⟨hp, g, d, tk, os⟩ := s; obtain ⟨hl, h⟩ := h; wp_walk using wpAny_loadPart' hl, wpAny_load hl; exact ⟨_, rfl, h⟩
end
end OW
set_option Elab.async false
set_option linter.all false
set_option maxRecDepth 100000
set_option maxHeartbeats 4000000
namespace OW
open PySem PySem.Spec PySem.W PySem.Calls PyProof.Rows
open AutoSeq1 (wpAny_loadPart')
section
variable {C x l dx : Addr} {K : Frag} {od : Option Obj}
theorem list_eq_no (hs : subIn K (.ref C) (.type "list") = some false) (items : Array Value) (n : Nat) (dd : Option Addr) (sl : Array (Option Value)) : Meets (Builtin.«list.__eq__» ⟨[.ref l, .ref x], []⟩)
    (fun _ R s => s.heap.get? l = some { cls := .type "list", dict := dd, data := .seq items n, slots := sl } ∧ K.In s.heap ∧ s.heap.get? x = some (instObj C dx) ∧ R (.ok (.ret .notImplemented)) s) :=
  .of_wp fun prog w A R s h => by
    obtain ⟨hl, X, hx, h⟩ := h
    have L : Looks (model prog w) s.heap (isSubtype (.ref C) (.type "list")) false := looks_subIn X hs
    obtain ⟨hp, g, d, tk, os⟩ := s
    wp_walk using wpAny_loadPart' hl, wpAny_loadPart' hx, L.here
    exact ⟨_, rfl, h⟩
theorem tuple_eq_no (hs : subIn K (.ref C) (.type "tuple") = some false) (items : Array Value) (n : Nat) (dd : Option Addr) (sl : Array (Option Value)) : Meets (Builtin.«tuple.__eq__» ⟨[.ref l, .ref x], []⟩)
    (fun _ R s => s.heap.get? l = some { cls := .type "tuple", dict := dd, data := .seq items n, slots := sl } ∧ K.In s.heap ∧ s.heap.get? x = some (instObj C dx) ∧ R (.ok (.ret .notImplemented)) s) :=
  .of_wp fun prog w A R s h => by
    obtain ⟨hl, X, hx, h⟩ := h
    have L : Looks (model prog w) s.heap (isSubtype (.ref C) (.type "tuple")) false := looks_subIn X hs
    obtain ⟨hp, g, d, tk, os⟩ := s
    wp_walk using wpAny_loadPart' hl, wpAny_loadPart' hx, L.here
    exact ⟨_, rfl, h⟩
end
section
variable {prog : Program} {w : World} {A : Around} {E : Value → Shared → Prop} {s : Shared} {K : Frag} {x C a : Addr} {ox : Obj} {od : Option Obj}
theorem dict_eq_no {Q : Value → Shared → Prop} (hT : s.TypeIs (.ref a) "dict") (X : K.In s.heap) (I : InstAt s.heap x ox C od) (hs : subIn K (.ref C) (.type "dict") = some false) (h : Q .notImplemented s) :
    wpAny (model prog w) A (call (.builtin "dict.__eq__") [.ref a, .ref x]) Q E s := by
  have L1 : Looks (model prog w) s.heap (typeOf (.ref x)) (.ref C) := I.type
  have L : Looks (model prog w) s.heap (isInstance (.ref x) (.type "dict")) false := L1.andThen (looks_subIn X hs)
  refine wpAny_call_entry PySem.F.slot_dict_eq hT PySem.F.entry_dict_eq ?_ (PySem.F.args_dict_eq_2 _ _)
  show wpAny _ _ (Builtin.Dict.dictSlotArgs "__eq__" ⟨[.ref a, .ref x], []⟩ >>= _) _ _ s
  refine wpAny_bind ?_
  unfold Builtin.Dict.dictSlotArgs
  refine wpAny_bind (wpAny_notOrdered_dict hT ?_)
  show wpAny _ _ (pure (Value.ref a, Value.ref x)) _ _ s
  refine wpAny_pure ?_
  refine wpAny_bind (L.here ?_)
  wp_walk
  exact ⟨_, rfl, h⟩
end
end OW
set_option Elab.async false
set_option linter.all false
set_option maxRecDepth 100000
set_option maxHeartbeats 4000000
namespace L2
open PySem PySem.Spec PyProof.Rows PySem.Calls
theorem rRef (a : Addr) : RelV (.ref a) (.ref a) := rfl
theorem rInt (i : Int) (t : Tok) : RelV (.int i) (.int i t) := ⟨t, rfl⟩
/-- the class at C has this name as the def at f -/
structure Dun (K : PySem.W.Frag) (C : Addr) (nm : Str) (f : Addr) : Prop where
  at_ : PySem.W.findIn K (.ref C) nm = some (some (.ref f))
  fn : PySem.W.isFn K (.ref f) = true
section
variable {X : Cx} {CX : CXT} {k : Nat} {f C C' a : Addr} {fd : FuncData} {ps : List Str} {sp : Sp} {E : XK} {pins : List (Addr × Obj)} {σ : St} {H : Hp} {s : Shared} {Q : VK}
theorem run_sub {A : Around} {us : List Value} {vs : List V} (sb : Sub X k A) (F : FnOk X.prog X.w X.K X.mg X.base CX k f fd ps sp) (hb : Binds X.K fd ps []) (hx : Passes CX X E)
    (I : Inv X pins σ H s) (r : Vals vs us) (h : sp vs H Q E) : wpAny (model X.prog X.w) A (call (.ref f) us) (EP X pins σ Q) X.xe s := by
  have e0 : Env0 X.prog X.w X.K X.mg X.base A X.stack s H := by
    have e := I.env0
    exact ⟨by rw [sb.fr]; exact e.frames, e.mod, e.bs, e.bsz, e.funs, e.frf, e.hok, e.bare⟩
  have hl := F.len _ _ _ _ h
  refine wpAny_call (codeAny_mono (F.run A X.stack s H ⟨us, []⟩ us vs Q E sb.room e0 (by
    have := hb s us I.kIn (by rw [List.append_nil, ← r.length]; exact hl)
    rw [List.append_nil] at this
    exact this) r h) fun r s' hq => ?_)
  cases r with
  | error e => exact hx pins σ H s e s' I hq
  | ok fl =>
    cases fl with
    | ret w =>
      obtain ⟨z, H', I', rz, q⟩ := I.after hq
      exact ⟨z, H', I', rz, q⟩
    | next => exact False.elim hq
    | brk => exact False.elim hq
    | cont => exact False.elim hq
theorem back_rel {v : V} {u : Value} {s' : Shared} {R : Value → Shared → Prop} (r : RelV v u) (q : R u s') : PySem.W.CmpBack R u s' := by
  cases u
  case notImplemented =>
    cases v with
    | non => exact nomatch (show Value.notImplemented = Value.none from r)
    | bl b => exact nomatch (show Value.notImplemented = Value.bool b from r)
    | int i => obtain ⟨t, e⟩ := (show ∃ t, Value.notImplemented = Value.int i t from r); exact nomatch e
    | str x => obtain ⟨t, e⟩ := (show ∃ t, Value.notImplemented = Value.str x t from r); exact nomatch e
    | byt b => obtain ⟨t, e⟩ := (show ∃ t, Value.notImplemented = Value.bytes b t from r); exact nomatch e
    | flt b => obtain ⟨t, e⟩ := (show ∃ t, Value.notImplemented = Value.float b t from r); exact nomatch e
    | ref a => exact nomatch (show Value.notImplemented = Value.ref a from r)
    | ty n => exact nomatch (show Value.notImplemented = Value.type n from r)
  all_goals exact q
theorem ins_at {dx : Addr} {fs : List (Str × V)} (I : Inv X pins σ H s) (e : H a = some (.ins C dx fs)) : ∃ od, PySem.W.InstAt s.heap a (PySem.W.instObj C dx) C (some od) ∧ s.heap.get? a = some (PySem.W.instObj C dx) := by
  obtain ⟨mA, O, _⟩ := ins_get I.hok e
  obtain ⟨od, J, _⟩ := O.look
  exact ⟨od, J, O.obj⟩
/-- x op y, x an instance whose class has the method, y one of the same class -/
def rOw2 (C : Addr) (sp : Sp) (E : XK) : R2 := fun x y H Q => ∃ a b dx dy fs gs, x = .ref a ∧ y = .ref b ∧ H a = some (.ins C dx fs) ∧ H b = some (.ins C dy gs) ∧ sp [.ref a, .ref b] H Q E
theorem op_own2 {op : Operator} (D : Dun X.K C (PySem.dunder op.info.2) f) (hc : PySem.W.selfFirst X.K C = true) (F : FnOk X.prog X.w X.K X.mg X.base CX k f fd ps sp) (hr : Room k X.A) (hb : Binds X.K fd ps []) (hx : Passes CX X E) :
    OpR X (binaryOp op) (rOw2 C sp E) := by
  intro pins s σ H x y v u Q I rx ry ⟨a, b, dx, dy, fs, gs, ex, ey, ea, eb, h⟩
  subst ex ey
  cases (show v = .ref a from rx)
  cases (show u = .ref b from ry)
  obtain ⟨od, J, _⟩ := ins_at I ea
  obtain ⟨od', J', _⟩ := ins_at I eb
  obtain ⟨m, hF⟩ := I.fr
  exact PySem.W.binop_K hF I.ok.mod.kin J J'.type hc D.at_ D.fn (wpAny_mono (run_sub ⟨hr, rfl⟩ F hb hx I (.cons (rRef a) (.cons (rRef b) .nil)) h) (fun w' s' ⟨z, H', I', rz, q⟩ => back_rel rz ⟨z, H', I', rz, q⟩) fun _ _ e => e)
/-- x op y, y an integer -/
def rOwI (C : Addr) (sp : Sp) (E : XK) : R2 := fun x y H Q => ∃ a i dx fs, x = .ref a ∧ y = .int i ∧ H a = some (.ins C dx fs) ∧ sp [.ref a, .int i] H Q E
theorem op_ownI {op : Operator} {fo ro rc : Option Value} (D : Dun X.K C (PySem.dunder op.info.2) f) (hc : PySem.W.selfFirst X.K C = true) (hR : PySem.W.findIn X.K (.ref C) (dunderR op.info.2) = some rc) (hp : rc = none ∨ ∃ g : Addr, rc = some (.ref g))
    (h1 : PySem.W.findIn X.K (.type "int") (PySem.dunder op.info.2) = some fo) (h2 : PySem.W.findIn X.K (.type "int") (dunderR op.info.2) = some ro) (hs : PySem.W.subIn X.K (.type "int") (.ref C) = some false)
    (F : FnOk X.prog X.w X.K X.mg X.base CX k f fd ps sp) (hr : Room k X.A) (hb : Binds X.K fd ps []) (hx : Passes CX X E) : OpR X (binaryOp op) (rOwI C sp E) := by
  intro pins s σ H x y v u Q I rx ry ⟨a, i, dx, fs, ex, ey, ea, h⟩
  subst ex ey
  cases (show v = .ref a from rx)
  obtain ⟨t, rfl⟩ := (show ∃ t, u = Value.int i t from ry)
  obtain ⟨od, J, _⟩ := ins_at I ea
  obtain ⟨m, hF⟩ := I.fr
  exact PySem.W.ksp_binT hF I.ok.mod.kin J rfl hc D.at_ D.fn hR hp h1 h2 hs (wpAny_mono (run_sub ⟨hr, rfl⟩ F hb hx I (.cons (rRef a) (.cons (rInt i t) .nil)) h) (fun w' s' ⟨z, H', I', rz, q⟩ => back_rel rz ⟨z, H', I', rz, q⟩) fun _ _ e => e)
/-- i op x, i an integer: the reflected method -/
def rIOw (C : Addr) (sp : Sp) (E : XK) : R2 := fun x y H Q => ∃ a i dx fs, x = .int i ∧ y = .ref a ∧ H a = some (.ins C dx fs) ∧ sp [.ref a, .int i] H Q E
theorem op_Iown {op : Operator} {g : Addr} {idl : String} {B : Builtin} (D0 : Dun X.K C (PySem.dunder op.info.2) g) (D : Dun X.K C (dunderR op.info.2) f) (hc : PySem.W.selfFirst X.K C = true)
    (hfT : fillsNumberSlot (.type "int") op.info.2 = pure true) (hl : Slot "int" (PySem.dunder op.info.2) idl) (en : entryFor table idl = some B) (ar : ∀ x y, argsOk idl ⟨[x, y], []⟩)
    (no : ∀ (i : Int) (t : Tok) (l dx : Addr), Meets (B ⟨[.int i t, .ref l], []⟩) (fun _ R s => s.heap.get? l = some (PySem.W.instObj C dx) ∧ R (.ok (.ret .notImplemented)) s)) (hs : PySem.W.subIn X.K (.ref C) (.type "int") = some false)
    (F : FnOk X.prog X.w X.K X.mg X.base CX k f fd ps sp) (hr : Room k X.A) (hb : Binds X.K fd ps []) (hx : Passes CX X E) : OpR X (binaryOp op) (rIOw C sp E) := by
  intro pins s σ H x y v u Q I rx ry ⟨a, i, dx, fs, ex, ey, ea, h⟩
  subst ex ey
  cases (show u = .ref a from ry)
  obtain ⟨t, rfl⟩ := (show ∃ t, v = Value.int i t from rx)
  obtain ⟨od, J, O⟩ := ins_at I ea
  refine OW.binop_right I.kIn J rfl (typeIs_int s i t) hc D0.at_ D.at_ D.fn hfT hs hl (fun Q' q' => call_meets hl (typeIs_int s i t) en (ar _ _) (no i t a dx) ⟨O, q'⟩) ?_
  exact wpAny_mono (run_sub ⟨hr, rfl⟩ F hb hx I (.cons (rRef a) (.cons (rInt i t) .nil)) h) (fun w' s' ⟨z, H', I', rz, q⟩ => back_rel rz ⟨z, H', I', rz, q⟩) fun _ _ e => e
/-- -x -/
def rNeg (C : Addr) (sp : Sp) (E : XK) : V → Hp → VK → Prop := fun x H Q => ∃ a dx fs, x = .ref a ∧ H a = some (.ins C dx fs) ∧ sp [.ref a] H Q E
theorem un_own (D : Dun X.K C "__neg__" f) (F : FnOk X.prog X.w X.K X.mg X.base CX k f fd ps sp) (hr : Room k X.A) (hb : Binds X.K fd ps []) (hx : Passes CX X E) : UnR X (unaryOp .USub) (rNeg C sp E) := by
  intro pins s σ H x v Q I rx ⟨a, dx, fs, ex, ea, h⟩
  subst ex
  cases (show v = .ref a from rx)
  obtain ⟨od, J, _⟩ := ins_at I ea
  obtain ⟨m, hF⟩ := I.fr
  exact PySem.W.ksp_neg hF I.ok.mod.kin J D.at_ D.fn (run_sub ⟨hr, rfl⟩ F hb hx I (.cons (rRef a) .nil) h)
/-- abs(x) -/
def rAbs (C : Addr) (sp : Sp) (E : XK) : List V → Hp → VK → Prop := fun xs H Q => ∃ a dx fs, xs = [.ref a] ∧ H a = some (.ins C dx fs) ∧ sp [.ref a] H Q E
theorem call_absOwn (D : Dun X.K C "__abs__" f) (F : FnOk X.prog X.w X.K X.mg X.base CX k f fd ps sp) (hr : Room (k + 1) X.A) (hb : Binds X.K fd ps []) (hx : Passes CX X E) : CallR X (.builtin "abs") (rAbs C sp E) := by
  intro pins s σ H xs us Q I r ⟨a, dx, fs, ex, ea, h⟩
  subst ex
  obtain ⟨u, rfl, ru⟩ := vals1 r
  cases (show u = .ref a from ru)
  obtain ⟨od, J, _⟩ := ins_at I ea
  refine call_function_entry kind_abs plain_abs entry_abs (args_abs _) ?_
  unfold Builtin.«abs»
  refine wpAny_bind (m := oneArg "abs" _) (wpAny_pure ?_)
  refine wpAny_bind (m := callSpecial? (.ref a) (Str.ofString "__abs__")) (PySem.W.special_fn I.kIn J D.at_ (beq_iff_eq.mp D.fn) (wpAny_mono (run_sub ⟨hr.in1, rfl⟩ F hb hx I (.cons (rRef a) .nil) h) (fun w' s' z => ?_) fun _ _ e => e))
  exact wpAny_pure ⟨_, rfl, z⟩
/-- str(x) -/
def rStr (C : Addr) (sp : Sp) (E : XK) : List V → Hp → VK → Prop := fun xs H Q => ∃ a dx fs, xs = [.ref a] ∧ H a = some (.ins C dx fs) ∧ sp [.ref a] H (fun z H' => (∃ t, z = .str t) ∧ Q z H') E
theorem call_strOwn (D : Dun X.K C "__str__" f) (F : FnOk X.prog X.w X.K X.mg X.base CX k f fd ps sp) (hr : Room (k + 2) X.A) (hb : Binds X.K fd ps []) (hx : Passes CX X E) : CallR X (.type "str") (rStr C sp E) := by
  intro pins s σ H xs us Q I r ⟨a, dx, fs, ex, ea, h⟩
  subst ex
  obtain ⟨u, rfl, ru⟩ := vals1 r
  cases (show u = .ref a from ru)
  obtain ⟨od, J, _⟩ := ins_at I ea
  refine PySem.W.kso_call hr.in1.in1.units0 I.kIn J D.at_ D.fn (wpAny_mono (run_sub ⟨hr.in1.in1, rfl⟩ F hb hx I (.cons (rRef a) .nil) h) (fun w' s' ⟨z, H', I', rz, ⟨t, ez⟩, q⟩ => ?_) fun _ _ e => e)
  subst ez
  obtain ⟨tk, rfl⟩ := (show ∃ tk, w' = Value.str t tk from rz)
  exact ⟨_, H', I', rz, q⟩
end
end L2
set_option Elab.async false
set_option linter.all false
set_option maxRecDepth 100000
set_option maxHeartbeats 4000000
namespace L2
open PySem PySem.Spec PyProof.Rows PySem.Calls
section
variable {X : Cx} {CX : CXT} {k : Nat} {f C a : Addr} {fd : FuncData} {ps : List Str} {sp : Sp} {E : XK} {pins : List (Addr × Obj)} {σ : St} {H : Hp} {s : Shared} {Q : VK}
/-- x == y, x an instance whose class has __eq__ -/
def rEqL (K : PySem.W.Frag) (C : Addr) (sp : Sp) (E : XK) : R2 := fun x y H Q => ∃ a dx fs t, x = .ref a ∧ H a = some (.ins C dx fs) ∧ TyX K H y t ∧ PySem.W.notFirst K C t = true ∧ sp [.ref a, y] H Q E
theorem op_eqL (D : Dun X.K C "__eq__" f) (F : FnOk X.prog X.w X.K X.mg X.base CX k f fd ps sp) (hr : Room k X.A) (hb : Binds X.K fd ps []) (hx : Passes CX X E) : OpR X (compareOp .Eq) (rEqL X.K C sp E) := by
  intro pins s σ H x y v u Q I rx ry ⟨a, dx, fs, t, ex, ea, ty, hn, h⟩
  subst ex
  cases (show v = .ref a from rx)
  obtain ⟨od, J, _⟩ := ins_at I ea
  obtain ⟨m, hF⟩ := I.fr
  obtain ⟨P, Z, p, _⟩ := kit_of I ry ty
  exact PySem.W.cmp_K (op := .Eq) (tb := t) hr.units0 hF I.ok.mod.kin J (Z.ty _ _ I.kIn p) hn D.at_ D.fn (wpAny_mono (run_sub ⟨hr, rfl⟩ F hb hx I (.cons (rRef a) (.cons ry .nil)) h) (fun w' s' ⟨z, H', I', rz, q⟩ => back_rel rz ⟨z, H', I', rz, q⟩) fun _ _ e => e)
/-- x != y, by the class's __eq__ -/
def rNeL (K : PySem.W.Frag) (C : Addr) (sp : Sp) (E : XK) : R2 := fun x y H Q => ∃ a dx fs t, x = .ref a ∧ H a = some (.ins C dx fs) ∧ TyX K H y t ∧ PySem.W.notFirst K C t = true ∧ sp [.ref a, y] H (fun z H' => ∃ r, z = .bl r ∧ Q (.bl (!r)) H') E
structure NeOf (K : PySem.W.Frag) (C : Addr) : Prop where
  ne : PySem.W.findIn K (.ref C) "__ne__" = some (some (.builtin "object.__ne__"))
  ob : PySem.W.subIn K (.ref C) (.type "object") = some true
theorem op_neL (D : Dun X.K C "__eq__" f) (N : NeOf X.K C) (F : FnOk X.prog X.w X.K X.mg X.base CX k f fd ps sp) (hr : Room (k + 1) X.A) (hb : Binds X.K fd ps []) (hx : Passes CX X E) : OpR X (compareOp .NotEq) (rNeL X.K C sp E) := by
  intro pins s σ H x y v u Q I rx ry ⟨a, dx, fs, t, ex, ea, ty, hn, h⟩
  subst ex
  cases (show v = .ref a from rx)
  obtain ⟨od, J, _⟩ := ins_at I ea
  obtain ⟨P, Z, p, _⟩ := kit_of I ry ty
  refine OW.ne_left (by have := hr.un; omega) I.kIn J (Z.ty _ _ I.kIn p) hn D.at_ D.fn N.ne N.ob (wpAny_mono (run_sub ⟨hr.in1, rfl⟩ F hb hx I (.cons (rRef a) (.cons ry .nil)) h) (fun w' s' ⟨z, H', I', rz, r, ez, q⟩ => ?_) fun _ _ e => e)
  subst ez
  cases (show w' = .bool r from rz)
  exact ⟨r, rfl, .bl (!r), H', I', rfl, q⟩
/-- a value of a built-in type, which declines when it is compared with an instance -/
inductive Odd (K : PySem.W.Frag) (H : Hp) : V → String → Prop where
  | non : Odd K H .non "NoneType"
  | bl (b : Bool) : Odd K H (.bl b) "bool"
  | int (i : Int) : Odd K H (.int i) "int"
  | str (x : Str) : Odd K H (.str x) "str"
  | lst {a : Addr} {xs : List V} (e : H a = some (.lst xs)) : Odd K H (.ref a) "list"
  | tup {a : Addr} {xs : List V} (e : H a = some (.tup xs)) : Odd K H (.ref a) "tuple"
  | dK {a : Addr} {kvs : List (Key × V)} (e : H a = some (.dK kvs)) : Odd K H (.ref a) "dict"
theorem Odd.ty {K : PySem.W.Frag} {x : V} {T : String} (o : Odd K H x T) : TyX K H x (.type T) := by
  cases o with
  | non => exact .base .non
  | bl b => exact .base (.bl b)
  | int i => exact .base (.int i)
  | str y => exact .base (.str y)
  | lst e => exact .base (.lst e)
  | tup e => exact .base (.tup e)
  | dK e => exact .base (.dK e)
/-- y == x, y such a value -/
def rEqR (K : PySem.W.Frag) (C : Addr) (sp : Sp) (E : XK) : R2 := fun x y H Q => ∃ a dx fs T, y = .ref a ∧ H a = some (.ins C dx fs) ∧ Odd K H x T ∧ PySem.W.subIn K (.ref C) (.type T) = some false ∧ sp [.ref a, x] H Q E
theorem op_eqR (D : Dun X.K C "__eq__" f) (F : FnOk X.prog X.w X.K X.mg X.base CX k f fd ps sp) (hr : Room k X.A) (hb : Binds X.K fd ps []) (hx : Passes CX X E) : OpR X (compareOp .Eq) (rEqR X.K C sp E) := by
  intro pins s σ H x y v u Q I rx ry ⟨a, dx, fs, T, ey, ea, od', hs, h⟩
  subst ey
  cases (show u = .ref a from ry)
  obtain ⟨od, J, O⟩ := ins_at I ea
  have fin : wpAny (model X.prog X.w) X.A (call (.ref f) [.ref a, v]) (PySem.W.CmpBack (EP X pins σ Q)) X.xe s :=
    wpAny_mono (run_sub ⟨hr, rfl⟩ F hb hx I (.cons (rRef a) (.cons rx .nil)) h) (fun w' s' ⟨z, H', I', rz, q⟩ => back_rel rz ⟨z, H', I', rz, q⟩) fun _ _ e => e
  show wpAny (model X.prog X.w) X.A (richCompare .Eq v (.ref a)) (EP X pins σ Q) X.xe s
  cases od' with
  | non =>
    cases (show v = .none from rx)
    exact OW.eq_right hr.units0 I.kIn J rfl hs PySem.F.slot_NoneType_eq (fun Q' q' => call_gives PySem.F.slot_NoneType_eq rfl PySem.F.entry_NoneType_eq (PySem.F.args_NoneType_eq_2 _ _) (PySem.SeqAt.NoneType___eq___none_ref_0 a) q') D.at_ D.fn fin
  | bl b =>
    cases (show v = .bool b from rx)
    exact OW.eq_right hr.units0 I.kIn J rfl hs PySem.F.slot_bool_eq (fun Q' q' => call_meets PySem.F.slot_bool_eq rfl PySem.F.entry_int_eq (PySem.F.args_int_eq_2 _ _) (OW.bool_eq_no (C := C) (dx := dx) b) ⟨O, q'⟩) D.at_ D.fn fin
  | int i =>
    obtain ⟨t, rfl⟩ := (show ∃ t, v = Value.int i t from rx)
    exact OW.eq_right hr.units0 I.kIn J (typeIs_int s i t) hs PySem.F.slot_int_eq (fun Q' q' => call_meets PySem.F.slot_int_eq (typeIs_int s i t) PySem.F.entry_int_eq (PySem.F.args_int_eq_2 _ _) (OW.int_eq_no (C := C) (dx := dx) i t) ⟨O, q'⟩) D.at_ D.fn fin
  | str z =>
    obtain ⟨t, rfl⟩ := (show ∃ t, v = Value.str z t from rx)
    exact OW.eq_right hr.units0 I.kIn J (typeIs_str s z t) hs PySem.F.slot_str_eq (fun Q' q' => call_meets PySem.F.slot_str_eq (typeIs_str s z t) PySem.F.entry_str_eq (PySem.F.args_str_eq_2 _ _) (OW.str_eq_no (C := C) (dx := dx) z t) ⟨O, q'⟩) D.at_ D.fn fin
  | @lst l xs e =>
    cases (show v = .ref l from rx)
    obtain ⟨z, its, n, r, e1⟩ := I.hok l _ e
    exact OW.eq_right hr.units0 I.kIn J ⟨_, e1, rfl⟩ hs PySem.F.slot_list_eq (fun Q' q' => call_meets PySem.F.slot_list_eq ⟨_, e1, rfl⟩ PySem.F.entry_list_eq (PySem.F.args_list_eq_2 _ _) (OW.list_eq_no hs _ _ _ _) ⟨e1, I.kIn, O, q'⟩) D.at_ D.fn fin
  | @tup l xs e =>
    cases (show v = .ref l from rx)
    obtain ⟨_, its, _, o, h1, h2, n, h3⟩ := (show ObjOk X.prog X.w H s.heap l (.tup xs) from I.hok l _ e)
    obtain ⟨cls, dd, data, sl⟩ := o
    simp only at h2 h3
    subst h2 h3
    exact OW.eq_right hr.units0 I.kIn J ⟨_, h1, rfl⟩ hs PySem.F.slot_tuple_eq (fun Q' q' => call_meets PySem.F.slot_tuple_eq ⟨_, h1, rfl⟩ PySem.F.entry_tuple_eq (PySem.F.args_tuple_eq_2 _ _) (OW.tuple_eq_no hs _ _ _ _) ⟨h1, I.kIn, O, q'⟩) D.at_ D.fn fin
  | @dK l kvs e =>
    cases (show v = .ref l from rx)
    obtain ⟨_, _, vs, _, o, es, ep, h1, h2, _⟩ := (show ObjOk X.prog X.w H s.heap l (.dK kvs) from I.hok l _ e)
    have hT : s.TypeIs (.ref l) "dict" := ⟨_, h1, h2.1⟩
    exact OW.eq_right hr.units0 I.kIn J hT hs PySem.F.slot_dict_eq (fun Q' q' => OW.dict_eq_no hT I.kIn J hs q') D.at_ D.fn fin
/-- i != x, i an integer -/
def rNeR (C : Addr) (sp : Sp) (E : XK) : R2 := fun x y H Q => ∃ a dx fs i, y = .ref a ∧ H a = some (.ins C dx fs) ∧ x = .int i ∧ sp [.ref a, .int i] H (fun z H' => ∃ r, z = .bl r ∧ Q (.bl (!r)) H') E
theorem op_neR (D : Dun X.K C "__eq__" f) (N : NeOf X.K C) (hs : PySem.W.subIn X.K (.ref C) (.type "int") = some false) (F : FnOk X.prog X.w X.K X.mg X.base CX k f fd ps sp) (hr : Room (k + 1) X.A) (hb : Binds X.K fd ps []) (hx : Passes CX X E) :
    OpR X (compareOp .NotEq) (rNeR C sp E) := by
  intro pins s σ H x y v u Q I rx ry ⟨a, dx, fs, i, ey, ea, ex, h⟩
  subst ex ey
  cases (show u = .ref a from ry)
  obtain ⟨t, rfl⟩ := (show ∃ t, v = Value.int i t from rx)
  obtain ⟨od, J, O⟩ := ins_at I ea
  refine OW.ne_right (by have := hr.un; omega) I.kIn J (typeIs_int s i t) hs PySem.F.slot_int_ne (fun Q' q' => call_meets PySem.F.slot_int_ne (typeIs_int s i t) PySem.F.entry_int_ne (PySem.F.args_int_ne_2 _ _) (OW.int_ne_no (C := C) (dx := dx) i t) ⟨O, q'⟩) D.at_ D.fn N.ne N.ob
    (wpAny_mono (run_sub ⟨hr.in1, rfl⟩ F hb hx I (.cons (rRef a) (.cons (rInt i t) .nil)) h) (fun w' s' ⟨z, H', I', rz, r, ez, q⟩ => ?_) fun _ _ e => e)
  subst ez
  cases (show w' = .bool r from rz)
  exact ⟨r, rfl, .bl (!r), H', I', rfl, q⟩
theorem op_neLK {K : PySem.W.Frag} (hK : X.K = K) (D : Dun K C "__eq__" f) (N : NeOf K C) (F : FnOk X.prog X.w K X.mg X.base CX k f fd ps sp) (hr : Room (k + 1) X.A) (hb : Binds K fd ps []) (hx : Passes CX X E) : OpR X (compareOp .NotEq) (rNeL K C sp E) := by
  subst hK
  exact op_neL D N F hr hb hx
theorem op_eqLK {K : PySem.W.Frag} (hK : X.K = K) (D : Dun K C "__eq__" f) (F : FnOk X.prog X.w K X.mg X.base CX k f fd ps sp) (hr : Room k X.A) (hb : Binds K fd ps []) (hx : Passes CX X E) : OpR X (compareOp .Eq) (rEqL K C sp E) := by
  subst hK
  exact op_eqL D F hr hb hx
theorem op_eqRK {K : PySem.W.Frag} (hK : X.K = K) (D : Dun K C "__eq__" f) (F : FnOk X.prog X.w K X.mg X.base CX k f fd ps sp) (hr : Room k X.A) (hb : Binds K fd ps []) (hx : Passes CX X E) : OpR X (compareOp .Eq) (rEqR K C sp E) := by
  subst hK
  exact op_eqR D F hr hb hx
end
end L2
set_option Elab.async false
set_option linter.all false
set_option maxRecDepth 100000
set_option maxHeartbeats 4000000
/-! enumerate of a tuple -/
namespace SU
open PySem PySem.Spec PyProof.Rows
open AutoSeq1 (wpAny_loadPart')
set_option maxHeartbeats 1000000 in
theorem meets_enum1 {v : Value} {o : Obj} {H : Heap → Prop} (B : Begins v o H) :
    Meets (Builtin.«enumerate.__new__» ⟨[.type "enumerate", v], []⟩) (fun _ R s => H s.heap ∧
      R (.ok (.ret (.ref (s.heap.push o).objs.size))) { s with heap := (s.heap.push o).push { cls := .type "enumerate", data := .fields #[.none, .bool false, .ref s.heap.objs.size, rawInt 0, .none, .none] } }) :=
  .of_wp fun prog w A R s h => by
    obtain ⟨hp, g, d, tk, os⟩ := s; obtain ⟨h1, h⟩ := h
    have hsub := sub_enumerate
    have q1 : ∀ {A' : Around} {E : Value → Shared → Prop} {Q : Value → Shared → Prop}, Q (.ref hp.objs.size) ⟨hp.push o, g, d, tk, os⟩ → wpAny (model prog w) A' (pyIter v) Q E ⟨hp, g, d, tk, os⟩ :=
      fun q => B.iter prog w _ _ ⟨hp, g, d, tk, os⟩ _ h1 q
    wp_walk using q1
    refine wpAny_stack_any fun st => wpAny_pure ?_
    split
    · rename_i c _ _ _ _ _
      cases (c == Value.type "enumerate")
      · wp_walk using q1
        exact ⟨_, rfl, h⟩
      · wp_walk using q1
        exact ⟨_, rfl, h⟩
    · wp_walk using q1
      exact ⟨_, rfl, h⟩
section
variable {prog : Program} {w : World} {A : Around} {E : Value → Shared → Prop} {s : Shared}
theorem enum_begins1 {v : Value} {o : Obj} {H : Heap → Prop} {Q : Value → Shared → Prop} (B : Begins v o H) (h1 : H s.heap)
    (h : ∀ h', IsEnum h' (s.heap.objs.size + 1) s.heap.objs.size 0 .none → h'.get? s.heap.objs.size = some o → h'.objs.size = s.heap.objs.size + 2 →
      (∀ b o, s.heap.get? b = some o → h'.get? b = some o) → Q (.ref (s.heap.objs.size + 1)) { s with heap := h' }) :
    wpAny (model prog w) A (call (.type "enumerate") [v]) Q E s := by
  refine callType_new F.called_enumerate (by decide) (F.typeCall_enumerate_1 _) (F.newCall_enumerate_1 _) (fun obj => F.args_object_init_2 obj _) F.entry_enumerate_new
    (meets_enum1 B) ⟨h1, ?_⟩
  have hz : (s.heap.push o).objs.size = s.heap.objs.size + 1 := Heap.size_push ..
  show _ ∧ _
  rw [hz]
  have he : IsEnum ((s.heap.push o).push { cls := .type "enumerate", data := .fields #[.none, .bool false, .ref s.heap.objs.size, rawInt 0, .none, .none] }) (s.heap.objs.size + 1) s.heap.objs.size 0 .none := by
    have := Heap.get?_push_size (s.heap.push o) (o := { cls := .type "enumerate", data := .fields #[.none, .bool false, .ref s.heap.objs.size, rawInt 0, .none, .none] }) rfl
    rw [hz] at this; exact this
  refine ⟨⟨_, he, rfl⟩, h _ he (Heap.get?_push_of_some _ (Heap.get?_push_size _ B.free)) (by rw [Heap.size_push, hz]) fun b o x => Heap.get?_push_of_some _ (Heap.get?_push_of_some _ x)⟩
end
end SU
namespace L2
open PySem PySem.Spec PyProof.Rows
/-- the tuple at a, each item in a new pair -/
def IteT (K : PySem.W.Frag) (a : Addr) : It :=
  ⟨fun i H => ∃ (xs : List V) (x : V), SqT K H a xs ∧ xs[i]? = some x, fun i H v H' => ∃ T x, v = .ref T ∧ H T = none ∧ H' = upd H T (.tup [.int (i : Nat), x]) ∧ ∀ xs, SqT K H a xs → xs[i]? = some x, fun i H => ∃ xs : List V, SqT K H a xs ∧ xs.length ≤ i⟩
theorem turn_enumT {P : Program} {w : World} {K : PySem.W.Frag} {elts : List Expr} {kk : Nat} {tpos : Pos} (a e it : Addr) :
    Turn P w K (.Tuple elts kk tpos) (IteT K a) [e, it] e (fun i h => (∃ old, IsEnum h e it ((i : Nat) : Int) old) ∧ h.IsTupleIter it a i ∧ e ≠ it) where
  mem := by simp
  obj := fun i h st b hb => by
    obtain ⟨⟨old, he⟩, ⟨o, ho, hc, hd⟩, _⟩ := st
    have e' : b = e ∨ b = it := by simpa using hb
    rcases e' with z | z
    · rw [z]; exact ⟨_, he, fun v q => nomatch q⟩
    · rw [z]; exact ⟨o, ho, fun v q => by rw [hd] at q; cases q⟩
  keep := fun i h h' st k => let ⟨⟨old, he⟩, hi, hne⟩ := st; ⟨⟨old, k e (by simp) _ he⟩, hi.at fun o q => k it (by simp) o q, hne⟩
  item := by
    intro X hP hw hK hc i pins s σ H E I hf st hg
    subst hP hw hK
    obtain ⟨⟨old, he⟩, hit, hne⟩ := st
    obtain ⟨xs, x, hq, hx⟩ := hg
    obtain ⟨its, rv, p, hz⟩ := I.tuple hq
    obtain ⟨u, hu, ru⟩ := rv.get hx
    have hel : e < s.heap.objs.size := Heap.lt_size he
    have hil : it < s.heap.objs.size := by obtain ⟨_, q, _⟩ := hit; exact Heap.lt_size q
    have pt : s.heap.IsTuple a its.toArray := p
    have tit : a ≠ it := fun z => by
      obtain ⟨o1, h1, c1, _⟩ := hit
      obtain ⟨o2, h2, c2, _⟩ := pt
      rw [z, h1] at h2
      cases h2
      rw [c1] at c2
      exact absurd c2 (by decide)
    have te : e ∉ [it, a] := fun m => by
      simp only [List.mem_cons, List.mem_nil_iff, or_false] at m
      rcases m with z | z
      · exact hne z
      · obtain ⟨o2, h2, c2, _⟩ := pt
        have he' : s.heap.get? e = _ := he
        rw [z, h2] at he'
        cases he'
        have c2 : Value.type "enumerate" = Value.type "tuple" := c2
        exact absurd c2 (by decide)
    have lt : i < its.toArray.size := by
      have h1 := (List.getElem?_eq_some_iff.mp hu).1
      simpa using h1
    refine wpAny_pyNext_enum_itemD (Draws.tuple (A := X.A.in1) (I.ok.hd hc) it a tit its.toArray) he ⟨hit, pt⟩ lt hne te fun x' h' tk hx' ho hst' hT hsz hk => ?_
    have ex : x' = u := by
      have : its.toArray[i]? = some u := by simpa using hu
      rw [this] at hx'
      exact (Option.some.inj hx').symm
    subst ex
    obtain ⟨hit', _⟩ := hst'
    refine ⟨_, rfl, wpAny_letOwnedTupleGo_enum (s := { s with heap := h', toks := tk + 1 }) ho fun h'' he' sb => ?_⟩
    have hT2 : h''.get? s.heap.objs.size = some { cls := .type "tuple", data := .seq #[.int i tk, x'] } := (sb.2 _ (Nat.ne_of_gt hel)).trans hT
    have new : ObjOk X.prog X.w (upd H s.heap.objs.size (.tup [.int (i : Nat), x])) h'' s.heap.objs.size (.tup [.int (i : Nat), x]) :=
      ⟨by show 2 ≤ sizeLine; decide, [.int i tk, x'], .cons ⟨_, rfl⟩ (.cons ru .nil), ⟨_, hT2, rfl, _, rfl⟩⟩
    have I1 : Inv X pins σ (upd H s.heap.objs.size (.tup [.int (i : Nat), x])) { s with heap := h'', toks := tk + 1 } :=
      I.turnedNew (ch := [e, it]) (fun b ob hb q => (sb.2 b (fun z => hb (by simp [z]))).trans (hk b ob (fun z => hb (by simp [z])) (fun z => hb (by simp [z])) q)) hf (Nat.le_refl _) new
    refine ⟨.ref s.heap.objs.size, _, I1, rfl, ⟨_, x, rfl, I.hok.fresh (Nat.le_refl _), rfl, fun ys hy => by rw [I.tuple_inj hy hq]; exact hx⟩, ⟨⟨x', ?_⟩, hit'.at fun o q => (sb.2 it (Ne.symm hne)).trans q, hne⟩, fun b hb => ?_⟩
    · have e1 : ((i + 1 : Nat) : Int) = (i : Int) + 1 := by omega
      rw [e1]; exact he'
    · have hb' : b < s.heap.objs.size := by
        have e' : b = e ∨ b = it := by simpa using hb
        rcases e' with z | z
        · rw [z]; exact hel
        · rw [z]; exact hil
      rw [upd_ne (Nat.ne_of_lt hb')]
      exact (hf b hb).1
  done := by
    intro X hP hw hK hc i pins s σ H E I hf st hg
    subst hP hw hK
    obtain ⟨⟨old, he⟩, hit, hne⟩ := st
    obtain ⟨xs, hq, hx⟩ := hg
    obtain ⟨its, rv, p, hz⟩ := I.tuple hq
    obtain ⟨f0, f1, f2, f3, f4, f5⟩ := hf it (by simp)
    have hl := rv.length
    have hT : s.TypeIs (.ref e) "enumerate" := ⟨_, he, rfl⟩
    unfold pyNext
    refine wpAny_bind (wpAny_attempt (wpAny_callSpecial?_slot (name := Str.ofString "__next__") hT F.slot_enumerate_next
      (wpAny_call_entry F.slot_enumerate_next hT F.entry_enumerate_next ?_ (F.args_enumerate_next_1 _))))
    show wpAny _ _ (field (.ref e) 2 >>= _) _ _ _
    refine wpAny_bind (wpAny_field he rfl (x := .ref it) rfl ?_)
    refine wpAny_bind (wpAny_nextOf_tuple_end (I.ok.hd hc) hit (show s.heap.IsTuple a its.toArray from p) (by simp; omega) fun h' x he' hx' => ?_)
    obtain ⟨o, ho, hc'⟩ := hx'
    refine wpAny_bind (wpAny_isInstance (T := "StopIteration") (b := true) ⟨o, ho, hc'⟩ isSubtype_stop ?_)
    exact wpAny_pure ⟨rfl, I.turned (t' := s.toks) (fun b o hb q => he' b o hb q) f0 f1 f3 f4 f5⟩
  self := fun A i s Q E st h => let ⟨⟨_, he⟩, _⟩ := st; wpAny_pyIter_enum he h
def iEnumT (K : PySem.W.Frag) (ta : TA) : TI := fun σ H R => ta σ H fun vs H1 => ∃ a xs, vs = [.ref a] ∧ SqT K H1 a xs ∧ R (IteT K a) H1
theorem pi_enumT {X : Cx} {e : Expr} {ta : TA} {p pos tpos : Pos} {elts : List Expr} {kk : Nat} (hg : Gl X "enumerate") (hm : X.mg "enumerate" = none) (ha : PA X [e] ta) (hs : starEach [e] X.env = [(false, eval e X.env)] := by rfl) :
    PI X (.Tuple elts kk tpos) (.Call (.Name "enumerate" p) [e] [] pos) (iEnumT X.K ta) := by
  refine ⟨fun pins s σ H R I h => ?_⟩
  refine Call_ (ld_blt I hg hm boot_enumerate (PyProof.Rows.callWith_type1 (thn (ha.run pos pins s σ H _ I h) fun us s1 ⟨vs, H1, I1, r1, q1⟩ => ?_) hs rfl))
  obtain ⟨a, xs, ex, hq, q⟩ := q1
  subst ex
  cases r1 with
  | cons r rr =>
    cases rr
    cases r
    obtain ⟨its, rv, p', hz⟩ := I1.tuple hq
    refine SU.enum_begins1 (begins_tuple a its.toArray) (show s1.heap.IsTuple a its.toArray from p') fun h' he hit hsz hk => wpAny_pyIter_enum he ?_
    have I2 : Inv X pins σ H1 { s1 with heap := h' } := I1.kept (t' := s1.toks) hk
    refine ⟨s1.heap.objs.size + 1, [s1.heap.objs.size + 1, s1.heap.objs.size], _, _, H1, rfl, I2, turn_enumT a (s1.heap.objs.size + 1) s1.heap.objs.size, ⟨⟨.none, he⟩, ⟨_, hit, rfl, rfl⟩, Nat.succ_ne_self _⟩, fun b hb => ?_, q⟩
    have e' : b = s1.heap.objs.size + 1 ∨ b = s1.heap.objs.size := by simpa using hb
    have hle : s1.heap.objs.size ≤ b := by
      rcases e' with z | z
      · rw [z]; exact Nat.le_add_right _ _
      · rw [z]; exact Nat.le_refl _
    exact I1.fpOk hle (I1.hok.fresh hle)
theorem walk_enumT {K : PySem.W.Frag} {a : Addr} {xs : List V} : Walk (IteT K a) xs.length (fun H => SqT K H a xs) (YPair (fun i => some (.int (i : Nat))) (fun i => xs[i]?)) := by
  refine ⟨fun i _ hi q => ⟨xs, xs[i], q, by simp [hi]⟩, fun _ q => ⟨xs, q, Nat.le_refl _⟩, fun i H v H' _ q y => ?_⟩
  obtain ⟨T, x, h1, h2, h3, h4⟩ := y
  exact ⟨T, .int (i : Nat), x, h1, h2, h3, rfl, h4 xs q⟩
end L2
set_option Elab.async false
set_option linter.all false
set_option maxRecDepth 100000
set_option maxHeartbeats 4000000
/-! taken over: lists of things, walks -/
namespace FR
open PySem PySem.Spec PyProof.Rows L2
def top (i : Nat) : Stmt := PySem.Challenge.pw_surelyends_k68_weights_changed.main.body.getD i (.Pass ⟨0, 0, 0, 0⟩)
def retE : Stmt → Expr
  | .Return (some e) _ => e
  | _ => .Constant .none 0 ⟨0, 0, 0, 0⟩
def relS (sc fs : Scope) : Scope := { sc with names := sc.names.map fun (n, k) => if (k == .free && fs.kind == .function && fs.names.lookup n == some .cell) then (n, .cell) else (n, k) }
def lcEl : Expr → Expr
  | .ListComp e _ _ _ => e
  | e => e
def lcSc : Expr → Scope
  | .ListComp _ _ sc _ => sc
  | _ => defScope (.Pass ⟨0, 0, 0, 0⟩)
theorem pi_zipK {X : Cx} {K : PySem.W.Frag} {e e2 : Expr} {ta : TA} {p pos tpos : Pos} {elts : List Expr} {kk : Nat} (hK : X.K = K) (hg : Gl X "zip") (hm : X.mg "zip" = none) (ha : PA X [e, e2] ta)
    (hs : starEach [e, e2] X.env = (false, eval e X.env) :: starEach [e2] X.env := by rfl) (hpl : (backTo pos (starEach [e2] X.env)).any (·.1) = false := by rfl) :
    L2.PI X (.Tuple elts kk tpos) (.Call (.Name "zip" p) [e, e2] [] pos) (iZip K ta) := by
  subst hK
  exact pi_zip hg hm ha hs hpl
theorem ix_listK {X : Cx} {K : PySem.W.Frag} (hK : X.K = K) : IxR X (rIxL K) := by
  subst hK
  exact ix_list
theorem pg_tupK {X : Cx} {K : PySem.W.Frag} {es : List Expr} {k : Nat} {pos : Pos} {t : TGs} {n : Nat} (hK : X.K = K) (hc : X.calm = true) (h : PGs X es t)
    (hn : (assignEach es X.env).length = n := by rfl) (hst : (assignEach es X.env).findIdx? (·.1) = none := by rfl) : PG X (.Tuple es k pos) (gTup K n t) := by
  subst hK
  exact pg_tup hc h hn hst
theorem same_grow {H H' : Hp} {D : Addr} {o : HO} (hD : H D = none) (s : Same H H') : Same H (upd H' D o) := fun q o' e => by
  rw [upd_ne (ne_of_none e hD)]
  exact s _ _ e
theorem same_new {H : Hp} {p : Addr} {o : HO} (h : H p = none) : Same H (upd H p o) := fun q o' e => by rw [upd_ne (ne_of_none e h)]; exact e
theorem same_upd {H0 H : Hp} {D : Addr} {o : HO} (hD : H0 D = none) (s : Same H0 H) : Same H0 (upd H D o) := same_grow hD s
theorem take_snoc {α : Type} {l : List α} {i : Nat} {x : α} (h : l[i]? = some x) : l.take (i + 1) = l.take i ++ [x] := by
  rw [List.take_add_one, h]
  rfl
def AG {α : Type} (R : V → α → Prop) (vs : List V) (as : List α) : Prop := vs.length = as.length ∧ ∀ (i : Nat) (v : V), vs[i]? = some v → ∃ p : α, as[i]? = some p ∧ R v p
theorem AG.nil {α : Type} {R : V → α → Prop} : AG R [] [] := ⟨rfl, fun i v h => by simp at h⟩
theorem AG.snoc {α : Type} {R : V → α → Prop} {v : V} {p : α} {vs : List V} {ps : List α} (h : AG R vs ps) (r : R v p) : AG R (vs ++ [v]) (ps ++ [p]) := by
  refine ⟨by rw [List.length_append, List.length_append, h.1]; rfl, fun i w e => ?_⟩
  by_cases z : i < vs.length
  · rw [List.getElem?_append_left z] at e
    obtain ⟨q, hq, hr⟩ := h.2 i w e
    exact ⟨q, by rw [List.getElem?_append_left (by rw [← h.1]; exact z)]; exact hq, hr⟩
  · rw [List.getElem?_append_right (by omega)] at e
    have e0 : i = vs.length := by
      have := (List.getElem?_eq_some_iff.mp e).1
      rw [List.length_singleton] at this
      omega
    subst e0
    rw [Nat.sub_self] at e
    cases e
    refine ⟨p, by rw [List.getElem?_append_right (by rw [h.1]; exact Nat.le_refl _), h.1, Nat.sub_self]; rfl, r⟩
theorem AG.imp {α : Type} {R R' : V → α → Prop} {vs : List V} {ps : List α} (h : AG R vs ps) (f : ∀ v p, R v p → R' v p) : AG R' vs ps := ⟨h.1, fun i v e => by
  obtain ⟨p, hp, r⟩ := h.2 i v e
  exact ⟨p, hp, f v p r⟩⟩
theorem AG.take {α : Type} {R : V → α → Prop} {vs : List V} {ps : List α} (h : AG R vs ps) (n : Nat) : AG R (vs.take n) (ps.take n) := ⟨by rw [List.length_take, List.length_take, h.1], fun i v e => by
  rw [List.getElem?_take] at e ⊢
  split at e
  · next z => rw [if_pos z]; exact h.2 i v e
  · cases e⟩
theorem AG.uncons {α : Type} {R : V → α → Prop} {v : V} {p : α} {vs : List V} {ps : List α} (h : AG R (v :: vs) (p :: ps)) : R v p ∧ AG R vs ps := by
  obtain ⟨q, hq, r⟩ := h.2 0 v rfl
  cases hq
  exact ⟨r, by have := h.1; simpa using this, fun i w e => h.2 (i + 1) w e⟩
theorem AG.consA {β : Type} {R : V → β → Prop} {x : V} {y : β} {xs : List V} {ys : List β} (h : R x y) (g : AG R xs ys) : AG R (x :: xs) (y :: ys) := by
  refine ⟨by rw [List.length_cons, List.length_cons, g.1], fun i v hv => ?_⟩
  match i, hv with
  | 0, hv => cases hv; exact ⟨y, rfl, h⟩
  | i + 1, hv => exact g.2 i v hv
theorem AG.app {α : Type} {R : V → α → Prop} : ∀ {xs ys : List V} {as bs : List α}, AG R xs as → AG R ys bs → AG R (xs ++ ys) (as ++ bs)
  | [], ys, [], bs, _, g => g
  | [], _, _ :: _, _, h, _ => by simp [AG] at h
  | _ :: _, _, [], _, h, _ => by simp [AG] at h
  | x :: xs, ys, a :: as, bs, h, g => by
    obtain ⟨r, h⟩ := AG.uncons h
    exact AG.consA r (AG.app h g)
structure Glo (P : Program) (w : World) (K : PySem.W.Frag) (mg : Str → Option Value) (base : Heap) (nm : Str) (n : Nat) (ps : List Str) (sp : Sp) where
  f : Addr
  fd : FuncData
  G : FnOk P w K mg base CX0 n f fd ps sp
  m : mg nm = some (.ref f)
  k : PySem.W.keepIn K (.ref f) = true
  b : Binds K fd ps []
structure Met (P : Program) (w : World) (K : PySem.W.Frag) (mg : Str → Option Value) (base : Heap) (C : Addr) (nm : Str) (n : Nat) (ps : List Str) (sp : Sp) where
  f : Addr
  fd : FuncData
  D : Dun K C nm f
  kp : PySem.W.keepIn K (.ref f) = true
  G : FnOk P w K mg base CX0 n f fd ps sp
  b : Binds K fd ps []
theorem fn_weaken {P : Program} {w : World} {K : PySem.W.Frag} {mg : Str → Option Value} {base : Heap} {CX : CXT} {k : Nat} {f : Addr} {fd : FuncData} {ps : List Str} {sp sp' : Sp} (F : FnOk P w K mg base CX k f fd ps sp) (g : ∀ vs H Q E, sp' vs H Q E → sp vs H Q E) : FnOk P w K mg base CX k f fd ps sp' :=
  ⟨fun vs H Q E h => F.len vs H Q E (g vs H Q E h), fun A o s H ar us vs Q E hr e0 b r h => F.run A o s H ar us vs Q E hr e0 b r (g vs H Q E h)⟩
theorem pi_tupK {X : Cx} {K : PySem.W.Frag} {tg l : Expr} {tl : TE} (hK : X.K = K) (hl : PE X l tl) : L2.PI X tg l (iTup K tl) := by
  subst hK
  exact pi_tup hl
theorem pi_listK {X : Cx} {K : PySem.W.Frag} {tg l : Expr} {tl : TE} (hK : X.K = K) (hl : PE X l tl) : L2.PI X tg l (iList K tl) := by
  subst hK
  exact pi_list hl
theorem ix_tupK {X : Cx} {K : PySem.W.Frag} (hK : X.K = K) : IxR X (rIxT K) := by
  subst hK
  exact ix_tup
theorem call_tuple_ofK {X : Cx} {K : PySem.W.Frag} (hK : X.K = K) : CallR X (.type "tuple") (fun xs H Q => ∃ p ys, xs = [.ref p] ∧ ((SqL K H p ys ∧ ∀ l, H l = none → Q (.ref l) (upd H l (.tup ys))) ∨ (SqT K H p ys ∧ Q (.ref p) H))) := by
  subst hK
  exact call_tuple_of
theorem call_isiK {X : Cx} {K : PySem.W.Frag} (hK : X.K = K) : CallR X (.builtin "isinstance") (rIsi K) := by
  subst hK
  exact call_isi
theorem cr_allK {X : Cx} {K : PySem.W.Frag} (hK : X.K = K) (hc : X.calm = true) : CallR X (.builtin "all") (rAll K) := by
  subst hK
  exact cr_all hc
theorem call_len_seqK {X : Cx} {K : PySem.W.Frag} (hK : X.K = K) : CallR X (.builtin "len") (fun xs H Q => ∃ p ys, xs = [.ref p] ∧ (SqL K H p ys ∨ SqT K H p ys) ∧ Q (.int ys.length) H) := by
  subst hK
  exact call_len_seq
theorem pi_enumTK {X : Cx} {K : PySem.W.Frag} {e : Expr} {ta : TA} {p pos tpos : Pos} {elts : List Expr} {kk : Nat} (hK : X.K = K) (hg : Gl X "enumerate") (hm : X.mg "enumerate" = none) (ha : PA X [e] ta) (hs : starEach [e] X.env = [(false, eval e X.env)] := by rfl) :
    PI X (.Tuple elts kk tpos) (.Call (.Name "enumerate" p) [e] [] pos) (iEnumT K ta) := by
  subst hK
  exact pi_enumT hg hm ha hs
end FR
set_option Elab.async false
set_option linter.all false
set_option maxRecDepth 100000
set_option maxHeartbeats 1000000
/-! bodies of procedures; bodies_in -/
namespace FR
open PySem PySem.Spec PyProof.Rows L2
inductive St where
  | note (s : Str)
  | call (s : Str)
  | stay
  | again (a b : Int) (inner : List St)
  | choose (bs : List (List St))
  | toss (rs : List (Int × List St))
abbrev Bd := List St
def St.kids : St → List Bd
  | .again _ _ b => [b]
  | .choose bs => bs
  | .toss rs => rs.map fun r => r.2
  | _ => []
def St.word : St → Str
  | .note _ => "note"
  | .call _ => "call"
  | .stay => "stay"
  | .again _ _ _ => "again"
  | .choose _ => "choose"
  | .toss _ => "toss"
/-- a statement stands at v, its bodies by B -/
def StW (B : Hp → V → Bd → Prop) (H : Hp) (v : V) : St → Prop
  | .note s => ∃ a, v = .ref a ∧ H a = some (.tup [.str "note", .str s])
  | .call s => ∃ a, v = .ref a ∧ H a = some (.tup [.str "call", .str s])
  | .stay => ∃ a, v = .ref a ∧ H a = some (.tup [.str "stay"])
  | .again i j b => ∃ a w, v = .ref a ∧ H a = some (.tup [.str "again", .int i, .int j, w]) ∧ B H w b
  | .choose bs => ∃ a ws, v = .ref a ∧ H a = some (.tup (.str "choose" :: ws)) ∧ AG (fun w b => B H w b) ws bs
  | .toss rs => ∃ a ws, v = .ref a ∧ H a = some (.tup (.str "toss" :: ws)) ∧ AG (fun w r => ∃ p x, w = .ref p ∧ H p = some (.tup [.int r.1, x]) ∧ B H x r.2) ws rs
/-- a body, nested less than n deep -/
def BdAt : Nat → Hp → V → Bd → Prop
  | 0 => fun _ _ _ => False
  | n + 1 => fun H v b => ∃ a xs, v = .ref a ∧ H a = some (.tup xs) ∧ AG (fun w s => StW (BdAt n) H w s) xs b
abbrev StAt (n : Nat) (H : Hp) (v : V) (s : St) : Prop := StW (BdAt n) H v s
theorem stW_imp {B B' : Hp → V → Bd → Prop} {H H' : Hp} (e : ∀ a xs, H a = some (.tup xs) → H' a = some (.tup xs)) (f : ∀ v b, B H v b → B' H' v b) : ∀ {v : V} {s : St}, StW B H v s → StW B' H' v s
  | _, .note s, ⟨a, ev, h⟩ => ⟨a, ev, e _ _ h⟩
  | _, .call s, ⟨a, ev, h⟩ => ⟨a, ev, e _ _ h⟩
  | _, .stay, ⟨a, ev, h⟩ => ⟨a, ev, e _ _ h⟩
  | _, .again i j b, ⟨a, w, ev, h, g⟩ => ⟨a, w, ev, e _ _ h, f _ _ g⟩
  | _, .choose bs, ⟨a, ws, ev, h, g⟩ => ⟨a, ws, ev, e _ _ h, g.imp fun _ _ z => f _ _ z⟩
  | _, .toss rs, ⟨a, ws, ev, h, g⟩ => ⟨a, ws, ev, e _ _ h, g.imp fun _ _ ⟨p, x, e1, h1, z⟩ => ⟨p, x, e1, e _ _ h1, f _ _ z⟩⟩
/-- tuples stay: so do bodies -/
theorem bdAt_keep {H H' : Hp} (e : ∀ a xs, H a = some (.tup xs) → H' a = some (.tup xs)) : ∀ n v b, BdAt n H v b → BdAt n H' v b
  | 0, _, _, h => h.elim
  | n + 1, _, _, ⟨a, xs, ev, h, g⟩ => ⟨a, xs, ev, e _ _ h, g.imp fun _ _ z => stW_imp e (bdAt_keep e n) z⟩
theorem BdAt.same {n : Nat} {H H' : Hp} {v : V} {b : Bd} (h : BdAt n H v b) (s : Same H H') : BdAt n H' v b := bdAt_keep (fun _ _ x => s _ _ x) n v b h
theorem StAt.same {n : Nat} {H H' : Hp} {v : V} {x : St} (h : StAt n H v x) (s : Same H H') : StAt n H' v x := stW_imp (fun _ _ x => s _ _ x) (bdAt_keep (fun _ _ x => s _ _ x) n) h
theorem bdAt_up : ∀ n H v b, BdAt n H v b → BdAt (n + 1) H v b
  | 0, _, _, _, h => h.elim
  | n + 1, H, _, _, ⟨a, xs, ev, h, g⟩ => ⟨a, xs, ev, h, g.imp fun _ _ z => stW_imp (fun _ _ x => x) (fun v b y => bdAt_up n H v b y) z⟩
theorem StAt.up {n : Nat} {H : Hp} {v : V} {x : St} (h : StAt n H v x) : StAt (n + 1) H v x := stW_imp (fun _ _ x => x) (fun v b y => bdAt_up n H v b y) h
/-- the word stands first -/
theorem StAt.head {n : Nat} {H : Hp} {v : V} : ∀ {x : St}, StAt n H v x → ∃ a xs, v = .ref a ∧ H a = some (.tup (.str x.word :: xs))
  | .note _, ⟨a, ev, h⟩ => ⟨a, _, ev, h⟩
  | .call _, ⟨a, ev, h⟩ => ⟨a, _, ev, h⟩
  | .stay, ⟨a, ev, h⟩ => ⟨a, _, ev, h⟩
  | .again _ _ _, ⟨a, _, ev, h, _⟩ => ⟨a, _, ev, h⟩
  | .choose _, ⟨a, _, ev, h, _⟩ => ⟨a, _, ev, h⟩
  | .toss _, ⟨a, _, ev, h, _⟩ => ⟨a, _, ev, h⟩
theorem cut_tail (x : V) (xs : List V) : cutV (x :: xs) (some 1) none = xs ∧ ¬ (HT.sIx (x :: xs).length 0 (some 1) = 0 ∧ HT.sIx (x :: xs).length (x :: xs).length none = (x :: xs).length) := by
  have e : HT.sIx (x :: xs).length 0 (some 1) = 1 := by
    show (if (1 : Int) < 0 then ((1 : Int) + ((x :: xs).length : Int)).toNat else min (1 : Int).toNat (x :: xs).length) = 1
    rw [if_neg (by decide)]
    show min 1 (xs.length + 1) = 1
    omega
  refine ⟨?_, fun z => ?_⟩
  · unfold cutV
    rw [HT.sIx_none, e]
    show xs.take (xs.length + 1 - 1) = xs
    rw [Nat.add_sub_cancel, List.take_length]
  · rw [e] at z
    exact absurd z.1 (by decide)
section
variable {P : Program} {w : World} {K : PySem.W.Frag} {mg : Str → Option Value} {base : Heap}
abbrev sBin : Stmt := top 12
abbrev NBin : List Str := ["statement", "word", "_", "body"]
theorem scBin : FnScope NBin ["statement"] (defScope sBin) := ⟨rfl, rfl, rfl, by decide +kernel, rfl, by decide +kernel, by decide +kernel⟩
def spBin (n : Nat) : Sp := fun vs H Q _ => ∃ v x, vs = [v] ∧ StAt n H v x ∧ x.kids.length ≤ 90 ∧ ∀ a ws H', Same H H' → H' a = some (.tup ws) → AG (fun w b => BdAt n H' w b) ws x.kids → Q (.ref a) H'
theorem ok_bin {f : Addr} {fd : FuncData} {n : Nat} (F : Fun K "bodies_in" "bodies_in" sBin f fd) (mT : mg "tuple" = none) : FnOk P w K mg base CX0 1 f fd ["statement"] (spBin n) := by
  refine F.ok scBin (fun vs H Q E h => ?_) (fun cdv A outer s H vs Q E hr h => ?_)
  · obtain ⟨v, x, rfl, _⟩ := h
    rfl
  · obtain ⟨v, x, rfl, hv, few, q⟩ := h
    refine ⟨_, (pss_cons (ps_set (i := 1) scBin.nd rfl (Or.inl rfl) (pe_ix ix_tup (pv 0) pe_int (fun _ _ => rfl)))
      (pss_cons (ps_if (pt_cmpR op_eq (pv 1) pe_str (nomark _)) (pss_one (ps_ret (pe_callTy call_tuple_of (by rfl) mT (by decide +kernel) (pa_cons (pe_lc (X := (cxOf CX0 P w K mg base NBin "bodies_in" (defScope sBin) f cdv A outer s H E).nox) (own := [("_", 2), ("body", 3)]) (g := (gTup K 2 (gCons (gName 2) (gCons (gName 3) gNil)))) (tt := tYes) rfl scBin.nd (pi_tup (pe_slice sl_tupA (pv 0) (po_some pe_int) po_none)) (blkOk_by (N := NBin) (sc := defScope sBin) (by decide +kernel)) (fun _ _ _ _ _ => (pg_tupK (K := K) rfl rfl (pgs_cons (pg_name (i := 2) scBin.nd rfl (.inl rfl)) (pgs_cons (pg_name (i := 3) scBin.nd rfl (.inl rfl)) pgs_nil)))) (fun _ _ _ _ _ => pts_nil) (fun _ _ _ _ _ => (pv 3))) pa_nil)))) pss_nil)
      (pss_cons (ps_if (pt_cmpR op_eq (pv 1) pe_str (nomark _)) (pss_one (ps_ret (pe_tup (pa_cons (pe_ix ix_tup (pv 0) pe_int (fun _ _ => rfl)) pa_nil)))) pss_nil)
      (pss_cons (ps_if (pt_cmpR op_eq (pv 1) pe_str (nomark _)) (pss_one (ps_ret (pe_slice sl_tupA (pv 0) (po_some pe_int) po_none))) pss_nil)
      (pss_one (ps_ret (pe_tup pa_nil))))))), ?_⟩
    obtain ⟨a, xs, rfl, ha⟩ := hv.head
    refine ⟨_, rfl, a, _, 0, _, rfl, rfl, SqT.of ha, atI_nat (j := 0) rfl, ?_⟩
    match x, hv, few, q with
    | .note z, ⟨_, e, _⟩, few, q => exact ⟨_, rfl, rfl, _, rfl, iteF ⟨_, rfl, rfl, _, rfl, iteF ⟨_, rfl, rfl, _, rfl, iteF ⟨Nat.zero_le _, fun p hp => q p [] _ (same_new hp) upd_same AG.nil⟩⟩⟩⟩
    | .call z, ⟨_, e, _⟩, few, q => exact ⟨_, rfl, rfl, _, rfl, iteF ⟨_, rfl, rfl, _, rfl, iteF ⟨_, rfl, rfl, _, rfl, iteF ⟨Nat.zero_le _, fun p hp => q p [] _ (same_new hp) upd_same AG.nil⟩⟩⟩⟩
    | .stay, ⟨_, e, _⟩, few, q => exact ⟨_, rfl, rfl, _, rfl, iteF ⟨_, rfl, rfl, _, rfl, iteF ⟨_, rfl, rfl, _, rfl, iteF ⟨Nat.zero_le _, fun p hp => q p [] _ (same_new hp) upd_same AG.nil⟩⟩⟩⟩
    | .again i j b, ⟨a', w0, e, ha', g⟩, few, q =>
      cases e
      refine ⟨_, rfl, rfl, _, rfl, iteF ⟨_, rfl, rfl, _, rfl, iteT ?_⟩⟩
      refine ⟨_, rfl, a, _, 3, _, rfl, rfl, SqT.of ha', atI_nat (j := 3) rfl, small1000 (Nat.le_of_ble_eq_true rfl), fun p hp => ?_⟩
      have sp := same_new (o := .tup [w0]) hp
      exact q p [w0] _ sp upd_same (AG.consA (BdAt.same g sp) AG.nil)
    | .choose bs, ⟨a', ws, e, ha', g⟩, few, q =>
      cases e
      obtain ⟨ec, ew⟩ := cut_tail (.str "choose") ws
      refine ⟨_, rfl, rfl, _, rfl, iteF ⟨_, rfl, rfl, _, rfl, iteF ⟨_, rfl, rfl, _, rfl, iteT ?_⟩⟩⟩
      refine ⟨_, rfl, _, rfl, a, _, rfl, SqT.of ha', fun z => (ew z).elim, fun _ p hp => ?_⟩
      rw [ec]
      have sp := same_new (o := .tup ws) hp
      exact q p ws _ sp upd_same (g.imp fun _ _ z => BdAt.same z sp)
    | .toss rs, ⟨a', ws, e, ha', g⟩, few, q =>
      cases e
      obtain ⟨ec, ew⟩ := cut_tail (.str "toss") ws
      refine ⟨_, rfl, rfl, _, rfl, iteT ?_⟩
      refine ⟨_, rfl, _, rfl, a, _, rfl, SqT.of ha', fun z => (ew z).elim, fun _ p hp => ?_⟩
      rw [ec]
      have sp := same_new (o := .tup ws) hp
      have hp1 : upd H p (.tup ws) p = some (.tup ws) := upd_same
      have g1 := g.imp (R' := fun w0 r => ∃ p0 x, w0 = .ref p0 ∧ upd H p (.tup ws) p0 = some (.tup [.int r.1, x]) ∧ BdAt n (upd H p (.tup ws)) x r.2) fun _ _ ⟨p0, x, e1, h1, z⟩ => ⟨p0, x, e1, sp _ _ h1, BdAt.same z sp⟩
      generalize upd H p (.tup ws) = H1 at sp hp1 g1 ⊢
      have lw : ws.length ≤ 90 := by rw [g1.1]; have : (rs.map fun r => r.2).length ≤ 90 := few; rw [List.length_map] at this; exact this
      refine ⟨p, rfl, ⟨_, SqT.of hp1⟩, fun D hD => ?_⟩
      refine lc_tup (xs := ws) (fun i Hc => Same H1 Hc ∧ ∃ us, Hc D = some (.lst us) ∧ AG (fun w b => BdAt n Hc w b) us ((rs.map fun r => r.2).take i)) ⟨same_new hD, [], upd_same, AG.nil⟩ (fun i Hc _ p' => SqT.of (p'.1 _ _ hp1)) ?_ ?_
      · rintro i v Hc hvi ⟨sm, us, hDc, hu⟩
        obtain ⟨r, hr, p0, x0, rfl, h0, z⟩ := g1.2 i v hvi
        have il := (List.getElem?_eq_some_iff.mp hvi).1
        have h0 := sm _ _ h0
        have z := BdAt.same z sm
        refine ⟨p0, _, rfl, SqT.of h0, rfl, _, _, rfl, _, _, rfl, rfl, rfl, ?_⟩
        have dt : ∀ b xs, Hc b = some (.tup xs) → upd Hc D (.lst (us ++ [x0])) b = some (.tup xs) := fun b xs e => by rw [upd_ne (fun y => by rw [y, hDc] at e; cases e)]; exact e
        refine ⟨_, rfl, us, hDc, small1000 (by rw [hu.1, List.length_take, List.length_map]; have := g1.1; omega), same_upd hD sm, us ++ [x0], upd_same, ?_⟩
        have hr2 : (rs.map fun r => r.2)[i]? = some r.2 := by rw [List.getElem?_map, hr]; rfl
        rw [take_snoc hr2]
        exact AG.snoc (hu.imp fun _ _ y => bdAt_keep dt n _ _ y) (bdAt_keep dt n _ _ z)
      · rintro Hc ⟨sm, us, hDc, hu⟩
        rw [List.take_of_length_le (by rw [List.length_map, g1.1]; exact Nat.le_refl _)] at hu
        refine ⟨D, _, rfl, .inl ⟨SqL.of hDc, fun t ht => ?_⟩⟩
        have st := same_new (o := .tup us) ht
        exact q t us _ ((sp.trans sm).trans st) upd_same (hu.imp fun _ _ y => BdAt.same y st)
end
end FR
set_option Elab.async false
set_option linter.all false
set_option maxRecDepth 100000
set_option maxHeartbeats 1000000
/-! placed_statements -/
namespace FR
open PySem PySem.Spec PyProof.Rows L2
/-- all but lists stays -/
def Kt (H H' : Hp) : Prop := ∀ a o, H a = some o → (∀ xs, o ≠ .lst xs) → H' a = some o
theorem Kt.same {H H' : Hp} (s : Same H H') : Kt H H' := fun a o h _ => s a o h
theorem Kt.trans {H H1 H2 : Hp} (a : Kt H H1) (b : Kt H1 H2) : Kt H H2 := fun q o h n => b q o (a q o h n) n
theorem Kt.upd {H : Hp} {l : Addr} {xs : List V} {o : HO} (h : H l = some (.lst xs)) : Kt H (L2.upd H l o) := fun a o' e n => by
  rw [upd_ne (fun z => by rw [z, h] at e; cases e; exact n xs rfl)]; exact e
theorem Kt.tup {H H' : Hp} (k : Kt H H') {a : Addr} {xs : List V} (h : H a = some (.tup xs)) : H' a = some (.tup xs) := k a _ h fun _ z => by cases z
theorem Kt.seqT {K : PySem.W.Frag} {H H' : Hp} (k : Kt H H') {a : Addr} {xs : List V} (h : SqT K H a xs) : SqT K H' a xs := by
  rcases h with (h | ⟨o, h⟩) | h
  · exact .inl (.inl (k.tup h))
  · exact .inl (.inr ⟨o, k _ _ h fun _ z => by cases z⟩)
  · exact .inr h
theorem Kt.bd {n : Nat} {H H' : Hp} (k : Kt H H') {v : V} {b : Bd} (h : BdAt n H v b) : BdAt n H' v b := bdAt_keep (fun _ _ x => k.tup x) n v b h
theorem Kt.st {n : Nat} {H H' : Hp} (k : Kt H H') {v : V} {x : St} (h : StAt n H v x) : StAt n H' v x := stW_imp (fun _ _ x => k.tup x) (bdAt_keep (fun _ _ x => k.tup x) n) h
/-! ### what is placed -/
abbrev PL1 : Type := List Nat × St
def kidsP (pl : Bd → List Nat → List PL1) (s : St) (p : List Nat) : List PL1 := s.kids.zipIdx.flatMap fun z => pl z.1 (p ++ [z.2])
def stP (pl : Bd → List Nat → List PL1) (s : St) (p : List Nat) : List PL1 := (p, s) :: kidsP pl s p
def placed : Nat → Bd → List Nat → List PL1
  | 0, _, _ => []
  | n + 1, b, p => b.zipIdx.flatMap fun z => stP (placed n) z.1 (p ++ [z.2])
/-- few bodies in each statement -/
def FewB : Nat → Bd → Prop
  | 0, _ => True
  | n + 1, b => ∀ s ∈ b, s.kids.length ≤ 90 ∧ ∀ k ∈ s.kids, FewB n k
theorem flat_le {α β : Type} {f : α → List β} : ∀ {l : List α} {x : α}, x ∈ l → (f x).length ≤ (l.flatMap f).length
  | y :: r, x, h => by
    rw [List.flatMap_cons, List.length_append]
    rcases List.mem_cons.mp h with e | h
    · rw [e]; omega
    · have := flat_le (f := f) h; omega
theorem flat_take {α β : Type} {f : α → List β} {l : List α} {i : Nat} {x : α} (h : l[i]? = some x) : (l.take (i + 1)).flatMap f = (l.take i).flatMap f ++ f x := by
  rw [take_snoc h, List.flatMap_append, List.flatMap_cons, List.flatMap_nil, List.append_nil]
theorem flat_take_le {α β : Type} {f : α → List β} (l : List α) (i : Nat) : ((l.take i).flatMap f).length ≤ (l.flatMap f).length := by
  conv => rhs; rw [← List.take_append_drop i l, List.flatMap_append, List.length_append]
  omega
theorem zip_get {α : Type} {l : List α} {i : Nat} {x : α} (h : l[i]? = some x) : l.zipIdx[i]? = some (x, i) := by
  rw [List.getElem?_zipIdx, h]
  simp
section
variable (K : PySem.W.Frag)
/-- a place and the statement there -/
def Pl (n : Nat) (H : Hp) (z : V) (y : PL1) : Prop := ∃ t a s, z = .ref t ∧ H t = some (.tup [.ref a, s]) ∧ SqT K H a (y.1.map fun i => V.int (i : Nat)) ∧ StAt n H s y.2
end
variable {K : PySem.W.Frag}
theorem Kt.pl {n : Nat} {H H' : Hp} (k : Kt H H') {z : V} {y : PL1} (h : Pl K n H z y) : Pl K n H' z y := by
  obtain ⟨t, a, s, e, ht, ha, hs⟩ := h
  exact ⟨t, a, s, e, k.tup ht, k.seqT ha, k.st hs⟩
theorem Pl.up {n : Nat} {H : Hp} {z : V} {y : PL1} (h : Pl K n H z y) : Pl K (n + 1) H z y := by
  obtain ⟨t, a, s, e, ht, ha, hs⟩ := h
  exact ⟨t, a, s, e, ht, ha, hs.up⟩
/-- p + (i,) -/
theorem cat_path {H : Hp} {a b : Addr} {p : List Nat} {i : Nat} {Q : VK} (h : SqT K H a (p.map fun i => V.int (i : Nat))) (g : H b = some (.tup [.int (i : Nat)])) (l : p.length ≤ 900) (q : ∀ c H', Same H H' → SqT K H' c ((p ++ [i]).map fun i => V.int (i : Nat)) → Q (.ref c) H') : rCatA K (.ref a) (.ref b) H Q := by
  have e : (p ++ [i]).map (fun i => V.int (i : Nat)) = p.map (fun i => V.int (i : Nat)) ++ [V.int (i : Nat)] := by rw [List.map_append]; rfl
  refine ⟨a, b, _, _, rfl, rfl, h, SqT.of g, Nat.le_of_lt (small1000 (by rw [List.length_map]; show _ + 1 ≤ 1000; omega)), fun z => q b H (Same.refl H) ?_, fun _ (z : [V.int (i : Nat)] = []) => (List.cons_ne_nil _ _ z).elim, fun _ _ c hc => q c _ (same_new hc) ?_⟩
  · rw [e, z]; exact SqT.of g
  · rw [e]; exact SqT.of upd_same
section
variable {P : Program} {w : World} {mg : Str → Option Value} {base : Heap}
abbrev sPls : Stmt := top 15
abbrev NPls : List Str := ["body", "path", "found", "number", "statement", "at", "inner", "part"]
theorem scPls : FnScope NPls ["body", "path"] (defScope sPls) := ⟨rfl, rfl, rfl, by decide +kernel, rfl, by decide +kernel, by decide +kernel⟩
def spPls (K : PySem.W.Frag) (n : Nat) : Sp := fun vs H Q _ => ∃ v pa b p, vs = [v, .ref pa] ∧ BdAt n H v b ∧ SqT K H pa (p.map fun i => V.int (i : Nat)) ∧ FewB n b ∧ p.length + 2 * n ≤ 100 ∧ (placed n b p).length ≤ 900 ∧
  ∀ l zs H', H l = none → Same H H' → H' l = some (.lst zs) → AG (fun z y => Pl K n H' z y) zs (placed n b p) → Q (.ref l) H'
theorem ok_pls {f : Addr} {fd : FuncData} {dT : Addr} {n k : Nat} (F : FunD K "placed_statements" "placed_statements" (defArgs sPls) (defBody sPls) (defScope sPls) [V.ref dT] [] f fd) (gB : Glo P w K mg base "bodies_in" 1 ["statement"] (spBin n)) (gS : FnOk P w K mg base CX0 k f fd ["body", "path"] (spPls K n)) (k1 : 1 ≤ k)
    (mS : mg "placed_statements" = some (.ref f)) (kS : PySem.W.keepIn K (.ref f) = true) (bS : Binds K fd ["body", "path"] []) (mEn : mg "enumerate" = none) : FnOk P w K mg base CX0 (k + 1) f fd ["body", "path"] (spPls K (n + 1)) := by
  refine F.ok scPls (fun vs H Q E h => ?_) (fun cdv A outer s H vs Q E hr h => ?_)
  · obtain ⟨v, pa, b, p, rfl, _⟩ := h
    rfl
  · obtain ⟨v, pa, b, p, rfl, ⟨a, xs, rfl, ha, hx⟩, hp, few, lp, sz, q⟩ := h
    refine ⟨_, PSs.nox (X := cxOf CX0 P w K mg base NPls "placed_statements" (defScope sPls) f cdv A outer s H E) (pss_cons (ps_set (i := 2) scPls.nd rfl (Or.inl rfl) (pe_lst pa_nil))
      (pss_cons (ps_for PassesOwn.never rfl (pi_enumT (by rfl) mEn (pa_cons (pv 0) pa_nil)) (pg_tup (by rfl) (pgs_cons (pg_name (i := 3) scPls.nd rfl (.inl rfl)) (pgs_cons (pg_name (i := 4) scPls.nd rfl (.inl rfl)) pgs_nil)))
        (pss_cons (ps_set (i := 5) scPls.nd rfl (Or.inl rfl) (pe_op op_catA (pv 1) (pe_tup (pa_cons (pv 3) pa_nil))))
        (pss_cons (ps_expr (pe_bm PySem.F.plainAttrs_list PySem.F.slot_list_append PySem.F.type_list_append mt_append (pv 2) (pa_cons (pe_tup (pa_cons (pv 5) (pa_cons (pv 4) pa_nil))) pa_nil)))
        (pss_one (ps_for PassesOwn.never rfl (pi_enumT (by rfl) mEn (pa_cons (pe_call gB.G (hr.mono k1) (by rfl) gB.m gB.k gB.b .nil pass0 (pa_cons (pv 4) pa_nil)) pa_nil)) (pg_tup (by rfl) (pgs_cons (pg_name (i := 6) scPls.nd rfl (.inl rfl)) (pgs_cons (pg_name (i := 7) scPls.nd rfl (.inl rfl)) pgs_nil)))
          (pss_one (ps_expr (pe_bm PySem.F.plainAttrs_list PySem.F.slot_list_extend PySem.F.type_list_extend mt_extend (pv 2) (pa_cons (pe_call gS hr (by rfl) mS kS bS .nil pass0 (pa_cons (pv 7) (pa_cons (pe_op op_catA (pv 5) (pe_tup (pa_cons (pv 6) pa_nil))) pa_nil))) pa_nil)))))))))
      (pss_one (ps_ret (pv 2))))), ?_⟩
    refine ⟨Nat.zero_le _, fun fo hfo => ?_⟩
    have s0 := same_new (o := .lst []) hfo
    have h0 : upd H fo (.lst []) fo = some (.lst []) := upd_same
    generalize upd H fo (.lst []) = H0 at s0 h0 ⊢
    refine ⟨_, rfl, a, xs, rfl, SqT.of (s0 _ _ ha), ?_⟩
    have xl : xs.length = b.length := hx.1
    let ft : Nat → List PL1 := fun i => (b.zipIdx.take i).flatMap fun z => stP (placed n) z.1 (p ++ [z.2])
    refine for_it (walk_enumT (xs := xs)) (fun i σ Hc => Same H Hc ∧ ∃ (us : List V) (x3 x4 x5 x6 x7 : Option V), σ = [some (.ref a), some (.ref pa), some (.ref fo), x3, x4, x5, x6, x7] ∧ Hc fo = some (.lst us) ∧ AG (fun z y => Pl K (n + 1) Hc z y) us (ft i))
      ⟨s0, [], _, _, _, _, _, rfl, h0, AG.nil⟩ (fun i σ Hc _ p' => SqT.of (p'.1 _ _ ha)) ?_ ?_
    · rintro i v σ Hc H' hi ⟨sm, us, x3, x4, x5, x6, x7, rfl, hfc, hu⟩ ⟨T0, u1, u2, rfl, nT, rfl, h1, h2⟩
      have h1 : some (V.int (i : Nat)) = some u1 := h1
      cases h1
      have h2 : xs[i]? = some u2 := h2
      obtain ⟨st, hst, hs⟩ := hx.2 i u2 h2
      have il : i < b.length := (List.getElem?_eq_some_iff.mp hst).1
      obtain ⟨fk, fks⟩ := few st (List.mem_of_getElem? hst)
      have sT := same_new (o := .tup [V.int (i : Nat), u2]) nT
      have tt0 : upd Hc T0 (.tup [V.int (i : Nat), u2]) T0 = some (.tup [V.int (i : Nat), u2]) := upd_same
      refine ⟨T0, _, rfl, SqT.of tt0, rfl, _, _, rfl, _, _, rfl, rfl, ?_⟩
      have s1 := sm.trans sT
      have hf1 := sT _ _ hfc
      have k1' : Kt Hc (upd Hc T0 (.tup [V.int (i : Nat), u2])) := Kt.same sT
      generalize upd Hc T0 (.tup [V.int (i : Nat), u2]) = HA at s1 hf1 k1' ⊢
      -- the place
      refine ⟨_, rfl, _, rfl, small1000 (Nat.le_of_ble_eq_true rfl), fun p1 hp1 => ?_⟩
      have s2 := same_new (o := .tup [V.int (i : Nat)]) hp1
      refine cat_path ((Kt.same (s1.trans s2)).seqT hp) upd_same (by omega) fun ac HB sB hac => ?_
      have s3 := s2.trans sB
      have hf3 := s3 _ _ hf1
      refine ⟨_, rfl, .inl ⟨rfl, _, SqL.of hf3⟩, _, rfl, _, rfl, small1000 (Nat.le_of_ble_eq_true rfl), fun t ht => ?_⟩
      have s4 := same_new (o := .tup [V.ref ac, u2]) ht
      have ht4 : upd HB t (.tup [V.ref ac, u2]) t = some (.tup [V.ref ac, u2]) := upd_same
      have hf4 := s4 _ _ hf3
      have s04 := (s1.trans s3).trans s4
      have kc4 := (k1'.trans (Kt.same s3)).trans (Kt.same s4)
      have hac4 := (Kt.same s4).seqT hac
      generalize upd HB t (.tup [V.ref ac, u2]) = HC at ht4 hf4 s04 kc4 hac4 ⊢
      have total : (placed (n + 1) b p).length ≤ 900 := sz
      have hit : (ft (i + 1)).length ≤ 900 := Nat.le_trans (flat_take_le _ _) total
      have step : ft (i + 1) = ft i ++ stP (placed n) st (p ++ [i]) := flat_take (zip_get hst)
      have lft : us.length = (ft i).length := hu.1
      have lst_ : (ft i).length + 1 + (kidsP (placed n) st (p ++ [i])).length ≤ 900 := by
        rw [step, List.length_append] at hit
        unfold stP at hit
        rw [List.length_cons] at hit
        omega
      refine ⟨fo, us, _, rfl, rfl, hf4, small1000 (by omega), ?_⟩
      have kd := Kt.upd (o := .lst (us ++ [V.ref t])) hf4
      have hf5 : upd HC fo (.lst (us ++ [V.ref t])) fo = some (.lst (us ++ [V.ref t])) := upd_same
      have s05 : Same H (upd HC fo (.lst (us ++ [V.ref t]))) := same_upd hfo s04
      have kc5 := kc4.trans kd
      have hac5 := kd.seqT hac4
      have hs5 := ((Kt.same sm).trans kc5).st hs
      have hu5 : AG (fun z y => Pl K (n + 1) (upd HC fo (.lst (us ++ [V.ref t]))) z y) (us ++ [V.ref t]) (ft i ++ [(p ++ [i], st)]) := AG.snoc (hu.imp fun _ _ y => kc5.pl y) ⟨t, ac, u2, rfl, kd.tup ht4, hac5, hs5.up⟩
      generalize upd HC fo (.lst (us ++ [V.ref t])) = HD at hf5 s05 kc5 hac5 hs5 hu5 ⊢
      -- the bodies in it
      refine ⟨_, rfl, u2, st, rfl, hs5, fk, fun ka ks HE sE hka hks => ⟨ka, ks, rfl, SqT.of hka, ?_⟩⟩
      have kl : ks.length = st.kids.length := hks.1
      let fk_ : Nat → List PL1 := fun j => (st.kids.zipIdx.take j).flatMap fun z => placed n z.1 (p ++ [i] ++ [z.2])
      refine for_it (walk_enumT (xs := ks)) (fun j σ Hx => Same H Hx ∧ Kt HE Hx ∧ ∃ (ws : List V) (x6 x7 : Option V), σ = [some (.ref a), some (.ref pa), some (.ref fo), some (.int (i : Nat)), some u2, some (.ref ac), x6, x7] ∧ Hx fo = some (.lst ws) ∧ AG (fun z y => Pl K (n + 1) Hx z y) ws ((ft i ++ [(p ++ [i], st)]) ++ fk_ j))
        ⟨s05.trans sE, Kt.same (Same.refl _), _, _, _, rfl, sE _ _ hf5, by
          show AG _ _ ((ft i ++ [(p ++ [i], st)]) ++ [])
          rw [List.append_nil]
          exact hu5.imp fun _ _ y => (Kt.same sE).pl y⟩ (fun j σ Hx _ p' => SqT.of (p'.2.1.tup hka)) ?_ ?_
      · rintro j v σ Hx H' hj ⟨sx, kx, ws, x6, x7, rfl, hfx, hw⟩ ⟨T1, u3, u4, rfl, nT1, rfl, h3, h4⟩
        have h3 : some (V.int (j : Nat)) = some u3 := h3
        cases h3
        have h4 : ks[j]? = some u4 := h4
        obtain ⟨kb, hkb, hb⟩ := hks.2 j u4 h4
        have sT1 := same_new (o := .tup [V.int (j : Nat), u4]) nT1
        have tt1 : upd Hx T1 (.tup [V.int (j : Nat), u4]) T1 = some (.tup [V.int (j : Nat), u4]) := upd_same
        refine ⟨T1, _, rfl, SqT.of tt1, rfl, _, _, rfl, _, _, rfl, rfl, ?_⟩
        have hfx1 := sT1 _ _ hfx
        refine ⟨_, rfl, .inl ⟨rfl, _, SqL.of hfx1⟩, _, rfl, _, rfl, _, rfl, small1000 (Nat.le_of_ble_eq_true rfl), fun p2 hp2 => ?_⟩
        have sp2 := same_new (o := .tup [V.int (j : Nat)]) hp2
        have sx2 := sT1.trans sp2
        refine cat_path (((Kt.same sE).trans kx).trans (Kt.same sx2) |>.seqT hac5) upd_same (by rw [List.length_append]; show p.length + 1 ≤ 900; omega) fun kc HF sF hkc => ?_
        have sx3 := sx2.trans sF
        have stepk : fk_ (j + 1) = fk_ j ++ placed n kb (p ++ [i] ++ [j]) := flat_take (zip_get hkb)
        have lek : (fk_ (j + 1)).length ≤ (kidsP (placed n) st (p ++ [i])).length := flat_take_le _ _
        rw [stepk, List.length_append] at lek
        refine ⟨u4, kc, kb, p ++ [i] ++ [j], rfl, (kx.trans (Kt.same sx3)).bd hb, hkc, fks kb (List.mem_of_getElem? hkb), by rw [List.length_append, List.length_append]; show p.length + 1 + 1 + 2 * n ≤ 100; omega, by omega, fun l2 zs HG nl2 sG hl2 hz => ?_⟩
        have sx4 := sx3.trans sG
        have lw : ws.length = (ft i).length + 1 + (fk_ j).length := by
          have := hw.1
          rw [List.length_append, List.length_append] at this
          exact this
        have lz : zs.length = (placed n kb (p ++ [i] ++ [j])).length := hz.1
        have hfG := sx4 _ _ hfx
        refine ⟨fo, l2, ws, zs, rfl, rfl, hfG, hl2, Nat.le_of_lt (small1000 (by omega)), ?_⟩
        have kG := Kt.upd (o := .lst (ws ++ zs)) hfG
        refine ⟨same_upd hfo (sx.trans sx4), (kx.trans (Kt.same sx4)).trans kG, _, _, _, rfl, upd_same, ?_⟩
        rw [stepk, ← List.append_assoc]
        exact AG.app (hw.imp fun _ _ y => ((Kt.same sx4).trans kG).pl y) (hz.imp fun _ _ y => kG.pl y.up)
      · rintro σ Hx ⟨sx, kx, ws, x6, x7, rfl, hfx, hw⟩
        have e : fk_ ks.length = kidsP (placed n) st (p ++ [i]) := by
          show (st.kids.zipIdx.take ks.length).flatMap _ = _
          rw [List.take_of_length_le (by rw [List.length_zipIdx, kl]; exact Nat.le_refl _)]
          rfl
        rw [e, List.append_assoc] at hw
        refine ⟨sx, ws, _, _, _, _, _, rfl, hfx, ?_⟩
        rw [step]
        exact hw
    · rintro σ Hc ⟨sm, us, x3, x4, x5, x6, x7, rfl, hfc, hu⟩
      have e : ft xs.length = placed (n + 1) b p := by
        show (b.zipIdx.take xs.length).flatMap _ = _
        rw [List.take_of_length_le (by rw [List.length_zipIdx, xl]; exact Nat.le_refl _)]
        rfl
      rw [e] at hu
      exact ⟨_, rfl, q fo us Hc hfo sm hfc hu⟩
end
end FR
set_option Elab.async false
set_option linter.all false
set_option maxRecDepth 100000
set_option maxHeartbeats 1000000
/-! placed_statements at every level; statements_of -/
namespace FR
open PySem PySem.Spec PyProof.Rows L2
section
variable {P : Program} {w : World} {K : PySem.W.Frag} {mg : Str → Option Value} {base : Heap}
/-- at every level -/
theorem ok_placed {f dT : Addr} {fd : FuncData} (F : FunD K "placed_statements" "placed_statements" (defArgs sPls) (defBody sPls) (defScope sPls) [V.ref dT] [] f fd) (gB : ∀ n, Glo P w K mg base "bodies_in" 1 ["statement"] (spBin n))
    (mS : mg "placed_statements" = some (.ref f)) (kS : PySem.W.keepIn K (.ref f) = true) (bS : Binds K fd ["body", "path"] []) (mEn : mg "enumerate" = none) : ∀ n, FnOk P w K mg base CX0 (n + 1) f fd ["body", "path"] (spPls K n)
  | 0 => by
    refine F.ok scPls (fun vs H Q E h => ?_) (fun cdv A outer s H vs Q E hr h => ?_)
    · obtain ⟨v, pa, b, p, rfl, h, _⟩ := h
      exact h.elim
    · obtain ⟨v, pa, b, p, rfl, h, _⟩ := h
      exact h.elim
  | n + 1 => ok_pls F (gB n) (ok_placed F gB mS kS bS mEn n) (by omega) mS kS bS mEn
abbrev sSof : Stmt := top 16
abbrev NSof : List Str := ["body", "word", "_", "statement"]
theorem scSof : FnScope NSof ["body", "word"] (defScope sSof) := ⟨rfl, rfl, rfl, by decide +kernel, rfl, by decide +kernel, by decide +kernel⟩
/-- those of this word -/
def ofWord (n : Nat) (b : Bd) (z : Str) : List St := ((placed n b []).map fun y => y.2).filter fun x => decide (x.word = z)
def spSof (K : PySem.W.Frag) (n : Nat) : Sp := fun vs H Q _ => ∃ v b z, vs = [v, .str z] ∧ BdAt n H v b ∧ FewB n b ∧ 2 * n ≤ 100 ∧ (placed n b []).length ≤ 900 ∧ ∀ l us H', Same H H' → H' l = some (.lst us) → AG (fun v x => StAt n H' v x) us (ofWord n b z) → Q (.ref l) H'
theorem ok_sof {f fp dT : Addr} {fd fdp : FuncData} {n : Nat} (F : Fun K "statements_of" "statements_of" sSof f fd) (GP : FnOk P w K mg base CX0 (n + 1) fp fdp ["body", "path"] (spPls K n)) (mP : mg "placed_statements" = some (.ref fp)) (kP : PySem.W.keepIn K (.ref fp) = true)
    {ds : List Value} (bP : Binds K fdp ["body", "path"] ds) (vP : Vals [V.ref dT] ds) (hT : ∀ H, SqT K H dT []) : FnOk P w K mg base CX0 (n + 2) f fd ["body", "word"] (spSof K n) := by
  refine F.ok scSof (fun vs H Q E h => ?_) (fun cdv A outer s H vs Q E hr h => ?_)
  · obtain ⟨v, b, z, rfl, _⟩ := h
    rfl
  · obtain ⟨v, b, z, rfl, hb, few, n50, sz, q⟩ := h
    refine ⟨_, (pss_one (ps_ret (pe_lc (X := (cxOf CX0 P w K mg base NSof "statements_of" (defScope sSof) f cdv A outer s H E).nox) (own := [("_", 2), ("statement", 3)]) (g := (gTup K 2 (gCons (gName 2) (gCons (gName 3) gNil)))) rfl scSof.nd (pi_list (pe_call GP hr (by rfl) mP kP bP vP pass0 (pa_cons (pv 0) pa_nil))) (blkOk_by (N := NSof) (sc := defScope sSof) (by decide +kernel)) (fun _ _ _ _ _ => (pg_tupK (K := K) rfl rfl (pgs_cons (pg_name (i := 2) scSof.nd rfl (.inl rfl)) (pgs_cons (pg_name (i := 3) scSof.nd rfl (.inl rfl)) pgs_nil)))) (fun _ _ _ _ _ => (pts_one (pt_cmpR op_eq (pe_ix (ix_tupK (K := K) rfl) (pv 3) pe_int (fun _ _ => rfl)) (pv 1) (nomark _)))) (fun _ _ _ _ _ => (pv 3))))), ?_⟩
    refine ⟨_, rfl, v, dT, b, [], rfl, hb, hT H, few, by show 0 + 2 * n ≤ 100; omega, sz, fun l zs H1 nl s1 hl hz => ?_⟩
    have zl : zs.length = (placed n b []).length := hz.1
    refine ⟨l, rfl, ⟨_, SqL.of hl⟩, fun D hD => ?_⟩
    let g : Nat → List St := fun i => (((placed n b []).take i).map fun y => y.2).filter fun x => decide (x.word = z)
    refine lc_list (xs := zs) (fun i Hc => Same H1 Hc ∧ ∃ us, Hc D = some (.lst us) ∧ us.length ≤ i ∧ AG (fun v x => StAt n Hc v x) us (g i)) ⟨same_new hD, [], upd_same, Nat.le_refl _, AG.nil⟩ (fun i Hc _ p => SqL.of (p.1 _ _ hl)) ?_ ?_
    · rintro i v' Hc hvi ⟨sm, us, hDc, lu, hu⟩
      obtain ⟨y, hy, t, a, x, rfl, ht, _, hx⟩ := hz.2 i v' hvi
      have il := (List.getElem?_eq_some_iff.mp hvi).1
      have ht := sm _ _ ht
      have hx := (Kt.same sm).st hx
      obtain ⟨ax, xs, rfl, hax⟩ := hx.head
      have gs : g (i + 1) = g i ++ (if decide (y.2.word = z) = true then [y.2] else []) := by
        show (((placed n b []).take (i + 1)).map _).filter _ = _
        rw [take_snoc hy, List.map_append, List.filter_append]
        congr 1
        show List.filter _ [y.2] = _
        rw [List.filter_cons]
        split <;> rfl
      refine ⟨t, _, rfl, SqT.of ht, rfl, _, _, rfl, _, _, rfl, rfl, rfl, ?_⟩
      refine ⟨_, rfl, ax, _, 0, _, rfl, rfl, SqT.of hax, atI_nat (j := 0) rfl, _, rfl, rfl, _, rfl, ?_⟩
      have de : decide (V.str y.2.word = V.str z) = decide (y.2.word = z) := by
        by_cases h : y.2.word = z
        · rw [h, decide_eq_true rfl, decide_eq_true rfl]
        · rw [decide_eq_false h, decide_eq_false fun e => h (V.str.inj e)]
      rw [de]
      refine ite2 (fun h => ?_) (fun h => ?_)
      · rw [if_pos h] at gs
        have kd := Kt.upd (o := .lst (us ++ [V.ref ax])) hDc
        refine ⟨_, rfl, us, hDc, small1000 (by omega), same_upd hD sm, us ++ [.ref ax], upd_same, by rw [List.length_append]; show us.length + 1 ≤ i + 1; omega, ?_⟩
        rw [gs]
        exact AG.snoc (hu.imp fun _ _ y => kd.st y) (kd.st hx)
      · rw [if_neg h, List.append_nil] at gs
        exact ⟨sm, us, hDc, by omega, by rw [gs]; exact hu⟩
    · rintro Hc ⟨sm, us, hDc, _, hu⟩
      have e : g zs.length = ofWord n b z := by
        show (((placed n b []).take zs.length).map _).filter _ = _
        rw [zl, List.take_length]
        rfl
      rw [e] at hu
      exact q D us Hc (s1.trans sm) hDc hu
end
end FR
set_option Elab.async false
set_option linter.all false
set_option maxRecDepth 100000
set_option maxHeartbeats 1000000
/-! is_between, is_name, _is_weight -/
namespace FR
open PySem PySem.Spec PyProof.Rows L2
abbrev sPlain : Stmt := top 9
abbrev sBet : Stmt := top 10
abbrev sNm : Stmt := top 27
abbrev sWt : Stmt := top 32
def spPlain (K : PySem.W.Frag) : Sp := fun vs H Q _ => ∃ (v : V) (t : Value) (b1 b2 : Bool), vs = [v] ∧ TyX K H v t ∧ PySem.W.kitOne K t (.type "int") = some b1 ∧ PySem.W.kitOne K t (.type "bool") = some b2 ∧ Q (.bl (b1 && !b2)) H
section
variable {P : Program} {w : World} {K : PySem.W.Frag} {mg : Str → Option Value} {base : Heap}
theorem scP : FnScope ["value"] ["value"] (defScope sPlain) := ⟨rfl, rfl, rfl, by decide +kernel, rfl, by decide +kernel, by decide +kernel⟩
theorem ok_plain {f : Addr} {fd : FuncData} (F : Fun K "is_plain_integer" "is_plain_integer" sPlain f fd) (m1 : mg "isinstance" = none) (m2 : mg "int" = none) (m3 : mg "bool" = none) : FnOk P w K mg base CX0 1 f fd ["value"] (spPlain K) := by
  refine F.ok scP (fun vs H Q E h => ?_) (fun cdv A outer s H vs Q E hr h => ?_)
  · obtain ⟨v, _, _, _, rfl, _⟩ := h
    rfl
  · obtain ⟨v, t, b1, b2, rfl, ht, h1, h2, k⟩ := h
    refine ⟨_, pss_one (ps_ret (pe_and (pe_callB call_isi (by rfl) m1 PyProof.Rows.boot_isinstance (pa_cons (pv 0) (pa_cons (pe_bltn (v := .ty "int") (by rfl) m2 (by decide +kernel) rfl) pa_nil)))
      (pe_one (pe_not (pe_callB call_isi (by rfl) m1 PyProof.Rows.boot_isinstance (pa_cons (pv 0) (pa_cons (pe_bltn (v := .ty "bool") (by rfl) m3 (by decide +kernel) rfl) pa_nil))))))), ?_⟩
    refine ⟨_, rfl, v, _, t, _, b1, rfl, .ty _, ht, h1, _, rfl, ?_⟩
    cases b1 with
    | false => exact k
    | true => exact ⟨_, rfl, v, _, t, _, b2, rfl, .ty _, ht, h2, _, rfl, k⟩
theorem kI1 : PySem.W.kitOne K (.type "int") (.type "int") = some true := kit_ty (by decide +kernel)
theorem kI2 : PySem.W.kitOne K (.type "int") (.type "bool") = some false := kit_ty (by decide +kernel)
theorem scBet : FnScope ["value", "least", "greatest"] ["value", "least", "greatest"] (defScope sBet) := ⟨rfl, rfl, rfl, by decide +kernel, rfl, by decide +kernel, by decide +kernel⟩
def spBetX : Sp := fun vs H Q _ => ∃ i lo hi : Int, vs = [.int i, .int lo, .int hi] ∧ Q (.bl (decide (lo ≤ i) && decide (i ≤ hi))) H
theorem ok_betX {f fP : Addr} {fd fdP : FuncData} (F : Fun K "is_between" "is_between" sBet f fd) (GP : FnOk P w K mg base CX0 1 fP fdP ["value"] (spPlain K)) (mP : mg "is_plain_integer" = some (.ref fP))
    (kP : PySem.W.keepIn K (.ref fP) = true) (bP : Binds K fdP ["value"] []) : FnOk P w K mg base CX0 2 f fd ["value", "least", "greatest"] spBetX := by
  refine F.ok scBet (fun vs H Q E h => ?_) (fun cdv A outer s H vs Q E hr h => ?_)
  · obtain ⟨i, lo, hi, rfl, _⟩ := h
    rfl
  · obtain ⟨i, lo, hi, rfl, q⟩ := h
    refine ⟨_, pss_one (ps_ret (pe_and (pe_call GP hr (by rfl) mP kP bP .nil pass0 (pa_cons (pv 0) pa_nil)) (pe_one (pe_chain op_le op_le (pv 1) (pv 0) (pv 2))))), ?_⟩
    refine ⟨_, rfl, _, _, true, false, rfl, .base (.int i), kI1, kI2, _, rfl, ?_⟩
    refine ⟨_, rfl, _, rfl, _, _, rfl, rfl, _, rfl, ?_⟩
    by_cases h1 : lo ≤ i
    · rw [if_pos (decide_eq_true h1)]
      refine ⟨_, rfl, _, _, rfl, rfl, ?_⟩
      rw [decide_eq_true h1, Bool.true_and] at q
      exact q
    · rw [if_neg (by rw [decide_eq_false h1]; decide)]
      rw [decide_eq_false h1, Bool.false_and] at q
      first
      | exact q
      | (rw [decide_eq_false h1]; exact q)
end
def lets : Str := "abcdefghijklmnopqrstuvwxyz"
/-- whether it is a name -/
def nameB (z : Str) : Bool := (decide ((1 : Int) ≤ (z.length : Nat)) && decide (((z.length : Nat) : Int) ≤ 8)) && z.cps.toList.all fun c => decide (c ∈ lets.cps.toList)
section
variable {P : Program} {w : World} {K : PySem.W.Frag} {mg : Str → Option Value} {base : Heap}
abbrev NNm : List Str := ["value", "letter"]
theorem scNm : FnScope NNm ["value"] (defScope sNm) := ⟨rfl, rfl, rfl, by decide +kernel, rfl, by decide +kernel, by decide +kernel⟩
/-- a text; or no text at all -/
def spNm (K : PySem.W.Frag) : Sp := fun vs H Q _ => (∃ z, vs = [.str z] ∧ z.length ≤ sizeLine ∧ ∀ H', Same H H' → Q (.bl (nameB z)) H') ∨ (∃ v t, vs = [v] ∧ TyX K H v t ∧ PySem.W.kitOne K t (.type "str") = some false ∧ Q (.bl false) H)
structure TxtN (mg : Str → Option Value) : Prop where
  isi : mg "isinstance" = none
  str : mg "str" = none
  len : mg "len" = none
  all : mg "all" = none
  ml : ∃ t, mg "MAX_LETTERS" = some (.int 8 t)
  le : ∃ t, mg "LETTERS" = some (.str lets t)
theorem ok_nm {f : Addr} {fd : FuncData} (F : Fun K "is_name" "is_name" sNm f fd) (T : TxtN mg) (gB : Glo P w K mg base "is_between" 2 ["value", "least", "greatest"] spBetX) : FnOk P w K mg base CX0 3 f fd ["value"] (spNm K) := by
  refine F.ok scNm (fun vs H Q E h => ?_) (fun cdv A outer s H vs Q E hr h => ?_)
  · rcases h with ⟨z, rfl, _⟩ | ⟨v, t, rfl, _⟩ <;> rfl
  · obtain ⟨t1, m1⟩ := T.ml
    obtain ⟨t2, m2⟩ := T.le
    refine ⟨_, (pss_cons (ps_if (PW.pt (pw_or (pt_not (pt_val (pe_callB call_isi (by rfl) T.isi PyProof.Rows.boot_isinstance (pa_cons (pv 0) (pa_cons (pe_bltn (v := .ty "str") (by rfl) T.str (by decide +kernel) rfl) pa_nil))))) (pw_or1 (pt_not (pt_val (pe_call gB.G (hr.mono (by decide)) (by rfl) gB.m gB.k gB.b .nil pass0 (pa_cons (pe_callB call_len_str (by rfl) T.len PySem.boot_len (pa_cons (pv 0) pa_nil)) (pa_cons pe_int (pa_cons (pe_glob (v := .int 8) (by rfl) m1 ⟨t1, rfl⟩) pa_nil))))))))) (pss_one (ps_ret pe_bl)) pss_nil)
      (pss_one (ps_ret (pe_callB (cr_all rfl) (by rfl) T.all (by decide +kernel) (pa_cons (pe_lc (X := (cxOf CX0 P w K mg base NNm "is_name" (defScope sNm) f cdv A outer s H E).nox) (own := [("letter", 1)]) (g := (gName 1)) (tt := tYes) rfl scNm.nd (pi_str (pv 0)) (blkOk_by (N := NNm) (sc := defScope sNm) (by decide +kernel)) (fun _ _ _ _ _ => (pg_name (i := 1) scNm.nd rfl (.inl rfl))) (fun _ _ _ _ _ => pts_nil) (fun _ _ _ _ _ => (pe_cmpR op_in_sign (pv 1) (pe_glob (v := .str lets) (by rfl) m2 ⟨t2, rfl⟩) rfl))) pa_nil))))), ?_⟩
    rcases h with ⟨z, rfl, zl, q⟩ | ⟨v, t, rfl, ty, kt, q⟩
    · refine ⟨_, rfl, _, _, _, _, true, rfl, .ty _, .base (.str z), kit_ty (by decide +kernel), _, rfl, iteF ?_⟩
      refine ⟨_, rfl, z, rfl, zl, _, 1, 8, rfl, _, rfl, ?_⟩
      unfold nameB at q
      cases c1 : (decide ((1 : Int) ≤ (z.length : Nat)) && decide (((z.length : Nat) : Int) ≤ 8)) with
      | false =>
        rw [c1, Bool.false_and] at q
        exact iteT (q H (Same.refl H))
      | true =>
      rw [c1, Bool.true_and] at q
      have l8 : z.cps.size ≤ 8 := by
        have := of_decide_eq_true (Bool.and_eq_true_iff.mp c1).2
        have e : z.length = z.cps.size := rfl
        omega
      refine iteF ⟨_, rfl, z, rfl, fun D hD => ?_⟩
      let bs : List Bool := z.cps.toList.map fun c => decide (c ∈ lets.cps.toList)
      refine lc_it walk_str (fun i Hc => Same H Hc ∧ Hc D = some (.lst ((bs.take i).map V.bl))) ⟨same_new hD, upd_same⟩ (fun _ _ _ _ => True.intro) ?_ ?_
      · rintro i x Hc H' hi ⟨sm, hDc⟩ ⟨rfl, c, hc, rfl⟩
        have hb : bs[i]? = some (decide (c ∈ lets.cps.toList)) := by
          show (z.cps.toList.map _)[i]? = _
          rw [List.getElem?_map, Array.getElem?_toList, hc]; rfl
        refine ⟨rfl, _, rfl, c, lets, rfl, rfl, _, hDc, small1000 (by rw [List.length_map, List.length_take]; omega), same_upd hD sm, ?_⟩
        rw [take_snoc hb, List.map_append]
        exact upd_same
      · rintro Hc ⟨sm, hDc⟩
        rw [List.take_of_length_le (by show (z.cps.toList.map _).length ≤ _; rw [List.length_map, Array.length_toList]; exact Nat.le_refl _)] at hDc
        refine ⟨D, _, rfl, SqL.of hDc, ?_⟩
        have e : bs.all id = z.cps.toList.all fun c => decide (c ∈ lets.cps.toList) := by
          show (z.cps.toList.map _).all id = _
          rw [List.all_map]; rfl
        rw [e]
        exact q Hc sm
    · exact ⟨_, rfl, _, _, _, _, false, rfl, .ty _, ty, kt, _, rfl, iteT q⟩
theorem scWt : FnScope ["value"] ["value"] (defScope sWt) := ⟨rfl, rfl, rfl, by decide +kernel, rfl, by decide +kernel, by decide +kernel⟩
def spWt : Sp := fun vs H Q _ => ∃ i : Int, vs = [.int i] ∧ Q (.bl (decide (1 ≤ i) && decide (i ≤ 99))) H
theorem ok_wt {f : Addr} {fd : FuncData} (F : Fun K "_is_weight" "_is_weight" sWt f fd) {t : Tok} (m1 : mg "MAX_WEIGHT" = some (.int 99 t)) (gB : Glo P w K mg base "is_between" 2 ["value", "least", "greatest"] spBetX) : FnOk P w K mg base CX0 3 f fd ["value"] spWt := by
  refine F.ok scWt (fun vs H Q E h => ?_) (fun cdv A outer s H vs Q E hr h => ?_)
  · obtain ⟨i, rfl, _⟩ := h
    rfl
  · obtain ⟨i, rfl, q⟩ := h
    refine ⟨_, (pss_one (ps_ret (pe_call gB.G (hr.mono (by decide)) (by rfl) gB.m gB.k gB.b .nil pass0 (pa_cons (pv 0) (pa_cons pe_int (pa_cons (pe_glob (v := .int 99) (by rfl) m1 ⟨t, rfl⟩) pa_nil)))))), ?_⟩
    exact ⟨_, rfl, i, 1, 99, rfl, q⟩
end
end FR
set_option Elab.async false
set_option linter.all false
set_option maxRecDepth 100000
set_option maxHeartbeats 4000000
/-! a, *b = a tuple -/
namespace SV
open PySem PySem.Spec PyProof.Rows
theorem tail {prog : Program} {w : World} {A : Around} (hh : A.handled = none) (I ax : Addr) (hne : ax ≠ I) (items : Array Value) :
    Walks prog w A I [I, ax] [I] (items.size - 1) (fun i v => items[i + 1]? = some v) (fun i h => h.IsTupleIter I ax (i + 1) ∧ h.IsTuple ax items) where
  sub := fun b hb => by simp at hb; simp [hb]
  frame := fun _ _ _ st hk => ⟨st.1.at fun o e => hk I (by simp) o e, st.2.at fun o e => hk ax (by simp) o e⟩
  item := fun i s Q E hi st hQ => by
    have lt : i + 1 < items.size := by omega
    refine wpAny_pyNext_tuple_item st.1 st.2 (x := items[i + 1]) (by simp [lt]) fun h' hit' hs' => ?_
    exact hQ _ h' s.toks (by simp [lt]) ⟨hit', st.2.extBut hs'.extBut hne⟩ fun b o hb e => hs'.extBut b o (fun h => hb (by simp [h])) e
  done := fun s Q E st hQ => wpAny_pyNext_tuple_end hh st.1 st.2 (by simp; omega) fun h' he' => hQ h' s.toks fun b o hb e => he' b o (fun h => hb (by simp [h])) e
  self := fun _ _ _ _ st hQ => wpAny_pyIter_tupleiter st.1 hQ
section
variable {prog : Program} {w : World} {A : Around} {E : Value → Shared → Prop} {s : Shared}
theorem unpackItems_star {l : Addr} {items : Array Value} {Q : List Value → Shared → Prop} (hh : A.handled = none) (hl : s.heap.IsTuple l items) (h0 : 0 < items.size) (hz : items.size ≤ sizeLine)
    (hQ : ∀ (h' : Heap) (tk : Nat), (∀ b o, s.heap.get? b = some o → h'.get? b = some o) → s.toks ≤ tk → Q [items[0], .ref h'.objs.size] { s with heap := h'.push { cls := .type "list", data := .seq (items.toList.drop 1).toArray }, toks := tk }) :
    wpAny (model prog w) A (unpackItems (.ref l) 2 (some 1)) Q E s := by
  have hlt : l ≠ s.heap.objs.size := by obtain ⟨o, ho, _⟩ := hl; exact Nat.ne_of_lt (Heap.lt_size ho)
  unfold unpackItems
  refine wpAny_bind ?_
  unfold notIterableAtAll
  refine wpAny_bind (wpAny_specialOf hl.typeIs slot_tuple_iter.lookup ?_)
  refine wpAny_pure ?_
  simp only [Bool.false_eq_true, if_false]
  refine wpAny_bind (wpAny_holding (wpAny_pyIter_tuple hl ?_))
  have hl1 : (s.heap.push { cls := .type "tuple_iterator", data := .fields #[.ref l, .int 0 0] }).IsTuple l items := hl.push _
  have hit0 : (s.heap.push { cls := .type "tuple_iterator", data := .fields #[.ref l, .int 0 0] }).IsTupleIter s.heap.objs.size l 0 := ⟨_, Heap.get?_push_size _ rfl, rfl, rfl⟩
  refine wpAny_bind (wpAny_holding ?_)
  show wpAny _ _ (pyNext (.ref s.heap.objs.size) >>= _) _ _ _
  refine wpAny_bind (wpAny_pyNext_tuple_item hit0 hl1 (x := items[0]) (by simp [h0]) fun h1 hit1 hs1 => ?_)
  refine wpAny_bind (wpAny_holding (wpAny_pure (wpAny_pure ?_)))
  show wpAny _ _ (if ([items[0]] : List Value).length < 1 then _ else _) _ _ _
  rw [if_neg (by simp)]
  have hl2 : h1.IsTuple l items := hl1.extBut hs1.extBut hlt
  have isz : s.heap.objs.size < h1.objs.size := by obtain ⟨o, ho, _⟩ := hit1; exact Heap.lt_size ho
  have lsz : l < h1.objs.size := by obtain ⟨o, ho, _⟩ := hl2; exact Heap.lt_size ho
  refine wpAny_bind (wpAny_holding (wpAny_collect_iter (T := "tuple_iterator") (.inr (.inr (.inr rfl))) (tail (A := A.in1) hh s.heap.objs.size l hlt items).toS (fun i s' st => st.1.typeIs) ⟨hit1, hl2⟩ (fun b hb => ?_) (by simp) (fun s' acc hm hacc => ?_) (by omega)))
  · simp only [List.mem_cons, List.mem_nil_iff, or_false] at hb
    rcases hb with e | e
    · rw [e]; exact isz
    · rw [e]; exact lsz
  have ea : acc.toList = items.toList.drop 1 := by
    refine List.ext_getElem? fun j => ?_
    rw [List.getElem?_drop]
    by_cases hj : j < acc.size
    · have h2 := hacc.2 j acc[j] (by simp [hj])
      have e1 : acc.toList[j]? = some acc[j] := by simp [hj]
      rw [e1]
      have : items.toList[1 + j]? = items[j + 1]? := by rw [Nat.add_comm 1 j]; simp
      rw [this, h2]
    · have hs := hacc.1
      rw [List.getElem?_eq_none (by simpa using hj), List.getElem?_eq_none (by simp; omega)]
  rw [ea]
  show wpAny _ _ (if (items.toList.drop 1).length < 0 then _ else _) _ _ _
  rw [if_neg (by omega)]
  have tk : (items.toList.drop 1).take (items.toList.drop 1).length = items.toList.drop 1 := List.take_length
  have dr : (items.toList.drop 1).drop (items.toList.drop 1).length = [] := List.drop_length
  show wpAny _ _ (newList ((items.toList.drop 1).take (items.toList.drop 1).length) >>= fun a => pure ([items[0]] ++ [a] ++ (items.toList.drop 1).drop (items.toList.drop 1).length)) _ _ _
  rw [tk, dr]
  refine wpAny_bind (wpAny_newObj_type (wpAny_pure ?_) (by show (List.drop 1 items.toList).toArray.size ≤ sizeLine; rw [List.size_toArray, List.length_drop]; have : items.toList.length = items.size := by simp
                                                           omega))
  obtain ⟨hp, g, d, tks, os⟩ := s'
  have e1 : g = _ := hm.gens
  have e2 : d = _ := hm.drawn
  have e3 : os = _ := hm.os
  subst e1 e2 e3
  refine hQ hp tks (fun b o e => ?_) hm.toks
  have nb : b ≠ s.heap.objs.size := Nat.ne_of_lt (Heap.lt_size e)
  exact hm.heap b o (by simp [nb]) (hs1.extBut b o nb (Heap.get?_push_of_some _ e))
theorem assign_star {l : Addr} {items : Array Value} {env : Env} {t1 t2 : Expr} {p2 pos : Pos} {k} {Q : Unit → Shared → Prop} (hh : A.handled = none) (hl : s.heap.IsTuple l items) (h0 : 0 < items.size) (hz : items.size ≤ sizeLine)
    (hs : assignEach [t1, .Starred t2 p2] env = [(false, assign t1 env), (true, assign t2 env)])
    (hQ : ∀ (h' : Heap) (tk : Nat), (∀ b o, s.heap.get? b = some o → h'.get? b = some o) → s.toks ≤ tk → wpAny (model prog w) A (assignInOrder [assign t1 env, assign t2 env] [items[0], .ref h'.objs.size]) Q E { s with heap := h'.push { cls := .type "list", data := .seq (items.toList.drop 1).toArray }, toks := tk }) :
    wpAny (model prog w) A (assign (.Tuple [t1, .Starred t2 p2] k pos) env (.ref l)) Q E s := by
  rw [assign_Tuple, hs]
  refine wpAny_bind (wpAny_standAt ?_)
  unfold unpack
  exact wpAny_bind (wpAny_holding (unpackItems_star hh hl h0 hz hQ))
end
end SV
namespace L2
open PySem PySem.Spec PyProof.Rows
/-- a, *b = a tuple that isn't empty -/
def gStarT (K : PySem.W.Frag) (g1 g2 : TG) : TG := fun v σ H Q => ∃ a y ys, v = .ref a ∧ SqT K H a (y :: ys) ∧ ys.length ≤ 1000 ∧ ∀ l, H l = none → g1 y σ (upd H l (.lst ys)) fun σ1 H1 => g2 (.ref l) σ1 H1 Q
theorem pg_starT {X : Cx} {t1 t2 : Expr} {p2 pos : Pos} {k : Nat} {g1 g2 : TG} (hc : X.calm = true) (h1 : PG X t1 g1) (h2 : PG X t2 g2) (hs : assignEach [t1, .Starred t2 p2] X.env = [(false, assign t1 X.env), (true, assign t2 X.env)] := by rfl) : PG X (.Tuple [t1, .Starred t2 p2] k pos) (gStarT X.K g1 g2) := by
  refine ⟨fun pins s σ H v u Q I r hw => ?_⟩
  obtain ⟨a, y, ys, e1, hq, hl, hw⟩ := hw
  subst e1
  cases r
  obtain ⟨its, rv, pl, hz⟩ := I.tuple hq
  cases rv with
  | cons ry rys =>
    rename_i uy uys
    refine SV.assign_star (I.ok.hd hc) pl (by simp) (by have e := rys.length; simp only [List.size_toArray, List.length_cons]; have hz : (y :: ys).length ≤ sizeLine := hz; rw [List.length_cons, e] at hz; exact hz) hs fun h' tk kk _ => ?_
    have I1 : Inv X pins σ H { s with heap := h', toks := tk } := I.kept kk
    have hf : H h'.objs.size = none := I1.hok.fresh (Nat.le_refl _)
    have I2 : Inv X pins σ (upd H h'.objs.size (.lst ys)) { s with heap := h'.push { cls := .type "list", data := .seq ((uy :: uys).toArray.toList.drop 1).toArray }, toks := tk } := I1.laid (t' := tk) (fun b u e => Heap.get?_push_of_some _ e) (Nat.le_refl _) (by
      refine ⟨?_, uys, 0, rys, Heap.get?_push_size _ rfl⟩
      exact Nat.le_of_lt (small1000 hl))
    have run := hw h'.objs.size hf
    refine assignInOrder_cons (thn (h1.run pins _ σ _ y _ _ I2 ry run) fun _ s1 ⟨σ1, H1, I3, q1⟩ => ?_)
    refine assignInOrder_cons (thn (h2.run pins s1 σ1 H1 (.ref h'.objs.size) _ _ I3 rfl q1) fun _ s2 ⟨σ2, H2, I4, q2⟩ => ?_)
    exact assignInOrder_nil ⟨σ2, H2, I4, q2⟩
end L2
set_option Elab.async false
set_option linter.all false
set_option maxRecDepth 100000
set_option maxHeartbeats 1000000
/-! _inner_of -/
namespace FR
open PySem PySem.Spec PyProof.Rows L2
def wtB (i : Int) : Bool := decide (1 ≤ i) && decide (i ≤ 99)
/-- a statement that may stand in a program -/
def okS : St → Bool
  | .note z => nameB z
  | .call z => nameB z
  | .stay => true
  | .again i j _ => wtB i && wtB j
  | .choose bs => decide ((2 : Int) ≤ (bs.length : Nat)) && decide (((bs.length : Nat) : Int) ≤ 3)
  | .toss rs => (decide ((2 : Int) ≤ (rs.length : Nat)) && decide (((rs.length : Nat) : Int) ≤ 4)) && rs.all fun r => wtB r.1
structure TxtI (mg : Str → Option Value) : Prop where
  isi : mg "isinstance" = none
  tup : mg "tuple" = none
  str : mg "str" = none
  len : mg "len" = none
  all : mg "all" = none
theorem name_len {z : Str} (h : nameB z = true) : z.length ≤ sizeLine := by
  unfold nameB at h
  have := of_decide_eq_true (Bool.and_eq_true_iff.mp (Bool.and_eq_true_iff.mp h).1).2
  exact Nat.le_of_lt (small1000 (by omega))
section
variable {P : Program} {w : World} {K : PySem.W.Frag} {mg : Str → Option Value} {base : Heap}
abbrev sBr : Stmt := top 31
theorem scBr : FnScope ["value"] ["value"] (defScope sBr) := ⟨rfl, rfl, rfl, by decide +kernel, rfl, by decide +kernel, by decide +kernel⟩
def spBr : Sp := fun vs H Q _ => ∃ p i x, vs = [.ref p] ∧ H p = some (.tup [.int i, x]) ∧ Q (.bl (wtB i)) H
theorem ok_br {f : Addr} {fd : FuncData} (F : Fun K "_is_branch" "_is_branch" sBr f fd) (T : TxtI mg) (gW : Glo P w K mg base "_is_weight" 3 ["value"] spWt) : FnOk P w K mg base CX0 4 f fd ["value"] spBr := by
  refine F.ok scBr (fun vs H Q E h => ?_) (fun cdv A outer s H vs Q E hr h => ?_)
  · obtain ⟨p, i, x, rfl, _⟩ := h
    rfl
  · obtain ⟨p, i, x, rfl, hp, q⟩ := h
    refine ⟨_, (pss_one (ps_ret (pe_and (pe_callB call_isi (by rfl) T.isi PyProof.Rows.boot_isinstance (pa_cons (pv 0) (pa_cons (pe_bltn (v := .ty "tuple") (by rfl) T.tup (by decide +kernel) rfl) pa_nil))) (pe_and (pe_cmpR op_eq (pe_callB call_len_seq (by rfl) T.len PySem.boot_len (pa_cons (pv 0) pa_nil)) pe_int (nomark _)) (pe_one (pe_call gW.G (hr.mono (by decide)) (by rfl) gW.m gW.k gW.b .nil pass0 (pa_cons (pe_ix ix_tup (pv 0) pe_int (fun _ _ => rfl)) pa_nil))))))), ?_⟩
    refine ⟨_, rfl, _, _, _, _, true, rfl, .ty _, .base (.tup hp), kit_ty (by decide +kernel), _, rfl, iteT ?_⟩
    refine ⟨_, rfl, p, _, rfl, .inr (SqT.of hp), rfl, _, rfl, ?_⟩
    refine iteT ⟨_, rfl, p, _, 0, _, rfl, rfl, SqT.of hp, atI_nat (j := 0) rfl, i, rfl, q⟩
abbrev sInn : Stmt := top 30
abbrev NInn : List Str := ["value", "word", "parts", "part"]
theorem scInn : FnScope NInn ["value"] (defScope sInn) := ⟨rfl, rfl, rfl, by decide +kernel, rfl, by decide +kernel, by decide +kernel⟩
def spInn (n : Nat) : Sp := fun vs H Q _ => ∃ v x, vs = [v] ∧ StAt n H v x ∧ okS x = true ∧ ∀ l us H', Same H H' → H' l = some (.lst us) → AG (fun w b => BdAt n H' w b) us x.kids → Q (.ref l) H'
theorem ok_inn {f : Addr} {fd : FuncData} {n : Nat} (F : Fun K "_inner_of" "_inner_of" sInn f fd) (T : TxtI mg) (gB : Glo P w K mg base "is_between" 2 ["value", "least", "greatest"] spBetX) (gN : Glo P w K mg base "is_name" 3 ["value"] (spNm K)) (gW : Glo P w K mg base "_is_weight" 3 ["value"] spWt) (gBr : Glo P w K mg base "_is_branch" 4 ["value"] spBr) : FnOk P w K mg base CX0 5 f fd ["value"] (spInn n) := by
  refine F.ok scInn (fun vs H Q E h => ?_) (fun cdv A outer s H vs Q E hr h => ?_)
  · obtain ⟨v, x, rfl, _⟩ := h
    rfl
  · obtain ⟨v, x, rfl, hv, ok, q⟩ := h
    refine ⟨_, (pss_cons (ps_if (PW.pt (pw_or (pt_not (pt_val (pe_callB call_isi (by rfl) T.isi PyProof.Rows.boot_isinstance (pa_cons (pv 0) (pa_cons (pe_bltn (v := .ty "tuple") (by rfl) T.tup (by decide +kernel) rfl) pa_nil))))) (pw_or (pt_cmpR op_eq (pe_callB call_len_seq (by rfl) T.len PySem.boot_len (pa_cons (pv 0) pa_nil)) pe_int (nomark _)) (pw_or1 (pt_not (pt_val (pe_callB call_isi (by rfl) T.isi PyProof.Rows.boot_isinstance (pa_cons (pe_ix ix_tup (pv 0) pe_int (fun _ _ => rfl)) (pa_cons (pe_bltn (v := .ty "str") (by rfl) T.str (by decide +kernel) rfl) pa_nil))))))))) (pss_one (ps_ret pe_non)) pss_nil)
      (pss_cons (ps_asg (pv 0) (pg_starT rfl (pg_name (i := 1) scInn.nd rfl (.inl rfl)) (pg_name (i := 2) scInn.nd rfl (.inl rfl))))
      (pss_cons (ps_if (pt_cmpR op_in_seq (pv 1) (pe_tup (pa_cons pe_str (pa_cons pe_str pa_nil))) rfl) (pss_one (ps_ret (pe_ifExp (PW.pt (pw_and (pt_cmpR op_eq (pe_callB call_len_seq (by rfl) T.len PySem.boot_len (pa_cons (pv 2) pa_nil)) pe_int (nomark _)) (pw_and1 (pt_val (pe_call gN.G (hr.mono (by decide)) (by rfl) gN.m gN.k gN.b .nil pass0 (pa_cons (pe_ix ix_list (pv 2) pe_int (fun _ _ => rfl)) pa_nil)))))) (pe_lst pa_nil) pe_non))) pss_nil)
      (pss_cons (ps_if (pt_cmpR op_eq (pv 1) pe_str (nomark _)) (pss_one (ps_ret (pe_ifExp (pt_cmpR op_eq (pe_callB call_len_seq (by rfl) T.len PySem.boot_len (pa_cons (pv 2) pa_nil)) pe_int (nomark _)) (pe_lst pa_nil) pe_non))) pss_nil)
      (pss_cons (ps_if (pt_cmpR op_eq (pv 1) pe_str (nomark _)) (pss_one (ps_ret (pe_ifExp (PW.pt (pw_and (pt_cmpR op_eq (pe_callB call_len_seq (by rfl) T.len PySem.boot_len (pa_cons (pv 2) pa_nil)) pe_int (nomark _)) (pw_and (pt_val (pe_call gW.G (hr.mono (by decide)) (by rfl) gW.m gW.k gW.b .nil pass0 (pa_cons (pe_ix ix_list (pv 2) pe_int (fun _ _ => rfl)) pa_nil))) (pw_and1 (pt_val (pe_call gW.G (hr.mono (by decide)) (by rfl) gW.m gW.k gW.b .nil pass0 (pa_cons (pe_ix ix_list (pv 2) pe_int (fun _ _ => rfl)) pa_nil))))))) (pe_slice sl_list (pv 2) (po_some pe_int) po_none) pe_non))) pss_nil)
      (pss_cons (ps_if (pt_cmpR op_eq (pv 1) pe_str (nomark _)) (pss_one (ps_ret (pe_ifExp (pt_val (pe_call gB.G (hr.mono (by decide)) (by rfl) gB.m gB.k gB.b .nil pass0 (pa_cons (pe_callB call_len_seq (by rfl) T.len PySem.boot_len (pa_cons (pv 2) pa_nil)) (pa_cons pe_int (pa_cons pe_int pa_nil))))) (pv 2) pe_non))) pss_nil)
      (pss_cons (ps_if (PW.pt (pw_and (pt_cmpR op_eq (pv 1) pe_str (nomark _)) (pw_and (pt_val (pe_call gB.G (hr.mono (by decide)) (by rfl) gB.m gB.k gB.b .nil pass0 (pa_cons (pe_callB call_len_seq (by rfl) T.len PySem.boot_len (pa_cons (pv 2) pa_nil)) (pa_cons pe_int (pa_cons pe_int pa_nil))))) (pw_and1 (pt_val (pe_callB (cr_all rfl) (by rfl) T.all (by decide +kernel) (pa_cons (pe_lc (X := (cxOf CX0 P w K mg base NInn "_inner_of" (defScope sInn) f cdv A outer s H E).nox) (own := [("part", 3)]) (g := (gName 3)) (tt := tYes) rfl scInn.nd (pi_list (pv 2)) (blkOk_by (N := NInn) (sc := defScope sInn) (by decide +kernel)) (fun _ _ _ _ _ => (pg_name (i := 3) scInn.nd rfl (.inl rfl))) (fun _ _ _ _ _ => pts_nil) (fun _ _ _ _ _ => (pe_call gBr.G (hr.mono (by decide)) (by rfl) gBr.m gBr.k gBr.b .nil pass0 (pa_cons (pv 3) pa_nil)))) pa_nil))))))) (pss_one (ps_ret (pe_lc (X := (cxOf CX0 P w K mg base NInn "_inner_of" (defScope sInn) f cdv A outer s H E).nox) (own := [("part", 3)]) (g := (gName 3)) (tt := tYes) rfl scInn.nd (pi_list (pv 2)) (blkOk_by (N := NInn) (sc := defScope sInn) (by decide +kernel)) (fun _ _ _ _ _ => (pg_name (i := 3) scInn.nd rfl (.inl rfl))) (fun _ _ _ _ _ => pts_nil) (fun _ _ _ _ _ => (pe_ix (ix_tupK (K := K) rfl) (pv 3) pe_int (fun _ _ => rfl)))))) pss_nil)
      (pss_one (ps_ret pe_non))))))))), ?_⟩
    obtain ⟨a, xs, rfl, ha⟩ := hv.head
    refine ⟨_, rfl, _, _, _, _, true, rfl, .ty _, .base (.tup ha), kit_ty (by decide +kernel), _, rfl, iteF ?_⟩
    refine ⟨_, rfl, a, _, rfl, .inr (SqT.of ha), rfl, _, rfl, ?_⟩
    have lx : decide (V.int ((.str x.word :: xs : List V).length : Nat) = V.int 0) = false := decide_eq_false fun z => by
      have := V.int.inj z
      rw [List.length_cons] at this
      omega
    rw [lx]
    refine iteF ⟨_, rfl, a, _, 0, _, rfl, rfl, SqT.of ha, atI_nat (j := 0) rfl, _, _, _, _, true, rfl, .ty _, .base (.str x.word), kit_ty (by decide +kernel), _, rfl, iteF ?_⟩
    match x, hv, ok, q with
    | .note z, ⟨_, e, hz⟩, ok, q =>
      cases e
      rw [hz] at ha
      cases ha
      have ok : nameB z = true := ok
      refine ⟨_, rfl, a, _, _, rfl, SqT.of hz, by show 1 ≤ 1000; decide, fun l hl => ?_⟩
      have s1 := same_new (o := .lst [V.str z]) hl
      have hl1 : upd H l (.lst [V.str z]) l = some (.lst [V.str z]) := upd_same
      generalize upd H l (.lst [V.str z]) = H1 at s1 hl1 ⊢
      refine ⟨_, rfl, small1000 (Nat.le_of_ble_eq_true rfl), fun p2 hp2 => ⟨p2, _, rfl, .inr (SqT.of upd_same), rfl, rfl, _, rfl, ?_⟩⟩
      have s2 := same_new (o := .tup [V.str "note", V.str "call"]) hp2
      have ei : inV (V.str "note") [V.str "note", V.str "call"] = true := by decide +kernel
      refine ite2 (fun _ => ?_) (fun h => (h ei).elim)
      refine ⟨_, rfl, l, _, rfl, .inl (SqL.of (s2 _ _ hl1)), rfl, _, rfl, iteT ⟨_, rfl, l, _, 0, _, rfl, rfl, SqL.of (s2 _ _ hl1), atI_nat (j := 0) rfl, .inl ⟨z, rfl, name_len ok, fun H3 s3 => ⟨_, rfl, ?_⟩⟩⟩⟩
      rw [ok]
      exact iteT ⟨Nat.zero_le _, fun p hp => q p [] _ (((s1.trans s2).trans s3).trans (same_new hp)) upd_same AG.nil⟩
    | .call z, ⟨_, e, hz⟩, ok, q =>
      cases e
      rw [hz] at ha
      cases ha
      have ok : nameB z = true := ok
      refine ⟨_, rfl, a, _, _, rfl, SqT.of hz, by show 1 ≤ 1000; decide, fun l hl => ?_⟩
      have s1 := same_new (o := .lst [V.str z]) hl
      have hl1 : upd H l (.lst [V.str z]) l = some (.lst [V.str z]) := upd_same
      generalize upd H l (.lst [V.str z]) = H1 at s1 hl1 ⊢
      refine ⟨_, rfl, small1000 (Nat.le_of_ble_eq_true rfl), fun p2 hp2 => ⟨p2, _, rfl, .inr (SqT.of upd_same), rfl, rfl, _, rfl, ?_⟩⟩
      have s2 := same_new (o := .tup [V.str "note", V.str "call"]) hp2
      have ei : inV (V.str "call") [V.str "note", V.str "call"] = true := by decide +kernel
      refine ite2 (fun _ => ?_) (fun h => (h ei).elim)
      refine ⟨_, rfl, l, _, rfl, .inl (SqL.of (s2 _ _ hl1)), rfl, _, rfl, iteT ⟨_, rfl, l, _, 0, _, rfl, rfl, SqL.of (s2 _ _ hl1), atI_nat (j := 0) rfl, .inl ⟨z, rfl, name_len ok, fun H3 s3 => ⟨_, rfl, ?_⟩⟩⟩⟩
      rw [ok]
      exact iteT ⟨Nat.zero_le _, fun p hp => q p [] _ (((s1.trans s2).trans s3).trans (same_new hp)) upd_same AG.nil⟩
    | .stay, ⟨_, e, hz⟩, ok, q =>
      cases e
      rw [hz] at ha
      cases ha
      refine ⟨_, rfl, a, _, _, rfl, SqT.of hz, Nat.zero_le _, fun l hl => ?_⟩
      have s1 := same_new (o := .lst []) hl
      have hl1 : upd H l (.lst []) l = some (.lst []) := upd_same
      generalize upd H l (.lst []) = H1 at s1 hl1 ⊢
      refine ⟨_, rfl, small1000 (Nat.le_of_ble_eq_true rfl), fun p2 hp2 => ⟨p2, _, rfl, .inr (SqT.of upd_same), rfl, rfl, _, rfl, ?_⟩⟩
      have s2 := same_new (o := .tup [V.str "note", V.str "call"]) hp2
      have ei : inV (V.str "stay") [V.str "note", V.str "call"] = false := by decide +kernel
      refine ite2 (fun h => absurd h (by rw [show (if false = true then !inV (V.str "stay") [V.str "note", V.str "call"] else inV (V.str "stay") [V.str "note", V.str "call"]) = inV (V.str "stay") [V.str "note", V.str "call"] from rfl, ei]; decide)) (fun _ => ?_)
      have s12 := s1.trans s2
      have hl2 := s2 _ _ hl1
      generalize upd H1 p2 (.tup [V.str "note", V.str "call"]) = H2 at s12 hl2 ⊢
      refine ⟨_, rfl, rfl, _, rfl, iteT ?_⟩
      exact ⟨_, rfl, l, _, rfl, .inl (SqL.of hl2), rfl, _, rfl, iteT ⟨Nat.zero_le _, fun p hp => q p [] _ (s12.trans (same_new hp)) upd_same AG.nil⟩⟩
    | .again i j b, ⟨a', w0, e, ha', g⟩, ok, q =>
      cases e
      rw [ha'] at ha
      cases ha
      refine ⟨_, rfl, a, _, _, rfl, SqT.of ha', by show 3 ≤ 1000; decide, fun l hl => ?_⟩
      have s1 := same_new (o := .lst [V.int i, V.int j, w0]) hl
      have hl1 : upd H l (.lst [V.int i, V.int j, w0]) l = some (.lst [V.int i, V.int j, w0]) := upd_same
      generalize upd H l (.lst [V.int i, V.int j, w0]) = H1 at s1 hl1 ⊢
      refine ⟨_, rfl, small1000 (Nat.le_of_ble_eq_true rfl), fun p2 hp2 => ⟨p2, _, rfl, .inr (SqT.of upd_same), rfl, rfl, _, rfl, ?_⟩⟩
      have s2 := same_new (o := .tup [V.str "note", V.str "call"]) hp2
      have ei : inV (V.str "again") [V.str "note", V.str "call"] = false := by decide +kernel
      refine ite2 (fun h => absurd h (by rw [show (if false = true then !inV (V.str "again") [V.str "note", V.str "call"] else inV (V.str "again") [V.str "note", V.str "call"]) = inV (V.str "again") [V.str "note", V.str "call"] from rfl, ei]; decide)) (fun _ => ?_)
      have s12 := s1.trans s2
      have hl2 := s2 _ _ hl1
      generalize upd H1 p2 (.tup [V.str "note", V.str "call"]) = H2 at s12 hl2 ⊢
      have ok : (wtB i && wtB j) = true := ok
      obtain ⟨o1, o2⟩ := Bool.and_eq_true_iff.mp ok
      refine ⟨_, rfl, rfl, _, rfl, iteF ⟨_, rfl, rfl, _, rfl, iteT ?_⟩⟩
      refine ⟨_, rfl, l, _, rfl, .inl (SqL.of hl2), rfl, _, rfl, iteT ?_⟩
      refine ⟨_, rfl, l, _, 0, _, rfl, rfl, SqL.of hl2, atI_nat (j := 0) rfl, i, rfl, _, rfl, ?_⟩
      have o1 : (decide (1 ≤ i) && decide (i ≤ 99)) = true := o1
      have o2 : (decide (1 ≤ j) && decide (j ≤ 99)) = true := o2
      rw [o1]
      refine iteT ⟨_, rfl, l, _, 1, _, rfl, rfl, SqL.of hl2, atI_nat (j := 1) rfl, j, rfl, _, rfl, ?_⟩
      rw [o2]
      refine iteT ⟨_, rfl, _, rfl, l, _, rfl, SqL.of hl2, fun p hp => ?_⟩
      have sp := same_new (o := .lst (cutV [V.int i, V.int j, w0] (some 2) none)) hp
      have hp1 : upd H2 p (.lst (cutV [V.int i, V.int j, w0] (some 2) none)) p = some (.lst [w0]) := upd_same
      exact q p [w0] _ (s12.trans sp) hp1 (AG.consA (BdAt.same g (s12.trans sp)) AG.nil)
    | .choose bs, ⟨a', ws, e, ha', g⟩, ok, q =>
      cases e
      rw [ha'] at ha
      cases ha
      have ok : (decide ((2 : Int) ≤ (bs.length : Nat)) && decide (((bs.length : Nat) : Int) ≤ 3)) = true := ok
      have lb : xs.length ≤ 3 := by
        have := of_decide_eq_true (Bool.and_eq_true_iff.mp ok).2
        rw [g.1]; omega
      refine ⟨_, rfl, a, _, _, rfl, SqT.of ha', by have := lb; omega, fun l hl => ?_⟩
      have s1 := same_new (o := .lst xs) hl
      have hl1 : upd H l (.lst xs) l = some (.lst xs) := upd_same
      generalize upd H l (.lst xs) = H1 at s1 hl1 ⊢
      refine ⟨_, rfl, small1000 (Nat.le_of_ble_eq_true rfl), fun p2 hp2 => ⟨p2, _, rfl, .inr (SqT.of upd_same), rfl, rfl, _, rfl, ?_⟩⟩
      have s2 := same_new (o := .tup [V.str "note", V.str "call"]) hp2
      have ei : inV (V.str "choose") [V.str "note", V.str "call"] = false := by decide +kernel
      refine ite2 (fun h => absurd h (by rw [show (if false = true then !inV (V.str "choose") [V.str "note", V.str "call"] else inV (V.str "choose") [V.str "note", V.str "call"]) = inV (V.str "choose") [V.str "note", V.str "call"] from rfl, ei]; decide)) (fun _ => ?_)
      have s12 := s1.trans s2
      have hl2 := s2 _ _ hl1
      generalize upd H1 p2 (.tup [V.str "note", V.str "call"]) = H2 at s12 hl2 ⊢
      refine ⟨_, rfl, rfl, _, rfl, iteF ⟨_, rfl, rfl, _, rfl, iteF ⟨_, rfl, rfl, _, rfl, iteT ?_⟩⟩⟩
      refine ⟨_, rfl, l, _, rfl, .inl (SqL.of hl2), _, 2, 3, rfl, _, rfl, ?_⟩
      rw [g.1, ok]
      exact iteT ⟨_, rfl, q l xs H2 s12 hl2 (g.imp fun _ _ z => BdAt.same z s12)⟩
    | .toss rs, ⟨a', ws, e, ha', g⟩, ok, q =>
      cases e
      rw [ha'] at ha
      cases ha
      have ok : ((decide ((2 : Int) ≤ (rs.length : Nat)) && decide (((rs.length : Nat) : Int) ≤ 4)) && rs.all fun r => wtB r.1) = true := ok
      obtain ⟨ok1, ok2⟩ := Bool.and_eq_true_iff.mp ok
      have lb : xs.length ≤ 4 := by
        have := of_decide_eq_true (Bool.and_eq_true_iff.mp ok1).2
        rw [g.1]; omega
      refine ⟨_, rfl, a, _, _, rfl, SqT.of ha', by have := lb; omega, fun l hl => ?_⟩
      have s1 := same_new (o := .lst xs) hl
      have hl1 : upd H l (.lst xs) l = some (.lst xs) := upd_same
      generalize upd H l (.lst xs) = H1 at s1 hl1 ⊢
      refine ⟨_, rfl, small1000 (Nat.le_of_ble_eq_true rfl), fun p2 hp2 => ⟨p2, _, rfl, .inr (SqT.of upd_same), rfl, rfl, _, rfl, ?_⟩⟩
      have s2 := same_new (o := .tup [V.str "note", V.str "call"]) hp2
      have ei : inV (V.str "toss") [V.str "note", V.str "call"] = false := by decide +kernel
      refine ite2 (fun h => absurd h (by rw [show (if false = true then !inV (V.str "toss") [V.str "note", V.str "call"] else inV (V.str "toss") [V.str "note", V.str "call"]) = inV (V.str "toss") [V.str "note", V.str "call"] from rfl, ei]; decide)) (fun _ => ?_)
      have s12 := s1.trans s2
      have hl2 := s2 _ _ hl1
      generalize upd H1 p2 (.tup [V.str "note", V.str "call"]) = H2 at s12 hl2 ⊢
      refine ⟨_, rfl, rfl, _, rfl, iteF ⟨_, rfl, rfl, _, rfl, iteF ⟨_, rfl, rfl, _, rfl, iteF ⟨_, rfl, rfl, _, rfl, iteT ?_⟩⟩⟩⟩
      refine ⟨_, rfl, l, _, rfl, .inl (SqL.of hl2), _, 2, 4, rfl, _, rfl, ?_⟩
      rw [g.1, ok1]
      have g2 := g.imp (R' := fun w0 r => ∃ p0 x, w0 = .ref p0 ∧ H2 p0 = some (.tup [.int r.1, x]) ∧ BdAt n H2 x r.2) fun _ _ ⟨p0, x, e1, h1, z⟩ => ⟨p0, x, e1, s12 _ _ h1, BdAt.same z s12⟩
      refine iteT ⟨_, rfl, l, rfl, ⟨_, SqL.of hl2⟩, fun D hD => ?_⟩
      refine lc_list (xs := xs) (fun i Hc => Same H2 Hc ∧ Hc D = some (.lst (((rs.take i).map fun r => wtB r.1).map V.bl))) ⟨same_new hD, upd_same⟩ (fun i Hc _ p' => SqL.of (p'.1 _ _ hl2)) ?_ ?_
      · rintro i v Hc hvi ⟨sm, hDc⟩
        obtain ⟨r, hr, p0, x0, rfl, h0, z⟩ := g2.2 i v hvi
        have il := (List.getElem?_eq_some_iff.mp hvi).1
        refine ⟨rfl, _, rfl, p0, r.1, x0, rfl, sm _ _ h0, _, hDc, small1000 (by rw [List.length_map, List.length_map, List.length_take]; omega), same_upd hD sm, ?_⟩
        rw [take_snoc hr, List.map_append, List.map_append]
        exact upd_same
      rintro H3 ⟨s3, hD3⟩
      rw [List.take_of_length_le (by rw [g.1]; exact Nat.le_refl _)] at hD3
      refine ⟨D, _, rfl, SqL.of hD3, _, rfl, ?_⟩
      have ea : (rs.map fun r => wtB r.1).all id = rs.all fun r => wtB r.1 := by rw [List.all_map]; rfl
      rw [ea, ok2]
      have hl3 := s3 _ _ hl2
      refine iteT ⟨_, rfl, l, rfl, ⟨_, SqL.of hl3⟩, fun D2 hD2 => ?_⟩
      refine lc_list (xs := xs) (fun i Hc => Same H3 Hc ∧ ∃ us, Hc D2 = some (.lst us) ∧ AG (fun w b => BdAt n Hc w b) us ((rs.take i).map fun r => r.2)) ⟨same_new hD2, [], upd_same, AG.nil⟩ (fun i Hc _ p' => SqL.of (p'.1 _ _ hl3)) ?_ ?_
      · rintro i v Hc hvi ⟨sm, us, hDc, hu⟩
        obtain ⟨r, hr, p0, x0, rfl, h0, z⟩ := g2.2 i v hvi
        have il := (List.getElem?_eq_some_iff.mp hvi).1
        have h0 := sm _ _ (s3 _ _ h0)
        have z := BdAt.same z (s3.trans sm)
        have kd := Kt.upd (o := .lst (us ++ [x0])) hDc
        refine ⟨rfl, _, rfl, p0, _, 1, _, rfl, rfl, SqT.of h0, atI_nat (j := 1) rfl, us, hDc, small1000 (by rw [hu.1, List.length_map, List.length_take]; omega), same_upd hD2 sm, us ++ [x0], upd_same, ?_⟩
        rw [take_snoc hr, List.map_append]
        exact AG.snoc (hu.imp fun _ _ y => kd.bd y) (kd.bd z)
      · rintro Hc ⟨sm, us, hDc, hu⟩
        rw [List.take_of_length_le (by rw [g.1]; exact Nat.le_refl _)] at hu
        exact q D2 us Hc ((s12.trans s3).trans sm) hDc hu
end
end FR
set_option Elab.async false
set_option linter.all false
set_option maxRecDepth 100000
set_option maxHeartbeats 1000000
/-! _left_behind -/
namespace FR
open PySem PySem.Spec PyProof.Rows L2
/-- how many statements -/
def cnt : Nat → Bd → Nat
  | 0, _ => 0
  | n + 1, b => b.length + (b.map fun s => (s.kids.map (cnt n)).sum).sum
def okB : Nat → Bd → Prop
  | 0, _ => True
  | n + 1, b => ∀ s ∈ b, okS s = true ∧ ∀ k ∈ s.kids, okB n k
theorem sum_take {α : Type} {f : α → Nat} {l : List α} {i : Nat} {x : α} (h : l[i]? = some x) : ((l.take (i + 1)).map f).sum = ((l.take i).map f).sum + f x := by
  rw [take_snoc h, List.map_append, List.sum_append]
  simp
theorem sum_take_le {α : Type} {f : α → Nat} (l : List α) (i : Nat) : ((l.take i).map f).sum ≤ (l.map f).sum := by
  conv => rhs; rw [← List.take_append_drop i l, List.map_append, List.sum_append]
  omega
section
variable {P : Program} {w : World} {K : PySem.W.Frag} {mg : Str → Option Value} {base : Heap}
abbrev sLb : Stmt := top 29
abbrev NLb : List Str := ["value", "depth", "left", "still", "statement", "inner", "body"]
theorem scLb : FnScope NLb ["value", "depth", "left"] (defScope sLb) := ⟨rfl, rfl, rfl, by decide +kernel, rfl, by decide +kernel, by decide +kernel⟩
def spLb (n : Nat) : Sp := fun vs H Q _ => ∃ (v : V) (d m : Nat) (b : Bd), vs = [v, .int ((d : Int) - 1), .int (m : Nat)] ∧ BdAt n H v b ∧ okB n b ∧ n ≤ d ∧ cnt n b ≤ m ∧ ∀ H', Same H H' → Q (.int ((m - cnt n b : Nat) : Nat)) H'
theorem ok_lb {f : Addr} {fd : FuncData} {n k : Nat} (F : Fun K "_left_behind" "_left_behind" sLb f fd) (T : TxtI mg) (gI : Glo P w K mg base "_inner_of" 5 ["value"] (spInn n)) (gS : FnOk P w K mg base CX0 k f fd ["value", "depth", "left"] (spLb n)) (k5 : 5 ≤ k) (mS : mg "_left_behind" = some (.ref f)) (kS : PySem.W.keepIn K (.ref f) = true) (bS : Binds K fd ["value", "depth", "left"] []) : FnOk P w K mg base CX0 (k + 1) f fd ["value", "depth", "left"] (spLb (n + 1)) := by
  refine F.ok scLb (fun vs H Q E h => ?_) (fun cdv A outer s H vs Q E hr h => ?_)
  · obtain ⟨v, d, m, b, rfl, _⟩ := h
    rfl
  · obtain ⟨v, d, m, b, rfl, ⟨a, xs, rfl, ha, hx⟩, ok, nd, le, q⟩ := h
    refine ⟨_, (pss_cons (ps_if (PW.pt (pw_or (pt_not (pt_val (pe_callB call_isi (by rfl) T.isi PyProof.Rows.boot_isinstance (pa_cons (pv 0) (pa_cons (pe_bltn (v := .ty "tuple") (by rfl) T.tup (by decide +kernel) rfl) pa_nil))))) (pw_or1 (pt_cmpR op_gt (pe_callB call_len_seq (by rfl) T.len PySem.boot_len (pa_cons (pv 0) pa_nil)) (pv 2) (nomark _))))) (pss_one (ps_ret pe_non)) pss_nil)
      (pss_cons (ps_set (i := 3) scLb.nd rfl (Or.inl rfl) (pe_op op_sub (pv 2) (pe_callB call_len_seq (by rfl) T.len PySem.boot_len (pa_cons (pv 0) pa_nil))))
      (pss_cons (ps_for PassesOwn.never rfl (pi_tup (pv 0)) (pg_name (i := 4) scLb.nd rfl (.inl rfl)) (pss_cons (ps_set (i := 5) scLb.nd rfl (Or.inl rfl) (pe_call gI.G (hr.mono k5) (by rfl) gI.m gI.k gI.b .nil pass0 (pa_cons (pv 4) pa_nil))) (pss_cons (ps_if (PW.pt (pw_or (pt_cmpR op_isN (pv 5) pe_non (nomark _)) (pw_or1 (PW.pt (pw_and (pt_cmpR op_gt (pe_callB call_len_seq (by rfl) T.len PySem.boot_len (pa_cons (pv 5) pa_nil)) pe_int (nomark _)) (pw_and1 (pt_cmpR op_eq (pv 1) pe_int (nomark _)))))))) (pss_one (ps_ret pe_non)) pss_nil) (pss_one (ps_for PassesOwn.never rfl (pi_list (pv 5)) (pg_name (i := 6) scLb.nd rfl (.inl rfl)) (pss_cons (ps_set (i := 3) scLb.nd rfl (Or.inl rfl) (pe_call gS hr (by rfl) mS kS bS .nil pass0 (pa_cons (pv 6) (pa_cons (pe_op op_sub (pv 1) pe_int) (pa_cons (pv 3) pa_nil))))) (pss_one (ps_if (pt_cmpR op_isN (pv 3) pe_non (nomark _)) (pss_one (ps_ret pe_non)) pss_nil))))))))
      (pss_one (ps_ret (pv 3)))))), ?_⟩
    have xl : xs.length = b.length := hx.1
    have bl : b.length ≤ m := by
      have : b.length + (b.map fun s => (s.kids.map (cnt n)).sum).sum ≤ m := le
      omega
    refine ⟨_, rfl, _, _, _, _, true, rfl, .ty _, .base (.tup ha), kit_ty (by decide +kernel), _, rfl, iteF ?_⟩
    refine ⟨_, rfl, a, _, rfl, .inr (SqT.of ha), _, rfl, _, _, rfl, rfl, _, rfl, ?_⟩
    refine ite2 (fun z => absurd (of_decide_eq_true z) (by omega)) (fun _ => ?_)
    refine ⟨_, rfl, _, rfl, a, _, rfl, .inr (SqT.of ha), _, _, rfl, rfl, ?_⟩
    let sf : St → Nat := fun s => (s.kids.map (cnt n)).sum
    let lf : Nat → Nat := fun i => m - (b.length + ((b.take i).map sf).sum)
    have hm : (fun i j : Int => V.int (i - j)) (m : Int) (xs.length : Int) = V.int (lf 0 : Nat) := by
      show V.int ((m : Int) - (xs.length : Int)) = V.int ((m - (b.length + 0) : Nat) : Int)
      congr 1
      omega
    rw [hm]
    refine ⟨_, rfl, a, rfl, ⟨_, SqT.of ha⟩, ?_⟩
    refine for_tup (xs := xs) (fun i σ Hc => Same H Hc ∧ ∃ (x4 x5 x6 : Option V), σ = [some (.ref a), some (.int ((d : Int) - 1)), some (.int (m : Nat)), some (.int (lf i : Nat)), x4, x5, x6]) ⟨Same.refl H, _, _, _, rfl⟩ (fun i σ Hc _ p => SqT.of (p.1 _ _ ha)) ?_ ?_
    · rintro i v Hc' Hc hvi ⟨sm, x4, x5, x6, e⟩
      subst e
      obtain ⟨st, hst, hs⟩ := hx.2 i v hvi
      obtain ⟨ok1, ok2⟩ := ok st (List.mem_of_getElem? hst)
      have hsm := (Kt.same sm).st hs
      refine ⟨_, rfl, v, st, rfl, hsm, ok1, fun l us H1 s1 hl hu => ?_⟩
      have ul : us.length = st.kids.length := hu.1
      refine ⟨_, rfl, rfl, _, rfl, iteF ?_⟩
      refine ⟨_, rfl, l, us, rfl, .inl (SqL.of hl), _, _, rfl, rfl, _, rfl, ?_⟩
      have deep : 0 < us.length → 0 < n := fun z => by
        cases n with
        | zero =>
          obtain ⟨w0, hw⟩ : ∃ w0, us[0]? = some w0 := ⟨_, List.getElem?_eq_getElem z⟩
          obtain ⟨b0, _, h0⟩ := hu.2 0 w0 hw
          exact h0.elim
        | succ n => omega
      have tot : b.length + ((b.take i).map sf).sum + sf st ≤ m := by
        have h1 : ((b.take (i + 1)).map sf).sum = ((b.take i).map sf).sum + sf st := sum_take hst
        have h2 := sum_take_le (f := sf) b (i + 1)
        have h3 : b.length + (b.map sf).sum ≤ m := le
        omega
      let kf : Nat → Nat := fun j => ((st.kids.take j).map (cnt n)).sum
      let li : Nat → Nat := fun j => m - (b.length + ((b.take i).map sf).sum + kf j)
      refine ite2 (fun z => ⟨_, rfl, rfl, _, rfl, ite2 (fun z2 => absurd (V.int.inj (of_decide_eq_true z2)) (by have := of_decide_eq_true z; have := deep (by omega); omega)) (fun _ => ?_)⟩) (fun z => iteF ?_)
      all_goals
        refine ⟨_, rfl, l, rfl, ⟨_, SqL.of hl⟩, ?_⟩
        refine for_list (xs := us) (fun j σ Hx => Same H1 Hx ∧ ∃ x6 : Option V, σ = [some (.ref a), some (.int ((d : Int) - 1)), some (.int (m : Nat)), some (.int (li j : Nat)), some v, some (.ref l), x6]) ⟨Same.refl H1, _, rfl⟩ (fun j σ Hx _ p => SqL.of (p.1 _ _ hl)) ?_ ?_
        · rintro j w0 σ Hx hwj ⟨sx, x6, rfl⟩
          obtain ⟨kb, hkb, hb⟩ := hu.2 j w0 hwj
          have hb := (Kt.same sx).bd hb
          have n0 : 0 < n := deep (Nat.lt_of_le_of_lt (Nat.zero_le _) (List.getElem?_eq_some_iff.mp hwj).1)
          have k1 : kf (j + 1) = kf j + cnt n kb := sum_take hkb
          have k2 : kf (j + 1) ≤ sf st := sum_take_le _ _
          have dd : ((d - 1 : Nat) : Int) = (d : Int) - 1 := by omega
          refine ⟨_, rfl, _, rfl, _, _, rfl, rfl, _, rfl, w0, d - 1, li j, kb, by rw [dd]; rfl, hb, ok2 kb (List.mem_of_getElem? hkb), by omega, by show cnt n kb ≤ m - _; omega, fun H2 s2 => ?_⟩
          refine ⟨_, rfl, rfl, _, rfl, iteF ⟨sx.trans s2, some w0, ?_⟩⟩
          have e : li j - cnt n kb = li (j + 1) := by
            show m - (b.length + ((b.take i).map sf).sum + kf j) - cnt n kb = m - (b.length + ((b.take i).map sf).sum + kf (j + 1))
            omega
          rw [← e]
          rfl
        · rintro σ Hx ⟨sx, x6, rfl⟩
          refine ⟨(sm.trans s1).trans sx, some v, some (.ref l), x6, ?_⟩
          have e : li us.length = lf (i + 1) := by
            have h1 : ((b.take (i + 1)).map sf).sum = ((b.take i).map sf).sum + sf st := sum_take hst
            have h2 : kf us.length = sf st := by
              show ((st.kids.take us.length).map (cnt n)).sum = (st.kids.map (cnt n)).sum
              rw [ul, List.take_length]
            show m - (b.length + ((b.take i).map sf).sum + kf us.length) = m - (b.length + ((b.take (i + 1)).map sf).sum)
            omega
          rw [← e]
    · rintro σ Hc ⟨sm, x4, x5, x6, rfl⟩
      have e : lf xs.length = m - cnt (n + 1) b := by
        show m - (b.length + ((b.take xs.length).map sf).sum) = m - (b.length + (b.map sf).sum)
        rw [xl, List.take_length]
      refine ⟨_, rfl, ?_⟩
      rw [e]
      exact q Hc sm
end
end FR
set_option Elab.async false
set_option linter.all false
set_option maxRecDepth 100000
set_option maxHeartbeats 1000000
/-! _left_behind at every level, is_body, _names_called -/
namespace FR
open PySem PySem.Spec PyProof.Rows L2
section
variable {P : Program} {w : World} {K : PySem.W.Frag} {mg : Str → Option Value} {base : Heap}
theorem ok_left {f : Addr} {fd : FuncData} (F : Fun K "_left_behind" "_left_behind" sLb f fd) (T : TxtI mg) (gI : ∀ n, Glo P w K mg base "_inner_of" 5 ["value"] (spInn n)) (mS : mg "_left_behind" = some (.ref f)) (kS : PySem.W.keepIn K (.ref f) = true) (bS : Binds K fd ["value", "depth", "left"] []) : ∀ n, FnOk P w K mg base CX0 (n + 5) f fd ["value", "depth", "left"] (spLb n)
  | 0 => by
    refine F.ok scLb (fun vs H Q E h => ?_) (fun cdv A outer s H vs Q E hr h => ?_)
    · obtain ⟨v, d, m, b, rfl, h, _⟩ := h
      exact h.elim
    · obtain ⟨v, d, m, b, rfl, h, _⟩ := h
      exact h.elim
  | n + 1 => by
    have := ok_lb F T (gI n) (ok_left F T gI mS kS bS n) (by omega) mS kS bS
    have e : n + 1 + 5 = n + 5 + 1 := by omega
    rw [e]
    exact this
abbrev sIb : Stmt := top 28
theorem scIb : FnScope ["value"] ["value"] (defScope sIb) := ⟨rfl, rfl, rfl, by decide +kernel, rfl, by decide +kernel, by decide +kernel⟩
/-- a body that may stand in a program -/
def spIb : Sp := fun vs H Q _ => ∃ v b, vs = [v] ∧ BdAt 5 H v b ∧ okB 5 b ∧ cnt 5 b ≤ 60 ∧ ∀ H', Same H H' → Q (.bl true) H'
theorem ok_ib {f : Addr} {fd : FuncData} {t1 t2 : Tok} (F : Fun K "is_body" "is_body" sIb f fd) (m1 : mg "MAX_DEPTH" = some (.int 4 t1)) (m2 : mg "MAX_STATEMENTS" = some (.int 60 t2)) (gL : Glo P w K mg base "_left_behind" 10 ["value", "depth", "left"] (spLb 5)) : FnOk P w K mg base CX0 11 f fd ["value"] spIb := by
  refine F.ok scIb (fun vs H Q E h => ?_) (fun cdv A outer s H vs Q E hr h => ?_)
  · obtain ⟨v, b, rfl, _⟩ := h
    rfl
  · obtain ⟨v, b, rfl, hb, ok, le, q⟩ := h
    refine ⟨_, (pss_one (ps_ret (pe_cmpR op_notN (pe_call gL.G (hr.mono (by decide)) (by rfl) gL.m gL.k gL.b .nil pass0 (pa_cons (pv 0) (pa_cons (pe_glob (v := .int 4) (by rfl) m1 ⟨t1, rfl⟩) (pa_cons (pe_glob (v := .int 60) (by rfl) m2 ⟨t2, rfl⟩) pa_nil)))) pe_non (nomark _)))), ?_⟩
    refine ⟨_, rfl, v, 5, 60, b, rfl, hb, ok, by omega, le, fun H' s' => ⟨rfl, ?_⟩⟩
    exact q H' s'
/-- the name in a statement -/
def St.nm : St → Str
  | .note s => s
  | .call s => s
  | _ => ""
def callsOf (b : Bd) : List Str := (ofWord 5 b "call").map St.nm
abbrev sNc : Stmt := top 34
abbrev NNc : List Str := ["body", "_", "name"]
theorem scNc : FnScope NNc ["body"] (defScope sNc) := ⟨rfl, rfl, rfl, by decide +kernel, rfl, by decide +kernel, by decide +kernel⟩
def spNc (K : PySem.W.Frag) : Sp := fun vs H Q _ => ∃ v b, vs = [v] ∧ BdAt 5 H v b ∧ FewB 5 b ∧ (placed 5 b []).length ≤ 900 ∧ ∀ l H', Same H H' → H' l = some (.lst ((callsOf b).map V.str)) → Q (.ref l) H'
theorem ofWord_len (n : Nat) (b : Bd) (z : Str) : (ofWord n b z).length ≤ (placed n b []).length := by
  unfold ofWord
  refine Nat.le_trans (List.length_filter_le _ _) ?_
  rw [List.length_map]
  exact Nat.le_refl _
theorem ofWord_mem {n : Nat} {b : Bd} {z : Str} {x : St} (h : x ∈ ofWord n b z) : x.word = z := by
  unfold ofWord at h
  exact of_decide_eq_true (List.mem_filter.mp h).2
theorem call_at {n : Nat} {H : Hp} {v : V} : ∀ {x : St}, x.word = "call" → StAt n H v x → ∃ a, v = .ref a ∧ H a = some (.tup [.str "call", .str x.nm])
  | .call s, _, ⟨a, e, h⟩ => ⟨a, e, h⟩
  | .note s, h, _ => absurd h (by show ¬ (("note" : Str) = "call"); decide +kernel)
  | .stay, h, _ => absurd h (by decide +kernel)
  | .again _ _ _, h, _ => absurd h (by show ¬ (("again" : Str) = "call"); decide +kernel)
  | .choose _, h, _ => absurd h (by show ¬ (("choose" : Str) = "call"); decide +kernel)
  | .toss _, h, _ => absurd h (by show ¬ (("toss" : Str) = "call"); decide +kernel)
theorem ok_nc {f : Addr} {fd : FuncData} (F : Fun K "_names_called" "_names_called" sNc f fd) (gS : Glo P w K mg base "statements_of" 7 ["body", "word"] (spSof K 5)) : FnOk P w K mg base CX0 8 f fd ["body"] (spNc K) := by
  refine F.ok scNc (fun vs H Q E h => ?_) (fun cdv A outer s H vs Q E hr h => ?_)
  · obtain ⟨v, b, rfl, _⟩ := h
    rfl
  · obtain ⟨v, b, rfl, hb, few, sz, q⟩ := h
    refine ⟨_, (pss_one (ps_ret (pe_lc (X := (cxOf CX0 P w K mg base NNc "_names_called" (defScope sNc) f cdv A outer s H E).nox) (own := [("_", 1), ("name", 2)]) (g := (gTup K 2 (gCons (gName 1) (gCons (gName 2) gNil)))) (tt := tYes) rfl scNc.nd (pi_list (pe_call gS.G (hr.mono (by decide)) (by rfl) gS.m gS.k gS.b .nil pass0 (pa_cons (pv 0) (pa_cons pe_str pa_nil)))) (blkOk_by (N := NNc) (sc := defScope sNc) (by decide +kernel)) (fun _ _ _ _ _ => (pg_tupK (K := K) rfl rfl (pgs_cons (pg_name (i := 1) scNc.nd rfl (.inl rfl)) (pgs_cons (pg_name (i := 2) scNc.nd rfl (.inl rfl)) pgs_nil)))) (fun _ _ _ _ _ => pts_nil) (fun _ _ _ _ _ => (pv 2))))), ?_⟩
    refine ⟨_, rfl, v, b, "call", rfl, hb, few, by decide, sz, fun l us H1 s1 hl hu => ?_⟩
    refine ⟨l, rfl, ⟨_, SqL.of hl⟩, fun D hD => ?_⟩
    have ul : us.length = (ofWord 5 b "call").length := hu.1
    have ub := ofWord_len 5 b "call"
    refine lc_list (xs := us) (fun i Hc => Same H1 Hc ∧ Hc D = some (.lst ((((ofWord 5 b "call").take i).map St.nm).map V.str))) ⟨same_new hD, upd_same⟩ (fun i Hc _ p => SqL.of (p.1 _ _ hl)) ?_ ?_
    · rintro i v' Hc hvi ⟨sm, hDc⟩
      obtain ⟨x, hx, hs⟩ := hu.2 i v' hvi
      have il := (List.getElem?_eq_some_iff.mp hvi).1
      obtain ⟨a, rfl, ha⟩ := call_at (ofWord_mem (List.mem_of_getElem? hx)) hs
      have ha := sm _ _ ha
      refine ⟨a, _, rfl, SqT.of ha, rfl, _, _, rfl, _, _, rfl, rfl, rfl, ?_⟩
      refine ⟨_, rfl, _, hDc, small1000 (by rw [List.length_map, List.length_map, List.length_take]; omega), same_upd hD sm, ?_⟩
      rw [take_snoc hx, List.map_append, List.map_append]
      exact upd_same
    · rintro Hc ⟨sm, hDc⟩
      rw [List.take_of_length_le (by omega)] at hDc
      exact q D Hc (s1.trans sm) hDc
end
end FR
set_option Elab.async false
set_option linter.all false
set_option maxRecDepth 100000
set_option maxHeartbeats 1000000
/-! _are_program of a right dict -/
namespace FR
open PySem PySem.Spec PyProof.Rows L2
abbrev Pg : Type := List (Str × Bd)
/-- a program -/
structure Prg (p : Pg) : Prop where
  len : 1 ≤ p.length ∧ p.length ≤ 8
  ok : ∀ x ∈ p, nameB x.1 = true ∧ okB 5 x.2 ∧ cnt 5 x.2 ≤ 60 ∧ FewB 5 x.2
  sz : (p.map fun x => (placed 5 x.2 []).length).sum ≤ 60
  cl : ∀ x ∈ p, ∀ z ∈ callsOf x.2, z ∈ p.map (·.1)
/-- these pairs are it -/
def PrgK (H : Hp) (kvs : List (Key × V)) (p : Pg) : Prop := kvs.length = p.length ∧ ∀ (i : Nat) (k : Key) (v : V), kvs[i]? = some (k, v) → ∃ z b, k = .inr z ∧ p[i]? = some (z, b) ∧ BdAt 5 H v b
theorem PrgK.keep {H H' : Hp} {kvs : List (Key × V)} {p : Pg} (h : PrgK H kvs p) (e : ∀ a xs, H a = some (.tup xs) → H' a = some (.tup xs)) : PrgK H' kvs p := ⟨h.1, fun i k v q => by
  obtain ⟨z, b, e1, e2, e3⟩ := h.2 i k v q
  exact ⟨z, b, e1, e2, bdAt_keep e 5 v b e3⟩⟩
theorem same_lock {H H' : Hp} {d : Addr} {u : HO} {od : Obj} (hd : H d = some u) (s : Same (upd H d (.frz od u)) H') : Same H (upd H' d u) := fun a o e => by
  by_cases h : a = d
  · rw [h] at e ⊢
    rw [upd_same, ← hd, e]
  · rw [upd_ne h]
    exact s a o (by rw [upd_ne h]; exact e)
theorem lock_tup {H : Hp} {d : Addr} {kvs : List (Key × V)} {x : HO} (hd : H d = some (.dK kvs)) : ∀ a xs, H a = some (.tup xs) → upd H d x a = some (.tup xs) := fun a xs e => by
  rw [upd_ne (fun z => by rw [z, hd] at e; cases e)]
  exact e
theorem len_mem_sum {α : Type} {f : α → Nat} : ∀ {l : List α} {x : α}, x ∈ l → f x ≤ (l.map f).sum
  | y :: l, x, h => by
    show f x ≤ f y + (l.map f).sum
    rcases List.mem_cons.mp h with e | e
    · rw [e]; omega
    · have := len_mem_sum (f := f) e
      omega
theorem valV_of {kvs : List (Key × V)} {k : Key} (h : k ∈ kvs.map (·.1)) : (valV kvs k).isSome = true := by
  cases e : valV kvs k with
  | some v => rfl
  | none => exact absurd h (valV_not e)
theorem PrgK.at {H : Hp} {kvs : List (Key × V)} {p : Pg} (h : PrgK H kvs p) {i : Nat} (hi : i < kvs.length) : ∃ z v b, kvs[i]? = some (.inr z, v) ∧ p[i]? = some (z, b) ∧ BdAt 5 H v b := by
  cases e : kvs[i]? with
  | none => exact absurd (List.getElem?_eq_none_iff.mp e) (by omega)
  | some kv =>
    obtain ⟨k, v⟩ := kv
    obtain ⟨z, b, rfl, h1, h2⟩ := h.2 i k v e
    exact ⟨z, v, b, rfl, h1, h2⟩
theorem PrgK.mem {H : Hp} {kvs : List (Key × V)} {p : Pg} (h : PrgK H kvs p) {z : Str} (hz : z ∈ p.map (·.1)) : (Sum.inr z : Key) ∈ kvs.map (·.1) := by
  obtain ⟨x, hx, rfl⟩ := List.mem_map.mp hz
  obtain ⟨i, hi, e⟩ := List.getElem_of_mem hx
  obtain ⟨z', v, b, h1, h2, _⟩ := h.at (i := i) (by rw [h.1]; exact hi)
  rw [List.getElem?_eq_getElem hi, e] at h2
  have e2 := Option.some.inj h2
  rw [e2]
  exact List.mem_map.mpr ⟨_, List.mem_of_getElem? h1, rfl⟩
theorem str_bl : ∀ {xs : List Str} {bs : List Bool}, xs.map V.str = bs.map V.bl → xs = []
  | [], _, _ => rfl
  | x :: xs, [], h => by cases h
  | x :: xs, y :: bs, h => by
    have := (List.cons.inj h).1
    cases this
theorem rep_bl {n : Nat} : ((List.replicate n true).map V.bl) ++ [V.bl true] = (List.replicate (n + 1) true).map V.bl := by
  rw [List.replicate_succ', List.map_append]
  rfl
theorem rep_all {n : Nat} : (List.replicate n true).all id = true := by
  induction n with
  | zero => rfl
  | succ n ih => rw [List.replicate_succ, List.all_cons, ih]; rfl
theorem sum_cast {α : Type} {f : α → Nat} : ∀ l : List α, (l.map fun x => ((f x : Nat) : Int)).sum = (((l.map f).sum : Nat) : Int)
  | [] => rfl
  | x :: l => by
    show (f x : Int) + (l.map fun x => ((f x : Nat) : Int)).sum = ((f x + (l.map f).sum : Nat) : Int)
    rw [sum_cast l]
    omega
/-- walks, whatever the turn does -/
theorem walk_core {J : It} {n : Nat} {G : Hp → Prop} {Y : Nat → Hp → V → Hp → Prop} (w : Walk J n G Y) {Body : (Hp → Prop) → V → Hp → Prop} {H0 : Hp} {Qd : Hp → Prop} (Pv : Nat → Hp → Prop) (h0 : Pv 0 H0) (hG : ∀ i H, i ≤ n → Pv i H → G H)
    (hs : ∀ i x H H', i < n → Pv i H → Y i H x H' → Body (Pv (i + 1)) x H') (hd : ∀ H, Pv n H → Qd H) :
    ∃ W : Nat → Nat → Hp → Prop, (∃ m, W 0 m H0) ∧ ∀ i m H, W i m H → (J.stop i H ∧ Qd H) ∨ (J.go i H ∧ ∃ Nx : Hp → Prop, (∀ H', Nx H' → ∃ m', m' < m ∧ W (i + 1) m' H') ∧ ∀ x H', J.yld i H x H' → Body Nx x H') := by
  refine ⟨fun i m H => m = n - i ∧ i ≤ n ∧ Pv i H, ⟨n, by simp, Nat.zero_le _, h0⟩, ?_⟩
  rintro i m H ⟨rfl, hi, p⟩
  have q := hG i H hi p
  by_cases hlt : i < n
  · exact .inr ⟨w.goes i H hlt q, Pv (i + 1), fun H' p' => ⟨n - (i + 1), by omega, rfl, hlt, p'⟩, fun x H' y => hs i x H H' hlt p (w.yields i H x H' hlt q y)⟩
  · have e : i = n := by omega
    subst e
    exact .inl ⟨w.stops H q, hd H p⟩
section
variable {P : Program} {w : World} {K : PySem.W.Frag} {mg : Str → Option Value} {base : Heap}
abbrev sAp : Stmt := top 33
abbrev NAp : List Str := ["bodies", "name", "body"]
theorem scAp : FnScope NAp ["bodies"] (defScope sAp) := ⟨rfl, rfl, rfl, by decide +kernel, rfl, by decide +kernel, by decide +kernel⟩
def spAp : Sp := fun vs H Q _ => ∃ d kvs p, vs = [.ref d] ∧ H d = some (.dK kvs) ∧ PrgK H kvs p ∧ Prg p ∧ ∀ H', Same H H' → Q (.bl true) H'
structure TxtD (mg : Str → Option Value) : Prop where
  isi : mg "isinstance" = none
  dict : mg "dict" = none
  len : mg "len" = none
  all : mg "all" = none
  sum : mg "sum" = none
theorem ok_ap {f fp dT : Addr} {fd fdp : FuncData} {t8 t60 : Tok} (F : Fun K "_are_program" "_are_program" sAp f fd) (T : TxtD mg) (m8 : mg "MAX_PROCEDURES" = some (.int 8 t8)) (m60 : mg "MAX_STATEMENTS" = some (.int 60 t60)) (gB : Glo P w K mg base "is_between" 2 ["value", "least", "greatest"] spBetX) (gN : Glo P w K mg base "is_name" 3 ["value"] (spNm K)) (gI : Glo P w K mg base "is_body" 11 ["value"] spIb) (gC : Glo P w K mg base "_names_called" 8 ["body"] (spNc K))
    (GP : FnOk P w K mg base CX0 6 fp fdp ["body", "path"] (spPls K 5)) (mP : mg "placed_statements" = some (.ref fp)) (kP : PySem.W.keepIn K (.ref fp) = true) {ds : List Value} (bP : Binds K fdp ["body", "path"] ds) (vP : Vals [V.ref dT] ds) (hT : ∀ H, SqT K H dT []) : FnOk P w K mg base CX0 12 f fd ["bodies"] spAp := by
  refine F.ok scAp (fun vs H Q E h => ?_) (fun cdv A outer s H vs Q E hr h => ?_)
  · obtain ⟨d, kvs, p, rfl, _⟩ := h
    rfl
  · obtain ⟨d, kvs, p, rfl, hd, hk, hp, q⟩ := h
    have hu := hu_of hr
    refine ⟨_, (pss_cons (ps_if (PW.pt (pw_or (pt_not (pt_val (pe_callB call_isi (by rfl) T.isi PyProof.Rows.boot_isinstance (pa_cons (pv 0) (pa_cons (pe_bltn (v := .ty "dict") (by rfl) T.dict (by decide +kernel) rfl) pa_nil))))) (pw_or1 (pt_not (pt_val (pe_call gB.G (hr.mono (by decide)) (by rfl) gB.m gB.k gB.b .nil pass0 (pa_cons (pe_callB call_lenD (by rfl) T.len PySem.boot_len (pa_cons (pv 0) pa_nil)) (pa_cons pe_int (pa_cons (pe_glob (v := .int 8) (by rfl) m8 ⟨t8, rfl⟩) pa_nil))))))))) (pss_one (ps_ret pe_bl)) pss_nil)
      (pss_cons (ps_if (pt_not (pt_val (pe_callB (cr_all rfl) (by rfl) T.all (by decide +kernel) (pa_cons (pe_lock (pe_lc (X := (cxOf CX0 P w K mg base NAp "_are_program" (defScope sAp) f cdv A outer s H E).nox) (own := [("name", 1), ("body", 2)]) (g := (gTup K 2 (gCons (gName 1) (gCons (gName 2) gNil)))) (tt := tYes) rfl scAp.nd (pi_items (pv 0)) (blkOk_by (N := NAp) (sc := defScope sAp) (by decide +kernel)) (fun _ _ _ _ _ => (pg_tupK (K := K) rfl rfl (pgs_cons (pg_name (i := 1) scAp.nd rfl (.inl rfl)) (pgs_cons (pg_name (i := 2) scAp.nd rfl (.inl rfl)) pgs_nil)))) (fun _ _ _ _ _ => pts_nil) (fun _ _ _ _ _ => (pe_and (pe_call gN.G (hr.mono (by decide)) (by rfl) gN.m gN.k gN.b .nil pass0 (pa_cons (pv 1) pa_nil)) (pe_one (pe_call gI.G (hr.mono (by decide)) (by rfl) gI.m gI.k gI.b .nil pass0 (pa_cons (pv 2) pa_nil))))))) pa_nil)))) (pss_one (ps_ret pe_bl)) pss_nil)
      (pss_cons (ps_if (pt_cmpR op_gt (pe_callB (cr_sum rfl) (by rfl) T.sum (by decide +kernel) (pa_cons (pe_lock (pe_lc (X := (cxOf CX0 P w K mg base NAp "_are_program" (defScope sAp) f cdv A outer s H E).nox) (own := [("body", 2)]) (g := (gName 2)) (tt := tYes) rfl scAp.nd (pi_values (pv 0)) (blkOk_by (N := NAp) (sc := defScope sAp) (by decide +kernel)) (fun _ _ _ _ _ => (pg_name (i := 2) scAp.nd rfl (.inl rfl))) (fun _ _ _ _ _ => pts_nil) (fun _ _ _ _ _ => (pe_callB (call_len_seqK (K := K) rfl) (by rfl) T.len PySem.boot_len (pa_cons (pe_call GP (hr.mono (by decide)) (by rfl) mP kP bP vP pass0 (pa_cons (pv 2) pa_nil)) pa_nil))))) pa_nil)) (pe_glob (v := .int 60) (by rfl) m60 ⟨t60, rfl⟩) (nomark _)) (pss_one (ps_ret pe_bl)) pss_nil)
      (pss_one (ps_ret (pe_callB (cr_all rfl) (by rfl) T.all (by decide +kernel) (pa_cons (pe_lock (pe_lc2 (X := (cxOf CX0 P w K mg base NAp "_are_program" (defScope sAp) f cdv A outer s H E).nox) (own := [("body", 2), ("name", 1)]) (vs1 := [1]) (g := (gName 2)) (tt := tYes) (g1 := (gName 1)) (tt1 := tYes) rfl scAp.nd (pi_values (pv 0)) (blkOk_by (N := NAp) (sc := defScope sAp) (by decide +kernel)) (by decide) (fun _ _ _ _ _ => (pg_name (i := 2) scAp.nd rfl (.inl rfl))) (fun _ _ _ _ _ => pts_nil) (fun _ _ _ _ _ => (pi_listK (K := K) rfl (pe_call gC.G (hr.mono (by decide)) (by rfl) gC.m gC.k gC.b .nil pass0 (pa_cons (pv 2) pa_nil)))) (fun _ _ _ _ _ => (pg_name (i := 1) scAp.nd rfl (.inl rfl))) (fun _ _ _ _ _ => pts_nil) (fun _ _ _ _ _ => (pe_cmp (pc_din hu (pv 1) (pv 0)))))) pa_nil))))))), ?_⟩
    have lk : kvs.length = p.length := hk.1
    have c1 : (decide ((1 : Int) ≤ (kvs.length : Nat)) && decide (((kvs.length : Nat) : Int) ≤ 8)) = true := by
      have := hp.len
      rw [Bool.and_eq_true]
      exact ⟨decide_eq_true (by omega), decide_eq_true (by omega)⟩
    refine ⟨_, rfl, _, _, _, _, true, rfl, .ty _, .base (.dK hd), kit_ty (by decide +kernel), _, rfl, iteF ?_⟩
    refine ⟨_, rfl, d, kvs, rfl, hd, _, 1, 8, rfl, _, rfl, ?_⟩
    rw [c1]
    refine iteF ?_
    -- names and bodies
    refine ⟨d, _, hd, trivial, fun od => ?_⟩
    have hk1 := hk.keep (lock_tup (x := .frz od (.dK kvs)) hd)
    have hdl : upd H d (.frz od (.dK kvs)) d = some (.frz od (.dK kvs)) := upd_same
    have back : ∀ H', Same (upd H d (.frz od (.dK kvs))) H' → Same H (upd H' d (.dK kvs)) := fun H' s => same_lock hd s
    generalize upd H d (.frz od (.dK kvs)) = H1 at hk1 hdl back ⊢
    refine ⟨_, rfl, d, od, kvs, rfl, hdl, fun D hD => ?_⟩
    refine lc_it walk_items (fun i Hc => Same H1 Hc ∧ Hc D = some (.lst ((List.replicate i true).map V.bl))) ⟨same_new hD, upd_same⟩ (fun i Hc _ p => p.1 _ _ hdl) ?_ ?_
    · rintro i x Hc H' hi ⟨sm, hDc⟩ ⟨T1, x1, y1, rfl, hT1, rfl, hx, hy⟩
      obtain ⟨z, v, b, hkv, hpi, hb⟩ := hk1.at hi
      have hx : (kvs[i]?.map fun kv => kV kv.1) = some x1 := hx
      have hy : (kvs[i]?.map Prod.snd) = some y1 := hy
      rw [hkv] at hx hy
      have ex : V.str z = x1 := Option.some.inj hx
      have ey : v = y1 := Option.some.inj hy
      subst ex ey
      have sT := same_new (o := .tup [V.str z, v]) hT1
      have hDt := sT _ _ hDc
      have sm2 := sm.trans sT
      have h1 : upd Hc T1 (.tup [V.str z, v]) T1 = some (.tup [V.str z, v]) := upd_same
      generalize upd Hc T1 (.tup [V.str z, v]) = H2 at hDt sm2 h1 ⊢
      obtain ⟨nb, ob, cb, fb⟩ := hp.ok _ (List.mem_of_getElem? hpi)
      refine ⟨T1, _, rfl, SqT.of h1, rfl, _, _, rfl, _, _, rfl, rfl, rfl, ?_⟩
      refine ⟨_, rfl, .inl ⟨z, rfl, name_len nb, fun H3 s3 => ?_⟩⟩
      rw [nb]
      refine ⟨_, rfl, iteT ?_⟩
      refine ⟨_, rfl, v, b, rfl, ((hb.same sm2).same s3), ob, cb, fun H4 s4 => ?_⟩
      have hD4 := s4 _ _ (s3 _ _ hDt)
      refine ⟨_, hD4, small1000 (by rw [List.length_map, List.length_replicate]; have := hp.len; omega), same_upd hD ((sm2.trans s3).trans s4), ?_⟩
      rw [rep_bl]
      exact upd_same
    · rintro Hc ⟨sm, hDc⟩
      refine ⟨sm _ _ hdl, ?_⟩
      have sb := back Hc sm
      have hDb : upd Hc d (.dK kvs) D = some (.lst ((List.replicate kvs.length true).map V.bl)) := by
        rw [upd_ne (fun z => by rw [z, hdl] at hD; cases hD)]
        exact hDc
      generalize upd Hc d (.dK kvs) = Ha at sb hDb ⊢
      refine ⟨D, _, rfl, SqL.of hDb, _, rfl, ?_⟩
      rw [rep_all]
      refine iteF ?_
      -- sizes
      have hda := sb _ _ hd
      have hka := hk.keep (fun a xs e => sb a _ e)
      clear hDb hDc
      refine ⟨d, _, hda, trivial, fun od2 => ?_⟩
      have hk1 := hka.keep (lock_tup (x := .frz od2 (.dK kvs)) hda)
      have hdl : upd Ha d (.frz od2 (.dK kvs)) d = some (.frz od2 (.dK kvs)) := upd_same
      have back : ∀ H', Same (upd Ha d (.frz od2 (.dK kvs))) H' → Same Ha (upd H' d (.dK kvs)) := fun H' s => same_lock hda s
      generalize upd Ha d (.frz od2 (.dK kvs)) = H2 at hk1 hdl back ⊢
      refine ⟨_, rfl, d, od2, kvs, rfl, hdl, fun D2 hD2 => ?_⟩
      let ls : List Int := p.map fun x => (((placed 5 x.2 []).length : Nat) : Int)
      refine lc_it walk_values (fun i Hc => Same H2 Hc ∧ Hc D2 = some (.lst ((ls.take i).map V.int))) ⟨same_new hD2, upd_same⟩ (fun i Hc _ p => p.1 _ _ hdl) ?_ ?_
      · rintro i x Hc H' hi ⟨sm, hDc⟩ ⟨rfl, k0, hkv⟩
        obtain ⟨z, b, rfl, hpi, hb⟩ := hk1.2 i _ _ hkv
        obtain ⟨nb, ob, cb, fb⟩ := hp.ok _ (List.mem_of_getElem? hpi)
        have l60 : (placed 5 b []).length ≤ 60 := Nat.le_trans (len_mem_sum (f := fun x : Str × Bd => (placed 5 x.2 []).length) (List.mem_of_getElem? hpi)) hp.sz
        refine ⟨rfl, _, rfl, x, dT, b, [], rfl, hb.same sm, hT _, fb, by decide, Nat.le_trans l60 (by decide), fun l zs H3 nl3 s3 hl hz => ?_⟩
        refine ⟨l, zs, rfl, .inl (SqL.of hl), _, s3 _ _ hDc, small1000 (by rw [List.length_map, List.length_take]; have := hp.len; omega), same_upd hD2 (sm.trans s3), ?_⟩
        have hls : ls[i]? = some ((zs.length : Nat) : Int) := by
          show (p.map _)[i]? = _
          rw [List.getElem?_map, hpi, hz.1]
          rfl
        rw [take_snoc hls, List.map_append]
        exact upd_same
      · rintro Hc ⟨sm, hDc⟩
        rw [List.take_of_length_le (by show (p.map _).length ≤ _; rw [List.length_map]; omega)] at hDc
        refine ⟨sm _ _ hdl, ?_⟩
        have sb2 := back Hc sm
        have hDb : upd Hc d (.dK kvs) D2 = some (.lst (ls.map V.int)) := by
          rw [upd_ne (fun z => by rw [z, hdl] at hD2; cases hD2)]
          exact hDc
        generalize upd Hc d (.dK kvs) = Hb at sb2 hDb ⊢
        refine ⟨D2, ls, rfl, SqL.of hDb, _, _, rfl, rfl, _, rfl, ?_⟩
        have le60 : ls.sum ≤ 60 := by
          show (p.map fun x => (((placed 5 x.2 []).length : Nat) : Int)).sum ≤ 60
          rw [sum_cast]
          have := hp.sz
          omega
        refine ite2 (fun z => absurd (of_decide_eq_true z) (by omega)) (fun _ => ?_)
        -- what is called
        have sab := sb.trans sb2
        have hdb := sab _ _ hd
        have hkb := hk.keep (fun a xs e => sab a _ e)
        clear hDb hDc
        refine ⟨d, _, hdb, trivial, fun od3 => ?_⟩
        have hk1 := hkb.keep (lock_tup (x := .frz od3 (.dK kvs)) hdb)
        have hdl : upd Hb d (.frz od3 (.dK kvs)) d = some (.frz od3 (.dK kvs)) := upd_same
        have back : ∀ H', Same (upd Hb d (.frz od3 (.dK kvs))) H' → Same Hb (upd H' d (.dK kvs)) := fun H' s => same_lock hdb s
        generalize upd Hb d (.frz od3 (.dK kvs)) = H3 at hk1 hdl back ⊢
        refine ⟨_, rfl, d, od3, kvs, rfl, hdl, fun D3 hD3 => ?_⟩
        refine walk_core walk_values (fun i Hc => Same H3 Hc ∧ ∃ m, m ≤ 60 * i ∧ Hc D3 = some (.lst ((List.replicate m true).map V.bl))) ⟨same_new hD3, 0, Nat.zero_le _, upd_same⟩ (fun i Hc _ p => p.1 _ _ hdl) ?_ ?_
        · rintro i x Hc H' hi ⟨sm, m, hm, hDc⟩ ⟨rfl, k0, hkv⟩
          obtain ⟨z, b, rfl, hpi, hb⟩ := hk1.2 i _ _ hkv
          obtain ⟨nb, ob, cb, fb⟩ := hp.ok _ (List.mem_of_getElem? hpi)
          have cl := hp.cl _ (List.mem_of_getElem? hpi)
          have l60 : (placed 5 b []).length ≤ 60 := Nat.le_trans (len_mem_sum (f := fun x : Str × Bd => (placed 5 x.2 []).length) (List.mem_of_getElem? hpi)) hp.sz
          have c60 : (callsOf b).length ≤ 60 := by
            unfold callsOf
            rw [List.length_map]
            exact Nat.le_trans (ofWord_len 5 b "call") l60
          refine ⟨rfl, _, rfl, x, b, rfl, hb.same sm, fb, Nat.le_trans l60 (by decide), fun l H4 s4 hl => ?_⟩
          have sm4 := sm.trans s4
          have hD4 := s4 _ _ hDc
          refine ⟨l, rfl, ⟨_, SqL.of hl⟩, ?_⟩
          refine walk_core (walk_list (xs := (callsOf b).map V.str)) (fun j Hx => Same H3 Hx ∧ Hx l = some (.lst ((callsOf b).map V.str)) ∧ Hx D3 = some (.lst ((List.replicate (m + j) true).map V.bl))) ⟨sm4, hl, hD4⟩ (fun j Hx _ p => SqL.of p.2.1) ?_ ?_
          · rintro j y Hx H' hj ⟨sx, hlx, hDx⟩ ⟨rfl, hy⟩
            rw [List.length_map] at hj
            rw [List.getElem?_map, List.getElem?_eq_getElem hj] at hy
            have ey : V.str ((callsOf b)[j]) = y := Option.some.inj hy
            subst ey
            have hin := cl _ (List.getElem_mem hj)
            have hv := valV_of (hk.mem hin)
            refine ⟨rfl, _, rfl, _, rfl, d, _, rfl, .inl ⟨kvs, .inr _, .inr ⟨od3, sx _ _ hdl⟩, rfl, rfl⟩, ?_⟩
            rw [hv]
            refine ⟨_, hDx, small1000 (by rw [List.length_map, List.length_replicate]; have := hp.len; omega), same_upd hD3 sx, ?_, ?_⟩
            · rw [upd_ne (fun e => by
                rw [e, hDx] at hlx
                have e2 : (List.replicate (m + j) true).map V.bl = (callsOf b).map V.str := by injection hlx with h; injection h
                rw [str_bl e2.symm] at hj
                exact absurd hj (Nat.not_lt_zero _))]
              exact hlx
            · rw [rep_bl]
              exact upd_same
          · rintro Hx ⟨sx, hlx, hDx⟩
            rw [List.length_map] at hDx
            exact ⟨sx, _, by omega, hDx⟩
        · rintro Hc ⟨sm, m, hm, hDc⟩
          refine ⟨sm _ _ hdl, ?_⟩
          have sb3 := back Hc sm
          have hDb : upd Hc d (.dK kvs) D3 = some (.lst ((List.replicate m true).map V.bl)) := by
            rw [upd_ne (fun z => by rw [z, hdl] at hD3; cases hD3)]
            exact hDc
          generalize upd Hc d (.dK kvs) = Hd at sb3 hDb ⊢
          refine ⟨D3, _, rfl, SqL.of hDb, ?_⟩
          rw [rep_all]
          exact q Hd (sab.trans sb3)
end
end FR
set_option Elab.async false
set_option linter.all false
set_option maxRecDepth 100000
set_option maxHeartbeats 1000000
/-! def f(self, **rest): a call with one keyword -/
namespace FR
open PySem PySem.Spec PyProof.Rows L2
theorem put_new (name : Str) (h : Int) (key v : Value) : Obj.putName name h key v { cls := .type "dict", data := .dict #[] } = { cls := .type "dict", data := .dict #[⟨h, key, v⟩] 1 } := by
  rw [Obj.putName_eq]
  simp [Obj.putNameByArray]
theorem nsSet_new {prog : Program} {w : World} {A : Around} {E : Value → Shared → Prop} {s : Shared} {a : Addr} {name : Str} {v : Value} {Q : Unit → Shared → Prop} (ha : s.heap.get? a = some { cls := .type "dict", data := .dict #[] })
    (h : ∀ h', h'.DictOf (mixKind prog w) a [(.inr name, v)] → Heap.SameBut a s.heap h' → Q () { s with heap := h', toks := s.toks + 1 }) : wpAny (model prog w) A (nsSet a name v) Q E s := fun Γ p _ => by
  simp only [nsSet, strHash, Sem.wp_bind', Sem.wp_cmd_ask, Sem.wp_pure', Sem.wp_cmd_mkText]
  rw [Sem.wp_loadPart_of (model prog w) Γ _ p { s with toks := s.toks + 1 } (o := { cls := .type "dict", data := .dict #[] }) _ ha]
  simp only [aRefKeyMayBeTheName_eq, aRefKeyMayBeTheNameByArray]
  rw [if_neg (by simp)]
  simp only [Sem.wp_cmd_updatePart]
  refine ⟨by rw [ha]; rfl, h _ ?_ (Heap.SameBut.update ..)⟩
  refine ⟨_, #[⟨_, _, v⟩], 1, Heap.get?_update_self _ ha (by rw [put_new]; rfl), ?_, by rw [put_new], ?_, ?_, ?_⟩
  · rw [put_new]; exact ⟨rfl, rfl, rfl⟩
  · intro e he
    have he := List.mem_singleton.mp (Array.mem_toList_iff.mpr he)
    subst he
    exact ⟨.inr name, keyIs_str _ s.toks, rfl⟩
  · exact .cons (keyIs_str _ s.toks) rfl .nil
  · simp
theorem bind_rest {prog : Program} {w : World} {A : Around} {E : Value → Shared → Prop} {s : Shared} {Q : List (Str × Value) → Shared → Prop} {fd : FuncData} {x y : Arg} {k : Str} {u v : Value} 
    (hp : fd.params = ⟨[], [x], none, [], [], some y, []⟩) (hd : fd.defaults = .none) (hk : ¬ k = x.arg)
    (h : ∀ h' d, h'.DictOf (mixKind prog w) d [(.inr k, v)] → s.heap.objs.size = d → (∀ b o, s.heap.get? b = some o → h'.get? b = some o) → Q [(x.arg, u), (y.arg, .ref d)] { s with heap := h', toks := s.toks + 1 }) :
    wpAny (model prog w) A (bindArgs fd ⟨[u], [(k, v)]⟩) Q E s := by
  unfold bindArgs
  rw [hp, hd]
  simp [hk, seqItems?]
  refine wpAny_bind (wpAny_pure (wpAny_bind (wpAny_alloc ?_)))
  rw [← bind_pure_comp]
  refine wpAny_bind (nsSet_new (Heap.get?_push_size _ rfl) fun h' hd' sb => wpAny_pure (h h' _ hd' rfl fun b o e => ?_))
  exact (sb.2 b (Nat.ne_of_lt (Heap.lt_size e))).trans (Heap.get?_push_of_some _ e)
theorem frs_there {h base : Heap} : ∀ {l : List Env}, h.FunFrames base l → ∀ b ∈ frs l, ∃ o, h.get? b = some o
  | [], _, b, hb => absurd hb (by simp [frs])
  | env :: l, ⟨_, ⟨L, o, hf, _, ho, _⟩, hr⟩, b, hb => by
    unfold frs at hb
    simp [hf] at hb
    rcases hb with e | e
    · exact ⟨o, by rw [e]; exact ho⟩
    · exact frs_there hr b (by unfold frs; simpa using e)
/-- def f(x, **y), called with one value and one keyword of this name -/
structure FnRest (P : Program) (w : World) (K : PySem.W.Frag) (mg : Str → Option Value) (base : Heap) (k : Nat) (f : Addr) (key : Str) (sp : Sp) : Prop where
  run : ∀ (A : Around) (outer : List Env) (s : Shared) (H : Hp) (u g : Value) (vu vg : V) (Q : VK) (E : XK), Room k A → Env0 P w K mg base A outer s H → RelV vu u → RelV vg g → (∀ d, H d = none → sp [vu, .ref d] (upd H d (.dK [(.inr key, vg)])) Q E) →
    codeAny (model P w) A (.call (.ref f) ⟨[u], [(key, g)]⟩) (CR CX0 outer P w H s Q E) s
section
variable {P : Program} {w : World} {K : PySem.W.Frag} {mg : Str → Option Value} {base : Heap}
theorem rest_ok {nm qual key : Str} {x y : Arg} {st : Stmt} {f : Addr} {fd : FuncData} {N : List Str} {k : Nat} {sp : Sp} (F : Fun K nm qual st f fd) (hp : defArgs st = ⟨[], [x], none, [], [], some y, []⟩) (S : FnScope N [x.arg, y.arg] (defScope st)) (hk : ¬ key = x.arg)
    (len : ∀ vs H Q E, sp vs H Q E → vs.length = 2)
    (hbody : ∀ (cdv : Value) (A : Around) (outer : List Env) (s : Shared) (H : Hp) (vs : List V) (Q : VK) (E : XK), Room k (A.deeper (envOfC qual (defScope st) s.heap.objs.size f cdv)) → sp vs H Q E →
      ∃ t, PSs (cxOf CX0 P w K mg base N qual (defScope st) f cdv A outer s H E).nox (defBody st) t ∧ t { nx := fun _ H' => Q .non H', rt := Q } (start N vs) H) : FnRest P w K mg base (k + 1) f key sp := by
  obtain ⟨oc, od, kV, doc, pm, an, cdv, ct, osl, rfl, lk, hcd⟩ := F.ex
  refine ⟨fun A outer s H u g vu vg Q E hr e0 ru rg hsp => ?_⟩
  have KX0 : K.In s.heap := e0.mod.kin.keeps fun b o e => (e0.bs b o e).1
  refine codeAny_call_function hr.depth (KX0 _ _ lk) rfl S.co S.gen rfl (PySem.W.codeRec_of KX0 hcd) (bind_rest hp rfl hk fun h' d hd' ed keep => ?_)
  -- the state behind the binding
  have hn : H d = none := e0.hok.fresh (Nat.le_of_eq ed)
  have hlt : d < h'.objs.size := by
    obtain ⟨o, es, ep, e, _⟩ := hd'
    exact Heap.lt_size e
  have big : sysModules < s.heap.objs.size := by
    have h : mainGlobals < s.heap.objs.size := (e0.mod.glob.keeps fun b o e => (e0.bs b o e).1).lt
    exact Nat.lt_trans (by decide) h
  have hok : HOk P w (upd H d (.dK [(.inr key, vg)])) h' := e0.hok.laid keep (Nat.le_of_eq ed) ⟨by show 1 ≤ sizeLine; rw [sizeLine_eq]; omega, beq_eq_false_iff_ne.mpr (by rw [← ed]; exact Ne.symm (Nat.ne_of_lt big)), _, .cons ⟨rfl, rg⟩ .nil, hd'⟩
  have un : Un (frs outer) [] H (upd H d (.dK [(.inr key, vg)])) s.heap h' := Un.laid keep (Nat.le_of_eq ed) hn
  have e1 : Env0 P w K mg base A outer { s with heap := h', toks := s.toks + 1 } (upd H d (.dK [(.inr key, vg)])) := by
    refine ⟨e0.frames, e0.mod, fun b o e => ⟨keep _ _ (e0.bs b o e).1, ?_⟩, Nat.le_trans e0.bsz (by rw [ed]; exact Nat.le_of_lt hlt), Heap.FunFrames.of_keeps (fun b o e _ => ⟨o, keep _ _ e, rfl⟩) e0.funs, fun b hb => ?_, hok, e0.bare⟩
    · have lt := Heap.lt_size (e0.bs b o e).1
      rw [ed] at lt
      rw [upd_ne (Nat.ne_of_lt lt)]
      exact (e0.bs b o e).2
    · have hb0 := e0.frf b hb
      obtain ⟨o, e⟩ := frs_there e0.funs b hb
      have lt := Heap.lt_size e
      rw [ed] at lt
      rw [upd_ne (Nat.ne_of_lt lt)]
      exact hb0
  have q1 := hsp d hn
  generalize hs1 : ({ s with heap := h', toks := s.toks + 1 } : Shared) = s1 at e1
  have es1 : s1.heap = h' := by rw [← hs1]
  have eo1 : s1.os = s.os := by rw [← hs1]
  have hl : [vu, V.ref d].length = [x.arg, y.arg].length := rfl
  have r : Vals [vu, V.ref d] [u, Value.ref d] := .cons ru (.cons rfl .nil)
  have KX : K.In s1.heap := e1.mod.kin.keeps fun b o e => (e1.bs b o e).1
  have lim : s1.heap.NoLimit := e1.mod.nolimit.keeps fun b o e => (e1.bs b o e).1
  have hkind : ∀ z ∈ [x.arg, y.arg].zip [u, Value.ref d], (defScope st).names.lookup z.1 = some .local ∨ ((defScope st).names.lookup z.1 = some .cell ∧ ((cellsFrom (s1.heap.objs.size + 1) (defScope st).names []).lookup z.1).isSome = true) := fun ⟨n, v⟩ hy => by
    rcases S.par n (List.of_mem_zip hy).1 with q | q
    · exact .inl q
    · exact .inr ⟨q, PySem.W.cellsFrom_some _ _ _ (.inl q)⟩
  refine wpAny_newFunctionEnv_cells (binds := [x.arg, y.arg].zip [u, Value.ref d]) S.kind hkind fun env he s2 x2 => ?_
  subst he
  refine ⟨lim.keeps x2.toInCall.keep, codeAny_func ?_⟩
  obtain ⟨t, ht, hq⟩ := hbody cdv A outer s1 _ _ _ _ (hr.deeper _) q1
  have I : Inv (cxOf CX0 P w K mg base N qual (defScope st) f cdv A outer s1 (upd H d (.dK [(.inr key, vg)])) E) [] (start N [vu, V.ref d]) (upd H d (.dK [(.inr key, vg)])) s2 := inv_start S hr.hd e1 hl r x2
  refine wpAny_mono (ht.nox.run [] s2 (start N [vu, V.ref d]) _ _ I hq) (fun fl s' hs => ?_) fun e s' hs => hs
  have fin : ∀ {σ' : L2.St} {H' : Hp} {v : V} {u : Value}, Inv (cxOf CX0 P w K mg base N qual (defScope st) f cdv A outer s1 (upd H d (.dK [(.inr key, vg)])) E) [] σ' H' s' → RelV v u → Q v H' → CE outer P w H s Q u s' :=
    fun {σ' H' v u} J rv q => ⟨v, H', J.os.trans eo1, J.bare, un.trans (by rw [← es1]; exact J.base), J.hok, rv, q⟩
  cases fl with
  | ret u =>
    obtain ⟨v, σ', H', J, rv, q⟩ := hs
    exact fin J rv q
  | next =>
    obtain ⟨σ', H', J, q⟩ := hs
    exact fin (v := V.non) (u := Value.none) J rfl q
  | brk =>
    obtain ⟨_, _, _, q⟩ := hs
    exact False.elim q
  | cont =>
    obtain ⟨_, _, _, q⟩ := hs
    exact False.elim q
end
end FR
set_option Elab.async false
set_option linter.all false
set_option maxRecDepth 100000
set_option maxHeartbeats 1000000
/-! C(key = e), C's __init__ takes self and **rest -/
namespace FR
open PySem PySem.Spec PyProof.Rows L2
/-- a new instance and its dict, a new dict of the keyword, then __init__ -/
def tMakeR (C : Addr) (key : Str) (sp : Sp) (tk : TA) : TE := fun σ H Q => tk σ H fun zs H2 => ∃ g, zs = [g] ∧ ∀ x dx, H2 x = none → H2 dx = none → dx ≠ x → ∀ d, upd (upd H2 dx (.own x)) x (.ins C dx []) d = none →
  sp [.ref x, .ref d] (upd (upd (upd H2 dx (.own x)) x (.ins C dx [])) d (.dK [(.inr key, g)])) (fun v H3 => v = .non ∧ Q (.ref x) H3) E0
section
variable {X : Cx} {k : Nat} {f C : Addr} {key : Str} {sp : Sp} {x : Str} {p pos : Pos} {kws : List Keyword} {tk : TA}
theorem pe_makeR (M : Mk X.K C f) (F : FnRest X.prog X.w X.K X.mg X.base k f key sp) (hr : Room (k + 1) X.A) (hg : Gl X x) (hm : X.mg x = some (.ref C)) (hkw : PK X kws tk)
    (hall : (backToKw pos (keywordEach kws X.env)).all (·.1.isSome) = true := by rfl) (hks : (backToKw pos (keywordEach kws X.env)).filterMap (·.1) = [key] := by rfl) (hdb : (x == ("__debug__" : Str)) = false := by decide)
    (hpl : ((backTo pos (starEach [] X.env)).any (·.1) || (backToKw pos (keywordEach kws X.env)).any (·.1.isNone)) = false := by rfl) :
    PE X (.Call (.Name x p) [] kws pos) (tMakeR C key sp tk) := by
  refine ⟨fun pins s σ H Q I h => ?_⟩
  refine wpAny_Call_Name_kw (ld_glob I hg hm ?_ hdb)
  refine PySem.W.callWith_KW0 (h₀ := X.base) I.ok.mod.kin M.kp hall ?_ hpl
  refine thn (hkw.run pos pins s σ H _ I h) fun ws s2 ⟨zs, H2, I2, rz, g, ez, q2⟩ => ⟨I2.kIn, ?_⟩
  rw [hks]
  subst ez
  obtain ⟨w, rfl, rw⟩ := vals1 rz
  have hq := q2 (s2.heap.objs.size + 1) s2.heap.objs.size (I2.hok.fresh (Nat.le_succ _)) (I2.hok.fresh (Nat.le_refl _)) (Nat.ne_of_lt (Nat.lt_succ_self _))
  have I3 := Inv.made (C := C) I2
  refine wpAny_call (make_map (f := f) I2.kIn M.makes M.init (beq_iff_eq.mp M.fn) (codeAny_mono (F.run _ X.stack _ _ (.ref (s2.heap.objs.size + 1)) w (.ref (s2.heap.objs.size + 1)) g _ E0 (hr.make C [] [(key, w)]) (I3.env0.make C [] [(key, w)]) rfl rw hq) fun r s' hq' => ?_))
  cases r with
  | error e => exact False.elim hq'
  | ok fl =>
    cases fl with
    | ret u =>
      obtain ⟨v, H', I4, rv, ev, q3⟩ := I3.after hq'
      subst ev
      exact ⟨rv, ⟨V.ref (s2.heap.objs.size + 1), H', I4, rfl, q3⟩⟩
    | next => exact False.elim hq'
    | brk => exact False.elim hq'
    | cont => exact False.elim hq'
end
end FR
set_option Elab.async false
set_option linter.all false
set_option maxRecDepth 100000
set_option maxHeartbeats 1000000
/-! Given; Program.__init__: its names -/
namespace FR
open PySem PySem.Spec PyProof.Rows L2
section
variable {P : Program} {w : World} {K : PySem.W.Frag} {mg : Str → Option Value} {base : Heap}
abbrev sGi : Stmt := inClass (top 35) 0
theorem scGi : FnScope ["self", "table"] ["self", "table"] (defScope sGi) := ⟨rfl, rfl, rfl, by decide +kernel, rfl, by decide +kernel, by decide +kernel⟩
/-- Given(v) is told by its instance -/
def spGi (C : Addr) : Sp := fun vs H Q _ => ∃ (p dx : Addr) (v : V), vs = [.ref p, v] ∧ H p = some (.ins C dx []) ∧ Q .non (upd H p (.ins C dx [("table", v)]))
theorem ok_gi {f C : Addr} {fd : FuncData} (F : Fun K "__init__" "Given.__init__" sGi f fd) (cl : Cls K C) (nt : NoAttr K C "table") : FnOk P w K mg base CX0 1 f fd ["self", "table"] (spGi C) := by
  refine F.ok scGi (fun vs H Q E h => ?_) (fun cdv A outer s H vs Q E hr h => ?_)
  · obtain ⟨p, dx, v, rfl, _⟩ := h
    rfl
  · obtain ⟨p, dx, v, rfl, hp, q⟩ := h
    refine ⟨_, pss_one (ps_fld (pv 0) (pv 1) rfl), ?_⟩
    exact ⟨_, rfl, _, rfl, p, C, dx, [], rfl, hp, cl, nt, by show 0 < 1000; decide, q⟩
abbrev sPi : Stmt := inClass (top 36) 0
abbrev NPi : List Str := ["self", "bodies", "given", "table", "placed", "name", "body", "path", "statement", "_"]
theorem scPi : FnScope NPi ["self", "bodies"] (defScope sPi) := ⟨rfl, rfl, rfl, by decide +kernel, rfl, by decide +kernel, by decide +kernel⟩
end
end FR
set_option Elab.async false
set_option linter.all false
set_option maxRecDepth 100000
set_option maxHeartbeats 1000000
/-! Program.__init__: its first six statements are read by these rules -/
namespace FR
open PySem PySem.Spec PyProof.Rows L2
section
variable {P : Program} {w : World} {K : PySem.W.Frag} {mg : Str → Option Value} {base : Heap}
structure TxtP (mg : Str → Option Value) : Prop where
  isi : mg "isinstance" = none
  sorted : mg "sorted" = none
  len : mg "len" = none
  tup : mg "tuple" = none
theorem pi_head {k : Nat} {f fp dT : Addr} {fdp : FuncData} (GP : FnOk P w K mg base CX0 6 fp fdp ["body", "path"] (spPls K 5)) (mP : mg "placed_statements" = some (.ref fp)) (kP : PySem.W.keepIn K (.ref fp) = true) {ds : List Value} (bP : Binds K fdp ["body", "path"] ds) (vP : Vals [V.ref dT] ds) {CG : Addr} {cdv : Value} {A : Around} {outer : List Env} {s : Shared} {H : Hp} {E : XK} (T : TxtP mg) (mG : mg "Given" = some (.ref CG)) (gA : Glo P w K mg base "_are_program" 12 ["bodies"] spAp) (hr : Room 12 (A.deeper (envOfC "Program.__init__" (defScope sPi) s.heap.objs.size f cdv))) :
    ∃ t, PSs (cxOf CX0 P w K mg base NPi "Program.__init__" (defScope sPi) f cdv A outer s H E).nox (defBody sPi) t := by
  have hu := hu_of hr
  exact ⟨_, (pss_cons (ps_set (i := 2) scPi.nd rfl (Or.inl rfl) (pe_dget1 hu (pv 1) pe_str ⟨by rfl, by rfl, by rfl, by rfl⟩))
      (pss_cons (ps_set (i := 3) scPi.nd rfl (Or.inr rfl) (pe_ifExp (pt_val (pe_callB call_isi (by rfl) T.isi PyProof.Rows.boot_isinstance (pa_cons (pv 2) (pa_cons (pe_glob (v := .ref CG) (by rfl) mG rfl) pa_nil)))) (pe_fld (pv 2) rfl) (pv 1)))
      (pss_cons (ps_if (pt_not (pt_val (pe_call gA.G (hr.mono (by decide)) (by rfl) gA.m gA.k gA.b .nil pass0 (pa_cons (pv 3) pa_nil)))) pss_never pss_nil)
      (pss_cons (ps_fld (pv 0) (pe_dc (X := (cxOf CX0 P w K mg base NPi "Program.__init__" (defScope sPi) f cdv A outer s H E).nox) (own := [("name", 5)]) (g := (gName 5)) (tt := tYes) rfl scPi.nd (pi_list (pe_callB (call_sortedD rfl) (by rfl) T.sorted (by decide +kernel) (pa_cons (pv 3) pa_nil))) (blkOk_by (N := NPi) (sc := defScope sPi) (by decide +kernel)) (fun _ _ _ _ _ => (pg_name (i := 5) scPi.nd rfl (.inl rfl))) (fun _ _ _ _ _ => pts_nil) (fun _ _ _ _ _ => (pv 5)) (fun _ _ _ _ _ => (pe_dget hu (pv 3) (pv 5) (fun _ _ => rfl)))) rfl)
      (pss_cons (ps_lock (ps_setLc2 (i := 4) (X := (cxOf CX0 P w K mg base NPi "Program.__init__" (defScope sPi) f cdv A outer s H E).nox) (own := [("name", 5), ("body", 6), ("path", 7), ("statement", 8)]) (vs1 := [7, 8]) (g := (gTup K 2 (gCons (gName 5) (gCons (gName 6) gNil)))) (tt := tYes) (g1 := (gTup K 2 (gCons (gName 7) (gCons (gName 8) gNil)))) (tt1 := tYes) rfl scPi.nd rfl rfl (by rfl) (pi_items (pe_fld (pv 0) rfl)) (blkOk_by (N := NPi) (sc := defScope sPi) (by decide +kernel)) (by decide) (fun _ _ _ _ _ => (pg_tupK (K := K) rfl rfl (pgs_cons (pg_name (i := 5) scPi.nd rfl (.inl rfl)) (pgs_cons (pg_name (i := 6) scPi.nd rfl (.inl rfl)) pgs_nil)))) (fun _ _ _ _ _ => pts_nil) (fun _ _ _ _ _ => (pi_listK (K := K) rfl (pe_call GP (hr.mono (by decide)) (by rfl) mP kP bP vP pass0 (pa_cons (pv 6) pa_nil)))) (fun _ _ _ _ _ => (pg_tupK (K := K) rfl rfl (pgs_cons (pg_name (i := 7) scPi.nd rfl (.inl rfl)) (pgs_cons (pg_name (i := 8) scPi.nd rfl (.inl rfl)) pgs_nil)))) (fun _ _ _ _ _ => pts_nil) (fun _ _ _ _ _ => (pe_tup (pa_cons (pv 5) (pa_cons (pv 7) (pa_cons (pv 8) pa_nil)))))))
      (pss_cons (ps_fld (pv 0) (pe_callB call_len_seq (by rfl) T.len PySem.boot_len (pa_cons (pv 4) pa_nil)) rfl)
      pss_never))))))⟩
end
end FR
set_option Elab.async false
set_option linter.all false
set_option maxRecDepth 100000
set_option maxHeartbeats 1000000
/-! sorted texts; a program's procedures in order -/
namespace FR
open PySem PySem.Spec PyProof.Rows L2
def leS (a b : Str) : Prop := ltCps b.cps.toList a.cps.toList = false
theorem leS_iff {a b : Str} : leS a b ↔ a.cps.toList ≤ b.cps.toList := by
  unfold leS
  rw [PyProof.Rows.ltCps_eq]
  simp
theorem leS_trans {a b c : Str} (h : leS a b) (g : leS b c) : leS a c := leS_iff.mpr (List.le_trans (leS_iff.mp h) (leS_iff.mp g))
theorem leS_antisymm {a b : Str} (h : leS a b) (g : leS b a) : a = b := by
  have e : a.cps.toList = b.cps.toList := List.le_antisymm (leS_iff.mp h) (leS_iff.mp g)
  obtain ⟨⟨x⟩⟩ := a
  obtain ⟨⟨y⟩⟩ := b
  have e : x = y := e
  rw [e]
theorem rising_pair : ∀ (p : Str) (l : List Str), risingS p l = true → (p :: l).Pairwise leS
  | p, [], _ => List.pairwise_singleton _ _
  | p, x :: r, h => by
    have h : (!ltCps x.cps.toList p.cps.toList && risingS x r) = true := h
    rw [Bool.and_eq_true] at h
    have a : leS p x := by
      unfold leS
      have := h.1
      simpa using this
    have b := rising_pair x r h.2
    refine List.pairwise_cons.mpr ⟨fun y hy => ?_, b⟩
    rcases List.mem_cons.mp hy with e | hy
    · rw [e]; exact a
    · exact leS_trans a ((List.pairwise_cons.mp b).1 y hy)
theorem sorted_pair : ∀ {l : List Str}, sortedS l = true → l.Pairwise leS
  | [], _ => List.Pairwise.nil
  | x :: r, h => rising_pair x r h
/-- two sorted rows of the same texts are one -/
theorem sorted_perm {l m : List Str} (p : l.Perm m) (h : sortedS l = true) (g : sortedS m = true) : l = m :=
  p.eq_of_pairwise (fun _ _ _ _ x y => leS_antisymm x y) (sorted_pair h) (sorted_pair g)
theorem nodup_perm {α : Type} [DecidableEq α] : ∀ {l m : List α}, l.Nodup → m.Nodup → (∀ z, z ∈ l ↔ z ∈ m) → l.Perm m
  | [], m, _, _, h => by
    cases m with
    | nil => exact .refl _
    | cons x m => exact absurd ((h x).mpr List.mem_cons_self) (by simp)
  | x :: l, m, hl, hm, h => by
    obtain ⟨h1, h2⟩ := List.nodup_cons.mp hl
    have hx : x ∈ m := (h x).mp List.mem_cons_self
    have pm := List.perm_cons_erase hx
    refine ((nodup_perm h2 (hm.erase x) fun z => ?_).cons x).trans pm.symm
    rw [hm.mem_erase_iff]
    constructor
    · intro hz
      exact ⟨fun e => h1 (e ▸ hz), (h z).mp (List.mem_cons_of_mem _ hz)⟩
    · rintro ⟨a, b⟩
      rcases List.mem_cons.mp ((h z).mpr b) with e | hz
      · exact absurd e a
      · exact hz
theorem sorted_nodup {l m : List Str} (a : l.Nodup) (b : m.Nodup) (h : ∀ z, z ∈ l ↔ z ∈ m) (x : sortedS l = true) (y : sortedS m = true) : l = m := sorted_perm (nodup_perm a b h) x y
abbrev names (p : Pg) : List Str := p.map (·.1)
/-- the body of a procedure -/
def bodyOf : Pg → Str → Bd
  | [], _ => []
  | x :: p, z => if x.1 = z then x.2 else bodyOf p z
theorem bodyOf_mem : ∀ {p : Pg}, (names p).Nodup → ∀ {x : Str × Bd}, x ∈ p → bodyOf p x.1 = x.2
  | y :: p, h, x, hx => by
    obtain ⟨h1, h2⟩ := List.nodup_cons.mp h
    unfold bodyOf
    rcases List.mem_cons.mp hx with e | hx
    · rw [e, if_pos rfl]
    · have ne : ¬ y.1 = x.1 := fun e => h1 (by show y.1 ∈ _; rw [e]; exact List.mem_map.mpr ⟨x, hx, rfl⟩)
      rw [if_neg ne]
      exact bodyOf_mem h2 hx
theorem pg_eta {p : Pg} (h : (names p).Nodup) : (names p).map (fun z => (z, bodyOf p z)) = p := by
  rw [List.map_map]
  conv => rhs; rw [← List.map_id p]
  exact List.map_congr_left fun x hx => by
    show (x.1, bodyOf p x.1) = x
    rw [bodyOf_mem h hx]
/-- the procedures in another order -/
theorem pg_perm {p : Pg} (h : (names p).Nodup) {ys : List Str} (hy : ys.Perm (names p)) : (ys.map fun z => (z, bodyOf p z)).Perm p ∧ names (ys.map fun z => (z, bodyOf p z)) = ys := by
  refine ⟨?_, by rw [names, List.map_map]; exact List.map_id _⟩
  have e := hy.map fun z => (z, bodyOf p z)
  rw [pg_eta h] at e
  exact e
theorem PrgK.keys {H : Hp} : ∀ {kvs : List (Key × V)} {p : Pg}, PrgK H kvs p → kvs.map (·.1) = (names p).map Sum.inr
  | [], [], _ => rfl
  | [], _ :: _, h => by simp [PrgK] at h
  | _ :: _, [], h => by simp [PrgK] at h
  | (k, v) :: kvs, y :: p, h => by
    obtain ⟨z, b, e1, e2, _⟩ := h.2 0 k v rfl
    cases e2
    have t : PrgK H kvs p := ⟨by have := h.1; simpa using this, fun i k v e => h.2 (i + 1) k v e⟩
    show k :: kvs.map (·.1) = Sum.inr z :: (names p).map Sum.inr
    rw [e1, t.keys]
theorem valV_get {kvs : List (Key × V)} {k : Key} {v : V} (h : valV kvs k = some v) : ∃ i : Nat, kvs[i]? = some (k, v) := by
  induction kvs with
  | nil => cases h
  | cons x r ih =>
    by_cases e : x.1 = k
    · rw [valV_pos e] at h
      refine ⟨0, ?_⟩
      rw [← e, ← Option.some.inj h]
      rfl
    · rw [valV_neg e] at h
      obtain ⟨i, hi⟩ := ih h
      exact ⟨i + 1, hi⟩
theorem PrgK.val {H : Hp} {kvs : List (Key × V)} {p : Pg} (h : PrgK H kvs p) (hn : (names p).Nodup) {z : Str} (hz : z ∈ names p) : ∃ v, valV kvs (Sum.inr z) = some v ∧ BdAt 5 H v (bodyOf p z) := by
  cases e : valV kvs (Sum.inr z) with
  | none =>
    have := valV_of (h.mem hz)
    rw [e] at this
    cases this
  | some v =>
    obtain ⟨i, hi⟩ := valV_get e
    obtain ⟨z', b, e1, e2, hb⟩ := h.2 i _ v hi
    cases e1
    have := bodyOf_mem hn (List.mem_of_getElem? e2)
    rw [this]
    exact ⟨v, rfl, hb⟩
theorem PrgK.none {H : Hp} {kvs : List (Key × V)} {p : Pg} (h : PrgK H kvs p) {z : Str} (hz : z ∉ names p) : valV kvs (Sum.inr z) = none := by
  cases e : valV kvs (Sum.inr z) with
  | none => rfl
  | some v =>
    obtain ⟨i, hi⟩ := valV_get e
    obtain ⟨z', b, e1, e2, hb⟩ := h.2 i _ v hi
    cases e1
    exact absurd (List.mem_map.mpr ⟨_, List.mem_of_getElem? e2, rfl⟩) hz
theorem PrgK.nil {H : Hp} : PrgK H [] [] := ⟨rfl, fun i k v e => by simp at e⟩
theorem PrgK.snoc {H : Hp} {kvs : List (Key × V)} {p : Pg} {z : Str} {v : V} {b : Bd} (h : PrgK H kvs p) (hv : BdAt 5 H v b) : PrgK H (kvs ++ [(.inr z, v)]) (p ++ [(z, b)]) := by
  refine ⟨by rw [List.length_append, List.length_append, h.1]; rfl, fun i k x e => ?_⟩
  by_cases c : i < kvs.length
  · rw [List.getElem?_append_left c] at e
    obtain ⟨z', b', e1, e2, e3⟩ := h.2 i k x e
    exact ⟨z', b', e1, by rw [List.getElem?_append_left (by rw [← h.1]; exact c)]; exact e2, e3⟩
  · have ei : i = kvs.length := by
      have := (List.getElem?_eq_some_iff.mp e).1
      rw [List.length_append] at this
      have : ([(Sum.inr z, v)] : List (Key × V)).length = 1 := rfl
      omega
    subst ei
    rw [List.getElem?_append_right (Nat.le_refl _), Nat.sub_self] at e
    cases e
    exact ⟨z, b, rfl, by rw [List.getElem?_append_right (by rw [h.1]; exact Nat.le_refl _), h.1, Nat.sub_self]; rfl, hv⟩
theorem Prg.perm {p q : Pg} (h : Prg p) (e : q.Perm p) : Prg q where
  len := by rw [e.length_eq]; exact h.len
  ok := fun x hx => h.ok x (e.mem_iff.mp hx)
  sz := by
    have : (q.map fun x => (placed 5 x.2 []).length).sum = (p.map fun x => (placed 5 x.2 []).length).sum := (e.map _).sum_nat
    rw [this]
    exact h.sz
  cl := fun x hx z hz => (e.map (·.1)).mem_iff.mpr (h.cl x (e.mem_iff.mp hx) z hz)
end FR
set_option Elab.async false
set_option linter.all false
set_option maxRecDepth 100000
set_option maxHeartbeats 1000000
/-! what a program's instance holds -/
namespace FR
open PySem PySem.Spec PyProof.Rows L2
/-- all statements, with the procedure and the path -/
def allP (p : Pg) : List (Str × PL1) := p.flatMap fun x => (placed 5 x.2 []).map fun y => (x.1, y)
def notes (l : List (Str × PL1)) : List Str := l.flatMap fun z => if z.2.2.word = ("note" : Str) then [z.2.2.nm] else []
def chosen (l : List (Str × PL1)) : List (Str × List Nat) := l.flatMap fun z => if z.2.2.word = ("choose" : Str) then [(z.1, z.2.1)] else []
def TrAt (K : PySem.W.Frag) (H : Hp) (z : V) (y : Str × PL1) : Prop := ∃ t a s, z = .ref t ∧ H t = some (.tup [.str y.1, .ref a, s]) ∧ SqT K H a (y.2.1.map fun i => V.int (i : Nat)) ∧ StAt 5 H s y.2.2
def ChAt (K : PySem.W.Frag) (H : Hp) (z : V) (y : Str × List Nat) : Prop := ∃ t a, z = .ref t ∧ H t = some (.tup [.str y.1, .ref a]) ∧ SqT K H a (y.2.map fun i => V.int (i : Nat))
def EvOk (es : List Str) (p : Pg) : Prop := sortedS es = true ∧ es.Nodup ∧ ∀ z, z ∈ es ↔ z ∈ notes (allP p)
/-- the instance at x is this program -/
def IsPg (K : PySem.W.Frag) (C : Addr) (H : Hp) (x : Addr) (p : Pg) : Prop := ∃ dx d e c kvs es cs, H x = some (.ins C dx [("_bodies", .ref d), ("_size", .int ((allP p).length : Nat)), ("_events", .ref e), ("_choices", .ref c)]) ∧ H d = some (.dK kvs) ∧ PrgK H kvs p ∧
  H e = some (.tup (es.map V.str)) ∧ EvOk es p ∧ H c = some (.tup cs) ∧ AG (fun z y => ChAt K H z y) cs (chosen (allP p))
/-- tuples stay -/
def Tk (H H' : Hp) : Prop := (∀ a xs, H a = some (.tup xs) → H' a = some (.tup xs)) ∧ ∀ a o xs, H a = some (.frz o (.tup xs)) → H' a = some (.frz o (.tup xs))
theorem Tk.trans {H H1 H2 : Hp} (a : Tk H H1) (b : Tk H1 H2) : Tk H H2 := ⟨fun q x e => b.1 q x (a.1 q x e), fun q o x e => b.2 q o x (a.2 q o x e)⟩
theorem Tk.refl (H : Hp) : Tk H H := ⟨fun _ _ e => e, fun _ _ _ e => e⟩
theorem Tk.same {H H' : Hp} (s : Same H H') : Tk H H' := ⟨fun a xs e => s a _ e, fun a o xs e => s a _ e⟩
theorem Tk.upd {H : Hp} {l : Addr} {u o : HO} (h : H l = some u) (n1 : ∀ xs, u ≠ .tup xs) (n2 : ∀ q xs, u ≠ .frz q (.tup xs)) : Tk H (L2.upd H l o) :=
  ⟨fun a xs e => by rw [upd_ne (fun z => by rw [z, h] at e; exact n1 xs (Option.some.inj e))]; exact e, fun a q xs e => by rw [upd_ne (fun z => by rw [z, h] at e; exact n2 q xs (Option.some.inj e))]; exact e⟩
theorem Tk.seqT {K : PySem.W.Frag} {H H' : Hp} (k : Tk H H') {a : Addr} {xs : List V} (h : SqT K H a xs) : SqT K H' a xs := by
  rcases h with (h | ⟨o, h⟩) | h
  · exact .inl (.inl (k.1 _ _ h))
  · exact .inl (.inr ⟨o, k.2 _ _ _ h⟩)
  · exact .inr h
theorem Tk.bd {n : Nat} {H H' : Hp} (k : Tk H H') {v : V} {b : Bd} (h : BdAt n H v b) : BdAt n H' v b := bdAt_keep k.1 n v b h
theorem Tk.st {n : Nat} {H H' : Hp} (k : Tk H H') {v : V} {x : St} (h : StAt n H v x) : StAt n H' v x := stW_imp k.1 (bdAt_keep k.1 n) h
theorem Tk.pg {H H' : Hp} (k : Tk H H') {kvs : List (Key × V)} {p : Pg} (h : PrgK H kvs p) : PrgK H' kvs p := h.keep k.1
theorem Tk.tr {K : PySem.W.Frag} {H H' : Hp} (k : Tk H H') {z : V} {y : Str × PL1} (h : TrAt K H z y) : TrAt K H' z y := by
  obtain ⟨t, a, s, e, ht, ha, hs⟩ := h
  exact ⟨t, a, s, e, k.1 _ _ ht, k.seqT ha, k.st hs⟩
theorem Tk.ch {K : PySem.W.Frag} {H H' : Hp} (k : Tk H H') {z : V} {y : Str × List Nat} (h : ChAt K H z y) : ChAt K H' z y := by
  obtain ⟨t, a, e, ht, ha⟩ := h
  exact ⟨t, a, e, k.1 _ _ ht, k.seqT ha⟩
theorem Tk.trs {K : PySem.W.Frag} {H H' : Hp} (k : Tk H H') {zs : List V} {ys : List (Str × PL1)} (h : AG (fun z y => TrAt K H z y) zs ys) : AG (fun z y => TrAt K H' z y) zs ys := h.imp fun _ _ x => k.tr x
theorem Tk.chs {K : PySem.W.Frag} {H H' : Hp} (k : Tk H H') {zs : List V} {ys : List (Str × List Nat)} (h : AG (fun z y => ChAt K H z y) zs ys) : AG (fun z y => ChAt K H' z y) zs ys := h.imp fun _ _ x => k.ch x
/-- all stays but what stands at x -/
def But (x : Addr) (H H' : Hp) : Prop := ∀ a o, a ≠ x → H a = some o → H' a = some o
theorem But.trans {x : Addr} {H H1 H2 : Hp} (a : But x H H1) (b : But x H1 H2) : But x H H2 := fun q o n e => b q o n (a q o n e)
theorem But.same {x : Addr} {H H' : Hp} (s : Same H H') : But x H H' := fun a o _ e => s a o e
theorem But.upd {x : Addr} {H : Hp} {o : HO} : But x H (L2.upd H x o) := fun a u n e => by rw [upd_ne n]; exact e
theorem But.tk {x : Addr} {H H' : Hp} (s : But x H H') {u : HO} (h : H x = some u) (n1 : ∀ xs, u ≠ .tup xs) (n2 : ∀ q xs, u ≠ .frz q (.tup xs)) : Tk H H' :=
  ⟨fun a xs e => s a _ (fun z => by rw [z, h] at e; exact n1 xs (Option.some.inj e)) e, fun a q xs e => s a _ (fun z => by rw [z, h] at e; exact n2 q xs (Option.some.inj e)) e⟩
theorem IsPg.keep {K : PySem.W.Frag} {C : Addr} {H H' : Hp} {x : Addr} {p : Pg} (h : IsPg K C H x p) (k : Tk H H') (h1 : ∀ a C dx fs, H a = some (.ins C dx fs) → H' a = some (.ins C dx fs)) (h2 : ∀ a kvs, H a = some (.dK kvs) → H' a = some (.dK kvs)) : IsPg K C H' x p := by
  obtain ⟨dx, d, e, c, kvs, es, cs, a1, a2, a3, a4, a5, a6, a7⟩ := h
  exact ⟨dx, d, e, c, kvs, es, cs, h1 _ _ _ _ a1, h2 _ _ a2, k.pg a3, k.1 _ _ a4, a5, k.1 _ _ a6, k.chs a7⟩
theorem IsPg.same {K : PySem.W.Frag} {C : Addr} {H H' : Hp} {x : Addr} {p : Pg} (h : IsPg K C H x p) (s : Same H H') : IsPg K C H' x p := h.keep (Tk.same s) (fun a _ _ _ e => s a _ e) fun a _ e => s a _ e
theorem allP_len (p : Pg) : (allP p).length = (p.map fun x => (placed 5 x.2 []).length).sum := by
  unfold allP
  rw [List.length_flatMap]
  congr 1
  exact List.map_congr_left fun x _ => by rw [List.length_map]
theorem notes_snoc (l : List (Str × PL1)) (y : Str × PL1) : notes (l ++ [y]) = notes l ++ (if y.2.2.word = ("note" : Str) then [y.2.2.nm] else []) := by
  unfold notes
  rw [List.flatMap_append, List.flatMap_cons, List.flatMap_nil, List.append_nil]
theorem chosen_snoc (l : List (Str × PL1)) (y : Str × PL1) : chosen (l ++ [y]) = chosen l ++ (if y.2.2.word = ("choose" : Str) then [(y.1, y.2.1)] else []) := by
  unfold chosen
  rw [List.flatMap_append, List.flatMap_cons, List.flatMap_nil, List.append_nil]
theorem notes_len (l : List (Str × PL1)) : (notes l).length ≤ l.length := by
  induction l with
  | nil => exact Nat.le_refl _
  | cons y l ih =>
    have e : notes (y :: l) = (if y.2.2.word = ("note" : Str) then [y.2.2.nm] else []) ++ notes l := List.flatMap_cons
    rw [e, List.length_append, List.length_cons]
    split
    · show 1 + _ ≤ _; omega
    · show 0 + _ ≤ _; omega
theorem chosen_len (l : List (Str × PL1)) : (chosen l).length ≤ l.length := by
  induction l with
  | nil => exact Nat.le_refl _
  | cons y l ih =>
    have e : chosen (y :: l) = (if y.2.2.word = ("choose" : Str) then [(y.1, y.2.1)] else []) ++ chosen l := List.flatMap_cons
    rw [e, List.length_append, List.length_cons]
    split
    · show 1 + _ ≤ _; omega
    · show 0 + _ ≤ _; omega
theorem note_at {n : Nat} {H : Hp} {v : V} : ∀ {x : St}, x.word = ("note" : Str) → StAt n H v x → ∃ a, v = .ref a ∧ H a = some (.tup [.str "note", .str x.nm])
  | .note s, _, ⟨a, e, h⟩ => ⟨a, e, h⟩
  | .call s, h, _ => absurd h (by show ¬ (("call" : Str) = "note"); decide +kernel)
  | .stay, h, _ => absurd h (by decide +kernel)
  | .again _ _ _, h, _ => absurd h (by show ¬ (("again" : Str) = "note"); decide +kernel)
  | .choose _, h, _ => absurd h (by show ¬ (("choose" : Str) = "note"); decide +kernel)
  | .toss _, h, _ => absurd h (by show ¬ (("toss" : Str) = "note"); decide +kernel)
theorem dec_str {a b : Str} : decide (V.str a = V.str b) = decide (a = b) := by
  by_cases h : a = b
  · rw [h, decide_eq_true rfl, decide_eq_true rfl]
  · rw [decide_eq_false h, decide_eq_false fun e => h (V.str.inj e)]
end FR
set_option Elab.async false
set_option linter.all false
set_option maxRecDepth 100000
set_option maxHeartbeats 1000000
/-! sets of texts that can be walked: what one holds, and an add -/
namespace SX
open PySem PySem.Spec PyProof.Rows L2 PySem.Froz
noncomputable section
def txOf : Value → Str
  | .str x _ => x
  | _ => Str.empty
theorem strs_of : ∀ {vs : List Value}, (∀ v ∈ vs, ∃ x u, v = Value.str x u) → StrsAre vs (vs.map txOf)
  | [], _ => .nil
  | v :: vs, h => by
    obtain ⟨x, u, rfl⟩ := h v List.mem_cons_self
    exact .cons x u (strs_of fun y hy => h y (List.mem_cons_of_mem _ hy))
/-- a text more -/
def ins (k : Str) (l : List Str) : List Str := if k ∈ l then l else k :: l
theorem mem_ins {k x : Str} {l : List Str} : x ∈ ins k l ↔ x = k ∨ x ∈ l := by
  unfold ins
  by_cases h : k ∈ l
  · rw [if_pos h]
    exact ⟨.inr, fun z => z.elim (fun e => e ▸ h) id⟩
  · rw [if_neg h, List.mem_cons]
theorem nodup_ins {k : Str} {l : List Str} (h : l.Nodup) : (ins k l).Nodup := by
  unfold ins
  by_cases c : k ∈ l
  · rw [if_pos c]; exact h
  · rw [if_neg c]; exact List.nodup_cons.mpr ⟨c, h⟩
theorem len_ins (k : Str) (l : List Str) : (ins k l).length ≤ l.length + 1 := by
  unfold ins
  by_cases c : k ∈ l
  · rw [if_pos c]; omega
  · rw [if_neg c]; exact Nat.le_refl _
section
variable {P : Program} {w : World}
/-- a set's payload: the texts l, each once; its table rises -/
structure Pay (P : Program) (w : World) (D : SD) (l : List Str) : Prop where
  ok : TxOk P w D l
  nd : l.Nodup
  few : l.length < scanBound
  pm : (D.1.toList.map fun e => txOf e.2).Perm l
  ris : Ris D.2.2.place.toList
  led : w.params.followText "set-order" = true ∨ D.2.2.led = true
theorem Pay.strs {D : SD} {l : List Str} (F : Pay P w D l) : ∀ v ∈ D.1.toList.map (·.2), ∃ x u, v = Value.str x u := fun v hv => by
  obtain ⟨e, he, rfl⟩ := List.mem_map.mp hv
  obtain ⟨⟨k, hk, _⟩, _⟩ := F.ok.el e he
  obtain ⟨t, z⟩ := Value.isStrOf_shape (x := k) (v := e.2) hk
  exact ⟨k, t, z⟩
theorem tail_facts (ep : Nat) (es1 : Array (Int × Value)) (t2 : SetTable) (d : Bool) (r : Ris t2.place.toList) : (tailTx ep es1 t2 d).1.toList.Perm es1.toList ∧ Ris (tailTx ep es1 t2 d).2.2.place.toList ∧ (tailTx ep es1 t2 d).2.2.led = t2.led := by
  unfold tailTx
  split
  · exact ⟨relayAll_perm _ _ _, relayAll_ris _ _ _, relayAll_led _ _ _⟩
  · exact ⟨List.Perm.refl _, r, rfl⟩
theorem add_facts (h : Int) (v : Value) (D : SD) (r : Ris D.2.2.place.toList) : (addTx h v D).1.toList.Perm ((h, v) :: D.1.toList) ∧ Ris (addTx h v D).2.2.place.toList ∧ (addTx h v D).2.2.led = D.2.2.led := by
  obtain ⟨es, ep, t⟩ := D
  have p1 := layNew_perm t es h v
  have r1 := layNew_ris t es h v r
  have l1 := layNew_led t es h v
  rw [Array.toList_push] at p1
  unfold addTx
  dsimp only
  generalize layNew t es h v = Z at p1 r1 l1 ⊢
  have z : ∀ t2 : SetTable, Ris t2.place.toList → t2.led = t.led → (tailTx ep Z.1 t2 Z.2.2.1).1.toList.Perm ((h, v) :: es.toList) ∧ Ris (tailTx ep Z.1 t2 Z.2.2.1).2.2.place.toList ∧ (tailTx ep Z.1 t2 Z.2.2.1).2.2.led = t.led := fun t2 r2 l2 => by
    obtain ⟨a, b, c⟩ := tail_facts ep Z.1 t2 Z.2.2.1 r2
    exact ⟨a.trans (p1.trans (List.perm_append_singleton _ _)), b, c.trans l2⟩
  by_cases c : Z.2.1.plain = true
  · rw [if_pos c]; exact z _ r1 l1
  · rw [if_neg c]; exact z _ r1 l1
theorem Pay.add {D : SD} {l : List Str} {k : Str} (u : Tok) (F : Pay P w D l) (hk : k ∉ l) (room : l.length + 1 < scanBound) : Pay P w (addTx (hashStr w k) (.str k u) D) (k :: l) where
  ok := add_ok u F.ok
  nd := List.nodup_cons.mpr ⟨hk, F.nd⟩
  few := room
  pm := ((add_facts (hashStr w k) (.str k u) D F.ris).1.map fun e => txOf e.2).trans (List.Perm.cons _ F.pm)
  ris := (add_facts _ _ _ F.ris).2.1
  led := F.led.imp id fun z => by rw [(add_facts _ _ _ F.ris).2.2]; exact z
/-- a new set's payload -/
def new0 (w : World) : SD := (#[], 0, .fresh 0 0 (!w.params.followText "set-order"))
theorem pay_new : Pay P w (new0 w) [] where
  ok := TxOk.nil rfl
  nd := List.nodup_nil
  few := by decide
  pm := List.Perm.refl _
  ris := List.Pairwise.nil
  led := by
    show _ ∨ (!w.params.followText "set-order") = true
    cases w.params.followText "set-order"
    · exact .inr rfl
    · exact .inl rfl
/-- at a stands the set of the texts l -/
def SetT (P : Program) (w : World) (h : Heap) (a : Addr) (l : List Str) : Prop := ∃ D, h.get? a = some (sObj "set" D) ∧ Pay P w D l
variable {h h' : Heap} {a : Addr} {l : List Str}
theorem SetT.at (R : SetT P w h a l) (k : ∀ o, h.get? a = some o → h'.get? a = some o) : SetT P w h' a l := by
  obtain ⟨D, e, p⟩ := R
  exact ⟨D, k _ e, p⟩
theorem SetT.ty {s : Shared} (R : SetT P w s.heap a l) : s.TypeIs (.ref a) "set" := by
  obtain ⟨D, e, p⟩ := R
  exact ⟨_, e, rfl⟩
end
section
variable {P : Program} {w : World} {A : Around} {E : Value → Shared → Prop} {s : Shared} {a : Addr} {l : List Str} {k : Str} {u : Tok}
/-- the add of a text with its hash, there or not -/
theorem put_hashed {Q : Bool → Shared → Prop} (R : SetT P w s.heap a l) (room : l.length + 1 < scanBound)
    (hQ : ∀ b h', Heap.SameBut a s.heap h' → SetT P w h' a (ins k l) → Q b { s with heap := h' }) : wpAny (model P w) A (setAddHashed a (.str k u) (hashStr w k)) Q E s := by
  obtain ⟨D, ho, F⟩ := R
  by_cases hk : k ∈ l
  · have hk' : ins k l = l := if_pos hk
    obtain ⟨es, ep, t⟩ := D
    obtain ⟨e0, he0, q0⟩ := (F.ok.mem k).mp hk
    have sz : es.size < scanBound := by
      rw [show es.size = l.length from F.ok.sz]
      exact F.few
    unfold setAddHashed setAddHashedIn
    refine wpAny_holding (wpAny_bind (wpAny_setState_of ho (t := t) (es := es) (ep := ep) rfl F.ok.fit ?_))
    dsimp only
    rw [byScan_of (knd := strKind P w) (x := Value.str k u) rfl sz F.ok.el, if_pos rfl]
    unfold setAddByScan
    refine wpAny_bind (wpAny_bind (wpAny_rule (wpAny_bind (wpAny_setScan_of (knd := strKind P w) (k := k) (is_str k u) ho (t := t) (es := es) (ep := ep) rfl F.ok.fit F.ok.el ?_))))
    cases hr : List.findIdx? (fun e => (strKind P w).is k e.2) es.toList with
    | none =>
      have c := List.findIdx?_eq_none_iff.mp hr e0 he0
      rw [q0] at c
      cases c
    | some j =>
      dsimp only
      exact wpAny_pure (wpAny_pure (hQ _ s.heap (Heap.SameBut.refl a _) ⟨_, ho, hk'.symm ▸ F⟩))
  · have hk' : ins k l = k :: l := if_neg hk
    refine add_x (l := l) ho F.ok hk room (hQ _ _ (Heap.SameBut.update _ _ _) ⟨_, get_upd _ ho rfl, ?_⟩)
    rw [hk']
    exact F.add u hk room
/-- x.add(k) -/
theorem put_call {Q : Value → Shared → Prop} (R : SetT P w s.heap a l) (room : l.length + 1 < scanBound)
    (hQ : ∀ h', Heap.SameBut a s.heap h' → SetT P w h' a (ins k l) → Q .none { s with heap := h', toks := s.toks + 1 }) : wpAny (model P w) A (call (.builtin "set.add") [.ref a, .str k u]) Q E s := by
  refine wpAny_call_entry PySem.F.slot_set_add R.ty PySem.F.entry_set_add ?_ (PySem.F.args_set_add_2 _ _)
  unfold Builtin.«set.add» Builtin.Frozenset.oneOther
  simp only [List.isEmpty_nil, bind_assoc]
  unfold Builtin.Frozenset.addrOf setAdd
  refine wpAny_bind (wpAny_pure ?_)
  try dsimp only
  refine wpAny_bind (wpAny_pure ?_)
  try dsimp only
  refine wpAny_bind (wpAny_holding (wpAny_bind ((strKind P w).pyHash (k := k) (is_str k u) ?_)))
  exact put_hashed (s := { s with toks := s.toks + 1 }) R room fun b h' sb r => wpAny_pure ⟨_, rfl, hQ h' sb r⟩
end
/-! ### as a tracked thing -/
/-- the set of the texts l at a -/
def SetTO (P : Program) (w : World) (a : Addr) (l : List Str) : HO := .ext fun h => SetT P w h a l
theorem setTO_new {P : Program} {w : World} {H : Hp} {h : Heap} {a : Addr} {l : List Str} (R : SetT P w h a l) : ObjOk P w H h a (SetTO P w a l) := by
  have ⟨D, ho, _⟩ := R
  exact ⟨R, ⟨_, ho⟩, fun h1 h2 p k => SetT.at p k⟩
section
variable {X : Cx} {pins : List (Addr × Obj)} {σ : L2.St} {H : Hp} {s : Shared}
theorem setTO_get {a : Addr} {l : List Str} (I : Inv X pins σ H s) (ha : H a = some (SetTO X.prog X.w a l)) : SetT X.prog X.w s.heap a l := (I.hok a _ ha).1
theorem put_ok {E : Value → Shared → Prop} {D : Addr} {l : List Str} {k : Str} {u : Tok} {Q : Value → Shared → Prop} (I : Inv X pins σ H s) (hD : H D = some (SetTO X.prog X.w D l)) (room : l.length + 1 < scanBound)
    (h : ∀ s', Inv X pins σ (upd H D (SetTO X.prog X.w D (ins k l))) s' → Q .none s') : wpAny (model X.prog X.w) X.A (call (.builtin "set.add") [.ref D, .str k u]) Q E s :=
  put_call (setTO_get I hD) room fun h' sb new => by
    have he : ∃ q, h'.get? D = some q := let ⟨_, e, _⟩ := new; ⟨_, e⟩
    exact h _ (I.write (e := D) (t' := s.toks + 1) (by rw [hD]; trivial) (.inl rfl) (fun b q hb hq => (sb.2 b hb).trans hq) he (setTO_new new))
end
end
end SX
set_option Elab.async false
set_option linter.all false
set_option maxRecDepth 100000
set_option maxHeartbeats 1000000
/-! sorted of a set of texts; set(texts); {e for ..} of texts -/
namespace SX
open PySem PySem.Spec PyProof.Rows L2 PySem.Froz
noncomputable section
section
variable {X : Cx}
/-- sorted(s), s a set of fewer than 64 texts -/
def rSortedTx (P : Program) (w : World) : List V → Hp → VK → Prop := fun vs H Q => ∃ (a : Addr) (l : List Str), vs = [V.ref a] ∧ H a = some (SetTO P w a l) ∧ l.length < 64 ∧
  ∀ ys p, ys.Perm l → sortedS ys = true → ys.Nodup → H p = none → Q (.ref p) (upd H p (.lst (ys.map V.str)))
theorem cr_sortedTx (hc : X.calm = true) : CallR X (.builtin "sorted") (rSortedTx X.prog X.w) := by
  intro pins s σ H vs us Q I r h
  obtain ⟨a, l, rfl, ha, h64, q⟩ := h
  obtain ⟨⟨es, ep, t⟩, ho, F⟩ := setTO_get I ha
  rw [Vals.ref1 r]
  have sz : es.size = l.length := F.ok.sz
  have szb : es.size < scanBound := by rw [sz]; exact F.few
  refine Calls.call_function_entry PyProof.Rows.kind_sorted PyProof.Rows.plain_sorted PyProof.Rows.entry_sorted (PyProof.Rows.args_sorted1 _) ?_
  unfold Builtin.«sorted»
  refine wpAny_bind (m := checkCount "sorted" 1 1 _) (wpAny_pure (wpAny_bind (collect_set (A := X.A.in1) (I.ok.hd hc) ⟨_, ho, rfl, rfl⟩ F.ok.fit szb F.ris F.led fun s1 out k1 hz g1 o1 pm => ?_)))
  have I1 : Inv X pins σ H s1 := I.call' (ch := []) o1 (Un.kept k1) (I.hok.kept k1) (by rw [g1]; exact I.bare) (fun _ z => nomatch z)
  have ol : out.length = l.length := by rw [pm.length_eq, List.length_map, Array.length_toList, sz]
  have S : StrsAre out (out.map txOf) := strs_of fun v hv => F.strs v (pm.mem_iff.mp hv)
  have pl : (out.map txOf).Perm l := by
    refine (pm.map txOf).trans ?_
    rw [List.map_map]
    exact F.pm
  have big : out.length < 64 := by rw [ol]; exact h64
  refine wpAny_bind (wpAny_newList ?_ (by rw [sizeLine_eq]; omega))
  have oL : (s1.heap.push (seqObj "list" out.toArray 0)).get? s1.heap.objs.size = some (seqObj "list" out.toArray 0) := Heap.get?_push_size _ rfl
  refine wpAny_bind (wpAny_holding (wpAny_call_entry PyProof.Rows.slot_list_sort ⟨_, oL, rfl⟩ PyProof.Rows.entry_list_sort
    (list_sort_treeK strKind_oneLt (s := { s1 with heap := s1.heap.push (seqObj "list" out.toArray 0) }) oL S.keysOf (fun v₁ v₂ rest e => keyKind_strs (by rw [← e]; exact S)) big fun st' hp hs => ⟨_, rfl, ?_⟩)
    (PyProof.Rows.args_list_sort _)))
  obtain ⟨ys, g1', g2, g3⟩ := sorted_out_str S hp hs
  obtain ⟨e', he'⟩ := PyProof.Rows.sortedHeap_at (vs := out) (out := (arrOf st').map (·.2)) oL
  have hlen : (ys.map V.str).length ≤ sizeLine := by
    rw [List.length_map, g2.length_eq, List.length_map, sizeLine_eq]; omega
  have py : ys.Perm l := g2.trans pl
  refine wpAny_pure ⟨_, rfl, .ref s1.heap.objs.size, upd H s1.heap.objs.size (.lst (ys.map V.str)), I1.laid (t' := s1.toks) (fun b u e => ?_) (Nat.le_refl _)
    (show ObjOk X.prog X.w _ _ _ (.lst (ys.map V.str)) from ⟨hlen, ((arrOf st').map (·.2)).toList, e', vals_of_strs g1', by rw [Array.toArray_toList]; exact he'⟩), rfl, q ys _ py g3 (py.nodup_iff.mpr F.nd) (I1.hok.fresh (Nat.le_refl _))⟩
  have hb : b < s1.heap.objs.size := Heap.lt_size e
  rw [PyProof.Rows.sortedHeap_old (Nat.ne_of_lt hb) (by rw [size_push']; exact Nat.lt_succ_of_lt hb)]
  exact Heap.get?_push_of_some _ e
end
/-! ### set(texts) -/
/-- the texts met, each once -/
def gather (xs : List Str) : List Str := xs.foldl (fun l k => ins k l) []
theorem gather_snoc (xs : List Str) (k : Str) : gather (xs ++ [k]) = ins k (gather xs) := by
  unfold gather
  rw [List.foldl_append]
  rfl
theorem mem_gather_go {x : Str} : ∀ (xs l : List Str), x ∈ xs.foldl (fun l k => ins k l) l ↔ x ∈ xs ∨ x ∈ l
  | [], l => by simp
  | k :: xs, l => by
    show x ∈ xs.foldl (fun l k => ins k l) (ins k l) ↔ _
    rw [mem_gather_go xs (ins k l), mem_ins, List.mem_cons]
    exact ⟨fun h => h.elim (fun z => .inl (.inr z)) fun h => h.elim (fun z => .inl (.inl z)) .inr, fun h => h.elim (fun h => h.elim (fun z => .inr (.inl z)) .inl) fun z => .inr (.inr z)⟩
theorem mem_gather {x : Str} {xs : List Str} : x ∈ gather xs ↔ x ∈ xs := by
  unfold gather
  rw [mem_gather_go]
  simp
theorem len_gather_go : ∀ (xs l : List Str), (xs.foldl (fun l k => ins k l) l).length ≤ l.length + xs.length
  | [], l => Nat.le_refl _
  | k :: xs, l => by
    have h1 := len_gather_go xs (ins k l)
    have h2 := len_ins k l
    show (xs.foldl (fun l k => ins k l) (ins k l)).length ≤ l.length + (xs.length + 1)
    omega
theorem len_gather (xs : List Str) : (gather xs).length ≤ xs.length := by
  have := len_gather_go xs []
  simpa [gather] using this
theorem nodup_gather_go : ∀ (xs l : List Str), l.Nodup → (xs.foldl (fun l k => ins k l) l).Nodup
  | [], _, h => h
  | k :: xs, l, h => nodup_gather_go xs (ins k l) (nodup_ins h)
theorem nodup_gather (xs : List Str) : (gather xs).Nodup := nodup_gather_go xs [] List.nodup_nil
/-- all that stood stands, and the rest of the machine is as it was -/
structure Old (s0 s : Shared) : Prop where
  heap : ∀ b o, s0.heap.get? b = some o → s.heap.get? b = some o
  gens : s.gens = s0.gens
  drawn : s.drawn = s0.drawn
  os : s.os = s0.os
section
variable {P : Program} {w : World} {A : Around} {E : Value → Shared → Prop} {s : Shared}
theorem update_loop {I S : Addr} {fp wr : List Addr} {G : Array GenState → Array GenState → Prop} {n : Nat} {Pv : Nat → Value → Prop} {St : Nat → Shared → Prop} {R : Result → Shared → Prop} (W : WalksS P w A.in1 I fp wr G n Pv St) (hG : ∀ x y, G x y → y = x) (hS : S ∉ fp) {xs : List Str} (hn : n = xs.length) (hb : n < scanBound)
    (hv : ∀ i v, Pv i v → ∃ x u, xs[i]? = some x ∧ v = Value.str x u) {s0 : Shared} (f1 : s0.heap.get? S = none) (f2 : ∀ b ∈ wr, s0.heap.get? b = none) (hR : ∀ s', Old s0 s' → SetT P w s'.heap S (gather xs) → R (.ok (.ret .none)) s') :
    ∀ (m i : Nat) (s : Shared), n - i = m → i ≤ n → St i s → Old s0 s → SetT P w s.heap S (gather (xs.take i)) → codeAny (model P w) A (.builtin "set.update.loop" ⟨[.ref S, .ref I], []⟩) R s := by
  have old : ∀ {s s' : Shared}, Moved wr G s s' → Old s0 s → Old s0 s' := fun m o => ⟨fun b u e => m.heap b u (fun z => by rw [f2 b z] at e; cases e) (o.heap b u e), (hG _ _ m.gens).trans o.gens, m.drawn.trans o.drawn, m.os.trans o.os⟩
  have stays : ∀ {s s' : Shared} {l : List Str}, Moved wr G s s' → SetT P w s.heap S l → SetT P w s'.heap S l := fun m r => r.at fun o e => m.heap S o (fun z => hS (W.sub _ z)) e
  intro m
  induction m with
  | zero =>
    intro i s hm hi st o r
    have e : i = n := by omega
    rw [e] at st r
    refine codeAny_builtin PyProof.Rows.F.entry_set_update_loop ?_
    rw [Around.under_plainId PyProof.Rows.F.plain_set_update_loop _]
    show wpAny _ A.in1 (pyNext (.ref I) >>= _) _ _ s
    refine wpAny_bind (W.done s _ _ st fun s' mv => wpAny_pure (hR s' (old mv o) ?_))
    rw [hn, List.take_length] at r
    exact stays mv r
  | succ m ih =>
    intro i s hm hi st o r
    have lt : i < n := by omega
    refine codeAny_builtin PyProof.Rows.F.entry_set_update_loop ?_
    rw [Around.under_plainId PyProof.Rows.F.plain_set_update_loop _]
    show wpAny _ A.in1 (pyNext (.ref I) >>= _) _ _ s
    refine wpAny_bind (W.item i s _ _ lt st fun v s' hP st' mv => ?_)
    obtain ⟨x, u, hx, rfl⟩ := hv i v hP
    have r' := stays mv r
    have o' := old mv o
    have tk : xs.take (i + 1) = xs.take i ++ [x] := take_next hx
    have room : (gather (xs.take i)).length + 1 < scanBound + 1 := by
      have h1 := len_gather (xs.take i)
      have h2 : (xs.take i).length ≤ i := by rw [List.length_take]; omega
      omega
    show wpAny _ A.in1 (holding [Value.str x u] (setAdd S (.str x u)) >>= _) _ _ s'
    refine wpAny_bind (wpAny_holding ?_)
    unfold setAdd
    refine wpAny_holding (wpAny_bind ((strKind P w).pyHash (k := x) (is_str x u) (put_hashed (s := { s' with toks := s'.toks + 1 }) r' ?_ fun b h' sb r2 => ?_)))
    · have h1 := len_gather (xs.take i)
      have h2 : (xs.take i).length ≤ i := by rw [List.length_take]; omega
      omega
    · rw [← gather_snoc, ← tk] at r2
      refine wpAny_pure ⟨plainId_quiet PyProof.Rows.F.plain_set_update_loop _, ih (i + 1) _ (by omega) lt (W.frame _ s' _ _ st' (Nat.le_add_right _ _) fun b hb o e => ?_) ⟨fun b u e => ?_, o'.gens, o'.drawn, o'.os⟩ r2⟩
      · exact (sb.2 b (fun z => hS (z ▸ hb))).trans e
      · exact (sb.2 b (fun z => by rw [z, f1] at e; cases e)).trans (o'.heap b u e)
end
abbrev sNew (w : World) : Obj := sObj "set" (new0 w)
theorem set_new (h : Heap) {P : Program} {w : World} {h' : Heap} (k : ∀ b o, (h.push (sNew w)).get? b = some o → h'.get? b = some o) : SetT P w h' h.objs.size [] := ⟨_, k _ _ (Heap.get?_push_size _ rfl), pay_new⟩
section
variable {P : Program} {w : World} {A : Around} {E : Value → Shared → Prop} {s : Shared}
theorem none_up {h : Heap} {b : Addr} (z : h.objs.size ≤ b) : h.get? b = none := by
  cases q : h.get? b with
  | none => rfl
  | some o => exact absurd (Nat.lt_of_lt_of_le (Heap.lt_size q) z) (Nat.lt_irrefl _)
theorem strs_get {xs : List Str} : ∀ {us : List Value}, StrsAre us xs → ∀ (i : Nat) (v : Value), us[i]? = some v → ∃ x u, xs[i]? = some x ∧ v = Value.str x u := by
  intro us h
  induction h with
  | nil => intro i v e; simp at e
  | cons y t r ih =>
    intro i v e
    cases i with
    | zero => exact ⟨y, t, rfl, (Option.some.inj e).symm⟩
    | succ i => exact ih i v e
theorem strs_len {us : List Value} {xs : List Str} (h : StrsAre us xs) : us.length = xs.length := by
  induction h with
  | nil => rfl
  | cons y t r ih => simp [ih]
set_option maxHeartbeats 4000000 in
theorem call_setTx {l : Addr} {items : Array Value} {xs : List Str} {Q : Value → Shared → Prop} (hh : A.handled = none) (hl : s.heap.IsList l items) (hx : StrsAre items.toList xs) (hb : xs.length < scanBound)
    (hQ : ∀ s', Old s s' → SetT P w s'.heap s.heap.objs.size (gather xs) → Q (.ref s.heap.objs.size) s') : wpAny (model P w) A (call (.type "set") [.ref l]) Q E s := by
  have isz : items.size = xs.length := by rw [← Array.length_toList]; exact strs_len hx
  obtain ⟨c, tl, hmro⟩ := PySem.F.called_set.mro
  have hm := PySem.F.called_set.made
  have hs := PySem.F.called_set.sub
  refine wpAny_call (codeAny_of_tree ?_)
  show wpAny _ _ (callAny (.type "set") _) _ _ _
  refine wpAny_pure ⟨Code.quiet_builtin _ (by decide +kernel), codeAny_builtin PySem.F.entry_type_call ?_⟩
  rw [Around.under_plain (weight_type_call_type "set" [.ref l] []) rfl]
  have t1 := PySem.F.called_set.notType
  have t2 := PySem.F.called_set.canCreate
  have ct := PySem.F.typeCall_set_1 (.ref l)
  repeat (any_goals (first | assumption | wp_step))
  refine codeAny_mono (code_set_led1 (.ref l) (E := E) (Q₁ := fun obj s₁ => obj = .ref s.heap.objs.size ∧ s₁ = { s with heap := s.heap.push (sNew w) }) ⟨rfl, rfl⟩) fun r s₁ hr => ?_
  cases r with
  | error e => exact hr
  | ok fl => cases fl with
    | ret obj =>
      obtain ⟨rfl, rfl⟩ := hr
      have ob : (s.heap.push (sNew w)).get? s.heap.objs.size = some (sNew w) := Heap.get?_push_size _ rfl
      have ty : Shared.TypeIs { s with heap := s.heap.push (sNew w) } (.ref s.heap.objs.size) "set" := ⟨_, ob, rfl⟩
      have li := PySem.F.called_set.init.lookup
      have bi := PySem.F.called_set.init.bind (.ref s.heap.objs.size)
      repeat (any_goals (first | assumption | wp_step))
      refine codeAny_mono (codeAny_call_builtin (R := wants (fun r s₂ => r = .none ∧ Old s s₂ ∧ SetT P w s₂.heap s.heap.objs.size (gather xs)) E) PySem.F.called_set.init.plain PySem.F.entry_set_init (check_set_init_1 ty ?_)) fun r₂ s₂ hr₂ => ?_
      · obtain ⟨⟨oc, od, odata, osl⟩, hol, hcl, nl, hdl⟩ := hl
        simp only at hcl hdl
        subst hcl hdl
        have hol' : (s.heap.push (sNew w)).get? l = some { cls := .type "list", dict := od, data := .seq items nl, slots := osl } := Heap.get?_push_of_some _ hol
        have s1 := PySem.F.sub_list_set
        have s2 := PySem.F.sub_list_frozenset
        have s3 : (Value.type "list" == Value.type "dict") = false := by decide
        have hl1 : (s.heap.push (sNew w)).IsList l items := ⟨_, hol', rfl, nl, rfl⟩
        unfold Builtin.«set.__init__» noKeywords Builtin.Frozenset.updateFrom
        generalize hPI : pyIter = PI
        wp_walk
        subst hPI
        refine wpAny_pyIter_list hl1 (wpAny_bind (wpAny_runValue ?_))
        have lt : l < s.heap.objs.size := Heap.lt_size hol
        have z1 : (s.heap.push (sNew w)).objs.size = s.heap.objs.size + 1 := Heap.size_push ..
        have ne1 : l ≠ (s.heap.push (sNew w)).objs.size := by rw [z1]; exact Nat.ne_of_lt (Nat.lt_succ_of_lt lt)
        refine update_loop ((Walks.list (by simp [hh]) _ l ne1 items).toS) (fun _ _ e => e) (S := s.heap.objs.size) ?_ (xs := xs) isz (by omega) (fun i v hv => strs_get hx i v (by rw [Array.getElem?_toList]; exact hv))
          (s0 := s) (none_up (Nat.le_refl _)) (fun b hb => none_up ?_) (fun s' o r => ?_) (items.size - 0) 0 _ rfl (Nat.zero_le _) ⟨⟨_, Heap.get?_push_size _ rfl, rfl, rfl⟩, hl1.push _⟩
          ⟨fun b o e => Heap.get?_push_of_some _ (Heap.get?_push_of_some _ e), rfl, rfl, rfl⟩ (set_new s.heap fun b o e => Heap.get?_push_of_some _ e)
        · simp only [List.mem_cons, List.mem_singleton, List.not_mem_nil, or_false, not_or]
          exact ⟨by rw [z1]; exact Nat.ne_of_lt (Nat.lt_succ_self _), Nat.ne_of_gt lt⟩
        · rw [List.mem_singleton.mp hb]; omega
        · refine wpAny_pure ?_
          show wpAny _ _ (ret Value.none) _ _ _
          exact wpAny_pure ⟨rfl, o, r⟩
      · cases r₂ with
        | error e => exact hr₂
        | ok fl₂ => cases fl₂ with
          | ret r =>
            obtain ⟨rfl, o, hr⟩ := hr₂
            repeat (any_goals (first | assumption | wp_step))
            exact hQ _ o hr
          | _ => exact hr₂.elim
    | _ => exact hr.elim
end
section
variable {X : Cx}
/-- set(xs), xs a list of texts -/
def rSetOfTx (K : PySem.W.Frag) (P : Program) (w : World) : List V → Hp → VK → Prop := fun vs H Q => ∃ (a : Addr) (xs : List Str), vs = [V.ref a] ∧ SqL K H a (xs.map V.str) ∧ xs.length < scanBound ∧ ∀ p, H p = none → Q (.ref p) (upd H p (SetTO P w p (gather xs)))
theorem cr_setOfTx (hc : X.calm = true) : CallR X (.type "set") (rSetOfTx X.K X.prog X.w) := by
  intro pins s σ H vs us Q I r h
  obtain ⟨a, xs, rfl, hs, hb, q⟩ := h
  obtain ⟨its, rv, hl, hz⟩ := I.list hs
  rw [Vals.ref1 r]
  refine call_setTx (I.ok.hd hc) hl.isList (by simpa using rv.strs) hb fun s' o new => ?_
  have hn : H s.heap.objs.size = none := I.hok.fresh (Nat.le_refl _)
  exact ⟨.ref _, _, I.call' (ch := []) o.os (Un.laid o.heap (Nat.le_refl _) hn) (I.hok.laid o.heap (Nat.le_refl _) (setTO_new new)) (by rw [o.gens]; exact I.bare) (fun _ z => nomatch z), rfl, q _ hn⟩
end
end
end SX
set_option Elab.async false
set_option linter.all false
set_option maxRecDepth 100000
set_option maxHeartbeats 2000000
/-! {e for target in walked if test}, e a text -/
namespace SX
open PySem PySem.Spec PyProof.Rows L2 PySem.Froz PpSet
noncomputable section
/-- behind a turn's test: the text goes into the set at D -/
def tPut (P : Program) (w : World) (D : Addr) (te : TE) (σ : L2.St) (Nx : Hp → Prop) : Bool → Hp → Prop := fun b H =>
  if b = true then te σ H fun y H' => ∃ k l, y = .str k ∧ H' D = some (SetTO P w D l) ∧ l.length + 1 < scanBound ∧ Nx (upd H' D (SetTO P w D (ins k l))) else Nx H
def tSetc (P : Program) (w : World) (wi : TI) (g : TG) (tt : TT) (te : TE) (vs : List Nat) : TE := fun σ H Q => wi σ H fun J H1 => ∀ D, H1 D = none → ∃ W : Nat → Nat → Hp → Prop, (∃ m, W 0 m (upd H1 D (SetTO P w D []))) ∧ ∀ i m H, W i m H →
  (J.stop i H ∧ Q (.ref D) H) ∨ (J.go i H ∧ ∃ Nx : Hp → Prop, (∀ H', Nx H' → ∃ m', m' < m ∧ W (i + 1) m' H') ∧ ∀ x H', J.yld i H x H' → g x (wipe σ vs) H' fun σ2 H2 => wipe σ2 vs = wipe σ vs ∧ tt σ2 H2 (tPut P w D te σ2 Nx))
section
variable {X : Cx}
theorem pe_setc {elt tg iter : Expr} {ifs : List Expr} {scope : Scope} {own : List (PySem.Str × Nat)} {pos : Pos} {wi : TI} {g : TG} {tt : TT} {te : TE} (hc : X.calm = true) (hN : X.N.Nodup) (hi : PI X tg iter wi) (ok : BlkOk X.N X.env.scope scope own)
    (hg : ∀ (s : Shared) (H : Hp) (C : Addr) (cl : List (PySem.Str × Addr)) (fp : List Addr), PG (X.blk s H scope (compEnvC scope cl C X.env) fp) tg g) (ht : ∀ (s : Shared) (H : Hp) (C : Addr) (cl : List (PySem.Str × Addr)) (fp : List Addr), PTs (X.blk s H scope (compEnvC scope cl C X.env) fp) ifs tt)
    (he : ∀ (s : Shared) (H : Hp) (C : Addr) (cl : List (PySem.Str × Addr)) (fp : List Addr), PE (X.blk s H scope (compEnvC scope cl C X.env) fp) elt te) (hs : ∀ x, foldedSetIterable iter X.env x = pure x := by intro _; rfl) :
    PE X (.SetComp elt [⟨tg, iter, ifs, 0⟩] scope pos) (tSetc X.prog X.w wi g tt te (own.map (·.2))) := by
  refine ⟨fun pins s σ H Q I h => ?_⟩
  rw [eval_SetComp]
  refine wpAny_comprehension_free (use := none) rfl hs (closure_ok fun y hy e => (ok.free y hy e).elim (fun k => I.ok.has _ (.inl k)) fun k => I.ok.has _ (.inr k)) ok.kind (fun y hy e => by rw [ok.uniq y hy, e])
    (thn (hi.run pins s σ H _ I h) fun xv s1 hx => thn hx fun itv s2 ⟨it, fp, tn, J, H2, e, I2, T, st2, f2, q⟩ => ?_)
  subst e
  refine newSet_ok (newEnv_comp ?_)
  generalize hD : s2.heap.objs.size = D
  have nD : H2 D = none := I2.hok.fresh (Nat.le_of_eq hD)
  obtain ⟨W, ⟨m0, w0⟩, turn⟩ := q D nD
  generalize hs3 : ({ s2 with heap := s2.heap.push { cls := .type "set", dict := none, data := .set #[] 0 (.fresh 0 0 (!X.w.params.followText "set-order")) } } : Shared) = s3
  have h3 : s3.heap = s2.heap.push (sNew X.w) := by rw [← hs3]; rfl
  have I3 : Inv X pins σ (upd H2 D (SetTO X.prog X.w D [])) s3 := by
    rw [← hs3]
    exact I2.laid (t' := s2.toks) (fun b o e => Heap.get?_push_of_some _ e) (Nat.le_of_eq hD) (hD ▸ setTO_new (set_new s2.heap fun b o e => e))
  have f3 : ∀ b ∈ fp, FpOk X pins (upd H2 D (SetTO X.prog X.w D [])) b ∧ b < s3.heap.objs.size := fun b hb => by
    obtain ⟨o, e, _⟩ := T.obj _ _ st2 b hb
    have lt := Heap.lt_size e
    refine ⟨⟨?_, (f2 b hb).2⟩, by rw [h3, Heap.size_push]; exact Nat.lt_succ_of_lt lt⟩
    rw [upd_ne (Nat.ne_of_lt (hD ▸ lt))]
    exact (f2 b hb).1
  have st3 : tn 0 s3.heap := T.keep _ _ _ st2 fun b _ o e => by rw [h3]; exact Heap.get?_push_of_some _ e
  have I4 := block_start I3 ok hN f3
  show codeAny _ _ (.compStart (.SetComp elt [⟨tg, iter, ifs, 0⟩] scope pos) 0 (.ref it) (.ref D) (compEnvC scope (cellsFrom (s3.heap.objs.size + 1) scope.names (cloFrom X.env.cells scope.names [])) s3.heap.objs.size X.env)) (compPost (model X.prog X.w) X.A X.xe none (EP X pins σ Q) (.ref D) s3.heap.objs.size) { s3 with heap := pushCells (s3.heap.push { cls := .type "dict", data := .dict #[] }) scope.names }
  generalize hC : s3.heap.objs.size = C at I4 ⊢
  generalize hcl : cellsFrom (C + 1) scope.names (cloFrom X.env.cells scope.names []) = cl at I4 ⊢
  generalize hH3 : upd H2 D (SetTO X.prog X.w D []) = H3 at I3 I4 w0 f3
  have pg := hg s3 H3 C cl fp
  have pt := ht s3 H3 C cl fp
  have pe := he s3 H3 C cl fp
  generalize hce : compEnvC scope cl C X.env = ce at I4 pg pt pe ⊢
  have cL : ce.locals = C := by rw [← hce]; rfl
  generalize hs4 : ({ s3 with heap := pushCells (s3.heap.push { cls := .type "dict", data := .dict #[] }) scope.names } : Shared) = s4 at I4 ⊢
  have st4 : tn 0 s4.heap := T.keep _ _ _ st3 fun b _ o e => by rw [← hs4]; exact pushCells_keeps _ _ _ _ (Heap.get?_push_of_some _ e)
  have stat : ∀ {σ' : L2.St} {H' : Hp} {s' : Shared}, Inv (X.blk s3 H3 scope ce fp) [] σ' H' s' → (∀ b ∈ fp, H' b = none) → ∀ b ∈ fp, FpOk (X.blk s3 H3 scope ce fp) [] H' b := fun I' hn b hb =>
    ⟨hn b hb, (I'.ok.exf b hb).1, I'.ok.exfs b hb, .inl hb, fun x c e => (I'.ok.exf b hb).2 x c e, fun p hp => absurd (show p ∈ ([] : List (Addr × Obj)) ++ [] from hp) (by simp)⟩
  have loop : codeAny (model X.prog X.w) X.A (.compLoop (.SetComp elt [⟨tg, iter, ifs, 0⟩] scope pos) 0 (.ref it) (.ref D) ce) (compPost (model X.prog X.w) X.A X.xe none (EP X pins σ Q) (.ref D) C) s4 := by
    refine compLoopS_any (fun n s' => ∃ i H', Inv (X.blk s3 H3 scope ce fp) [] (wipe σ (own.map (·.2))) H' s' ∧ tn i s'.heap ∧ (∀ b ∈ fp, H' b = none) ∧ W i n H') ?_ m0 ⟨0, H3, I4, st4, fun b hb => (f3 b hb).1.1, w0⟩
    rintro n s5 ⟨i, H5, I5, st5, n5, w5⟩
    rcases turn i n H5 w5 with ⟨stop, qq⟩ | ⟨go, Nx, hNx, step⟩
    · refine thnF (T.done (X.blk s3 H3 scope ce fp) rfl rfl rfl hc i [] s5 _ H5 (fun _ _ => False) I5 (stat I5 n5) st5 stop) fun r s6 ⟨hr, I6⟩ => ?_
      subst hr
      have I7 : Inv X pins σ H5 s6 := I3.call' (ch := fp) I6.os I6.base I6.hok I6.bare fun b hb => ⟨(f3 b hb).1.2.2.2.1, (f3 b hb).1.2.1, (f3 b hb).1.2.2.2.2.1, (f3 b hb).1.2.2.2.2.2⟩
      have nC : H5 s3.heap.objs.size = none := by rw [hC, ← cL]; exact I6.free
      obtain ⟨m, hn, _⟩ := I6.loc
      have hn : s6.heap.Ns ce.locals m := hn
      rw [cL] at hn
      obtain ⟨f0, f1, _, f3', f4, f5⟩ := I3.fpOk (Nat.le_refl _) nC
      refine ⟨m, hn, fun h'' sb => ⟨.ref D, H5, I7.turned (t' := s6.toks) (fun b o hb e => (sb.2 b hb).trans e) (by rw [← hC]; exact f0) (by rw [← hC]; exact f1) (by rw [← hC]; exact f3') (by rw [← hC]; exact f4) (by rw [← hC]; exact f5), rfl, qq⟩⟩
    · refine thnF (T.item (X.blk s3 H3 scope ce fp) rfl rfl rfl hc i [] s5 _ H5 (fun _ _ => False) I5 (stat I5 n5) st5 go) fun r s6 ⟨u, hr, h6⟩ => ?_
      subst hr
      refine thnF h6 fun _ s7 ⟨x, H7, I7, r7, y7, st7, n7⟩ => ?_
      have I7' := I7.pinned (stat I7 n7) (T.obj _ _ st7)
      refine thnF (pg.run _ s7 _ H7 x u _ I7' r7 (step x H7 y7)) fun _ s8 ⟨σ8, H8, I8, hw8, q8⟩ => ?_
      refine thnF (pt.run _ s8 σ8 H8 _ I8 q8) fun b s9 ⟨H9, I9, q9⟩ => ?_
      have fin : ∀ {s' : Shared} {H' : Hp}, Inv (X.blk s3 H3 scope ce fp) ([] ++ pinsAt fp s7.heap) σ8 H' s' → Nx H' → ∃ m, m < n ∧ ∃ i H', Inv (X.blk s3 H3 scope ce fp) [] (wipe σ (own.map (·.2))) H' s' ∧ tn i s'.heap ∧ (∀ b ∈ fp, H' b = none) ∧ W i m H' := fun {s' H'} I' nx => by
        obtain ⟨m', hm, w'⟩ := hNx H' nx
        have pin : ∀ b ∈ fp, ∀ o, s7.heap.get? b = some o → s'.heap.get? b = some o ∧ H' b = none := fun b hb o e =>
          let z := I'.pin (b, o) (List.mem_append_right _ (List.mem_append_right _ (mem_pinsAt hb e)))
          ⟨z.1, z.2.1⟩
        refine ⟨m', hm, i + 1, H', (I'.unpinned (pins := [])).weak (by rw [← hw8, wipe_length]) (fun j v e => (wipe_some (hw8 ▸ e)).1), T.keep _ _ _ st7 fun b hb o e => (pin b hb o e).1, fun b hb => ?_, w'⟩
        obtain ⟨o, e, _⟩ := T.obj _ _ st7 b hb
        exact (pin b hb o e).2
      unfold tPut at q9
      cases b with
      | false =>
        simp only [Bool.false_eq_true, if_false] at q9 ⊢
        exact fin I9 q9
      | true =>
        simp only [if_true] at q9 ⊢
        refine thnF (pe.run _ s9 σ8 H9 _ I9 q9) fun z s10 ⟨yv, H10, I10, r10, k, l, ey, hl, room, nx⟩ => ?_
        subst ey
        obtain ⟨tk, rfl⟩ := r10
        exact put_ok (X := X.blk s3 H3 scope ce fp) I10 hl room fun s11 I11 => fin I11 nx
  exact codeAny_compStart_set loop (T.self X.A 0 _ _ _ st4 loop)
end
end
end SX
set_option Elab.async false
set_option linter.all false
set_option maxRecDepth 100000
set_option maxHeartbeats 1000000
/-! Program.__init__ -/
namespace FR
open PySem PySem.Spec PyProof.Rows L2

section
variable {P : Program} {w : World} {K : PySem.W.Frag} {mg : Str → Option Value} {base : Heap}
/-- instances of an own class, as isinstance sees them -/
structure OwnTy (K : PySem.W.Frag) (C : Addr) : Prop where
  cl : Cls K C
  ha : PySem.W.findIn K (.ref C) "__class__" = some (some (.builtin "object.__class__"))
  hn : PySem.W.specialIn K (.builtin "object.__class__") "__get__" = some (some (.builtin "getset_descriptor.__get__"))
  htk : PySem.W.takesIn K (.builtin "object.__class__") = some true
  hm : PySem.W.mroIn K C (.type "object") = some true
theorem OwnTy.ins {K : PySem.W.Frag} {C : Addr} (o : OwnTy K C) {H : Hp} {a dx : Addr} {fs : List (Str × V)} (e : H a = some (.ins C dx fs)) : TyOf K H (.ref a) (.ref C) := TyOf.ins e o.cl o.ha o.hn o.htk o.hm
/-- the dict of bodies in the instance at x is new -/
def FreshB (H H' : Hp) (x : Addr) : Prop := ∃ d C dx r, H' x = some (.ins C dx (("_bodies", .ref d) :: r)) ∧ H d = none
theorem FreshB.back {H H1 H' : Hp} {x : Addr} (h : FreshB H1 H' x) (s : Same H H1) : FreshB H H' x := by
  obtain ⟨d, C, dx, r, e, n⟩ := h
  refine ⟨d, C, dx, r, e, ?_⟩
  cases c : H d with
  | none => rfl
  | some o => rw [s _ _ c] at n; cases n
/-- Program(..): the bodies come in a Given, or as keywords -/
def spPi (K : PySem.W.Frag) (C CG : Addr) : Sp := fun vs H Q _ => ∃ (x d dx : Addr) (kvs : List (Key × V)) (p : Pg), vs = [.ref x, .ref d] ∧ H x = some (.ins C dx []) ∧
  ((∃ g dg t, H d = some (.dK [(.inr "_given", .ref g)]) ∧ H g = some (.ins CG dg [("table", .ref t)]) ∧ H t = some (.dK kvs)) ∨ (H d = some (.dK kvs) ∧ valV kvs (.inr "_given") = none)) ∧ PrgK H kvs p ∧ Prg p ∧ (names p).Nodup ∧
  ∀ q H', q.Perm p → sortedS (names q) = true → (∀ a o, a ≠ x → H a = some o → H' a = some o) → IsPg K C H' x q → FreshB H H' x → Q .non H'
theorem pi_read {k : Nat} {f fp dT : Addr} {fdp : FuncData} (GP : FnOk P w K mg base CX0 6 fp fdp ["body", "path"] (spPls K 5)) (mP : mg "placed_statements" = some (.ref fp)) (kP : PySem.W.keepIn K (.ref fp) = true) {ds : List Value} (bP : Binds K fdp ["body", "path"] ds) (vP : Vals [V.ref dT] ds) (hT : ∀ H, SqT K H dT []) {C CG : Addr} (cl : Cls K C) (nb : NoAttr K C "_bodies") (ns : NoAttr K C "_size") (ne : NoAttr K C "_events") (nc : NoAttr K C "_choices") (clG : Cls K CG) (nG : NoAttr K CG "table") (oG : OwnTy K CG) (kNo : PySem.W.kitOne K (.type "NoneType") (.ref CG) = some false) (kYes : PySem.W.kitOne K (.ref CG) (.ref CG) = some true) {cdv : Value} {A : Around} {outer : List Env} {s : Shared} {H : Hp} {E : XK} {vs : List V} {Q : VK} (T : TxtP mg) (mG : mg "Given" = some (.ref CG)) (gA : Glo P w K mg base "_are_program" 12 ["bodies"] spAp) (hr : Room 12 (A.deeper (envOfC "Program.__init__" (defScope sPi) s.heap.objs.size f cdv)))
    (h : spPi K C CG vs H Q E) : ∃ t, PSs (cxOf CX0 P w K mg base NPi "Program.__init__" (defScope sPi) f cdv A outer s H E).nox (defBody sPi) t ∧ t { nx := fun _ H' => Q .non H', rt := Q } (start NPi vs) H := by
  have hu := hu_of hr
  obtain ⟨x, d, dx, kvs, p, rfl, hx, hd, hk, hp, hn, q⟩ := h
  obtain ⟨tR, hR, qR⟩ : ∃ t, PSs (cxOf CX0 P w K mg base NPi "Program.__init__" (defScope sPi) f cdv A outer s H E).nox ((defBody sPi).drop 2) t ∧ ∀ (gv : V) (tt : Addr), H tt = some (.dK kvs) → t { nx := fun _ H' => Q .non H', rt := Q } [some (.ref x), some (.ref d), some gv, some (.ref tt), none, none, none, none, none, none] H := by
    refine ⟨_, (pss_cons (ps_if (pt_not (pt_val (pe_call gA.G (hr.mono (by decide)) (by rfl) gA.m gA.k gA.b .nil pass0 (pa_cons (pv 3) pa_nil)))) pss_never pss_nil)
      (pss_cons (ps_fld (pv 0) (pe_dc (X := (cxOf CX0 P w K mg base NPi "Program.__init__" (defScope sPi) f cdv A outer s H E).nox) (own := [("name", 5)]) (g := (gName 5)) (tt := tYes) rfl scPi.nd (pi_list (pe_callB (call_sortedD rfl) (by rfl) T.sorted (by decide +kernel) (pa_cons (pv 3) pa_nil))) (blkOk_by (N := NPi) (sc := defScope sPi) (by decide +kernel)) (fun _ _ _ _ _ => (pg_name (i := 5) scPi.nd rfl (.inl rfl))) (fun _ _ _ _ _ => pts_nil) (fun _ _ _ _ _ => (pv 5)) (fun _ _ _ _ _ => (pe_dget hu (pv 3) (pv 5) (fun _ _ => rfl)))) rfl)
      (pss_cons (ps_lock (ps_setLc2 (i := 4) (X := (cxOf CX0 P w K mg base NPi "Program.__init__" (defScope sPi) f cdv A outer s H E).nox) (own := [("name", 5), ("body", 6), ("path", 7), ("statement", 8)]) (vs1 := [7, 8]) (g := (gTup K 2 (gCons (gName 5) (gCons (gName 6) gNil)))) (tt := tYes) (g1 := (gTup K 2 (gCons (gName 7) (gCons (gName 8) gNil)))) (tt1 := tYes) rfl scPi.nd rfl rfl (by rfl) (pi_items (pe_fld (pv 0) rfl)) (blkOk_by (N := NPi) (sc := defScope sPi) (by decide +kernel)) (by decide) (fun _ _ _ _ _ => (pg_tupK (K := K) rfl rfl (pgs_cons (pg_name (i := 5) scPi.nd rfl (.inl rfl)) (pgs_cons (pg_name (i := 6) scPi.nd rfl (.inl rfl)) pgs_nil)))) (fun _ _ _ _ _ => pts_nil) (fun _ _ _ _ _ => (pi_listK (K := K) rfl (pe_call GP (hr.mono (by decide)) (by rfl) mP kP bP vP pass0 (pa_cons (pv 6) pa_nil)))) (fun _ _ _ _ _ => (pg_tupK (K := K) rfl rfl (pgs_cons (pg_name (i := 7) scPi.nd rfl (.inl rfl)) (pgs_cons (pg_name (i := 8) scPi.nd rfl (.inl rfl)) pgs_nil)))) (fun _ _ _ _ _ => pts_nil) (fun _ _ _ _ _ => (pe_tup (pa_cons (pv 5) (pa_cons (pv 7) (pa_cons (pv 8) pa_nil)))))))
      (pss_cons (ps_fld (pv 0) (pe_callB call_len_seq (by rfl) T.len PySem.boot_len (pa_cons (pv 4) pa_nil)) rfl)
      (pss_cons (ps_fld (pv 0) (pe_callTy (call_tuple_ofK (K := K) rfl) (by rfl) T.tup (by decide +kernel) (pa_cons (pe_callB (SX.cr_sortedTx rfl) (by rfl) T.sorted (by decide +kernel) (pa_cons (SX.pe_setc (X := (cxOf CX0 P w K mg base NPi "Program.__init__" (defScope sPi) f cdv A outer s H E).nox) (own := [("_", 9), ("statement", 8)]) (g := (gTup K 3 (gCons (gName 9) (gCons (gName 9) (gCons (gName 8) gNil))))) rfl scPi.nd (pi_listK (K := K) rfl (pv 4)) (blkOk_by (N := NPi) (sc := defScope sPi) (by decide +kernel)) (fun _ _ _ _ _ => (pg_tupK (K := K) rfl rfl (pgs_cons (pg_name (i := 9) scPi.nd rfl (.inl rfl)) (pgs_cons (pg_name (i := 9) scPi.nd rfl (.inl rfl)) (pgs_cons (pg_name (i := 8) scPi.nd rfl (.inl rfl)) pgs_nil))))) (fun _ _ _ _ _ => (pts_one (pt_cmpR op_eq (pe_ix (ix_tupK (K := K) rfl) (pv 8) pe_int (fun _ _ => rfl)) pe_str (nomark _)))) (fun _ _ _ _ _ => (pe_ix (ix_tupK (K := K) rfl) (pv 8) pe_int (fun _ _ => rfl)))) pa_nil)) pa_nil)) rfl)
      (pss_one (ps_fld (pv 0) (pe_callTy (call_tuple_ofK (K := K) rfl) (by rfl) T.tup (by decide +kernel) (pa_cons (pe_lc (X := (cxOf CX0 P w K mg base NPi "Program.__init__" (defScope sPi) f cdv A outer s H E).nox) (own := [("name", 5), ("path", 7), ("statement", 8)]) (g := (gTup K 3 (gCons (gName 5) (gCons (gName 7) (gCons (gName 8) gNil))))) rfl scPi.nd (pi_listK (K := K) rfl (pv 4)) (blkOk_by (N := NPi) (sc := defScope sPi) (by decide +kernel)) (fun _ _ _ _ _ => (pg_tupK (K := K) rfl rfl (pgs_cons (pg_name (i := 5) scPi.nd rfl (.inl rfl)) (pgs_cons (pg_name (i := 7) scPi.nd rfl (.inl rfl)) (pgs_cons (pg_name (i := 8) scPi.nd rfl (.inl rfl)) pgs_nil))))) (fun _ _ _ _ _ => (pts_one (pt_cmpR op_eq (pe_ix (ix_tupK (K := K) rfl) (pv 8) pe_int (fun _ _ => rfl)) pe_str (nomark _)))) (fun _ _ _ _ _ => (pe_tup (pa_cons (pv 5) (pa_cons (pv 7) pa_nil))))) pa_nil)) rfl))))))), fun gv tt htt => ?_⟩
    have lk : kvs.length = p.length := hk.1
    refine ⟨_, rfl, tt, kvs, p, rfl, htt, hk, hp, fun H1 s1 => ⟨_, rfl, iteF ?_⟩⟩
    have hx1 := s1 _ _ hx
    have htt1 := s1 _ _ htt
    have hk1 := hk.keep fun a xs e => s1 a _ e
    refine ⟨_, rfl, tt, kvs, names p, rfl, .inl htt1, hk1.keys, by rw [List.length_map]; have := hp.len; omega, fun ys l hy sy hl => ?_⟩
    have hy64 : ys.length ≤ 8 := by rw [hy.length_eq, List.length_map]; exact hp.len.2
    obtain ⟨qp, qn⟩ := pg_perm hn hy
    have sl := same_new (o := .lst (ys.map V.str)) hl
    have hl2 : upd H1 l (.lst (ys.map V.str)) l = some (.lst (ys.map V.str)) := upd_same
    have hx2 := sl _ _ hx1
    have htt2 := sl _ _ htt1
    have hk2 := (Tk.same sl).pg hk1
    have s2 := s1.trans sl
    generalize upd H1 l (.lst (ys.map V.str)) = H2 at sl hl2 hx2 htt2 hk2 s2 ⊢
    let qq : Pg := ys.map fun z => (z, bodyOf p z)
    have qd : qq = ys.map fun z => (z, bodyOf p z) := rfl
    rw [← qd] at qp qn
    have hq := hp.perm qp
    refine ⟨l, rfl, ⟨_, SqL.of hl2⟩, fun D hD => ?_⟩
    refine walk_core (walk_list (xs := ys.map V.str)) (fun i Hc => Same H2 Hc ∧ ∃ kvs2, Hc D = some (.dK kvs2) ∧ PrgK Hc kvs2 (qq.take i)) ⟨same_new hD, [], upd_same, PrgK.nil⟩ (fun i Hc _ p => SqL.of (p.1 _ _ hl2)) ?_ ?_
    · rintro i v Hc H' hi ⟨sm, kvs2, hDc, hkc⟩ ⟨rfl, hv⟩
      rw [List.length_map] at hi
      rw [List.getElem?_map, List.getElem?_eq_getElem hi] at hv
      have ev : V.str ys[i] = v := Option.some.inj hv
      subst ev
      have hz : ys[i] ∈ names p := hy.mem_iff.mp (List.getElem_mem hi)
      obtain ⟨bv, e1, hb⟩ := hk2.val hn hz
      have hnew : valV kvs2 (Sum.inr ys[i]) = none := hkc.none fun z => by
        have e : names (qq.take i) = ys.take i := by rw [names, List.map_take, ← names, qn]
        rw [e] at z
        have nd : ys.Nodup := hy.nodup_iff.mpr hn
        obtain ⟨j, hj, ej⟩ := List.getElem_of_mem z
        rw [List.length_take] at hj
        rw [List.getElem_take] at ej
        exact List.pairwise_iff_getElem.mp nd j i (by omega) hi (by omega) ej
      have lt : kvs2.length ≤ 8 := by rw [hkc.1, List.length_take]; have : qq.length = ys.length := List.length_map ..; omega
      refine ⟨rfl, _, rfl, _, rfl, _, rfl, tt, bv, rfl, ?_, kvs2, .inr ys[i], rfl, hDc, small1000 (by omega), same_upd hD sm, _, upd_same, ?_⟩
      · have g := DGet.k (k := .inr ys[i]) (sm _ _ htt2)
        rw [e1] at g
        exact g
      · rw [putK_new _ hnew]
        have e : qq[i]? = some (ys[i], bodyOf p ys[i]) := by
          show (ys.map _)[i]? = _
          rw [List.getElem?_map, List.getElem?_eq_getElem hi]
          rfl
        rw [take_snoc e]
        have kt : Tk H' (upd H' D (.dK (kvs2 ++ [(Sum.inr ys[i], bv)]))) := Tk.upd hDc (fun _ z => by cases z) (fun _ _ z => by cases z)
        exact PrgK.snoc (kt.pg hkc) (kt.bd ((Tk.same sm).bd hb))
    · rintro Hc ⟨sm, kvs2, hDc, hkc⟩
      rw [List.length_map] at hkc
      rw [List.take_of_length_le (by show (ys.map _).length ≤ _; rw [List.length_map]; exact Nat.le_refl _)] at hkc
      have hx3 := sm _ _ hx2
      have b3 := But.same (x := x) (s2.trans sm)
      have nDx : D ≠ x := fun z => by rw [z, hx2] at hD; cases hD
      refine ⟨_, rfl, x, C, dx, [], rfl, hx3, cl, nb, by show 0 < 1000; decide, ?_⟩
      have hx4 : upd Hc x (.ins C dx [("_bodies", .ref D)]) x = some (.ins C dx [("_bodies", .ref D)]) := upd_same
      have hD4 : upd Hc x (.ins C dx [("_bodies", .ref D)]) D = some (.dK kvs2) := by rw [upd_ne nDx]; exact hDc
      have hk4 : PrgK (upd Hc x (.ins C dx [("_bodies", .ref D)])) kvs2 qq := (Tk.upd hx3 (fun _ z => by cases z) (fun _ _ z => by cases z)).pg hkc
      have b4 := b3.trans (But.upd (o := .ins C dx [("_bodies", .ref D)]))
      have nDH : H D = none := by
        cases e : H D with
        | none => rfl
        | some o => rw [s2 _ _ e] at hD; cases hD
      clear hDc hkc hx3 sm
      show tLock _ _ _ (upd Hc x (.ins C dx [("_bodies", .ref D)]))
      generalize upd Hc x (.ins C dx [("_bodies", .ref D)]) = H4 at hx4 hD4 hk4 b4 ⊢
      refine ⟨D, _, hD4, trivial, fun od => ?_⟩
      have hk5 := hk4.keep (lock_tup (x := .frz od (.dK kvs2)) hD4)
      have hdl : upd H4 D (.frz od (.dK kvs2)) D = some (.frz od (.dK kvs2)) := upd_same
      have hx5 : upd H4 D (.frz od (.dK kvs2)) x = some (.ins C dx [("_bodies", .ref D)]) := by rw [upd_ne (Ne.symm nDx)]; exact hx4
      have back : ∀ H', Same (upd H4 D (.frz od (.dK kvs2))) H' → Same H4 (upd H' D (.dK kvs2)) := fun H' s => same_lock hD4 s
      generalize upd H4 D (.frz od (.dK kvs2)) = H5 at hk5 hdl hx5 back ⊢
      refine ⟨_, rfl, x, C, dx, _, _, rfl, hx5, cl, nb, rfl, D, od, kvs2, rfl, hdl, fun D2 hD2 => ?_⟩
      have lkq : kvs2.length = qq.length := hk5.1
      refine walk_core walk_items (fun i Hc => Same H5 Hc ∧ ∃ acc, Hc D2 = some (.lst acc) ∧ AG (fun z y => TrAt K Hc z y) acc (allP (qq.take i))) ⟨same_new hD2, [], upd_same, AG.nil⟩ (fun i Hc _ p => p.1 _ _ hdl) ?_ ?_
      · rintro i x0 Hc H' hi ⟨sm, acc, hDc, ha⟩ ⟨T1, x1, y1, rfl, hT1, rfl, hx1, hy1⟩
        obtain ⟨z, v, b, hkv, hpi, hb⟩ := hk5.at hi
        have hx1 : (kvs2[i]?.map fun kv => kV kv.1) = some x1 := hx1
        have hy1 : (kvs2[i]?.map Prod.snd) = some y1 := hy1
        rw [hkv] at hx1 hy1
        have ex : V.str z = x1 := Option.some.inj hx1
        have ey : v = y1 := Option.some.inj hy1
        subst ex ey
        have sT := same_new (o := .tup [V.str z, v]) hT1
        have hDt := sT _ _ hDc
        have hat := (Tk.same sT).trs ha
        have sm2 := sm.trans sT
        have h1 : upd Hc T1 (.tup [V.str z, v]) T1 = some (.tup [V.str z, v]) := upd_same
        generalize upd Hc T1 (.tup [V.str z, v]) = H6 at hDt hat sm2 h1 ⊢
        obtain ⟨nb, ob, cb, fb⟩ := hq.ok _ (List.mem_of_getElem? hpi)
        have l60 : (placed 5 b []).length ≤ 60 := Nat.le_trans (len_mem_sum (f := fun x : Str × Bd => (placed 5 x.2 []).length) (List.mem_of_getElem? hpi)) hq.sz
        refine ⟨T1, _, rfl, SqT.of h1, rfl, _, _, rfl, _, _, rfl, rfl, rfl, _, rfl, v, dT, b, [], rfl, (Tk.same sm2).bd hb, hT _, fb, by decide, Nat.le_trans l60 (by decide), fun l2 zs H7 nl7 s7 hl7 hz => ⟨l2, rfl, ⟨_, SqL.of hl7⟩, ?_⟩⟩
        have nl2 : l2 ≠ D2 := fun e => by rw [e, hDt] at nl7; cases nl7
        have stp : allP (qq.take (i + 1)) = allP (qq.take i) ++ (placed 5 b []).map fun y => (z, y) := flat_take hpi
        have tot : (allP (qq.take (i + 1))).length ≤ 60 := by
          rw [allP_len]
          exact Nat.le_trans (sum_take_le qq (i + 1)) hq.sz
        rw [stp, List.length_append, List.length_map] at tot
        refine walk_core (walk_list (xs := zs)) (fun j Hx => Same H5 Hx ∧ Tk H7 Hx ∧ Hx l2 = some (.lst zs) ∧ ∃ acc2, Hx D2 = some (.lst acc2) ∧ AG (fun z y => TrAt K Hx z y) acc2 (allP (qq.take i) ++ ((placed 5 b []).take j).map fun y => (z, y))) ⟨sm2.trans s7, Tk.refl _, hl7, acc, s7 _ _ hDt, ?_⟩ (fun j Hx _ p => SqL.of p.2.2.1) ?_ ?_
        · rw [List.take_zero, List.map_nil, List.append_nil]
          exact (Tk.same s7).trs hat
        · rintro j y Hx H' hj ⟨sx, tx, hlx, acc2, hDx, ha2⟩ ⟨rfl, hy⟩
          obtain ⟨pl, hpl, t, a, s0, rfl, ht, hpa, hs⟩ := hz.2 j y hy
          refine ⟨t, _, rfl, SqT.of (tx.1 _ _ ht), rfl, _, _, rfl, _, _, rfl, rfl, rfl, _, rfl, _, rfl, _, rfl, small1000 (Nat.le_of_ble_eq_true rfl), fun t3 ht3 => ?_⟩
          have s3 := same_new (o := .tup [V.str z, V.ref a, s0]) ht3
          have h3 : upd H' t3 (.tup [V.str z, V.ref a, s0]) t3 = some (.tup [V.str z, V.ref a, s0]) := upd_same
          have hl8 := s3 _ _ hlx
          have hd8 := s3 _ _ hDx
          have sx8 := sx.trans s3
          have tx8 := tx.trans (Tk.same s3)
          have ha8 := (Tk.same s3).trs ha2
          generalize upd H' t3 (.tup [V.str z, V.ref a, s0]) = H8 at h3 hl8 hd8 sx8 tx8 ha8 ⊢
          have lj : acc2.length < 60 := by
            have e := ha2.1
            rw [List.length_append, List.length_map, List.length_take] at e
            have := hz.1
            omega
          have k9 : Tk H8 (upd H8 D2 (.lst (acc2 ++ [V.ref t3]))) := Tk.upd hd8 (fun _ z => by cases z) (fun _ _ z => by cases z)
          refine ⟨acc2, hd8, small1000 (by omega), same_upd hD2 sx8, tx8.trans k9, by rw [upd_ne nl2]; exact hl8, _, upd_same, ?_⟩
          rw [take_snoc hpl, List.map_append, ← List.append_assoc]
          exact AG.snoc (k9.trs ha8) ⟨t3, a, s0, rfl, k9.1 _ _ h3, (tx8.trans k9).seqT hpa, (tx8.trans k9).st hs⟩
        · rintro Hx ⟨sx, tx, hlx, acc2, hDx, ha2⟩
          rw [hz.1, List.take_length] at ha2
          exact ⟨sx, acc2, hDx, by rw [stp]; exact ha2⟩
      · rintro Hc ⟨sm, acc, hDc, ha⟩
        rw [lkq, List.take_length] at ha
        refine ⟨sm _ _ hdl, ?_⟩
        have sb := back Hc sm
        have hc := sm _ _ hdl
        have kb : Tk Hc (upd Hc D (.dK kvs2)) := Tk.upd hc (fun _ z => by cases z) (fun _ _ z => by cases z)
        have hDb : upd Hc D (.dK kvs2) D2 = some (.lst acc) := by
          rw [upd_ne (fun z => by rw [z, hdl] at hD2; cases hD2)]
          exact hDc
        have hab := kb.trs ha
        clear hDc ha kb hc
        generalize upd Hc D (.dK kvs2) = H9 at sb hDb hab ⊢
        have b9 := b4.trans (But.same sb)
        have hx9 := sb _ _ hx4
        have hD9 := sb _ _ hD4
        have hk9 := (Tk.same sb).pg hk4
        have la : acc.length = (allP qq).length := hab.1
        have l60 : (allP qq).length ≤ 60 := by rw [allP_len]; exact hq.sz
        clear sb hx4 hD4 b4 back hdl hx5 hk5 hk4 b3
        -- the size
        refine ⟨_, rfl, D2, acc, rfl, .inl (SqL.of hDb), _, rfl, x, C, dx, _, rfl, hx9, cl, ns, by show 1 < 1000; decide, ?_⟩
        generalize hA : upd H9 x _ = HA
        have hxA : HA x = some (.ins C dx [("_bodies", .ref D), ("_size", .int ((allP qq).length : Nat))]) := by
          rw [← hA, upd_same, ← la]
          rfl
        have bu : But x H9 HA := by rw [← hA]; exact But.upd
        have tu : Tk H9 HA := by rw [← hA]; exact Tk.upd hx9 (fun _ z => by cases z) (fun _ _ z => by cases z)
        have n2x : D2 ≠ x := fun z => by rw [z, hx9] at hDb; cases hDb
        have bA := b9.trans bu
        have hDA := bu _ _ nDx hD9
        have hkA := tu.pg hk9
        have h2A := bu _ _ n2x hDb
        have haA := tu.trs hab
        clear hA bu tu b9 hx9 hD9 hk9 hDb hab
        -- the events
        refine ⟨_, rfl, D2, rfl, ⟨_, SqL.of h2A⟩, fun S hS => ?_⟩
        refine walk_core (walk_list (xs := acc)) (fun i Hc => Same HA Hc ∧ Hc S = some (SX.SetTO P w S (SX.gather (notes ((allP qq).take i))))) ⟨same_new hS, upd_same⟩ (fun i Hc _ p => SqL.of (p.1 _ _ h2A)) ?_ ?_
        · rintro i y Hc H' hi ⟨sm, hSc⟩ ⟨rfl, hy⟩
          obtain ⟨tr, htr, t, a, s0, rfl, ht, hpa, hs⟩ := haA.2 i y hy
          have hs := (Tk.same sm).st hs
          obtain ⟨ax, xs, rfl, hax⟩ := hs.head
          have e := notes_snoc ((allP qq).take i) tr
          rw [← take_snoc htr] at e
          refine ⟨t, _, rfl, SqT.of (sm _ _ ht), rfl, _, _, rfl, _, _, rfl, _, _, rfl, rfl, rfl, ?_⟩
          refine ⟨_, rfl, ax, _, 0, _, rfl, rfl, SqT.of hax, atI_nat (j := 0) rfl, rfl, _, rfl, ?_⟩
          show SX.tPut _ _ _ _ _ _ (decide (V.str tr.2.2.word = V.str "note")) _
          rw [dec_str]
          by_cases c : tr.2.2.word = ("note" : Str)
          · rw [if_pos c] at e
            rw [decide_eq_true c]
            obtain ⟨a', ea, hn2⟩ := note_at c hs
            cases ea
            refine ⟨_, rfl, ax, _, 1, _, rfl, rfl, SqT.of hn2, atI_nat (j := 1) rfl, _, _, rfl, hSc, ?_, same_upd hS sm, ?_⟩
            · have h1 := SX.len_gather (notes ((allP qq).take i))
              have h2 := notes_len ((allP qq).take i)
              rw [List.length_take] at h2
              show _ < 4096
              omega
            · rw [e, SX.gather_snoc]
              exact upd_same
          · rw [if_neg c, List.append_nil] at e
            rw [decide_eq_false c]
            exact ⟨sm, by rw [e]; exact hSc⟩
        · rintro Hc ⟨sm, hSc⟩
          rw [la, List.take_length] at hSc
          have hl1 := SX.len_gather (notes (allP qq))
          have hl2' := notes_len (allP qq)
          refine ⟨S, _, rfl, hSc, by omega, fun es pe hpe hse hne hpn => ?_⟩
          have s1e := same_new (o := .lst (es.map V.str)) hpn
          have hpe2 : upd Hc pe (.lst (es.map V.str)) pe = some (.lst (es.map V.str)) := upd_same
          refine ⟨pe, _, rfl, .inl ⟨SqL.of hpe2, fun ta hta => ?_⟩⟩
          have s2e := same_new (o := .tup (es.map V.str)) hta
          have hta2 : upd (upd Hc pe (.lst (es.map V.str))) ta (.tup (es.map V.str)) ta = some (.tup (es.map V.str)) := upd_same
          have sB := (sm.trans s1e).trans s2e
          clear hpe2 s1e s2e hSc
          generalize upd (upd Hc pe (.lst (es.map V.str))) ta (.tup (es.map V.str)) = HB at hta2 sB ⊢
          have hxB := sB _ _ hxA
          refine ⟨_, rfl, x, C, dx, _, rfl, hxB, cl, ne, by show 2 < 1000; decide, ?_⟩
          generalize hC : upd HB x _ = HC
          have hxC : HC x = some (.ins C dx [("_bodies", .ref D), ("_size", .int ((allP qq).length : Nat)), ("_events", .ref ta)]) := by
            rw [← hC, upd_same]
            rfl
          have bu : But x HA HC := (But.same sB).trans (by rw [← hC]; exact But.upd)
          have tu : Tk HA HC := (Tk.same sB).trans (by rw [← hC]; exact Tk.upd hxB (fun _ z => by cases z) (fun _ _ z => by cases z))
          have bC := bA.trans bu
          have hDC := bu _ _ nDx hDA
          have hkC := tu.pg hkA
          have h2C := bu _ _ n2x h2A
          have haC := tu.trs haA
          have htC : HC ta = some (.tup (es.map V.str)) := by
            have n : ta ≠ x := fun z => by rw [z, hxB] at hta2; cases hta2
            rw [← hC, upd_ne n]
            exact hta2
          clear hC bu tu bA hxA hDA hkA h2A haA hta2 sB hxB
          have hev : EvOk es qq := ⟨hse, hne, fun z => by rw [hpe.mem_iff, SX.mem_gather]⟩
          -- the choices
          refine ⟨_, rfl, D2, rfl, ⟨_, SqL.of h2C⟩, fun R hR => ?_⟩
          refine walk_core (walk_list (xs := acc)) (fun i Hy => Same HC Hy ∧ ∃ cs, Hy R = some (.lst cs) ∧ AG (fun z y => ChAt K Hy z y) cs (chosen ((allP qq).take i))) ⟨same_new hR, [], upd_same, AG.nil⟩ (fun i Hy _ p => SqL.of (p.1 _ _ h2C)) ?_ ?_
          · rintro i y Hy H' hi ⟨sm, cs, hRc, hcs⟩ ⟨rfl, hy⟩
            obtain ⟨tr, htr, t, a, s0, rfl, ht, hpa, hs⟩ := haC.2 i y hy
            have hs := (Tk.same sm).st hs
            have hpa := (Tk.same sm).seqT hpa
            obtain ⟨ax, xs, rfl, hax⟩ := hs.head
            have e := chosen_snoc ((allP qq).take i) tr
            rw [← take_snoc htr] at e
            have lc := chosen_len ((allP qq).take i)
            rw [List.length_take] at lc
            have lcs := hcs.1
            refine ⟨t, _, rfl, SqT.of (sm _ _ ht), rfl, _, _, rfl, _, _, rfl, _, _, rfl, rfl, rfl, ?_⟩
            refine ⟨_, rfl, ax, _, 0, _, rfl, rfl, SqT.of hax, atI_nat (j := 0) rfl, rfl, _, rfl, ?_⟩
            show if (decide (V.str tr.2.2.word = V.str "choose")) = true then _ else _
            rw [dec_str]
            by_cases c : tr.2.2.word = ("choose" : Str)
            · rw [if_pos c] at e
              rw [decide_eq_true c, if_pos rfl]
              refine ⟨_, rfl, _, rfl, small1000 (Nat.le_of_ble_eq_true rfl), fun t3 ht3 => ?_⟩
              have s3 := same_new (o := .tup [V.str tr.1, V.ref a]) ht3
              have h3 : upd H' t3 (.tup [V.str tr.1, V.ref a]) t3 = some (.tup [V.str tr.1, V.ref a]) := upd_same
              have hR3 := s3 _ _ hRc
              have k9 : Tk (upd H' t3 (.tup [V.str tr.1, V.ref a])) (upd (upd H' t3 (.tup [V.str tr.1, V.ref a])) R (.lst (cs ++ [V.ref t3]))) := Tk.upd hR3 (fun _ z => by cases z) (fun _ _ z => by cases z)
              refine ⟨cs, hR3, small1000 (by omega), same_upd hR (sm.trans s3), _, upd_same, ?_⟩
              rw [e]
              exact AG.snoc (((Tk.same s3).trans k9).chs hcs) ⟨t3, a, rfl, k9.1 _ _ h3, ((Tk.same s3).trans k9).seqT hpa⟩
            · rw [if_neg c, List.append_nil] at e
              rw [decide_eq_false c, if_neg (by decide)]
              exact ⟨sm, cs, hRc, by rw [e]; exact hcs⟩
          · rintro Hy ⟨sm, cs, hRc, hcs⟩
            rw [la, List.take_length] at hcs
            refine ⟨R, _, rfl, .inl ⟨SqL.of hRc, fun tc htc => ?_⟩⟩
            have s2e := same_new (o := .tup cs) htc
            have htc2 : upd Hy tc (.tup cs) tc = some (.tup cs) := upd_same
            have hcs2 := (Tk.same s2e).chs hcs
            have sD := sm.trans s2e
            generalize upd Hy tc (.tup cs) = HD at htc2 hcs2 sD ⊢
            have hxD := sD _ _ hxC
            refine ⟨_, rfl, x, C, dx, _, rfl, hxD, cl, nc, by show 3 < 1000; decide, ?_⟩
            generalize hF : upd HD x _ = HF
            have hxF : HF x = some (.ins C dx [("_bodies", .ref D), ("_size", .int ((allP qq).length : Nat)), ("_events", .ref ta), ("_choices", .ref tc)]) := by
              rw [← hF, upd_same]
              rfl
            have bu : But x HD HF := by rw [← hF]; exact But.upd
            have tu : Tk HD HF := by rw [← hF]; exact Tk.upd hxD (fun _ z => by cases z) (fun _ _ z => by cases z)
            have td := (Tk.same sD).trans tu
            exact q qq HF qp (by rw [qn]; exact sy) ((bC.trans (But.same sD)).trans bu) ⟨dx, D, ta, tc, kvs2, es, cs, hxF, bu _ _ nDx (sD _ _ hDC), td.pg hkC, td.1 _ _ htC, hev, tu.1 _ _ htc2, tu.chs hcs2⟩ ⟨D, C, dx, _, hxF, nDH⟩
  refine ⟨_, pss_cons (ps_set (i := 2) scPi.nd rfl (Or.inl rfl) (pe_dget1 hu (pv 1) pe_str ⟨by rfl, by rfl, by rfl, by rfl⟩)) (pss_cons (ps_set (i := 3) scPi.nd rfl (Or.inr rfl) (pe_ifExp (pt_val (pe_callB call_isi (by rfl) T.isi PyProof.Rows.boot_isinstance (pa_cons (pv 2) (pa_cons (pe_glob (v := .ref CG) (by rfl) mG rfl) pa_nil)))) (pe_fld (pv 2) rfl) (pv 1))) hR), ?_⟩
  rcases hd with ⟨g, dg, tt, hd, hg, htt⟩ | ⟨hd, hno⟩
  · have g1 := DGet.k (k := .inr "_given") hd
    rw [valV_pos rfl] at g1
    refine ⟨_, rfl, d, rfl, .inl ⟨_, .inl hd⟩, _, g1, ?_⟩
    exact ⟨_, rfl, _, _, _, _, true, rfl, .own CG, .base (oG.ins hg), kYes, _, rfl, iteT ⟨_, rfl, g, CG, dg, _, _, rfl, hg, clG, nG, rfl, qR _ _ htt⟩⟩
  · have g := DGet.k (k := .inr "_given") hd
    rw [hno] at g
    exact ⟨_, rfl, d, rfl, .inl ⟨_, .inl hd⟩, _, g, _, rfl, _, _, _, _, false, rfl, .own CG, .base .non, kNo, _, rfl, iteF ⟨_, rfl, qR _ _ hd⟩⟩
theorem ok_pi {f fp dT : Addr} {fd fdp : FuncData} (GP : FnOk P w K mg base CX0 6 fp fdp ["body", "path"] (spPls K 5)) (mP : mg "placed_statements" = some (.ref fp)) (kP : PySem.W.keepIn K (.ref fp) = true) {ds : List Value} (bP : Binds K fdp ["body", "path"] ds) (vP : Vals [V.ref dT] ds) (hT : ∀ H, SqT K H dT []) {C CG : Addr} (cl : Cls K C) (nb : NoAttr K C "_bodies") (ns : NoAttr K C "_size") (ne : NoAttr K C "_events") (nc : NoAttr K C "_choices") (clG : Cls K CG) (nG : NoAttr K CG "table") (oG : OwnTy K CG) (kNo : PySem.W.kitOne K (.type "NoneType") (.ref CG) = some false) (kYes : PySem.W.kitOne K (.ref CG) (.ref CG) = some true) (T : TxtP mg) (mG : mg "Given" = some (.ref CG)) (gA : Glo P w K mg base "_are_program" 12 ["bodies"] spAp) (F : Fun K "__init__" "Program.__init__" sPi f fd) {key : Str} (hk : ¬ key = "self") : FnRest P w K mg base 13 f key (spPi K C CG) := by
  refine rest_ok F (x := ⟨"self", _, _⟩) (y := ⟨"bodies", _, _⟩) rfl scPi hk (fun vs H Q E h => ?_) fun cdv A outer s H vs Q E hr h => ?_
  · obtain ⟨x, d, dx, kvs, p, rfl, _⟩ := h
    rfl
  · exact pi_read (k := 12) GP mP kP bP vP hT cl nb ns ne nc clG nG oG kNo kYes T mG gA hr h
end
end FR
set_option Elab.async false
set_option linter.all false
set_option maxRecDepth 100000
set_option maxHeartbeats 1000000
/-! def f(self, **rest): a call with some keywords; C(key = e, ..) -/
namespace FR
open PySem PySem.Spec PyProof.Rows L2
theorem forIn_all {α β : Type} (g : β → α → β) {l : List α} {f : α → β → Sem (ForInStep β)} (h : ∀ a ∈ l, ∀ b, f a b = pure (.yield (g b a))) (b : β) : forIn l b f = pure (l.foldl g b) := by
  induction l generalizing b with
  | nil => rfl
  | cons x l ih =>
    rw [List.forIn_cons, h x List.mem_cons_self]
    simp only [pure_bind]
    rw [ih fun a ha => h a (List.mem_cons_of_mem _ ha)]
    rfl
theorem foldl_gather {α : Type} {γ : Type} (sl : γ) : ∀ (l acc : List α), l.foldl (fun (b : γ × List α) a => (b.1, b.2 ++ [a])) (sl, acc) = (sl, acc ++ l)
  | [], acc => by rw [List.append_nil]; rfl
  | x :: l, acc => by
    show l.foldl _ (sl, acc ++ [x]) = _
    rw [foldl_gather sl l (acc ++ [x]), List.append_assoc]
    rfl
abbrev kvsOf (ks : List (Str × Value)) : List (Key × Value) := ks.map fun p => (Sum.inr p.1, p.2)
theorem pairs_snoc {prog : Program} {w : World} {n : Str} {v : Value} {h : Int} {key : Value} (hk : keyIs (.inr n) key = true) : ∀ {l : List DictEntry} {m : List (Key × Value)}, Pairs (mixKind prog w) l m → Pairs (mixKind prog w) (l ++ [⟨h, key, v⟩]) (m ++ [(.inr n, v)])
  | _, _, .nil => .cons hk rfl .nil
  | _, _, .cons a b c => .cons a b (pairs_snoc hk c)
/-- a dict of texts takes one more -/
theorem nsSet_more {prog : Program} {w : World} {A : Around} {E : Value → Shared → Prop} {s : Shared} {a : Addr} {ks : List (Str × Value)} {name : Str} {v : Value} {Q : Unit → Shared → Prop} (ha : s.heap.DictOf (mixKind prog w) a (kvsOf ks)) (hn : name ∉ ks.map (·.1))
    (h : ∀ h', h'.DictOf (mixKind prog w) a (kvsOf (ks ++ [(name, v)])) → Heap.SameBut a s.heap h' → Q () { s with heap := h', toks := s.toks + 1 }) : wpAny (model prog w) A (nsSet a name v) Q E s := fun Γ p _ => by
  obtain ⟨⟨c, dd, dat, sl⟩, es, ep, ho, hex, hd, hk, hp, hnd⟩ := ha
  subst hd
  have allS : ∀ e ∈ es.toList, ∃ z t, e.key = .str z t ∧ z ∈ ks.map (·.1) := by
    clear hk hnd h ho hex
    generalize es.toList = l at hp
    induction ks generalizing l with
    | nil => cases hp; intro e he; cases he
    | cons q ks ih =>
      cases hp with
      | cons h1 h2 h3 =>
        intro e he
        rcases List.mem_cons.mp he with ee | he
        · subst ee
          obtain ⟨t, ht⟩ := Value.isStrOf_shape h1
          exact ⟨q.1, t, ht, List.mem_cons_self⟩
        · obtain ⟨z, t, a, b⟩ := ih (fun z => hn (List.mem_cons_of_mem _ z)) _ h3 e he
          exact ⟨z, t, a, List.mem_cons_of_mem _ b⟩
  have no : ∀ e ∈ es.toList, e.key.isStr name = false ∧ e.refKey = false := fun e he => by
    obtain ⟨z, t, a, b⟩ := allS e he
    constructor
    · rw [a]
      have : z ≠ name := fun q => hn (q ▸ b)
      simp [Value.isStr, this]
    · unfold DictEntry.refKey
      rw [a]
  have n1 : es.any (·.key.isStr name) = false := by
    rw [← Array.any_toList, List.any_eq_false]
    intro e he
    rw [(no e he).1]
    exact Bool.false_ne_true
  have n2 : es.any (·.refKey) = false := by
    rw [← Array.any_toList, List.any_eq_false]
    intro e he
    rw [(no e he).2]
    exact Bool.false_ne_true
  have n3 : es.findIdx? (·.key.isStr name) = none := by
    rw [Array.findIdx?_eq_none_iff]
    intro e he
    exact (no e (Array.mem_toList_iff.mpr he)).1
  have put : ∀ hh : Int, ∀ key : Value, Obj.putName name hh key v ⟨c, dd, .dict es ep, sl⟩ = ⟨c, dd, .dict (es.push ⟨hh, key, v⟩) (ep + 1), sl⟩ := fun hh key => by
    rw [Obj.putName_eq]
    unfold Obj.putNameByArray
    dsimp only
    rw [n3]
  simp only [nsSet, strHash, Sem.wp_bind', Sem.wp_cmd_ask, Sem.wp_pure', Sem.wp_cmd_mkText]
  rw [Sem.wp_loadPart_of (model prog w) Γ _ p { s with toks := s.toks + 1 } (o := ⟨c, dd, .dict es ep, sl⟩) _ ho]
  simp only [aRefKeyMayBeTheName_eq, aRefKeyMayBeTheNameByArray]
  rw [n1, n2, if_neg (by simp)]
  simp only [Sem.wp_cmd_updatePart]
  refine ⟨by rw [ho]; rfl, h _ ?_ (Heap.SameBut.update ..)⟩
  refine ⟨_, es.push ⟨_, _, v⟩, ep + 1, Heap.get?_update_self _ ho (by rw [put]; rfl), ?_, by rw [put], ?_, ?_, ?_⟩
  · rw [put]; exact hex
  · intro e he
    rcases Array.mem_push.mp he with he | he
    · exact hk e he
    · subst he
      exact ⟨.inr name, keyIs_str _ s.toks, rfl⟩
  · rw [Array.toList_push]
    show Pairs _ _ (List.map _ (ks ++ [(name, v)]))
    rw [List.map_append]
    exact pairs_snoc (keyIs_str _ s.toks) hp
  · show ((List.map _ (ks ++ [(name, v)])).map _).Nodup
    rw [List.map_append, List.map_append, List.nodup_append]
    refine ⟨hnd, by simp, fun a ha b hb => ?_⟩
    have eb : b = .inr name := List.mem_singleton.mp hb
    rw [eb]
    obtain ⟨q, hq, e⟩ := List.mem_map.mp ha
    obtain ⟨r, hr, e2⟩ := List.mem_map.mp hq
    intro z
    rw [← e, ← e2] at z
    exact hn (List.mem_map.mpr ⟨r, hr, Sum.inr.inj z⟩)
theorem nsSets {prog : Program} {w : World} {A : Around} {E : Value → Shared → Prop} {a : Addr} {Q : Unit → Shared → Prop} : ∀ (ks ls : List (Str × Value)) (s : Shared), s.heap.DictOf (mixKind prog w) a (kvsOf ls) → ((ls ++ ks).map (·.1)).Nodup →
    (∀ h' t, h'.DictOf (mixKind prog w) a (kvsOf (ls ++ ks)) → Heap.SameBut a s.heap h' → Q () { s with heap := h', toks := t }) → wpAny (model prog w) A (List.foldlM (fun (_ : PUnit) x => nsSet a x.1 x.2) PUnit.unit ks) Q E s
  | [], ls, s, ha, hn, h => by
    rw [List.append_nil] at h
    exact wpAny_pure (h s.heap s.toks ha (Heap.SameBut.refl a _))
  | x :: ks, ls, s, ha, hn, h => by
    have e : ls ++ x :: ks = (ls ++ [x]) ++ ks := by rw [List.append_assoc]; rfl
    rw [e] at hn h
    rw [List.foldlM_cons]
    refine wpAny_bind (nsSet_more ha ?_ fun h' ha' sb => nsSets ks (ls ++ [x]) _ ha' hn fun h'' t ha'' sb' => h h'' t ha'' (sb.trans sb'))
    rw [List.map_append, List.map_append, List.append_assoc, List.nodup_append] at hn
    exact fun z => hn.2.2 _ z _ List.mem_cons_self rfl
theorem bind_rests {prog : Program} {w : World} {A : Around} {E : Value → Shared → Prop} {s : Shared} {Q : List (Str × Value) → Shared → Prop} {fd : FuncData} {x y : Arg} {ks : List (Str × Value)} {u : Value} 
    (hp : fd.params = ⟨[], [x], none, [], [], some y, []⟩) (hd : fd.defaults = .none) (hk : ∀ p ∈ ks, ¬ p.1 = x.arg) (hn : (ks.map (·.1)).Nodup) (few : ks.length ≤ sizeLine)
    (h : ∀ h' d t, h'.DictOf (mixKind prog w) d (kvsOf ks) → s.heap.objs.size = d → (∀ b o, s.heap.get? b = some o → h'.get? b = some o) → Q [(x.arg, u), (y.arg, .ref d)] { s with heap := h', toks := t }) :
    wpAny (model prog w) A (bindArgs fd ⟨[u], ks⟩) Q E s := by
  unfold bindArgs
  rw [hp, hd]
  simp [seqItems?]
  rw [forIn_all (fun b a => (b.1, b.2 ++ [a])) (fun a ha b => by simp [hk a ha])]
  rw [foldl_gather]
  simp
  have f2 : ¬ sizeLine + 1 < ks.length := by omega
  rw [if_neg f2]
  refine wpAny_bind (wpAny_pure (wpAny_bind (wpAny_alloc ?_)))
  rw [← bind_pure_comp]
  have d0 : (s.heap.push { cls := .type "dict", data := .dict #[] }).DictOf (mixKind prog w) s.heap.objs.size (kvsOf []) :=
    ⟨_, #[], 0, Heap.get?_push_size _ rfl, ⟨rfl, rfl, rfl⟩, rfl, (fun e he => by simp at he), .nil, List.nodup_nil⟩
  refine wpAny_bind (nsSets ks [] _ d0 (by simpa using hn) fun h' t ha sb => wpAny_pure (h h' _ t (by simpa using ha) rfl fun b o e => ?_))
  exact (sb.2 b (Nat.ne_of_lt (Heap.lt_size e))).trans (Heap.get?_push_of_some _ e)
/-- the keywords, as a dict -/
def dkOf (ks : List Str) (gs : List V) : List (Key × V) := (ks.zip gs).map fun p => (.inr p.1, p.2)
theorem dkOf_kv : ∀ (ks : List Str) {gs : List V} {ws : List Value}, Vals gs ws → KV (dkOf ks gs) (kvsOf (ks.zip ws))
  | [], _, _, _ => .nil
  | _ :: _, [], [], .nil => .nil
  | _ :: ks, _ :: _, _ :: _, .cons a b => .cons ⟨rfl, a⟩ (dkOf_kv ks b)
/-- def f(x, **y), called with one value and keywords of these names -/
structure FnRs (P : Program) (w : World) (K : PySem.W.Frag) (mg : Str → Option Value) (base : Heap) (k : Nat) (f : Addr) (ks : List Str) (sp : Sp) : Prop where
  run : ∀ (A : Around) (outer : List Env) (s : Shared) (H : Hp) (u : Value) (ws : List Value) (vu : V) (gs : List V) (Q : VK) (E : XK), Room k A → Env0 P w K mg base A outer s H → RelV vu u → Vals gs ws → ws.length = ks.length → (∀ d, H d = none → sp [vu, .ref d] (upd H d (.dK (dkOf ks gs))) Q E) →
    codeAny (model P w) A (.call (.ref f) ⟨[u], ks.zip ws⟩) (CR CX0 outer P w H s Q E) s
section
variable {P : Program} {w : World} {K : PySem.W.Frag} {mg : Str → Option Value} {base : Heap}
theorem rests_ok {nm qual : Str} {ks : List Str} {x y : Arg} {st : Stmt} {f : Addr} {fd : FuncData} {N : List Str} {k : Nat} {sp : Sp} (F : Fun K nm qual st f fd) (hp : defArgs st = ⟨[], [x], none, [], [], some y, []⟩) (S : FnScope N [x.arg, y.arg] (defScope st)) (hk : ∀ k ∈ ks, ¬ k = x.arg) (hnd : ks.Nodup) (hfew : ks.length ≤ 900)
    (len : ∀ vs H Q E, sp vs H Q E → vs.length = 2)
    (hbody : ∀ (cdv : Value) (A : Around) (outer : List Env) (s : Shared) (H : Hp) (vs : List V) (Q : VK) (E : XK), Room k (A.deeper (envOfC qual (defScope st) s.heap.objs.size f cdv)) → sp vs H Q E →
      ∃ t, PSs (cxOf CX0 P w K mg base N qual (defScope st) f cdv A outer s H E).nox (defBody st) t ∧ t { nx := fun _ H' => Q .non H', rt := Q } (start N vs) H) : FnRs P w K mg base (k + 1) f ks sp := by
  obtain ⟨oc, od, kV, doc, pm, an, cdv, ct, osl, rfl, lk, hcd⟩ := F.ex
  refine ⟨fun A outer s H u ws vu gs Q E hr e0 ru rg hlw hsp => ?_⟩
  have ez : (ks.zip ws).map (·.1) = ks := List.map_fst_zip (by omega)
  have lz : (ks.zip ws).length = ks.length := by rw [List.length_zip]; omega
  have KX0 : K.In s.heap := e0.mod.kin.keeps fun b o e => (e0.bs b o e).1
  refine codeAny_call_function hr.depth (KX0 _ _ lk) rfl S.co S.gen rfl (PySem.W.codeRec_of KX0 hcd) (bind_rests hp rfl (fun p hp => hk _ (by rw [← ez]; exact List.mem_map.mpr ⟨p, hp, rfl⟩)) (by rw [ez]; exact hnd) (by rw [lz, sizeLine_eq]; omega) fun h' d tk hd' ed keep => ?_)
  -- the state behind the binding
  have hn : H d = none := e0.hok.fresh (Nat.le_of_eq ed)
  have hlt : d < h'.objs.size := by
    obtain ⟨o, es, ep, e, _⟩ := hd'
    exact Heap.lt_size e
  have big : sysModules < s.heap.objs.size := by
    have h : mainGlobals < s.heap.objs.size := (e0.mod.glob.keeps fun b o e => (e0.bs b o e).1).lt
    exact Nat.lt_trans (by decide) h
  have hok : HOk P w (upd H d (.dK (dkOf ks gs))) h' := e0.hok.laid keep (Nat.le_of_eq ed) ⟨by unfold dkOf; rw [List.length_map, List.length_zip, sizeLine_eq]; omega, beq_eq_false_iff_ne.mpr (by rw [← ed]; exact Ne.symm (Nat.ne_of_lt big)), _, dkOf_kv ks rg, hd'⟩
  have un : Un (frs outer) [] H (upd H d (.dK (dkOf ks gs))) s.heap h' := Un.laid keep (Nat.le_of_eq ed) hn
  have e1 : Env0 P w K mg base A outer { s with heap := h', toks := tk } (upd H d (.dK (dkOf ks gs))) := by
    refine ⟨e0.frames, e0.mod, fun b o e => ⟨keep _ _ (e0.bs b o e).1, ?_⟩, Nat.le_trans e0.bsz (by rw [ed]; exact Nat.le_of_lt hlt), Heap.FunFrames.of_keeps (fun b o e _ => ⟨o, keep _ _ e, rfl⟩) e0.funs, fun b hb => ?_, hok, e0.bare⟩
    · have lt := Heap.lt_size (e0.bs b o e).1
      rw [ed] at lt
      rw [upd_ne (Nat.ne_of_lt lt)]
      exact (e0.bs b o e).2
    · have hb0 := e0.frf b hb
      obtain ⟨o, e⟩ := frs_there e0.funs b hb
      have lt := Heap.lt_size e
      rw [ed] at lt
      rw [upd_ne (Nat.ne_of_lt lt)]
      exact hb0
  have q1 := hsp d hn
  generalize hs1 : ({ s with heap := h', toks := tk } : Shared) = s1 at e1
  have es1 : s1.heap = h' := by rw [← hs1]
  have eo1 : s1.os = s.os := by rw [← hs1]
  have hl : [vu, V.ref d].length = [x.arg, y.arg].length := rfl
  have r : Vals [vu, V.ref d] [u, Value.ref d] := .cons ru (.cons rfl .nil)
  have KX : K.In s1.heap := e1.mod.kin.keeps fun b o e => (e1.bs b o e).1
  have lim : s1.heap.NoLimit := e1.mod.nolimit.keeps fun b o e => (e1.bs b o e).1
  have hkind : ∀ z ∈ [x.arg, y.arg].zip [u, Value.ref d], (defScope st).names.lookup z.1 = some .local ∨ ((defScope st).names.lookup z.1 = some .cell ∧ ((cellsFrom (s1.heap.objs.size + 1) (defScope st).names []).lookup z.1).isSome = true) := fun ⟨n, v⟩ hy => by
    rcases S.par n (List.of_mem_zip hy).1 with q | q
    · exact .inl q
    · exact .inr ⟨q, PySem.W.cellsFrom_some _ _ _ (.inl q)⟩
  refine wpAny_newFunctionEnv_cells (binds := [x.arg, y.arg].zip [u, Value.ref d]) S.kind hkind fun env he s2 x2 => ?_
  subst he
  refine ⟨lim.keeps x2.toInCall.keep, codeAny_func ?_⟩
  obtain ⟨t, ht, hq⟩ := hbody cdv A outer s1 _ _ _ _ (hr.deeper _) q1
  have I : Inv (cxOf CX0 P w K mg base N qual (defScope st) f cdv A outer s1 (upd H d (.dK (dkOf ks gs))) E) [] (start N [vu, V.ref d]) (upd H d (.dK (dkOf ks gs))) s2 := inv_start S hr.hd e1 hl r x2
  refine wpAny_mono (ht.nox.run [] s2 (start N [vu, V.ref d]) _ _ I hq) (fun fl s' hs => ?_) fun e s' hs => hs
  have fin : ∀ {σ' : L2.St} {H' : Hp} {v : V} {u : Value}, Inv (cxOf CX0 P w K mg base N qual (defScope st) f cdv A outer s1 (upd H d (.dK (dkOf ks gs))) E) [] σ' H' s' → RelV v u → Q v H' → CE outer P w H s Q u s' :=
    fun {σ' H' v u} J rv q => ⟨v, H', J.os.trans eo1, J.bare, un.trans (by rw [← es1]; exact J.base), J.hok, rv, q⟩
  cases fl with
  | ret u =>
    obtain ⟨v, σ', H', J, rv, q⟩ := hs
    exact fin J rv q
  | next =>
    obtain ⟨σ', H', J, q⟩ := hs
    exact fin (v := V.non) (u := Value.none) J rfl q
  | brk =>
    obtain ⟨_, _, _, q⟩ := hs
    exact False.elim q
  | cont =>
    obtain ⟨_, _, _, q⟩ := hs
    exact False.elim q
end
/-- a new instance and its dict, a new dict of the keywords, then __init__ -/
def tMakeRs (C : Addr) (ks : List Str) (sp : Sp) (tk : TA) : TE := fun σ H Q => tk σ H fun zs H2 => zs.length = ks.length ∧ ∀ x dx, H2 x = none → H2 dx = none → dx ≠ x → ∀ d, upd (upd H2 dx (.own x)) x (.ins C dx []) d = none →
  sp [.ref x, .ref d] (upd (upd (upd H2 dx (.own x)) x (.ins C dx [])) d (.dK (dkOf ks zs))) (fun v H3 => v = .non ∧ Q (.ref x) H3) E0
section
variable {X : Cx} {k : Nat} {f C : Addr} {ks : List Str} {sp : Sp} {x : Str} {p pos : Pos} {kws : List Keyword} {tk : TA}
theorem pe_makeRs (M : Mk X.K C f) (F : FnRs X.prog X.w X.K X.mg X.base k f ks sp) (hr : Room (k + 1) X.A) (hg : Gl X x) (hm : X.mg x = some (.ref C)) (hkw : PK X kws tk)
    (hall : (backToKw pos (keywordEach kws X.env)).all (·.1.isSome) = true := by rfl) (hks : (backToKw pos (keywordEach kws X.env)).filterMap (·.1) = ks := by rfl) (hdb : (x == ("__debug__" : Str)) = false := by decide)
    (hpl : ((backTo pos (starEach [] X.env)).any (·.1) || (backToKw pos (keywordEach kws X.env)).any (·.1.isNone)) = false := by rfl) :
    PE X (.Call (.Name x p) [] kws pos) (tMakeRs C ks sp tk) := by
  refine ⟨fun pins s σ H Q I h => ?_⟩
  refine wpAny_Call_Name_kw (ld_glob I hg hm ?_ hdb)
  refine PySem.W.callWith_KW0 (h₀ := X.base) I.ok.mod.kin M.kp hall ?_ hpl
  refine thn (hkw.run pos pins s σ H _ I h) fun ws s2 ⟨zs, H2, I2, rz, lz, q2⟩ => ⟨I2.kIn, ?_⟩
  rw [hks]
  have hlw : ws.length = ks.length := by rw [← rz.length]; exact lz
  have hq := q2 (s2.heap.objs.size + 1) s2.heap.objs.size (I2.hok.fresh (Nat.le_succ _)) (I2.hok.fresh (Nat.le_refl _)) (Nat.ne_of_lt (Nat.lt_succ_self _))
  have I3 := Inv.made (C := C) I2
  refine wpAny_call (make_map (f := f) I2.kIn M.makes M.init (beq_iff_eq.mp M.fn) (codeAny_mono (F.run _ X.stack _ _ (.ref (s2.heap.objs.size + 1)) ws (.ref (s2.heap.objs.size + 1)) zs _ E0 (hr.make C [] (ks.zip ws)) (I3.env0.make C [] (ks.zip ws)) rfl rz hlw hq) fun r s' hq' => ?_))
  cases r with
  | error e => exact False.elim hq'
  | ok fl =>
    cases fl with
    | ret u =>
      obtain ⟨v, H', I4, rv, ev, q3⟩ := I3.after hq'
      subst ev
      exact ⟨rv, ⟨V.ref (s2.heap.objs.size + 1), H', I4, rfl, q3⟩⟩
    | next => exact False.elim hq'
    | brk => exact False.elim hq'
    | cont => exact False.elim hq'
end
end FR
set_option Elab.async false
set_option linter.all false
set_option maxRecDepth 100000
set_option maxHeartbeats 1000000
/-! C.m(e, ..), m a staticmethod; Program.of -/
namespace FR
open PySem PySem.Spec PyProof.Rows L2
/-- C.m is a staticmethod: its record at p, its def at g -/
structure SMet (K : PySem.W.Frag) (C : Addr) (mc : Value) (m : Str) (p g : Addr) : Prop where
  at_ : PySem.W.findCls K (.ref C) mc m = some (.get (.builtin "staticmethod.__get__") (.ref p) .none (.ref C))
  rc : ∃ rest, PySem.W.recIn K p "staticmethod" = some (.ref g :: rest)
  hv : PySem.W.handedIn (.ref g) = true
  kp : PySem.W.keepIn K (.ref g) = true
def tSMeth (C : Addr) (sp : Sp) (dvs : List V) (E : XK) (ta : TE) (t : TA) : TE := fun σ H Q => ta σ H fun x H1 => x = .ref C ∧ t σ H1 fun vs H2 => sp (vs ++ dvs) H2 Q E
section
variable {X : Cx} {CX : CXT} {k : Nat} {C p g : Addr} {mc : Value} {fd : FuncData} {ps : List Str} {sp : Sp} {ds : List Value} {dvs : List V} {E : XK} {o e : Expr} {es : List Expr} {m : Str} {pos apos : Pos} {ta : TE} {t : TA} {pl : Sem Bool}
theorem pe_smeth (he : PE X o ta) (r : ClX.CRead X.K C mc) (c : SMet X.K C mc m p g) (F : FnOk X.prog X.w X.K X.mg X.base CX k g fd ps sp) (hr : Room k X.A) (hb : Binds X.K fd ps ds) (hd : Vals dvs ds) (hx : Passes CX X E) (ha : PA X (e :: es) t)
    (hst : starEach (e :: es) X.env = (false, eval e X.env) :: starEach es X.env := by rfl) (hpl : (backTo pos (starEach es X.env)).any (·.1) = false := by rfl)
    (ht : eval (.Call (.Attribute o m apos) (e :: es) [] pos) X.env = (do
      let ov ← eval o X.env
      standAt apos.atName
      let (f, first) ← holding [ov] (getMethod ov m pl)
      callWith pos f first (backTo pos (starEach (e :: es) X.env)) (backToKw pos (keywordEach [] X.env))) := by rfl) :
    PE X (.Call (.Attribute o m apos) (e :: es) [] pos) (tSMeth C sp dvs E ta t) := by
  refine ⟨fun pins s σ H Q I h => ?_⟩
  refine PySem.W.methodCall_KW (pl := pl) (thn (he.run pins s σ H _ I h) fun u s1 ⟨x, H1, I1, rx, ex, q⟩ => ?_) ht
  subst ex
  obtain rfl : u = Value.ref C := rx
  obtain ⟨rest, hp⟩ := c.rc
  refine PySem.W.method_cls I1.kIn r.ga (PySem.W.cls_bind I1.kIn r.rd c.at_ (wpAny_call (PySem.W.sm_get (s := { s1 with toks := s1.toks + 1 }) I1.kIn hp (PySem.W.handed_on c.hv ?_))))
  have I2 : Inv X pins σ H1 { s1 with toks := s1.toks + 1 } := I1.tok _
  refine PySem.W.callWith_K (h₀ := X.base) I2.ok.mod.kin c.kp (thn (ha.run pos pins _ σ H1 _ I2 q) fun us s3 ⟨vs, H3, I3, rv, q3⟩ => ⟨I3.kIn, ?_⟩) hst hpl
  exact run_fn F hr hb hd hx I3 rv q3
end
section
variable {P : Program} {w : World} {K : PySem.W.Frag} {mg : Str → Option Value} {base : Heap}
abbrev sPo : Stmt := inClass (top 36) 1
theorem scPo : FnScope ["bodies"] ["bodies"] (defScope sPo) := ⟨rfl, rfl, rfl, by decide +kernel, rfl, by decide +kernel, by decide +kernel⟩
def spOf (K : PySem.W.Frag) (C : Addr) : Sp := fun vs H Q _ => ∃ t kvs p, vs = [.ref t] ∧ H t = some (.dK kvs) ∧ PrgK H kvs p ∧ Prg p ∧ (names p).Nodup ∧
  ∀ q x H', q.Perm p → sortedS (names q) = true → H x = none → Same H H' → IsPg K C H' x q → FreshB H H' x → Q (.ref x) H'
/-- what a new instance's __init__ asks, from what the caller wants -/
theorem new_pi {C CG : Addr} {H HG : Hp} {x dx d : Addr} {kvs gvs : List (Key × V)} {p : Pg} {Q : VK} (s1 : Same H HG) (nx : HG x = none) (ndx : HG dx = none) (nex : dx ≠ x) (nd : upd (upd HG dx (.own x)) x (.ins C dx []) d = none)
    (hk : PrgK H kvs p) (hp : Prg p) (hn : (names p).Nodup) (hg : (∃ g dg t, gvs = [(.inr "_given", .ref g)] ∧ HG g = some (.ins CG dg [("table", .ref t)]) ∧ HG t = some (.dK kvs)) ∨ (gvs = kvs ∧ valV kvs (.inr "_given") = none))
    (q : ∀ q x H', q.Perm p → sortedS (names q) = true → H x = none → Same H H' → IsPg K C H' x q → FreshB H H' x → Q (.ref x) H') {E : XK} :
    spPi K C CG [V.ref x, V.ref d] (upd (upd (upd HG dx (.own x)) x (.ins C dx [])) d (.dK gvs)) (fun v H3 => v = V.non ∧ Q (.ref x) H3) E := by
  have ndx' : d ≠ x := fun e => by rw [e, upd_same] at nd; cases nd
  have keep : ∀ a o, HG a = some o → upd (upd (upd HG dx (.own x)) x (.ins C dx [])) d (.dK gvs) a = some o := fun a o e => by
    have n1 : a ≠ x := ne_of_none e nx
    have n2 : a ≠ dx := ne_of_none e ndx
    have n3 : a ≠ d := fun z => by
      rw [← z, upd_ne n1, upd_ne n2, e] at nd
      cases nd
    rw [upd_ne n3, upd_ne n1, upd_ne n2]
    exact e
  have s2 : Same H (upd (upd (upd HG dx (.own x)) x (.ins C dx [])) d (.dK gvs)) := fun a o e => keep _ _ (s1 _ _ e)
  have hxN : H x = none := by
    cases e : H x with
    | none => rfl
    | some o => rw [s1 _ _ e] at nx; cases nx
  refine ⟨x, d, dx, kvs, p, rfl, by rw [upd_ne (Ne.symm ndx'), upd_same], ?_, (Tk.same s2).pg hk, hp, hn, fun qq H' qp qs b i f => ⟨rfl, q qq x H' qp qs hxN (fun a o e => b a o (ne_of_none e hxN) (s2 _ _ e)) i (f.back s2)⟩⟩
  rcases hg with ⟨g, dg, t, e1, e2, e3⟩ | ⟨e1, e2⟩
  · exact .inl ⟨g, dg, t, by rw [upd_same, e1], keep _ _ e2, keep _ _ e3⟩
  · exact .inr ⟨by rw [upd_same, e1], e2⟩
theorem ok_of {f fi gi C CG : Addr} {fd gd : FuncData} (F : Fun K "of" "Program.of" sPo f fd) (M : Mk K C fi) (G : FnRs P w K mg base 13 fi ["_given"] (spPi K C CG)) (mC : mg "Program" = some (.ref C)) (MG : Mk K CG gi) (GG : FnOk P w K mg base CX0 1 gi gd ["self", "table"] (spGi CG)) (mG : mg "Given" = some (.ref CG)) (bG : Binds K gd ["self", "table"] []) : FnOk P w K mg base CX0 15 f fd ["bodies"] (spOf K C) := by
  refine F.ok scPo (fun vs H Q E h => ?_) (fun cdv A outer s H vs Q E hr h => ?_)
  · obtain ⟨t, kvs, p, rfl, _⟩ := h
    rfl
  · obtain ⟨t, kvs, p, rfl, ht, hk, hp, hn, q⟩ := h
    refine ⟨_, pss_one (ps_ret (pe_makeRs M G hr (by rfl) mC (pk_cons (pe_make MG GG (hr.mono (by decide)) (by rfl) mG bG .nil pass0 (pa_cons (pv 0) pa_nil)) pk_nil))), ?_⟩
    refine ⟨_, rfl, fun g dg ng ndg neg => ⟨g, dg, V.ref t, rfl, upd_same, ?_⟩⟩
    have s1 : Same H (upd (upd (upd H dg (.own g)) g (.ins CG dg [])) g (.ins CG dg [("table", .ref t)])) := fun a o e => by
      have n1 : a ≠ g := ne_of_none e ng
      have n2 : a ≠ dg := ne_of_none e ndg
      rw [upd_ne n1, upd_ne n1, upd_ne n2]
      exact e
    have hg1 : (upd (upd (upd H dg (.own g)) g (.ins CG dg [])) g (.ins CG dg [("table", .ref t)])) g = some (.ins CG dg [("table", .ref t)]) := upd_same
    refine ⟨rfl, rfl, ?_⟩
    generalize upd (upd (upd H dg (.own g)) g (.ins CG dg [])) g (.ins CG dg [("table", .ref t)]) = HG at s1 hg1 ⊢
    intro x dx nx ndx nex d nd
    exact new_pi (HG := HG) s1 nx ndx nex nd hk hp hn (.inl ⟨g, dg, t, rfl, hg1, s1 _ _ ht⟩) q
end
end FR
set_option Elab.async false
set_option linter.all false
set_option maxRecDepth 100000
set_option maxHeartbeats 1000000
/-! len(x), v in x, x[v] by own methods -/
namespace L2
open PySem PySem.Spec PyProof.Rows PySem.Calls
section
variable {X : Cx} {CX : CXT} {k : Nat} {f C a : Addr} {fd : FuncData} {ps : List Str} {sp : Sp} {E : XK}
/-- len(x) -/
def rLenOwn (C : Addr) (sp : Sp) (E : XK) : List V → Hp → VK → Prop := fun xs H Q => ∃ a dx fs, xs = [.ref a] ∧ H a = some (.ins C dx fs) ∧ sp [.ref a] H (fun z H' => ∃ n : Int, z = .int n ∧ (0 ≤ n ∧ n < 2 ^ 63) ∧ Q z H') E
theorem call_lenOwn (D : Dun X.K C "__len__" f) (F : FnOk X.prog X.w X.K X.mg X.base CX k f fd ps sp) (hr : Room (k + 1) X.A) (hb : Binds X.K fd ps []) (hx : Passes CX X E) : CallR X (.builtin "len") (rLenOwn C sp E) := by
  intro pins s σ H xs us Q I r ⟨a, dx, fs, ex, ea, h⟩
  subst ex
  obtain ⟨u, rfl, ru⟩ := vals1 r
  cases (show u = .ref a from ru)
  obtain ⟨od, J, _⟩ := ins_at I ea
  obtain ⟨m, hF⟩ := I.fr
  refine PySem.W.len_K hF I.ok.mod.kin J D.at_ D.fn (wpAny_mono (run_sub ⟨hr.in1, rfl⟩ F hb hx I (.cons (rRef a) .nil) h) (fun w' s' ⟨z, H', I', rz, n, ez, hn, q⟩ => ?_) fun _ _ e => e)
  subst ez
  obtain ⟨t, rfl⟩ := rz
  exact ⟨hn, .int n, H', I'.tok _, rInt n _, q⟩
/-- v in x -/
def rInOwn (C : Addr) (sp : Sp) (E : XK) : R2 := fun x y H Q => ∃ a dx fs, y = .ref a ∧ H a = some (.ins C dx fs) ∧ sp [.ref a, x] H (fun z H' => ∃ r, z = .bl r ∧ Q z H') E
theorem op_inOwn (D : Dun X.K C "__contains__" f) (F : FnOk X.prog X.w X.K X.mg X.base CX k f fd ps sp) (hr : Room k X.A) (hb : Binds X.K fd ps []) (hx : Passes CX X E) : OpR X (compareOp .In) (rInOwn C sp E) := by
  intro pins s σ H x y v u Q I rx ry ⟨a, dx, fs, ey, ea, h⟩
  subst ey
  cases (show u = .ref a from ry)
  obtain ⟨od, J, _⟩ := ins_at I ea
  obtain ⟨m, hF⟩ := I.fr
  refine PySem.W.in_K hF I.ok.mod.kin J D.at_ D.fn (wpAny_mono (run_sub ⟨hr, rfl⟩ F hb hx I (.cons (rRef a) (.cons rx .nil)) h) (fun w' s' ⟨z, H', I', rz, r, ez, q⟩ => ?_) fun _ _ e => e)
  subst ez
  cases (show w' = .bool r from rz)
  exact wpAny_truthy_bool ⟨.bl r, H', I', rfl, q⟩
def rNotInOwn (C : Addr) (sp : Sp) (E : XK) : R2 := fun x y H Q => ∃ a dx fs, y = .ref a ∧ H a = some (.ins C dx fs) ∧ sp [.ref a, x] H (fun z H' => ∃ r, z = .bl r ∧ Q (.bl (!r)) H') E
theorem op_notInOwn (D : Dun X.K C "__contains__" f) (F : FnOk X.prog X.w X.K X.mg X.base CX k f fd ps sp) (hr : Room k X.A) (hb : Binds X.K fd ps []) (hx : Passes CX X E) : OpR X (compareOp .NotIn) (rNotInOwn C sp E) := by
  intro pins s σ H x y v u Q I rx ry ⟨a, dx, fs, ey, ea, h⟩
  subst ey
  cases (show u = .ref a from ry)
  obtain ⟨od, J, _⟩ := ins_at I ea
  obtain ⟨m, hF⟩ := I.fr
  refine PySem.W.notIn_K hF I.ok.mod.kin J D.at_ D.fn (wpAny_mono (run_sub ⟨hr, rfl⟩ F hb hx I (.cons (rRef a) (.cons rx .nil)) h) (fun w' s' ⟨z, H', I', rz, r, ez, q⟩ => ?_) fun _ _ e => e)
  subst ez
  cases (show w' = .bool r from rz)
  exact wpAny_truthy_bool ⟨.bl (!r), H', I', rfl, q⟩
/-- x[v] -/
def tSubOwn (C : Addr) (sp : Sp) (E : XK) (to te : TE) : TE := fun σ H Q => to σ H fun x H1 => te σ H1 fun y H2 => ∃ a dx fs, x = .ref a ∧ H2 a = some (.ins C dx fs) ∧ sp [.ref a, y] H2 Q E
variable {o e : Expr} {to te : TE} {pos : Pos}
theorem pe_subOwn (D : Dun X.K C "__getitem__" f) (hfi : PySem.W.fnIn X.K f = true) (F : FnOk X.prog X.w X.K X.mg X.base CX k f fd ps sp) (hr : Room (k + 1) X.A) (hb : Binds X.K fd ps []) (hx : Passes CX X E) (ho : PE X o to) (he : PE X e te)
    (hsl : ∀ x i, subscripted e true (.ref x) i = runValue (.builtin "lifetime.subscript" ⟨[.ref x, i], []⟩) := by intro _ _; with_unfolding_all rfl) : PE X (.Subscript o e pos) (tSubOwn C sp E to te) := by
  refine ⟨fun pins s σ H Q I h => ?_⟩
  refine Subscript_ (thn (ho.run pins s σ H _ I h) fun v s1 ⟨x, H1, I1, rx, q1⟩ => thn (he.run pins s1 σ H1 _ I1 q1) fun u s2 ⟨y, H2, I2, ry, a, dx, fs, ex, ea, q2⟩ => ?_)
  subst ex
  cases (show v = .ref a from rx)
  obtain ⟨od, J, _⟩ := ins_at I2 ea
  obtain ⟨m, hF⟩ := I2.fr
  exact PySem.W.sub_K hF I2.ok.mod.kin J D.at_ hfi D.fn (run_sub ⟨hr.in1, rfl⟩ F hb hx I2 (.cons (rRef a) (.cons ry .nil)) q2) (hsl a u)
end
end L2
set_option Elab.async false
set_option linter.all false
set_option maxRecDepth 100000
set_option maxHeartbeats 2000000
/-! KeyError: its __new__ is that of LookupError, its __init__ its own -/
namespace XN
open PySem PySem.W PySem.Calls PyProof.Rows PySem.Spec
abbrev keB : List Value := [.type "KeyError", .type "LookupError", .type "Exception", .type "BaseException", .type "object"]
theorem ke_kxs : KxsFacts "KeyError" "KeyError.__init__" :=
  { typ := (by show builtinType _ = _; rw [builtinType_eq_fast] <;> kernel_rfl), nac := (by first | kernel_rfl | rfl) }
theorem ke_store : StoreFacts "KeyError" keB "object.__setattr__" "object" := {
  mro := (by kernel_rfl), entry := PySem.F.store_ValueError.entry, kind := (by decide +kernel), split := (by decide +kernel), hasOwner := (by decide +kernel), args := PySem.F.store_ValueError.args, passes := (fun _ => by kernel_rfl),
  slot := .of (owner := "object") (n := "__setattr__") (by rw [typeLookup_type, builtinLookup_eq_fast] <;> kernel_rfl) (by decide +kernel) (by decide +kernel) (by decide +kernel) (by first | exact .inl (by decide +kernel) | exact .inr (by decide +kernel)) (by rw [isSubtype_type] <;> kernel_rfl) }
theorem ke_init : Slot "KeyError" "__init__" "KeyError.__init__" :=
  .of (owner := "KeyError") (n := "__init__") (by rw [typeLookup_type, builtinLookup_eq_fast] <;> kernel_rfl) (by decide +kernel) (by decide +kernel) (by decide +kernel) (by first | exact .inl (by decide +kernel) | exact .inr (by decide +kernel)) (by rw [isSubtype_type] <;> kernel_rfl)
theorem ke_initEntry : entryFor table "KeyError.__init__" = some Builtin.«BaseException.__init__» :=
  entryFor_alias (id' := "BaseException.__init__") (by rw [fastTable_eq_tree] <;> kernel_rfl) (by first | rfl | decide +kernel) (by decide +kernel) (by rw [fastTable_eq_tree] <;> kernel_rfl)
theorem ke_kind : builtinKind "KeyError.__init__" = some .slot := by kernel_rfl
theorem ke_row : Manifest.signature? "KeyError.__init__" = some ⟨.positional, "*", "KeyError", .self, [⟨"args", .varPos, false⟩]⟩ := by kernel_rfl
section
variable {prog : Program} {w : World} {M : Model} {A : Around} {E : Value → Shared → Prop} {R : Result → Shared → Prop} {h : Heap} {g : Array GenState} {d : Drawn} {t : Nat} {os : OsState}
variable {nm q : Str} {C N : Addr} {bs bm bmB : List Value} {hdct : Bool} {sn : List Str} {sub : List Value} {ab : Bool} {col : Option Bool} {dd : Option Addr} {k0 k1 k2 k3 k5 : Option Value} {B newId initId : String}
theorem ke_bound {e : Addr} {oe : Obj} {rest : List Value} {Q : Unit → Shared → Prop} (hC : h.get? C = some (excClassObj nm q C N bs bm hdct sn sub ab col dd k0 k1 k2 k3 k5 newId)) (he : h.get? e = some oe) (hcls : oe.cls = .ref C)
    (hq : Q () ⟨h, g, d, t, os⟩) : wpAny M A (checkBoundCall "KeyError.__init__" ⟨.ref e :: rest, []⟩) Q E ⟨h, g, d, t, os⟩ := by
  have hshort : ("KeyError" != "*") = true := by decide +kernel
  simp only [checkBoundCall, ke_kind, ke_row]
  repeat (first
    | (with_reducible refine wpAny_loadPart_at he ?_; rw [hcls])
    | with_reducible refine wpAny_loadPart_at hC ?_
    | wp_step)
  refine wpAny_onRaise ?_
  have z : ∀ (a b : String) (n : Nat), Bind.check ⟨.positional, "*", "KeyError", .self, [⟨"args", .varPos, false⟩]⟩ a b n (List.map (fun x => x.fst) ({ pos := Value.ref e :: rest } : Args).kw) = pure () := fun a b n => check_star_args _ _ _ _ _ _
  rw [z]
  exact wpAny_pure hq
theorem ke_bw {u e t0 : Addr} {rest : List Value} {Q : Value → Shared → Prop} (hC : h.get? C = some (excClassObj nm q C N bs bm hdct sn sub ab col dd k0 k1 k2 k3 k5 newId)) (he : h.get? e = some (excObj C t0 none .none))
    (hu : h.get? u = some (kxs_mw "KeyError.__init__" e)) (hz : rest.length ≤ sizeLine)
    (hq : ∀ h' t1, (∀ b o, b ≠ e → h.get? b = some o → h'.get? b = some o) → h'.get? e = some (excObj C t1 none .none) → Q .none ⟨h', g, d, t, os⟩) : wpAny (model prog w) A (call (.ref u) rest) Q E ⟨h, g, d, t, os⟩ := by
  refine wpAny_call (codeAny_of_tree (show wpAny _ A.in1 (callAny (.ref u) ⟨rest, []⟩) _ _ _ from ?_))
  simp only [callAny]
  refine wpAny_bind (wpAny_load hu ?_)
  have y : (Value.type "method-wrapper" == Value.type "method" || Value.type "method-wrapper" == Value.type "builtin_function_or_method" || Value.type "method-wrapper" == Value.type "method-wrapper") = true := by decide
  simp only [kxs_mw, y, if_true]
  refine KFB.if_so (by decide) (wpAny_bind (ke_bound hC he rfl ?_))
  refine wpAny_bind (wpAny_pure (wpAny_pure ⟨plainId_quiet ke_init.plain _, codeAny_builtin ke_initEntry ?_⟩))
  exact exc_init_tree (cls := .ref C) (t0 := t0) (dv := none) (c2 := .none) (c3 := .none) (b4 := .bool false) he hz fun h' k e' _ => hq h' _ k e'
theorem n_new (F : ExcBaseFacts B newId initId bmB) (hB : (Value.ref C :: bm).contains (.type B) = true) (hA : (Value.ref C :: bm).contains (.type "AttributeError") = false) (hN : (Value.ref C :: bm).contains (.type "NameError") = false)
    {rest : List Value} (hC : h.get? C = some (excClassObj nm q C N bs bm hdct sn sub ab col dd k0 k1 k2 k3 k5 newId)) (hrest : rest.length ≤ sizeLine)
    (hq : R (.ok (.ret (.ref (h.objs.size + 1)))) ⟨(h.push (W.kdv_tup rest)).push (PX.excO C h.objs.size), g, d, t, os⟩) : codeAny (model prog w) A (.builtin newId ⟨.ref C :: rest, []⟩) R ⟨h, g, d, t, os⟩ := by
  have hends := F.ends
  refine codeAny_builtinAt F.entry ?_
  unfold Builtin.«BaseException.__new__»
  refine PySem.wpAt_bind (show PySem.wpAt _ _ _ (stack >>= _) _ _ _ from ?_)
  refine PySem.wpAt_bind (PySem.wpAt_stack fun p below => PySem.wpAt_of_wpAny ?_)
  wp_walk
  refine PySem.wpAt_of_wpAny ?_
  rw [F.owner]
  repeat (first
    | with_reducible refine wpAny_madeHere_exc F.canon hC ?_
    | with_reducible refine wpAny_loadPart_at hC ?_
    | (with_reducible refine wpAny_isSubtype_exc hC ?_; first | rw [hB] | rw [hA] | rw [hN])
    | wp_step)
  have z : R (.ok (.ret (.ref (h.push (W.kdv_tup rest)).objs.size))) ⟨(h.push (W.kdv_tup rest)).push (PX.excO C h.objs.size), g, d, t, os⟩ := by
    rw [Heap.size_push]
    exact hq
  exact z
/-- type.__call__ on a class whose built-in __new__ is that of B, whatever else stands among its bases -/
theorem n_call (F : ExcBaseFacts B newId initId bmB) (hB : (Value.ref C :: bm).contains (.type B) = true) (hA : (Value.ref C :: bm).contains (.type "AttributeError") = false) (hN : (Value.ref C :: bm).contains (.type "NameError") = false)
    {rest : List Value} {fI : Addr} (hC : h.get? C = some (excClassObj nm q C N bs bm hdct sn sub ab col dd k0 k1 k2 k3 k5 newId)) (hi : W.Looks (model prog w) h (typeLookup (.ref C) "__init__") (some (.ref fI)))
    (hb : ∀ self, W.Looks (model prog w) h (bindSpecial (.ref fI) self) (.ref fI, [self])) (hrest : rest.length ≤ sizeLine)
    (hq : codeAny (model prog w) (A.under (.builtin "type.__call__" ⟨.ref C :: rest, []⟩)) (.call (.ref fI) ⟨.ref (h.objs.size + 1) :: rest, []⟩) (W.InitBack (h.objs.size + 1) R) ⟨(h.push (W.kdv_tup rest)).push (PX.excO C h.objs.size), g, d, t, os⟩) :
    codeAny (model prog w) A (.call (.ref C) ⟨rest, []⟩) R ⟨h, g, d, t, os⟩ := by
  have tyC : (⟨h, g, d, t, os⟩ : Shared).TypeIs (.ref C) "type" := ⟨_, hC, rfl⟩
  have l1 := tc_lookup
  have l2 := tc_bind (.ref C)
  have hstar := F.noStar
  refine codeAny_of_tree (show wpAny _ _ (callAny (.ref C) _) _ _ _ from ?_)
  repeat (any_goals (first
    | assumption
    | with_reducible refine wpAny_loadPart_at hC ?_
    | wp_step))
  refine ⟨rfl, codeAny_call_builtin_at (Code.quiet_builtin _ (by decide +kernel)) entry_typeCall (wpAny_check_type_call_sub hC ?_)⟩
  repeat (first
    | with_reducible refine wpAny_loadPart_at hC ?_
    | with_reducible refine wpAny_madeBy_exc hC ?_
    | wp_step)
  refine codeAny_call_builtin_code (Code.quiet_builtin _ F.quiet) ?_
  simp only [checkBuiltinCall, F.newKind, F.newSplit, F.newRow]
  repeat (first
    | refine wpAny_loadPart_at hC ?_
    | (refine wpAny_isSubtype_exc hC ?_; rw [hB])
    | refine wpAny_staticBase_exc hC ?_
    | refine wpAny_madeBy_exc hC ?_
    | simp only [bne_self_eq_false, Bool.false_eq_true, if_false]
    | wp_step)
  refine n_new F hB hA hN hC hrest ?_
  show wpAny _ _ _ _ _ _
  have kk : ∀ b o, h.get? b = some o → ((h.push (W.kdv_tup rest)).push (PX.excO C h.objs.size)).get? b = some o := fun b o e => Heap.get?_push_of_some _ (Heap.get?_push_of_some _ e)
  have hC₁ := kk _ _ hC
  have hget : ((h.push (W.kdv_tup rest)).push (PX.excO C h.objs.size)).get? (h.objs.size + 1) = some (PX.excO C h.objs.size) := by heap_get
  have hcC : (Value.ref C :: bm).contains (.ref C) = true := by simp
  have i1 := hi.keeps kk
  have b1 := (hb (.ref (h.objs.size + 1))).keeps kk
  unfold isInstance
  repeat (first
    | with_reducible refine wpAny_loadPart_at hget ?_
    | wp_step)
  show wpAny _ _ (isSubtype (.ref C) (.ref C)) _ _ _
  refine wpAny_isSubtype_exc hC₁ ?_
  rw [hcC]
  repeat (first
    | with_reducible refine wpAny_loadPart_at hget ?_
    | wp_step)
  show wpAny _ _ (typeLookup (.ref C) _) _ _ _
  refine i1.at (wpAny_holding (wpAny_bind (b1.at (wpAny_bind (wpAny_call (codeAny_mono hq fun r s' z => ?_))))))
  rcases r with e | fl
  · exact z
  · cases fl with
    | ret v =>
      obtain ⟨rfl, z⟩ := z
      first
        | exact wpAny_pure (wpAny_pure z)
        | (wp_walk; exact z)
    | next => exact z.elim
    | brk => exact z.elim
    | cont => exact z.elim
end
end XN
namespace XN
open PySem PySem.W PySem.Calls PyProof.Rows PySem.Spec
/-- the same for a class over KeyError -/
structure VTxtK (P : Program) (K : Frag) (mg : Str → Option Value) (C fI : Addr) : Prop where
  init : findIn K (.ref C) "__init__" = some (some (.ref fI))
  q : excInitIn K C keB "LookupError.__new__" = true
  isf : isFn K (.ref fI) = true
  gS : mg "super" = none
  any : nsIn K cStatics "thirdparty.any" = some none
  sm : ks_superIn K C C "__init__" = some (some (.builtin "KeyError.__init__"))
  sB : subIn K (.ref C) (.type "KeyError") = some true
  sa : findIn K (.ref C) "__setattr__" = some (some (.builtin "object.__setattr__"))
  ov : excOver K C keB = true
  tk : takerIn K C "name" = some none
  hh : hasDictIn K C = true
  me : mroIn K C (.ref C) = some true
  top : (P.main.scope.names.lookup ("super" : Str)).isSome = false
theorem boot_super : bootBuiltins "super" = some (.type "super") := by decide +kernel
/-! ### name -/
abbrev sV_name : Stmt := L2.inClass (FR.top 7) 0
/-- the function of such an __init__ stands at fI -/
def VFn_name (P : Program) (K : Frag) (C fI : Addr) (qual : Str) : Prop := ∃ (oc doc pm kV ct : Value) (od an : Option Addr) (cda cc : Addr) (osl : Array (Option Value)),
    K.lookup fI = some ⟨oc, od, .func (ksFn "__init__" qual (L2.defArgs sV_name) (L2.defBody sV_name) (L2.defScope sV_name) .none kV doc pm an (.ref cda) ct cc), osl⟩ ∧ codeIn K (.ref cda) qual = true ∧
    (∃ ccl cdd vs ccs file tf, K.lookup cda = some ⟨ccl, cdd, .fields vs, ccs⟩ ∧ vs[2]? = some (.str file tf) ∧ ((P.main.file : Str) == file) = true) ∧
    ∃ cl cld csl, K.lookup cc = some ⟨cl, cld, .cell (some (.ref C)), csl⟩
section
variable {P : Program} {w : World} {A : Around} {E : Value → Shared → Prop} {s : Shared} {K : Frag} {mg : Str → Option Value} {h₀ : Heap} {L C fI : Addr} {m : Str → Option Value}
variable {qual fld : Str} {B newId i : String} {bmB : List Value}
theorem v_made_name (T : VTxtK P K mg C fI) (TF : VFn_name P K C fI qual) (M : L2.Mod K mg h₀) (F : Fr h₀ L s.heap m) (hroom : A.depth + 1 < recursionLimit) {v : Value} {Q : Value → Shared → Prop}
    (hq : ∀ (h' : Heap) (tk : Nat) (e t d : Addr) (o : Obj), (∀ b u, s.heap.get? b = some u → h'.get? b = some u) → s.heap.objs.size ≤ e → s.heap.objs.size ≤ d → d ≠ e →
      h'.get? e = some (excObj C t (some d) .none) → h'.get? d = some o → lookIn "name" o = some (some v) → Q (.ref e) { s with heap := h', toks := tk }) :
    wpAny (model P w) A (call (.ref C) [v]) Q E s := by
  obtain ⟨oc, doc, pm, kV, ct, od, an, cda, cc, osl, hfn, hcode, ⟨ccl, cdd, vs, ccs, file, tf, hcda, hvs2, hfile⟩, cl, cld, csl, hcell⟩ := TF
  obtain ⟨mb, nb, hbb⟩ := M.blt
  have X : K.In s.heap := M.kin.keeps F.keep
  obtain ⟨nm, N', qn, bs, bm, hdct, sn, sub, ab, col, dd, k0, k1, k2, k3, k5, hC, hT⟩ := excInit_of X T.q
  obtain ⟨oI, hoI, hcI⟩ : ∃ oI, s.heap.get? fI = some oI ∧ oI.cls = .type "function" := by
    obtain ⟨o, ho, hc⟩ := Option.map_eq_some_iff.mp (show (K.lookup fI).map (·.cls) = some (.type "function") from beq_iff_eq.mp T.isf)
    exact ⟨o, X _ _ ho, hc⟩
  obtain ⟨cdC, hcdC⟩ : ∃ cdC, clsIn K C = some cdC := by
    obtain ⟨z, y, _⟩ := any_some T.hh
    exact ⟨z, y⟩
  obtain ⟨hp, g, dr, tk, os⟩ := s
  dsimp only at hq F X hC hoI
  have hB : (Value.ref C :: bm).contains (.type "LookupError") = true := by
    rw [List.contains_cons, hT]
    rfl
  have hA : (Value.ref C :: bm).contains (.type "AttributeError") = false := by
    rw [List.contains_cons, hT]
    rfl
  have hN : (Value.ref C :: bm).contains (.type "NameError") = false := by
    rw [List.contains_cons, hT]
    rfl
  refine wpAny_call (n_call PySem.F.excBase_LookupError hB hA hN hC (looks_findIn X T.init) (fun self => exc_bind hoI hcI self) (by show 1 ≤ sizeLine; decide) ?_)
  generalize hh1 : (hp.push (kdv_tup [v])).push (PX.excO C hp.objs.size) = h1
  have k1 : ∀ b u, hp.get? b = some u → h1.get? b = some u := fun b u e => by
    rw [← hh1]
    exact Heap.get?_push_of_some _ (Heap.get?_push_of_some _ e)
  have he : h1.get? (hp.objs.size + 1) = some (excObj C hp.objs.size none .none) := by
    rw [← hh1]
    heap_get
  have s1 : h1.objs.size = hp.objs.size + 2 := by
    rw [← hh1, Heap.size_push, Heap.size_push]
  have X1 : K.In h1 := X.keeps k1
  have hlow : h₀.objs.size < hp.objs.size := Nat.lt_of_le_of_lt F.above F.ns.lt
  refine ks_codeAny_call_defAt (fd := ksFn "__init__" qual (L2.defArgs sV_name) (L2.defBody sV_name) (L2.defScope sV_name) .none kV doc pm an (.ref cda) ct cc) (body := L2.defBody sV_name) (binds := [("self", Value.ref (hp.objs.size + 1)), ("name", v)])
    (by show A.depth + 1 < recursionLimit; exact hroom) (X1 _ _ hfn) rfl ((M.nolimit.keeps F.keep).keeps k1) (codeRec_of X1 hcode) rfl (BindsTo.of_eq (by first | rfl | with_unfolding_all rfl))
    (by show ∀ x ∈ (L2.defScope sV_name).names, x.2 ≠ NameKind.cell; decide) (by simp only [List.mem_cons, List.not_mem_nil, or_false, forall_eq_or_imp, forall_eq]; exact ⟨rfl, rfl⟩) (fun h2 hn2 k2 => ?_)
  have F2 : Fr hp h1.objs.size h2 (fun x => ([("self", Value.ref (hp.objs.size + 1)), ("name", v)] : List (Str × Value)).reverse.lookup x) :=
    ⟨hn2, fun b o e => k2 b o (k1 b o e), by
      show hp.objs.size ≤ h1.objs.size
      omega⟩
  have N2 : News hp h1.objs.size h2 [(hp.objs.size + 1, excObj C hp.objs.size none .none)] := fun p hp' => by
    rcases List.mem_cons.mp hp' with rfl | z
    · refine ⟨k2 _ _ he, ?_, ?_⟩
      · show hp.objs.size + 1 ≠ h1.objs.size
        omega
      · cases z : hp.get? (hp.objs.size + 1) with
        | none => rfl
        | some o =>
          have z1 : hp.objs.size + 1 < hp.objs.size := Heap.lt_size z
          omega
    · cases z
  show _root_.PySem.wpAt _ _ _ (execs (L2.defBody sV_name) (ksEnv qual (L2.defScope sV_name) h1.objs.size fI (.ref cda) cc)) _ _ _
  refine ks_wpAt_execs_cons (ks_wpAt_Expr_any (ks_wpAt_MethodCall ?_))
  have X2 : K.In h2 := X1.keeps k2
  have G2 : h2.Ns mainGlobals mg := (M.glob.keeps F.keep).keeps fun b o e => k2 b o (k1 b o e)
  have B2 : h2.Ns builtinsNs mb := (nb.keeps F.keep).keeps fun b o e => k2 b o (k1 b o e)
  have I2 : InstAt h2 (hp.objs.size + 1) (excObj C hp.objs.size none .none) C none := ⟨k2 _ _ he, rfl, rfl, trivial⟩
  obtain ⟨oD, hD1, hD2⟩ : ∃ oD, h2.get? C = some oD ∧ oD.data = .cls cdC := by
    unfold clsIn at hcdC
    split at hcdC
    · rename_i c d cd' sl ho
      cases hcdC
      exact ⟨_, X2 _ _ ho, rfl⟩
    · cases hcdC
  refine ks_wpAt_super_base (env := ksEnv qual (L2.defScope sV_name) h1.objs.size fI (.ref cda) cc) rfl rfl rfl rfl (X2 _ _ hfn) rfl rfl rfl (X2 _ _ hcda) rfl hvs2 hfile T.top ?_
  refine ks_loadName_global rfl rfl (loadGlobal_builtin (env := ksEnv qual (L2.defScope sV_name) h1.objs.size fI (.ref cda) cc) G2 T.gS B2 ((hbb _ (by decide +kernel)).trans boot_super) ⟨rfl, ?_⟩)
  refine wpAny_loadName_free rfl rfl rfl ⟨_, X2 _ _ hcell, rfl⟩ ?_
  refine wpAny_loadName_local (v := .ref (hp.objs.size + 1)) rfl rfl F2.ns (by first | rfl | with_unfolding_all rfl | kernel_rfl) ?_
  refine ks_wpAny_isType_cls hD1 hD2 ⟨rfl, ?_⟩
  refine ks_wpAny_call_super hD1 hD2 I2.at_ I2.cls (fun c e => nomatch e) (looks_mroIn X2 T.me) (fun h3 e3 k3 => ?_)
  obtain ⟨F3, N3, _⟩ := ks_newsPush (s := ⟨h2, g, dr, 0, os⟩) F2 N2 rfl e3 k3
  have I3 : InstAt h3 (hp.objs.size + 1) (excObj C hp.objs.size none .none) C none := ⟨k3 _ _ (k2 _ _ he), rfl, rfl, trivial⟩
  refine kxs_method (D := C) ke_kxs F3 X N3 (by simp) I3 T.any T.sm T.sB rfl (fun q h4 F4 N4 lt4 => ?_)
  refine kxs_callWith1 (i := "KeyError.__init__") (x := hp.objs.size + 1) N4 (by simp) ?_ rfl rfl
  refine Calls.spliced_cons ?_
  refine Calls.Constant_str (k := 0) (pos := ⟨0, 0, 0, 0⟩) ?_
  refine Calls.spliced_nil ⟨kxs_at (i := "KeyError.__init__") N4 (by simp), ?_⟩
  have he4 := (N4 (hp.objs.size + 1, excObj C hp.objs.size none .none) (by simp)).1
  have hu4 := (N4 (q, kxs_mw "KeyError.__init__" (hp.objs.size + 1)) (by simp)).1
  have hs4 := (N4 (h2.objs.size, ks_superObj C (hp.objs.size + 1) C) (by simp)).1
  have neq : q ≠ hp.objs.size + 1 := Nat.ne_of_gt (lt4 (hp.objs.size + 1, excObj C hp.objs.size none .none) (by simp))
  have nes : h2.objs.size ≠ hp.objs.size + 1 := Nat.ne_of_gt (Heap.lt_size (k2 _ _ he))
  refine ke_bw (F4.keep _ _ hC) he4 hu4 (by show 1 ≤ sizeLine; decide) (fun h5 t5 k5 e5 => ?_)
  have F5 : Fr hp h1.objs.size h5 (fun x => ([("self", Value.ref (hp.objs.size + 1)), ("name", v)] : List (Str × Value)).reverse.lookup x) := by
    obtain ⟨oL, es, ep, hL, r⟩ := F4.ns
    refine ⟨⟨oL, es, ep, k5 _ _ ?_ hL, r⟩, fun b o z => k5 b o (fun y => ?_) (F4.keep b o z), F4.above⟩
    · show h1.objs.size ≠ hp.objs.size + 1
      omega
    · have y2 : b < hp.objs.size := Heap.lt_size z
      rw [y] at y2
      exact Nat.not_lt.mpr (Nat.le_succ _) y2
  have N5 : News hp h1.objs.size h5 [(q, kxs_mw "KeyError.__init__" (hp.objs.size + 1)), (h2.objs.size, ks_superObj C (hp.objs.size + 1) C), (hp.objs.size + 1, excObj C t5 none .none)] := by
    intro p hp'
    simp only [List.mem_cons, List.not_mem_nil, or_false] at hp'
    rcases hp' with rfl | rfl | rfl
    · exact ⟨k5 _ _ neq hu4, (N4 (q, kxs_mw "KeyError.__init__" (hp.objs.size + 1)) (by simp)).2⟩
    · exact ⟨k5 _ _ nes hs4, (N4 (h2.objs.size, ks_superObj C (hp.objs.size + 1) C) (by simp)).2⟩
    · exact ⟨e5, (N4 (hp.objs.size + 1, excObj C hp.objs.size none .none) (by simp)).2⟩
  refine ks_wpAt_execs_cons (ks_wpAt_Assign_Attr (wpAt_of_wpAny ?_))
  refine wpAny_Name ?_
  refine wpAny_loadName_local (v := v) rfl rfl F5.ns (by first | rfl | with_unfolding_all rfl | kernel_rfl) ?_
  refine wpAny_Name ?_
  refine wpAny_loadName_local (v := .ref (hp.objs.size + 1)) rfl rfl F5.ns (by first | rfl | with_unfolding_all rfl | kernel_rfl) ?_
  have U5 : UpdF (hp.objs.size + 1) (excObj C t5 none .none) [(q, kxs_mw "KeyError.__init__" (hp.objs.size + 1)), (h2.objs.size, ks_superObj C (hp.objs.size + 1) C), (hp.objs.size + 1, excObj C t5 none .none)]
      (fun o' => [(q, kxs_mw "KeyError.__init__" (hp.objs.size + 1)), (h2.objs.size, ks_superObj C (hp.objs.size + 1) C), (hp.objs.size + 1, o')]) := .tail neq (.tail nes (.head fun p z => nomatch z))
  refine set_exc0 ke_store F5 X N5 (by simp) T.sa T.ov T.tk T.hh rfl U5 (by show 1 ≤ 1000; decide) (fun dx h6 F6 N6 lt6 => ?_)
  refine wpAt_of_wpAny (wpAny_execs_nil ⟨rfl, ?_⟩)
  refine hq h6 _ (hp.objs.size + 1) t5 dx _ F6.keep (Nat.le_succ _) ?_ ?_ (N6 (hp.objs.size + 1, excObj C t5 (some dx) .none) (by simp)).1 (N6 _ (List.mem_cons_self)).1 ?_
  · exact Nat.le_of_lt (Nat.lt_of_succ_lt (lt6 (hp.objs.size + 1, excObj C t5 none .none) (by simp)))
  · exact Nat.ne_of_gt (lt6 (hp.objs.size + 1, excObj C t5 none .none) (by simp))
  · first | rfl | with_unfolding_all rfl | simp [lookIn, putL, Value.isStr]
end
end XN
namespace L2
open PySem PySem.Spec PyProof.Rows
/-- the own dict of an exception held as a value: its field -/
def ExD (fld : Str) (v : V) (d : Addr) : HO := .ext fun h => ∃ (o : Obj) (u : Value), h.get? d = some o ∧ PySem.W.lookIn fld o = some (some u) ∧ RelV v u
/-- the class at C makes exceptions that keep their one argument as the attribute fld -/
def VMade (P : Program) (w : World) (K : PySem.W.Frag) (mg : Str → Option Value) (C : Addr) (fld : Str) : Prop :=
  ∀ {A : Around} {E : Value → Shared → Prop} {s : Shared} {h₀ : Heap} {L : Addr} {m : Str → Option Value}, Mod K mg h₀ → Fr h₀ L s.heap m → A.depth + 1 < recursionLimit → ∀ {v : Value} {Q : Value → Shared → Prop},
    (∀ (h' : Heap) (tk : Nat) (e t d : Addr) (o : Obj), (∀ b u, s.heap.get? b = some u → h'.get? b = some u) → s.heap.objs.size ≤ e → s.heap.objs.size ≤ d → d ≠ e →
      h'.get? e = some (PySem.W.excObj C t (some d) .none) → h'.get? d = some o → PySem.W.lookIn fld o = some (some v) → Q (.ref e) { s with heap := h', toks := tk }) →
    wpAny (model P w) A (call (.ref C) [v]) Q E s
section
variable {X : Cx}
/-- raise C(e), C's instances keep their one argument -/
def tMkN (C : Addr) (fld : Str) (ta : TE) : St → Hp → XK → Prop := fun σ H Q => ta σ H fun v H1 => ∀ d, H1 d = none → Q (.ref C) (some d) (upd H1 d (ExD fld v d))
theorem pmk_name {C : Addr} {fld x : Str} {e : Expr} {ta : TE} {p pos : Pos} {k : Nat} (T : VMade X.prog X.w X.K X.mg C fld) (R : Raises X (.ref C)) (hr : Room k X.A) (gC : X.mg x = some (.ref C)) (kC : PySem.W.keepIn X.K (.ref C) = true) (hg : Gl X x)
    (he : PE X e ta) (hs : starEach [e] X.env = (false, eval e X.env) :: starEach [] X.env := by rfl) (hdb : (x == ("__debug__" : Str)) = false := by decide) :
    PMk X (.Call (.Name x p) [e] [] pos) (tMkN C fld ta) := by
  intro pins s σ H Q I h
  refine wpAny_Call_Name_kw (ld_glob I hg gC ?_ hdb)
  refine PySem.W.callWith_K (h₀ := X.base) I.ok.mod.kin kC ?_ hs (by rfl)
  rw [hs]
  refine Calls.spliced_cons (thn (he.run pins s σ H _ I h) fun u s1 ⟨v, H1, I1, r1, q1⟩ => Calls.spliced_nil ⟨I1.kIn, ?_⟩)
  show wpAny _ _ (call (.ref C) [u]) _ _ _
  obtain ⟨m, F⟩ := I1.fr
  refine T I1.mod F (by have := hr.dp; omega) fun h' tk a t d o kk ha hd ne ea ed el => ?_
  obtain ⟨G, g1, g2⟩ := restrict h' fun b => decide (b ≠ a)
  have gk : ∀ b, b ≠ a → G.get? b = h'.get? b := fun b hb => g1 b (decide_eq_true hb)
  have ga : G.get? a = none := g2 a (by simp)
  have na : H1 a = none := I1.hok.fresh ha
  have nd : H1 d = none := I1.hok.fresh hd
  have J1 : Inv X pins σ (upd H1 d (ExD fld v d)) { s1 with heap := G, toks := tk } :=
    I1.laid (t' := tk) (fun b y q => (gk b (Nat.ne_of_lt (Nat.lt_of_lt_of_le (Heap.lt_size q) ha))).trans (kk b y q)) hd
      ⟨⟨o, u, (gk d ne).trans ed, el, r1⟩, ⟨o, (gk d ne).trans ed⟩, fun _ _ ⟨o2, u2, y1, y2, y3⟩ k => ⟨o2, u2, k o2 y1, y2, y3⟩⟩
  exact ⟨a, _, _, _, _, .ref C, some d, rfl, J1, fun b y q => by
    by_cases hb : b = a
    · have q2 : G.get? b = some y := q
      rw [hb, ga] at q2
      cases q2
    · exact (gk b hb).symm.trans q, ga, ea, ⟨rfl, rfl⟩, rfl, rfl, by rw [upd_ne (Ne.symm ne)]; exact na, rfl, I1.bare, R, q1 d nd⟩
/-- e.fld in the suite that caught it -/
def tXn (a : Addr) (cls : Value) (d : Option Addr) (C : Addr) (f : Str) (te : TE) : TE := fun σ H Q => te σ H fun x H1 => x = .ref a ∧ cls = .ref C ∧ ∃ (dd : Addr) (v : V), d = some dd ∧ H1 dd = some (ExD f v dd) ∧ Q v H1
theorem pe_xn {a C : Addr} {oe : Obj} {cls : Value} {d : Option Addr} {pn : List (Addr × Obj)} {e : Expr} {te : TE} {pos : Pos} {n : Str} (T : XfC X.K C) (hno : PySem.W.findIn X.K (.ref C) n = some none)
    (hz : Zc cls d oe) (hf : ∃ vs, oe.data = .fields vs) (he : PE (X.suite a ((a, oe) :: pn)) e te) (hb : attributeBase e n X.env (eval e X.env) = eval e X.env := by rfl) :
    PE (X.suite a ((a, oe) :: pn)) (.Attribute e n pos) (tXn a cls d C n te) := by
  refine ⟨fun pins s σ H Q I h => attr_of hb (thn (he.run pins s σ H _ I h) fun u s1 hh => ?_)⟩
  obtain ⟨x, H1, I1, rx, ex, ec, dd, v, ed, ea, q⟩ := hh
  subst ex ec ed
  obtain rfl : u = Value.ref a := rx
  obtain ⟨ha, _⟩ := I1.pin (a, oe) (List.mem_append_left _ List.mem_cons_self)
  obtain ⟨vs, hd⟩ := hf
  obtain ⟨⟨od, w0, ho, hl, ru⟩, _, _⟩ := I1.hok dd _ ea
  have J : PySem.W.InstAt s1.heap a oe C (some od) := ⟨ha, hz.1, by unfold PySem.W.notCls; rw [hd] <;> rfl, by rw [hz.2]; exact ho⟩
  exact HandSPX.exc_get I1.kIn J T.ga T.gg T.exC (PySem.W.findObj_own T.hdC hno rfl hl) (handed_of ru) ⟨v, H1, I1.tok _, ru, q⟩
end
end L2
set_option Elab.async false
set_option linter.all false
set_option maxRecDepth 100000
set_option maxHeartbeats 1000000
/-! tuple(d) of a dict -/
namespace L2
open PySem PySem.Spec PyProof.Rows
section
variable {X : Cx}
theorem call_tuple_dK (hc : X.calm = true) : CallR X (.type "tuple") (fun xs H Q => ∃ (a : Addr) (kvs : List (Key × V)), xs = [.ref a] ∧ Rd H a (.dK kvs) ∧ ∀ p, H p = none → Q (.ref p) (upd H p (.tup (kvs.map fun kv => kV kv.1)))) := by
  intro pins s σ H xs us Q I r q
  obtain ⟨a, kvs, rfl, hd, q⟩ := q
  obtain ⟨u, rfl, rx⟩ := vals1 r
  cases rx
  obtain ⟨z, lo, vs, rel, dd⟩ := dk_rd I.hok hd
  obtain ⟨ep, hat⟩ := dd.dictAt
  have hT : s.TypeIs (.ref a) "dict" := dd.typeIs
  have ek : (kvs.map fun kv => kV kv.1) = vs.map fun p => kV p.1 := by
    have e := congrArg (List.map kV) rel.keys
    rw [List.map_map, List.map_map] at e
    exact e
  have fin : ∀ (h' : Heap) (tk : Nat) (acc : Array Value), (∀ b o, s.heap.get? b = some o → h'.get? b = some o) → Vals (vs.map fun p => kV p.1) acc.toList →
      EP X pins σ Q (.ref h'.objs.size) { s with heap := h'.push { cls := .type "tuple", data := .seq acc.toList.toArray }, toks := tk } := fun h' tk acc k hv => by
    have I1 : Inv X pins σ H { s with heap := h', toks := tk } := I.kept (t' := tk) k
    exact ⟨.ref h'.objs.size, _, I1.laid (t' := tk) (fun b o e => Heap.get?_push_of_some _ e) (Nat.le_refl _) (show ObjOk X.prog X.w _ _ _ (.tup (kvs.map fun kv => kV kv.1)) from ⟨by rw [List.length_map]; exact z, acc.toList, by rw [ek]; exact hv, IsTup.new _ _⟩), rfl, q _ (I1.hok.fresh (Nat.le_refl _))⟩
  refine callType_codes (Q₁ := fun obj s₁ => s₁.TypeIs obj "tuple" ∧ EP X pins σ Q obj s₁) PySem.F.called_tuple (PySem.F.typeCall_tuple_1 _) PySem.F.entry_object_init ?_ fun obj s₁ h₁ =>
    ⟨h₁.1, PySem.F.args_object_init_2 obj _, object_init_meets PySem.F.called_tuple.init.lookup PySem.F.called_tuple.made (by decide) X.prog X.w X.A.in1 _ s₁ ⟨h₁.1, rfl, h₁.2⟩⟩
  refine codeAny_of_tree ?_
  show wpAny _ _ (do checkBuiltinCall "tuple.__new__" ⟨[.type "tuple", .ref a], []⟩; again (.builtin "tuple.__new__" ⟨[.type "tuple", .ref a], []⟩)) _ _ s
  refine wpAny_bind (wpAny_of_eq (PySem.F.newCall_tuple_1 _) (wpAny_pure ⟨plainId_quiet PySem.F.plain_tuple_new _, codeAny_builtin PySem.F.entry_tuple_new ?_⟩))
  rw [Around.under_plainId PySem.F.plain_tuple_new _]
  have hsub := sub_tuple_self
  have hinit := init_tuple_lookup
  have hmh := madeHere_tuple
  have hh : X.A.handled = none := I.ok.hd hc
  wp_walk using wpAny_typeOf hT, PySem.W.kdu_collect (PySem.W.kdl_dict (knd := mixKind X.prog X.w) (kvs := vs) (ep := ep) lo) (by exact hh) hat (by rw [← rel.length]; exact z)
  intro h' tk acc hk hacc
  show wpAny _ _ (Builtin.Tuple.tupleExact acc.toList.toArray >>= fun v => ret v) _ _ _
  unfold Builtin.Tuple.tupleExact
  refine wpAny_bind (wpAny_newObj_type ?_ (by show acc.toList.toArray.size ≤ sizeLine; rw [Array.toArray_toList, hacc.1, ← rel.length]; exact z))
  exact wpAny_pure ⟨⟨_, Heap.get?_push_size _ rfl, rfl⟩, fin h' tk acc hk (keys_at (by rw [Array.length_toList]; exact hacc.1) fun j v e => hacc.2 j v (by rw [← Array.getElem?_toList]; exact e))⟩
end
end L2
set_option Elab.async false
set_option linter.all false
set_option maxRecDepth 100000
set_option maxHeartbeats 1000000
/-! == of data without dicts; of dicts of such; bodies as data -/
namespace L2
open PySem PySem.Spec PyProof.Rows
/-- data without dicts, not too deep -/
def PlainD (d : PyData) : Prop := d.plain = true ∧ d.depth ≤ 60
def rEqP (K : PySem.W.Frag) : R2 := fun x y H Q => ∃ d e, Dp K H x d ∧ Dp K H y e ∧ PlainD d ∧ PlainD e ∧ Q (.bl (PyData.eqv d e)) H
def rNeP (K : PySem.W.Frag) : R2 := fun x y H Q => ∃ d e, Dp K H x d ∧ Dp K H y e ∧ PlainD d ∧ PlainD e ∧ Q (.bl (!PyData.eqv d e)) H
section
variable {X : Cx}
theorem op_eqP {K : PySem.W.Frag} (hK : X.K = K) (hu : X.A.units + 64 < cLine) : OpR X (compareOp .Eq) (rEqP K) := by
  subst hK
  intro pins s σ H x y v u Q I rx ry ⟨d, e, hd, he, pd, pe, q⟩
  obtain ⟨as, r1⟩ := Dp.reads I d x v hd rx
  obtain ⟨bs, r2⟩ := Dp.reads I e y u he ry
  exact SeqAt.eq_plain r1 r2 pd.1 pe.1 (by have := pd.2; have := Nat.min_le_left d.depth e.depth; omega) ⟨.bl _, H, I, rfl, q⟩
theorem op_neP {K : PySem.W.Frag} (hK : X.K = K) (hu : X.A.units + 64 < cLine) : OpR X (compareOp .NotEq) (rNeP K) := by
  subst hK
  intro pins s σ H x y v u Q I rx ry ⟨d, e, hd, he, pd, pe, q⟩
  obtain ⟨as, r1⟩ := Dp.reads I d x v hd rx
  obtain ⟨bs, r2⟩ := Dp.reads I e y u he ry
  exact SeqAt.ne_plain r1 r2 pd.1 pe.1 (by have := pd.2; have := Nat.min_le_left d.depth e.depth; omega) ⟨.bl _, H, I, rfl, q⟩
/-- how the pairs of a dict are met in another -/
inductive Hits (K : PySem.W.Frag) (H : Hp) (ls : List (Key × V)) : List (Key × V) → Bool → Prop
  | nil : Hits K H ls [] true
  | miss {k : Key} {v : V} {r : List (Key × V)} : valV ls k = none → Hits K H ls ((k, v) :: r) false
  | hit {k : Key} {v u : V} {d e : PyData} {r : List (Key × V)} {b : Bool} : valV ls k = some u → Dp K H v d → Dp K H u e → PlainD d → PlainD e → Hits K H ls r b → Hits K H ls ((k, v) :: r) (PyData.eqv d e && b)
theorem hits_of {pins : List (Addr × Obj)} {σ : St} {H : Hp} {s : Shared} (I : Inv X pins σ H s) {A : Around} (hu : A.units + 62 < cLine) {ls : List (Key × V)} {vb : List (Key × Value)} (rb : KV ls vb) :
    ∀ {ks : List (Key × V)} {r : Bool}, Hits X.K H ls ks r → ∀ {va : List (Key × Value)}, KV ks va → PySem.W.KeqHitsP X.prog X.w A s vb va r := by
  intro ks r h
  induction h with
  | nil => intro va ra; cases ra; exact .nil
  | @miss k v r hn =>
    intro va ra
    cases ra with
    | @cons p q ps qs h1 h2 =>
      obtain ⟨k', v'⟩ := q
      obtain ⟨e1, _⟩ := h1
      have e1 : k = k' := e1
      subst e1
      have rr := rb.val k
      rw [hn] at rr
      refine .miss ?_
      cases e : valueAt vb k with
      | none => rfl
      | some y => rw [e] at rr; exact (show False from rr).elim
  | @hit k v u d e r b hu' hd he pd pe hr ih =>
    intro va ra
    cases ra with
    | @cons p q ps qs h1 h2 =>
      obtain ⟨k', v'⟩ := q
      obtain ⟨e1, rv⟩ := h1
      have e1 : k = k' := e1
      subst e1
      have rr : RelO (some u) (valueAt vb k) := by rw [← hu']; exact rb.val k
      obtain ⟨y, hy, ry⟩ := rr.some_of
      obtain ⟨as, r1⟩ := Dp.reads I d v v' hd rv
      obtain ⟨bs, r2⟩ := Dp.reads I e u y he ry
      exact .hit hy (SeqAt.eqAt_plain d e A s v' y as bs r1 r2 pd.1 pe.1 (by have := pd.2; have := Nat.min_le_left d.depth e.depth; omega)).eqP (ih h2)
/-- == of two dicts of data -/
def rEqKD (K : PySem.W.Frag) : R2 := fun x y H Q => ∃ a b ks ls r, x = .ref a ∧ y = .ref b ∧ H a = some (.dK ks) ∧ H b = some (.dK ls) ∧ (ks.length = ls.length → Hits K H ls ks r) ∧ Q (.bl (ks.length == ls.length && r)) H
theorem op_eqKD {K : PySem.W.Frag} (hK : X.K = K) (hu : X.A.units + 64 < cLine) : OpR X (compareOp .Eq) (rEqKD K) := by
  subst hK
  intro pins s σ H x y v u Q I rx ry h
  obtain ⟨a, b, ks, ls, r, rfl, rfl, ha, hb, hits, q⟩ := h
  cases rx
  cases ry
  obtain ⟨_, ya, va, ra, da⟩ := dk_of I.hok ha
  obtain ⟨_, yb, vb, rb, db⟩ := dk_of I.hok hb
  refine PySem.W.rcP_dicts (knd := mixKind X.prog X.w) (r := r) ya yb da db (by omega) (fun e => ?_) _ _ ?_
  · exact hits_of I (A := X.A.in1) (by show X.A.units + 1 + 62 < cLine; omega) rb (hits (by rw [ra.length, rb.length]; exact e)) ra
  · rw [← ra.length, ← rb.length]
    exact ⟨.bl _, H, I, rfl, q⟩
end
end L2
namespace FR
open PySem PySem.Spec PyProof.Rows L2
/-- a statement as data, its bodies by d -/
def dS (d : Bd → PyData) : St → PyData
  | .note z => .tuple [.str "note", .str z]
  | .call z => .tuple [.str "call", .str z]
  | .stay => .tuple [.str "stay"]
  | .again i j b => .tuple [.str "again", .int i, .int j, d b]
  | .choose bs => .tuple (.str "choose" :: bs.map d)
  | .toss rs => .tuple (.str "toss" :: rs.map fun r => .tuple [.int r.1, d r.2])
def dB : Nat → Bd → PyData
  | 0, _ => .none
  | n + 1, b => .tuple (b.map (dS (dB n)))
theorem dpAll {K : PySem.W.Frag} {H : Hp} {α : Type} {R : V → α → Prop} {d : α → PyData} (h : ∀ v x, R v x → Dp K H v (d x)) : ∀ {vs : List V} {xs : List α}, AG R vs xs → DpAll K H vs (xs.map d)
  | [], [], _ => .nil
  | [], _ :: _, g => by simp [AG] at g
  | _ :: _, [], g => by simp [AG] at g
  | v :: vs, x :: xs, g => .cons (h _ _ (AG.uncons g).1) (dpAll h (AG.uncons g).2)
theorem dpS {K : PySem.W.Frag} {H : Hp} {B : Hp → V → Bd → Prop} {d : Bd → PyData} (hB : ∀ v b, B H v b → Dp K H v (d b)) : ∀ {v : V} {s : St}, StW B H v s → Dp K H v (dS d s)
  | _, .note z, ⟨a, rfl, h⟩ => .tup (.of h) (.cons (.str _) (.cons (.str _) .nil))
  | _, .call z, ⟨a, rfl, h⟩ => .tup (.of h) (.cons (.str _) (.cons (.str _) .nil))
  | _, .stay, ⟨a, rfl, h⟩ => .tup (.of h) (.cons (.str _) .nil)
  | _, .again i j b, ⟨a, w, rfl, h, g⟩ => .tup (.of h) (.cons (.str _) (.cons (.int _) (.cons (.int _) (.cons (hB _ _ g) .nil))))
  | _, .choose bs, ⟨a, ws, rfl, h, g⟩ => .tup (.of h) (.cons (.str _) (dpAll hB g))
  | _, .toss rs, ⟨a, ws, rfl, h, g⟩ => .tup (.of h) (.cons (.str _) (dpAll (fun _ _ ⟨p, x, e, hp, hx⟩ => e ▸ .tup (.of hp) (.cons (.int _) (.cons (hB _ _ hx) .nil))) g))
theorem dpB {K : PySem.W.Frag} {H : Hp} : ∀ n {v : V} {b : Bd}, BdAt n H v b → Dp K H v (dB n b)
  | 0, _, _, h => h.elim
  | n + 1, _, _, ⟨a, xs, rfl, h, g⟩ => .tup (.of h) (dpAll (fun _ _ z => dpS (fun _ _ y => dpB n y) z) g)
theorem plainAll_map {α : Type} {d : α → PyData} : ∀ {xs : List α}, (∀ x ∈ xs, (d x).plain = true) → PyData.plainAll (xs.map d) = true
  | [], _ => rfl
  | x :: xs, h => by
    show ((d x).plain && PyData.plainAll (xs.map d)) = true
    rw [h x List.mem_cons_self, plainAll_map fun y hy => h y (List.mem_cons_of_mem _ hy)]
    rfl
theorem plainS {d : Bd → PyData} (h : ∀ b, (d b).plain = true) : ∀ s, (dS d s).plain = true
  | .note _ => rfl
  | .call _ => rfl
  | .stay => rfl
  | .again _ _ b => by simp [dS, PyData.plain, PyData.plainAll, h b]
  | .choose bs => by
    show (true && PyData.plainAll (bs.map d)) = true
    rw [plainAll_map fun b _ => h b]
    rfl
  | .toss rs => by
    show (true && PyData.plainAll (rs.map _)) = true
    rw [plainAll_map fun r _ => by simp [PyData.plain, PyData.plainAll, h r.2]]
    rfl
theorem plainB : ∀ n b, (dB n b).plain = true
  | 0, _ => rfl
  | n + 1, b => plainAll_map fun s _ => plainS (plainB n) s
theorem depthAll_map {α : Type} {d : α → PyData} {m : Nat} : ∀ {xs : List α}, (∀ x ∈ xs, (d x).depth ≤ m) → PyData.depthAll (xs.map d) ≤ m
  | [], _ => Nat.zero_le _
  | x :: xs, h => by
    show max (d x).depth (PyData.depthAll (xs.map d)) ≤ m
    exact Nat.max_le.mpr ⟨h x List.mem_cons_self, depthAll_map fun y hy => h y (List.mem_cons_of_mem _ hy)⟩
theorem depthS {d : Bd → PyData} {m : Nat} (h : ∀ b, (d b).depth ≤ m) : ∀ s, (dS d s).depth ≤ m + 2
  | .note _ => by simp [dS, PyData.depth, PyData.depthAll]
  | .call _ => by simp [dS, PyData.depth, PyData.depthAll]
  | .stay => by simp [dS, PyData.depth, PyData.depthAll]
  | .again _ _ b => by
    have := h b
    simp only [dS, PyData.depth, PyData.depthAll]
    omega
  | .choose bs => by
    have := depthAll_map (xs := bs) fun b _ => h b
    show max 0 (PyData.depthAll (bs.map d)) + 1 ≤ _
    omega
  | .toss rs => by
    have := depthAll_map (xs := rs) (d := fun r => PyData.tuple [.int r.1, d r.2]) (m := m + 1) fun r _ => by
      have := h r.2
      simp only [PyData.depth, PyData.depthAll]
      omega
    show max 0 (PyData.depthAll (rs.map _)) + 1 ≤ _
    omega
theorem depthB : ∀ n b, (dB n b).depth ≤ 3 * n
  | 0, _ => Nat.le_refl _
  | n + 1, b => by
    have := depthAll_map (xs := b) fun s _ => depthS (depthB n) s
    show PyData.depthAll _ + 1 ≤ _
    omega
theorem plainD_B {n : Nat} (h : n ≤ 10) (b : Bd) : PlainD (dB n b) := ⟨plainB n b, by have := depthB n b; omega⟩
theorem eqv_self {d : PyData} (h : d.plain = true) : PyData.eqv d d = true := SeqAt.eqv_refl_plain d h
end FR
set_option Elab.async false
set_option linter.all false
set_option maxRecDepth 100000
set_option maxHeartbeats 1000000
/-! Program's own methods -/
namespace FR
open PySem PySem.Spec PyProof.Rows L2
abbrev sCt : Stmt := inClass (top 36) 13
abbrev NCt : List Str := ["self", "value"]
theorem scCt : FnScope NCt ["self", "value"] (defScope sCt) := ⟨rfl, rfl, rfl, by decide +kernel, rfl, by decide +kernel, by decide +kernel⟩
abbrev sLe : Stmt := inClass (top 36) 15
abbrev NLe : List Str := ["self"]
theorem scLe : FnScope NLe ["self"] (defScope sLe) := ⟨rfl, rfl, rfl, by decide +kernel, rfl, by decide +kernel, by decide +kernel⟩
abbrev sNa : Stmt := inClass (top 36) 2
abbrev NNa : List Str := ["self"]
theorem scNa : FnScope NNa ["self"] (defScope sNa) := ⟨rfl, rfl, rfl, by decide +kernel, rfl, by decide +kernel, by decide +kernel⟩
abbrev sBo : Stmt := inClass (top 36) 3
abbrev NBo : List Str := ["self"]
theorem scBo : FnScope NBo ["self"] (defScope sBo) := ⟨rfl, rfl, rfl, by decide +kernel, rfl, by decide +kernel, by decide +kernel⟩
abbrev sIc : Stmt := inClass (top 36) 6
abbrev NIc : List Str := ["self"]
theorem scIc : FnScope NIc ["self"] (defScope sIc) := ⟨rfl, rfl, rfl, by decide +kernel, rfl, by decide +kernel, by decide +kernel⟩
abbrev sGt : Stmt := inClass (top 36) 12
abbrev NGt : List Str := ["self", "at"]
theorem scGt : FnScope NGt ["self", "at"] (defScope sGt) := ⟨rfl, rfl, rfl, by decide +kernel, rfl, by decide +kernel, by decide +kernel⟩
abbrev sEq : Stmt := inClass (top 36) 16
abbrev NEq : List Str := ["self", "other"]
theorem scEq : FnScope NEq ["self", "other"] (defScope sEq) := ⟨rfl, rfl, rfl, by decide +kernel, rfl, by decide +kernel, by decide +kernel⟩
abbrev sSt : Stmt := inClass (top 36) 17
abbrev NSt : List Str := ["self"]
theorem scSt : FnScope NSt ["self"] (defScope sSt) := ⟨rfl, rfl, rfl, by decide +kernel, rfl, by decide +kernel, by decide +kernel⟩
abbrev sCn : Stmt := top 38
abbrev NCn : List Str := ["free", "name"]
theorem scCn : FnScope NCn ["free", "name"] (defScope sCn) := ⟨rfl, rfl, rfl, by decide +kernel, rfl, by decide +kernel, by decide +kernel⟩
section
variable {P : Program} {w : World} {K : PySem.W.Frag} {mg : Str → Option Value} {base : Heap} {k : Nat} {f : Addr} {fd : FuncData} {ps : List Str} {sp sp' : Sp}
theorem fn_lift (F : FnOk P w K mg base CX0 k f fd ps sp) : FnOk P w K mg base (L2.CX P w) k f fd ps sp :=
  ⟨F.len, fun A o s H ar us vs Q E hr e0 b r h => codeAny_mono (F.run A o s H ar us vs Q E hr e0 b r h) fun res s' hq => by
    cases res with
    | error e => exact (show False from hq).elim
    | ok fl => cases fl <;> exact hq⟩
theorem fn_or {CX : CXT} (F : FnOk P w K mg base CX k f fd ps sp) (G : FnOk P w K mg base CX k f fd ps sp') : FnOk P w K mg base CX k f fd ps (fun vs H Q E => sp vs H Q E ∨ sp' vs H Q E) :=
  ⟨fun vs H Q E h => h.elim (F.len vs H Q E) (G.len vs H Q E), fun A o s H ar us vs Q E hr e0 b r h => h.elim (F.run A o s H ar us vs Q E hr e0 b r) (G.run A o s H ar us vs Q E hr e0 b r)⟩
/-- a def of the top that may raise, with its promise -/
structure GloX (P : Program) (w : World) (K : PySem.W.Frag) (mg : Str → Option Value) (base : Heap) (nm : Str) (n : Nat) (ps : List Str) (sp : Sp) where
  f : Addr
  fd : FuncData
  G : FnOk P w K mg base (L2.CX P w) n f fd ps sp
  m : mg nm = some (.ref f)
  k : PySem.W.keepIn K (.ref f) = true
  b : Binds K fd ps []
structure MetX (P : Program) (w : World) (K : PySem.W.Frag) (mg : Str → Option Value) (base : Heap) (C : Addr) (nm : Str) (n : Nat) (ps : List Str) (sp : Sp) where
  f : Addr
  fd : FuncData
  D : Dun K C nm f
  kp : PySem.W.keepIn K (.ref f) = true
  G : FnOk P w K mg base (L2.CX P w) n f fd ps sp
  b : Binds K fd ps []
end
structure TxtQ (mg : Str → Option Value) : Prop where
  isi : mg "isinstance" = none
  str : mg "str" = none
  len : mg "len" = none
  tup : mg "tuple" = none
  dict : mg "dict" = none
section
variable {P : Program} {w : World} {K : PySem.W.Frag} {mg : Str → Option Value} {base : Heap}
/-- the class of programs: its instances' fields are their own -/
structure PgC (K : PySem.W.Frag) (C : Addr) : Prop where
  cl : Cls K C
  nb : NoAttr K C "_bodies"
  ns : NoAttr K C "_size"
  ne : NoAttr K C "_events"
  nc : NoAttr K C "_choices"
  ty : OwnTy K C
/-- value in program -/
def spCt (K : PySem.W.Frag) (C : Addr) : Sp := fun vs H Q _ => ∃ x v p, vs = [.ref x, v] ∧ IsPg K C H x p ∧ ((∃ z, v = .str z ∧ Q (.bl (decide (z ∈ names p))) H) ∨ ∃ t, TyX K H v t ∧ PySem.W.kitOne K t (.type "str") = some false ∧ Q (.bl false) H)
theorem ok_ct {f C : Addr} {fd : FuncData} (F : Fun K "__contains__" "Program.__contains__" sCt f fd) (R : PgC K C) (T : TxtQ mg) : FnOk P w K mg base CX0 1 f fd ["self", "value"] (spCt K C) := by
  refine F.ok scCt (fun vs H Q E h => ?_) (fun cdv A outer s H vs Q E hr h => ?_)
  · obtain ⟨x, v, p, rfl, _⟩ := h
    rfl
  · obtain ⟨x, v, p, rfl, ⟨dx, d, e, c, kvs, es, cs, hx, hd, hk, _⟩, q⟩ := h
    have hu := hu_of hr
    refine ⟨_, (pss_one (ps_ret (pe_and (pe_callB call_isi (by rfl) T.isi PyProof.Rows.boot_isinstance (pa_cons (pv 1) (pa_cons (pe_bltn (v := .ty "str") (by rfl) T.str (by decide +kernel) rfl) pa_nil))) (pe_one (pe_cmp (pc_din hu (pv 1) (pe_fld (pv 0) rfl))))))), ?_⟩
    rcases q with ⟨z, rfl, q⟩ | ⟨t, ht, hno, q⟩
    · refine ⟨_, rfl, _, _, _, _, true, rfl, .ty _, .base (.str z), kit_ty (by decide +kernel), _, rfl, iteT ?_⟩
      refine ⟨_, rfl, _, rfl, x, C, dx, _, _, rfl, hx, R.cl, R.nb, rfl, d, _, rfl, DGet.k (k := .inr z) hd, ?_⟩
      have e : (valV kvs (Sum.inr z)).isSome = decide (z ∈ names p) := by
        by_cases h : z ∈ names p
        · rw [decide_eq_true h]; exact valV_of (hk.mem h)
        · rw [decide_eq_false h, hk.none h]; rfl
      rw [e]
      exact q
    · exact ⟨_, rfl, _, _, _, _, false, rfl, .ty _, ht, hno, _, rfl, iteF q⟩
def spLe (K : PySem.W.Frag) (C : Addr) : Sp := fun vs H Q _ => ∃ x p, vs = [.ref x] ∧ IsPg K C H x p ∧ Q (.int (p.length : Nat)) H
theorem ok_le {f C : Addr} {fd : FuncData} (F : Fun K "__len__" "Program.__len__" sLe f fd) (R : PgC K C) (T : TxtQ mg) : FnOk P w K mg base CX0 1 f fd ["self"] (spLe K C) := by
  refine F.ok scLe (fun vs H Q E h => ?_) (fun cdv A outer s H vs Q E hr h => ?_)
  · obtain ⟨x, p, rfl, _⟩ := h
    rfl
  · obtain ⟨x, p, rfl, ⟨dx, d, e, c, kvs, es, cs, hx, hd, hk, _⟩, q⟩ := h
    refine ⟨_, (pss_one (ps_ret (pe_callB call_lenD (by rfl) T.len PySem.boot_len (pa_cons (pe_fld (pv 0) rfl) pa_nil)))), ?_⟩
    refine ⟨_, rfl, x, C, dx, _, _, rfl, hx, R.cl, R.nb, rfl, d, kvs, rfl, hd, ?_⟩
    rw [hk.1]
    exact q
/-- the names, as a tuple -/
def spNa (K : PySem.W.Frag) (C : Addr) : Sp := fun vs H Q _ => ∃ x p, vs = [.ref x] ∧ IsPg K C H x p ∧ ∀ t H', H t = none → Same H H' → H' t = some (.tup ((names p).map V.str)) → Q (.ref t) H'
theorem PrgK.strs {H : Hp} {kvs : List (Key × V)} {p : Pg} (h : PrgK H kvs p) : (kvs.map fun kv => kV kv.1) = (names p).map V.str := by
  have e := congrArg (List.map kV) h.keys
  rw [List.map_map, List.map_map] at e
  exact e
theorem ok_na {f C : Addr} {fd : FuncData} (F : Fun K "names" "Program.names" sNa f fd) (R : PgC K C) (T : TxtQ mg) : FnOk P w K mg base CX0 1 f fd ["self"] (spNa K C) := by
  refine F.ok scNa (fun vs H Q E h => ?_) (fun cdv A outer s H vs Q E hr h => ?_)
  · obtain ⟨x, p, rfl, _⟩ := h
    rfl
  · obtain ⟨x, p, rfl, ⟨dx, d, e, c, kvs, es, cs, hx, hd, hk, _⟩, q⟩ := h
    refine ⟨_, (pss_one (ps_ret (pe_callTy (call_tuple_dK rfl) (by rfl) T.tup (by decide +kernel) (pa_cons (pe_fld (pv 0) rfl) pa_nil)))), ?_⟩
    refine ⟨_, rfl, x, C, dx, _, _, rfl, hx, R.cl, R.nb, rfl, d, kvs, rfl, .inl hd, fun t ht => ?_⟩
    rw [hk.strs]
    exact q t _ ht (same_new ht) upd_same
/-- a copy of the dict -/
def spBo (K : PySem.W.Frag) (C : Addr) : Sp := fun vs H Q _ => ∃ x p, vs = [.ref x] ∧ IsPg K C H x p ∧ ∀ t kvs H', H t = none → Same H H' → H' t = some (.dK kvs) → PrgK H' kvs p → Q (.ref t) H'
theorem ok_bo {f C : Addr} {fd : FuncData} (F : Fun K "bodies" "Program.bodies" sBo f fd) (R : PgC K C) (T : TxtQ mg) : FnOk P w K mg base CX0 1 f fd ["self"] (spBo K C) := by
  refine F.ok scBo (fun vs H Q E h => ?_) (fun cdv A outer s H vs Q E hr h => ?_)
  · obtain ⟨x, p, rfl, _⟩ := h
    rfl
  · obtain ⟨x, p, rfl, ⟨dx, d, e, c, kvs, es, cs, hx, hd, hk, _⟩, q⟩ := h
    refine ⟨_, (pss_one (ps_ret (pe_callTy call_dictD (by rfl) T.dict (by decide +kernel) (pa_cons (pe_fld (pv 0) rfl) pa_nil)))), ?_⟩
    refine ⟨_, rfl, x, C, dx, _, _, rfl, hx, R.cl, R.nb, rfl, d, kvs, rfl, .inl hd, fun t ht => ?_⟩
    have st := same_new (o := .dK kvs) ht
    exact q t kvs _ ht st upd_same ((Tk.same st).pg hk)
def spIc (K : PySem.W.Frag) (C : Addr) : Sp := fun vs H Q _ => ∃ x p, vs = [.ref x] ∧ IsPg K C H x p ∧ Q (.bl (decide (chosen (allP p) = []))) H
theorem ok_ic {f C : Addr} {fd : FuncData} (F : Fun K "is_closed" "Program.is_closed" sIc f fd) (R : PgC K C) (T : TxtQ mg) : FnOk P w K mg base CX0 1 f fd ["self"] (spIc K C) := by
  refine F.ok scIc (fun vs H Q E h => ?_) (fun cdv A outer s H vs Q E hr h => ?_)
  · obtain ⟨x, p, rfl, _⟩ := h
    rfl
  · obtain ⟨x, p, rfl, ⟨dx, d, e, c, kvs, es, cs, hx, hd, hk, he, ho, hc, hcs⟩, q⟩ := h
    refine ⟨_, (pss_one (ps_ret (pe_cmpR op_eq (pe_callB call_len_seq (by rfl) T.len PySem.boot_len (pa_cons (pe_fld (pv 0) rfl) pa_nil)) pe_int (nomark _)))), ?_⟩
    refine ⟨_, rfl, x, C, dx, _, _, rfl, hx, R.cl, R.nc, rfl, c, cs, rfl, .inr (SqT.of hc), rfl, ?_⟩
    have l := hcs.1
    have e : decide (V.int (cs.length : Nat) = V.int 0) = decide (chosen (allP p) = []) := by
      rw [l]
      cases chosen (allP p) with
      | nil => rfl
      | cons y l =>
        rw [decide_eq_false (fun z => by have := V.int.inj z; rw [List.length_cons] at this; omega), decide_eq_false (fun z => nomatch z)]
    rw [e]
    exact q
/-- what check_name needs of UnknownName -/
structure UnkC (P : Program) (w : World) (K : PySem.W.Frag) (mg : Str → Option Value) (U : Addr) : Prop where
  made : VMade P w K mg U "name"
  b : PySem.W.subIn K (.ref U) (.type "BaseException") = some true
  t : PySem.W.typeIn K (.ref U) = some (.type "type")
  g : mg "UnknownName" = some (.ref U)
  k : PySem.W.keepIn K (.ref U) = true
theorem UnkC.rs {X : Cx} {U : Addr} (T : UnkC P w X.K mg U) : Raises X (.ref U) := raises_own T.b T.t
/-- the name is there -/
def spCn (K : PySem.W.Frag) (C : Addr) : Sp := fun vs H Q _ => ∃ x z p, vs = [.ref x, .str z] ∧ IsPg K C H x p ∧ z ∈ names p ∧ Q .non H
theorem ok_cn {f C : Addr} {fd : FuncData} (F : Fun K "check_name" "check_name" sCn f fd) (M : Met P w K mg base C "__contains__" 1 ["self", "value"] (spCt K C)) : FnOk P w K mg base CX0 2 f fd ["free", "name"] (spCn K C) := by
  refine F.ok scCn (fun vs H Q E h => ?_) (fun cdv A outer s H vs Q E hr h => ?_)
  · obtain ⟨x, z, p, rfl, _⟩ := h
    rfl
  · obtain ⟨x, z, p, rfl, hx, hz, q⟩ := h
    refine ⟨_, (pss_one (ps_if (pt_cmpR (op_notInOwn M.D M.G hr M.b pass0) (pv 1) (pv 0) rfl) pss_never pss_nil)), ?_⟩
    have hx0 := hx
    obtain ⟨dx, d, e, c, kvs, es, cs, h1, _⟩ := hx0
    refine ⟨_, rfl, _, rfl, x, dx, _, rfl, h1, x, _, p, rfl, hx, .inl ⟨z, rfl, _, rfl, _, rfl, ?_⟩⟩
    rw [decide_eq_true hz]
    exact iteF q
/-- it isn't -/
def Unk (U : Addr) (v : V) (H : Hp) (E : XK) : Prop := ∀ d H', H d = none → Same H H' → H' d = some (ExD "name" v d) → E (.ref U) (some d) H'
def spCnX (K : PySem.W.Frag) (C U : Addr) : Sp := fun vs H Q E => ∃ x v p, vs = [.ref x, v] ∧ IsPg K C H x p ∧ ((∃ z, v = .str z ∧ z ∉ names p) ∨ ∃ t, TyX K H v t ∧ PySem.W.kitOne K t (.type "str") = some false) ∧ Unk U v H E
theorem ok_cnX {f C U : Addr} {fd : FuncData} (F : Fun K "check_name" "check_name" sCn f fd) (M : Met P w K mg base C "__contains__" 1 ["self", "value"] (spCt K C)) (TU : UnkC P w K mg U) : FnOk P w K mg base (L2.CX P w) 2 f fd ["free", "name"] (spCnX K C U) := by
  refine F.okX scCn (fun vs H Q E h => ?_) (fun cdv A outer s H vs Q E hr h => ?_)
  · obtain ⟨x, v, p, rfl, _⟩ := h
    rfl
  · obtain ⟨x, v, p, rfl, hx, hv, q⟩ := h
    refine ⟨_, (pss_one (ps_if (pt_cmpR (op_notInOwn M.D (fn_lift M.G) hr M.b (passes_call (takes_of rfl rfl rfl rfl) (fun _ _ _ _ h => h))) (pv 1) (pv 0) rfl) (pss_one (ps_raise rfl (takes_of rfl rfl rfl rfl) (pmk_name TU.made TU.rs hr TU.g TU.k (by rfl) (pv 1)))) pss_nil)), ?_⟩
    have hx0 := hx
    obtain ⟨dx, d, e, c, kvs, es, cs, h1, _⟩ := hx0
    have fin : ∀ d, H d = none → E (.ref U) (some d) (upd H d (ExD "name" v d)) := fun d nd => q d _ nd (same_new nd) upd_same
    refine ⟨_, rfl, _, rfl, x, dx, _, rfl, h1, x, _, p, rfl, hx, ?_⟩
    rcases hv with ⟨z, rfl, hz⟩ | ⟨t, ht, hno⟩
    · refine .inl ⟨z, rfl, _, rfl, _, rfl, ?_⟩
      rw [decide_eq_false hz]
      exact iteT ⟨_, rfl, fin⟩
    · exact .inr ⟨t, ht, hno, _, rfl, _, rfl, iteT ⟨_, rfl, fin⟩⟩
/-- program[name] -/
def spGt (K : PySem.W.Frag) (C : Addr) : Sp := fun vs H Q _ => ∃ x z p, vs = [.ref x, .str z] ∧ IsPg K C H x p ∧ (names p).Nodup ∧ z ∈ names p ∧ ∀ v, BdAt 5 H v (bodyOf p z) → Q v H
theorem ok_gt {f C : Addr} {fd : FuncData} (F : Fun K "__getitem__" "Program.__getitem__" sGt f fd) (R : PgC K C) (gC : Glo P w K mg base "check_name" 2 ["free", "name"] (spCn K C)) : FnOk P w K mg base CX0 3 f fd ["self", "at"] (spGt K C) := by
  refine F.ok scGt (fun vs H Q E h => ?_) (fun cdv A outer s H vs Q E hr h => ?_)
  · obtain ⟨x, z, p, rfl, _⟩ := h
    rfl
  · obtain ⟨x, z, p, rfl, hx, hn, hz, q⟩ := h
    have hu := hu_of hr
    refine ⟨_, (pss_cons (ps_expr (pe_call gC.G (hr.mono (by decide)) (by rfl) gC.m gC.k gC.b .nil pass0 (pa_cons (pv 0) (pa_cons (pv 1) pa_nil))))
      (pss_one (ps_ret (pe_dget hu (pe_fld (pv 0) rfl) (pv 1) (fun _ _ => rfl))))), ?_⟩
    have hx0 := hx
    obtain ⟨dx, d, e, c, kvs, es, cs, h1, hd, hk, _⟩ := hx0
    obtain ⟨v, e1, hb⟩ := hk.val hn hz
    have g := DGet.k (k := .inr z) hd
    rw [e1] at g
    exact ⟨_, rfl, _, rfl, x, z, p, rfl, hx, hz, _, rfl, x, C, dx, _, _, rfl, h1, R.cl, R.nb, rfl, _, rfl, d, v, rfl, g, q v hb⟩
/-- .. of another one -/
theorem ok_gtX {f C U : Addr} {fd : FuncData} (F : Fun K "__getitem__" "Program.__getitem__" sGt f fd) (gC : GloX P w K mg base "check_name" 2 ["free", "name"] (spCnX K C U)) : FnOk P w K mg base (L2.CX P w) 3 f fd ["self", "at"] (spCnX K C U) := by
  refine F.okX scGt (fun vs H Q E h => ?_) (fun cdv A outer s H vs Q E hr h => ?_)
  · obtain ⟨x, v, p, rfl, _⟩ := h
    rfl
  · obtain ⟨x, v, p, rfl, hx, hv, q⟩ := h
    have hu := hu_of hr
    refine ⟨_, (pss_cons (ps_expr (pe_call gC.G hr (by rfl) gC.m gC.k gC.b .nil (passes_call (takes_of rfl rfl rfl rfl) (fun _ _ _ _ h => h)) (pa_cons (pv 0) (pa_cons (pv 1) pa_nil))))
      (pss_one (ps_ret (pe_dget hu (pe_fld (pv 0) rfl) (pv 1) (fun _ _ => rfl))))), ?_⟩
    exact ⟨_, rfl, _, rfl, x, v, p, rfl, hx, hv, q⟩
theorem PrgK.eq_hits {H : Hp} {ls : List (Key × V)} {q : Pg} (hl : PrgK H ls q) (hn : (names q).Nodup) : ∀ {kvs : List (Key × V)} {p : Pg}, PrgK H kvs p → ∃ r, Hits K H ls kvs r ∧ (r = true ↔ ∀ x ∈ p, x.1 ∈ names q ∧ PyData.eqv (dB 5 x.2) (dB 5 (bodyOf q x.1)) = true)
  | [], [], _ => ⟨true, .nil, by simp⟩
  | [], _ :: _, h => by simp [PrgK] at h
  | _ :: _, [], h => by simp [PrgK] at h
  | (k, v) :: kvs, y :: p, h => by
    obtain ⟨z, b, e1, e2, hb⟩ := h.2 0 k v rfl
    cases e2
    cases e1
    have t : PrgK H kvs p := ⟨by have := h.1; simpa using this, fun i k v e => h.2 (i + 1) k v e⟩
    obtain ⟨r, hr, hiff⟩ := PrgK.eq_hits hl hn t
    by_cases hz : z ∈ names q
    · obtain ⟨u, e3, hu⟩ := hl.val hn hz
      refine ⟨_, .hit e3 (dpB 5 hb) (dpB 5 hu) (plainD_B (by decide) b) (plainD_B (by decide) _) hr, ?_⟩
      rw [Bool.and_eq_true, hiff]
      constructor
      · rintro ⟨a, c⟩ x hx
        rcases List.mem_cons.mp hx with e | hx
        · rw [e]; exact ⟨hz, a⟩
        · exact c x hx
      · intro c
        exact ⟨(c _ List.mem_cons_self).2, fun x hx => c x (List.mem_cons_of_mem _ hx)⟩
    · refine ⟨false, .miss (hl.none hz), ?_⟩
      constructor
      · intro h; cases h
      · intro c; exact absurd (c _ List.mem_cons_self).1 hz
/-- program == value -/
def spEq (K : PySem.W.Frag) (C : Addr) : Sp := fun vs H Q _ => ∃ x v p, vs = [.ref x, v] ∧ IsPg K C H x p ∧ ((∃ y q, v = .ref y ∧ IsPg K C H y q ∧ (names q).Nodup ∧ ∀ r, (r = true ↔ p.length = q.length ∧ ∀ x ∈ p, x.1 ∈ names q ∧ PyData.eqv (dB 5 x.2) (dB 5 (bodyOf q x.1)) = true) → Q (.bl r) H) ∨
  ∃ t, TyX K H v t ∧ PySem.W.kitOne K t (.ref C) = some false ∧ Q (.bl false) H)
theorem ok_eq {f C : Addr} {fd : FuncData} (F : Fun K "__eq__" "Program.__eq__" sEq f fd) (R : PgC K C) (T : TxtQ mg) (mC : mg "Program" = some (.ref C)) (kYes : PySem.W.kitOne K (.ref C) (.ref C) = some true) : FnOk P w K mg base CX0 1 f fd ["self", "other"] (spEq K C) := by
  refine F.ok scEq (fun vs H Q E h => ?_) (fun cdv A outer s H vs Q E hr h => ?_)
  · obtain ⟨x, v, p, rfl, _⟩ := h
    rfl
  · obtain ⟨x, v, p, rfl, ⟨dx, d, e, c, kvs, es, cs, hx, hd, hk, _⟩, q⟩ := h
    refine ⟨_, (pss_one (ps_ret (pe_and (pe_callB call_isi (by rfl) T.isi PyProof.Rows.boot_isinstance (pa_cons (pv 1) (pa_cons (pe_glob (v := .ref C) (by rfl) mC rfl) pa_nil))) (pe_one (pe_cmpR (op_eqKD (K := K) rfl hr.units) (pe_fld (pv 0) rfl) (pe_fld (pv 1) rfl) (nomark _)))))), ?_⟩
    rcases q with ⟨y, pq, rfl, ⟨dy, d2, e2, c2, ls, es2, cs2, hy, hd2, hk2, _⟩, hn, q⟩ | ⟨t, ht, hno, q⟩
    · refine ⟨_, rfl, _, _, _, _, true, rfl, .own C, .base (R.ty.ins hy), kYes, _, rfl, iteT ?_⟩
      obtain ⟨r, hr, hiff⟩ := PrgK.eq_hits (K := K) hk2 hn hk
      refine ⟨_, rfl, x, C, dx, _, _, rfl, hx, R.cl, R.nb, rfl, _, rfl, y, C, dy, _, _, rfl, hy, R.cl, R.nb, rfl, d, d2, kvs, ls, r, rfl, rfl, hd, hd2, fun _ => hr, q _ ?_⟩
      rw [Bool.and_eq_true, hiff, hk.1, hk2.1, beq_iff_eq]
    · exact ⟨_, rfl, _, _, _, _, false, rfl, .own C, ht, hno, _, rfl, iteF q⟩
theorem num_small (n : Nat) (h : n ≤ 60) : ((n : Nat) : Int).natAbs.log2 < 1920 ∧ (toString ((n : Nat) : Int) : Str).length ≤ 2 := by
  have all : ((List.range 61).all fun n => decide (((n : Nat) : Int).natAbs.log2 < 1920) && decide ((toString ((n : Nat) : Int) : Str).length ≤ 2)) = true := by decide +kernel
  have z := List.all_eq_true.mp all n (List.mem_range.mpr (by omega))
  obtain ⟨a, b⟩ := Bool.and_eq_true_iff.mp z
  exact ⟨of_decide_eq_true a, of_decide_eq_true b⟩
theorem str_len_append (a b : Str) : (a ++ b).length = a.length + b.length := by
  show (a ++ b).cps.size = a.cps.size + b.cps.size
  exact Array.size_append
theorem fit_cat {a b : Str} {m n : Nat} (ha : a.length ≤ m) (hb : b.length ≤ n) (h : m + n ≤ 900) : (a ++ b).length ≤ sizeLine := by
  rw [str_len_append, sizeLine_eq]
  omega
/-- str(program) -/
def shown (p : Pg) : Str := "program of " ++ (toString ((p.length : Nat) : Int) : Str) ++ " procedures, " ++ (toString (((allP p).length : Nat) : Int) : Str) ++ " statements"
def spSt (K : PySem.W.Frag) (C : Addr) : Sp := fun vs H Q _ => ∃ x p, vs = [.ref x] ∧ IsPg K C H x p ∧ p.length ≤ 8 ∧ (allP p).length ≤ 60 ∧ Q (.str (shown p)) H
theorem ok_st {f C : Addr} {fd : FuncData} (F : Fun K "__str__" "Program.__str__" sSt f fd) (R : PgC K C) (T : TxtQ mg) : FnOk P w K mg base CX0 1 f fd ["self"] (spSt K C) := by
  refine F.ok scSt (fun vs H Q E h => ?_) (fun cdv A outer s H vs Q E hr h => ?_)
  · obtain ⟨x, p, rfl, _⟩ := h
    rfl
  · obtain ⟨x, p, rfl, ⟨dx, d, e, c, kvs, es, cs, hx, hd, hk, _⟩, l8, l60, q⟩ := h
    refine ⟨_, (pss_one (ps_ret (pe_joined (.cons pe_str (.cons (pe_fmt (pe_callB call_lenD (by rfl) T.len PySem.boot_len (pa_cons (pe_fld (pv 0) rfl) pa_nil))) (.cons pe_str (.cons (pe_fmt (pe_fld (pv 0) rfl)) (.cons pe_str .nil)))))))), ?_⟩
    obtain ⟨n1, z1⟩ := num_small p.length (by omega)
    obtain ⟨n2, z2⟩ := num_small (allP p).length l60
    have e1 : kvs.length = p.length := hk.1
    have c1 : (Str.empty ++ ("program of " : Str)).length ≤ 20 := by decide +kernel
    have c2 : (" procedures, " : Str).length ≤ 20 := by decide +kernel
    have c3 : (" statements" : Str).length ≤ 20 := by decide +kernel
    have l1 := str_len_append (Str.empty ++ ("program of " : Str)) (toString ((p.length : Nat) : Int) : Str)
    have l2 := str_len_append (Str.empty ++ ("program of " : Str) ++ (toString ((p.length : Nat) : Int) : Str)) (" procedures, " : Str)
    have l3 := str_len_append (Str.empty ++ ("program of " : Str) ++ (toString ((p.length : Nat) : Int) : Str) ++ (" procedures, " : Str)) (toString (((allP p).length : Nat) : Int) : Str)
    have l4 := str_len_append (Str.empty ++ ("program of " : Str) ++ (toString ((p.length : Nat) : Int) : Str) ++ (" procedures, " : Str) ++ (toString (((allP p).length : Nat) : Int) : Str)) (" statements" : Str)
    have big : 900 ≤ sizeLine := by rw [sizeLine_eq]; decide
    refine ⟨_, rfl, by omega, ?_⟩
    refine ⟨_, rfl, x, C, dx, _, _, rfl, hx, R.cl, R.nb, rfl, d, kvs, rfl, hd, .inr ⟨_, rfl, by rw [e1]; exact n1, ?_⟩⟩
    rw [e1]
    refine ⟨_, rfl, by omega, _, rfl, by omega, ?_⟩
    refine ⟨_, rfl, x, C, dx, _, _, rfl, hx, R.cl, R.ns, rfl, .inr ⟨_, rfl, n2, _, rfl, by omega, _, rfl, by omega, ?_⟩⟩
    have e0 : Str.empty ++ ("program of " : Str) = ("program of " : Str) := PySem.Str.empty_append _
    show Q (V.str (Str.empty ++ ("program of " : Str) ++ (toString ((p.length : Nat) : Int) : Str) ++ (" procedures, " : Str) ++ (toString (((allP p).length : Nat) : Int) : Str) ++ (" statements" : Str))) H
    rw [e0]
    exact q
end
end FR
set_option Elab.async false
set_option linter.all false
set_option maxRecDepth 100000
set_option maxHeartbeats 1000000
/-! another body for a procedure -/
namespace FR
open PySem PySem.Spec PyProof.Rows L2
/-- the program with this body for a procedure -/
def setP (p : Pg) (z : Str) (b : Bd) : Pg := if z ∈ names p then p.map fun x => if x.1 = z then (z, b) else x else p ++ [(z, b)]
theorem PrgK.any {H : Hp} {kvs : List (Key × V)} {p : Pg} (h : PrgK H kvs p) (z : Str) : (kvs.any fun kv => decide (kv.1 = (Sum.inr z : Key))) = decide (z ∈ names p) := by
  rw [valV_any]
  by_cases c : z ∈ names p
  · rw [decide_eq_true c]; exact valV_of (h.mem c)
  · rw [decide_eq_false c, h.none c]; rfl
theorem PrgK.set {H : Hp} {kvs : List (Key × V)} {p : Pg} {z : Str} {v : V} {b : Bd} (h : PrgK H kvs p) (hv : BdAt 5 H v b) : PrgK H (putK kvs (.inr z) v) (setP p z b) := by
  by_cases c : z ∈ names p
  · have e : putK kvs (.inr z) v = kvs.map fun kv => if kv.1 = .inr z then (kv.1, v) else kv := by
      unfold putK
      rw [if_pos (by rw [h.any]; exact decide_eq_true c)]
    unfold setP
    rw [e, if_pos c]
    refine ⟨by rw [List.length_map, List.length_map, h.1], fun i k u hi => ?_⟩
    rw [List.getElem?_map] at hi
    cases hk : kvs[i]? with
    | none => rw [hk] at hi; cases hi
    | some kv =>
      rw [hk] at hi
      obtain ⟨k0, u0⟩ := kv
      obtain ⟨z', b', e1, e2, e3⟩ := h.2 i k0 u0 hk
      subst e1
      have hi : (if (Sum.inr z' : Key) = .inr z then (Sum.inr z', v) else (Sum.inr z', u0)) = (k, u) := Option.some.inj hi
      rw [List.getElem?_map, e2]
      by_cases q : z' = z
      · subst q
        rw [if_pos rfl] at hi
        cases hi
        exact ⟨z', b, rfl, by show some (if z' = z' then (z', b) else (z', b')) = _; rw [if_pos rfl], hv⟩
      · rw [if_neg (fun y => q (Sum.inr.inj y))] at hi
        cases hi
        exact ⟨z', b', rfl, by show some (if z' = z then (z, b) else (z', b')) = _; rw [if_neg q], e3⟩
  · unfold setP
    rw [if_neg c, putK_new _ (h.none c)]
    exact h.snoc hv
theorem setP_names (p : Pg) (z : Str) (b : Bd) : names (setP p z b) = if z ∈ names p then names p else names p ++ [z] := by
  unfold setP
  by_cases c : z ∈ names p
  · rw [if_pos c, if_pos c, names, List.map_map]
    exact List.map_congr_left fun x _ => by
      show (if x.1 = z then (z, b) else x).1 = x.1
      by_cases q : x.1 = z
      · rw [if_pos q, q]
      · rw [if_neg q]
  · rw [if_neg c, if_neg c, names, List.map_append]
    rfl
theorem setP_nodup {p : Pg} {z : Str} {b : Bd} (h : (names p).Nodup) : (names (setP p z b)).Nodup := by
  rw [setP_names]
  by_cases c : z ∈ names p
  · rw [if_pos c]; exact h
  · rw [if_neg c, List.nodup_append]
    exact ⟨h, by simp, fun a ha b hb e => c (List.mem_singleton.mp hb ▸ e ▸ ha)⟩
end FR
set_option Elab.async false
set_option linter.all false
set_option maxRecDepth 100000
namespace LD
open PySem PySem.Spec PyProof.Rows L2
/-! ### The text by places -/
def top (i : Nat) : Stmt := PySem.Challenge.pw_surelyends_k68_weights_changed.main.body.getD i (.Pass ⟨0, 0, 0, 0⟩)
abbrev sDice : Stmt := top 50
abbrev sRoll : Stmt := top 51
abbrev sOneOf : Stmt := top 52
/-! ### The dice -/
abbrev dxs (a b c : Int) : List V := [V.int a, V.int b, V.int c]
/-- the dice stand at d -/
def DiceAt (H : Hp) (d : Addr) : Prop := ∃ a b c : Int, H d = some (.lst (dxs a b c))
/-- nothing but the dice has changed -/
structure Rolled (H H' : Hp) (d : Addr) : Prop where
  ho : ∃ a b c : Int, H' = upd H d (.lst (dxs a b c))
def spRoll : Sp := fun vs H Q _ => ∃ (d : Addr) (n : Int), vs = [.ref d, .int n] ∧ DiceAt H d ∧ 0 < n ∧ n < 1073741824 ∧
  ∀ (r a b c : Int), 0 ≤ r → r < n → Q (.int r) (upd H d (.lst (dxs a b c)))
section
variable {P : Program} {w : World} {K : PySem.W.Frag} {mg : Str → Option Value} {base : Heap}
theorem scR : FnScope ["_law_dice_here", "_law_total", "_law_found", "_law_one", "_law_two"] ["_law_dice_here", "_law_total"] (defScope sRoll) :=
  ⟨rfl, rfl, rfl, by decide +kernel, rfl, by decide +kernel, by decide +kernel⟩
theorem nz1 : (2305843009213693951 : Int) ≠ 0 := by decide
theorem nz2 : (2305843009213693921 : Int) ≠ 0 := by decide
theorem nz3 : (2305843009213693907 : Int) ≠ 0 := by decide
theorem at0 {a b c : Int} : atI (dxs a b c) (0 : Int) = some (V.int a) := rfl
theorem at1 {a b c : Int} : atI (dxs a b c) (1 : Int) = some (V.int b) := rfl
theorem at2 {a b c : Int} : atI (dxs a b c) (2 : Int) = some (V.int c) := rfl
theorem ok_roll {f : Addr} {fd : FuncData} (F : Fun K "_law_roll" "_law_roll" sRoll f fd) (mI : mg "int" = none) : FnOk P w K mg base CX0 1 f fd ["_law_dice_here", "_law_total"] spRoll := by
  refine F.ok scR (fun vs H Q E h => ?_) (fun cdv A outer s H vs Q E hr h => ?_)
  · obtain ⟨d, n, rfl, _⟩ := h
    rfl
  · obtain ⟨d, n, rfl, ⟨a, b, c, hd⟩, h0, h1, k⟩ := h
    have hu := hu_of hr
    refine ⟨_, pss_cons (ps_if (pt_cmpR op_gt (pe_ix ix_list (pv 0) pe_int (fun _ _ => rfl)) pe_int (nomark _))
        (pss_cons (ps_set (i := 2) scR.nd rfl (Or.inl rfl) (pe_op op_modN (pe_callTy call_int1 (by rfl) mI (by decide +kernel) (pa_cons (pe_ix ix_list (pv 0) pe_int (fun _ _ => rfl)) pa_nil)) (pv 1)))
        (pss_cons (ps_asg (pe_op op_fdivN (pe_ix ix_list (pv 0) pe_int (fun _ _ => rfl)) (pv 1)) (pg_sub (pv 0) pe_int set_list))
        (pss_one (ps_ret (pv 2))))) pss_nil)
      (pss_cons (ps_asg (pe_op op_add (pe_ix ix_list (pv 0) pe_int (fun _ _ => rfl)) pe_int) (pg_sub (pv 0) pe_int set_list))
      (pss_cons (ps_set (i := 3) scR.nd rfl (Or.inl rfl) (pe_op op_modN (pe_callTy call_int1 (by rfl) mI (by decide +kernel) (pa_cons (pe_op op_add (pe_ix ix_list (pv 0) pe_int (fun _ _ => rfl)) (pe_op op_mul pe_int (pe_ix ix_list (pv 0) pe_int (fun _ _ => rfl)))) pa_nil)) pe_int))
      (pss_cons (ps_set (i := 4) scR.nd rfl (Or.inl rfl) (pe_op op_add (pe_op op_mul (pe_op op_modN (pe_callTy call_int1 (by rfl) mI (by decide +kernel) (pa_cons (pe_op op_mul (pv 3) (pv 3)) pa_nil)) pe_int) (pv 3)) (pe_op op_mul pe_int (pe_ix ix_list (pv 0) pe_int (fun _ _ => rfl)))))
      (pss_cons (ps_set (i := 4) scR.nd rfl (Or.inl rfl) (pe_op op_modN (pe_callTy call_int1 (by rfl) mI (by decide +kernel) (pa_cons (pv 4) pa_nil)) pe_int))
      (pss_one (ps_ret (pe_op op_modN (pe_callTy call_int1 (by rfl) mI (by decide +kernel) (pa_cons (pe_op op_fdivN (pv 4) pe_int) pa_nil)) (pv 1)))))))), ?_⟩
    refine ⟨_, rfl, d, _, _, _, rfl, rfl, SqL.of hd, at0, _, _, rfl, rfl, _, rfl, ?_⟩
    have hm : ∀ x : Int, 0 ≤ x.fmod n ∧ x.fmod n < n := fun x => by
      rw [Int.fmod_eq_emod_of_nonneg x (by omega)]
      exact ⟨Int.emod_nonneg x (by omega), Int.emod_lt_of_pos x h0⟩
    refine ite2 (fun ha => ?_) (fun ha => ?_)
    · refine ⟨_, rfl, d, _, _, _, rfl, rfl, SqL.of hd, at0, .inl ⟨_, rfl, ?_⟩⟩
      refine ⟨_, rfl, _, _, rfl, rfl, by omega, ?_⟩
      refine ⟨_, rfl, d, _, _, _, rfl, rfl, SqL.of hd, at0, _, rfl, _, _, rfl, rfl, ⟨by omega, by omega⟩, ?_⟩
      refine ⟨_, rfl, d, _, _, 0, rfl, rfl, hd, rfl, ?_⟩
      refine ⟨_, rfl, ?_⟩
      exact k _ _ _ _ (hm _).1 (hm _).2
    · refine ⟨_, rfl, d, _, _, _, rfl, rfl, SqL.of hd, at2, _, _, rfl, rfl, ?_⟩
      refine ⟨_, rfl, d, _, _, 2, rfl, rfl, hd, rfl, ?_⟩
      have hd2 : upd H d (.lst (dxs a b (c + 1))) d = some (.lst (dxs a b (c + 1))) := upd_same
      refine ⟨_, rfl, d, _, _, _, rfl, rfl, SqL.of hd2, at1, ?_⟩
      refine ⟨_, rfl, d, _, _, _, rfl, rfl, SqL.of hd2, at2, ?_⟩
      refine ⟨_, _, rfl, rfl, .inl ⟨by decide, by decide⟩, ?_⟩
      refine ⟨_, _, rfl, rfl, .inl ⟨_, rfl, ?_⟩⟩
      refine ⟨_, _, rfl, rfl, nz1, ?_⟩
      generalize hone : Int.fmod (b + 1000193 * (c + 1)) 2305843009213693951 = one
      have ho : 0 ≤ one ∧ one < 2305843009213693951 := by
        rw [← hone, Int.fmod_eq_emod_of_nonneg _ (by decide)]
        exact ⟨Int.emod_nonneg _ (by decide), Int.emod_lt_of_pos _ (by decide)⟩
      refine ⟨_, rfl, _, rfl, _, _, rfl, rfl, .inl ⟨by omega, by omega⟩, .inl ⟨_, rfl, ?_⟩⟩
      refine ⟨_, _, rfl, rfl, nz2, ?_⟩
      generalize htwo : Int.fmod (one * one) 2305843009213693921 = two
      refine ⟨_, rfl, _, _, rfl, rfl, .inr ⟨by omega, by omega⟩, ?_⟩
      refine ⟨_, rfl, d, _, _, _, rfl, rfl, SqL.of hd2, at2, ?_⟩
      refine ⟨_, _, rfl, rfl, .inl ⟨by decide, by decide⟩, ?_⟩
      refine ⟨_, _, rfl, rfl, ?_⟩
      generalize two * one + 8221 * (c + 1) = three
      refine ⟨_, rfl, .inl ⟨_, rfl, ?_⟩⟩
      refine ⟨_, _, rfl, rfl, nz3, ?_⟩
      refine ⟨_, rfl, _, _, rfl, rfl, ⟨by decide, by decide⟩, .inl ⟨_, rfl, ?_⟩⟩
      refine ⟨_, rfl, _, _, rfl, rfl, by omega, ?_⟩
      exact k _ _ _ _ (hm _).1 (hm _).2

/-! ### powers of any size within the line -/
def CPowW (i j : Int) : Prop := 0 ≤ j ∧ (Builtin.Int.intBits i : Int) * j ≤ 2 ^ 27
theorem op_powW {X : Cx} : OpR X (binaryOp .Pow) (rI CPowW fun i j => .int (i ^ j.toNat)) := opI fun _ _ _ _ _ _ _ hc q => pow_int hc.1 hc.2 q
theorem pow60 : CPowW 10 60 := ⟨by decide, by decide +kernel⟩
theorem pow600 : CPowW ((10 : Int) ^ (60 : Int).toNat) 10 := ⟨by decide, by decide +kernel⟩
theorem pow18 : CPowW 10 18 := ⟨by decide, by decide +kernel⟩
def big600 : Int := ((10 : Int) ^ (60 : Int).toNat) ^ (10 : Int).toNat
theorem big600_nz : ((10 : Int) ^ (60 : Int).toNat) ^ (10 : Int).toNat ≠ 0 := by decide +kernel
theorem nz4 : (2147483549 : Int) ≠ 0 := by decide
theorem nz5 : (2147483543 : Int) ≠ 0 := by decide
def spDice (K : PySem.W.Frag) : Sp := fun vs H Q _ => ∃ (a : Addr) (ns : List Int) (i : Nat) (j : Int), vs = [.ref a, .int j] ∧ j = (i : Int) ∧ SqL K H a (ns.map V.int) ∧
  ∀ (p : Addr) (x y z : Int), H p = none → Q (.ref p) (upd H p (.lst (dxs x y z)))
structure TxtD (mg : Str → Option Value) : Prop where
  mI : mg "int" = none
  mL : mg "len" = none
  mA : mg "abs" = none
  mM : mg "max" = none
theorem scD : FnScope ["_law_script", "_law_at", "_law_cell", "_law_great", "_law_mixed_here"] ["_law_script", "_law_at"] (defScope sDice) :=
  ⟨rfl, rfl, rfl, by decide +kernel, rfl, by decide +kernel, by decide +kernel⟩
theorem ok_dice {f : Addr} {fd : FuncData} (F : Fun K "_law_dice" "_law_dice" sDice f fd) (T : TxtD mg) : FnOk P w K mg base CX0 1 f fd ["_law_script", "_law_at"] (spDice K) := by
  refine F.ok scD (fun vs H Q E h => ?_) (fun cdv A outer s H vs Q E hr h => ?_)
  · obtain ⟨a, ns, i, j, rfl, _⟩ := h
    rfl
  · obtain ⟨a, ns, i, j, rfl, rfl, hs, k⟩ := h
    have hu := hu_of hr
    refine ⟨_, pss_cons (ps_set (i := 2) scD.nd rfl (Or.inl rfl) (pe_op op_add (pe_op op_mul pe_int (pv 1)) pe_int))
      (pss_cons (ps_if (pt_cmpR op_lt (pv 1) (pe_callB call_len_seq (by rfl) T.mL PySem.boot_len (pa_cons (pv 0) pa_nil)) (nomark _))
        (pss_one (ps_set (i := 2) scD.nd rfl (Or.inl rfl) (pe_ix ix_list (pv 0) (pv 1) (fun _ _ => rfl)))) pss_nil)
      (pss_cons (ps_set (i := 3) scD.nd rfl (Or.inl rfl) (pe_op op_modN (pe_callTy call_int1 (by rfl) T.mI (by decide +kernel) (pa_cons (pe_callB call_abs (by rfl) T.mA (by decide +kernel) (pa_cons (pv 2) pa_nil)) pa_nil))
          (pe_op op_powW (pe_op op_powW pe_int pe_int) pe_int)))
      (pss_cons (ps_set (i := 4) scD.nd rfl (Or.inl rfl) (pe_op op_add (pe_op op_add (pe_op op_add
          (pe_op op_mul (pe_op op_modN (pe_callTy call_int1 (by rfl) T.mI (by decide +kernel) (pa_cons (pv 3) pa_nil)) pe_int) pe_int)
          (pe_op op_mul pe_int (pv 1)))
          (pe_op op_mul pe_int (pe_callTy call_int1 (by rfl) T.mI (by decide +kernel) (pa_cons (pe_cmpR op_lt (pv 2) pe_int (nomark _)) pa_nil)))) pe_int))
      (pss_one (ps_ret (pe_lst (pa_cons (pe_callB (call_max2 rfl) (by rfl) T.mM (by decide +kernel) (pa_cons pe_int (pa_cons (pe_op op_sub (pv 3) (pe_op op_powW pe_int pe_int)) pa_nil)))
          (pa_cons (pe_op op_modN (pe_callTy call_int1 (by rfl) T.mI (by decide +kernel) (pa_cons (pv 4) pa_nil)) pe_int) (pa_cons pe_int pa_nil))))))))), ?_⟩
    refine ⟨_, rfl, _, _, rfl, rfl, .inl ⟨by decide, by decide⟩, _, _, rfl, rfl, ?_⟩
    refine ⟨_, rfl, _, rfl, a, _, rfl, .inl hs, _, _, rfl, rfl, _, rfl, ?_⟩
    refine ite2 (fun ha => ?_) (fun ha => ?_)
    · have hlt : i < (ns.map V.int).length := by
        have z := of_decide_eq_true ha
        omega
      refine ⟨_, rfl, _, rfl, a, _, _, V.int ((ns.getD i 0)), rfl, rfl, hs, atI_nat (by
        rw [List.length_map] at hlt
        simp [hlt]), ?_⟩
      refine ⟨_, rfl, _, rfl, .inl ⟨_, rfl, ?_⟩⟩
      refine ⟨_, _, rfl, rfl, pow60, _, _, rfl, rfl, pow600, _, _, rfl, rfl, big600_nz, ?_⟩
      refine ⟨_, rfl, .inl ⟨_, rfl, ?_⟩⟩
      refine ⟨_, _, rfl, rfl, nz4, _, _, rfl, rfl, .inr ⟨by decide, by decide⟩, ?_⟩
      refine ⟨_, rfl, _, _, rfl, rfl, .inl ⟨by decide, by decide⟩, _, _, rfl, rfl, ?_⟩
      refine ⟨_, rfl, _, _, rfl, rfl, .inr ⟨_, rfl, ?_⟩⟩
      refine ⟨_, _, rfl, rfl, .inl ⟨by decide, by decide⟩, _, _, rfl, rfl, _, _, rfl, rfl, ?_⟩
      refine ⟨_, rfl, _, _, rfl, rfl, pow18, _, _, rfl, rfl, _, _, rfl, ?_⟩
      refine ⟨_, rfl, .inl ⟨_, rfl, ?_⟩⟩
      refine ⟨_, _, rfl, rfl, nz5, ?_⟩
      refine ⟨by show 3 ≤ sizeLine; decide, fun p hp => ?_⟩
      exact k _ _ _ _ hp
    · refine ⟨_, rfl, _, rfl, .inl ⟨_, rfl, ?_⟩⟩
      refine ⟨_, _, rfl, rfl, pow60, _, _, rfl, rfl, pow600, _, _, rfl, rfl, big600_nz, ?_⟩
      refine ⟨_, rfl, .inl ⟨_, rfl, ?_⟩⟩
      refine ⟨_, _, rfl, rfl, nz4, _, _, rfl, rfl, .inr ⟨by decide, by decide⟩, ?_⟩
      refine ⟨_, rfl, _, _, rfl, rfl, .inl ⟨by decide, by decide⟩, _, _, rfl, rfl, ?_⟩
      refine ⟨_, rfl, _, _, rfl, rfl, .inr ⟨_, rfl, ?_⟩⟩
      refine ⟨_, _, rfl, rfl, .inl ⟨by decide, by decide⟩, _, _, rfl, rfl, _, _, rfl, rfl, ?_⟩
      refine ⟨_, rfl, _, _, rfl, rfl, pow18, _, _, rfl, rfl, _, _, rfl, ?_⟩
      refine ⟨_, rfl, .inl ⟨_, rfl, ?_⟩⟩
      refine ⟨_, _, rfl, rfl, nz5, ?_⟩
      refine ⟨by show 3 ≤ sizeLine; decide, fun p hp => ?_⟩
      exact k _ _ _ _ hp
/-! ### one of a list's items -/
def spOneOf : Sp := fun vs H Q _ => ∃ (d p : Addr) (xs : List V), vs = [.ref d, .ref p] ∧ DiceAt H d ∧ H p = some (.lst xs) ∧ p ≠ d ∧ 0 < xs.length ∧ xs.length < 1000 ∧
  ∀ (k : Nat) (x : V) (a b c : Int), xs[k]? = some x → Q x (upd H d (.lst (dxs a b c)))
theorem scO : FnScope ["_law_dice_here", "_law_items"] ["_law_dice_here", "_law_items"] (defScope sOneOf) :=
  ⟨rfl, rfl, rfl, by decide +kernel, rfl, by decide +kernel, by decide +kernel⟩
theorem ok_oneOf {f fR : Addr} {fd fdR : FuncData} (F : Fun K "_law_one_of" "_law_one_of" sOneOf f fd) (T : TxtD mg) (FR : Fun K "_law_roll" "_law_roll" sRoll fR fdR)
    (mR : mg "_law_roll" = some (.ref fR)) (kR : PySem.W.keepIn K (.ref fR) = true) (bR : Binds K fdR ["_law_dice_here", "_law_total"] []) : FnOk P w K mg base CX0 2 f fd ["_law_dice_here", "_law_items"] spOneOf := by
  have G : FnOk P w K mg base CX0 1 fR fdR ["_law_dice_here", "_law_total"] spRoll := ok_roll FR T.mI
  refine F.ok scO (fun vs H Q E h => ?_) (fun cdv A outer s H vs Q E hr h => ?_)
  · obtain ⟨d, p, xs, rfl, _⟩ := h
    rfl
  · obtain ⟨d, p, xs, rfl, hd, hp, ne, h0, h1, k⟩ := h
    have hu := hu_of hr
    refine ⟨_, pss_one (ps_ret (pe_ix ix_list (pv 1) (pe_call G hr (by rfl) mR kR bR .nil pass0
      (pa_cons (pv 0) (pa_cons (pe_callB call_len_seq (by rfl) T.mL PySem.boot_len (pa_cons (pv 1) pa_nil)) pa_nil))) (fun _ _ => rfl))), ?_⟩
    refine ⟨_, rfl, _, rfl, _, rfl, p, xs, rfl, .inl (SqL.of hp), d, _, rfl, hd, by omega, by omega, fun r a b c hr0 hr1 => ?_⟩
    obtain ⟨k', rfl⟩ : ∃ k' : Nat, r = (k' : Int) := ⟨r.toNat, by omega⟩
    have hk : k' < xs.length := by omega
    refine ⟨p, xs, _, xs[k'], rfl, rfl, SqL.of (by rw [upd_ne ne]; exact hp), atI_nat (List.getElem?_eq_getElem hk), ?_⟩
    exact k k' _ a b c (List.getElem?_eq_getElem hk)
end
end LD
set_option Elab.async false
set_option linter.all false
set_option maxRecDepth 100000
set_option maxHeartbeats 1000000
/-! the law's dice; _law_mixed, _law_weight -/
namespace FR
open PySem PySem.Spec PyProof.Rows L2 LD
abbrev sMx : Stmt := FR.top 53
abbrev NMx : List Str := ["_law_dice_here", "_law_items", "_law_left", "_law_turn"]
theorem scMx : FnScope NMx ["_law_dice_here", "_law_items"] (defScope sMx) := ⟨rfl, rfl, rfl, by decide +kernel, rfl, by decide +kernel, by decide +kernel⟩
abbrev sWe : Stmt := FR.top 54
abbrev NWe : List Str := ["_law_dice_here"]
theorem scWe : FnScope NWe ["_law_dice_here"] (defScope sWe) := ⟨rfl, rfl, rfl, by decide +kernel, rfl, by decide +kernel, by decide +kernel⟩
theorem pe_bmK {X : Cx} {K : PySem.W.Frag} {T : String} {name : Str} {id : String} {r : V → List V → Hp → VK → Prop} {o e : Expr} {es : List Expr} {to : TE} {t : L2.TA} {apos cpos : Pos} (hK : X.K = K) (pa : PlainAttrs T) (slot : Slot T name id) (hty : typeOf (.builtin id) = pure (.type "method_descriptor")) (hm : MtR X id r) (ho : PE X o to) (ha : PA X (e :: es) t)
    (hbase : attributeBase o name X.env (eval o X.env) = eval o X.env := by rfl)
    (hfew : ((backTo cpos (starEach (e :: es) X.env)).all (fun x => !x.1) && (backToKw cpos (keywordEach [] X.env)).all (fun x => x.1.isSome)
      && decide ((e :: es).length + ([] : List Keyword).length + (if ([] : List Keyword).isEmpty then 0 else 1) < 30)) = true := by rfl)
    (hline : (apos.endLine == cpos.line) = true := by rfl) (hs : starEach (e :: es) X.env = (false, eval e X.env) :: starEach es X.env := by rfl) (hplain : (backTo cpos (starEach es X.env)).any (·.1) = false := by rfl) :
    PE X (.Call (.Attribute o name apos) (e :: es) [] cpos) (tBM K T r to t) := by
  subst hK
  exact pe_bm pa slot hty hm ho ha hbase hfew hline hs hplain
/-- behind rolls: the dice are dice, all else stays -/
def Rl (d : Addr) (H H' : Hp) : Prop := DiceAt H' d ∧ But d H H'
theorem Rl.refl {d : Addr} {H : Hp} (h : DiceAt H d) : Rl d H H := ⟨h, fun _ _ _ e => e⟩
theorem Rl.trans {d : Addr} {H H1 H2 : Hp} (a : Rl d H H1) (b : Rl d H1 H2) : Rl d H H2 := ⟨b.1, a.2.trans b.2⟩
theorem Rl.roll {d : Addr} {H H1 : Hp} {a b c : Int} (r : Rl d H H1) : Rl d H (upd H1 d (.lst (dxs a b c))) := ⟨⟨a, b, c, upd_same⟩, r.2.trans But.upd⟩
theorem Rl.same {d : Addr} {H H1 H2 : Hp} (r : Rl d H H1) (s : Same H1 H2) : Rl d H H2 := ⟨by obtain ⟨a, b, c, e⟩ := r.1; exact ⟨a, b, c, s _ _ e⟩, r.2.trans (But.same s)⟩
theorem Rl.tk {d : Addr} {H H' : Hp} (r : Rl d H H') (h : DiceAt H d) : Tk H H' := by
  obtain ⟨a, b, c, e⟩ := h
  exact r.2.tk e (fun _ z => by cases z) (fun _ _ z => by cases z)
theorem dice_same {d : Addr} {H H' : Hp} (h : DiceAt H d) (s : Same H H') : DiceAt H' d := by
  obtain ⟨a, b, c, e⟩ := h
  exact ⟨a, b, c, s _ _ e⟩
theorem none_of_but {x a : Addr} {H H' : Hp} (b : But x H H') (n : a ≠ x) (h : H' a = none) : H a = none := by
  cases e : H a with
  | none => rfl
  | some o => rw [b _ _ n e] at h; cases h
theorem none_of_same {a : Addr} {H H' : Hp} (b : Same H H') (h : H' a = none) : H a = none := by
  cases e : H a with
  | none => rfl
  | some o => rw [b _ _ e] at h; cases h
theorem Rl.none {d a : Addr} {H H' : Hp} (r : Rl d H H') (hd : DiceAt H d) (h : H' a = none) : H a = none := by
  by_cases c : a = d
  · obtain ⟨x, y, z, e⟩ := r.1
    rw [c, e] at h
    cases h
  · exact none_of_but r.2 c h
/-- texts in a list, or as the keys of a dict -/
def TxsF {α : Type} (fV : α → V) (H : Hp) (p : Addr) (xs : List α) : Prop := H p = some (.lst (xs.map fV)) ∨ ∃ kvs, H p = some (.dK kvs) ∧ (kvs.map fun kv => kV kv.1) = xs.map fV
theorem erase_map {α β : Type} (f : α → β) : ∀ (l : List α) (i : Nat), (l.map f).eraseIdx i = (l.eraseIdx i).map f
  | [], _ => rfl
  | _ :: _, 0 => rfl
  | x :: l, i + 1 => by
    show f x :: (l.map f).eraseIdx i = f x :: (l.eraseIdx i).map f
    rw [erase_map f l i]
theorem erase_perm {α : Type} : ∀ (l : List α) (i : Nat) (y : α), l[i]? = some y → (y :: l.eraseIdx i).Perm l
  | x :: l, 0, y, h => by cases h; exact .refl _
  | x :: l, i + 1, y, h => by
    have := erase_perm l i y h
    exact (List.Perm.swap x y _).trans (this.cons x)
section
variable {P : Program} {w : World} {K : PySem.W.Frag} {mg : Str → Option Value} {base : Heap}
/-- the items in some order -/
def spMxF {α : Type} (fV : α → V) : Sp := fun vs H Q _ => ∃ (d p : Addr) (xs : List α), vs = [.ref d, .ref p] ∧ DiceAt H d ∧ TxsF fV H p xs ∧ p ≠ d ∧ xs.length < 900 ∧ ∀ (ys : List α) l H', ys.Perm xs → H l = none → Rl d H H' → H' l = some (.lst (ys.map fV)) → Q (.ref l) H'
theorem ok_mxF {α : Type} (fV : α → V) {f : Addr} {fd : FuncData} (F : Fun K "_law_mixed" "_law_mixed" sMx f fd) (T : LD.TxtD mg) (ml : mg "list" = none) (mr : mg "range" = none) (gR : Glo P w K mg base "_law_roll" 1 ["_law_dice_here", "_law_total"] spRoll) : FnOk P w K mg base CX0 2 f fd ["_law_dice_here", "_law_items"] (spMxF fV) := by
  refine F.ok scMx (fun vs H Q E h => ?_) (fun cdv A outer s H vs Q E hr h => ?_)
  · obtain ⟨d, p, xs, rfl, _⟩ := h
    rfl
  · obtain ⟨d, p, xs, rfl, hd, hx, nd, few, q⟩ := h
    obtain ⟨tR, hR, qR⟩ : ∃ t, PSs (cxOf CX0 P w K mg base NMx "_law_mixed" (defScope sMx) f cdv A outer s H E).nox ((defBody sMx).drop 1) t ∧ ∀ l, H l = none → t { nx := fun _ H' => Q .non H', rt := Q } [some (.ref d), some (.ref p), some (.ref l), none] (upd H l (.lst (xs.map fV))) := by
      refine ⟨_, (pss_one (ps_ret (pe_lc (X := (cxOf CX0 P w K mg base NMx "_law_mixed" (defScope sMx) f cdv A outer s H E).nox) (own := [("_law_turn", 3)]) (g := (gName 3)) (tt := tYes) rfl scMx.nd (pi_range1 (by rfl) mr (pa_cons (pe_callB (CallR.or call_len_seq call_lenD) (by rfl) T.mL PySem.boot_len (pa_cons (pv 1) pa_nil)) pa_nil)) (blkOk_by (N := NMx) (sc := defScope sMx) (by decide +kernel)) (fun _ _ _ _ _ => (pg_name (i := 3) scMx.nd rfl (.inl rfl))) (fun _ _ _ _ _ => pts_nil) (fun _ _ _ _ _ => (pe_bmK (K := K) rfl PySem.F.plainAttrs_list PySem.F.slot_list_pop PySem.F.type_list_pop mt_popAt (pv 2) (pa_cons (pe_call gR.G (hr.mono (by decide)) (by rfl) gR.m gR.k gR.b .nil pass0 (pa_cons (pv 0) (pa_cons (pe_callB (call_len_seqK (K := K) rfl) (by rfl) T.mL PySem.boot_len (pa_cons (pv 2) pa_nil)) pa_nil))) pa_nil)))))), fun l hl => ?_⟩
      have s1 := same_new (o := .lst (xs.map fV)) hl
      have hl1 : upd H l (.lst (xs.map fV)) l = some (.lst (xs.map fV)) := upd_same
      have nl : l ≠ d := by
        obtain ⟨x, y, z, e⟩ := hd
        exact fun c => by rw [c, e] at hl; cases hl
      have hd1 := dice_same hd s1
      have hx1   : TxsF fV (upd H l (.lst (xs.map fV))) p xs := hx.elim (fun e => .inl (s1 _ _ e)) fun ⟨kvs, e, k⟩ => .inr ⟨kvs, s1 _ _ e, k⟩
      generalize upd H l (.lst (xs.map fV)) = H1 at s1 hl1 hd1 hx1 ⊢
      have rng : ∀ (R : It → Hp → Prop), R (Itr 0 xs.length) H1 → (iRng1 (tCons (tCB (fun xs H Q => (∃ p ys, xs = [V.ref p] ∧ (SqL K H p ys ∨ SqT K H p ys) ∧ Q (.int ys.length) H) ∨ ∃ a kvs, xs = [V.ref a] ∧ H a = some (.dK kvs) ∧ Q (.int kvs.length) H) (tCons (tVar 1) tNil)) tNil)) [some (.ref d), some (.ref p), some (.ref l), none] H1 R := fun R h => by
        rcases hx1 with e | ⟨kvs, e, k⟩
        · refine ⟨_, rfl, .inl ⟨p, _, rfl, .inl (SqL.of e), _, rfl, ?_, ?_, ?_⟩⟩
          · omega
          · rw [List.length_map]; omega
          · rw [List.length_map]; exact h
        · have le : kvs.length = xs.length := by
            have z := congrArg List.length k
            rw [List.length_map, List.length_map] at z
            exact z
          refine ⟨_, rfl, .inr ⟨p, kvs, rfl, e, _, rfl, ?_, ?_, ?_⟩⟩
          · omega
          · omega
          · rw [le]; exact h
      unfold tRet tLc
      refine rng _ ?_
      intro D hD
      refine lc_range (lo := 0) (n := xs.length) (fun i Hc => (∀ a o, a ≠ d → a ≠ l → H1 a = some o → Hc a = some o) ∧ DiceAt Hc d ∧ ∃ ys ls : List α, Hc l = some (.lst (ls.map fV)) ∧ Hc D = some (.lst (ys.map fV)) ∧ (ys ++ ls).Perm xs ∧ ys.length = i) ?_ ?_ ?_
      · exact ⟨fun a o _ _ e => (same_new hD) _ _ e, dice_same hd1 (same_new hD), [], xs, (same_new hD) _ _ hl1, upd_same, .refl _, rfl⟩
      · rintro i Hc hi ⟨keep, hdc, ys, ls, hlc, hDc, pm, ly⟩
        have tot : ys.length + ls.length = xs.length := by rw [← List.length_append, pm.length_eq]
        refine ⟨rfl, _, rfl, .inl ⟨rfl, _, SqL.of hlc⟩, _, rfl, _, rfl, l, _, rfl, .inl (SqL.of hlc), d, _, rfl, hdc, by rw [List.length_map]; omega, by rw [List.length_map]; omega, fun r a b c r0 r1 => ?_⟩
        rw [List.length_map] at r1
        have hl2 : upd Hc d (.lst (dxs a b c)) l = some (.lst (ls.map fV)) := by rw [upd_ne nl]; exact hlc
        obtain ⟨r', rfl⟩ : ∃ r' : Nat, r = (r' : Int) := ⟨r.toNat, by omega⟩
        have hr' : r' < ls.length := by omega
        refine ⟨l, _, (r' : Int), r', fV ls[r'], rfl, rfl, hl2, by omega, by omega, by rw [seqIndex_of (by omega) (by rw [List.length_map]; omega)]; rfl, by rw [List.getElem?_map, List.getElem?_eq_getElem hr']; rfl, ?_⟩
        have nD : D ≠ l := fun z => by
          rw [z] at hD
          rw [hD] at hl1
          cases hl1
        have nDd : D ≠ d := fun z => by
          obtain ⟨x, y, z', e⟩ := hd1
          rw [z, e] at hD
          cases hD
        have eer : (ls.map fV).eraseIdx r' = (ls.eraseIdx r').map fV := erase_map fV ls r'
        rw [eer]
        have hD2 : upd (upd Hc d (.lst (dxs a b c))) l (.lst ((ls.eraseIdx r').map fV)) D = some (.lst (ys.map fV)) := by rw [upd_ne nD, upd_ne nDd]; exact hDc
        refine ⟨_, hD2, small1000 (by rw [List.length_map]; omega), fun x o n1 n2 e => ?_, ⟨a, b, c, ?_⟩, ys ++ [ls[r']], ls.eraseIdx r', ?_, ?_, ?_, ?_⟩
        · have nx : x ≠ D := ne_of_none e hD
          rw [upd_ne nx, upd_ne n2, upd_ne n1]
          exact keep x o n1 n2 e
        · rw [upd_ne (Ne.symm nDd), upd_ne (Ne.symm nl), upd_same]
        · rw [upd_ne (Ne.symm nD), upd_same]
        · rw [upd_same, List.map_append]
          rfl
        · rw [List.append_assoc]
          exact ((erase_perm ls r' _ (List.getElem?_eq_getElem hr')).append_left ys).trans pm
        · rw [List.length_append, ly]
          rfl
      · rintro Hc ⟨keep, hdc, ys, ls, hlc, hDc, pm, ly⟩
        have tot : ys.length + ls.length = xs.length := by rw [← List.length_append, pm.length_eq]
        have e0 : ls = [] := List.length_eq_zero_iff.mp (by omega)
        subst e0
        rw [List.append_nil] at pm
        exact q ys D Hc pm (none_of_same s1 hD) ⟨hdc, fun a o n e => keep a o n (ne_of_none e hl) (s1 _ _ e)⟩ hDc
    refine ⟨_, pss_cons (ps_set (i := 2) scMx.nd rfl (Or.inr rfl) (pe_callTy (CallR.or call_list_of (call_listD rfl)) (by rfl) ml (by decide +kernel) (pa_cons (pv 1) pa_nil))) hR, ?_⟩
    rcases hx with hx | ⟨kvs, hx, ek⟩
    · exact ⟨_, rfl, .inl ⟨p, _, rfl, .inl (SqL.of hx), fun l hl => qR l hl⟩⟩
    · refine ⟨_, rfl, .inr ⟨p, kvs, rfl, .inl hx, fun l hl => ?_⟩⟩
      rw [ek]
      exact qR l hl
def spMx : Sp := spMxF V.str
theorem ok_mx {f : Addr} {fd : FuncData} (F : Fun K "_law_mixed" "_law_mixed" sMx f fd) (T : LD.TxtD mg) (ml : mg "list" = none) (mr : mg "range" = none) (gR : Glo P w K mg base "_law_roll" 1 ["_law_dice_here", "_law_total"] spRoll) : FnOk P w K mg base CX0 2 f fd ["_law_dice_here", "_law_items"] spMx := ok_mxF V.str F T ml mr gR
def spWe : Sp := fun vs H Q _ => ∃ d, vs = [.ref d] ∧ DiceAt H d ∧ ∀ (i : Int) H', 1 ≤ i → i ≤ 9 → Rl d H H' → Q (.int i) H'
theorem ok_we {f : Addr} {fd : FuncData} (F : Fun K "_law_weight" "_law_weight" sWe f fd) (gO : Glo P w K mg base "_law_one_of" 2 ["_law_dice_here", "_law_items"] spOneOf) : FnOk P w K mg base CX0 3 f fd ["_law_dice_here"] spWe := by
  refine F.ok scWe (fun vs H Q E h => ?_) (fun cdv A outer s H vs Q E hr h => ?_)
  · obtain ⟨d, rfl, _⟩ := h
    rfl
  · obtain ⟨d, rfl, hd, q⟩ := h
    refine ⟨_, (pss_one (ps_ret (pe_call gO.G (hr.mono (by decide)) (by rfl) gO.m gO.k gO.b .nil pass0 (pa_cons (pv 0) (pa_cons (pe_lst (pa_cons pe_int (pa_cons pe_int (pa_cons pe_int (pa_cons pe_int (pa_cons pe_int (pa_cons pe_int (pa_cons pe_int (pa_cons pe_int pa_nil))))))))) pa_nil))))), ?_⟩
    refine ⟨_, rfl, small1000 (Nat.le_of_ble_eq_true rfl), fun l hl => ?_⟩
    have s1 := same_new (o := .lst [.int 1, .int 1, .int 2, .int 2, .int 3, .int 4, .int 5, .int 9]) hl
    have nl : l ≠ d := by
      obtain ⟨x, y, z, e⟩ := hd
      exact fun c => by rw [c, e] at hl; cases hl
    refine ⟨d, l, _, rfl, dice_same hd s1, upd_same, nl, by show 0 < 8; decide, by show 8 < 1000; decide, fun k x a b c hk => ?_⟩
    have r : Rl d H (upd (upd H l (.lst [.int 1, .int 1, .int 2, .int 2, .int 3, .int 4, .int 5, .int 9])) d (.lst (dxs a b c))) := ((Rl.refl hd).same s1).roll
    have all : ∀ (k : Nat) (x : V), ([.int 1, .int 1, .int 2, .int 2, .int 3, .int 4, .int 5, .int 9] : List V)[k]? = some x → ∃ i : Int, x = .int i ∧ 1 ≤ i ∧ i ≤ 9 := fun k x h => by
      have m := List.mem_of_getElem? h
      simp only [List.mem_cons, List.not_mem_nil, or_false] at m
      rcases m with e | e | e | e | e | e | e | e <;> exact ⟨_, e, by decide, by decide⟩
    obtain ⟨i, rfl, i1, i2⟩ := all k x hk
    exact q i _ i1 i2 r
end
end FR
set_option Elab.async false
set_option linter.all false
set_option maxRecDepth 100000
set_option maxHeartbeats 1000000
/-! drawn statements and bodies -/
namespace FR
open PySem PySem.Spec PyProof.Rows L2 LD
abbrev sLs : Stmt := FR.top 55
abbrev NLs : List Str := ["_law_dice_here", "_law_deep", "_law_names", "_law_room", "_law_extra", "_law_way", "_law_stop", "_law_go", "_law_rows", "_law_turn"]
theorem scLs : FnScope NLs ["_law_dice_here", "_law_deep", "_law_names", "_law_room", "_law_extra"] (defScope sLs) := ⟨rfl, rfl, rfl, by decide +kernel, rfl, by decide +kernel, by decide +kernel⟩
abbrev sLy : Stmt := FR.top 56
abbrev NLy : List Str := ["_law_dice_here", "_law_deep", "_law_names", "_law_room", "_law_extra", "_law_found", "_law_turn"]
theorem scLy : FnScope NLy ["_law_dice_here", "_law_deep", "_law_names", "_law_room", "_law_extra"] (defScope sLy) := ⟨rfl, rfl, rfl, by decide +kernel, rfl, by decide +kernel, by decide +kernel⟩
abbrev P5 : List Str := ["_law_dice_here", "_law_deep", "_law_names", "_law_room", "_law_extra"]
section
variable {P : Program} {w : World} {K : PySem.W.Frag} {mg : Str → Option Value} {base : Heap}
/-- a statement as it is drawn, its bodies by B -/
def GdS (ns es : List Str) (B : Bd → Prop) : St → Prop
  | .note z => z = "a" ∨ z = "b"
  | .call z => z ∈ ns
  | .stay => ("stay" : Str) ∈ es
  | .again i j b => (1 ≤ i ∧ i ≤ 9) ∧ (1 ≤ j ∧ j ≤ 9) ∧ B b
  | .choose bs => ("choose" : Str) ∈ es ∧ (2 ≤ bs.length ∧ bs.length ≤ 3) ∧ ∀ b ∈ bs, B b
  | .toss rs => (2 ≤ rs.length ∧ rs.length ≤ 4) ∧ ∀ r ∈ rs, (1 ≤ r.1 ∧ r.1 ≤ 9) ∧ B r.2
def GdB (ns es : List Str) : Nat → Bd → Prop
  | 0 => fun _ => False
  | n + 1 => fun b => b.length ≤ 3 ∧ ∀ s ∈ b, GdS ns es (GdB ns es n) s
/-- how many statements are in a statement's bodies -/
abbrev cntS (n : Nat) (s : St) : Nat := (s.kids.map (cnt n)).sum
/-- what the drawing stands on: dice, names, room, extra -/
structure Dw (d n m e : Addr) (ns es : List Str) (H : Hp) (r : Int) : Prop where
  dice : DiceAt H d
  room : H m = some (.lst [.int r])
  nm : H n = some (.lst (ns.map V.str))
  ex : H e = some (.lst (es.map V.str))
  n0 : 0 < ns.length
  n1 : ns.length < 900
  e1 : es.length < 900
  r0 : 0 ≤ r
/-- all stays but dice and room -/
def Bt2 (d m : Addr) (H H' : Hp) : Prop := ∀ a o, a ≠ d → a ≠ m → H a = some o → H' a = some o
theorem Bt2.refl {d m : Addr} (H : Hp) : Bt2 d m H H := fun _ _ _ _ e => e
theorem Bt2.trans {d m : Addr} {H H1 H2 : Hp} (a : Bt2 d m H H1) (b : Bt2 d m H1 H2) : Bt2 d m H H2 := fun q o n1 n2 e => b q o n1 n2 (a q o n1 n2 e)
theorem Bt2.of {d m : Addr} {H H' : Hp} (s : Same H H') : Bt2 d m H H' := fun a o _ _ e => s a o e
theorem Bt2.rl {d m : Addr} {H H' : Hp} (s : Rl d H H') : Bt2 d m H H' := fun a o n _ e => s.2 a o n e
section
variable {d n m e : Addr} {ns es : List Str} {H H' : Hp} {r : Int}
theorem Dw.mD (h : Dw d n m e ns es H r) : m ≠ d := by
  obtain ⟨x, y, z, q⟩ := h.dice
  exact fun c => by rw [← c, h.room] at q; cases q
theorem Dw.nD (h : Dw d n m e ns es H r) : n ≠ d := by
  obtain ⟨x, y, z, q⟩ := h.dice
  intro c
  rw [← c, h.nm] at q
  have q := HO.lst.inj (Option.some.inj q)
  cases ns with
  | nil => cases q
  | cons z t => cases q
theorem Dw.eD (h : Dw d n m e ns es H r) : e ≠ d := by
  obtain ⟨x, y, z, q⟩ := h.dice
  intro c
  rw [← c, h.ex] at q
  have q := HO.lst.inj (Option.some.inj q)
  cases es with
  | nil => cases q
  | cons z t => cases q
theorem Dw.nM (h : Dw d n m e ns es H r) : n ≠ m := by
  have q := h.room
  intro c
  rw [← c, h.nm] at q
  have q := HO.lst.inj (Option.some.inj q)
  cases ns with
  | nil => cases q
  | cons z t => cases q
theorem Dw.eM (h : Dw d n m e ns es H r) : e ≠ m := by
  have q := h.room
  intro c
  rw [← c, h.ex] at q
  have q := HO.lst.inj (Option.some.inj q)
  cases es with
  | nil => cases q
  | cons z t => cases q
theorem Dw.rl (h : Dw d n m e ns es H r) (s : Rl d H H') : Dw d n m e ns es H' r where
  dice := s.1
  room := s.2 _ _ h.mD h.room
  nm := s.2 _ _ h.nD h.nm
  ex := s.2 _ _ h.eD h.ex
  n0 := h.n0
  n1 := h.n1
  e1 := h.e1
  r0 := h.r0
theorem Dw.same (h : Dw d n m e ns es H r) (s : Same H H') : Dw d n m e ns es H' r := h.rl ((Rl.refl h.dice).same s)
theorem Dw.put (h : Dw d n m e ns es H r) {r' : Int} (p : 0 ≤ r') : Dw d n m e ns es (upd H m (.lst [.int r'])) r' where
  dice := by
    obtain ⟨x, y, z, q⟩ := h.dice
    exact ⟨x, y, z, by rw [upd_ne h.mD.symm]; exact q⟩
  room := upd_same
  nm := by rw [upd_ne h.nM]; exact h.nm
  ex := by rw [upd_ne h.eM]; exact h.ex
  n0 := h.n0
  n1 := h.n1
  e1 := h.e1
  r0 := p
theorem Bt2.tk (h : Dw d n m e ns es H r) (b : Bt2 d m H H') : Tk H H' := by
  obtain ⟨x, y, z, q⟩ := h.dice
  have p := h.room
  refine ⟨fun a xs e => b a _ (fun c => ?_) (fun c => ?_) e, fun a o xs e => b a _ (fun c => ?_) (fun c => ?_) e⟩
  · rw [c, q] at e; cases e
  · rw [c, p] at e; cases e
  · rw [c, q] at e; cases e
  · rw [c, p] at e; cases e
theorem Dw.free (h : Dw d n m e ns es H r) {r' : Int} (b : Bt2 d m H H') (g : Dw d n m e ns es H' r') {a : Addr} (f : H' a = none) : H a = none := by
  cases c : H a with
  | none => rfl
  | some o =>
    by_cases q : a = d
    · obtain ⟨x, y, z, u⟩ := g.dice
      rw [q, u] at f; cases f
    · by_cases q2 : a = m
      · rw [q2, g.room] at f; cases f
      · rw [b a o q q2 c] at f; cases f
end
def spLs (k : Nat) : Sp := fun vs H Q _ => ∃ (d n m e : Addr) (ns es : List Str) (r : Int), vs = [.ref d, .int (k : Nat), .ref n, .ref m, .ref e] ∧ Dw d n m e ns es H r ∧
  ∀ v s H' r', Dw d n m e ns es H' r' → Bt2 d m H H' → StAt k H' v s → GdS ns es (GdB ns es k) s → (cntS k s : Int) + r' = r → Q v H'
def spLy (k : Nat) : Sp := fun vs H Q _ => ∃ (d n m e : Addr) (ns es : List Str) (r : Int), 1 ≤ k ∧ vs = [.ref d, .int ((k : Int) - 1), .ref n, .ref m, .ref e] ∧ Dw d n m e ns es H r ∧
  ∀ v b H' r', Dw d n m e ns es H' r' → Bt2 d m H H' → BdAt k H' v b → GdB ns es k b → (cnt k b : Int) + r' = r → Q v H'
theorem or_if {c1 c2 : Bool} {A B X : Prop} (hx : (if c2 = true then A else B) → X) (ha : (c1 || c2) = true → A) (hb : (c1 || c2) = false → B) : if c1 = true then (if true = true then A else B) else X := by
  cases c1 with
  | true => exact ha rfl
  | false => exact hx (by cases c2 with | true => exact ha rfl | false => exact hb rfl)
theorem and_if {c1 c2 : Bool} {A B X : Prop} (hx : (if c2 = true then A else B) → X) (ha : (c1 && c2) = true → A) (hb : (c1 && c2) = false → B) : if c1 = true then X else (if false = true then A else B) := by
  cases c1 with
  | true => exact hx (by cases c2 with | true => exact ha rfl | false => exact hb rfl)
  | false => exact hb rfl
theorem inV_strs {z : Str} : ∀ {es : List Str}, inV (.str z) (es.map V.str) = decide (z ∈ es)
  | [] => rfl
  | x :: es => by
    have e : inV (.str z) ((x :: es).map V.str) = (eqV (.str x) (.str z) || inV (.str z) (es.map V.str)) := rfl
    have e2 : eqV (.str x) (.str z) = decide (x = z) := rfl
    rw [e, inV_strs, e2]
    by_cases h : x = z
    · subst h; simp
    · have : z ≠ x := fun q => h q.symm
      simp [h, this]
theorem flat_strs : ∀ {es : List Str}, (es.map V.str).all flatV = true
  | [] => rfl
  | _ :: es => flat_strs (es := es)
section
variable {d n m e : Addr} {ns es : List Str} {H H' : Hp} {r : Int}
theorem Dw.grow (h : Dw d n m e ns es H r) {r' : Int} (g : Dw d n m e ns es H' r') {D : Addr} {o : HO} (f : H D = none) : Dw d n m e ns es (upd H' D o) r' where
  dice := by
    obtain ⟨x, y, z, q⟩ := g.dice
    obtain ⟨x', y', z', q'⟩ := h.dice
    exact ⟨x, y, z, by rw [upd_ne (ne_of_none q' f)]; exact q⟩
  room := by rw [upd_ne (ne_of_none h.room f)]; exact g.room
  nm := by rw [upd_ne (ne_of_none h.nm f)]; exact g.nm
  ex := by rw [upd_ne (ne_of_none h.ex f)]; exact g.ex
  n0 := h.n0
  n1 := h.n1
  e1 := h.e1
  r0 := g.r0
theorem Bt2.grow (b : Bt2 d m H H') {D : Addr} {o : HO} (f : H D = none) : Bt2 d m H (upd H' D o) := fun a u n1 n2 e => by
  rw [upd_ne (ne_of_none e f)]
  exact b a u n1 n2 e
end
theorem ok_ls {f fb : Addr} {fd fdb : FuncData} {k kb : Nat} (F : Fun K "_law_statement" "_law_statement" sLs f fd) (mr : mg "range" = none) (mt : mg "tuple" = none) (gR : Glo P w K mg base "_law_roll" 1 ["_law_dice_here", "_law_total"] spRoll) (gO : Glo P w K mg base "_law_one_of" 2 ["_law_dice_here", "_law_items"] spOneOf) (gW : Glo P w K mg base "_law_weight" 3 ["_law_dice_here"] spWe)
    (GB : FnOk P w K mg base CX0 kb fb fdb P5 (spLy k)) (k3 : 3 ≤ kb) (mB : mg "_law_body" = some (.ref fb)) (kB : PySem.W.keepIn K (.ref fb) = true) (bB : Binds K fdb P5 []) : FnOk P w K mg base CX0 (kb + 1) f fd P5 (spLs k) := by
  refine F.ok scLs (fun vs H Q E h => ?_) (fun cdv A outer s H vs Q E hr h => ?_)
  · obtain ⟨d, n, m, e, ns, es, r, rfl, _⟩ := h
    rfl
  · obtain ⟨d, n, m, e, ns, es, r, rfl, hw, q⟩ := h
    refine ⟨_, (pss_cons (ps_set (i := 5) scLs.nd rfl (Or.inl rfl) (pe_call gR.G (hr.mono (by omega)) (by rfl) gR.m gR.k gR.b .nil pass0 (pa_cons (pv 0) (pa_cons pe_int pa_nil))))
      (pss_cons (ps_if (pt_cmpR op_lt (pv 5) pe_int (nomark _)) (pss_one (ps_ret (pe_tup (pa_cons pe_str (pa_cons (pe_call gO.G (hr.mono (by omega)) (by rfl) gO.m gO.k gO.b .nil pass0 (pa_cons (pv 0) (pa_cons (pe_lst (pa_cons pe_str (pa_cons pe_str pa_nil))) pa_nil))) pa_nil))))) pss_nil)
      (pss_cons (ps_if (PW.pt (pw_or (pt_cmpR op_lt (pv 5) pe_int (nomark _)) (pw_or1 (pt_cmpR op_lt (pv 1) pe_int (nomark _))))) (pss_one (ps_ret (pe_tup (pa_cons pe_str (pa_cons (pe_call gO.G (hr.mono (by omega)) (by rfl) gO.m gO.k gO.b .nil pass0 (pa_cons (pv 0) (pa_cons (pv 2) pa_nil))) pa_nil))))) pss_nil)
      (pss_cons (ps_if (PW.pt (pw_and (pt_cmpR op_eq (pv 5) pe_int (nomark _)) (pw_and1 (pt_cmpR op_in_seq pe_str (pv 4) (by rfl))))) (pss_one (ps_ret (pe_tup (pa_cons pe_str pa_nil)))) pss_nil)
      (pss_cons (ps_if (pt_cmpR op_lt (pv 5) pe_int (nomark _)) (pss_cons (ps_par (i := 6) (j := 7) (by rfl) scLs.nd rfl rfl (by decide) rfl rfl (pa_cons (pe_call gW.G (hr.mono (by omega)) (by rfl) gW.m gW.k gW.b .nil pass0 (pa_cons (pv 0) pa_nil)) (pa_cons (pe_call gW.G (hr.mono (by omega)) (by rfl) gW.m gW.k gW.b .nil pass0 (pa_cons (pv 0) pa_nil)) pa_nil)) (by rfl))
      (pss_one (ps_ret (pe_tup (pa_cons pe_str (pa_cons (pv 6) (pa_cons (pv 7) (pa_cons (pe_call GB (hr.mono (by omega)) (by rfl) mB kB bB .nil pass0 (pa_cons (pv 0) (pa_cons (pe_op op_sub (pv 1) pe_int) (pa_cons (pv 2) (pa_cons (pv 3) (pa_cons (pv 4) pa_nil)))))) pa_nil)))))))) pss_nil)
      (pss_cons (ps_if (PW.pt (pw_and (pt_cmpR op_eq (pv 5) pe_int (nomark _)) (pw_and1 (pt_cmpR op_in_seq pe_str (pv 4) (by rfl))))) (pss_cons (ps_setLc (i := 8) (X := (cxOf CX0 P w K mg base NLs "_law_statement" (defScope sLs) f cdv A outer s H E).nox) (own := [("_law_turn", 9)]) (g := (gName 9)) (tt := tYes) rfl scLs.nd rfl rfl (sw_true rfl rfl rfl (by decide +kernel)) (pi_range1 (by rfl) mr (pa_cons (pe_op op_add pe_int (pe_call gR.G (hr.mono (by omega)) (by rfl) gR.m gR.k gR.b .nil pass0 (pa_cons (pv 0) (pa_cons pe_int pa_nil)))) pa_nil)) (blkOk_by (N := NLs) (sc := defScope sLs) (by decide +kernel)) (fun _ _ _ _ _ => (pg_name (i := 9) scLs.nd rfl (.inl rfl))) (fun _ _ _ _ _ => pts_nil) (fun _ _ _ _ _ => (pe_call GB (hr.mono (by omega)) (by rfl) mB kB bB .nil pass0 (pa_cons (pv 0) (pa_cons (pe_op op_sub (pv 1) pe_int) (pa_cons (pv 2) (pa_cons (pv 3) (pa_cons (pv 4) pa_nil))))))))
      (pss_one (ps_ret (pe_op op_catA (pe_tup (pa_cons pe_str pa_nil)) (pe_callTy call_tuple_of (by rfl) mt (by decide +kernel) (pa_cons (pv 8) pa_nil)))))) pss_nil)
      (pss_cons (ps_set (i := 8) scLs.nd rfl (Or.inl rfl) (pe_lst pa_nil))
      (pss_cons (ps_for PassesOwn.never rfl (pi_range1 (by rfl) mr (pa_cons (pe_op op_add pe_int (pe_call gO.G (hr.mono (by omega)) (by rfl) gO.m gO.k gO.b .nil pass0 (pa_cons (pv 0) (pa_cons (pe_lst (pa_cons pe_int (pa_cons pe_int (pa_cons pe_int (pa_cons pe_int pa_nil))))) pa_nil)))) pa_nil)) (pg_name (i := 9) scLs.nd rfl (.inl rfl)) (pss_one (ps_expr (pe_bm PySem.F.plainAttrs_list PySem.F.slot_list_append PySem.F.type_list_append mt_append (pv 8) (pa_cons (pe_tup (pa_cons (pe_call gW.G (hr.mono (by omega)) (by rfl) gW.m gW.k gW.b .nil pass0 (pa_cons (pv 0) pa_nil)) (pa_cons (pe_call GB (hr.mono (by omega)) (by rfl) mB kB bB .nil pass0 (pa_cons (pv 0) (pa_cons (pe_op op_sub (pv 1) pe_int) (pa_cons (pv 2) (pa_cons (pv 3) (pa_cons (pv 4) pa_nil)))))) pa_nil))) pa_nil)))))
      (pss_one (ps_ret (pe_op op_catA (pe_tup (pa_cons pe_str pa_nil)) (pe_callTy call_tuple_of (by rfl) mt (by decide +kernel) (pa_cons (pv 8) pa_nil))))))))))))), ?_⟩
    refine ⟨_, rfl, d, 12, rfl, hw.dice, by decide, by decide, fun way a b c w0 w12 => ?_⟩
    have R1 : Rl d H (upd H d (.lst (dxs a b c))) := (Rl.refl hw.dice).roll
    generalize upd H d (.lst (dxs a b c)) = H1 at R1 ⊢
    have W1 := hw.rl R1
    have B1 : Bt2 d m H H1 := .rl R1
    refine ⟨_, rfl, _, _, rfl, rfl, _, rfl, ite2 (fun h3 => ?_) (fun h3 => ?_)⟩
    · refine ⟨_, rfl, small1000 (Nat.le_of_ble_eq_true rfl), fun l hl => ?_⟩
      have s1 := same_new (o := .lst [.str "a", .str "b"]) hl
      have hl1 : upd H1 l (.lst [.str "a", .str "b"]) l = some (.lst [.str "a", .str "b"]) := upd_same
      have nl : l ≠ d := by
        obtain ⟨x, y, z, e⟩ := R1.1
        exact fun c => by rw [c, e] at hl; cases hl
      refine ⟨d, l, _, rfl, dice_same R1.1 s1, hl1, nl, by show 0 < 2; decide, by show 2 < 1000; decide, fun j x a' b' c' hk => ⟨small1000 (Nat.le_of_ble_eq_true rfl), fun p hp => ?_⟩⟩
      have R2 := ((Rl.refl R1.1).same s1).roll (a := a') (b := b') (c := c')
      have m' := List.mem_of_getElem? hk
      obtain ⟨z, rfl, hz⟩ : ∃ z, x = .str z ∧ (z = "a" ∨ z = "b") := by
        rcases List.mem_cons.mp m' with e | e
        · exact ⟨_, e, .inl rfl⟩
        · exact ⟨_, List.mem_singleton.mp e, .inr rfl⟩
      exact q _ (.note z) _ r ((W1.rl R2).same (same_new hp)) ((B1.trans (.rl R2)).trans (.of (same_new hp))) ⟨p, rfl, upd_same⟩ hz (by show (0 : Int) + r = r; omega)
    refine ⟨_, rfl, _, _, rfl, rfl, _, rfl, ?_⟩
    refine or_if (c2 := decide ((k : Int) < 1)) (fun z => ⟨_, rfl, _, _, rfl, rfl, _, rfl, z⟩) (fun hc => ?_) (fun hc => ?_)
    · refine ⟨_, rfl, _, rfl, d, n, _, rfl, W1.dice, W1.nm, W1.nD, by rw [List.length_map]; exact W1.n0, by rw [List.length_map]; exact Nat.lt_of_lt_of_le W1.n1 (by decide), fun j x a' b' c' hk => ⟨small1000 (Nat.le_of_ble_eq_true rfl), fun p hp => ?_⟩⟩
      have R2 := (Rl.refl R1.1).roll (a := a') (b := b') (c := c')
      obtain ⟨z, hz, rfl⟩ := List.mem_map.mp (List.mem_of_getElem? hk)
      exact q _ (.call z) _ r ((W1.rl R2).same (same_new hp)) ((B1.trans (.rl R2)).trans (.of (same_new hp))) ⟨p, rfl, upd_same⟩ hz (by show (0 : Int) + r = r; omega)
    have k1 : 1 ≤ k := by
      rw [Bool.or_eq_false_iff] at hc
      have := of_decide_eq_false hc.2
      omega
    refine ⟨_, rfl, rfl, _, rfl, ?_⟩
    refine and_if (c2 := decide (("stay" : Str) ∈ es)) (fun z => ⟨_, rfl, e, _, rfl, .inl (SqL.of W1.ex), rfl, flat_strs, _, by rw [inV_strs]; rfl, z⟩) (fun hc => ?_) (fun hc => ?_)
    · refine ⟨small1000 (Nat.le_of_ble_eq_true rfl), fun p hp => ?_⟩
      rw [Bool.and_eq_true] at hc
      exact q _ .stay _ r (W1.same (same_new hp)) (B1.trans (.of (same_new hp))) ⟨p, rfl, upd_same⟩ (show ("stay" : Str) ∈ es from of_decide_eq_true hc.2) (by show (0 : Int) + r = r; omega)
    refine ⟨_, rfl, _, _, rfl, rfl, _, rfl, ite2 (fun h8 => ?_) (fun h8 => ?_)⟩
    · refine ⟨_, rfl, d, rfl, W1.dice, fun i H2 i1 i9 R2 => ?_⟩
      have W2 := W1.rl R2
      refine ⟨_, rfl, d, rfl, W2.dice, fun j H3 j1 j9 R3 => ⟨_, _, rfl, ?_⟩⟩
      have W3 := W2.rl R3
      have B3 : Bt2 d m H H3 := (B1.trans (.rl R2)).trans (.rl R3)
      refine ⟨_, rfl, _, rfl, _, rfl, _, rfl, _, _, rfl, rfl, _, rfl, _, rfl, _, rfl, d, n, m, e, ns, es, r, k1, rfl, W3, fun v b H4 r4 W4 B4 hb gb hc4 => ⟨small1000 (Nat.le_of_ble_eq_true rfl), fun p hp => ?_⟩⟩
      have s5 : Same H4 (upd H4 p (.tup [.str "again", .int i, .int j, v])) := same_new hp
      exact q _ (.again i j b) _ r4 (W4.same s5) ((B3.trans B4).trans (.of s5)) ⟨p, v, rfl, upd_same, hb.same s5⟩ ⟨⟨i1, i9⟩, ⟨j1, j9⟩, gb⟩ (by show ((([b].map (cnt k)).sum : Nat) : Int) + r4 = r; rw [List.map_cons, List.map_nil, List.sum_cons, List.sum_nil]; omega)
    refine ⟨_, rfl, rfl, _, rfl, ?_⟩
    refine and_if (c2 := decide (("choose" : Str) ∈ es)) (fun z => ⟨_, rfl, e, _, rfl, .inl (SqL.of W1.ex), rfl, flat_strs, _, by rw [inV_strs]; rfl, z⟩) (fun hc => ?_) (fun hc => ?_)
    · rw [Bool.and_eq_true] at hc
      refine ⟨_, rfl, d, 2, rfl, W1.dice, by decide, by decide, fun x a b c x0 x2 => ?_⟩
      have R2 : Rl d H1 (upd H1 d (.lst (dxs a b c))) := (Rl.refl R1.1).roll
      generalize upd H1 d (.lst (dxs a b c)) = H2 at R2 ⊢
      have W2 := W1.rl R2
      have B2 : Bt2 d m H H2 := B1.trans (.rl R2)
      refine ⟨_, _, rfl, rfl, 2 + x, rfl, by omega, by omega, fun D hD => ?_⟩
      refine lc_range (lo := 0) (n := (2 + x).toNat) (fun i Hc => ∃ rc us bs, Dw d n m e ns es Hc rc ∧ Bt2 d m H2 Hc ∧ Hc D = some (.lst us) ∧ AG (fun w b => BdAt k Hc w b) us bs ∧ us.length = i ∧ (∀ b ∈ bs, GdB ns es k b) ∧ (((bs.map (cnt k)).sum : Nat) : Int) + rc = r) ?_ ?_ ?_
      · exact ⟨r, [], [], W2.same (same_new hD), .of (same_new hD), upd_same, AG.nil, rfl, (fun b h => absurd h List.not_mem_nil), (by show (0 : Int) + r = r; omega)⟩
      · rintro i Hc hi ⟨rc, us, bs, Wc, Bc, hDc, hu, ul, gs, sm⟩
        refine ⟨rfl, _, rfl, _, rfl, _, _, rfl, rfl, _, rfl, _, rfl, _, rfl, d, n, m, e, ns, es, rc, k1, rfl, Wc, fun v b H4 r4 W4 B4 hb gb hc4 => ?_⟩
        have nDd : D ≠ d := fun z => by
          obtain ⟨x, y, z', e⟩ := W2.dice
          rw [z, e] at hD
          cases hD
        have nDm : D ≠ m := fun z => by
          rw [z, W2.room] at hD
          cases hD
        have hD4 : H4 D = some (.lst us) := B4 _ _ nDd nDm hDc
        have tk : Tk H4 (upd H4 D (.lst (us ++ [v]))) := Tk.upd hD4 (fun _ z => by cases z) fun _ _ z => by cases z
        have tk2 : Tk Hc (upd H4 D (.lst (us ++ [v]))) := (Bt2.tk Wc B4).trans tk
        refine ⟨us, hD4, small1000 (by omega), r4, us ++ [v], bs ++ [b], W2.grow W4 hD, (Bc.trans B4).grow hD, upd_same, (hu.imp fun _ _ z => tk2.bd z).snoc (tk.bd hb), by rw [List.length_append, ul]; rfl, fun b' h => ?_, ?_⟩
        · rcases List.mem_append.mp h with h | h
          · exact gs b' h
          · rw [List.mem_singleton.mp h]; exact gb
        · rw [List.map_append, List.sum_append, List.map_cons, List.map_nil, List.sum_cons, List.sum_nil]
          omega
      · rintro Hc ⟨rc, us, bs, Wc, Bc, hDc, hu, ul, gs, sm⟩
        refine ⟨small1000 (Nat.le_of_ble_eq_true rfl), fun t ht => ?_⟩
        have s5 : Same Hc (upd Hc t (.tup [.str "choose"])) := same_new ht
        have ht5 : upd Hc t (.tup [.str "choose"]) t = some (.tup [.str "choose"]) := upd_same
        generalize upd Hc t (.tup [.str "choose"]) = H5 at s5 ht5 ⊢
        refine ⟨_, rfl, D, us, rfl, .inl ⟨SqL.of (s5 _ _ hDc), fun u hu6 => ?_⟩⟩
        have s6 : Same H5 (upd H5 u (.tup us)) := same_new hu6
        have hu6' : upd H5 u (.tup us) u = some (.tup us) := upd_same
        generalize upd H5 u (.tup us) = H6 at s6 hu6' ⊢
        refine ⟨t, u, _, _, rfl, rfl, SqT.of (s6 _ _ ht5), SqT.of hu6', Nat.le_of_lt (small1000 (by show 1 + _ ≤ 1000; omega)), fun z => (by cases z), fun _ z => ?_, fun _ _ p hp => ?_⟩
        · rw [z] at ul
          have : (0 : Nat) = (2 + x).toNat := ul
          omega
        · have s7 : Same H6 (upd H6 p (.tup ([.str "choose"] ++ us))) := same_new hp
          have s57 := (s5.trans s6).trans s7
          have bl := hu.1
          exact q _ (.choose bs) _ rc (Wc.same s57) ((B2.trans Bc).trans (.of s57)) ⟨p, us, rfl, upd_same, hu.imp fun _ _ z => z.same s57⟩ ⟨of_decide_eq_true hc.2, ⟨by omega, by omega⟩, gs⟩ sm
    refine ⟨Nat.zero_le _, fun rw' hrw => ?_⟩
    have W2 := W1.same (same_new (o := .lst []) hrw)
    have B2 : Bt2 d m H1 (upd H1 rw' (.lst [])) := .of (same_new hrw)
    have hrw2 : upd H1 rw' (.lst []) rw' = some (.lst []) := upd_same
    generalize upd H1 rw' (.lst []) = H2 at W2 B2 hrw2 ⊢
    refine ⟨_, rfl, small1000 (Nat.le_of_ble_eq_true rfl), fun l hl => ?_⟩
    have s3 := same_new (o := .lst [.int 0, .int 0, .int 1, .int 2]) hl
    have hl3 : upd H2 l (.lst [.int 0, .int 0, .int 1, .int 2]) l = some (.lst [.int 0, .int 0, .int 1, .int 2]) := upd_same
    have nl : l ≠ d := by
      obtain ⟨x, y, z, e⟩ := W2.dice
      exact fun c => by rw [c, e] at hl; cases hl
    have W3 := W2.same s3
    have B3 := B2.trans (.of s3)
    have hrw3 := s3 _ _ hrw2
    generalize upd H2 l (.lst [.int 0, .int 0, .int 1, .int 2]) = H3 at W3 B3 hl3 hrw3 ⊢
    refine ⟨d, l, _, rfl, W3.dice, hl3, nl, by show 0 < 4; decide, by show 4 < 1000; decide, fun j x a' b' c' hk => ?_⟩
    obtain ⟨x, rfl, x0, x2⟩ : ∃ i : Int, x = .int i ∧ 0 ≤ i ∧ i ≤ 2 := by
      have m := List.mem_of_getElem? hk
      simp only [List.mem_cons, List.not_mem_nil, or_false] at m
      rcases m with e | e | e | e <;> exact ⟨_, e, by decide, by decide⟩
    have R4 : Rl d H3 (upd H3 d (.lst (dxs a' b' c'))) := (Rl.refl W3.dice).roll
    have W4 := W3.rl R4
    have B4 : Bt2 d m H1 (upd H3 d (.lst (dxs a' b' c'))) := B3.trans (.rl R4)
    have nrd : rw' ≠ d := by
      obtain ⟨x, y, z, e⟩ := W1.dice
      exact fun c => by rw [c, e] at hrw; cases hrw
    have nrm : rw' ≠ m := fun z => by
      rw [z, W1.room] at hrw
      cases hrw
    have hrw4 : upd H3 d (.lst (dxs a' b' c')) rw' = some (.lst []) := by rw [upd_ne nrd]; exact hrw3
    generalize upd H3 d (.lst (dxs a' b' c')) = H4 at W4 B4 hrw4 ⊢
    refine ⟨_, _, rfl, rfl, 2 + x, rfl, by omega, by omega, ?_⟩
    refine for_range (n := (2 + x).toNat) (fun i σ Hc => ∃ (rc : Int) (us : List V) (bs : List (Int × Bd)) (y : Option V), σ = [some (.ref d), some (.int (k : Nat)), some (.ref n), some (.ref m), some (.ref e), some (.int way), none, none, some (.ref rw'), y] ∧ Dw d n m e ns es Hc rc ∧ Bt2 d m H1 Hc ∧ Hc rw' = some (.lst us) ∧ AG (fun w r => ∃ p x, w = .ref p ∧ Hc p = some (.tup [.int r.1, x]) ∧ BdAt k Hc x r.2) us bs ∧ us.length = i ∧ (∀ b ∈ bs, (1 ≤ b.1 ∧ b.1 ≤ 9) ∧ GdB ns es k b.2) ∧ ((((bs.map (·.2)).map (cnt k)).sum : Nat) : Int) + rc = r) ?_ ?_ ?_
    · exact ⟨r, [], [], _, rfl, W4, B4, hrw4, AG.nil, rfl, (fun b h => absurd h List.not_mem_nil), (by show (0 : Int) + r = r; omega)⟩
    · rintro i σ Hc hi ⟨rc, us, bs, y, rfl, Wc, Bc, hc4, hu, ul, gs, sm⟩
      refine ⟨_, rfl, .inl ⟨rfl, _, SqL.of hc4⟩, _, rfl, d, rfl, Wc.dice, fun i5 H5 i1 i9 R5 => ?_⟩
      have W5 := Wc.rl R5
      have B5 : Bt2 d m Hc H5 := .rl R5
      refine ⟨_, rfl, _, rfl, _, _, rfl, rfl, _, rfl, _, rfl, _, rfl, d, n, m, e, ns, es, rc, k1, rfl, W5, fun v b H6 r6 W6 B6 hb gb hc6 => ⟨small1000 (Nat.le_of_ble_eq_true rfl), fun p hp => ?_⟩⟩
      have s7 : Same H6 (upd H6 p (.tup [.int i5, v])) := same_new hp
      have hp7 : upd H6 p (.tup [.int i5, v]) p = some (.tup [.int i5, v]) := upd_same
      have W7 := W6.same s7
      have B7 := (B5.trans B6).trans (.of s7)
      have hb7 := hb.same s7
      have hr7 := B7 _ _ nrd nrm hc4
      generalize upd H6 p (.tup [.int i5, v]) = H7 at W7 B7 hp7 hb7 hr7 ⊢
      have tk : Tk H7 (upd H7 rw' (.lst (us ++ [.ref p]))) := Tk.upd hr7 (fun _ z => by cases z) fun _ _ z => by cases z
      have tk2 : Tk Hc (upd H7 rw' (.lst (us ++ [.ref p]))) := (Bt2.tk Wc B7).trans tk
      refine ⟨rw', us, _, rfl, rfl, hr7, small1000 (by omega), ?_⟩
      refine ⟨r6, us ++ [.ref p], bs ++ [(i5, b)], _, rfl, W1.grow W7 hrw, (Bc.trans B7).grow hrw, upd_same, (hu.imp fun _ _ ⟨p', x', e1, e2, e3⟩ => ⟨p', x', e1, tk2.1 _ _ e2, tk2.bd e3⟩).snoc ⟨p, v, rfl, tk.1 _ _ hp7, tk.bd hb7⟩, by rw [List.length_append, ul]; rfl, fun b' h => ?_, ?_⟩
      · rcases List.mem_append.mp h with h | h
        · exact gs b' h
        · rw [List.mem_singleton.mp h]; exact ⟨⟨i1, i9⟩, gb⟩
      · rw [List.map_append, List.map_append, List.sum_append, List.map_cons, List.map_nil, List.map_cons, List.map_nil, List.sum_cons, List.sum_nil]
        show (((((bs.map (·.2)).map (cnt k)).sum + (cnt k b + 0) : Nat)) : Int) + r6 = r
        omega
    · rintro σ Hc ⟨rc, us, bs, y, rfl, Wc, Bc, hDc, hu, ul, gs, sm⟩
      refine ⟨small1000 (Nat.le_of_ble_eq_true rfl), fun t ht => ?_⟩
      have s5 : Same Hc (upd Hc t (.tup [.str "toss"])) := same_new ht
      have ht5 : upd Hc t (.tup [.str "toss"]) t = some (.tup [.str "toss"]) := upd_same
      generalize upd Hc t (.tup [.str "toss"]) = H5 at s5 ht5 ⊢
      refine ⟨_, rfl, rw', us, rfl, .inl ⟨SqL.of (s5 _ _ hDc), fun u hu6 => ?_⟩⟩
      have s6 : Same H5 (upd H5 u (.tup us)) := same_new hu6
      have hu6' : upd H5 u (.tup us) u = some (.tup us) := upd_same
      generalize upd H5 u (.tup us) = H6 at s6 hu6' ⊢
      refine ⟨t, u, _, _, rfl, rfl, SqT.of (s6 _ _ ht5), SqT.of hu6', Nat.le_of_lt (small1000 (by show 1 + _ ≤ 1000; omega)), fun z => (by cases z), fun _ z => ?_, fun _ _ p hp => ?_⟩
      · rw [z] at ul
        have : (0 : Nat) = (2 + x).toNat := ul
        omega
      · have s7 : Same H6 (upd H6 p (.tup ([.str "toss"] ++ us))) := same_new hp
        have s57 := (s5.trans s6).trans s7
        have bl := hu.1
        exact q _ (.toss bs) _ rc (Wc.same s57) ((B1.trans Bc).trans (.of s57)) ⟨p, us, rfl, upd_same, hu.imp fun _ _ ⟨p', x', e1, e2, e3⟩ => ⟨p', x', e1, s57 _ _ e2, e3.same s57⟩⟩ ⟨⟨by omega, by omega⟩, gs⟩ sm
theorem ok_ly {f fb : Addr} {fd fdb : FuncData} {k kb : Nat} (F : Fun K "_law_body" "_law_body" sLy f fd) (mr : mg "range" = none) (mt : mg "tuple" = none) (gO : Glo P w K mg base "_law_one_of" 2 ["_law_dice_here", "_law_items"] spOneOf)
    (GS : FnOk P w K mg base CX0 kb fb fdb P5 (spLs k)) (k3 : 3 ≤ kb) (mS : mg "_law_statement" = some (.ref fb)) (kS : PySem.W.keepIn K (.ref fb) = true) (bS : Binds K fdb P5 []) : FnOk P w K mg base CX0 (kb + 1) f fd P5 (spLy (k + 1)) := by
  refine F.ok scLy (fun vs H Q E h => ?_) (fun cdv A outer s H vs Q E hr h => ?_)
  · obtain ⟨d, n, m, e, ns, es, r, _, rfl, _⟩ := h
    rfl
  · obtain ⟨d, n, m, e, ns, es, r, _, rfl, hw, q⟩ := h
    refine ⟨_, (pss_cons (ps_set (i := 5) scLy.nd rfl (Or.inl rfl) (pe_lst pa_nil))
      (pss_cons (ps_for PassesOwn.never rfl (pi_range1 (by rfl) mr (pa_cons (pe_call gO.G (hr.mono (by omega)) (by rfl) gO.m gO.k gO.b .nil pass0 (pa_cons (pv 0) (pa_cons (pe_lst (pa_cons pe_int (pa_cons pe_int (pa_cons pe_int (pa_cons pe_int (pa_cons pe_int (pa_cons pe_int pa_nil))))))) pa_nil))) pa_nil)) (pg_name (i := 6) scLy.nd rfl (.inl rfl)) (pss_one (ps_if (pt_cmpR op_gt (pe_ix ix_list (pv 3) pe_int (fun _ _ => rfl)) pe_int (nomark _)) (pss_cons (ps_asg (pe_op op_sub (pe_ix ix_list (pv 3) pe_int (fun _ _ => rfl)) pe_int) (pg_sub (pv 3) pe_int set_list))
      (pss_one (ps_expr (pe_bm PySem.F.plainAttrs_list PySem.F.slot_list_append PySem.F.type_list_append mt_append (pv 5) (pa_cons (pe_call GS (hr.mono (by omega)) (by rfl) mS kS bS .nil pass0 (pa_cons (pv 0) (pa_cons (pv 1) (pa_cons (pv 2) (pa_cons (pv 3) (pa_cons (pv 4) pa_nil)))))) pa_nil))))) pss_nil)))
      (pss_one (ps_ret (pe_callTy call_tuple_of (by rfl) mt (by decide +kernel) (pa_cons (pv 5) pa_nil)))))), ?_⟩
    refine ⟨Nat.zero_le _, fun fo hfo => ?_⟩
    have W1 := hw.same (same_new (o := .lst []) hfo)
    have B1 : Bt2 d m H (upd H fo (.lst [])) := .of (same_new hfo)
    have hfo1 : upd H fo (.lst []) fo = some (.lst []) := upd_same
    have nfd : fo ≠ d := by
      obtain ⟨x, y, z, e⟩ := hw.dice
      exact fun c => by rw [c, e] at hfo; cases hfo
    have nfm : fo ≠ m := fun z => by
      rw [z, hw.room] at hfo
      cases hfo
    generalize upd H fo (.lst []) = H1 at W1 B1 hfo1 ⊢
    refine ⟨_, rfl, small1000 (Nat.le_of_ble_eq_true rfl), fun l hl => ?_⟩
    have s3 := same_new (o := .lst [.int 0, .int 1, .int 1, .int 2, .int 2, .int 3]) hl
    have hl3 : upd H1 l (.lst [.int 0, .int 1, .int 1, .int 2, .int 2, .int 3]) l = some (.lst [.int 0, .int 1, .int 1, .int 2, .int 2, .int 3]) := upd_same
    have nl : l ≠ d := by
      obtain ⟨x, y, z, e⟩ := W1.dice
      exact fun c => by rw [c, e] at hl; cases hl
    have W3 := W1.same s3
    have B3 := B1.trans (.of s3)
    have hfo3 := s3 _ _ hfo1
    generalize upd H1 l (.lst [.int 0, .int 1, .int 1, .int 2, .int 2, .int 3]) = H3 at W3 B3 hl3 hfo3 ⊢
    refine ⟨d, l, _, rfl, W3.dice, hl3, nl, by show 0 < 6; decide, by show 6 < 1000; decide, fun j x a' b' c' hk => ?_⟩
    obtain ⟨x, rfl, x0, x3⟩ : ∃ i : Int, x = .int i ∧ 0 ≤ i ∧ i ≤ 3 := by
      have m := List.mem_of_getElem? hk
      simp only [List.mem_cons, List.not_mem_nil, or_false] at m
      rcases m with e | e | e | e | e | e <;> exact ⟨_, e, by decide, by decide⟩
    have R4 : Rl d H3 (upd H3 d (.lst (dxs a' b' c'))) := (Rl.refl W3.dice).roll
    have W4 := W3.rl R4
    have B4 : Bt2 d m H (upd H3 d (.lst (dxs a' b' c'))) := B3.trans (.rl R4)
    have hfo4 : upd H3 d (.lst (dxs a' b' c')) fo = some (.lst []) := by rw [upd_ne nfd]; exact hfo3
    generalize upd H3 d (.lst (dxs a' b' c')) = H4 at W4 B4 hfo4 ⊢
    refine ⟨x, rfl, by omega, by omega, ?_⟩
    refine for_range (n := x.toNat) (fun i σ Hc => ∃ (rc : Int) (us : List V) (b : Bd) (y : Option V), σ = [some (.ref d), some (.int (((k + 1 : Nat) : Int) - 1)), some (.ref n), some (.ref m), some (.ref e), some (.ref fo), y] ∧ Dw d n m e ns es Hc rc ∧ Bt2 d m H Hc ∧ Hc fo = some (.lst us) ∧ AG (fun w s => StAt k Hc w s) us b ∧ us.length ≤ i ∧ (∀ s ∈ b, GdS ns es (GdB ns es k) s) ∧ ((b.length + (b.map fun s => cntS k s).sum : Nat) : Int) + rc = r) ?_ ?_ ?_
    · exact ⟨r, [], [], _, rfl, W4, B4, hfo4, AG.nil, Nat.zero_le _, (fun b h => absurd h List.not_mem_nil), (by show (0 : Int) + r = r; omega)⟩
    · rintro i σ Hc hi ⟨rc, us, b, y, rfl, Wc, Bc, hc4, hu, ul, gs, sm⟩
      refine ⟨_, rfl, m, _, _, _, rfl, rfl, SqL.of Wc.room, rfl, _, _, rfl, rfl, _, rfl, ite2 (fun h0 => ?_) (fun h0 => ?_)⟩
      · have rc0 : 0 < rc := of_decide_eq_true h0
        refine ⟨_, rfl, m, _, _, _, rfl, rfl, SqL.of Wc.room, rfl, _, _, rfl, rfl, ?_⟩
        refine ⟨_, rfl, m, _, _, 0, rfl, rfl, Wc.room, rfl, ?_⟩
        have W5 : Dw d n m e ns es (upd Hc m (.lst [.int (rc - 1)])) (rc - 1) := Wc.put (by omega)
        have B5 : Bt2 d m Hc (upd Hc m (.lst [.int (rc - 1)])) := fun a o _ n2 e => by rw [upd_ne n2]; exact e
        have hc5 : upd Hc m (.lst [.int (rc - 1)]) fo = some (.lst us) := by rw [upd_ne nfm]; exact hc4
        refine ⟨_, rfl, .inl ⟨rfl, _, SqL.of hc5⟩, _, rfl, _, rfl, _, rfl, _, rfl, _, rfl, d, n, m, e, ns, es, rc - 1, by rw [show (((k + 1 : Nat) : Int) - 1) = ((k : Nat) : Int) by omega]; rfl, W5, fun v s H6 r6 W6 B6 hs gb hc6 => ?_⟩
        have hf6 := B6 _ _ nfd nfm hc5
        have tk : Tk H6 (upd H6 fo (.lst (us ++ [v]))) := Tk.upd hf6 (fun _ z => by cases z) fun _ _ z => by cases z
        have tk2 : Tk Hc (upd H6 fo (.lst (us ++ [v]))) := (Bt2.tk Wc (B5.trans B6)).trans tk
        refine ⟨fo, us, v, rfl, rfl, hf6, small1000 (by omega), r6, us ++ [v], b ++ [s], _, rfl, hw.grow W6 hfo, (Bc.trans (B5.trans B6)).grow hfo, upd_same, (hu.imp fun _ _ z => tk2.st z).snoc (tk.st hs), by rw [List.length_append]; show us.length + 1 ≤ i + 1; omega, fun s' h => ?_, ?_⟩
        · rcases List.mem_append.mp h with h | h
          · exact gs s' h
          · rw [List.mem_singleton.mp h]; exact gb
        · rw [List.length_append, List.map_append, List.sum_append, List.map_cons, List.map_nil, List.sum_cons, List.sum_nil]
          show ((b.length + 1 + ((b.map fun s => cntS k s).sum + (cntS k s + 0)) : Nat) : Int) + r6 = r
          omega
      · exact ⟨rc, us, b, _, rfl, Wc, Bc, hc4, hu, by omega, gs, sm⟩
    · rintro σ Hc ⟨rc, us, b, y, rfl, Wc, Bc, hc4, hu, ul, gs, sm⟩
      refine ⟨_, rfl, fo, us, rfl, .inl ⟨SqL.of hc4, fun p hp => ?_⟩⟩
      have s5 : Same Hc (upd Hc p (.tup us)) := same_new hp
      have bl := hu.1
      exact q _ b _ rc (Wc.same s5) (Bc.trans (.of s5)) ⟨p, us, rfl, upd_same, hu.imp fun _ _ z => StAt.same z s5⟩ ⟨by omega, gs⟩ sm
end
end FR
set_option Elab.async false
set_option linter.all false
set_option maxRecDepth 100000
set_option maxHeartbeats 1000000
/-! what is drawn is a program -/
namespace FR
open PySem PySem.Spec PyProof.Rows L2 LD
theorem GdS.imp {ns es : List Str} {B B' : Bd → Prop} (h : ∀ b, B b → B' b) : ∀ {s : St}, GdS ns es B s → GdS ns es B' s
  | .note _, g => g
  | .call _, g => g
  | .stay, g => g
  | .again _ _ _, ⟨a, b, c⟩ => ⟨a, b, h _ c⟩
  | .choose _, ⟨a, b, c⟩ => ⟨a, b, fun x m => h _ (c x m)⟩
  | .toss _, ⟨a, b⟩ => ⟨a, fun x m => ⟨(b x m).1, h _ (b x m).2⟩⟩
theorem GdB.up {ns es : List Str} : ∀ {n : Nat} {b : Bd}, GdB ns es n b → GdB ns es (n + 1) b
  | n + 1, b, ⟨l, g⟩ => ⟨l, fun s hs => (g s hs).imp fun _ h => GdB.up h⟩
theorem GdB.mono {ns es : List Str} {n m : Nat} {b : Bd} (h : GdB ns es n b) (le : n ≤ m) : GdB ns es m b := by
  induction le with
  | refl => exact h
  | step _ ih => exact ih.up
theorem GdS.kids {ns es : List Str} {B : Bd → Prop} : ∀ {s : St}, GdS ns es B s → ∀ k ∈ s.kids, B k
  | .note _, _ => fun _ h => absurd h List.not_mem_nil
  | .call _, _ => fun _ h => absurd h List.not_mem_nil
  | .stay, _ => fun _ h => absurd h List.not_mem_nil
  | .again _ _ _, ⟨_, _, c⟩ => fun k h => by rw [List.mem_singleton.mp h]; exact c
  | .choose _, ⟨_, _, c⟩ => c
  | .toss _, ⟨_, b⟩ => fun k h => by
    obtain ⟨r, hr, rfl⟩ := List.mem_map.mp h
    exact (b r hr).2
theorem GdS.few {ns es : List Str} {B : Bd → Prop} : ∀ {s : St}, GdS ns es B s → s.kids.length ≤ 4
  | .note _, _ => Nat.zero_le _
  | .call _, _ => Nat.zero_le _
  | .stay, _ => Nat.zero_le _
  | .again _ _ _, _ => by show 1 ≤ 4; decide
  | .choose bs, ⟨_, b, _⟩ => by show bs.length ≤ 4; omega
  | .toss rs, ⟨b, _⟩ => by show (rs.map _).length ≤ 4; rw [List.length_map]; exact b.2
theorem cnt_up {ns es : List Str} : ∀ {n : Nat} {b : Bd}, GdB ns es n b → cnt (n + 1) b = cnt n b
  | n + 1, b, ⟨_, g⟩ => by
    show b.length + (b.map fun s => (s.kids.map (cnt (n + 1))).sum).sum = b.length + (b.map fun s => (s.kids.map (cnt n)).sum).sum
    congr 2
    exact List.map_congr_left fun s hs => by rw [List.map_congr_left fun k hk => cnt_up ((g s hs).kids k hk)]
theorem cnt_mono {ns es : List Str} {n m : Nat} {b : Bd} (h : GdB ns es n b) (le : n ≤ m) : cnt m b = cnt n b := by
  induction le with
  | refl => rfl
  | @step m le ih => rw [cnt_up (h.mono le), ih]
theorem bdAt_mono {n m : Nat} {H : Hp} {v : V} {b : Bd} (h : BdAt n H v b) (le : n ≤ m) : BdAt m H v b := by
  induction le with
  | refl => exact h
  | step _ ih => exact bdAt_up _ _ _ _ ih
theorem zip_sum {α : Type} (f : α → Nat) : ∀ (l : List α) (i : Nat), ((l.zipIdx i).map fun z => f z.1).sum = (l.map f).sum
  | [], _ => rfl
  | x :: l, i => by
    show f x + ((l.zipIdx (i + 1)).map fun z => f z.1).sum = f x + (l.map f).sum
    rw [zip_sum f l]
theorem placed_len : ∀ (n : Nat) (b : Bd) (p : List Nat), (placed n b p).length = cnt n b
  | 0, _, _ => rfl
  | n + 1, b, p => by
    show (b.zipIdx.flatMap fun z => stP (placed n) z.1 (p ++ [z.2])).length = b.length + (b.map fun s => (s.kids.map (cnt n)).sum).sum
    rw [List.length_flatMap]
    have e : (b.zipIdx.map fun z => (stP (placed n) z.1 (p ++ [z.2])).length) = b.zipIdx.map fun z => 1 + (z.1.kids.map (cnt n)).sum := List.map_congr_left fun z _ => by
      show (kidsP (placed n) z.1 (p ++ [z.2])).length + 1 = _
      unfold kidsP
      rw [List.length_flatMap]
      have e2 : (z.1.kids.zipIdx.map fun y => (placed n y.1 (p ++ [z.2] ++ [y.2])).length) = z.1.kids.zipIdx.map fun y => cnt n y.1 := List.map_congr_left fun y _ => placed_len n y.1 _
      rw [e2, zip_sum (cnt n)]
      omega
    rw [e]
    have e3 := zip_sum (fun s : St => 1 + (s.kids.map (cnt n)).sum) b 0
    rw [e3]
    clear e e3
    induction b with
    | nil => rfl
    | cons s b ih =>
      rw [List.map_cons, List.sum_cons, List.map_cons, List.sum_cons, List.length_cons, ih]
      omega
theorem wt_ok {i : Int} (h : 1 ≤ i ∧ i ≤ 9) : wtB i = true := by
  unfold wtB
  rw [decide_eq_true h.1, decide_eq_true (show i ≤ 99 by omega)]
  rfl
theorem okS_gd {ns es : List Str} {B : Bd → Prop} (hn : ∀ z ∈ ns, nameB z = true) : ∀ {s : St}, GdS ns es B s → okS s = true
  | .note _, g => by
    rcases g with rfl | rfl
    · show nameB "a" = true; decide +kernel
    · show nameB "b" = true; decide +kernel
  | .call _, g => hn _ g
  | .stay, _ => rfl
  | .again _ _ _, ⟨a, b, _⟩ => by
    show (wtB _ && wtB _) = true
    rw [wt_ok a, wt_ok b]
    rfl
  | .choose bs, ⟨_, b, _⟩ => by
    show (decide ((2 : Int) ≤ (bs.length : Nat)) && decide (((bs.length : Nat) : Int) ≤ 3)) = true
    rw [decide_eq_true (by omega), decide_eq_true (by omega)]
    rfl
  | .toss rs, ⟨b, c⟩ => by
    show ((decide ((2 : Int) ≤ (rs.length : Nat)) && decide (((rs.length : Nat) : Int) ≤ 4)) && rs.all fun r => wtB r.1) = true
    rw [decide_eq_true (by omega), decide_eq_true (by omega), List.all_eq_true.mpr fun r hr => wt_ok (c r hr).1]
    rfl
theorem okB_gd {ns es : List Str} (hn : ∀ z ∈ ns, nameB z = true) : ∀ {n : Nat} {b : Bd}, GdB ns es n b → okB n b
  | n + 1, b, ⟨_, g⟩ => fun s hs => ⟨okS_gd hn (g s hs), fun k hk => okB_gd hn ((g s hs).kids k hk)⟩
theorem fewB_gd {ns es : List Str} : ∀ {n : Nat} {b : Bd}, GdB ns es n b → FewB n b
  | n + 1, b, ⟨_, g⟩ => fun s hs => ⟨by have := (g s hs).few; omega, fun k hk => fewB_gd ((g s hs).kids k hk)⟩
theorem zip_mem {α : Type} {l : List α} {z : α × Nat} (h : z ∈ l.zipIdx) : z.1 ∈ l := by
  obtain ⟨i, hi⟩ := List.getElem?_of_mem h
  rw [List.getElem?_zipIdx] at hi
  cases e : l[i]? with
  | none => rw [e] at hi; cases hi
  | some x => rw [e] at hi; cases hi; exact List.mem_of_getElem? e
theorem placed_gd {ns es : List Str} : ∀ {n : Nat} {b : Bd} {p : List Nat}, GdB ns es n b → ∀ y ∈ placed n b p, ∃ m, GdS ns es (GdB ns es m) y.2
  | n + 1, b, p, ⟨_, g⟩, y, hy => by
    obtain ⟨z, hz, hy⟩ := List.mem_flatMap.mp (show y ∈ b.zipIdx.flatMap fun z => stP (placed n) z.1 (p ++ [z.2]) from hy)
    have gz := g _ (zip_mem hz)
    rcases List.mem_cons.mp hy with e | hy
    · rw [e]; exact ⟨n, gz⟩
    · obtain ⟨u, hu, hy⟩ := List.mem_flatMap.mp (show y ∈ z.1.kids.zipIdx.flatMap fun u => placed n u.1 (p ++ [z.2] ++ [u.2]) from hy)
      exact placed_gd (gz.kids _ (zip_mem hu)) y hy
theorem calls_gd {ns es : List Str} {b : Bd} (g : GdB ns es 5 b) : ∀ z ∈ callsOf b, z ∈ ns := fun z hz => by
  obtain ⟨x, hx, rfl⟩ := List.mem_map.mp (show z ∈ (ofWord 5 b "call").map St.nm from hz)
  have wx := ofWord_mem hx
  unfold ofWord at hx
  obtain ⟨y, hy, rfl⟩ := List.mem_map.mp (List.mem_filter.mp hx).1
  obtain ⟨m, gy⟩ := placed_gd g y hy
  revert wx gy
  generalize y.2 = s
  intro wx gy
  match s, wx, gy with
  | .call z, _, gy => exact gy
  | .note _, h, _ => exact absurd h (by show ¬ (("note" : Str) = "call"); decide +kernel)
  | .stay, h, _ => exact absurd h (by decide +kernel)
  | .again _ _ _, h, _ => exact absurd h (by show ¬ (("again" : Str) = "call"); decide +kernel)
  | .choose _, h, _ => exact absurd h (by show ¬ (("choose" : Str) = "call"); decide +kernel)
  | .toss _, h, _ => exact absurd h (by show ¬ (("toss" : Str) = "call"); decide +kernel)
/-- the names that are drawn -/
abbrev five : List Str := ["x", "y", "z", "go", "a"]
/-- a drawn program, its names ascending -/
structure Drawn (es : List Str) (p : Pg) : Prop where
  len : 1 ≤ p.length ∧ p.length ≤ 5
  nd : (names p).Nodup
  so : sortedS (names p) = true
  nm : ∀ z ∈ names p, z ∈ five
  gd : ∀ x ∈ p, GdB (names p) es 3 x.2
  sz : ∀ x ∈ p, cnt 5 x.2 ≤ 10
theorem five_ok : ∀ z ∈ five, nameB z = true := fun z hz => by
  have : five.all nameB = true := by decide +kernel
  exact List.all_eq_true.mp this z hz
theorem Drawn.prg {es : List Str} {p : Pg} (h : Drawn es p) : Prg p where
  len := ⟨h.len.1, by have := h.len.2; omega⟩
  ok := fun x hx => ⟨five_ok _ (h.nm _ (List.mem_map.mpr ⟨x, hx, rfl⟩)), okB_gd (fun z hz => five_ok z (h.nm z hz)) ((h.gd x hx).mono (by decide)), by
    have := h.sz x hx
    omega, fewB_gd ((h.gd x hx).mono (by decide))⟩
  sz := by
    have e : (p.map fun x => (placed 5 x.2 []).length) = p.map fun x => cnt 5 x.2 := List.map_congr_left fun x _ => placed_len 5 x.2 []
    rw [e]
    have a : ∀ q : Pg, (∀ x ∈ q, cnt 5 x.2 ≤ 10) → (q.map fun x => cnt 5 x.2).sum ≤ 10 * q.length := fun q => by
      induction q with
      | nil => exact fun _ => Nat.le_refl _
      | cons x q ih =>
        intro h
        have h1 := h x List.mem_cons_self
        have h2 := ih fun y m => h y (List.mem_cons_of_mem _ m)
        rw [List.map_cons, List.sum_cons, List.length_cons]
        omega
    have := a p h.sz
    have := h.len.2
    omega
  cl := fun x hx z hz => calls_gd ((h.gd x hx).mono (by decide)) z hz
theorem ok_draw {P : Program} {w : World} {K : PySem.W.Frag} {mg : Str → Option Value} {base : Heap} {fs fb : Addr} {fds fdb : FuncData} (FS : Fun K "_law_statement" "_law_statement" sLs fs fds) (FB : Fun K "_law_body" "_law_body" sLy fb fdb) (mr : mg "range" = none) (mt : mg "tuple" = none) (gR : Glo P w K mg base "_law_roll" 1 ["_law_dice_here", "_law_total"] spRoll) (gO : Glo P w K mg base "_law_one_of" 2 ["_law_dice_here", "_law_items"] spOneOf) (gW : Glo P w K mg base "_law_weight" 3 ["_law_dice_here"] spWe)
    (mB : mg "_law_body" = some (.ref fb)) (kB : PySem.W.keepIn K (.ref fb) = true) (bB : Binds K fdb P5 []) (mS : mg "_law_statement" = some (.ref fs)) (kS : PySem.W.keepIn K (.ref fs) = true) (bS : Binds K fds P5 []) : ∀ n, FnOk P w K mg base CX0 (2 * n + 3) fb fdb P5 (spLy n) ∧ FnOk P w K mg base CX0 (2 * n + 4) fs fds P5 (spLs n)
  | 0 => by
    have B : FnOk P w K mg base CX0 3 fb fdb P5 (spLy 0) := by
      refine FB.ok scLy (fun vs H Q E h => ?_) (fun cdv A outer s H vs Q E hr h => ?_)
      · obtain ⟨d, n, m, e, ns, es, r, z, _⟩ := h
        exact absurd z (by decide)
      · obtain ⟨d, n, m, e, ns, es, r, z, _⟩ := h
        exact absurd z (by decide)
    exact ⟨B, ok_ls FS mr mt gR gO gW B (by decide) mB kB bB⟩
  | n + 1 => by
    have S := (ok_draw FS FB mr mt gR gO gW mB kB bB mS kS bS n).2
    have B : FnOk P w K mg base CX0 (2 * n + 4 + 1) fb fdb P5 (spLy (n + 1)) := ok_ly FB mr mt gO S (by omega) mS kS bS
    exact ⟨B, ok_ls FS mr mt gR gO gW B (by omega) mB kB bB⟩
end FR
set_option Elab.async false
set_option linter.all false
set_option maxRecDepth 100000
set_option maxHeartbeats 1000000
/-! _law_bodies -/
namespace FR
open PySem PySem.Spec PyProof.Rows L2 LD
abbrev sLo : Stmt := FR.top 57
abbrev NLo : List Str := ["_law_dice_here", "_law_much", "_law_extra", "_law_names", "_law_found", "_law_name_here"]
theorem scLo : FnScope NLo ["_law_dice_here", "_law_much", "_law_extra"] (defScope sLo) := ⟨rfl, rfl, rfl, by decide +kernel, rfl, by decide +kernel, by decide +kernel⟩
theorem lt1_of {a c : Nat} (h : a + 64 < c) : a + 1 < c := by omega
theorem cut_take {xs : List V} {n : Nat} (h : n ≤ xs.length) : cutV xs none (some (n : Int)) = xs.take n := by
  unfold cutV
  rw [HT.sIx_nat, HT.sIx_none, Nat.min_eq_left h, List.drop_zero, Nat.sub_zero]
theorem setP_new {p : Pg} {z : Str} {b : Bd} (h : z ∉ names p) : setP p z b = p ++ [(z, b)] := by
  unfold setP
  rw [if_neg h]
section
variable {P : Program} {w : World} {K : PySem.W.Frag} {mg : Str → Option Value} {base : Heap}
def spLyA : Sp := fun vs H Q E => spLy 2 vs H Q E ∨ spLy 3 vs H Q E
def spLo : Sp := fun vs H Q _ => ∃ (d e : Addr) (mu : Int) (es : List Str), vs = [.ref d, .int mu, .ref e] ∧ 1 ≤ mu ∧ mu ≤ 5 ∧ DiceAt H d ∧ H e = some (.lst (es.map V.str)) ∧ es.length < 900 ∧
  ∀ l kvs p H', H l = none → Rl d H H' → H' l = some (.dK kvs) → PrgK H' kvs p → Drawn es p → (p.length : Int) ≤ mu → Q (.ref l) H'
theorem ok_lo {f fb : Addr} {fd fdb : FuncData} (F : Fun K "_law_bodies" "_law_bodies" sLo f fd) (ms : mg "sorted" = none) (gR : Glo P w K mg base "_law_roll" 1 ["_law_dice_here", "_law_total"] spRoll) (gX : Glo P w K mg base "_law_mixed" 2 ["_law_dice_here", "_law_items"] spMx)
    (GB : FnOk P w K mg base CX0 9 fb fdb P5 spLyA) (mB : mg "_law_body" = some (.ref fb)) (kB : PySem.W.keepIn K (.ref fb) = true) (bB : Binds K fdb P5 []) : FnOk P w K mg base CX0 10 f fd ["_law_dice_here", "_law_much", "_law_extra"] spLo := by
  refine F.ok scLo (fun vs H Q E h => ?_) (fun cdv A outer s H vs Q E hr h => ?_)
  · obtain ⟨d, e, mu, es, rfl, _⟩ := h
    rfl
  · obtain ⟨d, e, mu, es, rfl, m1, m5, hd, he, e9, q⟩ := h
    refine ⟨_, (pss_cons (ps_set (i := 3) scLo.nd rfl (Or.inl rfl) (pe_callB cr_sortedS (by rfl) ms (by decide +kernel) (pa_cons (pe_slice sl_list (pe_call gX.G (hr.mono (by decide)) (by rfl) gX.m gX.k gX.b .nil pass0 (pa_cons (pv 0) (pa_cons (pe_lst (pa_cons pe_str (pa_cons pe_str (pa_cons pe_str (pa_cons pe_str (pa_cons pe_str pa_nil)))))) pa_nil))) po_none (po_some (pe_op op_add pe_int (pe_call gR.G (hr.mono (by decide)) (by rfl) gR.m gR.k gR.b .nil pass0 (pa_cons (pv 0) (pa_cons (pv 1) pa_nil)))))) pa_nil)))
      (pss_cons (ps_set (i := 4) scLo.nd rfl (Or.inl rfl) pe_dnewK)
      (pss_cons (ps_for PassesOwn.never rfl (pi_list (pv 3)) (pg_name (i := 5) scLo.nd rfl (.inl rfl)) (pss_one (ps_dput (lt1_of hr.units) (pv 4) (pv 5) (pe_call GB hr (by rfl) mB kB bB .nil pass0 (pa_cons (pv 0) (pa_cons (pe_op op_add pe_int (pe_call gR.G (hr.mono (by decide)) (by rfl) gR.m gR.k gR.b .nil pass0 (pa_cons (pv 0) (pa_cons pe_int pa_nil)))) (pa_cons (pv 3) (pa_cons (pe_lst (pa_cons (pe_op op_add pe_int (pe_call gR.G (hr.mono (by decide)) (by rfl) gR.m gR.k gR.b .nil pass0 (pa_cons (pv 0) (pa_cons pe_int pa_nil)))) pa_nil)) (pa_cons (pv 2) pa_nil)))))) (by rfl))))
      (pss_one (ps_ret (pv 4)))))), ?_⟩
    refine ⟨_, rfl, small1000 (Nat.le_of_ble_eq_true rfl), fun l0 hl0 => ?_⟩
    have s0 := same_new (o := .lst (five.map V.str)) hl0
    have hl01 : upd H l0 (.lst (five.map V.str)) l0 = some (.lst (five.map V.str)) := upd_same
    have n0 : l0 ≠ d := by
      obtain ⟨x, y, z, e⟩ := hd
      exact fun c => by rw [c, e] at hl0; cases hl0
    have R1 := (Rl.refl hd).same s0
    refine ⟨d, l0, five, rfl, R1.1, .inl hl01, n0, by decide, fun ys l1 H2 pm hl1n R2 hy => ?_⟩
    have hl1n : upd H l0 (.lst (five.map V.str)) l1 = none := hl1n
    have n1 : l1 ≠ d := by
      obtain ⟨x, y, z, e⟩ := R1.1
      exact fun c => by rw [c, e] at hl1n; cases hl1n
    have R12 := R1.trans R2
    clear R1 R2
    refine ⟨_, rfl, _, rfl, d, mu, rfl, R12.1, by omega, by omega, fun r a b c r0 r1 => ?_⟩
    have R3 : Rl d H (upd H2 d (.lst (dxs a b c))) := R12.roll
    have hy3 : upd H2 d (.lst (dxs a b c)) l1 = some (.lst (ys.map V.str)) := by rw [upd_ne n1]; exact hy
    generalize upd H2 d (.lst (dxs a b c)) = H3 at R3 hy3 ⊢
    clear hy R12
    have ly : ys.length = 5 := pm.length_eq
    obtain ⟨n, hn, nn1, nn5⟩ : ∃ n : Nat, (1 : Int) + r = (n : Int) ∧ 1 ≤ n ∧ n ≤ 5 := ⟨(1 + r).toNat, by omega, by omega, by omega⟩
    refine ⟨_, _, rfl, rfl, _, rfl, l1, _, rfl, SqL.of hy3, fun p hp => ?_⟩
    have ecut : cutV (ys.map V.str) none (some (1 + r)) = (ys.take n).map V.str := by
      rw [hn, cut_take (by rw [List.length_map, ly]; exact nn5), List.map_take]
    rw [ecut]
    have R4 : Rl d H (upd H3 p (.lst ((ys.take n).map V.str))) := R3.same (same_new hp)
    have hp4 : upd H3 p (.lst ((ys.take n).map V.str)) p = some (.lst ((ys.take n).map V.str)) := upd_same
    generalize upd H3 p (.lst ((ys.take n).map V.str)) = H4 at R4 hp4 ⊢
    refine ⟨p, ys.take n, rfl, SqL.of hp4, by rw [List.length_take]; omega, fun zs nl pz sz hnl => ?_⟩
    have R5 : Rl d H (upd H4 nl (.lst (zs.map V.str))) := R4.same (same_new hnl)
    have hn5 : upd H4 nl (.lst (zs.map V.str)) nl = some (.lst (zs.map V.str)) := upd_same
    generalize upd H4 nl (.lst (zs.map V.str)) = H5 at R5 hn5 ⊢
    have he5 : H5 e = some (.lst (es.map V.str)) := by
      refine R5.2 _ _ (fun c => ?_) he
      obtain ⟨x, y, z, e'⟩ := hd
      rw [c, e'] at he
      have he := HO.lst.inj (Option.some.inj he)
      cases es with
      | nil => cases he
      | cons z t => cases he
    have lz : zs.length = n := by rw [pz.length_eq, List.length_take]; omega
    have ndz : zs.Nodup := pz.symm.nodup ((pm.symm.nodup (by decide +kernel)).sublist (List.take_sublist _ _))
    have inz : ∀ z ∈ zs, z ∈ five := fun z h => pm.mem_iff.mp (List.take_subset _ _ (pz.mem_iff.mp h))
    intro fo hfo
    refine ⟨_, rfl, _, rfl, ⟨_, SqL.of (same_new hfo _ _ hn5)⟩, ?_⟩
    refine for_list (xs := zs.map V.str) (fun i σ Hc => ∃ (y : Option V) (kvs : List (Key × V)) (p : Pg), σ = [some (.ref d), some (.int mu), some (.ref e), some (.ref nl), some (.ref fo), y] ∧ Rl d H5 Hc ∧ Hc fo = some (.dK kvs) ∧ PrgK Hc kvs p ∧ names p = zs.take i ∧ (∀ x ∈ p, GdB zs es 3 x.2) ∧ ∀ x ∈ p, cnt 5 x.2 ≤ 10) ?_ ?_ ?_ ?_
    · exact ⟨_, [], [], rfl, (Rl.refl R5.1).same (same_new hfo), upd_same, PrgK.nil, rfl, (fun x h => absurd h List.not_mem_nil), (fun x h => absurd h List.not_mem_nil)⟩
    · rintro i σ Hc _ ⟨y, kvs, p, rfl, Rc, _⟩
      refine SqL.of (Rc.2 _ _ (fun c => ?_) hn5)
      obtain ⟨x, y, z, e'⟩ := R5.1
      rw [c, e'] at hn5
      have hn5 := HO.lst.inj (Option.some.inj hn5)
      cases zs with
      | nil => cases hn5
      | cons z t => cases hn5
    · rintro i x σ Hc hx ⟨y, kvs, p, rfl, Rc, hfc, hk, hnm, hgd, hsz⟩
      have ii := (List.getElem?_eq_some_iff.mp hx).1
      rw [List.length_map, lz] at ii
      obtain ⟨z, hz, rfl⟩ : ∃ z, zs[i]? = some z ∧ x = .str z := by
        rw [List.getElem?_map] at hx
        cases e : zs[i]? with
        | none => rw [e] at hx; cases hx
        | some z => rw [e] at hx; cases hx; exact ⟨z, rfl, rfl⟩
      have e10 := hr.units
      have zn : z ∉ names p := fun c => by
        rw [hnm] at c
        have := ndz
        rw [← List.take_append_drop i zs] at this
        have dz : z ∈ zs.drop i := by
          rw [List.mem_iff_getElem?]
          exact ⟨0, by rw [List.getElem?_drop]; exact hz⟩
        exact (List.nodup_append.mp this).2.2 z c z dz rfl
      have hn6 : Hc nl = some (.lst (zs.map V.str)) := by
        refine Rc.2 _ _ (fun c => ?_) hn5
        obtain ⟨x, y, z, e'⟩ := R5.1
        rw [c, e'] at hn5
        have hn5 := HO.lst.inj (Option.some.inj hn5)
        cases zs with
        | nil => cases hn5
        | cons z t => cases hn5
      have ed : e ≠ d := fun c => by
        obtain ⟨x, y, z, e'⟩ := hd
        rw [c, e'] at he
        have he := HO.lst.inj (Option.some.inj he)
        cases es with
        | nil => cases he
        | cons z t => cases he
      have nld : nl ≠ d := fun c => by
        obtain ⟨x, y, z, e'⟩ := R5.1
        rw [c, e'] at hn5
        have hn5 := HO.lst.inj (Option.some.inj hn5)
        cases zs with
        | nil => cases hn5
        | cons z t => cases hn5
      have he6 : Hc e = some (.lst (es.map V.str)) := Rc.2 _ _ ed he5
      have nfd : fo ≠ d := by
        obtain ⟨x, y, z, e⟩ := R5.1
        exact fun c => by rw [c, e] at hfo; cases hfo
      refine ⟨_, rfl, _, rfl, d, 2, rfl, Rc.1, by decide, by decide, fun r a b c r0 r2 => ⟨_, _, rfl, rfl, _, rfl, ?_⟩⟩
      have R6 : Rl d H5 (upd Hc d (.lst (dxs a b c))) := Rc.roll
      have R6' : Rl d Hc (upd Hc d (.lst (dxs a b c))) := (Rl.refl Rc.1).roll
      generalize upd Hc d (.lst (dxs a b c)) = H6 at R6 R6' ⊢
      refine ⟨_, rfl, d, 8, rfl, R6.1, by decide, by decide, fun r' a b c r0' r2' => ⟨_, _, rfl, rfl, Nat.le_of_lt (small1000 (Nat.le_of_ble_eq_true rfl)), fun m hm => ⟨_, rfl, ?_⟩⟩⟩
      have s7 : Same (upd H6 d (.lst (dxs a b c))) (upd (upd H6 d (.lst (dxs a b c))) m (.lst [.int (3 + r')])) := same_new hm
      have R7 : Rl d Hc (upd (upd H6 d (.lst (dxs a b c))) m (.lst [.int (3 + r')])) := R6'.roll.same s7
      have hmc : Hc m = none := R6'.roll.none Rc.1 hm
      have hm7 : upd (upd H6 d (.lst (dxs a b c))) m (.lst [.int (3 + r')]) m = some (.lst [.int (3 + r')]) := upd_same
      have hn7 := R7.2 _ _ nld hn6
      have he7 := R7.2 _ _ ed he6
      have D7 : Dw d nl m e zs es (upd (upd H6 d (.lst (dxs a b c))) m (.lst [.int (3 + r')])) (3 + r') := ⟨R7.1, hm7, hn7, he7, by omega, by omega, e9, by omega⟩
      have step : ∀ (k : Nat) (v : V) (bd : Bd) (H' : Hp) (r'' : Int), k ≤ 3 → Dw d nl m e zs es H' r'' → Bt2 d m (upd (upd H6 d (.lst (dxs a b c))) m (.lst [.int (3 + r')])) H' → BdAt k H' v bd → GdB zs es k bd → (cnt k bd : Int) + r'' = 3 + r' →
          H' fo = some (.dK kvs) ∧ Rl d H5 (upd H' fo (.dK (putK kvs (.inr z) v))) ∧ PrgK (upd H' fo (.dK (putK kvs (.inr z) v))) (putK kvs (.inr z) v) (p ++ [(z, bd)]) ∧ names (p ++ [(z, bd)]) = zs.take (i + 1) ∧ (∀ x ∈ p ++ [(z, bd)], GdB zs es 3 x.2) ∧ ∀ x ∈ p ++ [(z, bd)], cnt 5 x.2 ≤ 10 := by
        intro k v bd H' r'' k5 W' B' hb gb hc
        have R8 : Rl d Hc H' := ⟨W'.dice, fun q o n e => B' q o n (ne_of_none e hmc) (R7.2 q o n e)⟩
        have hf8 := R8.2 _ _ nfd hfc
        have tk : Tk H' (upd H' fo (.dK (putK kvs (.inr z) v))) := Tk.upd hf8 (fun _ z => by cases z) fun _ _ z => by cases z
        have R9 := Rc.trans R8
        have hk8 : PrgK H' kvs p := (R8.tk Rc.1).pg hk
        have hk9 := hk8.set (z := z) (bdAt_mono hb (by omega))
        rw [setP_new zn] at hk9
        have gb5 := gb.mono k5
        have c5 : cnt 5 bd = cnt k bd := cnt_mono gb (by omega)
        have r0'' := W'.r0
        refine ⟨hf8, ⟨?_, fun q o n e => ?_⟩, tk.pg hk9, ?_, fun x hx => ?_, fun x hx => ?_⟩
        · obtain ⟨x, y, z, e⟩ := W'.dice
          exact ⟨x, y, z, by rw [upd_ne nfd.symm]; exact e⟩
        · rw [upd_ne (ne_of_none e hfo)]
          exact R9.2 q o n e
        · rw [take_snoc hz, ← hnm]
          show (p ++ [(z, bd)]).map (·.1) = p.map (·.1) ++ [z]
          rw [List.map_append]
          rfl
        · rcases List.mem_append.mp hx with h | h
          · exact hgd x h
          · rw [List.mem_singleton.mp h]; exact gb5
        · rcases List.mem_append.mp hx with h | h
          · exact hsz x h
          · rw [List.mem_singleton.mp h]
            show cnt 5 bd ≤ 10
            omega
      have lk : kvs.length < sizeLine := small1000 (by
        have h1 := hk.1
        have h2 := congrArg List.length hnm
        rw [List.length_map, List.length_take] at h2
        omega)
      rcases (show r = 0 ∨ r = 1 by omega) with rfl | rfl
      · refine .inl ⟨d, nl, m, e, zs, es, 3 + r', by decide, rfl, D7, fun v bd H' r'' W' B' hb gb hc => ?_⟩
        obtain ⟨a1, a2, a3, a4, a5, a6⟩ := step 2 v bd H' r'' (by decide) W' B' hb gb hc
        exact ⟨_, rfl, _, rfl, fo, _, rfl, DPut.k (k := .inr z) a1 lk, _, _, _, rfl, a2, upd_same, a3, a4, a5, a6⟩
      · refine .inr ⟨d, nl, m, e, zs, es, 3 + r', by decide, rfl, D7, fun v bd H' r'' W' B' hb gb hc => ?_⟩
        obtain ⟨a1, a2, a3, a4, a5, a6⟩ := step 3 v bd H' r'' (by decide) W' B' hb gb hc
        exact ⟨_, rfl, _, rfl, fo, _, rfl, DPut.k (k := .inr z) a1 lk, _, _, _, rfl, a2, upd_same, a3, a4, a5, a6⟩
    · rintro σ Hc ⟨y, kvs, p, rfl, Rc, hfc, hk, hnm, hgd, hsz⟩
      rw [List.length_map, List.take_length] at hnm
      have lp : p.length = n := by rw [← lz, ← hnm, List.length_map]
      refine ⟨_, rfl, q fo kvs p Hc ((R5.none hd hfo)) (R5.trans Rc) hfc hk ⟨⟨by omega, by omega⟩, by rw [hnm]; exact ndz, by rw [hnm]; exact sz, by rw [hnm]; exact inz, by rw [hnm]; exact hgd, hsz⟩ (by omega)⟩
end
end FR
set_option Elab.async false
set_option linter.all false
set_option maxRecDepth 100000
set_option maxHeartbeats 1000000
/-! {**d, k: v} -/
namespace MM
open PySem PySem.Spec PyProof.Rows L2
section
variable {prog : Program} {w : World} {A : Around} {E : Value → Shared → Prop} {s : Shared}
abbrev mk (prog : Program) (w : World) : PySem.KeyKind prog w Key := mixKind prog w
/-- one pair put -/
theorem put_pair {d : Addr} {kvs : List (Key × Value)} {k : Key} {key v : Value} {Q : Unit → Shared → Prop} (hkey : (mk prog w).is k key = true) (hm : s.heap.DictOf (mk prog w) d kvs) (hz : kvs.length ≤ sizeLine)
    (hQ : ∀ h', h'.DictOf (mk prog w) d (stored kvs k v) → Heap.SameBut d s.heap h' → Q () { s with heap := h' }) : wpAny (model prog w) A (dictPut d ((mk prog w).hash k) key v) Q E s := by
  obtain ⟨o, es, ep, ho, hc, hd, hk, hp, hn⟩ := hm
  have sz : es.size = kvs.length := by rw [← hp.length]; exact Array.length_toList.symm
  have hidx : (es.findIdx? fun e => (mk prog w).is k e.key) = kvs.findIdx? fun kv => decide (kv.1 = k) := by
    rw [← hp.findIdx k]; obtain ⟨l⟩ := es; simp
  unfold dictPut
  refine wpAny_bind (wpAny_dictFind_of hkey ho hd hk ?_)
  cases hi : es.findIdx? fun e => (mk prog w).is k e.key with
  | some i =>
    refine wpAny_updateDict ho hd (hQ _ ⟨_, _, ep, Heap.get?_update_self _ ho (Obj.isFreed_of_dict (Obj.data_mapDict hd _)), hc.mapDict _, Obj.data_mapDict hd _, hk.modify _ _, ?_, ?_⟩ (Heap.SameBut.update ..))
    · rw [stored, if_pos (any_of_findIdx_some (hidx ▸ hi))]
      have hl : (es.toList.findIdx? fun e => (mk prog w).is k e.key) = some i := by rw [← hi]; obtain ⟨l⟩ := es; simp
      have z := hp.modify hn hl v
      obtain ⟨l⟩ := es
      simpa using z
    · rw [stored, if_pos (any_of_findIdx_some (hidx ▸ hi)), keys_map_store]
      exact hn
  | none =>
    have hnot : k ∉ kvs.map (·.1) := not_mem_of_findIdx_none (hidx ▸ hi)
    have hany : ¬ (kvs.any fun kv => decide (kv.1 = k)) = true := fun z => by
      obtain ⟨kv, hkv, he⟩ := List.any_eq_true.mp z
      exact hnot (List.mem_map.mpr ⟨kv, hkv, of_decide_eq_true he⟩)
    refine wpAny_updateDictKeys ho hd (hQ _ ⟨_, _, ep + 1, Heap.get?_update_self _ ho (Obj.isFreed_of_dict (Obj.data_mapDictKeys hd _)), hc.mapDictKeys _, Obj.data_mapDictKeys hd _, hk.push hkey _, ?_, ?_⟩ (Heap.SameBut.update ..)) (by rw [sz]; exact hz)
    · rw [stored, if_neg hany]
      have z := hp.append hkey ((mk prog w).hash k) v
      obtain ⟨l⟩ := es
      simpa using z
    · rw [stored, if_neg hany, List.map_append, List.nodup_append]
      refine ⟨hn, by simp, fun a ha b hb e => ?_⟩
      have eb : b = k := List.mem_singleton.mp hb
      exact hnot (eb ▸ e ▸ ha)
/-- the keys are no objects -/
theorem key_flat {es : Array DictEntry} (hk : KeysOf (mk prog w) es) : ∀ e ∈ es, ∀ a, e.key ≠ .ref a := fun e he a z => by
  obtain ⟨k, h1, _⟩ := hk e he
  rw [z] at h1
  cases k with
  | inl i => exact absurd (show keyIs (.inl i) (.ref a) = true from h1) (by simp [keyIs, Value.isInt])
  | inr x => exact absurd (show keyIs (.inr x) (.ref a) = true from h1) (by simp [keyIs, Value.isStrOf])
theorem merge {d o : Addr} {kvs more : List (Key × Value)} {Q : Unit → Shared → Prop} (ne : d ≠ o) (hoS : (o == sysModules) = false) (hd : s.heap.DictOf (mk prog w) d kvs) (ho : s.heap.DictOf (mk prog w) o more) (hz : kvs.length + more.length ≤ sizeLine)
    (hQ : ∀ h', h'.DictOf (mk prog w) d (merged kvs more) → Heap.SameBut d s.heap h' → Q () { s with heap := h' }) : wpAny (model prog w) A (mergeMapping d (.ref o) false) Q E s := by
  have hT := ho.typeIs
  obtain ⟨od, esd, epd, hod, _, hdd, hkd, hpd, hnd⟩ := id hd
  obtain ⟨oo, eso, epo, hoo, hco, hdo, hko, hpo, hno⟩ := id ho
  have sz : more.length = eso.size := by rw [← hpo.length]; exact Array.length_toList
  unfold mergeMapping
  refine wpAny_bind (wpAny_isInstance (T := "dict") hT PySem.F.sub_dict_dict ?_)
  simp only [if_true]
  refine wpAny_bind (wpAny_specialOf hT PySem.F.slot_dict_iter.lookup (wpAny_bind (wpAny_pure ?_)))
  simp only [beq_self_eq_true, hoS, Bool.false_eq_true, if_false]
  have loop : wpAny (model prog w) A (do
      let l ← dictEntries o
      let epoch ← dictEpoch o
      forIn (List.range l.size) PUnit.unit fun i (_ : PUnit) => (do
          let l' ← dictEntries o
          match l'[i]? with
            | some e => do
              holding [e.key, e.val] (dictPut d e.hash e.key e.val)
              let ep' ← dictEpoch o
              if (ep' != epoch) = true then do
                  (unsupported "dict.changed-during-merge" : Sem PUnit)
                  pure (ForInStep.yield PUnit.unit)
                else pure (ForInStep.yield PUnit.unit)
            | _ => do
              (unsupported "dict.changed-during-merge" : Sem PUnit)
              pure (ForInStep.yield PUnit.unit) : Sem (ForInStep PUnit))
      pure ()) Q E s := by
    refine wpAny_bind (wpAny_dictEntries hoo hdo (wpAny_bind (wpAny_dictEpoch hoo hdo (wpAny_bind ?_))))
    rw [List.range_eq_range']
    refine wpAny_forIn_list _
      (fun rest _ s' => ∃ h' i, s' = { s with heap := h' } ∧ rest = List.range' i (eso.size - i) ∧ i ≤ eso.size ∧ h'.DictOf (mk prog w) d (merged kvs (more.take i)) ∧ h'.get? o = some oo ∧ Heap.SameBut d s.heap h')
      _ ?_ ?_ _ _ ⟨s.heap, 0, rfl, by simp, Nat.zero_le _, by simpa [merged] using hd, hoo, Heap.SameBut.refl _ _⟩
    · rintro x rest b s' ⟨h', i, rfl, hr, hi, hd', hoo', hs'⟩
      have lt : i < eso.size := by
        rcases Nat.lt_or_ge i eso.size with z | z
        · exact z
        · rw [Nat.sub_eq_zero_of_le z] at hr; simp at hr
      have e0 : eso.size - i = (eso.size - (i + 1)) + 1 := by omega
      rw [e0, List.range'_succ] at hr
      obtain ⟨rfl, hrest⟩ := List.cons.inj hr
      refine wpAny_bind (wpAny_dictEntries hoo' hdo ?_)
      rw [Array.getElem?_eq_getElem lt]
      obtain ⟨⟨k, v⟩, hkv⟩ : ∃ kv, more[x]? = some kv := ⟨more[x]'(by rw [sz]; exact lt), List.getElem?_eq_getElem _⟩
      obtain ⟨hkey, hval⟩ := hpo.get? (e := eso[x]) (by simp [lt]) hkv
      obtain ⟨k', hkey', hhash⟩ := hko eso[x] (Array.getElem_mem lt)
      obtain rfl : k' = k := (mk prog w).inj _ _ _ hkey' hkey
      have few : (merged kvs (more.take x)).length ≤ sizeLine := by
        have e1 := merged_length_le kvs (more.take x)
        have e2 : (more.take x).length ≤ more.length := by rw [List.length_take]; omega
        omega
      show wpAny _ _ (holding [eso[x].key, eso[x].val] (dictPut d eso[x].hash eso[x].key eso[x].val) >>= _) _ _ _
      rw [hhash, hval]
      refine wpAny_bind (wpAny_holding (put_pair (s := { s with heap := h' }) hkey hd' few fun h'' hd'' hs'' => ?_))
      have hoo'' : h''.get? o = some oo := (hs''.2 o (Ne.symm ne)).trans hoo'
      refine wpAny_bind (wpAny_dictEpoch hoo'' hdo ?_)
      rw [if_neg (by simp)]
      exact wpAny_pure ⟨h'', x + 1, rfl, hrest, lt, by rw [merged_take_succ kvs more x (k', v) hkv]; exact hd'', hoo'', hs'.trans hs''⟩
    · rintro b s' ⟨h', i, rfl, hr, hi, hd', hoo', hs'⟩
      have ei : i = eso.size := by
        rcases Nat.lt_or_ge i eso.size with z | z
        · have e0 : eso.size - i = (eso.size - (i + 1)) + 1 := by omega
          rw [e0, List.range'_succ] at hr
          cases hr
        · exact Nat.le_antisymm hi z
      rw [ei, ← sz, List.take_length] at hd'
      exact wpAny_pure (hQ h' hd' hs')
  refine wpAny_bind (wpAny_dictEntries hod hdd ?_)
  split
  · refine wpAny_bind (wpAny_dictEntries hoo hdo (wpAny_bind ?_))
    rw [← Array.forIn_toList]
    refine wpAny_forIn_list _ (fun rest _ s' => s' = s ∧ ∀ e ∈ rest, e ∈ eso) _ ?_ ?_ _ _ ⟨rfl, fun e he => Array.mem_toList_iff.mp he⟩
    · rintro x rest b s' ⟨rfl, hr⟩
      have fl := key_flat hko x (hr x List.mem_cons_self)
      cases hx : x.key with
      | ref a => exact absurd hx (fl a)
      | _ => exact wpAny_pure ⟨rfl, fun e he => hr e (List.mem_cons_of_mem _ he)⟩
    · rintro b s' ⟨rfl, _⟩
      exact loop
  · exact loop
end
end MM
namespace L2
open PySem PySem.Spec PyProof.Rows
/-- {**e, k: v} -/
def tDStar (te tk tv : TE) : TE := fun σ H Q => ∀ p, H p = none → te σ (upd H p (.dK [])) fun x H1 => ∃ a kvs, x = .ref a ∧ a ≠ p ∧ H1 a = some (.dK kvs) ∧ H1 p = some (.dK []) ∧ kvs.length + 1 ≤ sizeLine ∧
  ∀ p2, upd H1 p (.dK kvs) p2 = none → tk σ (upd (upd H1 p (.dK kvs)) p2 (.dK [])) fun y H2 => tv σ H2 fun z H3 => ∃ key, y = kV key ∧ H3 p2 = some (.dK []) ∧ H3 p = some (.dK kvs) ∧ p2 ≠ p ∧
    Q (.ref p) (upd (upd H3 p2 (.dK [(key, z)])) p (.dK (putK kvs key z)))
section
variable {X : Cx}
theorem star_shape {env : Env} {e k v : Expr} {pos : Pos} : (evalEachOpt [none, some k] env).zip ((evalEach [e, v] env).map fun v => do let x ← v; standAt pos; pure x) = [(none, do let x ← eval e env; standAt pos; pure x), (some (eval k env), do let x ← eval v env; standAt pos; pure x)] := by
  rfl
theorem pe_dstar {e k v : Expr} {te tk tv : TE} {pos : Pos} (he : PE X e te) (hk : PE X k tk) (hv : PE X v tv) : PE X (.Dict [none, some k] [e, v] pos) (tDStar te tk tv) := by
  refine ⟨fun pins s σ H Q I h => ?_⟩
  rw [arm_eval_Dict, star_shape]
  refine wpAny_bind (wpAny_standAt ?_)
  unfold dictDisplay
  simp only [List.forIn_cons, List.forIn_nil, pure_bind, bind_assoc, List.isEmpty_nil, List.isEmpty_cons, if_true, Bool.false_eq_true, if_false, List.nil_append, List.length_singleton]
  refine wpAny_bind (wpAny_alloc ?_)
  have hn := I.hok.fresh (Nat.le_refl s.heap.objs.size)
  have I1 : Inv X pins σ (upd H s.heap.objs.size (.dK [])) { s with heap := s.heap.push { cls := .type "dict", data := .dict #[] } } := I.laid (t' := s.toks) (fun _ _ q => Heap.get?_push_of_some _ q) (Nat.le_refl _) (dk_empty s.heap I.big)
  generalize s.heap.objs.size = p at hn I1 ⊢
  generalize ({ s with heap := s.heap.push { cls := .type "dict", data := .dict #[] } } : Shared) = s1 at I1 ⊢
  have h1 := h p hn
  refine wpAny_bind (wpAny_holding (wpAny_bind (thn (he.run pins s1 σ _ _ I1 h1) fun u s2 ⟨x, H1, I2, rx, a, kvs, ex, nap, ha, hp, few, q⟩ => ?_)))
  subst ex
  obtain rfl : u = Value.ref a := rx
  refine wpAny_bind (wpAny_standAt (wpAny_pure ?_))
  obtain ⟨_, oa, va, ra, da⟩ := dk_of I2.hok ha
  obtain ⟨_, op, vp, rp, dp⟩ := dk_of I2.hok hp
  have evp : vp = [] := by cases rp; rfl
  subst evp
  obtain ⟨_, _, _, _, _, _, _, _, ndA⟩ := id da
  refine wpAny_bind (wpAny_onRaise (wpAny_tryCatch (wpAny_onRaise (wpAny_holding (MM.merge (Ne.symm nap) oa dp da (by rw [← ra.length]; show 0 + kvs.length ≤ _; omega) fun h' dp' sb => ?_)))))
  rw [merged_nil_of_nodup _ ndA] at dp'
  have I3 : Inv X pins σ (upd H1 p (.dK kvs)) { s2 with heap := h' } := d_write (t' := s2.toks) I2 (by rw [hp]; exact True.intro) sb (by obtain ⟨o, _, _, z, _⟩ := dp'; exact ⟨o, z⟩) (dk_new (by omega) op ra dp')
  generalize ({ s2 with heap := h' } : Shared) = s3 at I3 ⊢
  -- the other pairs, in a dict of their own
  have hn2 := I3.hok.fresh (Nat.le_refl s3.heap.objs.size)
  have I4 : Inv X pins σ (upd (upd H1 p (.dK kvs)) s3.heap.objs.size (.dK [])) { s3 with heap := s3.heap.push { cls := .type "dict", data := .dict #[] } } := I3.laid (t' := s3.toks) (fun _ _ q => Heap.get?_push_of_some _ q) (Nat.le_refl _) (dk_empty s3.heap I3.big)
  have q2 := q s3.heap.objs.size hn2
  refine wpAny_bind ?_
  rw [if_neg (by decide)]
  refine wpAny_pure ?_
  simp only [pure_bind, List.isEmpty_cons, Bool.false_eq_true, if_false, bind_assoc]
  refine wpAny_bind (wpAny_holding (wpAny_subDict (knd := mixKind X.prog X.w) ?_ ?_))
  · show 1 ≤ 15
    decide
  show wpAny _ _ (evalPairs [(eval k X.env, do let x ← eval v X.env; standAt pos; pure x)]) _ _ _
  unfold evalPairs evalPairs
  refine wpAny_bind (thn (hk.run pins _ σ _ _ I4 q2) fun u4 s4 ⟨y, H4, I5, ry, q3⟩ => wpAny_bind (wpAny_holding (wpAny_bind (thn (hv.run pins s4 σ H4 _ I5 q3) fun u5 s5 ⟨z, H5, I6, rz, key, ey, h2, hp5, ne2, q4⟩ => wpAny_bind (wpAny_standAt (wpAny_pure ?_))))))
  refine wpAny_bind (wpAny_holding (wpAny_pure (wpAny_pure ?_)))
  subst ey
  obtain ⟨_, o2, v2, r2, d2⟩ := dk_of I6.hok h2
  have ev2 : v2 = [] := by cases r2; rfl
  subst ev2
  refine ⟨[(key, u5)], ⟨kV_is ry, rfl, True.intro⟩, d2, fun h6 d6 sb6 => ?_⟩
  have e6 : merged [] [(key, u5)] = [(key, u5)] := rfl
  rw [e6] at d6
  have I7 : Inv X pins σ (upd H5 s3.heap.objs.size (.dK [(key, z)])) { s5 with heap := h6, toks := s5.toks + 1 } := d_write (t' := s5.toks + 1) I6 (by rw [h2]; exact True.intro) sb6 (by obtain ⟨o, _, _, z, _⟩ := d6; exact ⟨o, z⟩) (dk_new (by rw [sizeLine_eq]; show 1 ≤ _; decide) o2 (.cons ⟨rfl, rz⟩ .nil) d6)
  generalize s3.heap.objs.size = p2 at hn2 I4 q2 h2 ne2 q4 d2 o2 d6 I7 sb6 ⊢
  have h27 : upd H5 p2 (.dK [(key, z)]) p2 = some (.dK [(key, z)]) := upd_same
  have hp7 : upd H5 p2 (.dK [(key, z)]) p = some (.dK kvs) := by rw [upd_ne (Ne.symm ne2)]; exact hp5
  obtain ⟨_, o7, v7, r7, d7⟩ := dk_of I7.hok h27
  obtain ⟨_, op7, vp7, rp7, dp7⟩ := dk_of I7.hok hp7
  refine wpAny_bind (wpAny_onRaise (wpAny_holding (MM.merge (Ne.symm ne2) o7 dp7 d7 (by rw [← r7.length, ← rp7.length]; show kvs.length + 1 ≤ _; exact few) fun h8 d8 sb8 => wpAny_pure ?_)))
  have rel : KV (putK kvs key z) (merged vp7 v7) := KV.merge r7 rp7
  exact ⟨.ref p, _, d_write (t' := s5.toks + 1) I7 (by rw [hp7]; exact True.intro) sb8 (by obtain ⟨o, _, _, z, _⟩ := d8; exact ⟨o, z⟩) (dk_new (by have := length_putK kvs key z; omega) op7 rel d8), rfl, q4⟩
end
end L2
set_option Elab.async false
set_option linter.all false
set_option maxRecDepth 100000
set_option maxHeartbeats 1000000
/-! with_bodies, with_names -/
namespace FR
open PySem PySem.Spec PyProof.Rows L2
abbrev sWo : Stmt := top 14
abbrev NWo : List Str := ["statement", "word", "weight", "_"]
theorem scWo : FnScope NWo ["statement"] (defScope sWo) := ⟨rfl, rfl, rfl, by decide +kernel, rfl, by decide +kernel, by decide +kernel⟩
abbrev sWb : Stmt := top 13
abbrev NWb : List Str := ["statement", "bodies", "word", "weight", "body"]
theorem scWb : FnScope NWb ["statement", "bodies"] (defScope sWb) := ⟨rfl, rfl, rfl, by decide +kernel, rfl, by decide +kernel, by decide +kernel⟩
open RZ
theorem pi_zipAK {X : Cx} {K : PySem.W.Frag} {e e2 : Expr} {ta : TA} {p pos tpos : Pos} {elts : List Expr} {kk : Nat} (hK : X.K = K) (hg : Gl X "zip") (hm : X.mg "zip" = none) (ha : PA X [e, e2] ta)
    (hs : starEach [e, e2] X.env = (false, eval e X.env) :: starEach [e2] X.env := by rfl) (hpl : (backTo pos (starEach [e2] X.env)).any (·.1) = false := by rfl) : PI X (.Tuple elts kk tpos) (.Call (.Name "zip" p) [e, e2] [] pos) (iZipA K ta) := by
  subst hK
  exact pi_zipA hg hm ha hs hpl
theorem walk_zipT {K : PySem.W.Frag} {a b : Addr} {xs ys : List V} {n : Nat} (hn : n = min xs.length ys.length) : Walk (ItzT K a b) n (fun H => SqT K H a xs ∧ SqT K H b ys) (YPair (fun i => xs[i]?) (fun i => ys[i]?)) := by
  subst hn
  refine ⟨fun i _ hi q => ?_, fun _ q => ⟨xs, ys, q.1, q.2, by omega⟩, fun i H v H' _ q y => ?_⟩
  · have h1 : i < xs.length := by omega
    have h2 : i < ys.length := by omega
    exact ⟨xs, ys, xs[i], ys[i], q.1, q.2, by simp [h1], by simp [h2]⟩
  · obtain ⟨T, x, z, h1, h2, h3, h4, h5⟩ := y
    exact ⟨T, x, z, h1, h2, h3, h4 xs q.1, h5 ys q.2⟩
/-- its weights -/
def St.wts : St → List Int
  | .toss rs => rs.map (·.1)
  | .again i j _ => [i, j]
  | _ => []
/-- the statement with other bodies -/
def St.put : St → List Bd → St
  | .again i j _, b :: _ => .again i j b
  | .choose _, bs => .choose bs
  | .toss rs, bs => .toss ((rs.map (·.1)).zip bs)
  | x, _ => x
section
variable {P : Program} {w : World} {K : PySem.W.Frag} {mg : Str → Option Value} {base : Heap}
def spWo (K : PySem.W.Frag) (n : Nat) : Sp := fun vs H Q _ => ∃ v x, vs = [v] ∧ StAt n H v x ∧ x.kids.length ≤ 90 ∧ ∀ a H', Same H H' → SqT K H' a (x.wts.map V.int) → Q (.ref a) H'
theorem ok_wo {f : Addr} {fd : FuncData} {n : Nat} (F : Fun K "weights_of" "weights_of" sWo f fd) (mT : mg "tuple" = none) : FnOk P w K mg base CX0 1 f fd ["statement"] (spWo K n) := by
  refine F.ok scWo (fun vs H Q E h => ?_) (fun cdv A outer s H vs Q E hr h => ?_)
  · obtain ⟨v, x, rfl, _⟩ := h
    rfl
  · obtain ⟨v, x, rfl, hv, few, q⟩ := h
    refine ⟨_, (pss_cons (ps_set (i := 1) scWo.nd rfl (Or.inl rfl) (pe_ix ix_tup (pv 0) pe_int (fun _ _ => rfl)))
      (pss_cons (ps_if (pt_cmpR op_eq (pv 1) pe_str (nomark _)) (pss_one (ps_ret (pe_callTy call_tuple_of (by rfl) mT (by decide +kernel) (pa_cons (pe_lc (X := (cxOf CX0 P w K mg base NWo "weights_of" (defScope sWo) f cdv A outer s H E).nox) (own := [("weight", 2), ("_", 3)]) (g := (gTup K 2 (gCons (gName 2) (gCons (gName 3) gNil)))) (tt := tYes) rfl scWo.nd (pi_tup (pe_slice sl_tupA (pv 0) (po_some pe_int) po_none)) (blkOk_by (N := NWo) (sc := defScope sWo) (by decide +kernel)) (fun _ _ _ _ _ => (pg_tupK (K := K) rfl rfl (pgs_cons (pg_name (i := 2) scWo.nd rfl (.inl rfl)) (pgs_cons (pg_name (i := 3) scWo.nd rfl (.inl rfl)) pgs_nil)))) (fun _ _ _ _ _ => pts_nil) (fun _ _ _ _ _ => (pv 2))) pa_nil)))) pss_nil)
      (pss_cons (ps_if (pt_cmpR op_eq (pv 1) pe_str (nomark _)) (pss_one (ps_ret (pe_slice sl_tupA (pv 0) (po_some pe_int) (po_some pe_int)))) pss_nil)
      (pss_one (ps_ret (pe_tup pa_nil)))))), ?_⟩
    obtain ⟨a, xs, rfl, ha⟩ := hv.head
    refine ⟨_, rfl, a, _, 0, _, rfl, rfl, SqT.of ha, atI_nat (j := 0) rfl, ?_⟩
    have emp : ∀ p, H p = none → Q (.ref p) (upd H p (.tup [])) → Q (.ref p) (upd H p (.tup [])) := fun _ _ z => z
    match x, hv, few, q with
    | .note z, ⟨_, e, _⟩, few, q => exact ⟨_, rfl, rfl, _, rfl, iteF ⟨_, rfl, rfl, _, rfl, iteF ⟨Nat.zero_le _, fun p hp => q p _ (same_new hp) (SqT.of upd_same)⟩⟩⟩
    | .call z, ⟨_, e, _⟩, few, q => exact ⟨_, rfl, rfl, _, rfl, iteF ⟨_, rfl, rfl, _, rfl, iteF ⟨Nat.zero_le _, fun p hp => q p _ (same_new hp) (SqT.of upd_same)⟩⟩⟩
    | .stay, ⟨_, e, _⟩, few, q => exact ⟨_, rfl, rfl, _, rfl, iteF ⟨_, rfl, rfl, _, rfl, iteF ⟨Nat.zero_le _, fun p hp => q p _ (same_new hp) (SqT.of upd_same)⟩⟩⟩
    | .choose bs, ⟨_, _, e, _⟩, few, q => exact ⟨_, rfl, rfl, _, rfl, iteF ⟨_, rfl, rfl, _, rfl, iteF ⟨Nat.zero_le _, fun p hp => q p _ (same_new hp) (SqT.of upd_same)⟩⟩⟩
    | .again i j b, ⟨a', w0, e, ha', g⟩, few, q =>
      cases e
      refine ⟨_, rfl, rfl, _, rfl, iteF ⟨_, rfl, rfl, _, rfl, iteT ?_⟩⟩
      refine ⟨_, rfl, _, rfl, _, rfl, a, _, rfl, SqT.of ha', fun z => ?_, fun _ p hp => ?_⟩
      · exact absurd z.1 (by show ¬ (HT.sIx 4 0 (some 1) = 0); decide)
      · exact q p _ (same_new hp) (SqT.of upd_same)
    | .toss rs, ⟨a', ws, e, ha', g⟩, few, q =>
      cases e
      obtain ⟨ec, ew⟩ := cut_tail (.str "toss") ws
      refine ⟨_, rfl, rfl, _, rfl, iteT ?_⟩
      refine ⟨_, rfl, _, rfl, a, _, rfl, SqT.of ha', fun z => (ew z).elim, fun _ p hp => ?_⟩
      rw [ec]
      have sp := same_new (o := .tup ws) hp
      have hp1 : upd H p (.tup ws) p = some (.tup ws) := upd_same
      have g1 := g.imp (R' := fun w0 r => ∃ p0 x, w0 = .ref p0 ∧ upd H p (.tup ws) p0 = some (.tup [.int r.1, x])) fun _ _ ⟨p0, x, e1, h1, z⟩ => ⟨p0, x, e1, sp _ _ h1⟩
      generalize upd H p (.tup ws) = H1 at sp hp1 g1 ⊢
      have lw : ws.length ≤ 90 := by rw [g1.1]; have : (rs.map fun r => r.2).length ≤ 90 := few; rw [List.length_map] at this; exact this
      refine ⟨p, rfl, ⟨_, SqT.of hp1⟩, fun D hD => ?_⟩
      refine lc_tup (xs := ws) (fun i Hc => Same H1 Hc ∧ Hc D = some (.lst (((rs.map (·.1)).take i).map V.int))) ⟨same_new hD, upd_same⟩ (fun i Hc _ p' => SqT.of (p'.1 _ _ hp1)) ?_ ?_
      · rintro i v Hc hvi ⟨sm, hDc⟩
        obtain ⟨r, hr, p0, x0, rfl, h0⟩ := g1.2 i v hvi
        have il := (List.getElem?_eq_some_iff.mp hvi).1
        refine ⟨p0, _, rfl, SqT.of (sm _ _ h0), rfl, _, _, rfl, _, _, rfl, rfl, rfl, ?_⟩
        refine ⟨_, rfl, _, hDc, small1000 (by rw [List.length_map, List.length_take]; omega), same_upd hD sm, ?_⟩
        have hr2 : (rs.map (·.1))[i]? = some r.1 := by rw [List.getElem?_map, hr]; rfl
        rw [take_snoc hr2, List.map_append]
        exact upd_same
      · rintro Hc ⟨sm, hDc⟩
        rw [List.take_of_length_le (by rw [List.length_map, g1.1]; exact Nat.le_refl _)] at hDc
        refine ⟨D, _, rfl, .inl ⟨SqL.of hDc, fun t ht => ?_⟩⟩
        exact q t _ ((sp.trans sm).trans (same_new ht)) (SqT.of upd_same)
/-- with_bodies -/
def spWb (K : PySem.W.Frag) (n m : Nat) : Sp := fun vs H Q _ => ∃ v x b ws bs, vs = [v, .ref b] ∧ StAt n H v x ∧ x.kids.length ≤ 90 ∧ SqT K H b ws ∧ AG (fun w c => BdAt m H w c) ws bs ∧ bs.length = x.kids.length ∧ ∀ u H', Same H H' → StAt m H' u (x.put bs) → Q u H'
theorem ok_wb {f : Addr} {fd : FuncData} {n m : Nat} (F : Fun K "with_bodies" "with_bodies" sWb f fd) (mT : mg "tuple" = none) (mz : mg "zip" = none) (gW : Glo P w K mg base "weights_of" 1 ["statement"] (spWo K n)) : FnOk P w K mg base CX0 2 f fd ["statement", "bodies"] (spWb K n m) := by
  refine F.ok scWb (fun vs H Q E h => ?_) (fun cdv A outer s H vs Q E hr h => ?_)
  · obtain ⟨v, x, b, ws, bs, rfl, _⟩ := h
    rfl
  · obtain ⟨v, x, b, ws, bs, rfl, hv, few, hb, hw, ln, q⟩ := h
    refine ⟨_, (pss_cons (ps_set (i := 2) scWb.nd rfl (Or.inl rfl) (pe_ix ix_tup (pv 0) pe_int (fun _ _ => rfl)))
      (pss_cons (ps_if (pt_cmpR op_eq (pv 2) pe_str (nomark _)) (pss_one (ps_ret (pe_op op_catA (pe_tup (pa_cons pe_str pa_nil)) (pe_callTy call_tuple_of (by rfl) mT (by decide +kernel) (pa_cons (pe_lc (X := (cxOf CX0 P w K mg base NWb "with_bodies" (defScope sWb) f cdv A outer s H E).nox) (own := [("weight", 3), ("body", 4)]) (g := (gTup K 2 (gCons (gName 3) (gCons (gName 4) gNil)))) (tt := tYes) rfl scWb.nd (pi_zipAK (K := K) rfl (by rfl) mz (pa_cons (pe_call gW.G (hr.mono (by decide)) (by rfl) gW.m gW.k gW.b .nil pass0 (pa_cons (pv 0) pa_nil)) (pa_cons (pv 1) pa_nil))) (blkOk_by (N := NWb) (sc := defScope sWb) (by decide +kernel)) (fun _ _ _ _ _ => (pg_tupK (K := K) rfl rfl (pgs_cons (pg_name (i := 3) scWb.nd rfl (.inl rfl)) (pgs_cons (pg_name (i := 4) scWb.nd rfl (.inl rfl)) pgs_nil)))) (fun _ _ _ _ _ => pts_nil) (fun _ _ _ _ _ => (pe_tup (pa_cons (pv 3) (pa_cons (pv 4) pa_nil))))) pa_nil))))) pss_nil)
      (pss_cons (ps_if (pt_cmpR op_eq (pv 2) pe_str (nomark _)) (pss_one (ps_ret (pe_op op_catA (pe_slice sl_tupA (pv 0) po_none (po_some pe_int)) (pv 1)))) pss_nil)
      (pss_cons (ps_if (pt_cmpR op_eq (pv 2) pe_str (nomark _)) (pss_one (ps_ret (pe_op op_catA (pe_tup (pa_cons pe_str pa_nil)) (pv 1)))) pss_nil)
      (pss_one (ps_ret (pv 0))))))), ?_⟩
    obtain ⟨a, xs, rfl, ha⟩ := hv.head
    refine ⟨_, rfl, a, _, 0, _, rfl, rfl, SqT.of ha, atI_nat (j := 0) rfl, ?_⟩
    have lw : ws.length = bs.length := hw.1
    have same0 := Same.refl H
    match x, hv, few, ln, q with
    | .note z, ⟨_, e, h⟩, few, ln, q => cases e; exact ⟨_, rfl, rfl, _, rfl, iteF ⟨_, rfl, rfl, _, rfl, iteF ⟨_, rfl, rfl, _, rfl, iteF ⟨_, rfl, q _ _ same0 ⟨a, rfl, h⟩⟩⟩⟩⟩
    | .call z, ⟨_, e, h⟩, few, ln, q => cases e; exact ⟨_, rfl, rfl, _, rfl, iteF ⟨_, rfl, rfl, _, rfl, iteF ⟨_, rfl, rfl, _, rfl, iteF ⟨_, rfl, q _ _ same0 ⟨a, rfl, h⟩⟩⟩⟩⟩
    | .stay, ⟨_, e, h⟩, few, ln, q => cases e; exact ⟨_, rfl, rfl, _, rfl, iteF ⟨_, rfl, rfl, _, rfl, iteF ⟨_, rfl, rfl, _, rfl, iteF ⟨_, rfl, q _ _ same0 ⟨a, rfl, h⟩⟩⟩⟩⟩
    | .again i j c, ⟨a', w0, e, ha', g⟩, few, ln, q =>
      cases e
      obtain ⟨c', rfl⟩ : ∃ c', bs = [c'] := List.length_eq_one_iff.mp ln
      obtain ⟨w', rfl⟩ : ∃ w', ws = [w'] := List.length_eq_one_iff.mp lw
      have gw := (AG.uncons hw).1
      refine ⟨_, rfl, rfl, _, rfl, iteF ⟨_, rfl, rfl, _, rfl, iteT ?_⟩⟩
      refine ⟨_, rfl, _, rfl, a, _, rfl, SqT.of ha', fun z => ?_, fun _ p hp => ?_⟩
      · exact absurd z.2 (by show ¬ (HT.sIx 4 4 (some 3) = 4); decide)
      · have sp := same_new (o := .tup [V.str "again", V.int i, V.int j]) hp
        have hp1 : upd H p (.tup [V.str "again", V.int i, V.int j]) p = some (.tup [V.str "again", V.int i, V.int j]) := upd_same
        show ∃ v, _
        refine ⟨_, rfl, p, b, [V.str "again", V.int i, V.int j], [w'], rfl, rfl, SqT.of hp1, (Tk.same sp).seqT hb, Nat.le_of_lt (small1000 (by show 3 + 1 ≤ 1000; decide)), fun z => absurd z (by simp), fun _ z => absurd z (by simp), fun _ _ t ht => ?_⟩
        have st := same_new (o := .tup ([V.str "again", V.int i, V.int j] ++ [w'])) ht
        exact q _ _ (sp.trans st) ⟨t, w', rfl, upd_same, (gw.same sp).same st⟩
    | .choose cs, ⟨a', us, e, ha', g⟩, few, ln, q =>
      cases e
      refine ⟨_, rfl, rfl, _, rfl, iteF ⟨_, rfl, rfl, _, rfl, iteF ⟨_, rfl, rfl, _, rfl, iteT ?_⟩⟩⟩
      refine ⟨small1000 (Nat.le_of_ble_eq_true rfl), fun p hp => ?_⟩
      have sp := same_new (o := .tup [V.str "choose"]) hp
      have hp1 : upd H p (.tup [V.str "choose"]) p = some (.tup [V.str "choose"]) := upd_same
      refine ⟨_, rfl, p, b, [V.str "choose"], ws, rfl, rfl, SqT.of hp1, (Tk.same sp).seqT hb, Nat.le_of_lt (small1000 (by show 1 + ws.length ≤ _; rw [lw, ln]; have : cs.length ≤ 90 := few; show 1 + cs.length ≤ _; omega)), fun z => absurd z (by simp), fun _ z => ?_, fun _ _ t ht => ?_⟩
      · subst z
        exact q _ _ sp ⟨p, [], rfl, hp1, by rw [show bs = [] from List.length_eq_zero_iff.mp lw.symm]; exact AG.nil⟩
      · have st := same_new (o := .tup ([V.str "choose"] ++ ws)) ht
        exact q _ _ (sp.trans st) ⟨t, ws, rfl, upd_same, hw.imp fun _ _ z => (z.same sp).same st⟩
    | .toss rs, ⟨a', us, e, ha', g⟩, few, ln, q =>
      cases e
      refine ⟨_, rfl, rfl, _, rfl, iteT ?_⟩
      refine ⟨small1000 (Nat.le_of_ble_eq_true rfl), fun p hp => ?_⟩
      have sp := same_new (o := .tup [V.str "toss"]) hp
      have hp1 : upd H p (.tup [V.str "toss"]) p = some (.tup [V.str "toss"]) := upd_same
      have hv1 := StAt.same (n := n) (x := .toss rs) ⟨a, us, rfl, ha', g⟩ sp
      have hb1 := (Tk.same sp).seqT hb
      have hw1 := hw.imp (R' := fun w c => BdAt m (upd H p (.tup [V.str "toss"])) w c) fun _ _ z => z.same sp
      generalize upd H p (.tup [V.str "toss"]) = H1 at sp hp1 hv1 hb1 hw1 ⊢
      have lr : rs.length = bs.length := by rw [ln]; show rs.length = (rs.map _).length; rw [List.length_map]
      have l90 : rs.length ≤ 90 := by have : (rs.map fun r => r.2).length ≤ 90 := few; rw [List.length_map] at this; exact this
      refine ⟨_, rfl, _, .toss rs, rfl, hv1, few, fun wa H2 s2 hwa => ?_⟩
      have hb2 := (Tk.same s2).seqT hb1
      refine ⟨_, rfl, wa, b, _, ws, rfl, .inr ⟨hwa, hb2, fun D hD => ?_⟩⟩
      refine lc_it (walk_zipT (xs := (St.wts (.toss rs)).map V.int) (ys := ws) (n := rs.length) (by rw [lw, ← lr]; show _ = min ((rs.map _).map _).length _; rw [List.length_map, List.length_map, Nat.min_self]))
        (fun i Hc => Same H2 Hc ∧ ∃ us, Hc D = some (.lst us) ∧ AG (fun u r => ∃ p x, u = .ref p ∧ Hc p = some (.tup [.int r.1, x]) ∧ BdAt m Hc x r.2) us (((rs.map (·.1)).zip bs).take i)) ⟨same_new hD, [], upd_same, AG.nil⟩ (fun i Hc _ z => ⟨(Tk.same z.1).seqT hwa, (Tk.same z.1).seqT hb2⟩) ?_ ?_
      · rintro i v' Hc H' hi ⟨sm, us, hDc, hu⟩ ⟨T, x, y, rfl, nT, rfl, hx, hy⟩
        obtain ⟨c, hc, gc⟩ := hw1.2 i y hy
        have hx : ((rs.map (·.1)).map V.int)[i]? = some x := hx
        have hr : (rs.map (·.1))[i]? = some (rs[i]'hi).1 := by rw [List.getElem?_map, List.getElem?_eq_getElem hi]; rfl
        rw [List.getElem?_map, hr] at hx
        have ex : V.int (rs[i]'hi).1 = x := Option.some.inj hx
        subst ex
        have sT : Same Hc (upd Hc T (.tup [V.int (rs[i]'hi).1, y])) := same_new nT
        have hT : upd Hc T (.tup [V.int (rs[i]'hi).1, y]) T = some (.tup [V.int (rs[i]'hi).1, y]) := upd_same
        refine ⟨T, _, rfl, SqT.of hT, rfl, _, _, rfl, _, _, rfl, rfl, rfl, ?_⟩
        have hDT := sT _ _ hDc
        have gT := ((gc.same s2).same sm).same sT
        have huT := hu.imp (R' := fun u r => ∃ p x, u = .ref p ∧ (upd Hc T (.tup [V.int (rs[i]'hi).1, y])) p = some (.tup [.int r.1, x]) ∧ BdAt m (upd Hc T (.tup [V.int (rs[i]'hi).1, y])) x r.2) fun _ _ ⟨p, x, e, h1, h2⟩ => ⟨p, x, e, sT _ _ h1, h2.same sT⟩
        have smT := sm.trans sT
        generalize upd Hc T (.tup [V.int (rs[i]'hi).1, y]) = HT at hDT gT huT smT ⊢
        refine ⟨_, rfl, _, rfl, small1000 (Nat.le_of_ble_eq_true rfl), fun p2 hp2 => ?_⟩
        have s3 := same_new (o := .tup [V.int (rs[i]'hi).1, y]) hp2
        have h3 : upd HT p2 (.tup [V.int (rs[i]'hi).1, y]) p2 = some (.tup [V.int (rs[i]'hi).1, y]) := upd_same
        have hD3 := s3 _ _ hDT
        have k9 : Tk (upd HT p2 (.tup [V.int (rs[i]'hi).1, y])) (upd (upd HT p2 (.tup [V.int (rs[i]'hi).1, y])) D (.lst (us ++ [V.ref p2]))) := Tk.upd hD3 (fun _ z => by cases z) (fun _ _ z => by cases z)
        refine ⟨us, hD3, small1000 (by rw [hu.1, List.length_take]; omega), same_upd hD (smT.trans s3), _, upd_same, ?_⟩
        have hz : ((rs.map (·.1)).zip bs)[i]? = some ((rs[i]'hi).1, c) := by
          rw [List.getElem?_zip_eq_some]
          exact ⟨hr, hc⟩
        rw [take_snoc hz]
        exact AG.snoc (huT.imp fun _ _ ⟨p, x, e, h1, h2⟩ => ⟨p, x, e, k9.1 _ _ (s3 _ _ h1), k9.bd (h2.same s3)⟩) ⟨p2, y, rfl, k9.1 _ _ h3, k9.bd (gT.same s3)⟩
      · rintro Hc ⟨sm, us, hDc, hu⟩
        rw [List.take_of_length_le (by rw [List.length_zip, List.length_map]; omega)] at hu
        refine ⟨D, _, rfl, .inl ⟨SqL.of hDc, fun t ht => ?_⟩⟩
        have st := same_new (o := .tup us) ht
        have ht1 : upd Hc t (.tup us) t = some (.tup us) := upd_same
        have hu1 := hu.imp (R' := fun u r => ∃ p x, u = .ref p ∧ (upd Hc t (.tup us)) p = some (.tup [.int r.1, x]) ∧ BdAt m (upd Hc t (.tup us)) x r.2) fun _ _ ⟨p, x, e, h1, h2⟩ => ⟨p, x, e, st _ _ h1, h2.same st⟩
        have pt := (s2.trans sm).trans st
        have hpt := pt _ _ hp1
        generalize upd Hc t (.tup us) = H5 at st ht1 hu1 pt hpt ⊢
        have lu : us.length ≤ 90 := by rw [hu1.1, List.length_zip, List.length_map]; omega
        refine ⟨p, t, [V.str "toss"], us, rfl, rfl, SqT.of hpt, SqT.of ht1, Nat.le_of_lt (small1000 (by show 1 + us.length ≤ _; omega)), fun z => absurd z (by simp), fun _ z => ?_, fun _ _ t2 ht2 => ?_⟩
        · subst z
          exact q _ _ (sp.trans pt) ⟨p, [], rfl, hpt, hu1⟩
        · have st2 := same_new (o := .tup ([V.str "toss"] ++ us)) ht2
          exact q _ _ ((sp.trans pt).trans st2) ⟨t2, us, rfl, upd_same, hu1.imp fun _ _ ⟨p, x, e, h1, h2⟩ => ⟨p, x, e, st2 _ _ h1, h2.same st2⟩⟩
end
theorem rd_same {H H' : Hp} {a : Addr} {o : HO} (h : Rd H a o) (s : Same H H') : Rd H' a o := h.elim (fun e => .inl (s _ _ e)) fun ⟨q, e⟩ => .inr ⟨q, s _ _ e⟩
section
variable {P : Program} {w : World} {K : PySem.W.Frag} {mg : Str → Option Value} {base : Heap}
theorem cnt_kid {n : Nat} {b : Bd} {s : St} (hs : s ∈ b) {k : Bd} (hk : k ∈ s.kids) : cnt n k ≤ cnt (n + 1) b := by
  have h1 := len_mem_sum (f := cnt n) hk
  have h2 := len_mem_sum (f := fun s : St => (s.kids.map (cnt n)).sum) hs
  have h2 : (s.kids.map (cnt n)).sum ≤ (b.map fun s => (s.kids.map (cnt n)).sum).sum := h2
  show _ ≤ b.length + _
  omega
end
end FR
set_option Elab.async false
set_option linter.all false
set_option maxRecDepth 100000
set_option maxHeartbeats 1000000
/-! bodies by places: what stands around a place, other statements there -/
namespace FR
open PySem PySem.Spec PyProof.Rows L2
/-- the body behind a way of (statement, body in it) -/
def atB : Bd → List (Nat × Nat) → Bd
  | b, [] => b
  | b, x :: r => atB ((b.getD x.1 .stay).kids.getD x.2 []) r
/-- the way leads somewhere -/
def InB : Bd → List (Nat × Nat) → Prop
  | _, [] => True
  | b, x :: r => x.1 < b.length ∧ x.2 < (b.getD x.1 .stay).kids.length ∧ InB ((b.getD x.1 .stay).kids.getD x.2 []) r
/-- a statement with another body in one place -/
def St.putAt : St → Nat → Bd → St
  | .again i j _, _, k => .again i j k
  | .choose bs, n, k => .choose (bs.set n k)
  | .toss rs, n, k => .toss (rs.set n ((rs.getD n (0, [])).1, k))
  | s, _, _ => s
/-- a body with another one behind a way -/
def wpB : Bd → List (Nat × Nat) → Bd → Bd
  | _, [], k => k
  | b, x :: r, k => b.set x.1 ((b.getD x.1 .stay).putAt x.2 (wpB ((b.getD x.1 .stay).kids.getD x.2 []) r k))
/-- other statements in the place of one -/
def oth (b : Bd) (i : Nat) (ss : Bd) : Bd := b.take i ++ ss ++ b.drop (i + 1)
def spl (b : Bd) (ps : List (Nat × Nat)) (i : Nat) (ss : Bd) : Bd := wpB b ps (oth (atB b ps) i ss)
def flat (ps : List (Nat × Nat)) : List Nat := ps.flatMap fun x => [x.1, x.2]
theorem set_map {α β : Type} (f : α → β) (x : α) : ∀ (l : List α) (n : Nat), (l.set n x).map f = (l.map f).set n (f x)
  | [], _ => rfl
  | _ :: _, 0 => rfl
  | a :: l, n + 1 => by
    show f a :: (l.set n x).map f = f a :: (l.map f).set n (f x)
    rw [set_map f x l n]
theorem kids_putAt {s : St} {n : Nat} {k : Bd} (h : n < s.kids.length) : (s.putAt n k).kids = s.kids.set n k := by
  match s, h with
  | .again i j b, h =>
    have h : n < 1 := h
    have : n = 0 := by omega
    subst this
    rfl
  | .choose bs, h => rfl
  | .toss rs, h =>
    show (rs.set n _).map (fun r => r.2) = (rs.map fun r => r.2).set n k
    rw [set_map]
theorem zip_self : ∀ rs : List (Int × Bd), (rs.map (·.1)).zip (rs.map (·.2)) = rs
  | [] => rfl
  | r :: rs => by
    show (r.1, r.2) :: (rs.map (·.1)).zip (rs.map (·.2)) = r :: rs
    rw [zip_self rs]
theorem zip_set {k : Bd} : ∀ (rs : List (Int × Bd)) (n : Nat), n < rs.length → (rs.map (·.1)).zip ((rs.map (·.2)).set n k) = rs.set n ((rs.getD n (0, [])).1, k)
  | [], _, h => absurd h (Nat.not_lt_zero _)
  | r :: rs, 0, _ => by
    show (r.1, k) :: (rs.map (·.1)).zip (rs.map (·.2)) = (r.1, k) :: rs
    rw [zip_self]
  | r :: rs, n + 1, h => by
    show (r.1, r.2) :: (rs.map (·.1)).zip ((rs.map (·.2)).set n k) = r :: rs.set n ((rs.getD n (0, [])).1, k)
    rw [zip_set rs n (by rw [List.length_cons] at h; omega)]
theorem put_putAt {s : St} {n : Nat} {k : Bd} (h : n < s.kids.length) : s.put (s.kids.set n k) = s.putAt n k := by
  match s, h with
  | .again i j b, h =>
    have h : n < 1 := h
    have : n = 0 := by omega
    subst this
    rfl
  | .choose bs, h => rfl
  | .toss rs, h =>
    show St.toss ((rs.map (·.1)).zip ((rs.map fun r => r.2).set n k)) = _
    have h : n < (rs.map fun r => r.2).length := h
    rw [List.length_map] at h
    rw [zip_set rs n h]
    rfl
/-- statements that all are so, in a body of so many levels -/
def Al (A : St → Prop) : Nat → Bd → Prop
  | 0, _ => False
  | n + 1, b => ∀ s ∈ b, A s ∧ ∀ k ∈ s.kids, Al A n k
theorem Al.up {A : St → Prop} : ∀ {n : Nat} {b : Bd}, Al A n b → Al A (n + 1) b
  | n + 1, b, h => fun s hs => ⟨(h s hs).1, fun k hk => Al.up ((h s hs).2 k hk)⟩
theorem Al.mono {A : St → Prop} {n m : Nat} {b : Bd} (h : Al A n b) (le : n ≤ m) : Al A m b := by
  induction le with
  | refl => exact h
  | step _ ih => exact ih.up
theorem Al.imp {A B : St → Prop} (f : ∀ s, A s → B s) : ∀ {n : Nat} {b : Bd}, Al A n b → Al B n b
  | n + 1, b, h => fun s hs => ⟨f s (h s hs).1, fun k hk => Al.imp f ((h s hs).2 k hk)⟩
/-- a right statement that calls none but these -/
def Ok1 (ns : List Str) (s : St) : Prop := okS s = true ∧ ∀ z, s = .call z → z ∈ ns
theorem ok_few {s : St} (h : okS s = true) : s.kids.length ≤ 4 := by
  match s, h with
  | .note _, _ => exact Nat.zero_le _
  | .call _, _ => exact Nat.zero_le _
  | .stay, _ => exact Nat.zero_le _
  | .again _ _ _, _ => exact (by decide : 1 ≤ 4)
  | .choose bs, h =>
    have h : (decide ((2 : Int) ≤ (bs.length : Nat)) && decide (((bs.length : Nat) : Int) ≤ 3)) = true := h
    rw [Bool.and_eq_true] at h
    have := of_decide_eq_true h.2
    show bs.length ≤ 4
    omega
  | .toss rs, h =>
    have h : ((decide ((2 : Int) ≤ (rs.length : Nat)) && decide (((rs.length : Nat) : Int) ≤ 4)) && rs.all fun r => wtB r.1) = true := h
    rw [Bool.and_eq_true, Bool.and_eq_true] at h
    have := of_decide_eq_true h.1.2
    show (rs.map _).length ≤ 4
    rw [List.length_map]
    omega
theorem al_gd {ns es : List Str} (hn : ∀ z ∈ ns, nameB z = true) : ∀ {n : Nat} {b : Bd}, GdB ns es n b → Al (Ok1 ns) n b
  | n + 1, b, ⟨_, g⟩ => fun s hs => ⟨⟨okS_gd hn (g s hs), fun z e => by have := g s hs; rw [e] at this; exact this⟩, fun k hk => al_gd hn ((g s hs).kids k hk)⟩
theorem al_okB {ns : List Str} : ∀ {n : Nat} {b : Bd}, Al (Ok1 ns) n b → okB n b
  | n + 1, b, h => fun s hs => ⟨(h s hs).1.1, fun k hk => al_okB ((h s hs).2 k hk)⟩
theorem al_few {ns : List Str} : ∀ {n : Nat} {b : Bd}, Al (Ok1 ns) n b → FewB n b
  | n + 1, b, h => fun s hs => ⟨by have := ok_few (h s hs).1.1; omega, fun k hk => al_few ((h s hs).2 k hk)⟩
theorem placed_al {A : St → Prop} : ∀ {n : Nat} {b : Bd} {p : List Nat}, Al A n b → ∀ y ∈ placed n b p, A y.2
  | n + 1, b, p, h, y, hy => by
    obtain ⟨z, hz, hy⟩ := List.mem_flatMap.mp (show y ∈ b.zipIdx.flatMap fun z => stP (placed n) z.1 (p ++ [z.2]) from hy)
    have gz := h _ (zip_mem hz)
    rcases List.mem_cons.mp hy with e | hy
    · rw [e]; exact gz.1
    · obtain ⟨u, hu, hy⟩ := List.mem_flatMap.mp (show y ∈ z.1.kids.zipIdx.flatMap fun u => placed n u.1 (p ++ [z.2] ++ [u.2]) from hy)
      exact placed_al (gz.2 _ (zip_mem hu)) y hy
theorem al_calls {ns : List Str} {b : Bd} (h : Al (Ok1 ns) 5 b) : ∀ z ∈ callsOf b, z ∈ ns := fun z hz => by
  obtain ⟨x, hx, rfl⟩ := List.mem_map.mp (show z ∈ (ofWord 5 b "call").map St.nm from hz)
  have wx := ofWord_mem hx
  unfold ofWord at hx
  obtain ⟨y, hy, rfl⟩ := List.mem_map.mp (List.mem_filter.mp hx).1
  have gy := placed_al h y hy
  revert wx gy
  generalize y.2 = s
  intro wx gy
  match s, wx, gy with
  | .call z, _, gy => exact gy.2 z rfl
  | .note _, h, _ => exact absurd h (by show ¬ (("note" : Str) = "call"); decide +kernel)
  | .stay, h, _ => exact absurd h (by decide +kernel)
  | .again _ _ _, h, _ => exact absurd h (by show ¬ (("again" : Str) = "call"); decide +kernel)
  | .choose _, h, _ => exact absurd h (by show ¬ (("choose" : Str) = "call"); decide +kernel)
  | .toss _, h, _ => exact absurd h (by show ¬ (("toss" : Str) = "call"); decide +kernel)
theorem getD_of {α : Type} {l : List α} {i : Nat} {d x : α} (h : l[i]? = some x) : l.getD i d = x := by
  rw [List.getD_eq_getElem?_getD, h]; rfl
theorem get_lt {α : Type} {l : List α} {i : Nat} (d : α) (h : i < l.length) : l[i]? = some (l.getD i d) := by
  rw [List.getElem?_eq_getElem h, List.getD_eq_getElem?_getD, List.getElem?_eq_getElem h]; rfl
theorem ok1_putAt {ns : List Str} {s : St} {n : Nat} {k : Bd} (h : Ok1 ns s) (hn : n < s.kids.length) : Ok1 ns (s.putAt n k) := by
  match s, h, hn with
  | .again i j b, h, _ => exact ⟨h.1, fun z e => by cases e⟩
  | .choose bs, h, _ =>
    refine ⟨?_, fun z e => by cases e⟩
    show (decide ((2 : Int) ≤ ((bs.set n k).length : Nat)) && decide ((((bs.set n k).length : Nat) : Int) ≤ 3)) = true
    rw [List.length_set]
    exact h.1
  | .toss rs, h, hn =>
    refine ⟨?_, fun z e => by cases e⟩
    show ((decide ((2 : Int) ≤ ((rs.set n ((rs.getD n (0, [])).1, k)).length : Nat)) && decide ((((rs.set n ((rs.getD n (0, [])).1, k)).length : Nat) : Int) ≤ 4)) && (rs.set n ((rs.getD n (0, [])).1, k)).all fun r => wtB r.1) = true
    have h0 : ((decide ((2 : Int) ≤ (rs.length : Nat)) && decide (((rs.length : Nat) : Int) ≤ 4)) && rs.all fun r => wtB r.1) = true := h.1
    rw [Bool.and_eq_true] at h0
    rw [List.length_set, Bool.and_eq_true]
    refine ⟨h0.1, List.all_eq_true.mpr fun r hr => ?_⟩
    have hl : n < rs.length := by
      have : n < (rs.map fun r => r.2).length := hn
      rwa [List.length_map] at this
    rcases List.mem_or_eq_of_mem_set hr with m | e
    · exact List.all_eq_true.mp h0.2 r m
    · rw [e]
      show wtB (rs.getD n (0, [])).1 = true
      exact List.all_eq_true.mp h0.2 _ (List.mem_of_getElem? (get_lt (0, []) hl))
theorem al_at {A : St → Prop} : ∀ {ps : List (Nat × Nat)} {n : Nat} {b : Bd}, Al A n b → InB b ps → Al A (n - ps.length) (atB b ps)
  | [], _, _, h, _ => h
  | x :: r, 0, _, h, _ => h.elim
  | x :: r, n + 1, b, h, ⟨h1, h2, h3⟩ => by
    have hs := h _ (List.mem_of_getElem? (get_lt .stay h1))
    have hk := hs.2 _ (List.mem_of_getElem? (get_lt [] h2))
    have := al_at hk h3
    rw [List.length_cons, Nat.add_sub_add_right]
    exact this
theorem al_way {A : St → Prop} {ps : List (Nat × Nat)} {n : Nat} {b : Bd} (h : Al A n b) (w : InB b ps) : ps.length < n := by
  have := al_at h w
  cases e : n - ps.length with
  | zero => rw [e] at this; exact this.elim
  | succ m => omega
theorem al_wp {ns : List Str} {m : Nat} {k : Bd} (hk : Al (Ok1 ns) m k) : ∀ {ps : List (Nat × Nat)} {n : Nat} {b : Bd}, Al (Ok1 ns) n b → InB b ps → m + ps.length ≤ n → Al (Ok1 ns) n (wpB b ps k)
  | [], _, _, _, _, le => hk.mono le
  | x :: r, 0, _, h, _, _ => h.elim
  | x :: r, n + 1, b, h, ⟨h1, h2, h3⟩, le => by
    have hs := h _ (List.mem_of_getElem? (get_lt .stay h1))
    have hkid := hs.2 _ (List.mem_of_getElem? (get_lt [] h2))
    have ih := al_wp hk hkid h3 (by rw [List.length_cons] at le; omega)
    intro s hs'
    rcases List.mem_or_eq_of_mem_set hs' with mm | e
    · exact h s mm
    · rw [e]
      refine ⟨ok1_putAt hs.1 h2, fun k' hk' => ?_⟩
      rw [kids_putAt h2] at hk'
      rcases List.mem_or_eq_of_mem_set hk' with mm | e
      · exact hs.2 k' mm
      · rw [e]; exact ih
theorem al_oth {A : St → Prop} : ∀ {n : Nat} {c ss : Bd} {i : Nat}, Al A n c → Al A n ss → Al A n (oth c i ss)
  | n + 1, c, ss, i, h, g => fun s hs => by
    rcases List.mem_append.mp hs with hs | hs
    · rcases List.mem_append.mp hs with hs | hs
      · exact h s (List.mem_of_mem_take hs)
      · exact g s hs
    · exact h s (List.mem_of_mem_drop hs)
/-- a sum over all statements -/
def ws (g : St → Nat) : Nat → Bd → Nat
  | 0, _ => 0
  | n + 1, b => (b.map fun s => g s + (s.kids.map (ws g n)).sum).sum
theorem cnt_ws : ∀ (n : Nat) (b : Bd), cnt n b = ws (fun _ => 1) n b
  | 0, _ => rfl
  | n + 1, b => by
    show b.length + (b.map fun s => (s.kids.map (cnt n)).sum).sum = (b.map fun s => 1 + (s.kids.map (ws (fun _ => 1) n)).sum).sum
    have e : (fun s : St => (s.kids.map (cnt n)).sum) = fun s => (s.kids.map (ws (fun _ => 1) n)).sum := funext fun s => by rw [List.map_congr_left fun k _ => cnt_ws n k]
    rw [e]
    induction b with
    | nil => rfl
    | cons s b ih =>
      rw [List.map_cons, List.sum_cons, List.length_cons, List.map_cons, List.sum_cons, ← ih]
      omega
theorem sum_le {α : Type} {f g : α → Nat} : ∀ {l : List α}, (∀ x ∈ l, f x ≤ g x) → (l.map f).sum ≤ (l.map g).sum
  | [], _ => Nat.le_refl _
  | x :: l, h => by
    have h1 := h x List.mem_cons_self
    have h2 := sum_le (f := f) (g := g) fun y m => h y (List.mem_cons_of_mem _ m)
    rw [List.map_cons, List.map_cons, List.sum_cons, List.sum_cons]
    omega
theorem sum_set {α : Type} (f : α → Nat) (x d : α) : ∀ (l : List α) (i : Nat), i < l.length → ((l.set i x).map f).sum + f (l.getD i d) = (l.map f).sum + f x
  | [], _, h => absurd h (Nat.not_lt_zero _)
  | a :: l, 0, _ => by
    show (f x + (l.map f).sum) + f a = (f a + (l.map f).sum) + f x
    omega
  | a :: l, i + 1, h => by
    have := sum_set f x d l i (by rw [List.length_cons] at h; omega)
    show (f a + ((l.set i x).map f).sum) + f (l.getD i d) = (f a + (l.map f).sum) + f x
    omega
theorem sum_get {α : Type} (f : α → Nat) (d : α) : ∀ (l : List α) (i : Nat), i < l.length → f (l.getD i d) ≤ (l.map f).sum
  | [], _, h => absurd h (Nat.not_lt_zero _)
  | a :: l, 0, _ => by
    show f a ≤ f a + (l.map f).sum
    omega
  | a :: l, i + 1, h => by
    have := sum_get f d l i (by rw [List.length_cons] at h; omega)
    show f (l.getD i d) ≤ f a + (l.map f).sum
    omega
theorem ws_up (g : St → Nat) : ∀ (n : Nat) (b : Bd), ws g n b ≤ ws g (n + 1) b
  | 0, _ => Nat.zero_le _
  | n + 1, b => sum_le fun s _ => Nat.add_le_add_left (sum_le fun k _ => ws_up g n k) _
theorem ws_mono (g : St → Nat) {n m : Nat} (b : Bd) (le : n ≤ m) : ws g n b ≤ ws g m b := by
  induction le with
  | refl => exact Nat.le_refl _
  | step _ ih => exact Nat.le_trans ih (ws_up g _ b)
theorem ws_at (g : St → Nat) : ∀ {ps : List (Nat × Nat)} {n : Nat} {b : Bd}, InB b ps → ps.length ≤ n → ws g (n - ps.length) (atB b ps) ≤ ws g n b
  | [], _, _, _, _ => Nat.le_refl _
  | x :: r, 0, _, _, le => absurd le (Nat.not_succ_le_zero _)
  | x :: r, n + 1, b, ⟨h1, h2, h3⟩, le => by
    rw [List.length_cons] at le
    have ih := ws_at g (n := n) h3 (by omega)
    rw [List.length_cons, Nat.add_sub_add_right]
    have a := sum_get (ws g n) [] (b.getD x.1 .stay).kids x.2 h2
    have c := sum_get (fun s : St => g s + (s.kids.map (ws g n)).sum) .stay b x.1 h1
    show ws g (n - r.length) (atB _ r) ≤ (b.map fun s => g s + (s.kids.map (ws g n)).sum).sum
    have c : g (b.getD x.1 .stay) + ((b.getD x.1 .stay).kids.map (ws g n)).sum ≤ (b.map fun s => g s + (s.kids.map (ws g n)).sum).sum := c
    omega
theorem ws_wp (g : St → Nat) (hg : ∀ s n k, n < s.kids.length → g (s.putAt n k) = g s) {k : Bd} : ∀ {ps : List (Nat × Nat)} {n : Nat} {b : Bd}, InB b ps → ps.length ≤ n → ws g n (wpB b ps k) ≤ ws g n b + ws g (n - ps.length) k
  | [], _, _, _, _ => Nat.le_add_left _ _
  | x :: r, 0, _, _, le => absurd le (Nat.not_succ_le_zero _)
  | x :: r, n + 1, b, ⟨h1, h2, h3⟩, le => by
    rw [List.length_cons] at le
    have ih := ws_wp g hg (k := k) (n := n) h3 (by omega)
    rw [List.length_cons, Nat.add_sub_add_right]
    show ((b.set x.1 ((b.getD x.1 .stay).putAt x.2 (wpB ((b.getD x.1 .stay).kids.getD x.2 []) r k))).map fun s => g s + (s.kids.map (ws g n)).sum).sum ≤ (b.map fun s => g s + (s.kids.map (ws g n)).sum).sum + _
    have c := sum_set (fun s : St => g s + (s.kids.map (ws g n)).sum) ((b.getD x.1 .stay).putAt x.2 (wpB ((b.getD x.1 .stay).kids.getD x.2 []) r k)) .stay b x.1 h1
    have c : _ + (g (b.getD x.1 .stay) + ((b.getD x.1 .stay).kids.map (ws g n)).sum) = _ + (g ((b.getD x.1 .stay).putAt x.2 (wpB ((b.getD x.1 .stay).kids.getD x.2 []) r k)) + (((b.getD x.1 .stay).putAt x.2 (wpB ((b.getD x.1 .stay).kids.getD x.2 []) r k)).kids.map (ws g n)).sum) := c
    rw [hg _ _ _ h2, kids_putAt h2] at c
    have d := sum_set (ws g n) (wpB ((b.getD x.1 .stay).kids.getD x.2 []) r k) [] (b.getD x.1 .stay).kids x.2 h2
    omega
theorem ws_oth (g : St → Nat) : ∀ (n : Nat) (c ss : Bd) (i : Nat), ws g n (oth c i ss) ≤ ws g n c + ws g n ss
  | 0, _, _, _ => Nat.zero_le _
  | n + 1, c, ss, i => by
    show ((c.take i ++ ss ++ c.drop (i + 1)).map fun s => g s + (s.kids.map (ws g n)).sum).sum ≤ (c.map fun s => g s + (s.kids.map (ws g n)).sum).sum + _
    have a : ∀ f : St → Nat, (c.map f).sum = ((c.take i).map f).sum + ((c.drop i).map f).sum := fun f => by rw [← List.sum_append, ← List.map_append, List.take_append_drop]
    have d : ∀ f : St → Nat, ((c.drop (i + 1)).map f).sum ≤ ((c.drop i).map f).sum := fun f => by
      rw [← List.drop_drop]
      cases c.drop i with
      | nil => exact Nat.le_refl _
      | cons y l => show (l.map f).sum ≤ f y + (l.map f).sum; omega
    rw [List.map_append, List.map_append, List.sum_append, List.sum_append, a]
    have := d fun s => g s + (s.kids.map (ws g n)).sum
    show _ ≤ _ + (ss.map fun s => g s + (s.kids.map (ws g n)).sum).sum
    omega
theorem spl_ws (g : St → Nat) (hg : ∀ s n k, n < s.kids.length → g (s.putAt n k) = g s) {ps : List (Nat × Nat)} {n i : Nat} {b ss : Bd} (h : InB b ps) (le : ps.length ≤ n) : ws g n (spl b ps i ss) ≤ 2 * ws g n b + ws g n ss := by
  have a := ws_wp g hg (k := oth (atB b ps) i ss) h le
  have c := ws_oth g (n - ps.length) (atB b ps) ss i
  have d := ws_at g h le
  have e := ws_mono g ss (show n - ps.length ≤ n by omega)
  unfold spl
  omega
/-- a place of a body is a way and a number -/
theorem placed_way : ∀ {n : Nat} {b : Bd} {p : List Nat} {y : PL1}, y ∈ placed n b p → ∃ ps i, y.1 = p ++ (flat ps ++ [i]) ∧ InB b ps ∧ (atB b ps)[i]? = some y.2
  | n + 1, b, p, y, hy => by
    obtain ⟨z, hz, hy⟩ := List.mem_flatMap.mp (show y ∈ b.zipIdx.flatMap fun z => stP (placed n) z.1 (p ++ [z.2]) from hy)
    have idx : ∀ {α : Type} {l : List α} {z : α × Nat}, z ∈ l.zipIdx → l[z.2]? = some z.1 := fun {α l z} h => by
      obtain ⟨i, hi⟩ := List.getElem?_of_mem h
      rw [List.getElem?_zipIdx] at hi
      cases e : l[i]? with
      | none => rw [e] at hi; cases hi
      | some x =>
        rw [e] at hi
        cases hi
        show l[0 + i]? = _
        rw [Nat.zero_add]
        exact e
    have hz' := idx hz
    rcases List.mem_cons.mp hy with e | hy
    · rw [e]
      exact ⟨[], z.2, rfl, trivial, hz'⟩
    · obtain ⟨u, hu, hy⟩ := List.mem_flatMap.mp (show y ∈ z.1.kids.zipIdx.flatMap fun u => placed n u.1 (p ++ [z.2] ++ [u.2]) from hy)
      obtain ⟨ps, i, e1, e2, e3⟩ := placed_way hy
      have hu' := idx hu
      have k1 : b.getD z.2 .stay = z.1 := getD_of hz'
      have k2 : z.1.kids.getD u.2 [] = u.1 := getD_of hu'
      refine ⟨(z.2, u.2) :: ps, i, ?_, ⟨(List.getElem?_eq_some_iff.mp hz').1, ?_, ?_⟩, ?_⟩
      · rw [e1]
        show _ = p ++ ((z.2 :: u.2 :: flat ps) ++ [i])
        simp
      · show u.2 < (b.getD z.2 .stay).kids.length
        rw [k1]
        exact (List.getElem?_eq_some_iff.mp hu').1
      · show InB ((b.getD z.2 .stay).kids.getD u.2 []) ps
        rw [k1, k2]
        exact e2
      · show (atB ((b.getD z.2 .stay).kids.getD u.2 []) ps)[i]? = _
        rw [k1, k2]
        exact e3
end FR
set_option Elab.async false
set_option linter.all false
namespace FR
/-! ### the least form, as mathematics -/
open PySem PySem.Spec PyProof.Rows L2
/-- what both are divided by -/
def dv (t b : Int) : Int := if b < 0 then -((Nat.gcd t.natAbs b.natAbs : Nat) : Int) else ((Nat.gcd t.natAbs b.natAbs : Nat) : Int)
def nT (t b : Int) : Int := t.fdiv (dv t b)
def nB (t b : Int) : Int := b.fdiv (dv t b)
theorem dv_ne {t b : Int} (h : b ≠ 0) : dv t b ≠ 0 := by
  have z : 0 < Nat.gcd t.natAbs b.natAbs := Nat.gcd_pos_of_pos_right _ (by omega)
  unfold dv
  split <;> omega
theorem dv_le {t b : Int} (h : b ≠ 0) : (dv t b).natAbs ≤ b.natAbs := by
  have z : Nat.gcd t.natAbs b.natAbs ≤ b.natAbs := Nat.gcd_le_right _ (by omega)
  unfold dv
  split <;> omega
/-! ### divisions by great numbers of both signs -/
def CDivX (_ j : Int) : Prop := j ≠ 0 ∧ j.natAbs.log2 < 9000
theorem op_fdivX {X : Cx} : OpR X (binaryOp .FloorDiv) (rI CDivX fun i j => .int (i.fdiv j)) := opI fun i j _ _ _ _ _ hc q => floordiv_int hc.1 q (.inl (PyProof.noPylong_of_log2 hc.2))
theorem dv8 {t b : Int} (h : b ≠ 0) (hb : b.natAbs < 2 ^ 8000) : (dv t b).natAbs < 2 ^ 8000 := Nat.lt_of_le_of_lt (dv_le h) hb
theorem div_ok {i j : Int} {n : Nat} (h : j ≠ 0) (hb : j.natAbs < 2 ^ n) (h0 : 0 < n) (h9 : n ≤ 9000) : CDivX i j := ⟨h, Nat.lt_of_lt_of_le (PySem.Flt.log2_lt_of h0 hb) h9⟩
theorem dv_dvd_t {t b : Int} (h : b ≠ 0) : dv t b ∣ t := by
  have z : ((Nat.gcd t.natAbs b.natAbs : Nat) : Int) ∣ t := Int.ofNat_dvd_left.mpr (Nat.gcd_dvd_left _ _)
  unfold dv
  split
  · exact Int.neg_dvd.mpr z
  · exact z
theorem dv_dvd_b {t b : Int} (h : b ≠ 0) : dv t b ∣ b := by
  have z : ((Nat.gcd t.natAbs b.natAbs : Nat) : Int) ∣ b := Int.ofNat_dvd_left.mpr (Nat.gcd_dvd_right _ _)
  unfold dv
  split
  · exact Int.neg_dvd.mpr z
  · exact z
theorem nT_mul {t b : Int} (h : b ≠ 0) : nT t b * dv t b = t := Int.fdiv_mul_cancel (dv_dvd_t h)
theorem nB_mul {t b : Int} (h : b ≠ 0) : nB t b * dv t b = b := Int.fdiv_mul_cancel (dv_dvd_b h)
theorem dv_sign {t b : Int} (h : b ≠ 0) : (0 < b → 0 < dv t b) ∧ (b < 0 → dv t b < 0) := by
  have z : 0 < Nat.gcd t.natAbs b.natAbs := Nat.gcd_pos_of_pos_right _ (by omega)
  unfold dv
  constructor
  · intro q
    rw [if_neg (by omega)]
    omega
  · intro q
    rw [if_pos q]
    omega
theorem nB_pos {t b : Int} (h : b ≠ 0) : 0 < nB t b := by
  have e := nB_mul (t := t) h
  obtain ⟨s1, s2⟩ := dv_sign (t := t) h
  rcases Int.lt_or_gt_of_ne h with q | q
  · have d := s2 q
    refine Int.not_le.mp fun c => ?_
    have := Int.mul_nonneg_of_nonpos_of_nonpos c (Int.le_of_lt d)
    omega
  · have d := s1 q
    refine Int.not_le.mp fun c => ?_
    have := Int.mul_nonpos_of_nonpos_of_nonneg c (Int.le_of_lt d)
    omega
/-- two forms of a fraction with bottoms above 0 and no common divisor are the same -/
theorem nT_le {t b : Int} (h : b ≠ 0) : (nT t b).natAbs ≤ t.natAbs := by
  have e := congrArg Int.natAbs (nT_mul (t := t) h)
  rw [Int.natAbs_mul] at e
  have z : 0 < (dv t b).natAbs := Int.natAbs_pos.mpr (dv_ne h)
  rw [← e]
  exact Nat.le_mul_of_pos_right _ z
theorem nB_le {t b : Int} (h : b ≠ 0) : (nB t b).natAbs ≤ b.natAbs := by
  have e := congrArg Int.natAbs (nB_mul (t := t) h)
  rw [Int.natAbs_mul] at e
  have z : 0 < (dv t b).natAbs := Int.natAbs_pos.mpr (dv_ne h)
  rw [← e]
  exact Nat.le_mul_of_pos_right _ z
theorem dv_scale {t b k : Int} (hk : 0 < k) : dv (k * t) (k * b) = k * dv t b := by
  have g : Nat.gcd (k * t).natAbs (k * b).natAbs = k.natAbs * Nat.gcd t.natAbs b.natAbs := by
    rw [Int.natAbs_mul, Int.natAbs_mul, Nat.gcd_mul_left]
  have kk : ((k.natAbs : Nat) : Int) = k := by omega
  have hb : k * b < 0 ↔ b < 0 := by
    constructor
    · intro q
      refine Int.not_le.mp fun c => ?_
      have := Int.mul_nonneg (Int.le_of_lt hk) c
      omega
    · intro q
      exact Int.mul_neg_of_pos_of_neg hk q
  unfold dv
  rw [g, Int.natCast_mul, kk]
  by_cases q : b < 0
  · rw [if_pos q, if_pos (hb.mpr q), Int.mul_neg]
  · rw [if_neg q, if_neg fun z => q (hb.mp z)]
theorem nT_scale {t b k : Int} (hk : 0 < k) : nT (k * t) (k * b) = nT t b := by
  unfold nT
  rw [dv_scale hk]
  exact Int.mul_fdiv_mul_of_pos _ _ hk
theorem nB_scale {t b k : Int} (hk : 0 < k) : nB (k * t) (k * b) = nB t b := by
  unfold nB
  rw [dv_scale hk]
  exact Int.mul_fdiv_mul_of_pos _ _ hk
theorem dv_neg {t b : Int} (h : b ≠ 0) : dv (-t) (-b) = -dv t b := by
  unfold dv
  rw [Int.natAbs_neg, Int.natAbs_neg]
  by_cases q : b < 0
  · rw [if_pos q, if_neg (by omega), Int.neg_neg]
  · rw [if_neg q, if_pos (by omega)]
theorem nT_neg {t b : Int} (h : b ≠ 0) : nT (-t) (-b) = nT t b := by
  unfold nT
  rw [dv_neg h, Int.neg_fdiv_neg]
theorem nB_neg {t b : Int} (h : b ≠ 0) : nB (-t) (-b) = nB t b := by
  unfold nB
  rw [dv_neg h, Int.neg_fdiv_neg]
theorem n_gcd {t b : Int} (h : b ≠ 0) : Nat.gcd (nT t b).natAbs (nB t b).natAbs = 1 := by
  have e1 := congrArg Int.natAbs (nT_mul (t := t) h)
  have e2 := congrArg Int.natAbs (nB_mul (t := t) h)
  rw [Int.natAbs_mul] at e1 e2
  have ed : (dv t b).natAbs = Nat.gcd t.natAbs b.natAbs := by
    unfold dv
    split <;> omega
  have g : Nat.gcd t.natAbs b.natAbs = Nat.gcd (nT t b).natAbs (nB t b).natAbs * (dv t b).natAbs := by
    rw [← Nat.gcd_mul_right, e1, e2]
  have z : 0 < (dv t b).natAbs := Int.natAbs_pos.mpr (dv_ne h)
  rw [ed] at g z
  exact Nat.eq_of_mul_eq_mul_right z (by rw [Nat.one_mul]; exact g.symm)
theorem dv_n {t b : Int} (h : b ≠ 0) : dv (nT t b) (nB t b) = 1 := by
  have p := nB_pos (t := t) h
  unfold dv
  rw [if_neg (by omega), n_gcd h]
  rfl
theorem nT_n {t b : Int} (h : b ≠ 0) : nT (nT t b) (nB t b) = nT t b := by
  show (nT t b).fdiv (dv (nT t b) (nB t b)) = _
  rw [dv_n h, Int.fdiv_one]
theorem nB_n {t b : Int} (h : b ≠ 0) : nB (nT t b) (nB t b) = nB t b := by
  show (nB t b).fdiv (dv (nT t b) (nB t b)) = _
  rw [dv_n h, Int.fdiv_one]
theorem n_int {t b n : Int} (h : b ≠ 0) : (nB t b = 1 ∧ nT t b = n) ↔ n * b = t := by
  constructor
  · rintro ⟨e1, e2⟩
    have m1 := nT_mul (t := t) h
    have m2 := nB_mul (t := t) h
    rw [e2] at m1
    rw [e1, Int.one_mul] at m2
    rw [m2] at m1
    exact m1
  · intro e
    have d : dv t b = b := by
      have hn : Nat.gcd t.natAbs b.natAbs = b.natAbs := by
        rw [← e, Int.natAbs_mul]
        exact Nat.gcd_mul_left_left _ _
      unfold dv
      rw [hn]
      split <;> omega
    unfold nB nT
    rw [d]
    refine ⟨Int.fdiv_self h, ?_⟩
    rw [← e, Int.mul_fdiv_cancel _ h]
def Sz (t b : Int) : Prop := t.natAbs < 2 ^ 3000 ∧ b.natAbs < 2 ^ 3000 ∧ b ≠ 0
theorem Sz.mul {t b t' b' : Int} (h : Sz t b) (h' : Sz t' b') : CMulW t t' ∧ CMulW t b' ∧ CMulW t' b ∧ CMulW b b' ∧ (b * b').natAbs < 2 ^ 8000 ∧ b * b' ≠ 0 := by
  obtain ⟨h1, h2, h3⟩ := h
  obtain ⟨g1, g2, g3⟩ := h'
  refine ⟨wide_mul h1 g1 (by decide) (by decide) (by decide), wide_mul h1 g2 (by decide) (by decide) (by decide), wide_mul g1 h2 (by decide) (by decide) (by decide), wide_mul h2 g2 (by decide) (by decide) (by decide), ?_, Int.mul_ne_zero h3 g3⟩
  exact Nat.lt_of_lt_of_le (wide_lt h2 g2) (Nat.pow_le_pow_right (by decide) (by decide))
abbrev PI := Int × Int
def plusP (a c : PI) : PI := (nT (a.1 * c.2 + c.1 * a.2) (a.2 * c.2), nB (a.1 * c.2 + c.1 * a.2) (a.2 * c.2))
end FR
set_option Elab.async false
set_option linter.all false
set_option maxRecDepth 100000
set_option maxHeartbeats 4000000
namespace FR
open PySem PySem.Spec PyProof.Rows L2 LD
section
variable {P : Program} {w : World} {K : PySem.W.Frag} {mg : Str → Option Value} {base : Heap}
/-! ### _law_gcd -/
abbrev sGcd : Stmt := FR.top 58
theorem scGcd : FnScope ["_law_one", "_law_two"] ["_law_one", "_law_two"] (defScope sGcd) := ⟨rfl, rfl, rfl, by decide +kernel, rfl, by decide +kernel, by decide +kernel⟩
def spGcd : Sp := fun vs H Q _ => ∃ a b : Nat, vs = [.int a, .int b] ∧ Q (.int (Nat.gcd a b : Nat)) H
theorem ok_gcd {f : Addr} {fd : FuncData} (F : Fun K "_law_gcd" "_law_gcd" sGcd f fd) (mI : mg "int" = none) : FnOk P w K mg base CX0 1 f fd ["_law_one", "_law_two"] spGcd := by
  refine F.ok scGcd (fun vs H Q E h => ?_) (fun cdv A outer s H vs Q E hr h => ?_)
  · obtain ⟨a, b, rfl, _⟩ := h
    rfl
  · obtain ⟨a, b, rfl, q⟩ := h
    refine ⟨_, pss_cons (ps_while PassesOwn.never (pt_cmpR op_gt (pv 1) pe_int (nomark _)) (pss_one (ps_par (i := 0) (j := 1) (by rfl) scGcd.nd rfl rfl (by decide) rfl rfl (pa_cons (pv 1) (pa_cons (pe_op op_modN (pe_callTy call_int1 (by rfl) mI (by decide +kernel) (pa_cons (pv 0) pa_nil)) (pv 1)) pa_nil)) (by rfl))))
      (pss_one (ps_ret (pv 0))), ?_⟩
    refine while_by (fun σ Hc => Hc = H ∧ ∃ x y : Nat, σ = [some (.int x), some (.int y)] ∧ Nat.gcd x y = Nat.gcd a b) (fun σ _ => match σ with | [_, some (.int y)] => y.toNat | _ => 0) ⟨rfl, a, b, rfl, rfl⟩ ?_ ?_
    · rintro σ Hc ⟨rfl, x, y, rfl, g⟩
      refine ⟨_, rfl, _, _, rfl, rfl, _, rfl, ite2 (fun z => ?_) (fun z => ?_)⟩
      · have hy : 0 < y := by have := of_decide_eq_true z; omega
        have e : (x : Int).fmod (y : Int) = ((x % y : Nat) : Int) := by rw [Int.fmod_eq_emod_of_nonneg _ (by omega)]; rfl
        have hn : (y : Int) ≠ 0 := by omega
        refine ⟨_, rfl, _, rfl, .inl ⟨_, rfl, ?_⟩⟩
        refine ⟨_, rfl, _, _, rfl, rfl, hn, ?_⟩
        refine ⟨_, _, rfl, ?_⟩
        refine ⟨⟨rfl, y, x % y, by rw [← e]; rfl, ?_⟩, ?_⟩
        · rw [← g, Nat.gcd_comm x y, Nat.gcd_rec y x, Nat.gcd_comm]
        · show ((x : Int).fmod (y : Int)).toNat < (y : Int).toNat
          rw [e]
          have := Nat.mod_lt x hy
          omega
      · have hy : y = 0 := by
          have : ¬ (0 : Int) < y := fun c => z (decide_eq_true c)
          omega
        subst hy
        rw [Nat.gcd_zero_right] at g
        refine ⟨_, rfl, ?_⟩
        subst g
        exact q
    · rintro σ Hc R R' im ⟨v, e1, i, j, e2, e3, k, e4, c⟩
      exact ⟨v, e1, i, j, e2, e3, k, e4, im _ _ c⟩
/-! ### _law_ratio, _law_pair, _law_told -/
abbrev sRat : Stmt := FR.top 59
theorem scRat : FnScope ["_law_top", "_law_bottom", "_law_part"] ["_law_top", "_law_bottom"] (defScope sRat) := ⟨rfl, rfl, rfl, by decide +kernel, rfl, by decide +kernel, by decide +kernel⟩
def spRat : Sp := fun vs H Q _ => ∃ t b : Int, vs = [.int t, .int b] ∧ 0 < b ∧ b.natAbs < 2 ^ 8000 ∧ ∀ p, H p = none → Q (.ref p) (upd H p (.tup [.int (nT t b), .int (nB t b)]))
theorem abs_nat (t : Int) : (if t < 0 then -t else t) = ((t.natAbs : Nat) : Int) := by split <;> omega
theorem ok_rat {f fG : Addr} {fd fdG : FuncData} (F : Fun K "_law_ratio" "_law_ratio" sRat f fd) (GG : FnOk P w K mg base CX0 1 fG fdG ["_law_one", "_law_two"] spGcd) (mG : mg "_law_gcd" = some (.ref fG))
    (kG : PySem.W.keepIn K (.ref fG) = true) (bG : Binds K fdG ["_law_one", "_law_two"] []) (ma : mg "abs" = none) : FnOk P w K mg base CX0 2 f fd ["_law_top", "_law_bottom"] spRat := by
  refine F.ok scRat (fun vs H Q E h => ?_) (fun cdv A outer s H vs Q E hr h => ?_)
  · obtain ⟨t, b, rfl, _⟩ := h
    rfl
  · obtain ⟨t, b, rfl, hb, hz, q⟩ := h
    refine ⟨_, pss_cons (ps_set (i := 2) scRat.nd rfl (Or.inl rfl) (pe_call GG hr (by rfl) mG kG bG .nil pass0 (pa_cons (pe_callB call_abs (by rfl) ma (by decide +kernel) (pa_cons (pv 0) pa_nil)) (pa_cons (pv 1) pa_nil))))
      (pss_one (ps_ret (pe_tup (pa_cons (pe_op op_fdivX (pv 0) (pv 2)) (pa_cons (pe_op op_fdivX (pv 1) (pv 2)) pa_nil))))), ?_⟩
    have ed : dv t b = ((Nat.gcd t.natAbs b.natAbs : Nat) : Int) := if_neg (by omega)
    have hb0 : b ≠ 0 := by omega
    have dz : ∀ i : Int, CDivX i ((Nat.gcd t.natAbs b.natAbs : Nat) : Int) := fun i => by
      rw [← ed]
      exact div_ok (dv_ne hb0) (Nat.lt_of_le_of_lt (dv_le hb0) hz) (by decide) (by decide)
    have eb : V.int b = V.int ((b.natAbs : Nat) : Int) := by rw [show ((b.natAbs : Nat) : Int) = b by omega]
    refine ⟨_, rfl, _, rfl, _, rfl, t.natAbs, b.natAbs, by rw [abs_nat, eb]; rfl, ?_⟩
    refine ⟨_, rfl, _, rfl, _, _, rfl, rfl, dz _, _, rfl, _, rfl, _, _, rfl, rfl, dz _, small1000 (by show 1 ≤ 1000; decide), fun p hp => ?_⟩
    have e := q p hp
    unfold nT nB at e
    rw [ed] at e
    exact e
variable {C fI pT gT pB gB : Addr} {fdI fdT fdB : FuncData}
end
end FR
set_option Elab.async false
set_option linter.all false
set_option maxRecDepth 100000
set_option maxHeartbeats 4000000
namespace FR
open PySem PySem.Spec PyProof.Rows L2 LD
/-! ### the law's own sums, products, less, powers -/
/-- a pair of integers stands at a -/
def TA (H : Hp) (a : Addr) (p : PI) : Prop := H a = some (.tup [.int p.1, .int p.2])
/-- short, with a bottom above 0 -/
structure Pp (p : PI) : Prop where
  b0 : 0 < p.2
  tz : p.1.natAbs < 2 ^ 3000
  bz : p.2.natAbs < 2 ^ 3000
theorem Pp.sz {p : PI} (h : Pp p) : Sz p.1 p.2 := ⟨h.tz, h.bz, by have := h.b0; omega⟩
def spLP (g : PI → PI → PI) : Sp := fun vs H Q _ => ∃ (a c : Addr) (p r : PI), vs = [.ref a, .ref c] ∧ TA H a p ∧ TA H c r ∧ Pp p ∧ Pp r ∧ ∀ x, H x = none → Q (.ref x) (upd H x (.tup [.int (g p r).1, .int (g p r).2]))
def byP (a c : PI) : PI := (nT (a.1 * c.1) (a.2 * c.2), nB (a.1 * c.1) (a.2 * c.2))
section
variable {P : Program} {w : World} {K : PySem.W.Frag} {mg : Str → Option Value} {base : Heap} {C fI pT gT pB gB : Addr} {fdI fdT fdB : FuncData}
abbrev sPlus : Stmt := FR.top 60
abbrev N12 : List Str := ["_law_one", "_law_two"]
theorem scPl : FnScope N12 N12 (defScope sPlus) := ⟨rfl, rfl, rfl, by decide +kernel, rfl, by decide +kernel, by decide +kernel⟩
theorem ok_plus {f : Addr} {fd : FuncData} (F : Fun K "_law_plus" "_law_plus" sPlus f fd) (gR : Glo P w K mg base "_law_ratio" 2 ["_law_top", "_law_bottom"] spRat) : FnOk P w K mg base CX0 3 f fd N12 (spLP plusP) := by
  refine F.ok scPl (fun vs H Q E h => ?_) (fun cdv A outer s H vs Q E hr h => ?_)
  · obtain ⟨a, c, p, r, rfl, _⟩ := h
    rfl
  · obtain ⟨a, c, p, r, rfl, ha, hc, z1, z2, q⟩ := h
    obtain ⟨m1, m2, m3, m4, m5, m6⟩ := z1.sz.mul z2.sz
    refine ⟨_, pss_one (ps_ret (pe_call gR.G hr (by rfl) gR.m gR.k gR.b .nil pass0 (pa_cons (pe_op op_add (pe_op op_mulW (pe_ix ix_tup (pv 0) pe_int (fun _ _ => rfl)) (pe_ix ix_tup (pv 1) pe_int (fun _ _ => rfl))) (pe_op op_mulW (pe_ix ix_tup (pv 1) pe_int (fun _ _ => rfl)) (pe_ix ix_tup (pv 0) pe_int (fun _ _ => rfl))))
      (pa_cons (pe_op op_mulW (pe_ix ix_tup (pv 0) pe_int (fun _ _ => rfl)) (pe_ix ix_tup (pv 1) pe_int (fun _ _ => rfl))) pa_nil)))), ?_⟩
    refine ⟨_, rfl, a, _, _, _, rfl, rfl, SqT.of ha, rfl, _, rfl, c, _, _, _, rfl, rfl, SqT.of hc, rfl, _, _, rfl, rfl, m2, ?_⟩
    refine ⟨_, rfl, c, _, _, _, rfl, rfl, SqT.of hc, rfl, _, rfl, a, _, _, _, rfl, rfl, SqT.of ha, rfl, _, _, rfl, rfl, m3, _, _, rfl, rfl, ?_⟩
    refine ⟨_, rfl, a, _, _, _, rfl, rfl, SqT.of ha, rfl, _, rfl, c, _, _, _, rfl, rfl, SqT.of hc, rfl, _, _, rfl, rfl, m4, ?_⟩
    exact ⟨_, _, rfl, Int.mul_pos z1.b0 z2.b0, m5, fun x hx => q x hx⟩
abbrev sLby : Stmt := FR.top 61
theorem scLbY : FnScope N12 N12 (defScope sLby) := ⟨rfl, rfl, rfl, by decide +kernel, rfl, by decide +kernel, by decide +kernel⟩
theorem ok_lby {f : Addr} {fd : FuncData} (F : Fun K "_law_by" "_law_by" sLby f fd) (gR : Glo P w K mg base "_law_ratio" 2 ["_law_top", "_law_bottom"] spRat) : FnOk P w K mg base CX0 3 f fd N12 (spLP byP) := by
  refine F.ok scLbY (fun vs H Q E h => ?_) (fun cdv A outer s H vs Q E hr h => ?_)
  · obtain ⟨a, c, p, r, rfl, _⟩ := h
    rfl
  · obtain ⟨a, c, p, r, rfl, ha, hc, z1, z2, q⟩ := h
    obtain ⟨m1, m2, m3, m4, m5, m6⟩ := z1.sz.mul z2.sz
    refine ⟨_, pss_one (ps_ret (pe_call gR.G hr (by rfl) gR.m gR.k gR.b .nil pass0 (pa_cons (pe_op op_mulW (pe_ix ix_tup (pv 0) pe_int (fun _ _ => rfl)) (pe_ix ix_tup (pv 1) pe_int (fun _ _ => rfl)))
      (pa_cons (pe_op op_mulW (pe_ix ix_tup (pv 0) pe_int (fun _ _ => rfl)) (pe_ix ix_tup (pv 1) pe_int (fun _ _ => rfl))) pa_nil)))), ?_⟩
    refine ⟨_, rfl, a, _, _, _, rfl, rfl, SqT.of ha, rfl, _, rfl, c, _, _, _, rfl, rfl, SqT.of hc, rfl, _, _, rfl, rfl, m1, ?_⟩
    refine ⟨_, rfl, a, _, _, _, rfl, rfl, SqT.of ha, rfl, _, rfl, c, _, _, _, rfl, rfl, SqT.of hc, rfl, _, _, rfl, rfl, m4, ?_⟩
    exact ⟨_, _, rfl, Int.mul_pos z1.b0 z2.b0, m5, fun x hx => q x hx⟩
end
end FR
set_option Elab.async false
set_option linter.all false
set_option maxRecDepth 100000
set_option maxHeartbeats 1000000
/-! next values, as pairs in least form -/
namespace FR
open PySem PySem.Spec PyProof.Rows L2
def lf (p : PI) : PI := (nT p.1 p.2, nB p.1 p.2)
theorem lf_scale {t b k : Int} (hk : 0 < k) : lf (k * t, k * b) = lf (t, b) := by
  show (nT (k * t) (k * b), nB (k * t) (k * b)) = (nT t b, nB t b)
  rw [nT_scale hk, nB_scale hk]
theorem lf_eq {t b t' b' : Int} (hb : 0 < b) (hb' : 0 < b') (h : t * b' = t' * b) : lf (t, b) = lf (t', b') := by
  rw [← lf_scale (t := t) (b := b) hb', ← lf_scale (t := t') (b := b') hb]
  congr 1
  rw [Int.mul_comm b' t, h, Int.mul_comm b t', Int.mul_comm b b']
/-- in least form -/
def Red (p : PI) : Prop := 0 < p.2 ∧ lf p = p
theorem red_lf {t b : Int} (h : 0 < b) : Red (lf (t, b)) := by
  have hb : b ≠ 0 := by omega
  refine ⟨nB_pos hb, ?_⟩
  show (nT (nT t b) (nB t b), nB (nT t b) (nB t b)) = (nT t b, nB t b)
  rw [nT_n hb, nB_n hb]
theorem lf_mul {t b : Int} (h : 0 < b) : ∃ k, 0 < k ∧ t = k * (lf (t, b)).1 ∧ b = k * (lf (t, b)).2 := by
  have hb : b ≠ 0 := by omega
  exact ⟨dv t b, (dv_sign hb).1 h, by show t = dv t b * nT t b; rw [Int.mul_comm, nT_mul hb], by show b = dv t b * nB t b; rw [Int.mul_comm, nB_mul hb]⟩
theorem by_lf (a c : PI) : byP a c = lf (a.1 * c.1, a.2 * c.2) := rfl
theorem plus_lf (a c : PI) : plusP a c = lf (a.1 * c.2 + c.1 * a.2, a.2 * c.2) := rfl
theorem by_left {t b : Int} (h : 0 < b) (c : PI) (hc : 0 < c.2) : byP (lf (t, b)) c = lf (t * c.1, b * c.2) := by
  obtain ⟨k, hk, e1, e2⟩ := lf_mul (t := t) h
  rw [by_lf]
  generalize lf (t, b) = x at e1 e2 ⊢
  rw [e1, e2, Int.mul_assoc, Int.mul_assoc, lf_scale hk]
theorem by_comm (a c : PI) : byP a c = byP c a := by
  rw [by_lf, by_lf, Int.mul_comm a.1, Int.mul_comm a.2]
theorem by_right {t b : Int} (h : 0 < b) (c : PI) (hc : 0 < c.2) : byP c (lf (t, b)) = lf (c.1 * t, c.2 * b) := by
  rw [by_comm, by_left h c hc, Int.mul_comm t, Int.mul_comm b]
theorem by_assoc (a b c : PI) (ha : 0 < a.2) (hb : 0 < b.2) (hc : 0 < c.2) : byP (byP a b) c = byP a (byP b c) := by
  rw [by_lf a b, by_left (Int.mul_pos ha hb) c hc, by_lf b c, by_right (Int.mul_pos hb hc) a ha, Int.mul_assoc, Int.mul_assoc]
theorem one_by {c : PI} (h : Red c) : byP (1, 1) c = c := by
  show lf (1 * c.1, 1 * c.2) = c
  rw [Int.one_mul, Int.one_mul]
  exact h.2
theorem by_one {c : PI} (h : Red c) : byP c (1, 1) = c := by rw [by_comm, one_by h]
theorem red_by {a c : PI} (ha : 0 < a.2) (hc : 0 < c.2) : Red (byP a c) := red_lf (Int.mul_pos ha hc)
theorem red_one : Red (1, 1) := ⟨by decide, by decide +kernel⟩
theorem red_zero : Red (0, 1) := ⟨by decide, by decide +kernel⟩
/-- a chance in least form -/
structure Ch (p : PI) : Prop where
  red : Red p
  lo : 0 ≤ p.1
  hi : p.1 ≤ p.2
/-- what holds between a pair's parts holds in its least form -/
theorem lf_le {t b x y : Int} (h : 0 < b) (e : t * x ≤ y * b) : (lf (t, b)).1 * x ≤ y * (lf (t, b)).2 := by
  obtain ⟨k, hk, e1, e2⟩ := lf_mul (t := t) h
  generalize lf (t, b) = z at e1 e2 ⊢
  rw [e1, e2] at e
  have : k * (z.1 * x) ≤ k * (y * z.2) := by
    have a1 : k * (z.1 * x) = k * z.1 * x := by rw [Int.mul_assoc]
    have a2 : k * (y * z.2) = y * (k * z.2) := by rw [← Int.mul_assoc, Int.mul_comm k y, Int.mul_assoc]
    rw [a1, a2]
    exact e
  exact Int.le_of_mul_le_mul_left this hk
theorem lf_nonneg {t b : Int} (h : 0 < b) (e : 0 ≤ t) : 0 ≤ (lf (t, b)).1 := by
  obtain ⟨k, hk, e1, _⟩ := lf_mul (t := t) h
  rw [e1] at e
  exact Int.le_of_mul_le_mul_left (a := k) (by rw [Int.mul_zero]; exact e) hk
theorem ch_lf {t b : Int} (h : 0 < b) (e : 0 ≤ t) (g : t ≤ b) : Ch (lf (t, b)) :=
  ⟨red_lf h, lf_nonneg h e, by have := lf_le (t := t) (b := b) (x := 1) (y := 1) h (by omega); omega⟩
theorem ch_by {a c : PI} (ha : Ch a) (hc : Ch c) : Ch (byP a c) := by
  refine ch_lf (Int.mul_pos ha.red.1 hc.red.1) (Int.mul_nonneg ha.lo hc.lo) ?_
  have h1 := Int.mul_le_mul_of_nonneg_right ha.hi hc.lo
  have h2 := Int.mul_le_mul_of_nonneg_left hc.hi (Int.le_of_lt ha.red.1)
  omega
theorem ch_one : Ch (1, 1) := ⟨red_one, by decide, by decide⟩
theorem ch_zero : Ch (0, 1) := ⟨red_zero, by decide, by decide⟩
/-! ### the next value of a body -/
abbrev wsum (rs : List (Int × Bd)) : Int := (rs.map (·.1)).sum
def nxS (N : Bd → PI) (ρ : Str → PI) : St → PI
  | .stay => (0, 1)
  | .call z => ρ z
  | .again i j b => lf (i * (N b).2, (i + j) * (N b).2 - j * (N b).1)
  | .toss rs => rs.foldl (fun acc r => plusP acc (byP (r.1, wsum rs) (N r.2))) (0, 1)
  | _ => (1, 1)
def nxt (ρ : Str → PI) : Nat → Bd → PI
  | 0, _ => (1, 1)
  | n + 1, b => b.foldl (fun acc s => byP acc (nxS (nxt ρ n) ρ s)) (1, 1)
/-- rows of a toss: weights and right bodies -/
theorem wt_of {i : Int} (h : wtB i = true) : 1 ≤ i ∧ i ≤ 99 := by
  unfold wtB at h
  rw [Bool.and_eq_true] at h
  exact ⟨of_decide_eq_true h.1, of_decide_eq_true h.2⟩
theorem toss_of {rs : List (Int × Bd)} (h : okS (.toss rs) = true) : 2 ≤ rs.length ∧ rs.length ≤ 4 ∧ ∀ r ∈ rs, 1 ≤ r.1 ∧ r.1 ≤ 99 := by
  have h : ((decide ((2 : Int) ≤ (rs.length : Nat)) && decide (((rs.length : Nat) : Int) ≤ 4)) && rs.all fun r => wtB r.1) = true := h
  rw [Bool.and_eq_true, Bool.and_eq_true] at h
  have h1 := of_decide_eq_true h.1.1
  have h2 := of_decide_eq_true h.1.2
  exact ⟨by omega, by omega, fun r hr => wt_of (List.all_eq_true.mp h.2 r hr)⟩
theorem again_of {i j : Int} {b : Bd} (h : okS (.again i j b) = true) : (1 ≤ i ∧ i ≤ 99) ∧ 1 ≤ j ∧ j ≤ 99 := by
  have h : (wtB i && wtB j) = true := h
  rw [Bool.and_eq_true] at h
  exact ⟨wt_of h.1, wt_of h.2⟩
theorem wsum_pos : ∀ {rs : List (Int × Bd)}, (∀ r ∈ rs, 1 ≤ r.1 ∧ r.1 ≤ 99) → (rs.length : Int) ≤ wsum rs ∧ wsum rs ≤ 99 * rs.length
  | [], _ => ⟨Int.le_refl _, Int.le_refl _⟩
  | r :: rs, h => by
    have h1 := h r List.mem_cons_self
    have h2 := wsum_pos (rs := rs) fun x m => h x (List.mem_cons_of_mem _ m)
    show ((rs.length + 1 : Nat) : Int) ≤ r.1 + wsum rs ∧ r.1 + wsum rs ≤ 99 * ((rs.length + 1 : Nat) : Int)
    omega
/-- the bits of a pair's bottom -/
def Bt (e : Nat) (p : PI) : Prop := p.2 ≤ 2 ^ e
theorem bt_lf {t b : Int} (h : 0 < b) : (lf (t, b)).2 ≤ b := by
  have := nB_le (t := t) (show b ≠ 0 by omega)
  have h2 : 0 < nB t b := nB_pos (by omega)
  show nB t b ≤ b
  omega
theorem pow_mul {a b : Int} {e f : Nat} (ha : a ≤ 2 ^ e) (hb : b ≤ 2 ^ f) (h0 : 0 ≤ b) : a * b ≤ 2 ^ (e + f) := by
  have h1 := Int.mul_le_mul_of_nonneg_right ha h0
  have h2 := Int.mul_le_mul_of_nonneg_left hb (show (0 : Int) ≤ 2 ^ e from Int.le_of_lt (Int.pow_pos (by decide)))
  rw [Int.pow_add]
  omega
theorem pow_mono {a : Int} {e f : Nat} (ha : a ≤ 2 ^ e) (le : e ≤ f) : a ≤ 2 ^ f := by
  have : (2 : Int) ^ e ≤ 2 ^ f := by
    obtain ⟨k, rfl⟩ := Nat.le.dest le
    have := pow_mul (a := 1) (b := 2 ^ e) (e := k) (f := e) (by have : (0 : Int) < 2 ^ k := Int.pow_pos (by decide); omega) (Int.le_refl _) (Int.le_of_lt (Int.pow_pos (by decide)))
    rw [Int.one_mul, Nat.add_comm] at this
    exact this
  omega
theorem Bt.by_ {a c : PI} {e f : Nat} (ha : Bt e a) (hc : Bt f c) (pa : 0 < a.2) (pc : 0 < c.2) : Bt (e + f) (byP a c) := by
  have h := bt_lf (t := a.1 * c.1) (Int.mul_pos pa pc)
  have := pow_mul ha hc (Int.le_of_lt pc)
  show (lf (a.1 * c.1, a.2 * c.2)).2 ≤ _
  omega
theorem Bt.plus {a c : PI} {e f : Nat} (ha : Bt e a) (hc : Bt f c) (pa : 0 < a.2) (pc : 0 < c.2) : Bt (e + f) (plusP a c) := by
  have h := bt_lf (t := a.1 * c.2 + c.1 * a.2) (Int.mul_pos pa pc)
  have := pow_mul ha hc (Int.le_of_lt pc)
  show (lf (a.1 * c.2 + c.1 * a.2, a.2 * c.2)).2 ≤ _
  omega
theorem red_plus {a c : PI} (ha : 0 < a.2) (hc : 0 < c.2) : Red (plusP a c) := red_lf (Int.mul_pos ha hc)
def TR (W T : Int) (e : Nat) (r : PI) : Prop := Red r ∧ 0 ≤ r.1 ∧ r.1 * W ≤ T * r.2 ∧ Bt e r
/-- the rows of a toss one by one -/
theorem toss_go {W : Int} (hW : 0 < W) (bW : W ≤ 2 ^ 9) {N : Bd → PI} {ew : Bd → Nat} : ∀ {rs : List (Int × Bd)} {acc : PI} {S : Int} {e : Nat}, (∀ r ∈ rs, 1 ≤ r.1 ∧ Ch (N r.2) ∧ Bt (ew r.2) (N r.2)) → Red acc → 0 ≤ acc.1 → acc.1 * W ≤ S * acc.2 → Bt e acc →
    TR W (S + wsum rs) (e + (rs.map fun r => 9 + ew r.2).sum) (rs.foldl (fun acc r => plusP acc (byP (r.1, W) (N r.2))) acc)
  | [], acc, S, e, _, hr, h0, hS, hb => ⟨hr, h0, by show acc.1 * W ≤ (S + 0) * acc.2; rw [Int.add_zero]; exact hS, hb⟩
  | r :: rs, acc, S, e, h, hr, h0, hS, hb => by
    obtain ⟨w1, ch, bx⟩ := h r List.mem_cons_self
    rw [List.foldl_cons]
    have x0 := ch.red.1
    have py : Red (byP (r.1, W) (N r.2)) := red_by hW x0
    have y0 : 0 ≤ (byP (r.1, W) (N r.2)).1 := lf_nonneg (Int.mul_pos hW x0) (Int.mul_nonneg (by omega) ch.lo)
    have yW : (byP (r.1, W) (N r.2)).1 * W ≤ r.1 * (byP (r.1, W) (N r.2)).2 := by
      refine lf_le (Int.mul_pos hW x0) ?_
      show r.1 * (N r.2).1 * W ≤ r.1 * (W * (N r.2).2)
      have a := Int.mul_le_mul_of_nonneg_left ch.hi (show 0 ≤ r.1 * W from Int.mul_nonneg (by omega) (by omega))
      have e1 : r.1 * (N r.2).1 * W = r.1 * W * (N r.2).1 := by grind
      have e2 : r.1 * (W * (N r.2).2) = r.1 * W * (N r.2).2 := by grind
      omega
    have by9 : Bt (9 + ew r.2) (byP (r.1, W) (N r.2)) := Bt.by_ bW bx hW x0
    generalize byP (r.1, W) (N r.2) = y at py y0 yW by9 ⊢
    have p0 := hr.1
    have q0 := py.1
    have z0 : 0 ≤ (plusP acc y).1 := lf_nonneg (Int.mul_pos p0 q0) (Int.add_nonneg (Int.mul_nonneg h0 (by omega)) (Int.mul_nonneg y0 (by omega)))
    have zW : (plusP acc y).1 * W ≤ (S + r.1) * (plusP acc y).2 := by
      refine lf_le (Int.mul_pos p0 q0) ?_
      have a := Int.mul_le_mul_of_nonneg_right hS (Int.le_of_lt q0)
      have c := Int.mul_le_mul_of_nonneg_right yW (Int.le_of_lt p0)
      have e1 : (acc.1 * y.2 + y.1 * acc.2) * W = acc.1 * W * y.2 + y.1 * W * acc.2 := by grind
      have e2 : (S + r.1) * (acc.2 * y.2) = S * acc.2 * y.2 + r.1 * y.2 * acc.2 := by grind
      omega
    have ih := toss_go hW bW (N := N) (ew := ew) (rs := rs) (acc := plusP acc y) (S := S + r.1) (e := e + (9 + ew r.2)) (fun x m => h x (List.mem_cons_of_mem _ m)) (red_plus p0 q0) z0 zW (Bt.plus hb by9 p0 q0)
    obtain ⟨i1, i2, i3, i4⟩ := ih
    refine ⟨i1, i2, ?_, ?_⟩
    · show _ ≤ (S + (r.1 + wsum rs)) * _
      rw [← Int.add_assoc]
      exact i3
    · show Bt (e + ((9 + ew r.2) + (rs.map fun r => 9 + ew r.2).sum)) _
      rw [← Nat.add_assoc]
      exact i4
/-- how many bits a statement brings; a call: as told -/
def gB (bt : Str → Nat) : St → Nat
  | .call z => bt z
  | .again _ _ _ => 8
  | .toss rs => 9 * rs.length
  | _ => 0
theorem gB_putAt (bt : Str → Nat) (s : St) (n : Nat) (k : Bd) (h : n < s.kids.length) : gB bt (s.putAt n k) = gB bt s := by
  match s, h with
  | .again _ _ _, _ => rfl
  | .choose _, _ => rfl
  | .toss rs, _ => show 9 * (rs.set n _).length = _; rw [List.length_set]; rfl
/-- the values of procedures -/
def Vals1 (ns : List Str) (bt : Str → Nat) (ρ : Str → PI) : Prop := ∀ z ∈ ns, Ch (ρ z) ∧ Bt (bt z) (ρ z)
theorem nx_again {i j : Int} {x : PI} {e : Nat} (hi : 1 ≤ i ∧ i ≤ 99) (hj : 1 ≤ j ∧ j ≤ 99) (ch : Ch x) (b : Bt e x) : 0 < (i + j) * x.2 - j * x.1 ∧ (i + j) * x.2 - j * x.1 ≤ 2 ^ (8 + e) ∧ Ch (lf (i * x.2, (i + j) * x.2 - j * x.1)) ∧ Bt (8 + e) (lf (i * x.2, (i + j) * x.2 - j * x.1)) := by
  have p0 := ch.red.1
  have a := Int.mul_le_mul_of_nonneg_left ch.hi (show 0 ≤ j by omega)
  have c := Int.mul_pos (show 0 < i by omega) p0
  have e1 : (i + j) * x.2 = i * x.2 + j * x.2 := Int.add_mul _ _ _
  have d := Int.mul_nonneg (show 0 ≤ j by omega) ch.lo
  have up : (i + j) * x.2 ≤ 2 ^ (8 + e) := pow_mul (e := 8) (f := e) (Int.le_trans (show i + j ≤ 256 by omega) (by decide)) b (Int.le_of_lt p0)
  have D0 : 0 < (i + j) * x.2 - j * x.1 := by omega
  refine ⟨D0, by omega, ch_lf D0 (by omega) (by omega), ?_⟩
  have := bt_lf (t := i * x.2) D0
  show _ ≤ _
  omega
theorem nx_toss {N : Bd → PI} {ew : Bd → Nat} {rs : List (Int × Bd)} (h : okS (.toss rs) = true) (hN : ∀ r ∈ rs, Ch (N r.2) ∧ Bt (ew r.2) (N r.2)) : Ch (rs.foldl (fun acc r => plusP acc (byP (r.1, wsum rs) (N r.2))) (0, 1)) ∧ Bt ((rs.map fun r => 9 + ew r.2).sum) (rs.foldl (fun acc r => plusP acc (byP (r.1, wsum rs) (N r.2))) (0, 1)) := by
  obtain ⟨h1, h2, h3⟩ := toss_of h
  obtain ⟨s1, s2⟩ := wsum_pos h3
  have hW : 0 < wsum rs := by omega
  have bW : wsum rs ≤ 2 ^ 9 := by
    have : (2 : Int) ^ 9 = 512 := by decide
    omega
  obtain ⟨a, b, c, d⟩ := toss_go hW bW (N := N) (ew := ew) (rs := rs) (acc := (0, 1)) (S := 0) (e := 0) (fun r hr => ⟨(h3 r hr).1, hN r hr⟩) red_zero (by decide) (by rw [Int.zero_mul, Int.zero_mul]; exact Int.le_refl _) (by show (1 : Int) ≤ 2 ^ 0; decide)
  rw [Nat.zero_add] at d
  refine ⟨⟨a, b, ?_⟩, d⟩
  rw [Int.zero_add, Int.mul_comm] at c
  exact Int.le_of_mul_le_mul_left c hW
theorem nxt_ok {ns : List Str} {bt : Str → Nat} {ρ : Str → PI} (hv : Vals1 ns bt ρ) : ∀ {n : Nat} {b : Bd}, Al (Ok1 ns) n b → Ch (nxt ρ n b) ∧ Bt (ws (gB bt) n b) (nxt ρ n b)
  | n + 1, b, h => by
    have one : ∀ s ∈ b, Ch (nxS (nxt ρ n) ρ s) ∧ Bt (gB bt s + (s.kids.map (ws (gB bt) n)).sum) (nxS (nxt ρ n) ρ s) := fun s hs => by
      obtain ⟨⟨o1, o2⟩, hk⟩ := h s hs
      match s, o1, o2, hk with
      | .note _, _, _, _ => exact ⟨ch_one, by show (1 : Int) ≤ 2 ^ 0; decide⟩
      | .choose _, _, _, _ => exact ⟨ch_one, by show (1 : Int) ≤ 2 ^ _; exact pow_mono (e := 0) (by decide) (Nat.zero_le _)⟩
      | .stay, _, _, _ => exact ⟨ch_zero, by show (1 : Int) ≤ 2 ^ 0; decide⟩
      | .call z, _, o2, _ => exact hv z (o2 z rfl)
      | .again i j k, o1, _, hk =>
        obtain ⟨w1, w2⟩ := again_of o1
        obtain ⟨c, d⟩ := nxt_ok hv (hk k (List.mem_singleton.mpr rfl))
        obtain ⟨_, _, r1, r2⟩ := nx_again w1 w2 c d
        exact ⟨r1, r2⟩
      | .toss rs, o1, o2', hk =>
        obtain ⟨r1, r2⟩ := nx_toss (N := nxt ρ n) (ew := ws (gB bt) n) o1 fun r hr => nxt_ok hv (hk r.2 (List.mem_map.mpr ⟨r, hr, rfl⟩))
        refine ⟨r1, ?_⟩
        have e : (rs.map fun r => 9 + ws (gB bt) n r.2).sum = 9 * rs.length + ((rs.map fun r => r.2).map (ws (gB bt) n)).sum := by
          clear r1 r2 hk o1 o2' hs
          induction rs with
          | nil => rfl
          | cons r rs ih =>
            rw [List.map_cons, List.sum_cons, List.map_cons, List.map_cons, List.sum_cons, List.length_cons, ih]
            omega
        rw [e] at r2
        exact r2
    have go : ∀ (l : Bd), (∀ s ∈ l, Ch (nxS (nxt ρ n) ρ s) ∧ Bt (gB bt s + (s.kids.map (ws (gB bt) n)).sum) (nxS (nxt ρ n) ρ s)) → ∀ (acc : PI) (e : Nat), Ch acc → Bt e acc →
        Ch (l.foldl (fun acc s => byP acc (nxS (nxt ρ n) ρ s)) acc) ∧ Bt (e + (l.map fun s => gB bt s + (s.kids.map (ws (gB bt) n)).sum).sum) (l.foldl (fun acc s => byP acc (nxS (nxt ρ n) ρ s)) acc) := fun l => by
      induction l with
      | nil => exact fun _ acc e c d => ⟨c, d⟩
      | cons s l ih =>
        intro h acc e c d
        obtain ⟨c1, d1⟩ := h s List.mem_cons_self
        have := ih (fun x m => h x (List.mem_cons_of_mem _ m)) (byP acc (nxS (nxt ρ n) ρ s)) _ (ch_by c c1) (Bt.by_ d d1 c.red.1 c1.red.1)
        rw [List.map_cons, List.sum_cons, ← Nat.add_assoc]
        exact this
    have := go b one (1, 1) 0 ch_one (by show (1 : Int) ≤ 2 ^ 0; decide)
    rw [Nat.zero_add] at this
    exact this
end FR
set_option Elab.async false
set_option linter.all false
set_option maxRecDepth 100000
set_option maxHeartbeats 1000000
/-! next values of changed bodies -/
namespace FR
open PySem PySem.Spec PyProof.Rows L2
section
variable {ns : List Str} {bt : Str → Nat} {ρ ρ' : Str → PI}
theorem nxS_ch (hv : Vals1 ns bt ρ) {n : Nat} {s : St} (o : Ok1 ns s) (hk : ∀ k ∈ s.kids, Al (Ok1 ns) n k) : Ch (nxS (nxt ρ n) ρ s) := by
  have := (nxt_ok hv (n := n + 1) (b := [s]) fun x hx => by rw [List.mem_singleton.mp hx]; exact ⟨o, hk⟩).1
  show Ch _
  match s, o, hk with
  | .note _, _, _ => exact ch_one
  | .choose _, _, _ => exact ch_one
  | .stay, _, _ => exact ch_zero
  | .call z, o, _ => exact (hv z (o.2 z rfl)).1
  | .again i j k, o, hk =>
    obtain ⟨w1, w2⟩ := again_of o.1
    obtain ⟨c, d⟩ := nxt_ok hv (hk k (List.mem_singleton.mpr rfl))
    exact (nx_again w1 w2 c d).2.2.1
  | .toss rs, o, hk => exact (nx_toss (N := nxt ρ n) (ew := ws (gB bt) n) o.1 fun r hr => nxt_ok hv (hk r.2 (List.mem_map.mpr ⟨r, hr, rfl⟩))).1
theorem fold_by {α : Type} (f : α → PI) : ∀ (l : List α), (∀ s ∈ l, Ch (f s)) → ∀ a : PI, Ch a → l.foldl (fun acc s => byP acc (f s)) a = byP a (l.foldl (fun acc s => byP acc (f s)) (1, 1)) ∧ Ch (l.foldl (fun acc s => byP acc (f s)) (1, 1))
  | [], _, a, ha => ⟨(by_one ha.red).symm, ch_one⟩
  | s :: l, h, a, ha => by
    have hs := h s List.mem_cons_self
    obtain ⟨e1, c1⟩ := fold_by f l (fun x m => h x (List.mem_cons_of_mem _ m)) (byP a (f s)) (ch_by ha hs)
    obtain ⟨e2, _⟩ := fold_by f l (fun x m => h x (List.mem_cons_of_mem _ m)) (byP (1, 1) (f s)) (ch_by ch_one hs)
    rw [List.foldl_cons, List.foldl_cons, e1, e2, one_by hs.red]
    exact ⟨by_assoc _ _ _ ha.red.1 hs.red.1 c1.red.1, ch_by hs c1⟩
theorem nxt_append (hv : Vals1 ns bt ρ) {n : Nat} {a b : Bd} (ha : Al (Ok1 ns) (n + 1) a) (hb : Al (Ok1 ns) (n + 1) b) : nxt ρ (n + 1) (a ++ b) = byP (nxt ρ (n + 1) a) (nxt ρ (n + 1) b) := by
  have f := fold_by (nxS (nxt ρ n) ρ) b (fun s hs => nxS_ch hv (hb s hs).1 (hb s hs).2) (nxt ρ (n + 1) a) (nxt_ok hv ha).1
  show (a ++ b).foldl _ _ = _
  rw [List.foldl_append]
  exact f.1
theorem fold_congr {α β : Type} {f g : β → α → β} : ∀ {l : List α}, (∀ x ∈ l, ∀ b, f b x = g b x) → ∀ b, l.foldl f b = l.foldl g b
  | [], _, _ => rfl
  | x :: l, h, b => by
    rw [List.foldl_cons, List.foldl_cons, h x List.mem_cons_self]
    exact fold_congr (fun y m => h y (List.mem_cons_of_mem _ m)) _
theorem nxS_congr {N N' : Bd → PI} {s : St} (hk : ∀ k ∈ s.kids, N k = N' k) (hc : ∀ z, s = .call z → ρ z = ρ' z) : nxS N ρ s = nxS N' ρ' s := by
  match s, hk, hc with
  | .note _, _, _ => rfl
  | .choose _, _, _ => rfl
  | .stay, _, _ => rfl
  | .call z, _, hc => exact hc z rfl
  | .again i j k, hk, _ =>
    show lf (i * (N k).2, (i + j) * (N k).2 - j * (N k).1) = lf (i * (N' k).2, (i + j) * (N' k).2 - j * (N' k).1)
    rw [hk k (List.mem_singleton.mpr rfl)]
  | .toss rs, hk, _ => exact fold_congr (fun r hr b => by rw [hk r.2 (List.mem_map.mpr ⟨r, hr, rfl⟩)]) _
theorem nxt_congr : ∀ {n : Nat} {b : Bd}, Al (Ok1 ns) n b → (∀ z ∈ ns, ρ z = ρ' z) → nxt ρ n b = nxt ρ' n b
  | n + 1, b, h, e => fold_congr (fun s hs acc => by
      rw [nxS_congr (ρ := ρ) (ρ' := ρ') (N := nxt ρ n) (N' := nxt ρ' n) (fun k hk => nxt_congr ((h s hs).2 k hk) e) fun z ez => e z ((h s hs).1.2 z ez)]) _
theorem nxt_up {A : St → Prop} : ∀ {n : Nat} {b : Bd}, Al A n b → nxt ρ (n + 1) b = nxt ρ n b
  | n + 1, b, h => fold_congr (fun s hs acc => by
      rw [nxS_congr (ρ := ρ) (ρ' := ρ) (N := nxt ρ (n + 1)) (N' := nxt ρ n) (fun k hk => nxt_up ((h s hs).2 k hk)) fun z _ => rfl]) _
theorem nxt_mono {A : St → Prop} {n m : Nat} {b : Bd} (h : Al A n b) (le : n ≤ m) : nxt ρ m b = nxt ρ n b := by
  induction le with
  | refl => rfl
  | step le ih => rw [nxt_up (h.mono le), ih]
theorem nxS_putAt {N N' : Bd → PI} {s : St} {j : Nat} {k k' : Bd} (hj : j < s.kids.length) (hk : ∀ x ∈ s.kids, N x = N' x) (e : N k = N' k') : nxS N ρ (s.putAt j k) = nxS N' ρ' (s.putAt j k') := by
  match s, hj, hk with
  | .again a b c, _, _ =>
    show lf (a * (N k).2, (a + b) * (N k).2 - b * (N k).1) = lf (a * (N' k').2, (a + b) * (N' k').2 - b * (N' k').1)
    rw [e]
  | .choose _, _, _ => rfl
  | .toss rs, hj, hk =>
    have e1 : ∀ k : Bd, wsum (rs.set j ((rs.getD j (0, [])).1, k)) = ((rs.map (·.1)).set j (rs.getD j (0, [])).1).sum := fun k => by
      unfold wsum
      rw [set_map]
    have e2 : (rs.set j ((rs.getD j (0, [])).1, k)).map (fun r => (r.1, N r.2)) = (rs.set j ((rs.getD j (0, [])).1, k')).map (fun r => (r.1, N' r.2)) := by
      rw [set_map, set_map, e, List.map_congr_left fun r hr => by rw [hk r.2 (List.mem_map.mpr ⟨r, hr, rfl⟩)]]
    have e3 : ∀ (M : Bd → PI) (W : Int) (l : List (Int × Bd)), l.foldl (fun acc r => plusP acc (byP (r.1, W) (M r.2))) (0, 1) = (l.map fun r => (r.1, M r.2)).foldl (fun acc y => plusP acc (byP (y.1, W) y.2)) (0, 1) := fun M W l => by rw [List.foldl_map]
    show List.foldl (fun acc r => plusP acc (byP (r.1, wsum (rs.set j ((rs.getD j (0, [])).1, k))) (N r.2))) (0, 1) (rs.set j ((rs.getD j (0, [])).1, k)) = List.foldl (fun acc r => plusP acc (byP (r.1, wsum (rs.set j ((rs.getD j (0, [])).1, k'))) (N' r.2))) (0, 1) (rs.set j ((rs.getD j (0, [])).1, k'))
    rw [e1, e1, e3, e3, e2]
theorem set_congr {α β : Type} {f g : β → α → β} {y y' : α} : ∀ {l : List α} {i : Nat}, (∀ x ∈ l, ∀ b, f b x = g b x) → (∀ b, f b y = g b y') → ∀ b, (l.set i y).foldl f b = (l.set i y').foldl g b
  | [], _, _, _, _ => rfl
  | x :: l, 0, h, e, b => by
    show l.foldl f (f b y) = l.foldl g (g b y')
    rw [e]
    exact fold_congr (fun z m => h z (List.mem_cons_of_mem _ m)) _
  | x :: l, i + 1, h, e, b => by
    show (l.set i y).foldl f (f b x) = (l.set i y').foldl g (g b x)
    rw [h x List.mem_cons_self]
    exact set_congr (fun z m => h z (List.mem_cons_of_mem _ m)) e _
theorem wp_congr (e : ∀ z ∈ ns, ρ z = ρ' z) {k k' : Bd} : ∀ {ps : List (Nat × Nat)} {n : Nat} {b : Bd}, Al (Ok1 ns) n b → InB b ps → nxt ρ (n - ps.length) k = nxt ρ' (n - ps.length) k' → nxt ρ n (wpB b ps k) = nxt ρ' n (wpB b ps k')
  | [], _, _, _, _, h => h
  | x :: r, 0, _, h, _, _ => h.elim
  | x :: r, n + 1, b, h, ⟨h1, h2, h3⟩, hk => by
    have hs := h _ (List.mem_of_getElem? (get_lt .stay h1))
    have hkid := hs.2 _ (List.mem_of_getElem? (get_lt [] h2))
    rw [List.length_cons, Nat.add_sub_add_right] at hk
    have ih := wp_congr e hkid h3 hk
    show (b.set x.1 _).foldl _ _ = (b.set x.1 _).foldl _ _
    refine set_congr (fun s m acc => ?_) (fun acc => ?_) _
    · rw [nxS_congr (ρ := ρ) (ρ' := ρ') (N := nxt ρ n) (N' := nxt ρ' n) (fun k hk => nxt_congr ((h s m).2 k hk) e) fun z ez => e z ((h s m).1.2 z ez)]
    · rw [nxS_putAt (ρ := ρ) (ρ' := ρ') (N := nxt ρ n) (N' := nxt ρ' n) h2 (fun k hk => nxt_congr (hs.2 k hk) e) ih]
theorem set_self {α : Type} (d : α) : ∀ {l : List α} {i : Nat}, l.set i (l.getD i d) = l
  | [], _ => rfl
  | _ :: _, 0 => rfl
  | x :: l, i + 1 => by
    show x :: l.set i (l.getD i d) = x :: l
    rw [set_self d]
theorem putAt_self {s : St} {j : Nat} (h : j < s.kids.length) : s.putAt j (s.kids.getD j []) = s := by
  match s, h with
  | .again a b c, h =>
    have h : j < 1 := h
    have : j = 0 := by omega
    subst this
    rfl
  | .choose bs, _ => show St.choose (bs.set j (bs.getD j [])) = _; rw [set_self]
  | .toss rs, h =>
    have h : j < (rs.map fun r => r.2).length := h
    rw [List.length_map] at h
    have e : (rs.map fun r => r.2).getD j [] = (rs.getD j (0, [])).2 := getD_of (by rw [List.getElem?_map, get_lt (0, []) h]; rfl)
    show St.toss (rs.set j ((rs.getD j (0, [])).1, (rs.map fun r => r.2).getD j [])) = _
    rw [e]
    show St.toss (rs.set j (rs.getD j (0, []))) = _
    rw [set_self]
theorem wp_self : ∀ {ps : List (Nat × Nat)} {b : Bd}, InB b ps → wpB b ps (atB b ps) = b
  | [], _, _ => rfl
  | x :: r, b, ⟨h1, h2, h3⟩ => by
    show b.set x.1 ((b.getD x.1 .stay).putAt x.2 (wpB ((b.getD x.1 .stay).kids.getD x.2 []) r (atB ((b.getD x.1 .stay).kids.getD x.2 []) r))) = b
    rw [wp_self h3, putAt_self h2, set_self]
theorem oth_self {c : Bd} {i : Nat} {s : St} (h : c[i]? = some s) : oth c i [s] = c := by
  unfold oth
  obtain ⟨hi, e⟩ := List.getElem?_eq_some_iff.mp h
  rw [← e, List.append_assoc]
  show c.take i ++ c[i] :: c.drop (i + 1) = c
  rw [List.getElem_cons_drop, List.take_append_drop]
theorem al_take {A : St → Prop} : ∀ {n i : Nat} {c : Bd}, Al A n c → Al A n (c.take i)
  | n + 1, i, c, h => fun s hs => h s (List.mem_of_mem_take hs)
theorem al_drop {A : St → Prop} : ∀ {n i : Nat} {c : Bd}, Al A n c → Al A n (c.drop i)
  | n + 1, i, c, h => fun s hs => h s (List.mem_of_mem_drop hs)
theorem al_app {A : St → Prop} : ∀ {n : Nat} {a b : Bd}, Al A n a → Al A n b → Al A n (a ++ b)
  | n + 1, a, b, h, g => fun s hs => (List.mem_append.mp hs).elim (h s) (g s)
theorem nxt_oth (hv : Vals1 ns bt ρ) {m : Nat} {c ss : Bd} {i : Nat} (hc : Al (Ok1 ns) (m + 1) c) (hs : Al (Ok1 ns) (m + 1) ss) : nxt ρ (m + 1) (oth c i ss) = byP (byP (nxt ρ (m + 1) (c.take i)) (nxt ρ (m + 1) ss)) (nxt ρ (m + 1) (c.drop (i + 1))) := by
  unfold oth
  rw [nxt_append hv (al_app (al_take hc) hs) (al_drop hc), nxt_append hv (al_take hc) hs]
/-- a call gives way to what it calls: the same next value, if the call had it -/
theorem nx_inl (hv : Vals1 ns bt ρ) {q : Str} (nb : nameB q = true) {b c : Bd} {ps : List (Nat × Nat)} {i : Nat} (hb : Al (Ok1 ns) 3 b) (hw : InB b ps) (hc : Al (Ok1 ns) 3 c) (hρ : ∀ z ∈ ns, ρ z = ρ' z) (hq : ρ' q = nxt ρ 5 c) {bt' : Str → Nat} (hv' : Vals1 (q :: ns) bt' ρ') :
    nxt ρ 5 (spl b ps i c) = nxt ρ' 5 (spl b ps i [.call q]) := by
  have lw := al_way hb hw
  have ca := al_at hb hw
  have e5 : nxt ρ 5 c = nxt ρ 3 c := nxt_mono hc (by decide)
  obtain ⟨m, hm, hm3⟩ : ∃ m, 5 - ps.length = m + 1 ∧ 3 ≤ m + 1 := ⟨4 - ps.length, by omega, by omega⟩
  have ca' : Al (Ok1 ns) (m + 1) (atB b ps) := ca.mono (by omega)
  have up : ∀ {n : Nat} {x : Bd}, Al (Ok1 ns) n x → Al (Ok1 (q :: ns)) n x := fun h => h.imp fun s o => ⟨o.1, fun z e => List.mem_cons_of_mem _ (o.2 z e)⟩
  refine wp_congr hρ (hb.mono (by decide)) hw ?_
  rw [hm]
  have hq1 : Al (Ok1 (q :: ns)) (m + 1) [St.call q] := fun s hs => by
    rw [List.mem_singleton.mp hs]
    refine ⟨⟨?_, fun z e => by cases e; exact List.mem_cons_self⟩, fun k hk => absurd hk List.not_mem_nil⟩
    exact nb
  rw [nxt_oth hv ca' (hc.mono hm3), nxt_oth hv' (up ca') hq1]
  have e1 : nxt ρ' (m + 1) [St.call q] = ρ' q := one_by (hv' q List.mem_cons_self).1.red
  rw [e1, hq, e5, nxt_mono hc hm3, nxt_congr (al_take ca') hρ, nxt_congr (al_drop ca') hρ]
/-- a repeat gives way to the toss of its first round -/
theorem nx_toss1 {i j : Int} {x : PI} (hi : 1 ≤ i ∧ i ≤ 99) (hj : 1 ≤ j ∧ j ≤ 99) (ch : Ch x) :
    plusP (plusP (0, 1) (byP (i, i + (j + 0)) (1, 1))) (byP (j, i + (j + 0)) (byP x (lf (i * x.2, (i + j) * x.2 - j * x.1)))) = lf (i * x.2, (i + j) * x.2 - j * x.1) := by
  obtain ⟨D0, _, _, _⟩ := nx_again (e := x.2.toNat) hi hj ch (by
    have := ch.red.1
    show x.2 ≤ 2 ^ x.2.toNat
    have h := @Nat.lt_two_pow_self x.2.toNat
    have e : ((2 ^ x.2.toNat : Nat) : Int) = 2 ^ x.2.toNat := by norm_cast
    omega)
  have p0 := ch.red.1
  rw [Int.add_zero]
  have W0 : 0 < i + j := by omega
  generalize hW : i + j = W at W0 D0 ⊢
  generalize hD : W * x.2 - j * x.1 = D at D0 ⊢
  have pl : ∀ {t b t' b' : Int}, 0 < b → 0 < b' → plusP (lf (t, b)) (lf (t', b')) = lf (t * b' + t' * b, b * b') := fun {t b t' b'} hb hb' => by
    obtain ⟨k, hk, e1, e2⟩ := lf_mul (t := t) hb
    obtain ⟨l, hl, e3, e4⟩ := lf_mul (t := t') hb'
    rw [plus_lf]
    generalize lf (t, b) = y at e1 e2 ⊢
    generalize lf (t', b') = z at e3 e4 ⊢
    have a1 : t * b' + t' * b = (k * l) * (y.1 * z.2 + z.1 * y.2) := by rw [e1, e2, e3, e4]; grind
    have a2 : b * b' = (k * l) * (y.2 * z.2) := by rw [e2, e4]; grind
    rw [a1, a2, lf_scale (Int.mul_pos hk hl)]
  have s1 : plusP (0, 1) (byP (i, W) (1, 1)) = lf (i, W) := by
    rw [by_lf]
    have : plusP (lf (0, 1)) (lf (i * 1, W * 1)) = _ := pl (t := 0) (b := 1) (t' := i * 1) (b' := W * 1) (by decide) (by omega)
    rw [red_zero.2] at this
    rw [this]
    congr 1
    rw [Int.mul_one, Int.mul_one, Int.mul_one, Int.zero_mul, Int.zero_add, Int.one_mul]
  have s2 : byP (j, W) (byP x (lf (i * x.2, D))) = lf (j * (x.1 * (i * x.2)), W * (x.2 * D)) := by
    rw [by_right D0 x p0, by_right (Int.mul_pos p0 D0) (j, W) W0]
  rw [s1, s2, pl W0 (Int.mul_pos W0 (Int.mul_pos p0 D0))]
  refine lf_eq (Int.mul_pos W0 (Int.mul_pos W0 (Int.mul_pos p0 D0))) D0 ?_
  rw [← hD]
  grind
theorem nx_unr (hv : Vals1 ns bt ρ) {b k : Bd} {ps : List (Nat × Nat)} {i : Nat} {a c : Int} (hb : Al (Ok1 ns) 3 b) (hw : InB b ps) (hi : (atB b ps)[i]? = some (.again a c k)) :
    nxt ρ 5 (spl b ps i [.toss [(a, []), (c, k ++ [.again a c k])]]) = nxt ρ 5 b := by
  have lw := al_way hb hw
  have ca := al_at hb hw
  obtain ⟨m, hm, hm3⟩ : ∃ m, 5 - ps.length = m + 3 ∧ 3 - ps.length ≤ m + 1 := ⟨2 - ps.length, by omega, by omega⟩
  have ca1 : Al (Ok1 ns) (m + 1) (atB b ps) := ca.mono hm3
  obtain ⟨⟨o1, o2⟩, hk⟩ := ca1 _ (List.mem_of_getElem? hi)
  have hk := hk k (List.mem_singleton.mpr rfl)
  obtain ⟨w1, w2⟩ := again_of o1
  have hag : Al (Ok1 ns) (m + 1) [St.again a c k] := fun s hs => by
    rw [List.mem_singleton.mp hs]
    exact ⟨⟨o1, o2⟩, fun y hy => by rw [List.mem_singleton.mp hy]; exact hk⟩
  have hka : Al (Ok1 ns) (m + 2) (k ++ [St.again a c k]) := (al_app hk.up hag).up
  have htl : Al (Ok1 ns) (m + 3) [St.toss [(a, []), (c, k ++ [.again a c k])]] := fun s hs => by
    rw [List.mem_singleton.mp hs]
    refine ⟨⟨?_, fun z e => by cases e⟩, fun y hy => ?_⟩
    · show ((decide ((2 : Int) ≤ ((2 : Nat) : Int)) && decide (((2 : Nat) : Int) ≤ 4)) && (wtB a && (wtB c && true))) = true
      have h : (wtB a && wtB c) = true := o1
      rw [Bool.and_true, h]
      rfl
    · rcases List.mem_cons.mp hy with e | hy
      · rw [e]; exact fun s hs => absurd hs List.not_mem_nil
      · rw [List.mem_singleton.mp hy]; exact hka
  have hagl : Al (Ok1 ns) (m + 3) [St.again a c k] := (hag.mono (by omega))
  have key : nxt ρ (m + 3) [St.toss [(a, []), (c, k ++ [.again a c k])]] = nxt ρ (m + 3) [St.again a c k] := by
    have ch := (nxt_ok hv hk).1
    have ea : ∀ n, m ≤ n → nxt ρ (n + 1) [St.again a c k] = lf (a * (nxt ρ m k).2, (a + c) * (nxt ρ m k).2 - c * (nxt ρ m k).1) := fun n le => by
      have e0 : nxt ρ n k = nxt ρ m k := nxt_mono hk le
      show byP (1, 1) (lf (a * (nxt ρ n k).2, (a + c) * (nxt ρ n k).2 - c * (nxt ρ n k).1)) = _
      rw [e0]
      obtain ⟨D0, _, r, _⟩ := nx_again w1 w2 ch (nxt_ok hv hk).2
      exact one_by r.red
    rw [ea (m + 2) (by omega)]
    have e1 : nxt ρ (m + 3) [St.toss [(a, []), (c, k ++ [.again a c k])]] = byP (1, 1) (plusP (plusP (0, 1) (byP (a, a + (c + 0)) (nxt ρ (m + 2) []))) (byP (c, a + (c + 0)) (nxt ρ (m + 2) (k ++ [.again a c k])))) := rfl
    rw [e1, nxt_append hv (n := m + 1) (hk.mono (by omega)) (hag.mono (by omega)), ea (m + 1) (by omega), nxt_mono hk (show m ≤ m + 1 + 1 by omega)]
    have := nx_toss1 w1 w2 ch
    rw [show nxt ρ (m + 2) [] = (1, 1) from rfl, this]
    obtain ⟨D0, _, r, _⟩ := nx_again w1 w2 ch (nxt_ok hv hk).2
    exact one_by r.red
  have eb : nxt ρ 5 b = nxt ρ 5 (wpB b ps (oth (atB b ps) i [.again a c k])) := by rw [oth_self hi, wp_self hw]
  rw [eb]
  refine wp_congr (fun _ _ => rfl) (hb.mono (by decide)) hw ?_
  rw [hm, nxt_oth hv (ca1.mono (by omega)) htl, nxt_oth hv (ca1.mono (by omega)) hagl, key]
end
end FR
set_option Elab.async false
set_option linter.all false
set_option maxRecDepth 100000
set_option maxHeartbeats 1000000
/-! what stands on the way to a next value: its size -/
namespace FR
open PySem PySem.Spec PyProof.Rows L2
theorem pp_ch {p : PI} {e : Nat} (c : Ch p) (b : Bt e p) (h : e < 3000) : Pp p := by
  have hb : p.2 ≤ 2 ^ 2999 := pow_mono b (by omega)
  have h1 : ((2 ^ 2999 : Nat) : Int) = 2 ^ 2999 := Int.natCast_pow 2 2999
  have h2 : (2 : Nat) ^ 2999 < 2 ^ 3000 := Nat.pow_lt_pow_right (by decide) (by decide)
  have h0 := c.red.1
  have hl := c.lo
  have hh := c.hi
  rw [← h1] at hb
  refine ⟨h0, ?_, ?_⟩
  · have : p.1.natAbs ≤ 2 ^ 2999 := by omega
    exact Nat.lt_of_le_of_lt this h2
  · have : p.2.natAbs ≤ 2 ^ 2999 := by omega
    exact Nat.lt_of_le_of_lt this h2
theorem ws_take (g : St → Nat) : ∀ (n : Nat) (b : Bd) (i : Nat), ws g n (b.take i) ≤ ws g n b
  | 0, _, _ => Nat.le_refl _
  | n + 1, b, i => by
    show ((b.take i).map fun s => g s + (s.kids.map (ws g n)).sum).sum ≤ (b.map fun s => g s + (s.kids.map (ws g n)).sum).sum
    have : (b.map fun s => g s + (s.kids.map (ws g n)).sum).sum = ((b.take i).map fun s => g s + (s.kids.map (ws g n)).sum).sum + ((b.drop i).map fun s => g s + (s.kids.map (ws g n)).sum).sum := by rw [← List.sum_append, ← List.map_append, List.take_append_drop]
    omega
theorem ws_one (g : St → Nat) {n : Nat} {b : Bd} {s : St} (h : s ∈ b) : g s + (s.kids.map (ws g n)).sum ≤ ws g (n + 1) b := by
  obtain ⟨i, hi, e⟩ := List.getElem_of_mem h
  have := sum_get (fun s : St => g s + (s.kids.map (ws g n)).sum) .stay b i hi
  rw [List.getD_eq_getElem?_getD, List.getElem?_eq_getElem hi] at this
  have this : g b[i] + (b[i].kids.map (ws g n)).sum ≤ (b.map fun s => g s + (s.kids.map (ws g n)).sum).sum := this
  rw [e] at this
  exact this
section
variable {ns : List Str} {bt : Str → Nat} {ρ : Str → PI}
theorem nxS_bt (hv : Vals1 ns bt ρ) {n : Nat} {s : St} (o : Ok1 ns s) (hk : ∀ k ∈ s.kids, Al (Ok1 ns) n k) : Bt (gB bt s + (s.kids.map (ws (gB bt) n)).sum) (nxS (nxt ρ n) ρ s) := by
  have h := (nxt_ok hv (n := n + 1) (b := [s]) fun x hx => by rw [List.mem_singleton.mp hx]; exact ⟨o, hk⟩).2
  have e : nxt ρ (n + 1) [s] = nxS (nxt ρ n) ρ s := one_by (nxS_ch hv o hk).red
  rw [e] at h
  exact h
theorem wsum_take {rs : List (Int × Bd)} (h : ∀ r ∈ rs, 1 ≤ r.1 ∧ r.1 ≤ 99) (j : Nat) : wsum (rs.take j) ≤ wsum rs := by
  have e : wsum rs = wsum (rs.take j) + wsum (rs.drop j) := by
    unfold wsum
    rw [← List.sum_append, ← List.map_append, List.take_append_drop]
  have := (wsum_pos (rs := rs.drop j) fun r hr => h r (List.mem_of_mem_drop hr)).1
  omega
/-- the first rows of a toss -/
def tossA (N : Bd → PI) (rs : List (Int × Bd)) (j : Nat) : PI := (rs.take j).foldl (fun acc r => plusP acc (byP (r.1, wsum rs) (N r.2))) (0, 1)
theorem toss_ch {N : Bd → PI} {ew : Bd → Nat} {rs : List (Int × Bd)} (h : okS (.toss rs) = true) (hN : ∀ r ∈ rs, Ch (N r.2) ∧ Bt (ew r.2) (N r.2)) (j : Nat) : Ch (tossA N rs j) ∧ Bt ((rs.map fun r => 9 + ew r.2).sum) (tossA N rs j) := by
  obtain ⟨h1, h2, h3⟩ := toss_of h
  obtain ⟨s1, s2⟩ := wsum_pos h3
  have hW : 0 < wsum rs := by omega
  have bW : wsum rs ≤ 2 ^ 9 := by
    have : (2 : Int) ^ 9 = 512 := by decide
    omega
  obtain ⟨a, b, c, d⟩ := toss_go hW bW (N := N) (ew := ew) (rs := rs.take j) (acc := (0, 1)) (S := 0) (e := 0) (fun r hr => ⟨(h3 r (List.mem_of_mem_take hr)).1, hN r (List.mem_of_mem_take hr)⟩) red_zero (by decide) (by rw [Int.zero_mul, Int.zero_mul]; exact Int.le_refl _) (by show (1 : Int) ≤ 2 ^ 0; decide)
  have wt := wsum_take h3 j
  have le : ((rs.take j).map fun r => 9 + ew r.2).sum ≤ (rs.map fun r => 9 + ew r.2).sum := by
    have : (rs.map fun r => 9 + ew r.2).sum = ((rs.take j).map fun r => 9 + ew r.2).sum + ((rs.drop j).map fun r => 9 + ew r.2).sum := by rw [← List.sum_append, ← List.map_append, List.take_append_drop]
    omega
  rw [Nat.zero_add] at d
  refine ⟨⟨a, b, ?_⟩, pow_mono d le⟩
  rw [Int.zero_add] at c
  have c2 := Int.mul_le_mul_of_nonneg_right wt (Int.le_of_lt a.1)
  have c3 := Int.le_trans c c2
  rw [Int.mul_comm (wsum rs)] at c3
  exact Int.le_of_mul_le_mul_right c3 hW
theorem tossA_next {N : Bd → PI} {rs : List (Int × Bd)} {j : Nat} {r : Int × Bd} (h : rs[j]? = some r) : tossA N rs (j + 1) = plusP (tossA N rs j) (byP (r.1, wsum rs) (N r.2)) := by
  unfold tossA
  rw [take_snoc h, List.foldl_append]
  rfl
theorem nxt_take {n : Nat} {b : Bd} {i : Nat} {s : St} (h : b[i]? = some s) : nxt ρ (n + 1) (b.take (i + 1)) = byP (nxt ρ (n + 1) (b.take i)) (nxS (nxt ρ n) ρ s) := by
  show (b.take (i + 1)).foldl _ _ = byP ((b.take i).foldl _ _) _
  rw [take_snoc h, List.foldl_append]
  rfl
theorem toss_sum {rs : List (Int × Bd)} {g : Bd → Nat} : (rs.map fun r => 9 + g r.2).sum = 9 * rs.length + ((rs.map fun r => r.2).map g).sum := by
  induction rs with
  | nil => rfl
  | cons r rs ih =>
    rw [List.map_cons, List.sum_cons, List.map_cons, List.map_cons, List.sum_cons, List.length_cons, ih]
    omega
end
end FR
set_option Elab.async false
set_option linter.all false
set_option maxRecDepth 100000
set_option maxHeartbeats 1000000
/-! _law_inner, _law_sorts -/
namespace FR
open PySem PySem.Spec PyProof.Rows L2
abbrev sLi : Stmt := FR.top 63
abbrev NLi : List Str := ["_law_statement_here", "_law_weight_here", "_law_inner_here"]
theorem scLi : FnScope NLi ["_law_statement_here"] (defScope sLi) := ⟨rfl, rfl, rfl, by decide +kernel, rfl, by decide +kernel, by decide +kernel⟩
/-- words and names of all statements -/
def srt : Nat → Bd → List (Str × Str)
  | 0, _ => []
  | n + 1, b => b.flatMap fun s => (s.word, s.nm) :: s.kids.flatMap (srt n)
theorem ta_same {te : TE} {t : L2.TA} {σ : L2.St} {H : Hp} {Q : List V → Hp → Prop} {v : V} (h : ∀ Q' : VK, (∀ H', Same H H' → Q' v H') → te σ H Q') (g : ∀ H', Same H H' → t σ H' fun xs H2 => Q (v :: xs) H2) : tCons te t σ H Q := h _ g
section
variable {P : Program} {w : World} {K : PySem.W.Frag} {mg : Str → Option Value} {base : Heap}
def spLi (n : Nat) : Sp := fun vs H Q _ => ∃ v x, vs = [v] ∧ StAt n H v x ∧ x.kids.length ≤ 90 ∧ ∀ l us H', H l = none → Same H H' → H' l = some (.lst us) → AG (fun w b => BdAt n H' w b) us x.kids → Q (.ref l) H'
theorem ok_li {f : Addr} {fd : FuncData} {n : Nat} (F : Fun K "_law_inner" "_law_inner" sLi f fd) (ml : mg "list" = none) : FnOk P w K mg base CX0 1 f fd ["_law_statement_here"] (spLi n) := by
  refine F.ok scLi (fun vs H Q E h => ?_) (fun cdv A outer s H vs Q E hr h => ?_)
  · obtain ⟨v, x, rfl, _⟩ := h
    rfl
  · obtain ⟨v, x, rfl, hv, few, q⟩ := h
    refine ⟨_, (pss_cons (ps_if (pt_cmpR op_eq (pe_ix ix_tup (pv 0) pe_int (fun _ _ => rfl)) pe_str (nomark _)) (pss_one (ps_ret (pe_lc (X := (cxOf CX0 P w K mg base NLi "_law_inner" (defScope sLi) f cdv A outer s H E).nox) (own := [("_law_weight_here", 1), ("_law_inner_here", 2)]) (g := (gTup K 2 (gCons (gName 1) (gCons (gName 2) gNil)))) (tt := tYes) rfl scLi.nd (pi_tup (pe_slice sl_tupA (pv 0) (po_some pe_int) po_none)) (blkOk_by (N := NLi) (sc := defScope sLi) (by decide +kernel)) (fun _ _ _ _ _ => (pg_tupK (K := K) rfl rfl (pgs_cons (pg_name (i := 1) scLi.nd rfl (.inl rfl)) (pgs_cons (pg_name (i := 2) scLi.nd rfl (.inl rfl)) pgs_nil)))) (fun _ _ _ _ _ => pts_nil) (fun _ _ _ _ _ => (pv 2))))) pss_nil)
      (pss_cons (ps_if (pt_cmpR op_eq (pe_ix ix_tup (pv 0) pe_int (fun _ _ => rfl)) pe_str (nomark _)) (pss_one (ps_ret (pe_lst (pa_cons (pe_ix ix_tup (pv 0) pe_int (fun _ _ => rfl)) pa_nil)))) pss_nil)
      (pss_one (ps_ret (pe_ifExp (pt_cmpR op_eq (pe_ix ix_tup (pv 0) pe_int (fun _ _ => rfl)) pe_str (nomark _)) (pe_callTy call_list_of (by rfl) ml (by decide +kernel) (pa_cons (pe_slice sl_tupA (pv 0) (po_some pe_int) po_none) pa_nil)) (pe_lst pa_nil)))))), ?_⟩
    obtain ⟨a, xs, rfl, ha⟩ := hv.head
    match x, hv, few, q, ha with
    | .note z, ⟨_, e, _⟩, few, q, ha => exact ⟨_, rfl, a, _, 0, _, rfl, rfl, SqT.of ha, atI_nat (j := 0) rfl, rfl, _, rfl, iteF ⟨_, rfl, a, _, 0, _, rfl, rfl, SqT.of ha, atI_nat (j := 0) rfl, rfl, _, rfl, iteF ⟨_, rfl, a, _, 0, _, rfl, rfl, SqT.of ha, atI_nat (j := 0) rfl, rfl, _, rfl, iteF ⟨Nat.zero_le _, fun p hp => q p [] _ hp (same_new hp) upd_same AG.nil⟩⟩⟩⟩
    | .call z, ⟨_, e, _⟩, few, q, ha => exact ⟨_, rfl, a, _, 0, _, rfl, rfl, SqT.of ha, atI_nat (j := 0) rfl, rfl, _, rfl, iteF ⟨_, rfl, a, _, 0, _, rfl, rfl, SqT.of ha, atI_nat (j := 0) rfl, rfl, _, rfl, iteF ⟨_, rfl, a, _, 0, _, rfl, rfl, SqT.of ha, atI_nat (j := 0) rfl, rfl, _, rfl, iteF ⟨Nat.zero_le _, fun p hp => q p [] _ hp (same_new hp) upd_same AG.nil⟩⟩⟩⟩
    | .stay, ⟨_, e, _⟩, few, q, ha => exact ⟨_, rfl, a, _, 0, _, rfl, rfl, SqT.of ha, atI_nat (j := 0) rfl, rfl, _, rfl, iteF ⟨_, rfl, a, _, 0, _, rfl, rfl, SqT.of ha, atI_nat (j := 0) rfl, rfl, _, rfl, iteF ⟨_, rfl, a, _, 0, _, rfl, rfl, SqT.of ha, atI_nat (j := 0) rfl, rfl, _, rfl, iteF ⟨Nat.zero_le _, fun p hp => q p [] _ hp (same_new hp) upd_same AG.nil⟩⟩⟩⟩
    | .again i j b, ⟨a', w0, e, ha', g⟩, few, q, ha =>
      cases e
      refine ⟨_, rfl, a, _, 0, _, rfl, rfl, SqT.of ha, atI_nat (j := 0) rfl, rfl, _, rfl, iteF ⟨_, rfl, a, _, 0, _, rfl, rfl, SqT.of ha, atI_nat (j := 0) rfl, rfl, _, rfl, iteT ?_⟩⟩
      refine ⟨_, rfl, a, _, 3, _, rfl, rfl, SqT.of ha', atI_nat (j := 3) rfl, small1000 (Nat.le_of_ble_eq_true rfl), fun p hp => ?_⟩
      have sp := same_new (o := .lst [w0]) hp
      exact q p [w0] _ hp sp upd_same (AG.consA (BdAt.same g sp) AG.nil)
    | .choose bs, ⟨a', ws, e, ha', g⟩, few, q, ha =>
      cases e
      obtain ⟨ec, ew⟩ := cut_tail (.str "choose") ws
      refine ⟨_, rfl, a, _, 0, _, rfl, rfl, SqT.of ha, atI_nat (j := 0) rfl, rfl, _, rfl, iteF ⟨_, rfl, a, _, 0, _, rfl, rfl, SqT.of ha, atI_nat (j := 0) rfl, rfl, _, rfl, iteF ⟨_, rfl, a, _, 0, _, rfl, rfl, SqT.of ha, atI_nat (j := 0) rfl, rfl, _, rfl, iteT ?_⟩⟩⟩
      refine ⟨_, rfl, _, rfl, a, _, rfl, SqT.of ha', fun z => (ew z).elim, fun _ p hp => ?_⟩
      rw [ec]
      have sp := same_new (o := .tup ws) hp
      have hp1 : upd H p (.tup ws) p = some (.tup ws) := upd_same
      generalize upd H p (.tup ws) = H1 at sp hp1 ⊢
      refine ⟨p, ws, rfl, .inr (SqT.of hp1), fun l hl => ?_⟩
      have s2 := sp.trans (same_new (o := .lst ws) hl)
      exact q l ws _ (none_of_same sp hl) s2 upd_same (g.imp fun _ _ z => BdAt.same z s2)
    | .toss rs, ⟨a', ws, e, ha', g⟩, few, q, ha =>
      cases e
      obtain ⟨ec, ew⟩ := cut_tail (.str "toss") ws
      refine ⟨_, rfl, a, _, 0, _, rfl, rfl, SqT.of ha, atI_nat (j := 0) rfl, rfl, _, rfl, iteT ?_⟩
      refine ⟨_, rfl, _, rfl, a, _, rfl, SqT.of ha', fun z => (ew z).elim, fun _ p hp => ?_⟩
      rw [ec]
      have sp := same_new (o := .tup ws) hp
      have hp1 : upd H p (.tup ws) p = some (.tup ws) := upd_same
      have g1 := g.imp (R' := fun w0 r => ∃ p0 x, w0 = .ref p0 ∧ upd H p (.tup ws) p0 = some (.tup [.int r.1, x]) ∧ BdAt n (upd H p (.tup ws)) x r.2) fun _ _ ⟨p0, x, e1, h1, z⟩ => ⟨p0, x, e1, sp _ _ h1, BdAt.same z sp⟩
      generalize upd H p (.tup ws) = H1 at sp hp1 g1 ⊢
      have lw : ws.length ≤ 90 := by rw [g1.1]; have : (rs.map fun r => r.2).length ≤ 90 := few; rw [List.length_map] at this; exact this
      refine ⟨p, rfl, ⟨_, SqT.of hp1⟩, fun D hD => ?_⟩
      refine lc_tup (xs := ws) (fun i Hc => Same H1 Hc ∧ ∃ us, Hc D = some (.lst us) ∧ AG (fun w b => BdAt n Hc w b) us ((rs.map fun r => r.2).take i)) ⟨same_new hD, [], upd_same, AG.nil⟩ (fun i Hc _ p' => SqT.of (p'.1 _ _ hp1)) ?_ ?_
      · rintro i v Hc hvi ⟨sm, us, hDc, hu⟩
        obtain ⟨r, hr, p0, x0, rfl, h0, z⟩ := g1.2 i v hvi
        have il := (List.getElem?_eq_some_iff.mp hvi).1
        have h0 := sm _ _ h0
        have z := BdAt.same z sm
        refine ⟨p0, _, rfl, SqT.of h0, rfl, _, _, rfl, _, _, rfl, rfl, rfl, ?_⟩
        have dt : ∀ b xs, Hc b = some (.tup xs) → upd Hc D (.lst (us ++ [x0])) b = some (.tup xs) := fun b xs e => by rw [upd_ne (fun y => by rw [y, hDc] at e; cases e)]; exact e
        refine ⟨_, rfl, us, hDc, small1000 (by rw [hu.1, List.length_take, List.length_map]; have := g1.1; omega), same_upd hD sm, us ++ [x0], upd_same, ?_⟩
        have hr2 : (rs.map fun r => r.2)[i]? = some r.2 := by rw [List.getElem?_map, hr]; rfl
        rw [take_snoc hr2]
        exact AG.snoc (hu.imp fun _ _ y => bdAt_keep dt n _ _ y) (bdAt_keep dt n _ _ z)
      · rintro Hc ⟨sm, us, hDc, hu⟩
        rw [List.take_of_length_le (by rw [List.length_map, g1.1]; exact Nat.le_refl _)] at hu
        exact q D us _ (none_of_same sp hD) (sp.trans sm) hDc hu
end
end FR
set_option Elab.async false
set_option linter.all false
set_option maxRecDepth 100000
set_option maxHeartbeats 1000000
/-! _law_noted; places and sorts -/
namespace FR
open PySem PySem.Spec PyProof.Rows L2
theorem zip_flat {α β : Type} (f : α → List β) : ∀ (l : List α) (i : Nat), ((l.zipIdx i).flatMap fun z => f z.1) = l.flatMap f
  | [], _ => rfl
  | x :: l, i => by
    show f x ++ ((l.zipIdx (i + 1)).flatMap fun z => f z.1) = f x ++ l.flatMap f
    rw [zip_flat f l]
theorem flat_congr {α β : Type} {f g : α → List β} : ∀ {l : List α}, (∀ x ∈ l, f x = g x) → l.flatMap f = l.flatMap g
  | [], _ => rfl
  | x :: l, h => by
    rw [List.flatMap_cons, List.flatMap_cons, h x List.mem_cons_self, flat_congr fun y hy => h y (List.mem_cons_of_mem _ hy)]
theorem map_flat {α β γ : Type} {f : α → List β} {g : β → γ} : ∀ {l : List α}, (l.flatMap f).map g = l.flatMap fun x => (f x).map g
  | [] => rfl
  | x :: l => by rw [List.flatMap_cons, List.map_append, map_flat, List.flatMap_cons]
theorem flat_flat {α β γ : Type} {f : α → List β} {g : β → List γ} : ∀ {l : List α}, (l.flatMap f).flatMap g = l.flatMap fun x => (f x).flatMap g
  | [] => rfl
  | x :: l => by rw [List.flatMap_cons, List.flatMap_append, flat_flat, List.flatMap_cons]
theorem flat_map {α β γ : Type} {f : α → β} {g : β → List γ} : ∀ {l : List α}, (l.map f).flatMap g = l.flatMap fun x => g (f x)
  | [] => rfl
  | x :: l => by rw [List.map_cons, List.flatMap_cons, flat_map, List.flatMap_cons]
theorem srt_placed : ∀ (n : Nat) (b : Bd) (p : List Nat), (placed n b p).map (fun y => (y.2.word, y.2.nm)) = srt n b
  | 0, _, _ => rfl
  | n + 1, b, p => by
    show (b.zipIdx.flatMap fun z => stP (placed n) z.1 (p ++ [z.2])).map _ = b.flatMap fun s => (s.word, s.nm) :: s.kids.flatMap (srt n)
    rw [map_flat, ← zip_flat (fun s : St => (s.word, s.nm) :: s.kids.flatMap (srt n)) b 0]
    refine flat_congr fun z _ => ?_
    show (z.1.word, z.1.nm) :: (z.1.kids.zipIdx.flatMap fun u => placed n u.1 (p ++ [z.2] ++ [u.2])).map _ = _
    rw [map_flat, ← zip_flat (srt n) z.1.kids 0]
    congr 1
    exact flat_congr fun u _ => srt_placed n u.1 _
theorem srt_len (n : Nat) (b : Bd) : (srt n b).length = cnt n b := by
  rw [← srt_placed n b [], List.length_map, placed_len]
def nts (b : Bd) : List Str := (srt 5 b).flatMap fun y => if y.1 = ("note" : Str) then [y.2] else []
theorem notes_allP (p : Pg) : notes (allP p) = p.flatMap fun x => nts x.2 := by
  unfold notes allP nts
  rw [flat_flat]
  refine flat_congr fun x _ => ?_
  rw [flat_map, ← srt_placed 5 x.2 [], flat_map]
theorem nts_len (b : Bd) : (nts b).length ≤ cnt 5 b := by
  rw [← srt_len]
  unfold nts
  generalize srt 5 b = l
  induction l with
  | nil => exact Nat.le_refl _
  | cons y l ih =>
    rw [List.flatMap_cons, List.length_append, List.length_cons]
    split
    · show 1 + _ ≤ _; omega
    · show 0 + _ ≤ _; omega
theorem allP_cnt (p : Pg) : (allP p).length = (p.map fun x => cnt 5 x.2).sum := by
  rw [allP_len]
  congr 1
  exact List.map_congr_left fun x _ => placed_len 5 x.2 []
theorem Prg.cnts {p : Pg} (h : Prg p) : (p.map fun x => cnt 5 x.2).sum ≤ 60 := by
  rw [← allP_cnt, allP_len]
  exact h.sz
end FR
set_option Elab.async false
set_option linter.all false
set_option maxRecDepth 100000
set_option maxHeartbeats 1000000
/-! _law_told -/
namespace FR
open PySem PySem.Spec PyProof.Rows L2
/-- data, at most n deep -/
def PlN (n : Nat) (d : PyData) : Prop := d.plain = true ∧ d.depth ≤ n
theorem PlN.pl {n : Nat} {d : PyData} (h : PlN n d) (le : n ≤ 60) : PlainD d := ⟨h.1, by have := h.2; omega⟩
theorem plainAll_of : ∀ {ds : List PyData}, (∀ d ∈ ds, d.plain = true) → PyData.plainAll ds = true
  | [], _ => rfl
  | d :: ds, h => by
    show (d.plain && PyData.plainAll ds) = true
    rw [h d List.mem_cons_self, plainAll_of fun y hy => h y (List.mem_cons_of_mem _ hy)]
    rfl
theorem depthAll_of {m : Nat} : ∀ {ds : List PyData}, (∀ d ∈ ds, d.depth ≤ m) → PyData.depthAll ds ≤ m
  | [], _ => Nat.zero_le _
  | d :: ds, h => by
    show max d.depth (PyData.depthAll ds) ≤ m
    exact Nat.max_le.mpr ⟨h d List.mem_cons_self, depthAll_of fun y hy => h y (List.mem_cons_of_mem _ hy)⟩
theorem PlN.tup {n : Nat} {ds : List PyData} (h : ∀ d ∈ ds, PlN n d) : PlN (n + 1) (.tuple ds) := ⟨plainAll_of fun d m => (h d m).1, by
  have := depthAll_of fun d m => (h d m).2
  show PyData.depthAll ds + 1 ≤ n + 1
  omega⟩
theorem PlN.lst {n : Nat} {ds : List PyData} (h : ∀ d ∈ ds, PlN n d) : PlN (n + 1) (.list ds) := ⟨plainAll_of fun d m => (h d m).1, by
  have := depthAll_of fun d m => (h d m).2
  show PyData.depthAll ds + 1 ≤ n + 1
  omega⟩
theorem PlN.str {n : Nat} (z : Str) : PlN n (.str z) := ⟨rfl, Nat.zero_le _⟩
theorem PlN.int {n : Nat} (i : Int) : PlN n (.int i) := ⟨rfl, Nat.zero_le _⟩
theorem PlN.up {n m : Nat} {d : PyData} (h : PlN n d) (le : n ≤ m) : PlN m d := ⟨h.1, Nat.le_trans h.2 le⟩
theorem all1 {n : Nat} {ds : List PyData} {d : PyData} (h : PlN n d) (g : ∀ x ∈ ds, PlN n x) : ∀ x ∈ d :: ds, PlN n x := fun x m => (List.mem_cons.mp m).elim (fun e => e ▸ h) (g x)
theorem all0 {n : Nat} : ∀ x ∈ ([] : List PyData), PlN n x := fun x m => absurd m List.not_mem_nil
theorem allM {α : Type} {n : Nat} {f : α → PyData} {l : List α} (h : ∀ x ∈ l, PlN n (f x)) : ∀ d ∈ l.map f, PlN n d := fun d m => by
  obtain ⟨x, hx, rfl⟩ := List.mem_map.mp m
  exact h x hx
def itD (x : Str × Bd) : PyData := .tuple [.str x.1, dB 5 x.2]
theorem itPl (x : Str × Bd) : PlN 16 (itD x) := .tup (all1 (PlN.str _) (all1 ⟨plainB 5 _, by have := depthB 5 x.2; omega⟩ all0))
theorem strPl (xs : List Str) : ∀ d ∈ xs.map PyData.str, PlN 0 d := allM fun z _ => PlN.str z
theorem dpStrs {K : PySem.W.Frag} {H : Hp} : ∀ xs : List Str, DpAll K H (xs.map V.str) (xs.map PyData.str)
  | [] => .nil
  | x :: xs => .cons (.str x) (dpStrs xs)
def ItAt (H : Hp) (v : V) (x : Str × Bd) : Prop := ∃ t w, v = .ref t ∧ H t = some (.tup [.str x.1, w]) ∧ BdAt 5 H w x.2
theorem dpIt {K : PySem.W.Frag} {H : Hp} {zs : List V} {ys : Pg} (h : AG (fun v x => ItAt H v x) zs ys) : DpAll K H zs (ys.map itD) :=
  dpAll (fun v x ⟨t, w, e, h1, h2⟩ => by rw [e]; exact .tup (.of h1) (.cons (.str _) (.cons (dpB 5 h2) .nil))) h
theorem eqv_nil {α : Type} (f : α → PyData) (l : List α) : PyData.eqv (.list (l.map f)) (.list []) = decide (l.length = 0) := by
  cases l with
  | nil => rfl
  | cons x l => rfl
theorem ItAt.tk {H H' : Hp} (k : Tk H H') {v : V} {x : Str × Bd} (h : ItAt H v x) : ItAt H' v x := by
  obtain ⟨t, w, e, h1, h2⟩ := h
  exact ⟨t, w, e, k.1 _ _ h1, k.bd h2⟩
theorem But.new {x : Addr} {H H' : Hp} (b : But x H H') {D : Addr} {o : HO} (f : H' D = none) : But x H (L2.upd H' D o) := b.trans (But.same (same_new f))
theorem iteNe {a b : V} {A B : Prop} (e : a = b) (h : B) : if (!decide (a = b)) = true then A else B := by
  subst e
  rw [decide_eq_true rfl]
  exact iteF h
theorem orNe {a b : V} {A B X : Prop} (e : a = b) (h : X) : if (!decide (a = b)) = true then (if true = true then A else B) else X := by
  subst e
  rw [decide_eq_true rfl]
  exact iteF h
/-- repr(bool) -/
theorem call_repr_bl {X : Cx} : CallR X (.builtin "repr") (fun xs H Q => ∃ b, xs = [.bl b] ∧ Q (.str (if b then "True" else "False")) H) := by
  intro pins s σ H xs us Q I r h
  obtain ⟨b, rfl, q⟩ := h
  obtain ⟨u, rfl, ru⟩ := vals1 r
  cases ru
  exact PySem.P.repr_of_bool ⟨.str _, H, I.tok _, ⟨_, rfl⟩, q⟩
end FR
set_option Elab.async false
set_option linter.all false
set_option maxRecDepth 100000
set_option maxHeartbeats 1000000
/-! dicts of bodies out of lists of pairs -/
namespace FR
open PySem PySem.Spec PyProof.Rows L2
theorem ite0 {c : Bool} {A B : Prop} (e : c = false) (h : B) : if c = true then A else B := by
  subst e
  exact iteF h
def mergeP (p q : Pg) : Pg := q.foldl (fun acc x => setP acc x.1 x.2) p
theorem PrgK.merge {H : Hp} : ∀ {more : List (Key × V)} {q : Pg} {kvs : List (Key × V)} {p : Pg}, PrgK H kvs p → PrgK H more q → PrgK H (mergeK kvs more) (mergeP p q)
  | [], [], _, _, h, _ => h
  | [], _ :: _, _, _, _, g => by simp [PrgK] at g
  | _ :: _, [], _, _, _, g => by simp [PrgK] at g
  | (k, v) :: more, y :: q, kvs, p, h, g => by
    obtain ⟨z, b, e1, e2, hb⟩ := g.2 0 k v rfl
    cases e2
    have t' : PrgK H more q := ⟨by have := g.1; simpa using this, fun i k v e => g.2 (i + 1) k v e⟩
    subst e1
    show PrgK H (mergeK (putK kvs (.inr z) v) more) (mergeP (setP p z b) q)
    exact PrgK.merge (h.set hb) t'
theorem mergeP_new : ∀ {q p : Pg}, (names (p ++ q)).Nodup → mergeP p q = p ++ q
  | [], p, _ => (List.append_nil p).symm
  | x :: q, p, h => by
    have e : p ++ x :: q = (p ++ [x]) ++ q := by rw [List.append_assoc]; rfl
    have hx : x.1 ∉ names p := fun c => by
      rw [names, List.map_append] at h
      exact (List.nodup_append.mp h).2.2 x.1 c x.1 (List.mem_cons_self) rfl
    show mergeP (setP p x.1 x.2) q = _
    rw [e] at h ⊢
    rw [setP_new hx]
    exact mergeP_new h
theorem IsPg.put {K : PySem.W.Frag} {C : Addr} {H H0 H1 : Hp} {x t : Addr} {p : Pg} {kvs : List (Key × V)} {o : HO} (h : IsPg K C H x p) (ht : H t = some (.dK kvs)) (f : FreshB H0 H1 x) (s : ∀ C dx fs, H1 x = some (.ins C dx fs) → H x = some (.ins C dx fs)) (h0 : ∃ u, H0 t = some u) : IsPg K C (upd H t o) x p := by
  obtain ⟨dx, d, e, c, kvs', es, cs, a1, a2, a3, a4, a5, a6, a7⟩ := h
  obtain ⟨d', C', dx', r, b1, b2⟩ := f
  have b1 := s _ _ _ b1
  rw [a1] at b1
  cases b1
  have nd : d ≠ t := fun z => by
    obtain ⟨u, hu⟩ := h0
    rw [z, hu] at b2
    cases b2
  have nx : x ≠ t := fun z => by rw [z, ht] at a1; cases a1
  have tk : Tk H (upd H t o) := Tk.upd ht (fun _ z => by cases z) fun _ _ z => by cases z
  exact ⟨dx, d, e, c, kvs', es, cs, by rw [upd_ne nx]; exact a1, by rw [upd_ne nd]; exact a2, tk.pg a3, tk.1 _ _ a4, a5, tk.1 _ _ a6, tk.chs a7⟩
theorem pg_eq {p q : Pg} (e : q.Perm p) (hn : (names p).Nodup) (hp : sortedS (names p) = true) (hq : sortedS (names q) = true) : q = p := by
  have en : names q = names p := sorted_perm (e.map _) hq hp
  have hn' : (names q).Nodup := by rw [en]; exact hn
  rw [← pg_eta hn, ← pg_eta hn', en]
  refine List.map_congr_left fun z hz => ?_
  obtain ⟨x, hx, rfl⟩ := List.mem_map.mp (show z ∈ p.map (·.1) from hz)
  rw [bodyOf_mem hn hx, bodyOf_mem hn' (e.mem_iff.mpr hx)]
theorem items_at {H : Hp} : ∀ {ts : List Addr} {kvs : List (Key × V)} {p : Pg}, Paired (fun (t : Addr) (q : Key × V) => H t = some (.tup [kV q.1, q.2])) ts kvs → PrgK H kvs p → AG (fun v x => ItAt H v x) (ts.map V.ref) p
  | _, _, [], .nil, _ => AG.nil
  | _, _, _ :: _, .nil, h => by simp [PrgK] at h
  | _, _, [], .cons _ _, h => by simp [PrgK] at h
  | t :: ts, (k, v) :: kvs, y :: p, .cons h1 h2, h => by
    obtain ⟨z, b, e1, e2, hb⟩ := h.2 0 k v rfl
    cases e2
    have t' : PrgK H kvs p := ⟨by have := h.1; simpa using this, fun i k v e => h.2 (i + 1) k v e⟩
    refine AG.consA ⟨t, v, rfl, ?_, hb⟩ (items_at h2 t')
    have h1 : H t = some (.tup [kV k, v]) := h1
    rw [e1] at h1
    exact h1
theorem paired_at {K : PySem.W.Frag} {H : Hp} : ∀ {vs : List V} {p : Pg}, AG (fun v x => ItAt H v x) vs p → ∃ (ps : List Addr) (kvs : List (Key × V)), vs = ps.map V.ref ∧ Paired (fun p kv => SqT K H p [kV kv.1, kv.2]) ps kvs ∧ PrgK H kvs p
  | [], [], _ => ⟨[], [], rfl, .nil, PrgK.nil⟩
  | [], _ :: _, h => by simp [AG] at h
  | _ :: _, [], h => by simp [AG] at h
  | v :: vs, x :: p, h => by
    obtain ⟨⟨t, w, rfl, h1, hb⟩, h2⟩ := AG.uncons h
    obtain ⟨ps, kvs, rfl, g1, g2⟩ := paired_at (K := K) h2
    refine ⟨t :: ps, (.inr x.1, w) :: kvs, rfl, .cons (SqT.of h1) g1, ⟨by simp [g2.1], fun i k u e => ?_⟩⟩
    cases i with
    | zero => cases e; exact ⟨x.1, x.2, rfl, rfl, hb⟩
    | succ i => exact g2.2 i k u e
theorem ite1 {c : Bool} {A B : Prop} (e : c = true) (h : A) : if c = true then A else B := by
  subst e
  exact iteT h
theorem setP_in {p : Pg} {z : Str} {b : Bd} (h : z ∈ names p) : setP p z b = p.map fun x => if x.1 = z then (z, b) else x := by
  unfold setP
  rw [if_pos h]
theorem merge_nil {H : Hp} {kvs : List (Key × V)} {p : Pg} (h : PrgK H kvs p) (hn : (names p).Nodup) : PrgK H (mergeK [] kvs) p := by
  have := PrgK.merge PrgK.nil h
  rw [mergeP_new (p := []) (q := p) hn] at this
  exact this
end FR
set_option Elab.async false
set_option linter.all false
set_option maxRecDepth 100000
set_option maxHeartbeats 1000000
/-! slices and sums of tuples, whichever object they give -/
namespace FR
open PySem PySem.Spec PyProof.Rows L2
/-- a path's numbers -/
abbrev pI (l : List Nat) : List V := l.map fun i => V.int (i : Nat)
theorem cut_all {xs : List V} {lo hi : Option Int} (z : HT.sIx xs.length 0 lo = 0 ∧ HT.sIx xs.length xs.length hi = xs.length) : cutV xs lo hi = xs := by
  unfold cutV
  rw [z.1, z.2, List.drop_zero, Nat.sub_zero, List.take_length]
theorem sla_tup {K : PySem.W.Frag} {H : Hp} {a : Addr} {xs : List V} {lo hi : Option Int} {Q : VK} (h : H a = some (.tup xs)) (q : ∀ t H', Same H H' → H' t = some (.tup (cutV xs lo hi)) → Q (.ref t) H') : rSlA K (.ref a) lo hi H Q :=
  ⟨a, xs, rfl, SqT.of h, fun z => q a H (Same.refl H) (by rw [cut_all z]; exact h), fun _ p hp => q p _ (same_new hp) upd_same⟩
theorem cat_tup {K : PySem.W.Frag} {H : Hp} {a b : Addr} {xs ys : List V} {Q : VK} (h : H a = some (.tup xs)) (g : H b = some (.tup ys)) (le : xs.length + ys.length ≤ 900) (q : ∀ t H', Same H H' → H' t = some (.tup (xs ++ ys)) → Q (.ref t) H') : rCatA K (.ref a) (.ref b) H Q :=
  ⟨a, b, xs, ys, rfl, rfl, SqT.of h, SqT.of g, Nat.le_of_lt (small1000 (by omega)), fun e => q b H (Same.refl H) (by rw [e]; exact g), fun _ e => q a H (Same.refl H) (by rw [e, List.append_nil]; exact h), fun _ _ p hp => q p _ (same_new hp) upd_same⟩
theorem cut_to (xs : List V) (k : Nat) : cutV xs none (some (k : Int)) = xs.take k := by
  unfold cutV
  rw [HT.sIx_nat, HT.sIx_none, List.drop_zero, Nat.sub_zero]
  rcases Nat.le_total k xs.length with h | h
  · rw [Nat.min_eq_left h]
  · rw [Nat.min_eq_right h, List.take_length, List.take_of_length_le h]
theorem cut_from (xs : List V) (k : Nat) : cutV xs (some (k : Int)) none = xs.drop k := by
  unfold cutV
  rw [HT.sIx_nat, HT.sIx_none]
  rcases Nat.le_total k xs.length with h | h
  · rw [Nat.min_eq_left h, List.take_of_length_le (by rw [List.length_drop]; omega)]
  · rw [Nat.min_eq_right h, List.drop_of_length_le h, List.drop_of_length_le (Nat.le_refl _), List.take_nil]
theorem cut_last (xs : List V) (y : V) : cutV (xs ++ [y]) none (some (-1)) = xs := by
  unfold cutV
  have e : HT.sIx (xs ++ [y]).length (xs ++ [y]).length (some (-1)) = xs.length := by
    show (if (-1 : Int) < 0 then ((-1 : Int) + ((xs ++ [y]).length : Nat)).toNat else min (-1 : Int).toNat (xs ++ [y]).length) = _
    rw [if_pos (by decide), List.length_append]
    show ((-1 : Int) + ((xs.length + 1 : Nat) : Int)).toNat = _
    omega
  rw [e, HT.sIx_none, List.drop_zero, Nat.sub_zero, List.take_left']
  rfl
theorem AG.drop {α : Type} {R : V → α → Prop} {vs : List V} {ps : List α} (h : AG R vs ps) (n : Nat) : AG R (vs.drop n) (ps.drop n) := ⟨by rw [List.length_drop, List.length_drop, h.1], fun i v e => by
  rw [List.getElem?_drop] at e ⊢
  exact h.2 _ v e⟩
theorem AG.set {α : Type} {R : V → α → Prop} {vs : List V} {ps : List α} (h : AG R vs ps) (n : Nat) {v : V} {p : α} (r : R v p) : AG R (vs.set n v) (ps.set n p) := ⟨by rw [List.length_set, List.length_set, h.1], fun i u e => by
  rw [List.getElem?_set] at e ⊢
  by_cases c : n = i
  · rw [if_pos c] at e ⊢
    by_cases d : n < vs.length
    · rw [if_pos d] at e
      cases e
      rw [if_pos (by rw [← h.1]; exact d)]
      exact ⟨p, rfl, r⟩
    · rw [if_neg d] at e
      cases e
  · rw [if_neg c] at e ⊢
    exact h.2 _ u e⟩
theorem set_cut {α : Type} {l : List α} {n : Nat} {x : α} (h : n < l.length) : l.set n x = l.take n ++ [x] ++ l.drop (n + 1) := by
  rw [List.set_eq_take_append_cons_drop, if_pos h, List.append_assoc]
  rfl
/-- a body's statements, as they stand -/
theorem BdAt.open {n : Nat} {H : Hp} {v : V} {b : Bd} (h : BdAt n H v b) : ∃ m a xs, n = m + 1 ∧ v = .ref a ∧ H a = some (.tup xs) ∧ AG (fun w s => StAt m H w s) xs b := by
  cases n with
  | zero => exact h.elim
  | succ m =>
    obtain ⟨a, xs, e, ha, g⟩ := h
    exact ⟨m, a, xs, rfl, e, ha, g⟩
theorem AG.st {n : Nat} {H H' : Hp} {xs : List V} {b : Bd} (g : AG (fun w s => StAt n H w s) xs b) (s : Same H H') : AG (fun w s => StAt n H' w s) xs b := g.imp fun _ _ h => h.same s
theorem AG.bd {n : Nat} {H H' : Hp} {xs : List V} {b : List Bd} (g : AG (fun w s => BdAt n H w s) xs b) (s : Same H H') : AG (fun w s => BdAt n H' w s) xs b := g.imp fun _ _ h => h.same s
/-- a body of few levels needs no more -/
theorem bd_low {A : St → Prop} : ∀ {n m : Nat} {H : Hp} {v : V} {b : Bd}, Al A n b → BdAt m H v b → BdAt n H v b
  | n + 1, 0, _, _, _, _, h => h.elim
  | n + 1, m + 1, H, v, b, al, ⟨a, xs, e, ha, g⟩ => by
    refine ⟨a, xs, e, ha, g.1, fun i w hw => ?_⟩
    obtain ⟨s, hs, r⟩ := g.2 i w hw
    refine ⟨s, hs, ?_⟩
    have ks := (al s (List.mem_of_getElem? hs)).2
    match s, r, ks with
    | .note _, r, _ => exact r
    | .call _, r, _ => exact r
    | .stay, r, _ => exact r
    | .again i j c, ⟨p, u, e1, e2, r⟩, ks => exact ⟨p, u, e1, e2, bd_low (ks c (List.mem_singleton.mpr rfl)) r⟩
    | .choose bs, ⟨p, us, e1, e2, r⟩, ks => exact ⟨p, us, e1, e2, r.1, fun i u hu => by
        obtain ⟨c, hc, r2⟩ := r.2 i u hu
        exact ⟨c, hc, bd_low (ks c (List.mem_of_getElem? hc)) r2⟩⟩
    | .toss rs, ⟨p, us, e1, e2, r⟩, ks => exact ⟨p, us, e1, e2, r.1, fun i u hu => by
        obtain ⟨c, hc, q, x, f1, f2, r2⟩ := r.2 i u hu
        exact ⟨c, hc, q, x, f1, f2, bd_low (ks c.2 (List.mem_map.mpr ⟨c, List.mem_of_getElem? hc, rfl⟩)) r2⟩⟩
end FR
set_option Elab.async false
set_option pp.maxSteps 1500
set_option linter.all false
set_option maxRecDepth 100000
set_option maxHeartbeats 1000000
/-! part_within -/
namespace FR
open PySem PySem.Spec PyProof.Rows L2
abbrev sPw : Stmt := FR.top 17
abbrev NPw : List Str := ["body", "path", "part", "is_in_body", "number", "parts"]
theorem scPw : FnScope NPw ["body", "path"] (defScope sPw) := ⟨rfl, rfl, rfl, by decide +kernel, rfl, by decide +kernel, by decide +kernel⟩
/-- what stands at a path -/
def stepP : Bd ⊕ St → Nat → Option (Bd ⊕ St)
  | .inl b, i => (b[i]?).map .inr
  | .inr s, j => if s.kids.length ≤ 90 then (s.kids[j]?).map .inl else none
def walkP : Bd ⊕ St → List Nat → Option (Bd ⊕ St)
  | x, [] => some x
  | x, i :: r => (stepP x i).bind fun y => walkP y r
def isB : Bd ⊕ St → Bool
  | .inl _ => true
  | .inr _ => false
def PtAt (H : Hp) (v : V) : Bd ⊕ St → Prop
  | .inl b => BdAt 5 H v b
  | .inr s => StAt 5 H v s
theorem PtAt.same {H H' : Hp} {v : V} {y : Bd ⊕ St} (h : PtAt H v y) (s : Same H H') : PtAt H' v y := by
  cases y with
  | inl b => exact BdAt.same h s
  | inr t => exact StAt.same h s
theorem walkP_app : ∀ (p q : List Nat) (x : Bd ⊕ St), walkP x (p ++ q) = (walkP x p).bind fun y => walkP y q
  | [], q, x => rfl
  | i :: p, q, x => by
    show ((stepP x i).bind fun y => walkP y (p ++ q)) = ((stepP x i).bind fun y => walkP y p).bind fun y => walkP y q
    cases stepP x i with
    | none => rfl
    | some y => exact walkP_app p q y
theorem walk_flat {A : St → Prop} (hA : ∀ s, A s → s.kids.length ≤ 90) : ∀ {ps : List (Nat × Nat)} {n : Nat} {b : Bd}, Al A n b → InB b ps → walkP (.inl b) (flat ps) = some (.inl (atB b ps))
  | [], _, _, _, _ => rfl
  | x :: r, n + 1, b, al, ⟨h1, h2, h3⟩ => by
    have hs := al _ (List.mem_of_getElem? (get_lt .stay h1))
    have e1 : stepP (.inl b) x.1 = some (.inr (b.getD x.1 .stay)) := by
      show (b[x.1]?).map _ = _
      rw [get_lt .stay h1]; rfl
    have e2 : stepP (.inr (b.getD x.1 .stay)) x.2 = some (.inl ((b.getD x.1 .stay).kids.getD x.2 [])) := by
      show (if _ then _ else _) = _
      rw [if_pos (hA _ hs.1), get_lt [] h2]; rfl
    show ((stepP (.inl b) x.1).bind fun y => (stepP y x.2).bind fun z => walkP z (flat r)) = _
    rw [e1]
    show ((stepP (.inr (b.getD x.1 .stay)) x.2).bind fun z => walkP z (flat r)) = _
    rw [e2]
    exact walk_flat hA (hs.2 _ (List.mem_of_getElem? (get_lt [] h2))) h3
theorem walk_st {A : St → Prop} (hA : ∀ s, A s → s.kids.length ≤ 90) {ps : List (Nat × Nat)} {n i : Nat} {b : Bd} {s : St} (al : Al A n b) (w : InB b ps) (h : (atB b ps)[i]? = some s) : walkP (.inl b) (flat ps ++ [i]) = some (.inr s) := by
  rw [walkP_app, walk_flat hA al w]
  show ((stepP (.inl (atB b ps)) i).bind fun y => walkP y []) = _
  show (((atB b ps)[i]?).map Sum.inr).bind _ = _
  rw [h]
  rfl
section
variable {P : Program} {w : World} {K : PySem.W.Frag} {mg : Str → Option Value} {base : Heap}
def spPw : Sp := fun vs H Q _ => ∃ (v : V) (pa : Addr) (b : Bd) (p : List Nat) (y : Bd ⊕ St), vs = [v, .ref pa] ∧ BdAt 5 H v b ∧ H pa = some (.tup (pI p)) ∧ walkP (.inl b) p = some y ∧ ∀ u H', Same H H' → PtAt H' u y → Q u H'
theorem ok_pw {f : Addr} {fd : FuncData} (F : Fun K "part_within" "part_within" sPw f fd) (ml : mg "len" = none) (gB : ∀ n, Glo P w K mg base "bodies_in" 1 ["statement"] (spBin n)) (gBt : Glo P w K mg base "is_between" 2 ["value", "least", "greatest"] spBetX) : FnOk P w K mg base CX0 3 f fd ["body", "path"] spPw := by
  refine F.ok scPw (fun vs H Q E h => ?_) (fun cdv A outer s H vs Q E hr h => ?_)
  · obtain ⟨v, pa, b, p, y, rfl, _⟩ := h
    rfl
  · obtain ⟨v, pa, b, p, y, rfl, hb, hp, hy, q⟩ := h
    refine ⟨_, (pss_cons (ps_set (i := 2) scPw.nd rfl (Or.inl rfl) (pv 0))
      (pss_cons (ps_set (i := 3) scPw.nd rfl (Or.inl rfl) pe_bl)
      (pss_cons (ps_for PassesOwn.never rfl (pi_tup (pv 1)) (pg_name (i := 4) scPw.nd rfl (.inl rfl)) (pss_cons (ps_set (i := 5) scPw.nd rfl (Or.inl rfl) (pe_ifExp (pt_val (pv 3)) (pv 2) (pe_call (gB 5).G (hr.mono (by decide)) (by rfl) (gB 5).m (gB 5).k (gB 5).b .nil pass0 (pa_cons (pv 2) pa_nil))))
      (pss_cons (ps_if (pt_not (pt_val (pe_call gBt.G (hr.mono (by decide)) (by rfl) gBt.m gBt.k gBt.b .nil pass0 (pa_cons (pv 4) (pa_cons pe_int (pa_cons (pe_op op_sub (pe_callB call_len_seq (by rfl) ml PySem.boot_len (pa_cons (pv 5) pa_nil)) pe_int) pa_nil)))))) pss_never pss_nil)
      (pss_cons (ps_set (i := 2) scPw.nd rfl (Or.inl rfl) (pe_ix ix_tup (pv 5) (pv 4) (fun _ _ => rfl)))
      (pss_one (ps_set (i := 3) scPw.nd rfl (Or.inl rfl) (pe_not (pv 3))))))))
      (pss_one (ps_ret (pv 2)))))), ?_⟩
    have go : ∀ i, i ≤ p.length → ∃ y', walkP (.inl b) (p.take i) = some y' := fun i hi => by
      have e : walkP (.inl b) (p.take i ++ p.drop i) = some y := by rw [List.take_append_drop]; exact hy
      rw [walkP_app] at e
      cases c : walkP (.inl b) (p.take i) with
      | none => rw [c] at e; cases e
      | some y' => exact ⟨y', rfl⟩
    refine ⟨_, rfl, ?_⟩
    refine ⟨_, rfl, pa, rfl, ⟨_, SqT.of hp⟩, ?_⟩
    refine for_it (walk_tup (xs := pI p)) (fun i σ Hc => Same H Hc ∧ ∃ (u : V) (y' : Bd ⊕ St) (x4 x5 : Option V), σ = [some v, some (.ref pa), some u, some (.bl (isB y')), x4, x5] ∧ walkP (.inl b) (p.take i) = some y' ∧ PtAt Hc u y')
      ⟨Same.refl H, v, .inl b, _, _, rfl, rfl, hb⟩ (fun i σ Hc _ z => SqT.of (z.1 _ _ hp)) ?_ ?_
    · rintro i v0 σ Hc H'' hii ⟨sc, u, y', x4, x5, rfl, hw, pt⟩ ⟨rfl, hv0⟩
      rw [List.length_map] at hii
      obtain ⟨k, hk, rfl⟩ : ∃ k, p[i]? = some k ∧ v0 = .int (k : Nat) := by
        rw [List.getElem?_map] at hv0
        cases e : p[i]? with
        | none => rw [e] at hv0; cases hv0
        | some k => rw [e] at hv0; cases hv0; exact ⟨k, rfl, rfl⟩
      obtain ⟨z, hz⟩ := go (i + 1) (by omega)
      have hz2 := hz
      rw [take_snoc hk, walkP_app, hw] at hz2
      have hz3 : (stepP y' k).bind (fun y => walkP y []) = some z := hz2
      have hst : stepP y' k = some z := by
        cases c : stepP y' k with
        | none => rw [c] at hz3; cases hz3
        | some z' => rw [c] at hz3; exact hz3
      have bet : ∀ {n : Nat}, k < n → (decide ((0 : Int) ≤ (k : Nat)) && decide (((k : Nat) : Int) ≤ ((n : Nat) : Int) - 1)) = true := fun {n} h => by
        rw [decide_eq_true (by omega), decide_eq_true (by omega)]
        rfl
      cases y' with
      | inl c =>
        obtain ⟨m, a, us, em, rfl, ha, hu⟩ := BdAt.open (show BdAt 5 H'' u c from pt)
        have hck : (c[k]?).map Sum.inr = some z := hst
        obtain ⟨s0, hs0, rfl⟩ : ∃ s0, c[k]? = some s0 ∧ z = .inr s0 := by
          cases e : c[k]? with
          | none => rw [e] at hck; cases hck
          | some s0 => rw [e] at hck; exact ⟨s0, rfl, (Option.some.inj hck).symm⟩
        have kl : k < us.length := by rw [hu.1]; exact (List.getElem?_eq_some_iff.mp hs0).1
        have hu' : us[k]? = some us[k] := List.getElem?_eq_getElem kl
        obtain ⟨s1, hs1, rs⟩ := hu.2 k _ hu'
        rw [hs0] at hs1
        cases hs1
        refine ⟨_, rfl, true, rfl, iteT ⟨_, rfl, ?_⟩⟩
        refine ⟨_, rfl, _, rfl, a, us, rfl, .inr (SqT.of ha), _, _, rfl, rfl, _, _, _, rfl, _, rfl, ?_⟩
        rw [bet kl]
        refine iteF ?_
        refine ⟨_, rfl, _, rfl, a, _, _, _, rfl, rfl, SqT.of ha, atI_nat (j := k) hu', ?_⟩
        refine ⟨_, rfl, _, rfl, ?_⟩
        have em : m = 4 := by omega
        subst em
        exact ⟨sc, us[k], .inr s0, _, _, rfl, hz, StAt.up rs⟩
      | inr s1 =>
        have hck : (if s1.kids.length ≤ 90 then (s1.kids[k]?).map Sum.inl else none) = some z := hst
        by_cases l90 : s1.kids.length ≤ 90
        · rw [if_pos l90] at hck
          obtain ⟨c, hc, rfl⟩ : ∃ c, s1.kids[k]? = some c ∧ z = .inl c := by
            cases e : s1.kids[k]? with
            | none => rw [e] at hck; cases hck
            | some c => rw [e] at hck; exact ⟨c, rfl, (Option.some.inj hck).symm⟩
          refine ⟨_, rfl, false, rfl, iteF ⟨_, rfl, u, s1, rfl, pt, l90, fun a us H3 s3 ha hu => ?_⟩⟩
          have kl : k < us.length := by rw [hu.1]; exact (List.getElem?_eq_some_iff.mp hc).1
          have hu' : us[k]? = some us[k] := List.getElem?_eq_getElem kl
          obtain ⟨c1, hc1, rc⟩ := hu.2 k _ hu'
          rw [hc] at hc1
          cases hc1
          refine ⟨_, rfl, _, rfl, a, us, rfl, .inr (SqT.of ha), _, _, rfl, rfl, _, _, _, rfl, _, rfl, ?_⟩
          rw [bet kl]
          refine iteF ?_
          refine ⟨_, rfl, _, rfl, a, _, _, _, rfl, rfl, SqT.of ha, atI_nat (j := k) hu', ?_⟩
          refine ⟨_, rfl, _, rfl, ?_⟩
          exact ⟨sc.trans s3, us[k], .inl c, _, _, rfl, hz, rc⟩
        · rw [if_neg l90] at hck
          cases hck
    · rintro σ Hc ⟨sc, u, y', x4, x5, rfl, hw, pt⟩
      rw [List.length_map, List.take_length, hy] at hw
      cases hw
      exact ⟨_, rfl, q u Hc sc pt⟩
end
end FR
set_option Elab.async false
set_option pp.maxSteps 1500
set_option linter.all false
set_option maxRecDepth 100000
set_option maxHeartbeats 1000000
/-! with_part -/
namespace FR
open PySem PySem.Spec PyProof.Rows L2
abbrev sWp : Stmt := FR.top 18
abbrev NWp : List Str := ["body", "path", "part", "at", "inner", "bodies", "changed", "statement"]
theorem scWp : FnScope NWp ["body", "path", "part"] (defScope sWp) := ⟨rfl, rfl, rfl, by decide +kernel, rfl, by decide +kernel, by decide +kernel⟩
theorem flat_len (ps : List (Nat × Nat)) : (flat ps).length = 2 * ps.length := by
  induction ps with
  | nil => rfl
  | cons x r ih =>
    show (flat r).length + 1 + 1 = 2 * (r.length + 1)
    omega
section
variable {P : Program} {w : World} {K : PySem.W.Frag} {mg : Str → Option Value} {base : Heap}
def spWp (n : Nat) : Sp := fun vs H Q _ => ∃ (v u : V) (pa : Addr) (b k : Bd) (ps : List (Nat × Nat)) (ns : List Str), vs = [v, .ref pa, u] ∧ BdAt n H v b ∧ Al (Ok1 ns) n b ∧ cnt n b ≤ 60 ∧ H pa = some (.tup (pI (flat ps))) ∧ InB b ps ∧ BdAt (n - ps.length) H u k ∧ ∀ z H', Same H H' → BdAt n H' z (wpB b ps k) → Q z H'
theorem ok_wp {f : Addr} {fd : FuncData} {n c : Nat} (F : Fun K "with_part" "with_part" sWp f fd) (ml : mg "len" = none) (gB : Glo P w K mg base "bodies_in" 1 ["statement"] (spBin n)) (gWb : Glo P w K mg base "with_bodies" 2 ["statement", "bodies"] (spWb K n n))
    (GS : FnOk P w K mg base CX0 c f fd ["body", "path", "part"] (spWp n)) (c2 : 2 ≤ c) (mS : mg "with_part" = some (.ref f)) (kS : PySem.W.keepIn K (.ref f) = true) (bS : Binds K fd ["body", "path", "part"] []) : FnOk P w K mg base CX0 (c + 1) f fd ["body", "path", "part"] (spWp (n + 1)) := by
  refine F.ok scWp (fun vs H Q E h => ?_) (fun cdv A outer s H vs Q E hr h => ?_)
  · obtain ⟨v, u, pa, b, k, ps, ns, rfl, _⟩ := h
    rfl
  · obtain ⟨v, u, pa, b, k, ps, ns, rfl, hb, al, c60, hp, inb, hk, q⟩ := h
    refine ⟨_, (pss_cons (ps_if (pt_cmpR op_eq (pe_callB call_len_seq (by rfl) ml PySem.boot_len (pa_cons (pv 1) pa_nil)) pe_int (nomark _)) (pss_one (ps_ret (pv 2))) pss_nil)
      (pss_cons (ps_set (i := 3) scWp.nd rfl (Or.inl rfl) (pe_ix ix_tup (pv 1) pe_int (fun _ _ => rfl)))
      (pss_cons (ps_if (pt_cmpR op_eq (pe_callB call_len_seq (by rfl) ml PySem.boot_len (pa_cons (pv 1) pa_nil)) pe_int (nomark _)) pss_never pss_nil)
      (pss_cons (ps_set (i := 4) scWp.nd rfl (Or.inl rfl) (pe_ix ix_tup (pv 1) pe_int (fun _ _ => rfl)))
      (pss_cons (ps_set (i := 5) scWp.nd rfl (Or.inl rfl) (pe_call gB.G (hr.mono (by omega)) (by rfl) gB.m gB.k gB.b .nil pass0 (pa_cons (pe_ix ix_tup (pv 0) (pv 3) (fun _ _ => rfl)) pa_nil)))
      (pss_cons (ps_set (i := 6) scWp.nd rfl (Or.inl rfl) (pe_call GS hr (by rfl) mS kS bS .nil pass0 (pa_cons (pe_ix ix_tup (pv 5) (pv 4) (fun _ _ => rfl)) (pa_cons (pe_slice sl_tupA (pv 1) (po_some pe_int) po_none) (pa_cons (pv 2) pa_nil)))))
      (pss_cons (ps_set (i := 7) scWp.nd rfl (Or.inl rfl) (pe_call gWb.G (hr.mono (by omega)) (by rfl) gWb.m gWb.k gWb.b .nil pass0 (pa_cons (pe_ix ix_tup (pv 0) (pv 3) (fun _ _ => rfl)) (pa_cons (pe_op op_catA (pe_op op_catA (pe_slice sl_tupA (pv 5) po_none (po_some (pv 4))) (pe_tup (pa_cons (pv 6) pa_nil))) (pe_slice sl_tupA (pv 5) (po_some (pe_op op_add (pv 4) pe_int)) po_none)) pa_nil))))
      (pss_one (ps_ret (pe_op op_catA (pe_op op_catA (pe_slice sl_tupA (pv 0) po_none (po_some (pv 3))) (pe_tup (pa_cons (pv 7) pa_nil))) (pe_slice sl_tupA (pv 0) (po_some (pe_op op_add (pv 3) pe_int)) po_none))))))))))), ?_⟩
    cases ps with
    | nil =>
      refine ⟨_, rfl, pa, _, rfl, .inr (SqT.of hp), rfl, _, rfl, iteT ⟨_, rfl, q u H (Same.refl H) hk⟩⟩
    | cons x r =>
      obtain ⟨h1, h2, h3⟩ := inb
      have hs0 := get_lt .stay h1
      have hk0 := get_lt [] h2
      have als := al _ (List.mem_of_getElem? hs0)
      have alk := als.2 _ (List.mem_of_getElem? hk0)
      obtain ⟨m, a, xs, em, rfl, ha, hx⟩ := hb.open
      obtain rfl : n = m := by omega
      have lx : xs.length = b.length := hx.1
      have lb : b.length ≤ 60 := Nat.le_trans (Nat.le_add_right _ _) c60
      generalize hsd : b.getD x.1 .stay = s0 at h2 h3 hs0 hk0 als alk
      generalize hkd : s0.kids.getD x.2 [] = k0 at h3 hk0 alk
      have c0 : cnt n k0 ≤ 60 := Nat.le_trans (cnt_kid (List.mem_of_getElem? hs0) (List.mem_of_getElem? hk0)) c60
      have few : s0.kids.length ≤ 90 := by have := ok_few als.1.1; omega
      have xl : x.1 < xs.length := by omega
      have hxs : xs[x.1]? = some xs[x.1] := List.getElem?_eq_getElem xl
      obtain ⟨s1, hs1, rs⟩ := hx.2 _ _ hxs
      rw [hs0] at hs1
      cases hs1
      generalize xs[x.1] = vs at hxs rs
      have pe : pI (flat (x :: r)) = V.int (x.1 : Nat) :: V.int (x.2 : Nat) :: pI (flat r) := rfl
      have pl : (pI (flat (x :: r))).length = 2 * r.length + 2 := by rw [List.length_map, flat_len]; rfl
      have at0 : atI (pI (flat (x :: r))) 0 = some (V.int (x.1 : Nat)) := atI_nat (j := 0) rfl
      have at1 : atI (pI (flat (x :: r))) 1 = some (V.int (x.2 : Nat)) := atI_nat (j := 1) rfl
      refine ⟨_, rfl, pa, _, rfl, .inr (SqT.of hp), rfl, _, rfl, ?_⟩
      rw [pl]
      refine ite2 (fun z => absurd (V.int.inj (of_decide_eq_true z)) (by omega)) (fun _ => ?_)
      refine ⟨_, rfl, pa, _, _, _, rfl, rfl, SqT.of hp, at0, ?_⟩
      refine ⟨_, rfl, pa, _, rfl, .inr (SqT.of hp), rfl, _, rfl, ?_⟩
      rw [pl]
      refine ite2 (fun z => absurd (V.int.inj (of_decide_eq_true z)) (by omega)) (fun _ => ?_)
      refine ⟨_, rfl, pa, _, _, _, rfl, rfl, SqT.of hp, at1, ?_⟩
      -- bodies
      refine ⟨_, rfl, _, rfl, a, _, _, _, rfl, rfl, SqT.of ha, atI_nat (j := x.1) hxs, ?_⟩
      refine ⟨_, s0, rfl, rs, few, fun ba ws H1 s1 hba hws => ?_⟩
      have lws : ws.length = s0.kids.length := hws.1
      have wl : x.2 < ws.length := by omega
      have hww : ws[x.2]? = some ws[x.2] := List.getElem?_eq_getElem wl
      obtain ⟨k1, hk1, rk⟩ := hws.2 _ _ hww
      rw [hk0] at hk1
      cases hk1
      generalize ws[x.2] = vk at hww rk
      have hp1 := s1 _ _ hp
      have ha1 := s1 _ _ ha
      refine ⟨_, rfl, _, rfl, ba, _, _, _, rfl, rfl, SqT.of hba, atI_nat (j := x.2) hww, ?_⟩
      refine ⟨_, rfl, _, rfl, ?_⟩
      dsimp only [tNoPart]
      refine sla_tup hp1 fun pb H2 s2 hpb => ?_
      have epb : cutV (pI (flat (x :: r))) (some 2) none = pI (flat r) := by
        rw [pe]
        exact cut_from _ 2
      rw [epb] at hpb
      have s02 := s1.trans s2
      refine ⟨_, rfl, vk, u, pb, k0, k, r, ns, rfl, rk.same s2, alk, c0, hpb, h3, ?_, fun z H3 s3 hz => ?_⟩
      · have := hk.same s02
        rw [List.length_cons, Nat.add_sub_add_right] at this
        exact this
      have s03 := s02.trans s3
      have hba3 := s3 _ _ (s2 _ _ hba)
      have hws3 := AG.bd hws (s2.trans s3)
      -- statement
      refine ⟨_, rfl, _, rfl, a, _, _, _, rfl, rfl, SqT.of (s03 _ _ ha), atI_nat (j := x.1) hxs, ?_⟩
      refine ⟨_, rfl, _, rfl, _, rfl, ?_⟩
      dsimp only [tNoPart]
      refine sla_tup hba3 fun t4 H4 s4 ht4 => ?_
      rw [cut_to] at ht4
      have lw4 : (ws.take x.2).length ≤ 90 := by rw [List.length_take]; omega
      refine ⟨_, rfl, small1000 (Nat.le_of_ble_eq_true rfl), fun t5 ht5 => ?_⟩
      have s5 := same_new (o := .tup [z]) ht5
      have h5 : upd H4 t5 (.tup [z]) t5 = some (.tup [z]) := upd_same
      generalize upd H4 t5 (.tup [z]) = H5 at s5 h5 ⊢
      refine cat_tup (s5 _ _ ht4) h5 (by show _ + 1 ≤ _; omega) fun t6 H6 s6 ht6 => ?_
      refine ⟨_, rfl, _, rfl, _, _, rfl, rfl, _, rfl, ?_⟩
      dsimp only [tNoPart]
      have s36 := (s4.trans s5).trans s6
      refine sla_tup (s36 _ _ hba3) fun t7 H7 s7 ht7 => ?_
      have ht7 : H7 t7 = some (.tup (ws.drop (x.2 + 1))) := ht7.trans (by rw [← cut_from ws (x.2 + 1)]; rfl)
      refine cat_tup (s7 _ _ ht6) ht7 (by rw [List.length_append, List.length_drop]; show _ + 1 + _ ≤ _; omega) fun t8 H8 s8 ht8 => ?_
      rw [show ws.take x.2 ++ [z] ++ ws.drop (x.2 + 1) = ws.set x.2 z from (set_cut wl).symm] at ht8
      have s38 := s36.trans (s7.trans s8)
      refine ⟨_, s0, t8, ws.set x.2 z, s0.kids.set x.2 (wpB k0 r k), rfl, rs.same (s03.trans s38), few, SqT.of ht8, AG.set (AG.bd hws3 s38) x.2 (hz.same s38), by rw [List.length_set], fun w9 H9 s9 h9 => ?_⟩
      rw [put_putAt h2] at h9
      have s09 := s03.trans (s38.trans s9)
      refine ⟨_, rfl, _, rfl, _, rfl, ?_⟩
      dsimp only [tNoPart]
      refine sla_tup (s09 _ _ ha) fun ta Ha sa hta => ?_
      rw [cut_to] at hta
      refine ⟨_, rfl, small1000 (Nat.le_of_ble_eq_true rfl), fun tb htb => ?_⟩
      have sb := same_new (o := .tup [w9]) htb
      have hb1 : upd Ha tb (.tup [w9]) tb = some (.tup [w9]) := upd_same
      generalize upd Ha tb (.tup [w9]) = Hb at sb hb1 ⊢
      refine cat_tup (sb _ _ hta) hb1 (by rw [List.length_take]; show _ + 1 ≤ _; omega) fun tc Hc sc htc => ?_
      have sac := (sa.trans sb).trans sc
      refine ⟨_, rfl, _, rfl, _, _, rfl, rfl, _, rfl, ?_⟩
      dsimp only [tNoPart]
      refine sla_tup (sac _ _ (s09 _ _ ha)) fun td Hd sd htd => ?_
      have htd : Hd td = some (.tup (xs.drop (x.1 + 1))) := htd.trans (by rw [← cut_from xs (x.1 + 1)]; rfl)
      refine cat_tup (sd _ _ htc) htd (by rw [List.length_append, List.length_drop, List.length_take]; show _ + 1 + _ ≤ _; omega) fun te He se hte => ?_
      rw [show xs.take x.1 ++ [w9] ++ xs.drop (x.1 + 1) = xs.set x.1 w9 from (set_cut xl).symm] at hte
      have s9e := sac.trans (sd.trans se)
      have ew : wpB b (x :: r) k = b.set x.1 (s0.putAt x.2 (wpB k0 r k)) := by
        show b.set x.1 ((b.getD x.1 .stay).putAt x.2 (wpB ((b.getD x.1 .stay).kids.getD x.2 []) r k)) = _
        rw [hsd, hkd]
      refine q _ He (s09.trans s9e) ?_
      rw [ew]
      exact ⟨te, _, rfl, hte, AG.set (AG.st hx (s09.trans s9e)) x.1 (h9.same s9e)⟩
theorem ok_wps {f : Addr} {fd : FuncData} (F : Fun K "with_part" "with_part" sWp f fd) (ml : mg "len" = none) (gB : ∀ n, Glo P w K mg base "bodies_in" 1 ["statement"] (spBin n)) (gWb : ∀ n, Glo P w K mg base "with_bodies" 2 ["statement", "bodies"] (spWb K n n))
    (mS : mg "with_part" = some (.ref f)) (kS : PySem.W.keepIn K (.ref f) = true) (bS : Binds K fd ["body", "path", "part"] []) : ∀ n, FnOk P w K mg base CX0 (n + 2) f fd ["body", "path", "part"] (spWp n)
  | 0 => by
    refine F.ok scWp (fun vs H Q E h => ?_) (fun cdv A outer s H vs Q E hr h => ?_)
    · obtain ⟨v, u, pa, b, k, ps, ns, rfl, _⟩ := h
      rfl
    · obtain ⟨v, u, pa, b, k, ps, ns, rfl, h, _⟩ := h
      exact h.elim
  | n + 1 => ok_wp F ml (gB n) (gWb n) (ok_wps F ml gB gWb mS kS bS n) (by omega) mS kS bS
end
end FR
set_option Elab.async false
set_option linter.all false
set_option maxRecDepth 100000
set_option maxHeartbeats 1000000
/-! check_free, check_closed, calls_of, is_whole, _able_more -/
namespace FR
open PySem PySem.Spec PyProof.Rows L2
abbrev sCf : Stmt := FR.top 37
abbrev NCf : List Str := ["free"]
theorem scCf : FnScope NCf ["free"] (defScope sCf) := ⟨rfl, rfl, rfl, by decide +kernel, rfl, by decide +kernel, by decide +kernel⟩
theorem op_notIn_seqK {X : Cx} {K : PySem.W.Frag} (hK : X.K = K) : OpR X (compareOp .NotIn) (rIn K true) := by
  subst hK
  exact op_notIn_seq
theorem op_in_seqK {X : Cx} {K : PySem.W.Frag} (hK : X.K = K) : OpR X (compareOp .In) (rIn K false) := by
  subst hK
  exact op_in_seq
theorem pe_subOwnK {X : Cx} {K : PySem.W.Frag} {CX : CXT} {k : Nat} {f C : Addr} {fd : FuncData} {ps : List Str} {sp : Sp} {E : XK} {o e : Expr} {to te : TE} {pos : Pos} (hK : X.K = K) (D : Dun K C "__getitem__" f) (hfi : PySem.W.fnIn K f = true) (F : FnOk X.prog X.w K X.mg X.base CX k f fd ps sp) (hr : Room (k + 1) X.A) (hb : Binds K fd ps []) (hx : Passes CX X E) (ho : PE X o to) (he : PE X e te)
    (hsl : ∀ x i, subscripted e true (.ref x) i = runValue (.builtin "lifetime.subscript" ⟨[.ref x, i], []⟩) := by intro _ _; with_unfolding_all rfl) : PE X (.Subscript o e pos) (tSubOwn C sp E to te) := by
  subst hK
  exact pe_subOwn D hfi F hr hb hx ho he hsl
section
variable {P : Program} {w : World} {K : PySem.W.Frag} {mg : Str → Option Value} {base : Heap}
/-- a property with its promise -/
structure PMet (P : Program) (w : World) (K : PySem.W.Frag) (mg : Str → Option Value) (base : Heap) (C : Addr) (nm : Str) (n : Nat) (ps : List Str) (sp : Sp) where
  p : Addr
  f : Addr
  fd : FuncData
  o : PropOf K C nm p f
  G : FnOk P w K mg base CX0 n f fd ps sp
  b : Binds K fd ps []
def spCf (K : PySem.W.Frag) (C : Addr) : Sp := fun vs H Q _ => ∃ x p, vs = [.ref x] ∧ IsPg K C H x p ∧ Q .non H
theorem ok_cf {f C : Addr} {fd : FuncData} (F : Fun K "check_free" "check_free" sCf f fd) (R : PgC K C) (mi : mg "isinstance" = none) (mC : mg "Program" = some (.ref C)) (kYes : PySem.W.kitOne K (.ref C) (.ref C) = some true) : FnOk P w K mg base CX0 1 f fd ["free"] (spCf K C) := by
  refine F.ok scCf (fun vs H Q E h => ?_) (fun cdv A outer s H vs Q E hr h => ?_)
  · obtain ⟨x, p, rfl, _⟩ := h
    rfl
  · obtain ⟨x, p, rfl, ⟨dx, d, e, c, kvs, es, cs, hx, _⟩, q⟩ := h
    refine ⟨_, (pss_one (ps_if (pt_not (pt_val (pe_callB call_isi (by rfl) mi PyProof.Rows.boot_isinstance (pa_cons (pv 0) (pa_cons (pe_glob (v := .ref C) (by rfl) mC rfl) pa_nil))))) pss_never pss_nil)), ?_⟩
    exact ⟨_, rfl, _, _, _, _, true, rfl, .own C, .base (R.ty.ins hx), kYes, _, rfl, iteF q⟩
end
end FR
set_option Elab.async false
set_option pp.maxSteps 1500
set_option linter.all false
set_option maxRecDepth 100000
set_option maxHeartbeats 1000000
/-! the part at a place -/
namespace FR
open PySem PySem.Spec PyProof.Rows L2
abbrev sPo2 : Stmt := FR.top 40
abbrev NPo2 : List Str := ["free", "place", "name", "path", "part"]
theorem scPo2 : FnScope NPo2 ["free", "place"] (defScope sPo2) := ⟨rfl, rfl, rfl, by decide +kernel, rfl, by decide +kernel, by decide +kernel⟩
abbrev sPat : Stmt := FR.top 39
abbrev NPat : List Str := ["free", "place"]
theorem scPat : FnScope NPat ["free", "place"] (defScope sPat) := ⟨rfl, rfl, rfl, by decide +kernel, rfl, by decide +kernel, by decide +kernel⟩
abbrev sSa : Stmt := FR.top 41
abbrev NSa : List Str := ["free", "place", "words", "part"]
theorem scSa : FnScope NSa ["free", "place", "words"] (defScope sSa) := ⟨rfl, rfl, rfl, by decide +kernel, rfl, by decide +kernel, by decide +kernel⟩
theorem PtAt.ref {H : Hp} {v : V} {y : Bd ⊕ St} (h : PtAt H v y) : ∃ a xs, v = .ref a ∧ H a = some (.tup xs) := by
  cases y with
  | inl b =>
    obtain ⟨_, a, xs, _, e, ha, _⟩ := BdAt.open (show BdAt 5 H v b from h)
    exact ⟨a, xs, e, ha⟩
  | inr s =>
    obtain ⟨a, xs, e, ha⟩ := StAt.head (show StAt 5 H v s from h)
    exact ⟨a, _, e, ha⟩
structure TxtG (mg : Str → Option Value) : Prop where
  isi : mg "isinstance" = none
  tup : mg "tuple" = none
  len : mg "len" = none
section
variable {P : Program} {w : World} {K : PySem.W.Frag} {mg : Str → Option Value} {base : Heap}
/-- the part of a program at a place -/
def PlW (K : PySem.W.Frag) (C : Addr) (H : Hp) (x pl : Addr) (y : Bd ⊕ St) (L : List Nat) : Prop := ∃ (p : Pg) (z : Str) (pa : Addr), IsPg K C H x p ∧ (names p).Nodup ∧ z ∈ names p ∧ H pl = some (.tup [.str z, .ref pa]) ∧ H pa = some (.tup (pI L)) ∧ walkP (.inl (bodyOf p z)) L = some y
def spPo2 (K : PySem.W.Frag) (C : Addr) : Sp := fun vs H Q _ => ∃ x pl y L, vs = [.ref x, .ref pl] ∧ PlW K C H x pl y L ∧ ∀ u H', Same H H' → PtAt H' u y → Q u H'
def spSa (K : PySem.W.Frag) (C : Addr) : Sp := fun vs H Q _ => ∃ x pl wa s L ws, vs = [.ref x, .ref pl, .ref wa] ∧ PlW K C H x pl (.inr s) L ∧ L.length % 2 = 1 ∧ H wa = some (.tup ((ws : List Str).map V.str)) ∧ s.word ∈ ws ∧ ∀ u H', Same H H' → StAt 5 H' u s → Q u H'
theorem ok_po {f C : Addr} {fd : FuncData} (F : Fun K "_part_of" "_part_of" sPo2 f fd) (T : TxtG mg) (mCt : Met P w K mg base C "__contains__" 1 ["self", "value"] (spCt K C)) (mGt : Met P w K mg base C "__getitem__" 3 ["self", "at"] (spGt K C)) (hfi : PySem.W.fnIn K mGt.f = true) (gPw : Glo P w K mg base "part_within" 3 ["body", "path"] spPw) : FnOk P w K mg base CX0 5 f fd ["free", "place"] (spPo2 K C) := by
  refine F.ok scPo2 (fun vs H Q E h => ?_) (fun cdv A outer s H vs Q E hr h => ?_)
  · obtain ⟨x, pl, y, L, rfl, _⟩ := h
    rfl
  · obtain ⟨x, pl, y, L, rfl, ⟨p, z, pa, hi, hn, hz, hpl, hpa, hw⟩, q⟩ := h
    refine ⟨_, (pss_cons (ps_if (PW.pt (pw_or (pt_not (pt_val (pe_callB call_isi (by rfl) T.isi PyProof.Rows.boot_isinstance (pa_cons (pv 1) (pa_cons (pe_bltn (v := .ty "tuple") (by rfl) T.tup (by decide +kernel) rfl) pa_nil))))) (pw_or1 (pt_cmpR op_ne (pe_callB call_len_seq (by rfl) T.len PySem.boot_len (pa_cons (pv 1) pa_nil)) pe_int (nomark _))))) pss_never pss_nil)
      (pss_cons (ps_asg (pv 1) (pg_tupK (K := K) rfl rfl (pgs_cons (pg_name (i := 2) scPo2.nd rfl (.inl rfl)) (pgs_cons (pg_name (i := 3) scPo2.nd rfl (.inl rfl)) pgs_nil))))
      (pss_cons (ps_if (PW.pt (pw_or (pt_cmpR (op_notInOwn mCt.D mCt.G (hr.mono (by decide)) mCt.b pass0) (pv 2) (pv 0) rfl) (pw_or1 (pt_not (pt_val (pe_callB call_isi (by rfl) T.isi PyProof.Rows.boot_isinstance (pa_cons (pv 3) (pa_cons (pe_bltn (v := .ty "tuple") (by rfl) T.tup (by decide +kernel) rfl) pa_nil)))))))) pss_never pss_nil)
      (pss_cons (ps_set (i := 4) scPo2.nd rfl (Or.inl rfl) (pe_call gPw.G (hr.mono (by decide)) (by rfl) gPw.m gPw.k gPw.b .nil pass0 (pa_cons (pe_subOwnK (K := K) rfl mGt.D hfi mGt.G (hr.mono (by decide)) mGt.b pass0 (pv 0) (pv 2)) (pa_cons (pv 3) pa_nil))))
      (pss_cons (ps_if (pt_cmpR op_isN (pv 4) pe_non (nomark _)) pss_never pss_nil)
      (pss_one (ps_ret (pv 4)))))))), ?_⟩
    have hi0 := hi
    obtain ⟨dx, d, e, c, kvs, es, cs, hx, _⟩ := hi0
    refine ⟨_, rfl, _, _, _, _, true, rfl, .ty _, .base (.tup hpl), kit_ty (by decide +kernel), _, rfl, iteF ?_⟩
    refine ⟨_, rfl, pl, _, rfl, .inr (SqT.of hpl), rfl, _, rfl, iteF ?_⟩
    refine ⟨_, rfl, pl, _, rfl, SqT.of hpl, rfl, _, _, rfl, _, _, rfl, rfl, ?_⟩
    refine ⟨_, rfl, _, rfl, x, dx, _, rfl, hx, x, _, p, rfl, hi, .inl ⟨z, rfl, _, rfl, _, rfl, ?_⟩⟩
    rw [decide_eq_true hz]
    refine iteF ?_
    refine ⟨_, rfl, _, _, _, _, true, rfl, .ty _, .base (.tup hpa), kit_ty (by decide +kernel), _, rfl, iteF ?_⟩
    refine ⟨_, rfl, _, rfl, x, dx, _, rfl, hx, x, z, p, rfl, hi, hn, hz, fun v hv => ?_⟩
    refine ⟨_, rfl, v, pa, _, L, y, rfl, hv, hpa, hw, fun u H1 s1 pt => ?_⟩
    have pt0 := pt
    obtain ⟨ua, us, rfl, _⟩ := pt0.ref
    exact ⟨_, rfl, rfl, _, rfl, iteF ⟨_, rfl, q _ _ s1 pt⟩⟩
theorem ok_pat {f C : Addr} {fd : FuncData} (F : Fun K "part_at" "part_at" sPat f fd) (gCf : Glo P w K mg base "check_free" 1 ["free"] (spCf K C)) (gPo : Glo P w K mg base "_part_of" 5 ["free", "place"] (spPo2 K C)) : FnOk P w K mg base CX0 6 f fd ["free", "place"] (spPo2 K C) := by
  refine F.ok scPat (fun vs H Q E h => ?_) (fun cdv A outer s H vs Q E hr h => ?_)
  · obtain ⟨x, pl, y, L, rfl, _⟩ := h
    rfl
  · obtain ⟨x, pl, y, L, rfl, h, q⟩ := h
    refine ⟨_, (pss_cons (ps_expr (pe_call gCf.G (hr.mono (by decide)) (by rfl) gCf.m gCf.k gCf.b .nil pass0 (pa_cons (pv 0) pa_nil)))
      (pss_one (ps_ret (pe_call gPo.G (hr.mono (by decide)) (by rfl) gPo.m gPo.k gPo.b .nil pass0 (pa_cons (pv 0) (pa_cons (pv 1) pa_nil)))))), ?_⟩
    have h0 := h
    obtain ⟨p, z, pa, hi, _⟩ := h0
    exact ⟨_, rfl, x, p, rfl, hi, _, rfl, _, rfl, x, pl, y, L, rfl, h, q⟩
theorem ok_sa {f C : Addr} {fd : FuncData} (F : Fun K "statement_at" "statement_at" sSa f fd) (T : TxtG mg) (gPa : Glo P w K mg base "part_at" 6 ["free", "place"] (spPo2 K C)) : FnOk P w K mg base CX0 7 f fd ["free", "place", "words"] (spSa K C) := by
  refine F.ok scSa (fun vs H Q E h => ?_) (fun cdv A outer s H vs Q E hr h => ?_)
  · obtain ⟨x, pl, wa, s, L, ws, rfl, _⟩ := h
    rfl
  · obtain ⟨x, pl, wa, s', L, ws, rfl, h, odd, hwa, hin, q⟩ := h
    refine ⟨_, (pss_cons (ps_set (i := 3) scSa.nd rfl (Or.inl rfl) (pe_call gPa.G (hr.mono (by decide)) (by rfl) gPa.m gPa.k gPa.b .nil pass0 (pa_cons (pv 0) (pa_cons (pv 1) pa_nil))))
      (pss_cons (ps_if (PW.pt (pw_or (pt_cmpR op_eq (pe_op op_modN (pe_callB call_len_seq (by rfl) T.len PySem.boot_len (pa_cons (pe_ix ix_tup (pv 1) pe_int (fun _ _ => rfl)) pa_nil)) pe_int) pe_int (nomark _)) (pw_or1 (pt_cmpR (op_notIn_seqK (K := K) rfl) (pe_ix ix_tup (pv 3) pe_int (fun _ _ => rfl)) (pv 2) rfl)))) pss_never pss_nil)
      (pss_one (ps_ret (pv 3))))), ?_⟩
    have h0 := h
    obtain ⟨p, z, pa, hi, hn, hz, hpl, hpa, hw⟩ := h0
    refine ⟨_, rfl, _, rfl, x, pl, .inr s', L, rfl, h, fun u H1 s1 pt => ?_⟩
    obtain ⟨ua, us, rfl, hua⟩ := StAt.head (show StAt 5 H1 u s' from pt)
    refine ⟨_, rfl, pl, _, _, _, rfl, rfl, SqT.of (s1 _ _ hpl), atI_nat (j := 1) rfl, pa, _, rfl, .inr (SqT.of (s1 _ _ hpa)), _, _, rfl, rfl, ?_⟩
    refine ⟨by show (2 : Int) ≠ 0; decide, rfl, _, rfl, ?_⟩
    have e : (((pI L).length : Nat) : Int).fmod 2 = 1 := by
      rw [List.length_map, Int.fmod_eq_emod_of_nonneg _ (by decide)]
      omega
    refine ite2 (fun z => absurd (V.int.inj (of_decide_eq_true z)) (by rw [e]; decide)) (fun _ => ?_)
    refine ⟨_, rfl, ua, _, _, _, rfl, rfl, SqT.of hua, atI_nat (j := 0) rfl, _, rfl, wa, _, rfl, .inr (SqT.of (s1 _ _ hwa)), rfl, flat_strs, _, rfl, ?_⟩
    have ei : inV (.str s'.word) (ws.map V.str) = true := by rw [inV_strs]; exact decide_eq_true hin
    show if (!inV (.str s'.word) (ws.map V.str)) = true then _ else _
    rw [ei]
    exact iteF ⟨_, rfl, q _ _ s1 pt⟩
end
end FR
set_option Elab.async false
set_option pp.maxSteps 1500
set_option linter.all false
set_option maxRecDepth 100000
set_option maxHeartbeats 1000000
/-! other statements at a place -/
namespace FR
open PySem PySem.Spec PyProof.Rows L2
abbrev sBa : Stmt := FR.top 45
abbrev NBa : List Str := ["free", "place", "name", "path"]
theorem scBa : FnScope NBa ["free", "place"] (defScope sBa) := ⟨rfl, rfl, rfl, by decide +kernel, rfl, by decide +kernel, by decide +kernel⟩
abbrev sOt : Stmt := FR.top 46
abbrev NOt : List Str := ["body", "at", "many", "statements"]
theorem scOt : FnScope NOt ["body", "at", "many", "statements"] (defScope sOt) := ⟨rfl, rfl, rfl, by decide +kernel, rfl, by decide +kernel, by decide +kernel⟩
abbrev sPof : Stmt := FR.top 48
abbrev NPof : List Str := ["bodies"]
theorem scPof : FnScope NPof ["bodies"] (defScope sPof) := ⟨rfl, rfl, rfl, by decide +kernel, rfl, by decide +kernel, by decide +kernel⟩
section
variable {P : Program} {w : World} {K : PySem.W.Frag} {mg : Str → Option Value} {base : Heap}
/-- the static method of .. -/
structure OfG (P : Program) (w : World) (K : PySem.W.Frag) (mg : Str → Option Value) (base : Heap) (C : Addr) where
  f : Addr
  fd : FuncData
  G : FnOk P w K mg base CX0 15 f fd ["bodies"] (spOf K C)
  b : Binds K fd ["bodies"] []
  mc : Value
  p : Addr
  rC : ClX.CRead K C mc
  sO : SMet K C mc "of" p f
/-- a statement's place in a program -/
def PlS (K : PySem.W.Frag) (C : Addr) (H : Hp) (x pl : Addr) (p : Pg) (z : Str) (ps : List (Nat × Nat)) (i : Nat) : Prop := ∃ pa, IsPg K C H x p ∧ (names p).Nodup ∧ z ∈ names p ∧ H pl = some (.tup [.str z, .ref pa]) ∧ H pa = some (.tup (pI (flat ps ++ [i])))
theorem PlS.same {C : Addr} {H H' : Hp} {x pl : Addr} {p : Pg} {z : Str} {ps : List (Nat × Nat)} {i : Nat} (h : PlS K C H x pl p z ps i) (s : Same H H') : PlS K C H' x pl p z ps i := by
  obtain ⟨pa, h1, h2, h3, h4, h5⟩ := h
  exact ⟨pa, h1.same s, h2, h3, s _ _ h4, s _ _ h5⟩
def spBa (K : PySem.W.Frag) (C : Addr) : Sp := fun vs H Q _ => ∃ x pl p z ps i ns, vs = [.ref x, .ref pl] ∧ PlS K C H x pl p z ps i ∧ Al (Ok1 ns) 5 (bodyOf p z) ∧ InB (bodyOf p z) ps ∧ ∀ u H', Same H H' → BdAt 5 H' u (atB (bodyOf p z) ps) → Q u H'
theorem pI_snoc (l : List Nat) (i : Nat) : pI (l ++ [i]) = pI l ++ [V.int (i : Nat)] := List.map_append
theorem ok1_few {ns : List Str} (s : St) (h : Ok1 ns s) : s.kids.length ≤ 90 := by
  have := ok_few h.1
  omega
theorem ok_ba {f C : Addr} {fd : FuncData} (F : Fun K "_body_around" "_body_around" sBa f fd) (mGt : Met P w K mg base C "__getitem__" 3 ["self", "at"] (spGt K C)) (hfi : PySem.W.fnIn K mGt.f = true) (gPw : Glo P w K mg base "part_within" 3 ["body", "path"] spPw) : FnOk P w K mg base CX0 5 f fd ["free", "place"] (spBa K C) := by
  refine F.ok scBa (fun vs H Q E h => ?_) (fun cdv A outer s H vs Q E hr h => ?_)
  · obtain ⟨x, pl, p, z, ps, i, ns, rfl, _⟩ := h
    rfl
  · obtain ⟨x, pl, p, z, ps, i, ns, rfl, ⟨pa, hi, hn, hz, hpl, hpa⟩, al, inb, q⟩ := h
    refine ⟨_, (pss_cons (ps_asg (pv 1) (pg_tupK (K := K) rfl rfl (pgs_cons (pg_name (i := 2) scBa.nd rfl (.inl rfl)) (pgs_cons (pg_name (i := 3) scBa.nd rfl (.inl rfl)) pgs_nil))))
      (pss_one (ps_ret (pe_call gPw.G (hr.mono (by decide)) (by rfl) gPw.m gPw.k gPw.b .nil pass0 (pa_cons (pe_subOwnK (K := K) rfl mGt.D hfi mGt.G (hr.mono (by decide)) mGt.b pass0 (pv 0) (pv 2)) (pa_cons (pe_slice sl_tupA (pv 3) po_none (po_some (pe_un un_neg pe_int))) pa_nil)))))), ?_⟩
    have hi0 := hi
    obtain ⟨dx, d, e, c, kvs, es, cs, hx, _⟩ := hi0
    refine ⟨_, rfl, pl, _, rfl, SqT.of hpl, rfl, _, _, rfl, _, _, rfl, rfl, ?_⟩
    refine ⟨_, rfl, _, rfl, x, dx, _, rfl, hx, x, z, p, rfl, hi, hn, hz, fun v hv => ?_⟩
    refine ⟨_, rfl, ?_⟩
    dsimp only [tNoPart]
    refine ⟨_, rfl, _, rfl, ?_⟩
    refine sla_tup hpa fun t H1 s1 ht => ?_
    rw [pI_snoc, cut_last] at ht
    exact ⟨v, t, _, flat ps, .inl (atB (bodyOf p z) ps), rfl, hv.same s1, ht, walk_flat ok1_few al inb, fun u H2 s2 pt => q u H2 (s1.trans s2) pt⟩
def spOt (n : Nat) : Sp := fun vs H Q _ => ∃ (v u : V) (i : Nat) (c ss : Bd), vs = [v, .int (i : Nat), .int 1, u] ∧ BdAt n H v c ∧ BdAt n H u ss ∧ c.length ≤ 300 ∧ ss.length ≤ 300 ∧ ∀ z H', Same H H' → BdAt n H' z (oth c i ss) → Q z H'
theorem ok_ot {f : Addr} {fd : FuncData} {n : Nat} (F : Fun K "_with_others" "_with_others" sOt f fd) : FnOk P w K mg base CX0 1 f fd ["body", "at", "many", "statements"] (spOt n) := by
  refine F.ok scOt (fun vs H Q E h => ?_) (fun cdv A outer s H vs Q E hr h => ?_)
  · obtain ⟨v, u, i, c, ss, rfl, _⟩ := h
    rfl
  · obtain ⟨v, u, i, c, ss, rfl, hc, hs, lc, ls, q⟩ := h
    refine ⟨_, (pss_one (ps_ret (pe_op op_catA (pe_op op_catA (pe_slice sl_tupA (pv 0) po_none (po_some (pv 1))) (pv 3)) (pe_slice sl_tupA (pv 0) (po_some (pe_op op_add (pv 1) (pv 2))) po_none)))), ?_⟩
    obtain ⟨m, a, xs, rfl, rfl, ha, hx⟩ := hc.open
    obtain ⟨m', b, ys, em, rfl, hb, hy⟩ := hs.open
    obtain rfl : m = m' := by omega
    have lx : xs.length = c.length := hx.1
    have ly : ys.length = ss.length := hy.1
    refine ⟨_, rfl, _, rfl, _, rfl, ?_⟩
    dsimp only [tNoPart]
    refine sla_tup ha fun t1 H1 s1 h1 => ?_
    rw [cut_to] at h1
    refine ⟨_, rfl, ?_⟩
    refine cat_tup h1 (s1 _ _ hb) (by rw [List.length_take]; omega) fun t2 H2 s2 h2 => ?_
    refine ⟨_, rfl, _, rfl, _, rfl, _, _, rfl, rfl, _, rfl, ?_⟩
    dsimp only [tNoPart]
    have s12 := s1.trans s2
    refine sla_tup (s12 _ _ ha) fun t3 H3 s3 h3 => ?_
    have h3 : H3 t3 = some (.tup (xs.drop (i + 1))) := h3.trans (by rw [← cut_from xs (i + 1)]; rfl)
    refine cat_tup (s3 _ _ h2) h3 (by rw [List.length_append, List.length_drop, List.length_take]; omega) fun t4 H4 s4 h4 => ?_
    have s14 := s12.trans (s3.trans s4)
    refine q _ H4 s14 ⟨t4, _, rfl, h4, ?_⟩
    exact AG.app (AG.app (AG.take (AG.st hx s14) i) (AG.st hy s14)) (AG.drop (AG.st hx s14) (i + 1))
theorem ok_pof {f C : Addr} {fd : FuncData} (F : Fun K "_program_of" "_program_of" sPof f fd) (mC : mg "Program" = some (.ref C)) (gO : OfG P w K mg base C) : FnOk P w K mg base CX0 16 f fd ["bodies"] (spOf K C) := by
  refine F.ok scPof (fun vs H Q E h => ?_) (fun cdv A outer s H vs Q E hr h => ?_)
  · obtain ⟨t, kvs, p, rfl, _⟩ := h
    rfl
  · have h0 := h
    obtain ⟨t, kvs, p, rfl, _⟩ := h0
    refine ⟨_, (pss_one (ps_try_thru0 (pss_one (ps_ret (pe_smeth (pe_glob (v := .ref C) (by rfl) mC rfl) gO.rC gO.sO gO.G (hr.mono (by decide)) gO.b .nil pass0 (pa_cons (pv 0) pa_nil)))))), ?_⟩
    exact ⟨rfl, _, rfl, h⟩
end
end FR
set_option Elab.async false
set_option pp.maxSteps 1500
set_option linter.all false
set_option maxRecDepth 100000
set_option maxHeartbeats 1000000
/-! _program_with -/
namespace FR
open PySem PySem.Spec PyProof.Rows L2
abbrev sPrw : Stmt := FR.top 47
abbrev NPrw : List Str := ["free", "place", "many", "statements", "name", "path", "body"]
theorem scPrw : FnScope NPrw ["free", "place", "many", "statements"] (defScope sPrw) := ⟨rfl, rfl, rfl, by decide +kernel, rfl, by decide +kernel, by decide +kernel⟩
section
variable {P : Program} {w : World} {K : PySem.W.Frag} {mg : Str → Option Value} {base : Heap}
/-- what is wished of a new program -/
def NewQ (K : PySem.W.Frag) (C : Addr) (H : Hp) (p : Pg) (Q : VK) : Prop := ∀ q y H', q.Perm p → sortedS (names q) = true → H y = none → Same H H' → IsPg K C H' y q → Q (.ref y) H'
theorem NewQ.back {C : Addr} {H H1 : Hp} {p : Pg} {Q : VK} (h : NewQ K C H p Q) (s : Same H H1) : NewQ K C H1 p Q := fun q y H' a b c d e => h q y H' a b (none_of_same s c) (s.trans d) e
def spPrw (K : PySem.W.Frag) (C : Addr) : Sp := fun vs H Q _ => ∃ x pl u p z ps i ss, vs = [.ref x, .ref pl, .int 1, u] ∧ PlS K C H x pl p z ps i ∧ p.length ≤ 8 ∧ Al (Ok1 (names p)) 5 (bodyOf p z) ∧ cnt 5 (bodyOf p z) ≤ 60 ∧ InB (bodyOf p z) ps ∧ BdAt (5 - ps.length) H u ss ∧ ss.length ≤ 300 ∧ Prg (setP p z (spl (bodyOf p z) ps i ss)) ∧ NewQ K C H (setP p z (spl (bodyOf p z) ps i ss)) Q
theorem len_cnt {n : Nat} {b : Bd} (h : 0 < n) : b.length ≤ cnt n b := by
  cases n with
  | zero => omega
  | succ n => exact Nat.le_add_right _ _
theorem ok_prw {f C : Addr} {fd : FuncData} (F : Fun K "_program_with" "_program_with" sPrw f fd) (R : PgC K C) (gBa : Glo P w K mg base "_body_around" 5 ["free", "place"] (spBa K C)) (gOt : ∀ n, Glo P w K mg base "_with_others" 1 ["body", "at", "many", "statements"] (spOt n)) (gWp : Glo P w K mg base "with_part" 7 ["body", "path", "part"] (spWp 5))
    (pB : PMet P w K mg base C "bodies" 1 ["self"] (spBo K C)) (mGt : Met P w K mg base C "__getitem__" 3 ["self", "at"] (spGt K C)) (hfi : PySem.W.fnIn K mGt.f = true) (gPf : Glo P w K mg base "_program_of" 16 ["bodies"] (spOf K C)) : FnOk P w K mg base CX0 17 f fd ["free", "place", "many", "statements"] (spPrw K C) := by
  refine F.ok scPrw (fun vs H Q E h => ?_) (fun cdv A outer s H vs Q E hr h => ?_)
  · obtain ⟨x, pl, u, p, z, ps, i, ss, rfl, _⟩ := h
    rfl
  · obtain ⟨x, pl, u, p, z, ps, i, ss, rfl, hpl, l8, al, c60, inb, hss, lss, prg, q⟩ := h
    obtain ⟨pa, hi, hn, hz, hpl', hpa⟩ := hpl
    have hi0 := hi
    obtain ⟨dx, d, e, c, kvs, es, cs, hx, _⟩ := hi0
    refine ⟨_, (pss_cons (ps_asg (pv 1) (pg_tupK (K := K) rfl rfl (pgs_cons (pg_name (i := 4) scPrw.nd rfl (.inl rfl)) (pgs_cons (pg_name (i := 5) scPrw.nd rfl (.inl rfl)) pgs_nil))))
      (pss_cons (ps_set (i := 6) scPrw.nd rfl (Or.inl rfl) (pe_call (gOt (5 - ps.length)).G (hr.mono (by decide)) (by rfl) (gOt (5 - ps.length)).m (gOt (5 - ps.length)).k (gOt (5 - ps.length)).b .nil pass0 (pa_cons (pe_call gBa.G (hr.mono (by decide)) (by rfl) gBa.m gBa.k gBa.b .nil pass0 (pa_cons (pv 0) (pa_cons (pv 1) pa_nil))) (pa_cons (pe_ix ix_tup (pv 5) (pe_un un_neg pe_int) (fun _ _ => rfl)) (pa_cons (pv 2) (pa_cons (pv 3) pa_nil))))))
      (pss_one (ps_ret (pe_call gPf.G (hr.mono (by decide)) (by rfl) gPf.m gPf.k gPf.b .nil pass0 (pa_cons (pe_dstar (pe_prop (pv 0) R.cl pB.o pB.G (hr.mono (by decide)) pB.b .nil pass0 rfl) (pv 4) (pe_call gWp.G (hr.mono (by decide)) (by rfl) gWp.m gWp.k gWp.b .nil pass0 (pa_cons (pe_subOwnK (K := K) rfl mGt.D hfi mGt.G (hr.mono (by decide)) mGt.b pass0 (pv 0) (pv 4)) (pa_cons (pe_slice sl_tupA (pv 5) po_none (po_some (pe_un un_neg pe_int))) (pa_cons (pv 6) pa_nil))))) pa_nil)))))), ?_⟩
    have lw := al_way al inb
    have ala := al_at al inb
    have la : (atB (bodyOf p z) ps).length ≤ 60 := Nat.le_trans (len_cnt (n := 5 - ps.length) (by omega)) (Nat.le_trans (by rw [cnt_ws, cnt_ws]; exact ws_at _ inb (by omega)) c60)
    refine ⟨_, rfl, pl, _, rfl, SqT.of hpl', rfl, _, _, rfl, _, _, rfl, rfl, ?_⟩
    refine ⟨_, rfl, _, rfl, x, pl, p, z, ps, i, names p, rfl, ⟨pa, hi, hn, hz, hpl', hpa⟩, al, inb, fun ub H1 s1 hub => ?_⟩
    have hpa1 := s1 _ _ hpa
    have ix : atI (pI (flat ps ++ [i])) (-1) = some (V.int (i : Nat)) := by
      rw [pI_snoc]
      exact L2.atI_last _ _
    refine ⟨_, rfl, _, rfl, pa, _, _, _, rfl, rfl, SqT.of hpa1, ix, _, rfl, _, rfl, ub, u, i, atB (bodyOf p z) ps, ss, rfl, bd_low ala hub, hss.same s1, by omega, lss, fun vb H2 s2 hvb => ?_⟩
    have s02 := s1.trans s2
    -- the dict
    refine fun t ht => ?_
    have st := same_new (o := .dK []) ht
    have htt : upd H2 t (.dK []) t = some (.dK []) := upd_same
    have hi3 := (hi.same s02).same st
    have hx3 := st _ _ (s02 _ _ hx)
    refine ⟨_, rfl, x, dx, _, rfl, hx3, x, p, rfl, hi3, fun bt kvs H3 nbt s3 hbt hk => ?_⟩
    have htt3 := s3 _ _ htt
    have nbt' : bt ≠ t := fun e => by rw [e, htt] at nbt; cases nbt
    have lk : kvs.length ≤ 8 := by rw [hk.1]; exact l8
    refine ⟨bt, kvs, rfl, nbt', hbt, htt3, Nat.le_of_lt (small1000 (by omega)), fun p2 hp2 => ?_⟩
    have ne2 : p2 ≠ t := fun e => by rw [e, upd_same] at hp2; cases hp2
    have sm : Same H2 (upd (upd H3 t (.dK kvs)) p2 (.dK [])) := fun a o ea => by
      have n1 := ne_of_none ea ht
      have e3 := s3 _ _ (st _ _ ea)
      have n2 : a ≠ p2 := fun e => by rw [← e, upd_ne n1, e3] at hp2; cases hp2
      rw [upd_ne n2, upd_ne n1]
      exact e3
    have tk3 : Tk H3 (upd (upd H3 t (.dK kvs)) p2 (.dK [])) := (Tk.upd htt3 (fun _ z => by cases z) fun _ _ z => by cases z).trans (Tk.same (same_new hp2))
    have ht4 : upd (upd H3 t (.dK kvs)) p2 (.dK []) t = some (.dK kvs) := by rw [upd_ne (Ne.symm ne2), upd_same]
    have hp4 : upd (upd H3 t (.dK kvs)) p2 (.dK []) p2 = some (.dK []) := upd_same
    generalize upd (upd H3 t (.dK kvs)) p2 (.dK []) = H4 at sm tk3 ht4 hp4 ⊢
    have s04 := s02.trans sm
    refine ⟨_, rfl, _, rfl, _, rfl, x, dx, _, rfl, s04 _ _ hx, x, z, p, rfl, hi.same s04, hn, hz, fun v hv => ?_⟩
    refine ⟨_, rfl, ?_⟩
    dsimp only [tNoPart]
    refine ⟨_, rfl, _, rfl, ?_⟩
    refine sla_tup (s04 _ _ hpa) fun tp H5 s5 htp => ?_
    rw [pI_snoc, cut_last] at htp
    refine ⟨_, rfl, v, vb, tp, bodyOf p z, oth (atB (bodyOf p z) ps) i ss, ps, names p, rfl, hv.same s5, al, c60, htp, inb, (hvb.same sm).same s5, fun zv H6 s6 hzv => ?_⟩
    have s46 := s5.trans s6
    have ht6 := s46 _ _ ht4
    have hp6 := s46 _ _ hp4
    refine ⟨.inr z, rfl, hp6, ht6, ne2, ?_⟩
    have tk6 : Tk H6 (upd (upd H6 p2 (.dK [(.inr z, zv)])) t (.dK (putK kvs (.inr z) zv))) := (Tk.upd hp6 (fun _ z => by cases z) fun _ _ z => by cases z).trans (Tk.upd (by rw [upd_ne (Ne.symm ne2)]; exact ht6) (fun _ z => by cases z) fun _ _ z => by cases z)
    have tk36 := (tk3.trans (Tk.same s46)).trans tk6
    have sfin : Same H (upd (upd H6 p2 (.dK [(.inr z, zv)])) t (.dK (putK kvs (.inr z) zv))) := fun a o ea => by
      have e2 := s02 _ _ ea
      have n1 := ne_of_none e2 ht
      have e4 := sm _ _ e2
      have n2 : a ≠ p2 := fun e => by
        have e3 := s3 _ _ (st _ _ e2)
        rw [← e, upd_ne n1, e3] at hp2
        cases hp2
      rw [upd_ne n1, upd_ne n2]
      exact s46 _ _ e4
    refine ⟨t, _, setP p z (spl (bodyOf p z) ps i ss), rfl, upd_same, (tk36.pg hk).set (tk6.bd hzv), prg, setP_nodup hn, fun q' y H' a b c' d' e' _ => q q' y H' a b (none_of_same sfin c') (sfin.trans d') e'⟩
end
end FR
set_option Elab.async false
set_option linter.all false
set_option maxRecDepth 100000
set_option maxHeartbeats 1000000
/-! a drawn program with other statements at a place is a program -/
namespace FR
open PySem PySem.Spec PyProof.Rows L2 LD
theorem cnt_putAt : ∀ (s : St) (n : Nat) (k : Bd), n < s.kids.length → (fun _ : St => (1 : Nat)) (s.putAt n k) = (fun _ : St => 1) s := fun _ _ _ _ => rfl
theorem sum_one {p : Pg} {z : Str} {b : Nat} {f : Str × Bd → Nat} (hn : (names p).Nodup) (h : ∀ x ∈ p, f x ≤ 10) (hb : b ≤ 40) : (p.map fun x => if x.1 = z then b else f x).sum ≤ 10 * p.length + 30 := by
  induction p with
  | nil => exact Nat.zero_le _
  | cons x p ih =>
    have n2 := List.nodup_cons.mp hn
    have hx := h x List.mem_cons_self
    rw [List.map_cons, List.sum_cons, List.length_cons]
    by_cases c : x.1 = z
    · rw [if_pos c]
      have rest : (p.map fun x => if x.1 = z then b else f x).sum ≤ 10 * p.length := by
        have e : (p.map fun x => if x.1 = z then b else f x) = p.map f := List.map_congr_left fun y hy => by
          rw [if_neg]
          intro e
          exact n2.1 (by show x.1 ∈ _; rw [c, ← e]; exact List.mem_map.mpr ⟨y, hy, rfl⟩)
        rw [e]
        have := sum_le (f := f) (g := fun _ => 10) (l := p) fun y hy => h y (List.mem_cons_of_mem _ hy)
        have e2 : ∀ l : Pg, (l.map fun _ => 10).sum = 10 * l.length := fun l => by
          induction l with
          | nil => rfl
          | cons y l ih => rw [List.map_cons, List.sum_cons, List.length_cons, ih]; omega
        rw [e2] at this
        exact this
      omega
    · rw [if_neg c]
      have := ih n2.2 fun y hy => h y (List.mem_cons_of_mem _ hy)
      omega
section
variable {es : List Str} {p : Pg} {z : Str} {ps : List (Nat × Nat)} {i : Nat} {ss : Bd}
theorem Drawn.nmB (D : Drawn es p) : ∀ y ∈ names p, nameB y = true := fun y hy => five_ok y (D.nm y hy)
theorem Drawn.al (D : Drawn es p) (hz : z ∈ names p) : Al (Ok1 (names p)) 3 (bodyOf p z) := by
  obtain ⟨x, hx, rfl⟩ := List.mem_map.mp (show z ∈ p.map (·.1) from hz)
  rw [bodyOf_mem D.nd hx]
  exact al_gd D.nmB (D.gd x hx)
theorem Drawn.c10 (D : Drawn es p) (hz : z ∈ names p) : cnt 5 (bodyOf p z) ≤ 10 := by
  obtain ⟨x, hx, rfl⟩ := List.mem_map.mp (show z ∈ p.map (·.1) from hz)
  rw [bodyOf_mem D.nd hx]
  exact D.sz x hx
theorem al_spl (D : Drawn es p) (hz : z ∈ names p) (inb : InB (bodyOf p z) ps) (als : Al (Ok1 (names p)) (5 - ps.length) ss) : Al (Ok1 (names p)) 5 (spl (bodyOf p z) ps i ss) := by
  have al := D.al hz
  have lw := al_way al inb
  have ala := (al_at al inb).mono (show 3 - ps.length ≤ 5 - ps.length by omega)
  exact al_wp (al_oth ala als) (al.mono (by decide)) inb (by omega)
theorem cnt_spl (D : Drawn es p) (hz : z ∈ names p) (inb : InB (bodyOf p z) ps) (c : cnt 5 ss ≤ 20) : cnt 5 (spl (bodyOf p z) ps i ss) ≤ 40 := by
  have lw := al_way (D.al hz) inb
  have h := spl_ws (fun _ => 1) cnt_putAt (n := 5) (i := i) (ss := ss) inb (by omega)
  have c1 := D.c10 hz
  rw [cnt_ws] at c1 c ⊢
  omega
theorem prg_spl (D : Drawn es p) (l3 : p.length ≤ 3) (hz : z ∈ names p) (inb : InB (bodyOf p z) ps) (als : Al (Ok1 (names p)) (5 - ps.length) ss) (c : cnt 5 ss ≤ 20) : Prg (setP p z (spl (bodyOf p z) ps i ss)) := by
  have P0 := D.prg
  have nal := al_spl (i := i) D hz inb als
  have nc := cnt_spl (i := i) D hz inb c
  generalize spl (bodyOf p z) ps i ss = nb at nal nc
  have en : names (setP p z nb) = names p := by rw [setP_names, if_pos hz]
  rw [setP_in hz] at en ⊢
  have mem : ∀ x ∈ p.map (fun x => if x.1 = z then (z, nb) else x), (x = (z, nb)) ∨ x ∈ p := fun x hx => by
    obtain ⟨y, hy, rfl⟩ := List.mem_map.mp hx
    by_cases e : y.1 = z
    · rw [if_pos e]; exact .inl rfl
    · rw [if_neg e]; exact .inr hy
  refine ⟨by rw [List.length_map]; exact P0.len, fun x hx => ?_, ?_, fun x hx y hy => ?_⟩
  · rcases mem x hx with rfl | h
    · exact ⟨D.nmB z hz, al_okB nal, Nat.le_trans nc (by decide), al_few nal⟩
    · exact P0.ok x h
  · rw [List.map_map]
    have e : (p.map ((fun x : Str × Bd => (placed 5 x.2 []).length) ∘ fun x => if x.1 = z then (z, nb) else x)) = p.map fun x => if x.1 = z then cnt 5 nb else cnt 5 x.2 := List.map_congr_left fun x _ => by
      show (placed 5 (if x.1 = z then (z, nb) else x).2 []).length = _
      rw [placed_len]
      split <;> rfl
    rw [e]
    have := sum_one (z := z) (f := fun x => cnt 5 x.2) D.nd D.sz nc
    omega
  · show y ∈ names (p.map fun x => if x.1 = z then (z, nb) else x)
    rw [en]
    rcases mem x hx with rfl | h
    · exact al_calls nal y hy
    · exact P0.cl x h y hy
theorem pg_spl {q : Pg} (D : Drawn es p) (hz : z ∈ names p) {nb : Bd} (pm : q.Perm (setP p z nb)) (hs : sortedS (names q) = true) : q = setP p z nb := by
  have en : names (setP p z nb) = names p := by rw [setP_names, if_pos hz]
  exact pg_eq pm (setP_nodup D.nd) (by rw [en]; exact D.so) hs
theorem body_set (hz : z ∈ names p) {nb : Bd} : bodyOf (setP p z nb) z = nb := by
  rw [setP_in hz]
  induction p with
  | nil => exact absurd hz List.not_mem_nil
  | cons x p ih =>
    show (if (if x.1 = z then (z, nb) else x).1 = z then (if x.1 = z then (z, nb) else x).2 else bodyOf (p.map _) z) = nb
    by_cases c : x.1 = z
    · rw [if_pos c]
      exact if_pos rfl
    · rw [if_neg c, if_neg c]
      exact ih ((List.mem_cons.mp (show z ∈ x.1 :: names p from hz)).elim (fun e => absurd e.symm c) id)
theorem cnt_again {b k : Bd} {a c : Int} {n : Nat} (al : Al (Ok1 (names p)) 3 b) (inb : InB b ps) (h : (atB b ps)[i]? = some (.again a c k)) (cb : cnt 5 b ≤ n) : 1 + cnt (4 - ps.length) k ≤ n := by
  have lw := al_way al inb
  have h1 := ws_at (fun _ => 1) inb (show ps.length ≤ 5 by omega)
  have h2 := ws_one (fun _ => 1) (n := 4 - ps.length) (List.mem_of_getElem? h)
  rw [show 4 - ps.length + 1 = 5 - ps.length by omega] at h2
  have h2 : 1 + ((([k] : List Bd).map (ws (fun _ => 1) (4 - ps.length))).sum) ≤ ws (fun _ => 1) (5 - ps.length) (atB b ps) := h2
  rw [List.map_cons, List.map_nil, List.sum_cons, List.sum_nil] at h2
  rw [cnt_ws] at cb ⊢
  omega
theorem cnt_al {A : St → Prop} : ∀ {n : Nat} {b : Bd}, Al A n b → cnt (n + 1) b = cnt n b
  | n + 1, b, g => by
    show b.length + (b.map fun s => (s.kids.map (cnt (n + 1))).sum).sum = b.length + (b.map fun s => (s.kids.map (cnt n)).sum).sum
    congr 2
    exact List.map_congr_left fun s hs => by rw [List.map_congr_left fun k hk => cnt_al ((g s hs).2 k hk)]
theorem cnt_alm {A : St → Prop} {n m : Nat} {b : Bd} (h : Al A n b) (le : n ≤ m) : cnt m b = cnt n b := by
  induction le with
  | refl => rfl
  | @step m le ih => rw [cnt_al (h.mono le), ih]
end
end FR
set_option Elab.async false
set_option linter.all false
set_option maxRecDepth 100000
set_option maxHeartbeats 1000000
/-! bodies with a weight that is none -/
namespace FR
open PySem PySem.Spec PyProof.Rows L2
/-- right but for its weights -/
def fmS : St → Bool
  | .note z => nameB z
  | .call z => nameB z
  | .stay => true
  | .again _ _ _ => true
  | .choose bs => decide ((2 : Int) ≤ (bs.length : Nat)) && decide (((bs.length : Nat) : Int) ≤ 3)
  | .toss rs => decide ((2 : Int) ≤ (rs.length : Nat)) && decide (((rs.length : Nat) : Int) ≤ 4)
section
variable {P : Program} {w : World} {K : PySem.W.Frag} {mg : Str → Option Value} {base : Heap}
def spInnX (n : Nat) : Sp := fun vs H Q _ => ∃ v x, vs = [v] ∧ StAt n H v x ∧ fmS x = true ∧ okS x = false ∧ ∀ H', Same H H' → Q .non H'
theorem ok_innX {f : Addr} {fd : FuncData} {n : Nat} (F : Fun K "_inner_of" "_inner_of" sInn f fd) (T : TxtI mg) (gB : Glo P w K mg base "is_between" 2 ["value", "least", "greatest"] spBetX) (gN : Glo P w K mg base "is_name" 3 ["value"] (spNm K)) (gW : Glo P w K mg base "_is_weight" 3 ["value"] spWt) (gBr : Glo P w K mg base "_is_branch" 4 ["value"] spBr) : FnOk P w K mg base CX0 5 f fd ["value"] (spInnX n) := by
  refine F.ok scInn (fun vs H Q E h => ?_) (fun cdv A outer s H vs Q E hr h => ?_)
  · obtain ⟨v, x, rfl, _⟩ := h
    rfl
  · obtain ⟨v, x, rfl, hv, fm, ok, q⟩ := h
    refine ⟨_, (pss_cons (ps_if (PW.pt (pw_or (pt_not (pt_val (pe_callB call_isi (by rfl) T.isi PyProof.Rows.boot_isinstance (pa_cons (pv 0) (pa_cons (pe_bltn (v := .ty "tuple") (by rfl) T.tup (by decide +kernel) rfl) pa_nil))))) (pw_or (pt_cmpR op_eq (pe_callB call_len_seq (by rfl) T.len PySem.boot_len (pa_cons (pv 0) pa_nil)) pe_int (nomark _)) (pw_or1 (pt_not (pt_val (pe_callB call_isi (by rfl) T.isi PyProof.Rows.boot_isinstance (pa_cons (pe_ix ix_tup (pv 0) pe_int (fun _ _ => rfl)) (pa_cons (pe_bltn (v := .ty "str") (by rfl) T.str (by decide +kernel) rfl) pa_nil))))))))) (pss_one (ps_ret pe_non)) pss_nil)
      (pss_cons (ps_asg (pv 0) (pg_starT rfl (pg_name (i := 1) scInn.nd rfl (.inl rfl)) (pg_name (i := 2) scInn.nd rfl (.inl rfl))))
      (pss_cons (ps_if (pt_cmpR op_in_seq (pv 1) (pe_tup (pa_cons pe_str (pa_cons pe_str pa_nil))) rfl) (pss_one (ps_ret (pe_ifExp (PW.pt (pw_and (pt_cmpR op_eq (pe_callB call_len_seq (by rfl) T.len PySem.boot_len (pa_cons (pv 2) pa_nil)) pe_int (nomark _)) (pw_and1 (pt_val (pe_call gN.G (hr.mono (by decide)) (by rfl) gN.m gN.k gN.b .nil pass0 (pa_cons (pe_ix ix_list (pv 2) pe_int (fun _ _ => rfl)) pa_nil)))))) (pe_lst pa_nil) pe_non))) pss_nil)
      (pss_cons (ps_if (pt_cmpR op_eq (pv 1) pe_str (nomark _)) (pss_one (ps_ret (pe_ifExp (pt_cmpR op_eq (pe_callB call_len_seq (by rfl) T.len PySem.boot_len (pa_cons (pv 2) pa_nil)) pe_int (nomark _)) (pe_lst pa_nil) pe_non))) pss_nil)
      (pss_cons (ps_if (pt_cmpR op_eq (pv 1) pe_str (nomark _)) (pss_one (ps_ret (pe_ifExp (PW.pt (pw_and (pt_cmpR op_eq (pe_callB call_len_seq (by rfl) T.len PySem.boot_len (pa_cons (pv 2) pa_nil)) pe_int (nomark _)) (pw_and (pt_val (pe_call gW.G (hr.mono (by decide)) (by rfl) gW.m gW.k gW.b .nil pass0 (pa_cons (pe_ix ix_list (pv 2) pe_int (fun _ _ => rfl)) pa_nil))) (pw_and1 (pt_val (pe_call gW.G (hr.mono (by decide)) (by rfl) gW.m gW.k gW.b .nil pass0 (pa_cons (pe_ix ix_list (pv 2) pe_int (fun _ _ => rfl)) pa_nil))))))) (pe_slice sl_list (pv 2) (po_some pe_int) po_none) pe_non))) pss_nil)
      (pss_cons (ps_if (pt_cmpR op_eq (pv 1) pe_str (nomark _)) (pss_one (ps_ret (pe_ifExp (pt_val (pe_call gB.G (hr.mono (by decide)) (by rfl) gB.m gB.k gB.b .nil pass0 (pa_cons (pe_callB call_len_seq (by rfl) T.len PySem.boot_len (pa_cons (pv 2) pa_nil)) (pa_cons pe_int (pa_cons pe_int pa_nil))))) (pv 2) pe_non))) pss_nil)
      (pss_cons (ps_if (PW.pt (pw_and (pt_cmpR op_eq (pv 1) pe_str (nomark _)) (pw_and (pt_val (pe_call gB.G (hr.mono (by decide)) (by rfl) gB.m gB.k gB.b .nil pass0 (pa_cons (pe_callB call_len_seq (by rfl) T.len PySem.boot_len (pa_cons (pv 2) pa_nil)) (pa_cons pe_int (pa_cons pe_int pa_nil))))) (pw_and1 (pt_val (pe_callB (cr_all rfl) (by rfl) T.all (by decide +kernel) (pa_cons (pe_lc (X := (cxOf CX0 P w K mg base NInn "_inner_of" (defScope sInn) f cdv A outer s H E).nox) (own := [("part", 3)]) (g := (gName 3)) (tt := tYes) rfl scInn.nd (pi_list (pv 2)) (blkOk_by (N := NInn) (sc := defScope sInn) (by decide +kernel)) (fun _ _ _ _ _ => (pg_name (i := 3) scInn.nd rfl (.inl rfl))) (fun _ _ _ _ _ => pts_nil) (fun _ _ _ _ _ => (pe_call gBr.G (hr.mono (by decide)) (by rfl) gBr.m gBr.k gBr.b .nil pass0 (pa_cons (pv 3) pa_nil)))) pa_nil))))))) (pss_one (ps_ret (pe_lc (X := (cxOf CX0 P w K mg base NInn "_inner_of" (defScope sInn) f cdv A outer s H E).nox) (own := [("part", 3)]) (g := (gName 3)) (tt := tYes) rfl scInn.nd (pi_list (pv 2)) (blkOk_by (N := NInn) (sc := defScope sInn) (by decide +kernel)) (fun _ _ _ _ _ => (pg_name (i := 3) scInn.nd rfl (.inl rfl))) (fun _ _ _ _ _ => pts_nil) (fun _ _ _ _ _ => (pe_ix (ix_tupK (K := K) rfl) (pv 3) pe_int (fun _ _ => rfl)))))) pss_nil)
      (pss_one (ps_ret pe_non))))))))), ?_⟩
    obtain ⟨a, xs, rfl, ha⟩ := hv.head
    refine ⟨_, rfl, _, _, _, _, true, rfl, .ty _, .base (.tup ha), kit_ty (by decide +kernel), _, rfl, iteF ?_⟩
    refine ⟨_, rfl, a, _, rfl, .inr (SqT.of ha), rfl, _, rfl, ?_⟩
    have lx : decide (V.int ((.str x.word :: xs : List V).length : Nat) = V.int 0) = false := decide_eq_false fun z => by
      have := V.int.inj z
      rw [List.length_cons] at this
      omega
    rw [lx]
    refine iteF ⟨_, rfl, a, _, 0, _, rfl, rfl, SqT.of ha, atI_nat (j := 0) rfl, _, _, _, _, true, rfl, .ty _, .base (.str x.word), kit_ty (by decide +kernel), _, rfl, iteF ?_⟩
    match x, hv, fm, ok, q with
    | .note z, _, fm, ok, _ => exact absurd (show okS (.note z) = true from fm) (by rw [ok]; decide)
    | .call z, _, fm, ok, _ => exact absurd (show okS (.call z) = true from fm) (by rw [ok]; decide)
    | .stay, _, fm, ok, _ => exact absurd (show okS .stay = true from rfl) (by rw [ok]; decide)
    | .choose bs, _, fm, ok, _ => exact absurd (show okS (.choose bs) = true from fm) (by rw [ok]; decide)
    | .again i j b, ⟨a', w0, e, ha', g⟩, fm, ok, q =>
      cases e
      rw [ha'] at ha
      cases ha
      refine ⟨_, rfl, a, _, _, rfl, SqT.of ha', by show 3 ≤ 1000; decide, fun l hl => ?_⟩
      have s1 := same_new (o := .lst [V.int i, V.int j, w0]) hl
      have hl1 : upd H l (.lst [V.int i, V.int j, w0]) l = some (.lst [V.int i, V.int j, w0]) := upd_same
      generalize upd H l (.lst [V.int i, V.int j, w0]) = H1 at s1 hl1 ⊢
      refine ⟨_, rfl, small1000 (Nat.le_of_ble_eq_true rfl), fun p2 hp2 => ⟨p2, _, rfl, .inr (SqT.of upd_same), rfl, rfl, _, rfl, ?_⟩⟩
      have s2 := same_new (o := .tup [V.str "note", V.str "call"]) hp2
      have ei : inV (V.str "again") [V.str "note", V.str "call"] = false := by decide +kernel
      refine ite2 (fun h => absurd h (by rw [show (if false = true then !inV (V.str "again") [V.str "note", V.str "call"] else inV (V.str "again") [V.str "note", V.str "call"]) = inV (V.str "again") [V.str "note", V.str "call"] from rfl, ei]; decide)) (fun _ => ?_)
      have s12 := s1.trans s2
      have hl2 := s2 _ _ hl1
      generalize upd H1 p2 (.tup [V.str "note", V.str "call"]) = H2 at s12 hl2 ⊢
      have ok : (wtB i && wtB j) = false := ok
      refine ⟨_, rfl, rfl, _, rfl, iteF ⟨_, rfl, rfl, _, rfl, iteT ?_⟩⟩
      refine ⟨_, rfl, l, _, rfl, .inl (SqL.of hl2), rfl, _, rfl, iteT ?_⟩
      refine ⟨_, rfl, l, _, 0, _, rfl, rfl, SqL.of hl2, atI_nat (j := 0) rfl, i, rfl, _, rfl, ?_⟩
      cases o1 : wtB i with
      | false =>
        have o1 : (decide (1 ≤ i) && decide (i ≤ 99)) = false := o1
        rw [o1]
        exact iteF (q _ s12)
      | true =>
        rw [o1, Bool.true_and] at ok
        have o1 : (decide (1 ≤ i) && decide (i ≤ 99)) = true := o1
        have o2 : (decide (1 ≤ j) && decide (j ≤ 99)) = false := ok
        rw [o1]
        refine iteT ⟨_, rfl, l, _, 1, _, rfl, rfl, SqL.of hl2, atI_nat (j := 1) rfl, j, rfl, _, rfl, ?_⟩
        rw [o2]
        exact iteF (q _ s12)
    | .toss rs, ⟨a', ws, e, ha', g⟩, fm, ok, q =>
      cases e
      rw [ha'] at ha
      cases ha
      have ok1 : (decide ((2 : Int) ≤ (rs.length : Nat)) && decide (((rs.length : Nat) : Int) ≤ 4)) = true := fm
      have ok : ((decide ((2 : Int) ≤ (rs.length : Nat)) && decide (((rs.length : Nat) : Int) ≤ 4)) && rs.all fun r => wtB r.1) = false := ok
      have ok2 : (rs.all fun r => wtB r.1) = false := by rw [ok1, Bool.true_and] at ok; exact ok
      have lb : xs.length ≤ 4 := by
        have := of_decide_eq_true (Bool.and_eq_true_iff.mp ok1).2
        rw [g.1]; omega
      refine ⟨_, rfl, a, _, _, rfl, SqT.of ha', by have := lb; omega, fun l hl => ?_⟩
      have s1 := same_new (o := .lst xs) hl
      have hl1 : upd H l (.lst xs) l = some (.lst xs) := upd_same
      generalize upd H l (.lst xs) = H1 at s1 hl1 ⊢
      refine ⟨_, rfl, small1000 (Nat.le_of_ble_eq_true rfl), fun p2 hp2 => ⟨p2, _, rfl, .inr (SqT.of upd_same), rfl, rfl, _, rfl, ?_⟩⟩
      have s2 := same_new (o := .tup [V.str "note", V.str "call"]) hp2
      have ei : inV (V.str "toss") [V.str "note", V.str "call"] = false := by decide +kernel
      refine ite2 (fun h => absurd h (by rw [show (if false = true then !inV (V.str "toss") [V.str "note", V.str "call"] else inV (V.str "toss") [V.str "note", V.str "call"]) = inV (V.str "toss") [V.str "note", V.str "call"] from rfl, ei]; decide)) (fun _ => ?_)
      have s12 := s1.trans s2
      have hl2 := s2 _ _ hl1
      generalize upd H1 p2 (.tup [V.str "note", V.str "call"]) = H2 at s12 hl2 ⊢
      refine ⟨_, rfl, rfl, _, rfl, iteF ⟨_, rfl, rfl, _, rfl, iteF ⟨_, rfl, rfl, _, rfl, iteF ⟨_, rfl, rfl, _, rfl, iteT ?_⟩⟩⟩⟩
      refine ⟨_, rfl, l, _, rfl, .inl (SqL.of hl2), _, 2, 4, rfl, _, rfl, ?_⟩
      rw [g.1, ok1]
      have g2 := g.imp (R' := fun w0 r => ∃ p0 x, w0 = .ref p0 ∧ H2 p0 = some (.tup [.int r.1, x]) ∧ BdAt n H2 x r.2) fun _ _ ⟨p0, x, e1, h1, z⟩ => ⟨p0, x, e1, s12 _ _ h1, BdAt.same z s12⟩
      refine iteT ⟨_, rfl, l, rfl, ⟨_, SqL.of hl2⟩, fun D hD => ?_⟩
      refine lc_list (xs := xs) (fun i Hc => Same H2 Hc ∧ Hc D = some (.lst (((rs.take i).map fun r => wtB r.1).map V.bl))) ⟨same_new hD, upd_same⟩ (fun i Hc _ p' => SqL.of (p'.1 _ _ hl2)) ?_ ?_
      · rintro i v Hc hvi ⟨sm, hDc⟩
        obtain ⟨r, hr, p0, x0, rfl, h0, z⟩ := g2.2 i v hvi
        have il := (List.getElem?_eq_some_iff.mp hvi).1
        refine ⟨rfl, _, rfl, p0, r.1, x0, rfl, sm _ _ h0, _, hDc, small1000 (by rw [List.length_map, List.length_map, List.length_take]; omega), same_upd hD sm, ?_⟩
        rw [take_snoc hr, List.map_append, List.map_append]
        exact upd_same
      rintro H3 ⟨s3, hD3⟩
      rw [List.take_of_length_le (by rw [g.1]; exact Nat.le_refl _)] at hD3
      refine ⟨D, _, rfl, SqL.of hD3, _, rfl, ?_⟩
      have ea : (rs.map fun r => wtB r.1).all id = rs.all fun r => wtB r.1 := by rw [List.all_map]; rfl
      rw [ea, ok2]
      exact iteF (q _ (s12.trans s3))
/-- all statements right, or right but for weights -/
def fmB : Nat → Bd → Prop
  | 0, _ => True
  | n + 1, b => ∀ s ∈ b, fmS s = true ∧ ∀ k ∈ s.kids, fmB n k
def okC : Nat → Bd → Bool
  | 0, _ => true
  | n + 1, b => b.all fun s => okS s && s.kids.all (okC n)
theorem okC_ok : ∀ {n : Nat} {b : Bd}, okC n b = true → okB n b
  | 0, _, _ => trivial
  | n + 1, b, h => fun s hs => by
    have := List.all_eq_true.mp (show (b.all fun s => okS s && s.kids.all (okC n)) = true from h) s hs
    rw [Bool.and_eq_true] at this
    exact ⟨this.1, fun k hk => okC_ok (List.all_eq_true.mp this.2 k hk)⟩
def spLbX (n : Nat) : Sp := fun vs H Q _ => ∃ (v : V) (d m : Nat) (b : Bd), vs = [v, .int ((d : Int) - 1), .int (m : Nat)] ∧ BdAt n H v b ∧ fmB n b ∧ n ≤ d ∧ cnt n b ≤ m ∧ ((okC n b = true → ∀ H', Same H H' → Q (.int ((m - cnt n b : Nat) : Nat)) H') ∧ (okC n b = false → ∀ H', Same H H' → Q .non H'))
theorem all_next {α : Type} {f : α → Bool} {l : List α} {i : Nat} {x : α} (h : l[i]? = some x) (a : (l.take i).all f = true) (b : f x = true) : (l.take (i + 1)).all f = true := by
  rw [take_snoc h, List.all_append, a]
  simp [b]
theorem all_stop {α : Type} {f : α → Bool} {l : List α} {i : Nat} {x : α} (h : l[i]? = some x) (b : f x = false) : l.all f = false := by
  cases e : l.all f with
  | false => rfl
  | true => rw [List.all_eq_true.mp e x (List.mem_of_getElem? h)] at b; cases b
theorem ok_lbX {f : Addr} {fd : FuncData} {n k : Nat} (F : Fun K "_left_behind" "_left_behind" sLb f fd) (T : TxtI mg) (gI : Glo P w K mg base "_inner_of" 5 ["value"] (fun vs H Q E => spInn n vs H Q E ∨ spInnX n vs H Q E)) (gS : FnOk P w K mg base CX0 k f fd ["value", "depth", "left"] (spLbX n)) (k5 : 5 ≤ k) (mS : mg "_left_behind" = some (.ref f)) (kS : PySem.W.keepIn K (.ref f) = true) (bS : Binds K fd ["value", "depth", "left"] []) : FnOk P w K mg base CX0 (k + 1) f fd ["value", "depth", "left"] (spLbX (n + 1)) := by
  refine F.ok scLb (fun vs H Q E h => ?_) (fun cdv A outer s H vs Q E hr h => ?_)
  · obtain ⟨v, d, m, b, rfl, _⟩ := h
    rfl
  · obtain ⟨v, d, m, b, rfl, ⟨a, xs, rfl, ha, hx⟩, fm, nd, le, q⟩ := h
    refine ⟨_, (pss_cons (ps_if (PW.pt (pw_or (pt_not (pt_val (pe_callB call_isi (by rfl) T.isi PyProof.Rows.boot_isinstance (pa_cons (pv 0) (pa_cons (pe_bltn (v := .ty "tuple") (by rfl) T.tup (by decide +kernel) rfl) pa_nil))))) (pw_or1 (pt_cmpR op_gt (pe_callB call_len_seq (by rfl) T.len PySem.boot_len (pa_cons (pv 0) pa_nil)) (pv 2) (nomark _))))) (pss_one (ps_ret pe_non)) pss_nil)
      (pss_cons (ps_set (i := 3) scLb.nd rfl (Or.inl rfl) (pe_op op_sub (pv 2) (pe_callB call_len_seq (by rfl) T.len PySem.boot_len (pa_cons (pv 0) pa_nil))))
      (pss_cons (ps_for PassesOwn.never rfl (pi_tup (pv 0)) (pg_name (i := 4) scLb.nd rfl (.inl rfl)) (pss_cons (ps_set (i := 5) scLb.nd rfl (Or.inl rfl) (pe_call gI.G (hr.mono k5) (by rfl) gI.m gI.k gI.b .nil pass0 (pa_cons (pv 4) pa_nil))) (pss_cons (ps_if (PW.pt (pw_or (pt_cmpR op_isN (pv 5) pe_non (nomark _)) (pw_or1 (PW.pt (pw_and (pt_cmpR op_gt (pe_callB call_len_seq (by rfl) T.len PySem.boot_len (pa_cons (pv 5) pa_nil)) pe_int (nomark _)) (pw_and1 (pt_cmpR op_eq (pv 1) pe_int (nomark _)))))))) (pss_one (ps_ret pe_non)) pss_nil) (pss_one (ps_for PassesOwn.never rfl (pi_list (pv 5)) (pg_name (i := 6) scLb.nd rfl (.inl rfl)) (pss_cons (ps_set (i := 3) scLb.nd rfl (Or.inl rfl) (pe_call gS hr (by rfl) mS kS bS .nil pass0 (pa_cons (pv 6) (pa_cons (pe_op op_sub (pv 1) pe_int) (pa_cons (pv 3) pa_nil))))) (pss_one (ps_if (pt_cmpR op_isN (pv 3) pe_non (nomark _)) (pss_one (ps_ret pe_non)) pss_nil))))))))
      (pss_one (ps_ret (pv 3)))))), ?_⟩
    have xl : xs.length = b.length := hx.1
    have bl : b.length ≤ m := by
      have : b.length + (b.map fun s => (s.kids.map (cnt n)).sum).sum ≤ m := le
      omega
    refine ⟨_, rfl, _, _, _, _, true, rfl, .ty _, .base (.tup ha), kit_ty (by decide +kernel), _, rfl, iteF ?_⟩
    refine ⟨_, rfl, a, _, rfl, .inr (SqT.of ha), _, rfl, _, _, rfl, rfl, _, rfl, ?_⟩
    refine ite2 (fun z => absurd (of_decide_eq_true z) (by omega)) (fun _ => ?_)
    refine ⟨_, rfl, _, rfl, a, _, rfl, .inr (SqT.of ha), _, _, rfl, rfl, ?_⟩
    let sf : St → Nat := fun s => (s.kids.map (cnt n)).sum
    let lf : Nat → Nat := fun i => m - (b.length + ((b.take i).map sf).sum)
    let oks : St → Bool := fun s => okS s && s.kids.all (okC n)
    have hm : (fun i j : Int => V.int (i - j)) (m : Int) (xs.length : Int) = V.int (lf 0 : Nat) := by
      show V.int ((m : Int) - (xs.length : Int)) = V.int ((m - (b.length + 0) : Nat) : Int)
      congr 1
      omega
    rw [hm]
    refine ⟨_, rfl, a, rfl, ⟨_, SqT.of ha⟩, ?_⟩
    refine for_tup (xs := xs) (fun i σ Hc => Same H Hc ∧ (b.take i).all oks = true ∧ ∃ (x4 x5 x6 : Option V), σ = [some (.ref a), some (.int ((d : Int) - 1)), some (.int (m : Nat)), some (.int (lf i : Nat)), x4, x5, x6]) ⟨Same.refl H, rfl, _, _, _, rfl⟩ (fun i σ Hc _ p => SqT.of (p.1 _ _ ha)) ?_ ?_
    · rintro i v Hc' Hc hvi ⟨sm, hall, x4, x5, x6, e⟩
      subst e
      obtain ⟨st, hst, hs⟩ := hx.2 i v hvi
      obtain ⟨fm1, fm2⟩ := fm st (List.mem_of_getElem? hst)
      have hsm := (Kt.same sm).st hs
      have bad : oks st = false → okC (n + 1) b = false := fun z => all_stop hst z
      cases ok1 : okS st with
      | false =>
        refine ⟨_, rfl, .inr ⟨v, st, rfl, hsm, fm1, ok1, fun H1 s1 => ?_⟩⟩
        refine ⟨_, rfl, rfl, _, rfl, iteT ?_⟩
        exact q.2 (bad (by show (okS st && _) = false; rw [ok1]; rfl)) _ (sm.trans s1)
      | true =>
      refine ⟨_, rfl, .inl ⟨v, st, rfl, hsm, ok1, fun l us H1 s1 hl hu => ?_⟩⟩
      have ul : us.length = st.kids.length := hu.1
      refine ⟨_, rfl, rfl, _, rfl, iteF ?_⟩
      refine ⟨_, rfl, l, us, rfl, .inl (SqL.of hl), _, _, rfl, rfl, _, rfl, ?_⟩
      have deep : 0 < us.length → 0 < n := fun z => by
        cases n with
        | zero =>
          obtain ⟨w0, hw⟩ : ∃ w0, us[0]? = some w0 := ⟨_, List.getElem?_eq_getElem z⟩
          obtain ⟨b0, _, h0⟩ := hu.2 0 w0 hw
          exact h0.elim
        | succ n => omega
      have tot : b.length + ((b.take i).map sf).sum + sf st ≤ m := by
        have h1 : ((b.take (i + 1)).map sf).sum = ((b.take i).map sf).sum + sf st := sum_take hst
        have h2 := sum_take_le (f := sf) b (i + 1)
        have h3 : b.length + (b.map sf).sum ≤ m := le
        omega
      let kf : Nat → Nat := fun j => ((st.kids.take j).map (cnt n)).sum
      let li : Nat → Nat := fun j => m - (b.length + ((b.take i).map sf).sum + kf j)
      refine ite2 (fun z => ⟨_, rfl, rfl, _, rfl, ite2 (fun z2 => absurd (V.int.inj (of_decide_eq_true z2)) (by have := of_decide_eq_true z; have := deep (by omega); omega)) (fun _ => ?_)⟩) (fun z => iteF ?_)
      all_goals
        refine ⟨_, rfl, l, rfl, ⟨_, SqL.of hl⟩, ?_⟩
        refine for_list (xs := us) (fun j σ Hx => Same H1 Hx ∧ (st.kids.take j).all (okC n) = true ∧ ∃ x6 : Option V, σ = [some (.ref a), some (.int ((d : Int) - 1)), some (.int (m : Nat)), some (.int (li j : Nat)), some v, some (.ref l), x6]) ⟨Same.refl H1, rfl, _, rfl⟩ (fun j σ Hx _ p => SqL.of (p.1 _ _ hl)) ?_ ?_
        · rintro j w0 σ Hx hwj ⟨sx, hka, x6, rfl⟩
          obtain ⟨kb, hkb, hb⟩ := hu.2 j w0 hwj
          have hb := (Kt.same sx).bd hb
          have n0 : 0 < n := deep (Nat.lt_of_le_of_lt (Nat.zero_le _) (List.getElem?_eq_some_iff.mp hwj).1)
          have k1 : kf (j + 1) = kf j + cnt n kb := sum_take hkb
          have k2 : kf (j + 1) ≤ sf st := sum_take_le _ _
          have dd : ((d - 1 : Nat) : Int) = (d : Int) - 1 := by omega
          refine ⟨_, rfl, _, rfl, _, _, rfl, rfl, _, rfl, w0, d - 1, li j, kb, by rw [dd]; rfl, hb, fm2 kb (List.mem_of_getElem? hkb), by omega, by show cnt n kb ≤ m - _; omega, ?_, ?_⟩
          · intro okk H2 s2
            refine ⟨_, rfl, rfl, _, rfl, iteF ⟨sx.trans s2, all_next hkb hka okk, some w0, ?_⟩⟩
            have e : li j - cnt n kb = li (j + 1) := by
              show m - (b.length + ((b.take i).map sf).sum + kf j) - cnt n kb = m - (b.length + ((b.take i).map sf).sum + kf (j + 1))
              omega
            rw [← e]
            rfl
          · intro okk H2 s2
            refine ⟨_, rfl, rfl, _, rfl, iteT ?_⟩
            refine q.2 (bad ?_) _ (((sm.trans s1).trans sx).trans s2)
            show (okS st && st.kids.all (okC n)) = false
            rw [all_stop hkb okk, Bool.and_false]
        · rintro σ Hx ⟨sx, hka, x6, rfl⟩
          rw [List.take_of_length_le (by omega)] at hka
          refine ⟨(sm.trans s1).trans sx, all_next hst hall (by show (okS st && st.kids.all (okC n)) = true; rw [ok1, hka]; rfl), some v, some (.ref l), x6, ?_⟩
          have e : li us.length = lf (i + 1) := by
            have h1 : ((b.take (i + 1)).map sf).sum = ((b.take i).map sf).sum + sf st := sum_take hst
            have h2 : kf us.length = sf st := by
              show ((st.kids.take us.length).map (cnt n)).sum = (st.kids.map (cnt n)).sum
              rw [ul, List.take_length]
            show m - (b.length + ((b.take i).map sf).sum + kf us.length) = m - (b.length + ((b.take (i + 1)).map sf).sum)
            omega
          rw [← e]
    · rintro σ Hc ⟨sm, hall, x4, x5, x6, rfl⟩
      rw [List.take_of_length_le (by omega)] at hall
      have e : lf xs.length = m - cnt (n + 1) b := by
        show m - (b.length + ((b.take xs.length).map sf).sum) = m - (b.length + (b.map sf).sum)
        rw [xl, List.take_length]
      refine ⟨_, rfl, ?_⟩
      rw [e]
      exact q.1 hall Hc sm
theorem ok_leftX {f : Addr} {fd : FuncData} (F : Fun K "_left_behind" "_left_behind" sLb f fd) (T : TxtI mg) (gI : ∀ n, Glo P w K mg base "_inner_of" 5 ["value"] (fun vs H Q E => spInn n vs H Q E ∨ spInnX n vs H Q E)) (mS : mg "_left_behind" = some (.ref f)) (kS : PySem.W.keepIn K (.ref f) = true) (bS : Binds K fd ["value", "depth", "left"] []) : ∀ n, FnOk P w K mg base CX0 (n + 5) f fd ["value", "depth", "left"] (spLbX n)
  | 0 => by
    refine F.ok scLb (fun vs H Q E h => ?_) (fun cdv A outer s H vs Q E hr h => ?_)
    · obtain ⟨v, d, m, b, rfl, h, _⟩ := h
      exact h.elim
    · obtain ⟨v, d, m, b, rfl, h, _⟩ := h
      exact h.elim
  | n + 1 => by
    have := ok_lbX F T (gI n) (ok_leftX F T gI mS kS bS n) (by omega) mS kS bS
    have e : n + 1 + 5 = n + 5 + 1 := by omega
    rw [e]
    exact this
/-- a body that may stand in a program, or one with a weight that is none -/
def spIbX : Sp := fun vs H Q _ => ∃ v b, vs = [v] ∧ BdAt 5 H v b ∧ fmB 5 b ∧ cnt 5 b ≤ 60 ∧ ∀ H', Same H H' → Q (.bl (okC 5 b)) H'
theorem ok_ibX {f : Addr} {fd : FuncData} {t1 t2 : Tok} (F : Fun K "is_body" "is_body" sIb f fd) (m1 : mg "MAX_DEPTH" = some (.int 4 t1)) (m2 : mg "MAX_STATEMENTS" = some (.int 60 t2)) (gL : Glo P w K mg base "_left_behind" 10 ["value", "depth", "left"] (spLbX 5)) : FnOk P w K mg base CX0 11 f fd ["value"] spIbX := by
  refine F.ok scIb (fun vs H Q E h => ?_) (fun cdv A outer s H vs Q E hr h => ?_)
  · obtain ⟨v, b, rfl, _⟩ := h
    rfl
  · obtain ⟨v, b, rfl, hb, fm, le, q⟩ := h
    refine ⟨_, (pss_one (ps_ret (pe_cmpR op_notN (pe_call gL.G (hr.mono (by decide)) (by rfl) gL.m gL.k gL.b .nil pass0 (pa_cons (pv 0) (pa_cons (pe_glob (v := .int 4) (by rfl) m1 ⟨t1, rfl⟩) (pa_cons (pe_glob (v := .int 60) (by rfl) m2 ⟨t2, rfl⟩) pa_nil)))) pe_non (nomark _)))), ?_⟩
    refine ⟨_, rfl, v, 5, 60, b, rfl, hb, fm, by omega, le, fun z H' s' => ⟨rfl, ?_⟩, fun z H' s' => ⟨rfl, ?_⟩⟩
    · rw [z] at q
      exact q H' s'
    · rw [z] at q
      exact q H' s'
end
end FR
set_option Elab.async false
set_option linter.all false
set_option maxRecDepth 100000
set_option maxHeartbeats 1000000
/-! programs with a weight that is none: the error -/
namespace FR
open PySem PySem.Spec PyProof.Rows L2
abbrev veB : List Value := [.type "ValueError", .type "Exception", .type "BaseException", .type "object"]
/-- an own class of errors -/
structure ExcC (K : PySem.W.Frag) (mg : Str → Option Value) (nm : Str) (I : Addr) : Prop where
  x : PySem.W.excIn K I veB "ValueError.__new__" = true
  g : mg nm = some (.ref I)
  k : PySem.W.keepIn K (.ref I) = true
  b : PySem.W.subIn K (.ref I) (.type "BaseException") = some true
  t : PySem.W.typeIn K (.ref I) = some (.type "type")
  m : PySem.W.exmOne K (.ref I) (.ref I) = some true
/-- X('..'), made in an except suite: the record has all its fields -/
theorem pmk5_own {X : Cx} {C : Addr} {bmB : List Value} {B newId initId : String} {x m : Str} {j : Nat} {p p2 pos : Pos} (F : ExcBaseFacts B newId initId bmB) (q : PySem.W.excIn X.K C bmB newId = true) (gC : X.mg x = some (.ref C)) (kC : PySem.W.keepIn X.K (.ref C) = true) (r : Raises X (.ref C)) (hg : Gl X x)
    (nodbg : (x == ("__debug__" : Str)) = false := by decide) : L2H.PMk5 X (.Call (.Name x p) [.Constant (.str m) j p2] [] pos) (fun _ H Q => Q (.ref C) none H) := fun pins s σ H Q I h => by
  refine wpAny_Call_Name_kw (ld_glob I hg gC ?_ nodbg)
  have one : PA X [.Constant (.str m) j p2] (tCons (tC (.str m)) tNil) := pa_cons pe_str pa_nil
  refine PySem.W.callWith_K (h₀ := X.base) I.ok.mod.kin kC (thn (one.run pos pins s σ H (fun ws H1 => ws = [V.str m] ∧ H = H1) I ⟨rfl, rfl⟩) fun us s1 got => ?_)
  obtain ⟨ws, H1, J, rel, rfl, eqH⟩ := got
  rw [← eqH] at J
  refine ⟨J.kIn, ?_⟩
  cases rel with
  | cons ru rest =>
    rename_i w0 ws0
    cases rest
    show wpAny _ _ (call (.ref C) [w0]) _ _ _
    obtain ⟨bm, N, nm, qn, bs, hdct, sn, sub, ab, col, dd, k0, k1, k2, k3, k5, mN, hC, hN, hni, T⟩ := exc_obj J.kIn q
    exact wpAny_call_exc_subT F T hC hN hni (fun h' e made => L2H.mk_of5 J made r h (J.hok.gone made.new)) (by show 1 ≤ sizeLine; rw [sizeLine_eq]; omega)
section
variable {P : Program} {w : World} {K : PySem.W.Frag} {mg : Str → Option Value} {base : Heap}
/-- for a def that lets out exceptions with no context -/
theorem Fun.okN {x qual : Str} {st : Stmt} {f : Addr} {fd : FuncData} {N ps : List Str} {k : Nat} {sp : Sp} (F : Fun K x qual st f fd) (S : FnScope N ps (defScope st)) (len : ∀ vs H Q E, sp vs H Q E → vs.length = ps.length)
    (body : ∀ (cdv : Value) (A : Around) (outer : List Env) (s : Shared) (H : Hp) (vs : List V) (Q : VK) (E : XK), Room k (A.deeper (envOfC qual (defScope st) s.heap.objs.size f cdv)) → sp vs H Q E →
      ∃ t, PSs (cxOf (L2N.CX P w) P w K mg base N qual (defScope st) f cdv A outer s H E) (defBody st) t ∧ t { nx := fun _ H' => Q .non H', rt := Q } (start N vs) H) : FnOk P w K mg base (L2N.CX P w) (k + 1) f fd ps sp := by
  obtain ⟨_, _, _, _, _, _, _, _, _, rfl, lk, cd⟩ := F.ex
  exact fn_of lk cd S len fun A outer s H vs Q E hr hsp => body _ A outer s H vs Q E hr hsp
theorem fn_liftN {CX : CXT} {k : Nat} {f : Addr} {fd : FuncData} {ps : List Str} {sp : Sp} (F : FnOk P w K mg base CX0 k f fd ps sp) : FnOk P w K mg base CX k f fd ps sp :=
  ⟨F.len, fun A outer s H args ls vs Q E hr he hb hv h => codeAny_mono (F.run A outer s H args ls vs Q E hr he hb hv h) fun r s' hq => by
    cases r with
    | error e => exact hq.elim
    | ok fl => cases fl <;> exact hq⟩
/-- def f(x, **y), called with one value and keywords of these names; it may raise -/
structure FnRsX (CX : CXT) (P : Program) (w : World) (K : PySem.W.Frag) (mg : Str → Option Value) (base : Heap) (k : Nat) (f : Addr) (ks : List Str) (sp : Sp) : Prop where
  run : ∀ (A : Around) (outer : List Env) (s : Shared) (H : Hp) (u : Value) (ws : List Value) (vu : V) (gs : List V) (Q : VK) (E : XK), Room k A → Env0 P w K mg base A outer s H → RelV vu u → Vals gs ws → ws.length = ks.length → (∀ d, H d = none → sp [vu, .ref d] (upd H d (.dK (dkOf ks gs))) Q E) →
    codeAny (model P w) A (.call (.ref f) ⟨[u], ks.zip ws⟩) (CR CX outer P w H s Q E) s
/-- an exception behind a new dict is one behind the state before -/
theorem cx_laid {outer : List Env} {H : Hp} {s s1 : Shared} {d : Addr} {o : HO} {E : XK} {u : Value} {s' : Shared} (keep : ∀ b ob, s.heap.get? b = some ob → s1.heap.get? b = some ob) (hd : s.heap.objs.size ≤ d) (hn : H d = none) (os : s1.os = s.os)
    (c : L2N.CX P w outer (upd H d o) s1 E u s') : L2N.CX P w outer H s E u s' := by
  obtain ⟨a, B, H', cls, dx, e, fl, hok, ub, na, os', ag, hE⟩ := c
  have nd : ∀ {b : Addr} {ob : Obj}, s.heap.get? b = some ob → b ≠ d := fun z => Nat.ne_of_lt (Nat.lt_of_lt_of_le (Heap.lt_size z) hd)
  have nH : ∀ {b : Addr} {x : HO}, H b = some x → b ≠ d := fun z => ne_of_none z hn
  refine ⟨a, B, H', cls, dx, e, fl, hok, ⟨fun b ob q n hb => ub.keep b ob (keep b ob q) (by rw [upd_ne (nd q)]; exact n) hb, fun b ob q hb => ub.slot b ob (keep b ob q) hb, fun b ob q n => ub.free b ob (keep b ob q) (by rw [upd_ne (nd q)]; exact n),
    fun b ob q hb => ub.there b ob (keep b ob q) hb, fun b xs q => ub.tups b xs (by rw [upd_ne (nH q)]; exact q), fun b ob xs q => ub.frzs b ob xs (by rw [upd_ne (nH q)]; exact q), fun b pq q => ub.tbls b pq (by rw [upd_ne (nH q)]; exact q)⟩, na, os'.trans os, ag, hE⟩
theorem rests_okX {nm qual : Str} {ks : List Str} {x y : Arg} {st : Stmt} {f : Addr} {fd : FuncData} {N : List Str} {k : Nat} {sp : Sp} (F : Fun K nm qual st f fd) (hp : defArgs st = ⟨[], [x], none, [], [], some y, []⟩) (S : FnScope N [x.arg, y.arg] (defScope st)) (hk : ∀ k ∈ ks, ¬ k = x.arg) (hnd : ks.Nodup) (hfew : ks.length ≤ 900)
    (len : ∀ vs H Q E, sp vs H Q E → vs.length = 2)
    (hbody : ∀ (cdv : Value) (A : Around) (outer : List Env) (s : Shared) (H : Hp) (vs : List V) (Q : VK) (E : XK), Room k (A.deeper (envOfC qual (defScope st) s.heap.objs.size f cdv)) → sp vs H Q E →
      ∃ t, PSs (cxOf (L2N.CX P w) P w K mg base N qual (defScope st) f cdv A outer s H E) (defBody st) t ∧ t { nx := fun _ H' => Q .non H', rt := Q } (start N vs) H) : FnRsX (L2N.CX P w) P w K mg base (k + 1) f ks sp := by
  obtain ⟨oc, od, kV, doc, pm, an, cdv, ct, osl, rfl, lk, hcd⟩ := F.ex
  refine ⟨fun A outer s H u ws vu gs Q E hr e0 ru rg hlw hsp => ?_⟩
  have ez : (ks.zip ws).map (·.1) = ks := List.map_fst_zip (by omega)
  have lz : (ks.zip ws).length = ks.length := by rw [List.length_zip]; omega
  have KX0 : K.In s.heap := e0.mod.kin.keeps fun b o e => (e0.bs b o e).1
  refine codeAny_call_function hr.depth (KX0 _ _ lk) rfl S.co S.gen rfl (PySem.W.codeRec_of KX0 hcd) (bind_rests hp rfl (fun p hp => hk _ (by rw [← ez]; exact List.mem_map.mpr ⟨p, hp, rfl⟩)) (by rw [ez]; exact hnd) (by rw [lz, sizeLine_eq]; omega) fun h' d tk hd' ed keep => ?_)
  have hn : H d = none := e0.hok.fresh (Nat.le_of_eq ed)
  have hlt : d < h'.objs.size := by
    obtain ⟨o, es, ep, e, _⟩ := hd'
    exact Heap.lt_size e
  have big : sysModules < s.heap.objs.size := by
    have h : mainGlobals < s.heap.objs.size := (e0.mod.glob.keeps fun b o e => (e0.bs b o e).1).lt
    exact Nat.lt_trans (by decide) h
  have hok : HOk P w (upd H d (.dK (dkOf ks gs))) h' := e0.hok.laid keep (Nat.le_of_eq ed) ⟨by unfold dkOf; rw [List.length_map, List.length_zip, sizeLine_eq]; omega, beq_eq_false_iff_ne.mpr (by rw [← ed]; exact Ne.symm (Nat.ne_of_lt big)), _, dkOf_kv ks rg, hd'⟩
  have un : Un (frs outer) [] H (upd H d (.dK (dkOf ks gs))) s.heap h' := Un.laid keep (Nat.le_of_eq ed) hn
  have e1 : Env0 P w K mg base A outer { s with heap := h', toks := tk } (upd H d (.dK (dkOf ks gs))) := by
    refine ⟨e0.frames, e0.mod, fun b o e => ⟨keep _ _ (e0.bs b o e).1, ?_⟩, Nat.le_trans e0.bsz (by rw [ed]; exact Nat.le_of_lt hlt), Heap.FunFrames.of_keeps (fun b o e _ => ⟨o, keep _ _ e, rfl⟩) e0.funs, fun b hb => ?_, hok, e0.bare⟩
    · have lt := Heap.lt_size (e0.bs b o e).1
      rw [ed] at lt
      rw [upd_ne (Nat.ne_of_lt lt)]
      exact (e0.bs b o e).2
    · have hb0 := e0.frf b hb
      obtain ⟨o, e⟩ := frs_there e0.funs b hb
      have lt := Heap.lt_size e
      rw [ed] at lt
      rw [upd_ne (Nat.ne_of_lt lt)]
      exact hb0
  have q1 := hsp d hn
  generalize hs1 : ({ s with heap := h', toks := tk } : Shared) = s1 at e1
  have es1 : s1.heap = h' := by rw [← hs1]
  have eo1 : s1.os = s.os := by rw [← hs1]
  have hl : [vu, V.ref d].length = [x.arg, y.arg].length := rfl
  have r : Vals [vu, V.ref d] [u, Value.ref d] := .cons ru (.cons rfl .nil)
  have KX : K.In s1.heap := e1.mod.kin.keeps fun b o e => (e1.bs b o e).1
  have lim : s1.heap.NoLimit := e1.mod.nolimit.keeps fun b o e => (e1.bs b o e).1
  have hkind : ∀ z ∈ [x.arg, y.arg].zip [u, Value.ref d], (defScope st).names.lookup z.1 = some .local ∨ ((defScope st).names.lookup z.1 = some .cell ∧ ((cellsFrom (s1.heap.objs.size + 1) (defScope st).names []).lookup z.1).isSome = true) := fun ⟨n, v⟩ hy => by
    rcases S.par n (List.of_mem_zip hy).1 with q | q
    · exact .inl q
    · exact .inr ⟨q, PySem.W.cellsFrom_some _ _ _ (.inl q)⟩
  refine wpAny_newFunctionEnv_cells (binds := [x.arg, y.arg].zip [u, Value.ref d]) S.kind hkind fun env he s2 x2 => ?_
  subst he
  refine ⟨lim.keeps x2.toInCall.keep, codeAny_func ?_⟩
  obtain ⟨t, ht, hq⟩ := hbody cdv A outer s1 _ _ _ _ (hr.deeper _) q1
  have I : Inv (cxOf (L2N.CX P w) P w K mg base N qual (defScope st) f cdv A outer s1 (upd H d (.dK (dkOf ks gs))) E) [] (start N [vu, V.ref d]) (upd H d (.dK (dkOf ks gs))) s2 := inv_start S hr.hd e1 hl r x2
  have up : ∀ (e : Value) (s' : Shared), L2N.CX P w outer (upd H d (.dK (dkOf ks gs))) s1 E e s' → L2N.CX P w outer H s E e s' := fun e s' c => cx_laid (fun b ob z => by rw [es1]; exact keep b ob z) (Nat.le_of_eq ed) hn eo1 c
  refine wpAny_mono (ht.run [] s2 (start N [vu, V.ref d]) _ _ I hq) (fun fl s' hs => ?_) fun e s' hs => wpAny_mono hs (fun _ s3 c => up _ _ c) fun _ _ c => up _ _ c
  have fin : ∀ {σ' : L2.St} {H' : Hp} {v : V} {u : Value}, Inv (cxOf (L2N.CX P w) P w K mg base N qual (defScope st) f cdv A outer s1 (upd H d (.dK (dkOf ks gs))) E) [] σ' H' s' → RelV v u → Q v H' → CE outer P w H s Q u s' :=
    fun {σ' H' v u} J rv q => ⟨v, H', J.os.trans eo1, J.bare, un.trans (by rw [← es1]; exact J.base), J.hok, rv, q⟩
  cases fl with
  | ret u =>
    obtain ⟨v, σ', H', J, rv, q⟩ := hs
    exact fin J rv q
  | next =>
    obtain ⟨σ', H', J, q⟩ := hs
    exact fin (v := V.non) (u := Value.none) J rfl q
  | brk =>
    obtain ⟨_, _, _, q⟩ := hs
    exact False.elim q
  | cont =>
    obtain ⟨_, _, _, q⟩ := hs
    exact False.elim q
end
/-- a new instance, whose __init__ may raise -/
def tMakeRsX (C : Addr) (ks : List Str) (sp : Sp) (E : XK) (tk : L2.TA) : TE := fun σ H Q => tk σ H fun zs H2 => zs.length = ks.length ∧ ∀ x dx, H2 x = none → H2 dx = none → dx ≠ x → ∀ d, upd (upd H2 dx (.own x)) x (.ins C dx []) d = none →
  sp [.ref x, .ref d] (upd (upd (upd H2 dx (.own x)) x (.ins C dx [])) d (.dK (dkOf ks zs))) (fun v H3 => v = .non ∧ Q (.ref x) H3) E
section
variable {X : Cx} {CX : CXT} {k : Nat} {f C : Addr} {ks : List Str} {sp : Sp} {x : Str} {p pos : Pos} {kws : List Keyword} {tk : L2.TA} {E : XK}
theorem pe_makeRsX (M : Mk X.K C f) (F : FnRsX CX X.prog X.w X.K X.mg X.base k f ks sp) (hr : Room (k + 1) X.A) (hg : Gl X x) (hm : X.mg x = some (.ref C)) (hx : Passes CX X E) (hkw : PK X kws tk)
    (hall : (backToKw pos (keywordEach kws X.env)).all (·.1.isSome) = true := by rfl) (hks : (backToKw pos (keywordEach kws X.env)).filterMap (·.1) = ks := by rfl) (hdb : (x == ("__debug__" : Str)) = false := by decide)
    (hpl : ((backTo pos (starEach [] X.env)).any (·.1) || (backToKw pos (keywordEach kws X.env)).any (·.1.isNone)) = false := by rfl) :
    PE X (.Call (.Name x p) [] kws pos) (tMakeRsX C ks sp E tk) := by
  refine ⟨fun pins s σ H Q I h => ?_⟩
  refine wpAny_Call_Name_kw (ld_glob I hg hm ?_ hdb)
  refine PySem.W.callWith_KW0 (h₀ := X.base) I.ok.mod.kin M.kp hall ?_ hpl
  refine thn (hkw.run pos pins s σ H _ I h) fun ws s2 ⟨zs, H2, I2, rz, lz, q2⟩ => ⟨I2.kIn, ?_⟩
  rw [hks]
  have hlw : ws.length = ks.length := by rw [← rz.length]; exact lz
  have hq := q2 (s2.heap.objs.size + 1) s2.heap.objs.size (I2.hok.fresh (Nat.le_succ _)) (I2.hok.fresh (Nat.le_refl _)) (Nat.ne_of_lt (Nat.lt_succ_self _))
  have I3 := Inv.made (C := C) I2
  refine wpAny_call (make_map (f := f) I2.kIn M.makes M.init (beq_iff_eq.mp M.fn) (codeAny_mono (F.run _ X.stack _ _ (.ref (s2.heap.objs.size + 1)) ws (.ref (s2.heap.objs.size + 1)) zs _ E (hr.make C [] (ks.zip ws)) (I3.env0.make C [] (ks.zip ws)) rfl rz hlw hq) fun r s' hq' => ?_))
  cases r with
  | error e => exact hx pins σ _ _ e s' I3 hq'
  | ok fl =>
    cases fl with
    | ret u =>
      obtain ⟨v, H', I4, rv, ev, q3⟩ := I3.after hq'
      subst ev
      exact ⟨rv, ⟨V.ref (s2.heap.objs.size + 1), H', I4, rfl, q3⟩⟩
    | next => exact False.elim hq'
    | brk => exact False.elim hq'
    | cont => exact False.elim hq'
end
/-- procedures right but for some weight -/
structure PrgX (p : Pg) : Prop where
  len : 1 ≤ p.length ∧ p.length ≤ 8
  ok : ∀ x ∈ p, nameB x.1 = true ∧ fmB 5 x.2 ∧ cnt 5 x.2 ≤ 60
  bad : (p.all fun x => okC 5 x.2) = false
section
variable {P : Program} {w : World} {K : PySem.W.Frag} {mg : Str → Option Value} {base : Heap}
def spApX : Sp := fun vs H Q _ => ∃ d kvs p, vs = [.ref d] ∧ H d = some (.dK kvs) ∧ PrgK H kvs p ∧ PrgX p ∧ ∀ H', Same H H' → Q (.bl false) H'
theorem ok_apX {f fp dT : Addr} {fd fdp : FuncData} {t8 t60 : Tok} (F : Fun K "_are_program" "_are_program" sAp f fd) (T : TxtD mg) (m8 : mg "MAX_PROCEDURES" = some (.int 8 t8)) (m60 : mg "MAX_STATEMENTS" = some (.int 60 t60)) (gB : Glo P w K mg base "is_between" 2 ["value", "least", "greatest"] spBetX) (gN : Glo P w K mg base "is_name" 3 ["value"] (spNm K)) (gI : Glo P w K mg base "is_body" 11 ["value"] spIbX) (gC : Glo P w K mg base "_names_called" 8 ["body"] (spNc K))
    (GP : FnOk P w K mg base CX0 6 fp fdp ["body", "path"] (spPls K 5)) (mP : mg "placed_statements" = some (.ref fp)) (kP : PySem.W.keepIn K (.ref fp) = true) {ds : List Value} (bP : Binds K fdp ["body", "path"] ds) (vP : Vals [V.ref dT] ds) (hT : ∀ H, SqT K H dT []) : FnOk P w K mg base CX0 12 f fd ["bodies"] spApX := by
  refine F.ok scAp (fun vs H Q E h => ?_) (fun cdv A outer s H vs Q E hr h => ?_)
  · obtain ⟨d, kvs, p, rfl, _⟩ := h
    rfl
  · obtain ⟨d, kvs, p, rfl, hd, hk, hp, q⟩ := h
    have hu := hu_of hr
    refine ⟨_, (pss_cons (ps_if (PW.pt (pw_or (pt_not (pt_val (pe_callB call_isi (by rfl) T.isi PyProof.Rows.boot_isinstance (pa_cons (pv 0) (pa_cons (pe_bltn (v := .ty "dict") (by rfl) T.dict (by decide +kernel) rfl) pa_nil))))) (pw_or1 (pt_not (pt_val (pe_call gB.G (hr.mono (by decide)) (by rfl) gB.m gB.k gB.b .nil pass0 (pa_cons (pe_callB call_lenD (by rfl) T.len PySem.boot_len (pa_cons (pv 0) pa_nil)) (pa_cons pe_int (pa_cons (pe_glob (v := .int 8) (by rfl) m8 ⟨t8, rfl⟩) pa_nil))))))))) (pss_one (ps_ret pe_bl)) pss_nil)
      (pss_cons (ps_if (pt_not (pt_val (pe_callB (cr_all rfl) (by rfl) T.all (by decide +kernel) (pa_cons (pe_lock (pe_lc (X := (cxOf CX0 P w K mg base NAp "_are_program" (defScope sAp) f cdv A outer s H E).nox) (own := [("name", 1), ("body", 2)]) (g := (gTup K 2 (gCons (gName 1) (gCons (gName 2) gNil)))) (tt := tYes) rfl scAp.nd (pi_items (pv 0)) (blkOk_by (N := NAp) (sc := defScope sAp) (by decide +kernel)) (fun _ _ _ _ _ => (pg_tupK (K := K) rfl rfl (pgs_cons (pg_name (i := 1) scAp.nd rfl (.inl rfl)) (pgs_cons (pg_name (i := 2) scAp.nd rfl (.inl rfl)) pgs_nil)))) (fun _ _ _ _ _ => pts_nil) (fun _ _ _ _ _ => (pe_and (pe_call gN.G (hr.mono (by decide)) (by rfl) gN.m gN.k gN.b .nil pass0 (pa_cons (pv 1) pa_nil)) (pe_one (pe_call gI.G (hr.mono (by decide)) (by rfl) gI.m gI.k gI.b .nil pass0 (pa_cons (pv 2) pa_nil))))))) pa_nil)))) (pss_one (ps_ret pe_bl)) pss_nil)
      (pss_cons (ps_if (pt_cmpR op_gt (pe_callB (cr_sum rfl) (by rfl) T.sum (by decide +kernel) (pa_cons (pe_lock (pe_lc (X := (cxOf CX0 P w K mg base NAp "_are_program" (defScope sAp) f cdv A outer s H E).nox) (own := [("body", 2)]) (g := (gName 2)) (tt := tYes) rfl scAp.nd (pi_values (pv 0)) (blkOk_by (N := NAp) (sc := defScope sAp) (by decide +kernel)) (fun _ _ _ _ _ => (pg_name (i := 2) scAp.nd rfl (.inl rfl))) (fun _ _ _ _ _ => pts_nil) (fun _ _ _ _ _ => (pe_callB (call_len_seqK (K := K) rfl) (by rfl) T.len PySem.boot_len (pa_cons (pe_call GP (hr.mono (by decide)) (by rfl) mP kP bP vP pass0 (pa_cons (pv 2) pa_nil)) pa_nil))))) pa_nil)) (pe_glob (v := .int 60) (by rfl) m60 ⟨t60, rfl⟩) (nomark _)) (pss_one (ps_ret pe_bl)) pss_nil)
      (pss_one (ps_ret (pe_callB (cr_all rfl) (by rfl) T.all (by decide +kernel) (pa_cons (pe_lock (pe_lc2 (X := (cxOf CX0 P w K mg base NAp "_are_program" (defScope sAp) f cdv A outer s H E).nox) (own := [("body", 2), ("name", 1)]) (vs1 := [1]) (g := (gName 2)) (tt := tYes) (g1 := (gName 1)) (tt1 := tYes) rfl scAp.nd (pi_values (pv 0)) (blkOk_by (N := NAp) (sc := defScope sAp) (by decide +kernel)) (by decide) (fun _ _ _ _ _ => (pg_name (i := 2) scAp.nd rfl (.inl rfl))) (fun _ _ _ _ _ => pts_nil) (fun _ _ _ _ _ => (pi_listK (K := K) rfl (pe_call gC.G (hr.mono (by decide)) (by rfl) gC.m gC.k gC.b .nil pass0 (pa_cons (pv 2) pa_nil)))) (fun _ _ _ _ _ => (pg_name (i := 1) scAp.nd rfl (.inl rfl))) (fun _ _ _ _ _ => pts_nil) (fun _ _ _ _ _ => (pe_cmp (pc_din hu (pv 1) (pv 0)))))) pa_nil))))))), ?_⟩
    have lk : kvs.length = p.length := hk.1
    have c1 : (decide ((1 : Int) ≤ (kvs.length : Nat)) && decide (((kvs.length : Nat) : Int) ≤ 8)) = true := by
      have := hp.len
      rw [Bool.and_eq_true]
      exact ⟨decide_eq_true (by omega), decide_eq_true (by omega)⟩
    refine ⟨_, rfl, _, _, _, _, true, rfl, .ty _, .base (.dK hd), kit_ty (by decide +kernel), _, rfl, iteF ?_⟩
    refine ⟨_, rfl, d, kvs, rfl, hd, _, 1, 8, rfl, _, rfl, ?_⟩
    rw [c1]
    refine iteF ?_
    refine ⟨d, _, hd, trivial, fun od => ?_⟩
    have hk1 := hk.keep (lock_tup (x := .frz od (.dK kvs)) hd)
    have hdl : upd H d (.frz od (.dK kvs)) d = some (.frz od (.dK kvs)) := upd_same
    have back : ∀ H', Same (upd H d (.frz od (.dK kvs))) H' → Same H (upd H' d (.dK kvs)) := fun H' s => same_lock hd s
    generalize upd H d (.frz od (.dK kvs)) = H1 at hk1 hdl back ⊢
    refine ⟨_, rfl, d, od, kvs, rfl, hdl, fun D hD => ?_⟩
    refine lc_it walk_items (fun i Hc => Same H1 Hc ∧ Hc D = some (.lst (((p.take i).map fun x => okC 5 x.2).map V.bl))) ⟨same_new hD, upd_same⟩ (fun i Hc _ p => p.1 _ _ hdl) ?_ ?_
    · rintro i x Hc H' hi ⟨sm, hDc⟩ ⟨T1, x1, y1, rfl, hT1, rfl, hx, hy⟩
      obtain ⟨z, v, b, hkv, hpi, hb⟩ := hk1.at hi
      have hx : (kvs[i]?.map fun kv => kV kv.1) = some x1 := hx
      have hy : (kvs[i]?.map Prod.snd) = some y1 := hy
      rw [hkv] at hx hy
      have ex : V.str z = x1 := Option.some.inj hx
      have ey : v = y1 := Option.some.inj hy
      subst ex ey
      have sT := same_new (o := .tup [V.str z, v]) hT1
      have hDt := sT _ _ hDc
      have sm2 := sm.trans sT
      have h1 : upd Hc T1 (.tup [V.str z, v]) T1 = some (.tup [V.str z, v]) := upd_same
      generalize upd Hc T1 (.tup [V.str z, v]) = H2 at hDt sm2 h1 ⊢
      obtain ⟨nb, ob, cb⟩ := hp.ok _ (List.mem_of_getElem? hpi)
      refine ⟨T1, _, rfl, SqT.of h1, rfl, _, _, rfl, _, _, rfl, rfl, rfl, ?_⟩
      refine ⟨_, rfl, .inl ⟨z, rfl, name_len nb, fun H3 s3 => ?_⟩⟩
      rw [nb]
      refine ⟨_, rfl, iteT ?_⟩
      refine ⟨_, rfl, v, b, rfl, ((hb.same sm2).same s3), ob, cb, fun H4 s4 => ?_⟩
      have hD4 := s4 _ _ (s3 _ _ hDt)
      refine ⟨_, hD4, small1000 (by rw [List.length_map, List.length_map, List.length_take]; have := hp.len; omega), same_upd hD ((sm2.trans s3).trans s4), ?_⟩
      rw [take_snoc hpi, List.map_append, List.map_append]
      exact upd_same
    · rintro Hc ⟨sm, hDc⟩
      refine ⟨sm _ _ hdl, ?_⟩
      have sb := back Hc sm
      rw [List.take_of_length_le (by omega)] at hDc
      have hDb : upd Hc d (.dK kvs) D = some (.lst ((p.map fun x => okC 5 x.2).map V.bl)) := by
        rw [upd_ne (fun z => by rw [z, hdl] at hD; cases hD)]
        exact hDc
      generalize upd Hc d (.dK kvs) = Ha at sb hDb ⊢
      refine ⟨D, _, rfl, SqL.of hDb, _, rfl, ?_⟩
      have ea : (p.map fun x => okC 5 x.2).all id = p.all fun x => okC 5 x.2 := by rw [List.all_map]; rfl
      rw [ea, hp.bad]
      exact iteT (q Ha sb)
def spPiX (K : PySem.W.Frag) (C CG CI : Addr) : Sp := fun vs H _ E => ∃ (x d dx : Addr) (kvs : List (Key × V)) (p : Pg), vs = [.ref x, .ref d] ∧ H x = some (.ins C dx []) ∧
  ((∃ g dg t, H d = some (.dK [(.inr "_given", .ref g)]) ∧ H g = some (.ins CG dg [("table", .ref t)]) ∧ H t = some (.dK kvs)) ∨ (H d = some (.dK kvs) ∧ valV kvs (.inr "_given") = none)) ∧ PrgK H kvs p ∧ PrgX p ∧ ∀ H', Same H H' → E (.ref CI) none H'
theorem ok_pisX {f C CG CI : Addr} {fd : FuncData} (T1 : ExcC K mg "InvalidProgram" CI) (clG : Cls K CG) (nG : NoAttr K CG "table") (oG : OwnTy K CG) (kNo : PySem.W.kitOne K (.type "NoneType") (.ref CG) = some false) (kYes : PySem.W.kitOne K (.ref CG) (.ref CG) = some true) (T : TxtP mg) (mG : mg "Given" = some (.ref CG)) (gA : Glo P w K mg base "_are_program" 12 ["bodies"] spApX) (F : Fun K "__init__" "Program.__init__" sPi f fd) {ks : List Str} (hk : ∀ k ∈ ks, ¬ k = "self") (hn : ks.Nodup) (hf : ks.length ≤ 900) : FnRsX (L2N.CX P w) P w K mg base 13 f ks (spPiX K C CG CI) := by
  refine rests_okX F (x := ⟨"self", _, _⟩) (y := ⟨"bodies", _, _⟩) rfl scPi hk hn hf (fun vs H Q E h => ?_) fun cdv A outer s H vs Q E hr h => ?_
  · obtain ⟨x, d, dx, kvs, p, rfl, _⟩ := h
    rfl
  · have hu := hu_of hr
    obtain ⟨x, d, dx, kvs, p, rfl, hx, hd, hk, hp, q⟩ := h
    refine ⟨_, (pss_cons (ps_set (i := 2) scPi.nd rfl (Or.inl rfl) (pe_dget1 hu (pv 1) pe_str ⟨by rfl, by rfl, by rfl, by rfl⟩))
      (pss_cons (ps_set (i := 3) scPi.nd rfl (Or.inr rfl) (pe_ifExp (pt_val (pe_callB call_isi (by rfl) T.isi PyProof.Rows.boot_isinstance (pa_cons (pv 2) (pa_cons (pe_glob (v := .ref CG) (by rfl) mG rfl) pa_nil)))) (pe_fld (pv 2) rfl) (pv 1)))
      (pss_cons (ps_if (pt_not (pt_val (pe_call gA.G (hr.mono (by decide)) (by rfl) gA.m gA.k gA.b .nil pass0 (pa_cons (pv 3) pa_nil)))) (pss_one (L2N.ps_raise rfl (L2N.takes_of rfl rfl rfl rfl) (L2N.pmk_own PySem.F.excBase_ValueError T1.x T1.g T1.k (raises_own T1.b T1.t) (by exact rfl)))) pss_nil) pss_never))), ?_⟩
    rcases hd with ⟨g, dg, tt, hd, hg, htt⟩ | ⟨hd, hno⟩
    · have g1 := DGet.k (k := .inr "_given") hd
      rw [valV_pos rfl] at g1
      refine ⟨_, rfl, d, rfl, .inl ⟨_, .inl hd⟩, _, g1, ?_⟩
      refine ⟨_, rfl, _, _, _, _, true, rfl, .own CG, .base (oG.ins hg), kYes, _, rfl, iteT ⟨_, rfl, g, CG, dg, _, _, rfl, hg, clG, nG, rfl, ?_⟩⟩
      exact ⟨_, rfl, tt, kvs, p, rfl, htt, hk, hp, fun H1 s1 => ⟨_, rfl, iteT (q H1 s1)⟩⟩
    · have g := DGet.k (k := .inr "_given") hd
      rw [hno] at g
      refine ⟨_, rfl, d, rfl, .inl ⟨_, .inl hd⟩, _, g, _, rfl, _, _, _, _, false, rfl, .own CG, .base .non, kNo, _, rfl, iteF ⟨_, rfl, ?_⟩⟩
      exact ⟨_, rfl, d, kvs, p, rfl, hd, hk, hp, fun H1 s1 => ⟨_, rfl, iteT (q H1 s1)⟩⟩
end
end FR
set_option Elab.async false
set_option linter.all false
set_option maxRecDepth 100000
set_option maxHeartbeats 1000000
/-! Program.of that raises; what lets it out -/
namespace FR
open PySem PySem.Spec PyProof.Rows L2
def tSMethS (C : Addr) (sp : Sp) (E : L2.St → XK) (ta : TE) (t : L2.TA) : TE := fun σ H Q => ta σ H fun x H1 => x = .ref C ∧ t σ H1 fun vs H2 => sp vs H2 Q (E σ)
section
variable {X : Cx} {CX : CXT} {k : Nat} {C p g : Addr} {mc : Value} {fd : FuncData} {ps : List Str} {sp : Sp} {E : L2.St → XK} {o e : Expr} {es : List Expr} {m : Str} {pos apos : Pos} {ta : TE} {t : L2.TA} {pl : Sem Bool}
theorem pe_smethS (he : PE X o ta) (r : ClX.CRead X.K C mc) (c : SMet X.K C mc m p g) (F : FnOk X.prog X.w X.K X.mg X.base CX k g fd ps sp) (hr : Room k X.A) (hb : Binds X.K fd ps []) (hx : ∀ σ, PassesAt CX X σ (E σ)) (ha : PA X (e :: es) t)
    (hst : starEach (e :: es) X.env = (false, eval e X.env) :: starEach es X.env := by rfl) (hpl : (backTo pos (starEach es X.env)).any (·.1) = false := by rfl)
    (ht : eval (.Call (.Attribute o m apos) (e :: es) [] pos) X.env = (do
      let ov ← eval o X.env
      standAt apos.atName
      let (f, first) ← holding [ov] (getMethod ov m pl)
      callWith pos f first (backTo pos (starEach (e :: es) X.env)) (backToKw pos (keywordEach [] X.env))) := by rfl) :
    PE X (.Call (.Attribute o m apos) (e :: es) [] pos) (tSMethS C sp E ta t) := by
  refine ⟨fun pins s σ H Q I h => ?_⟩
  refine PySem.W.methodCall_KW (pl := pl) (thn (he.run pins s σ H _ I h) fun u s1 ⟨x, H1, I1, rx, ex, q⟩ => ?_) ht
  subst ex
  obtain rfl : u = Value.ref C := rx
  obtain ⟨rest, hp⟩ := c.rc
  refine PySem.W.method_cls I1.kIn r.ga (PySem.W.cls_bind I1.kIn r.rd c.at_ (wpAny_call (PySem.W.sm_get (s := { s1 with toks := s1.toks + 1 }) I1.kIn hp (PySem.W.handed_on c.hv ?_))))
  have I2 : Inv X pins σ H1 { s1 with toks := s1.toks + 1 } := I1.tok _
  refine PySem.W.callWith_K (h₀ := X.base) I2.ok.mod.kin c.kp (thn (ha.run pos pins _ σ H1 _ I2 q) fun us s3 ⟨vs, H3, I3, rv, q3⟩ => ⟨I3.kIn, ?_⟩) hst hpl
  exact run_fnS F hr hb (hx σ) I3 rv q3
end
section
variable {P : Program} {w : World} {K : PySem.W.Frag} {mg : Str → Option Value} {base : Heap}
/-- procedures with a weight that is none: the error of class I -/
def spOfX (I : Addr) : Sp := fun vs H _ E => ∃ t kvs p, vs = [.ref t] ∧ H t = some (.dK kvs) ∧ PrgK H kvs p ∧ PrgX p ∧ ∀ H', Same H H' → E (.ref I) none H'
theorem ok_ofX {f fi gi C CG CI : Addr} {fd gd : FuncData} (F : Fun K "of" "Program.of" sPo f fd) (M : Mk K C fi) (G : FnRsX (L2N.CX P w) P w K mg base 13 fi ["_given"] (spPiX K C CG CI)) (mC : mg "Program" = some (.ref C)) (MG : Mk K CG gi) (GG : FnOk P w K mg base CX0 1 gi gd ["self", "table"] (spGi CG)) (mG : mg "Given" = some (.ref CG)) (bG : Binds K gd ["self", "table"] []) : FnOk P w K mg base (L2N.CX P w) 15 f fd ["bodies"] (spOfX CI) := by
  refine Fun.okN F scPo (fun vs H Q E h => ?_) (fun cdv A outer s H vs Q E hr h => ?_)
  · obtain ⟨t, kvs, p, rfl, _⟩ := h
    rfl
  · obtain ⟨t, kvs, p, rfl, ht, hk, hp, q⟩ := h
    refine ⟨_, pss_one (ps_ret (pe_makeRsX M G hr (by rfl) mC (L2N.passes_call (L2N.takes_of rfl rfl rfl rfl) (fun _ _ _ _ h => h)) (pk_cons (pe_make MG GG (hr.mono (by decide)) (by rfl) mG bG .nil pass0 (pa_cons (pv 0) pa_nil)) pk_nil))), ?_⟩
    refine ⟨_, rfl, fun g dg ng ndg neg => ⟨g, dg, V.ref t, rfl, upd_same, ?_⟩⟩
    have s1 : Same H (upd (upd (upd H dg (.own g)) g (.ins CG dg [])) g (.ins CG dg [("table", .ref t)])) := fun a o e => by
      have n1 : a ≠ g := ne_of_none e ng
      have n2 : a ≠ dg := ne_of_none e ndg
      rw [upd_ne n1, upd_ne n1, upd_ne n2]
      exact e
    have hg1 : (upd (upd (upd H dg (.own g)) g (.ins CG dg [])) g (.ins CG dg [("table", .ref t)])) g = some (.ins CG dg [("table", .ref t)]) := upd_same
    refine ⟨rfl, rfl, ?_⟩
    generalize upd (upd (upd H dg (.own g)) g (.ins CG dg [])) g (.ins CG dg [("table", .ref t)]) = HG at s1 hg1 ⊢
    intro x dx nx ndx nex d nd
    have ndx' : d ≠ x := fun e => by rw [e, upd_same] at nd; cases nd
    have keep : ∀ a o, HG a = some o → upd (upd (upd HG dx (.own x)) x (.ins C dx [])) d (.dK (dkOf ["_given"] [V.ref g])) a = some o := fun a o e => by
      have n1 : a ≠ x := ne_of_none e nx
      have n2 : a ≠ dx := ne_of_none e ndx
      have n3 : a ≠ d := fun z => by
        rw [← z, upd_ne n1, upd_ne n2, e] at nd
        cases nd
      rw [upd_ne n3, upd_ne n1, upd_ne n2]
      exact e
    have s2 : Same H (upd (upd (upd HG dx (.own x)) x (.ins C dx [])) d (.dK (dkOf ["_given"] [V.ref g]))) := fun a o e => keep _ _ (s1 _ _ e)
    exact ⟨x, d, dx, kvs, p, rfl, by rw [upd_ne (Ne.symm ndx'), upd_same], .inl ⟨g, dg, t, upd_same, keep _ _ hg1, keep _ _ (s1 _ _ ht)⟩, (Tk.same s2).pg hk, hp, fun H' sH => q H' (s2.trans sH)⟩
theorem ok_pofX {f g C CI CO p0 : Addr} {mc : Value} {fd gd : FuncData} (F : Fun K "_program_of" "_program_of" sPof f fd) (mC : mg "Program" = some (.ref C)) (rC : ClX.CRead K C mc) (sO : SMet K C mc "of" p0 g) (G : FnOk P w K mg base (L2N.CX P w) 15 g gd ["bodies"] (spOfX CI)) (gb : Binds K gd ["bodies"] []) (T1 : ExcC K mg "InvalidProgram" CI) (T2 : ExcC K mg "InvalidOperation" CO) : FnOk P w K mg base (L2.CX P w) 16 f fd ["bodies"] (spOfX CO) := by
  refine F.okX scPof (fun vs H Q E h => ?_) (fun cdv A outer s H vs Q E hr h => ?_)
  · obtain ⟨t, kvs, p, rfl, _⟩ := h
    rfl
  · obtain ⟨t, kvs, p, rfl, ht, hk, hp, q⟩ := h
    refine ⟨_, pss_one (L2H.ps_try_onlyX rfl rfl ⟨rfl, by decide, .inl T1.g⟩ (L2H.passesAt_of rfl) (takes_of rfl rfl rfl rfl) (fun W pn xe tk _ _ => pss_one (ps_ret (pe_smethS (pe_glob (v := .ref C) (by rfl) mC rfl) rC sO G (hr.mono (by decide)) gb (fun σ => L2N.passAt tk σ) (pa_cons (pv 0) pa_nil)))) (fun a oe cls d pn _ _ tk hot => pss_one (L2H.ps_raiseHN hot tk (pmk5_own PySem.F.excBase_ValueError T2.x T2.g T2.k (raises_own T2.b T2.t) (by exact rfl))))), ?_⟩
    refine ⟨rfl, _, rfl, t, kvs, p, rfl, ht, hk, hp, fun H' s' => ?_⟩
    exact ⟨true, T1.m, fun _ a ha => q H' s', fun z => nomatch z⟩
def spPrwX (K : PySem.W.Frag) (C : Addr) (spF : Sp) : Sp := fun vs H Q E => ∃ x pl u p z ps i ss, vs = [.ref x, .ref pl, .int 1, u] ∧ PlS K C H x pl p z ps i ∧ p.length ≤ 8 ∧ Al (Ok1 (names p)) 5 (bodyOf p z) ∧ cnt 5 (bodyOf p z) ≤ 60 ∧ InB (bodyOf p z) ps ∧ BdAt (5 - ps.length) H u ss ∧ ss.length ≤ 300 ∧
  ∀ t kvs H', Same H H' → H' t = some (.dK kvs) → PrgK H' kvs (setP p z (spl (bodyOf p z) ps i ss)) → spF [.ref t] H' Q E
theorem ok_prwX {spF : Sp} {f C : Addr} {fd : FuncData} (F : Fun K "_program_with" "_program_with" sPrw f fd) (R : PgC K C) (gBa : Glo P w K mg base "_body_around" 5 ["free", "place"] (spBa K C)) (gOt : ∀ n, Glo P w K mg base "_with_others" 1 ["body", "at", "many", "statements"] (spOt n)) (gWp : Glo P w K mg base "with_part" 7 ["body", "path", "part"] (spWp 5))
    (pB : PMet P w K mg base C "bodies" 1 ["self"] (spBo K C)) (mGt : Met P w K mg base C "__getitem__" 3 ["self", "at"] (spGt K C)) (hfi : PySem.W.fnIn K mGt.f = true) (gPf : GloX P w K mg base "_program_of" 16 ["bodies"] spF) : FnOk P w K mg base (L2.CX P w) 17 f fd ["free", "place", "many", "statements"] (spPrwX K C spF) := by
  refine F.okX scPrw (fun vs H Q E h => ?_) (fun cdv A outer s H vs Q E hr h => ?_)
  · obtain ⟨x, pl, u, p, z, ps, i, ss, rfl, _⟩ := h
    rfl
  · obtain ⟨x, pl, u, p, z, ps, i, ss, rfl, hpl, l8, al, c60, inb, hss, lss, q⟩ := h
    obtain ⟨pa, hi, hn, hz, hpl', hpa⟩ := hpl
    have hi0 := hi
    obtain ⟨dx, d, e, c, kvs, es, cs, hx, _⟩ := hi0
    refine ⟨_, (pss_cons (ps_asg (pv 1) (pg_tupK (K := K) rfl rfl (pgs_cons (pg_name (i := 4) scPrw.nd rfl (.inl rfl)) (pgs_cons (pg_name (i := 5) scPrw.nd rfl (.inl rfl)) pgs_nil))))
      (pss_cons (ps_set (i := 6) scPrw.nd rfl (Or.inl rfl) (pe_call (gOt (5 - ps.length)).G (hr.mono (by decide)) (by rfl) (gOt (5 - ps.length)).m (gOt (5 - ps.length)).k (gOt (5 - ps.length)).b .nil pass0 (pa_cons (pe_call gBa.G (hr.mono (by decide)) (by rfl) gBa.m gBa.k gBa.b .nil pass0 (pa_cons (pv 0) (pa_cons (pv 1) pa_nil))) (pa_cons (pe_ix ix_tup (pv 5) (pe_un un_neg pe_int) (fun _ _ => rfl)) (pa_cons (pv 2) (pa_cons (pv 3) pa_nil))))))
      (pss_one (ps_ret (pe_call gPf.G (hr.mono (by decide)) (by rfl) gPf.m gPf.k gPf.b .nil (passes_call (takes_of rfl rfl rfl rfl) (fun _ _ _ _ h => h)) (pa_cons (pe_dstar (pe_prop (pv 0) R.cl pB.o pB.G (hr.mono (by decide)) pB.b .nil pass0 rfl) (pv 4) (pe_call gWp.G (hr.mono (by decide)) (by rfl) gWp.m gWp.k gWp.b .nil pass0 (pa_cons (pe_subOwnK (K := K) rfl mGt.D hfi mGt.G (hr.mono (by decide)) mGt.b pass0 (pv 0) (pv 4)) (pa_cons (pe_slice sl_tupA (pv 5) po_none (po_some (pe_un un_neg pe_int))) (pa_cons (pv 6) pa_nil))))) pa_nil)))))), ?_⟩
    have lw := al_way al inb
    have ala := al_at al inb
    have la : (atB (bodyOf p z) ps).length ≤ 60 := Nat.le_trans (len_cnt (n := 5 - ps.length) (by omega)) (Nat.le_trans (by rw [cnt_ws, cnt_ws]; exact ws_at _ inb (by omega)) c60)
    refine ⟨_, rfl, pl, _, rfl, SqT.of hpl', rfl, _, _, rfl, _, _, rfl, rfl, ?_⟩
    refine ⟨_, rfl, _, rfl, x, pl, p, z, ps, i, names p, rfl, ⟨pa, hi, hn, hz, hpl', hpa⟩, al, inb, fun ub H1 s1 hub => ?_⟩
    have hpa1 := s1 _ _ hpa
    have ix : atI (pI (flat ps ++ [i])) (-1) = some (V.int (i : Nat)) := by
      rw [pI_snoc]
      exact L2.atI_last _ _
    refine ⟨_, rfl, _, rfl, pa, _, _, _, rfl, rfl, SqT.of hpa1, ix, _, rfl, _, rfl, ub, u, i, atB (bodyOf p z) ps, ss, rfl, bd_low ala hub, hss.same s1, by omega, lss, fun vb H2 s2 hvb => ?_⟩
    have s02 := s1.trans s2
    -- the dict
    refine fun t ht => ?_
    have st := same_new (o := .dK []) ht
    have htt : upd H2 t (.dK []) t = some (.dK []) := upd_same
    have hi3 := (hi.same s02).same st
    have hx3 := st _ _ (s02 _ _ hx)
    refine ⟨_, rfl, x, dx, _, rfl, hx3, x, p, rfl, hi3, fun bt kvs H3 nbt s3 hbt hk => ?_⟩
    have htt3 := s3 _ _ htt
    have nbt' : bt ≠ t := fun e => by rw [e, htt] at nbt; cases nbt
    have lk : kvs.length ≤ 8 := by rw [hk.1]; exact l8
    refine ⟨bt, kvs, rfl, nbt', hbt, htt3, Nat.le_of_lt (small1000 (by omega)), fun p2 hp2 => ?_⟩
    have ne2 : p2 ≠ t := fun e => by rw [e, upd_same] at hp2; cases hp2
    have sm : Same H2 (upd (upd H3 t (.dK kvs)) p2 (.dK [])) := fun a o ea => by
      have n1 := ne_of_none ea ht
      have e3 := s3 _ _ (st _ _ ea)
      have n2 : a ≠ p2 := fun e => by rw [← e, upd_ne n1, e3] at hp2; cases hp2
      rw [upd_ne n2, upd_ne n1]
      exact e3
    have tk3 : Tk H3 (upd (upd H3 t (.dK kvs)) p2 (.dK [])) := (Tk.upd htt3 (fun _ z => by cases z) fun _ _ z => by cases z).trans (Tk.same (same_new hp2))
    have ht4 : upd (upd H3 t (.dK kvs)) p2 (.dK []) t = some (.dK kvs) := by rw [upd_ne (Ne.symm ne2), upd_same]
    have hp4 : upd (upd H3 t (.dK kvs)) p2 (.dK []) p2 = some (.dK []) := upd_same
    generalize upd (upd H3 t (.dK kvs)) p2 (.dK []) = H4 at sm tk3 ht4 hp4 ⊢
    have s04 := s02.trans sm
    refine ⟨_, rfl, _, rfl, _, rfl, x, dx, _, rfl, s04 _ _ hx, x, z, p, rfl, hi.same s04, hn, hz, fun v hv => ?_⟩
    refine ⟨_, rfl, ?_⟩
    dsimp only [tNoPart]
    refine ⟨_, rfl, _, rfl, ?_⟩
    refine sla_tup (s04 _ _ hpa) fun tp H5 s5 htp => ?_
    rw [pI_snoc, cut_last] at htp
    refine ⟨_, rfl, v, vb, tp, bodyOf p z, oth (atB (bodyOf p z) ps) i ss, ps, names p, rfl, hv.same s5, al, c60, htp, inb, (hvb.same sm).same s5, fun zv H6 s6 hzv => ?_⟩
    have s46 := s5.trans s6
    have ht6 := s46 _ _ ht4
    have hp6 := s46 _ _ hp4
    refine ⟨.inr z, rfl, hp6, ht6, ne2, ?_⟩
    have tk6 : Tk H6 (upd (upd H6 p2 (.dK [(.inr z, zv)])) t (.dK (putK kvs (.inr z) zv))) := (Tk.upd hp6 (fun _ z => by cases z) fun _ _ z => by cases z).trans (Tk.upd (by rw [upd_ne (Ne.symm ne2)]; exact ht6) (fun _ z => by cases z) fun _ _ z => by cases z)
    have tk36 := (tk3.trans (Tk.same s46)).trans tk6
    have sfin : Same H (upd (upd H6 p2 (.dK [(.inr z, zv)])) t (.dK (putK kvs (.inr z) zv))) := fun a o ea => by
      have e2 := s02 _ _ ea
      have n1 := ne_of_none e2 ht
      have e4 := sm _ _ e2
      have n2 : a ≠ p2 := fun e => by
        have e3 := s3 _ _ (st _ _ e2)
        rw [← e, upd_ne n1, e3] at hp2
        cases hp2
      rw [upd_ne n1, upd_ne n2]
      exact s46 _ _ e4
    exact q t _ _ sfin upd_same ((tk36.pg hk).set (tk6.bd hzv))
end
end FR
set_option Elab.async false
set_option linter.all false
set_option maxRecDepth 100000
set_option maxHeartbeats 1000000
/-! zip of a list and a tuple: of any two sources that move on one by one -/
namespace ZM
open PySem PySem.Spec PyProof.Rows L2
/-- an iterator at it over the items vs of what stands at l: how it moves on, how it ends -/
structure Src (prog : Program) (w : World) (it l : Addr) (vs : Array Value) (T : Heap → Nat → Prop) : Prop where
  item : ∀ {A : Around} {E : Value → Shared → Prop} {s : Shared} {k : Nat} {x : Value} {Q : Value → Shared → Prop}, T s.heap k → vs[k]? = some x → (∀ g, T g (k + 1) → Heap.SameBut it s.heap g → Q x { s with heap := g }) → wpAny (model prog w) A (Builtin.SmallTypes.nextOf (.ref it)) Q E s
  stop : ∀ {A : Around} {E : Value → Shared → Prop} {s : Shared} {k : Nat} {Q : Value → Shared → Prop}, A.handled = none → T s.heap k → vs[k]? = none → (∀ g e, Heap.ExtBut it s.heap g → (∃ o, g.get? e = some o ∧ o.cls = .type "StopIteration") → E (.ref e) { s with heap := g }) → wpAny (model prog w) A (Builtin.SmallTypes.nextOf (.ref it)) Q E s
  keep : ∀ {h g : Heap} {k : Nat}, T h k → (∀ o, h.get? it = some o → g.get? it = some o) → (∀ o, h.get? l = some o → g.get? l = some o) → T g k
def Lsrc (it l : Addr) (vs : Array Value) (h : Heap) (k : Nat) : Prop := h.IsListIter it l k ∧ h.IsList l vs
def Tsrc (it l : Addr) (vs : Array Value) (h : Heap) (k : Nat) : Prop := h.IsTupleIter it l k ∧ h.IsTuple l vs
theorem lsrc {prog : Program} {w : World} {it l : Addr} {vs : Array Value} (ne : l ≠ it) : Src prog w it l vs (Lsrc it l vs) where
  item := fun t ex q => wpAny_nextOf_list_item t.1 t.2 ex fun g i sb => q g ⟨i, t.2.extBut sb.extBut ne⟩ sb
  stop := fun hh t ex q => wpAny_nextOf_list_end hh t.1 t.2 ex q
  keep := fun t a b => ⟨t.1.at a, t.2.at b⟩
theorem tsrc {prog : Program} {w : World} {it l : Addr} {vs : Array Value} (ne : l ≠ it) : Src prog w it l vs (Tsrc it l vs) where
  item := fun t ex q => RZ.nextOf_tuple_item t.1 t.2 ex fun g i sb => q g ⟨i, t.2.extBut sb.extBut ne⟩ sb
  stop := fun hh t ex q => RZ.nextOf_tuple_end hh t.1 t.2 ex q
  keep := fun t a b => ⟨t.1.at a, t.2.at b⟩
section
variable {prog : Program} {w : World} {A : Around} {E : Value → Shared → Prop} {s : Shared} {z u o p r a b : Addr} {xs ys : Array Value} {T U : Heap → Nat → Prop} {k m : Nat} {x y c d : Value}
theorem Src.ext {it l q : Addr} {vs : Array Value} {T : Heap → Nat → Prop} (S : Src prog w it l vs T) {h g : Heap} {k : Nat} (t : T h k) (e : Heap.ExtBut q h g) (n1 : it ≠ q) (n2 : l ≠ q) : T g k := S.keep t (fun _ z => e _ _ n1 z) fun _ z => e _ _ n2 z
/-- the record of the pair that is handed out, and what it says of the walk -/
theorem zip_run {Q : Value → Shared → Prop} (D : ZipApart z u o p r a b) (S1 : Src prog w p a xs T) (S2 : Src prog w r b ys U) (hz : IsZip s.heap z u o .none) (hu : IsPair s.heap u (.ref p) (.ref r)) (ho : IsPair s.heap o c d)
    (h1 : T s.heap k) (h2 : U s.heap m) (ex : xs[k]? = some x) (ey : ys[m]? = some y)
    (q : ∀ g, IsZip g z u o (rawInt s.heap.objs.size) → IsPair g o x y → T g (k + 1) → U g (m + 1) → IsPair g s.heap.objs.size x y → (∀ j ob, j ≠ z → j ≠ o → j ≠ p → j ≠ r → s.heap.get? j = some ob → g.get? j = some ob) → Q (.ref s.heap.objs.size) { s with heap := g }) :
    wpAny (model prog w) A (Builtin.«zip.__next__» ⟨[.ref z], []⟩) (fun fin s' => ∃ v, fin = .done (.ret v) ∧ Q v s') E s := by
  show wpAny _ _ (field (.ref z) 2 >>= fun _ => _) _ _ _
  refine wpAny_bind (wpAny_field hz rfl (x := .bool false) rfl ?_)
  show wpAny _ _ (field (.ref z) 3 >>= fun _ => _) _ _ _
  refine wpAny_bind (wpAny_field hz rfl (x := .ref u) rfl (wpAny_bind (wpAny_seqItems hu rfl ?_)))
  show wpAny _ _ (Builtin.SmallTypes.ownedTupleIsFree (.ref z) >>= fun _ => _) _ _ _
  unfold Builtin.SmallTypes.ownedTupleIsFree
  refine wpAny_bind (wpAny_bind (wpAny_field hz rfl (x := .none) rfl (wpAny_pure ?_)))
  simp only [if_true]
  refine wpAny_bind (wpAny_rule (wpAny_bind (wpAny_field hz rfl (x := .ref o) rfl (wpAny_bind (wpAny_setField_rec hz (by simp) fun g1 gz e1 => wpAny_bind ?_)))))
  replace gz : IsZip g1 z u o .ellipsis := gz
  simp only [List.zipIdx_cons, List.zipIdx_nil, List.forIn_cons, List.forIn_nil]
  -- the first source
  refine wpAny_bind (wpAny_bind (wpAny_onRaise ?_))
  show wpAny _ _ (Builtin.SmallTypes.nextOf (.ref p) >>= fun _ => _) _ _ _
  refine wpAny_bind (S1.item (S1.ext h1 e1.extBut D.i1z D.l1z) ex fun g2 t2 e2 => wpAny_pure ?_)
  have o2 : IsPair g2 o c d := e2.extBut _ _ D.TOi1 (e1.extBut _ _ D.TOz ho)
  refine wpAny_bind (wpAny_seqItems o2 rfl (wpAny_bind (wpAny_updateSeq_pair o2 fun g3 o3 e3 => wpAny_bind (wpAny_letGo (wpAny_pure ?_)))))
  replace o3 : IsPair g3 o x d := o3
  -- the second one
  refine wpAny_bind (wpAny_bind (wpAny_onRaise ?_))
  show wpAny _ _ (Builtin.SmallTypes.nextOf (.ref r) >>= fun _ => _) _ _ _
  have v3 : U g3 m := S2.ext (S2.ext (S2.ext h2 e1.extBut D.i2z D.l2z) e2.extBut D.i12.symm D.l2i1) e3.extBut D.TOi2.symm D.l2TO
  refine wpAny_bind (S2.item v3 ey fun g4 v4 e4 => wpAny_pure ?_)
  have o4 : IsPair g4 o x d := e4.extBut _ _ D.TOi2 o3
  refine wpAny_bind (wpAny_seqItems o4 rfl (wpAny_bind (wpAny_updateSeq_pair o4 fun g5 o5 e5 => wpAny_bind (wpAny_letGo (wpAny_pure (wpAny_pure ?_))))))
  replace o5 : IsPair g5 o x y := o5
  refine wpAny_bind (wpAny_seqItems o5 rfl (wpAny_bind (wpAny_newTuple ?_)))
  have sz : g5.objs.size = s.heap.objs.size := by rw [e5.1, e4.1, e3.1, e2.1, e1.1]
  have z5 : IsZip g5 z u o .ellipsis := e5.extBut _ _ D.TOz.symm (e4.extBut _ _ D.i2z.symm (e3.extBut _ _ D.TOz.symm (e2.extBut _ _ D.i1z.symm gz)))
  have k5 : ∀ j ob, j ≠ z → j ≠ o → j ≠ p → j ≠ r → s.heap.get? j = some ob → g5.get? j = some ob := fun j ob n1 n2 n3 n4 e => e5.extBut _ _ n2 (e4.extBut _ _ n4 (e3.extBut _ _ n2 (e2.extBut _ _ n3 (e1.extBut _ _ n1 e))))
  have t5 : T g5 (k + 1) := S1.ext (S1.ext (S1.ext t2 e3.extBut D.TOi1.symm D.l1TO) e4.extBut D.i12 D.l1i2) e5.extBut D.TOi1.symm D.l1TO
  have v5 : U g5 (m + 1) := S2.ext v4 e5.extBut D.TOi2.symm D.l2TO
  have zlt : z < g5.objs.size := Heap.lt_size z5
  show wpAny _ _ (Builtin.SmallTypes.ownedTupleHandOut (.ref z) (.ref g5.objs.size) >>= fun _ => _) _ _ _
  unfold Builtin.SmallTypes.ownedTupleHandOut
  have z6 : IsZip (g5.push { cls := .type "tuple", data := .seq #[x, y] }) z u o .ellipsis := Heap.get?_push_of_some _ z5
  refine wpAny_bind (wpAny_bind (wpAny_setField_rec z6 (by simp) fun g7 z7 e7 => ?_))
  replace z7 : IsZip g7 z u o (rawInt g5.objs.size) := z7
  refine wpAny_setField_rec z7 (by simp) fun g8 z8 e8 => wpAny_pure ⟨_, rfl, ?_⟩
  replace z8 : IsZip g8 z u o (rawInt g5.objs.size) := z8
  have up : ∀ j ob, j ≠ z → g5.get? j = some ob → g8.get? j = some ob := fun j ob n e => e8.extBut _ _ n (e7.extBut _ _ n (Heap.get?_push_of_some _ e))
  have new : IsPair g8 g5.objs.size x y := e8.extBut _ _ (Nat.ne_of_gt zlt) (e7.extBut _ _ (Nat.ne_of_gt zlt) (Heap.get?_push_size _ rfl))
  show Q (.ref g5.objs.size) _
  rw [sz] at z8 new ⊢
  exact q g8 z8 (up _ _ D.TOz o5) (S1.keep t5 (fun ob e => up _ ob D.i1z e) fun ob e => up _ ob D.l1z e) (S2.keep v5 (fun ob e => up _ ob D.i2z e) fun ob e => up _ ob D.l2z e) new fun j ob n1 n2 n3 n4 e => up j ob n1 (k5 j ob n1 n2 n3 n4 e)
/-- one source has no more -/
theorem zip_out {Q : Fin → Shared → Prop} (hh : A.handled = none) (D : ZipApart z u o p r a b) (S1 : Src prog w p a xs T) (S2 : Src prog w r b ys U) (hz : IsZip s.heap z u o .none) (hu : IsPair s.heap u (.ref p) (.ref r)) (ho : IsPair s.heap o c d)
    (h1 : T s.heap k) (h2 : U s.heap m) (out : xs[k]? = none ∨ ys[m]? = none)
    (q : ∀ g e, (∀ j ob, j ≠ z → j ≠ o → j ≠ p → j ≠ r → s.heap.get? j = some ob → g.get? j = some ob) → (∃ ob, g.get? e = some ob ∧ ob.cls = .type "StopIteration") → E (.ref e) { s with heap := g }) :
    wpAny (model prog w) A (Builtin.«zip.__next__» ⟨[.ref z], []⟩) Q E s := by
  show wpAny _ _ (field (.ref z) 2 >>= fun _ => _) _ _ _
  refine wpAny_bind (wpAny_field hz rfl (x := .bool false) rfl ?_)
  show wpAny _ _ (field (.ref z) 3 >>= fun _ => _) _ _ _
  refine wpAny_bind (wpAny_field hz rfl (x := .ref u) rfl (wpAny_bind (wpAny_seqItems hu rfl ?_)))
  show wpAny _ _ (Builtin.SmallTypes.ownedTupleIsFree (.ref z) >>= fun _ => _) _ _ _
  unfold Builtin.SmallTypes.ownedTupleIsFree
  refine wpAny_bind (wpAny_bind (wpAny_field hz rfl (x := .none) rfl (wpAny_pure ?_)))
  simp only [if_true]
  refine wpAny_bind (wpAny_rule (wpAny_bind (wpAny_field hz rfl (x := .ref o) rfl (wpAny_bind (wpAny_setField_rec hz (by simp) fun g1 gz e1 => wpAny_bind ?_)))))
  replace gz : IsZip g1 z u o .ellipsis := gz
  simp only [List.zipIdx_cons, List.zipIdx_nil, List.forIn_cons, List.forIn_nil]
  have notZ : ∀ {g : Heap} {e : Addr}, IsZip g z u o .ellipsis → (∃ ob, g.get? e = some ob ∧ ob.cls = .type "StopIteration") → e ≠ z := fun gz' ⟨ob, e1, e2⟩ n => by
    rw [n, gz'] at e1
    cases e1
    simp at e2
  refine wpAny_bind (wpAny_bind (wpAny_onRaise ?_))
  show wpAny _ _ (Builtin.SmallTypes.nextOf (.ref p) >>= fun _ => _) _ _ _
  have t1 : T g1 k := S1.ext h1 e1.extBut D.i1z D.l1z
  cases ex : xs[k]? with
  | none =>
    refine wpAny_bind (S1.stop hh t1 ex fun g2 e e2 he => ?_)
    have z2 : IsZip g2 z u o .ellipsis := e2 _ _ D.i1z.symm gz
    have nz := notZ z2 he
    obtain ⟨ob, he1, he2⟩ := he
    exact wpAny_setField_rec z2 (by simp) fun g3 _ e3 => q g3 e (fun j oj n1 _ n3 _ ej => e3.extBut _ _ n1 (e2 _ _ n3 (e1.extBut _ _ n1 ej))) ⟨ob, e3.extBut _ _ nz he1, he2⟩
  | some x =>
    have ey : ys[m]? = none := out.elim (fun n => by rw [ex] at n; cases n) id
    refine wpAny_bind (S1.item t1 ex fun g2 t2 e2 => wpAny_pure ?_)
    have o2 : IsPair g2 o c d := e2.extBut _ _ D.TOi1 (e1.extBut _ _ D.TOz ho)
    refine wpAny_bind (wpAny_seqItems o2 rfl (wpAny_bind (wpAny_updateSeq_pair o2 fun g3 o3 e3 => wpAny_bind (wpAny_letGo (wpAny_pure ?_)))))
    refine wpAny_bind (wpAny_bind (wpAny_onRaise ?_))
    show wpAny _ _ (Builtin.SmallTypes.nextOf (.ref r) >>= fun _ => _) _ _ _
    have v3 : U g3 m := S2.ext (S2.ext (S2.ext h2 e1.extBut D.i2z D.l2z) e2.extBut D.i12.symm D.l2i1) e3.extBut D.TOi2.symm D.l2TO
    refine wpAny_bind (S2.stop hh v3 ey fun g4 e e4 he => ?_)
    have z4 : IsZip g4 z u o .ellipsis := e4 _ _ D.i2z.symm (e3.extBut _ _ D.TOz.symm (e2.extBut _ _ D.i1z.symm gz))
    have nz := notZ z4 he
    obtain ⟨ob, he1, he2⟩ := he
    exact wpAny_setField_rec z4 (by simp) fun g5 _ e5 => q g5 e (fun j oj n1 n2 n3 n4 ej => e5.extBut _ _ n1 (e4 _ _ n4 (e3.extBut _ _ n2 (e2.extBut _ _ n3 (e1.extBut _ _ n1 ej))))) ⟨ob, e5.extBut _ _ nz he1, he2⟩
theorem zip_item {Q : Option Value → Shared → Prop} (D : ZipApart z u o p r a b) (S1 : Src prog w p a xs T) (S2 : Src prog w r b ys U) (hz : IsZip s.heap z u o .none) (hu : IsPair s.heap u (.ref p) (.ref r)) (ho : IsPair s.heap o c d)
    (h1 : T s.heap k) (h2 : U s.heap m) (ex : xs[k]? = some x) (ey : ys[m]? = some y)
    (q : ∀ g, IsZip g z u o (rawInt s.heap.objs.size) → IsPair g o x y → T g (k + 1) → U g (m + 1) → IsPair g s.heap.objs.size x y → (∀ j ob, j ≠ z → j ≠ o → j ≠ p → j ≠ r → s.heap.get? j = some ob → g.get? j = some ob) → Q (some (.ref s.heap.objs.size)) { s with heap := g }) :
    wpAny (model prog w) A (pyNext (.ref z)) Q E s := by
  have isz : s.TypeIs (.ref z) "zip" := ⟨_, hz, rfl⟩
  unfold pyNext
  exact wpAny_bind (wpAny_attempt (wpAny_callSpecial?_slot (name := Str.ofString "__next__") isz F.slot_zip_next (wpAny_call_entry F.slot_zip_next isz F.entry_zip_next
    (zip_run D S1 S2 hz hu ho h1 h2 ex ey fun g b1 b2 b3 b4 b5 b6 => wpAny_pure (q g b1 b2 b3 b4 b5 b6)) (F.args_zip_next_1 _))))
theorem zip_end {Q : Option Value → Shared → Prop} (hh : A.handled = none) (D : ZipApart z u o p r a b) (S1 : Src prog w p a xs T) (S2 : Src prog w r b ys U) (hz : IsZip s.heap z u o .none) (hu : IsPair s.heap u (.ref p) (.ref r)) (ho : IsPair s.heap o c d)
    (h1 : T s.heap k) (h2 : U s.heap m) (out : xs[k]? = none ∨ ys[m]? = none)
    (q : ∀ g, (∀ j ob, j ≠ z → j ≠ o → j ≠ p → j ≠ r → s.heap.get? j = some ob → g.get? j = some ob) → Q none { s with heap := g }) : wpAny (model prog w) A (pyNext (.ref z)) Q E s := by
  have isz : s.TypeIs (.ref z) "zip" := ⟨_, hz, rfl⟩
  unfold pyNext
  refine wpAny_bind (wpAny_attempt (wpAny_callSpecial?_slot (name := Str.ofString "__next__") isz F.slot_zip_next (wpAny_call_entry F.slot_zip_next isz F.entry_zip_next
    (zip_out hh D S1 S2 hz hu ho h1 h2 out fun g e kp ⟨ob, e1, e2⟩ => ?_) (F.args_zip_next_1 _))))
  exact wpAny_bind (wpAny_isInstance (T := "StopIteration") (b := true) ⟨ob, e1, e2⟩ isSubtype_stop (wpAny_pure (q _ kp)))
end
/-! a new zip object -/
abbrev mA (h : Heap) (a : Addr) : Heap := h.push { cls := .type "list_iterator", data := .fields #[.ref a, .int 0 0] }
abbrev mB (h : Heap) (a b : Addr) : Heap := (mA h a).push { cls := .type "tuple_iterator", data := .fields #[.ref b, .int 0 0] }
abbrev mC (h : Heap) (a b : Addr) : Heap := (mB h a b).push { cls := .type "tuple", data := .seq #[.ref h.objs.size, .ref (mA h a).objs.size] }
abbrev mD (h : Heap) (a b : Addr) : Heap := (mC h a b).push { cls := .type "tuple", data := .seq #[.none, .none] }
abbrev mE (h : Heap) (a b : Addr) : Heap := (mD h a b).push { cls := .type "zip", data := .fields #[.none, .bool false, .bool false, .ref (mB h a b).objs.size, .ref (mC h a b).objs.size] }
theorem meets_new (a b : Addr) (xs ys : Array Value) : Meets (Builtin.«zip.__new__» ⟨[.type "zip", .ref a, .ref b], []⟩) (fun _ R s => s.heap.IsList a xs ∧ s.heap.IsTuple b ys ∧ R (.ok (.ret (.ref (mD s.heap a b).objs.size))) { s with heap := mE s.heap a b }) :=
  .of_wp fun prog w A R s h => by
    obtain ⟨hp, gs, dr, tk, os⟩ := s
    obtain ⟨la, lb, h⟩ := h
    have isub := sub_zip
    have la' : Heap.IsList (Shared.heap ⟨hp, gs, dr, tk, os⟩) a xs := la
    have lb' : Heap.IsTuple (Shared.heap ⟨hp.push { cls := .type "list_iterator", data := .fields #[.ref a, .int 0 0] }, gs, dr, tk, os⟩) b ys := Heap.IsTuple.push lb _
    wp_walk using wpAny_pyIter_list la', wpAny_pyIter_tuple lb'
    exact ⟨_, rfl, h⟩
theorem call_zipM {prog : Program} {w : World} {A : Around} {E : Value → Shared → Prop} {s : Shared} {a b : Addr} {xs ys : Array Value} {Q : Value → Shared → Prop} (la : s.heap.IsList a xs) (lb : s.heap.IsTuple b ys)
    (q : ∀ g, IsZip g (s.heap.objs.size + 4) (s.heap.objs.size + 2) (s.heap.objs.size + 3) .none → IsPair g (s.heap.objs.size + 2) (.ref s.heap.objs.size) (.ref (s.heap.objs.size + 1)) → IsPair g (s.heap.objs.size + 3) .none .none →
      g.IsListIter s.heap.objs.size a 0 → g.IsTupleIter (s.heap.objs.size + 1) b 0 → (∀ c o, s.heap.get? c = some o → g.get? c = some o) → Q (.ref (s.heap.objs.size + 4)) { s with heap := g }) :
    wpAny (model prog w) A (call (.type "zip") [.ref a, .ref b]) Q E s := by
  refine callType_new F.called_zip (by decide) (F.typeCall_zip_2 _ _) (F.newCall_zip_2 _ _) (fun obj => F.args_object_init_3 obj _ _) F.entry_zip_new (meets_new a b xs ys) ⟨la, lb, ?_⟩
  have nA : (mA s.heap a).objs.size = s.heap.objs.size + 1 := Heap.size_push ..
  have nB : (mB s.heap a b).objs.size = s.heap.objs.size + 2 := by rw [Heap.size_push, nA]
  have nC : (mC s.heap a b).objs.size = s.heap.objs.size + 3 := by rw [Heap.size_push, nB]
  have nD : (mD s.heap a b).objs.size = s.heap.objs.size + 4 := by rw [Heap.size_push, nC]
  have up : ∀ {h : Heap} {ob : Obj} {c : Addr} {o : Obj}, h.get? c = some o → (h.push ob).get? c = some o := fun e => Heap.get?_push_of_some _ e
  have eE : (mE s.heap a b).get? (mD s.heap a b).objs.size = some _ := Heap.get?_push_size _ rfl
  have eD : (mE s.heap a b).get? (mC s.heap a b).objs.size = some _ := up (Heap.get?_push_size _ rfl)
  have eC : (mE s.heap a b).get? (mB s.heap a b).objs.size = some _ := up (up (Heap.get?_push_size _ rfl))
  have eB : (mE s.heap a b).get? (mA s.heap a).objs.size = some _ := up (up (up (Heap.get?_push_size _ rfl)))
  have eA : (mE s.heap a b).get? s.heap.objs.size = some _ := up (up (up (up (Heap.get?_push_size _ rfl))))
  show _ ∧ _
  rw [nB, nC, nD] at eE
  rw [nA, nB] at eC
  rw [nC] at eD
  rw [nA] at eB
  rw [nD]
  exact ⟨⟨_, eE, rfl⟩, q _ eE eC eD ⟨_, eA, rfl, rfl⟩ ⟨_, eB, rfl, rfl⟩ fun c o e => up (up (up (up (up e))))⟩
/-! the walk, as the hand layer has it: the list at a, the tuple at b, as they stand at each turn -/
def ItM (K : PySem.W.Frag) (a b : Addr) : It :=
  ⟨fun i H => ∃ (xs ys : List V) (x y : V), SqL K H a xs ∧ SqT K H b ys ∧ xs[i]? = some x ∧ ys[i]? = some y,
    fun i H v H' => ∃ t x y, v = .ref t ∧ H t = none ∧ H' = upd H t (.tup [x, y]) ∧ (∀ xs, SqL K H a xs → xs[i]? = some x) ∧ ∀ ys, SqT K H b ys → ys[i]? = some y,
    fun i H => ∃ xs ys : List V, SqL K H a xs ∧ SqT K H b ys ∧ (xs.length ≤ i ∨ ys.length ≤ i)⟩
theorem five {P : Addr → Prop} {z u o p r : Addr} (hz : P z) (hu : P u) (ho : P o) (hp : P p) (hr : P r) : ∀ c ∈ [z, u, o, p, r], P c := fun c hc => by
  simp only [List.mem_cons, List.not_mem_nil, or_false] at hc
  rcases hc with e | e | e | e | e <;> rw [e] <;> assumption
theorem turnM {P : Program} {w : World} {K : PySem.W.Frag} {elts : List Expr} {kk : Nat} {tpos : Pos} {a b z u o p r : Addr} (D : ZipApart z u o p r a b) :
    Turn P w K (.Tuple elts kk tpos) (ItM K a b) [z, u, o, p, r] z (fun i h => IsZip h z u o .none ∧ IsPair h u (.ref p) (.ref r) ∧ (∃ x y, IsPair h o x y) ∧ h.IsListIter p a i ∧ h.IsTupleIter r b i) where
  mem := by simp
  obj := fun i h ⟨hz, hu, ⟨x, y, ho⟩, ⟨o1, e1, _, d1⟩, ⟨o2, e2, _, d2⟩⟩ => five ⟨_, hz, fun v q => nomatch q⟩ ⟨_, hu, fun v q => nomatch q⟩ ⟨_, ho, fun v q => nomatch q⟩ ⟨o1, e1, fun v q => by rw [d1] at q; cases q⟩ ⟨o2, e2, fun v q => by rw [d2] at q; cases q⟩
  keep := fun i h g ⟨hz, hu, ⟨x, y, ho⟩, h1, h2⟩ k => ⟨k z (by simp) _ hz, k u (by simp) _ hu, ⟨x, y, k o (by simp) _ ho⟩, h1.at fun ob e => k p (by simp) ob e, h2.at fun ob e => k r (by simp) ob e⟩
  item := fun X hP hw hK hc i pins s σ H E I fp ⟨hz, hu, ⟨x0, y0, ho⟩, h1, h2⟩ ⟨xs, ys, x, y, qx, qy, ex, ey⟩ => by
    subst hP hw hK
    obtain ⟨us, rx, lx, _⟩ := I.list qx
    obtain ⟨vs, ry, ly, _⟩ := I.tuple qy
    obtain ⟨m, em, rm⟩ := rx.get ex
    obtain ⟨n, en, rn⟩ := ry.get ey
    have zlt : z < s.heap.objs.size := Heap.lt_size hz
    have ths : ∀ c ∈ [z, u, o, p, r], c < s.heap.objs.size := five zlt (Heap.lt_size hu) (Heap.lt_size ho) (by obtain ⟨_, e, _⟩ := h1; exact Heap.lt_size e) (by obtain ⟨_, e, _⟩ := h2; exact Heap.lt_size e)
    refine zip_item (x := m) (y := n) D (lsrc D.l1i1) (tsrc D.l2i2) hz hu ho ⟨h1, lx.isList⟩ ⟨h2, ly⟩ (by simpa using em) (by simpa using en) fun g gz go gp gr gt gk => ?_
    refine ⟨_, rfl, wpAny_letOwnedTupleGo_zip (s := { s with heap := g }) gz fun g' gz' sb => ?_⟩
    have gt' : g'.get? s.heap.objs.size = some { cls := .type "tuple", data := .seq #[m, n] } := (sb.2 _ (Nat.ne_of_gt zlt)).trans gt
    have fresh : ObjOk X.prog X.w (upd H s.heap.objs.size (.tup [x, y])) g' s.heap.objs.size (.tup [x, y]) := ⟨by show 2 ≤ sizeLine; decide, [m, n], .cons rm (.cons rn .nil), ⟨_, gt', rfl, _, rfl⟩⟩
    have J : Inv X pins σ (upd H s.heap.objs.size (.tup [x, y])) { s with heap := g' } :=
      I.turnedNew (t' := s.toks) (ch := [z, u, o, p, r]) (fun c ob nb e => by
        have nn : c ≠ z ∧ c ≠ u ∧ c ≠ o ∧ c ≠ p ∧ c ≠ r := ⟨fun q => nb (by simp [q]), fun q => nb (by simp [q]), fun q => nb (by simp [q]), fun q => nb (by simp [q]), fun q => nb (by simp [q])⟩
        exact (sb.2 c nn.1).trans (gk c ob nn.1 nn.2.2.1 nn.2.2.2.1 nn.2.2.2.2 e)) fp (Nat.le_refl _) fresh
    refine ⟨.ref s.heap.objs.size, _, J, rfl, ⟨_, x, y, rfl, I.hok.fresh (Nat.le_refl _), rfl, fun l hl => by rw [I.list_inj hl qx]; exact ex, fun l hl => by rw [I.tuple_inj hl qy]; exact ey⟩, ⟨gz', ?_, ⟨m, n, ?_⟩, ?_, ?_⟩, fun c hcm => ?_⟩
    · exact (sb.2 _ D.TIz).trans (gk _ _ D.TIz D.TITO D.TIi1 D.TIi2 hu)
    · exact (sb.2 _ D.TOz).trans go
    · exact gp.1.at fun ob q => (sb.2 _ D.i1z).trans q
    · exact gr.1.at fun ob q => (sb.2 _ D.i2z).trans q
    · rw [upd_ne (Nat.ne_of_lt (ths c hcm))]
      exact (fp c hcm).1
  done := fun X hP hw hK hc i pins s σ H E I fp ⟨hz, hu, ⟨x0, y0, ho⟩, h1, h2⟩ ⟨xs, ys, qx, qy, out⟩ => by
    subst hP hw hK
    obtain ⟨us, rx, lx, _⟩ := I.list qx
    obtain ⟨vs, ry, ly, _⟩ := I.tuple qy
    have n1 := rx.length
    have n2 := ry.length
    have none' : us.toArray[i]? = none ∨ vs.toArray[i]? = none := out.elim (fun q => .inl (by simp; omega)) fun q => .inr (by simp; omega)
    exact zip_end (I.ok.hd hc) D (lsrc D.l1i1) (tsrc D.l2i2) hz hu ho ⟨h1, lx.isList⟩ ⟨h2, ly⟩ none' fun g gk => ⟨rfl, I.turnedL (t' := s.toks) (ch := [z, u, o, p, r]) (fun c ob nb e =>
      gk c ob (fun q => nb (by simp [q])) (fun q => nb (by simp [q])) (fun q => nb (by simp [q])) (fun q => nb (by simp [q])) e) fp⟩
  self := fun A i s Q E st h => wpAny_pyIter_zip st.1 h
def iZipM (K : PySem.W.Frag) (ta : L2.TA) : TI := fun σ H R => ta σ H fun vs H1 => ∃ a b xs ys, vs = [.ref a, .ref b] ∧ SqL K H1 a xs ∧ SqT K H1 b ys ∧ R (ItM K a b) H1
/-- zip(list, tuple), the target written as a tuple -/
theorem pi_zipM {X : Cx} {K : PySem.W.Frag} {e e2 : Expr} {ta : L2.TA} {p pos tpos : Pos} {elts : List Expr} {kk : Nat} (hK : X.K = K) (hg : Gl X "zip") (hm : X.mg "zip" = none) (ha : PA X [e, e2] ta)
    (hs : starEach [e, e2] X.env = (false, eval e X.env) :: starEach [e2] X.env := by rfl) (hpl : (backTo pos (starEach [e2] X.env)).any (·.1) = false := by rfl) :
    PI X (.Tuple elts kk tpos) (.Call (.Name "zip" p) [e, e2] [] pos) (iZipM K ta) := by
  subst hK
  refine ⟨fun pins s σ H R I h => ?_⟩
  refine Call_ (ld_blt I hg hm PyProof.Rows.boot_zip (PyProof.Rows.callWith_type1 (thn (ha.run pos pins s σ H _ I h) fun us s1 ⟨vs, H1, J, rel, a, b, xs, ys, ev, qx, qy, q⟩ => ?_) hs hpl))
  subst ev
  cases rel with
  | cons ra rest =>
    cases rest with
    | cons rb rest =>
      cases rest
      cases ra
      cases rb
      obtain ⟨us, rx, lx, _⟩ := J.list qx
      obtain ⟨vs, ry, ly, _⟩ := J.tuple qy
      obtain ⟨ob, eb, _⟩ := id ly
      have new : ∀ c ∈ [s1.heap.objs.size + 4, s1.heap.objs.size + 2, s1.heap.objs.size + 3, s1.heap.objs.size, s1.heap.objs.size + 1], FpOk X pins H1 c := by
        have one : ∀ n, FpOk X pins H1 (s1.heap.objs.size + n) := fun n => J.fpOk (Nat.le_add_right _ _) (J.hok.fresh (Nat.le_add_right _ _))
        exact five (one 4) (one 2) (one 3) (one 0) (one 1)
      refine call_zipM lx.isList (show s1.heap.IsTuple b vs.toArray from ly) fun g gz gu go gp gr gk => wpAny_pyIter_zip gz ?_
      have J2 : Inv X pins σ H1 { s1 with heap := g } := J.kept (t' := s1.toks) gk
      exact ⟨_, _, _, _, H1, rfl, J2, turnM (PySem.W.ktu_apart s1.heap.objs.size a b lx.lt (Heap.lt_size eb)), ⟨gz, gu, ⟨_, _, go⟩, gp, gr⟩, new, q⟩
end ZM
namespace FR
open PySem PySem.Spec PyProof.Rows L2 ZM
theorem walk_zipM {K : PySem.W.Frag} {a b : Addr} {xs ys : List V} {n : Nat} (hn : n = min xs.length ys.length) : Walk (ItM K a b) n (fun H => SqL K H a xs ∧ SqT K H b ys) (YPair (fun i => xs[i]?) (fun i => ys[i]?)) := by
  subst hn
  refine ⟨fun i _ hi q => ?_, fun _ q => ⟨xs, ys, q.1, q.2, by omega⟩, fun i H v H' _ q y => ?_⟩
  · have h1 : i < xs.length := by omega
    have h2 : i < ys.length := by omega
    exact ⟨xs, ys, xs[i], ys[i], q.1, q.2, by simp [h1], by simp [h2]⟩
  · obtain ⟨t, x, z, h1, h2, h3, h4, h5⟩ := y
    exact ⟨t, x, z, h1, h2, h3, h4 xs q.1, h5 ys q.2⟩
end FR
set_option Elab.async false
set_option linter.all false
set_option maxRecDepth 100000
set_option maxHeartbeats 1000000
/-! slices and sums of tuples that stand: rules with one way -/
namespace FR
open PySem PySem.Spec PyProof.Rows L2
/-- t[lo:hi]: some tuple of this -/
def rSlB : V → Option Int → Option Int → Hp → VK → Prop := fun x lo hi H Q => ∃ a xs, x = .ref a ∧ H a = some (.tup xs) ∧ ∀ t H', Same H H' → H' t = some (.tup (cutV xs lo hi)) → Q (.ref t) H'
theorem sl_tupB {X : Cx} : SlR X rSlB := by
  intro pins s σ H x v vl vu lo hi sl Q I rx hs pl pu h
  obtain ⟨a, xs, rfl, ha, q⟩ := h
  exact sl_tupA pins s σ H _ v vl vu lo hi sl Q I rx hs pl pu (sla_tup ha q)
/-- t + u -/
def rCatB : R2 := fun x y H Q => ∃ a b xs ys, x = .ref a ∧ y = .ref b ∧ H a = some (.tup xs) ∧ H b = some (.tup ys) ∧ xs.length + ys.length ≤ 900 ∧ ∀ t H', Same H H' → H' t = some (.tup (xs ++ ys)) → Q (.ref t) H'
theorem op_catB {X : Cx} : OpR X (binaryOp .Add) rCatB := by
  intro pins s σ H x y v u Q I rx ry h
  obtain ⟨a, b, xs, ys, rfl, rfl, ha, hb, le, q⟩ := h
  exact op_catA pins s σ H _ _ v u Q I rx ry (cat_tup ha hb le q)
end FR
set_option Elab.async false
set_option pp.maxSteps 1500
set_option linter.all false
set_option maxRecDepth 100000
set_option maxHeartbeats 1000000
/-! other weights -/
namespace FR
open PySem PySem.Spec PyProof.Rows L2
abbrev sWw : Stmt := FR.top 19
abbrev NWw : List Str := ["statement", "weights", "weight", "_", "body", "stop", "go"]
theorem scWw : FnScope NWw ["statement", "weights"] (defScope sWw) := ⟨rfl, rfl, rfl, by decide +kernel, rfl, by decide +kernel, by decide +kernel⟩
open ZM
def St.mapW (f : Int → Int) : St → St
  | .again i j b => .again (f i) (f j) b
  | .toss rs => .toss (rs.map fun r => (f r.1, r.2))
  | x => x
theorem mapW_kids (f : Int → Int) (x : St) : (x.mapW f).kids = x.kids := by
  match x with
  | .note _ => rfl
  | .call _ => rfl
  | .stay => rfl
  | .choose _ => rfl
  | .again _ _ _ => rfl
  | .toss rs => show (rs.map fun r => (f r.1, r.2)).map (fun r => r.2) = rs.map fun r => r.2; rw [List.map_map]; rfl
/-- it has weights -/
def St.wty (x : St) : Prop := x.word = "toss" ∨ x.word = "again"
theorem pg_lstK {X : Cx} {K : PySem.W.Frag} {es : List Expr} {k : Nat} {pos : Pos} {t : TGs} {n : Nat} (hK : X.K = K) (hc : X.calm = true) (h : PGs X es t)
    (hn : (assignEach es X.env).length = n := by rfl) (hst : (assignEach es X.env).findIdx? (·.1) = none := by rfl) : PG X (.Tuple es k pos) (gLst K n t) := by
  subst hK
  exact pg_lst hc h hn hst
section
variable {P : Program} {w : World} {K : PySem.W.Frag} {mg : Str → Option Value} {base : Heap}
def spWw (n : Nat) (f : Int → Int) : Sp := fun vs H Q _ => ∃ v x l, vs = [v, .ref l] ∧ StAt n H v x ∧ x.wty ∧ x.kids.length ≤ 90 ∧ H l = some (.lst ((x.wts.map f).map V.int)) ∧ ∀ u H', Same H H' → StAt n H' u (x.mapW f) → Q u H'
theorem ok_ww {f : Addr} {fd : FuncData} {n : Nat} {g : Int → Int} (F : Fun K "with_weights" "with_weights" sWw f fd) (mT : mg "tuple" = none) (mz : mg "zip" = none) : FnOk P w K mg base CX0 1 f fd ["statement", "weights"] (spWw n g) := by
  refine F.ok scWw (fun vs H Q E h => ?_) (fun cdv A outer s H vs Q E hr h => ?_)
  · obtain ⟨v, x, l, rfl, _⟩ := h
    rfl
  · obtain ⟨v, x, l, rfl, hv, ty, few, hl, q⟩ := h
    refine ⟨_, (pss_cons (ps_if (pt_cmpR op_eq (pe_ix ix_tup (pv 0) pe_int (fun _ _ => rfl)) pe_str (nomark _)) (pss_one (ps_ret (pe_op op_catA (pe_tup (pa_cons pe_str pa_nil)) (pe_callTy call_tuple_of (by rfl) mT (by decide +kernel) (pa_cons (pe_lc (X := (cxOf CX0 P w K mg base NWw "with_weights" (defScope sWw) f cdv A outer s H E).nox) (own := [("weight", 2), ("_", 3), ("body", 4)]) (g := (gTup K 2 (gCons (gName 2) (gCons (gTup K 2 (gCons (gName 3) (gCons (gName 4) gNil))) gNil)))) (tt := tYes) rfl scWw.nd (pi_zipM (K := K) rfl (by rfl) mz (pa_cons (pv 1) (pa_cons (pe_slice sl_tupA (pv 0) (po_some pe_int) po_none) pa_nil))) (blkOk_by (N := NWw) (sc := defScope sWw) (by decide +kernel)) (fun _ _ _ _ _ => (pg_tupK (K := K) rfl rfl (pgs_cons (pg_name (i := 2) scWw.nd rfl (.inl rfl)) (pgs_cons (pg_tupK (K := K) rfl rfl (pgs_cons (pg_name (i := 3) scWw.nd rfl (.inl rfl)) (pgs_cons (pg_name (i := 4) scWw.nd rfl (.inl rfl)) pgs_nil))) pgs_nil)))) (fun _ _ _ _ _ => pts_nil) (fun _ _ _ _ _ => (pe_tup (pa_cons (pv 2) (pa_cons (pv 4) pa_nil))))) pa_nil))))) pss_nil)
      (pss_cons (ps_asg (pv 1) (pg_lstK (K := K) rfl rfl (pgs_cons (pg_name (i := 5) scWw.nd rfl (.inl rfl)) (pgs_cons (pg_name (i := 6) scWw.nd rfl (.inl rfl)) pgs_nil))))
      (pss_one (ps_ret (pe_tup (pa_cons pe_str (pa_cons (pv 5) (pa_cons (pv 6) (pa_cons (pe_ix ix_tup (pv 0) pe_int (fun _ _ => rfl)) pa_nil))))))))), ?_⟩
    obtain ⟨a, xs, rfl, ha⟩ := hv.head
    refine ⟨_, rfl, a, _, 0, _, rfl, rfl, SqT.of ha, atI_nat (j := 0) rfl, rfl, _, rfl, ?_⟩
    match x, hv, ty, few, hl, q with
    | .note z, _, ty, _, _, _ => exact absurd ty (by show ¬ (("note" : Str) = "toss" ∨ ("note" : Str) = "again"); decide +kernel)
    | .call z, _, ty, _, _, _ => exact absurd ty (by show ¬ (("call" : Str) = "toss" ∨ ("call" : Str) = "again"); decide +kernel)
    | .stay, _, ty, _, _, _ => exact absurd ty (by show ¬ (("stay" : Str) = "toss" ∨ ("stay" : Str) = "again"); decide +kernel)
    | .choose bs, _, ty, _, _, _ => exact absurd ty (by show ¬ (("choose" : Str) = "toss" ∨ ("choose" : Str) = "again"); decide +kernel)
    | .again i j c, ⟨a', w0, e, ha', gk⟩, _, few, hl, q =>
      cases e
      refine iteF ?_
      refine ⟨_, rfl, l, _, rfl, SqL.of hl, rfl, _, _, rfl, _, _, rfl, rfl, ?_⟩
      refine ⟨_, rfl, _, rfl, _, rfl, a, _, 3, _, rfl, rfl, SqT.of ha', atI_nat (j := 3) rfl, small1000 (Nat.le_of_ble_eq_true rfl), fun p hp => ?_⟩
      have sp := same_new (o := .tup [V.str "again", V.int (g i), V.int (g j), w0]) hp
      exact q _ _ sp ⟨p, w0, rfl, upd_same, gk.same sp⟩
    | .toss rs, ⟨a', us, e, ha', gk⟩, _, few, hl, q =>
      cases e
      have l90 : rs.length ≤ 90 := by have : (rs.map fun r => r.2).length ≤ 90 := few; rw [List.length_map] at this; exact this
      refine iteT ?_
      refine ⟨small1000 (Nat.le_of_ble_eq_true rfl), fun p hp => ?_⟩
      have s1 := same_new (o := .tup [V.str "toss"]) hp
      have hp1 : upd H p (.tup [V.str "toss"]) p = some (.tup [V.str "toss"]) := upd_same
      have hl1 := s1 _ _ hl
      have ha1 := s1 _ _ ha'
      have g1 := gk.imp (R' := fun u r => ∃ p0 x, u = .ref p0 ∧ upd H p (.tup [V.str "toss"]) p0 = some (.tup [.int r.1, x]) ∧ BdAt n (upd H p (.tup [V.str "toss"])) x r.2) fun _ _ ⟨p0, x, e1, h1, z⟩ => ⟨p0, x, e1, s1 _ _ h1, z.same s1⟩
      generalize upd H p (.tup [V.str "toss"]) = H1 at s1 hp1 hl1 ha1 g1 ⊢
      refine ⟨_, rfl, _, rfl, _, rfl, ?_⟩
      dsimp only [tNoPart]
      refine sla_tup ha1 fun t2 H2 s2 ht2 => ?_
      have ht2 : H2 t2 = some (.tup us) := by
        have e := cut_from (V.str "toss" :: us) 1
        rw [ht2]
        exact congrArg (fun l => some (HO.tup l)) e
      refine ⟨l, t2, _, us, rfl, SqL.of (s2 _ _ hl1), SqT.of ht2, fun D hD => ?_⟩
      have lu : us.length = rs.length := g1.1
      have lw : ((St.wts (.toss rs)).map g).length = rs.length := by show ((rs.map _).map g).length = _; rw [List.length_map, List.length_map]
      refine lc_it (walk_zipM (xs := ((St.wts (.toss rs)).map g).map V.int) (ys := us) (n := rs.length) (by rw [List.length_map, lw, lu, Nat.min_self]))
        (fun i Hc => Same H2 Hc ∧ ∃ ws, Hc D = some (.lst ws) ∧ AG (fun u r => ∃ p x, u = .ref p ∧ Hc p = some (.tup [.int r.1, x]) ∧ BdAt n Hc x r.2) ws ((rs.map fun r => (g r.1, r.2)).take i)) ⟨same_new hD, [], upd_same, AG.nil⟩ (fun i Hc _ z => ⟨SqL.of (z.1 _ _ (s2 _ _ hl1)), SqT.of (z.1 _ _ ht2)⟩) ?_ ?_
      · rintro i v' Hc H' hi ⟨sm, ws, hDc, hw⟩ ⟨T, x, y, rfl, nT, rfl, hx, hy⟩
        obtain ⟨r, hr, p0, x0, rfl, h0, z0⟩ := g1.2 i y hy
        have hx : (((rs.map (·.1)).map g).map V.int)[i]? = some x := hx
        rw [List.getElem?_map, List.getElem?_map, List.getElem?_map, hr] at hx
        have ex : V.int (g r.1) = x := Option.some.inj hx
        subst ex
        have sT : Same Hc (upd Hc T (.tup [V.int (g r.1), V.ref p0])) := same_new nT
        have hT : upd Hc T (.tup [V.int (g r.1), V.ref p0]) T = some (.tup [V.int (g r.1), V.ref p0]) := upd_same
        have s12 := (s2.trans sm).trans sT
        have h0 := s12 _ _ h0
        have z0 := z0.same s12
        have hDT := sT _ _ hDc
        have hwT := hw.imp (R' := fun u r2 => ∃ p x, u = .ref p ∧ (upd Hc T (.tup [V.int (g r.1), V.ref p0])) p = some (.tup [.int r2.1, x]) ∧ BdAt n (upd Hc T (.tup [V.int (g r.1), V.ref p0])) x r2.2) fun _ _ ⟨p, x, e, h1, h2⟩ => ⟨p, x, e, sT _ _ h1, h2.same sT⟩
        have smT := sm.trans sT
        refine ⟨T, _, rfl, SqT.of hT, rfl, _, _, rfl, _, _, rfl, p0, _, rfl, SqT.of h0, rfl, _, _, rfl, _, _, rfl, rfl, rfl, rfl, ?_⟩
        generalize upd Hc T (.tup [V.int (g r.1), V.ref p0]) = HT at hDT hwT smT z0 h0 ⊢
        refine ⟨_, rfl, _, rfl, small1000 (Nat.le_of_ble_eq_true rfl), fun p2 hp2 => ?_⟩
        have s3 := same_new (o := .tup [V.int (g r.1), x0]) hp2
        have h3 : upd HT p2 (.tup [V.int (g r.1), x0]) p2 = some (.tup [V.int (g r.1), x0]) := upd_same
        have hD3 := s3 _ _ hDT
        have k9 : Tk (upd HT p2 (.tup [V.int (g r.1), x0])) (upd (upd HT p2 (.tup [V.int (g r.1), x0])) D (.lst (ws ++ [V.ref p2]))) := Tk.upd hD3 (fun _ z => by cases z) (fun _ _ z => by cases z)
        refine ⟨ws, hD3, small1000 (by rw [hw.1, List.length_take]; omega), same_upd hD (smT.trans s3), _, upd_same, ?_⟩
        have hz : (rs.map fun r => (g r.1, r.2))[i]? = some (g r.1, r.2) := by rw [List.getElem?_map, hr]; rfl
        rw [take_snoc hz]
        exact AG.snoc (hwT.imp fun _ _ ⟨p, x, e, h1, h2⟩ => ⟨p, x, e, k9.1 _ _ (s3 _ _ h1), k9.bd (h2.same s3)⟩) ⟨p2, x0, rfl, k9.1 _ _ h3, k9.bd (z0.same s3)⟩
      · rintro Hc ⟨sm, ws, hDc, hw⟩
        rw [List.take_of_length_le (by rw [List.length_map]; exact Nat.le_refl _)] at hw
        refine ⟨D, _, rfl, .inl ⟨SqL.of hDc, fun t ht => ?_⟩⟩
        have st := same_new (o := .tup ws) ht
        have ht1 : upd Hc t (.tup ws) t = some (.tup ws) := upd_same
        have hw1 := hw.imp (R' := fun u r => ∃ p x, u = .ref p ∧ (upd Hc t (.tup ws)) p = some (.tup [.int r.1, x]) ∧ BdAt n (upd Hc t (.tup ws)) x r.2) fun _ _ ⟨p, x, e, h1, h2⟩ => ⟨p, x, e, st _ _ h1, h2.same st⟩
        have pt := (s2.trans sm).trans st
        have hpt := pt _ _ hp1
        have lw1 : ws.length ≤ 90 := by rw [hw1.1, List.length_map]; exact l90
        generalize upd Hc t (.tup ws) = H5 at st ht1 hw1 pt hpt ⊢
        refine cat_tup hpt ht1 (by show 1 + ws.length ≤ 900; omega) fun t6 H6 s6 h6 => ?_
        exact q _ _ ((s1.trans pt).trans s6) ⟨t6, ws, rfl, h6, hw1.imp fun _ _ ⟨p, x, e, h1, h2⟩ => ⟨p, x, e, s6 _ _ h1, h2.same s6⟩⟩
end
end FR
set_option Elab.async false
set_option linter.all false
set_option maxRecDepth 100000
set_option maxHeartbeats 1000000
/-! other weights at a place: the sizes, the next values, twice at one place -/
namespace FR
open PySem PySem.Spec PyProof.Rows L2 LD
/-! ### the greatest common divisor of weights -/
def gcd2 (d i : Int) : Int := ((Nat.gcd d.natAbs i.natAbs : Nat) : Int)
def gcdW (l : List Int) : Int := l.foldl gcd2 0
theorem gcd2_comm (d i : Int) : gcd2 d i = gcd2 i d := by
  unfold gcd2
  rw [Nat.gcd_comm]
theorem gcd2_dl (d i : Int) : gcd2 d i ∣ d := Int.ofNat_dvd_left.mpr (Nat.gcd_dvd_left _ _)
theorem gcd2_dr (d i : Int) : gcd2 d i ∣ i := Int.ofNat_dvd_left.mpr (Nat.gcd_dvd_right _ _)
theorem gcd2_mul {d i m : Int} (hm : 0 ≤ m) : gcd2 (d * m) (i * m) = gcd2 d i * m := by
  unfold gcd2
  rw [Int.natAbs_mul, Int.natAbs_mul, Nat.gcd_mul_right, Int.natCast_mul, Int.natAbs_of_nonneg hm]
theorem fold_dvd : ∀ (l : List Int) (d : Int), l.foldl gcd2 d ∣ d ∧ ∀ i ∈ l, l.foldl gcd2 d ∣ i
  | [], d => ⟨Int.dvd_refl d, fun _ h => absurd h List.not_mem_nil⟩
  | x :: l, d => by
    obtain ⟨h1, h2⟩ := fold_dvd l (gcd2 d x)
    refine ⟨Int.dvd_trans h1 (gcd2_dl d x), fun i hi => ?_⟩
    rcases List.mem_cons.mp hi with e | hi
    · rw [e]; exact Int.dvd_trans h1 (gcd2_dr d x)
    · exact h2 i hi
theorem fold_pos : ∀ (l : List Int) (d : Int), 0 ≤ l.foldl gcd2 d ∨ l = []
  | [], _ => .inr rfl
  | [x], d => .inl (Int.natCast_nonneg _)
  | x :: y :: l, d => .inl ((fold_pos (y :: l) (gcd2 d x)).elim id fun h => by cases h)
theorem gcdW_dvd {l : List Int} {i : Int} (h : i ∈ l) : gcdW l ∣ i := (fold_dvd l 0).2 i h
theorem gcdW_pos {l : List Int} (ne : l ≠ []) (h : ∀ i ∈ l, 1 ≤ i) : 1 ≤ gcdW l := by
  have h0 := (fold_pos l 0).resolve_right ne
  obtain ⟨x, hx⟩ := List.exists_mem_of_ne_nil l ne
  have h1 := h x hx
  have h2 := gcdW_dvd hx
  have h0 : 0 ≤ gcdW l := h0
  rcases Int.lt_or_eq_of_le h0 with h | h
  · omega
  · rw [← h] at h2
    have := Int.zero_dvd.mp h2
    omega
theorem gcdW_le {l : List Int} {i : Int} (hi : i ∈ l) (h : ∀ i ∈ l, 1 ≤ i) : gcdW l ≤ i := Int.le_of_dvd (by have := h i hi; omega) (gcdW_dvd hi)
theorem fold_mul {m : Int} (hm : 0 ≤ m) : ∀ (l : List Int) (d : Int), (l.map (· * m)).foldl gcd2 (d * m) = l.foldl gcd2 d * m
  | [], _ => rfl
  | x :: l, d => by
    rw [List.map_cons, List.foldl_cons, List.foldl_cons, gcd2_mul hm]
    exact fold_mul hm l _
theorem gcdW_mul {m : Int} (hm : 0 ≤ m) (l : List Int) : gcdW (l.map (· * m)) = gcdW l * m := by
  have := fold_mul hm l 0
  rw [Int.zero_mul] at this
  exact this
/-! ### a statement with other weights -/
theorem mapW_word (f : Int → Int) (x : St) : (x.mapW f).word = x.word := by
  cases x <;> rfl
theorem mapW_wts (f : Int → Int) (x : St) : (x.mapW f).wts = x.wts.map f := by
  cases x with
  | toss rs => show (rs.map fun r => (f r.1, r.2)).map (fun r => r.1) = (rs.map fun r => r.1).map f; rw [List.map_map, List.map_map]; rfl
  | _ => rfl
theorem mapW_mapW (f g : Int → Int) (x : St) : (x.mapW f).mapW g = x.mapW fun i => g (f i) := by
  cases x with
  | toss rs => show St.toss ((rs.map fun r => (f r.1, r.2)).map fun r => (g r.1, r.2)) = _; rw [List.map_map]; rfl
  | _ => rfl
theorem mapW_id {f : Int → Int} {x : St} (h : ∀ i ∈ x.wts, f i = i) : x.mapW f = x := by
  match x, h with
  | .note _, _ => rfl
  | .call _, _ => rfl
  | .stay, _ => rfl
  | .choose _, _ => rfl
  | .again i j b, h =>
    show St.again (f i) (f j) b = _
    rw [h i List.mem_cons_self, h j (List.mem_cons_of_mem _ List.mem_cons_self)]
  | .toss rs, h =>
    show St.toss (rs.map fun r => (f r.1, r.2)) = _
    have e : rs.map (fun r => (f r.1, r.2)) = rs.map id := List.map_congr_left fun r hr => by
      show (f r.1, r.2) = r
      rw [h r.1 (List.mem_map.mpr ⟨r, hr, rfl⟩)]
    rw [e, List.map_id]
theorem mapW_congr {f g : Int → Int} {x : St} (h : ∀ i ∈ x.wts, f i = g i) : x.mapW f = x.mapW g := by
  match x, h with
  | .note _, _ => rfl
  | .call _, _ => rfl
  | .stay, _ => rfl
  | .choose _, _ => rfl
  | .again i j b, h =>
    show St.again (f i) (f j) b = St.again (g i) (g j) b
    rw [h i List.mem_cons_self, h j (List.mem_cons_of_mem _ List.mem_cons_self)]
  | .toss rs, h =>
    show St.toss (rs.map fun r => (f r.1, r.2)) = St.toss (rs.map fun r => (g r.1, r.2))
    congr 1
    exact List.map_congr_left fun r hr => by rw [h r.1 (List.mem_map.mpr ⟨r, hr, rfl⟩)]
theorem wty_wts {x : St} (h : x.wty) (ok : okS x = true) : x.wts ≠ [] ∧ ∀ i ∈ x.wts, 1 ≤ i ∧ i ≤ 99 := by
  match x, h, ok with
  | .again i j b, _, ok =>
    obtain ⟨a, c⟩ := again_of ok
    refine ⟨List.cons_ne_nil _ _, fun k hk => ?_⟩
    rcases List.mem_cons.mp hk with e | hk
    · rw [e]; exact a
    · rw [List.mem_singleton.mp hk]; exact c
  | .toss rs, _, ok =>
    obtain ⟨a, _, c⟩ := toss_of ok
    refine ⟨fun e => ?_, fun k hk => ?_⟩
    · have : (rs.map fun r => r.1).length = 0 := by rw [show (rs.map fun r => r.1) = [] from e]; rfl
      rw [List.length_map] at this
      omega
    · obtain ⟨r, hr, rfl⟩ := List.mem_map.mp hk
      exact c r hr
  | .note z, h, _ => exact absurd h (by show ¬ (("note" : Str) = "toss" ∨ ("note" : Str) = "again"); decide +kernel)
  | .call z, h, _ => exact absurd h (by show ¬ (("call" : Str) = "toss" ∨ ("call" : Str) = "again"); decide +kernel)
  | .stay, h, _ => exact absurd h (by show ¬ (("stay" : Str) = "toss" ∨ ("stay" : Str) = "again"); decide +kernel)
  | .choose bs, h, _ => exact absurd h (by show ¬ (("choose" : Str) = "toss" ∨ ("choose" : Str) = "again"); decide +kernel)
theorem mapW_ok {x : St} {f : Int → Int} (h : x.wty) (ok : okS x = true) : okS (x.mapW f) = (x.wts.all fun i => wtB (f i)) ∧ fmS (x.mapW f) = true := by
  match x, h, ok with
  | .again i j b, _, ok =>
    refine ⟨?_, rfl⟩
    show (wtB (f i) && wtB (f j)) = (wtB (f i) && (wtB (f j) && true))
    rw [Bool.and_true]
  | .toss rs, _, ok =>
    have h : ((decide ((2 : Int) ≤ (rs.length : Nat)) && decide (((rs.length : Nat) : Int) ≤ 4)) && rs.all fun r => wtB r.1) = true := ok
    rw [Bool.and_eq_true] at h
    have e : (decide ((2 : Int) ≤ ((rs.map fun r => (f r.1, r.2)).length : Nat)) && decide ((((rs.map fun r => (f r.1, r.2)).length : Nat) : Int) ≤ 4)) = true := by rw [List.length_map]; exact h.1
    refine ⟨?_, e⟩
    show ((decide ((2 : Int) ≤ ((rs.map fun r => (f r.1, r.2)).length : Nat)) && decide ((((rs.map fun r => (f r.1, r.2)).length : Nat) : Int) ≤ 4)) && (rs.map fun r => (f r.1, r.2)).all fun r => wtB r.1) = (rs.map fun r => r.1).all fun i => wtB (f i)
    rw [e, Bool.true_and, List.all_map, List.all_map]
    rfl
  | .note z, h, _ => exact absurd h (by show ¬ (("note" : Str) = "toss" ∨ ("note" : Str) = "again"); decide +kernel)
  | .call z, h, _ => exact absurd h (by show ¬ (("call" : Str) = "toss" ∨ ("call" : Str) = "again"); decide +kernel)
  | .stay, h, _ => exact absurd h (by show ¬ (("stay" : Str) = "toss" ∨ ("stay" : Str) = "again"); decide +kernel)
  | .choose bs, h, _ => exact absurd h (by show ¬ (("choose" : Str) = "toss" ∨ ("choose" : Str) = "again"); decide +kernel)
/-- times m, over the greatest common divisor -/
def mulW (m : Int) : Int → Int := fun i => i * m
def divW (g : Int) : Int → Int := fun i => i.fdiv g
theorem divW_dvd {g i : Int} (h : g ∣ i) (hg : 1 ≤ g) : divW g i * g = i := by
  obtain ⟨k, rfl⟩ := h
  show (g * k).fdiv g * g = g * k
  rw [Int.mul_fdiv_cancel_left k (by omega), Int.mul_comm]
theorem nxS_mul {N : Bd → PI} {ρ : Str → PI} {x : St} {m : Int} (hm : 1 ≤ m) : nxS N ρ (x.mapW (mulW m)) = nxS N ρ x := by
  match x with
  | .note _ => rfl
  | .call _ => rfl
  | .stay => rfl
  | .choose _ => rfl
  | .again i j b =>
    show lf (i * m * (N b).2, (i * m + j * m) * (N b).2 - j * m * (N b).1) = lf (i * (N b).2, (i + j) * (N b).2 - j * (N b).1)
    rw [← lf_scale (t := i * (N b).2) (k := m) (by omega)]
    congr 2
    · grind
    · grind
  | .toss rs =>
    have e : wsum (rs.map fun r => (mulW m r.1, r.2)) = m * wsum rs := by
      induction rs with
      | nil => show (0 : Int) = m * 0; rw [Int.mul_zero]
      | cons r rs ih =>
        show r.1 * m + wsum (rs.map fun r => (mulW m r.1, r.2)) = m * (r.1 + wsum rs)
        rw [ih, Int.mul_add, Int.mul_comm]
    show (rs.map fun r => (mulW m r.1, r.2)).foldl (fun acc r => plusP acc (byP (r.1, wsum (rs.map fun r => (mulW m r.1, r.2))) (N r.2))) (0, 1) = rs.foldl (fun acc r => plusP acc (byP (r.1, wsum rs) (N r.2))) (0, 1)
    rw [e, List.foldl_map]
    refine fold_congr (fun r hr b => ?_) _
    congr 1
    show lf (r.1 * m * (N r.2).1, m * wsum rs * (N r.2).2) = lf (r.1 * (N r.2).1, wsum rs * (N r.2).2)
    rw [← lf_scale (t := r.1 * (N r.2).1) (k := m) (by omega)]
    congr 2
    · grind
    · grind
theorem nxS_div {N : Bd → PI} {ρ : Str → PI} {x : St} {g : Int} (hg : 1 ≤ g) (h : ∀ i ∈ x.wts, g ∣ i) : nxS N ρ (x.mapW (divW g)) = nxS N ρ x := by
  have e : (x.mapW (divW g)).mapW (mulW g) = x := by
    rw [mapW_mapW]
    exact mapW_id fun i hi => divW_dvd (h i hi) hg
  rw [← nxS_mul (m := g) hg, e]
/-- lower than what was made greater: the same -/
theorem low_of_mul {x : St} {m : Int} (hm : 1 ≤ m) (ne : x.wts ≠ []) (h : ∀ i ∈ x.wts, 1 ≤ i) : (x.mapW (mulW m)).mapW (divW (gcdW (x.mapW (mulW m)).wts)) = x.mapW (divW (gcdW x.wts)) := by
  have hg := gcdW_pos ne h
  rw [mapW_wts, show mulW m = (· * m) from rfl, gcdW_mul (by omega), mapW_mapW]
  refine mapW_congr fun i hi => ?_
  obtain ⟨k, hk⟩ := gcdW_dvd hi
  show (i * m).fdiv (gcdW x.wts * m) = i.fdiv (gcdW x.wts)
  generalize gcdW x.wts = g at hg hk ⊢
  rw [hk, show g * k * m = g * m * k by grind, Int.mul_fdiv_cancel_left k (by have := Int.mul_pos (show 0 < g by omega) (show 0 < m by omega); omega), Int.mul_fdiv_cancel_left k (by omega)]
/-! ### another statement with the same bodies, at a place -/
theorem ws_wp_eq (g : St → Nat) (hg : ∀ s n k, n < s.kids.length → g (s.putAt n k) = g s) {k : Bd} : ∀ {ps : List (Nat × Nat)} {n : Nat} {b : Bd}, InB b ps → ps.length ≤ n → ws g n (wpB b ps k) + ws g (n - ps.length) (atB b ps) = ws g n b + ws g (n - ps.length) k
  | [], _, _, _, _ => Nat.add_comm _ _
  | x :: r, 0, _, _, le => absurd le (Nat.not_succ_le_zero _)
  | x :: r, n + 1, b, ⟨h1, h2, h3⟩, le => by
    rw [List.length_cons] at le
    have ih := ws_wp_eq g hg (k := k) (n := n) h3 (by omega)
    rw [List.length_cons, Nat.add_sub_add_right]
    show ((b.set x.1 ((b.getD x.1 .stay).putAt x.2 (wpB ((b.getD x.1 .stay).kids.getD x.2 []) r k))).map fun s => g s + (s.kids.map (ws g n)).sum).sum + ws g (n - r.length) (atB _ r) = (b.map fun s => g s + (s.kids.map (ws g n)).sum).sum + _
    have c := sum_set (fun s : St => g s + (s.kids.map (ws g n)).sum) ((b.getD x.1 .stay).putAt x.2 (wpB ((b.getD x.1 .stay).kids.getD x.2 []) r k)) .stay b x.1 h1
    have c : _ + (g (b.getD x.1 .stay) + ((b.getD x.1 .stay).kids.map (ws g n)).sum) = _ + (g ((b.getD x.1 .stay).putAt x.2 (wpB ((b.getD x.1 .stay).kids.getD x.2 []) r k)) + (((b.getD x.1 .stay).putAt x.2 (wpB ((b.getD x.1 .stay).kids.getD x.2 []) r k)).kids.map (ws g n)).sum) := c
    rw [hg _ _ _ h2, kids_putAt h2] at c
    have d := sum_set (ws g n) (wpB ((b.getD x.1 .stay).kids.getD x.2 []) r k) [] (b.getD x.1 .stay).kids x.2 h2
    omega
theorem oth_set {c : Bd} {i : Nat} {s : St} (h : i < c.length) : oth c i [s] = c.set i s := by
  unfold oth
  rw [List.set_eq_take_append_cons_drop, if_pos h, List.append_assoc]
  rfl
theorem cnt_same {b : Bd} {ps : List (Nat × Nat)} {i : Nat} {s s' : St} {n : Nat} (hw : InB b ps) (le : ps.length < n) (hi : (atB b ps)[i]? = some s) (hk : s'.kids = s.kids) : cnt n (spl b ps i [s']) = cnt n b := by
  have il := (List.getElem?_eq_some_iff.mp hi).1
  have h1 := ws_wp_eq (fun _ => 1) cnt_putAt (k := oth (atB b ps) i [s']) (n := n) hw (by omega)
  obtain ⟨m, hm⟩ : ∃ m, n - ps.length = m + 1 := ⟨n - ps.length - 1, by omega⟩
  have h2 : ws (fun _ => 1) (m + 1) (oth (atB b ps) i [s']) = ws (fun _ => 1) (m + 1) (atB b ps) := by
    rw [oth_set il]
    have c := sum_set (fun s : St => 1 + (s.kids.map (ws (fun _ => 1) m)).sum) s' .stay (atB b ps) i il
    have e : (atB b ps).getD i .stay = s := getD_of hi
    rw [e, hk] at c
    show (((atB b ps).set i s').map fun s => 1 + (s.kids.map (ws (fun _ => 1) m)).sum).sum = ((atB b ps).map fun s => 1 + (s.kids.map (ws (fun _ => 1) m)).sum).sum
    omega
  rw [cnt_ws, cnt_ws]
  show ws _ n (wpB b ps (oth (atB b ps) i [s'])) = _
  rw [hm] at h1
  omega
theorem get_set {α : Type} {l : List α} {i : Nat} {x d : α} (h : i < l.length) : (l.set i x).getD i d = x := getD_of (by rw [List.getElem?_set_self h])
theorem at_wp : ∀ {ps : List (Nat × Nat)} {b k : Bd}, InB b ps → atB (wpB b ps k) ps = k ∧ InB (wpB b ps k) ps
  | [], _, _, _ => ⟨rfl, trivial⟩
  | x :: r, b, k, ⟨h1, h2, h3⟩ => by
    obtain ⟨i1, i2⟩ := at_wp (k := k) h3
    have e : (wpB b (x :: r) k).getD x.1 .stay = (b.getD x.1 .stay).putAt x.2 (wpB ((b.getD x.1 .stay).kids.getD x.2 []) r k) := get_set h1
    have l1 : (wpB b (x :: r) k).length = b.length := List.length_set
    have e2 : ((b.getD x.1 .stay).putAt x.2 (wpB ((b.getD x.1 .stay).kids.getD x.2 []) r k)).kids.getD x.2 [] = wpB ((b.getD x.1 .stay).kids.getD x.2 []) r k := by rw [kids_putAt h2]; exact get_set h2
    refine ⟨?_, ?_, ?_, ?_⟩
    · show atB (((wpB b (x :: r) k).getD x.1 .stay).kids.getD x.2 []) r = k
      rw [e, e2]
      exact i1
    · rw [l1]; exact h1
    · rw [e, kids_putAt h2, List.length_set]; exact h2
    · rw [e, e2]; exact i2
theorem putAt_putAt {s : St} {n : Nat} {k k' : Bd} (h : n < s.kids.length) : (s.putAt n k).putAt n k' = s.putAt n k' := by
  match s, h with
  | .again _ _ _, _ => rfl
  | .choose bs, h => show St.choose ((bs.set n k).set n k') = _; rw [List.set_set]; rfl
  | .toss rs, h =>
    have h : n < (rs.map fun r => r.2).length := h
    rw [List.length_map] at h
    show St.toss ((rs.set n ((rs.getD n (0, [])).1, k)).set n (((rs.set n ((rs.getD n (0, [])).1, k)).getD n (0, [])).1, k')) = _
    rw [get_set h, List.set_set]
    rfl
theorem wp_wp : ∀ {ps : List (Nat × Nat)} {b k k' : Bd}, InB b ps → wpB (wpB b ps k) ps k' = wpB b ps k'
  | [], _, _, _, _ => rfl
  | x :: r, b, k, k', ⟨h1, h2, h3⟩ => by
    have e : (wpB b (x :: r) k).getD x.1 .stay = (b.getD x.1 .stay).putAt x.2 (wpB ((b.getD x.1 .stay).kids.getD x.2 []) r k) := get_set h1
    have e2 : ((b.getD x.1 .stay).putAt x.2 (wpB ((b.getD x.1 .stay).kids.getD x.2 []) r k)).kids.getD x.2 [] = wpB ((b.getD x.1 .stay).kids.getD x.2 []) r k := by rw [kids_putAt h2]; exact get_set h2
    show (wpB b (x :: r) k).set x.1 (((wpB b (x :: r) k).getD x.1 .stay).putAt x.2 (wpB (((wpB b (x :: r) k).getD x.1 .stay).kids.getD x.2 []) r k')) = b.set x.1 _
    rw [e, e2, wp_wp h3, putAt_putAt h2]
    show (b.set x.1 _).set x.1 _ = _
    rw [List.set_set]
/-- twice at one place: the second is what counts -/
theorem spl_spl {b : Bd} {ps : List (Nat × Nat)} {i : Nat} {s s' : St} (hw : InB b ps) (hi : i < (atB b ps).length) : spl (spl b ps i [s]) ps i [s'] = spl b ps i [s'] ∧ InB (spl b ps i [s]) ps ∧ (atB (spl b ps i [s]) ps)[i]? = some s := by
  obtain ⟨h1, h2⟩ := at_wp (k := oth (atB b ps) i [s]) hw
  refine ⟨?_, h2, ?_⟩
  · show wpB (wpB b ps (oth (atB b ps) i [s])) ps (oth (atB (wpB b ps (oth (atB b ps) i [s])) ps) i [s']) = wpB b ps (oth (atB b ps) i [s'])
    rw [h1, wp_wp hw, oth_set hi, oth_set (by rw [List.length_set]; exact hi), List.set_set, ← oth_set hi]
  · show (atB (wpB b ps (oth (atB b ps) i [s])) ps)[i]? = some s
    rw [h1, oth_set hi, List.getElem?_set_self hi]
theorem nx_same {ns : List Str} {bt : Str → Nat} {ρ : Str → PI} (hv : Vals1 ns bt ρ) {b : Bd} {ps : List (Nat × Nat)} {i : Nat} {s s' : St} (hb : Al (Ok1 ns) 3 b) (hw : InB b ps) (hi : (atB b ps)[i]? = some s) (o' : Ok1 ns s') (hk : s'.kids = s.kids) (e : ∀ N, nxS N ρ s' = nxS N ρ s) :
    nxt ρ 5 (spl b ps i [s']) = nxt ρ 5 b := by
  have lw := al_way hb hw
  have ca := al_at hb hw
  obtain ⟨m, hm, hm3⟩ : ∃ m, 5 - ps.length = m + 1 ∧ 3 - ps.length ≤ m + 1 := ⟨4 - ps.length, by omega, by omega⟩
  have ca1 : Al (Ok1 ns) (m + 1) (atB b ps) := ca.mono hm3
  obtain ⟨o, kk⟩ := ca1 _ (List.mem_of_getElem? hi)
  have one : ∀ t : St, Ok1 ns t → t.kids = s.kids → Al (Ok1 ns) (m + 1) [t] := fun t ot et x hx => by
    rw [List.mem_singleton.mp hx]
    exact ⟨ot, fun y hy => kk y (by rw [← et]; exact hy)⟩
  have eb : nxt ρ 5 b = nxt ρ 5 (wpB b ps (oth (atB b ps) i [s])) := by rw [oth_self hi, wp_self hw]
  rw [eb]
  refine wp_congr (fun _ _ => rfl) (hb.mono (by decide)) hw ?_
  rw [hm, nxt_oth hv ca1 (one s' o' hk), nxt_oth hv ca1 (one s o rfl)]
  have key : nxt ρ (m + 1) [s'] = nxt ρ (m + 1) [s] := by
    show byP (1, 1) (nxS (nxt ρ m) ρ s') = byP (1, 1) (nxS (nxt ρ m) ρ s)
    rw [e]
  rw [key]
end FR
set_option Elab.async false
set_option linter.all false
set_option maxRecDepth 100000
set_option maxHeartbeats 1000000
/-! a drawn program with other weights at a place: a program, or one with a weight that is none -/
namespace FR
open PySem PySem.Spec PyProof.Rows L2 LD
theorem fm_of {s : St} (h : okS s = true) : fmS s = true := by
  match s, h with
  | .note _, h => exact h
  | .call _, h => exact h
  | .stay, _ => rfl
  | .again _ _ _, _ => rfl
  | .choose _, h => exact h
  | .toss rs, h =>
    have h : ((decide ((2 : Int) ≤ (rs.length : Nat)) && decide (((rs.length : Nat) : Int) ≤ 4)) && rs.all fun r => wtB r.1) = true := h
    rw [Bool.and_eq_true] at h
    exact h.1
theorem fm_putAt {s : St} {n : Nat} {k : Bd} (h : fmS s = true) : fmS (s.putAt n k) = true := by
  match s, h with
  | .note _, h => exact h
  | .call _, h => exact h
  | .stay, _ => rfl
  | .again _ _ _, _ => rfl
  | .choose bs, h =>
    show (decide ((2 : Int) ≤ ((bs.set n k).length : Nat)) && decide ((((bs.set n k).length : Nat) : Int) ≤ 3)) = true
    rw [List.length_set]
    exact h
  | .toss rs, h =>
    show (decide ((2 : Int) ≤ ((rs.set n ((rs.getD n (0, [])).1, k)).length : Nat)) && decide ((((rs.set n ((rs.getD n (0, [])).1, k)).length : Nat) : Int) ≤ 4)) = true
    rw [List.length_set]
    exact h
theorem al_wpA {A : St → Prop} (hA : ∀ s n k, A s → n < s.kids.length → A (s.putAt n k)) {m : Nat} {k : Bd} (hk : Al A m k) : ∀ {ps : List (Nat × Nat)} {n : Nat} {b : Bd}, Al A n b → InB b ps → m + ps.length ≤ n → Al A n (wpB b ps k)
  | [], _, _, _, _, le => hk.mono le
  | x :: r, 0, _, h, _, _ => h.elim
  | x :: r, n + 1, b, h, ⟨h1, h2, h3⟩, le => by
    have hs := h _ (List.mem_of_getElem? (get_lt .stay h1))
    have ih := al_wpA hA hk (hs.2 _ (List.mem_of_getElem? (get_lt [] h2))) h3 (by rw [List.length_cons] at le; omega)
    intro s hs'
    rcases List.mem_or_eq_of_mem_set hs' with mm | e
    · exact h s mm
    · rw [e]
      refine ⟨hA _ _ _ hs.1 h2, fun k' hk' => ?_⟩
      rw [kids_putAt h2] at hk'
      rcases List.mem_or_eq_of_mem_set hk' with mm | e
      · exact hs.2 k' mm
      · rw [e]; exact ih
theorem al_fmB : ∀ {n : Nat} {b : Bd}, Al (fun s => fmS s = true) n b → fmB n b
  | n + 1, b, h => fun s hs => ⟨(h s hs).1, fun k hk => al_fmB ((h s hs).2 k hk)⟩
theorem ok_fmB : ∀ {n : Nat} {b : Bd}, okB n b → fmB n b
  | 0, _, _ => trivial
  | n + 1, b, h => fun s hs => ⟨fm_of (h s hs).1, fun k hk => ok_fmB ((h s hs).2 k hk)⟩
theorem any_false {α : Type} {f : α → Bool} {l : List α} {x : α} (h : x ∈ l) (e : f x = false) : l.all f = false := by
  cases q : l.all f with
  | false => rfl
  | true => rw [List.all_eq_true.mp q x h] at e; cases e
/-- what is wrong at a place is wrong in the whole -/
theorem okC_wp : ∀ {ps : List (Nat × Nat)} {n : Nat} {b k : Bd}, InB b ps → ps.length ≤ n → okC (n - ps.length) k = false → okC n (wpB b ps k) = false
  | [], _, _, _, _, _, h => h
  | x :: r, 0, _, _, _, le, _ => absurd le (Nat.not_succ_le_zero _)
  | x :: r, n + 1, b, k, ⟨h1, h2, h3⟩, le, h => by
    rw [List.length_cons] at le
    rw [List.length_cons, Nat.add_sub_add_right] at h
    have ih := okC_wp h3 (show r.length ≤ n by omega) h
    refine any_false (x := (b.getD x.1 .stay).putAt x.2 (wpB ((b.getD x.1 .stay).kids.getD x.2 []) r k)) (List.mem_of_getElem? (i := x.1) (by show (b.set x.1 _)[x.1]? = _; rw [List.getElem?_set_self h1])) ?_
    show (okS _ && ((b.getD x.1 .stay).putAt x.2 (wpB ((b.getD x.1 .stay).kids.getD x.2 []) r k)).kids.all (okC n)) = false
    rw [kids_putAt h2, any_false (x := wpB ((b.getD x.1 .stay).kids.getD x.2 []) r k) (List.mem_of_getElem? (i := x.2) (by rw [List.getElem?_set_self h2])) ih, Bool.and_false]
section
variable {es : List Str} {p : Pg} {z : Str} {ps : List (Nat × Nat)} {i : Nat} {s s' : St}
theorem set_mem {nb : Bd} (hz : z ∈ names p) : names (setP p z nb) = names p ∧ (∀ x ∈ setP p z nb, (x = (z, nb)) ∨ x ∈ p) ∧ (z, nb) ∈ setP p z nb := by
  refine ⟨by rw [setP_names, if_pos hz], fun x hx => ?_, ?_⟩
  · rw [setP_in hz] at hx
    obtain ⟨y, hy, rfl⟩ := List.mem_map.mp hx
    by_cases e : y.1 = z
    · rw [if_pos e]; exact .inl rfl
    · rw [if_neg e]; exact .inr hy
  · rw [setP_in hz]
    obtain ⟨y, hy, e⟩ := List.mem_map.mp (show z ∈ p.map (·.1) from hz)
    exact List.mem_map.mpr ⟨y, hy, by rw [if_pos e]⟩
/-- another body with no more statements -/
theorem prg_set (D : Drawn es p) (l4 : p.length ≤ 5) (hz : z ∈ names p) {nb : Bd} (nal : Al (Ok1 (names p)) 5 nb) (nc : cnt 5 nb ≤ 10) : Prg (setP p z nb) := by
  have P0 := D.prg
  obtain ⟨en, mem, _⟩ := set_mem (nb := nb) hz
  refine ⟨by have : (setP p z nb).length = p.length := by rw [setP_in hz, List.length_map]
             rw [this]; exact P0.len, fun x hx => ?_, ?_, fun x hx y hy => ?_⟩
  · rcases mem x hx with rfl | h
    · exact ⟨D.nmB z hz, al_okB nal, Nat.le_trans nc (by decide), al_few nal⟩
    · exact P0.ok x h
  · rw [setP_in hz, List.map_map]
    have e : (p.map ((fun x : Str × Bd => (placed 5 x.2 []).length) ∘ fun x => if x.1 = z then (z, nb) else x)) = p.map fun x => if x.1 = z then cnt 5 nb else cnt 5 x.2 := List.map_congr_left fun x _ => by
      show (placed 5 (if x.1 = z then (z, nb) else x).2 []).length = _
      rw [placed_len]
      split <;> rfl
    rw [e]
    have le := sum_le (f := fun x : Str × Bd => if x.1 = z then cnt 5 nb else cnt 5 x.2) (g := fun _ => 10) (l := p) fun y hy => by
      show (if y.1 = z then cnt 5 nb else cnt 5 y.2) ≤ 10
      split
      · exact nc
      · exact D.sz y hy
    have e2 : ∀ l : Pg, (l.map fun _ => 10).sum = 10 * l.length := fun l => by
      induction l with
      | nil => rfl
      | cons y l ih => rw [List.map_cons, List.sum_cons, List.length_cons, ih]; omega
    rw [e2] at le
    omega
  · show y ∈ names (setP p z nb)
    rw [en]
    rcases mem x hx with rfl | h
    · exact al_calls nal y hy
    · exact P0.cl x h y hy
/-- the new body -/
theorem al_same (D : Drawn es p) (hz : z ∈ names p) (inb : InB (bodyOf p z) ps) (hi : (atB (bodyOf p z) ps)[i]? = some s) (o' : Ok1 (names p) s') (hk : s'.kids = s.kids) : Al (Ok1 (names p)) 3 (spl (bodyOf p z) ps i [s']) ∧ Al (Ok1 (names p)) (5 - ps.length) [s'] := by
  have al := D.al hz
  have lw := al_way al inb
  obtain ⟨m, hm⟩ : ∃ m, 3 - ps.length = m + 1 := ⟨2 - ps.length, by omega⟩
  have ala := al_at al inb
  have one : Al (Ok1 (names p)) (3 - ps.length) [s'] := by
    rw [hm] at ala ⊢
    exact fun x hx => by
      rw [List.mem_singleton.mp hx]
      exact ⟨o', fun y hy => (ala _ (List.mem_of_getElem? hi)).2 y (by rw [← hk]; exact hy)⟩
  exact ⟨al_wp (al_oth ala one) al inb (by omega), one.mono (by omega)⟩
theorem prg_same (D : Drawn es p) (l4 : p.length ≤ 5) (hz : z ∈ names p) (inb : InB (bodyOf p z) ps) (hi : (atB (bodyOf p z) ps)[i]? = some s) (o' : Ok1 (names p) s') (hk : s'.kids = s.kids) : Prg (setP p z (spl (bodyOf p z) ps i [s'])) ∧ cnt 5 (spl (bodyOf p z) ps i [s']) ≤ 10 := by
  have lw := al_way (D.al hz) inb
  have c : cnt 5 (spl (bodyOf p z) ps i [s']) ≤ 10 := by
    rw [cnt_same inb (by omega) hi hk]
    exact D.c10 hz
  exact ⟨prg_set D l4 hz ((al_same D hz inb hi o' hk).1.mono (by decide)) c, c⟩
/-- with a weight that is none -/
theorem prgX_same (D : Drawn es p) (l4 : p.length ≤ 5) (hz : z ∈ names p) (inb : InB (bodyOf p z) ps) (hi : (atB (bodyOf p z) ps)[i]? = some s) (fm : fmS s' = true) (bad : okS s' = false) (hk : s'.kids = s.kids) : PrgX (setP p z (spl (bodyOf p z) ps i [s'])) := by
  have P0 := D.prg
  obtain ⟨en, mem, isin⟩ := set_mem (nb := spl (bodyOf p z) ps i [s']) hz
  have al := (D.al hz).imp fun s (o : Ok1 (names p) s) => fm_of o.1
  have lw := al_way al inb
  obtain ⟨m, hm⟩ : ∃ m, 3 - ps.length = m + 1 := ⟨2 - ps.length, by omega⟩
  have ala := al_at al inb
  have one : Al (fun s => fmS s = true) (3 - ps.length) [s'] := by
    rw [hm] at ala ⊢
    exact fun x hx => by
      rw [List.mem_singleton.mp hx]
      exact ⟨fm, fun y hy => (ala _ (List.mem_of_getElem? hi)).2 y (by rw [← hk]; exact hy)⟩
  have nal : Al (fun s => fmS s = true) 3 (spl (bodyOf p z) ps i [s']) := al_wpA (fun s n k h _ => fm_putAt h) (al_oth ala one) al inb (by omega)
  have nc : cnt 5 (spl (bodyOf p z) ps i [s']) ≤ 10 := by
    rw [cnt_same inb (by omega) hi hk]
    exact D.c10 hz
  refine ⟨by have : (setP p z (spl (bodyOf p z) ps i [s'])).length = p.length := by rw [setP_in hz, List.length_map]
             rw [this]; exact P0.len, fun x hx => ?_, any_false isin ?_⟩
  · rcases mem x hx with rfl | h
    · exact ⟨D.nmB z hz, al_fmB (nal.mono (by decide)), Nat.le_trans nc (by decide)⟩
    · exact ⟨(P0.ok x h).1, ok_fmB (P0.ok x h).2.1, (P0.ok x h).2.2.1⟩
  · refine okC_wp inb (by omega) ?_
    obtain ⟨k, hk5⟩ : ∃ k, 5 - ps.length = k + 1 := ⟨4 - ps.length, by omega⟩
    rw [hk5]
    refine any_false (x := s') ?_ (by rw [bad]; rfl)
    exact List.mem_append.mpr (.inl (List.mem_append.mpr (.inr (List.mem_singleton.mpr rfl))))
theorem setP_setP {nb nb' : Bd} (hz : z ∈ names p) : setP (setP p z nb) z nb' = setP p z nb' := by
  have e1 : z ∈ names (setP p z nb) := by rw [(set_mem hz).1]; exact hz
  rw [setP_in e1, setP_in hz, setP_in hz, List.map_map]
  refine List.map_congr_left fun x _ => ?_
  show (if (if x.1 = z then (z, nb) else x).1 = z then (z, nb') else (if x.1 = z then (z, nb) else x)) = if x.1 = z then (z, nb') else x
  by_cases e : x.1 = z
  · rw [if_pos e, if_pos e, if_pos rfl]
  · rw [if_neg e, if_neg e]
end
end FR
set_option Elab.async false
set_option pp.maxSteps 1500
set_option linter.all false
set_option maxRecDepth 100000
set_option maxHeartbeats 1000000
/-! scaled, lowered -/
namespace FR
open PySem PySem.Spec PyProof.Rows L2
abbrev sSca : Stmt := FR.top 43
abbrev NSca : List Str := ["free", "place", "many", "statement", "weights", "weight"]
theorem scSca : FnScope NSca ["free", "place", "many"] (defScope sSca) := ⟨rfl, rfl, rfl, by decide +kernel, rfl, by decide +kernel, by decide +kernel⟩
abbrev sLow : Stmt := FR.top 44
abbrev NLow : List Str := ["free", "place", "statement", "divisor", "weight", "weights"]
theorem scLow : FnScope NLow ["free", "place"] (defScope sLow) := ⟨rfl, rfl, rfl, by decide +kernel, rfl, by decide +kernel, by decide +kernel⟩
theorem pl_walk {K : PySem.W.Frag} {C : Addr} {H : Hp} {x pl : Addr} {p : Pg} {z : Str} {ps : List (Nat × Nat)} {i : Nat} {ns : List Str} {s : St} {n : Nat} (h : PlS K C H x pl p z ps i) (al : Al (Ok1 ns) n (bodyOf p z)) (inb : InB (bodyOf p z) ps) (hs : (atB (bodyOf p z) ps)[i]? = some s) : PlW K C H x pl (.inr s) (flat ps ++ [i]) := by
  obtain ⟨pa, h1, h2, h3, h4, h5⟩ := h
  exact ⟨p, z, pa, h1, h2, h3, h4, h5, walk_st ok1_few al inb hs⟩
theorem odd_len (ps : List (Nat × Nat)) (i : Nat) : (flat ps ++ [i]).length % 2 = 1 := by
  rw [List.length_append, flat_len]
  show (2 * ps.length + 1) % 2 = 1
  omega
theorem wts_len {s : St} (h : okS s = true) : s.wts.length ≤ 4 := by
  match s, h with
  | .note _, _ => exact Nat.zero_le _
  | .call _, _ => exact Nat.zero_le _
  | .stay, _ => exact Nat.zero_le _
  | .choose _, _ => exact Nat.zero_le _
  | .again _ _ _, _ => exact (by decide : 2 ≤ 4)
  | .toss rs, h =>
    obtain ⟨_, a, _⟩ := toss_of h
    show (rs.map _).length ≤ 4
    rw [List.length_map]
    exact a
theorem wty_in {s : St} (h : s.wty) : s.word ∈ (["toss", "again"] : List Str) := by
  rcases h with e | e
  · rw [e]; exact List.mem_cons_self
  · rw [e]; exact List.mem_cons_of_mem _ List.mem_cons_self
theorem gcdW_snoc (l : List Int) (i : Int) : gcdW (l ++ [i]) = gcd2 (gcdW l) i := by
  unfold gcdW
  rw [List.foldl_append]
  rfl
section
variable {P : Program} {w : World} {K : PySem.W.Frag} {mg : Str → Option Value} {base : Heap}
/-- a statement with weights at a place of a program -/
structure AtW (K : PySem.W.Frag) (C : Addr) (H : Hp) (x pl : Addr) (p : Pg) (z : Str) (ps : List (Nat × Nat)) (i : Nat) (s : St) : Prop where
  pl : PlS K C H x pl p z ps i
  len : p.length ≤ 8
  al : Al (Ok1 (names p)) 5 (bodyOf p z)
  c60 : cnt 5 (bodyOf p z) ≤ 60
  inb : InB (bodyOf p z) ps
  hi : (atB (bodyOf p z) ps)[i]? = some s
  ty : s.wty
theorem AtW.same {C : Addr} {H H' : Hp} {x pl : Addr} {p : Pg} {z : Str} {ps : List (Nat × Nat)} {i : Nat} {s : St} (h : AtW K C H x pl p z ps i s) (sm : Same H H') : AtW K C H' x pl p z ps i s := ⟨h.pl.same sm, h.len, h.al, h.c60, h.inb, h.hi, h.ty⟩
theorem AtW.ok {C : Addr} {H : Hp} {x pl : Addr} {p : Pg} {z : Str} {ps : List (Nat × Nat)} {i : Nat} {s : St} (h : AtW K C H x pl p z ps i s) : Ok1 (names p) s ∧ ∀ k ∈ s.kids, Al (fun _ => True) (4 - ps.length) k := by
  have lw := al_way h.al h.inb
  have ala := al_at h.al h.inb
  obtain ⟨m, hm⟩ : ∃ m, 5 - ps.length = m + 1 := ⟨4 - ps.length, by omega⟩
  rw [hm] at ala
  obtain ⟨o, k⟩ := ala _ (List.mem_of_getElem? h.hi)
  have e : 4 - ps.length = m := by omega
  rw [e]
  exact ⟨o, fun y hy => (k y hy).imp fun _ _ => trivial⟩
/-- the statement in a tuple of its own, as a body -/
theorem AtW.one {C : Addr} {H H' : Hp} {x pl : Addr} {p : Pg} {z : Str} {ps : List (Nat × Nat)} {i : Nat} {s : St} (h : AtW K C H x pl p z ps i s) {g : Int → Int} {u : V} {t : Addr} (hu : StAt 5 H' u (s.mapW g)) (ht : H' t = some (.tup [u])) : BdAt (5 - ps.length) H' (.ref t) [s.mapW g] := by
  have lw := al_way h.al h.inb
  obtain ⟨m, hm⟩ : ∃ m, 5 - ps.length = m + 1 := ⟨4 - ps.length, by omega⟩
  have al : Al (fun _ => True) (5 - ps.length) [s.mapW g] := by
    rw [hm]
    intro y hy
    rw [List.mem_singleton.mp hy, mapW_kids]
    have e : 4 - ps.length = m := by omega
    exact ⟨trivial, by rw [← e]; exact h.ok.2⟩
  exact bd_low (m := 6) al ⟨t, [u], rfl, ht, AG.snoc AG.nil hu⟩
def spSca (K : PySem.W.Frag) (C CO : Addr) : Sp := fun vs H Q E => ∃ x pl p z ps i s m, vs = [.ref x, .ref pl, .int m] ∧ AtW K C H x pl p z ps i s ∧ 1 ≤ m ∧ m ≤ 99 ∧
  ((Prg (setP p z (spl (bodyOf p z) ps i [s.mapW (mulW m)])) ∧ NewQ K C H (setP p z (spl (bodyOf p z) ps i [s.mapW (mulW m)])) Q) ∨ (PrgX (setP p z (spl (bodyOf p z) ps i [s.mapW (mulW m)])) ∧ ∀ H', Same H H' → E (.ref CO) none H'))
def spLow (K : PySem.W.Frag) (C : Addr) : Sp := fun vs H Q _ => ∃ x pl p z ps i s, vs = [.ref x, .ref pl] ∧ AtW K C H x pl p z ps i s ∧
  Prg (setP p z (spl (bodyOf p z) ps i [s.mapW (divW (gcdW s.wts))])) ∧ NewQ K C H (setP p z (spl (bodyOf p z) ps i [s.mapW (divW (gcdW s.wts))])) Q
theorem ok_sca {f C CO : Addr} {fd : FuncData} (F : Fun K "scaled" "scaled" sSca f fd) {t99 : Tok} (mM : mg "MAX_WEIGHT" = some (.int 99 t99)) (gB : Glo P w K mg base "is_between" 2 ["value", "least", "greatest"] spBetX) (gSa : Glo P w K mg base "statement_at" 7 ["free", "place", "words"] (spSa K C)) (gWo : Glo P w K mg base "weights_of" 1 ["statement"] (spWo K 5)) (gWw : ∀ g, Glo P w K mg base "with_weights" 1 ["statement", "weights"] (spWw 5 g))
    (gPr : GloX P w K mg base "_program_with" 17 ["free", "place", "many", "statements"] (spPrwX K C fun vs H Q E => spOf K C vs H Q E ∨ spOfX CO vs H Q E)) : FnOk P w K mg base (L2.CX P w) 18 f fd ["free", "place", "many"] (spSca K C CO) := by
  refine F.okX scSca (fun vs H Q E h => ?_) (fun cdv A outer s H vs Q E hr h => ?_)
  · obtain ⟨x, pl, p, z, ps, i, s, m, rfl, _⟩ := h
    rfl
  · obtain ⟨x, pl, p, z, ps, i, s', m, rfl, ha, m1, m9, q⟩ := h
    obtain ⟨_, _, nd0, _⟩ := id ha.pl
    refine ⟨_, (pss_cons (ps_set (i := 3) scSca.nd rfl (Or.inl rfl) (pe_call gSa.G (hr.mono (by decide)) (by rfl) gSa.m gSa.k gSa.b .nil pass0 (pa_cons (pv 0) (pa_cons (pv 1) (pa_cons (pe_tup (pa_cons pe_str (pa_cons pe_str pa_nil))) pa_nil)))))
      (pss_cons (ps_if (pt_not (pt_val (pe_call gB.G (hr.mono (by decide)) (by rfl) gB.m gB.k gB.b .nil pass0 (pa_cons (pv 2) (pa_cons pe_int (pa_cons (pe_glob (v := .int 99) (by rfl) mM ⟨t99, rfl⟩) pa_nil)))))) pss_never pss_nil)
      (pss_cons (ps_setLc (i := 4) (X := (cxOf (L2.CX P w) P w K mg base NSca "scaled" (defScope sSca) f cdv A outer s H E)) (own := [("weight", 5)]) (g := (gName 5)) (tt := tYes) rfl scSca.nd rfl rfl (sw_true rfl rfl rfl (by decide +kernel)) (pi_tup (pe_call gWo.G (hr.mono (by decide)) (by rfl) gWo.m gWo.k gWo.b .nil pass0 (pa_cons (pv 3) pa_nil))) (blkOk_by (N := NSca) (sc := defScope sSca) (by decide +kernel)) (fun _ _ _ _ _ => (pg_name (i := 5) scSca.nd rfl (.inl rfl))) (fun _ _ _ _ _ => pts_nil) (fun _ _ _ _ _ => (pe_op op_mul (pv 5) (pv 2))))
      (pss_one (ps_ret (pe_call gPr.G (hr.mono (by decide)) (by rfl) gPr.m gPr.k gPr.b .nil (passes_call (takes_of rfl rfl rfl rfl) (fun _ _ _ _ h => h)) (pa_cons (pv 0) (pa_cons (pv 1) (pa_cons pe_int (pa_cons (pe_tup (pa_cons (pe_call (gWw (mulW m)).G (hr.mono (by decide)) (by rfl) (gWw (mulW m)).m (gWw (mulW m)).k (gWw (mulW m)).b .nil pass0 (pa_cons (pv 3) (pa_cons (pv 4) pa_nil))) pa_nil)) pa_nil)))))))))), ?_⟩
    refine ⟨_, rfl, _, rfl, small1000 (Nat.le_of_ble_eq_true rfl), fun wa hwa => ?_⟩
    have s1 := same_new (o := .tup [V.str "toss", V.str "again"]) hwa
    have hw1 : upd H wa (.tup [V.str "toss", V.str "again"]) wa = some (.tup ((["toss", "again"] : List Str).map V.str)) := upd_same
    generalize upd H wa (.tup [V.str "toss", V.str "again"]) = H1 at s1 hw1 ⊢
    have a1 := ha.same s1
    refine ⟨x, pl, wa, s', _, ["toss", "again"], rfl, pl_walk a1.pl a1.al a1.inb a1.hi, odd_len ps i, hw1, wty_in ha.ty, fun u H2 s2 st => ?_⟩
    have s12 := s1.trans s2
    refine ⟨_, rfl, _, 1, 99, rfl, _, rfl, ?_⟩
    have c1 : (decide ((1 : Int) ≤ m) && decide (m ≤ 99)) = true := by rw [decide_eq_true m1, decide_eq_true m9]; rfl
    rw [c1]
    refine iteF ?_
    have few : s'.kids.length ≤ 90 := by have := ok_few ha.ok.1.1; omega
    refine ⟨_, rfl, u, s', rfl, st, few, fun wt H3 s3 hwt => ?_⟩
    refine ⟨wt, rfl, ⟨_, hwt⟩, fun D hD => ?_⟩
    have wb := (wty_wts ha.ty ha.ok.1.1).2
    have lw : s'.wts.length ≤ 90 := by
      have : s'.wts.length ≤ 4 := wts_len ha.ok.1.1
      omega
    refine lc_it (walk_tup (K := K) (a := wt) (xs := s'.wts.map V.int)) (fun j Hc => Same H3 Hc ∧ Hc D = some (.lst (((s'.wts.map (mulW m)).take j).map V.int))) ⟨same_new hD, upd_same⟩ (fun j Hc _ p => (Tk.same p.1).seqT hwt) ?_ ?_
    · rintro j v Hc H' hj ⟨sm, hDc⟩ ⟨rfl, hv⟩
      rw [List.getElem?_map] at hv
      rw [List.length_map] at hj
      rw [List.getElem?_eq_getElem hj] at hv
      have ev : V.int s'.wts[j] = v := Option.some.inj hv
      subst ev
      have b1 := wb _ (List.getElem_mem hj)
      refine ⟨rfl, _, rfl, _, rfl, _, _, rfl, rfl, .inl ⟨by omega, by omega⟩, ?_⟩
      refine ⟨_, hDc, small1000 (by rw [List.length_map, List.length_take, List.length_map]; omega), same_upd hD sm, ?_⟩
      have e : (s'.wts.map (mulW m))[j]? = some (s'.wts[j] * m) := by rw [List.getElem?_map, List.getElem?_eq_getElem hj]; rfl
      rw [take_snoc e, List.map_append]
      exact upd_same
    · rintro Hc ⟨sm, hDc⟩
      rw [List.take_of_length_le (by rw [List.length_map, List.length_map]; exact Nat.le_refl _)] at hDc
      have s24 := s3.trans sm
      have s04 := s12.trans s24
      refine ⟨_, rfl, _, rfl, _, rfl, _, rfl, u, s', D, rfl, st.same s24, ha.ty, few, hDc, fun y H5 s5 hy => ?_⟩
      refine ⟨small1000 (Nat.le_of_ble_eq_true rfl), fun t6 ht6 => ?_⟩
      have s6 := same_new (o := .tup [y]) ht6
      have h6 : upd H5 t6 (.tup [y]) t6 = some (.tup [y]) := upd_same
      have hy6 := hy.same s6
      generalize upd H5 t6 (.tup [y]) = H6 at s6 h6 hy6 ⊢
      have s06 := s04.trans (s5.trans s6)
      refine ⟨x, pl, _, p, z, ps, i, _, rfl, ha.pl.same s06, ha.len, ha.al, ha.c60, ha.inb, ha.one hy6 h6, by show 1 ≤ 300; decide, fun t kvs H7 s7 ht7 hk7 => ?_⟩
      rcases q with ⟨prg, q⟩ | ⟨prg, q⟩
      · exact .inl ⟨t, kvs, _, rfl, ht7, hk7, prg, setP_nodup nd0, fun q' y H8 e1 e2 e3 e4 e5 _ => q q' y H8 e1 e2 (none_of_same (s06.trans s7) e3) ((s06.trans s7).trans e4) e5⟩
      · exact .inr ⟨t, kvs, _, rfl, ht7, hk7, prg, fun H8 s8 => q H8 ((s06.trans s7).trans s8)⟩
theorem ok_low {f C : Addr} {fd : FuncData} (F : Fun K "lowered" "lowered" sLow f fd) (mG : mg "gcd" = some (.builtin "math.gcd")) (gSa : Glo P w K mg base "statement_at" 7 ["free", "place", "words"] (spSa K C)) (gWo : Glo P w K mg base "weights_of" 1 ["statement"] (spWo K 5)) (gWw : ∀ g, Glo P w K mg base "with_weights" 1 ["statement", "weights"] (spWw 5 g))
    (gPr : Glo P w K mg base "_program_with" 17 ["free", "place", "many", "statements"] (spPrw K C)) : FnOk P w K mg base CX0 18 f fd ["free", "place"] (spLow K C) := by
  refine F.ok scLow (fun vs H Q E h => ?_) (fun cdv A outer s H vs Q E hr h => ?_)
  · obtain ⟨x, pl, p, z, ps, i, s, rfl, _⟩ := h
    rfl
  · obtain ⟨x, pl, p, z, ps, i, s', rfl, ha, prg, q⟩ := h
    refine ⟨_, (pss_cons (ps_set (i := 2) scLow.nd rfl (Or.inl rfl) (pe_call gSa.G (hr.mono (by decide)) (by rfl) gSa.m gSa.k gSa.b .nil pass0 (pa_cons (pv 0) (pa_cons (pv 1) (pa_cons (pe_tup (pa_cons pe_str (pa_cons pe_str pa_nil))) pa_nil)))))
      (pss_cons (ps_set (i := 3) scLow.nd rfl (Or.inr rfl) pe_int)
      (pss_cons (ps_for PassesOwn.never rfl (pi_tup (pe_call gWo.G (hr.mono (by decide)) (by rfl) gWo.m gWo.k gWo.b .nil pass0 (pa_cons (pv 2) pa_nil))) (pg_name (i := 4) scLow.nd rfl (.inl rfl)) (pss_one (ps_set (i := 3) scLow.nd rfl (Or.inr rfl) (pe_callBfun cr_gcd (by rfl) mG (pa_cons (pv 3) (pa_cons (pv 4) pa_nil))))))
      (pss_cons (ps_setLc (i := 5) (X := (cxOf CX0 P w K mg base NLow "lowered" (defScope sLow) f cdv A outer s H E).nox) (own := [("weight", 4)]) (g := (gName 4)) (tt := tYes) rfl scLow.nd rfl rfl (sw_true rfl rfl rfl (by decide +kernel)) (pi_tup (pe_call gWo.G (hr.mono (by decide)) (by rfl) gWo.m gWo.k gWo.b .nil pass0 (pa_cons (pv 2) pa_nil))) (blkOk_by (N := NLow) (sc := defScope sLow) (by decide +kernel)) (fun _ _ _ _ _ => (pg_name (i := 4) scLow.nd rfl (.inl rfl))) (fun _ _ _ _ _ => pts_nil) (fun _ _ _ _ _ => (pe_op op_fdivN (pv 4) (pv 3))))
      (pss_one (ps_ret (pe_call gPr.G (hr.mono (by decide)) (by rfl) gPr.m gPr.k gPr.b .nil pass0 (pa_cons (pv 0) (pa_cons (pv 1) (pa_cons pe_int (pa_cons (pe_tup (pa_cons (pe_call (gWw (divW (gcdW s'.wts))).G (hr.mono (by decide)) (by rfl) (gWw (divW (gcdW s'.wts))).m (gWw (divW (gcdW s'.wts))).k (gWw (divW (gcdW s'.wts))).b .nil pass0 (pa_cons (pv 2) (pa_cons (pv 5) pa_nil))) pa_nil)) pa_nil))))))))))), ?_⟩
    refine ⟨_, rfl, _, rfl, small1000 (Nat.le_of_ble_eq_true rfl), fun wa hwa => ?_⟩
    have s1 := same_new (o := .tup [V.str "toss", V.str "again"]) hwa
    have hw1 : upd H wa (.tup [V.str "toss", V.str "again"]) wa = some (.tup ((["toss", "again"] : List Str).map V.str)) := upd_same
    generalize upd H wa (.tup [V.str "toss", V.str "again"]) = H1 at s1 hw1 ⊢
    have a1 := ha.same s1
    refine ⟨x, pl, wa, s', _, ["toss", "again"], rfl, pl_walk a1.pl a1.al a1.inb a1.hi, odd_len ps i, hw1, wty_in ha.ty, fun u H2 s2 st => ?_⟩
    have s12 := s1.trans s2
    have few : s'.kids.length ≤ 90 := by have := ok_few ha.ok.1.1; omega
    obtain ⟨nw, wb⟩ := wty_wts ha.ty ha.ok.1.1
    have lw : s'.wts.length ≤ 90 := by
      have : s'.wts.length ≤ 4 := wts_len ha.ok.1.1
      omega
    refine ⟨_, rfl, u, s', rfl, st, few, fun wt H3 s3 hwt => ?_⟩
    refine ⟨wt, rfl, ⟨_, hwt⟩, ?_⟩
    refine for_it (walk_tup (K := K) (a := wt) (xs := s'.wts.map V.int)) (fun j σ Hc => Same H3 Hc ∧ ∃ x4 : Option V, σ = [some (.ref x), some (.ref pl), some u, some (.int (gcdW (s'.wts.take j))), x4, none]) ⟨Same.refl H3, none, rfl⟩ (fun j σ Hc _ p => (Tk.same p.1).seqT hwt) ?_ ?_
    · rintro j v Hc σ H' hj ⟨sm, x4, rfl⟩ ⟨rfl, hv⟩
      rw [List.getElem?_map] at hv
      rw [List.length_map] at hj
      rw [List.getElem?_eq_getElem hj] at hv
      have ev : V.int s'.wts[j] = v := Option.some.inj hv
      subst ev
      refine ⟨_, rfl, _, rfl, _, _, rfl, ?_⟩
      refine ⟨sm, some (.int s'.wts[j]), ?_⟩
      rw [take_snoc (List.getElem?_eq_getElem hj), gcdW_snoc]
      rfl
    · rintro σ Hc ⟨sm, x4, rfl⟩
      rw [List.length_map, List.take_length]
      have hg := gcdW_pos nw fun i hi => (wb i hi).1
      obtain ⟨i0, hi0⟩ := List.exists_mem_of_ne_nil _ nw
      have hg9 : gcdW s'.wts ≤ 99 := Int.le_trans (gcdW_le hi0 fun i hi => (wb i hi).1) (wb i0 hi0).2
      have st3 := (st.same s3).same sm
      have s03 := (s12.trans s3).trans sm
      clear hwt
      refine ⟨_, rfl, u, s', rfl, st3, few, fun wt2 H4 s4 hwt => ?_⟩
      refine ⟨wt2, rfl, ⟨_, hwt⟩, fun D hD => ?_⟩
      refine lc_it (walk_tup (K := K) (a := wt2) (xs := s'.wts.map V.int)) (fun j Hc => Same H4 Hc ∧ Hc D = some (.lst (((s'.wts.map (divW (gcdW s'.wts))).take j).map V.int))) ⟨same_new hD, upd_same⟩ (fun j Hc _ p => (Tk.same p.1).seqT hwt) ?_ ?_
      · rintro j v Hc H' hj ⟨sm, hDc⟩ ⟨rfl, hv⟩
        rw [List.getElem?_map] at hv
        rw [List.length_map] at hj
        rw [List.getElem?_eq_getElem hj] at hv
        have ev : V.int s'.wts[j] = v := Option.some.inj hv
        subst ev
        refine ⟨rfl, _, rfl, _, rfl, _, _, rfl, rfl, ⟨by omega, by omega⟩, ?_⟩
        refine ⟨_, hDc, small1000 (by rw [List.length_map, List.length_take, List.length_map]; omega), same_upd hD sm, ?_⟩
        have e : (s'.wts.map (divW (gcdW s'.wts)))[j]? = some (s'.wts[j].fdiv (gcdW s'.wts)) := by rw [List.getElem?_map, List.getElem?_eq_getElem hj]; rfl
        rw [take_snoc e, List.map_append]
        exact upd_same
      · rintro Hx ⟨sx, hDc⟩
        rw [List.take_of_length_le (by rw [List.length_map, List.length_map]; exact Nat.le_refl _)] at hDc
        have s24 := s4.trans sx
        have s04 := s03.trans s24
        refine ⟨_, rfl, _, rfl, _, rfl, _, rfl, u, s', D, rfl, st3.same s24, ha.ty, few, hDc, fun y H5 s5 hy => ?_⟩
        refine ⟨small1000 (Nat.le_of_ble_eq_true rfl), fun t6 ht6 => ?_⟩
        have s6 := same_new (o := .tup [y]) ht6
        have h6 : upd H5 t6 (.tup [y]) t6 = some (.tup [y]) := upd_same
        have hy6 := hy.same s6
        generalize upd H5 t6 (.tup [y]) = H6 at s6 h6 hy6 ⊢
        have s06 := s04.trans (s5.trans s6)
        exact ⟨x, pl, _, p, z, ps, i, _, rfl, ha.pl.same s06, ha.len, ha.al, ha.c60, ha.inb, ha.one hy6 h6, by show 1 ≤ 300; decide, prg, q.back s06⟩
end
end FR
set_option Elab.async false
set_option pp.maxSteps 1500
set_option linter.all false
set_option maxRecDepth 100000
set_option maxHeartbeats 1000000
/-! _law_walk -/
namespace FR
open PySem PySem.Spec PyProof.Rows L2
abbrev sWk : Stmt := FR.top 64
abbrev NWk : List Str := ["_law_body_here", "_law_ahead", "_law_found", "_law_at", "_law_statement_here", "_law_number", "_law_inner_here"]
theorem scWk : FnScope NWk ["_law_body_here", "_law_ahead"] (defScope sWk) := ⟨rfl, rfl, rfl, by decide +kernel, rfl, by decide +kernel, by decide +kernel⟩
/-- a place and the statement there, as they stand -/
def PlT (n : Nat) (H : Hp) (z : V) (y : PL1) : Prop := ∃ t a s, z = .ref t ∧ H t = some (.tup [.ref a, s]) ∧ H a = some (.tup (pI y.1)) ∧ StAt n H s y.2
theorem Kt.plT {n : Nat} {H H' : Hp} (k : Kt H H') {z : V} {y : PL1} (h : PlT n H z y) : PlT n H' z y := by
  obtain ⟨t, a, s, e, ht, ha, hs⟩ := h
  exact ⟨t, a, s, e, k.tup ht, k.tup ha, k.st hs⟩
theorem PlT.up {n : Nat} {H : Hp} {z : V} {y : PL1} (h : PlT n H z y) : PlT (n + 1) H z y := by
  obtain ⟨t, a, s, e, ht, ha, hs⟩ := h
  exact ⟨t, a, s, e, ht, ha, hs.up⟩
section
variable {P : Program} {w : World} {K : PySem.W.Frag} {mg : Str → Option Value} {base : Heap}
def spWk (n : Nat) : Sp := fun vs H Q _ => ∃ v pa b p, vs = [v, .ref pa] ∧ BdAt n H v b ∧ H pa = some (.tup (pI p)) ∧ FewB n b ∧ p.length + 2 * n ≤ 100 ∧ (placed n b p).length ≤ 900 ∧
  ∀ l zs H', H l = none → Same H H' → H' l = some (.lst zs) → AG (fun z y => PlT n H' z y) zs (placed n b p) → Q (.ref l) H'
theorem ok_wk {f : Addr} {fd : FuncData} {n k : Nat} (F : Fun K "_law_walk" "_law_walk" sWk f fd) (gI : Glo P w K mg base "_law_inner" 1 ["_law_statement_here"] (spLi n)) (GS : FnOk P w K mg base CX0 k f fd ["_law_body_here", "_law_ahead"] (spWk n)) (k1 : 1 ≤ k)
    (mS : mg "_law_walk" = some (.ref f)) (kS : PySem.W.keepIn K (.ref f) = true) (bS : Binds K fd ["_law_body_here", "_law_ahead"] []) (mEn : mg "enumerate" = none) : FnOk P w K mg base CX0 (k + 1) f fd ["_law_body_here", "_law_ahead"] (spWk (n + 1)) := by
  refine F.ok scWk (fun vs H Q E h => ?_) (fun cdv A outer s H vs Q E hr h => ?_)
  · obtain ⟨v, pa, b, p, rfl, _⟩ := h
    rfl
  · obtain ⟨v, pa, b, p, rfl, ⟨a, xs, rfl, ha, hx⟩, hp, few, lp, sz, q⟩ := h
    refine ⟨_, (pss_cons (ps_set (i := 2) scWk.nd rfl (Or.inl rfl) (pe_lst pa_nil))
      (pss_cons (ps_for PassesOwn.never rfl (pi_enumT (by rfl) mEn (pa_cons (pv 0) pa_nil)) (pg_tup (by rfl) (pgs_cons (pg_name (i := 3) scWk.nd rfl (.inl rfl)) (pgs_cons (pg_name (i := 4) scWk.nd rfl (.inl rfl)) pgs_nil))) (pss_cons (ps_expr (pe_bm PySem.F.plainAttrs_list PySem.F.slot_list_append PySem.F.type_list_append mt_append (pv 2) (pa_cons (pe_tup (pa_cons (pe_op op_catB (pv 1) (pe_tup (pa_cons (pv 3) pa_nil))) (pa_cons (pv 4) pa_nil))) pa_nil)))
      (pss_one (ps_for PassesOwn.never rfl (pi_enum (by rfl) mEn (pa_cons (pe_call gI.G (hr.mono k1) (by rfl) gI.m gI.k gI.b .nil pass0 (pa_cons (pv 4) pa_nil)) pa_nil)) (pg_tup (by rfl) (pgs_cons (pg_name (i := 5) scWk.nd rfl (.inl rfl)) (pgs_cons (pg_name (i := 6) scWk.nd rfl (.inl rfl)) pgs_nil))) (pss_one (ps_expr (pe_bm PySem.F.plainAttrs_list PySem.F.slot_list_extend PySem.F.type_list_extend mt_extend (pv 2) (pa_cons (pe_call GS hr (by rfl) mS kS bS .nil pass0 (pa_cons (pv 6) (pa_cons (pe_op op_catB (pv 1) (pe_tup (pa_cons (pv 3) (pa_cons (pv 5) pa_nil)))) pa_nil))) pa_nil))))))))
      (pss_one (ps_ret (pv 2))))), ?_⟩
    refine ⟨Nat.zero_le _, fun fo hfo => ?_⟩
    have s0 := same_new (o := .lst []) hfo
    have h0 : upd H fo (.lst []) fo = some (.lst []) := upd_same
    generalize upd H fo (.lst []) = H0 at s0 h0 ⊢
    refine ⟨_, rfl, a, xs, rfl, SqT.of (s0 _ _ ha), ?_⟩
    have xl : xs.length = b.length := hx.1
    let ft : Nat → List PL1 := fun i => (b.zipIdx.take i).flatMap fun z => stP (placed n) z.1 (p ++ [z.2])
    refine for_it (walk_enumT (xs := xs)) (fun i σ Hc => Same H Hc ∧ ∃ (us : List V) (x3 x4 x5 x6 : Option V), σ = [some (.ref a), some (.ref pa), some (.ref fo), x3, x4, x5, x6] ∧ Hc fo = some (.lst us) ∧ AG (fun z y => PlT (n + 1) Hc z y) us (ft i))
      ⟨s0, [], _, _, _, _, rfl, h0, AG.nil⟩ (fun i σ Hc _ p' => SqT.of (p'.1 _ _ ha)) ?_ ?_
    · rintro i v σ Hc H' hi ⟨sm, us, x3, x4, x5, x6, rfl, hfc, hu⟩ ⟨T0, u1, u2, rfl, nT, rfl, h1, h2⟩
      have h1 : some (V.int (i : Nat)) = some u1 := h1
      cases h1
      have h2 : xs[i]? = some u2 := h2
      obtain ⟨st, hst, hs⟩ := hx.2 i u2 h2
      have il : i < b.length := (List.getElem?_eq_some_iff.mp hst).1
      obtain ⟨fk, fks⟩ := few st (List.mem_of_getElem? hst)
      have sT := same_new (o := .tup [V.int (i : Nat), u2]) nT
      have tt0 : upd Hc T0 (.tup [V.int (i : Nat), u2]) T0 = some (.tup [V.int (i : Nat), u2]) := upd_same
      refine ⟨T0, _, rfl, SqT.of tt0, rfl, _, _, rfl, _, _, rfl, rfl, ?_⟩
      have s1 := sm.trans sT
      have hf1 := sT _ _ hfc
      have k1' : Kt Hc (upd Hc T0 (.tup [V.int (i : Nat), u2])) := Kt.same sT
      generalize upd Hc T0 (.tup [V.int (i : Nat), u2]) = HA at s1 hf1 k1' ⊢
      -- the place
      refine ⟨_, rfl, .inl ⟨rfl, _, SqL.of hf1⟩, _, rfl, _, rfl, small1000 (Nat.le_of_ble_eq_true rfl), fun p1 hp1 => ?_⟩
      have s2 := same_new (o := .tup [V.int (i : Nat)]) hp1
      have hp1' : upd HA p1 (.tup [V.int (i : Nat)]) p1 = some (.tup [V.int (i : Nat)]) := upd_same
      generalize upd HA p1 (.tup [V.int (i : Nat)]) = HA2 at s2 hp1' ⊢
      refine ⟨pa, p1, _, _, rfl, rfl, s2 _ _ (s1 _ _ hp), hp1', by rw [List.length_map]; show _ + 1 ≤ _; omega, fun ac HB sB hac => ?_⟩
      have hac : HB ac = some (.tup (pI (p ++ [i]))) := by rw [hac, pI_snoc]
      have s3 := s2.trans sB
      have hf3 := s3 _ _ hf1
      refine ⟨_, rfl, small1000 (Nat.le_of_ble_eq_true rfl), fun t ht => ?_⟩
      have s4 := same_new (o := .tup [V.ref ac, u2]) ht
      have ht4 : upd HB t (.tup [V.ref ac, u2]) t = some (.tup [V.ref ac, u2]) := upd_same
      have hf4 := s4 _ _ hf3
      have s04 := (s1.trans s3).trans s4
      have kc4 := (k1'.trans (Kt.same s3)).trans (Kt.same s4)
      have hac4 := s4 _ _ hac
      generalize upd HB t (.tup [V.ref ac, u2]) = HC at ht4 hf4 s04 kc4 hac4 ⊢
      have total : (placed (n + 1) b p).length ≤ 900 := sz
      have hit : (ft (i + 1)).length ≤ 900 := Nat.le_trans (flat_take_le _ _) total
      have step : ft (i + 1) = ft i ++ stP (placed n) st (p ++ [i]) := flat_take (zip_get hst)
      have lft : us.length = (ft i).length := hu.1
      have lst_ : (ft i).length + 1 + (kidsP (placed n) st (p ++ [i])).length ≤ 900 := by
        rw [step, List.length_append] at hit
        unfold stP at hit
        rw [List.length_cons] at hit
        omega
      refine ⟨fo, us, _, rfl, rfl, hf4, small1000 (by omega), ?_⟩
      have kd := Kt.upd (o := .lst (us ++ [V.ref t])) hf4
      have hf5 : upd HC fo (.lst (us ++ [V.ref t])) fo = some (.lst (us ++ [V.ref t])) := upd_same
      have s05 : Same H (upd HC fo (.lst (us ++ [V.ref t]))) := same_upd hfo s04
      have kc5 := kc4.trans kd
      have hac5 := kd.tup hac4
      have hs5 := ((Kt.same sm).trans kc5).st hs
      have hu5 : AG (fun z y => PlT (n + 1) (upd HC fo (.lst (us ++ [V.ref t]))) z y) (us ++ [V.ref t]) (ft i ++ [(p ++ [i], st)]) := AG.snoc (hu.imp fun _ _ y => kc5.plT y) ⟨t, ac, u2, rfl, kd.tup ht4, hac5, hs5.up⟩
      generalize upd HC fo (.lst (us ++ [V.ref t])) = HD at hf5 s05 kc5 hac5 hs5 hu5 ⊢
      -- the bodies in it
      refine ⟨_, rfl, u2, st, rfl, hs5, fk, fun ka ks HE nka sE hka hks => ⟨ka, ks, rfl, SqL.of hka, ?_⟩⟩
      have kl : ks.length = st.kids.length := hks.1
      have nkf : ka ≠ fo := fun e => by rw [e, hf5] at nka; cases nka
      let fk_ : Nat → List PL1 := fun j => (st.kids.zipIdx.take j).flatMap fun z => placed n z.1 (p ++ [i] ++ [z.2])
      refine for_it (walk_enum (xs := ks)) (fun j σ Hx => Same H Hx ∧ Kt HE Hx ∧ Hx ka = some (.lst ks) ∧ ∃ (ws : List V) (x5 x6 : Option V), σ = [some (.ref a), some (.ref pa), some (.ref fo), some (.int (i : Nat)), some u2, x5, x6] ∧ Hx fo = some (.lst ws) ∧ AG (fun z y => PlT (n + 1) Hx z y) ws ((ft i ++ [(p ++ [i], st)]) ++ fk_ j))
        ⟨s05.trans sE, Kt.same (Same.refl _), hka, _, _, _, rfl, sE _ _ hf5, by
          show AG _ _ ((ft i ++ [(p ++ [i], st)]) ++ [])
          rw [List.append_nil]
          exact hu5.imp fun _ _ y => (Kt.same sE).plT y⟩ (fun j σ Hx _ p' => SqL.of p'.2.2.1) ?_ ?_
      · rintro j v σ Hx H' hj ⟨sx, kx, hkx, ws, x5, x6, rfl, hfx, hw⟩ ⟨T1, u3, u4, rfl, nT1, rfl, h3, h4⟩
        have h3 : some (V.int (j : Nat)) = some u3 := h3
        cases h3
        have h4 : ks[j]? = some u4 := h4
        obtain ⟨kb, hkb, hb⟩ := hks.2 j u4 h4
        have sT1 := same_new (o := .tup [V.int (j : Nat), u4]) nT1
        have tt1 : upd Hx T1 (.tup [V.int (j : Nat), u4]) T1 = some (.tup [V.int (j : Nat), u4]) := upd_same
        refine ⟨T1, _, rfl, SqT.of tt1, rfl, _, _, rfl, _, _, rfl, rfl, ?_⟩
        have hfx1 := sT1 _ _ hfx
        refine ⟨_, rfl, .inl ⟨rfl, _, SqL.of hfx1⟩, _, rfl, _, rfl, _, rfl, _, rfl, small1000 (Nat.le_of_ble_eq_true rfl), fun p2 hp2 => ?_⟩
        generalize upd Hx T1 (.tup [V.int (j : Nat), u4]) = HT at sT1 hfx1 hp2 ⊢
        have sp2 := same_new (o := .tup [V.int (i : Nat), V.int (j : Nat)]) hp2
        have hp2' : upd HT p2 (.tup [V.int (i : Nat), V.int (j : Nat)]) p2 = some (.tup [V.int (i : Nat), V.int (j : Nat)]) := upd_same
        generalize upd HT p2 (.tup [V.int (i : Nat), V.int (j : Nat)]) = HT2 at sp2 hp2' ⊢
        have sx2 := sT1.trans sp2
        refine ⟨pa, p2, _, _, rfl, rfl, sx2 _ _ (sx _ _ hp), hp2', by rw [List.length_map]; show _ + 2 ≤ _; omega, fun kc HF sF hkc => ?_⟩
        have hkc : HF kc = some (.tup (pI (p ++ [i] ++ [j]))) := by
          rw [hkc, List.append_assoc]
          show _ = some (HO.tup (pI (p ++ [i, j])))
          rw [show pI (p ++ [i, j]) = pI p ++ pI [i, j] from List.map_append]
          rfl
        have sx3 := sx2.trans sF
        have stepk : fk_ (j + 1) = fk_ j ++ placed n kb (p ++ [i] ++ [j]) := flat_take (zip_get hkb)
        have lek : (fk_ (j + 1)).length ≤ (kidsP (placed n) st (p ++ [i])).length := flat_take_le _ _
        rw [stepk, List.length_append] at lek
        refine ⟨u4, kc, kb, p ++ [i] ++ [j], rfl, (kx.trans (Kt.same sx3)).bd hb, hkc, fks kb (List.mem_of_getElem? hkb), by rw [List.length_append, List.length_append]; show p.length + 1 + 1 + 2 * n ≤ 100; omega, by omega, fun l2 zs HG nl2 sG hl2 hz => ?_⟩
        have sx4 := sx3.trans sG
        have lw : ws.length = (ft i).length + 1 + (fk_ j).length := by
          have := hw.1
          rw [List.length_append, List.length_append] at this
          exact this
        have lz : zs.length = (placed n kb (p ++ [i] ++ [j])).length := hz.1
        have hfG := sx4 _ _ hfx
        refine ⟨fo, l2, ws, zs, rfl, rfl, hfG, hl2, Nat.le_of_lt (small1000 (by omega)), ?_⟩
        have kG := Kt.upd (o := .lst (ws ++ zs)) hfG
        refine ⟨same_upd hfo (sx.trans sx4), (kx.trans (Kt.same sx4)).trans kG, by rw [upd_ne nkf]; exact sx4 _ _ hkx, _, _, _, rfl, upd_same, ?_⟩
        rw [stepk, ← List.append_assoc]
        exact AG.app (hw.imp fun _ _ y => ((Kt.same sx4).trans kG).plT y) (hz.imp fun _ _ y => kG.plT y.up)
      · rintro σ Hx ⟨sx, kx, hkx, ws, x5, x6, rfl, hfx, hw⟩
        have e : fk_ ks.length = kidsP (placed n) st (p ++ [i]) := by
          show (st.kids.zipIdx.take ks.length).flatMap _ = _
          rw [List.take_of_length_le (by rw [List.length_zipIdx, kl]; exact Nat.le_refl _)]
          rfl
        rw [e, List.append_assoc] at hw
        refine ⟨sx, ws, _, _, _, _, rfl, hfx, ?_⟩
        rw [step]
        exact hw
    · rintro σ Hc ⟨sm, us, x3, x4, x5, x6, rfl, hfc, hu⟩
      have e : ft xs.length = placed (n + 1) b p := by
        show (b.zipIdx.take xs.length).flatMap _ = _
        rw [List.take_of_length_le (by rw [List.length_zipIdx, xl]; exact Nat.le_refl _)]
        rfl
      rw [e] at hu
      exact ⟨_, rfl, q fo us Hc hfo sm hfc hu⟩
theorem ok_wks {f : Addr} {fd : FuncData} (F : Fun K "_law_walk" "_law_walk" sWk f fd) (gI : ∀ n, Glo P w K mg base "_law_inner" 1 ["_law_statement_here"] (spLi n)) (mS : mg "_law_walk" = some (.ref f)) (kS : PySem.W.keepIn K (.ref f) = true) (bS : Binds K fd ["_law_body_here", "_law_ahead"] []) (mEn : mg "enumerate" = none) : ∀ n, FnOk P w K mg base CX0 (n + 1) f fd ["_law_body_here", "_law_ahead"] (spWk n)
  | 0 => by
    refine F.ok scWk (fun vs H Q E h => ?_) (fun cdv A outer s H vs Q E hr h => ?_)
    · obtain ⟨v, pa, b, p, rfl, _⟩ := h
      rfl
    · obtain ⟨v, pa, b, p, rfl, h, _⟩ := h
      exact h.elim
  | n + 1 => ok_wk F (gI n) (ok_wks F gI mS kS bS mEn n) (by omega) mS kS bS mEn
end
end FR
set_option Elab.async false
set_option pp.maxSteps 1500
set_option linter.all false
set_option maxRecDepth 100000
set_option maxHeartbeats 1000000
/-! _law_rebuilt, _law_spliced -/
namespace FR
open PySem PySem.Spec PyProof.Rows L2
abbrev sRb : Stmt := FR.top 66
abbrev NRb : List Str := ["_law_statement_here", "_law_number", "_law_body_here", "_law_part"]
theorem scRb : FnScope NRb ["_law_statement_here", "_law_number", "_law_body_here"] (defScope sRb) := ⟨rfl, rfl, rfl, by decide +kernel, rfl, by decide +kernel, by decide +kernel⟩
abbrev sSc : Stmt := FR.top 67
abbrev NSc : List Str := ["_law_body_here", "_law_path", "_law_much", "_law_statements", "_law_at", "_law_inner_here"]
theorem scSc : FnScope NSc ["_law_body_here", "_law_path", "_law_much", "_law_statements"] (defScope sSc) := ⟨rfl, rfl, rfl, by decide +kernel, rfl, by decide +kernel, by decide +kernel⟩
section
variable {P : Program} {w : World} {K : PySem.W.Frag} {mg : Str → Option Value} {base : Heap}
def spRb (n : Nat) : Sp := fun vs H Q _ => ∃ (v u : V) (j : Nat) (s : St) (k : Bd), vs = [v, .int (j : Nat), u] ∧ StAt n H v s ∧ j < s.kids.length ∧ s.kids.length ≤ 90 ∧ BdAt n H u k ∧ ∀ z H', Same H H' → StAt n H' z (s.putAt j k) → Q z H'
theorem ok_rb {f : Addr} {fd : FuncData} {n : Nat} (F : Fun K "_law_rebuilt" "_law_rebuilt" sRb f fd) : FnOk P w K mg base CX0 1 f fd ["_law_statement_here", "_law_number", "_law_body_here"] (spRb n) := by
  refine F.ok scRb (fun vs H Q E h => ?_) (fun cdv A outer s H vs Q E hr h => ?_)
  · obtain ⟨v, u, j, s', k, rfl, _⟩ := h
    rfl
  · obtain ⟨v, u, j, s', k, rfl, hs, hj, few, hk, q⟩ := h
    refine ⟨_, (pss_cons (ps_if (pt_cmpR op_eq (pe_ix ix_tup (pv 0) pe_int (fun _ _ => rfl)) pe_str (nomark _)) (pss_one (ps_ret (pe_op op_catB (pe_slice sl_tupB (pv 0) po_none (po_some pe_int)) (pe_tup (pa_cons (pv 2) pa_nil))))) pss_nil)
      (pss_cons (ps_set (i := 3) scRb.nd rfl (Or.inl rfl) (pe_ifExp (pt_cmpR op_eq (pe_ix ix_tup (pv 0) pe_int (fun _ _ => rfl)) pe_str (nomark _)) (pe_tup (pa_cons (pe_ix ix_tup (pe_ix ix_tup (pv 0) (pe_op op_add (pv 1) pe_int) (fun _ _ => rfl)) pe_int (fun _ _ => rfl)) (pa_cons (pv 2) pa_nil))) (pv 2)))
      (pss_one (ps_ret (pe_op op_catB (pe_op op_catB (pe_slice sl_tupB (pv 0) po_none (po_some (pe_op op_add (pv 1) pe_int))) (pe_tup (pa_cons (pv 3) pa_nil))) (pe_slice sl_tupB (pv 0) (po_some (pe_op op_add (pv 1) pe_int)) po_none)))))), ?_⟩
    match s', hs, hj, few, q with
    | .again i c b, ⟨a, uw, e, ha, hb⟩, hj, few, q =>
      cases e
      refine ⟨_, rfl, a, _, _, _, rfl, rfl, SqT.of ha, atI_nat (j := 0) rfl, rfl, _, rfl, iteT ?_⟩
      refine ⟨_, rfl, _, rfl, a, _, rfl, ha, fun t1 H1 s1 h1 => ?_⟩
      have h1 : H1 t1 = some (.tup [.str "again", .int i, .int c]) := h1
      refine ⟨_, rfl, small1000 (Nat.le_of_ble_eq_true rfl), fun t2 ht2 => ?_⟩
      have s2 := same_new (o := .tup [u]) ht2
      have h2 : upd H1 t2 (.tup [u]) t2 = some (.tup [u]) := upd_same
      generalize upd H1 t2 (.tup [u]) = H2 at s2 h2 ⊢
      refine ⟨t1, t2, _, _, rfl, rfl, s2 _ _ h1, h2, by show 3 + 1 ≤ 900; decide, fun t3 H3 s3 h3 => ?_⟩
      exact q _ H3 ((s1.trans s2).trans s3) ⟨t3, u, rfl, h3, hk.same ((s1.trans s2).trans s3)⟩
    | .choose bs, ⟨a, us, e, ha, hb⟩, hj, few, q =>
      cases e
      have lu : us.length = bs.length := hb.1
      have hj : j < bs.length := hj
      have few : bs.length ≤ 90 := few
      refine ⟨_, rfl, a, _, _, _, rfl, rfl, SqT.of ha, atI_nat (j := 0) rfl, rfl, _, rfl, iteF ?_⟩
      refine ⟨_, rfl, a, _, _, _, rfl, rfl, SqT.of ha, atI_nat (j := 0) rfl, rfl, _, rfl, iteF ⟨_, rfl, ?_⟩⟩
      refine ⟨_, rfl, _, rfl, _, _, rfl, rfl, _, rfl, a, _, rfl, ha, fun t1 H1 s1 h1 => ?_⟩
      rw [show cutV (V.str "choose" :: us) none (some (((j : Nat) : Int) + 1)) = V.str "choose" :: us.take j from cut_to _ (j + 1)] at h1
      refine ⟨_, rfl, small1000 (Nat.le_of_ble_eq_true rfl), fun t2 ht2 => ?_⟩
      have s2 := same_new (o := .tup [u]) ht2
      have h2 : upd H1 t2 (.tup [u]) t2 = some (.tup [u]) := upd_same
      generalize upd H1 t2 (.tup [u]) = H2 at s2 h2 ⊢
      refine ⟨t1, t2, _, _, rfl, rfl, s2 _ _ h1, h2, by rw [List.length_cons, List.length_take]; show _ + 1 ≤ 900; omega, fun t3 H3 s3 h3 => ?_⟩
      have s13 := (s1.trans s2).trans s3
      refine ⟨_, rfl, _, rfl, _, _, rfl, rfl, _, rfl, a, _, rfl, s13 _ _ ha, fun t4 H4 s4 h4 => ?_⟩
      rw [show cutV (V.str "choose" :: us) (some (((j : Nat) : Int) + 2)) none = us.drop (j + 1) from cut_from _ (j + 2)] at h4
      refine ⟨t3, t4, _, _, rfl, rfl, s4 _ _ h3, h4, by simp only [List.length_append, List.length_cons, List.length_take, List.length_drop, List.length_nil]; omega, fun t5 H5 s5 h5 => ?_⟩
      have s15 := s13.trans (s4.trans s5)
      have e : V.str "choose" :: us.take j ++ [u] ++ us.drop (j + 1) = V.str "choose" :: us.set j u := by
        rw [set_cut (l := us) (n := j) (x := u) (by omega)]
        rfl
      rw [e] at h5
      exact q _ H5 s15 ⟨t5, us.set j u, rfl, h5, AG.set (AG.bd hb s15) j (hk.same s15)⟩
    | .toss rs, ⟨a, us, e, ha, hb⟩, hj, few, q =>
      cases e
      have lu : us.length = rs.length := hb.1
      have hj : j < (rs.map fun r => r.2).length := hj
      have few : (rs.map fun r => r.2).length ≤ 90 := few
      rw [List.length_map] at hj few
      have hju : us[j]? = some us[j] := List.getElem?_eq_getElem (by omega)
      obtain ⟨r, hr', p0, x0, e0, hp0, hx0⟩ := hb.2 j _ hju
      have hat : (V.str "toss" :: us)[j + 1]? = some (.ref p0) := by rw [← e0]; exact hju
      refine ⟨_, rfl, a, _, _, _, rfl, rfl, SqT.of ha, atI_nat (j := 0) rfl, rfl, _, rfl, iteF ?_⟩
      refine ⟨_, rfl, a, _, _, _, rfl, rfl, SqT.of ha, atI_nat (j := 0) rfl, rfl, _, rfl, iteT ?_⟩
      refine ⟨_, rfl, _, rfl, _, _, rfl, rfl, a, _, _, _, rfl, rfl, SqT.of ha, atI_nat (j := j + 1) hat, p0, _, _, _, rfl, rfl, SqT.of hp0, atI_nat (j := 0) rfl, _, rfl, small1000 (Nat.le_of_ble_eq_true rfl), fun t0 ht0 => ?_⟩
      have s0 := same_new (o := .tup [V.int r.1, u]) ht0
      have h0 : upd H t0 (.tup [V.int r.1, u]) t0 = some (.tup [V.int r.1, u]) := upd_same
      have ha0 := s0 _ _ ha
      have hk0 := hk.same s0
      generalize upd H t0 (.tup [V.int r.1, u]) = H0 at s0 h0 ha0 hk0 ⊢
      refine ⟨_, rfl, _, rfl, _, _, rfl, rfl, _, rfl, a, _, rfl, ha0, fun t1 H1 s1 h1 => ?_⟩
      rw [show cutV (V.str "toss" :: us) none (some (((j : Nat) : Int) + 1)) = V.str "toss" :: us.take j from cut_to _ (j + 1)] at h1
      refine ⟨_, rfl, small1000 (Nat.le_of_ble_eq_true rfl), fun t2 ht2 => ?_⟩
      have s2 := same_new (o := .tup [V.ref t0]) ht2
      have h2 : upd H1 t2 (.tup [V.ref t0]) t2 = some (.tup [V.ref t0]) := upd_same
      generalize upd H1 t2 (.tup [V.ref t0]) = H2 at s2 h2 ⊢
      refine ⟨t1, t2, _, _, rfl, rfl, s2 _ _ h1, h2, by rw [List.length_cons, List.length_take]; show _ + 1 ≤ 900; omega, fun t3 H3 s3 h3 => ?_⟩
      have s13 := (s1.trans s2).trans s3
      refine ⟨_, rfl, _, rfl, _, _, rfl, rfl, _, rfl, a, _, rfl, s13 _ _ ha0, fun t4 H4 s4 h4 => ?_⟩
      rw [show cutV (V.str "toss" :: us) (some (((j : Nat) : Int) + 2)) none = us.drop (j + 1) from cut_from _ (j + 2)] at h4
      refine ⟨t3, t4, _, _, rfl, rfl, s4 _ _ h3, h4, by simp only [List.length_append, List.length_cons, List.length_take, List.length_drop, List.length_nil]; omega, fun t5 H5 s5 h5 => ?_⟩
      have s15 := s13.trans (s4.trans s5)
      have e : V.str "toss" :: us.take j ++ [V.ref t0] ++ us.drop (j + 1) = V.str "toss" :: us.set j (.ref t0) := by
        rw [set_cut (l := us) (n := j) (x := V.ref t0) (by omega)]
        rfl
      rw [e] at h5
      have s05 := s0.trans s15
      have er : rs.getD j (0, []) = r := getD_of hr'
      refine q _ H5 s05 ⟨t5, us.set j (.ref t0), rfl, h5, ?_⟩
      rw [er]
      exact AG.set (hb.imp fun _ _ ⟨p, x, e1, e2, e3⟩ => ⟨p, x, e1, s05 _ _ e2, e3.same s05⟩) j ⟨t0, u, rfl, s15 _ _ h0, hk.same s05⟩
def spSc (n : Nat) : Sp := fun vs H Q _ => ∃ (v u : V) (pa : Addr) (b ss : Bd) (ps : List (Nat × Nat)) (i : Nat) (ns : List Str), vs = [v, .ref pa, .int 1, u] ∧ BdAt n H v b ∧ Al (Ok1 ns) n b ∧ cnt n b ≤ 60 ∧ H pa = some (.tup (pI (flat ps ++ [i]))) ∧ InB b ps ∧ BdAt (n - ps.length) H u ss ∧ ss.length ≤ 300 ∧ ∀ z H', Same H H' → BdAt n H' z (spl b ps i ss) → Q z H'
theorem ok_sc {f : Addr} {fd : FuncData} {n c : Nat} (F : Fun K "_law_spliced" "_law_spliced" sSc f fd) (ml : mg "len" = none) (gI : Glo P w K mg base "_law_inner" 1 ["_law_statement_here"] (spLi n)) (gR : Glo P w K mg base "_law_rebuilt" 1 ["_law_statement_here", "_law_number", "_law_body_here"] (spRb n))
    (GS : FnOk P w K mg base CX0 c f fd ["_law_body_here", "_law_path", "_law_much", "_law_statements"] (spSc n)) (c2 : 1 ≤ c) (mS : mg "_law_spliced" = some (.ref f)) (kS : PySem.W.keepIn K (.ref f) = true) (bS : Binds K fd ["_law_body_here", "_law_path", "_law_much", "_law_statements"] []) : FnOk P w K mg base CX0 (c + 1) f fd ["_law_body_here", "_law_path", "_law_much", "_law_statements"] (spSc (n + 1)) := by
  refine F.ok scSc (fun vs H Q E h => ?_) (fun cdv A outer s H vs Q E hr h => ?_)
  · obtain ⟨v, u, pa, b, ss, ps, i, ns, rfl, _⟩ := h
    rfl
  · obtain ⟨v, u, pa, b, ss, ps, i, ns, rfl, hb, al, c60, hp, inb, hss, lss, q⟩ := h
    refine ⟨_, (pss_cons (ps_set (i := 4) scSc.nd rfl (Or.inl rfl) (pe_ix ix_tup (pv 1) pe_int (fun _ _ => rfl)))
      (pss_cons (ps_if (pt_cmpR op_eq (pe_callB call_len_seq (by rfl) ml PySem.boot_len (pa_cons (pv 1) pa_nil)) pe_int (nomark _)) (pss_one (ps_ret (pe_op op_catB (pe_op op_catB (pe_slice sl_tupB (pv 0) po_none (po_some (pv 4))) (pv 3)) (pe_slice sl_tupB (pv 0) (po_some (pe_op op_add (pv 4) (pv 2))) po_none)))) pss_nil)
      (pss_cons (ps_set (i := 5) scSc.nd rfl (Or.inl rfl) (pe_call GS hr (by rfl) mS kS bS .nil pass0 (pa_cons (pe_ix ix_list (pe_call gI.G (hr.mono (by omega)) (by rfl) gI.m gI.k gI.b .nil pass0 (pa_cons (pe_ix ix_tup (pv 0) (pv 4) (fun _ _ => rfl)) pa_nil)) (pe_ix ix_tup (pv 1) pe_int (fun _ _ => rfl)) (fun _ _ => rfl)) (pa_cons (pe_slice sl_tupB (pv 1) (po_some pe_int) po_none) (pa_cons (pv 2) (pa_cons (pv 3) pa_nil))))))
      (pss_one (ps_ret (pe_op op_catB (pe_op op_catB (pe_slice sl_tupB (pv 0) po_none (po_some (pv 4))) (pe_tup (pa_cons (pe_call gR.G (hr.mono (by omega)) (by rfl) gR.m gR.k gR.b .nil pass0 (pa_cons (pe_ix ix_tup (pv 0) (pv 4) (fun _ _ => rfl)) (pa_cons (pe_ix ix_tup (pv 1) pe_int (fun _ _ => rfl)) (pa_cons (pv 5) pa_nil)))) pa_nil))) (pe_slice sl_tupB (pv 0) (po_some (pe_op op_add (pv 4) pe_int)) po_none))))))), ?_⟩
    have lb : b.length ≤ 60 := Nat.le_trans (Nat.le_add_right _ _) c60
    obtain ⟨m, a, xs, em, rfl, ha, hx⟩ := hb.open
    obtain rfl : n = m := by omega
    have lx : xs.length = b.length := hx.1
    cases ps with
    | nil =>
      obtain ⟨m', sb, ys, em', rfl, hsb, hy⟩ := hss.open
      obtain rfl : n = m' := by rw [List.length_nil] at em'; omega
      have ly : ys.length = ss.length := hy.1
      refine ⟨_, rfl, pa, _, _, _, rfl, rfl, SqT.of hp, atI_nat (j := 0) rfl, ?_⟩
      refine ⟨_, rfl, pa, _, rfl, .inr (SqT.of hp), rfl, _, rfl, iteT ?_⟩
      refine ⟨_, rfl, _, rfl, _, rfl, a, _, rfl, ha, fun t1 H1 s1 h1 => ?_⟩
      rw [cut_to] at h1
      refine ⟨_, rfl, t1, sb, _, _, rfl, rfl, h1, s1 _ _ hsb, by rw [List.length_take]; omega, fun t2 H2 s2 h2 => ?_⟩
      have s12 := s1.trans s2
      refine ⟨_, rfl, _, rfl, _, rfl, _, _, rfl, rfl, _, rfl, a, _, rfl, s12 _ _ ha, fun t3 H3 s3 h3 => ?_⟩
      have h3 : H3 t3 = some (.tup (xs.drop (i + 1))) := h3.trans (by rw [← cut_from xs (i + 1)]; rfl)
      refine ⟨t2, t3, _, _, rfl, rfl, s3 _ _ h2, h3, by rw [List.length_append, List.length_drop, List.length_take]; omega, fun t4 H4 s4 h4 => ?_⟩
      have s14 := s12.trans (s3.trans s4)
      exact q _ H4 s14 ⟨t4, _, rfl, h4, AG.app (AG.app (AG.take (AG.st hx s14) i) (AG.st hy s14)) (AG.drop (AG.st hx s14) (i + 1))⟩
    | cons x r =>
      obtain ⟨h1, h2, h3⟩ := inb
      have hs0 := get_lt .stay h1
      have hk0 := get_lt [] h2
      have als := al _ (List.mem_of_getElem? hs0)
      have alk := als.2 _ (List.mem_of_getElem? hk0)
      generalize hsd : b.getD x.1 .stay = s0 at h2 h3 hs0 hk0 als alk
      generalize hkd : s0.kids.getD x.2 [] = k0 at h3 hk0 alk
      have c0 : cnt n k0 ≤ 60 := Nat.le_trans (cnt_kid (List.mem_of_getElem? hs0) (List.mem_of_getElem? hk0)) c60
      have few : s0.kids.length ≤ 90 := by have := ok_few als.1.1; omega
      have xl : x.1 < xs.length := by omega
      have hxs : xs[x.1]? = some xs[x.1] := List.getElem?_eq_getElem xl
      obtain ⟨s1, hs1, rs⟩ := hx.2 _ _ hxs
      rw [hs0] at hs1
      cases hs1
      generalize xs[x.1] = vs at hxs rs
      have pe : pI (flat (x :: r) ++ [i]) = V.int (x.1 : Nat) :: V.int (x.2 : Nat) :: pI (flat r ++ [i]) := rfl
      have pl : (pI (flat (x :: r) ++ [i])).length = 2 * r.length + 3 := by
        rw [List.length_map, List.length_append, flat_len]
        show 2 * (r.length + 1) + 1 = _
        omega
      have at0 : atI (pI (flat (x :: r) ++ [i])) 0 = some (V.int (x.1 : Nat)) := atI_nat (j := 0) rfl
      have at1 : atI (pI (flat (x :: r) ++ [i])) 1 = some (V.int (x.2 : Nat)) := atI_nat (j := 1) rfl
      refine ⟨_, rfl, pa, _, _, _, rfl, rfl, SqT.of hp, at0, ?_⟩
      refine ⟨_, rfl, pa, _, rfl, .inr (SqT.of hp), rfl, _, rfl, ?_⟩
      rw [pl]
      refine ite2 (fun z => absurd (V.int.inj (of_decide_eq_true z)) (by omega)) (fun _ => ?_)
      refine ⟨_, rfl, _, rfl, a, _, _, _, rfl, rfl, SqT.of ha, atI_nat (j := x.1) hxs, vs, s0, rfl, rs, few, fun ka ks H1 nka s1 hka hks => ?_⟩
      have lks : ks.length = s0.kids.length := hks.1
      have hww : ks[x.2]? = some ks[x.2] := List.getElem?_eq_getElem (by omega)
      obtain ⟨k1, hk1, rk⟩ := hks.2 _ _ hww
      rw [hk0] at hk1
      cases hk1
      generalize ks[x.2] = vk at hww rk
      have hp1 := s1 _ _ hp
      refine ⟨_, rfl, pa, _, _, _, rfl, rfl, SqT.of hp1, at1, ka, _, _, _, rfl, rfl, SqL.of hka, atI_nat (j := x.2) hww, ?_⟩
      refine ⟨_, rfl, _, rfl, pa, _, rfl, hp1, fun pb H2 s2 hpb => ?_⟩
      have epb : cutV (pI (flat (x :: r) ++ [i])) (some 2) none = pI (flat r ++ [i]) := by
        rw [pe]
        exact cut_from _ 2
      rw [epb] at hpb
      have s02 := s1.trans s2
      refine ⟨_, rfl, _, rfl, vk, u, pb, k0, ss, r, i, ns, rfl, rk.same s2, alk, c0, hpb, h3, ?_, lss, fun z H3 s3 hz => ?_⟩
      · have := hss.same s02
        rw [List.length_cons, Nat.add_sub_add_right] at this
        exact this
      have s03 := s02.trans s3
      refine ⟨_, rfl, _, rfl, _, rfl, a, _, rfl, s03 _ _ ha, fun ta Ha sa hta => ?_⟩
      rw [cut_to] at hta
      have s0a := s03.trans sa
      refine ⟨_, rfl, _, rfl, a, _, _, _, rfl, rfl, SqT.of (s0a _ _ ha), atI_nat (j := x.1) hxs, _, rfl, pa, _, _, _, rfl, rfl, SqT.of (s0a _ _ hp), at1, _, rfl, vs, z, x.2, s0, spl k0 r i ss, rfl, StAt.same rs s0a, h2, few, hz.same sa, fun w9 H9 s9 h9 => ?_⟩
      refine ⟨small1000 (Nat.le_of_ble_eq_true rfl), fun tb htb => ?_⟩
      have sb := same_new (o := .tup [w9]) htb
      have hb1 : upd H9 tb (.tup [w9]) tb = some (.tup [w9]) := upd_same
      generalize upd H9 tb (.tup [w9]) = Hb at sb hb1 ⊢
      refine ⟨ta, tb, _, _, rfl, rfl, sb _ _ (s9 _ _ hta), hb1, by rw [List.length_take]; show _ + 1 ≤ _; omega, fun tc Hc sc htc => ?_⟩
      have s0c := ((s0a.trans s9).trans sb).trans sc
      refine ⟨_, rfl, _, rfl, _, _, rfl, rfl, _, rfl, a, _, rfl, s0c _ _ ha, fun td Hd sd htd => ?_⟩
      have htd : Hd td = some (.tup (xs.drop (x.1 + 1))) := htd.trans (by rw [← cut_from xs (x.1 + 1)]; rfl)
      refine ⟨tc, td, _, _, rfl, rfl, sd _ _ htc, htd, by rw [List.length_append, List.length_drop, List.length_take]; show _ + 1 + _ ≤ _; omega, fun te He se hte => ?_⟩
      rw [show xs.take x.1 ++ [w9] ++ xs.drop (x.1 + 1) = xs.set x.1 w9 from (set_cut xl).symm] at hte
      have s9e := (sb.trans sc).trans (sd.trans se)
      have s0e := s0c.trans (sd.trans se)
      have ew : spl b (x :: r) i ss = b.set x.1 (s0.putAt x.2 (spl k0 r i ss)) := by
        show b.set x.1 ((b.getD x.1 .stay).putAt x.2 (spl ((b.getD x.1 .stay).kids.getD x.2 []) r i ss)) = _
        rw [hsd, hkd]
      refine q _ He s0e ?_
      rw [ew]
      exact ⟨te, _, rfl, hte, AG.set (AG.st hx s0e) x.1 (StAt.same h9 s9e)⟩
theorem ok_scs {f : Addr} {fd : FuncData} (F : Fun K "_law_spliced" "_law_spliced" sSc f fd) (ml : mg "len" = none) (gI : ∀ n, Glo P w K mg base "_law_inner" 1 ["_law_statement_here"] (spLi n)) (gR : ∀ n, Glo P w K mg base "_law_rebuilt" 1 ["_law_statement_here", "_law_number", "_law_body_here"] (spRb n))
    (mS : mg "_law_spliced" = some (.ref f)) (kS : PySem.W.keepIn K (.ref f) = true) (bS : Binds K fd ["_law_body_here", "_law_path", "_law_much", "_law_statements"] []) : ∀ n, FnOk P w K mg base CX0 (n + 1) f fd ["_law_body_here", "_law_path", "_law_much", "_law_statements"] (spSc n)
  | 0 => by
    refine F.ok scSc (fun vs H Q E h => ?_) (fun cdv A outer s H vs Q E hr h => ?_)
    · obtain ⟨v, u, pa, b, ss, ps, i, ns, rfl, _⟩ := h
      rfl
    · obtain ⟨v, u, pa, b, ss, ps, i, ns, rfl, h, _⟩ := h
      exact h.elim
  | n + 1 => ok_sc F ml (gI n) (gR n) (ok_scs F ml gI gR mS kS bS n) (by omega) mS kS bS
end
end FR
set_option Elab.async false
set_option pp.maxSteps 1500
set_option linter.all false
set_option maxRecDepth 100000
set_option maxHeartbeats 1000000
/-! _law_changed -/
namespace FR
open PySem PySem.Spec PyProof.Rows L2
abbrev sCg : Stmt := FR.top 68
abbrev NCg : List Str := ["_law_bodies_here", "_law_place", "_law_much", "_law_statements", "_law_new", "_law_one"]
theorem scCg : FnScope NCg ["_law_bodies_here", "_law_place", "_law_much", "_law_statements"] (defScope sCg) := ⟨rfl, rfl, rfl, by decide +kernel, rfl, by decide +kernel, by decide +kernel⟩
theorem valV_at {H : Hp} {kvs : List (Key × V)} {p : Pg} (h : PrgK H kvs p) (hn : (names p).Nodup) {j : Nat} {z : Str} {v : V} (e : kvs[j]? = some (.inr z, v)) : valV kvs (.inr z) = some v := by
  have nd : (kvs.map (·.1)).Nodup := by
    rw [h.keys]
    exact List.Pairwise.map _ (fun a b h c => h (Sum.inr.inj c)) hn
  clear h
  induction kvs generalizing j with
  | nil => cases e
  | cons x kvs ih =>
    obtain ⟨k0, v0⟩ := x
    cases j with
    | zero =>
      cases e
      exact valV_pos rfl
    | succ j =>
      have nd2 := List.nodup_cons.mp nd
      have hm : (Sum.inr z : Key) ∈ kvs.map (·.1) := List.mem_map.mpr ⟨(.inr z, v), List.mem_of_getElem? e, rfl⟩
      have ne : k0 ≠ .inr z := fun c => nd2.1 (by rw [← c] at hm; exact hm)
      rw [valV_neg ne]
      exact ih e nd2.2
section
variable {P : Program} {w : World} {K : PySem.W.Frag} {mg : Str → Option Value} {base : Heap}
def spCg : Sp := fun vs H Q _ => ∃ (t pl pa : Addr) (u : V) (kvs : List (Key × V)) (p : Pg) (z : Str) (ps : List (Nat × Nat)) (i : Nat) (ss : Bd) (ns : List Str), vs = [.ref t, .ref pl, .int 1, u] ∧ H t = some (.dK kvs) ∧ PrgK H kvs p ∧ (names p).Nodup ∧ p.length ≤ 8 ∧ z ∈ names p ∧ H pl = some (.tup [.str z, .ref pa]) ∧ H pa = some (.tup (pI (flat ps ++ [i]))) ∧
  Al (Ok1 ns) 5 (bodyOf p z) ∧ cnt 5 (bodyOf p z) ≤ 60 ∧ InB (bodyOf p z) ps ∧ BdAt (5 - ps.length) H u ss ∧ ss.length ≤ 300 ∧ ∀ d kvs' H', H d = none → Same H H' → H' d = some (.dK kvs') → PrgK H' kvs' (setP p z (spl (bodyOf p z) ps i ss)) → Q (.ref d) H'
theorem ok_cg {f : Addr} {fd : FuncData} (F : Fun K "_law_changed" "_law_changed" sCg f fd) (md : mg "dict" = none) (gSc : Glo P w K mg base "_law_spliced" 6 ["_law_body_here", "_law_path", "_law_much", "_law_statements"] (spSc 5)) : FnOk P w K mg base CX0 7 f fd ["_law_bodies_here", "_law_place", "_law_much", "_law_statements"] spCg := by
  refine F.ok scCg (fun vs H Q E h => ?_) (fun cdv A outer s H vs Q E hr h => ?_)
  · obtain ⟨t, pl, pa, u, kvs, p, z, ps, i, ss, ns, rfl, _⟩ := h
    rfl
  · obtain ⟨t, pl, pa, u, kvs, p, z, ps, i, ss, ns, rfl, ht, hk, hn, l8, hz, hpl, hpa, al, c60, inb, hss, lss, q⟩ := h
    refine ⟨_, (pss_cons (ps_set (i := 4) scCg.nd rfl (Or.inr rfl) (pe_call gSc.G (hr.mono (by decide)) (by rfl) gSc.m gSc.k gSc.b .nil pass0 (pa_cons (pe_dget (lt1_of hr.units) (pv 0) (pe_ix ix_tup (pv 1) pe_int (fun _ _ => rfl)) (fun _ _ => rfl)) (pa_cons (pe_ix ix_tup (pv 1) pe_int (fun _ _ => rfl)) (pa_cons (pv 2) (pa_cons (pv 3) pa_nil))))))
      (pss_one (ps_ret (pe_callTy (call_dictP rfl) (by rfl) md (by decide +kernel) (pa_cons (pe_lock (pe_lc (X := (cxOf CX0 P w K mg base NCg "_law_changed" (defScope sCg) f cdv A outer s H E).nox) (own := [("_law_one", 5)]) (g := (gName 5)) (tt := tYes) rfl scCg.nd (pi_keys (pv 0)) (blkOk_by (N := NCg) (sc := defScope sCg) (by decide +kernel)) (fun _ _ _ _ _ => (pg_name (i := 5) scCg.nd rfl (.inl rfl))) (fun _ _ _ _ _ => pts_nil) (fun _ _ _ _ _ => (pe_tup (pa_cons (pv 5) (pa_cons (pe_ifExp (pt_cmpR op_eq (pv 5) (pe_ix (ix_tupK (K := K) rfl) (pv 1) pe_int (fun _ _ => rfl)) (nomark _)) (pv 4) (pe_dget (lt1_of hr.units) (pv 0) (pv 5) (fun _ _ => rfl))) pa_nil)))))) pa_nil))))), ?_⟩
    obtain ⟨bv, hbv, hb⟩ := hk.val hn hz
    refine ⟨_, rfl, _, rfl, pl, _, _, _, rfl, rfl, SqT.of hpl, atI_nat (j := 0) rfl, t, bv, rfl, by rw [← hbv]; exact DGet.k (k := .inr z) ht, _, rfl, pl, _, _, _, rfl, rfl, SqT.of hpl, atI_nat (j := 1) rfl, _, rfl, _, rfl, bv, u, pa, bodyOf p z, ss, ps, i, ns, rfl, hb, al, c60, hpa, inb, hss, lss, fun nv H1 s1 hnv => ?_⟩
    have ht1 := s1 _ _ ht
    have hk1 := (Tk.same s1).pg hk
    refine ⟨t, _, ht1, trivial, fun od => ?_⟩
    have back : ∀ H', Same (upd H1 t (.frz od (.dK kvs))) H' → Same H1 (upd H' t (.dK kvs)) := fun H' s => same_lock ht1 s
    have hL : upd H1 t (.frz od (.dK kvs)) t = some (.frz od (.dK kvs)) := upd_same
    have tkL : Tk H1 (upd H1 t (.frz od (.dK kvs))) := Tk.upd ht1 (fun _ z => by cases z) fun _ _ z => by cases z
    have hplL := tkL.1 _ _ (s1 _ _ hpl)
    have hkL := tkL.pg hk1
    have hnvL := tkL.bd hnv
    generalize upd H1 t (.frz od (.dK kvs)) = HL at back hL tkL hplL hkL hnvL ⊢
    refine ⟨_, rfl, t, od, rfl, .inl ⟨kvs, hL, fun D hD => ?_⟩⟩
    have es : setP p z (spl (bodyOf p z) ps i ss) = p.map fun x => if x.1 = z then (z, spl (bodyOf p z) ps i ss) else x := setP_in hz
    refine lc_it walk_keys (fun j Hc => Same HL Hc ∧ ∃ us, Hc D = some (.lst us) ∧ AG (fun v x => ItAt Hc v x) us ((setP p z (spl (bodyOf p z) ps i ss)).take j)) ⟨same_new hD, [], upd_same, AG.nil⟩ (fun j Hc _ p' => p'.1 _ _ hL) ?_ ?_
    · rintro j y Hq Hc hj ⟨sm, us, hDc, hu⟩ ⟨rfl, k, v, hkv, rfl⟩
      obtain ⟨z', b', rfl, hpi, hb'⟩ := hkL.2 j k v hkv
      have jl : j < p.length := (List.getElem?_eq_some_iff.mp hpi).1
      have lu : us.length ≤ 8 := by
        rw [hu.1, List.length_take]
        omega
      have gd : DGet Hc t (kV (.inr z')) (some v) := by
        have hv : valV kvs (.inr z') = some v := by
          obtain ⟨v2, e2, _⟩ := hkL.val hn (List.mem_map.mpr ⟨_, List.mem_of_getElem? hpi, rfl⟩)
          exact valV_at hkL hn hkv
        rw [← hv]
        exact .inl ⟨kvs, .inr z', .inr ⟨od, sm _ _ hL⟩, rfl, rfl⟩
      have ek : (setP p z (spl (bodyOf p z) ps i ss))[j]? = some (if z' = z then (z, spl (bodyOf p z) ps i ss) else (z', b')) := by
        rw [es, List.getElem?_map, hpi]
        rfl
      have fin : ∀ (b2 : Bd) (v2 : V), (if z' = z then (z, spl (bodyOf p z) ps i ss) else (z', b')) = (z', b2) → BdAt 5 Hc v2 b2 → 2 ≤ sizeLine ∧ ∀ q0, Hc q0 = none → ∃ acc, upd Hc q0 (.tup [V.str z', v2]) D = some (.lst acc) ∧ acc.length < sizeLine ∧ (Same HL (upd (upd Hc q0 (.tup [V.str z', v2])) D (.lst (acc ++ [V.ref q0]))) ∧ ∃ us, upd (upd Hc q0 (.tup [V.str z', v2])) D (.lst (acc ++ [V.ref q0])) D = some (.lst us) ∧ AG (fun v x => ItAt (upd (upd Hc q0 (.tup [V.str z', v2])) D (.lst (acc ++ [V.ref q0]))) v x) us ((setP p z (spl (bodyOf p z) ps i ss)).take (j + 1))) := fun b2 v2 e2 hb2 => by
        refine ⟨small1000 (Nat.le_of_ble_eq_true rfl), fun q0 hq0 => ?_⟩
        have s4 := same_new (o := .tup [V.str z', v2]) hq0
        have h4 : upd Hc q0 (.tup [V.str z', v2]) q0 = some (.tup [V.str z', v2]) := upd_same
        have hD4 := s4 _ _ hDc
        generalize upd Hc q0 (.tup [V.str z', v2]) = H4 at s4 h4 hD4 ⊢
        have tk := Tk.upd (o := .lst (us ++ [V.ref q0])) hD4 (fun _ z => by cases z) fun _ _ z => by cases z
        refine ⟨us, hD4, small1000 (by omega), same_upd hD (sm.trans s4), _, upd_same, ?_⟩
        rw [take_snoc ek, e2]
        exact AG.snoc (hu.imp fun _ _ h => ItAt.tk ((Tk.same s4).trans tk) h) ⟨q0, v2, rfl, tk.1 _ _ h4, tk.bd (hb2.same s4)⟩
      refine ⟨rfl, _, rfl, ?_⟩
      refine ⟨_, rfl, _, rfl, pl, _, _, _, rfl, rfl, SqT.of (sm _ _ hplL), atI_nat (j := 0) rfl, rfl, _, rfl, ?_⟩
      show if decide (V.str z' = V.str z) = true then _ else _
      rw [dec_str]
      refine ite2 (fun h0 => ?_) (fun h0 => ?_)
      · have h0 : z' = z := of_decide_eq_true h0
        subst h0
        exact ⟨_, rfl, fin _ nv (if_pos rfl) (hnvL.same sm)⟩
      · have h0 : ¬ z' = z := fun c => h0 (decide_eq_true c)
        exact ⟨_, rfl, _, rfl, t, v, rfl, gd, fin b' v (if_neg h0) (hb'.same sm)⟩
    · rintro Hc ⟨sm, us, hDc, hu⟩
      have le : (setP p z (spl (bodyOf p z) ps i ss)).length = kvs.length := by rw [es, List.length_map, hk.1]
      rw [List.take_of_length_le (by omega)] at hu
      refine ⟨sm _ _ hL, ?_⟩
      have sb := back Hc sm
      have tkb : Tk Hc (upd Hc t (.dK kvs)) := ⟨fun a xs e => by rw [upd_ne (fun c => by rw [c, sm _ _ hL] at e; cases e)]; exact e, fun a o xs e => by rw [upd_ne (fun c => by rw [c, sm _ _ hL] at e; cases e)]; exact e⟩
      have hDb : upd Hc t (.dK kvs) D = some (.lst us) := by
        rw [upd_ne (fun c => by rw [c, hL] at hD; cases hD)]
        exact hDc
      have hub := hu.imp (R' := fun v x => ItAt (upd Hc t (.dK kvs)) v x) fun _ _ h => ItAt.tk tkb h
      generalize upd Hc t (.dK kvs) = Ha at sb hDb hub ⊢
      obtain ⟨qs, kvs', rfl, pr, hk'⟩ := paired_at (K := K) hub
      refine ⟨D, qs, kvs', rfl, SqL.of hDb, pr, fun d hd => ?_⟩
      have s9 := same_new (o := .dK (mergeK [] kvs')) hd
      have sall := s1.trans (sb.trans s9)
      exact q d _ _ (none_of_same (s1.trans sb) hd) sall upd_same ((Tk.same s9).pg (merge_nil hk' (setP_nodup hn)))
end
end FR
set_option Elab.async false
set_option pp.maxSteps 1500
set_option linter.all false
set_option maxRecDepth 100000
set_option maxHeartbeats 1000000
/-! _law_next -/
namespace FR
open PySem PySem.Spec PyProof.Rows L2
abbrev sNx : Stmt := FR.top 62
abbrev NNx : List Str := ["_law_body_here", "_law_values_here", "_law_found", "_law_statement_here", "_law_more", "_law_stop", "_law_go", "_law_inner_here", "_law_whole", "_law_weight_here"]
theorem scNx : FnScope NNx ["_law_body_here", "_law_values_here"] (defScope sNx) := ⟨rfl, rfl, rfl, by decide +kernel, rfl, by decide +kernel, by decide +kernel⟩
section
variable {P : Program} {w : World} {K : PySem.W.Frag} {mg : Str → Option Value} {base : Heap}
structure NxTx (mg : Str → Option Value) : Prop where
  sum : mg "sum" = none
/-- the values of procedures in a dict -/
def VlD (H : Hp) (d : Addr) (ns : List Str) (ρ : Str → PI) : Prop := ∃ kvs, H d = some (.dK kvs) ∧ ∀ z ∈ ns, ∃ a, valV kvs (.inr z) = some (.ref a) ∧ TA H a (ρ z)
theorem VlD.same {H H' : Hp} {d : Addr} {ns : List Str} {ρ : Str → PI} (h : VlD H d ns ρ) (s : Same H H') : VlD H' d ns ρ := by
  obtain ⟨kvs, h1, h2⟩ := h
  exact ⟨kvs, s _ _ h1, fun z hz => (h2 z hz).imp fun a e => ⟨e.1, s _ _ e.2⟩⟩
def spNx (n : Nat) : Sp := fun vs H Q _ => ∃ (v : V) (d : Addr) (b : Bd) (ρ : Str → PI) (ns : List Str) (bt : Str → Nat), vs = [v, .ref d] ∧ BdAt n H v b ∧ Al (Ok1 ns) n b ∧ VlD H d ns ρ ∧ Vals1 ns bt ρ ∧ ws (gB bt) n b ≤ 2900 ∧ ∀ t H', Same H H' → TA H' t (nxt ρ n b) → Q (.ref t) H'
theorem ok_nx {f : Addr} {fd : FuncData} {n c : Nat} (F : Fun K "_law_next" "_law_next" sNx f fd) (ms : mg "sum" = none) (gPl : Glo P w K mg base "_law_plus" 3 N12 (spLP plusP)) (gBy : Glo P w K mg base "_law_by" 3 N12 (spLP byP)) (gRt : Glo P w K mg base "_law_ratio" 2 ["_law_top", "_law_bottom"] spRat)
    (GS : FnOk P w K mg base CX0 c f fd ["_law_body_here", "_law_values_here"] (spNx n)) (c3 : 3 ≤ c) (mS : mg "_law_next" = some (.ref f)) (kS : PySem.W.keepIn K (.ref f) = true) (bS : Binds K fd ["_law_body_here", "_law_values_here"] []) : FnOk P w K mg base CX0 (c + 1) f fd ["_law_body_here", "_law_values_here"] (spNx (n + 1)) := by
  refine F.ok scNx (fun vs H Q E h => ?_) (fun cdv A outer s H vs Q E hr h => ?_)
  · obtain ⟨v, d, b, ρ, ns, bt, rfl, _⟩ := h
    rfl
  · obtain ⟨v, d, b, ρ, ns, bt, rfl, hb, al, hd, hv, hz, q⟩ := h
    refine ⟨_, (pss_cons (ps_set (i := 2) scNx.nd rfl (Or.inl rfl) (pe_tup (pa_cons pe_int (pa_cons pe_int pa_nil))))
      (pss_cons (ps_for PassesOwn.never rfl (pi_tup (pv 0)) (pg_name (i := 3) scNx.nd rfl (.inl rfl)) (pss_cons (ps_set (i := 4) scNx.nd rfl (Or.inl rfl) (pe_tup (pa_cons pe_int (pa_cons pe_int pa_nil))))
      (pss_cons (ps_if (pt_cmpR op_eq (pe_ix ix_tup (pv 3) pe_int (fun _ _ => rfl)) pe_str (nomark _)) (pss_one (ps_set (i := 4) scNx.nd rfl (Or.inl rfl) (pe_tup (pa_cons pe_int (pa_cons pe_int pa_nil))))) pss_nil)
      (pss_cons (ps_if (pt_cmpR op_eq (pe_ix ix_tup (pv 3) pe_int (fun _ _ => rfl)) pe_str (nomark _)) (pss_one (ps_set (i := 4) scNx.nd rfl (Or.inl rfl) (pe_dget (lt1_of hr.units) (pv 1) (pe_ix ix_tup (pv 3) pe_int (fun _ _ => rfl)) (fun _ _ => rfl)))) pss_nil)
      (pss_cons (ps_if (pt_cmpR op_eq (pe_ix ix_tup (pv 3) pe_int (fun _ _ => rfl)) pe_str (nomark _)) (pss_cons (ps_par (i := 5) (j := 6) (by rfl) scNx.nd rfl rfl (by decide) rfl rfl (pa_cons (pe_ix ix_tup (pv 3) pe_int (fun _ _ => rfl)) (pa_cons (pe_ix ix_tup (pv 3) pe_int (fun _ _ => rfl)) pa_nil)) (by rfl))
      (pss_cons (ps_set (i := 7) scNx.nd rfl (Or.inl rfl) (pe_call GS hr (by rfl) mS kS bS .nil pass0 (pa_cons (pe_ix ix_tup (pv 3) pe_int (fun _ _ => rfl)) (pa_cons (pv 1) pa_nil))))
      (pss_one (ps_set (i := 4) scNx.nd rfl (Or.inl rfl) (pe_call gRt.G (hr.mono (by omega)) (by rfl) gRt.m gRt.k gRt.b .nil pass0 (pa_cons (pe_op op_mulW (pv 5) (pe_ix ix_tup (pv 7) pe_int (fun _ _ => rfl))) (pa_cons (pe_op op_sub (pe_op op_mulW (pe_op op_add (pv 5) (pv 6)) (pe_ix ix_tup (pv 7) pe_int (fun _ _ => rfl))) (pe_op op_mulW (pv 6) (pe_ix ix_tup (pv 7) pe_int (fun _ _ => rfl)))) pa_nil))))))) pss_nil)
      (pss_cons (ps_if (pt_cmpR op_eq (pe_ix ix_tup (pv 3) pe_int (fun _ _ => rfl)) pe_str (nomark _)) (pss_cons (ps_par (i := 4) (j := 8) (by rfl) scNx.nd rfl rfl (by decide) rfl rfl (pa_cons (pe_tup (pa_cons pe_int (pa_cons pe_int pa_nil))) (pa_cons (pe_callB (cr_sum rfl) (by rfl) ms (by decide +kernel) (pa_cons (pe_lc (X := (cxOf CX0 P w K mg base NNx "_law_next" (defScope sNx) f cdv A outer s H E).nox) (own := [("_law_weight_here", 9), ("_law_inner_here", 7)]) (g := (gTup K 2 (gCons (gName 9) (gCons (gName 7) gNil)))) (tt := tYes) rfl scNx.nd (pi_tup (pe_slice sl_tupB (pv 3) (po_some pe_int) po_none)) (blkOk_by (N := NNx) (sc := defScope sNx) (by decide +kernel)) (fun _ _ _ _ _ => (pg_tupK (K := K) rfl rfl (pgs_cons (pg_name (i := 9) scNx.nd rfl (.inl rfl)) (pgs_cons (pg_name (i := 7) scNx.nd rfl (.inl rfl)) pgs_nil)))) (fun _ _ _ _ _ => pts_nil) (fun _ _ _ _ _ => (pv 9))) pa_nil)) pa_nil)) (by rfl))
      (pss_one (ps_for PassesOwn.never rfl (pi_tup (pe_slice sl_tupB (pv 3) (po_some pe_int) po_none)) (pg_tupK (K := K) rfl rfl (pgs_cons (pg_name (i := 9) scNx.nd rfl (.inl rfl)) (pgs_cons (pg_name (i := 7) scNx.nd rfl (.inl rfl)) pgs_nil))) (pss_one (ps_set (i := 4) scNx.nd rfl (Or.inl rfl) (pe_call gPl.G (hr.mono (by omega)) (by rfl) gPl.m gPl.k gPl.b .nil pass0 (pa_cons (pv 4) (pa_cons (pe_call gBy.G (hr.mono (by omega)) (by rfl) gBy.m gBy.k gBy.b .nil pass0 (pa_cons (pe_tup (pa_cons (pv 9) (pa_cons (pv 8) pa_nil))) (pa_cons (pe_call GS hr (by rfl) mS kS bS .nil pass0 (pa_cons (pv 7) (pa_cons (pv 1) pa_nil))) pa_nil))) pa_nil)))))))) pss_nil)
      (pss_one (ps_set (i := 2) scNx.nd rfl (Or.inl rfl) (pe_call gBy.G (hr.mono (by omega)) (by rfl) gBy.m gBy.k gBy.b .nil pass0 (pa_cons (pv 2) (pa_cons (pv 4) pa_nil)))))))))))
      (pss_one (ps_ret (pv 2))))), ?_⟩
    obtain ⟨m, a, xs, em, rfl, ha, hx⟩ := hb.open
    obtain rfl : n = m := by omega
    have lx : xs.length = b.length := hx.1
    refine ⟨small1000 (Nat.le_of_ble_eq_true rfl), fun t0 ht0 => ?_⟩
    have s1 := same_new (o := .tup [V.int 1, V.int 1]) ht0
    have h1 : TA (upd H t0 (.tup [V.int 1, V.int 1])) t0 (1, 1) := upd_same
    generalize upd H t0 (.tup [V.int 1, V.int 1]) = H1 at s1 h1 ⊢
    refine ⟨_, rfl, a, rfl, ⟨_, SqT.of (s1 _ _ ha)⟩, ?_⟩
    refine for_it (walk_tup (xs := xs)) (fun i σ Hc => Same H Hc ∧ ∃ (tf : Addr) (x3 x4 x5 x6 x7 x8 x9 : Option V), σ = [some (.ref a), some (.ref d), some (.ref tf), x3, x4, x5, x6, x7, x8, x9] ∧ TA Hc tf (nxt ρ (n + 1) (b.take i)))
      ⟨s1, t0, _, _, _, _, _, _, _, rfl, h1⟩ (fun i σ Hc _ z => SqT.of (z.1 _ _ ha)) ?_ ?_
    · rintro i v0 σ Hq Hc hii ⟨sc, tf, x3, x4, x5, x6, x7, x8, x9, rfl, htf⟩ ⟨rfl, hv0⟩
      obtain ⟨s0, hs0, st⟩ := hx.2 i v0 hv0
      have st := StAt.same st sc
      have ms0 := List.mem_of_getElem? hs0
      obtain ⟨o1, hk⟩ := al s0 ms0
      have chf := (nxt_ok hv (al_take (i := i) al)).1
      have btf := (nxt_ok hv (al_take (i := i) al)).2
      have ppf := pp_ch chf btf (by have := ws_take (gB bt) (n + 1) b i; omega)
      have chs := nxS_ch hv o1 hk
      have bts := nxS_bt hv o1 hk
      have wone := ws_one (gB bt) (n := n) ms0
      have pps := pp_ch chs bts (by omega)
      have nt := nxt_take (ρ := ρ) (n := n) hs0
      refine ⟨small1000 (Nat.le_of_ble_eq_true rfl), fun t1 ht1 => ?_⟩
      have s2 := same_new (o := .tup [V.int 1, V.int 1]) ht1
      have h2 : TA (upd Hc t1 (.tup [V.int 1, V.int 1])) t1 (1, 1) := upd_same
      generalize upd Hc t1 (.tup [V.int 1, V.int 1]) = H2 at s2 h2 ⊢
      have fin : ∀ (a3 a4 a5 a6 a7 a8 a9 : Option V) (H3 : Hp) (tm : Addr), Same Hc H3 → TA H3 tm (nxS (nxt ρ n) ρ s0) →
          spLP byP [V.ref tf, V.ref tm] H3 (fun y H' => Same H H' ∧ ∃ (tf : Addr) (x3 x4 x5 x6 x7 x8 x9 : Option V), [some (V.ref a), some (V.ref d), some y, a3, a4, a5, a6, a7, a8, a9] = [some (.ref a), some (.ref d), some (.ref tf), x3, x4, x5, x6, x7, x8, x9] ∧ TA H' tf (nxt ρ (n + 1) (b.take (i + 1)))) E0 := fun a3 a4 a5 a6 a7 a8 a9 H3 tm s3 h3 =>
        ⟨tf, tm, _, _, rfl, s3 _ _ htf, h3, ppf, pps, fun x hx => ⟨(sc.trans s3).trans (same_new hx), x, _, _, _, _, _, _, _, rfl, by rw [nt]; exact upd_same⟩⟩
      match s0, st, o1, hk, hs0, chs, bts, wone, pps, nt, fin with
      | .note z, st, o1, hk, hs0, chs, bts, wone, pps, nt, fin =>
        obtain ⟨sa, e, hsa⟩ := StAt.same st s2
        cases e
        refine ⟨_, rfl, sa, _, _, _, rfl, rfl, SqT.of hsa, atI_nat (j := 0) rfl, rfl, _, rfl, iteF ?_⟩
        refine ⟨_, rfl, sa, _, _, _, rfl, rfl, SqT.of hsa, atI_nat (j := 0) rfl, rfl, _, rfl, iteF ?_⟩
        refine ⟨_, rfl, sa, _, _, _, rfl, rfl, SqT.of hsa, atI_nat (j := 0) rfl, rfl, _, rfl, iteF ?_⟩
        refine ⟨_, rfl, sa, _, _, _, rfl, rfl, SqT.of hsa, atI_nat (j := 0) rfl, rfl, _, rfl, iteF ?_⟩
        exact ⟨_, rfl, _, rfl, fin _ _ _ _ _ _ _ H2 t1 s2 h2⟩
      | .choose bs, st, o1, hk, hs0, chs, bts, wone, pps, nt, fin =>
        obtain ⟨sa, us, e, hsa, _⟩ := StAt.same st s2
        cases e
        refine ⟨_, rfl, sa, _, _, _, rfl, rfl, SqT.of hsa, atI_nat (j := 0) rfl, rfl, _, rfl, iteF ?_⟩
        refine ⟨_, rfl, sa, _, _, _, rfl, rfl, SqT.of hsa, atI_nat (j := 0) rfl, rfl, _, rfl, iteF ?_⟩
        refine ⟨_, rfl, sa, _, _, _, rfl, rfl, SqT.of hsa, atI_nat (j := 0) rfl, rfl, _, rfl, iteF ?_⟩
        refine ⟨_, rfl, sa, _, _, _, rfl, rfl, SqT.of hsa, atI_nat (j := 0) rfl, rfl, _, rfl, iteF ?_⟩
        exact ⟨_, rfl, _, rfl, fin _ _ _ _ _ _ _ H2 t1 s2 h2⟩
      | .stay, st, o1, hk, hs0, chs, bts, wone, pps, nt, fin =>
        obtain ⟨sa, e, hsa⟩ := StAt.same st s2
        cases e
        refine ⟨_, rfl, sa, _, _, _, rfl, rfl, SqT.of hsa, atI_nat (j := 0) rfl, rfl, _, rfl, iteT ?_⟩
        refine ⟨small1000 (Nat.le_of_ble_eq_true rfl), fun t2 ht2 => ?_⟩
        have s3 := same_new (o := .tup [V.int 0, V.int 1]) ht2
        have h3 : TA (upd H2 t2 (.tup [V.int 0, V.int 1])) t2 (0, 1) := upd_same
        have hsa3 := s3 _ _ hsa
        generalize upd H2 t2 (.tup [V.int 0, V.int 1]) = H3 at s3 h3 hsa3 ⊢
        refine ⟨_, rfl, sa, _, _, _, rfl, rfl, SqT.of hsa3, atI_nat (j := 0) rfl, rfl, _, rfl, iteF ?_⟩
        refine ⟨_, rfl, sa, _, _, _, rfl, rfl, SqT.of hsa3, atI_nat (j := 0) rfl, rfl, _, rfl, iteF ?_⟩
        refine ⟨_, rfl, sa, _, _, _, rfl, rfl, SqT.of hsa3, atI_nat (j := 0) rfl, rfl, _, rfl, iteF ?_⟩
        exact ⟨_, rfl, _, rfl, fin _ _ _ _ _ _ _ H3 t2 (s2.trans s3) h3⟩
      | .call z, st, o1, hk, hs0, chs, bts, wone, pps, nt, fin =>
        obtain ⟨sa, e, hsa⟩ := StAt.same st s2
        cases e
        refine ⟨_, rfl, sa, _, _, _, rfl, rfl, SqT.of hsa, atI_nat (j := 0) rfl, rfl, _, rfl, iteF ?_⟩
        refine ⟨_, rfl, sa, _, _, _, rfl, rfl, SqT.of hsa, atI_nat (j := 0) rfl, rfl, _, rfl, iteT ?_⟩
        obtain ⟨kvs, hd2, hvals⟩ := (hd.same sc).same s2
        obtain ⟨av, ev, hav⟩ := hvals z (o1.2 z rfl)
        refine ⟨_, rfl, _, rfl, sa, _, _, _, rfl, rfl, SqT.of hsa, atI_nat (j := 1) rfl, d, .ref av, rfl, by rw [← ev]; exact DGet.k (k := .inr z) hd2, ?_⟩
        refine ⟨_, rfl, sa, _, _, _, rfl, rfl, SqT.of hsa, atI_nat (j := 0) rfl, rfl, _, rfl, iteF ?_⟩
        refine ⟨_, rfl, sa, _, _, _, rfl, rfl, SqT.of hsa, atI_nat (j := 0) rfl, rfl, _, rfl, iteF ?_⟩
        exact ⟨_, rfl, _, rfl, fin _ _ _ _ _ _ _ H2 av s2 hav⟩
      | .again wi wj k, st, o1, hk, hs0, chs, bts, wone, pps, nt, fin =>
        obtain ⟨sa, uw, e, hsa, hkb⟩ := StAt.same st s2
        cases e
        refine ⟨_, rfl, sa, _, _, _, rfl, rfl, SqT.of hsa, atI_nat (j := 0) rfl, rfl, _, rfl, iteF ?_⟩
        refine ⟨_, rfl, sa, _, _, _, rfl, rfl, SqT.of hsa, atI_nat (j := 0) rfl, rfl, _, rfl, iteF ?_⟩
        refine ⟨_, rfl, sa, _, _, _, rfl, rfl, SqT.of hsa, atI_nat (j := 0) rfl, rfl, _, rfl, iteT ?_⟩
        obtain ⟨w1, w2⟩ := again_of o1.1
        have alk := hk k (List.mem_singleton.mpr rfl)
        obtain ⟨chk, btk⟩ := nxt_ok hv alk
        have wk : 8 + ws (gB bt) n k ≤ 2900 := by
          have : 8 + (([k] : List Bd).map (ws (gB bt) n)).sum ≤ ws (gB bt) (n + 1) b := wone
          rw [List.map_cons, List.map_nil, List.sum_cons, List.sum_nil] at this
          omega
        have ppk := pp_ch chk btk (by omega)
        obtain ⟨D0, Dup, _, _⟩ := nx_again w1 w2 chk btk
        refine ⟨_, rfl, sa, _, _, _, rfl, rfl, SqT.of hsa, atI_nat (j := 1) rfl, _, rfl, sa, _, _, _, rfl, rfl, SqT.of hsa, atI_nat (j := 2) rfl, _, _, rfl, ?_⟩
        refine ⟨_, rfl, sa, _, _, _, rfl, rfl, SqT.of hsa, atI_nat (j := 3) rfl, _, rfl, uw, d, k, ρ, ns, bt, rfl, hkb, alk, (hd.same sc).same s2, hv, by omega, fun tk H3 s3 hk3 => ?_⟩
        have hsa3 := s3 _ _ hsa
        generalize hX : nxt ρ n k = X at chk btk ppk D0 Dup hk3
        have cm : ∀ {u v : Int}, u.natAbs < 2 ^ 3000 → v.natAbs < 2 ^ 3000 → CMulW u v := fun hu hv => wide_mul hu hv (by decide) (by decide) (by decide)
        have sm3 : ∀ {u : Int}, 0 ≤ u → u ≤ 99 + 99 → u.natAbs < 2 ^ 3000 := fun h1 h2 => Nat.lt_of_le_of_lt (show _ ≤ 198 by omega) (Nat.lt_of_lt_of_le (show 198 < 2 ^ 8 by decide) (Nat.pow_le_pow_right (by decide) (by decide)))
        refine ⟨_, rfl, _, rfl, tk, _, _, _, rfl, rfl, SqT.of hk3, atI_nat (j := 1) rfl, _, _, rfl, rfl, cm (sm3 (by omega) (by omega)) ppk.bz, ?_⟩
        refine ⟨_, rfl, _, rfl, _, _, rfl, rfl, _, rfl, tk, _, _, _, rfl, rfl, SqT.of hk3, atI_nat (j := 1) rfl, _, _, rfl, rfl, cm (sm3 (by omega) (by omega)) ppk.bz, ?_⟩
        refine ⟨_, rfl, _, rfl, tk, _, _, _, rfl, rfl, SqT.of hk3, atI_nat (j := 0) rfl, _, _, rfl, rfl, cm (sm3 (by omega) (by omega)) ppk.tz, ?_⟩
        refine ⟨_, _, rfl, rfl, _, _, rfl, D0, ?_, fun tm htm => ?_⟩
        · have : ((2 ^ (8 + ws (gB bt) n k) : Nat) : Int) = 2 ^ (8 + ws (gB bt) n k) := Int.natCast_pow 2 _
          have h3 : (2 : Nat) ^ (8 + ws (gB bt) n k) < 2 ^ 8000 := Nat.pow_lt_pow_right (by decide) (by omega)
          rw [← this] at Dup
          have : ((wi + wj) * X.2 - wj * X.1).natAbs ≤ 2 ^ (8 + ws (gB bt) n k) := by omega
          exact Nat.lt_of_le_of_lt this h3
        have s4 := same_new (o := .tup [V.int (nT (wi * X.2) ((wi + wj) * X.2 - wj * X.1)), V.int (nB (wi * X.2) ((wi + wj) * X.2 - wj * X.1))]) htm
        have h4 : TA (upd H3 tm (.tup [V.int (nT (wi * X.2) ((wi + wj) * X.2 - wj * X.1)), V.int (nB (wi * X.2) ((wi + wj) * X.2 - wj * X.1))])) tm (nxS (nxt ρ n) ρ (.again wi wj k)) := by
          show _ = some (HO.tup [V.int (lf (wi * (nxt ρ n k).2, (wi + wj) * (nxt ρ n k).2 - wj * (nxt ρ n k).1)).1, V.int (lf (wi * (nxt ρ n k).2, (wi + wj) * (nxt ρ n k).2 - wj * (nxt ρ n k).1)).2])
          rw [hX]
          exact upd_same
        have hsa4 := s4 _ _ hsa3
        generalize upd H3 tm (.tup [V.int (nT (wi * X.2) ((wi + wj) * X.2 - wj * X.1)), V.int (nB (wi * X.2) ((wi + wj) * X.2 - wj * X.1))]) = H4 at s4 h4 hsa4 ⊢
        refine ⟨_, rfl, sa, _, _, _, rfl, rfl, SqT.of hsa4, atI_nat (j := 0) rfl, rfl, _, rfl, iteF ?_⟩
        exact ⟨_, rfl, _, rfl, fin _ _ _ _ _ _ _ H4 tm ((s2.trans s3).trans s4) h4⟩
      | .toss rs, st, o1, hk, hs0, chs, bts, wone, pps, nt, fin =>
        obtain ⟨sa, us, e, hsa, hrs⟩ := StAt.same st s2
        cases e
        refine ⟨_, rfl, sa, _, _, _, rfl, rfl, SqT.of hsa, atI_nat (j := 0) rfl, rfl, _, rfl, iteF ?_⟩
        refine ⟨_, rfl, sa, _, _, _, rfl, rfl, SqT.of hsa, atI_nat (j := 0) rfl, rfl, _, rfl, iteF ?_⟩
        refine ⟨_, rfl, sa, _, _, _, rfl, rfl, SqT.of hsa, atI_nat (j := 0) rfl, rfl, _, rfl, iteF ?_⟩
        refine ⟨_, rfl, sa, _, _, _, rfl, rfl, SqT.of hsa, atI_nat (j := 0) rfl, rfl, _, rfl, iteT ?_⟩
        obtain ⟨r1, r2, r3⟩ := toss_of o1.1
        obtain ⟨w1, w2⟩ := wsum_pos r3
        have lus : us.length = rs.length := hrs.1
        have hN : ∀ r ∈ rs, Ch (nxt ρ n r.2) ∧ Bt (ws (gB bt) n r.2) (nxt ρ n r.2) := fun r hr => nxt_ok hv (hk r.2 (List.mem_map.mpr ⟨r, hr, rfl⟩))
        have wr : (rs.map fun r => 9 + ws (gB bt) n r.2).sum ≤ 2900 := by
          rw [toss_sum]
          exact Nat.le_trans wone hz
        refine ⟨small1000 (Nat.le_of_ble_eq_true rfl), fun t2 ht2 => ?_⟩
        have s3 := same_new (o := .tup [V.int 0, V.int 1]) ht2
        have h3 : TA (upd H2 t2 (.tup [V.int 0, V.int 1])) t2 (0, 1) := upd_same
        have hsa3 := s3 _ _ hsa
        generalize upd H2 t2 (.tup [V.int 0, V.int 1]) = H3 at s3 h3 hsa3 ⊢
        refine ⟨_, rfl, _, rfl, sa, _, rfl, hsa3, fun pu H4 s4 hpu => ?_⟩
        rw [show cutV (V.str "toss" :: us) (some 1) none = us from cut_from _ 1] at hpu
        have hrs4 : AG (fun w r => ∃ p x, w = .ref p ∧ H4 p = some (.tup [.int r.1, x]) ∧ BdAt n H4 x r.2) us rs := hrs.imp fun _ _ ⟨p, x, e1, e2, e3⟩ => ⟨p, x, e1, s4 _ _ (s3 _ _ e2), (e3.same s3).same s4⟩
        refine ⟨pu, rfl, ⟨_, SqT.of hpu⟩, fun D hD => ?_⟩
        refine lc_tup (xs := us) (fun i Hx => Same H4 Hx ∧ Hx D = some (.lst (((rs.map (·.1)).take i).map V.int))) ⟨same_new hD, upd_same⟩ (fun i Hx _ p' => SqT.of (p'.1 _ _ hpu)) ?_ ?_
        · rintro j vj Hx hvj ⟨sx, hDx⟩
          obtain ⟨r, hr', p0, x0, rfl, h0, _⟩ := hrs4.2 j vj hvj
          refine ⟨p0, _, rfl, SqT.of (sx _ _ h0), rfl, _, _, rfl, _, _, rfl, rfl, rfl, ?_⟩
          refine ⟨_, rfl, _, hDx, small1000 (by rw [List.length_map, List.length_take, List.length_map]; omega), same_upd hD sx, ?_⟩
          have hr2 : (rs.map (·.1))[j]? = some r.1 := by rw [List.getElem?_map, hr']; rfl
          rw [take_snoc hr2, List.map_append]
          exact upd_same
        rintro Hx ⟨sx, hDx⟩
        rw [List.take_of_length_le (by rw [List.length_map, lus]; exact Nat.le_refl _)] at hDx
        refine ⟨D, _, rfl, SqL.of hDx, _, _, rfl, ?_⟩
        have s24 := (s3.trans s4).trans sx
        refine ⟨_, rfl, _, rfl, sa, _, rfl, (sx _ _ (s4 _ _ hsa3)), fun pv H5 s5 hpv => ?_⟩
        rw [show cutV (V.str "toss" :: us) (some 1) none = us from cut_from _ 1] at hpv
        have s25 := s24.trans s5
        have hrs5 : AG (fun w r => ∃ p x, w = .ref p ∧ H5 p = some (.tup [.int r.1, x]) ∧ BdAt n H5 x r.2) us rs := hrs.imp fun _ _ ⟨p, x, e1, e2, e3⟩ => ⟨p, x, e1, s25 _ _ e2, e3.same s25⟩
        refine ⟨pv, rfl, ⟨_, SqT.of hpv⟩, ?_⟩
        refine for_it (walk_tup (xs := us)) (fun j σ Hy => Same H5 Hy ∧ ∃ (tm : Addr) (y7 y9 : Option V), σ = [some (.ref a), some (.ref d), some (.ref tf), some (.ref sa), some (.ref tm), x5, x6, y7, some (.int (wsum rs)), y9] ∧ TA Hy tm (tossA (nxt ρ n) rs j))
          ⟨Same.refl H5, t2, _, _, rfl, s5 _ _ (sx _ _ (s4 _ _ h3))⟩ (fun j σ Hy _ z => SqT.of (z.1 _ _ hpv)) ?_ ?_
        · rintro j vj σ Hq Hy hjj ⟨sy, tm, y7, y9, rfl, htm⟩ ⟨rfl, hvj⟩
          obtain ⟨r, hr', p0, x0, rfl, h0, hb0⟩ := hrs5.2 j vj hvj
          have mr := List.mem_of_getElem? hr'
          obtain ⟨chr, btr⟩ := hN r mr
          have wr1 : 9 + ws (gB bt) n r.2 ≤ 2900 := Nat.le_trans (len_mem_sum (f := fun r : Int × Bd => 9 + ws (gB bt) n r.2) mr) wr
          have wrr := r3 r mr
          obtain ⟨chA, btA⟩ := toss_ch o1.1 hN j
          refine ⟨p0, _, rfl, SqT.of (sy _ _ h0), rfl, _, _, rfl, _, _, rfl, rfl, ?_⟩
          refine ⟨_, rfl, _, rfl, _, rfl, small1000 (Nat.le_of_ble_eq_true rfl), fun tw htw => ?_⟩
          have s6 := same_new (o := .tup [V.int r.1, V.int (wsum rs)]) htw
          have h6 : TA (upd Hy tw (.tup [V.int r.1, V.int (wsum rs)])) tw (r.1, wsum rs) := upd_same
          generalize upd Hy tw (.tup [V.int r.1, V.int (wsum rs)]) = H6 at s6 h6 ⊢
          refine ⟨_, rfl, _, rfl, x0, d, r.2, ρ, ns, bt, rfl, hb0.same (sy.trans s6), hk r.2 (List.mem_map.mpr ⟨r, mr, rfl⟩), ((((hd.same sc).same s2).same s25).same sy).same s6, hv, by omega, fun tk H7 s7 htk => ?_⟩
          have ppw : Pp (r.1, wsum rs) := by
            have big : (400 : Nat) < 2 ^ 3000 := Nat.lt_of_lt_of_le (show 400 < 2 ^ 9 by decide) (Nat.pow_le_pow_right (by decide) (by decide))
            exact ⟨by show 0 < wsum rs; omega, Nat.lt_of_le_of_lt (show r.1.natAbs ≤ 400 by omega) big, Nat.lt_of_le_of_lt (show (wsum rs).natAbs ≤ 400 by omega) big⟩
          refine ⟨tw, tk, _, _, rfl, s7 _ _ h6, htk, ppw, pp_ch chr btr (by omega), fun ty hty => ?_⟩
          have s8 := same_new (o := .tup [V.int (byP (r.1, wsum rs) (nxt ρ n r.2)).1, V.int (byP (r.1, wsum rs) (nxt ρ n r.2)).2]) hty
          have h8 : TA (upd H7 ty (.tup [V.int (byP (r.1, wsum rs) (nxt ρ n r.2)).1, V.int (byP (r.1, wsum rs) (nxt ρ n r.2)).2])) ty (byP (r.1, wsum rs) (nxt ρ n r.2)) := upd_same
          generalize upd H7 ty (.tup [V.int (byP (r.1, wsum rs) (nxt ρ n r.2)).1, V.int (byP (r.1, wsum rs) (nxt ρ n r.2)).2]) = H8 at s8 h8 ⊢
          have s68 := (s6.trans s7).trans s8
          have chy : Ch (byP (r.1, wsum rs) (nxt ρ n r.2)) := by
            have W0 : 0 < wsum rs := by omega
            refine ch_lf (Int.mul_pos W0 chr.red.1) (Int.mul_nonneg (by omega) chr.lo) ?_
            have le1 : r.1 ≤ wsum rs := by
              have : ∀ {l : List (Int × Bd)}, (∀ y ∈ l, 1 ≤ y.1 ∧ y.1 ≤ 99) → r ∈ l → r.1 ≤ wsum l := fun {l} => by
                induction l with
                | nil => exact fun _ h => absurd h List.not_mem_nil
                | cons y l ih =>
                  intro h hm
                  have hl := wsum_pos (rs := l) fun y m => h y (List.mem_cons_of_mem _ m)
                  have hy := h y List.mem_cons_self
                  show r.1 ≤ y.1 + wsum l
                  rcases List.mem_cons.mp hm with e | m
                  · rw [e]; omega
                  · have := ih (fun y m => h y (List.mem_cons_of_mem _ m)) m
                    omega
              exact this r3 mr
            have a1 := Int.mul_le_mul_of_nonneg_right le1 chr.lo
            have a2 := Int.mul_le_mul_of_nonneg_left chr.hi (Int.le_of_lt W0)
            exact Int.le_trans a1 a2
          have bty : Bt (9 + ws (gB bt) n r.2) (byP (r.1, wsum rs) (nxt ρ n r.2)) := Bt.by_ (e := 9) (by
            show wsum rs ≤ 2 ^ 9
            have : (2 : Int) ^ 9 = 512 := by decide
            omega) btr (by show 0 < wsum rs; omega) chr.red.1
          refine ⟨tm, ty, _, _, rfl, s68 _ _ htm, h8, pp_ch chA btA (Nat.lt_of_le_of_lt wr (by decide)), pp_ch chy bty (by omega), fun tz htz => ?_⟩
          refine ⟨(sy.trans s68).trans (same_new htz), tz, _, _, rfl, ?_⟩
          rw [tossA_next hr']
          exact upd_same
        · rintro σ Hy ⟨sy, tm, y7, y9, rfl, htm⟩
          rw [lus] at htm
          have et : tossA (nxt ρ n) rs rs.length = nxS (nxt ρ n) ρ (.toss rs) := by
            unfold tossA
            rw [List.take_length]
            rfl
          rw [et] at htm
          exact ⟨_, rfl, _, rfl, fin _ _ _ _ _ _ _ Hy tm ((s2.trans s25).trans sy) htm⟩
    · rintro σ Hc ⟨sc, tf, x3, x4, x5, x6, x7, x8, x9, rfl, htf⟩
      rw [lx, List.take_length] at htf
      exact ⟨_, rfl, q tf Hc sc htf⟩
theorem ok_nxs {f : Addr} {fd : FuncData} (F : Fun K "_law_next" "_law_next" sNx f fd) (ms : mg "sum" = none) (gPl : Glo P w K mg base "_law_plus" 3 N12 (spLP plusP)) (gBy : Glo P w K mg base "_law_by" 3 N12 (spLP byP)) (gRt : Glo P w K mg base "_law_ratio" 2 ["_law_top", "_law_bottom"] spRat)
    (mS : mg "_law_next" = some (.ref f)) (kS : PySem.W.keepIn K (.ref f) = true) (bS : Binds K fd ["_law_body_here", "_law_values_here"] []) : ∀ n, FnOk P w K mg base CX0 (n + 3) f fd ["_law_body_here", "_law_values_here"] (spNx n)
  | 0 => by
    refine F.ok scNx (fun vs H Q E h => ?_) (fun cdv A outer s H vs Q E hr h => ?_)
    · obtain ⟨v, d, b, ρ, ns, bt, rfl, _⟩ := h
      rfl
    · obtain ⟨v, d, b, ρ, ns, bt, rfl, h, _⟩ := h
      exact h.elim
  | n + 1 => ok_nx F ms gPl gBy gRt (ok_nxs F ms gPl gBy gRt mS kS bS n) (by omega) mS kS bS
end
end FR
set_option Elab.async false
set_option pp.maxSteps 1500
set_option linter.all false
set_option maxRecDepth 100000
set_option maxHeartbeats 1000000
/-! _law_values -/
namespace FR
open PySem PySem.Spec PyProof.Rows L2 LD
abbrev sVl : Stmt := FR.top 69
abbrev NVl : List Str := ["_law_dice_here", "_law_names", "_law_one"]
theorem scVl : FnScope NVl ["_law_dice_here", "_law_names"] (defScope sVl) := ⟨rfl, rfl, rfl, by decide +kernel, rfl, by decide +kernel, by decide +kernel⟩
theorem valV_nd {kvs : List (Key × V)} (nd : (kvs.map (·.1)).Nodup) : ∀ {j : Nat} {k : Key} {v : V}, kvs[j]? = some (k, v) → valV kvs k = some v := by
  intro j k v e
  induction kvs generalizing j with
  | nil => cases e
  | cons x kvs ih =>
    obtain ⟨k0, v0⟩ := x
    cases j with
    | zero =>
      cases e
      exact valV_pos rfl
    | succ j =>
      have nd2 := List.nodup_cons.mp nd
      have hm : k ∈ kvs.map (·.1) := List.mem_map.mpr ⟨(k, v), List.mem_of_getElem? e, rfl⟩
      have ne : ¬ k0 = k := fun c => nd2.1 (by rw [← c] at hm; exact hm)
      rw [valV_neg ne]
      exact ih nd2.2 e
/-- the chances that are drawn -/
def fiveP : List PI := [(0, 1), (1, 1), (1, 2), (2, 3), (1, 9)]
theorem ch_dec {p : PI} (h : 0 < p.2 ∧ lf p = p ∧ 0 ≤ p.1 ∧ p.1 ≤ p.2) : Ch p := ⟨⟨h.1, h.2.1⟩, h.2.2.1, h.2.2.2⟩
theorem fiveP_ok : ∀ p ∈ fiveP, Ch p ∧ Bt 4 p := fun p hp => by
  have h : ∀ q ∈ fiveP, (0 < q.2 ∧ lf q = q ∧ 0 ≤ q.1 ∧ q.1 ≤ q.2) ∧ q.2 ≤ 2 ^ 4 := by decide +kernel
  exact ⟨ch_dec (h p hp).1, (h p hp).2⟩
def VaT (H : Hp) (v : V) (y : Str × PI) : Prop := ∃ t a, v = .ref t ∧ H t = some (.tup [.str y.1, .ref a]) ∧ TA H a y.2
theorem Tk.vaT {H H' : Hp} (k : Tk H H') {v : V} {y : Str × PI} (h : VaT H v y) : VaT H' v y := by
  obtain ⟨t, a, e, h1, h2⟩ := h
  exact ⟨t, a, e, k.1 _ _ h1, k.1 _ _ h2⟩
/-- a dict of values -/
def VlK (H : Hp) (kvs : List (Key × V)) (ys : List (Str × PI)) : Prop := kvs.length = ys.length ∧ ∀ (i : Nat) (k : Key) (v : V), kvs[i]? = some (k, v) → ∃ y a, ys[i]? = some y ∧ k = .inr y.1 ∧ v = .ref a ∧ TA H a y.2
theorem Tk.vlK {H H' : Hp} (t : Tk H H') {kvs : List (Key × V)} {ys : List (Str × PI)} (h : VlK H kvs ys) : VlK H' kvs ys := ⟨h.1, fun i k v e => by
  obtain ⟨y, a, h1, h2, h3, h4⟩ := h.2 i k v e
  exact ⟨y, a, h1, h2, h3, t.1 _ _ h4⟩⟩
theorem VlK.keys {H : Hp} {kvs : List (Key × V)} {ys : List (Str × PI)} (h : VlK H kvs ys) : kvs.map (·.1) = (ys.map (·.1)).map Sum.inr := by
  apply List.ext_getElem?
  intro i
  rw [List.getElem?_map, List.getElem?_map, List.getElem?_map]
  cases e : kvs[i]? with
  | none =>
    have : ys[i]? = none := by
      rw [List.getElem?_eq_none_iff] at e ⊢
      rw [← h.1]
      exact e
    rw [this]
    rfl
  | some kv =>
    obtain ⟨y, a, h1, h2, _⟩ := h.2 i kv.1 kv.2 e
    rw [h1]
    show some kv.1 = some (Sum.inr y.1)
    rw [h2]
theorem vals_at {K : PySem.W.Frag} {H : Hp} : ∀ {vs : List V} {ys : List (Str × PI)}, AG (fun v y => VaT H v y) vs ys → ∃ (qs : List Addr) (kvs : List (Key × V)), vs = qs.map V.ref ∧ Paired (fun p kv => SqT K H p [kV kv.1, kv.2]) qs kvs ∧ VlK H kvs ys
  | [], [], _ => ⟨[], [], rfl, .nil, rfl, fun i k v e => by simp at e⟩
  | [], _ :: _, h => by simp [AG] at h
  | _ :: _, [], h => by simp [AG] at h
  | v :: vs, y :: ys, h => by
    obtain ⟨⟨t, a, rfl, h1, h2⟩, h3⟩ := AG.uncons h
    obtain ⟨qs, kvs, rfl, g1, g2, g3⟩ := vals_at (K := K) h3
    refine ⟨t :: qs, (.inr y.1, .ref a) :: kvs, rfl, .cons (SqT.of h1) g1, by simp [g2], fun i k u e => ?_⟩
    cases i with
    | zero => cases e; exact ⟨y, a, rfl, rfl, rfl, h2⟩
    | succ i => exact g3 i k u e
theorem mergeK_new : ∀ {more kvs : List (Key × V)}, ((kvs ++ more).map (·.1)).Nodup → mergeK kvs more = kvs ++ more
  | [], kvs, _ => (List.append_nil kvs).symm
  | kv :: more, kvs, h => by
    have e : kvs ++ kv :: more = (kvs ++ [kv]) ++ more := by rw [List.append_assoc]; rfl
    have hn : valV kvs kv.1 = none := by
      cases c : valV kvs kv.1 with
      | none => rfl
      | some v =>
        have hm := valV_in c
        rw [List.map_append] at h
        exact absurd rfl ((List.nodup_append.mp h).2.2 kv.1 hm kv.1 List.mem_cons_self)
    show mergeK (putK kvs kv.1 kv.2) more = _
    rw [putK_new _ hn, e]
    rw [e] at h
    exact mergeK_new h
/-- the values as a function -/
def rhoOf (ys : List (Str × PI)) (z : Str) : PI := ((ys.find? fun y => decide (y.1 = z)).map (·.2)).getD (1, 1)
theorem rho_at : ∀ {ys : List (Str × PI)} {i : Nat} {y : Str × PI}, (ys.map (·.1)).Nodup → ys[i]? = some y → rhoOf ys y.1 = y.2
  | [], _, _, _, h => by cases h
  | x :: ys, 0, y, _, h => by
    cases h
    unfold rhoOf
    rw [List.find?_cons_of_pos (by simp)]
    rfl
  | x :: ys, i + 1, y, hn, h => by
    have n2 := List.nodup_cons.mp hn
    have h : ys[i]? = some y := h
    have ne : x.1 ≠ y.1 := fun c => n2.1 (by show x.1 ∈ _; rw [c]; exact List.mem_map.mpr ⟨y, List.mem_of_getElem? h, rfl⟩)
    have := rho_at n2.2 h
    unfold rhoOf at this ⊢
    rw [List.find?_cons_of_neg (by simp [ne])]
    exact this
theorem VlK.vlD {H : Hp} {d : Addr} {kvs : List (Key × V)} {ys : List (Str × PI)} (h : VlK H kvs ys) (hd : H d = some (.dK kvs)) (hn : (ys.map (·.1)).Nodup) : VlD H d (ys.map (·.1)) (rhoOf ys) := by
  refine ⟨kvs, hd, fun z hz => ?_⟩
  obtain ⟨y, hy, rfl⟩ := List.mem_map.mp hz
  obtain ⟨i, hi, e⟩ := List.getElem_of_mem hy
  have ey : ys[i]? = some y := by rw [List.getElem?_eq_getElem hi, e]
  have hi' : i < kvs.length := by rw [h.1]; exact hi
  obtain ⟨y', a, h1, h2, h3, h4⟩ := h.2 i kvs[i].1 kvs[i].2 (List.getElem?_eq_getElem hi')
  rw [ey] at h1
  cases h1
  refine ⟨a, ?_, by rw [rho_at hn ey]; exact h4⟩
  have nd : (kvs.map (·.1)).Nodup := by
    rw [h.keys]
    exact List.Pairwise.map _ (fun a b h c => h (Sum.inr.inj c)) hn
  have ek : kvs[i]? = some (Sum.inr y.1, V.ref a) := by rw [List.getElem?_eq_getElem hi', ← h2, ← h3]
  exact valV_nd nd ek
section
variable {P : Program} {w : World} {K : PySem.W.Frag} {mg : Str → Option Value} {base : Heap}
def spVl : Sp := fun vs H Q _ => ∃ (d l : Addr) (ns : List Str), vs = [.ref d, .ref l] ∧ DiceAt H d ∧ H l = some (.lst (ns.map V.str)) ∧ l ≠ d ∧ ns.Nodup ∧ ns.length ≤ 8 ∧
  ∀ t kvs ys H', H t = none → Rl d H H' → H' t = some (.dK kvs) → VlK H' kvs ys → ys.map (·.1) = ns → (∀ y ∈ ys, Ch y.2 ∧ Bt 4 y.2) → Q (.ref t) H'
theorem ok_vl {f : Addr} {fd : FuncData} (F : Fun K "_law_values" "_law_values" sVl f fd) (md : mg "dict" = none) (gO : Glo P w K mg base "_law_one_of" 2 ["_law_dice_here", "_law_items"] spOneOf) : FnOk P w K mg base CX0 3 f fd ["_law_dice_here", "_law_names"] spVl := by
  refine F.ok scVl (fun vs H Q E h => ?_) (fun cdv A outer s H vs Q E hr h => ?_)
  · obtain ⟨d, l, ns, rfl, _⟩ := h
    rfl
  · obtain ⟨d, l, ns, rfl, hd, hl, nl, hn, l8, q⟩ := h
    refine ⟨_, (pss_one (ps_ret (pe_callTy (call_dictP rfl) (by rfl) md (by decide +kernel) (pa_cons (pe_lc (X := (cxOf CX0 P w K mg base NVl "_law_values" (defScope sVl) f cdv A outer s H E).nox) (own := [("_law_one", 2)]) (g := (gName 2)) (tt := tYes) rfl scVl.nd (pi_list (pv 1)) (blkOk_by (N := NVl) (sc := defScope sVl) (by decide +kernel)) (fun _ _ _ _ _ => (pg_name (i := 2) scVl.nd rfl (.inl rfl))) (fun _ _ _ _ _ => pts_nil) (fun _ _ _ _ _ => (pe_tup (pa_cons (pv 2) (pa_cons (pe_call gO.G (hr.mono (by decide)) (by rfl) gO.m gO.k gO.b .nil pass0 (pa_cons (pv 0) (pa_cons (pe_lst (pa_cons (pe_tup (pa_cons pe_int (pa_cons pe_int pa_nil))) (pa_cons (pe_tup (pa_cons pe_int (pa_cons pe_int pa_nil))) (pa_cons (pe_tup (pa_cons pe_int (pa_cons pe_int pa_nil))) (pa_cons (pe_tup (pa_cons pe_int (pa_cons pe_int pa_nil))) (pa_cons (pe_tup (pa_cons pe_int (pa_cons pe_int pa_nil))) pa_nil)))))) pa_nil))) pa_nil))))) pa_nil)))), ?_⟩
    refine ⟨_, rfl, l, rfl, ⟨_, SqL.of hl⟩, fun D hD => ?_⟩
    have nDd : D ≠ d := by
      obtain ⟨x, y, z, e⟩ := hd
      exact fun c => by rw [c, e] at hD; cases hD
    refine lc_list (xs := ns.map V.str) (fun j Hc => Rl d H Hc ∧ ∃ us ys, Hc D = some (.lst us) ∧ AG (fun v y => VaT Hc v y) us ys ∧ ys.map (·.1) = ns.take j ∧ ∀ y ∈ ys, y.2 ∈ fiveP) ⟨(Rl.refl hd).same (same_new hD), [], [], upd_same, AG.nil, rfl, fun y hy => absurd hy List.not_mem_nil⟩ (fun j Hc _ p' => SqL.of (p'.1.2 _ _ nl hl)) ?_ ?_
    · rintro j v0 Hc hv0 ⟨rc, us, ys, hDc, hu, ey, h5⟩
      have jj := (List.getElem?_eq_some_iff.mp hv0).1
      rw [List.length_map] at jj
      obtain ⟨z, hz, rfl⟩ : ∃ z, ns[j]? = some z ∧ v0 = .str z := by
        rw [List.getElem?_map] at hv0
        cases e : ns[j]? with
        | none => rw [e] at hv0; cases hv0
        | some z => rw [e] at hv0; cases hv0; exact ⟨z, rfl, rfl⟩
      have lys : ys.length = j := by
        have := congrArg List.length ey
        rw [List.length_map, List.length_take] at this
        omega
      have lus : us.length = j := by rw [hu.1, lys]
      refine ⟨rfl, _, rfl, _, rfl, ?_⟩
      refine ⟨small1000 (Nat.le_of_ble_eq_true rfl), fun a1 ha1 => ?_⟩
      have s1 := same_new (o := .tup [V.int 0, V.int 1]) ha1
      have h1 : TA (upd Hc a1 (.tup [V.int 0, V.int 1])) a1 (0, 1) := upd_same
      generalize upd Hc a1 (.tup [V.int 0, V.int 1]) = H1 at s1 h1 ⊢
      refine ⟨small1000 (Nat.le_of_ble_eq_true rfl), fun a2 ha2 => ?_⟩
      have s2 := same_new (o := .tup [V.int 1, V.int 1]) ha2
      have h2 : TA (upd H1 a2 (.tup [V.int 1, V.int 1])) a2 (1, 1) := upd_same
      generalize upd H1 a2 (.tup [V.int 1, V.int 1]) = H2 at s2 h2 ⊢
      refine ⟨small1000 (Nat.le_of_ble_eq_true rfl), fun a3 ha3 => ?_⟩
      have s3 := same_new (o := .tup [V.int 1, V.int 2]) ha3
      have h3 : TA (upd H2 a3 (.tup [V.int 1, V.int 2])) a3 (1, 2) := upd_same
      generalize upd H2 a3 (.tup [V.int 1, V.int 2]) = H3 at s3 h3 ⊢
      refine ⟨small1000 (Nat.le_of_ble_eq_true rfl), fun a4 ha4 => ?_⟩
      have s4 := same_new (o := .tup [V.int 2, V.int 3]) ha4
      have h4 : TA (upd H3 a4 (.tup [V.int 2, V.int 3])) a4 (2, 3) := upd_same
      generalize upd H3 a4 (.tup [V.int 2, V.int 3]) = H4 at s4 h4 ⊢
      refine ⟨small1000 (Nat.le_of_ble_eq_true rfl), fun a5 ha5 => ?_⟩
      have s5 := same_new (o := .tup [V.int 1, V.int 9]) ha5
      have h5' : TA (upd H4 a5 (.tup [V.int 1, V.int 9])) a5 (1, 9) := upd_same
      generalize upd H4 a5 (.tup [V.int 1, V.int 9]) = H5 at s5 h5' ⊢
      refine ⟨small1000 (Nat.le_of_ble_eq_true rfl), fun lp hlp => ?_⟩
      have s6 := same_new (o := .lst [V.ref a1, .ref a2, .ref a3, .ref a4, .ref a5]) hlp
      have h6 : upd H5 lp (.lst [V.ref a1, .ref a2, .ref a3, .ref a4, .ref a5]) lp = some (.lst [V.ref a1, .ref a2, .ref a3, .ref a4, .ref a5]) := upd_same
      have s05 := (((s1.trans s2).trans s3).trans s4).trans s5
      have r5 := rc.same s05
      have nlp : lp ≠ d := by
        obtain ⟨x, y, z, e⟩ := r5.1
        exact fun c => by rw [c, e] at hlp; cases hlp
      have r6 := r5.same s6
      have s56 := s5.trans s6
      have s46 := s4.trans s56
      have s36 := s3.trans s46
      have s26 := s2.trans s36
      have all5 : ∀ (k : Nat) (x : V), ([V.ref a1, .ref a2, .ref a3, .ref a4, .ref a5] : List V)[k]? = some x → ∃ a pp, x = .ref a ∧ TA (upd H5 lp (.lst [V.ref a1, .ref a2, .ref a3, .ref a4, .ref a5])) a pp ∧ pp ∈ fiveP := fun k x e => by
        match k, e with
        | 0, e => cases e; exact ⟨a1, _, rfl, s26 _ _ h1, by decide⟩
        | 1, e => cases e; exact ⟨a2, _, rfl, s36 _ _ h2, by decide⟩
        | 2, e => cases e; exact ⟨a3, _, rfl, s46 _ _ h3, by decide⟩
        | 3, e => cases e; exact ⟨a4, _, rfl, s56 _ _ h4, by decide⟩
        | 4, e => cases e; exact ⟨a5, _, rfl, s6 _ _ h5', by decide⟩
        | k + 5, e => cases e
      have hD6 := (s05.trans s6) _ _ hDc
      have hu6 := hu.imp (R' := fun v y => VaT (upd H5 lp (.lst [V.ref a1, .ref a2, .ref a3, .ref a4, .ref a5])) v y) fun _ _ h => (Tk.same (s05.trans s6)).vaT h
      generalize upd H5 lp (.lst [V.ref a1, .ref a2, .ref a3, .ref a4, .ref a5]) = H6 at s6 h6 r6 all5 hD6 hu6 ⊢
      refine ⟨d, lp, _, rfl, r6.1, h6, nlp, by show 0 < 5; decide, by show 5 < 1000; decide, fun k x da db dc hx => ?_⟩
      obtain ⟨ax, pp, rfl, hax, m5⟩ := all5 k x hx
      have r7 : Rl d H (upd H6 d (.lst (dxs da db dc))) := r6.roll
      have tk7 : Tk H6 (upd H6 d (.lst (dxs da db dc))) := by
        obtain ⟨x, y, z, e⟩ := r6.1
        exact Tk.upd e (fun _ z => by cases z) fun _ _ z => by cases z
      have hD7 : upd H6 d (.lst (dxs da db dc)) D = some (.lst us) := by rw [upd_ne nDd]; exact hD6
      have hax7 : TA (upd H6 d (.lst (dxs da db dc))) ax pp := tk7.1 _ _ hax
      have hu7 := hu6.imp (R' := fun v y => VaT (upd H6 d (.lst (dxs da db dc))) v y) fun _ _ h => tk7.vaT h
      generalize upd H6 d (.lst (dxs da db dc)) = H7 at r7 hD7 hax7 hu7 ⊢
      refine ⟨small1000 (Nat.le_of_ble_eq_true rfl), fun tp htp => ?_⟩
      have s8 := same_new (o := .tup [V.str z, V.ref ax]) htp
      have h8 : upd H7 tp (.tup [V.str z, V.ref ax]) tp = some (.tup [V.str z, V.ref ax]) := upd_same
      have hD8 := s8 _ _ hD7
      have r8 := r7.same s8
      generalize upd H7 tp (.tup [V.str z, V.ref ax]) = H8 at s8 h8 hD8 r8 ⊢
      have tk9 := Tk.upd (o := .lst (us ++ [V.ref tp])) hD8 (fun _ z => by cases z) fun _ _ z => by cases z
      refine ⟨us, hD8, small1000 (by omega), ⟨?_, fun a o n e => ?_⟩, us ++ [.ref tp], ys ++ [(z, pp)], upd_same, ?_, ?_, ?_⟩
      · obtain ⟨x, y, z, e⟩ := r8.1
        exact ⟨x, y, z, by rw [upd_ne nDd.symm]; exact e⟩
      · rw [upd_ne (ne_of_none e hD)]
        exact r8.2 a o n e
      · exact AG.snoc (hu7.imp fun _ _ h => ((Tk.same s8).trans tk9).vaT h) ⟨tp, ax, rfl, tk9.1 _ _ h8, tk9.1 _ _ (s8 _ _ hax7)⟩
      · rw [List.map_append, ey, take_snoc hz]
        rfl
      · intro y hy
        rcases List.mem_append.mp hy with h | h
        · exact h5 y h
        · rw [List.mem_singleton.mp h]; exact m5
    · rintro Hc ⟨rc, us, ys, hDc, hu, ey, h5⟩
      rw [List.length_map, List.take_length] at ey
      obtain ⟨qs, kvs, rfl, pr, hk⟩ := vals_at (K := K) hu
      refine ⟨D, qs, kvs, rfl, SqL.of hDc, pr, fun t ht => ?_⟩
      have nd : (kvs.map (·.1)).Nodup := by
        rw [hk.keys, ey]
        exact List.Pairwise.map _ (fun a b h c => h (Sum.inr.inj c)) hn
      have em : mergeK [] kvs = kvs := by
        have := mergeK_new (kvs := []) (more := kvs) (by rw [List.nil_append]; exact nd)
        rw [List.nil_append] at this
        exact this
      rw [em]
      have s9 := same_new (o := .dK kvs) ht
      exact q t kvs ys _ (rc.none hd ht) (rc.same s9) upd_same ((Tk.same s9).vlK hk) ey fun y hy => fiveP_ok _ (h5 y hy)
end
end FR
set_option Elab.async false
set_option linter.all false
set_option maxRecDepth 100000
set_option maxHeartbeats 1000000
/-! != of two dicts of data -/
namespace L2
open PySem PySem.Spec PyProof.Rows
section
variable {prog : Program} {w : World} {A : Around} {E : Value → Shared → Prop} {s : Shared} {T : Type} [DecidableEq T] {knd : KeyKind prog w T}
theorem ne_dictsP {a b : Addr} {ka kb : List (T × Value)} {r : Bool} {Q : Value → Shared → Prop} (ha : (a == sysModules) = false) (hb : (b == sysModules) = false) (da : s.heap.DictOf knd a ka) (db : s.heap.DictOf knd b kb) (hu : A.units < cLine)
    (hits : ka.length = kb.length → PySem.W.KeqHitsP prog w A.in1 s kb ka r) (h : Q (.bool (!(ka.length == kb.length && r))) s) : wpAny (model prog w) A (compareOp .NotEq (.ref a) (.ref b)) Q E s := by
  have both := da.typeIs
  refine wpAny_richCompare_same_room (op := .NotEq) both db.typeIs PySem.F.slot_dict_ne (wpAny_call_entry PySem.F.slot_dict_ne both PySem.F.entry_dict_ne ?_ (PySem.F.args_dict_ne_2 _ _)) hu
  show wpAny _ _ (Builtin.Dict.dictSlotArgs "__ne__" _ >>= _) _ _ s
  unfold Builtin.Dict.dictSlotArgs
  refine wpAny_bind (wpAny_bind (wpAny_notOrdered_dict both (wpAny_pure ?_)))
  refine wpAny_bind (wpAny_isInstance (T := "dict") db.typeIs PySem.F.sub_dict_dict (?_ : _))
  simp only [Bool.not_true, if_false, Bool.false_eq_true]
  refine wpAny_bind (wpAny_pure (wpAny_bind (wpAny_pure (wpAny_bind (PySem.W.samePairsP ha hb da db hits ?_)))))
  exact wpAny_pure ⟨_, rfl, (fun x => nomatch x), by simpa using h⟩
end
def rNeKD (K : PySem.W.Frag) : R2 := fun x y H Q => ∃ a b ks ls r, x = .ref a ∧ y = .ref b ∧ H a = some (.dK ks) ∧ H b = some (.dK ls) ∧ (ks.length = ls.length → Hits K H ls ks r) ∧ Q (.bl (!(ks.length == ls.length && r))) H
theorem op_neKD {X : Cx} {K : PySem.W.Frag} (hK : X.K = K) (hu : X.A.units + 64 < cLine) : OpR X (compareOp .NotEq) (rNeKD K) := by
  subst hK
  intro pins s σ H x y v u Q I rx ry h
  obtain ⟨a, b, ks, ls, r, rfl, rfl, ha, hb, hits, q⟩ := h
  cases rx
  cases ry
  obtain ⟨_, ya, va, ra, da⟩ := dk_of I.hok ha
  obtain ⟨_, yb, vb, rb, db⟩ := dk_of I.hok hb
  refine ne_dictsP (knd := mixKind X.prog X.w) (r := r) ya yb da db (by omega) (fun e => ?_) ?_
  · exact hits_of I (A := X.A.in1) (by show X.A.units + 1 + 62 < cLine; omega) rb (hits (by rw [ra.length, rb.length]; exact e)) ra
  · rw [← ra.length, ← rb.length]
    exact ⟨.bl _, H, I, rfl, q⟩
end L2
namespace FR
open PySem PySem.Spec PyProof.Rows L2
/-- .. of the same bodies -/
theorem ne_same {K : PySem.W.Frag} {H : Hp} {a b : Addr} {ks ls : List (Key × V)} {p : Pg} {Q : VK} (ha : H a = some (.dK ks)) (hb : H b = some (.dK ls)) (hk : PrgK H ks p) (hl : PrgK H ls p) (hn : (names p).Nodup) (q : Q (.bl false) H) : rNeKD K (.ref a) (.ref b) H Q := by
  obtain ⟨r, hits, hr⟩ := PrgK.eq_hits (K := K) hl hn hk
  have er : r = true := hr.mpr fun x hx => ⟨List.mem_map.mpr ⟨x, hx, rfl⟩, by rw [bodyOf_mem hn hx]; exact eqv_self (plainB 5 _)⟩
  refine ⟨a, b, ks, ls, r, rfl, rfl, ha, hb, fun _ => hits, ?_⟩
  rw [er, hk.1, hl.1, beq_self_eq_true]
  exact q
end FR
set_option Elab.async false
set_option linter.all false
set_option maxRecDepth 100000
set_option maxHeartbeats 1000000
/-! how long next values get in drawn programs -/
namespace FR
open PySem PySem.Spec PyProof.Rows L2 LD
theorem gB_le {ns : List Str} {bt : Str → Nat} (h : ∀ z ∈ ns, bt z ≤ 4) {s : St} (o : Ok1 ns s) : gB bt s ≤ 36 := by
  match s, o with
  | .note _, _ => exact Nat.zero_le _
  | .stay, _ => exact Nat.zero_le _
  | .choose _, _ => exact Nat.zero_le _
  | .call z, o => exact Nat.le_trans (h z (o.2 z rfl)) (by decide)
  | .again _ _ _, _ => show 8 ≤ 36; decide
  | .toss rs, o =>
    have := (toss_of o.1).2.1
    show 9 * rs.length ≤ 36
    omega
theorem ws_bound {ns : List Str} {bt : Str → Nat} (h : ∀ z ∈ ns, bt z ≤ 4) : ∀ {n : Nat} {b : Bd}, Al (Ok1 ns) n b → ws (gB bt) n b ≤ 36 * ws (fun _ => 1) n b
  | n + 1, b, al => by
    have e : ∀ (l : Bd), 36 * (l.map fun s => 1 + (s.kids.map (ws (fun _ => 1) n)).sum).sum = (l.map fun s => 36 * (1 + (s.kids.map (ws (fun _ => 1) n)).sum)).sum := fun l => by
      induction l with
      | nil => rfl
      | cons s l ih => rw [List.map_cons, List.sum_cons, List.map_cons, List.sum_cons, ← ih, Nat.mul_add]
    show (b.map fun s => gB bt s + (s.kids.map (ws (gB bt) n)).sum).sum ≤ 36 * (b.map fun s => 1 + (s.kids.map (ws (fun _ => 1) n)).sum).sum
    rw [e]
    refine sum_le fun s hs => ?_
    have g := gB_le h (al s hs).1
    have k : (s.kids.map (ws (gB bt) n)).sum ≤ 36 * (s.kids.map (ws (fun _ => 1) n)).sum := by
      have e2 : ∀ l : List Bd, 36 * (l.map (ws (fun _ => 1) n)).sum = (l.map fun k => 36 * ws (fun _ => 1) n k).sum := fun l => by
        induction l with
        | nil => rfl
        | cons k l ih => rw [List.map_cons, List.sum_cons, List.map_cons, List.sum_cons, ← ih, Nat.mul_add]
      rw [e2]
      exact sum_le fun k hk => ws_bound h ((al s hs).2 k hk)
    omega
theorem ws_b40 {ns : List Str} {b : Bd} (al : Al (Ok1 ns) 5 b) (c : cnt 5 b ≤ 40) : ws (gB fun _ => 4) 5 b ≤ 1440 := by
  have := ws_bound (bt := fun _ => 4) (fun _ _ => Nat.le_refl _) al
  rw [cnt_ws] at c
  omega
/-- bits with the call that is marked -/
def btq (z : Str) : Nat := if z = "q" then 400 else 4
theorem ws_congr {ns : List Str} {bt bt' : Str → Nat} (h : ∀ z ∈ ns, bt z = bt' z) : ∀ {n : Nat} {b : Bd}, Al (Ok1 ns) n b → ws (gB bt) n b = ws (gB bt') n b
  | n + 1, b, al => by
    show (b.map fun s => gB bt s + (s.kids.map (ws (gB bt) n)).sum).sum = (b.map fun s => gB bt' s + (s.kids.map (ws (gB bt') n)).sum).sum
    congr 1
    refine List.map_congr_left fun s hs => ?_
    have k : s.kids.map (ws (gB bt) n) = s.kids.map (ws (gB bt') n) := List.map_congr_left fun k hk => ws_congr h ((al s hs).2 k hk)
    have g : gB bt s = gB bt' s := by
      have o := (al s hs).1
      match s, o with
      | .note _, _ => rfl
      | .stay, _ => rfl
      | .choose _, _ => rfl
      | .again _ _ _, _ => rfl
      | .toss _, _ => rfl
      | .call z, o => exact h z (o.2 z rfl)
    rw [k, g]
theorem q_five : ("q" : Str) ∉ five := by decide +kernel
theorem Drawn.nq {es : List Str} {p : Pg} (D : Drawn es p) : ("q" : Str) ∉ names p := fun h => q_five (D.nm _ h)
theorem ws_marked {es : List Str} {p : Pg} {z : Str} {ps : List (Nat × Nat)} {i : Nat} (D : Drawn es p) (hz : z ∈ names p) (inb : InB (bodyOf p z) ps) : ws (gB btq) 5 (spl (bodyOf p z) ps i [.call "q"]) ≤ 2900 := by
  have al := D.al hz
  have lw := al_way al inb
  have h := spl_ws (gB btq) (gB_putAt btq) (n := 5) (i := i) (ss := [St.call "q"]) inb (by omega)
  have e : ws (gB btq) 5 (bodyOf p z) = ws (gB fun _ => 4) 5 (bodyOf p z) := ws_congr (fun y hy => if_neg fun (c : y = "q") => D.nq (by rw [← c]; exact hy)) (al.mono (show 3 ≤ 5 by decide))
  have b := ws_b40 (al.mono (show 3 ≤ 5 by decide)) (Nat.le_trans (D.c10 hz) (by decide))
  have one : ws (gB btq) 5 [St.call "q"] = 400 := by
    show (if ("q" : Str) = "q" then 400 else 4) + 0 + 0 = 400
    rw [if_pos rfl]
    rfl
  have b10 : ws (gB fun _ => 4) 5 (bodyOf p z) ≤ 360 := by
    have h1 := ws_bound (bt := fun _ => 4) (fun _ _ => Nat.le_refl _) (al.mono (show 3 ≤ 5 by decide))
    have h2 := D.c10 hz
    rw [cnt_ws] at h2
    omega
  omega
theorem ws_10 {es : List Str} {p : Pg} {z : Str} (D : Drawn es p) (hz : z ∈ names p) : ws (gB fun _ => 4) 5 (bodyOf p z) ≤ 360 := by
  have h1 := ws_bound (bt := fun _ => 4) (fun _ _ => Nat.le_refl _) ((D.al hz).mono (show 3 ≤ 5 by decide))
  have h2 := D.c10 hz
  rw [cnt_ws] at h2
  omega
theorem al_q {ns : List Str} {n : Nat} {b : Bd} (h : Al (Ok1 ns) n b) : Al (Ok1 ("q" :: ns)) n b := h.imp fun s o => ⟨o.1, fun z e => List.mem_cons_of_mem _ (o.2 z e)⟩
theorem q_name : nameB "q" = true := by decide +kernel
theorem al_cq {ns : List Str} {n : Nat} : Al (Ok1 ("q" :: ns)) (n + 1) [St.call "q"] := fun s hs => by
  rw [List.mem_singleton.mp hs]
  exact ⟨⟨q_name, fun z e => by cases e; exact List.mem_cons_self⟩, fun k hk => absurd hk List.not_mem_nil⟩
theorem al_marked {es : List Str} {p : Pg} {z : Str} {ps : List (Nat × Nat)} {i : Nat} (D : Drawn es p) (hz : z ∈ names p) (inb : InB (bodyOf p z) ps) : Al (Ok1 ("q" :: names p)) 5 (spl (bodyOf p z) ps i [.call "q"]) := by
  have al := al_q (D.al hz)
  have lw := al_way al inb
  have ala := (al_at al inb).mono (show 3 - ps.length ≤ (4 - ps.length) + 1 by omega)
  exact al_wp (al_oth ala al_cq) (al.mono (by decide)) inb (by omega)
end FR
set_option Elab.async false
set_option pp.maxSteps 1500
set_option linter.all false
set_option maxRecDepth 100000
set_option maxHeartbeats 1000000
/-! _law_scaled, _law_weights, _law_made -/
namespace FR
open PySem PySem.Spec PyProof.Rows L2 LD
abbrev sLsd : Stmt := FR.top 70
abbrev NLsd : List Str := ["_law_statement_here", "_law_top", "_law_bottom", "_law_weight_here", "_law_inner_here"]
theorem scLsd : FnScope NLsd ["_law_statement_here", "_law_top", "_law_bottom"] (defScope sLsd) := ⟨rfl, rfl, rfl, by decide +kernel, rfl, by decide +kernel, by decide +kernel⟩
abbrev sLws : Stmt := FR.top 71
abbrev NLws : List Str := ["_law_statement_here", "_law_weight_here", "_law_inner_here"]
theorem scLws : FnScope NLws ["_law_statement_here"] (defScope sLws) := ⟨rfl, rfl, rfl, by decide +kernel, rfl, by decide +kernel, by decide +kernel⟩
abbrev sLmd : Stmt := FR.top 72
abbrev NLmd : List Str := ["_law_thing", "_law_place", "_law_much"]
theorem scLmd : FnScope NLmd ["_law_thing", "_law_place", "_law_much"] (defScope sLmd) := ⟨rfl, rfl, rfl, by decide +kernel, rfl, by decide +kernel, by decide +kernel⟩
open ZM
theorem tail_tup {H : Hp} {t : Addr} {x : V} {us : List V} (h : H t = some (.tup (cutV (x :: us) (some 1) none))) : H t = some (.tup us) := h.trans (congrArg (fun l => some (HO.tup l)) (cut_from (x :: us) 1))
section
variable {P : Program} {w : World} {K : PySem.W.Frag} {mg : Str → Option Value} {base : Heap}
def fracW (t b : Int) : Int → Int := fun i => (i * t).fdiv b
theorem frac_ok {t b i : Int} (ht : 1 ≤ t ∧ t ≤ 99) (hb : 1 ≤ b ∧ b ≤ 99) (hi : 1 ≤ i ∧ i ≤ 99) : CMul i t ∧ CDivN (i * t) b := ⟨.inl ⟨by omega, by omega⟩, by omega, by omega⟩
def spLsd (n : Nat) : Sp := fun vs H Q _ => ∃ v x t b, vs = [v, .int t, .int b] ∧ StAt n H v x ∧ x.wty ∧ okS x = true ∧ (1 ≤ t ∧ t ≤ 99) ∧ (1 ≤ b ∧ b ≤ 99) ∧ ∀ u H', Same H H' → StAt n H' u (x.mapW (fracW t b)) → Q u H'
theorem ok_lsd {f : Addr} {fd : FuncData} {n : Nat} (F : Fun K "_law_scaled" "_law_scaled" sLsd f fd) (mT : mg "tuple" = none) : FnOk P w K mg base CX0 1 f fd ["_law_statement_here", "_law_top", "_law_bottom"] (spLsd n) := by
  refine F.ok scLsd (fun vs H Q E h => ?_) (fun cdv A outer s H vs Q E hr h => ?_)
  · obtain ⟨v, x, t, b, rfl, _⟩ := h
    rfl
  · obtain ⟨v, x, t, b, rfl, hv, ty, ok, ht, hb, q⟩ := h
    refine ⟨_, (pss_cons (ps_if (pt_cmpR op_eq (pe_ix ix_tup (pv 0) pe_int (fun _ _ => rfl)) pe_str (nomark _)) (pss_one (ps_ret (pe_tup (pa_cons pe_str (pa_cons (pe_op op_fdivN (pe_op op_mul (pe_ix ix_tup (pv 0) pe_int (fun _ _ => rfl)) (pv 1)) (pv 2)) (pa_cons (pe_op op_fdivN (pe_op op_mul (pe_ix ix_tup (pv 0) pe_int (fun _ _ => rfl)) (pv 1)) (pv 2)) (pa_cons (pe_ix ix_tup (pv 0) pe_int (fun _ _ => rfl)) pa_nil))))))) pss_nil)
      (pss_one (ps_ret (pe_op op_catA (pe_tup (pa_cons pe_str pa_nil)) (pe_callTy call_tuple_of (by rfl) mT (by decide +kernel) (pa_cons (pe_lc (X := (cxOf CX0 P w K mg base NLsd "_law_scaled" (defScope sLsd) f cdv A outer s H E).nox) (own := [("_law_weight_here", 3), ("_law_inner_here", 4)]) (g := (gTup K 2 (gCons (gName 3) (gCons (gName 4) gNil)))) (tt := tYes) rfl scLsd.nd (pi_tup (pe_slice sl_tupA (pv 0) (po_some pe_int) po_none)) (blkOk_by (N := NLsd) (sc := defScope sLsd) (by decide +kernel)) (fun _ _ _ _ _ => (pg_tupK (K := K) rfl rfl (pgs_cons (pg_name (i := 3) scLsd.nd rfl (.inl rfl)) (pgs_cons (pg_name (i := 4) scLsd.nd rfl (.inl rfl)) pgs_nil)))) (fun _ _ _ _ _ => pts_nil) (fun _ _ _ _ _ => (pe_tup (pa_cons (pe_op op_fdivN (pe_op op_mul (pv 3) (pv 1)) (pv 2)) (pa_cons (pv 4) pa_nil))))) pa_nil)))))), ?_⟩
    obtain ⟨a, xs, rfl, ha⟩ := hv.head
    have wb := (wty_wts ty ok).2
    refine ⟨_, rfl, a, _, 0, _, rfl, rfl, SqT.of ha, atI_nat (j := 0) rfl, rfl, _, rfl, ?_⟩
    match x, hv, ty, ok, wb, q with
    | .note z, _, ty, _, _, _ => exact absurd ty (by show ¬ (("note" : Str) = "toss" ∨ ("note" : Str) = "again"); decide +kernel)
    | .call z, _, ty, _, _, _ => exact absurd ty (by show ¬ (("call" : Str) = "toss" ∨ ("call" : Str) = "again"); decide +kernel)
    | .stay, _, ty, _, _, _ => exact absurd ty (by show ¬ (("stay" : Str) = "toss" ∨ ("stay" : Str) = "again"); decide +kernel)
    | .choose bs, _, ty, _, _, _ => exact absurd ty (by show ¬ (("choose" : Str) = "toss" ∨ ("choose" : Str) = "again"); decide +kernel)
    | .again i j c, ⟨a', w0, e, ha', gk⟩, _, _, wb, q =>
      cases e
      have hi := frac_ok ht hb (wb i List.mem_cons_self)
      have hj := frac_ok ht hb (wb j (List.mem_cons_of_mem _ List.mem_cons_self))
      refine iteT ?_
      refine ⟨_, rfl, a, _, 1, _, rfl, rfl, SqT.of ha', atI_nat (j := 1) rfl, _, rfl, _, _, rfl, rfl, hi.1, _, rfl, _, _, rfl, rfl, hi.2, ?_⟩
      refine ⟨_, rfl, a, _, 2, _, rfl, rfl, SqT.of ha', atI_nat (j := 2) rfl, _, rfl, _, _, rfl, rfl, hj.1, _, rfl, _, _, rfl, rfl, hj.2, ?_⟩
      refine ⟨_, rfl, a, _, 3, _, rfl, rfl, SqT.of ha', atI_nat (j := 3) rfl, small1000 (Nat.le_of_ble_eq_true rfl), fun p hp => ?_⟩
      have sp := same_new (o := .tup [V.str "again", V.int (fracW t b i), V.int (fracW t b j), w0]) hp
      exact q _ _ sp ⟨p, w0, rfl, upd_same, gk.same sp⟩
    | .toss rs, ⟨a', us, e, ha', gk⟩, _, ok, wb, q =>
      cases e
      have l90 : rs.length ≤ 90 := by have := (toss_of ok).2.1; omega
      refine iteF ?_
      refine ⟨small1000 (Nat.le_of_ble_eq_true rfl), fun p hp => ?_⟩
      have s1 := same_new (o := .tup [V.str "toss"]) hp
      have hp1 : upd H p (.tup [V.str "toss"]) p = some (.tup [V.str "toss"]) := upd_same
      have ha1 := s1 _ _ ha'
      have g1 := gk.imp (R' := fun u r => ∃ p0 x, u = .ref p0 ∧ upd H p (.tup [V.str "toss"]) p0 = some (.tup [.int r.1, x]) ∧ BdAt n (upd H p (.tup [V.str "toss"])) x r.2) fun _ _ ⟨p0, x, e1, h1, z⟩ => ⟨p0, x, e1, s1 _ _ h1, z.same s1⟩
      generalize upd H p (.tup [V.str "toss"]) = H1 at s1 hp1 ha1 g1 ⊢
      refine ⟨_, rfl, _, rfl, ?_⟩
      dsimp only [tNoPart]
      refine sla_tup ha1 fun t2 H2 s2 ht2 => ?_
      have ht2 : H2 t2 = some (.tup us) := tail_tup ht2
      refine ⟨t2, rfl, ⟨_, SqT.of ht2⟩, fun D hD => ?_⟩
      have lu : us.length = rs.length := g1.1
      refine lc_it (walk_tup (K := K) (a := t2) (xs := us)) (fun i Hc => Same H2 Hc ∧ ∃ ws, Hc D = some (.lst ws) ∧ AG (fun u r => ∃ p x, u = .ref p ∧ Hc p = some (.tup [.int r.1, x]) ∧ BdAt n Hc x r.2) ws ((rs.map fun r => (fracW t b r.1, r.2)).take i)) ⟨same_new hD, [], upd_same, AG.nil⟩ (fun i Hc _ z => SqT.of (z.1 _ _ ht2)) ?_ ?_
      · rintro i v' Hc H' hi ⟨sm, ws, hDc, hw⟩ ⟨rfl, hv⟩
        obtain ⟨r, hr, p0, x0, rfl, h0, z0⟩ := g1.2 i v' hv
        have hri := frac_ok ht hb (wb r.1 (List.mem_map.mpr ⟨r, List.mem_of_getElem? hr, rfl⟩))
        have s12 := s2.trans sm
        refine ⟨p0, _, rfl, SqT.of (s12 _ _ h0), rfl, _, _, rfl, _, _, rfl, rfl, rfl, ?_⟩
        refine ⟨_, rfl, _, rfl, _, _, rfl, rfl, hri.1, _, rfl, _, _, rfl, rfl, hri.2, _, rfl, small1000 (Nat.le_of_ble_eq_true rfl), fun p2 hp2 => ?_⟩
        have z0 := z0.same s12
        have s3 := same_new (o := .tup [V.int (fracW t b r.1), x0]) hp2
        have h3 : upd H' p2 (.tup [V.int (fracW t b r.1), x0]) p2 = some (.tup [V.int (fracW t b r.1), x0]) := upd_same
        have hD3 := s3 _ _ hDc
        have k9 : Tk (upd H' p2 (.tup [V.int (fracW t b r.1), x0])) (upd (upd H' p2 (.tup [V.int (fracW t b r.1), x0])) D (.lst (ws ++ [V.ref p2]))) := Tk.upd hD3 (fun _ z => by cases z) (fun _ _ z => by cases z)
        refine ⟨ws, hD3, small1000 (by rw [hw.1, List.length_take]; omega), same_upd hD (sm.trans s3), _, upd_same, ?_⟩
        have hz : (rs.map fun r => (fracW t b r.1, r.2))[i]? = some (fracW t b r.1, r.2) := by rw [List.getElem?_map, hr]; rfl
        rw [take_snoc hz]
        exact AG.snoc (hw.imp fun _ _ ⟨p, x, e, h1, h2⟩ => ⟨p, x, e, k9.1 _ _ (s3 _ _ h1), k9.bd (h2.same s3)⟩) ⟨p2, x0, rfl, k9.1 _ _ h3, k9.bd (z0.same s3)⟩
      · rintro Hc ⟨sm, ws, hDc, hw⟩
        rw [lu, List.take_of_length_le (by rw [List.length_map]; exact Nat.le_refl _)] at hw
        refine ⟨D, _, rfl, .inl ⟨SqL.of hDc, fun t7 ht7 => ?_⟩⟩
        have st := same_new (o := .tup ws) ht7
        have ht1 : upd Hc t7 (.tup ws) t7 = some (.tup ws) := upd_same
        have hw1 := hw.imp (R' := fun u r => ∃ p x, u = .ref p ∧ (upd Hc t7 (.tup ws)) p = some (.tup [.int r.1, x]) ∧ BdAt n (upd Hc t7 (.tup ws)) x r.2) fun _ _ ⟨p, x, e, h1, h2⟩ => ⟨p, x, e, st _ _ h1, h2.same st⟩
        have pt := (s2.trans sm).trans st
        have hpt := pt _ _ hp1
        have lw1 : ws.length ≤ 90 := by rw [hw1.1, List.length_map]; exact l90
        generalize upd Hc t7 (.tup ws) = H5 at st ht1 hw1 pt hpt ⊢
        refine cat_tup hpt ht1 (by show 1 + ws.length ≤ 900; omega) fun t6 H6 s6 h6 => ?_
        exact q _ _ ((s1.trans pt).trans s6) ⟨t6, ws, rfl, h6, hw1.imp fun _ _ ⟨p, x, e, h1, h2⟩ => ⟨p, x, e, s6 _ _ h1, h2.same s6⟩⟩
def spLws (n : Nat) : Sp := fun vs H Q _ => ∃ v x, vs = [v] ∧ StAt n H v x ∧ x.wty ∧ okS x = true ∧ ∀ l H', Same H H' → H' l = some (.lst (x.wts.map V.int)) → Q (.ref l) H'
theorem ok_lws {f : Addr} {fd : FuncData} {n : Nat} (F : Fun K "_law_weights" "_law_weights" sLws f fd) : FnOk P w K mg base CX0 1 f fd ["_law_statement_here"] (spLws n) := by
  refine F.ok scLws (fun vs H Q E h => ?_) (fun cdv A outer s H vs Q E hr h => ?_)
  · obtain ⟨v, x, rfl, _⟩ := h
    rfl
  · obtain ⟨v, x, rfl, hv, ty, ok, q⟩ := h
    refine ⟨_, (pss_cons (ps_if (pt_cmpR op_eq (pe_ix ix_tup (pv 0) pe_int (fun _ _ => rfl)) pe_str (nomark _)) (pss_one (ps_ret (pe_lst (pa_cons (pe_ix ix_tup (pv 0) pe_int (fun _ _ => rfl)) (pa_cons (pe_ix ix_tup (pv 0) pe_int (fun _ _ => rfl)) pa_nil))))) pss_nil)
      (pss_one (ps_ret (pe_lc (X := (cxOf CX0 P w K mg base NLws "_law_weights" (defScope sLws) f cdv A outer s H E).nox) (own := [("_law_weight_here", 1), ("_law_inner_here", 2)]) (g := (gTup K 2 (gCons (gName 1) (gCons (gName 2) gNil)))) (tt := tYes) rfl scLws.nd (pi_tup (pe_slice sl_tupA (pv 0) (po_some pe_int) po_none)) (blkOk_by (N := NLws) (sc := defScope sLws) (by decide +kernel)) (fun _ _ _ _ _ => (pg_tupK (K := K) rfl rfl (pgs_cons (pg_name (i := 1) scLws.nd rfl (.inl rfl)) (pgs_cons (pg_name (i := 2) scLws.nd rfl (.inl rfl)) pgs_nil)))) (fun _ _ _ _ _ => pts_nil) (fun _ _ _ _ _ => (pv 1)))))), ?_⟩
    obtain ⟨a, xs, rfl, ha⟩ := hv.head
    refine ⟨_, rfl, a, _, 0, _, rfl, rfl, SqT.of ha, atI_nat (j := 0) rfl, rfl, _, rfl, ?_⟩
    match x, hv, ty, ok, q with
    | .note z, _, ty, _, _ => exact absurd ty (by show ¬ (("note" : Str) = "toss" ∨ ("note" : Str) = "again"); decide +kernel)
    | .call z, _, ty, _, _ => exact absurd ty (by show ¬ (("call" : Str) = "toss" ∨ ("call" : Str) = "again"); decide +kernel)
    | .stay, _, ty, _, _ => exact absurd ty (by show ¬ (("stay" : Str) = "toss" ∨ ("stay" : Str) = "again"); decide +kernel)
    | .choose bs, _, ty, _, _ => exact absurd ty (by show ¬ (("choose" : Str) = "toss" ∨ ("choose" : Str) = "again"); decide +kernel)
    | .again i j c, ⟨a', w0, e, ha', gk⟩, _, _, q =>
      cases e
      refine iteT ?_
      refine ⟨_, rfl, a, _, 1, _, rfl, rfl, SqT.of ha', atI_nat (j := 1) rfl, _, rfl, a, _, 2, _, rfl, rfl, SqT.of ha', atI_nat (j := 2) rfl, small1000 (Nat.le_of_ble_eq_true rfl), fun p hp => ?_⟩
      exact q p _ (same_new hp) upd_same
    | .toss rs, ⟨a', us, e, ha', gk⟩, _, ok, q =>
      cases e
      have l90 : rs.length ≤ 90 := by have := (toss_of ok).2.1; omega
      refine iteF ?_
      refine ⟨_, rfl, _, rfl, ?_⟩
      dsimp only [tNoPart]
      refine sla_tup ha' fun t2 H2 s2 ht2 => ?_
      have ht2 : H2 t2 = some (.tup us) := tail_tup ht2
      refine ⟨t2, rfl, ⟨_, SqT.of ht2⟩, fun D hD => ?_⟩
      have lu : us.length = rs.length := gk.1
      refine lc_it (walk_tup (K := K) (a := t2) (xs := us)) (fun i Hc => Same H2 Hc ∧ Hc D = some (.lst (((rs.map (·.1)).take i).map V.int))) ⟨same_new hD, upd_same⟩ (fun i Hc _ z => SqT.of (z.1 _ _ ht2)) ?_ ?_
      · rintro i v' Hc H' hi ⟨sm, hDc⟩ ⟨rfl, hv⟩
        obtain ⟨r, hr, p0, x0, rfl, h0, _⟩ := gk.2 i v' hv
        refine ⟨p0, _, rfl, SqT.of ((s2.trans sm) _ _ h0), rfl, _, _, rfl, _, _, rfl, rfl, rfl, ?_⟩
        refine ⟨_, rfl, _, hDc, small1000 (by rw [List.length_map, List.length_take]; omega), same_upd hD sm, ?_⟩
        have hr2 : (rs.map (·.1))[i]? = some r.1 := by rw [List.getElem?_map, hr]; rfl
        rw [take_snoc hr2, List.map_append]
        exact upd_same
      · rintro Hc ⟨sm, hDc⟩
        rw [lu, List.take_of_length_le (by rw [List.length_map]; exact Nat.le_refl _)] at hDc
        exact q D _ (s2.trans sm) hDc
/-- what scaled makes, or none -/
def spLmd (K : PySem.W.Frag) (C : Addr) : Sp := fun vs H Q _ => ∃ x pl p z ps i s m, vs = [.ref x, .ref pl, .int m] ∧ AtW K C H x pl p z ps i s ∧ 1 ≤ m ∧ m ≤ 99 ∧
  ((Prg (setP p z (spl (bodyOf p z) ps i [s.mapW (mulW m)])) ∧ sortedS (names p) = true ∧ z ∈ names p ∧ ∀ t kvs H', H t = none → Same H H' → H' t = some (.dK kvs) → PrgK H' kvs (setP p z (spl (bodyOf p z) ps i [s.mapW (mulW m)])) → Q (.ref t) H') ∨ (PrgX (setP p z (spl (bodyOf p z) ps i [s.mapW (mulW m)])) ∧ ∀ H', Same H H' → Q .non H'))
theorem ok_lmd {f C CO : Addr} {fd : FuncData} (F : Fun K "_law_made" "_law_made" sLmd f fd) (R : PgC K C) (T2 : ExcC K mg "InvalidOperation" CO) (gSc : GloX P w K mg base "scaled" 18 ["free", "place", "many"] (spSca K C CO)) (pB : PMet P w K mg base C "bodies" 1 ["self"] (spBo K C)) : FnOk P w K mg base CX0 19 f fd ["_law_thing", "_law_place", "_law_much"] (spLmd K C) := by
  refine F.ok scLmd (fun vs H Q E h => ?_) (fun cdv A outer s H vs Q E hr h => ?_)
  · obtain ⟨x, pl, p, z, ps, i, s, m, rfl, _⟩ := h
    rfl
  · obtain ⟨x, pl, p, z, ps, i, s', m, rfl, ha, m1, m9, q⟩ := h
    refine ⟨_, (pss_one (ps_try_only rfl rfl ⟨rfl, by decide, .inl T2.g⟩ takes0 (fun W pn xe tk _ => pss_one (ps_ret (pe_prop (pe_callS gSc.G hr (by rfl) gSc.m gSc.k gSc.b (fun σ => passAt tk σ) (pa_cons (pv 0) (pa_cons (pv 1) (pa_cons (pv 2) pa_nil)))) R.cl pB.o pB.G (hr.mono (by decide)) pB.b .nil pass0 rfl))) (fun a oe cls d pn _ _ => pss_one (ps_ret pe_non)))), ?_⟩
    obtain ⟨_, _, nd0, hz0, _⟩ := id ha.pl
    refine ⟨_, rfl, _, rfl, _, rfl, x, pl, p, z, ps, i, s', m, rfl, ha, m1, m9, ?_⟩
    rcases q with ⟨prg, so, hz, q⟩ | ⟨prg, q⟩
    · refine .inl ⟨prg, fun q2 y2 H2 pm so2 ny2 s2 hi2 => ?_⟩
      have en : names (setP p z (spl (bodyOf p z) ps i [s'.mapW (mulW m)])) = names p := by rw [setP_names, if_pos hz]
      obtain rfl := pg_eq pm (setP_nodup nd0) (by rw [en]; exact so) so2
      have hi20 := hi2
      obtain ⟨dx2, _, _, _, _, _, _, hx2, _⟩ := hi20
      refine ⟨y2, dx2, _, rfl, hx2, y2, _, rfl, hi2, fun t3 kvs3 H3 nt3 s3 ht3 hk3 => ?_⟩
      exact q t3 kvs3 H3 (none_of_same s2 nt3) (s2.trans s3) ht3 hk3
    · exact .inr ⟨prg, fun H' s' => ⟨true, T2.m, fun _ a ha => q H' s', fun z => nomatch z⟩⟩
end
end FR
set_option Elab.async false
set_option pp.maxSteps 1500
set_option linter.all false
set_option maxRecDepth 100000
set_option maxHeartbeats 1000000
/-! _law_spots -/
namespace FR
open PySem PySem.Spec PyProof.Rows L2
abbrev sSp : Stmt := FR.top 65
abbrev NSp : List Str := ["_law_bodies_here", "_law_sorts", "_law_found", "_law_name_here", "_law_some", "_law_row", "_law_path", "_law_statement_here"]
theorem scSp : FnScope NSp ["_law_bodies_here", "_law_sorts"] (defScope sSp) := ⟨rfl, rfl, rfl, by decide +kernel, rfl, by decide +kernel, by decide +kernel⟩
/-- the statements of these sorts with their places -/
def spotsP (p : Pg) (ws : List Str) : List (Str × PL1) := (allP p).filter fun y => decide (y.2.2.word ∈ ws)
def SpT (H : Hp) (z : V) (y : Str × PL1) : Prop := ∃ t pl pa s, z = .ref t ∧ H t = some (.tup [.ref pl, s]) ∧ H pl = some (.tup [.str y.1, .ref pa]) ∧ H pa = some (.tup (pI y.2.1)) ∧ StAt 5 H s y.2.2
theorem Kt.spT {H H' : Hp} (k : Kt H H') {z : V} {y : Str × PL1} (h : SpT H z y) : SpT H' z y := by
  obtain ⟨t, pl, pa, s, e, h1, h2, h3, hs⟩ := h
  exact ⟨t, pl, pa, s, e, k.tup h1, k.tup h2, k.tup h3, k.st hs⟩
theorem filter_snoc {α : Type} {f : α → Bool} {l : List α} {i : Nat} {x : α} (h : l[i]? = some x) : (l.take (i + 1)).filter f = (l.take i).filter f ++ (if f x = true then [x] else []) := by
  rw [take_snoc h, List.filter_append]
  congr 1
  rw [List.filter_cons]
  split <;> rfl
section
variable {P : Program} {w : World} {K : PySem.W.Frag} {mg : Str → Option Value} {base : Heap}
def spSp : Sp := fun vs H Q _ => ∃ t wa kvs p ws, vs = [.ref t, .ref wa] ∧ H t = some (.dK kvs) ∧ PrgK H kvs p ∧ Prg p ∧ (names p).Nodup ∧ sortedS (names p) = true ∧ H wa = some (.lst ((ws : List Str).map V.str)) ∧
  ∀ l us H', H l = none → Same H H' → H' l = some (.lst us) → AG (fun z y => SpT H' z y) us (spotsP p ws) → Q (.ref l) H'
theorem ok_sp {f : Addr} {fd : FuncData} (F : Fun K "_law_spots" "_law_spots" sSp f fd) (ms : mg "sorted" = none) (gW : Glo P w K mg base "_law_walk" 6 ["_law_body_here", "_law_ahead"] (spWk 5)) : FnOk P w K mg base CX0 7 f fd ["_law_bodies_here", "_law_sorts"] spSp := by
  refine F.ok scSp (fun vs H Q E h => ?_) (fun cdv A outer s H vs Q E hr h => ?_)
  · obtain ⟨t, wa, kvs, p, ws, rfl, _⟩ := h
    rfl
  · obtain ⟨t, wa, kvs, p, ws, rfl, ht, hk, hp, hn, hs, hwa, q⟩ := h
    refine ⟨_, (pss_cons (ps_set (i := 2) scSp.nd rfl (Or.inl rfl) (pe_lst pa_nil))
      (pss_cons (ps_for PassesOwn.never rfl (pi_list (pe_callB (call_sortedD rfl) (by rfl) ms (by decide +kernel) (pa_cons (pv 0) pa_nil))) (pg_name (i := 3) scSp.nd rfl (.inr rfl)) (pss_cons (ps_setLc (i := 4) (X := (cxOf CX0 P w K mg base NSp "_law_spots" (defScope sSp) f cdv A outer s H E).nox) (own := [("_law_row", 5)]) (g := (gName 5)) rfl scSp.nd rfl rfl (sw_true rfl rfl rfl (by decide +kernel)) (pi_list (pe_call gW.G (hr.mono (by decide)) (by rfl) gW.m gW.k gW.b .nil pass0 (pa_cons (pe_dget (lt1_of hr.units) (pv 0) (pv 3) (fun _ _ => rfl)) (pa_cons (pe_tup pa_nil) pa_nil)))) (blkOk_by (N := NSp) (sc := defScope sSp) (by decide +kernel)) (fun _ _ _ _ _ => (pg_name (i := 5) scSp.nd rfl (.inl rfl))) (fun _ _ _ _ _ => (pts_one (pt_cmpR (op_in_seqK (K := K) rfl) (pe_ix (ix_tupK (K := K) rfl) (pe_ix (ix_tupK (K := K) rfl) (pv 5) pe_int (fun _ _ => rfl)) pe_int (fun _ _ => rfl)) (pv 1) rfl))) (fun _ _ _ _ _ => (pv 5)))
      (pss_one (ps_expr (pe_bm PySem.F.plainAttrs_list PySem.F.slot_list_extend PySem.F.type_list_extend mt_extend (pv 2) (pa_cons (pe_lc (X := (cxOf CX0 P w K mg base NSp "_law_spots" (defScope sSp) f cdv A outer s H E).nox) (own := [("_law_path", 6), ("_law_statement_here", 7)]) (g := (gTup K 2 (gCons (gName 6) (gCons (gName 7) gNil)))) (tt := tYes) rfl scSp.nd (pi_list (pv 4)) (blkOk_by (N := NSp) (sc := defScope sSp) (by decide +kernel)) (fun _ _ _ _ _ => (pg_tupK (K := K) rfl rfl (pgs_cons (pg_name (i := 6) scSp.nd rfl (.inl rfl)) (pgs_cons (pg_name (i := 7) scSp.nd rfl (.inl rfl)) pgs_nil)))) (fun _ _ _ _ _ => pts_nil) (fun _ _ _ _ _ => (pe_tup (pa_cons (pe_tup (pa_cons (pv 3) (pa_cons (pv 6) pa_nil))) (pa_cons (pv 7) pa_nil))))) pa_nil))))))
      (pss_one (ps_ret (pv 2))))), ?_⟩
    have l8 := hp.len.2
    refine ⟨Nat.zero_le _, fun fo hfo => ?_⟩
    have s0 := same_new (o := .lst []) hfo
    have h0 : upd H fo (.lst []) fo = some (.lst []) := upd_same
    generalize upd H fo (.lst []) = H0 at s0 h0 ⊢
    refine ⟨_, rfl, t, kvs, names p, rfl, .inl (s0 _ _ ht), ((Tk.same s0).pg hk).keys, by rw [List.length_map]; omega, fun ys l hy sy hl => ?_⟩
    obtain rfl := sorted_perm hy sy hs
    have s1 := same_new (o := .lst ((names p).map V.str)) hl
    have h1 : upd H0 l (.lst ((names p).map V.str)) l = some (.lst ((names p).map V.str)) := upd_same
    have hf1 := s1 _ _ h0
    have nlf : l ≠ fo := fun e => by rw [e, h0] at hl; cases hl
    have hl0 : H l = none := none_of_same s0 hl
    generalize upd H0 l (.lst ((names p).map V.str)) = H1 at s1 h1 hf1 ⊢
    refine ⟨l, rfl, ⟨_, SqL.of h1⟩, ?_⟩
    let g : Nat → List (Str × PL1) := fun i => ((p.take i).flatMap fun x => (placed 5 x.2 []).map fun y => (x.1, y)).filter fun y => decide (y.2.2.word ∈ ws)
    have tot : ∀ i, (g i).length ≤ 60 := fun i => Nat.le_trans (List.length_filter_le _ _) (Nat.le_trans (flat_take_le _ _) (by
      have : (allP p).length ≤ 60 := by rw [allP_cnt]; exact hp.cnts
      exact this))
    refine for_it (walk_list (xs := (names p).map V.str)) (fun i σ Hc => Same H Hc ∧ Hc l = some (.lst ((names p).map V.str)) ∧ ∃ (us : List V) (x3 x4 : Option V), σ = [some (.ref t), some (.ref wa), some (.ref fo), x3, x4, none, none, none] ∧ Hc fo = some (.lst us) ∧ AG (fun z y => SpT Hc z y) us (g i))
      ⟨s0.trans s1, h1, [], _, _, rfl, hf1, AG.nil⟩ (fun i σ Hc _ p' => SqL.of p'.2.1) ?_ ?_
    · rintro i v0 σ Hq Hc hii ⟨sc, hlc, us, x3, x4, rfl, hfc, hu⟩ ⟨rfl, hv0⟩
      have ii := (List.getElem?_eq_some_iff.mp hv0).1
      rw [List.length_map, List.length_map] at ii
      obtain ⟨⟨z, b⟩, hpi⟩ : ∃ y, p[i]? = some y := ⟨p[i], List.getElem?_eq_getElem ii⟩
      have ez : v0 = .str z := by
        rw [List.getElem?_map, List.getElem?_map, hpi] at hv0
        exact (Option.some.inj hv0).symm
      subst ez
      have mz : (z, b) ∈ p := List.mem_of_getElem? hpi
      have zn : z ∈ names p := List.mem_map.mpr ⟨_, mz, rfl⟩
      have ebz : bodyOf p z = b := bodyOf_mem hn mz
      obtain ⟨_, _, c60, fb⟩ := hp.ok _ mz
      have hk2 := (Tk.same sc).pg hk
      obtain ⟨bv, hbv, hb⟩ := hk2.val hn zn
      rw [ebz] at hb
      have pl60 : (placed 5 b []).length ≤ 60 := by rw [placed_len]; exact c60
      have gs : g (i + 1) = g i ++ ((placed 5 b []).map fun y => (z, y)).filter fun y => decide (y.2.2.word ∈ ws) := by
        show ((p.take (i + 1)).flatMap _).filter _ = _
        rw [flat_take hpi, List.filter_append]
      have gf : ((placed 5 b []).map fun y => (z, y)).filter (fun y => decide (y.2.2.word ∈ ws)) = ((placed 5 b []).filter fun y => decide (y.2.word ∈ ws)).map fun y => (z, y) := by
        rw [List.filter_map]
        rfl
      rw [gf] at gs
      have t1 := tot (i + 1)
      rw [gs, List.length_append, List.length_map] at t1
      have lus : us.length = (g i).length := hu.1
      refine ⟨_, rfl, _, rfl, t, bv, rfl, by rw [← hbv]; exact DGet.k (k := .inr z) (sc _ _ ht), Nat.zero_le _, fun te hte => ?_⟩
      have s2 := same_new (o := .tup []) hte
      have h2 : upd Hc te (.tup []) te = some (.tup (pI [])) := upd_same
      generalize upd Hc te (.tup []) = H2 at s2 h2 ⊢
      refine ⟨bv, te, b, [], rfl, hb.same s2, h2, fb, by decide, by omega, fun la zs H3 nla s3 hla hzs => ?_⟩
      have s23 := s2.trans s3
      have lzs : zs.length = (placed 5 b []).length := hzs.1
      refine ⟨la, rfl, ⟨_, SqL.of hla⟩, fun D hD => ?_⟩
      refine lc_list (xs := zs) (fun j Hx => Same H3 Hx ∧ ∃ vs, Hx D = some (.lst vs) ∧ AG (fun z y => PlT 5 Hx z y) vs (((placed 5 b []).take j).filter fun y => decide (y.2.word ∈ ws))) ⟨same_new hD, [], upd_same, AG.nil⟩ (fun j Hx _ p' => SqL.of (p'.1 _ _ hla)) ?_ ?_
      · rintro j v1 Hx hv1 ⟨sx, vs, hDx, hvs⟩
        obtain ⟨y, hy, h⟩ := hzs.2 j v1 hv1
        have h0 := (Kt.same sx).plT h
        have h00 := h0
        obtain ⟨rt, ra, rs, rfl, hrt, hra, hst⟩ := h00
        obtain ⟨sa, us', rfl, hsa⟩ := StAt.head hst
        have lv : vs.length ≤ 60 := by
          have h1 := hvs.1
          have h2 := List.length_filter_le (fun y : PL1 => decide (y.2.word ∈ ws)) ((placed 5 b []).take j)
          rw [List.length_take] at h2
          omega
        have ei : inV (.str y.2.word) (ws.map V.str) = decide (y.2.word ∈ ws) := inV_strs
        have fs := filter_snoc (f := fun y : PL1 => decide (y.2.word ∈ ws)) hy
        have hwx : Hx wa = some (.lst (ws.map V.str)) := sx _ _ (s23 _ _ (sc _ _ hwa))
        refine ⟨rfl, _, rfl, rt, _, _, _, rfl, rfl, SqT.of hrt, atI_nat (j := 1) rfl, sa, _, _, _, rfl, rfl, SqT.of hsa, atI_nat (j := 0) rfl, _, rfl, wa, _, rfl, .inl (SqL.of hwx), rfl, flat_strs, _, rfl, ite2 (fun h0' => ?_) (fun h0' => ?_)⟩
        · have h0' : decide (y.2.word ∈ ws) = true := by rw [← ei]; exact h0'
          rw [h0'] at fs
          refine ⟨_, rfl, vs, hDx, small1000 (by omega), same_upd hD sx, vs ++ [.ref rt], upd_same, ?_⟩
          rw [fs]
          have kd := Kt.upd (o := .lst (vs ++ [V.ref rt])) hDx
          exact AG.snoc (hvs.imp fun _ _ h => kd.plT h) (kd.plT h0)
        · have h0' : decide (y.2.word ∈ ws) = false := by
            cases c : decide (y.2.word ∈ ws) with
            | false => rfl
            | true => exact absurd (show inV (.str y.2.word) (ws.map V.str) = true by rw [ei]; exact c) h0'
          rw [h0'] at fs
          refine ⟨sx, vs, hDx, ?_⟩
          rw [fs]
          show AG _ vs (_ ++ [])
          rw [List.append_nil]
          exact hvs
      rintro Hx ⟨sx, vs, hDx, hvs⟩
      rw [List.take_of_length_le (by omega)] at hvs
      generalize hvl : ((placed 5 b []).filter fun y => decide (y.2.word ∈ ws)) = vl at hvs gs t1
      have lvs : vs.length = vl.length := hvs.1
      have s2x := s23.trans sx
      have hfx := s2x _ _ hfc
      refine ⟨_, rfl, .inl ⟨rfl, _, SqL.of hfx⟩, _, rfl, D, rfl, ⟨_, SqL.of hDx⟩, fun D2 hD2 => ?_⟩
      refine lc_list (xs := vs) (fun j Hy => Same Hx Hy ∧ ∃ qs, Hy D2 = some (.lst qs) ∧ AG (fun z y => SpT Hy z y) qs ((vl.take j).map fun y => (z, y))) ⟨same_new hD2, [], upd_same, AG.nil⟩ (fun j Hy _ p' => SqL.of (p'.1 _ _ hDx)) ?_ ?_
      · rintro j v1 Hy hv1 ⟨sy, qs, hDy, hqs⟩
        obtain ⟨y, hy, h⟩ := hvs.2 j v1 hv1
        obtain ⟨rt, ra, rs, rfl, hrt, hra, hst⟩ := (Kt.same sy).plT h
        have lq : qs.length ≤ 60 := by
          have := hqs.1
          rw [List.length_map, List.length_take] at this
          omega
        refine ⟨rt, _, rfl, SqT.of hrt, rfl, _, _, rfl, _, _, rfl, rfl, rfl, ?_⟩
        refine ⟨_, rfl, _, rfl, small1000 (Nat.le_of_ble_eq_true rfl), fun tp htp => ?_⟩
        have s4 := same_new (o := .tup [V.str z, V.ref ra]) htp
        have h4 : upd Hy tp (.tup [V.str z, V.ref ra]) tp = some (.tup [V.str z, V.ref ra]) := upd_same
        generalize upd Hy tp (.tup [V.str z, V.ref ra]) = H4 at s4 h4 ⊢
        refine ⟨_, rfl, small1000 (Nat.le_of_ble_eq_true rfl), fun te2 hte2 => ?_⟩
        have s5 := same_new (o := .tup [V.ref tp, rs]) hte2
        have h5 : upd H4 te2 (.tup [V.ref tp, rs]) te2 = some (.tup [V.ref tp, rs]) := upd_same
        generalize upd H4 te2 (.tup [V.ref tp, rs]) = H5 at s5 h5 ⊢
        have s45 := s4.trans s5
        have hD5 := s45 _ _ hDy
        have kd := Kt.upd (o := .lst (qs ++ [V.ref te2])) hD5
        refine ⟨qs, hD5, small1000 (by omega), same_upd hD2 (sy.trans s45), _, upd_same, ?_⟩
        rw [take_snoc hy, List.map_append]
        exact AG.snoc (hqs.imp fun _ _ h => ((Kt.same s45).trans kd).spT h) ⟨te2, tp, ra, rs, rfl, kd.tup h5, kd.tup (s5 _ _ h4), kd.tup (s45 _ _ hra), kd.st (StAt.same hst s45)⟩
      rintro Hy ⟨sy, qs, hDy, hqs⟩
      rw [List.take_of_length_le (by omega)] at hqs
      have s2y := s2x.trans sy
      have hfy := s2y _ _ hfc
      have kf := Kt.upd (o := .lst (us ++ qs)) hfy
      have lqs : qs.length = vl.length := by rw [hqs.1, List.length_map]
      refine ⟨fo, D2, us, qs, rfl, rfl, hfy, hDy, Nat.le_of_lt (small1000 (by omega)), same_upd hfo (sc.trans s2y), by rw [upd_ne nlf]; exact s2y _ _ hlc, us ++ qs, _, _, rfl, upd_same, ?_⟩
      rw [gs]
      exact AG.app (hu.imp fun _ _ h => ((Kt.same s2y).trans kf).spT h) (hqs.imp fun _ _ h => kf.spT h)
    · rintro σ Hc ⟨sc, hlc, us, x3, x4, rfl, hfc, hu⟩
      have e : g ((names p).map V.str).length = spotsP p ws := by
        show ((p.take _).flatMap _).filter _ = _
        rw [List.take_of_length_le (by simp)]
        rfl
      rw [e] at hu
      exact ⟨_, rfl, q fo us Hc hfo sc hfc hu⟩
end
end FR
set_option Elab.async false
set_option pp.maxSteps 1500
set_option linter.all false
set_option maxRecDepth 100000
set_option maxHeartbeats 1000000
/-! _law_statement_right -/
namespace FR
open PySem PySem.Spec PyProof.Rows L2 LD
abbrev sSr : Stmt := FR.top 73
abbrev NSr : List Str := ["_law_dice_here", "_law_thing", "_law_bodies_here", "_law_place", "_law_statement_here", "_law_much", "_law_due", "_law_common", "_law_weight_here", "_law_least", "_law_values_here", "_law_before", "_law_one"]
theorem scSr : FnScope NSr ["_law_dice_here", "_law_thing", "_law_bodies_here", "_law_place", "_law_statement_here"] (defScope sSr) := ⟨rfl, rfl, rfl, by decide +kernel, rfl, by decide +kernel, by decide +kernel⟩
theorem IsPg.rl {K : PySem.W.Frag} {C d : Addr} {H H' : Hp} {x : Addr} {p : Pg} (h : IsPg K C H x p) (r : Rl d H H') (hd : DiceAt H d) : IsPg K C H' x p := by
  have nd : ∀ a o, H a = some o → (∀ xs, o ≠ .lst xs) → a ≠ d := fun a o e n c => by
    obtain ⟨u1, u2, u3, e'⟩ := hd
    rw [c, e'] at e
    exact n _ (Option.some.inj e).symm
  exact h.keep (r.tk hd) (fun a C dx fs e => r.2 _ _ (nd _ _ e fun xs c => by cases c) e) fun a kvs e => r.2 _ _ (nd _ _ e fun xs c => by cases c) e
section
variable {P : Program} {w : World} {K : PySem.W.Frag} {mg : Str → Option Value} {base : Heap}
/-- either of two rules of an operator -/
theorem op_or {X : Cx} {op : Value → Value → Sem Value} {r1 r2 : R2} (h1 : OpR X op r1) (h2 : OpR X op r2) : OpR X op (fun x y H Q => r1 x y H Q ∨ r2 x y H Q) := fun pins s σ H x y v u Q I rx ry h => h.elim (h1 pins s σ H x y v u Q I rx ry) (h2 pins s σ H x y v u Q I rx ry)
theorem join1 {t r : TS} {D : Ends} {σ : L2.St} {H : Hp} {G : L2.St → Hp → Prop} (h : ∀ Q' : L2.St → Hp → Prop, (∀ σ' H', G σ' H' → Q' σ' H') → t { D with nx := Q' } σ H) (g : ∀ σ' H', G σ' H' → r D σ' H') : tSeq t r D σ H := h _ g
theorem join2 {t1 t2 r : TS} {D : Ends} {σ : L2.St} {H : Hp} {G : L2.St → Hp → Prop} (h : ∀ Q' : L2.St → Hp → Prop, (∀ σ' H', G σ' H' → Q' σ' H') → t1 { D with nx := fun σ H => t2 { D with nx := Q' } σ H } σ H) (g : ∀ σ' H', G σ' H' → r D σ' H') : tSeq t1 (tSeq t2 r) D σ H := h _ g
structure TxtJ (mg : Str → Option Value) : Prop where
  sorted : mg "sorted" = none
  max : mg "max" = none
theorem dp_ta {K : PySem.W.Frag} {H : Hp} {a : Addr} {p : PI} (h : TA H a p) : Dp K H (.ref a) (.tuple [.int p.1, .int p.2]) := .tup (.of h) (.cons (.int _) (.cons (.int _) .nil))
theorem pl_ta (p q : PI) : PlainD (.list [.tuple [.int p.1, .int p.2], .tuple [.int q.1, .int q.2]]) := ⟨rfl, by simp [PyData.depth, PyData.depthAll]⟩
theorem eq_tas {K : PySem.W.Frag} {H : Hp} {l l' a b c e : Addr} {p q : PI} {Q : VK} (hl : H l = some (.lst [.ref a, .ref b])) (hl' : H l' = some (.lst [.ref c, .ref e])) (ha : TA H a p) (hb : TA H b q) (hc : TA H c p) (he : TA H e q) (k : Q (.bl true) H) : rEqP K (.ref l) (.ref l') H Q :=
  ⟨_, _, .lst (.of hl) (.cons (dp_ta ha) (.cons (dp_ta hb) .nil)), .lst (.of hl') (.cons (dp_ta hc) (.cons (dp_ta he) .nil)), pl_ta p q, pl_ta p q, by rw [eqv_self (pl_ta p q).1]; exact k⟩
theorem vals_4 {ns : List Str} {ys : List (Str × PI)} (hn : ns.Nodup) (ey : ys.map (·.1) = ns) (h5 : ∀ y ∈ ys, Ch y.2 ∧ Bt 4 y.2) : Vals1 ns (fun _ => 4) (rhoOf ys) := fun z hz => by
  have nd1 : (ys.map (·.1)).Nodup := by rw [ey]; exact hn
  rw [← ey] at hz
  obtain ⟨y, hy, rfl⟩ := List.mem_map.mp hz
  obtain ⟨i, hi, e⟩ := List.getElem_of_mem hy
  rw [rho_at nd1 (i := i) (by rw [List.getElem?_eq_getElem hi, e])]
  exact h5 y hy
theorem gcdW_nn (l : List Int) : 0 ≤ gcdW l := (fold_pos l 0).elim id fun e => by subst e; exact Int.le_refl _
theorem frac_mul (m : Int) : fracW m 1 = mulW m := funext fun i => Int.fdiv_one _
theorem frac_div (g : Int) : fracW 1 g = divW g := funext fun i => by
  show (i * 1).fdiv g = i.fdiv g
  rw [Int.mul_one]
/-- what a statement's place in a drawn program is -/
structure SpotAt (K : PySem.W.Frag) (C : Addr) (H : Hp) (d x t pl : Addr) (sv : V) (kvs : List (Key × V)) (p : Pg) (es : List Str) (z : Str) (ps : List (Nat × Nat)) (i : Nat) (s : St) : Prop where
  dice : DiceAt H d
  pls : PlS K C H x pl p z ps i
  tab : H t = some (.dK kvs)
  pk : PrgK H kvs p
  dr : Drawn es p
  l4 : p.length ≤ 4
  inb : InB (bodyOf p z) ps
  at_ : (atB (bodyOf p z) ps)[i]? = some s
  st : StAt 5 H sv s
theorem wt_99 {i : Int} : wtB i = true ↔ 1 ≤ i ∧ i ≤ 99 := ⟨fun h => wt_of h, fun h => by
  show (decide (1 ≤ i) && decide (i ≤ 99)) = true
  rw [decide_eq_true h.1, decide_eq_true h.2]
  rfl⟩
/-- all weights times m are weights, if the greatest is -/
theorem max_ok {l : List Int} {m k : Int} (h : ∀ i ∈ l, 1 ≤ i ∧ i ≤ 99) (hm : 1 ≤ m) (hk : k ∈ l) (le : ∀ y ∈ l, y ≤ k) : (l.all fun i => wtB (mulW m i)) = decide (k * m ≤ 99) := by
  by_cases c : k * m ≤ 99
  · rw [decide_eq_true c, List.all_eq_true]
    intro i hi
    have h1 := Int.mul_le_mul_of_nonneg_right (le i hi) (show 0 ≤ m by omega)
    have h2 := Int.mul_le_mul (h i hi).1 hm (by decide) (by have := (h i hi).1; omega)
    exact wt_99.mpr ⟨by show 1 ≤ i * m; omega, by show i * m ≤ 99; omega⟩
  · rw [decide_eq_false c]
    refine any_false hk ?_
    cases e : wtB (mulW m k) with
    | false => rfl
    | true => exact absurd (wt_99.mp e).2 c
/-- what is due of the greater weights: a dict, or none -/
def DueAt (H : Hp) (p1 : Pg) (s1 : St) (dv : V) : Prop := (okS s1 = true ∧ ∃ t1 kvs1, dv = .ref t1 ∧ H t1 = some (.dK kvs1) ∧ PrgK H kvs1 p1) ∨ (okS s1 = false ∧ dv = .non)
theorem DueAt.same {H H' : Hp} {p1 : Pg} {s1 : St} {dv : V} (h : DueAt H p1 s1 dv) (s : Same H H') : DueAt H' p1 s1 dv := by
  rcases h with ⟨o, t1, k1, e, h1, h2⟩ | h
  · exact .inl ⟨o, t1, k1, e, s _ _ h1, (Tk.same s).pg h2⟩
  · exact .inr h
def spSr (K : PySem.W.Frag) (C : Addr) : Sp := fun vs H Q _ => ∃ d x t pl sv kvs p es z ps i s, vs = [.ref d, .ref x, .ref t, .ref pl, sv] ∧ SpotAt K C H d x t pl sv kvs p es z ps i s ∧ s.wty ∧ ∀ H', Rl d H H' → Q (.bl true) H'
theorem ok_sr {f C : Addr} {fd : FuncData} (F : Fun K "_law_statement_right" "_law_statement_right" sSr f fd) (R : PgC K C) (T : TxtJ mg) (mC : mg "Program" = some (.ref C)) (gO : OfG P w K mg base C) (g1 : Glo P w K mg base "_law_one_of" 2 ["_law_dice_here", "_law_items"] spOneOf) (gWs : Glo P w K mg base "_law_weights" 1 ["_law_statement_here"] (spLws 5)) (gSd : Glo P w K mg base "_law_scaled" 1 ["_law_statement_here", "_law_top", "_law_bottom"] (spLsd 5)) (gMd : Glo P w K mg base "_law_made" 19 ["_law_thing", "_law_place", "_law_much"] (spLmd K C)) (gGc : Glo P w K mg base "_law_gcd" 1 ["_law_one", "_law_two"] spGcd)
    (gCg : Glo P w K mg base "_law_changed" 7 ["_law_bodies_here", "_law_place", "_law_much", "_law_statements"] spCg) (gLw : Glo P w K mg base "lowered" 18 ["free", "place"] (spLow K C))
    (pB : PMet P w K mg base C "bodies" 1 ["self"] (spBo K C)) (pI : PMet P w K mg base C "is_closed" 1 ["self"] (spIc K C)) (gVl : Glo P w K mg base "_law_values" 3 ["_law_dice_here", "_law_names"] spVl) (gNx : Glo P w K mg base "_law_next" 8 ["_law_body_here", "_law_values_here"] (spNx 5)) : FnOk P w K mg base CX0 20 f fd ["_law_dice_here", "_law_thing", "_law_bodies_here", "_law_place", "_law_statement_here"] (spSr K C) := by
  refine F.ok scSr (fun vs H Q E h => ?_) (fun cdv A outer s H vs Q E hr h => ?_)
  · obtain ⟨d, x, t, pl, sv, kvs, p, es, z, ps, i, s', rfl, _⟩ := h
    rfl
  · obtain ⟨d, x, t, pl, sv, kvs, p, es, z, ps, i, s', rfl, S, ty, q⟩ := h
    refine ⟨_, (pss_cons (ps_set (i := 5) scSr.nd rfl (Or.inl rfl) (pe_call g1.G (hr.mono (by decide)) (by rfl) g1.m g1.k g1.b .nil pass0 (pa_cons (pv 0) (pa_cons (pe_lst (pa_cons pe_int (pa_cons pe_int (pa_cons pe_int (pa_cons pe_int (pa_cons pe_int (pa_cons pe_int (pa_cons pe_int (pa_cons pe_int (pa_cons pe_int pa_nil)))))))))) pa_nil))))
      (pss_cons (ps_set (i := 6) scSr.nd rfl (Or.inl rfl) pe_non)
      (pss_cons (ps_if (pt_cmpR op_le (pe_op op_mul (pe_callB (cr_max rfl) (by rfl) T.max (by decide +kernel) (pa_cons (pe_call gWs.G (hr.mono (by decide)) (by rfl) gWs.m gWs.k gWs.b .nil pass0 (pa_cons (pv 4) pa_nil)) pa_nil)) (pv 5)) pe_int (nomark _)) (pss_one (ps_set (i := 6) scSr.nd rfl (Or.inl rfl) (pe_call gCg.G (hr.mono (by decide)) (by rfl) gCg.m gCg.k gCg.b .nil pass0 (pa_cons (pv 2) (pa_cons (pv 3) (pa_cons pe_int (pa_cons (pe_tup (pa_cons (pe_call gSd.G (hr.mono (by decide)) (by rfl) gSd.m gSd.k gSd.b .nil pass0 (pa_cons (pv 4) (pa_cons (pv 5) (pa_cons pe_int pa_nil)))) pa_nil)) pa_nil))))))) pss_nil)
      (pss_cons (ps_if (pt_cmpR (op_or (op_neKD (K := K) rfl hr.units) op_ne) (pe_call gMd.G (hr.mono (by decide)) (by rfl) gMd.m gMd.k gMd.b .nil pass0 (pa_cons (pv 1) (pa_cons (pv 3) (pa_cons (pv 5) pa_nil)))) (pv 6) (nomark _)) pss_never pss_nil)
      (pss_cons (ps_set (i := 7) scSr.nd rfl (Or.inl rfl) pe_int)
      (pss_cons (ps_for PassesOwn.never rfl (pi_list (pe_call gWs.G (hr.mono (by decide)) (by rfl) gWs.m gWs.k gWs.b .nil pass0 (pa_cons (pv 4) pa_nil))) (pg_name (i := 8) scSr.nd rfl (.inl rfl)) (pss_one (ps_set (i := 7) scSr.nd rfl (Or.inl rfl) (pe_call gGc.G (hr.mono (by decide)) (by rfl) gGc.m gGc.k gGc.b .nil pass0 (pa_cons (pv 8) (pa_cons (pv 7) pa_nil))))))
      (pss_cons (ps_set (i := 9) scSr.nd rfl (Or.inl rfl) (pe_call gCg.G (hr.mono (by decide)) (by rfl) gCg.m gCg.k gCg.b .nil pass0 (pa_cons (pv 2) (pa_cons (pv 3) (pa_cons pe_int (pa_cons (pe_tup (pa_cons (pe_call gSd.G (hr.mono (by decide)) (by rfl) gSd.m gSd.k gSd.b .nil pass0 (pa_cons (pv 4) (pa_cons pe_int (pa_cons (pv 7) pa_nil)))) pa_nil)) pa_nil))))))
      (pss_cons (ps_if (pt_cmpR (op_neKD (K := K) rfl hr.units) (pe_prop (pe_call gLw.G (hr.mono (by decide)) (by rfl) gLw.m gLw.k gLw.b .nil pass0 (pa_cons (pv 1) (pa_cons (pv 3) pa_nil))) R.cl pB.o pB.G (hr.mono (by decide)) pB.b .nil pass0 rfl) (pv 9) (nomark _)) pss_never pss_nil)
      (pss_cons (ps_if (PW.pt (pw_and (pt_cmpR op_notN (pv 6) pe_non (nomark _)) (pw_and1 (pt_cmpR (op_neKD (K := K) rfl hr.units) (pe_prop (pe_call gLw.G (hr.mono (by decide)) (by rfl) gLw.m gLw.k gLw.b .nil pass0 (pa_cons (pe_smeth (pe_glob (v := .ref C) (by rfl) mC rfl) gO.rC gO.sO gO.G (hr.mono (by decide)) gO.b .nil pass0 (pa_cons (pv 6) pa_nil)) (pa_cons (pv 3) pa_nil))) R.cl pB.o pB.G (hr.mono (by decide)) pB.b .nil pass0 rfl) (pv 9) (nomark _))))) pss_never pss_nil)
      (pss_cons (ps_if (PW.pt (pw_or (pt_not (pt_val (pe_prop (pv 1) R.cl pI.o pI.G (hr.mono (by decide)) pI.b .nil pass0 rfl))) (pw_or1 (pt_cmpR op_isN (pv 6) pe_non (nomark _))))) (pss_one (ps_ret pe_bl)) pss_nil)
      (pss_cons (ps_set (i := 10) scSr.nd rfl (Or.inr rfl) (pe_call gVl.G (hr.mono (by decide)) (by rfl) gVl.m gVl.k gVl.b .nil pass0 (pa_cons (pv 0) (pa_cons (pe_callB (call_sortedD rfl) (by rfl) T.sorted (by decide +kernel) (pa_cons (pv 2) pa_nil)) pa_nil))))
      (pss_cons (ps_set (i := 11) scSr.nd rfl (Or.inl rfl) (pe_call gNx.G (hr.mono (by decide)) (by rfl) gNx.m gNx.k gNx.b .nil pass0 (pa_cons (pe_dget (lt1_of hr.units) (pv 2) (pe_ix ix_tup (pv 3) pe_int (fun _ _ => rfl)) (fun _ _ => rfl)) (pa_cons (pv 10) pa_nil))))
      (pss_one (ps_ret (pe_cmpR (op_eqP (K := K) rfl hr.units) (pe_lc (X := (cxOf CX0 P w K mg base NSr "_law_statement_right" (defScope sSr) f cdv A outer s H E).nox) (own := [("_law_one", 12)]) (g := (gName 12)) (tt := tYes) rfl scSr.nd (pi_tupK (K := K) rfl (pe_tup (pa_cons (pv 6) (pa_cons (pv 9) pa_nil)))) (blkOk_by (N := NSr) (sc := defScope sSr) (by decide +kernel)) (fun _ _ _ _ _ => (pg_name (i := 12) scSr.nd rfl (.inl rfl))) (fun _ _ _ _ _ => pts_nil) (fun _ _ _ _ _ => (pe_call gNx.G (hr.mono (by decide)) (by rfl) gNx.m gNx.k gNx.b .nil pass0 (pa_cons (pe_dget (lt1_of hr.units) (pv 12) (pe_ix (ix_tupK (K := K) rfl) (pv 3) pe_int (fun _ _ => rfl)) (fun _ _ => rfl)) (pa_cons (pv 10) pa_nil))))) (pe_lst (pa_cons (pv 11) (pa_cons (pv 11) pa_nil))) (nomark _)))))))))))))))), ?_⟩
    obtain ⟨hd, hpls, ht, hk, D, l4, inb, hat, hst⟩ := S
    have pls0 := hpls
    obtain ⟨pa, hi, hn, hz, hpl, hpa⟩ := pls0
    have hi0 := hi
    obtain ⟨dx, _, _, _, _, _, _, hx, _⟩ := hi0
    have al := D.al hz
    have lw := al_way al inb
    have al5 : Al (Ok1 (names p)) 5 (bodyOf p z) := al.mono (by decide)
    have c10 := D.c10 hz
    have A0 : AtW K C H x pl p z ps i s' := ⟨hpls, by omega, al5, Nat.le_trans c10 (by decide), inb, hat, ty⟩
    obtain ⟨o1, _⟩ := A0.ok
    obtain ⟨nw, wb⟩ := wty_wts ty o1.1
    have l4w : s'.wts.length ≤ 4 := wts_len o1.1
    -- how much
    refine ⟨_, rfl, small1000 (Nat.le_of_ble_eq_true rfl), fun l hl => ?_⟩
    have s1 := same_new (o := .lst [V.int 1, V.int 2, V.int 3, V.int 10, V.int 11, V.int 12, V.int 33, V.int 50, V.int 99]) hl
    have hl1 : upd H l (.lst [V.int 1, V.int 2, V.int 3, V.int 10, V.int 11, V.int 12, V.int 33, V.int 50, V.int 99]) l = some (.lst [V.int 1, V.int 2, V.int 3, V.int 10, V.int 11, V.int 12, V.int 33, V.int 50, V.int 99]) := upd_same
    have nld : l ≠ d := by
      obtain ⟨u1, u2, u3, e⟩ := hd
      exact fun c => by rw [c, e] at hl; cases hl
    generalize upd H l (.lst [V.int 1, V.int 2, V.int 3, V.int 10, V.int 11, V.int 12, V.int 33, V.int 50, V.int 99]) = H1 at s1 hl1 ⊢
    refine ⟨d, l, _, rfl, dice_same hd s1, hl1, nld, by decide, by decide, fun k mv a b c hk9 => ?_⟩
    obtain ⟨m, rfl, m1, m9⟩ : ∃ m : Int, mv = .int m ∧ 1 ≤ m ∧ m ≤ 99 := by
      have hm := List.mem_of_getElem? hk9
      simp only [List.mem_cons, List.not_mem_nil, or_false] at hm
      rcases hm with e | e | e | e | e | e | e | e | e <;> exact ⟨_, e, by decide, by decide⟩
    clear hk9 hl1 hl nld
    have R1 : Rl d H (upd H1 d (.lst (dxs a b c))) := ((Rl.refl hd).same s1).roll
    generalize upd H1 d (.lst (dxs a b c)) = H2 at R1 ⊢
    clear s1
    have ndk : ∀ {a : Addr} {k0 : List (Key × V)}, H a = some (.dK k0) → a ≠ d := fun {a k0} e c => by
      obtain ⟨u1, u2, u3, e'⟩ := hd
      rw [c, e'] at e
      cases e
    have tk2 := R1.tk hd
    have hd2 := R1.1
    have ht2 : H2 t = some (.dK kvs) := R1.2 _ _ (ndk ht) ht
    have hk2 := tk2.pg hk
    have hi2 := hi.rl R1 hd
    have hpl2 := tk2.1 _ _ hpl
    have hpa2 := tk2.1 _ _ hpa
    have st2 := tk2.st hst
    have A2 : AtW K C H2 x pl p z ps i s' := ⟨⟨pa, hi2, hn, hz, hpl2, hpa2⟩, by omega, al5, Nat.le_trans c10 (by decide), inb, hat, ty⟩
    clear hst hpls hk ht hpl hpa hi hx
    -- what is due
    have kid : ∀ f : Int → Int, (s'.mapW f).kids = s'.kids := fun f => mapW_kids f s'
    let s1 : St := s'.mapW (mulW m)
    let sL : St := s'.mapW (divW (gcdW s'.wts))
    let p1 : Pg := setP p z (spl (bodyOf p z) ps i [s1])
    dsimp only [gName]
    refine join2 (G := fun σ' Hz => ∃ dv, σ' = [some (.ref d), some (.ref x), some (.ref t), some (.ref pl), some sv, some (.int m), some dv, none, none, none, none, none, none] ∧ Same H2 Hz ∧ DueAt Hz p1 s1 dv) (fun Q' k => ?_) ?_
    · refine ⟨_, rfl, sv, s', rfl, st2, ty, o1.1, fun lw1 H3 s3 hlw => ?_⟩
      refine ⟨lw1, s'.wts, rfl, SqL.of hlw, List.length_pos_iff.mpr nw, fun mx hmx hle => ?_⟩
      have bx := wb mx hmx
      refine ⟨_, rfl, _, _, rfl, rfl, .inl ⟨by omega, by omega⟩, _, _, rfl, rfl, _, rfl, ?_⟩
      have eok : okS s1 = decide (mx * m ≤ 99) := by
        rw [(mapW_ok ty o1.1).1]
        exact max_ok wb m1 hmx hle
      refine ite2 (fun c => ?_) (fun c => ?_)
      · have c : okS s1 = true := eok.trans c
        refine ⟨_, rfl, _, rfl, _, rfl, _, rfl, sv, s', m, 1, rfl, st2.same s3, ty, o1.1, ⟨m1, m9⟩, ⟨by decide, by decide⟩, fun u H4 s4 hu => ?_⟩
        rw [frac_mul] at hu
        refine ⟨small1000 (Nat.le_of_ble_eq_true rfl), fun tx htx => ?_⟩
        have s5 := same_new (o := .tup [u]) htx
        have h5 : upd H4 tx (.tup [u]) tx = some (.tup [u]) := upd_same
        have hu5 := hu.same s5
        generalize upd H4 tx (.tup [u]) = H5 at s5 h5 hu5 ⊢
        have s25 := (s3.trans s4).trans s5
        refine ⟨t, pl, pa, .ref tx, kvs, p, z, ps, i, [s'.mapW (mulW m)], names p, rfl, s25 _ _ ht2, (Tk.same s25).pg hk2, hn, by omega, hz, s25 _ _ hpl2, s25 _ _ hpa2, al5, Nat.le_trans c10 (by decide), inb, A0.one hu5 h5, by show 1 ≤ 300; decide, fun dd kd H6 ndd s6 hdd hkd => ?_⟩
        exact k _ _ ⟨.ref dd, rfl, s25.trans s6, .inl ⟨c, dd, kd, rfl, hdd, hkd⟩⟩
      · have c : okS s1 = false := eok.trans (by simpa using c)
        exact k _ _ ⟨.non, rfl, s3, .inr ⟨c, rfl⟩⟩
    rintro _ H3 ⟨dv, rfl, s3, due⟩
    -- what is made
    have A3 := A2.same s3
    have nocall : ∀ (f : Int → Int) (y : Str), s'.mapW f = .call y → y ∈ names p := fun f y e => by
      have this := congrArg St.word e
      rw [mapW_word] at this
      have ty' : s'.word = "toss" ∨ s'.word = "again" := ty
      rw [show s'.word = "call" from this] at ty'
      exact absurd ty' (by decide +kernel)
    have D1 : okS s1 = true → Prg p1 ∧ cnt 5 (spl (bodyOf p z) ps i [s1]) ≤ 10 := fun c => prg_same D (by omega) hz inb hat ⟨c, nocall _⟩ (kid _)
    have nd1 : (names p1).Nodup := setP_nodup hn
    refine join1 (G := fun σ' Hz => σ' = [some (.ref d), some (.ref x), some (.ref t), some (.ref pl), some sv, some (.int m), some dv, none, none, none, none, none, none] ∧ Same H3 Hz) (fun Q' k => ?_) ?_
    · refine ⟨_, rfl, _, rfl, _, rfl, x, pl, p, z, ps, i, s', m, rfl, A3, m1, m9, ?_⟩
      rcases due with ⟨c, t1, kv1, rfl, ht1, hk1⟩ | ⟨c, rfl⟩
      · refine .inl ⟨(D1 c).1, D.so, hz, fun t4 kv4 H4 n4 s4 ht4 hk4 => ?_⟩
        refine ⟨_, rfl, .inl (ne_same ht4 (s4 _ _ ht1) hk4 ((Tk.same s4).pg hk1) nd1 ⟨_, rfl, iteF ?_⟩)⟩
        exact k _ H4 ⟨rfl, s4⟩
      · refine .inr ⟨prgX_same D (by omega) hz inb hat (mapW_ok ty o1.1).2 c (kid _), fun H4 s4 => ?_⟩
        refine ⟨_, rfl, .inr ⟨rfl, _, rfl, iteF ?_⟩⟩
        exact k _ H4 ⟨rfl, s4⟩
    rintro _ H4 ⟨rfl, s34⟩
    have s4 := s3.trans s34
    have due4 := due.same s34
    clear s3 s34 due A3
    -- the common divisor
    have hg := gcdW_pos nw fun i hi => (wb i hi).1
    obtain ⟨i0, hi0⟩ := List.exists_mem_of_ne_nil _ nw
    have hg9 : gcdW s'.wts ≤ 99 := Int.le_trans (gcdW_le hi0 fun i hi => (wb i hi).1) (wb i0 hi0).2
    refine ⟨_, rfl, sv, s', rfl, st2.same s4, ty, o1.1, fun lw2 H5 s45 hlw => ?_⟩
    refine ⟨lw2, rfl, ⟨_, SqL.of hlw⟩, ?_⟩
    have s5 := s4.trans s45
    refine for_it (walk_list (xs := s'.wts.map V.int)) (fun j σ Hc => Same H5 Hc ∧ ∃ x8 : Option V, σ = [some (.ref d), some (.ref x), some (.ref t), some (.ref pl), some sv, some (.int m), some dv, some (.int (gcdW (s'.wts.take j))), x8, none, none, none, none]) ⟨Same.refl H5, none, rfl⟩ (fun j σ Hc _ p => SqL.of (p.1 _ _ hlw)) ?_ ?_
    · rintro j v Hc σ H' hj ⟨sm, x8, rfl⟩ ⟨rfl, hv⟩
      rw [List.getElem?_map] at hv
      rw [List.length_map] at hj
      rw [List.getElem?_eq_getElem hj] at hv
      have ev : V.int s'.wts[j] = v := Option.some.inj hv
      subst ev
      have b1 := (wb _ (List.getElem_mem hj)).1
      have b0 : 0 ≤ gcdW (s'.wts.take j) := gcdW_nn _
      refine ⟨_, rfl, _, rfl, s'.wts[j].natAbs, (gcdW (s'.wts.take j)).natAbs, ?_, ?_⟩
      · rw [Int.natAbs_of_nonneg (by omega), Int.natAbs_of_nonneg b0]
        rfl
      · refine ⟨sm, some (.int s'.wts[j]), ?_⟩
        rw [take_snoc (List.getElem?_eq_getElem hj), gcdW_snoc, gcd2_comm]
        rfl
    rintro σ H6 ⟨s56, x8, rfl⟩
    rw [List.length_map, List.take_length]
    have s6 := s5.trans s56
    -- the least weights
    refine ⟨_, rfl, _, rfl, _, rfl, _, rfl, sv, s', 1, gcdW s'.wts, rfl, st2.same s6, ty, o1.1, ⟨by decide, by decide⟩, ⟨hg, hg9⟩, fun u H7 s67 hu => ?_⟩
    rw [frac_div] at hu
    refine ⟨small1000 (Nat.le_of_ble_eq_true rfl), fun tx htx => ?_⟩
    have s78 := same_new (o := .tup [u]) htx
    have h8 : upd H7 tx (.tup [u]) tx = some (.tup [u]) := upd_same
    have hu8 := hu.same s78
    generalize upd H7 tx (.tup [u]) = H8 at s78 h8 hu8 ⊢
    have s8 := (s6.trans s67).trans s78
    refine ⟨t, pl, pa, .ref tx, kvs, p, z, ps, i, [s'.mapW (divW (gcdW s'.wts))], names p, rfl, s8 _ _ ht2, (Tk.same s8).pg hk2, hn, by omega, hz, s8 _ _ hpl2, s8 _ _ hpa2, al5, Nat.le_trans c10 (by decide), inb, A0.one hu8 h8, by show 1 ≤ 300; decide, fun dl kl H9 ndl s89 hdl hkl => ?_⟩
    have s9 := s8.trans s89
    have due9 := due4.same ((((s45.trans s56).trans s67).trans s78).trans s89)
    clear hu hu8 h8 s89 s78 s67 s56 s45 hlw due4
    -- lowered
    have okL : okS (s'.mapW (divW (gcdW s'.wts))) = true := by
      rw [(mapW_ok ty o1.1).1, List.all_eq_true]
      intro i hi
      have d1 := divW_dvd (gcdW_dvd hi) hg
      have b1 := wb i hi
      refine wt_99.mpr ⟨?_, ?_⟩
      · rcases Int.lt_or_le (divW (gcdW s'.wts) i) 1 with c | c
        · have := Int.mul_nonpos_of_nonpos_of_nonneg (show divW (gcdW s'.wts) i ≤ 0 by omega) (show 0 ≤ gcdW s'.wts by omega)
          omega
        · exact c
      · rcases Int.lt_or_le 99 (divW (gcdW s'.wts) i) with c | c
        · have := Int.mul_le_mul_of_nonneg_left hg (show 0 ≤ divW (gcdW s'.wts) i by omega)
          omega
        · exact c
    have DL := prg_same D (by omega) hz inb hat ⟨okL, nocall _⟩ (kid (divW (gcdW s'.wts)))
    have ndL : (names (setP p z (spl (bodyOf p z) ps i [s'.mapW (divW (gcdW s'.wts))]))).Nodup := setP_nodup hn
    refine ⟨_, rfl, _, rfl, x, pl, p, z, ps, i, s', rfl, A2.same s9, DL.1, fun q2 y2 H10 pm so ny2 s10 hi10 => ?_⟩
    obtain rfl := pg_spl D hz pm so
    have hi100 := hi10
    obtain ⟨dx2, _, _, _, _, _, _, hx10, _⟩ := hi100
    refine ⟨y2, dx2, _, rfl, hx10, y2, _, rfl, hi10, fun t3 kvs3 H11 nt3 s11 ht3 hk3 => ?_⟩
    have s911 := s10.trans s11
    refine ⟨_, rfl, ne_same ht3 (s911 _ _ hdl) hk3 ((Tk.same s911).pg hkl) ndL ⟨_, rfl, iteF ?_⟩⟩
    have s11' := s9.trans s911
    have hdl11 := s911 _ _ hdl
    have hkl11 := (Tk.same s911).pg hkl
    have due11 := due9.same s911
    clear due9 hk3 ht3 hi10 hx10 hdl hkl s911 s10 s11 s9
    -- lowered, of what was made greater
    have il : i < (atB (bodyOf p z) ps).length := (List.getElem?_eq_some_iff.mp hat).1
    obtain ⟨sp1, sp2, sp3⟩ := spl_spl (s := s1) (s' := s'.mapW (divW (gcdW s'.wts))) inb il
    have b1e : bodyOf p1 z = spl (bodyOf p z) ps i [s1] := body_set hz
    have n1e : names p1 = names p := by show names (setP p z _) = _; rw [setP_names, if_pos hz]
    have eqL : setP p1 z (spl (bodyOf p1 z) ps i [s1.mapW (divW (gcdW s1.wts))]) = setP p z (spl (bodyOf p z) ps i [s'.mapW (divW (gcdW s'.wts))]) := by
      rw [b1e, show s1.mapW (divW (gcdW s1.wts)) = s'.mapW (divW (gcdW s'.wts)) from low_of_mul m1 nw fun i hi => (wb i hi).1, sp1]
      exact setP_setP hz
    have al1 : okS s1 = true → Al (Ok1 (names p)) 3 (spl (bodyOf p z) ps i [s1]) := fun c => (al_same D hz inb hat ⟨c, nocall _⟩ (kid _)).1
    dsimp only [tNext]
    refine join1 (G := fun σ' Hz => σ' = [some (.ref d), some (.ref x), some (.ref t), some (.ref pl), some sv, some (.int m), some dv, some (.int (gcdW s'.wts)), x8, some (.ref dl), none, none, none] ∧ Same H11 Hz) (fun Q' k => ?_) ?_
    · rcases due11 with ⟨c, t1, kv1, rfl, ht1, hk1⟩ | ⟨c, rfl⟩
      · refine ⟨_, rfl, rfl, _, rfl, iteT ?_⟩
        refine ⟨rfl, _, rfl, t1, kv1, p1, rfl, ht1, hk1, (D1 c).1, nd1, fun q3 y3 H13 q3p q3s n3 s13 i3 f3 => ?_⟩
        obtain rfl : q3 = p1 := pg_spl D hz q3p q3s
        have A13 : AtW K C H13 y3 pl p1 z ps i s1 := ⟨⟨pa, i3, nd1, by rw [n1e]; exact hz, (s11'.trans s13) _ _ hpl2, (s11'.trans s13) _ _ hpa2⟩, by
          have : p1.length = p.length := by show (setP p z _).length = _; rw [setP_in hz, List.length_map]
          omega, by rw [n1e, b1e]; exact (al1 c).mono (by decide), by rw [b1e]; exact Nat.le_trans (D1 c).2 (by decide), by rw [b1e]; exact sp2, by rw [b1e]; exact sp3, by
          have := mapW_word (mulW m) s'
          show (s'.mapW (mulW m)).word = "toss" ∨ (s'.mapW (mulW m)).word = "again"
          rw [this]; exact ty⟩
        refine ⟨_, rfl, y3, pl, p1, z, ps, i, s1, rfl, A13, by rw [eqL]; exact DL.1, fun q4 y4 H14 pm4 so4 n4 s14 hi14 => ?_⟩
        rw [eqL] at pm4
        obtain rfl := pg_spl D hz pm4 so4
        have hi140 := hi14
        obtain ⟨dx4, _, _, _, _, _, _, hx14, _⟩ := hi140
        refine ⟨y4, dx4, _, rfl, hx14, y4, _, rfl, hi14, fun t5 kvs5 H15 nt5 s15 ht5 hk5 => ?_⟩
        have s1115 := (s13.trans s14).trans s15
        refine ⟨_, rfl, ne_same ht5 (s1115 _ _ hdl11) hk5 ((Tk.same s1115).pg hkl11) ndL ⟨_, rfl, iteF ?_⟩⟩
        exact k _ H15 ⟨rfl, s1115⟩
      · exact ⟨_, rfl, rfl, _, rfl, iteF (k _ H11 ⟨rfl, Same.refl _⟩)⟩
    rintro _ H12 ⟨rfl, s1112⟩
    have s12 := s11'.trans s1112
    have hdl := s1112 _ _ hdl11
    have hkl := (Tk.same s1112).pg hkl11
    have due := due11.same s1112
    clear due11 hkl11 hdl11 s11' s1112
    -- closed
    have hi20 := hi2
    obtain ⟨dx, _, _, _, _, _, _, hx2, _⟩ := hi20
    have fin : ∀ H', Same H2 H' → Q (.bl true) H' := fun H' sm => q H' (R1.same sm)
    refine ⟨_, rfl, x, dx, _, rfl, s12 _ _ hx2, x, p, rfl, hi2.same s12, _, rfl, ?_⟩
    refine ite2 (fun _ => fin _ s12) (fun _ => ?_)
    refine ⟨_, rfl, rfl, _, rfl, ?_⟩
    rcases Or.symm due with ⟨c, rfl⟩ | ⟨c, t1, kv1, rfl, ht1, hk1⟩
    · exact iteT (fin _ s12)
    refine iteF ?_
    -- values
    refine ⟨_, rfl, _, rfl, t, kvs, names p, rfl, .inl (s12 _ _ ht2), hk2.keys, by rw [List.length_map]; omega, fun ns0 l hperm hsort hl => ?_⟩
    obtain rfl := sorted_perm hperm hsort D.so
    have s13 := same_new (o := .lst ((names p).map V.str)) hl
    have hl13 : upd H12 l (.lst ((names p).map V.str)) l = some (.lst ((names p).map V.str)) := upd_same
    have nld : l ≠ d := by
      obtain ⟨u1, u2, u3, e⟩ := dice_same hd2 s12
      exact fun c => by rw [c, e] at hl; cases hl
    generalize upd H12 l (.lst ((names p).map V.str)) = H13 at s13 hl13 ⊢
    have s013 := s12.trans s13
    have hd13 := dice_same hd2 s013
    refine ⟨d, l, names p, rfl, hd13, hl13, nld, hn, by rw [List.length_map]; omega, fun tv kvv ys H14 ntv r14 htv hkv ey h5 => ?_⟩
    have R14 : Rl d H2 H14 := ((Rl.refl hd2).same s013).trans r14
    have tk14 := R14.tk hd2
    have ndk2 : ∀ {Hx : Hp} {a : Addr} {k0 : List (Key × V)}, Same H2 Hx → Hx a = some (.dK k0) → a ≠ d := fun {Hx a k0} sx e c => by
      obtain ⟨u1, u2, u3, e'⟩ := dice_same hd2 sx
      rw [c, e'] at e
      cases e
    have ht14 : H14 t = some (.dK kvs) := r14.2 _ _ (ndk2 s013 (s013 _ _ ht2)) (s013 _ _ ht2)
    have ht114 : H14 t1 = some (.dK kv1) := r14.2 _ _ (ndk2 s013 (s13 _ _ ht1)) (s13 _ _ ht1)
    have hdl14 : H14 dl = some (.dK kl) := r14.2 _ _ (ndk2 s013 (s13 _ _ hdl)) (s13 _ _ hdl)
    have tk1214 : Tk H12 H14 := (Tk.same s13).trans (r14.tk hd13)
    have hk14 := tk14.pg hk2
    have hk114 := tk1214.pg hk1
    have hkl14 := tk1214.pg hkl
    have hpl14 := tk14.1 _ _ hpl2
    have ndy : (ys.map (·.1)).Nodup := by rw [ey]; exact hn
    have vd14 : VlD H14 tv (names p) (rhoOf ys) := by
      have := hkv.vlD htv ndy
      rw [ey] at this
      exact this
    have V1 := vals_4 hn ey h5
    have fin2 : ∀ H', Same H14 H' → Q (.bl true) H' := fun H' sm => q H' ((R1.trans R14).same sm)
    clear hkv htv r14 tk1214 hd13 nld hl13 s013 s13 hl hkl hdl hk1 ht1 fin s12
    -- before
    obtain ⟨v2, ev2, hv2⟩ := hk14.val hn hz
    refine ⟨_, rfl, _, rfl, pl, _, _, _, rfl, rfl, SqT.of hpl14, atI_nat (j := 0) rfl, t, v2, rfl, by rw [← ev2]; exact DGet.k (k := .inr z) ht14, _, rfl, v2, tv, bodyOf p z, rhoOf ys, names p, (fun _ => 4), rfl, hv2, al5, vd14, V1, Nat.le_trans (ws_10 D hz) (by decide), fun tb H15 s15 htb => ?_⟩
    -- behind
    have item : ∀ (f : Int → Int) (dq : Addr) (kq : List (Key × V)), okS (s'.mapW f) = true → (∀ N, nxS N (rhoOf ys) (s'.mapW f) = nxS N (rhoOf ys) s') → H14 dq = some (.dK kq) → PrgK H14 kq (setP p z (spl (bodyOf p z) ps i [s'.mapW f])) →
        ∃ vq nb, valV kq (.inr z) = some vq ∧ BdAt 5 H14 vq nb ∧ Al (Ok1 (names p)) 5 nb ∧ cnt 5 nb ≤ 40 ∧ nxt (rhoOf ys) 5 nb = nxt (rhoOf ys) 5 (bodyOf p z) := fun f dq kq ok e hq hkq => by
      have zn : z ∈ names (setP p z (spl (bodyOf p z) ps i [s'.mapW f])) := by rw [setP_names, if_pos hz]; exact hz
      obtain ⟨vq, evq, hvq⟩ := hkq.val (setP_nodup hn) zn
      rw [body_set hz] at hvq
      exact ⟨vq, _, evq, hvq, (al_same D hz inb hat ⟨ok, nocall f⟩ (kid f)).1.mono (by decide), Nat.le_trans (prg_same D (by omega) hz inb hat ⟨ok, nocall f⟩ (kid f)).2 (by decide), nx_same V1 al inb hat ⟨ok, nocall f⟩ (kid f) e⟩
    obtain ⟨va, nba, ga, ba, ala, ca, ea⟩ := item (mulW m) t1 kv1 c (fun N => nxS_mul m1) ht114 hk114
    obtain ⟨vb, nbb, gb, bb, alb, cb, eb⟩ := item (divW (gcdW s'.wts)) dl kl okL (fun N => nxS_div hg fun i hi => gcdW_dvd hi) hdl14 hkl14
    refine ⟨_, rfl, _, rfl, small1000 (Nat.le_of_ble_eq_true rfl), fun tt htt => ?_⟩
    have s16 := same_new (o := .tup [V.ref t1, V.ref dl]) htt
    have ht16 : upd H15 tt (.tup [V.ref t1, V.ref dl]) tt = some (.tup [V.ref t1, V.ref dl]) := upd_same
    generalize upd H15 tt (.tup [V.ref t1, V.ref dl]) = H16 at s16 ht16 ⊢
    have s1416 := s15.trans s16
    have htb16 := s16 _ _ htb
    generalize hX : nxt (rhoOf ys) 5 (bodyOf p z) = X at htb16 ea eb htb
    refine ⟨tt, rfl, ⟨_, SqT.of ht16⟩, fun DD hDD => ?_⟩
    refine lc_it (walk_tup (K := K) (a := tt) (xs := [V.ref t1, V.ref dl])) (fun j Hc => Same H16 Hc ∧ ∃ ws : List Addr, ws.length = j ∧ Hc DD = some (.lst (ws.map V.ref)) ∧ ∀ a ∈ ws, TA Hc a X) ⟨same_new hDD, [], rfl, upd_same, fun _ h => absurd h List.not_mem_nil⟩ (fun j Hc _ p => SqT.of (p.1 _ _ ht16)) ?_ ?_
    · rintro j v Hc H' hj ⟨sm, ws, lws, hDc, hws⟩ ⟨rfl, hv⟩
      have s14c := s1416.trans sm
      obtain ⟨dq, kq, vq, nb, rfl, hq, gq, bq, alq, cq, eq⟩ : ∃ dq kq vq nb, v = .ref dq ∧ H14 dq = some (.dK kq) ∧ valV kq (.inr z) = some vq ∧ BdAt 5 H14 vq nb ∧ Al (Ok1 (names p)) 5 nb ∧ cnt 5 nb ≤ 40 ∧ nxt (rhoOf ys) 5 nb = X := by
        match j, hv with
        | 0, hv => cases hv; exact ⟨t1, kv1, va, nba, rfl, ht114, ga, ba, ala, ca, ea⟩
        | 1, hv => cases hv; exact ⟨dl, kl, vb, nbb, rfl, hdl14, gb, bb, alb, cb, eb⟩
        | j + 2, hv => cases hv
      refine ⟨rfl, _, rfl, _, rfl, pl, _, _, _, rfl, rfl, SqT.of (s14c _ _ hpl14), atI_nat (j := 0) rfl, dq, vq, rfl, by rw [← gq]; exact DGet.k (k := .inr z) (s14c _ _ hq), _, rfl, vq, tv, nb, rhoOf ys, names p, (fun _ => 4), rfl, bq.same s14c, alq, vd14.same s14c, V1, Nat.le_trans (ws_b40 alq cq) (by decide), fun ta Hx sx hta => ?_⟩
      rw [eq] at hta
      have hDx := sx _ _ hDc
      have l2 : j < 2 := hj
      have k9 : Tk Hx (upd Hx DD (.lst (ws.map V.ref ++ [V.ref ta]))) := Tk.upd hDx (fun _ z => by cases z) (fun _ _ z => by cases z)
      refine ⟨_, hDx, small1000 (by rw [List.length_map]; omega), same_upd hDD (sm.trans sx), ws ++ [ta], by rw [List.length_append, lws]; rfl, by rw [List.map_append]; exact upd_same, fun a ha => ?_⟩
      rcases List.mem_append.mp ha with h | h
      · exact k9.1 _ _ (sx _ _ (hws a h))
      · rw [List.mem_singleton.mp h]
        exact k9.1 _ _ hta
    · rintro Hc ⟨sm, ws, lws, hDc, hws⟩
      obtain ⟨w1, w2, rfl⟩ : ∃ w1 w2, ws = [w1, w2] := by
        match ws, lws with
        | [a, b], _ => exact ⟨a, b, rfl⟩
      refine ⟨_, rfl, _, rfl, small1000 (Nat.le_of_ble_eq_true rfl), fun l2 hl2 => ?_⟩
      have s17 := same_new (o := .lst [V.ref tb, V.ref tb]) hl2
      have h17 : upd Hc l2 (.lst [V.ref tb, V.ref tb]) l2 = some (.lst [V.ref tb, V.ref tb]) := upd_same
      generalize upd Hc l2 (.lst [V.ref tb, V.ref tb]) = H17 at s17 h17 ⊢
      have tbX : TA H17 tb X := s17 _ _ (sm _ _ htb16)
      exact eq_tas (s17 _ _ hDc) h17 (s17 _ _ (hws w1 List.mem_cons_self)) (s17 _ _ (hws w2 (List.mem_cons_of_mem _ List.mem_cons_self))) tbX tbX (fin2 _ ((s1416.trans sm).trans s17))
end
end FR
set_option Elab.async false
set_option pp.maxSteps 1500
set_option linter.all false
set_option maxRecDepth 100000
set_option maxHeartbeats 1000000
/-! _law_right -/
namespace FR
open PySem PySem.Spec PyProof.Rows L2 LD
abbrev sLw : Stmt := FR.top 74
abbrev NLw : List Str := ["_law_dice_here", "_law_bodies_here", "_law_thing", "_law_place", "_law_statement_here"]
theorem scLw : FnScope NLw ["_law_dice_here"] (defScope sLw) := ⟨rfl, rfl, rfl, by decide +kernel, rfl, by decide +kernel, by decide +kernel⟩
theorem ite_k {c : Bool} {A B : VK → Prop} {K : VK} {R : V → Hp → Prop} (hA : ∀ K' : VK, (∀ v H, R v H → K' v H) → A K') (hB : ∀ K' : VK, (∀ v H, R v H → K' v H) → B K') (h : ∀ v H, R v H → K v H) : if c = true then A K else B K := by
  cases c
  · exact hB K h
  · exact hA K h
/-- what is at a spot of a drawn program -/
theorem spot_of {p : Pg} {es : List Str} (D : Drawn es p) {ws : List Str} {y : Str × PL1} (h : y ∈ spotsP p ws) : y.1 ∈ names p ∧ y.2.2.word ∈ ws ∧ ∃ ps i, y.2.1 = flat ps ++ [i] ∧ InB (bodyOf p y.1) ps ∧ (atB (bodyOf p y.1) ps)[i]? = some y.2.2 := by
  obtain ⟨h1, h2⟩ := List.mem_filter.mp h
  obtain ⟨x, hx, h1⟩ := List.mem_flatMap.mp (show y ∈ p.flatMap fun x => (placed 5 x.2 []).map fun y => (x.1, y) from h1)
  obtain ⟨u, hu, rfl⟩ := List.mem_map.mp h1
  obtain ⟨ps, i, e1, e2, e3⟩ := placed_way hu
  have eb : bodyOf p x.1 = x.2 := bodyOf_mem D.nd hx
  refine ⟨List.mem_map.mpr ⟨x, hx, rfl⟩, of_decide_eq_true h2, ps, i, e1, ?_, ?_⟩
  · show InB (bodyOf p x.1) ps
    rw [eb]; exact e2
  · show (atB (bodyOf p x.1) ps)[i]? = _
    rw [eb]; exact e3
section
variable {P : Program} {w : World} {K : PySem.W.Frag} {mg : Str → Option Value} {base : Heap}
def spLw : Sp := fun vs H Q _ => ∃ d, vs = [.ref d] ∧ DiceAt H d ∧ ∀ H', Rl d H H' → Q (.bl true) H'
theorem ok_lw {f C : Addr} {fd : FuncData} (F : Fun K "_law_right" "_law_right" sLw f fd) (R : PgC K C) (nf : PySem.W.notFirst K C (.ref C) = true) (mC : mg "Program" = some (.ref C)) (gO : OfG P w K mg base C) (gR : Glo P w K mg base "_law_roll" 1 ["_law_dice_here", "_law_total"] spRoll)
    (gB : Glo P w K mg base "_law_bodies" 10 ["_law_dice_here", "_law_much", "_law_extra"] spLo) (gX : Glo P w K mg base "_law_mixed" 2 ["_law_dice_here", "_law_items"] (spMxF fun v : V => v)) (gSp : Glo P w K mg base "_law_spots" 7 ["_law_bodies_here", "_law_sorts"] spSp)
    (gSr : Glo P w K mg base "_law_statement_right" 20 ["_law_dice_here", "_law_thing", "_law_bodies_here", "_law_place", "_law_statement_here"] (spSr K C))
    (mEq : Met P w K mg base C "__eq__" 1 ["self", "other"] (spEq K C)) : FnOk P w K mg base CX0 21 f fd ["_law_dice_here"] spLw := by
  refine F.ok scLw (fun vs H Q E h => ?_) (fun cdv A outer s H vs Q E hr h => ?_)
  · obtain ⟨d, rfl, _⟩ := h
    rfl
  · obtain ⟨d, rfl, hd, q⟩ := h
    refine ⟨_, (pss_cons (ps_set (i := 1) scLw.nd rfl (Or.inl rfl) (pe_call gB.G (hr.mono (by decide)) (by rfl) gB.m gB.k gB.b .nil pass0 (pa_cons (pv 0) (pa_cons pe_int (pa_cons (pe_ifExp (pt_cmpR op_gt (pe_call gR.G (hr.mono (by decide)) (by rfl) gR.m gR.k gR.b .nil pass0 (pa_cons (pv 0) (pa_cons pe_int pa_nil))) pe_int (nomark _)) (pe_lst (pa_cons pe_str pa_nil)) (pe_lst (pa_cons pe_str (pa_cons pe_str pa_nil)))) pa_nil)))))
      (pss_cons (ps_set (i := 2) scLw.nd rfl (Or.inl rfl) (pe_smeth (pe_glob (v := .ref C) (by rfl) mC rfl) gO.rC gO.sO gO.G (hr.mono (by decide)) gO.b .nil pass0 (pa_cons (pv 1) pa_nil)))
      (pss_cons (ps_for PassesOwn.never rfl (pi_list (pe_slice sl_list (pe_call gX.G (hr.mono (by decide)) (by rfl) gX.m gX.k gX.b .nil pass0 (pa_cons (pv 0) (pa_cons (pe_call gSp.G (hr.mono (by decide)) (by rfl) gSp.m gSp.k gSp.b .nil pass0 (pa_cons (pv 1) (pa_cons (pe_lst (pa_cons pe_str (pa_cons pe_str pa_nil))) pa_nil))) pa_nil))) po_none (po_some pe_int))) (pg_tupK (K := K) rfl rfl (pgs_cons (pg_name (i := 3) scLw.nd rfl (.inl rfl)) (pgs_cons (pg_name (i := 4) scLw.nd rfl (.inl rfl)) pgs_nil))) (pss_one (ps_if (pt_not (pt_val (pe_call gSr.G (hr.mono (by decide)) (by rfl) gSr.m gSr.k gSr.b .nil pass0 (pa_cons (pv 0) (pa_cons (pv 2) (pa_cons (pv 1) (pa_cons (pv 3) (pa_cons (pv 4) pa_nil)))))))) pss_never pss_nil)))
      (pss_one (ps_ret (pe_cmpR (op_eqLK (K := K) rfl mEq.D mEq.G (hr.mono (by decide)) mEq.b pass0) (pv 2) (pe_smeth (pe_glob (v := .ref C) (by rfl) mC rfl) gO.rC gO.sO gO.G (hr.mono (by decide)) gO.b .nil pass0 (pa_cons (pv 1) pa_nil)) (nomark _))))))), ?_⟩
    refine ⟨_, rfl, _, rfl, d, 4, rfl, hd, by omega, by omega, fun r a b c r0 r1 => ?_⟩
    have R0 : Rl d H (upd H d (.lst (dxs a b c))) := (Rl.refl hd).roll
    generalize upd H d (.lst (dxs a b c)) = H0 at R0 ⊢
    refine ⟨_, _, rfl, rfl, _, rfl, ?_⟩
    refine ite_k (R := fun v Hx => ∃ le es, v = .ref le ∧ Rl d H Hx ∧ Hx le = some (.lst ((es : List Str).map V.str)) ∧ es.length < 900) ?_ ?_ ?_
    · intro K' k
      refine ⟨small1000 (Nat.le_of_ble_eq_true rfl), fun le hle => ?_⟩
      exact k _ _ ⟨le, ["stay"], rfl, R0.same (same_new hle), upd_same, by decide⟩
    · intro K' k
      refine ⟨small1000 (Nat.le_of_ble_eq_true rfl), fun le hle => ?_⟩
      exact k _ _ ⟨le, ["stay", "choose"], rfl, R0.same (same_new hle), upd_same, by decide⟩
    rintro _ H1 ⟨le, es, rfl, R1, hle, e9⟩
    refine ⟨d, le, 4, es, rfl, by decide, by decide, R1.1, hle, e9, fun b kvs p H2 nb R2 hb hk D l3 => ?_⟩
    have R02 := R1.trans R2
    have hp := D.prg
    have hn := D.nd
    have l3 : p.length ≤ 4 := by omega
    clear hle R1 R2 R0
    refine ⟨rfl, _, rfl, b, kvs, p, rfl, hb, hk, hp, hn, fun q1 x H3 q1p q1s nx s3 i3 f3 => ?_⟩
    obtain rfl := pg_eq q1p hn D.so q1s
    have R03 := R02.same s3
    have hb3 := s3 _ _ hb
    have hk3 := (Tk.same s3).pg hk
    have bnd : ∀ {Hx : Hp}, DiceAt Hx d → Hx b = some (.dK kvs) → b ≠ d := fun {Hx} hx e c => by
      obtain ⟨u1, u2, u3, e'⟩ := hx
      rw [c, e'] at e
      cases e
    clear hb hk s3 f3 R02
    refine ⟨_, rfl, _, rfl, small1000 (Nat.le_of_ble_eq_true rfl), fun lw hlw => ?_⟩
    have sW := same_new (o := .lst [V.str "toss", V.str "again"]) hlw
    have hW : upd H3 lw (.lst [V.str "toss", V.str "again"]) lw = some (.lst ((["toss", "again"] : List Str).map V.str)) := upd_same
    refine ⟨b, lw, kvs, q1, ["toss", "again"], rfl, sW _ _ hb3, (Tk.same sW).pg hk3, hp, hn, D.so, hW, fun l0 us0 H' nl0 s' hl0 hu0 => ?_⟩
    have rs' := (R03.same sW).same s'
    have nld : l0 ≠ d := by
      obtain ⟨u1, u2, u3, e⟩ := (R03.same sW).1
      exact fun c => by rw [c, e] at nl0; cases nl0
    have lus0 : us0.length ≤ 60 := by
      rw [hu0.1]
      refine Nat.le_trans (List.length_filter_le _ _) ?_
      rw [allP_cnt]
      exact hp.cnts
    refine ⟨d, l0, us0, rfl, rs'.1, .inl (by rw [List.map_id']; exact hl0), nld, by omega, fun us lx Hm pm nlx' r'' hlx => ?_⟩
    rw [List.map_id'] at hlx
    have nlx : lx ≠ d := by
      obtain ⟨u1, u2, u3, e⟩ := rs'.1
      exact fun c => by rw [c, e] at nlx'; cases nlx'
    have tkm := r''.tk rs'.1
    have rm := rs'.trans r''
    have hbm : Hm b = some (.dK kvs) := r''.2 _ _ (bnd rs'.1 (s' _ _ (sW _ _ hb3))) (s' _ _ (sW _ _ hb3))
    have hkm := ((Tk.same (sW.trans s')).trans tkm).pg hk3
    have him := ((i3.same sW).same s').rl r'' rs'.1
    have lus : us.length ≤ 60 := by rw [pm.length_eq]; exact lus0
    have hus : ∀ v ∈ us, ∃ y, y ∈ spotsP q1 ["toss", "again"] ∧ SpT Hm v y := fun v hv => by
      obtain ⟨i, hi, e⟩ := List.getElem_of_mem (pm.mem_iff.mp hv)
      obtain ⟨y, hy, t, pl, pa, s0, e1, e2, e3, e4, e5⟩ := hu0.2 i v (by rw [List.getElem?_eq_getElem hi, e])
      exact ⟨y, List.mem_of_getElem? hy, t, pl, pa, s0, e1, tkm.1 _ _ e2, tkm.1 _ _ e3, tkm.1 _ _ e4, tkm.st e5⟩
    clear hu0 hl0 nl0 pm
    refine ⟨_, rfl, lx, us, rfl, SqL.of hlx, fun p4 hp4 => ?_⟩
    rw [show cutV us none (some 5) = us.take 5 from cut_to us 5]
    have s4 := same_new (o := .lst (us.take 5)) hp4
    have h4 : upd Hm p4 (.lst (us.take 5)) p4 = some (.lst (us.take 5)) := upd_same
    have r4 := rm.same s4
    have np4 : p4 ≠ d := by
      obtain ⟨u1, u2, u3, e⟩ := rm.1
      exact fun c => by rw [c, e] at hp4; cases hp4
    have hb4 := s4 _ _ hbm
    have hk4 := (Tk.same s4).pg hkm
    have hi4 := him.same s4
    have hus4 : ∀ v ∈ us.take 5, ∃ y, y ∈ spotsP q1 ["toss", "again"] ∧ SpT (upd Hm p4 (.lst (us.take 5))) v y := fun v hv => (hus v (List.mem_of_mem_take hv)).imp fun y h => ⟨h.1, (Kt.same s4).spT h.2⟩
    generalize upd Hm p4 (.lst (us.take 5)) = H4 at s4 h4 r4 hb4 hk4 hi4 hus4 ⊢
    refine ⟨p4, rfl, ⟨_, SqL.of h4⟩, ?_⟩
    clear hlx hus hbm hkm him s4 hp4 hW tkm r'' rs' s' sW
    refine for_it (walk_list (xs := us.take 5)) (fun j σ Hc => Rl d H4 Hc ∧ ∃ (x3 x4 : Option V), σ = [some (.ref d), some (.ref b), some (.ref x), x3, x4]) ⟨Rl.refl r4.1, _, _, rfl⟩ (fun j σ Hc _ p' => SqL.of (p'.1.2 _ _ np4 h4)) ?_ ?_
    · rintro j v σ Hq Hc hj ⟨rc, x3, x4, rfl⟩ ⟨rfl, hv⟩
      obtain ⟨⟨z, pth, sst⟩, hy, t, pl, pa, s0, rfl, e2, e3, e4, e5⟩ := hus4 v (List.mem_of_getElem? hv)
      obtain ⟨zn, hw, ps, i, ep, inb, hat⟩ := spot_of D hy
      have ep : pth = flat ps ++ [i] := ep
      subst ep
      have tk := rc.tk r4.1
      have rHc := r4.trans rc
      have hbc : Hc b = some (.dK kvs) := rc.2 _ _ (bnd r4.1 hb4) hb4
      refine ⟨t, _, rfl, SqT.of (tk.1 _ _ e2), rfl, _, _, rfl, _, _, rfl, rfl, ?_⟩
      have pls : PlS K C Hc x pl q1 z ps i := ⟨pa, hi4.rl rc r4.1, hn, zn, tk.1 _ _ e3, tk.1 _ _ e4⟩
      have fin : ∀ s : St, (atB (bodyOf q1 z) ps)[i]? = some s → StAt 5 H4 s0 s → SpotAt K C Hc d x b pl s0 kvs q1 es z ps i s := fun s h1 h2 => ⟨rc.1, pls, hbc, tk.pg hk4, D, l3, inb, h1, tk.st h2⟩
      have hat : (atB (bodyOf q1 z) ps)[i]? = some sst := hat
      have e5 : StAt 5 H4 s0 sst := e5
      have hw : sst.word ∈ (["toss", "again"] : List Str) := hw
      have ty : sst.wty := by
        rcases List.mem_cons.mp hw with e | e
        · exact .inl e
        · exact .inr (List.mem_singleton.mp e)
      exact ⟨_, rfl, _, rfl, _, rfl, _, rfl, _, rfl, d, x, b, pl, s0, kvs, q1, es, z, ps, i, sst, rfl, fin _ hat e5, ty, fun H' r' => ⟨_, rfl, iteF ⟨rc.trans r', _, _, rfl⟩⟩⟩
    rintro σ Hx ⟨rx, x3, x4, rfl⟩
    have rX := r4.trans rx
    have hbX : Hx b = some (.dK kvs) := rx.2 _ _ (bnd r4.1 hb4) hb4
    have hkX := (rx.tk r4.1).pg hk4
    have hiX := hi4.rl rx r4.1
    clear hus4 h4 r4 rx hb4 hk4 hi4 rm np4
    refine ⟨_, rfl, rfl, _, rfl, b, kvs, q1, rfl, hbX, hkX, hp, hn, fun q2 y H7 q2p q2s ny s7 i7 f7 => ?_⟩
    obtain rfl := pg_eq q2p hn D.so q2s
    have iz := hiX.same s7
    have iz0 := iz
    obtain ⟨dxz, _, _, _, _, _, _, xz, _⟩ := iz0
    have iy0 := i7
    obtain ⟨dyz, _, _, _, _, _, _, yz, _⟩ := iy0
    refine ⟨x, dxz, _, .ref C, rfl, xz, .base (R.ty.ins yz), nf, x, .ref y, q2, rfl, iz, .inl ⟨y, q2, rfl, i7, hn, fun r hr' => ?_⟩⟩
    obtain rfl : r = true := hr'.mpr ⟨rfl, fun x hx => ⟨List.mem_map.mpr ⟨x, hx, rfl⟩, by rw [bodyOf_mem hn hx]; exact eqv_self (plainB 5 _)⟩⟩
    exact q _ (rX.same s7)
end
end FR
set_option Elab.async false
set_option linter.all false
set_option maxRecDepth 100000
set_option maxHeartbeats 1000000
/-! the law's written programs -/
namespace FR
open PySem PySem.Spec PyProof.Rows L2
def okBb : Nat → Bd → Bool
  | 0, _ => true
  | n + 1, b => b.all fun s => okS s && s.kids.all (okBb n)
def fewBb : Nat → Bd → Bool
  | 0, _ => true
  | n + 1, b => b.all fun s => decide (s.kids.length ≤ 90) && s.kids.all (fewBb n)
theorem okBb_ok : ∀ {n : Nat} {b : Bd}, okBb n b = true → okB n b
  | 0, _, _ => trivial
  | n + 1, b, h => fun s hs => by
    have := List.all_eq_true.mp h s hs
    rw [Bool.and_eq_true] at this
    exact ⟨this.1, fun k hk => okBb_ok (List.all_eq_true.mp this.2 k hk)⟩
theorem fewBb_ok : ∀ {n : Nat} {b : Bd}, fewBb n b = true → FewB n b
  | 0, _, _ => trivial
  | n + 1, b, h => fun s hs => by
    have := List.all_eq_true.mp h s hs
    rw [Bool.and_eq_true] at this
    exact ⟨of_decide_eq_true this.1, fun k hk => fewBb_ok (List.all_eq_true.mp this.2 k hk)⟩
def prgB (p : Pg) : Bool := (decide (1 ≤ p.length) && decide (p.length ≤ 8)) && (p.all (fun x => nameB x.1 && (okBb 5 x.2 && (decide (cnt 5 x.2 ≤ 60) && fewBb 5 x.2))) && (decide ((p.map fun x => cnt 5 x.2).sum ≤ 60) && p.all fun x => (callsOf x.2).all fun z => decide (z ∈ names p)))
theorem prgB_ok {p : Pg} (h : prgB p = true) : Prg p := by
  unfold prgB at h
  rw [Bool.and_eq_true, Bool.and_eq_true, Bool.and_eq_true, Bool.and_eq_true] at h
  obtain ⟨⟨a, b⟩, c, d, e⟩ := h
  refine ⟨⟨of_decide_eq_true a, of_decide_eq_true b⟩, fun x hx => ?_, ?_, fun x hx z hz => ?_⟩
  · have := List.all_eq_true.mp c x hx
    rw [Bool.and_eq_true, Bool.and_eq_true, Bool.and_eq_true] at this
    exact ⟨this.1, okBb_ok this.2.1, of_decide_eq_true this.2.2.1, fewBb_ok this.2.2.2⟩
  · have e2 : (p.map fun x => (placed 5 x.2 []).length) = p.map fun x => cnt 5 x.2 := List.map_congr_left fun x _ => placed_len 5 x.2 []
    rw [e2]
    exact of_decide_eq_true d
  · exact of_decide_eq_true (List.all_eq_true.mp (List.all_eq_true.mp e x hx) z hz)
theorem valV_no {kvs : List (Key × V)} {z : Str} (h : ∀ kv ∈ kvs, ∃ y, kv.1 = .inr y ∧ (y == z) = false) : valV kvs (.inr z) = none := by
  induction kvs with
  | nil => rfl
  | cons kv kvs ih =>
    obtain ⟨y, e, ne⟩ := h kv List.mem_cons_self
    obtain ⟨k, v⟩ := kv
    cases e
    rw [valV_neg (fun e => absurd (Sum.inr.inj e) (by simpa using ne))]
    exact ih fun kv hk => h kv (List.mem_cons_of_mem _ hk)
def callB (ns : List Str) : St → Bool
  | .call z => decide (z ∈ ns)
  | _ => true
def alB (ns : List Str) : Nat → Bd → Bool
  | 0, _ => false
  | n + 1, b => b.all fun s => (okS s && callB ns s) && s.kids.all (alB ns n)
theorem alB_ok {ns : List Str} : ∀ {n : Nat} {b : Bd}, alB ns n b = true → Al (Ok1 ns) n b
  | n + 1, b, h => fun s hs => by
    have := List.all_eq_true.mp h s hs
    rw [Bool.and_eq_true, Bool.and_eq_true] at this
    exact ⟨⟨this.1.1, fun z e => by
      have h2 := this.1.2
      rw [e] at h2
      exact of_decide_eq_true h2⟩, fun k hk => alB_ok (List.all_eq_true.mp this.2 k hk)⟩
theorem pg_lit {p q : Pg} {z : Str} {nb : Bd} (hn : (names p).Nodup) (hs : sortedS (names p) = true) (hz : z ∈ names p) (pm : q.Perm (setP p z nb)) (so : sortedS (names q) = true) : q = setP p z nb := by
  have en : names (setP p z nb) = names p := by rw [setP_names, if_pos hz]
  exact pg_eq pm (setP_nodup hn) (by rw [en]; exact hs) so
/-- programs of one procedure -/
def X1 (b : Bd) : Pg := [("x", b)]
theorem x1_nd (b : Bd) : (names (X1 b)).Nodup := by show (["x"] : List Str).Nodup; decide
theorem x1_so (b : Bd) : sortedS (names (X1 b)) = true := by show sortedS ["x"] = true; decide +kernel
theorem x1_n (b : Bd) : ("x" : Str) ∈ names (X1 b) := List.mem_cons_self
theorem x1_set (b c : Bd) : setP (X1 b) "x" c = X1 c := by
  rw [setP_in (x1_n b)]
  show [if ("x" : Str) = "x" then (("x" : Str), c) else (("x" : Str), b)] = [(("x" : Str), c)]
  rw [if_pos rfl]
theorem x1_b (b : Bd) : bodyOf (X1 b) "x" = b := by
  show (if ("x" : Str) = "x" then b else _) = b
  rw [if_pos rfl]
theorem x1_eq {q : Pg} {b : Bd} (pm : q.Perm (X1 b)) : q = X1 b := List.perm_singleton.mp pm
def iT (i j : Int) : St := .again i j []
def tT (a b c : Int) (s : St) : St := .toss [(a, []), (b, [s]), (c, [.call "x"])]
def b0 : Bd := [tT 6 4 8 (iT 9 12)]
def bI : Bd := [tT 6 4 8 (iT 3 4)]
def bL : Bd := [tT 3 2 4 (iT 3 4)]
def bM : Bd := [tT 72 48 96 (iT 9 12)]
def bN : Bd := [tT 78 52 104 (iT 9 12)]
def bE : Bd := [tT 6 4 8 (iT 72 96)]
def bO : Bd := [.toss [(6, []), (4, []), (3, [])]]
theorem in0 {a b c : Int} {s : St} : InB [tT a b c s] [(0, 1)] := ⟨by show 0 < 1; decide, by show 1 < 3; decide, trivial⟩
theorem e_I : spl b0 [(0, 1)] 0 [(iT 9 12).mapW (divW (gcdW (iT 9 12).wts))] = bI := by
  have e : (iT 9 12).mapW (divW (gcdW (iT 9 12).wts)) = iT 3 4 := by
    show St.again (divW (gcdW [9, 12]) 9) (divW (gcdW [9, 12]) 12) [] = _
    rw [show gcdW [9, 12] = 3 by decide +kernel]
    rfl
  rw [e]
  rfl
theorem e_L : spl bI [] 0 [(tT 6 4 8 (iT 3 4)).mapW (divW (gcdW (tT 6 4 8 (iT 3 4)).wts))] = bL := by
  have e : (tT 6 4 8 (iT 3 4)).mapW (divW (gcdW (tT 6 4 8 (iT 3 4)).wts)) = tT 3 2 4 (iT 3 4) := by
    show St.toss [(divW (gcdW [6, 4, 8]) 6, []), (divW (gcdW [6, 4, 8]) 4, [iT 3 4]), (divW (gcdW [6, 4, 8]) 8, [.call "x"])] = _
    rw [show gcdW [6, 4, 8] = 2 by decide +kernel]
    rfl
  rw [e]
  rfl
theorem e_S : spl bL [] 0 [(tT 3 2 4 (iT 3 4)).mapW (mulW 2)] = bI := rfl
theorem e_M : spl b0 [] 0 [(tT 6 4 8 (iT 9 12)).mapW (mulW 12)] = bM := rfl
theorem e_N : spl b0 [] 0 [(tT 6 4 8 (iT 9 12)).mapW (mulW 13)] = bN := rfl
theorem e_E : spl b0 [(0, 1)] 0 [(iT 9 12).mapW (mulW 8)] = bE := rfl
theorem e_O : spl bO [] 0 [(St.toss [(6, []), (4, []), (3, [])]).mapW (divW (gcdW (St.toss [(6, []), (4, []), (3, [])]).wts))] = bO := by
  have e : (St.toss [(6, []), (4, []), (3, [])]).mapW (divW (gcdW (St.toss [(6, []), (4, []), (3, [])]).wts)) = .toss [(6, []), (4, []), (3, [])] := by
    show St.toss [(divW (gcdW [6, 4, 3]) 6, []), (divW (gcdW [6, 4, 3]) 4, []), (divW (gcdW [6, 4, 3]) 3, [])] = _
    rw [show gcdW [6, 4, 3] = 1 by decide +kernel]
    rfl
  rw [e]
  rfl
theorem pr0 : Prg (X1 b0) := prgB_ok (by decide +kernel)
theorem prI : Prg (X1 bI) := prgB_ok (by decide +kernel)
theorem prL : Prg (X1 bL) := prgB_ok (by decide +kernel)
theorem prM : Prg (X1 bM) := prgB_ok (by decide +kernel)
theorem prE : Prg (X1 bE) := prgB_ok (by decide +kernel)
theorem prO : Prg (X1 bO) := prgB_ok (by decide +kernel)
def fmBb : Nat → Bd → Bool
  | 0, _ => true
  | n + 1, b => b.all fun s => fmS s && s.kids.all (fmBb n)
theorem fmBb_ok : ∀ {n : Nat} {b : Bd}, fmBb n b = true → fmB n b
  | 0, _, _ => trivial
  | n + 1, b, h => fun s hs => by
    have := List.all_eq_true.mp h s hs
    rw [Bool.and_eq_true] at this
    exact ⟨this.1, fun k hk => fmBb_ok (List.all_eq_true.mp this.2 k hk)⟩
theorem prN : PrgX (X1 bN) := ⟨⟨by decide, by decide⟩, fun x hx => by
  rw [List.mem_singleton.mp hx]
  exact ⟨by decide +kernel, fmBb_ok (by decide +kernel), by show cnt 5 bN ≤ 60; decide +kernel⟩, by decide +kernel⟩
theorem al0 {b : Bd} (h : alB ["x"] 5 b = true) : Al (Ok1 (names (X1 b))) 5 (bodyOf (X1 b) "x") := by
  rw [x1_b]
  exact alB_ok h
/-- the place of a written statement -/
theorem atX {K : PySem.W.Frag} {C : Addr} {H : Hp} {x pl pa : Addr} {b : Bd} {ps : List (Nat × Nat)} {i : Nat} {s : St} (hi : IsPg K C H x (X1 b)) (h1 : H pl = some (.tup [.str "x", .ref pa])) (h2 : H pa = some (.tup (pI (flat ps ++ [i])))) (al : alB ["x"] 5 b = true) (c : cnt 5 b ≤ 60) (inb : InB b ps) (hs : (atB b ps)[i]? = some s) (ty : s.wty) : AtW K C H x pl (X1 b) "x" ps i s :=
  ⟨⟨pa, hi, x1_nd b, x1_n b, h1, h2⟩, by show 1 ≤ 8; decide, al0 al, by rw [x1_b]; exact c, by rw [x1_b]; exact inb, by rw [x1_b]; exact hs, ty⟩
theorem dpSt {K : PySem.W.Frag} {H : Hp} {v : V} {s : St} {n : Nat} (h : StAt n H v s) : Dp K H v (dS (dB n) s) := dpS (fun _ _ y => dpB n y) h
theorem plSt {n : Nat} (h : n ≤ 5) (s : St) : PlainD (dS (dB n) s) := by
  have p := plainB (n + 1) [s]
  have d := depthB (n + 1) [s]
  refine ⟨plainS (plainB n) s, ?_⟩
  simp only [dB, List.map_cons, List.map_nil, PyData.depth, PyData.depthAll] at d
  omega
/-- the one statement of a body -/
theorem one_at {H : Hp} {v : V} {s : St} {n : Nat} (h : BdAt (n + 1) H v [s]) : ∃ a v0, v = .ref a ∧ H a = some (.tup [v0]) ∧ StAt n H v0 s := by
  obtain ⟨a, xs, rfl, ha, hx⟩ := h
  obtain ⟨v0, rfl⟩ : ∃ v0, xs = [v0] := by
    have l : xs.length = 1 := hx.1
    match xs, l with
    | [v0], _ => exact ⟨v0, rfl⟩
  exact ⟨a, v0, rfl, ha, (AG.uncons hx).1⟩
/-- the rows of a toss of three -/
theorem rows3 {H : Hp} {v : V} {a b c : Int} {x y z : Bd} {n : Nat} (h : StAt n H v (.toss [(a, x), (b, y), (c, z)])) : ∃ s r1 r2 r3 b1 b2 b3, v = .ref s ∧ H s = some (.tup [.str "toss", .ref r1, .ref r2, .ref r3]) ∧ H r1 = some (.tup [.int a, b1]) ∧ BdAt n H b1 x ∧ H r2 = some (.tup [.int b, b2]) ∧ BdAt n H b2 y ∧ H r3 = some (.tup [.int c, b3]) ∧ BdAt n H b3 z := by
  obtain ⟨sa, ws, rfl, hsa, hw⟩ := h
  obtain ⟨w1, w2, w3, rfl⟩ : ∃ v0 v1 v2, ws = [v0, v1, v2] := by
    have l : ws.length = 3 := hw.1
    match ws, l with
    | [v0, v1, v2], _ => exact ⟨v0, v1, v2, rfl⟩
  obtain ⟨⟨r1, b1, rfl, h5, h6⟩, h7⟩ := AG.uncons hw
  obtain ⟨⟨r2, b2, rfl, h8, h9⟩, h10⟩ := AG.uncons h7
  obtain ⟨⟨r3, b3, rfl, h11, h12⟩, _⟩ := AG.uncons h10
  exact ⟨sa, r1, r2, r3, b1, b2, b3, rfl, hsa, h5, h6, h8, h9, h11, h12⟩
theorem plRow (i : Int) (b : Bd) : PlainD (.tuple [.int i, dB 4 b]) := by
  refine ⟨?_, ?_⟩
  · show (true && (PyData.plain (dB 4 b) && true)) = true
    rw [plainB 4 b]
    rfl
  · have := depthB 4 b
    simp only [PyData.depth, PyData.depthAll]
    omega
theorem dpRow {K : PySem.W.Frag} {H : Hp} {r : Addr} {i : Int} {v : V} {b : Bd} (h : H r = some (.tup [.int i, v])) (g : BdAt 4 H v b) : Dp K H (.ref r) (.tuple [.int i, dB 4 b]) := .tup (.of h) (.cons (.int _) (.cons (dpB 4 g) .nil))
end FR
set_option Elab.async false
set_option pp.maxSteps 1500
set_option linter.all false
set_option maxRecDepth 100000
set_option maxHeartbeats 1000000
/-! law -/
namespace FR
open PySem PySem.Spec PyProof.Rows L2 LD
abbrev sLaw : Stmt := FR.top 75
abbrev NLaw : List Str := ["_law_script", "_law_at", "_law_dice_here", "_law_turn", "_law_thing", "_law_inner_here", "_law_least", "_law_row", "_law_much", "_law_odd"]
theorem scLaw : FnScope NLaw ["_law_script"] (defScope sLaw) := ⟨rfl, rfl, rfl, by decide +kernel, rfl, by decide +kernel, by decide +kernel⟩
section
variable {P : Program} {w : World} {K : PySem.W.Frag} {mg : Str → Option Value} {base : Heap}
structure TxtLw (mg : Str → Option Value) : Prop where
  range : mg "range" = none
  max : mg "max" = none
  min : mg "min" = none
  len : mg "len" = none
def spLaw (K : PySem.W.Frag) : Sp := fun vs H Q _ => ∃ (a : Addr) (ns : List Int), vs = [.ref a] ∧ SqL K H a (ns.map V.int) ∧ ∀ H', Q (.bl true) H'
/-- the same program: no != -/
theorem ne_x1 {K : PySem.W.Frag} {C : Addr} {H : Hp} {x y : Addr} {b : Bd} {Q : VK} (R : PgC K C) (nf : PySem.W.notFirst K C (.ref C) = true) (hx : IsPg K C H x (X1 b)) (hy : IsPg K C H y (X1 b)) (q : Q (.bl false) H) : rNeL K C (spEq K C) E0 (.ref x) (.ref y) H Q := by
  have hx0 := hx
  have hy0 := hy
  obtain ⟨dx, _, _, _, _, _, _, ex, _⟩ := hx0
  obtain ⟨dy, _, _, _, _, _, _, ey, _⟩ := hy0
  refine ⟨x, dx, _, .ref C, rfl, ex, .base (R.ty.ins ey), nf, x, .ref y, X1 b, rfl, hx, .inl ⟨y, X1 b, rfl, hy, x1_nd b, fun r hr => ⟨r, rfl, ?_⟩⟩⟩
  obtain rfl : r = true := hr.mpr ⟨rfl, fun z hz => ⟨List.mem_map.mpr ⟨z, hz, rfl⟩, by rw [bodyOf_mem (x1_nd b) hz]; exact eqv_self (plainB 5 _)⟩⟩
  exact q
theorem pl_ints (a b c : Int) : PlainD (.list [.int a, .int b, .int c]) := ⟨rfl, by simp [PyData.depth, PyData.depthAll]⟩
theorem pl_bls (a b : Bool) : PlainD (.list [.bool a, .bool b]) := ⟨rfl, by simp [PyData.depth, PyData.depthAll]⟩
theorem ok_law {f fi C CG CO : Addr} {fd : FuncData} (F : Fun K "law" "law" sLaw f fd) (R : PgC K C) (nO : NeOf K C) (nf : PySem.W.notFirst K C (.ref C) = true) (T : TxtLw mg) (mC : mg "Program" = some (.ref C)) (M : Mk K C fi) (G1 : FnRs P w K mg base 13 fi ["x"] (spPi K C CG))
    (gD : Glo P w K mg base "_law_dice" 1 ["_law_script", "_law_at"] (spDice K)) (gW : Glo P w K mg base "_law_right" 21 ["_law_dice_here"] spLw) (gLo : Glo P w K mg base "lowered" 18 ["free", "place"] (spLow K C)) (gSc : GloX P w K mg base "scaled" 18 ["free", "place", "many"] (spSca K C CO)) (gMd : Glo P w K mg base "_law_made" 19 ["_law_thing", "_law_place", "_law_much"] (spLmd K C))
    (mEq : Met P w K mg base C "__eq__" 1 ["self", "other"] (spEq K C)) (mGt : Met P w K mg base C "__getitem__" 3 ["self", "at"] (spGt K C)) (hfi : PySem.W.fnIn K mGt.f = true) : FnOk P w K mg base CX0 22 f fd ["_law_script"] (spLaw K) := by
  refine F.ok scLaw (fun vs H Q E h => ?_) (fun cdv A outer s H vs Q E hr h => ?_)
  · obtain ⟨a, ns, rfl, _⟩ := h
    rfl
  · obtain ⟨a, ns, rfl, hs, q⟩ := h
    refine ⟨_, (pss_cons (ps_for PassesOwn.never rfl (pi_range1 (by rfl) T.range (pa_cons (pe_callB (call_max2 rfl) (by rfl) T.max (by decide +kernel) (pa_cons pe_int (pa_cons (pe_callB (call_min2 rfl) (by rfl) T.min (by decide +kernel) (pa_cons pe_int (pa_cons (pe_callB call_len_seq (by rfl) T.len PySem.boot_len (pa_cons (pv 0) pa_nil)) pa_nil))) pa_nil))) pa_nil)) (pg_name (i := 1) scLaw.nd rfl (.inl rfl)) (pss_cons (ps_set (i := 2) scLaw.nd rfl (Or.inl rfl) (pe_call gD.G (hr.mono (by decide)) (by rfl) gD.m gD.k gD.b .nil pass0 (pa_cons (pv 0) (pa_cons (pv 1) pa_nil))))
      (pss_one (ps_for PassesOwn.never rfl (pi_range1 (by rfl) T.range (pa_cons pe_int pa_nil)) (pg_name (i := 3) scLaw.nd rfl (.inl rfl)) (pss_one (ps_if (pt_not (pt_val (pe_call gW.G (hr.mono (by decide)) (by rfl) gW.m gW.k gW.b .nil pass0 (pa_cons (pv 2) pa_nil)))) (pss_one (ps_ret pe_bl)) pss_nil))))))
      (pss_cons (ps_set (i := 4) scLaw.nd rfl (Or.inr rfl) (pe_makeRs M G1 (hr.mono (by decide)) (by rfl) mC (pk_cons (pe_tup (pa_cons (pe_tup (pa_cons pe_str (pa_cons (pe_tup (pa_cons pe_int (pa_cons (pe_tup pa_nil) pa_nil))) (pa_cons (pe_tup (pa_cons pe_int (pa_cons (pe_tup (pa_cons (pe_tup (pa_cons pe_str (pa_cons pe_int (pa_cons pe_int (pa_cons (pe_tup pa_nil) pa_nil))))) pa_nil)) pa_nil))) (pa_cons (pe_tup (pa_cons pe_int (pa_cons (pe_tup (pa_cons (pe_tup (pa_cons pe_str (pa_cons pe_str pa_nil))) pa_nil)) pa_nil))) pa_nil))))) pa_nil)) pk_nil)))
      (pss_cons (ps_set (i := 5) scLaw.nd rfl (Or.inl rfl) (pe_call gLo.G (hr.mono (by decide)) (by rfl) gLo.m gLo.k gLo.b .nil pass0 (pa_cons (pv 4) (pa_cons (pe_tup (pa_cons pe_str (pa_cons (pe_tup (pa_cons pe_int (pa_cons pe_int (pa_cons pe_int pa_nil)))) pa_nil))) pa_nil))))
      (pss_cons (ps_if (pt_cmpR (op_neP (K := K) rfl hr.units) (pe_ix ix_tup (pe_subOwnK (K := K) rfl mGt.D hfi mGt.G (hr.mono (by decide)) mGt.b pass0 (pv 5) pe_str) pe_int (fun _ _ => rfl)) (pe_tup (pa_cons pe_str (pa_cons (pe_tup (pa_cons pe_int (pa_cons (pe_tup pa_nil) pa_nil))) (pa_cons (pe_tup (pa_cons pe_int (pa_cons (pe_tup (pa_cons (pe_tup (pa_cons pe_str (pa_cons pe_int (pa_cons pe_int (pa_cons (pe_tup pa_nil) pa_nil))))) pa_nil)) pa_nil))) (pa_cons (pe_tup (pa_cons pe_int (pa_cons (pe_tup (pa_cons (pe_tup (pa_cons pe_str (pa_cons pe_str pa_nil))) pa_nil)) pa_nil))) pa_nil))))) (nomark _)) (pss_one (ps_ret pe_bl)) pss_nil)
      (pss_cons (ps_set (i := 6) scLaw.nd rfl (Or.inl rfl) (pe_call gLo.G (hr.mono (by decide)) (by rfl) gLo.m gLo.k gLo.b .nil pass0 (pa_cons (pv 5) (pa_cons (pe_tup (pa_cons pe_str (pa_cons (pe_tup (pa_cons pe_int pa_nil)) pa_nil))) pa_nil))))
      (pss_cons (ps_if (PW.pt (pw_or (pt_cmpR (op_neP (K := K) rfl hr.units) (pe_lc (X := (cxOf CX0 P w K mg base NLaw "law" (defScope sLaw) f cdv A outer s H E).nox) (own := [("_law_row", 7)]) (g := (gName 7)) (tt := tYes) rfl scLaw.nd (pi_tup (pe_slice sl_tupA (pe_ix ix_tup (pe_subOwnK (K := K) rfl mGt.D hfi mGt.G (hr.mono (by decide)) mGt.b pass0 (pv 6) pe_str) pe_int (fun _ _ => rfl)) (po_some pe_int) po_none)) (blkOk_by (N := NLaw) (sc := defScope sLaw) (by decide +kernel)) (fun _ _ _ _ _ => (pg_name (i := 7) scLaw.nd rfl (.inl rfl))) (fun _ _ _ _ _ => pts_nil) (fun _ _ _ _ _ => (pe_ix (ix_tupK (K := K) rfl) (pv 7) pe_int (fun _ _ => rfl)))) (pe_lst (pa_cons pe_int (pa_cons pe_int (pa_cons pe_int pa_nil)))) (nomark _)) (pw_or1 (pt_cmpR (op_neLK (K := K) rfl mEq.D nO mEq.G (hr.mono (by decide)) mEq.b pass0) (pe_call gSc.G (hr.mono (by decide)) (by rfl) gSc.m gSc.k gSc.b .nil passL (pa_cons (pv 6) (pa_cons (pe_tup (pa_cons pe_str (pa_cons (pe_tup (pa_cons pe_int pa_nil)) pa_nil))) (pa_cons pe_int pa_nil)))) (pv 5) (nomark _))))) (pss_one (ps_ret pe_bl)) pss_nil)
      (pss_cons (ps_if (pt_cmpR (op_neP (K := K) rfl hr.units) (pe_lc (X := (cxOf CX0 P w K mg base NLaw "law" (defScope sLaw) f cdv A outer s H E).nox) (own := [("_law_much", 8)]) (g := (gName 8)) (tt := tYes) rfl scLaw.nd (pi_tupK (K := K) rfl (pe_tup (pa_cons pe_int (pa_cons pe_int pa_nil)))) (blkOk_by (N := NLaw) (sc := defScope sLaw) (by decide +kernel)) (fun _ _ _ _ _ => (pg_name (i := 8) scLaw.nd rfl (.inl rfl))) (fun _ _ _ _ _ => pts_nil) (fun _ _ _ _ _ => (pe_cmpR op_isN (pe_call gMd.G (hr.mono (by decide)) (by rfl) gMd.m gMd.k gMd.b .nil pass0 (pa_cons (pv 4) (pa_cons (pe_tup (pa_cons pe_str (pa_cons (pe_tup (pa_cons pe_int pa_nil)) pa_nil))) (pa_cons (pv 8) pa_nil)))) pe_non (nomark _)))) (pe_lst (pa_cons pe_bl (pa_cons pe_bl pa_nil))) (nomark _)) (pss_one (ps_ret pe_bl)) pss_nil)
      (pss_cons (ps_set (i := 9) scLaw.nd rfl (Or.inl rfl) (pe_makeRs M G1 (hr.mono (by decide)) (by rfl) mC (pk_cons (pe_tup (pa_cons (pe_tup (pa_cons pe_str (pa_cons (pe_tup (pa_cons pe_int (pa_cons (pe_tup pa_nil) pa_nil))) (pa_cons (pe_tup (pa_cons pe_int (pa_cons (pe_tup pa_nil) pa_nil))) (pa_cons (pe_tup (pa_cons pe_int (pa_cons (pe_tup pa_nil) pa_nil))) pa_nil))))) pa_nil)) pk_nil)))
      (pss_cons (ps_if (pt_cmpR (op_neLK (K := K) rfl mEq.D nO mEq.G (hr.mono (by decide)) mEq.b pass0) (pe_call gLo.G (hr.mono (by decide)) (by rfl) gLo.m gLo.k gLo.b .nil pass0 (pa_cons (pv 9) (pa_cons (pe_tup (pa_cons pe_str (pa_cons (pe_tup (pa_cons pe_int pa_nil)) pa_nil))) pa_nil))) (pv 9) (nomark _)) (pss_one (ps_ret pe_bl)) pss_nil)
      (pss_one (ps_ret (pe_cmpR (op_eqP (K := K) rfl hr.units) (pe_ix ix_tup (pe_ix ix_tup (pe_dget (lt1_of hr.units) (pe_call gMd.G (hr.mono (by decide)) (by rfl) gMd.m gMd.k gMd.b .nil pass0 (pa_cons (pv 4) (pa_cons (pe_tup (pa_cons pe_str (pa_cons (pe_tup (pa_cons pe_int (pa_cons pe_int (pa_cons pe_int pa_nil)))) pa_nil))) (pa_cons pe_int pa_nil)))) pe_str (fun _ _ => rfl)) pe_int (fun _ _ => rfl)) pe_int (fun _ _ => rfl)) (pe_tup (pa_cons pe_int (pa_cons (pe_tup (pa_cons (pe_tup (pa_cons pe_str (pa_cons pe_int (pa_cons pe_int (pa_cons (pe_tup pa_nil) pa_nil))))) pa_nil)) pa_nil))) (nomark _))))))))))))), ?_⟩
    refine ⟨_, rfl, a, _, rfl, .inl hs, _, _, rfl, _, _, rfl, _, rfl, by split <;> (try split) <;> omega, by split <;> (try split) <;> omega, ?_⟩
    refine for_range (fun i σ Hc => (∃ x1 x2 x3 : Option V, σ = [some (.ref a), x1, x2, x3, none, none, none, none, none, none]) ∧ Same H Hc) ⟨⟨_, _, _, rfl⟩, Same.refl H⟩ ?_ ?_
    · rintro i σ Hc hi ⟨⟨x1, x2, x3, rfl⟩, sm⟩
      refine ⟨_, rfl, _, rfl, a, ns, i, _, rfl, by omega, sm.seq hs, fun d x y z nd => ?_⟩
      have r0 : Rl d (upd Hc d (.lst (dxs x y z))) (upd Hc d (.lst (dxs x y z))) := Rl.refl ⟨_, _, _, upd_same⟩
      refine ⟨4, rfl, by decide, by decide, ?_⟩
      refine for_range (n := 4) (fun j σ Hd => (∃ x3 : Option V, σ = [some (.ref a), some (.int (0 + (i : Int))), some (.ref d), x3, none, none, none, none, none, none]) ∧ Rl d (upd Hc d (.lst (dxs x y z))) Hd) ⟨⟨_, rfl⟩, r0⟩ ?_ ?_
      · rintro j σ Hd hj ⟨⟨x3, rfl⟩, r⟩
        refine ⟨_, rfl, d, rfl, r.1, fun H1 r1 => ?_⟩
        exact ⟨_, rfl, iteF ⟨⟨_, rfl⟩, r.trans r1⟩⟩
      · rintro σ Hd ⟨⟨x3, rfl⟩, r⟩
        refine ⟨⟨_, _, _, rfl⟩, fun b o e => ?_⟩
        have hd0 : H d = none := none_of_same sm nd
        exact r.2 b o (ne_of_none e hd0) (same_new nd _ _ (sm _ _ e))
    rintro σ HA ⟨⟨x1, x2, x3, rfl⟩, sm0⟩
    clear sm0 hs
    refine ⟨Nat.zero_le _, fun a1 ha1 => ?_⟩
    have sa1 : Same HA (upd HA a1 (.tup [])) := same_new ha1
    have ea1 : upd HA a1 (.tup []) a1 = some (.tup []) := upd_same
    generalize upd HA a1 (.tup []) = H1 at sa1 ea1 ⊢
    refine ⟨small1000 (Nat.le_of_ble_eq_true rfl), fun a2 ha2 => ?_⟩
    have sa2 : Same H1 (upd H1 a2 (.tup [.int 6, .ref a1])) := same_new ha2
    have ea2 : upd H1 a2 (.tup [.int 6, .ref a1]) a2 = some (.tup [.int 6, .ref a1]) := upd_same
    generalize upd H1 a2 (.tup [.int 6, .ref a1]) = H2 at sa2 ea2 ⊢
    refine ⟨Nat.zero_le _, fun a3 ha3 => ?_⟩
    have sa3 : Same H2 (upd H2 a3 (.tup [])) := same_new ha3
    have ea3 : upd H2 a3 (.tup []) a3 = some (.tup []) := upd_same
    generalize upd H2 a3 (.tup []) = H3 at sa3 ea3 ⊢
    refine ⟨small1000 (Nat.le_of_ble_eq_true rfl), fun a4 ha4 => ?_⟩
    have sa4 : Same H3 (upd H3 a4 (.tup [.str "again", .int 9, .int 12, .ref a3])) := same_new ha4
    have ea4 : upd H3 a4 (.tup [.str "again", .int 9, .int 12, .ref a3]) a4 = some (.tup [.str "again", .int 9, .int 12, .ref a3]) := upd_same
    generalize upd H3 a4 (.tup [.str "again", .int 9, .int 12, .ref a3]) = H4 at sa4 ea4 ⊢
    refine ⟨small1000 (Nat.le_of_ble_eq_true rfl), fun a5 ha5 => ?_⟩
    have sa5 : Same H4 (upd H4 a5 (.tup [.ref a4])) := same_new ha5
    have ea5 : upd H4 a5 (.tup [.ref a4]) a5 = some (.tup [.ref a4]) := upd_same
    generalize upd H4 a5 (.tup [.ref a4]) = H5 at sa5 ea5 ⊢
    refine ⟨small1000 (Nat.le_of_ble_eq_true rfl), fun a6 ha6 => ?_⟩
    have sa6 : Same H5 (upd H5 a6 (.tup [.int 4, .ref a5])) := same_new ha6
    have ea6 : upd H5 a6 (.tup [.int 4, .ref a5]) a6 = some (.tup [.int 4, .ref a5]) := upd_same
    generalize upd H5 a6 (.tup [.int 4, .ref a5]) = H6 at sa6 ea6 ⊢
    refine ⟨small1000 (Nat.le_of_ble_eq_true rfl), fun a7 ha7 => ?_⟩
    have sa7 : Same H6 (upd H6 a7 (.tup [.str "call", .str "x"])) := same_new ha7
    have ea7 : upd H6 a7 (.tup [.str "call", .str "x"]) a7 = some (.tup [.str "call", .str "x"]) := upd_same
    generalize upd H6 a7 (.tup [.str "call", .str "x"]) = H7 at sa7 ea7 ⊢
    refine ⟨small1000 (Nat.le_of_ble_eq_true rfl), fun a8 ha8 => ?_⟩
    have sa8 : Same H7 (upd H7 a8 (.tup [.ref a7])) := same_new ha8
    have ea8 : upd H7 a8 (.tup [.ref a7]) a8 = some (.tup [.ref a7]) := upd_same
    generalize upd H7 a8 (.tup [.ref a7]) = H8 at sa8 ea8 ⊢
    refine ⟨small1000 (Nat.le_of_ble_eq_true rfl), fun a9 ha9 => ?_⟩
    have sa9 : Same H8 (upd H8 a9 (.tup [.int 8, .ref a8])) := same_new ha9
    have ea9 : upd H8 a9 (.tup [.int 8, .ref a8]) a9 = some (.tup [.int 8, .ref a8]) := upd_same
    generalize upd H8 a9 (.tup [.int 8, .ref a8]) = H9 at sa9 ea9 ⊢
    refine ⟨small1000 (Nat.le_of_ble_eq_true rfl), fun a0 ha0 => ?_⟩
    have sa0 : Same H9 (upd H9 a0 (.tup [.str "toss", .ref a2, .ref a6, .ref a9])) := same_new ha0
    have ea0 : upd H9 a0 (.tup [.str "toss", .ref a2, .ref a6, .ref a9]) a0 = some (.tup [.str "toss", .ref a2, .ref a6, .ref a9]) := upd_same
    generalize upd H9 a0 (.tup [.str "toss", .ref a2, .ref a6, .ref a9]) = H10 at sa0 ea0 ⊢
    refine ⟨small1000 (Nat.le_of_ble_eq_true rfl), fun B hB => ?_⟩
    have sB : Same H10 (upd H10 B (.tup [.ref a0])) := same_new hB
    have eB : upd H10 B (.tup [.ref a0]) B = some (.tup [.ref a0]) := upd_same
    generalize upd H10 B (.tup [.ref a0]) = H11 at sB eB ⊢
    have hkx : PrgK H11 [(.inr "x", .ref B)] (X1 b0) := PrgK.nil.snoc (z := "x") (b := b0) (bdAt_mono (n := 4) ⟨B, _, rfl, ((Same.refl _) _ _ eB), (AG.consA ⟨a0, _, rfl, (sB _ _ ea0), (AG.consA ⟨a2, _, rfl, ((Same.trans (Same.trans (Same.trans (Same.trans (Same.trans (Same.trans (Same.trans (Same.trans sa3 sa4) sa5) sa6) sa7) sa8) sa9) sa0) sB) _ _ ea2), ⟨a1, _, rfl, ((Same.trans (Same.trans (Same.trans (Same.trans (Same.trans (Same.trans (Same.trans (Same.trans (Same.trans sa2 sa3) sa4) sa5) sa6) sa7) sa8) sa9) sa0) sB) _ _ ea1), AG.nil⟩⟩ (AG.consA ⟨a6, _, rfl, ((Same.trans (Same.trans (Same.trans (Same.trans sa7 sa8) sa9) sa0) sB) _ _ ea6), ⟨a5, _, rfl, ((Same.trans (Same.trans (Same.trans (Same.trans (Same.trans sa6 sa7) sa8) sa9) sa0) sB) _ _ ea5), (AG.consA ⟨a4, _, rfl, ((Same.trans (Same.trans (Same.trans (Same.trans (Same.trans (Same.trans sa5 sa6) sa7) sa8) sa9) sa0) sB) _ _ ea4), ⟨a3, _, rfl, ((Same.trans (Same.trans (Same.trans (Same.trans (Same.trans (Same.trans (Same.trans sa4 sa5) sa6) sa7) sa8) sa9) sa0) sB) _ _ ea3), AG.nil⟩⟩ AG.nil)⟩⟩ (AG.consA ⟨a9, _, rfl, ((Same.trans sa0 sB) _ _ ea9), ⟨a8, _, rfl, ((Same.trans (Same.trans sa9 sa0) sB) _ _ ea8), (AG.consA ⟨a7, rfl, ((Same.trans (Same.trans (Same.trans sa8 sa9) sa0) sB) _ _ ea7)⟩ AG.nil)⟩⟩ AG.nil)))⟩ AG.nil)⟩ (by decide))
    refine ⟨rfl, fun x dx nx ndx nex dd ndxd => new_pi (Q := fun xx HH => gName 4 xx _ HH _) (HG := H11) (H := H11) (Same.refl _) nx ndx nex ndxd hkx pr0 (x1_nd _) (.inr ⟨rfl, valV_no (by intro kv hk; simp only [List.mem_cons, List.not_mem_nil, or_false] at hk; rcases hk with rfl; exact ⟨_, rfl, by decide +kernel⟩)⟩) fun qx x H12 px ox nx sx ix fx => ?_⟩
    obtain rfl := x1_eq px
    clear fx nex ndxd ndx nx px ox hkx
    clear ea0 ea1 ea2 ea3 ea4 ea5 ea6 ea7 ea8 ea9 eB
    refine ⟨_, rfl, ?_⟩
    refine ⟨small1000 (Nat.le_of_ble_eq_true rfl), fun py hpy => ?_⟩
    have spy : Same H12 (upd H12 py (.tup [.int 0, .int 1, .int 0])) := same_new hpy
    have epy : upd H12 py (.tup [.int 0, .int 1, .int 0]) py = some (.tup [.int 0, .int 1, .int 0]) := upd_same
    generalize upd H12 py (.tup [.int 0, .int 1, .int 0]) = H13 at spy epy ⊢
    refine ⟨small1000 (Nat.le_of_ble_eq_true rfl), fun ly hly => ?_⟩
    have sly : Same H13 (upd H13 ly (.tup [.str "x", .ref py])) := same_new hly
    have ely : upd H13 ly (.tup [.str "x", .ref py]) ly = some (.tup [.str "x", .ref py]) := upd_same
    generalize upd H13 ly (.tup [.str "x", .ref py]) = H14 at sly ely ⊢
    refine ⟨x, ly, X1 b0, "x", [(0, 1)], 0, iT 9 12, rfl, (atX (ix.same (Same.trans spy sly)) ((Same.refl _) _ _ ely) (sly _ _ epy) (by decide +kernel) (by decide +kernel) in0 rfl (.inr rfl)), by rw [x1_b, e_I, x1_set]; exact prI, fun qy y H15 pmy soy ny sy iy => ?_⟩
    rw [x1_b, e_I, x1_set] at pmy
    obtain rfl := x1_eq pmy
    clear pmy soy ny ely epy
    have jvA := iy.same (Same.refl _)
    have jvA0 := jvA
    obtain ⟨dvA, _, _, _, _, _, _, xvA, _⟩ := jvA0
    refine ⟨_, rfl, y, dvA, _, rfl, xvA, y, "x", _, rfl, jvA, x1_nd _, x1_n _, fun vA hvA => ?_⟩
    rw [x1_b] at hvA
    obtain ⟨avA, vvA, rfl, havA, hvvA⟩ := one_at hvA
    refine ⟨avA, _, 0, _, rfl, rfl, SqT.of havA, atI_nat (j := 0) rfl, ?_⟩
    refine ⟨Nat.zero_le _, fun g1 hg1 => ?_⟩
    have sg1 : Same H15 (upd H15 g1 (.tup [])) := same_new hg1
    have eg1 : upd H15 g1 (.tup []) g1 = some (.tup []) := upd_same
    generalize upd H15 g1 (.tup []) = H16 at sg1 eg1 ⊢
    refine ⟨small1000 (Nat.le_of_ble_eq_true rfl), fun g2 hg2 => ?_⟩
    have sg2 : Same H16 (upd H16 g2 (.tup [.int 6, .ref g1])) := same_new hg2
    have eg2 : upd H16 g2 (.tup [.int 6, .ref g1]) g2 = some (.tup [.int 6, .ref g1]) := upd_same
    generalize upd H16 g2 (.tup [.int 6, .ref g1]) = H17 at sg2 eg2 ⊢
    refine ⟨Nat.zero_le _, fun g3 hg3 => ?_⟩
    have sg3 : Same H17 (upd H17 g3 (.tup [])) := same_new hg3
    have eg3 : upd H17 g3 (.tup []) g3 = some (.tup []) := upd_same
    generalize upd H17 g3 (.tup []) = H18 at sg3 eg3 ⊢
    refine ⟨small1000 (Nat.le_of_ble_eq_true rfl), fun g4 hg4 => ?_⟩
    have sg4 : Same H18 (upd H18 g4 (.tup [.str "again", .int 3, .int 4, .ref g3])) := same_new hg4
    have eg4 : upd H18 g4 (.tup [.str "again", .int 3, .int 4, .ref g3]) g4 = some (.tup [.str "again", .int 3, .int 4, .ref g3]) := upd_same
    generalize upd H18 g4 (.tup [.str "again", .int 3, .int 4, .ref g3]) = H19 at sg4 eg4 ⊢
    refine ⟨small1000 (Nat.le_of_ble_eq_true rfl), fun g5 hg5 => ?_⟩
    have sg5 : Same H19 (upd H19 g5 (.tup [.ref g4])) := same_new hg5
    have eg5 : upd H19 g5 (.tup [.ref g4]) g5 = some (.tup [.ref g4]) := upd_same
    generalize upd H19 g5 (.tup [.ref g4]) = H20 at sg5 eg5 ⊢
    refine ⟨small1000 (Nat.le_of_ble_eq_true rfl), fun g6 hg6 => ?_⟩
    have sg6 : Same H20 (upd H20 g6 (.tup [.int 4, .ref g5])) := same_new hg6
    have eg6 : upd H20 g6 (.tup [.int 4, .ref g5]) g6 = some (.tup [.int 4, .ref g5]) := upd_same
    generalize upd H20 g6 (.tup [.int 4, .ref g5]) = H21 at sg6 eg6 ⊢
    refine ⟨small1000 (Nat.le_of_ble_eq_true rfl), fun g7 hg7 => ?_⟩
    have sg7 : Same H21 (upd H21 g7 (.tup [.str "call", .str "x"])) := same_new hg7
    have eg7 : upd H21 g7 (.tup [.str "call", .str "x"]) g7 = some (.tup [.str "call", .str "x"]) := upd_same
    generalize upd H21 g7 (.tup [.str "call", .str "x"]) = H22 at sg7 eg7 ⊢
    refine ⟨small1000 (Nat.le_of_ble_eq_true rfl), fun g8 hg8 => ?_⟩
    have sg8 : Same H22 (upd H22 g8 (.tup [.ref g7])) := same_new hg8
    have eg8 : upd H22 g8 (.tup [.ref g7]) g8 = some (.tup [.ref g7]) := upd_same
    generalize upd H22 g8 (.tup [.ref g7]) = H23 at sg8 eg8 ⊢
    refine ⟨small1000 (Nat.le_of_ble_eq_true rfl), fun g9 hg9 => ?_⟩
    have sg9 : Same H23 (upd H23 g9 (.tup [.int 8, .ref g8])) := same_new hg9
    have eg9 : upd H23 g9 (.tup [.int 8, .ref g8]) g9 = some (.tup [.int 8, .ref g8]) := upd_same
    generalize upd H23 g9 (.tup [.int 8, .ref g8]) = H24 at sg9 eg9 ⊢
    refine ⟨small1000 (Nat.le_of_ble_eq_true rfl), fun g0 hg0 => ?_⟩
    have sg0 : Same H24 (upd H24 g0 (.tup [.str "toss", .ref g2, .ref g6, .ref g9])) := same_new hg0
    have eg0 : upd H24 g0 (.tup [.str "toss", .ref g2, .ref g6, .ref g9]) g0 = some (.tup [.str "toss", .ref g2, .ref g6, .ref g9]) := upd_same
    generalize upd H24 g0 (.tup [.str "toss", .ref g2, .ref g6, .ref g9]) = H25 at sg0 eg0 ⊢
    have stB : StAt 4 H25 (.ref g0) (tT 6 4 8 (iT 3 4)) := ⟨g0, _, rfl, ((Same.refl _) _ _ eg0), (AG.consA ⟨g2, _, rfl, ((Same.trans (Same.trans (Same.trans (Same.trans (Same.trans (Same.trans (Same.trans sg3 sg4) sg5) sg6) sg7) sg8) sg9) sg0) _ _ eg2), ⟨g1, _, rfl, ((Same.trans (Same.trans (Same.trans (Same.trans (Same.trans (Same.trans (Same.trans (Same.trans sg2 sg3) sg4) sg5) sg6) sg7) sg8) sg9) sg0) _ _ eg1), AG.nil⟩⟩ (AG.consA ⟨g6, _, rfl, ((Same.trans (Same.trans (Same.trans sg7 sg8) sg9) sg0) _ _ eg6), ⟨g5, _, rfl, ((Same.trans (Same.trans (Same.trans (Same.trans sg6 sg7) sg8) sg9) sg0) _ _ eg5), (AG.consA ⟨g4, _, rfl, ((Same.trans (Same.trans (Same.trans (Same.trans (Same.trans sg5 sg6) sg7) sg8) sg9) sg0) _ _ eg4), ⟨g3, _, rfl, ((Same.trans (Same.trans (Same.trans (Same.trans (Same.trans (Same.trans sg4 sg5) sg6) sg7) sg8) sg9) sg0) _ _ eg3), AG.nil⟩⟩ AG.nil)⟩⟩ (AG.consA ⟨g9, _, rfl, (sg0 _ _ eg9), ⟨g8, _, rfl, ((Same.trans sg9 sg0) _ _ eg8), (AG.consA ⟨g7, rfl, ((Same.trans (Same.trans sg8 sg9) sg0) _ _ eg7)⟩ AG.nil)⟩⟩ AG.nil)))⟩
    refine ⟨_, _, dpSt (hvvA.same (Same.trans (Same.trans (Same.trans (Same.trans (Same.trans (Same.trans (Same.trans (Same.trans (Same.trans sg1 sg2) sg3) sg4) sg5) sg6) sg7) sg8) sg9) sg0)), dpSt stB, plSt (by decide) _, plSt (by decide) _, _, rfl, ite0 (by rw [eqv_self (plSt (by decide) _).1]; rfl) ?_⟩
    clear jvA hvA xvA hvvA havA stB eg0 eg1 eg2 eg3 eg4 eg5 eg6 eg7 eg8 eg9
    refine ⟨_, rfl, ?_⟩
    refine ⟨small1000 (Nat.le_of_ble_eq_true rfl), fun pz hpz => ?_⟩
    have spz : Same H25 (upd H25 pz (.tup [.int 0])) := same_new hpz
    have epz : upd H25 pz (.tup [.int 0]) pz = some (.tup [.int 0]) := upd_same
    generalize upd H25 pz (.tup [.int 0]) = H26 at spz epz ⊢
    refine ⟨small1000 (Nat.le_of_ble_eq_true rfl), fun lz hlz => ?_⟩
    have slz : Same H26 (upd H26 lz (.tup [.str "x", .ref pz])) := same_new hlz
    have elz : upd H26 lz (.tup [.str "x", .ref pz]) lz = some (.tup [.str "x", .ref pz]) := upd_same
    generalize upd H26 lz (.tup [.str "x", .ref pz]) = H27 at slz elz ⊢
    refine ⟨y, lz, X1 bI, "x", [], 0, tT 6 4 8 (iT 3 4), rfl, (atX (iy.same (Same.trans (Same.trans (Same.trans (Same.trans (Same.trans (Same.trans (Same.trans (Same.trans (Same.trans (Same.trans (Same.trans sg1 sg2) sg3) sg4) sg5) sg6) sg7) sg8) sg9) sg0) spz) slz)) ((Same.refl _) _ _ elz) (slz _ _ epz) (by decide +kernel) (by decide +kernel) trivial rfl (.inl rfl)), by rw [x1_b, e_L, x1_set]; exact prL, fun qz z H28 pmz soz nz sz iz => ?_⟩
    rw [x1_b, e_L, x1_set] at pmz
    obtain rfl := x1_eq pmz
    clear pmz soz nz elz epz
    have jvC := iz.same (Same.refl _)
    have jvC0 := jvC
    obtain ⟨dvC, _, _, _, _, _, _, xvC, _⟩ := jvC0
    refine ⟨_, rfl, z, dvC, _, rfl, xvC, z, "x", _, rfl, jvC, x1_nd _, x1_n _, fun vC hvC => ?_⟩
    rw [x1_b] at hvC
    obtain ⟨avC, vvC, rfl, havC, hvvC⟩ := one_at hvC
    refine ⟨avC, _, 0, _, rfl, rfl, SqT.of havC, atI_nat (j := 0) rfl, ?_⟩
    obtain ⟨sC, r1, r2, r3, k1, k2, k3, rfl, hsC, h1C, _, h2C, _, h3C, _⟩ := rows3 hvvC
    refine ⟨_, rfl, ?_⟩
    dsimp only [tNoPart]
    refine sla_tup hsC fun tC H29 stC htC => ?_
    have htC := tail_tup htC
    refine ⟨tC, rfl, ⟨_, SqT.of htC⟩, fun DC hDC => ?_⟩
    refine lc_it (walk_tup (K := K) (a := tC) (xs := [V.ref r1, V.ref r2, V.ref r3])) (fun j Hc => Same H29 Hc ∧ Hc DC = some (.lst ((([3, 2, 4] : List Int).take j).map V.int))) ⟨same_new hDC, upd_same⟩ (fun j Hc _ p => SqT.of (p.1 _ _ htC)) ?_ ?_
    · rintro j v Hc H' hj ⟨sm, hDc⟩ ⟨rfl, hv⟩
      have sC2 := stC.trans sm
      obtain ⟨r, n, b, rfl, hr0, hn⟩ : ∃ r n b, v = .ref r ∧ H' r = some (HO.tup [.int n, b]) ∧ ([3, 2, 4] : List Int)[j]? = some n := by
        match j, hv with
        | 0, hv => cases hv; exact ⟨r1, 3, k1, rfl, sC2 _ _ h1C, rfl⟩
        | 1, hv => cases hv; exact ⟨r2, 2, k2, rfl, sC2 _ _ h2C, rfl⟩
        | 2, hv => cases hv; exact ⟨r3, 4, k3, rfl, sC2 _ _ h3C, rfl⟩
        | j + 3, hv => cases hv
      have l3 : j < 3 := hj
      refine ⟨rfl, _, rfl, r, _, 0, _, rfl, rfl, SqT.of hr0, atI_nat (j := 0) rfl, _, hDc, small1000 (by rw [List.length_map, List.length_take]; omega), same_upd hDC sm, ?_⟩
      rw [take_snoc hn, List.map_append]
      exact upd_same
    rintro H30 ⟨smC, hDC5⟩
    refine ⟨small1000 (Nat.le_of_ble_eq_true rfl), fun lC hlC => ?_⟩
    have slC : Same H30 (upd H30 lC (.lst [.int 3, .int 2, .int 4])) := same_new hlC
    have elC : upd H30 lC (.lst [.int 3, .int 2, .int 4]) lC = some (.lst [.int 3, .int 2, .int 4]) := upd_same
    generalize upd H30 lC (.lst [.int 3, .int 2, .int 4]) = H31 at slC elC ⊢
    refine ⟨.list [.int 3, .int 2, .int 4], .list [.int 3, .int 2, .int 4], .lst (.of (slC _ _ hDC5)) (.cons (.int _) (.cons (.int _) (.cons (.int _) .nil))), .lst (.of elC) (.cons (.int _) (.cons (.int _) (.cons (.int _) .nil))), pl_ints _ _ _, pl_ints _ _ _, _, rfl, ite0 (by rw [eqv_self (pl_ints _ _ _).1]; rfl) ?_⟩
    clear jvC hvC xvC hvvC havC hsC h1C h2C h3C htC hDC hDC5 elC
    refine ⟨_, rfl, ?_⟩
    refine ⟨small1000 (Nat.le_of_ble_eq_true rfl), fun pS hpS => ?_⟩
    have spS : Same H31 (upd H31 pS (.tup [.int 0])) := same_new hpS
    have epS : upd H31 pS (.tup [.int 0]) pS = some (.tup [.int 0]) := upd_same
    generalize upd H31 pS (.tup [.int 0]) = H32 at spS epS ⊢
    refine ⟨small1000 (Nat.le_of_ble_eq_true rfl), fun lS hlS => ?_⟩
    have slS : Same H32 (upd H32 lS (.tup [.str "x", .ref pS])) := same_new hlS
    have elS : upd H32 lS (.tup [.str "x", .ref pS]) lS = some (.tup [.str "x", .ref pS]) := upd_same
    generalize upd H32 lS (.tup [.str "x", .ref pS]) = H33 at slS elS ⊢
    refine ⟨z, lS, X1 bL, "x", [], 0, tT 3 2 4 (iT 3 4), 2, rfl, (atX (iz.same (Same.trans (Same.trans (Same.trans (Same.trans stC smC) slC) spS) slS)) ((Same.refl _) _ _ elS) (slS _ _ epS) (by decide +kernel) (by decide +kernel) trivial rfl (.inl rfl)), by decide, by decide, .inl ⟨by rw [x1_b, e_S, x1_set]; exact prI, fun qS w H34 pmS soS nS sw iw => ?_⟩⟩
    rw [x1_b, e_S, x1_set] at pmS
    obtain rfl := x1_eq pmS
    clear pmS soS nS elS epS
    refine ⟨_, rfl, ne_x1 R nf iw (iy.same (Same.trans (Same.trans (Same.trans (Same.trans (Same.trans (Same.trans (Same.trans (Same.trans (Same.trans (Same.trans (Same.trans (Same.trans (Same.trans (Same.trans (Same.trans (Same.trans (Same.trans (Same.trans sg1 sg2) sg3) sg4) sg5) sg6) sg7) sg8) sg9) sg0) spz) slz) sz) stC) smC) slC) spS) slS) sw)) ⟨_, rfl, iteF ?_⟩⟩
    clear iw iz
    refine ⟨small1000 (Nat.le_of_ble_eq_true rfl), fun tD htD => ?_⟩
    have stD : Same H34 (upd H34 tD (.tup [.int 12, .int 13])) := same_new htD
    have etD : upd H34 tD (.tup [.int 12, .int 13]) tD = some (.tup [.int 12, .int 13]) := upd_same
    generalize upd H34 tD (.tup [.int 12, .int 13]) = H35 at stD etD ⊢
    refine ⟨tD, rfl, ⟨_, SqT.of etD⟩, fun DD hDD => ?_⟩
    refine lc_it (walk_tup (K := K) (a := tD) (xs := [V.int 12, V.int 13])) (fun j Hc => Same H35 Hc ∧ Hc DD = some (.lst ((([false, true] : List Bool).take j).map V.bl))) ⟨same_new hDD, upd_same⟩ (fun j Hc _ p => SqT.of (p.1 _ _ etD)) ?_ ?_
    · rintro j v Hc H' hj ⟨sm, hDc⟩ ⟨rfl, hv⟩
      have ixc := ix.same (Same.trans (Same.trans (Same.trans (Same.trans (Same.trans (Same.trans (Same.trans (Same.trans (Same.trans (Same.trans (Same.trans (Same.trans (Same.trans (Same.trans (Same.trans (Same.trans (Same.trans (Same.trans (Same.trans (Same.trans (Same.trans (Same.trans (Same.trans spy sly) sy) sg1) sg2) sg3) sg4) sg5) sg6) sg7) sg8) sg9) sg0) spz) slz) sz) stC) smC) slC) spS) slS) sw) stD) sm)
      match j, hv with
      | 0, hv =>
        cases hv
        refine ⟨rfl, _, rfl, ?_⟩
        refine ⟨small1000 (Nat.le_of_ble_eq_true rfl), fun pm hpm => ?_⟩
        have s7 : Same H' (upd H' pm (.tup [.int 0])) := same_new hpm
        have e7 : upd H' pm (.tup [.int 0]) pm = some (.tup [.int 0]) := upd_same
        generalize upd H' pm (.tup [.int 0]) = H7 at s7 e7 ⊢
        refine ⟨small1000 (Nat.le_of_ble_eq_true rfl), fun lm hlm => ?_⟩
        have s8 : Same H7 (upd H7 lm (.tup [.str "x", .ref pm])) := same_new hlm
        have e8 : upd H7 lm (.tup [.str "x", .ref pm]) lm = some (.tup [.str "x", .ref pm]) := upd_same
        generalize upd H7 lm (.tup [.str "x", .ref pm]) = H8 at s8 e8 ⊢
        refine ⟨_, rfl, x, lm, X1 b0, "x", [], 0, tT 6 4 8 (iT 9 12), 12, rfl, atX (ixc.same (Same.trans s7 s8)) e8 (s8 _ _ e7) (by decide +kernel) (by decide +kernel) trivial rfl (.inl rfl), by decide, by decide, .inl ⟨by rw [x1_b, e_M, x1_set]; exact prM, x1_so _, x1_n _, fun t9 k9 H9 n9 s9 ht9 hk9 => ⟨rfl, ?_⟩⟩⟩
        have s79 := (Same.trans s7 s8).trans s9
        exact ⟨_, s79 _ _ hDc, small1000 (Nat.le_of_ble_eq_true rfl), same_upd hDD (sm.trans s79), upd_same⟩
      | 1, hv =>
        cases hv
        refine ⟨rfl, _, rfl, ?_⟩
        refine ⟨small1000 (Nat.le_of_ble_eq_true rfl), fun pm hpm => ?_⟩
        have s7 : Same H' (upd H' pm (.tup [.int 0])) := same_new hpm
        have e7 : upd H' pm (.tup [.int 0]) pm = some (.tup [.int 0]) := upd_same
        generalize upd H' pm (.tup [.int 0]) = H7 at s7 e7 ⊢
        refine ⟨small1000 (Nat.le_of_ble_eq_true rfl), fun lm hlm => ?_⟩
        have s8 : Same H7 (upd H7 lm (.tup [.str "x", .ref pm])) := same_new hlm
        have e8 : upd H7 lm (.tup [.str "x", .ref pm]) lm = some (.tup [.str "x", .ref pm]) := upd_same
        generalize upd H7 lm (.tup [.str "x", .ref pm]) = H8 at s8 e8 ⊢
        refine ⟨_, rfl, x, lm, X1 b0, "x", [], 0, tT 6 4 8 (iT 9 12), 13, rfl, atX (ixc.same (Same.trans s7 s8)) e8 (s8 _ _ e7) (by decide +kernel) (by decide +kernel) trivial rfl (.inl rfl), by decide, by decide, .inr ⟨by rw [x1_b, e_N, x1_set]; exact prN, fun H9 s9 => ⟨rfl, ?_⟩⟩⟩
        have s79 := (Same.trans s7 s8).trans s9
        exact ⟨_, s79 _ _ hDc, small1000 (Nat.le_of_ble_eq_true rfl), same_upd hDD (sm.trans s79), upd_same⟩
      | j + 2, hv => cases hv
    rintro H36 ⟨smD, hDD5⟩
    refine ⟨small1000 (Nat.le_of_ble_eq_true rfl), fun lD hlD => ?_⟩
    have slD : Same H36 (upd H36 lD (.lst [.bl false, .bl true])) := same_new hlD
    have elD : upd H36 lD (.lst [.bl false, .bl true]) lD = some (.lst [.bl false, .bl true]) := upd_same
    generalize upd H36 lD (.lst [.bl false, .bl true]) = H37 at slD elD ⊢
    refine ⟨.list [.bool false, .bool true], .list [.bool false, .bool true], .lst (.of (slD _ _ hDD5)) (.cons (.bl _) (.cons (.bl _) .nil)), .lst (.of elD) (.cons (.bl _) (.cons (.bl _) .nil)), pl_bls _ _, pl_bls _ _, _, rfl, ite0 (by rw [eqv_self (pl_bls _ _).1]; rfl) ?_⟩
    clear etD hDD hDD5 elD
    refine ⟨Nat.zero_le _, fun o1 ho1 => ?_⟩
    have so1 : Same H37 (upd H37 o1 (.tup [])) := same_new ho1
    have eo1 : upd H37 o1 (.tup []) o1 = some (.tup []) := upd_same
    generalize upd H37 o1 (.tup []) = H38 at so1 eo1 ⊢
    refine ⟨small1000 (Nat.le_of_ble_eq_true rfl), fun o2 ho2 => ?_⟩
    have so2 : Same H38 (upd H38 o2 (.tup [.int 6, .ref o1])) := same_new ho2
    have eo2 : upd H38 o2 (.tup [.int 6, .ref o1]) o2 = some (.tup [.int 6, .ref o1]) := upd_same
    generalize upd H38 o2 (.tup [.int 6, .ref o1]) = H39 at so2 eo2 ⊢
    refine ⟨Nat.zero_le _, fun o3 ho3 => ?_⟩
    have so3 : Same H39 (upd H39 o3 (.tup [])) := same_new ho3
    have eo3 : upd H39 o3 (.tup []) o3 = some (.tup []) := upd_same
    generalize upd H39 o3 (.tup []) = H40 at so3 eo3 ⊢
    refine ⟨small1000 (Nat.le_of_ble_eq_true rfl), fun o4 ho4 => ?_⟩
    have so4 : Same H40 (upd H40 o4 (.tup [.int 4, .ref o3])) := same_new ho4
    have eo4 : upd H40 o4 (.tup [.int 4, .ref o3]) o4 = some (.tup [.int 4, .ref o3]) := upd_same
    generalize upd H40 o4 (.tup [.int 4, .ref o3]) = H41 at so4 eo4 ⊢
    refine ⟨Nat.zero_le _, fun o5 ho5 => ?_⟩
    have so5 : Same H41 (upd H41 o5 (.tup [])) := same_new ho5
    have eo5 : upd H41 o5 (.tup []) o5 = some (.tup []) := upd_same
    generalize upd H41 o5 (.tup []) = H42 at so5 eo5 ⊢
    refine ⟨small1000 (Nat.le_of_ble_eq_true rfl), fun o6 ho6 => ?_⟩
    have so6 : Same H42 (upd H42 o6 (.tup [.int 3, .ref o5])) := same_new ho6
    have eo6 : upd H42 o6 (.tup [.int 3, .ref o5]) o6 = some (.tup [.int 3, .ref o5]) := upd_same
    generalize upd H42 o6 (.tup [.int 3, .ref o5]) = H43 at so6 eo6 ⊢
    refine ⟨small1000 (Nat.le_of_ble_eq_true rfl), fun o7 ho7 => ?_⟩
    have so7 : Same H43 (upd H43 o7 (.tup [.str "toss", .ref o2, .ref o4, .ref o6])) := same_new ho7
    have eo7 : upd H43 o7 (.tup [.str "toss", .ref o2, .ref o4, .ref o6]) o7 = some (.tup [.str "toss", .ref o2, .ref o4, .ref o6]) := upd_same
    generalize upd H43 o7 (.tup [.str "toss", .ref o2, .ref o4, .ref o6]) = H44 at so7 eo7 ⊢
    refine ⟨small1000 (Nat.le_of_ble_eq_true rfl), fun o8 ho8 => ?_⟩
    have so8 : Same H44 (upd H44 o8 (.tup [.ref o7])) := same_new ho8
    have eo8 : upd H44 o8 (.tup [.ref o7]) o8 = some (.tup [.ref o7]) := upd_same
    generalize upd H44 o8 (.tup [.ref o7]) = H45 at so8 eo8 ⊢
    have hkv : PrgK H45 [(.inr "x", .ref o8)] (X1 bO) := PrgK.nil.snoc (z := "x") (b := bO) (bdAt_mono (n := 4) ⟨o8, _, rfl, ((Same.refl _) _ _ eo8), (AG.consA ⟨o7, _, rfl, (so8 _ _ eo7), (AG.consA ⟨o2, _, rfl, ((Same.trans (Same.trans (Same.trans (Same.trans (Same.trans so3 so4) so5) so6) so7) so8) _ _ eo2), ⟨o1, _, rfl, ((Same.trans (Same.trans (Same.trans (Same.trans (Same.trans (Same.trans so2 so3) so4) so5) so6) so7) so8) _ _ eo1), AG.nil⟩⟩ (AG.consA ⟨o4, _, rfl, ((Same.trans (Same.trans (Same.trans so5 so6) so7) so8) _ _ eo4), ⟨o3, _, rfl, ((Same.trans (Same.trans (Same.trans (Same.trans so4 so5) so6) so7) so8) _ _ eo3), AG.nil⟩⟩ (AG.consA ⟨o6, _, rfl, ((Same.trans so7 so8) _ _ eo6), ⟨o5, _, rfl, ((Same.trans (Same.trans so6 so7) so8) _ _ eo5), AG.nil⟩⟩ AG.nil)))⟩ AG.nil)⟩ (by decide))
    refine ⟨rfl, fun v dv nv ndv nev dd ndvd => new_pi (Q := fun xx HH => gName 9 xx _ HH _) (HG := H45) (H := H45) (Same.refl _) nv ndv nev ndvd hkv prO (x1_nd _) (.inr ⟨rfl, valV_no (by intro kv hk; simp only [List.mem_cons, List.not_mem_nil, or_false] at hk; rcases hk with rfl; exact ⟨_, rfl, by decide +kernel⟩)⟩) fun qv v H46 pv ov nv sv iv fv => ?_⟩
    obtain rfl := x1_eq pv
    clear fv nev ndvd ndv nv pv ov hkv
    clear eo1 eo2 eo3 eo4 eo5 eo6 eo7 eo8
    refine ⟨_, rfl, ?_⟩
    refine ⟨small1000 (Nat.le_of_ble_eq_true rfl), fun pu hpu => ?_⟩
    have spu : Same H46 (upd H46 pu (.tup [.int 0])) := same_new hpu
    have epu : upd H46 pu (.tup [.int 0]) pu = some (.tup [.int 0]) := upd_same
    generalize upd H46 pu (.tup [.int 0]) = H47 at spu epu ⊢
    refine ⟨small1000 (Nat.le_of_ble_eq_true rfl), fun lu hlu => ?_⟩
    have slu : Same H47 (upd H47 lu (.tup [.str "x", .ref pu])) := same_new hlu
    have elu : upd H47 lu (.tup [.str "x", .ref pu]) lu = some (.tup [.str "x", .ref pu]) := upd_same
    generalize upd H47 lu (.tup [.str "x", .ref pu]) = H48 at slu elu ⊢
    refine ⟨v, lu, X1 bO, "x", [], 0, .toss [(6, []), (4, []), (3, [])], rfl, (atX (iv.same (Same.trans spu slu)) ((Same.refl _) _ _ elu) (slu _ _ epu) (by decide +kernel) (by decide +kernel) trivial rfl (.inl rfl)), by rw [x1_b, e_O, x1_set]; exact prO, fun qu u H49 pmu sou nu su iu => ?_⟩
    rw [x1_b, e_O, x1_set] at pmu
    obtain rfl := x1_eq pmu
    clear pmu sou nu elu epu
    refine ⟨_, rfl, ne_x1 R nf iu (iv.same (Same.trans (Same.trans spu slu) su)) ⟨_, rfl, iteF ?_⟩⟩
    clear iu iv
    refine ⟨_, rfl, ?_⟩
    refine ⟨small1000 (Nat.le_of_ble_eq_true rfl), fun pE hpE => ?_⟩
    have spE : Same H49 (upd H49 pE (.tup [.int 0, .int 1, .int 0])) := same_new hpE
    have epE : upd H49 pE (.tup [.int 0, .int 1, .int 0]) pE = some (.tup [.int 0, .int 1, .int 0]) := upd_same
    generalize upd H49 pE (.tup [.int 0, .int 1, .int 0]) = H50 at spE epE ⊢
    refine ⟨small1000 (Nat.le_of_ble_eq_true rfl), fun lE hlE => ?_⟩
    have slE : Same H50 (upd H50 lE (.tup [.str "x", .ref pE])) := same_new hlE
    have elE : upd H50 lE (.tup [.str "x", .ref pE]) lE = some (.tup [.str "x", .ref pE]) := upd_same
    generalize upd H50 lE (.tup [.str "x", .ref pE]) = H51 at slE elE ⊢
    refine ⟨x, lE, X1 b0, "x", [(0, 1)], 0, iT 9 12, 8, rfl, (atX (ix.same (Same.trans (Same.trans (Same.trans (Same.trans (Same.trans (Same.trans (Same.trans (Same.trans (Same.trans (Same.trans (Same.trans (Same.trans (Same.trans (Same.trans (Same.trans (Same.trans (Same.trans (Same.trans (Same.trans (Same.trans (Same.trans (Same.trans (Same.trans (Same.trans (Same.trans (Same.trans (Same.trans (Same.trans (Same.trans (Same.trans (Same.trans (Same.trans (Same.trans (Same.trans (Same.trans (Same.trans (Same.trans (Same.trans spy sly) sy) sg1) sg2) sg3) sg4) sg5) sg6) sg7) sg8) sg9) sg0) spz) slz) sz) stC) smC) slC) spS) slS) sw) stD) smD) slD) so1) so2) so3) so4) so5) so6) so7) so8) sv) spu) slu) su) spE) slE)) ((Same.refl _) _ _ elE) (slE _ _ epE) (by decide +kernel) (by decide +kernel) in0 rfl (.inr rfl)), by decide, by decide, .inl ⟨by rw [x1_b, e_E, x1_set]; exact prE, x1_so _, x1_n _, fun tE kE H52 nE sE htE hkE => ?_⟩⟩
    rw [x1_b, e_E, x1_set] at hkE
    obtain ⟨vE, evE, hvE⟩ := hkE.val (x1_nd _) (x1_n _)
    rw [x1_b] at hvE
    refine ⟨tE, vE, rfl, by rw [← evE]; exact DGet.k (k := .inr "x") htE, ?_⟩
    obtain ⟨aE, vvE, rfl, haE, hvvE⟩ := one_at hvE
    refine ⟨aE, _, 0, _, rfl, rfl, SqT.of haE, atI_nat (j := 0) rfl, ?_⟩
    obtain ⟨sE3, r1, r2, r3, k1, k2, k3, rfl, hsE, _, _, h2E, g2E, _, _⟩ := rows3 hvvE
    refine ⟨sE3, _, 2, _, rfl, rfl, SqT.of hsE, atI_nat (j := 2) rfl, ?_⟩
    refine ⟨Nat.zero_le _, fun z1 hz1 => ?_⟩
    have sz1 : Same H52 (upd H52 z1 (.tup [])) := same_new hz1
    have ez1 : upd H52 z1 (.tup []) z1 = some (.tup []) := upd_same
    generalize upd H52 z1 (.tup []) = H53 at sz1 ez1 ⊢
    refine ⟨small1000 (Nat.le_of_ble_eq_true rfl), fun z2 hz2 => ?_⟩
    have sz2 : Same H53 (upd H53 z2 (.tup [.str "again", .int 72, .int 96, .ref z1])) := same_new hz2
    have ez2 : upd H53 z2 (.tup [.str "again", .int 72, .int 96, .ref z1]) z2 = some (.tup [.str "again", .int 72, .int 96, .ref z1]) := upd_same
    generalize upd H53 z2 (.tup [.str "again", .int 72, .int 96, .ref z1]) = H54 at sz2 ez2 ⊢
    refine ⟨small1000 (Nat.le_of_ble_eq_true rfl), fun z3 hz3 => ?_⟩
    have sz3 : Same H54 (upd H54 z3 (.tup [.ref z2])) := same_new hz3
    have ez3 : upd H54 z3 (.tup [.ref z2]) z3 = some (.tup [.ref z2]) := upd_same
    generalize upd H54 z3 (.tup [.ref z2]) = H55 at sz3 ez3 ⊢
    refine ⟨small1000 (Nat.le_of_ble_eq_true rfl), fun z4 hz4 => ?_⟩
    have sz4 : Same H55 (upd H55 z4 (.tup [.int 4, .ref z3])) := same_new hz4
    have ez4 : upd H55 z4 (.tup [.int 4, .ref z3]) z4 = some (.tup [.int 4, .ref z3]) := upd_same
    generalize upd H55 z4 (.tup [.int 4, .ref z3]) = H56 at sz4 ez4 ⊢
    have bZ : BdAt 4 H56 (.ref z3) [iT 72 96] := ⟨z3, _, rfl, (sz4 _ _ ez3), (AG.consA ⟨z2, _, rfl, ((Same.trans sz3 sz4) _ _ ez2), ⟨z1, _, rfl, ((Same.trans (Same.trans sz2 sz3) sz4) _ _ ez1), AG.nil⟩⟩ AG.nil)⟩
    refine ⟨_, _, dpRow ((Same.trans (Same.trans (Same.trans sz1 sz2) sz3) sz4) _ _ h2E) (g2E.same (Same.trans (Same.trans (Same.trans sz1 sz2) sz3) sz4)), dpRow ((Same.refl _) _ _ ez4) bZ, plRow _ _, plRow _ _, ?_⟩
    rw [eqv_self (plRow _ _).1]
    exact q _
end
end FR
set_option Elab.async false
set_option linter.all false
set_option maxRecDepth 100000
set_option maxHeartbeats 4000000
/-! what the written part says of the classes, by computation -/
namespace FR
open PySem PySem.Spec PyProof.Rows L2 LD
section
variable {P : Program} {w : World} {K : PySem.W.Frag} {mg : Str → Option Value} {base : Heap}
theorem ok_pis {f fp dT : Addr} {fd fdp : FuncData} (GP : FnOk P w K mg base CX0 6 fp fdp ["body", "path"] (spPls K 5)) (mP : mg "placed_statements" = some (.ref fp)) (kP : PySem.W.keepIn K (.ref fp) = true) {ds : List Value} (bP : Binds K fdp ["body", "path"] ds) (vP : Vals [V.ref dT] ds) (hT : ∀ H, SqT K H dT []) {C CG : Addr} (R : PgC K C) (oG : OwnTy K CG) (nG : NoAttr K CG "table") (kNo : PySem.W.kitOne K (.type "NoneType") (.ref CG) = some false) (kYes : PySem.W.kitOne K (.ref CG) (.ref CG) = some true) (T : TxtP mg) (mG : mg "Given" = some (.ref CG)) (gA : Glo P w K mg base "_are_program" 12 ["bodies"] spAp) (F : Fun K "__init__" "Program.__init__" sPi f fd) {ks : List Str} (hk : ∀ k ∈ ks, ¬ k = "self") (hn : ks.Nodup) (hf : ks.length ≤ 900) : FnRs P w K mg base 13 f ks (spPi K C CG) := by
  refine rests_ok F (x := ⟨"self", _, _⟩) (y := ⟨"bodies", _, _⟩) rfl scPi hk hn hf (fun vs H Q E h => ?_) fun cdv A outer s H vs Q E hr h => ?_
  · obtain ⟨x, d, dx, kvs, p, rfl, _⟩ := h
    rfl
  · exact pi_read (k := 12) GP mP kP bP vP hT R.cl R.nb R.ns R.ne R.nc oG.cl nG oG kNo kYes T mG gA hr h
end
theorem pls_binds {K : PySem.W.Frag} {f dT : Addr} {fd : FuncData} (F : FunD K "placed_statements" "placed_statements" (defArgs sPls) (defBody sPls) (defScope sPls) [V.ref dT] [] f fd) :
    (∃ ds, Vals [V.ref dT] ds ∧ Binds K fd ["body", "path"] ds) ∧ Binds K fd ["body", "path"] [] := by
  have b1 := F.binds1 (ps := ["body", "path"]) 1 0 (by simp) rfl fun T kV doc pm an cdv ct us its hu hi => match us, its, hu, hi with | [_], [_], _, _ => ⟨_, rfl, rfl⟩
  have b2 := F.binds1 (ps := ["body", "path"]) 2 1 (by simp) rfl fun T kV doc pm an cdv ct us its hu hi => match us, its, hu, hi with | [_, _], [_], _, _ => ⟨_, rfl, rfl⟩
  obtain ⟨ds, v, b⟩ := b2
  cases v
  exact ⟨b1, b⟩
def clsB (K : PySem.W.Frag) (C : Addr) : Bool := PySem.W.plainGet K C Str.empty && (PySem.W.hasDictIn K C && (PySem.W.plainOver K C && (PySem.W.findIn K (.ref C) "__setattr__" == some (some (.builtin "object.__setattr__")))))
theorem cls_of {K : PySem.W.Frag} {C : Addr} (h : clsB K C = true) : Cls K C := by
  simp only [clsB, Bool.and_eq_true, beq_iff_eq] at h
  exact ⟨h.1, h.2.1, h.2.2.1, h.2.2.2⟩
def ownB (K : PySem.W.Frag) (C : Addr) : Bool := clsB K C && ((PySem.W.findIn K (.ref C) "__class__" == some (some (.builtin "object.__class__"))) &&
  ((PySem.W.specialIn K (.builtin "object.__class__") "__get__" == some (some (.builtin "getset_descriptor.__get__"))) && ((PySem.W.takesIn K (.builtin "object.__class__") == some true) && (PySem.W.mroIn K C (.type "object") == some true))))
theorem own_of {K : PySem.W.Frag} {C : Addr} (h : ownB K C = true) : OwnTy K C := by
  simp only [ownB, Bool.and_eq_true, beq_iff_eq] at h
  exact ⟨cls_of h.1, h.2.1, h.2.2.1, h.2.2.2.1, h.2.2.2.2⟩
def pgCB (K : PySem.W.Frag) (C : Addr) : Bool := ownB K C && ((PySem.W.findIn K (.ref C) "_bodies" == some none) && ((PySem.W.findIn K (.ref C) "_size" == some none) && ((PySem.W.findIn K (.ref C) "_events" == some none) && (PySem.W.findIn K (.ref C) "_choices" == some none))))
theorem pg_of {K : PySem.W.Frag} {C : Addr} (h : pgCB K C = true) : PgC K C := by
  simp only [pgCB, Bool.and_eq_true, beq_iff_eq] at h
  have o := own_of h.1
  exact ⟨o.cl, h.2.1, h.2.2.1, h.2.2.2.1, h.2.2.2.2, o⟩
def mkB (K : PySem.W.Frag) (C : Addr) : Bool := PySem.W.makesIn K C && PySem.W.keepIn K (.ref C)
def oddB (K : PySem.W.Frag) (C : Addr) : Bool := ((PySem.W.findIn K (.ref C) "__ne__" == some (some (.builtin "object.__ne__"))) && (PySem.W.subIn K (.ref C) (.type "object") == some true)) && PySem.W.notFirst K C (.ref C)
theorem oddk_of {K : PySem.W.Frag} {C : Addr} (h : oddB K C = true) : NeOf K C ∧ PySem.W.notFirst K C (.ref C) = true := by
  simp only [oddB, Bool.and_eq_true, beq_iff_eq] at h
  obtain ⟨⟨a, b⟩, c⟩ := h
  exact ⟨⟨a, b⟩, c⟩
def kitB (K : PySem.W.Frag) (C CG : Addr) : Bool := (PySem.W.kitOne K (.type "NoneType") (.ref CG) == some false) && ((PySem.W.kitOne K (.ref CG) (.ref CG) == some true) && ((PySem.W.kitOne K (.ref C) (.ref C) == some true) && (PySem.W.findIn K (.ref CG) "table" == some none)))
def smB (K : PySem.W.Frag) (C : Addr) (mc : Value) (p g : Addr) : Bool := (PySem.W.readsIn K C mc && ((PySem.W.specialIn K (.ref C) "__getattribute__" == some (some (.builtin "type.__getattribute__"))))) && (PySem.W.handedIn (.ref g) && PySem.W.keepIn K (.ref g))
end FR
set_option Elab.async false
set_option linter.all false
set_option maxRecDepth 100000
set_option maxHeartbeats 4000000
namespace FR
open PySem PySem.Spec PyProof.Rows L2 LD
def excB (K : PySem.W.Frag) (I : Addr) : Bool := PySem.W.excIn K I veB "ValueError.__new__" && (PySem.W.keepIn K (.ref I) && ((PySem.W.subIn K (.ref I) (.type "BaseException") == some true) && ((PySem.W.typeIn K (.ref I) == some (.type "type")) && (PySem.W.exmOne K (.ref I) (.ref I) == some true))))
theorem exc_of {K : PySem.W.Frag} {mg : Str → Option Value} {nm : Str} {I : Addr} (h : excB K I = true) (g : mg nm = some (.ref I)) : ExcC K mg nm I := by
  simp only [excB, Bool.and_eq_true, beq_iff_eq] at h
  exact ⟨h.1, g, h.2.1, h.2.2.1, h.2.2.2.1, h.2.2.2.2⟩
theorem all_mk {l : PySem.W.OpenLaw} {w : World} {K : PySem.W.Frag} {h : Heap} {mg : Str → Option Value} {fa C CG CI CO : Addr} (X : K.In h) (G : h.Ns mainGlobals mg) (hfa : mg "law" = some (.ref fa))
    (aC : PySem.W.nsIn K mainGlobals "Program" = some (some (.ref C)))
    (aG : PySem.W.nsIn K mainGlobals "Given" = some (some (.ref CG)))
    (aI : PySem.W.nsIn K mainGlobals "InvalidProgram" = some (some (.ref CI)))
    (aO : PySem.W.nsIn K mainGlobals "InvalidOperation" = some (some (.ref CO)))
    (agcd : PySem.W.nsIn K mainGlobals "gcd" = some (some (.builtin "math.gcd")))
    {tkP tkS tkD tkW tkL tkT : Tok}
    (aMP : PySem.W.nsIn K mainGlobals "MAX_PROCEDURES" = some (some (.int 8 tkP)))
    (aMS : PySem.W.nsIn K mainGlobals "MAX_STATEMENTS" = some (some (.int 60 tkS)))
    (aMD : PySem.W.nsIn K mainGlobals "MAX_DEPTH" = some (some (.int 4 tkD)))
    (aMW : PySem.W.nsIn K mainGlobals "MAX_WEIGHT" = some (some (.int 99 tkW)))
    (aML : PySem.W.nsIn K mainGlobals "MAX_LETTERS" = some (some (.int 8 tkL)))
    (aLT : PySem.W.nsIn K mainGlobals "LETTERS" = some (some (.str lets tkT)))
    {f_bin : Addr} {oc_bin kV_bin dc_bin pm_bin cd_bin ct_bin : Value} {od_bin an_bin : Option Addr} {sl_bin : Array (Option Value)}
    (n_bin : PySem.W.nsIn K mainGlobals "bodies_in" = some (some (.ref f_bin)))
    (l_bin : K.lookup f_bin = some ⟨oc_bin, od_bin, .func (PySem.W.fnOf "bodies_in" "bodies_in" (defArgs sBin) (defBody sBin) (defScope sBin) .none kV_bin dc_bin pm_bin an_bin cd_bin ct_bin), sl_bin⟩)
    (d_bin : PySem.W.codeIn K cd_bin "bodies_in" = true)
    (k_bin : PySem.W.keepIn K (.ref f_bin) = true)
    {f_wb : Addr} {oc_wb kV_wb dc_wb pm_wb cd_wb ct_wb : Value} {od_wb an_wb : Option Addr} {sl_wb : Array (Option Value)}
    (n_wb : PySem.W.nsIn K mainGlobals "with_bodies" = some (some (.ref f_wb)))
    (l_wb : K.lookup f_wb = some ⟨oc_wb, od_wb, .func (PySem.W.fnOf "with_bodies" "with_bodies" (defArgs sWb) (defBody sWb) (defScope sWb) .none kV_wb dc_wb pm_wb an_wb cd_wb ct_wb), sl_wb⟩)
    (d_wb : PySem.W.codeIn K cd_wb "with_bodies" = true)
    (k_wb : PySem.W.keepIn K (.ref f_wb) = true)
    {f_wo : Addr} {oc_wo kV_wo dc_wo pm_wo cd_wo ct_wo : Value} {od_wo an_wo : Option Addr} {sl_wo : Array (Option Value)}
    (n_wo : PySem.W.nsIn K mainGlobals "weights_of" = some (some (.ref f_wo)))
    (l_wo : K.lookup f_wo = some ⟨oc_wo, od_wo, .func (PySem.W.fnOf "weights_of" "weights_of" (defArgs sWo) (defBody sWo) (defScope sWo) .none kV_wo dc_wo pm_wo an_wo cd_wo ct_wo), sl_wo⟩)
    (d_wo : PySem.W.codeIn K cd_wo "weights_of" = true)
    (k_wo : PySem.W.keepIn K (.ref f_wo) = true)
    {f_sof : Addr} {oc_sof kV_sof dc_sof pm_sof cd_sof ct_sof : Value} {od_sof an_sof : Option Addr} {sl_sof : Array (Option Value)}
    (n_sof : PySem.W.nsIn K mainGlobals "statements_of" = some (some (.ref f_sof)))
    (l_sof : K.lookup f_sof = some ⟨oc_sof, od_sof, .func (PySem.W.fnOf "statements_of" "statements_of" (defArgs sSof) (defBody sSof) (defScope sSof) .none kV_sof dc_sof pm_sof an_sof cd_sof ct_sof), sl_sof⟩)
    (d_sof : PySem.W.codeIn K cd_sof "statements_of" = true)
    (k_sof : PySem.W.keepIn K (.ref f_sof) = true)
    {f_pw : Addr} {oc_pw kV_pw dc_pw pm_pw cd_pw ct_pw : Value} {od_pw an_pw : Option Addr} {sl_pw : Array (Option Value)}
    (n_pw : PySem.W.nsIn K mainGlobals "part_within" = some (some (.ref f_pw)))
    (l_pw : K.lookup f_pw = some ⟨oc_pw, od_pw, .func (PySem.W.fnOf "part_within" "part_within" (defArgs sPw) (defBody sPw) (defScope sPw) .none kV_pw dc_pw pm_pw an_pw cd_pw ct_pw), sl_pw⟩)
    (d_pw : PySem.W.codeIn K cd_pw "part_within" = true)
    (k_pw : PySem.W.keepIn K (.ref f_pw) = true)
    {f_wp : Addr} {oc_wp kV_wp dc_wp pm_wp cd_wp ct_wp : Value} {od_wp an_wp : Option Addr} {sl_wp : Array (Option Value)}
    (n_wp : PySem.W.nsIn K mainGlobals "with_part" = some (some (.ref f_wp)))
    (l_wp : K.lookup f_wp = some ⟨oc_wp, od_wp, .func (PySem.W.fnOf "with_part" "with_part" (defArgs sWp) (defBody sWp) (defScope sWp) .none kV_wp dc_wp pm_wp an_wp cd_wp ct_wp), sl_wp⟩)
    (d_wp : PySem.W.codeIn K cd_wp "with_part" = true)
    (k_wp : PySem.W.keepIn K (.ref f_wp) = true)
    {f_plain : Addr} {oc_plain kV_plain dc_plain pm_plain cd_plain ct_plain : Value} {od_plain an_plain : Option Addr} {sl_plain : Array (Option Value)}
    (n_plain : PySem.W.nsIn K mainGlobals "is_plain_integer" = some (some (.ref f_plain)))
    (l_plain : K.lookup f_plain = some ⟨oc_plain, od_plain, .func (PySem.W.fnOf "is_plain_integer" "is_plain_integer" (defArgs sPlain) (defBody sPlain) (defScope sPlain) .none kV_plain dc_plain pm_plain an_plain cd_plain ct_plain), sl_plain⟩)
    (d_plain : PySem.W.codeIn K cd_plain "is_plain_integer" = true)
    (k_plain : PySem.W.keepIn K (.ref f_plain) = true)
    {f_bet : Addr} {oc_bet kV_bet dc_bet pm_bet cd_bet ct_bet : Value} {od_bet an_bet : Option Addr} {sl_bet : Array (Option Value)}
    (n_bet : PySem.W.nsIn K mainGlobals "is_between" = some (some (.ref f_bet)))
    (l_bet : K.lookup f_bet = some ⟨oc_bet, od_bet, .func (PySem.W.fnOf "is_between" "is_between" (defArgs sBet) (defBody sBet) (defScope sBet) .none kV_bet dc_bet pm_bet an_bet cd_bet ct_bet), sl_bet⟩)
    (d_bet : PySem.W.codeIn K cd_bet "is_between" = true)
    (k_bet : PySem.W.keepIn K (.ref f_bet) = true)
    {f_nm : Addr} {oc_nm kV_nm dc_nm pm_nm cd_nm ct_nm : Value} {od_nm an_nm : Option Addr} {sl_nm : Array (Option Value)}
    (n_nm : PySem.W.nsIn K mainGlobals "is_name" = some (some (.ref f_nm)))
    (l_nm : K.lookup f_nm = some ⟨oc_nm, od_nm, .func (PySem.W.fnOf "is_name" "is_name" (defArgs sNm) (defBody sNm) (defScope sNm) .none kV_nm dc_nm pm_nm an_nm cd_nm ct_nm), sl_nm⟩)
    (d_nm : PySem.W.codeIn K cd_nm "is_name" = true)
    (k_nm : PySem.W.keepIn K (.ref f_nm) = true)
    {f_wt : Addr} {oc_wt kV_wt dc_wt pm_wt cd_wt ct_wt : Value} {od_wt an_wt : Option Addr} {sl_wt : Array (Option Value)}
    (n_wt : PySem.W.nsIn K mainGlobals "_is_weight" = some (some (.ref f_wt)))
    (l_wt : K.lookup f_wt = some ⟨oc_wt, od_wt, .func (PySem.W.fnOf "_is_weight" "_is_weight" (defArgs sWt) (defBody sWt) (defScope sWt) .none kV_wt dc_wt pm_wt an_wt cd_wt ct_wt), sl_wt⟩)
    (d_wt : PySem.W.codeIn K cd_wt "_is_weight" = true)
    (k_wt : PySem.W.keepIn K (.ref f_wt) = true)
    {f_br : Addr} {oc_br kV_br dc_br pm_br cd_br ct_br : Value} {od_br an_br : Option Addr} {sl_br : Array (Option Value)}
    (n_br : PySem.W.nsIn K mainGlobals "_is_branch" = some (some (.ref f_br)))
    (l_br : K.lookup f_br = some ⟨oc_br, od_br, .func (PySem.W.fnOf "_is_branch" "_is_branch" (defArgs sBr) (defBody sBr) (defScope sBr) .none kV_br dc_br pm_br an_br cd_br ct_br), sl_br⟩)
    (d_br : PySem.W.codeIn K cd_br "_is_branch" = true)
    (k_br : PySem.W.keepIn K (.ref f_br) = true)
    {f_inn : Addr} {oc_inn kV_inn dc_inn pm_inn cd_inn ct_inn : Value} {od_inn an_inn : Option Addr} {sl_inn : Array (Option Value)}
    (n_inn : PySem.W.nsIn K mainGlobals "_inner_of" = some (some (.ref f_inn)))
    (l_inn : K.lookup f_inn = some ⟨oc_inn, od_inn, .func (PySem.W.fnOf "_inner_of" "_inner_of" (defArgs sInn) (defBody sInn) (defScope sInn) .none kV_inn dc_inn pm_inn an_inn cd_inn ct_inn), sl_inn⟩)
    (d_inn : PySem.W.codeIn K cd_inn "_inner_of" = true)
    (k_inn : PySem.W.keepIn K (.ref f_inn) = true)
    {f_lb : Addr} {oc_lb kV_lb dc_lb pm_lb cd_lb ct_lb : Value} {od_lb an_lb : Option Addr} {sl_lb : Array (Option Value)}
    (n_lb : PySem.W.nsIn K mainGlobals "_left_behind" = some (some (.ref f_lb)))
    (l_lb : K.lookup f_lb = some ⟨oc_lb, od_lb, .func (PySem.W.fnOf "_left_behind" "_left_behind" (defArgs sLb) (defBody sLb) (defScope sLb) .none kV_lb dc_lb pm_lb an_lb cd_lb ct_lb), sl_lb⟩)
    (d_lb : PySem.W.codeIn K cd_lb "_left_behind" = true)
    (k_lb : PySem.W.keepIn K (.ref f_lb) = true)
    {f_ib : Addr} {oc_ib kV_ib dc_ib pm_ib cd_ib ct_ib : Value} {od_ib an_ib : Option Addr} {sl_ib : Array (Option Value)}
    (n_ib : PySem.W.nsIn K mainGlobals "is_body" = some (some (.ref f_ib)))
    (l_ib : K.lookup f_ib = some ⟨oc_ib, od_ib, .func (PySem.W.fnOf "is_body" "is_body" (defArgs sIb) (defBody sIb) (defScope sIb) .none kV_ib dc_ib pm_ib an_ib cd_ib ct_ib), sl_ib⟩)
    (d_ib : PySem.W.codeIn K cd_ib "is_body" = true)
    (k_ib : PySem.W.keepIn K (.ref f_ib) = true)
    {f_nc : Addr} {oc_nc kV_nc dc_nc pm_nc cd_nc ct_nc : Value} {od_nc an_nc : Option Addr} {sl_nc : Array (Option Value)}
    (n_nc : PySem.W.nsIn K mainGlobals "_names_called" = some (some (.ref f_nc)))
    (l_nc : K.lookup f_nc = some ⟨oc_nc, od_nc, .func (PySem.W.fnOf "_names_called" "_names_called" (defArgs sNc) (defBody sNc) (defScope sNc) .none kV_nc dc_nc pm_nc an_nc cd_nc ct_nc), sl_nc⟩)
    (d_nc : PySem.W.codeIn K cd_nc "_names_called" = true)
    (k_nc : PySem.W.keepIn K (.ref f_nc) = true)
    {f_ap : Addr} {oc_ap kV_ap dc_ap pm_ap cd_ap ct_ap : Value} {od_ap an_ap : Option Addr} {sl_ap : Array (Option Value)}
    (n_ap : PySem.W.nsIn K mainGlobals "_are_program" = some (some (.ref f_ap)))
    (l_ap : K.lookup f_ap = some ⟨oc_ap, od_ap, .func (PySem.W.fnOf "_are_program" "_are_program" (defArgs sAp) (defBody sAp) (defScope sAp) .none kV_ap dc_ap pm_ap an_ap cd_ap ct_ap), sl_ap⟩)
    (d_ap : PySem.W.codeIn K cd_ap "_are_program" = true)
    (k_ap : PySem.W.keepIn K (.ref f_ap) = true)
    {f_cn : Addr} {oc_cn kV_cn dc_cn pm_cn cd_cn ct_cn : Value} {od_cn an_cn : Option Addr} {sl_cn : Array (Option Value)}
    (n_cn : PySem.W.nsIn K mainGlobals "check_name" = some (some (.ref f_cn)))
    (l_cn : K.lookup f_cn = some ⟨oc_cn, od_cn, .func (PySem.W.fnOf "check_name" "check_name" (defArgs sCn) (defBody sCn) (defScope sCn) .none kV_cn dc_cn pm_cn an_cn cd_cn ct_cn), sl_cn⟩)
    (d_cn : PySem.W.codeIn K cd_cn "check_name" = true)
    (k_cn : PySem.W.keepIn K (.ref f_cn) = true)
    {f_cf : Addr} {oc_cf kV_cf dc_cf pm_cf cd_cf ct_cf : Value} {od_cf an_cf : Option Addr} {sl_cf : Array (Option Value)}
    (n_cf : PySem.W.nsIn K mainGlobals "check_free" = some (some (.ref f_cf)))
    (l_cf : K.lookup f_cf = some ⟨oc_cf, od_cf, .func (PySem.W.fnOf "check_free" "check_free" (defArgs sCf) (defBody sCf) (defScope sCf) .none kV_cf dc_cf pm_cf an_cf cd_cf ct_cf), sl_cf⟩)
    (d_cf : PySem.W.codeIn K cd_cf "check_free" = true)
    (k_cf : PySem.W.keepIn K (.ref f_cf) = true)
    {f_pat : Addr} {oc_pat kV_pat dc_pat pm_pat cd_pat ct_pat : Value} {od_pat an_pat : Option Addr} {sl_pat : Array (Option Value)}
    (n_pat : PySem.W.nsIn K mainGlobals "part_at" = some (some (.ref f_pat)))
    (l_pat : K.lookup f_pat = some ⟨oc_pat, od_pat, .func (PySem.W.fnOf "part_at" "part_at" (defArgs sPat) (defBody sPat) (defScope sPat) .none kV_pat dc_pat pm_pat an_pat cd_pat ct_pat), sl_pat⟩)
    (d_pat : PySem.W.codeIn K cd_pat "part_at" = true)
    (k_pat : PySem.W.keepIn K (.ref f_pat) = true)
    {f_po : Addr} {oc_po kV_po dc_po pm_po cd_po ct_po : Value} {od_po an_po : Option Addr} {sl_po : Array (Option Value)}
    (n_po : PySem.W.nsIn K mainGlobals "_part_of" = some (some (.ref f_po)))
    (l_po : K.lookup f_po = some ⟨oc_po, od_po, .func (PySem.W.fnOf "_part_of" "_part_of" (defArgs sPo2) (defBody sPo2) (defScope sPo2) .none kV_po dc_po pm_po an_po cd_po ct_po), sl_po⟩)
    (d_po : PySem.W.codeIn K cd_po "_part_of" = true)
    (k_po : PySem.W.keepIn K (.ref f_po) = true)
    {f_sa : Addr} {oc_sa kV_sa dc_sa pm_sa cd_sa ct_sa : Value} {od_sa an_sa : Option Addr} {sl_sa : Array (Option Value)}
    (n_sa : PySem.W.nsIn K mainGlobals "statement_at" = some (some (.ref f_sa)))
    (l_sa : K.lookup f_sa = some ⟨oc_sa, od_sa, .func (PySem.W.fnOf "statement_at" "statement_at" (defArgs sSa) (defBody sSa) (defScope sSa) .none kV_sa dc_sa pm_sa an_sa cd_sa ct_sa), sl_sa⟩)
    (d_sa : PySem.W.codeIn K cd_sa "statement_at" = true)
    (k_sa : PySem.W.keepIn K (.ref f_sa) = true)
    {f_ww : Addr} {oc_ww kV_ww dc_ww pm_ww cd_ww ct_ww : Value} {od_ww an_ww : Option Addr} {sl_ww : Array (Option Value)}
    (n_ww : PySem.W.nsIn K mainGlobals "with_weights" = some (some (.ref f_ww)))
    (l_ww : K.lookup f_ww = some ⟨oc_ww, od_ww, .func (PySem.W.fnOf "with_weights" "with_weights" (defArgs sWw) (defBody sWw) (defScope sWw) .none kV_ww dc_ww pm_ww an_ww cd_ww ct_ww), sl_ww⟩)
    (d_ww : PySem.W.codeIn K cd_ww "with_weights" = true)
    (k_ww : PySem.W.keepIn K (.ref f_ww) = true)
    {f_sca : Addr} {oc_sca kV_sca dc_sca pm_sca cd_sca ct_sca : Value} {od_sca an_sca : Option Addr} {sl_sca : Array (Option Value)}
    (n_sca : PySem.W.nsIn K mainGlobals "scaled" = some (some (.ref f_sca)))
    (l_sca : K.lookup f_sca = some ⟨oc_sca, od_sca, .func (PySem.W.fnOf "scaled" "scaled" (defArgs sSca) (defBody sSca) (defScope sSca) .none kV_sca dc_sca pm_sca an_sca cd_sca ct_sca), sl_sca⟩)
    (d_sca : PySem.W.codeIn K cd_sca "scaled" = true)
    (k_sca : PySem.W.keepIn K (.ref f_sca) = true)
    {f_low : Addr} {oc_low kV_low dc_low pm_low cd_low ct_low : Value} {od_low an_low : Option Addr} {sl_low : Array (Option Value)}
    (n_low : PySem.W.nsIn K mainGlobals "lowered" = some (some (.ref f_low)))
    (l_low : K.lookup f_low = some ⟨oc_low, od_low, .func (PySem.W.fnOf "lowered" "lowered" (defArgs sLow) (defBody sLow) (defScope sLow) .none kV_low dc_low pm_low an_low cd_low ct_low), sl_low⟩)
    (d_low : PySem.W.codeIn K cd_low "lowered" = true)
    (k_low : PySem.W.keepIn K (.ref f_low) = true)
    {f_ba : Addr} {oc_ba kV_ba dc_ba pm_ba cd_ba ct_ba : Value} {od_ba an_ba : Option Addr} {sl_ba : Array (Option Value)}
    (n_ba : PySem.W.nsIn K mainGlobals "_body_around" = some (some (.ref f_ba)))
    (l_ba : K.lookup f_ba = some ⟨oc_ba, od_ba, .func (PySem.W.fnOf "_body_around" "_body_around" (defArgs sBa) (defBody sBa) (defScope sBa) .none kV_ba dc_ba pm_ba an_ba cd_ba ct_ba), sl_ba⟩)
    (d_ba : PySem.W.codeIn K cd_ba "_body_around" = true)
    (k_ba : PySem.W.keepIn K (.ref f_ba) = true)
    {f_ot : Addr} {oc_ot kV_ot dc_ot pm_ot cd_ot ct_ot : Value} {od_ot an_ot : Option Addr} {sl_ot : Array (Option Value)}
    (n_ot : PySem.W.nsIn K mainGlobals "_with_others" = some (some (.ref f_ot)))
    (l_ot : K.lookup f_ot = some ⟨oc_ot, od_ot, .func (PySem.W.fnOf "_with_others" "_with_others" (defArgs sOt) (defBody sOt) (defScope sOt) .none kV_ot dc_ot pm_ot an_ot cd_ot ct_ot), sl_ot⟩)
    (d_ot : PySem.W.codeIn K cd_ot "_with_others" = true)
    (k_ot : PySem.W.keepIn K (.ref f_ot) = true)
    {f_prw : Addr} {oc_prw kV_prw dc_prw pm_prw cd_prw ct_prw : Value} {od_prw an_prw : Option Addr} {sl_prw : Array (Option Value)}
    (n_prw : PySem.W.nsIn K mainGlobals "_program_with" = some (some (.ref f_prw)))
    (l_prw : K.lookup f_prw = some ⟨oc_prw, od_prw, .func (PySem.W.fnOf "_program_with" "_program_with" (defArgs sPrw) (defBody sPrw) (defScope sPrw) .none kV_prw dc_prw pm_prw an_prw cd_prw ct_prw), sl_prw⟩)
    (d_prw : PySem.W.codeIn K cd_prw "_program_with" = true)
    (k_prw : PySem.W.keepIn K (.ref f_prw) = true)
    {f_pof : Addr} {oc_pof kV_pof dc_pof pm_pof cd_pof ct_pof : Value} {od_pof an_pof : Option Addr} {sl_pof : Array (Option Value)}
    (n_pof : PySem.W.nsIn K mainGlobals "_program_of" = some (some (.ref f_pof)))
    (l_pof : K.lookup f_pof = some ⟨oc_pof, od_pof, .func (PySem.W.fnOf "_program_of" "_program_of" (defArgs sPof) (defBody sPof) (defScope sPof) .none kV_pof dc_pof pm_pof an_pof cd_pof ct_pof), sl_pof⟩)
    (d_pof : PySem.W.codeIn K cd_pof "_program_of" = true)
    (k_pof : PySem.W.keepIn K (.ref f_pof) = true)
    {f_dice : Addr} {oc_dice kV_dice dc_dice pm_dice cd_dice ct_dice : Value} {od_dice an_dice : Option Addr} {sl_dice : Array (Option Value)}
    (n_dice : PySem.W.nsIn K mainGlobals "_law_dice" = some (some (.ref f_dice)))
    (l_dice : K.lookup f_dice = some ⟨oc_dice, od_dice, .func (PySem.W.fnOf "_law_dice" "_law_dice" (defArgs LD.sDice) (defBody LD.sDice) (defScope LD.sDice) .none kV_dice dc_dice pm_dice an_dice cd_dice ct_dice), sl_dice⟩)
    (d_dice : PySem.W.codeIn K cd_dice "_law_dice" = true)
    (k_dice : PySem.W.keepIn K (.ref f_dice) = true)
    {f_roll : Addr} {oc_roll kV_roll dc_roll pm_roll cd_roll ct_roll : Value} {od_roll an_roll : Option Addr} {sl_roll : Array (Option Value)}
    (n_roll : PySem.W.nsIn K mainGlobals "_law_roll" = some (some (.ref f_roll)))
    (l_roll : K.lookup f_roll = some ⟨oc_roll, od_roll, .func (PySem.W.fnOf "_law_roll" "_law_roll" (defArgs LD.sRoll) (defBody LD.sRoll) (defScope LD.sRoll) .none kV_roll dc_roll pm_roll an_roll cd_roll ct_roll), sl_roll⟩)
    (d_roll : PySem.W.codeIn K cd_roll "_law_roll" = true)
    (k_roll : PySem.W.keepIn K (.ref f_roll) = true)
    {f_one : Addr} {oc_one kV_one dc_one pm_one cd_one ct_one : Value} {od_one an_one : Option Addr} {sl_one : Array (Option Value)}
    (n_one : PySem.W.nsIn K mainGlobals "_law_one_of" = some (some (.ref f_one)))
    (l_one : K.lookup f_one = some ⟨oc_one, od_one, .func (PySem.W.fnOf "_law_one_of" "_law_one_of" (defArgs LD.sOneOf) (defBody LD.sOneOf) (defScope LD.sOneOf) .none kV_one dc_one pm_one an_one cd_one ct_one), sl_one⟩)
    (d_one : PySem.W.codeIn K cd_one "_law_one_of" = true)
    (k_one : PySem.W.keepIn K (.ref f_one) = true)
    {f_mx : Addr} {oc_mx kV_mx dc_mx pm_mx cd_mx ct_mx : Value} {od_mx an_mx : Option Addr} {sl_mx : Array (Option Value)}
    (n_mx : PySem.W.nsIn K mainGlobals "_law_mixed" = some (some (.ref f_mx)))
    (l_mx : K.lookup f_mx = some ⟨oc_mx, od_mx, .func (PySem.W.fnOf "_law_mixed" "_law_mixed" (defArgs sMx) (defBody sMx) (defScope sMx) .none kV_mx dc_mx pm_mx an_mx cd_mx ct_mx), sl_mx⟩)
    (d_mx : PySem.W.codeIn K cd_mx "_law_mixed" = true)
    (k_mx : PySem.W.keepIn K (.ref f_mx) = true)
    {f_we : Addr} {oc_we kV_we dc_we pm_we cd_we ct_we : Value} {od_we an_we : Option Addr} {sl_we : Array (Option Value)}
    (n_we : PySem.W.nsIn K mainGlobals "_law_weight" = some (some (.ref f_we)))
    (l_we : K.lookup f_we = some ⟨oc_we, od_we, .func (PySem.W.fnOf "_law_weight" "_law_weight" (defArgs sWe) (defBody sWe) (defScope sWe) .none kV_we dc_we pm_we an_we cd_we ct_we), sl_we⟩)
    (d_we : PySem.W.codeIn K cd_we "_law_weight" = true)
    (k_we : PySem.W.keepIn K (.ref f_we) = true)
    {f_ls : Addr} {oc_ls kV_ls dc_ls pm_ls cd_ls ct_ls : Value} {od_ls an_ls : Option Addr} {sl_ls : Array (Option Value)}
    (n_ls : PySem.W.nsIn K mainGlobals "_law_statement" = some (some (.ref f_ls)))
    (l_ls : K.lookup f_ls = some ⟨oc_ls, od_ls, .func (PySem.W.fnOf "_law_statement" "_law_statement" (defArgs sLs) (defBody sLs) (defScope sLs) .none kV_ls dc_ls pm_ls an_ls cd_ls ct_ls), sl_ls⟩)
    (d_ls : PySem.W.codeIn K cd_ls "_law_statement" = true)
    (k_ls : PySem.W.keepIn K (.ref f_ls) = true)
    {f_ly : Addr} {oc_ly kV_ly dc_ly pm_ly cd_ly ct_ly : Value} {od_ly an_ly : Option Addr} {sl_ly : Array (Option Value)}
    (n_ly : PySem.W.nsIn K mainGlobals "_law_body" = some (some (.ref f_ly)))
    (l_ly : K.lookup f_ly = some ⟨oc_ly, od_ly, .func (PySem.W.fnOf "_law_body" "_law_body" (defArgs sLy) (defBody sLy) (defScope sLy) .none kV_ly dc_ly pm_ly an_ly cd_ly ct_ly), sl_ly⟩)
    (d_ly : PySem.W.codeIn K cd_ly "_law_body" = true)
    (k_ly : PySem.W.keepIn K (.ref f_ly) = true)
    {f_lo : Addr} {oc_lo kV_lo dc_lo pm_lo cd_lo ct_lo : Value} {od_lo an_lo : Option Addr} {sl_lo : Array (Option Value)}
    (n_lo : PySem.W.nsIn K mainGlobals "_law_bodies" = some (some (.ref f_lo)))
    (l_lo : K.lookup f_lo = some ⟨oc_lo, od_lo, .func (PySem.W.fnOf "_law_bodies" "_law_bodies" (defArgs sLo) (defBody sLo) (defScope sLo) .none kV_lo dc_lo pm_lo an_lo cd_lo ct_lo), sl_lo⟩)
    (d_lo : PySem.W.codeIn K cd_lo "_law_bodies" = true)
    (k_lo : PySem.W.keepIn K (.ref f_lo) = true)
    {f_gcd : Addr} {oc_gcd kV_gcd dc_gcd pm_gcd cd_gcd ct_gcd : Value} {od_gcd an_gcd : Option Addr} {sl_gcd : Array (Option Value)}
    (n_gcd : PySem.W.nsIn K mainGlobals "_law_gcd" = some (some (.ref f_gcd)))
    (l_gcd : K.lookup f_gcd = some ⟨oc_gcd, od_gcd, .func (PySem.W.fnOf "_law_gcd" "_law_gcd" (defArgs sGcd) (defBody sGcd) (defScope sGcd) .none kV_gcd dc_gcd pm_gcd an_gcd cd_gcd ct_gcd), sl_gcd⟩)
    (d_gcd : PySem.W.codeIn K cd_gcd "_law_gcd" = true)
    (k_gcd : PySem.W.keepIn K (.ref f_gcd) = true)
    {f_rat : Addr} {oc_rat kV_rat dc_rat pm_rat cd_rat ct_rat : Value} {od_rat an_rat : Option Addr} {sl_rat : Array (Option Value)}
    (n_rat : PySem.W.nsIn K mainGlobals "_law_ratio" = some (some (.ref f_rat)))
    (l_rat : K.lookup f_rat = some ⟨oc_rat, od_rat, .func (PySem.W.fnOf "_law_ratio" "_law_ratio" (defArgs sRat) (defBody sRat) (defScope sRat) .none kV_rat dc_rat pm_rat an_rat cd_rat ct_rat), sl_rat⟩)
    (d_rat : PySem.W.codeIn K cd_rat "_law_ratio" = true)
    (k_rat : PySem.W.keepIn K (.ref f_rat) = true)
    {f_plus : Addr} {oc_plus kV_plus dc_plus pm_plus cd_plus ct_plus : Value} {od_plus an_plus : Option Addr} {sl_plus : Array (Option Value)}
    (n_plus : PySem.W.nsIn K mainGlobals "_law_plus" = some (some (.ref f_plus)))
    (l_plus : K.lookup f_plus = some ⟨oc_plus, od_plus, .func (PySem.W.fnOf "_law_plus" "_law_plus" (defArgs sPlus) (defBody sPlus) (defScope sPlus) .none kV_plus dc_plus pm_plus an_plus cd_plus ct_plus), sl_plus⟩)
    (d_plus : PySem.W.codeIn K cd_plus "_law_plus" = true)
    (k_plus : PySem.W.keepIn K (.ref f_plus) = true)
    {f_lby : Addr} {oc_lby kV_lby dc_lby pm_lby cd_lby ct_lby : Value} {od_lby an_lby : Option Addr} {sl_lby : Array (Option Value)}
    (n_lby : PySem.W.nsIn K mainGlobals "_law_by" = some (some (.ref f_lby)))
    (l_lby : K.lookup f_lby = some ⟨oc_lby, od_lby, .func (PySem.W.fnOf "_law_by" "_law_by" (defArgs sLby) (defBody sLby) (defScope sLby) .none kV_lby dc_lby pm_lby an_lby cd_lby ct_lby), sl_lby⟩)
    (d_lby : PySem.W.codeIn K cd_lby "_law_by" = true)
    (k_lby : PySem.W.keepIn K (.ref f_lby) = true)
    {f_nx : Addr} {oc_nx kV_nx dc_nx pm_nx cd_nx ct_nx : Value} {od_nx an_nx : Option Addr} {sl_nx : Array (Option Value)}
    (n_nx : PySem.W.nsIn K mainGlobals "_law_next" = some (some (.ref f_nx)))
    (l_nx : K.lookup f_nx = some ⟨oc_nx, od_nx, .func (PySem.W.fnOf "_law_next" "_law_next" (defArgs sNx) (defBody sNx) (defScope sNx) .none kV_nx dc_nx pm_nx an_nx cd_nx ct_nx), sl_nx⟩)
    (d_nx : PySem.W.codeIn K cd_nx "_law_next" = true)
    (k_nx : PySem.W.keepIn K (.ref f_nx) = true)
    {f_li : Addr} {oc_li kV_li dc_li pm_li cd_li ct_li : Value} {od_li an_li : Option Addr} {sl_li : Array (Option Value)}
    (n_li : PySem.W.nsIn K mainGlobals "_law_inner" = some (some (.ref f_li)))
    (l_li : K.lookup f_li = some ⟨oc_li, od_li, .func (PySem.W.fnOf "_law_inner" "_law_inner" (defArgs sLi) (defBody sLi) (defScope sLi) .none kV_li dc_li pm_li an_li cd_li ct_li), sl_li⟩)
    (d_li : PySem.W.codeIn K cd_li "_law_inner" = true)
    (k_li : PySem.W.keepIn K (.ref f_li) = true)
    {f_wk : Addr} {oc_wk kV_wk dc_wk pm_wk cd_wk ct_wk : Value} {od_wk an_wk : Option Addr} {sl_wk : Array (Option Value)}
    (n_wk : PySem.W.nsIn K mainGlobals "_law_walk" = some (some (.ref f_wk)))
    (l_wk : K.lookup f_wk = some ⟨oc_wk, od_wk, .func (PySem.W.fnOf "_law_walk" "_law_walk" (defArgs sWk) (defBody sWk) (defScope sWk) .none kV_wk dc_wk pm_wk an_wk cd_wk ct_wk), sl_wk⟩)
    (d_wk : PySem.W.codeIn K cd_wk "_law_walk" = true)
    (k_wk : PySem.W.keepIn K (.ref f_wk) = true)
    {f_sp : Addr} {oc_sp kV_sp dc_sp pm_sp cd_sp ct_sp : Value} {od_sp an_sp : Option Addr} {sl_sp : Array (Option Value)}
    (n_sp : PySem.W.nsIn K mainGlobals "_law_spots" = some (some (.ref f_sp)))
    (l_sp : K.lookup f_sp = some ⟨oc_sp, od_sp, .func (PySem.W.fnOf "_law_spots" "_law_spots" (defArgs sSp) (defBody sSp) (defScope sSp) .none kV_sp dc_sp pm_sp an_sp cd_sp ct_sp), sl_sp⟩)
    (d_sp : PySem.W.codeIn K cd_sp "_law_spots" = true)
    (k_sp : PySem.W.keepIn K (.ref f_sp) = true)
    {f_rb : Addr} {oc_rb kV_rb dc_rb pm_rb cd_rb ct_rb : Value} {od_rb an_rb : Option Addr} {sl_rb : Array (Option Value)}
    (n_rb : PySem.W.nsIn K mainGlobals "_law_rebuilt" = some (some (.ref f_rb)))
    (l_rb : K.lookup f_rb = some ⟨oc_rb, od_rb, .func (PySem.W.fnOf "_law_rebuilt" "_law_rebuilt" (defArgs sRb) (defBody sRb) (defScope sRb) .none kV_rb dc_rb pm_rb an_rb cd_rb ct_rb), sl_rb⟩)
    (d_rb : PySem.W.codeIn K cd_rb "_law_rebuilt" = true)
    (k_rb : PySem.W.keepIn K (.ref f_rb) = true)
    {f_scd : Addr} {oc_scd kV_scd dc_scd pm_scd cd_scd ct_scd : Value} {od_scd an_scd : Option Addr} {sl_scd : Array (Option Value)}
    (n_scd : PySem.W.nsIn K mainGlobals "_law_spliced" = some (some (.ref f_scd)))
    (l_scd : K.lookup f_scd = some ⟨oc_scd, od_scd, .func (PySem.W.fnOf "_law_spliced" "_law_spliced" (defArgs sSc) (defBody sSc) (defScope sSc) .none kV_scd dc_scd pm_scd an_scd cd_scd ct_scd), sl_scd⟩)
    (d_scd : PySem.W.codeIn K cd_scd "_law_spliced" = true)
    (k_scd : PySem.W.keepIn K (.ref f_scd) = true)
    {f_cg : Addr} {oc_cg kV_cg dc_cg pm_cg cd_cg ct_cg : Value} {od_cg an_cg : Option Addr} {sl_cg : Array (Option Value)}
    (n_cg : PySem.W.nsIn K mainGlobals "_law_changed" = some (some (.ref f_cg)))
    (l_cg : K.lookup f_cg = some ⟨oc_cg, od_cg, .func (PySem.W.fnOf "_law_changed" "_law_changed" (defArgs sCg) (defBody sCg) (defScope sCg) .none kV_cg dc_cg pm_cg an_cg cd_cg ct_cg), sl_cg⟩)
    (d_cg : PySem.W.codeIn K cd_cg "_law_changed" = true)
    (k_cg : PySem.W.keepIn K (.ref f_cg) = true)
    {f_vl : Addr} {oc_vl kV_vl dc_vl pm_vl cd_vl ct_vl : Value} {od_vl an_vl : Option Addr} {sl_vl : Array (Option Value)}
    (n_vl : PySem.W.nsIn K mainGlobals "_law_values" = some (some (.ref f_vl)))
    (l_vl : K.lookup f_vl = some ⟨oc_vl, od_vl, .func (PySem.W.fnOf "_law_values" "_law_values" (defArgs sVl) (defBody sVl) (defScope sVl) .none kV_vl dc_vl pm_vl an_vl cd_vl ct_vl), sl_vl⟩)
    (d_vl : PySem.W.codeIn K cd_vl "_law_values" = true)
    (k_vl : PySem.W.keepIn K (.ref f_vl) = true)
    {f_lsd : Addr} {oc_lsd kV_lsd dc_lsd pm_lsd cd_lsd ct_lsd : Value} {od_lsd an_lsd : Option Addr} {sl_lsd : Array (Option Value)}
    (n_lsd : PySem.W.nsIn K mainGlobals "_law_scaled" = some (some (.ref f_lsd)))
    (l_lsd : K.lookup f_lsd = some ⟨oc_lsd, od_lsd, .func (PySem.W.fnOf "_law_scaled" "_law_scaled" (defArgs sLsd) (defBody sLsd) (defScope sLsd) .none kV_lsd dc_lsd pm_lsd an_lsd cd_lsd ct_lsd), sl_lsd⟩)
    (d_lsd : PySem.W.codeIn K cd_lsd "_law_scaled" = true)
    (k_lsd : PySem.W.keepIn K (.ref f_lsd) = true)
    {f_lws : Addr} {oc_lws kV_lws dc_lws pm_lws cd_lws ct_lws : Value} {od_lws an_lws : Option Addr} {sl_lws : Array (Option Value)}
    (n_lws : PySem.W.nsIn K mainGlobals "_law_weights" = some (some (.ref f_lws)))
    (l_lws : K.lookup f_lws = some ⟨oc_lws, od_lws, .func (PySem.W.fnOf "_law_weights" "_law_weights" (defArgs sLws) (defBody sLws) (defScope sLws) .none kV_lws dc_lws pm_lws an_lws cd_lws ct_lws), sl_lws⟩)
    (d_lws : PySem.W.codeIn K cd_lws "_law_weights" = true)
    (k_lws : PySem.W.keepIn K (.ref f_lws) = true)
    {f_lmd : Addr} {oc_lmd kV_lmd dc_lmd pm_lmd cd_lmd ct_lmd : Value} {od_lmd an_lmd : Option Addr} {sl_lmd : Array (Option Value)}
    (n_lmd : PySem.W.nsIn K mainGlobals "_law_made" = some (some (.ref f_lmd)))
    (l_lmd : K.lookup f_lmd = some ⟨oc_lmd, od_lmd, .func (PySem.W.fnOf "_law_made" "_law_made" (defArgs sLmd) (defBody sLmd) (defScope sLmd) .none kV_lmd dc_lmd pm_lmd an_lmd cd_lmd ct_lmd), sl_lmd⟩)
    (d_lmd : PySem.W.codeIn K cd_lmd "_law_made" = true)
    (k_lmd : PySem.W.keepIn K (.ref f_lmd) = true)
    {f_sr : Addr} {oc_sr kV_sr dc_sr pm_sr cd_sr ct_sr : Value} {od_sr an_sr : Option Addr} {sl_sr : Array (Option Value)}
    (n_sr : PySem.W.nsIn K mainGlobals "_law_statement_right" = some (some (.ref f_sr)))
    (l_sr : K.lookup f_sr = some ⟨oc_sr, od_sr, .func (PySem.W.fnOf "_law_statement_right" "_law_statement_right" (defArgs sSr) (defBody sSr) (defScope sSr) .none kV_sr dc_sr pm_sr an_sr cd_sr ct_sr), sl_sr⟩)
    (d_sr : PySem.W.codeIn K cd_sr "_law_statement_right" = true)
    (k_sr : PySem.W.keepIn K (.ref f_sr) = true)
    {f_lw : Addr} {oc_lw kV_lw dc_lw pm_lw cd_lw ct_lw : Value} {od_lw an_lw : Option Addr} {sl_lw : Array (Option Value)}
    (n_lw : PySem.W.nsIn K mainGlobals "_law_right" = some (some (.ref f_lw)))
    (l_lw : K.lookup f_lw = some ⟨oc_lw, od_lw, .func (PySem.W.fnOf "_law_right" "_law_right" (defArgs sLw) (defBody sLw) (defScope sLw) .none kV_lw dc_lw pm_lw an_lw cd_lw ct_lw), sl_lw⟩)
    (d_lw : PySem.W.codeIn K cd_lw "_law_right" = true)
    (k_lw : PySem.W.keepIn K (.ref f_lw) = true)
    {f_law : Addr} {oc_law kV_law dc_law pm_law cd_law ct_law : Value} {od_law an_law : Option Addr} {sl_law : Array (Option Value)}
    (n_law : PySem.W.nsIn K mainGlobals "law" = some (some (.ref f_law)))
    (l_law : K.lookup f_law = some ⟨oc_law, od_law, .func (PySem.W.fnOf "law" "law" (defArgs sLaw) (defBody sLaw) (defScope sLaw) .none kV_law dc_law pm_law an_law cd_law ct_law), sl_law⟩)
    (d_law : PySem.W.codeIn K cd_law "law" = true)
    (k_law : PySem.W.keepIn K (.ref f_law) = true)
    {f_gi : Addr} {oc_gi kV_gi dc_gi pm_gi cd_gi ct_gi : Value} {od_gi an_gi : Option Addr} {sl_gi : Array (Option Value)}
    (n_gi : PySem.W.findIn K (.ref CG) "__init__" = some (some (.ref f_gi)))
    (l_gi : K.lookup f_gi = some ⟨oc_gi, od_gi, .func (PySem.W.fnOf "__init__" "Given.__init__" (defArgs sGi) (defBody sGi) (defScope sGi) .none kV_gi dc_gi pm_gi an_gi cd_gi ct_gi), sl_gi⟩)
    (d_gi : PySem.W.codeIn K cd_gi "Given.__init__" = true)
    (k_gi : PySem.W.keepIn K (.ref f_gi) = true)
    (i_gi : PySem.W.isFn K (.ref f_gi) = true)
    {f_gt : Addr} {oc_gt kV_gt dc_gt pm_gt cd_gt ct_gt : Value} {od_gt an_gt : Option Addr} {sl_gt : Array (Option Value)}
    (n_gt : PySem.W.findIn K (.ref C) "__getitem__" = some (some (.ref f_gt)))
    (l_gt : K.lookup f_gt = some ⟨oc_gt, od_gt, .func (PySem.W.fnOf "__getitem__" "Program.__getitem__" (defArgs sGt) (defBody sGt) (defScope sGt) .none kV_gt dc_gt pm_gt an_gt cd_gt ct_gt), sl_gt⟩)
    (d_gt : PySem.W.codeIn K cd_gt "Program.__getitem__" = true)
    (k_gt : PySem.W.keepIn K (.ref f_gt) = true)
    (i_gt : PySem.W.isFn K (.ref f_gt) = true)
    {f_ct : Addr} {oc_ct kV_ct dc_ct pm_ct cd_ct ct_ct : Value} {od_ct an_ct : Option Addr} {sl_ct : Array (Option Value)}
    (n_ct : PySem.W.findIn K (.ref C) "__contains__" = some (some (.ref f_ct)))
    (l_ct : K.lookup f_ct = some ⟨oc_ct, od_ct, .func (PySem.W.fnOf "__contains__" "Program.__contains__" (defArgs sCt) (defBody sCt) (defScope sCt) .none kV_ct dc_ct pm_ct an_ct cd_ct ct_ct), sl_ct⟩)
    (d_ct : PySem.W.codeIn K cd_ct "Program.__contains__" = true)
    (k_ct : PySem.W.keepIn K (.ref f_ct) = true)
    (i_ct : PySem.W.isFn K (.ref f_ct) = true)
    {f_eq : Addr} {oc_eq kV_eq dc_eq pm_eq cd_eq ct_eq : Value} {od_eq an_eq : Option Addr} {sl_eq : Array (Option Value)}
    (n_eq : PySem.W.findIn K (.ref C) "__eq__" = some (some (.ref f_eq)))
    (l_eq : K.lookup f_eq = some ⟨oc_eq, od_eq, .func (PySem.W.fnOf "__eq__" "Program.__eq__" (defArgs sEq) (defBody sEq) (defScope sEq) .none kV_eq dc_eq pm_eq an_eq cd_eq ct_eq), sl_eq⟩)
    (d_eq : PySem.W.codeIn K cd_eq "Program.__eq__" = true)
    (k_eq : PySem.W.keepIn K (.ref f_eq) = true)
    (i_eq : PySem.W.isFn K (.ref f_eq) = true)
    {f_pi : Addr} {oc_pi kV_pi dc_pi pm_pi cd_pi ct_pi : Value} {od_pi an_pi : Option Addr} {sl_pi : Array (Option Value)}
    (n_pi : PySem.W.findIn K (.ref C) "__init__" = some (some (.ref f_pi)))
    (l_pi : K.lookup f_pi = some ⟨oc_pi, od_pi, .func (PySem.W.fnOf "__init__" "Program.__init__" (defArgs sPi) (defBody sPi) (defScope sPi) .none kV_pi dc_pi pm_pi an_pi cd_pi ct_pi), sl_pi⟩)
    (d_pi : PySem.W.codeIn K cd_pi "Program.__init__" = true)
    (k_pi : PySem.W.keepIn K (.ref f_pi) = true)
    (i_pi : PySem.W.isFn K (.ref f_pi) = true)
    (fi_gt : PySem.W.fnIn K f_gt = true)
    {f_bo : Addr} {oc_bo kV_bo dc_bo pm_bo cd_bo ct_bo : Value} {od_bo an_bo : Option Addr} {sl_bo : Array (Option Value)}
    {p_bo : Addr} {r_bo : List Value}
    (n_bo : PySem.W.findIn K (.ref C) "bodies" = some (some (.ref p_bo)))
    (g_bo : PySem.W.specialIn K (.ref p_bo) "__get__" = some (some (.builtin "property.__get__")))
    (t_bo : PySem.W.takesIn K (.ref p_bo) = some true)
    (r_box : PySem.W.recIn K p_bo "property" = some (.ref f_bo :: r_bo))
    (l_bo : K.lookup f_bo = some ⟨oc_bo, od_bo, .func (PySem.W.fnOf "bodies" "Program.bodies" (defArgs sBo) (defBody sBo) (defScope sBo) .none kV_bo dc_bo pm_bo an_bo cd_bo ct_bo), sl_bo⟩)
    (d_bo : PySem.W.codeIn K cd_bo "Program.bodies" = true)
    (k_bo : PySem.W.keepIn K (.ref f_bo) = true)
    {f_ic : Addr} {oc_ic kV_ic dc_ic pm_ic cd_ic ct_ic : Value} {od_ic an_ic : Option Addr} {sl_ic : Array (Option Value)}
    {p_ic : Addr} {r_ic : List Value}
    (n_ic : PySem.W.findIn K (.ref C) "is_closed" = some (some (.ref p_ic)))
    (g_ic : PySem.W.specialIn K (.ref p_ic) "__get__" = some (some (.builtin "property.__get__")))
    (t_ic : PySem.W.takesIn K (.ref p_ic) = some true)
    (r_icx : PySem.W.recIn K p_ic "property" = some (.ref f_ic :: r_ic))
    (l_ic : K.lookup f_ic = some ⟨oc_ic, od_ic, .func (PySem.W.fnOf "is_closed" "Program.is_closed" (defArgs sIc) (defBody sIc) (defScope sIc) .none kV_ic dc_ic pm_ic an_ic cd_ic ct_ic), sl_ic⟩)
    (d_ic : PySem.W.codeIn K cd_ic "Program.is_closed" = true)
    (k_ic : PySem.W.keepIn K (.ref f_ic) = true)
    {f_of : Addr} {oc_of kV_of dc_of pm_of cd_of ct_of : Value} {od_of an_of : Option Addr} {sl_of : Array (Option Value)}
    {p_of : Addr} {r_of : List Value} {mc : Value}
    (y_of : PySem.W.typeIn K (.ref C) = some mc)
    (n_of : PySem.W.findCls K (.ref C) mc "of" = some (.get (.builtin "staticmethod.__get__") (.ref p_of) .none (.ref C)))
    (r_ofx : PySem.W.recIn K p_of "staticmethod" = some (.ref f_of :: r_of))
    (l_of : K.lookup f_of = some ⟨oc_of, od_of, .func (PySem.W.fnOf "of" "Program.of" (defArgs sPo) (defBody sPo) (defScope sPo) .none kV_of dc_of pm_of an_of cd_of ct_of), sl_of⟩)
    (d_of : PySem.W.codeIn K cd_of "Program.of" = true)
    (k_of : PySem.W.keepIn K (.ref f_of) = true)
    (s_of : smB K C mc p_of f_of = true)
    {f_pls : Addr} {oc_pls kV_pls dc_pls pm_pls cd_pls ct_pls : Value} {od_pls an_pls : Option Addr} {sl_pls : Array (Option Value)}
    {T_pls dT : Addr} {tc_pls : Value} {td_pls : Option Addr} {ti_pls : Array Value} {tn_pls : Nat} {ts_pls : Array (Option Value)} {te_pls : Option Addr} {tf_pls : Array Value} {tm_pls : Nat} {tq_pls : Array (Option Value)}
    (n_pls : PySem.W.nsIn K mainGlobals "placed_statements" = some (some (.ref f_pls)))
    (l_pls : K.lookup f_pls = some ⟨oc_pls, od_pls, .func (PySem.W.fnOf "placed_statements" "placed_statements" (defArgs sPls) (defBody sPls) (defScope sPls) (.ref T_pls) kV_pls dc_pls pm_pls an_pls cd_pls ct_pls), sl_pls⟩)
    (d_pls : PySem.W.codeIn K cd_pls "placed_statements" = true)
    (k_pls : PySem.W.keepIn K (.ref f_pls) = true)
    (T_plsx : K.lookup T_pls = some ⟨tc_pls, td_pls, .seq ti_pls tn_pls, ts_pls⟩)
    (v_pls : ti_pls = [Value.ref dT].toArray)
    (T_plsy : K.lookup dT = some ⟨.type "tuple", te_pls, .seq tf_pls tm_pls, tq_pls⟩)
    (w_pls : tf_pls = [].toArray)
    (z_int : PySem.W.nsIn K mainGlobals "int" = some none)
    (z_len : PySem.W.nsIn K mainGlobals "len" = some none)
    (z_abs : PySem.W.nsIn K mainGlobals "abs" = some none)
    (z_max : PySem.W.nsIn K mainGlobals "max" = some none)
    (z_min : PySem.W.nsIn K mainGlobals "min" = some none)
    (z_isinstance : PySem.W.nsIn K mainGlobals "isinstance" = some none)
    (z_range : PySem.W.nsIn K mainGlobals "range" = some none)
    (z_bool : PySem.W.nsIn K mainGlobals "bool" = some none)
    (z_tuple : PySem.W.nsIn K mainGlobals "tuple" = some none)
    (z_all : PySem.W.nsIn K mainGlobals "all" = some none)
    (z_any : PySem.W.nsIn K mainGlobals "any" = some none)
    (z_sum : PySem.W.nsIn K mainGlobals "sum" = some none)
    (z_enumerate : PySem.W.nsIn K mainGlobals "enumerate" = some none)
    (z_list : PySem.W.nsIn K mainGlobals "list" = some none)
    (z_str : PySem.W.nsIn K mainGlobals "str" = some none)
    (z_repr : PySem.W.nsIn K mainGlobals "repr" = some none)
    (z_sorted : PySem.W.nsIn K mainGlobals "sorted" = some none)
    (z_set : PySem.W.nsIn K mainGlobals "set" = some none)
    (z_dict : PySem.W.nsIn K mainGlobals "dict" = some none)
    (z_zip : PySem.W.nsIn K mainGlobals "zip" = some none)
    (rC : pgCB K C = true)
    (rI : excB K CI = true)
    (rO : excB K CO = true)
    (rG : ownB K CG = true)
    (mkC : mkB K C = true)
    (mkG : mkB K CG = true)
    (oC : oddB K C = true)
    (kC : kitB K C CG = true) :
    ∃ fd : FuncData, (∀ (s : Shared) (v : Value), BindsTo s fd ⟨[v], []⟩ [("_law_script", v)]) ∧ ∀ base : Heap, K.In base → base.Ns mainGlobals mg → FnOk l.prog w K mg base CX0 22 fa fd ["_law_script"] (spLaw K) := by
  have e := hfa.symm.trans (PySem.W.mg_of X G n_law)
  cases e
  have no : ∀ {x : Str}, PySem.W.nsIn K mainGlobals x = some none → mg x = none := fun z => PySem.W.mg_none_of X G z
  have at_ : ∀ {x : Str} {v : Value}, PySem.W.nsIn K mainGlobals x = some (some v) → mg x = some v := fun z => PySem.W.mg_of X G z
  have F_bin := fun_mk (st := sBin) l_bin d_bin k_bin
  have b_bin := F_bin.binds (ps := ["statement"]) fun _ _ _ _ _ _ us hl => match us, hl with | [_], _ => rfl
  have F_wb := fun_mk (st := sWb) l_wb d_wb k_wb
  have b_wb := F_wb.binds (ps := ["statement", "bodies"]) fun _ _ _ _ _ _ us hl => match us, hl with | [_, _], _ => rfl
  have F_wo := fun_mk (st := sWo) l_wo d_wo k_wo
  have b_wo := F_wo.binds (ps := ["statement"]) fun _ _ _ _ _ _ us hl => match us, hl with | [_], _ => rfl
  have F_sof := fun_mk (st := sSof) l_sof d_sof k_sof
  have b_sof := F_sof.binds (ps := ["body", "word"]) fun _ _ _ _ _ _ us hl => match us, hl with | [_, _], _ => rfl
  have F_pw := fun_mk (st := sPw) l_pw d_pw k_pw
  have b_pw := F_pw.binds (ps := ["body", "path"]) fun _ _ _ _ _ _ us hl => match us, hl with | [_, _], _ => rfl
  have F_wp := fun_mk (st := sWp) l_wp d_wp k_wp
  have b_wp := F_wp.binds (ps := ["body", "path", "part"]) fun _ _ _ _ _ _ us hl => match us, hl with | [_, _, _], _ => rfl
  have F_plain := fun_mk (st := sPlain) l_plain d_plain k_plain
  have b_plain := F_plain.binds (ps := ["value"]) fun _ _ _ _ _ _ us hl => match us, hl with | [_], _ => rfl
  have F_bet := fun_mk (st := sBet) l_bet d_bet k_bet
  have b_bet := F_bet.binds (ps := ["value", "least", "greatest"]) fun _ _ _ _ _ _ us hl => match us, hl with | [_, _, _], _ => rfl
  have F_nm := fun_mk (st := sNm) l_nm d_nm k_nm
  have b_nm := F_nm.binds (ps := ["value"]) fun _ _ _ _ _ _ us hl => match us, hl with | [_], _ => rfl
  have F_wt := fun_mk (st := sWt) l_wt d_wt k_wt
  have b_wt := F_wt.binds (ps := ["value"]) fun _ _ _ _ _ _ us hl => match us, hl with | [_], _ => rfl
  have F_br := fun_mk (st := sBr) l_br d_br k_br
  have b_br := F_br.binds (ps := ["value"]) fun _ _ _ _ _ _ us hl => match us, hl with | [_], _ => rfl
  have F_inn := fun_mk (st := sInn) l_inn d_inn k_inn
  have b_inn := F_inn.binds (ps := ["value"]) fun _ _ _ _ _ _ us hl => match us, hl with | [_], _ => rfl
  have F_lb := fun_mk (st := sLb) l_lb d_lb k_lb
  have b_lb := F_lb.binds (ps := ["value", "depth", "left"]) fun _ _ _ _ _ _ us hl => match us, hl with | [_, _, _], _ => rfl
  have F_ib := fun_mk (st := sIb) l_ib d_ib k_ib
  have b_ib := F_ib.binds (ps := ["value"]) fun _ _ _ _ _ _ us hl => match us, hl with | [_], _ => rfl
  have F_nc := fun_mk (st := sNc) l_nc d_nc k_nc
  have b_nc := F_nc.binds (ps := ["body"]) fun _ _ _ _ _ _ us hl => match us, hl with | [_], _ => rfl
  have F_ap := fun_mk (st := sAp) l_ap d_ap k_ap
  have b_ap := F_ap.binds (ps := ["bodies"]) fun _ _ _ _ _ _ us hl => match us, hl with | [_], _ => rfl
  have F_cn := fun_mk (st := sCn) l_cn d_cn k_cn
  have b_cn := F_cn.binds (ps := ["free", "name"]) fun _ _ _ _ _ _ us hl => match us, hl with | [_, _], _ => rfl
  have F_cf := fun_mk (st := sCf) l_cf d_cf k_cf
  have b_cf := F_cf.binds (ps := ["free"]) fun _ _ _ _ _ _ us hl => match us, hl with | [_], _ => rfl
  have F_pat := fun_mk (st := sPat) l_pat d_pat k_pat
  have b_pat := F_pat.binds (ps := ["free", "place"]) fun _ _ _ _ _ _ us hl => match us, hl with | [_, _], _ => rfl
  have F_po := fun_mk (st := sPo2) l_po d_po k_po
  have b_po := F_po.binds (ps := ["free", "place"]) fun _ _ _ _ _ _ us hl => match us, hl with | [_, _], _ => rfl
  have F_sa := fun_mk (st := sSa) l_sa d_sa k_sa
  have b_sa := F_sa.binds (ps := ["free", "place", "words"]) fun _ _ _ _ _ _ us hl => match us, hl with | [_, _, _], _ => rfl
  have F_ww := fun_mk (st := sWw) l_ww d_ww k_ww
  have b_ww := F_ww.binds (ps := ["statement", "weights"]) fun _ _ _ _ _ _ us hl => match us, hl with | [_, _], _ => rfl
  have F_sca := fun_mk (st := sSca) l_sca d_sca k_sca
  have b_sca := F_sca.binds (ps := ["free", "place", "many"]) fun _ _ _ _ _ _ us hl => match us, hl with | [_, _, _], _ => rfl
  have F_low := fun_mk (st := sLow) l_low d_low k_low
  have b_low := F_low.binds (ps := ["free", "place"]) fun _ _ _ _ _ _ us hl => match us, hl with | [_, _], _ => rfl
  have F_ba := fun_mk (st := sBa) l_ba d_ba k_ba
  have b_ba := F_ba.binds (ps := ["free", "place"]) fun _ _ _ _ _ _ us hl => match us, hl with | [_, _], _ => rfl
  have F_ot := fun_mk (st := sOt) l_ot d_ot k_ot
  have b_ot := F_ot.binds (ps := ["body", "at", "many", "statements"]) fun _ _ _ _ _ _ us hl => match us, hl with | [_, _, _, _], _ => rfl
  have F_prw := fun_mk (st := sPrw) l_prw d_prw k_prw
  have b_prw := F_prw.binds (ps := ["free", "place", "many", "statements"]) fun _ _ _ _ _ _ us hl => match us, hl with | [_, _, _, _], _ => rfl
  have F_pof := fun_mk (st := sPof) l_pof d_pof k_pof
  have b_pof := F_pof.binds (ps := ["bodies"]) fun _ _ _ _ _ _ us hl => match us, hl with | [_], _ => rfl
  have F_dice := fun_mk (st := LD.sDice) l_dice d_dice k_dice
  have b_dice := F_dice.binds (ps := ["_law_script", "_law_at"]) fun _ _ _ _ _ _ us hl => match us, hl with | [_, _], _ => rfl
  have F_roll := fun_mk (st := LD.sRoll) l_roll d_roll k_roll
  have b_roll := F_roll.binds (ps := ["_law_dice_here", "_law_total"]) fun _ _ _ _ _ _ us hl => match us, hl with | [_, _], _ => rfl
  have F_one := fun_mk (st := LD.sOneOf) l_one d_one k_one
  have b_one := F_one.binds (ps := ["_law_dice_here", "_law_items"]) fun _ _ _ _ _ _ us hl => match us, hl with | [_, _], _ => rfl
  have F_mx := fun_mk (st := sMx) l_mx d_mx k_mx
  have b_mx := F_mx.binds (ps := ["_law_dice_here", "_law_items"]) fun _ _ _ _ _ _ us hl => match us, hl with | [_, _], _ => rfl
  have F_we := fun_mk (st := sWe) l_we d_we k_we
  have b_we := F_we.binds (ps := ["_law_dice_here"]) fun _ _ _ _ _ _ us hl => match us, hl with | [_], _ => rfl
  have F_ls := fun_mk (st := sLs) l_ls d_ls k_ls
  have b_ls := F_ls.binds (ps := ["_law_dice_here", "_law_deep", "_law_names", "_law_room", "_law_extra"]) fun _ _ _ _ _ _ us hl => match us, hl with | [_, _, _, _, _], _ => rfl
  have F_ly := fun_mk (st := sLy) l_ly d_ly k_ly
  have b_ly := F_ly.binds (ps := ["_law_dice_here", "_law_deep", "_law_names", "_law_room", "_law_extra"]) fun _ _ _ _ _ _ us hl => match us, hl with | [_, _, _, _, _], _ => rfl
  have F_lo := fun_mk (st := sLo) l_lo d_lo k_lo
  have b_lo := F_lo.binds (ps := ["_law_dice_here", "_law_much", "_law_extra"]) fun _ _ _ _ _ _ us hl => match us, hl with | [_, _, _], _ => rfl
  have F_gcd := fun_mk (st := sGcd) l_gcd d_gcd k_gcd
  have b_gcd := F_gcd.binds (ps := ["_law_one", "_law_two"]) fun _ _ _ _ _ _ us hl => match us, hl with | [_, _], _ => rfl
  have F_rat := fun_mk (st := sRat) l_rat d_rat k_rat
  have b_rat := F_rat.binds (ps := ["_law_top", "_law_bottom"]) fun _ _ _ _ _ _ us hl => match us, hl with | [_, _], _ => rfl
  have F_plus := fun_mk (st := sPlus) l_plus d_plus k_plus
  have b_plus := F_plus.binds (ps := ["_law_one", "_law_two"]) fun _ _ _ _ _ _ us hl => match us, hl with | [_, _], _ => rfl
  have F_lby := fun_mk (st := sLby) l_lby d_lby k_lby
  have b_lby := F_lby.binds (ps := ["_law_one", "_law_two"]) fun _ _ _ _ _ _ us hl => match us, hl with | [_, _], _ => rfl
  have F_nx := fun_mk (st := sNx) l_nx d_nx k_nx
  have b_nx := F_nx.binds (ps := ["_law_body_here", "_law_values_here"]) fun _ _ _ _ _ _ us hl => match us, hl with | [_, _], _ => rfl
  have F_li := fun_mk (st := sLi) l_li d_li k_li
  have b_li := F_li.binds (ps := ["_law_statement_here"]) fun _ _ _ _ _ _ us hl => match us, hl with | [_], _ => rfl
  have F_wk := fun_mk (st := sWk) l_wk d_wk k_wk
  have b_wk := F_wk.binds (ps := ["_law_body_here", "_law_ahead"]) fun _ _ _ _ _ _ us hl => match us, hl with | [_, _], _ => rfl
  have F_sp := fun_mk (st := sSp) l_sp d_sp k_sp
  have b_sp := F_sp.binds (ps := ["_law_bodies_here", "_law_sorts"]) fun _ _ _ _ _ _ us hl => match us, hl with | [_, _], _ => rfl
  have F_rb := fun_mk (st := sRb) l_rb d_rb k_rb
  have b_rb := F_rb.binds (ps := ["_law_statement_here", "_law_number", "_law_body_here"]) fun _ _ _ _ _ _ us hl => match us, hl with | [_, _, _], _ => rfl
  have F_scd := fun_mk (st := sSc) l_scd d_scd k_scd
  have b_scd := F_scd.binds (ps := ["_law_body_here", "_law_path", "_law_much", "_law_statements"]) fun _ _ _ _ _ _ us hl => match us, hl with | [_, _, _, _], _ => rfl
  have F_cg := fun_mk (st := sCg) l_cg d_cg k_cg
  have b_cg := F_cg.binds (ps := ["_law_bodies_here", "_law_place", "_law_much", "_law_statements"]) fun _ _ _ _ _ _ us hl => match us, hl with | [_, _, _, _], _ => rfl
  have F_vl := fun_mk (st := sVl) l_vl d_vl k_vl
  have b_vl := F_vl.binds (ps := ["_law_dice_here", "_law_names"]) fun _ _ _ _ _ _ us hl => match us, hl with | [_, _], _ => rfl
  have F_lsd := fun_mk (st := sLsd) l_lsd d_lsd k_lsd
  have b_lsd := F_lsd.binds (ps := ["_law_statement_here", "_law_top", "_law_bottom"]) fun _ _ _ _ _ _ us hl => match us, hl with | [_, _, _], _ => rfl
  have F_lws := fun_mk (st := sLws) l_lws d_lws k_lws
  have b_lws := F_lws.binds (ps := ["_law_statement_here"]) fun _ _ _ _ _ _ us hl => match us, hl with | [_], _ => rfl
  have F_lmd := fun_mk (st := sLmd) l_lmd d_lmd k_lmd
  have b_lmd := F_lmd.binds (ps := ["_law_thing", "_law_place", "_law_much"]) fun _ _ _ _ _ _ us hl => match us, hl with | [_, _, _], _ => rfl
  have F_sr := fun_mk (st := sSr) l_sr d_sr k_sr
  have b_sr := F_sr.binds (ps := ["_law_dice_here", "_law_thing", "_law_bodies_here", "_law_place", "_law_statement_here"]) fun _ _ _ _ _ _ us hl => match us, hl with | [_, _, _, _, _], _ => rfl
  have F_lw := fun_mk (st := sLw) l_lw d_lw k_lw
  have b_lw := F_lw.binds (ps := ["_law_dice_here"]) fun _ _ _ _ _ _ us hl => match us, hl with | [_], _ => rfl
  have F_law := fun_mk (st := sLaw) l_law d_law k_law
  have b_law := F_law.binds (ps := ["_law_script"]) fun _ _ _ _ _ _ us hl => match us, hl with | [_], _ => rfl
  have F_gi := fun_mk (st := sGi) l_gi d_gi k_gi
  have b_gi := F_gi.binds (ps := ["self", "table"]) fun _ _ _ _ _ _ us hl => match us, hl with | [_, _], _ => rfl
  have F_gt := fun_mk (st := sGt) l_gt d_gt k_gt
  have b_gt := F_gt.binds (ps := ["self", "at"]) fun _ _ _ _ _ _ us hl => match us, hl with | [_, _], _ => rfl
  have F_ct := fun_mk (st := sCt) l_ct d_ct k_ct
  have b_ct := F_ct.binds (ps := ["self", "value"]) fun _ _ _ _ _ _ us hl => match us, hl with | [_, _], _ => rfl
  have F_eq := fun_mk (st := sEq) l_eq d_eq k_eq
  have b_eq := F_eq.binds (ps := ["self", "other"]) fun _ _ _ _ _ _ us hl => match us, hl with | [_, _], _ => rfl
  have F_bo := fun_mk (st := sBo) l_bo d_bo k_bo
  have b_bo := F_bo.binds (ps := ["self"]) fun _ _ _ _ _ _ us hl => match us, hl with | [_], _ => rfl
  have F_ic := fun_mk (st := sIc) l_ic d_ic k_ic
  have b_ic := F_ic.binds (ps := ["self"]) fun _ _ _ _ _ _ us hl => match us, hl with | [_], _ => rfl
  have F_of := fun_mk (st := sPo) l_of d_of k_of
  have b_of := F_of.binds (ps := ["bodies"]) fun _ _ _ _ _ _ us hl => match us, hl with | [_], _ => rfl
  have F_pi := fun_mk (st := sPi) l_pi d_pi k_pi
  have R := pg_of rC
  have oG := own_of rG
  obtain ⟨neC, nfC⟩ := oddk_of oC
  simp only [mkB, Bool.and_eq_true] at mkC mkG
  simp only [kitB, Bool.and_eq_true, beq_iff_eq] at kC
  obtain ⟨kt1, kt2, kt3, kt4⟩ := kC
  simp only [smB, Bool.and_eq_true, beq_iff_eq] at s_of
  have TD : LD.TxtD mg := ⟨no z_int, no z_len, no z_abs, no z_max⟩
  have TD8 : FR.TxtD mg := ⟨no z_isinstance, no z_dict, no z_len, no z_all, no z_sum⟩
  have TN : TxtN mg := ⟨no z_isinstance, no z_str, no z_len, no z_all, ⟨_, at_ aML⟩, ⟨_, at_ aLT⟩⟩
  have TI : TxtI mg := ⟨no z_isinstance, no z_tuple, no z_str, no z_len, no z_all⟩
  have TP : TxtP mg := ⟨no z_isinstance, no z_sorted, no z_len, no z_tuple⟩
  have TQ : TxtQ mg := ⟨no z_isinstance, no z_str, no z_len, no z_tuple, no z_dict⟩
  have TJ : TxtJ mg := ⟨no z_sorted, no z_max⟩
  have T1 : ExcC K mg "InvalidProgram" CI := exc_of rI (at_ aI)
  have T2 : ExcC K mg "InvalidOperation" CO := exc_of rO (at_ aO)
  have TG : TxtG mg := ⟨no z_isinstance, no z_tuple, no z_len⟩
  have TL : TxtLw mg := ⟨no z_range, no z_max, no z_min, no z_len⟩
  subst v_pls w_pls
  have F_pls : FunD K "placed_statements" "placed_statements" (defArgs sPls) (defBody sPls) (defScope sPls) [V.ref dT] [] f_pls _ := ⟨⟨oc_pls, od_pls, .ref T_pls, kV_pls, dc_pls, pm_pls, an_pls, cd_pls, ct_pls, sl_pls, rfl, l_pls, d_pls, .inr ⟨List.cons_ne_nil _ _, T_pls, _, [.ref dT], tn_pls, rfl, T_plsx, rfl, .cons rfl .nil⟩, .inl rfl⟩, k_pls⟩
  obtain ⟨⟨ds_pls, v_pls, b1_pls⟩, b2_pls⟩ := pls_binds F_pls
  have hT : ∀ H, SqT K H dT [] := fun H => .inr ⟨_, _, _, T_plsy, rfl, rfl, Nat.zero_le _, .nil⟩
  refine ⟨PySem.W.fnOf "law" "law" (defArgs sLaw) (defBody sLaw) (defScope sLaw) .none kV_law dc_law pm_law an_law cd_law ct_law, fun s v => .of_eq rfl, fun base _ _ => ?_⟩
  have GPl : FnOk l.prog w K mg base CX0 1 f_plain _ ["value"] (spPlain K) := ok_plain F_plain (no z_isinstance) (no z_int) (no z_bool)
  have gBet : Glo l.prog w K mg base "is_between" 2 ["value", "least", "greatest"] spBetX := ⟨_, _, ok_betX F_bet GPl (at_ n_plain) k_plain b_plain, at_ n_bet, k_bet, b_bet⟩
  have gNm : Glo l.prog w K mg base "is_name" 3 ["value"] (spNm K) := ⟨_, _, ok_nm F_nm TN gBet, at_ n_nm, k_nm, b_nm⟩
  have gWt : Glo l.prog w K mg base "_is_weight" 3 ["value"] spWt := ⟨_, _, ok_wt F_wt (at_ aMW) gBet, at_ n_wt, k_wt, b_wt⟩
  have gBr : Glo l.prog w K mg base "_is_branch" 4 ["value"] spBr := ⟨_, _, ok_br F_br TI gWt, at_ n_br, k_br, b_br⟩
  have gInn : ∀ n, Glo l.prog w K mg base "_inner_of" 5 ["value"] (spInn n) := fun n => ⟨_, _, ok_inn F_inn TI gBet gNm gWt gBr, at_ n_inn, k_inn, b_inn⟩
  have gLb : Glo l.prog w K mg base "_left_behind" 10 ["value", "depth", "left"] (spLb 5) := ⟨_, _, ok_left F_lb TI gInn (at_ n_lb) k_lb b_lb 5, at_ n_lb, k_lb, b_lb⟩
  have gIb : Glo l.prog w K mg base "is_body" 11 ["value"] spIb := ⟨_, _, ok_ib F_ib (at_ aMD) (at_ aMS) gLb, at_ n_ib, k_ib, b_ib⟩
  have gBin : ∀ n, Glo l.prog w K mg base "bodies_in" 1 ["statement"] (spBin n) := fun n => ⟨_, _, ok_bin F_bin (no z_tuple), at_ n_bin, k_bin, b_bin⟩
  have GPls : FnOk l.prog w K mg base CX0 6 f_pls _ ["body", "path"] (spPls K 5) := ok_placed F_pls gBin (at_ n_pls) k_pls b2_pls (no z_enumerate) 5
  have gSof : Glo l.prog w K mg base "statements_of" 7 ["body", "word"] (spSof K 5) := ⟨_, _, ok_sof F_sof GPls (at_ n_pls) k_pls b1_pls v_pls hT, at_ n_sof, k_sof, b_sof⟩
  have gNc : Glo l.prog w K mg base "_names_called" 8 ["body"] (spNc K) := ⟨_, _, ok_nc F_nc gSof, at_ n_nc, k_nc, b_nc⟩
  have gAp : Glo l.prog w K mg base "_are_program" 12 ["bodies"] spAp := ⟨_, _, ok_ap F_ap TD8 (at_ aMP) (at_ aMS) gBet gNm gIb gNc GPls (at_ n_pls) k_pls b1_pls v_pls hT, at_ n_ap, k_ap, b_ap⟩
  have M : Mk K C f_pi := ⟨mkC.1, n_pi, i_pi, mkC.2⟩
  have MG : Mk K CG f_gi := ⟨mkG.1, n_gi, i_gi, mkG.2⟩
  have GG : FnOk l.prog w K mg base CX0 1 f_gi _ ["self", "table"] (spGi CG) := ok_gi F_gi oG.cl kt4
  have GR1 : FnRs l.prog w K mg base 13 f_pi ["_given"] (spPi K C CG) := ok_pis GPls (at_ n_pls) k_pls b1_pls v_pls hT R oG kt4 kt1 kt2 TP (at_ aG) gAp F_pi (by decide +kernel) (by decide +kernel) (by decide)
  have GR2 : FnRs l.prog w K mg base 13 f_pi ["x"] (spPi K C CG) := ok_pis GPls (at_ n_pls) k_pls b1_pls v_pls hT R oG kt4 kt1 kt2 TP (at_ aG) gAp F_pi (by decide +kernel) (by decide +kernel) (by decide)
  have gOf : OfG l.prog w K mg base C := ⟨f_of, _, ok_of F_of M GR1 (at_ aC) MG GG (at_ aG) b_gi, b_of, mc, p_of, ⟨s_of.1.1, s_of.1.2⟩, ⟨n_of, ⟨_, r_ofx⟩, s_of.2.1, s_of.2.2⟩⟩
  have mCt : Met l.prog w K mg base C "__contains__" 1 ["self", "value"] (spCt K C) := ⟨_, _, ⟨n_ct, i_ct⟩, k_ct, ok_ct F_ct R TQ, b_ct⟩
  have mEq : Met l.prog w K mg base C "__eq__" 1 ["self", "other"] (spEq K C) := ⟨_, _, ⟨n_eq, i_eq⟩, k_eq, ok_eq F_eq R TQ (at_ aC) kt3, b_eq⟩
  have pbo : PMet l.prog w K mg base C "bodies" 1 ["self"] (spBo K C) := ⟨p_bo, f_bo, _, ⟨n_bo, g_bo, t_bo, ⟨_, r_box⟩⟩, ok_bo F_bo R TQ, b_bo⟩
  have pic : PMet l.prog w K mg base C "is_closed" 1 ["self"] (spIc K C) := ⟨p_ic, f_ic, _, ⟨n_ic, g_ic, t_ic, ⟨_, r_icx⟩⟩, ok_ic F_ic R TQ, b_ic⟩
  have gCn : Glo l.prog w K mg base "check_name" 2 ["free", "name"] (spCn K C) := ⟨_, _, ok_cn F_cn mCt, at_ n_cn, k_cn, b_cn⟩
  have GGt : FnOk l.prog w K mg base CX0 3 f_gt _ ["self", "at"] (spGt K C) := ok_gt F_gt R gCn
  obtain ⟨mGt, eGt⟩ : ∃ m : Met l.prog w K mg base C "__getitem__" 3 ["self", "at"] (spGt K C), m.f = f_gt := ⟨⟨f_gt, _, ⟨n_gt, i_gt⟩, k_gt, GGt, b_gt⟩, rfl⟩
  have hfi : PySem.W.fnIn K mGt.f = true := by rw [eGt]; exact fi_gt
  have gCf : Glo l.prog w K mg base "check_free" 1 ["free"] (spCf K C) := ⟨_, _, ok_cf F_cf R (no z_isinstance) (at_ aC) kt3, at_ n_cf, k_cf, b_cf⟩
  have gWo : ∀ n, Glo l.prog w K mg base "weights_of" 1 ["statement"] (spWo K n) := fun n => ⟨_, _, ok_wo F_wo (no z_tuple), at_ n_wo, k_wo, b_wo⟩
  have gWb : ∀ n, Glo l.prog w K mg base "with_bodies" 2 ["statement", "bodies"] (spWb K n n) := fun n => ⟨_, _, ok_wb F_wb (no z_tuple) (no z_zip) (gWo n), at_ n_wb, k_wb, b_wb⟩
  have gPw : Glo l.prog w K mg base "part_within" 3 ["body", "path"] spPw := ⟨_, _, ok_pw F_pw (no z_len) gBin gBet, at_ n_pw, k_pw, b_pw⟩
  have gWp : Glo l.prog w K mg base "with_part" 7 ["body", "path", "part"] (spWp 5) := ⟨_, _, ok_wps F_wp (no z_len) gBin gWb (at_ n_wp) k_wp b_wp 5, at_ n_wp, k_wp, b_wp⟩
  have gPo : Glo l.prog w K mg base "_part_of" 5 ["free", "place"] (spPo2 K C) := ⟨_, _, ok_po F_po TG mCt mGt hfi gPw, at_ n_po, k_po, b_po⟩
  have gPat : Glo l.prog w K mg base "part_at" 6 ["free", "place"] (spPo2 K C) := ⟨_, _, ok_pat F_pat gCf gPo, at_ n_pat, k_pat, b_pat⟩
  have gSa : Glo l.prog w K mg base "statement_at" 7 ["free", "place", "words"] (spSa K C) := ⟨_, _, ok_sa F_sa TG gPat, at_ n_sa, k_sa, b_sa⟩
  have gBa : Glo l.prog w K mg base "_body_around" 5 ["free", "place"] (spBa K C) := ⟨_, _, ok_ba F_ba mGt hfi gPw, at_ n_ba, k_ba, b_ba⟩
  have gOt : ∀ n, Glo l.prog w K mg base "_with_others" 1 ["body", "at", "many", "statements"] (spOt n) := fun n => ⟨_, _, ok_ot F_ot, at_ n_ot, k_ot, b_ot⟩
  have gPf : Glo l.prog w K mg base "_program_of" 16 ["bodies"] (spOf K C) := ⟨_, _, ok_pof F_pof (at_ aC) gOf, at_ n_pof, k_pof, b_pof⟩
  have gPrw : Glo l.prog w K mg base "_program_with" 17 ["free", "place", "many", "statements"] (spPrw K C) := ⟨_, _, ok_prw F_prw R gBa gOt gWp pbo mGt hfi gPf, at_ n_prw, k_prw, b_prw⟩
  have gInnU : ∀ n, Glo l.prog w K mg base "_inner_of" 5 ["value"] (fun vs H Q E => spInn n vs H Q E ∨ spInnX n vs H Q E) := fun n => ⟨_, _, fn_or (ok_inn F_inn TI gBet gNm gWt gBr) (ok_innX F_inn TI gBet gNm gWt gBr), at_ n_inn, k_inn, b_inn⟩
  have gLbX : Glo l.prog w K mg base "_left_behind" 10 ["value", "depth", "left"] (spLbX 5) := ⟨_, _, ok_leftX F_lb TI gInnU (at_ n_lb) k_lb b_lb 5, at_ n_lb, k_lb, b_lb⟩
  have gIbX : Glo l.prog w K mg base "is_body" 11 ["value"] spIbX := ⟨_, _, ok_ibX F_ib (at_ aMD) (at_ aMS) gLbX, at_ n_ib, k_ib, b_ib⟩
  have gApX : Glo l.prog w K mg base "_are_program" 12 ["bodies"] spApX := ⟨_, _, ok_apX F_ap TD8 (at_ aMP) (at_ aMS) gBet gNm gIbX gNc GPls (at_ n_pls) k_pls b1_pls v_pls hT, at_ n_ap, k_ap, b_ap⟩
  have GRX : FnRsX (L2N.CX l.prog w) l.prog w K mg base 13 f_pi ["_given"] (spPiX K C CG CI) := ok_pisX T1 oG.cl kt4 oG kt1 kt2 TP (at_ aG) gApX F_pi (by decide +kernel) (by decide +kernel) (by decide)
  have GofX : FnOk l.prog w K mg base (L2N.CX l.prog w) 15 f_of _ ["bodies"] (spOfX CI) := ok_ofX F_of M GRX (at_ aC) MG GG (at_ aG) b_gi
  have GpofX : FnOk l.prog w K mg base (L2.CX l.prog w) 16 f_pof _ ["bodies"] (spOfX CO) := ok_pofX F_pof (at_ aC) (mc := mc) (p0 := p_of) ⟨s_of.1.1, s_of.1.2⟩ ⟨n_of, ⟨_, r_ofx⟩, s_of.2.1, s_of.2.2⟩ GofX b_of T1 T2
  have gPfX : GloX l.prog w K mg base "_program_of" 16 ["bodies"] (fun vs H Q E => spOf K C vs H Q E ∨ spOfX CO vs H Q E) := ⟨f_pof, _, fn_or (fn_liftN (ok_pof F_pof (at_ aC) gOf)) GpofX, at_ n_pof, k_pof, b_pof⟩
  have gPrwX : GloX l.prog w K mg base "_program_with" 17 ["free", "place", "many", "statements"] (spPrwX K C fun vs H Q E => spOf K C vs H Q E ∨ spOfX CO vs H Q E) := ⟨f_prw, _, ok_prwX F_prw R gBa gOt gWp pbo mGt hfi gPfX, at_ n_prw, k_prw, b_prw⟩
  have gWw : ∀ g, Glo l.prog w K mg base "with_weights" 1 ["statement", "weights"] (spWw 5 g) := fun g => ⟨_, _, ok_ww F_ww (no z_tuple) (no z_zip), at_ n_ww, k_ww, b_ww⟩
  have gSca : GloX l.prog w K mg base "scaled" 18 ["free", "place", "many"] (spSca K C CO) := ⟨f_sca, _, ok_sca F_sca (at_ aMW) gBet gSa (gWo 5) gWw gPrwX, at_ n_sca, k_sca, b_sca⟩
  have gLow : Glo l.prog w K mg base "lowered" 18 ["free", "place"] (spLow K C) := ⟨_, _, ok_low F_low (at_ agcd) gSa (gWo 5) gWw gPrw, at_ n_low, k_low, b_low⟩
  have gR : Glo l.prog w K mg base "_law_roll" 1 ["_law_dice_here", "_law_total"] spRoll := ⟨_, _, ok_roll F_roll TD.mI, at_ n_roll, k_roll, b_roll⟩
  have gO : Glo l.prog w K mg base "_law_one_of" 2 ["_law_dice_here", "_law_items"] spOneOf := ⟨_, _, ok_oneOf F_one TD F_roll (at_ n_roll) k_roll b_roll, at_ n_one, k_one, b_one⟩
  have gD : Glo l.prog w K mg base "_law_dice" 1 ["_law_script", "_law_at"] (spDice K) := ⟨_, _, ok_dice F_dice TD, at_ n_dice, k_dice, b_dice⟩
  have gX : Glo l.prog w K mg base "_law_mixed" 2 ["_law_dice_here", "_law_items"] spMx := ⟨_, _, ok_mx F_mx TD (no z_list) (no z_range) gR, at_ n_mx, k_mx, b_mx⟩
  have gXF : Glo l.prog w K mg base "_law_mixed" 2 ["_law_dice_here", "_law_items"] (spMxF fun v : V => v) := ⟨_, _, ok_mxF (fun v : V => v) F_mx TD (no z_list) (no z_range) gR, at_ n_mx, k_mx, b_mx⟩
  have gWe : Glo l.prog w K mg base "_law_weight" 3 ["_law_dice_here"] spWe := ⟨_, _, ok_we F_we gO, at_ n_we, k_we, b_we⟩
  have dr := ok_draw F_ls F_ly (no z_range) (no z_tuple) gR gO gWe (at_ n_ly) k_ly b_ly (at_ n_ls) k_ls b_ls
  have GLy : FnOk l.prog w K mg base CX0 9 f_ly _ P5 spLyA := fn_or ((dr 2).1.mono (by decide)) (dr 3).1
  have gLo : Glo l.prog w K mg base "_law_bodies" 10 ["_law_dice_here", "_law_much", "_law_extra"] spLo := ⟨_, _, ok_lo F_lo (no z_sorted) gR gX GLy (at_ n_ly) k_ly b_ly, at_ n_lo, k_lo, b_lo⟩
  have gGcd : Glo l.prog w K mg base "_law_gcd" 1 ["_law_one", "_law_two"] spGcd := ⟨_, _, ok_gcd F_gcd TD.mI, at_ n_gcd, k_gcd, b_gcd⟩
  have gRat : Glo l.prog w K mg base "_law_ratio" 2 ["_law_top", "_law_bottom"] spRat := ⟨_, _, ok_rat F_rat (ok_gcd F_gcd TD.mI) (at_ n_gcd) k_gcd b_gcd TD.mA, at_ n_rat, k_rat, b_rat⟩
  have gPlus : Glo l.prog w K mg base "_law_plus" 3 ["_law_one", "_law_two"] (spLP plusP) := ⟨_, _, ok_plus F_plus gRat, at_ n_plus, k_plus, b_plus⟩
  have gBy : Glo l.prog w K mg base "_law_by" 3 ["_law_one", "_law_two"] (spLP byP) := ⟨_, _, ok_lby F_lby gRat, at_ n_lby, k_lby, b_lby⟩
  have gNx : Glo l.prog w K mg base "_law_next" 8 ["_law_body_here", "_law_values_here"] (spNx 5) := ⟨_, _, ok_nxs F_nx (no z_sum) gPlus gBy gRat (at_ n_nx) k_nx b_nx 5, at_ n_nx, k_nx, b_nx⟩
  have gLi : ∀ n, Glo l.prog w K mg base "_law_inner" 1 ["_law_statement_here"] (spLi n) := fun n => ⟨_, _, ok_li F_li (no z_list), at_ n_li, k_li, b_li⟩
  have gWk : Glo l.prog w K mg base "_law_walk" 6 ["_law_body_here", "_law_ahead"] (spWk 5) := ⟨_, _, ok_wks F_wk gLi (at_ n_wk) k_wk b_wk (no z_enumerate) 5, at_ n_wk, k_wk, b_wk⟩
  have gSp : Glo l.prog w K mg base "_law_spots" 7 ["_law_bodies_here", "_law_sorts"] spSp := ⟨_, _, ok_sp F_sp (no z_sorted) gWk, at_ n_sp, k_sp, b_sp⟩
  have gRb : ∀ n, Glo l.prog w K mg base "_law_rebuilt" 1 ["_law_statement_here", "_law_number", "_law_body_here"] (spRb n) := fun n => ⟨_, _, ok_rb F_rb, at_ n_rb, k_rb, b_rb⟩
  have gSc : Glo l.prog w K mg base "_law_spliced" 6 ["_law_body_here", "_law_path", "_law_much", "_law_statements"] (spSc 5) := ⟨_, _, ok_scs F_scd (no z_len) gLi gRb (at_ n_scd) k_scd b_scd 5, at_ n_scd, k_scd, b_scd⟩
  have gCg : Glo l.prog w K mg base "_law_changed" 7 ["_law_bodies_here", "_law_place", "_law_much", "_law_statements"] spCg := ⟨_, _, ok_cg F_cg (no z_dict) gSc, at_ n_cg, k_cg, b_cg⟩
  have gVl : Glo l.prog w K mg base "_law_values" 3 ["_law_dice_here", "_law_names"] spVl := ⟨_, _, ok_vl F_vl (no z_dict) gO, at_ n_vl, k_vl, b_vl⟩
  have gLsd : Glo l.prog w K mg base "_law_scaled" 1 ["_law_statement_here", "_law_top", "_law_bottom"] (spLsd 5) := ⟨_, _, ok_lsd F_lsd (no z_tuple), at_ n_lsd, k_lsd, b_lsd⟩
  have gLws : Glo l.prog w K mg base "_law_weights" 1 ["_law_statement_here"] (spLws 5) := ⟨_, _, ok_lws F_lws, at_ n_lws, k_lws, b_lws⟩
  have gLmd : Glo l.prog w K mg base "_law_made" 19 ["_law_thing", "_law_place", "_law_much"] (spLmd K C) := ⟨_, _, ok_lmd F_lmd R T2 gSca pbo, at_ n_lmd, k_lmd, b_lmd⟩
  have gSr : Glo l.prog w K mg base "_law_statement_right" 20 ["_law_dice_here", "_law_thing", "_law_bodies_here", "_law_place", "_law_statement_here"] (spSr K C) := ⟨_, _, ok_sr F_sr R TJ (at_ aC) gOf gO gLws gLsd gLmd gGcd gCg gLow pbo pic gVl gNx, at_ n_sr, k_sr, b_sr⟩
  have gLw : Glo l.prog w K mg base "_law_right" 21 ["_law_dice_here"] spLw := ⟨_, _, ok_lw F_lw R nfC (at_ aC) gOf gR gLo gXF gSp gSr mEq, at_ n_lw, k_lw, b_lw⟩
  exact ok_law F_law R neC nfC TL (at_ aC) M GR2 gD gLw gLow gSca gLmd mEq mGt hfi
end FR
open PySem PySem.W PyProof.Rows
set_option Elab.async false
set_option maxRecDepth 100000 in
set_option maxHeartbeats 0 in
theorem PySem.Challenge.cw_surelyends_k68_weights_changed_holds : PySem.Challenge.rw_surelyends_k68_weights_changed.Holds := by
  w_on; o_law; k_head; (case hw => w_witness2)
  k_fill
  refine L2.walk_of (l := PySem.Challenge.rw_surelyends_k68_weights_changed) (n := 63) (k := 22) (x := "_law_script") (CX := fun _ => L2.CX0) (sp := fun w => FR.spLaw _) rfl (by decide) rfl ⟨rfl, by decide, by decide⟩ (fun w h Y => PySem.W.kIn_of Y) ?F (fun _ _ a ns hl _ hS => ⟨a, ns, rfl, hS, fun _ => rfl⟩) fun _ _ _ _ _ z => z
  case F =>
    intro w mg fa h KX G hmg
    refine' FR.all_mk KX G hmg ?aC ?aG ?aI ?aO ?agcd ?aMP ?aMS ?aMD ?aMW ?aML ?aLT ?n_bin ?l_bin ?d_bin ?k_bin ?n_wb ?l_wb ?d_wb ?k_wb ?n_wo ?l_wo ?d_wo ?k_wo ?n_sof ?l_sof ?d_sof ?k_sof ?n_pw ?l_pw ?d_pw ?k_pw ?n_wp ?l_wp ?d_wp ?k_wp ?n_plain ?l_plain ?d_plain ?k_plain ?n_bet ?l_bet ?d_bet ?k_bet ?n_nm ?l_nm ?d_nm ?k_nm ?n_wt ?l_wt ?d_wt ?k_wt ?n_br ?l_br ?d_br ?k_br ?n_inn ?l_inn ?d_inn ?k_inn ?n_lb ?l_lb ?d_lb ?k_lb ?n_ib ?l_ib ?d_ib ?k_ib ?n_nc ?l_nc ?d_nc ?k_nc ?n_ap ?l_ap ?d_ap ?k_ap ?n_cn ?l_cn ?d_cn ?k_cn ?n_cf ?l_cf ?d_cf ?k_cf ?n_pat ?l_pat ?d_pat ?k_pat ?n_po ?l_po ?d_po ?k_po ?n_sa ?l_sa ?d_sa ?k_sa ?n_ww ?l_ww ?d_ww ?k_ww ?n_sca ?l_sca ?d_sca ?k_sca ?n_low ?l_low ?d_low ?k_low ?n_ba ?l_ba ?d_ba ?k_ba ?n_ot ?l_ot ?d_ot ?k_ot ?n_prw ?l_prw ?d_prw ?k_prw ?n_pof ?l_pof ?d_pof ?k_pof ?n_dice ?l_dice ?d_dice ?k_dice ?n_roll ?l_roll ?d_roll ?k_roll ?n_one ?l_one ?d_one ?k_one ?n_mx ?l_mx ?d_mx ?k_mx ?n_we ?l_we ?d_we ?k_we ?n_ls ?l_ls ?d_ls ?k_ls ?n_ly ?l_ly ?d_ly ?k_ly ?n_lo ?l_lo ?d_lo ?k_lo ?n_gcd ?l_gcd ?d_gcd ?k_gcd ?n_rat ?l_rat ?d_rat ?k_rat ?n_plus ?l_plus ?d_plus ?k_plus ?n_lby ?l_lby ?d_lby ?k_lby ?n_nx ?l_nx ?d_nx ?k_nx ?n_li ?l_li ?d_li ?k_li ?n_wk ?l_wk ?d_wk ?k_wk ?n_sp ?l_sp ?d_sp ?k_sp ?n_rb ?l_rb ?d_rb ?k_rb ?n_scd ?l_scd ?d_scd ?k_scd ?n_cg ?l_cg ?d_cg ?k_cg ?n_vl ?l_vl ?d_vl ?k_vl ?n_lsd ?l_lsd ?d_lsd ?k_lsd ?n_lws ?l_lws ?d_lws ?k_lws ?n_lmd ?l_lmd ?d_lmd ?k_lmd ?n_sr ?l_sr ?d_sr ?k_sr ?n_lw ?l_lw ?d_lw ?k_lw ?n_law ?l_law ?d_law ?k_law ?n_gi ?l_gi ?d_gi ?k_gi ?i_gi ?n_gt ?l_gt ?d_gt ?k_gt ?i_gt ?n_ct ?l_ct ?d_ct ?k_ct ?i_ct ?n_eq ?l_eq ?d_eq ?k_eq ?i_eq ?n_pi ?l_pi ?d_pi ?k_pi ?i_pi ?fi_gt ?n_bo ?g_bo ?t_bo ?r_box ?l_bo ?d_bo ?k_bo ?n_ic ?g_ic ?t_ic ?r_icx ?l_ic ?d_ic ?k_ic ?y_of ?n_of ?r_ofx ?l_of ?d_of ?k_of ?s_of ?n_pls ?l_pls ?d_pls ?k_pls ?T_plsx ?v_pls ?T_plsy ?w_pls ?z_int ?z_len ?z_abs ?z_max ?z_min ?z_isinstance ?z_range ?z_bool ?z_tuple ?z_all ?z_any ?z_sum ?z_enumerate ?z_list ?z_str ?z_repr ?z_sorted ?z_set ?z_dict ?z_zip ?rC ?rI ?rO ?rG ?mkC ?mkG ?oC ?kC
    (case aC => k_is)
    (case aG => k_is)
    (case aI => k_is)
    (case aO => k_is)
    (case agcd => k_is)
    (case aMP => k_is)
    (case aMS => k_is)
    (case aMD => k_is)
    (case aMW => k_is)
    (case aML => k_is)
    (case aLT => k_is)
    (case n_bin => k_is)
    (case l_bin => k_is)
    (case d_bin => k_is)
    (case k_bin => k_is)
    (case n_wb => k_is)
    (case l_wb => k_is)
    (case d_wb => k_is)
    (case k_wb => k_is)
    (case n_wo => k_is)
    (case l_wo => k_is)
    (case d_wo => k_is)
    (case k_wo => k_is)
    (case n_sof => k_is)
    (case l_sof => k_is)
    (case d_sof => k_is)
    (case k_sof => k_is)
    (case n_pw => k_is)
    (case l_pw => k_is)
    (case d_pw => k_is)
    (case k_pw => k_is)
    (case n_wp => k_is)
    (case l_wp => k_is)
    (case d_wp => k_is)
    (case k_wp => k_is)
    (case n_plain => k_is)
    (case l_plain => k_is)
    (case d_plain => k_is)
    (case k_plain => k_is)
    (case n_bet => k_is)
    (case l_bet => k_is)
    (case d_bet => k_is)
    (case k_bet => k_is)
    (case n_nm => k_is)
    (case l_nm => k_is)
    (case d_nm => k_is)
    (case k_nm => k_is)
    (case n_wt => k_is)
    (case l_wt => k_is)
    (case d_wt => k_is)
    (case k_wt => k_is)
    (case n_br => k_is)
    (case l_br => k_is)
    (case d_br => k_is)
    (case k_br => k_is)
    (case n_inn => k_is)
    (case l_inn => k_is)
    (case d_inn => k_is)
    (case k_inn => k_is)
    (case n_lb => k_is)
    (case l_lb => k_is)
    (case d_lb => k_is)
    (case k_lb => k_is)
    (case n_ib => k_is)
    (case l_ib => k_is)
    (case d_ib => k_is)
    (case k_ib => k_is)
    (case n_nc => k_is)
    (case l_nc => k_is)
    (case d_nc => k_is)
    (case k_nc => k_is)
    (case n_ap => k_is)
    (case l_ap => k_is)
    (case d_ap => k_is)
    (case k_ap => k_is)
    (case n_cn => k_is)
    (case l_cn => k_is)
    (case d_cn => k_is)
    (case k_cn => k_is)
    (case n_cf => k_is)
    (case l_cf => k_is)
    (case d_cf => k_is)
    (case k_cf => k_is)
    (case n_pat => k_is)
    (case l_pat => k_is)
    (case d_pat => k_is)
    (case k_pat => k_is)
    (case n_po => k_is)
    (case l_po => k_is)
    (case d_po => k_is)
    (case k_po => k_is)
    (case n_sa => k_is)
    (case l_sa => k_is)
    (case d_sa => k_is)
    (case k_sa => k_is)
    (case n_ww => k_is)
    (case l_ww => k_is)
    (case d_ww => k_is)
    (case k_ww => k_is)
    (case n_sca => k_is)
    (case l_sca => k_is)
    (case d_sca => k_is)
    (case k_sca => k_is)
    (case n_low => k_is)
    (case l_low => k_is)
    (case d_low => k_is)
    (case k_low => k_is)
    (case n_ba => k_is)
    (case l_ba => k_is)
    (case d_ba => k_is)
    (case k_ba => k_is)
    (case n_ot => k_is)
    (case l_ot => k_is)
    (case d_ot => k_is)
    (case k_ot => k_is)
    (case n_prw => k_is)
    (case l_prw => k_is)
    (case d_prw => k_is)
    (case k_prw => k_is)
    (case n_pof => k_is)
    (case l_pof => k_is)
    (case d_pof => k_is)
    (case k_pof => k_is)
    (case n_dice => k_is)
    (case l_dice => k_is)
    (case d_dice => k_is)
    (case k_dice => k_is)
    (case n_roll => k_is)
    (case l_roll => k_is)
    (case d_roll => k_is)
    (case k_roll => k_is)
    (case n_one => k_is)
    (case l_one => k_is)
    (case d_one => k_is)
    (case k_one => k_is)
    (case n_mx => k_is)
    (case l_mx => k_is)
    (case d_mx => k_is)
    (case k_mx => k_is)
    (case n_we => k_is)
    (case l_we => k_is)
    (case d_we => k_is)
    (case k_we => k_is)
    (case n_ls => k_is)
    (case l_ls => k_is)
    (case d_ls => k_is)
    (case k_ls => k_is)
    (case n_ly => k_is)
    (case l_ly => k_is)
    (case d_ly => k_is)
    (case k_ly => k_is)
    (case n_lo => k_is)
    (case l_lo => k_is)
    (case d_lo => k_is)
    (case k_lo => k_is)
    (case n_gcd => k_is)
    (case l_gcd => k_is)
    (case d_gcd => k_is)
    (case k_gcd => k_is)
    (case n_rat => k_is)
    (case l_rat => k_is)
    (case d_rat => k_is)
    (case k_rat => k_is)
    (case n_plus => k_is)
    (case l_plus => k_is)
    (case d_plus => k_is)
    (case k_plus => k_is)
    (case n_lby => k_is)
    (case l_lby => k_is)
    (case d_lby => k_is)
    (case k_lby => k_is)
    (case n_nx => k_is)
    (case l_nx => k_is)
    (case d_nx => k_is)
    (case k_nx => k_is)
    (case n_li => k_is)
    (case l_li => k_is)
    (case d_li => k_is)
    (case k_li => k_is)
    (case n_wk => k_is)
    (case l_wk => k_is)
    (case d_wk => k_is)
    (case k_wk => k_is)
    (case n_sp => k_is)
    (case l_sp => k_is)
    (case d_sp => k_is)
    (case k_sp => k_is)
    (case n_rb => k_is)
    (case l_rb => k_is)
    (case d_rb => k_is)
    (case k_rb => k_is)
    (case n_scd => k_is)
    (case l_scd => k_is)
    (case d_scd => k_is)
    (case k_scd => k_is)
    (case n_cg => k_is)
    (case l_cg => k_is)
    (case d_cg => k_is)
    (case k_cg => k_is)
    (case n_vl => k_is)
    (case l_vl => k_is)
    (case d_vl => k_is)
    (case k_vl => k_is)
    (case n_lsd => k_is)
    (case l_lsd => k_is)
    (case d_lsd => k_is)
    (case k_lsd => k_is)
    (case n_lws => k_is)
    (case l_lws => k_is)
    (case d_lws => k_is)
    (case k_lws => k_is)
    (case n_lmd => k_is)
    (case l_lmd => k_is)
    (case d_lmd => k_is)
    (case k_lmd => k_is)
    (case n_sr => k_is)
    (case l_sr => k_is)
    (case d_sr => k_is)
    (case k_sr => k_is)
    (case n_lw => k_is)
    (case l_lw => k_is)
    (case d_lw => k_is)
    (case k_lw => k_is)
    (case n_law => k_is)
    (case l_law => k_is)
    (case d_law => k_is)
    (case k_law => k_is)
    (case n_gi => k_is)
    (case l_gi => k_is)
    (case d_gi => k_is)
    (case k_gi => k_is)
    (case i_gi => k_is)
    (case n_gt => k_is)
    (case l_gt => k_is)
    (case d_gt => k_is)
    (case k_gt => k_is)
    (case i_gt => k_is)
    (case n_ct => k_is)
    (case l_ct => k_is)
    (case d_ct => k_is)
    (case k_ct => k_is)
    (case i_ct => k_is)
    (case n_eq => k_is)
    (case l_eq => k_is)
    (case d_eq => k_is)
    (case k_eq => k_is)
    (case i_eq => k_is)
    (case n_pi => k_is)
    (case l_pi => k_is)
    (case d_pi => k_is)
    (case k_pi => k_is)
    (case i_pi => k_is)
    (case fi_gt => k_is)
    (case n_bo => k_is)
    (case g_bo => k_is)
    (case t_bo => k_is)
    (case r_box => k_is)
    (case l_bo => k_is)
    (case d_bo => k_is)
    (case k_bo => k_is)
    (case n_ic => k_is)
    (case g_ic => k_is)
    (case t_ic => k_is)
    (case r_icx => k_is)
    (case l_ic => k_is)
    (case d_ic => k_is)
    (case k_ic => k_is)
    (case y_of => k_is)
    (case n_of => k_is)
    (case r_ofx => k_is)
    (case l_of => k_is)
    (case d_of => k_is)
    (case k_of => k_is)
    (case s_of => kernel_rfl)
    (case n_pls => k_is)
    (case l_pls => k_is)
    (case d_pls => k_is)
    (case k_pls => k_is)
    (case T_plsx => k_is)
    (case v_pls => rfl)
    (case T_plsy => k_is)
    (case w_pls => rfl)
    (case z_int => k_is)
    (case z_len => k_is)
    (case z_abs => k_is)
    (case z_max => k_is)
    (case z_min => k_is)
    (case z_isinstance => k_is)
    (case z_range => k_is)
    (case z_bool => k_is)
    (case z_tuple => k_is)
    (case z_all => k_is)
    (case z_any => k_is)
    (case z_sum => k_is)
    (case z_enumerate => k_is)
    (case z_list => k_is)
    (case z_str => k_is)
    (case z_repr => k_is)
    (case z_sorted => k_is)
    (case z_set => k_is)
    (case z_dict => k_is)
    (case z_zip => k_is)
    (case rC => kernel_rfl)
    (case rI => kernel_rfl)
    (case rO => kernel_rfl)
    (case rG => kernel_rfl)
    (case mkC => kernel_rfl)
    (case mkG => kernel_rfl)
    (case oC => kernel_rfl)
    (case kC => kernel_rfl)
