import PyProof.Rows.All
import Wide.All
import OpenK.AllK
import Wide.FinOn
import KE.KOpsOwn
import KE.KCallOwn
import HandS.ForMost
import HandS.Wide
import HandS.Property
import HandS.IsInst
import HandS.OwnEq
import HandS.Flow
import KE.KEqDict
import HandS.Gcd
import HandS.Defaults
import HandS.FStr
import PyProof.FitsInt
import PyProof.StrLaws
import HandS.RaiseMore
import HandS.TupLe
import PyProof.ReprLen
import HandS.Dict
import KE.IntBitsLaws
import PySem.Challenge.RW_surelyends_k01_fractions_as_values
set_option Elab.async false
set_option linter.all false
set_option maxRecDepth 100000
set_option maxHeartbeats 4000000
/-! Operators between instances of an own class and other values -/
namespace OW
open PySem PySem.Spec PySem.W PySem.Calls PyProof.Rows
section
variable {prog : Program} {w : World} {A : Around} {E : Value → Shared → Prop} {s : Shared} {K : Frag} {x C L f g : Addr} {h₀ : Heap} {m : Str → Option Value} {ox : Obj} {od : Option Obj} {T idl : String}
/-- a built-in value in front, which declines: the reflected method -/
theorem binop_right {op : Operator} {b : Value} {Q : Value → Shared → Prop} (X : K.In s.heap) (I : InstAt s.heap x ox C od) (hb : typeOf b = pure (.type T)) (hT : s.TypeIs b T) (hc : selfFirst K C = true)
    (h0 : findIn K (.ref C) (PySem.dunder op.info.2) = some (some (.ref g))) (hs : findIn K (.ref C) (dunderR op.info.2) = some (some (.ref f))) (hf : isFn K (.ref f) = true)
    (hfT : fillsNumberSlot (.type T) op.info.2 = pure true) (hsub : subIn K (.ref C) (.type T) = some false) (hl : Slot T (PySem.dunder op.info.2) idl)
    (hd : ∀ Q' : Value → Shared → Prop, Q' .notImplemented s → wpAny (model prog w) A (call (.builtin idl) [b, .ref x]) Q' E s)
    (h : wpAny (model prog w) A (call (.ref f) [.ref x, b]) (PySem.W.CmpBack Q) E s) : wpAny (model prog w) A (binaryOp op b (.ref x)) Q E s := by
  obtain ⟨cd, rest, hcd, hm⟩ := ksp_first hc
  rcases hi : op.info with ⟨sym, nm'⟩
  rw [hi] at h0 hs hfT hl
  dsimp only at h0 hs hfT hl
  have one := ksp_try X I hs hf h
  have L1 : Looks (model prog w) s.heap (typeOf (.ref x)) (.ref C) := I.type
  have L2 : Looks (model prog w) s.heap (typeOf b) (.type T) := Looks.of_pure hb
  have L3 : Looks (model prog w) s.heap (fillsNumberSlot (.ref C) nm') true := fills_K X hcd hm h0
  have L4 : Looks (model prog w) s.heap (fillsNumberSlot (.type T) nm') true := Looks.of_pure hfT
  have L5 : Looks (model prog w) s.heap (isSubtype (.ref C) (.type T)) false := looks_subIn X hsub
  have hpy : numberSlotInPython (.type T) nm' = pure false := rfl
  have hne : (Value.type T == Value.ref C) = false := Bool.eq_false_iff.mpr fun q => by cases beq_iff_eq.mp q
  simp only [binaryOp, hi]
  refine wpAny_holding (wpAny_bind ?_)
  unfold binaryOp1
  refine wpAny_bind (L2.here (wpAny_bind (L1.here (wpAny_bind (L4.here ?_)))))
  simp only [hne, Bool.false_eq_true, if_false]
  refine wpAny_bind (L3.here ?_)
  simp only [Bool.and_self, if_true]
  refine wpAny_bind (L5.here ?_)
  simp only [Bool.false_eq_true, if_false, pure_bind, Bool.not_false, Bool.and_self, if_true, hpy]
  refine wpAny_bind (m := tryMethod b _ (.ref x)) (wpAny_tryMethod_declines hT hl (hd _ ⟨rfl, ?_⟩))
  refine wpAny_bind (m := tryMethod (.ref x) _ b) (wpAny_mono one (fun r s' hr' => ?_) fun _ _ e => e)
  obtain ⟨v, rfl, hq⟩ := hr'
  exact wpAny_bind (wpAny_rule (wpAny_pure (wpAny_pure hq)))
/-! ### == and != -/
theorem try_eq {b : Value} {Q : Value → Shared → Prop} (X : K.In s.heap) (I : InstAt s.heap x ox C od) (hs : findIn K (.ref C) "__eq__" = some (some (.ref f))) (hf : isFn K (.ref f) = true)
    (h : wpAny (model prog w) A (call (.ref f) [.ref x, b]) (PySem.W.CmpBack Q) E s) : wpAny (model prog w) A (tryCompare (.ref x) "__eq__" b) (fun r s' => ∃ v, r = some v ∧ Q v s') E s := by
  unfold tryCompare
  refine wpAny_bind (ifBound_K X I hs hf (wpAny_mono h (fun v s' hv => ?_) fun _ _ e => e))
  cases v <;> first | exact hv.elim | exact wpAny_pure ⟨_, rfl, hv⟩
theorem run_ne {b : Value} {Q : Value → Shared → Prop} (hu : A.units < cLine) (X : K.In s.heap) (I : InstAt s.heap x ox C od) (hs : findIn K (.ref C) "__eq__" = some (some (.ref f))) (hf : isFn K (.ref f) = true)
    (h : wpAny (model prog w) A (call (.ref f) [.ref x, b]) (fun v s' => ∃ r, v = .bool r ∧ Q (.bool (!r)) s') E s) :
    wpAny (model prog w) A (Builtin.«object.__ne__» ⟨[.ref x, b], []⟩) (fun fin s' => ∃ v, fin = .done (.ret v) ∧ Q v s') E s := by
  unfold Builtin.«object.__ne__»
  repeat (first
    | with_reducible refine wpAny_cRoomFor hu ?_
    | (refine wpAny_bind (m := callSpecialIfBound? (.ref x) (Str.ofString "__eq__") [b]) (ifBound_K X I hs hf (wpAny_mono h (fun v s' hv => by
        obtain ⟨r, rfl, q⟩ := hv
        repeat (first | exact ⟨_, rfl, q⟩ | exact wpAny_pure ⟨_, rfl, q⟩ | (refine wpAny_bind (m := truthy (.bool _)) (wpAny_truthy_bool ?_)) | wp_step)) fun _ _ e => e)))
    | wp_step)
theorem try_ne {b : Value} {Q : Value → Shared → Prop} (hu : A.units + 1 < cLine) (X : K.In s.heap) (I : InstAt s.heap x ox C od) (hs : findIn K (.ref C) "__eq__" = some (some (.ref f))) (hf : isFn K (.ref f) = true)
    (hn : findIn K (.ref C) "__ne__" = some (some (.builtin "object.__ne__"))) (ho : subIn K (.ref C) (.type "object") = some true)
    (h : wpAny (model prog w) A.in1 (call (.ref f) [.ref x, b]) (fun v s' => ∃ r, v = .bool r ∧ Q (.bool (!r)) s') E s) :
    wpAny (model prog w) A (tryCompare (.ref x) "__ne__" b) (fun r s' => ∃ v, r = some v ∧ Q v s' ∧ ∃ z, v = .bool z) E s := by
  have L1 : Looks (model prog w) s.heap (typeOf (.ref x)) (.ref C) := I.type
  have c : wpAny (model prog w) A (call (.builtin "object.__ne__") [.ref x, b]) (fun v s' => Q v s' ∧ ∃ z, v = .bool z) E s := by
    refine wpAny_call (codeAny_call_builtin F.cmp_object.ne.plain F.cmpEntry_ne (check_slot F.cmpKind_ne F.cmpSplit_ne (L1.andThen (looks_subIn X ho)) (F.cmpArgs_ne _ _) ?_))
    refine wpAny_mono (run_ne (A := A.in1) (Q := fun v s' => Q v s' ∧ ∃ z, v = .bool z) hu X I hs hf (wpAny_mono h (fun v s' hv => ?_) fun _ _ e => e)) (fun fin s' hv => ?_) fun _ _ z => z
    · obtain ⟨r, rfl, q⟩ := hv
      exact ⟨r, rfl, q, _, rfl⟩
    · obtain ⟨v, rfl, q⟩ := hv
      exact q
  unfold tryCompare
  refine wpAny_bind ?_
  simp only [callSpecialIfBound?, bindSpecialIfBound?]
  refine wpAny_holding (wpAny_bind (wpAny_bind (wpAny_bind (I.type.here ((looks_findIn X hn).here ?_)))))
  have fin : wpAny (model prog w) A (call (.builtin "object.__ne__") ([.ref x] ++ [b]) >>= fun v => pure (some v)) (fun r s' => ∃ v, r = some v ∧ Q v s' ∧ ∃ z, v = .bool z) E s :=
    wpAny_bind (wpAny_mono c (fun v s' h' => wpAny_pure ⟨v, rfl, h'⟩) fun _ _ h' => h')
  have hb := F.cmp_object.ne.bind (.ref x)
  refine wpAny_bind (wpAny_askSetting (wpAny_ite ?_))
  have fin2 := wpAny_mono (Q' := fun r s' => wpAny (model prog w) A (match r with | some .notImplemented => pure none | none => pure none | some v => pure (some v)) (fun r s' => ∃ v, r = some v ∧ Q v s' ∧ ∃ z, v = .bool z) E s') fin (fun r s' h' => by
    obtain ⟨v, rfl, q, z, rfl⟩ := h'
    exact wpAny_pure ⟨_, rfl, q, _, rfl⟩) fun _ _ e => e
  split
  · rw [hb]
    exact wpAny_bind (wpAny_pure (wpAny_pure fin2))
  · rw [hb]
    exact wpAny_tryCatch (wpAny_bind (wpAny_pure (wpAny_pure fin2)))
end
end OW
set_option Elab.async false
set_option linter.all false
set_option maxRecDepth 100000
set_option maxHeartbeats 4000000
namespace OW
open PySem PySem.Spec PySem.W PySem.Calls PyProof.Rows
section
variable {prog : Program} {w : World} {A : Around} {E : Value → Shared → Prop} {s : Shared} {K : Frag} {x C L f g : Addr} {h₀ : Heap} {m : Str → Option Value} {ox : Obj} {od : Option Obj} {T idl : String}
theorem ne_left {b tb : Value} {Q : Value → Shared → Prop} (hu : A.units + 1 < cLine) (X : K.In s.heap) (I : InstAt s.heap x ox C od) (hb : Looks (model prog w) s.heap (typeOf b) tb) (hnf : notFirst K C tb = true)
    (hs : findIn K (.ref C) "__eq__" = some (some (.ref f))) (hf : isFn K (.ref f) = true) (hn : findIn K (.ref C) "__ne__" = some (some (.builtin "object.__ne__"))) (ho : subIn K (.ref C) (.type "object") = some true)
    (h : wpAny (model prog w) A.in1 (call (.ref f) [.ref x, b]) (fun v s' => ∃ r, v = .bool r ∧ Q (.bool (!r)) s') E s) : wpAny (model prog w) A (richCompare .NotEq (.ref x) b) Q E s := by
  have one := try_ne hu X I hs hf hn ho h
  unfold richCompare
  simp only [oneThing_ref]
  refine wpAny_holding (wpAny_bind (wpAny_cRoomFor (Nat.lt_of_succ_lt hu) ?_))
  refine wpAny_bind (I.type.here (wpAny_bind (hb.here ?_)))
  split
  · rename_i q
    have e : subIn K tb (.ref C) = some false := by
      rcases Bool.or_eq_true_iff.mp hnf with e | e
      · rw [beq_iff_eq.mp e] at q; simp at q
      · exact beq_iff_eq.mp e
    refine wpAny_bind ((looks_subIn X e).here ?_)
    simp only [Bool.false_eq_true, if_false]
    refine wpAny_bind (wpAny_mono one (fun r s' z => ?_) fun _ _ e => e)
    obtain ⟨v, rfl, hq, _⟩ := z
    exact wpAny_pure hq
  · refine wpAny_bind (wpAny_pure ?_)
    simp only [Bool.false_eq_true, if_false]
    refine wpAny_bind (wpAny_mono one (fun r s' z => ?_) fun _ _ e => e)
    obtain ⟨v, rfl, hq, _⟩ := z
    exact wpAny_pure hq
theorem eq_right {b : Value} {Q : Value → Shared → Prop} (hu : A.units < cLine) (X : K.In s.heap) (I : InstAt s.heap x ox C od) (hT : s.TypeIs b T) (hsub : subIn K (.ref C) (.type T) = some false) (hl : Slot T "__eq__" idl)
    (hd : ∀ Q' : Value → Shared → Prop, Q' .notImplemented s → wpAny (model prog w) A (call (.builtin idl) [b, .ref x]) Q' E s)
    (hs : findIn K (.ref C) "__eq__" = some (some (.ref f))) (hf : isFn K (.ref f) = true)
    (h : wpAny (model prog w) A (call (.ref f) [.ref x, b]) (PySem.W.CmpBack Q) E s) : wpAny (model prog w) A (richCompare .Eq b (.ref x)) Q E s := by
  have one := try_eq X I hs hf h
  have hne : (Value.type T != Value.ref C) = true := by simp
  unfold richCompare
  simp only [hT.oneThing_none]
  refine wpAny_holding (wpAny_bind (wpAny_cRoomFor hu ?_))
  refine wpAny_bind (wpAny_typeOf hT (wpAny_bind (I.type.here ?_)))
  simp only [hne, if_true]
  refine wpAny_bind ((looks_subIn X hsub).here ?_)
  simp only [Bool.false_eq_true, if_false, Bool.not_false, if_true]
  refine wpAny_bind (m := tryCompare b _ (.ref x)) (wpAny_tryCompare_declines hT hl (hd _ ⟨rfl, ?_⟩))
  refine wpAny_bind (m := tryCompare (.ref x) _ b) (wpAny_mono one (fun r s' z => ?_) fun _ _ e => e)
  obtain ⟨v, rfl, hq⟩ := z
  exact wpAny_pure hq
theorem ne_right {b : Value} {Q : Value → Shared → Prop} (hu : A.units + 1 < cLine) (X : K.In s.heap) (I : InstAt s.heap x ox C od) (hT : s.TypeIs b T) (hsub : subIn K (.ref C) (.type T) = some false) (hl : Slot T "__ne__" idl)
    (hd : ∀ Q' : Value → Shared → Prop, Q' .notImplemented s → wpAny (model prog w) A (call (.builtin idl) [b, .ref x]) Q' E s)
    (hs : findIn K (.ref C) "__eq__" = some (some (.ref f))) (hf : isFn K (.ref f) = true) (hn : findIn K (.ref C) "__ne__" = some (some (.builtin "object.__ne__"))) (ho : subIn K (.ref C) (.type "object") = some true)
    (h : wpAny (model prog w) A.in1 (call (.ref f) [.ref x, b]) (fun v s' => ∃ r, v = .bool r ∧ Q (.bool (!r)) s') E s) : wpAny (model prog w) A (richCompare .NotEq b (.ref x)) Q E s := by
  have one := try_ne hu X I hs hf hn ho h
  have hne : (Value.type T != Value.ref C) = true := by simp
  unfold richCompare
  simp only [hT.oneThing_none]
  refine wpAny_holding (wpAny_bind (wpAny_cRoomFor (Nat.lt_of_succ_lt hu) ?_))
  refine wpAny_bind (wpAny_typeOf hT (wpAny_bind (I.type.here ?_)))
  simp only [hne, if_true]
  refine wpAny_bind ((looks_subIn X hsub).here ?_)
  simp only [Bool.false_eq_true, if_false, Bool.not_false, if_true]
  refine wpAny_bind (m := tryCompare b _ (.ref x)) (wpAny_tryCompare_declines hT hl (hd _ ⟨rfl, ?_⟩))
  refine wpAny_bind (m := tryCompare (.ref x) _ b) (wpAny_mono one (fun r s' z => ?_) fun _ _ e => e)
  obtain ⟨v, rfl, hq, _⟩ := z
  exact wpAny_pure hq
end
/-! ### the built-in types decline -/
section
variable {C l dx : Addr}
theorem int_eq_no (b : Int) (u : Tok) : Meets (Builtin.«int.__eq__» ⟨[.int b u, .ref l], []⟩) (fun _ R s => s.heap.get? l = some (instObj C dx) ∧ R (.ok (.ret .notImplemented)) s) :=
  .of_wp fun prog w A R s h => by obtain ⟨hp, g, d, tk, os⟩ := s; obtain ⟨hl, h⟩ := h; wp_walk using wpAny_loadPart' hl, wpAny_load hl; exact ⟨_, rfl, h⟩
theorem int_ne_no (b : Int) (u : Tok) : Meets (Builtin.«int.__ne__» ⟨[.int b u, .ref l], []⟩) (fun _ R s => s.heap.get? l = some (instObj C dx) ∧ R (.ok (.ret .notImplemented)) s) :=
  .of_wp fun prog w A R s h => by obtain ⟨hp, g, d, tk, os⟩ := s; obtain ⟨hl, h⟩ := h; wp_walk using wpAny_loadPart' hl, wpAny_load hl; exact ⟨_, rfl, h⟩
theorem int_add_no (b : Int) (u : Tok) : Meets (Builtin.«int.__add__» ⟨[.int b u, .ref l], []⟩) (fun _ R s => s.heap.get? l = some (instObj C dx) ∧ R (.ok (.ret .notImplemented)) s) :=
  .of_wp fun prog w A R s h => by obtain ⟨hp, g, d, tk, os⟩ := s; obtain ⟨hl, h⟩ := h; wp_walk using wpAny_loadPart' hl, wpAny_load hl; exact ⟨_, rfl, h⟩
theorem int_sub_no (b : Int) (u : Tok) : Meets (Builtin.«int.__sub__» ⟨[.int b u, .ref l], []⟩) (fun _ R s => s.heap.get? l = some (instObj C dx) ∧ R (.ok (.ret .notImplemented)) s) :=
  .of_wp fun prog w A R s h => by obtain ⟨hp, g, d, tk, os⟩ := s; obtain ⟨hl, h⟩ := h; wp_walk using wpAny_loadPart' hl, wpAny_load hl; exact ⟨_, rfl, h⟩
theorem int_mul_no (b : Int) (u : Tok) : Meets (Builtin.«int.__mul__» ⟨[.int b u, .ref l], []⟩) (fun _ R s => s.heap.get? l = some (instObj C dx) ∧ R (.ok (.ret .notImplemented)) s) :=
  .of_wp fun prog w A R s h => by obtain ⟨hp, g, d, tk, os⟩ := s; obtain ⟨hl, h⟩ := h; wp_walk using wpAny_loadPart' hl, wpAny_load hl; exact ⟨_, rfl, h⟩
theorem bool_eq_no (b : Bool) : Meets (Builtin.«int.__eq__» ⟨[.bool b, .ref l], []⟩) (fun _ R s => s.heap.get? l = some (instObj C dx) ∧ R (.ok (.ret .notImplemented)) s) :=
  .of_wp fun prog w A R s h => by obtain ⟨hp, g, d, tk, os⟩ := s; obtain ⟨hl, h⟩ := h; wp_walk using wpAny_loadPart' hl, wpAny_load hl; exact ⟨_, rfl, h⟩
theorem str_eq_no (b : Str) (u : Tok) : Meets (Builtin.«str.__eq__» ⟨[.str b u, .ref l], []⟩) (fun _ R s => s.heap.get? l = some (instObj C dx) ∧ R (.ok (.ret .notImplemented)) s) :=
  .of_wp fun prog w A R s h => by obtain ⟨hp, g, d, tk, os⟩ := s; obtain ⟨hl, h⟩ := h; wp_walk using wpAny_loadPart' hl, wpAny_load hl; exact ⟨_, rfl, h⟩
end
end OW
set_option Elab.async false
set_option linter.all false
set_option maxRecDepth 100000
set_option maxHeartbeats 4000000
namespace OW
open PySem PySem.Spec PySem.W PySem.Calls PyProof.Rows
open AutoSeq1 (wpAny_loadPart')
section
variable {C x l dx : Addr} {K : Frag} {od : Option Obj}
theorem list_eq_no (hs : subIn K (.ref C) (.type "list") = some false) (items : Array Value) (n : Nat) (dd : Option Addr) (sl : Array (Option Value)) : Meets (Builtin.«list.__eq__» ⟨[.ref l, .ref x], []⟩)
    (fun _ R s => s.heap.get? l = some { cls := .type "list", dict := dd, data := .seq items n, slots := sl } ∧ K.In s.heap ∧ s.heap.get? x = some (instObj C dx) ∧ R (.ok (.ret .notImplemented)) s) :=
  .of_wp fun prog w A R s h => by
    obtain ⟨hl, X, hx, h⟩ := h
    have L : Looks (model prog w) s.heap (isSubtype (.ref C) (.type "list")) false := looks_subIn X hs
    obtain ⟨hp, g, d, tk, os⟩ := s
    wp_walk using wpAny_loadPart' hl, wpAny_loadPart' hx, L.here
    exact ⟨_, rfl, h⟩
theorem tuple_eq_no (hs : subIn K (.ref C) (.type "tuple") = some false) (items : Array Value) (n : Nat) (dd : Option Addr) (sl : Array (Option Value)) : Meets (Builtin.«tuple.__eq__» ⟨[.ref l, .ref x], []⟩)
    (fun _ R s => s.heap.get? l = some { cls := .type "tuple", dict := dd, data := .seq items n, slots := sl } ∧ K.In s.heap ∧ s.heap.get? x = some (instObj C dx) ∧ R (.ok (.ret .notImplemented)) s) :=
  .of_wp fun prog w A R s h => by
    obtain ⟨hl, X, hx, h⟩ := h
    have L : Looks (model prog w) s.heap (isSubtype (.ref C) (.type "tuple")) false := looks_subIn X hs
    obtain ⟨hp, g, d, tk, os⟩ := s
    wp_walk using wpAny_loadPart' hl, wpAny_loadPart' hx, L.here
    exact ⟨_, rfl, h⟩
end
section
variable {prog : Program} {w : World} {A : Around} {E : Value → Shared → Prop} {s : Shared} {K : Frag} {x C a : Addr} {ox : Obj} {od : Option Obj}
theorem dict_eq_no {Q : Value → Shared → Prop} (hT : s.TypeIs (.ref a) "dict") (X : K.In s.heap) (I : InstAt s.heap x ox C od) (hs : subIn K (.ref C) (.type "dict") = some false) (h : Q .notImplemented s) :
    wpAny (model prog w) A (call (.builtin "dict.__eq__") [.ref a, .ref x]) Q E s := by
  have L1 : Looks (model prog w) s.heap (typeOf (.ref x)) (.ref C) := I.type
  have L : Looks (model prog w) s.heap (isInstance (.ref x) (.type "dict")) false := L1.andThen (looks_subIn X hs)
  refine wpAny_call_entry PySem.F.slot_dict_eq hT PySem.F.entry_dict_eq ?_ (PySem.F.args_dict_eq_2 _ _)
  show wpAny _ _ (Builtin.Dict.dictSlotArgs "__eq__" ⟨[.ref a, .ref x], []⟩ >>= _) _ _ s
  refine wpAny_bind ?_
  unfold Builtin.Dict.dictSlotArgs
  refine wpAny_bind (wpAny_notOrdered_dict hT ?_)
  show wpAny _ _ (pure (Value.ref a, Value.ref x)) _ _ s
  refine wpAny_pure ?_
  refine wpAny_bind (L.here ?_)
  wp_walk
  exact ⟨_, rfl, h⟩
end
end OW
set_option Elab.async false
set_option linter.all false
set_option maxRecDepth 100000
set_option maxHeartbeats 4000000
namespace L2
open PySem PySem.Spec PyProof.Rows PySem.Calls
theorem rRef (a : Addr) : RelV (.ref a) (.ref a) := rfl
theorem rInt (i : Int) (t : Tok) : RelV (.int i) (.int i t) := ⟨t, rfl⟩
/-- the class at C has this name as the def at f -/
structure Dun (K : PySem.W.Frag) (C : Addr) (nm : Str) (f : Addr) : Prop where
  at_ : PySem.W.findIn K (.ref C) nm = some (some (.ref f))
  fn : PySem.W.isFn K (.ref f) = true
section
variable {X : Cx} {CX : CXT} {k : Nat} {f C C' a : Addr} {fd : FuncData} {ps : List Str} {sp : Sp} {E : XK} {pins : List (Addr × Obj)} {σ : St} {H : Hp} {s : Shared} {Q : VK}
theorem run_sub {A : Around} {us : List Value} {vs : List V} (sb : Sub X k A) (F : FnOk X.prog X.w X.K X.mg X.base CX k f fd ps sp) (hb : Binds X.K fd ps []) (hx : Passes CX X E)
    (I : Inv X pins σ H s) (r : Vals vs us) (h : sp vs H Q E) : wpAny (model X.prog X.w) A (call (.ref f) us) (EP X pins σ Q) X.xe s := by
  have e0 : Env0 X.prog X.w X.K X.mg X.base A X.stack s H := by
    have e := I.env0
    exact ⟨by rw [sb.fr]; exact e.frames, e.mod, e.bs, e.bsz, e.funs, e.frf, e.hok, e.bare⟩
  have hl := F.len _ _ _ _ h
  refine wpAny_call (codeAny_mono (F.run A X.stack s H ⟨us, []⟩ us vs Q E sb.room e0 (by
    have := hb s us I.kIn (by rw [List.append_nil, ← r.length]; exact hl)
    rw [List.append_nil] at this
    exact this) r h) fun r s' hq => ?_)
  cases r with
  | error e => exact hx pins σ H s e s' I hq
  | ok fl =>
    cases fl with
    | ret w =>
      obtain ⟨z, H', I', rz, q⟩ := I.after hq
      exact ⟨z, H', I', rz, q⟩
    | next => exact False.elim hq
    | brk => exact False.elim hq
    | cont => exact False.elim hq
theorem back_rel {v : V} {u : Value} {s' : Shared} {R : Value → Shared → Prop} (r : RelV v u) (q : R u s') : PySem.W.CmpBack R u s' := by
  cases u
  case notImplemented =>
    cases v with
    | non => exact nomatch (show Value.notImplemented = Value.none from r)
    | bl b => exact nomatch (show Value.notImplemented = Value.bool b from r)
    | int i => obtain ⟨t, e⟩ := (show ∃ t, Value.notImplemented = Value.int i t from r); exact nomatch e
    | str x => obtain ⟨t, e⟩ := (show ∃ t, Value.notImplemented = Value.str x t from r); exact nomatch e
    | byt b => obtain ⟨t, e⟩ := (show ∃ t, Value.notImplemented = Value.bytes b t from r); exact nomatch e
    | flt b => obtain ⟨t, e⟩ := (show ∃ t, Value.notImplemented = Value.float b t from r); exact nomatch e
    | ref a => exact nomatch (show Value.notImplemented = Value.ref a from r)
    | ty n => exact nomatch (show Value.notImplemented = Value.type n from r)
  all_goals exact q
theorem ins_at {dx : Addr} {fs : List (Str × V)} (I : Inv X pins σ H s) (e : H a = some (.ins C dx fs)) : ∃ od, PySem.W.InstAt s.heap a (PySem.W.instObj C dx) C (some od) ∧ s.heap.get? a = some (PySem.W.instObj C dx) := by
  obtain ⟨mA, O, _⟩ := ins_get I.hok e
  obtain ⟨od, J, _⟩ := O.look
  exact ⟨od, J, O.obj⟩
/-- x op y, x an instance whose class has the method, y one of the same class -/
def rOw2 (C : Addr) (sp : Sp) (E : XK) : R2 := fun x y H Q => ∃ a b dx dy fs gs, x = .ref a ∧ y = .ref b ∧ H a = some (.ins C dx fs) ∧ H b = some (.ins C dy gs) ∧ sp [.ref a, .ref b] H Q E
theorem op_own2 {op : Operator} (D : Dun X.K C (PySem.dunder op.info.2) f) (hc : PySem.W.selfFirst X.K C = true) (F : FnOk X.prog X.w X.K X.mg X.base CX k f fd ps sp) (hr : Room k X.A) (hb : Binds X.K fd ps []) (hx : Passes CX X E) :
    OpR X (binaryOp op) (rOw2 C sp E) := by
  intro pins s σ H x y v u Q I rx ry ⟨a, b, dx, dy, fs, gs, ex, ey, ea, eb, h⟩
  subst ex ey
  cases (show v = .ref a from rx)
  cases (show u = .ref b from ry)
  obtain ⟨od, J, _⟩ := ins_at I ea
  obtain ⟨od', J', _⟩ := ins_at I eb
  obtain ⟨m, hF⟩ := I.fr
  exact PySem.W.binop_K hF I.ok.mod.kin J J'.type hc D.at_ D.fn (wpAny_mono (run_sub ⟨hr, rfl⟩ F hb hx I (.cons (rRef a) (.cons (rRef b) .nil)) h) (fun w' s' ⟨z, H', I', rz, q⟩ => back_rel rz ⟨z, H', I', rz, q⟩) fun _ _ e => e)
/-- x op y, y an integer -/
def rOwI (C : Addr) (sp : Sp) (E : XK) : R2 := fun x y H Q => ∃ a i dx fs, x = .ref a ∧ y = .int i ∧ H a = some (.ins C dx fs) ∧ sp [.ref a, .int i] H Q E
theorem op_ownI {op : Operator} {fo ro rc : Option Value} (D : Dun X.K C (PySem.dunder op.info.2) f) (hc : PySem.W.selfFirst X.K C = true) (hR : PySem.W.findIn X.K (.ref C) (dunderR op.info.2) = some rc) (hp : rc = none ∨ ∃ g : Addr, rc = some (.ref g))
    (h1 : PySem.W.findIn X.K (.type "int") (PySem.dunder op.info.2) = some fo) (h2 : PySem.W.findIn X.K (.type "int") (dunderR op.info.2) = some ro) (hs : PySem.W.subIn X.K (.type "int") (.ref C) = some false)
    (F : FnOk X.prog X.w X.K X.mg X.base CX k f fd ps sp) (hr : Room k X.A) (hb : Binds X.K fd ps []) (hx : Passes CX X E) : OpR X (binaryOp op) (rOwI C sp E) := by
  intro pins s σ H x y v u Q I rx ry ⟨a, i, dx, fs, ex, ey, ea, h⟩
  subst ex ey
  cases (show v = .ref a from rx)
  obtain ⟨t, rfl⟩ := (show ∃ t, u = Value.int i t from ry)
  obtain ⟨od, J, _⟩ := ins_at I ea
  obtain ⟨m, hF⟩ := I.fr
  exact PySem.W.ksp_binT hF I.ok.mod.kin J rfl hc D.at_ D.fn hR hp h1 h2 hs (wpAny_mono (run_sub ⟨hr, rfl⟩ F hb hx I (.cons (rRef a) (.cons (rInt i t) .nil)) h) (fun w' s' ⟨z, H', I', rz, q⟩ => back_rel rz ⟨z, H', I', rz, q⟩) fun _ _ e => e)
/-- i op x, i an integer: the reflected method -/
def rIOw (C : Addr) (sp : Sp) (E : XK) : R2 := fun x y H Q => ∃ a i dx fs, x = .int i ∧ y = .ref a ∧ H a = some (.ins C dx fs) ∧ sp [.ref a, .int i] H Q E
theorem op_Iown {op : Operator} {g : Addr} {idl : String} {B : Builtin} (D0 : Dun X.K C (PySem.dunder op.info.2) g) (D : Dun X.K C (dunderR op.info.2) f) (hc : PySem.W.selfFirst X.K C = true)
    (hfT : fillsNumberSlot (.type "int") op.info.2 = pure true) (hl : Slot "int" (PySem.dunder op.info.2) idl) (en : entryFor table idl = some B) (ar : ∀ x y, argsOk idl ⟨[x, y], []⟩)
    (no : ∀ (i : Int) (t : Tok) (l dx : Addr), Meets (B ⟨[.int i t, .ref l], []⟩) (fun _ R s => s.heap.get? l = some (PySem.W.instObj C dx) ∧ R (.ok (.ret .notImplemented)) s)) (hs : PySem.W.subIn X.K (.ref C) (.type "int") = some false)
    (F : FnOk X.prog X.w X.K X.mg X.base CX k f fd ps sp) (hr : Room k X.A) (hb : Binds X.K fd ps []) (hx : Passes CX X E) : OpR X (binaryOp op) (rIOw C sp E) := by
  intro pins s σ H x y v u Q I rx ry ⟨a, i, dx, fs, ex, ey, ea, h⟩
  subst ex ey
  cases (show u = .ref a from ry)
  obtain ⟨t, rfl⟩ := (show ∃ t, v = Value.int i t from rx)
  obtain ⟨od, J, O⟩ := ins_at I ea
  refine OW.binop_right I.kIn J rfl (typeIs_int s i t) hc D0.at_ D.at_ D.fn hfT hs hl (fun Q' q' => call_meets hl (typeIs_int s i t) en (ar _ _) (no i t a dx) ⟨O, q'⟩) ?_
  exact wpAny_mono (run_sub ⟨hr, rfl⟩ F hb hx I (.cons (rRef a) (.cons (rInt i t) .nil)) h) (fun w' s' ⟨z, H', I', rz, q⟩ => back_rel rz ⟨z, H', I', rz, q⟩) fun _ _ e => e
/-- -x -/
def rNeg (C : Addr) (sp : Sp) (E : XK) : V → Hp → VK → Prop := fun x H Q => ∃ a dx fs, x = .ref a ∧ H a = some (.ins C dx fs) ∧ sp [.ref a] H Q E
theorem un_own (D : Dun X.K C "__neg__" f) (F : FnOk X.prog X.w X.K X.mg X.base CX k f fd ps sp) (hr : Room k X.A) (hb : Binds X.K fd ps []) (hx : Passes CX X E) : UnR X (unaryOp .USub) (rNeg C sp E) := by
  intro pins s σ H x v Q I rx ⟨a, dx, fs, ex, ea, h⟩
  subst ex
  cases (show v = .ref a from rx)
  obtain ⟨od, J, _⟩ := ins_at I ea
  obtain ⟨m, hF⟩ := I.fr
  exact PySem.W.ksp_neg hF I.ok.mod.kin J D.at_ D.fn (run_sub ⟨hr, rfl⟩ F hb hx I (.cons (rRef a) .nil) h)
/-- abs(x) -/
def rAbs (C : Addr) (sp : Sp) (E : XK) : List V → Hp → VK → Prop := fun xs H Q => ∃ a dx fs, xs = [.ref a] ∧ H a = some (.ins C dx fs) ∧ sp [.ref a] H Q E
theorem call_absOwn (D : Dun X.K C "__abs__" f) (F : FnOk X.prog X.w X.K X.mg X.base CX k f fd ps sp) (hr : Room (k + 1) X.A) (hb : Binds X.K fd ps []) (hx : Passes CX X E) : CallR X (.builtin "abs") (rAbs C sp E) := by
  intro pins s σ H xs us Q I r ⟨a, dx, fs, ex, ea, h⟩
  subst ex
  obtain ⟨u, rfl, ru⟩ := vals1 r
  cases (show u = .ref a from ru)
  obtain ⟨od, J, _⟩ := ins_at I ea
  refine call_function_entry kind_abs plain_abs entry_abs (args_abs _) ?_
  unfold Builtin.«abs»
  refine wpAny_bind (m := oneArg "abs" _) (wpAny_pure ?_)
  refine wpAny_bind (m := callSpecial? (.ref a) (Str.ofString "__abs__")) (PySem.W.special_fn I.kIn J D.at_ (beq_iff_eq.mp D.fn) (wpAny_mono (run_sub ⟨hr.in1, rfl⟩ F hb hx I (.cons (rRef a) .nil) h) (fun w' s' z => ?_) fun _ _ e => e))
  exact wpAny_pure ⟨_, rfl, z⟩
/-- str(x) -/
def rStr (C : Addr) (sp : Sp) (E : XK) : List V → Hp → VK → Prop := fun xs H Q => ∃ a dx fs, xs = [.ref a] ∧ H a = some (.ins C dx fs) ∧ sp [.ref a] H (fun z H' => (∃ t, z = .str t) ∧ Q z H') E
theorem call_strOwn (D : Dun X.K C "__str__" f) (F : FnOk X.prog X.w X.K X.mg X.base CX k f fd ps sp) (hr : Room (k + 2) X.A) (hb : Binds X.K fd ps []) (hx : Passes CX X E) : CallR X (.type "str") (rStr C sp E) := by
  intro pins s σ H xs us Q I r ⟨a, dx, fs, ex, ea, h⟩
  subst ex
  obtain ⟨u, rfl, ru⟩ := vals1 r
  cases (show u = .ref a from ru)
  obtain ⟨od, J, _⟩ := ins_at I ea
  refine PySem.W.kso_call hr.in1.in1.units0 I.kIn J D.at_ D.fn (wpAny_mono (run_sub ⟨hr.in1.in1, rfl⟩ F hb hx I (.cons (rRef a) .nil) h) (fun w' s' ⟨z, H', I', rz, ⟨t, ez⟩, q⟩ => ?_) fun _ _ e => e)
  subst ez
  obtain ⟨tk, rfl⟩ := (show ∃ tk, w' = Value.str t tk from rz)
  exact ⟨_, H', I', rz, q⟩
end
end L2
set_option Elab.async false
set_option linter.all false
set_option maxRecDepth 100000
set_option maxHeartbeats 4000000
namespace L2
open PySem PySem.Spec PyProof.Rows PySem.Calls
section
variable {X : Cx} {CX : CXT} {k : Nat} {f C a : Addr} {fd : FuncData} {ps : List Str} {sp : Sp} {E : XK} {pins : List (Addr × Obj)} {σ : St} {H : Hp} {s : Shared} {Q : VK}
/-- x == y, x an instance whose class has __eq__ -/
def rEqL (K : PySem.W.Frag) (C : Addr) (sp : Sp) (E : XK) : R2 := fun x y H Q => ∃ a dx fs t, x = .ref a ∧ H a = some (.ins C dx fs) ∧ TyX K H y t ∧ PySem.W.notFirst K C t = true ∧ sp [.ref a, y] H Q E
theorem op_eqL (D : Dun X.K C "__eq__" f) (F : FnOk X.prog X.w X.K X.mg X.base CX k f fd ps sp) (hr : Room k X.A) (hb : Binds X.K fd ps []) (hx : Passes CX X E) : OpR X (compareOp .Eq) (rEqL X.K C sp E) := by
  intro pins s σ H x y v u Q I rx ry ⟨a, dx, fs, t, ex, ea, ty, hn, h⟩
  subst ex
  cases (show v = .ref a from rx)
  obtain ⟨od, J, _⟩ := ins_at I ea
  obtain ⟨m, hF⟩ := I.fr
  obtain ⟨P, Z, p, _⟩ := kit_of I ry ty
  exact PySem.W.cmp_K (op := .Eq) (tb := t) hr.units0 hF I.ok.mod.kin J (Z.ty _ _ I.kIn p) hn D.at_ D.fn (wpAny_mono (run_sub ⟨hr, rfl⟩ F hb hx I (.cons (rRef a) (.cons ry .nil)) h) (fun w' s' ⟨z, H', I', rz, q⟩ => back_rel rz ⟨z, H', I', rz, q⟩) fun _ _ e => e)
/-- x != y, by the class's __eq__ -/
def rNeL (K : PySem.W.Frag) (C : Addr) (sp : Sp) (E : XK) : R2 := fun x y H Q => ∃ a dx fs t, x = .ref a ∧ H a = some (.ins C dx fs) ∧ TyX K H y t ∧ PySem.W.notFirst K C t = true ∧ sp [.ref a, y] H (fun z H' => ∃ r, z = .bl r ∧ Q (.bl (!r)) H') E
structure NeOf (K : PySem.W.Frag) (C : Addr) : Prop where
  ne : PySem.W.findIn K (.ref C) "__ne__" = some (some (.builtin "object.__ne__"))
  ob : PySem.W.subIn K (.ref C) (.type "object") = some true
theorem op_neL (D : Dun X.K C "__eq__" f) (N : NeOf X.K C) (F : FnOk X.prog X.w X.K X.mg X.base CX k f fd ps sp) (hr : Room (k + 1) X.A) (hb : Binds X.K fd ps []) (hx : Passes CX X E) : OpR X (compareOp .NotEq) (rNeL X.K C sp E) := by
  intro pins s σ H x y v u Q I rx ry ⟨a, dx, fs, t, ex, ea, ty, hn, h⟩
  subst ex
  cases (show v = .ref a from rx)
  obtain ⟨od, J, _⟩ := ins_at I ea
  obtain ⟨P, Z, p, _⟩ := kit_of I ry ty
  refine OW.ne_left (by have := hr.un; omega) I.kIn J (Z.ty _ _ I.kIn p) hn D.at_ D.fn N.ne N.ob (wpAny_mono (run_sub ⟨hr.in1, rfl⟩ F hb hx I (.cons (rRef a) (.cons ry .nil)) h) (fun w' s' ⟨z, H', I', rz, r, ez, q⟩ => ?_) fun _ _ e => e)
  subst ez
  cases (show w' = .bool r from rz)
  exact ⟨r, rfl, .bl (!r), H', I', rfl, q⟩
/-- a value of a built-in type, which declines when it is compared with an instance -/
inductive Odd (K : PySem.W.Frag) (H : Hp) : V → String → Prop where
  | non : Odd K H .non "NoneType"
  | bl (b : Bool) : Odd K H (.bl b) "bool"
  | int (i : Int) : Odd K H (.int i) "int"
  | str (x : Str) : Odd K H (.str x) "str"
  | lst {a : Addr} {xs : List V} (e : H a = some (.lst xs)) : Odd K H (.ref a) "list"
  | tup {a : Addr} {xs : List V} (e : H a = some (.tup xs)) : Odd K H (.ref a) "tuple"
  | dK {a : Addr} {kvs : List (Key × V)} (e : H a = some (.dK kvs)) : Odd K H (.ref a) "dict"
theorem Odd.ty {K : PySem.W.Frag} {x : V} {T : String} (o : Odd K H x T) : TyX K H x (.type T) := by
  cases o with
  | non => exact .base .non
  | bl b => exact .base (.bl b)
  | int i => exact .base (.int i)
  | str y => exact .base (.str y)
  | lst e => exact .base (.lst e)
  | tup e => exact .base (.tup e)
  | dK e => exact .base (.dK e)
/-- y == x, y such a value -/
def rEqR (K : PySem.W.Frag) (C : Addr) (sp : Sp) (E : XK) : R2 := fun x y H Q => ∃ a dx fs T, y = .ref a ∧ H a = some (.ins C dx fs) ∧ Odd K H x T ∧ PySem.W.subIn K (.ref C) (.type T) = some false ∧ sp [.ref a, x] H Q E
theorem op_eqR (D : Dun X.K C "__eq__" f) (F : FnOk X.prog X.w X.K X.mg X.base CX k f fd ps sp) (hr : Room k X.A) (hb : Binds X.K fd ps []) (hx : Passes CX X E) : OpR X (compareOp .Eq) (rEqR X.K C sp E) := by
  intro pins s σ H x y v u Q I rx ry ⟨a, dx, fs, T, ey, ea, od', hs, h⟩
  subst ey
  cases (show u = .ref a from ry)
  obtain ⟨od, J, O⟩ := ins_at I ea
  have fin : wpAny (model X.prog X.w) X.A (call (.ref f) [.ref a, v]) (PySem.W.CmpBack (EP X pins σ Q)) X.xe s :=
    wpAny_mono (run_sub ⟨hr, rfl⟩ F hb hx I (.cons (rRef a) (.cons rx .nil)) h) (fun w' s' ⟨z, H', I', rz, q⟩ => back_rel rz ⟨z, H', I', rz, q⟩) fun _ _ e => e
  show wpAny (model X.prog X.w) X.A (richCompare .Eq v (.ref a)) (EP X pins σ Q) X.xe s
  cases od' with
  | non =>
    cases (show v = .none from rx)
    exact OW.eq_right hr.units0 I.kIn J rfl hs PySem.F.slot_NoneType_eq (fun Q' q' => call_gives PySem.F.slot_NoneType_eq rfl PySem.F.entry_NoneType_eq (PySem.F.args_NoneType_eq_2 _ _) (PySem.SeqAt.NoneType___eq___none_ref_0 a) q') D.at_ D.fn fin
  | bl b =>
    cases (show v = .bool b from rx)
    exact OW.eq_right hr.units0 I.kIn J rfl hs PySem.F.slot_bool_eq (fun Q' q' => call_meets PySem.F.slot_bool_eq rfl PySem.F.entry_int_eq (PySem.F.args_int_eq_2 _ _) (OW.bool_eq_no (C := C) (dx := dx) b) ⟨O, q'⟩) D.at_ D.fn fin
  | int i =>
    obtain ⟨t, rfl⟩ := (show ∃ t, v = Value.int i t from rx)
    exact OW.eq_right hr.units0 I.kIn J (typeIs_int s i t) hs PySem.F.slot_int_eq (fun Q' q' => call_meets PySem.F.slot_int_eq (typeIs_int s i t) PySem.F.entry_int_eq (PySem.F.args_int_eq_2 _ _) (OW.int_eq_no (C := C) (dx := dx) i t) ⟨O, q'⟩) D.at_ D.fn fin
  | str z =>
    obtain ⟨t, rfl⟩ := (show ∃ t, v = Value.str z t from rx)
    exact OW.eq_right hr.units0 I.kIn J (typeIs_str s z t) hs PySem.F.slot_str_eq (fun Q' q' => call_meets PySem.F.slot_str_eq (typeIs_str s z t) PySem.F.entry_str_eq (PySem.F.args_str_eq_2 _ _) (OW.str_eq_no (C := C) (dx := dx) z t) ⟨O, q'⟩) D.at_ D.fn fin
  | @lst l xs e =>
    cases (show v = .ref l from rx)
    obtain ⟨z, its, n, r, e1⟩ := I.hok l _ e
    exact OW.eq_right hr.units0 I.kIn J ⟨_, e1, rfl⟩ hs PySem.F.slot_list_eq (fun Q' q' => call_meets PySem.F.slot_list_eq ⟨_, e1, rfl⟩ PySem.F.entry_list_eq (PySem.F.args_list_eq_2 _ _) (OW.list_eq_no hs _ _ _ _) ⟨e1, I.kIn, O, q'⟩) D.at_ D.fn fin
  | @tup l xs e =>
    cases (show v = .ref l from rx)
    obtain ⟨_, its, _, o, h1, h2, n, h3⟩ := (show ObjOk X.prog X.w H s.heap l (.tup xs) from I.hok l _ e)
    obtain ⟨cls, dd, data, sl⟩ := o
    simp only at h2 h3
    subst h2 h3
    exact OW.eq_right hr.units0 I.kIn J ⟨_, h1, rfl⟩ hs PySem.F.slot_tuple_eq (fun Q' q' => call_meets PySem.F.slot_tuple_eq ⟨_, h1, rfl⟩ PySem.F.entry_tuple_eq (PySem.F.args_tuple_eq_2 _ _) (OW.tuple_eq_no hs _ _ _ _) ⟨h1, I.kIn, O, q'⟩) D.at_ D.fn fin
  | @dK l kvs e =>
    cases (show v = .ref l from rx)
    obtain ⟨_, _, vs, _, o, es, ep, h1, h2, _⟩ := (show ObjOk X.prog X.w H s.heap l (.dK kvs) from I.hok l _ e)
    have hT : s.TypeIs (.ref l) "dict" := ⟨_, h1, h2.1⟩
    exact OW.eq_right hr.units0 I.kIn J hT hs PySem.F.slot_dict_eq (fun Q' q' => OW.dict_eq_no hT I.kIn J hs q') D.at_ D.fn fin
/-- i != x, i an integer -/
def rNeR (C : Addr) (sp : Sp) (E : XK) : R2 := fun x y H Q => ∃ a dx fs i, y = .ref a ∧ H a = some (.ins C dx fs) ∧ x = .int i ∧ sp [.ref a, .int i] H (fun z H' => ∃ r, z = .bl r ∧ Q (.bl (!r)) H') E
theorem op_neR (D : Dun X.K C "__eq__" f) (N : NeOf X.K C) (hs : PySem.W.subIn X.K (.ref C) (.type "int") = some false) (F : FnOk X.prog X.w X.K X.mg X.base CX k f fd ps sp) (hr : Room (k + 1) X.A) (hb : Binds X.K fd ps []) (hx : Passes CX X E) :
    OpR X (compareOp .NotEq) (rNeR C sp E) := by
  intro pins s σ H x y v u Q I rx ry ⟨a, dx, fs, i, ey, ea, ex, h⟩
  subst ex ey
  cases (show u = .ref a from ry)
  obtain ⟨t, rfl⟩ := (show ∃ t, v = Value.int i t from rx)
  obtain ⟨od, J, O⟩ := ins_at I ea
  refine OW.ne_right (by have := hr.un; omega) I.kIn J (typeIs_int s i t) hs PySem.F.slot_int_ne (fun Q' q' => call_meets PySem.F.slot_int_ne (typeIs_int s i t) PySem.F.entry_int_ne (PySem.F.args_int_ne_2 _ _) (OW.int_ne_no (C := C) (dx := dx) i t) ⟨O, q'⟩) D.at_ D.fn N.ne N.ob
    (wpAny_mono (run_sub ⟨hr.in1, rfl⟩ F hb hx I (.cons (rRef a) (.cons (rInt i t) .nil)) h) (fun w' s' ⟨z, H', I', rz, r, ez, q⟩ => ?_) fun _ _ e => e)
  subst ez
  cases (show w' = .bool r from rz)
  exact ⟨r, rfl, .bl (!r), H', I', rfl, q⟩
theorem op_neLK {K : PySem.W.Frag} (hK : X.K = K) (D : Dun K C "__eq__" f) (N : NeOf K C) (F : FnOk X.prog X.w K X.mg X.base CX k f fd ps sp) (hr : Room (k + 1) X.A) (hb : Binds K fd ps []) (hx : Passes CX X E) : OpR X (compareOp .NotEq) (rNeL K C sp E) := by
  subst hK
  exact op_neL D N F hr hb hx
theorem op_eqLK {K : PySem.W.Frag} (hK : X.K = K) (D : Dun K C "__eq__" f) (F : FnOk X.prog X.w K X.mg X.base CX k f fd ps sp) (hr : Room k X.A) (hb : Binds K fd ps []) (hx : Passes CX X E) : OpR X (compareOp .Eq) (rEqL K C sp E) := by
  subst hK
  exact op_eqL D F hr hb hx
theorem op_eqRK {K : PySem.W.Frag} (hK : X.K = K) (D : Dun K C "__eq__" f) (F : FnOk X.prog X.w K X.mg X.base CX k f fd ps sp) (hr : Room k X.A) (hb : Binds K fd ps []) (hx : Passes CX X E) : OpR X (compareOp .Eq) (rEqR K C sp E) := by
  subst hK
  exact op_eqR D F hr hb hx
end
end L2
set_option Elab.async false
set_option linter.all false
set_option maxRecDepth 100000
set_option maxHeartbeats 4000000
/-! Fractions: what the class does -/
namespace FR
open PySem PySem.Spec PyProof.Rows L2
def top (i : Nat) : Stmt := PySem.Challenge.pw_surelyends_k01_fractions_as_values.main.body.getD i (.Pass ⟨0, 0, 0, 0⟩)
abbrev sPlain : Stmt := top 8
abbrev sFrac : Stmt := top 12
abbrev sInit : Stmt := inClass sFrac 0
abbrev sTop : Stmt := inClass sFrac 1
abbrev sBot : Stmt := inClass sFrac 2
abbrev sAs : Stmt := top 14
/-! ### the mathematics of the least form -/
/-- what both are divided by -/
def dv (t b : Int) : Int := if b < 0 then -((Nat.gcd t.natAbs b.natAbs : Nat) : Int) else ((Nat.gcd t.natAbs b.natAbs : Nat) : Int)
def nT (t b : Int) : Int := t.fdiv (dv t b)
def nB (t b : Int) : Int := b.fdiv (dv t b)
theorem dv_ne {t b : Int} (h : b ≠ 0) : dv t b ≠ 0 := by
  have z : 0 < Nat.gcd t.natAbs b.natAbs := Nat.gcd_pos_of_pos_right _ (by omega)
  unfold dv
  split <;> omega
theorem dv_le {t b : Int} (h : b ≠ 0) : (dv t b).natAbs ≤ b.natAbs := by
  have z : Nat.gcd t.natAbs b.natAbs ≤ b.natAbs := Nat.gcd_le_right _ (by omega)
  unfold dv
  split <;> omega
/-! ### divisions by great numbers of both signs -/
def CDivX (_ j : Int) : Prop := j ≠ 0 ∧ j.natAbs.log2 < 9000
theorem op_fdivX {X : Cx} : OpR X (binaryOp .FloorDiv) (rI CDivX fun i j => .int (i.fdiv j)) := opI fun i j _ _ _ _ _ hc q => floordiv_int hc.1 q (.inl (PyProof.noPylong_of_log2 hc.2))
theorem div_ok {i j : Int} {n : Nat} (h : j ≠ 0) (hb : j.natAbs < 2 ^ n) (h0 : 0 < n) (h9 : n ≤ 9000) : CDivX i j := ⟨h, Nat.lt_of_lt_of_le (PySem.Flt.log2_lt_of h0 hb) h9⟩
/-! ### what is an integer -/
def spPlain (K : PySem.W.Frag) : Sp := fun vs H Q _ => ∃ (v : V) (t : Value) (b1 b2 : Bool), vs = [v] ∧ TyX K H v t ∧ PySem.W.kitOne K t (.type "int") = some b1 ∧ PySem.W.kitOne K t (.type "bool") = some b2 ∧ Q (.bl (b1 && !b2)) H
section
variable {P : Program} {w : World} {K : PySem.W.Frag} {mg : Str → Option Value} {base : Heap}
theorem scP : FnScope ["value"] ["value"] (defScope sPlain) := ⟨rfl, rfl, rfl, by decide +kernel, rfl, by decide +kernel, by decide +kernel⟩
theorem ok_plain {f : Addr} {fd : FuncData} (F : Fun K "is_plain_integer" "is_plain_integer" sPlain f fd) (m1 : mg "isinstance" = none) (m2 : mg "int" = none) (m3 : mg "bool" = none) : FnOk P w K mg base CX0 1 f fd ["value"] (spPlain K) := by
  refine F.ok scP (fun vs H Q E h => ?_) (fun cdv A outer s H vs Q E hr h => ?_)
  · obtain ⟨v, _, _, _, rfl, _⟩ := h
    rfl
  · obtain ⟨v, t, b1, b2, rfl, ht, h1, h2, k⟩ := h
    refine ⟨_, pss_one (ps_ret (pe_and (pe_callB call_isi (by rfl) m1 PyProof.Rows.boot_isinstance (pa_cons (pv 0) (pa_cons (pe_bltn (v := .ty "int") (by rfl) m2 (by decide +kernel) rfl) pa_nil)))
      (pe_one (pe_not (pe_callB call_isi (by rfl) m1 PyProof.Rows.boot_isinstance (pa_cons (pv 0) (pa_cons (pe_bltn (v := .ty "bool") (by rfl) m3 (by decide +kernel) rfl) pa_nil))))))), ?_⟩
    refine ⟨_, rfl, v, _, t, _, b1, rfl, .ty _, ht, h1, _, rfl, ?_⟩
    cases b1 with
    | false => exact k
    | true => exact ⟨_, rfl, v, _, t, _, b2, rfl, .ty _, ht, h2, _, rfl, k⟩
theorem kI1 : PySem.W.kitOne K (.type "int") (.type "int") = some true := kit_ty (by decide +kernel)
theorem kI2 : PySem.W.kitOne K (.type "int") (.type "bool") = some false := kit_ty (by decide +kernel)
/-! ### a Fraction -/
def fl (t b : Int) : List (Str × V) := putF "_bottom" (.int b) (putF "_top" (.int t) [])
theorem nTB : ¬ (("_top" : Str) = "_bottom") := by decide +kernel
theorem fl_top (t b : Int) : (fl t b).lookup ("_top" : Str) = some (.int t) := by
  unfold fl
  rw [lookup_putF, if_neg nTB, lookup_putF, if_pos rfl]
theorem fl_bot (t b : Int) : (fl t b).lookup ("_bottom" : Str) = some (.int b) := by
  unfold fl
  rw [lookup_putF, if_pos rfl]
theorem fl_no (t b : Int) {m : Str} (h1 : ¬ m = "_bottom") (h2 : ¬ m = "_top") : (fl t b).lookup m = none := by
  unfold fl
  rw [lookup_putF, if_neg h1, lookup_putF, if_neg h2]
  all_goals rfl
/-- a Fraction with this top and bottom stands at p -/
def FrAt (C : Addr) (H : Hp) (p : Addr) (t b : Int) : Prop := ∃ dx, H p = some (.ins C dx (fl t b))
structure TxtF (K : PySem.W.Frag) (mg : Str → Option Value) (C : Addr) : Prop where
  cl : Cls K C
  nT : NoAttr K C "_top"
  nB : NoAttr K C "_bottom"
  mC : mg "Fraction" = some (.ref C)
  gcd : mg "gcd" = some (.builtin "math.gcd")
def spInit (C : Addr) : Sp := fun vs H Q _ => ∃ (p dx : Addr) (t b : Int), vs = [.ref p, .int t, .int b] ∧ H p = some (.ins C dx []) ∧ b ≠ 0 ∧ b.natAbs < 2 ^ 8000 ∧
  ∀ H', FrAt C H' p (nT t b) (nB t b) → (∀ q o, q ≠ p → H q = some o → H' q = some o) → Q .non H'
theorem scI : FnScope ["self", "top", "bottom", "shared"] ["self", "top", "bottom"] (defScope sInit) := ⟨rfl, rfl, rfl, by decide +kernel, rfl, by decide +kernel, by decide +kernel⟩
theorem ok_init {f fP C : Addr} {fd fdP : FuncData} (F : FunD K "__init__" "Fraction.__init__" (defArgs sInit) (defBody sInit) (defScope sInit) [V.int 1] [] f fd) (T : TxtF K mg C) (GP : FnOk P w K mg base CX0 1 fP fdP ["value"] (spPlain K)) (mP : mg "is_plain_integer" = some (.ref fP)) (kP : PySem.W.keepIn K (.ref fP) = true)
    (bP : Binds K fdP ["value"] []) : FnOk P w K mg base CX0 2 f fd ["self", "top", "bottom"] (spInit C) := by
  refine F.ok scI (fun vs H Q E h => ?_) (fun cdv A outer s H vs Q E hr h => ?_)
  · obtain ⟨p, dx, t, b, rfl, _⟩ := h
    rfl
  · obtain ⟨p, dx, t, b, rfl, hp, hb, hz, k⟩ := h
    refine ⟨_, pss_cons (ps_if (PW.pt (pw_or (pt_not (pt_val (pe_call GP hr (by rfl) mP kP bP .nil pass0 (pa_cons (pv 1) pa_nil)))) (pw_or (pt_not (pt_val (pe_call GP hr (by rfl) mP kP bP .nil pass0 (pa_cons (pv 2) pa_nil))))
        (pw_or1 (pt_cmpR op_eq (pv 2) pe_int (nomark _)))))) pss_never pss_nil)
      (pss_cons (ps_set (i := 3) scI.nd rfl (Or.inl rfl) (pe_callBfun cr_gcd (by rfl) T.gcd (pa_cons (pv 1) (pa_cons (pv 2) pa_nil))))
      (pss_cons (ps_if (pt_cmpR op_lt (pv 2) pe_int (nomark _)) (pss_one (ps_set (i := 3) scI.nd rfl (Or.inl rfl) (pe_un un_neg (pv 3)))) pss_nil)
      (pss_cons (ps_fld (pv 0) (pe_op op_fdivX (pv 1) (pv 3)) rfl)
      (pss_one (ps_fld (pv 0) (pe_op op_fdivX (pv 2) (pv 3)) rfl))))), ?_⟩
    refine ⟨_, rfl, _, _, true, false, rfl, .base (.int t), kI1, kI2, _, rfl, iteF ?_⟩
    refine ⟨_, rfl, _, _, true, false, rfl, .base (.int b), kI1, kI2, _, rfl, iteF ?_⟩
    refine ⟨_, rfl, rfl, _, rfl, ite2 (fun z => (hb (V.int.inj (of_decide_eq_true z))).elim) (fun _ => ?_)⟩
    refine ⟨_, rfl, _, rfl, t, b, rfl, ?_⟩
    refine ⟨_, rfl, _, _, rfl, rfl, _, rfl, ite2 (fun hn => ?_) (fun hn => ?_)⟩
    · have hn := of_decide_eq_true hn
      have ed : dv t b = -((Nat.gcd t.natAbs b.natAbs : Nat) : Int) := if_pos hn
      have dz : ∀ i : Int, CDivX i (-((Nat.gcd t.natAbs b.natAbs : Nat) : Int)) := fun i => by
        rw [← ed]
        exact div_ok (dv_ne hb) (Nat.lt_of_le_of_lt (dv_le hb) hz) (by decide) (by decide)
      refine ⟨_, rfl, _, rfl, ?_⟩
      refine ⟨_, rfl, _, rfl, _, _, rfl, rfl, dz _, _, rfl, p, C, dx, _, rfl, hp, T.cl, T.nT, (by show 0 < 1000; decide), ?_⟩
      refine ⟨_, rfl, _, rfl, _, _, rfl, rfl, dz _, _, rfl, p, C, dx, _, rfl, upd_same, T.cl, T.nB, (by show 1 < 1000; decide), ?_⟩
      refine k _ ⟨dx, ?_⟩ fun q o hq e => by rw [upd_ne hq, upd_ne hq]; exact e
      unfold nT nB
      rw [ed]
      exact upd_same
    · have hn : ¬ b < 0 := fun z => hn (decide_eq_true z)
      have ed : dv t b = ((Nat.gcd t.natAbs b.natAbs : Nat) : Int) := if_neg hn
      have dz : ∀ i : Int, CDivX i ((Nat.gcd t.natAbs b.natAbs : Nat) : Int) := fun i => by
        rw [← ed]
        exact div_ok (dv_ne hb) (Nat.lt_of_le_of_lt (dv_le hb) hz) (by decide) (by decide)
      refine ⟨_, rfl, _, rfl, _, _, rfl, rfl, dz _, _, rfl, p, C, dx, _, rfl, hp, T.cl, T.nT, (by show 0 < 1000; decide), ?_⟩
      refine ⟨_, rfl, _, rfl, _, _, rfl, rfl, dz _, _, rfl, p, C, dx, _, rfl, upd_same, T.cl, T.nB, (by show 1 < 1000; decide), ?_⟩
      refine k _ ⟨dx, ?_⟩ fun q o hq e => by rw [upd_ne hq, upd_ne hq]; exact e
      unfold nT nB
      rw [ed]
      exact upd_same
end
end FR
set_option Elab.async false
set_option linter.all false
set_option maxRecDepth 100000
set_option maxHeartbeats 4000000
namespace FR
open PySem PySem.Spec PyProof.Rows L2
section
variable {P : Program} {w : World} {K : PySem.W.Frag} {mg : Str → Option Value} {base : Heap}
/-- how Fraction(t) binds, and Fraction(t, b) -/
theorem init_binds {f : Addr} {fd : FuncData} (F : FunD K "__init__" "Fraction.__init__" (defArgs sInit) (defBody sInit) (defScope sInit) [V.int 1] [] f fd) :
    (∃ ds, Vals [V.int 1] ds ∧ Binds K fd ["self", "top", "bottom"] ds) ∧ Binds K fd ["self", "top", "bottom"] [] := by
  have b1 := F.binds1 (ps := ["self", "top", "bottom"]) 2 0 (by simp) rfl fun T kV doc pm an cdv ct us its hu hi => match us, its, hu, hi with | [_, _], [_], _, _ => ⟨_, rfl, rfl⟩
  have b2 := F.binds1 (ps := ["self", "top", "bottom"]) 3 1 (by simp) rfl fun T kV doc pm an cdv ct us its hu hi => match us, its, hu, hi with | [_, _, _], [_], _, _ => ⟨_, rfl, rfl⟩
  obtain ⟨ds, v, b⟩ := b2
  cases v
  exact ⟨b1, b⟩
/-! ### what the other defs lean on -/
theorem dv_one (t : Int) : dv t 1 = 1 := by
  unfold dv
  rw [if_neg (by decide)]
  have z : Nat.gcd t.natAbs (1 : Int).natAbs = 1 := Nat.gcd_one_right _
  rw [z]
  rfl
theorem nT_one (t : Int) : nT t 1 = t := by
  unfold nT
  rw [dv_one, Int.fdiv_one]
theorem nB_one (t : Int) : nB t 1 = 1 := by
  unfold nB
  rw [dv_one, Int.fdiv_one]
/-- a Fraction, or an integer, and what it stands for -/
def FV (C : Addr) (H : Hp) (v : V) (t b : Int) : Prop := (∃ p, v = .ref p ∧ FrAt C H p t b) ∨ (v = .int t ∧ b = 1)
theorem FrAt.same {C : Addr} {H H' : Hp} {p : Addr} {t b : Int} (h : FrAt C H p t b) (s : Same H H') : FrAt C H' p t b := by
  obtain ⟨dx, e⟩ := h
  exact ⟨dx, s _ _ e⟩
theorem FV.same {C : Addr} {H H' : Hp} {v : V} {t b : Int} (h : FV C H v t b) (s : Same H H') : FV C H' v t b := by
  rcases h with ⟨p, e, z⟩ | z
  · exact .inl ⟨p, e, z.same s⟩
  · exact .inr z
structure FrK (P : Program) (w : World) (K : PySem.W.Frag) (mg : Str → Option Value) (base : Heap) (C fI pT gT pB gB : Addr) (fdI fdT fdB : FuncData) : Prop where
  T : TxtF K mg C
  M : Mk K C fI
  GI : FnOk P w K mg base CX0 2 fI fdI ["self", "top", "bottom"] (spInit C)
  b1 : ∃ ds, Vals [V.int 1] ds ∧ Binds K fdI ["self", "top", "bottom"] ds
  b2 : Binds K fdI ["self", "top", "bottom"] []
  oT : PropOf K C "top" pT gT
  GT : FnOk P w K mg base CX0 1 gT fdT ["self"] (getSp C "_top")
  bT : Binds K fdT ["self"] []
  oB : PropOf K C "bottom" pB gB
  GB : FnOk P w K mg base CX0 1 gB fdB ["self"] (getSp C "_bottom")
  bB : Binds K fdB ["self"] []
  is : mg "isinstance" = none
  ha : PySem.W.findIn K (.ref C) "__class__" = some (some (.builtin "object.__class__"))
  hn : PySem.W.specialIn K (.builtin "object.__class__") "__get__" = some (some (.builtin "getset_descriptor.__get__"))
  tk : PySem.W.takesIn K (.builtin "object.__class__") = some true
  hm : PySem.W.mroIn K C (.type "object") = some true
  iC : PySem.W.kitOne K (.type "int") (.ref C) = some false
theorem kit_self (K : PySem.W.Frag) (C : Addr) : PySem.W.kitOne K (.ref C) (.ref C) = some true := if_pos (by simp)
def spAs (C : Addr) : Sp := fun vs H Q _ => ∃ (v : V) (t b : Int), vs = [v] ∧ FV C H v t b ∧ ∀ p H', FrAt C H' p t b → Same H H' → Q (.ref p) H'
theorem scA : FnScope ["value"] ["value"] (defScope sAs) := ⟨rfl, rfl, rfl, by decide +kernel, rfl, by decide +kernel, by decide +kernel⟩
theorem same_make {H H' : Hp} {x dx : Addr} (nx : H x = none) (nd : H dx = none) (s : ∀ q o, q ≠ x → upd (upd H dx (.own x)) x (.ins C dx []) q = some o → H' q = some o) : Same H H' := fun q o e => by
  have h1 : q ≠ x := ne_of_none e nx
  refine s q o h1 ?_
  rw [upd_ne h1, upd_ne (ne_of_none e nd)]
  exact e
variable {C fI pT gT pB gB : Addr} {fdI fdT fdB : FuncData}
theorem ok_as {f : Addr} {fd : FuncData} (F : Fun K "as_fraction" "as_fraction" sAs f fd) (k : FrK P w K mg base C fI pT gT pB gB fdI fdT fdB) : FnOk P w K mg base CX0 4 f fd ["value"] (spAs C) := by
  obtain ⟨ds, vds, bds⟩ := k.b1
  refine F.ok scA (fun vs H Q E h => ?_) (fun cdv A outer s H vs Q E hr h => ?_)
  · obtain ⟨v, t, b, rfl, _⟩ := h
    rfl
  · obtain ⟨v, t, b, rfl, hv, q⟩ := h
    refine ⟨_, pss_one (ps_ret (pe_ifExp (pt_val (pe_callB call_isi (by rfl) k.is PyProof.Rows.boot_isinstance (pa_cons (pv 0) (pa_cons (pe_glob (v := .ref C) (by rfl) k.T.mC rfl) pa_nil)))) (pv 0)
      (pe_make k.M k.GI hr (by rfl) k.T.mC bds vds pass0 (pa_cons (pv 0) pa_nil)))), ?_⟩
    rcases hv with ⟨p, rfl, dx, hp⟩ | ⟨rfl, rfl⟩
    · refine ⟨_, rfl, _, _, _, _, true, rfl, .own _, .base (.ins hp k.T.cl k.ha k.hn k.tk k.hm), kit_self K C, _, rfl, ?_⟩
      exact ⟨_, rfl, q p H ⟨dx, hp⟩ (Same.refl H)⟩
    · refine ⟨_, rfl, _, _, _, _, false, rfl, .own _, .base (.int t), k.iC, _, rfl, ?_⟩
      refine ⟨_, rfl, fun x dx nx nd ne => ?_⟩
      refine ⟨x, dx, t, 1, rfl, upd_same, by decide, by decide, fun H' hf hs => ⟨rfl, ?_⟩⟩
      rw [nT_one, nB_one] at hf
      exact q x H' hf (same_make (C := C) nx nd hs)
/-- a bound for what stands in a Fraction -/
def Sz (t b : Int) : Prop := t.natAbs < 2 ^ 3000 ∧ b.natAbs < 2 ^ 3000 ∧ b ≠ 0
theorem Sz.mul {t b t' b' : Int} (h : Sz t b) (h' : Sz t' b') : CMulW t t' ∧ CMulW t b' ∧ CMulW t' b ∧ CMulW b b' ∧ (b * b').natAbs < 2 ^ 8000 ∧ b * b' ≠ 0 := by
  obtain ⟨h1, h2, h3⟩ := h
  obtain ⟨g1, g2, g3⟩ := h'
  refine ⟨wide_mul h1 g1 (by decide) (by decide) (by decide), wide_mul h1 g2 (by decide) (by decide) (by decide), wide_mul g1 h2 (by decide) (by decide) (by decide), wide_mul h2 g2 (by decide) (by decide) (by decide), ?_, Int.mul_ne_zero h3 g3⟩
  exact Nat.lt_of_lt_of_le (wide_lt h2 g2) (Nat.pow_le_pow_right (by decide) (by decide))
def spOp (C : Addr) (f : Int → Int → Int → Int → Int) : Sp := fun vs H Q _ => ∃ (p : Addr) (v : V) (t b t' b' : Int), vs = [.ref p, v] ∧ FrAt C H p t b ∧ FV C H v t' b' ∧ Sz t b ∧ Sz t' b' ∧
  ∀ q H', FrAt C H' q (nT (f t b t' b') (b * b')) (nB (f t b t' b') (b * b')) → Same H H' → H q = none → Q (.ref q) H'
def fAdd (t b t' b' : Int) : Int := t * b' + t' * b
def fSub (t b t' b' : Int) : Int := t * b' - t' * b
def fMul (t _ t' _ : Int) : Int := t * t'
abbrev sAdd : Stmt := inClass sFrac 3
theorem scAdd : FnScope ["self", "other", "more"] ["self", "other"] (defScope sAdd) := ⟨rfl, rfl, rfl, by decide +kernel, rfl, by decide +kernel, by decide +kernel⟩
theorem ok_add {f fA : Addr} {fd fdA : FuncData} (F : Fun K "__add__" "Fraction.__add__" sAdd f fd) (k : FrK P w K mg base C fI pT gT pB gB fdI fdT fdB) (GA : FnOk P w K mg base CX0 4 fA fdA ["value"] (spAs C)) (mA : mg "as_fraction" = some (.ref fA))
    (kA : PySem.W.keepIn K (.ref fA) = true) (bA : Binds K fdA ["value"] []) : FnOk P w K mg base CX0 5 f fd ["self", "other"] (spOp C fAdd) := by
  refine F.ok scAdd (fun vs H Q E h => ?_) (fun cdv A outer s H vs Q E hr h => ?_)
  · obtain ⟨p, v, t, b, t', b', rfl, _⟩ := h
    rfl
  · obtain ⟨p, v, t, b, t', b', rfl, ⟨dp, hp⟩, hv, z1, z2, q⟩ := h
    obtain ⟨m1, m2, m3, m4, m5, m6⟩ := z1.mul z2
    refine ⟨_, pss_cons (ps_set (i := 2) scAdd.nd rfl (Or.inl rfl) (pe_call GA hr (by rfl) mA kA bA .nil pass0 (pa_cons (pv 1) pa_nil)))
      (pss_one (ps_ret (pe_make k.M k.GI (hr.mono (by decide)) (by rfl) k.T.mC k.b2 .nil pass0 (pa_cons (pe_op op_add (pe_op op_mulW (pe_prop (pv 0) k.T.cl k.oT k.GT (hr.mono (by decide)) k.bT .nil pass0 rfl) (pe_prop (pv 2) k.T.cl k.oB k.GB (hr.mono (by decide)) k.bB .nil pass0 rfl)) (pe_op op_mulW (pe_prop (pv 2) k.T.cl k.oT k.GT (hr.mono (by decide)) k.bT .nil pass0 rfl) (pe_prop (pv 0) k.T.cl k.oB k.GB (hr.mono (by decide)) k.bB .nil pass0 rfl))) (pa_cons (pe_op op_mulW (pe_prop (pv 0) k.T.cl k.oB k.GB (hr.mono (by decide)) k.bB .nil pass0 rfl) (pe_prop (pv 2) k.T.cl k.oB k.GB (hr.mono (by decide)) k.bB .nil pass0 rfl)) pa_nil))))), ?_⟩
    refine ⟨_, rfl, v, t', b', rfl, hv, fun m H1 ⟨dm, hm⟩ sm => ?_⟩
    have hp := sm _ _ hp
    refine ⟨_, rfl, p, dp, _, rfl, hp, p, dp, _, _, rfl, hp, fl_top _ _, _, rfl, m, dm, _, rfl, hm, m, dm, _, _, rfl, hm, fl_bot _ _, _, _, rfl, rfl, m2, _, rfl, m, dm, _, rfl, hm, m, dm, _, _, rfl, hm, fl_top _ _, _, rfl, p, dp, _, rfl, hp, p, dp, _, _, rfl, hp, fl_bot _ _, _, _, rfl, rfl, m3, _, _, rfl, rfl, _, rfl, p, dp, _, rfl, hp, p, dp, _, _, rfl, hp, fl_bot _ _, _, rfl, m, dm, _, rfl, hm, m, dm, _, _, rfl, hm, fl_bot _ _, _, _, rfl, rfl, m4, fun x dx nx nd ne => ?_⟩
    refine ⟨x, dx, _, _, rfl, upd_same, m6, m5, fun H' hf hs => ⟨rfl, ?_⟩⟩
    exact q x H' hf (sm.trans (same_make (C := C) nx nd hs)) (Same.free sm nx)
abbrev sSub : Stmt := inClass sFrac 5
theorem scSub : FnScope ["self", "other", "less"] ["self", "other"] (defScope sSub) := ⟨rfl, rfl, rfl, by decide +kernel, rfl, by decide +kernel, by decide +kernel⟩
theorem ok_sub {f fA : Addr} {fd fdA : FuncData} (F : Fun K "__sub__" "Fraction.__sub__" sSub f fd) (k : FrK P w K mg base C fI pT gT pB gB fdI fdT fdB) (GA : FnOk P w K mg base CX0 4 fA fdA ["value"] (spAs C)) (mA : mg "as_fraction" = some (.ref fA))
    (kA : PySem.W.keepIn K (.ref fA) = true) (bA : Binds K fdA ["value"] []) : FnOk P w K mg base CX0 5 f fd ["self", "other"] (spOp C fSub) := by
  refine F.ok scSub (fun vs H Q E h => ?_) (fun cdv A outer s H vs Q E hr h => ?_)
  · obtain ⟨p, v, t, b, t', b', rfl, _⟩ := h
    rfl
  · obtain ⟨p, v, t, b, t', b', rfl, ⟨dp, hp⟩, hv, z1, z2, q⟩ := h
    obtain ⟨m1, m2, m3, m4, m5, m6⟩ := z1.mul z2
    refine ⟨_, pss_cons (ps_set (i := 2) scSub.nd rfl (Or.inl rfl) (pe_call GA hr (by rfl) mA kA bA .nil pass0 (pa_cons (pv 1) pa_nil)))
      (pss_one (ps_ret (pe_make k.M k.GI (hr.mono (by decide)) (by rfl) k.T.mC k.b2 .nil pass0 (pa_cons (pe_op op_sub (pe_op op_mulW (pe_prop (pv 0) k.T.cl k.oT k.GT (hr.mono (by decide)) k.bT .nil pass0 rfl) (pe_prop (pv 2) k.T.cl k.oB k.GB (hr.mono (by decide)) k.bB .nil pass0 rfl)) (pe_op op_mulW (pe_prop (pv 2) k.T.cl k.oT k.GT (hr.mono (by decide)) k.bT .nil pass0 rfl) (pe_prop (pv 0) k.T.cl k.oB k.GB (hr.mono (by decide)) k.bB .nil pass0 rfl))) (pa_cons (pe_op op_mulW (pe_prop (pv 0) k.T.cl k.oB k.GB (hr.mono (by decide)) k.bB .nil pass0 rfl) (pe_prop (pv 2) k.T.cl k.oB k.GB (hr.mono (by decide)) k.bB .nil pass0 rfl)) pa_nil))))), ?_⟩
    refine ⟨_, rfl, v, t', b', rfl, hv, fun m H1 ⟨dm, hm⟩ sm => ?_⟩
    have hp := sm _ _ hp
    refine ⟨_, rfl, p, dp, _, rfl, hp, p, dp, _, _, rfl, hp, fl_top _ _, _, rfl, m, dm, _, rfl, hm, m, dm, _, _, rfl, hm, fl_bot _ _, _, _, rfl, rfl, m2, _, rfl, m, dm, _, rfl, hm, m, dm, _, _, rfl, hm, fl_top _ _, _, rfl, p, dp, _, rfl, hp, p, dp, _, _, rfl, hp, fl_bot _ _, _, _, rfl, rfl, m3, _, _, rfl, rfl, _, rfl, p, dp, _, rfl, hp, p, dp, _, _, rfl, hp, fl_bot _ _, _, rfl, m, dm, _, rfl, hm, m, dm, _, _, rfl, hm, fl_bot _ _, _, _, rfl, rfl, m4, fun x dx nx nd ne => ?_⟩
    refine ⟨x, dx, _, _, rfl, upd_same, m6, m5, fun H' hf hs => ⟨rfl, ?_⟩⟩
    exact q x H' hf (sm.trans (same_make (C := C) nx nd hs)) (Same.free sm nx)
abbrev sMul : Stmt := inClass sFrac 7
theorem scMul : FnScope ["self", "other", "factor"] ["self", "other"] (defScope sMul) := ⟨rfl, rfl, rfl, by decide +kernel, rfl, by decide +kernel, by decide +kernel⟩
theorem ok_mul {f fA : Addr} {fd fdA : FuncData} (F : Fun K "__mul__" "Fraction.__mul__" sMul f fd) (k : FrK P w K mg base C fI pT gT pB gB fdI fdT fdB) (GA : FnOk P w K mg base CX0 4 fA fdA ["value"] (spAs C)) (mA : mg "as_fraction" = some (.ref fA))
    (kA : PySem.W.keepIn K (.ref fA) = true) (bA : Binds K fdA ["value"] []) : FnOk P w K mg base CX0 5 f fd ["self", "other"] (spOp C fMul) := by
  refine F.ok scMul (fun vs H Q E h => ?_) (fun cdv A outer s H vs Q E hr h => ?_)
  · obtain ⟨p, v, t, b, t', b', rfl, _⟩ := h
    rfl
  · obtain ⟨p, v, t, b, t', b', rfl, ⟨dp, hp⟩, hv, z1, z2, q⟩ := h
    obtain ⟨m1, m2, m3, m4, m5, m6⟩ := z1.mul z2
    refine ⟨_, pss_cons (ps_set (i := 2) scMul.nd rfl (Or.inl rfl) (pe_call GA hr (by rfl) mA kA bA .nil pass0 (pa_cons (pv 1) pa_nil)))
      (pss_one (ps_ret (pe_make k.M k.GI (hr.mono (by decide)) (by rfl) k.T.mC k.b2 .nil pass0 (pa_cons (pe_op op_mulW (pe_prop (pv 0) k.T.cl k.oT k.GT (hr.mono (by decide)) k.bT .nil pass0 rfl) (pe_prop (pv 2) k.T.cl k.oT k.GT (hr.mono (by decide)) k.bT .nil pass0 rfl)) (pa_cons (pe_op op_mulW (pe_prop (pv 0) k.T.cl k.oB k.GB (hr.mono (by decide)) k.bB .nil pass0 rfl) (pe_prop (pv 2) k.T.cl k.oB k.GB (hr.mono (by decide)) k.bB .nil pass0 rfl)) pa_nil))))), ?_⟩
    refine ⟨_, rfl, v, t', b', rfl, hv, fun m H1 ⟨dm, hm⟩ sm => ?_⟩
    have hp := sm _ _ hp
    refine ⟨_, rfl, p, dp, _, rfl, hp, p, dp, _, _, rfl, hp, fl_top _ _, _, rfl, m, dm, _, rfl, hm, m, dm, _, _, rfl, hm, fl_top _ _, _, _, rfl, rfl, m1, _, rfl, p, dp, _, rfl, hp, p, dp, _, _, rfl, hp, fl_bot _ _, _, rfl, m, dm, _, rfl, hm, m, dm, _, _, rfl, hm, fl_bot _ _, _, _, rfl, rfl, m4, fun x dx nx nd ne => ?_⟩
    refine ⟨x, dx, _, _, rfl, upd_same, m6, m5, fun H' hf hs => ⟨rfl, ?_⟩⟩
    exact q x H' hf (sm.trans (same_make (C := C) nx nd hs)) (Same.free sm nx)
end
end FR
set_option Elab.async false
set_option linter.all false
set_option maxRecDepth 100000
set_option maxHeartbeats 4000000
namespace FR
open PySem PySem.Spec PyProof.Rows L2
section
variable {P : Program} {w : World} {K : PySem.W.Frag} {mg : Str → Option Value} {base : Heap} {C fI pT gT pB gB : Addr} {fdI fdT fdB : FuncData}
/-- what the text says of a built-in type beside the class -/
structure OddC (K : PySem.W.Frag) (C : Addr) (T : String) : Prop where
  k : PySem.W.kitOne K (.type T) (.ref C) = some false
  s : PySem.W.subIn K (.ref C) (.type T) = some false
  n : PySem.W.notFirst K C (.type T) = true
structure OddsC (K : PySem.W.Frag) (C : Addr) : Prop where
  non : OddC K C "NoneType"
  bl : OddC K C "bool"
  int : OddC K C "int"
  str : OddC K C "str"
  lst : OddC K C "list"
  tup : OddC K C "tuple"
  dK : OddC K C "dict"
theorem OddsC.of {H : Hp} (o : OddsC K C) {x : V} {T : String} (h : Odd K H x T) : OddC K C T := by
  cases h with
  | non => exact o.non
  | bl b => exact o.bl
  | int i => exact o.int
  | str y => exact o.str
  | lst e => exact o.lst
  | tup e => exact o.tup
  | dK e => exact o.dK
/-- a fraction, or a value of a built-in type; and whether a fraction t / b is equal to it -/
def Oth (K : PySem.W.Frag) (C : Addr) (H : Hp) (v : V) (t b : Int) (r : Bool) : Prop :=
  (∃ q t' b', v = .ref q ∧ FrAt C H q t' b' ∧ r = decide (t = t' ∧ b = b')) ∨ (∃ i, v = .int i ∧ r = decide (b = 1 ∧ t = i)) ∨ (∃ T, Odd K H v T ∧ T ≠ "int" ∧ r = false)
def spEq (K : PySem.W.Frag) (C : Addr) : Sp := fun vs H Q _ => ∃ (p : Addr) (v : V) (t b : Int) (r : Bool), vs = [.ref p, v] ∧ FrAt C H p t b ∧ Oth K C H v t b r ∧ Q (.bl r) H
abbrev sEq : Stmt := inClass sFrac 11
theorem scEq : FnScope ["self", "other"] ["self", "other"] (defScope sEq) := ⟨rfl, rfl, rfl, by decide +kernel, rfl, by decide +kernel, by decide +kernel⟩
theorem odd_plain {H : Hp} {v : V} {T : String} (o : Odd K H v T) (hT : T ≠ "int") : ∃ b1 b2, PySem.W.kitOne K (.type T) (.type "int") = some b1 ∧ PySem.W.kitOne K (.type T) (.type "bool") = some b2 ∧ (b1 && !b2) = false := by
  cases o with
  | non => exact ⟨false, false, kit_ty (by decide +kernel), kit_ty (by decide +kernel), rfl⟩
  | bl b => exact ⟨true, true, kit_ty (by decide +kernel), kit_ty (by decide +kernel), rfl⟩
  | int i => exact absurd rfl hT
  | str y => exact ⟨false, false, kit_ty (by decide +kernel), kit_ty (by decide +kernel), rfl⟩
  | lst e => exact ⟨false, false, kit_ty (by decide +kernel), kit_ty (by decide +kernel), rfl⟩
  | tup e => exact ⟨false, false, kit_ty (by decide +kernel), kit_ty (by decide +kernel), rfl⟩
  | dK e => exact ⟨false, false, kit_ty (by decide +kernel), kit_ty (by decide +kernel), rfl⟩
theorem dec_and {p q : Prop} [Decidable p] [Decidable q] : decide (p ∧ q) = (decide p && decide q) := by
  by_cases h : p <;> by_cases g : q <;> simp [h, g]
theorem dec_int (i j : Int) : decide (V.int i = V.int j) = decide (i = j) := by
  by_cases h : i = j
  · subst h; simp
  · rw [decide_eq_false h, decide_eq_false fun z => h (V.int.inj z)]
theorem ok_eq {f fP : Addr} {fd fdP : FuncData} (F : Fun K "__eq__" "Fraction.__eq__" sEq f fd) (k : FrK P w K mg base C fI pT gT pB gB fdI fdT fdB) (o : OddsC K C) (GP : FnOk P w K mg base CX0 1 fP fdP ["value"] (spPlain K)) (mP : mg "is_plain_integer" = some (.ref fP))
    (kP : PySem.W.keepIn K (.ref fP) = true) (bP : Binds K fdP ["value"] []) : FnOk P w K mg base CX0 3 f fd ["self", "other"] (spEq K C) := by
  refine F.ok scEq (fun vs H Q E h => ?_) (fun cdv A outer s H vs Q E hr h => ?_)
  · obtain ⟨p, v, t, b, r, rfl, _⟩ := h
    rfl
  · obtain ⟨p, v, t, b, r, rfl, ⟨dp, hp⟩, hv, q⟩ := h
    refine ⟨_, pss_cons (ps_if (pt_val (pe_callB call_isi (by rfl) k.is PyProof.Rows.boot_isinstance (pa_cons (pv 1) (pa_cons (pe_glob (v := .ref C) (by rfl) k.T.mC rfl) pa_nil))))
        (pss_one (ps_ret (pe_and (pe_cmpR op_eq (pe_prop (pv 0) k.T.cl k.oT k.GT (hr.mono (by decide)) k.bT .nil pass0 rfl) (pe_prop (pv 1) k.T.cl k.oT k.GT (hr.mono (by decide)) k.bT .nil pass0 rfl) (nomark _))
          (pe_one (pe_cmpR op_eq (pe_prop (pv 0) k.T.cl k.oB k.GB (hr.mono (by decide)) k.bB .nil pass0 rfl) (pe_prop (pv 1) k.T.cl k.oB k.GB (hr.mono (by decide)) k.bB .nil pass0 rfl) (nomark _)))))) pss_nil)
      (pss_one (ps_ret (pe_and (pe_call GP (hr.mono (by decide)) (by rfl) mP kP bP .nil pass0 (pa_cons (pv 1) pa_nil)) (pe_and (pe_cmpR op_eq (pe_prop (pv 0) k.T.cl k.oB k.GB (hr.mono (by decide)) k.bB .nil pass0 rfl) pe_int (nomark _))
          (pe_one (pe_cmpR op_eq (pe_prop (pv 0) k.T.cl k.oT k.GT (hr.mono (by decide)) k.bT .nil pass0 rfl) (pv 1) (nomark _))))))), ?_⟩
    rcases hv with ⟨q', t', b', rfl, ⟨dq, hq⟩, rfl⟩ | ⟨i, rfl, rfl⟩ | ⟨T, od, hT, rfl⟩
    · refine ⟨_, rfl, _, _, _, _, true, rfl, .own _, .base (.ins hq k.T.cl k.ha k.hn k.tk k.hm), kit_self K C, _, rfl, ?_⟩
      refine ⟨_, rfl, p, dp, _, rfl, hp, p, dp, _, _, rfl, hp, fl_top _ _, _, rfl, q', dq, _, rfl, hq, q', dq, _, _, rfl, hq, fl_top _ _, rfl, _, rfl, ?_⟩
      rw [dec_and] at q
      refine ite2 (fun z => ?_) (fun z => ?_)
      · rw [dec_int] at z
        rw [z, Bool.true_and] at q
        refine ⟨_, rfl, p, dp, _, rfl, hp, p, dp, _, _, rfl, hp, fl_bot _ _, _, rfl, q', dq, _, rfl, hq, q', dq, _, _, rfl, hq, fl_bot _ _, rfl, ?_⟩
        rw [dec_int]
        exact q
      · rw [dec_int] at z
        rw [Bool.eq_false_iff.mpr z, Bool.false_and] at q
        exact q
    · refine ⟨_, rfl, _, _, _, _, false, rfl, .own _, .base (.int i), o.int.k, _, rfl, iteF ?_⟩
      refine ⟨_, rfl, _, _, true, false, rfl, .base (.int i), kI1, kI2, _, rfl, ?_⟩
      refine ⟨_, rfl, p, dp, _, rfl, hp, p, dp, _, _, rfl, hp, fl_bot _ _, rfl, _, rfl, ?_⟩
      rw [dec_and] at q
      refine ite2 (fun z => ?_) (fun z => ?_)
      · rw [dec_int] at z
        rw [z, Bool.true_and] at q
        refine ⟨_, rfl, p, dp, _, rfl, hp, p, dp, _, _, rfl, hp, fl_top _ _, _, rfl, rfl, ?_⟩
        rw [dec_int]
        exact q
      · rw [dec_int] at z
        rw [Bool.eq_false_iff.mpr z, Bool.false_and] at q
        exact q
    · obtain ⟨b1, b2, e1, e2, e3⟩ := odd_plain (K := K) od hT
      refine ⟨_, rfl, _, _, _, _, false, rfl, .own _, od.ty, (o.of od).k, _, rfl, iteF ?_⟩
      refine ⟨_, rfl, _, _, b1, b2, rfl, od.ty, e1, e2, _, rfl, ?_⟩
      rw [e3]
      exact q
end
end FR
set_option Elab.async false
set_option linter.all false
set_option maxRecDepth 100000
set_option maxHeartbeats 4000000
namespace FR
open PySem PySem.Spec PyProof.Rows L2
section
variable {P : Program} {w : World} {K : PySem.W.Frag} {mg : Str → Option Value} {base : Heap} {C fI pT gT pB gB : Addr} {fdI fdT fdB : FuncData}
/-! ### str -/
def txI (i : Int) : Str := toString i
def frText (t b : Int) : Str := if b = 1 then txI t else txI t ++ Str.ofString "/" ++ txI b
theorem tx_len {i : Int} {n : Nat} (h : i.natAbs.log2 < n) (h0 : 0 < n) : (txI i).length ≤ n + 1 := by
  unfold txI
  rw [PySem.ofString_length]
  exact PySem.int_text_length_le h0 h
def spStr (C : Addr) : Sp := fun vs H Q _ => ∃ (p : Addr) (t b : Int), vs = [.ref p] ∧ FrAt C H p t b ∧ t.natAbs.log2 < 1920 ∧ b.natAbs.log2 < 1920 ∧ Q (.str (frText t b)) H
abbrev sStr : Stmt := inClass sFrac 12
theorem scStr : FnScope ["self"] ["self"] (defScope sStr) := ⟨rfl, rfl, rfl, by decide +kernel, rfl, by decide +kernel, by decide +kernel⟩
theorem ok_str {f : Addr} {fd : FuncData} (F : Fun K "__str__" "Fraction.__str__" sStr f fd) (k : FrK P w K mg base C fI pT gT pB gB fdI fdT fdB) (ms : mg "str" = none) : FnOk P w K mg base CX0 3 f fd ["self"] (spStr C) := by
  refine F.ok scStr (fun vs H Q E h => ?_) (fun cdv A outer s H vs Q E hr h => ?_)
  · obtain ⟨p, t, b, rfl, _⟩ := h
    rfl
  · obtain ⟨p, t, b, rfl, ⟨dp, hp⟩, z1, z2, q⟩ := h
    refine ⟨_, pss_cons (ps_if (pt_cmpR op_eq (pe_prop (pv 0) k.T.cl k.oB k.GB (hr.mono (by decide)) k.bB .nil pass0 rfl) pe_int (nomark _))
        (pss_one (ps_ret (pe_callTy call_str_int (by rfl) ms (by decide +kernel) (pa_cons (pe_prop (pv 0) k.T.cl k.oT k.GT (hr.mono (by decide)) k.bT .nil pass0 rfl) pa_nil)))) pss_nil)
      (pss_one (ps_ret (pe_joined (PJ.cons (pe_fmt (pe_prop (pv 0) k.T.cl k.oT k.GT (hr.mono (by decide)) k.bT .nil pass0 rfl)) (PJ.cons pe_str (PJ.cons (pe_fmt (pe_prop (pv 0) k.T.cl k.oB k.GB (hr.mono (by decide)) k.bB .nil pass0 rfl)) PJ.nil)))))), ?_⟩
    refine ⟨_, rfl, p, dp, _, rfl, hp, p, dp, _, _, rfl, hp, fl_bot _ _, rfl, _, rfl, ite2 (fun z => ?_) (fun z => ?_)⟩
    · rw [dec_int] at z
      have z := of_decide_eq_true z
      refine ⟨_, rfl, p, dp, _, rfl, hp, p, dp, _, _, rfl, hp, fl_top _ _, t, rfl, z1, ?_⟩
      unfold frText at q
      rw [if_pos z] at q
      exact q
    · rw [dec_int] at z
      have z : ¬ b = 1 := fun e => z (decide_eq_true e)
      unfold frText at q
      rw [if_neg z] at q
      have l1 := tx_len z1 (by decide)
      have l2 := tx_len z2 (by decide)
      have e0 : Str.empty ++ txI t = txI t := PySem.Str.empty_append _
      have hs : (16777216 : Nat) = sizeLine := sizeLine_eq.symm
      have l3 : (Str.ofString "/").length = 1 := by decide +kernel
      refine ⟨_, rfl, p, dp, _, rfl, hp, p, dp, _, _, rfl, hp, fl_top _ _, .inr ⟨t, rfl, z1, ?_⟩⟩
      show ∃ y : Str, V.str (txI t) = .str y ∧ (Str.empty ++ y).length ≤ sizeLine ∧ _
      refine ⟨_, rfl, by rw [e0, ← hs]; omega, ?_⟩
      rw [e0]
      refine ⟨_, rfl, by rw [strLen_append, ← hs]; rw [l3]; omega, ?_⟩
      refine ⟨_, rfl, p, dp, _, rfl, hp, p, dp, _, _, rfl, hp, fl_bot _ _, .inr ⟨b, rfl, z2, ?_⟩⟩
      show ∃ y : Str, V.str (txI b) = .str y ∧ _
      refine ⟨_, rfl, by rw [strLen_append, strLen_append, ← hs]; rw [l3]; omega, ?_⟩
      exact q
end
end FR
set_option Elab.async false
set_option linter.all false
set_option maxRecDepth 100000
set_option maxHeartbeats 4000000
namespace FR
open PySem PySem.Spec PyProof.Rows L2
section
variable {P : Program} {w : World} {K : PySem.W.Frag} {mg : Str → Option Value} {base : Heap} {C fI pT gT pB gB : Addr} {fdI fdT fdB : FuncData}
/-! ### abs, int - fraction -/
def iabs (t : Int) : Int := if t < 0 then -t else t
def spAbs (C : Addr) : Sp := fun vs H Q _ => ∃ (p : Addr) (t b : Int), vs = [.ref p] ∧ FrAt C H p t b ∧ Sz t b ∧ ∀ q H', FrAt C H' q (nT (iabs t) b) (nB (iabs t) b) → Same H H' → H q = none → Q (.ref q) H'
abbrev sAbs : Stmt := inClass sFrac 10
theorem scAbs : FnScope ["self"] ["self"] (defScope sAbs) := ⟨rfl, rfl, rfl, by decide +kernel, rfl, by decide +kernel, by decide +kernel⟩
theorem Sz.b8 {t b : Int} (z : Sz t b) : b.natAbs < 2 ^ 8000 := Nat.lt_of_lt_of_le z.2.1 (Nat.pow_le_pow_right (by decide) (by decide))
theorem ok_abs {f : Addr} {fd : FuncData} (F : Fun K "__abs__" "Fraction.__abs__" sAbs f fd) (k : FrK P w K mg base C fI pT gT pB gB fdI fdT fdB) (ma : mg "abs" = none) : FnOk P w K mg base CX0 4 f fd ["self"] (spAbs C) := by
  refine F.ok scAbs (fun vs H Q E h => ?_) (fun cdv A outer s H vs Q E hr h => ?_)
  · obtain ⟨p, t, b, rfl, _⟩ := h
    rfl
  · obtain ⟨p, t, b, rfl, ⟨dp, hp⟩, z, q⟩ := h
    refine ⟨_, pss_one (ps_ret (pe_make k.M k.GI (hr.mono (by decide)) (by rfl) k.T.mC k.b2 .nil pass0 (pa_cons (pe_callB call_abs (by rfl) ma (by decide +kernel) (pa_cons (pe_prop (pv 0) k.T.cl k.oT k.GT (hr.mono (by decide)) k.bT .nil pass0 rfl) pa_nil))
      (pa_cons (pe_prop (pv 0) k.T.cl k.oB k.GB (hr.mono (by decide)) k.bB .nil pass0 rfl) pa_nil)))), ?_⟩
    refine ⟨_, rfl, p, dp, _, rfl, hp, p, dp, _, _, rfl, hp, fl_top _ _, t, rfl, _, rfl, p, dp, _, rfl, hp, p, dp, _, _, rfl, hp, fl_bot _ _, fun x dx nx nd ne => ?_⟩
    refine ⟨x, dx, _, _, rfl, upd_same, z.2.2, z.b8, fun H' hf hs => ⟨rfl, ?_⟩⟩
    exact q x H' hf (same_make (C := C) nx nd hs) nx
def spRsub (C : Addr) : Sp := fun vs H Q _ => ∃ (p : Addr) (i t b : Int), vs = [.ref p, .int i] ∧ FrAt C H p t b ∧ Sz t b ∧ Sz i 1 ∧
  ∀ q H', FrAt C H' q (nT (fSub i 1 t b) (1 * b)) (nB (fSub i 1 t b) (1 * b)) → Same H H' → H q = none → Q (.ref q) H'
abbrev sRsub : Stmt := inClass sFrac 6
theorem scRsub : FnScope ["self", "other"] ["self", "other"] (defScope sRsub) := ⟨rfl, rfl, rfl, by decide +kernel, rfl, by decide +kernel, by decide +kernel⟩
theorem ok_rsub {f fA fS : Addr} {fd fdA fdS : FuncData} (F : Fun K "__rsub__" "Fraction.__rsub__" sRsub f fd) (k : FrK P w K mg base C fI pT gT pB gB fdI fdT fdB) (GA : FnOk P w K mg base CX0 4 fA fdA ["value"] (spAs C)) (mA : mg "as_fraction" = some (.ref fA))
    (kA : PySem.W.keepIn K (.ref fA) = true) (bA : Binds K fdA ["value"] []) (hc : PySem.W.selfFirst K C = true) (DS : Dun K C "__sub__" fS) (GS : FnOk P w K mg base CX0 5 fS fdS ["self", "other"] (spOp C fSub)) (bS : Binds K fdS ["self", "other"] []) :
    FnOk P w K mg base CX0 6 f fd ["self", "other"] (spRsub C) := by
  refine F.ok scRsub (fun vs H Q E h => ?_) (fun cdv A outer s H vs Q E hr h => ?_)
  · obtain ⟨p, i, t, b, rfl, _⟩ := h
    rfl
  · obtain ⟨p, i, t, b, rfl, hp, z, zi, q⟩ := h
    refine ⟨_, pss_one (ps_ret (pe_op (op_own2 (op := .Sub) DS hc GS hr bS pass0) (pe_call GA (hr.mono (by decide)) (by rfl) mA kA bA .nil pass0 (pa_cons (pv 1) pa_nil)) (pv 0))), ?_⟩
    refine ⟨_, rfl, .int i, i, 1, rfl, .inr ⟨rfl, rfl⟩, fun m H1 hm sm => ?_⟩
    obtain ⟨dp, hp1⟩ := hp.same sm
    obtain ⟨dm, hm1⟩ := id hm
    refine ⟨_, rfl, m, p, dm, dp, _, _, rfl, rfl, hm1, hp1, m, .ref p, i, 1, t, b, rfl, hm, .inl ⟨p, rfl, hp.same sm⟩, zi, z, fun x H' hf hs nx => ?_⟩
    exact q x H' hf (sm.trans hs) (Same.free sm nx)
/-! ### is_fraction -/
abbrev sIsF : Stmt := top 13
theorem scIsF : FnScope ["value"] ["value"] (defScope sIsF) := ⟨rfl, rfl, rfl, by decide +kernel, rfl, by decide +kernel, by decide +kernel⟩
/-- whether it is a fraction -/
def IsFr (K : PySem.W.Frag) (C : Addr) (H : Hp) (v : V) (r : Bool) : Prop := (∃ q t b, v = .ref q ∧ FrAt C H q t b ∧ r = true) ∨ (∃ i, v = .int i ∧ r = true) ∨ (∃ T, Odd K H v T ∧ T ≠ "int" ∧ r = false)
def spIsF (K : PySem.W.Frag) (C : Addr) : Sp := fun vs H Q _ => ∃ v r, vs = [v] ∧ IsFr K C H v r ∧ Q (.bl r) H
theorem ok_isF {f fP : Addr} {fd fdP : FuncData} (F : Fun K "is_fraction" "is_fraction" sIsF f fd) (k : FrK P w K mg base C fI pT gT pB gB fdI fdT fdB) (o : OddsC K C) (GP : FnOk P w K mg base CX0 1 fP fdP ["value"] (spPlain K)) (mP : mg "is_plain_integer" = some (.ref fP))
    (kP : PySem.W.keepIn K (.ref fP) = true) (bP : Binds K fdP ["value"] []) : FnOk P w K mg base CX0 2 f fd ["value"] (spIsF K C) := by
  refine F.ok scIsF (fun vs H Q E h => ?_) (fun cdv A outer s H vs Q E hr h => ?_)
  · obtain ⟨v, r, rfl, _⟩ := h
    rfl
  · obtain ⟨v, r, rfl, hv, q⟩ := h
    refine ⟨_, pss_one (ps_ret (pe_or (pe_callB call_isi (by rfl) k.is PyProof.Rows.boot_isinstance (pa_cons (pv 0) (pa_cons (pe_glob (v := .ref C) (by rfl) k.T.mC rfl) pa_nil)))
      (pe_one (pe_call GP hr (by rfl) mP kP bP .nil pass0 (pa_cons (pv 0) pa_nil))))), ?_⟩
    rcases hv with ⟨p, t, b, rfl, ⟨dx, hp⟩, rfl⟩ | ⟨i, rfl, rfl⟩ | ⟨T, od, hT, rfl⟩
    · exact ⟨_, rfl, _, _, _, _, true, rfl, .own _, .base (.ins hp k.T.cl k.ha k.hn k.tk k.hm), kit_self K C, _, rfl, q⟩
    · exact ⟨_, rfl, _, _, _, _, false, rfl, .own _, .base (.int i), o.int.k, _, rfl, _, rfl, _, _, true, false, rfl, .base (.int i), kI1, kI2, q⟩
    · obtain ⟨b1, b2, e1, e2, e3⟩ := odd_plain (K := K) od hT
      refine ⟨_, rfl, _, _, _, _, false, rfl, .own _, od.ty, (o.of od).k, _, rfl, _, rfl, _, _, b1, b2, rfl, od.ty, e1, e2, ?_⟩
      rw [e3]
      exact q
end
end FR
set_option Elab.async false
set_option linter.all false
set_option maxRecDepth 100000
set_option maxHeartbeats 4000000
namespace FR
open PySem PySem.Spec PyProof.Rows L2
section
variable {P : Program} {w : World} {K : PySem.W.Frag} {mg : Str → Option Value} {base : Heap} {C fI pT gT pB gB : Addr} {fdI fdT fdB : FuncData}
/-! ### is_between, power -/
abbrev sBet : Stmt := top 9
theorem scBet : FnScope ["value", "least", "greatest"] ["value", "least", "greatest"] (defScope sBet) := ⟨rfl, rfl, rfl, by decide +kernel, rfl, by decide +kernel, by decide +kernel⟩
def spBet : Sp := fun vs H Q _ => ∃ i lo hi : Int, vs = [.int i, .int lo, .int hi] ∧ lo ≤ i ∧ i ≤ hi ∧ Q (.bl true) H
theorem ok_bet {f fP : Addr} {fd fdP : FuncData} (F : Fun K "is_between" "is_between" sBet f fd) (GP : FnOk P w K mg base CX0 1 fP fdP ["value"] (spPlain K)) (mP : mg "is_plain_integer" = some (.ref fP))
    (kP : PySem.W.keepIn K (.ref fP) = true) (bP : Binds K fdP ["value"] []) : FnOk P w K mg base CX0 2 f fd ["value", "least", "greatest"] spBet := by
  refine F.ok scBet (fun vs H Q E h => ?_) (fun cdv A outer s H vs Q E hr h => ?_)
  · obtain ⟨i, lo, hi, rfl, _⟩ := h
    rfl
  · obtain ⟨i, lo, hi, rfl, h1, h2, q⟩ := h
    refine ⟨_, pss_one (ps_ret (pe_and (pe_call GP hr (by rfl) mP kP bP .nil pass0 (pa_cons (pv 0) pa_nil)) (pe_one (pe_chain op_le op_le (pv 1) (pv 0) (pv 2))))), ?_⟩
    refine ⟨_, rfl, _, _, true, false, rfl, .base (.int i), kI1, kI2, _, rfl, ?_⟩
    refine ⟨_, rfl, _, rfl, _, _, rfl, rfl, _, rfl, ?_⟩
    rw [if_pos (decide_eq_true h1)]
    refine ⟨_, rfl, _, _, rfl, rfl, ?_⟩
    show Q (.bl (decide (i ≤ hi))) H
    rw [decide_eq_true h2]
    exact q
abbrev sPow : Stmt := inClass sFrac 15
theorem scPow : FnScope ["self", "many", "top", "bottom", "_"] ["self", "many"] (defScope sPow) := ⟨rfl, rfl, rfl, by decide +kernel, rfl, by decide +kernel, by decide +kernel⟩
def spPow (C : Addr) : Sp := fun vs H Q _ => ∃ (p : Addr) (n : Nat) (t b : Int), vs = [.ref p, .int n] ∧ n ≤ 64 ∧ FrAt C H p t b ∧ b ≠ 0 ∧ t.natAbs < 2 ^ 6000 ∧ b.natAbs < 2 ^ 6000 ∧ (b ^ n).natAbs < 2 ^ 8000 ∧
  ∀ q H', FrAt C H' q (nT (t ^ n) (b ^ n)) (nB (t ^ n) (b ^ n)) → Same H H' → H q = none → Q (.ref q) H'
theorem pow_sz {t : Int} {s : Nat} (h : t.natAbs < 2 ^ s) (i : Nat) : (t ^ i).natAbs < 2 ^ (s * i + 1) := by
  induction i with
  | zero =>
    rw [Nat.mul_zero, Int.pow_zero]
    decide
  | succ i ih =>
    rw [Int.pow_succ, Int.natAbs_mul]
    have e : s * (i + 1) + 1 = (s * i + 1) + s := by rw [Nat.mul_succ]; omega
    rw [e, Nat.pow_add]
    exact Nat.mul_lt_mul'' ih h
theorem ok_pow {f fP : Addr} {fd fdP : FuncData} (F : Fun K "power" "Fraction.power" sPow f fd) (k : FrK P w K mg base C fI pT gT pB gB fdI fdT fdB) (GP : FnOk P w K mg base CX0 2 fP fdP ["value", "least", "greatest"] spBet) (mP : mg "is_between" = some (.ref fP))
    (kP : PySem.W.keepIn K (.ref fP) = true) (bP : Binds K fdP ["value", "least", "greatest"] []) {tk : Tok} (mM : mg "MAX_POWER" = some (.int 64 tk)) (mr : mg "range" = none) : FnOk P w K mg base CX0 4 f fd ["self", "many"] (spPow C) := by
  refine F.ok scPow (fun vs H Q E h => ?_) (fun cdv A outer s H vs Q E hr h => ?_)
  · obtain ⟨p, n, t, b, rfl, _⟩ := h
    rfl
  · obtain ⟨p, n, t, b, rfl, hn, ⟨dp, hp⟩, hb, z1, z2, z3, q⟩ := h
    refine ⟨_, pss_cons (ps_if (pt_not (pt_val (pe_call GP (hr.mono (by decide)) (by rfl) mP kP bP .nil pass0 (pa_cons (pv 1) (pa_cons pe_int (pa_cons (pe_glob (v := .int 64) (by rfl) mM ⟨tk, rfl⟩) pa_nil)))))) pss_never pss_nil)
      (pss_cons (ps_set (i := 2) scPow.nd rfl (Or.inl rfl) pe_int) (pss_cons (ps_set (i := 3) scPow.nd rfl (Or.inl rfl) pe_int)
      (pss_cons (ps_for PassesOwn.never rfl (pi_range1 (by rfl) mr (pa_cons (pv 1) pa_nil)) (pg_name (i := 4) scPow.nd rfl (Or.inl rfl))
        (pss_cons (ps_set (i := 2) scPow.nd rfl (Or.inl rfl) (pe_op op_mulW (pv 2) (pe_prop (pv 0) k.T.cl k.oT k.GT (hr.mono (by decide)) k.bT .nil pass0 rfl)))
          (pss_one (ps_set (i := 3) scPow.nd rfl (Or.inl rfl) (pe_op op_mulW (pv 3) (pe_prop (pv 0) k.T.cl k.oB k.GB (hr.mono (by decide)) k.bB .nil pass0 rfl))))))
      (pss_one (ps_ret (pe_make k.M k.GI (hr.mono (by decide)) (by rfl) k.T.mC k.b2 .nil pass0 (pa_cons (pv 2) (pa_cons (pv 3) pa_nil)))))))), ?_⟩
    refine ⟨_, rfl, n, 0, 64, rfl, by omega, by omega, _, rfl, iteF ?_⟩
    refine ⟨_, rfl, n, rfl, by omega, by omega, ?_⟩
    refine for_range (fun i σ Hc => Hc = H ∧ ∃ x4 : Option V, σ = [some (.ref p), some (.int n), some (.int (t ^ i)), some (.int (b ^ i)), x4]) ⟨rfl, none, by rw [Int.pow_zero, Int.pow_zero]; rfl⟩ ?_ ?_
    · rintro i σ Hc hi ⟨rfl, x4, rfl⟩
      have g1 : (t ^ i).natAbs < 2 ^ 390000 := Nat.lt_of_lt_of_le (pow_sz z1 i) (Nat.pow_le_pow_right (by decide) (by omega))
      have g2 : (b ^ i).natAbs < 2 ^ 390000 := Nat.lt_of_lt_of_le (pow_sz z2 i) (Nat.pow_le_pow_right (by decide) (by omega))
      refine ⟨_, rfl, _, rfl, p, dp, _, rfl, hp, p, dp, _, _, rfl, hp, fl_top _ _, _, _, rfl, rfl, wide_mul g1 z1 (by decide) (by decide) (by decide), ?_⟩
      refine ⟨_, rfl, _, rfl, p, dp, _, rfl, hp, p, dp, _, _, rfl, hp, fl_bot _ _, _, _, rfl, rfl, wide_mul g2 z2 (by decide) (by decide) (by decide), ?_⟩
      refine ⟨rfl, some (.int (0 + (i : Int))), ?_⟩
      rw [Int.pow_succ, Int.pow_succ]
      rfl
    · rintro σ Hc ⟨rfl, x4, rfl⟩
      refine ⟨_, rfl, _, rfl, fun x dx nx nd ne => ?_⟩
      refine ⟨x, dx, _, _, rfl, upd_same, Int.pow_ne_zero hb, z3, fun H' hf hs => ⟨rfl, ?_⟩⟩
      exact q x H' hf (same_make (C := C) nx nd hs) nx
end
end FR
set_option Elab.async false
set_option linter.all false
namespace FR
/-! ### the least form, as mathematics -/
theorem dv_dvd_t {t b : Int} (h : b ≠ 0) : dv t b ∣ t := by
  have z : ((Nat.gcd t.natAbs b.natAbs : Nat) : Int) ∣ t := Int.ofNat_dvd_left.mpr (Nat.gcd_dvd_left _ _)
  unfold dv
  split
  · exact Int.neg_dvd.mpr z
  · exact z
theorem dv_dvd_b {t b : Int} (h : b ≠ 0) : dv t b ∣ b := by
  have z : ((Nat.gcd t.natAbs b.natAbs : Nat) : Int) ∣ b := Int.ofNat_dvd_left.mpr (Nat.gcd_dvd_right _ _)
  unfold dv
  split
  · exact Int.neg_dvd.mpr z
  · exact z
theorem nT_mul {t b : Int} (h : b ≠ 0) : nT t b * dv t b = t := Int.fdiv_mul_cancel (dv_dvd_t h)
theorem nB_mul {t b : Int} (h : b ≠ 0) : nB t b * dv t b = b := Int.fdiv_mul_cancel (dv_dvd_b h)
theorem dv_sign {t b : Int} (h : b ≠ 0) : (0 < b → 0 < dv t b) ∧ (b < 0 → dv t b < 0) := by
  have z : 0 < Nat.gcd t.natAbs b.natAbs := Nat.gcd_pos_of_pos_right _ (by omega)
  unfold dv
  constructor
  · intro q
    rw [if_neg (by omega)]
    omega
  · intro q
    rw [if_pos q]
    omega
theorem nB_pos {t b : Int} (h : b ≠ 0) : 0 < nB t b := by
  have e := nB_mul (t := t) h
  obtain ⟨s1, s2⟩ := dv_sign (t := t) h
  rcases Int.lt_or_gt_of_ne h with q | q
  · have d := s2 q
    refine Int.not_le.mp fun c => ?_
    have := Int.mul_nonneg_of_nonpos_of_nonpos c (Int.le_of_lt d)
    omega
  · have d := s1 q
    refine Int.not_le.mp fun c => ?_
    have := Int.mul_nonpos_of_nonpos_of_nonneg c (Int.le_of_lt d)
    omega
/-- two forms of a fraction with bottoms above 0 and no common divisor are the same -/
theorem nT_le {t b : Int} (h : b ≠ 0) : (nT t b).natAbs ≤ t.natAbs := by
  have e := congrArg Int.natAbs (nT_mul (t := t) h)
  rw [Int.natAbs_mul] at e
  have z : 0 < (dv t b).natAbs := Int.natAbs_pos.mpr (dv_ne h)
  rw [← e]
  exact Nat.le_mul_of_pos_right _ z
theorem nB_le {t b : Int} (h : b ≠ 0) : (nB t b).natAbs ≤ b.natAbs := by
  have e := congrArg Int.natAbs (nB_mul (t := t) h)
  rw [Int.natAbs_mul] at e
  have z : 0 < (dv t b).natAbs := Int.natAbs_pos.mpr (dv_ne h)
  rw [← e]
  exact Nat.le_mul_of_pos_right _ z
theorem dv_scale {t b k : Int} (hk : 0 < k) : dv (k * t) (k * b) = k * dv t b := by
  have g : Nat.gcd (k * t).natAbs (k * b).natAbs = k.natAbs * Nat.gcd t.natAbs b.natAbs := by
    rw [Int.natAbs_mul, Int.natAbs_mul, Nat.gcd_mul_left]
  have kk : ((k.natAbs : Nat) : Int) = k := by omega
  have hb : k * b < 0 ↔ b < 0 := by
    constructor
    · intro q
      refine Int.not_le.mp fun c => ?_
      have := Int.mul_nonneg (Int.le_of_lt hk) c
      omega
    · intro q
      exact Int.mul_neg_of_pos_of_neg hk q
  unfold dv
  rw [g, Int.natCast_mul, kk]
  by_cases q : b < 0
  · rw [if_pos q, if_pos (hb.mpr q), Int.mul_neg]
  · rw [if_neg q, if_neg fun z => q (hb.mp z)]
theorem nT_scale {t b k : Int} (hk : 0 < k) : nT (k * t) (k * b) = nT t b := by
  unfold nT
  rw [dv_scale hk]
  exact Int.mul_fdiv_mul_of_pos _ _ hk
theorem nB_scale {t b k : Int} (hk : 0 < k) : nB (k * t) (k * b) = nB t b := by
  unfold nB
  rw [dv_scale hk]
  exact Int.mul_fdiv_mul_of_pos _ _ hk
theorem dv_neg {t b : Int} (h : b ≠ 0) : dv (-t) (-b) = -dv t b := by
  unfold dv
  rw [Int.natAbs_neg, Int.natAbs_neg]
  by_cases q : b < 0
  · rw [if_pos q, if_neg (by omega), Int.neg_neg]
  · rw [if_neg q, if_pos (by omega)]
theorem nT_neg {t b : Int} (h : b ≠ 0) : nT (-t) (-b) = nT t b := by
  unfold nT
  rw [dv_neg h, Int.neg_fdiv_neg]
theorem nB_neg {t b : Int} (h : b ≠ 0) : nB (-t) (-b) = nB t b := by
  unfold nB
  rw [dv_neg h, Int.neg_fdiv_neg]
theorem n_gcd {t b : Int} (h : b ≠ 0) : Nat.gcd (nT t b).natAbs (nB t b).natAbs = 1 := by
  have e1 := congrArg Int.natAbs (nT_mul (t := t) h)
  have e2 := congrArg Int.natAbs (nB_mul (t := t) h)
  rw [Int.natAbs_mul] at e1 e2
  have ed : (dv t b).natAbs = Nat.gcd t.natAbs b.natAbs := by
    unfold dv
    split <;> omega
  have g : Nat.gcd t.natAbs b.natAbs = Nat.gcd (nT t b).natAbs (nB t b).natAbs * (dv t b).natAbs := by
    rw [← Nat.gcd_mul_right, e1, e2]
  have z : 0 < (dv t b).natAbs := Int.natAbs_pos.mpr (dv_ne h)
  rw [ed] at g z
  exact Nat.eq_of_mul_eq_mul_right z (by rw [Nat.one_mul]; exact g.symm)
theorem dv_n {t b : Int} (h : b ≠ 0) : dv (nT t b) (nB t b) = 1 := by
  have p := nB_pos (t := t) h
  unfold dv
  rw [if_neg (by omega), n_gcd h]
  rfl
theorem nT_n {t b : Int} (h : b ≠ 0) : nT (nT t b) (nB t b) = nT t b := by
  show (nT t b).fdiv (dv (nT t b) (nB t b)) = _
  rw [dv_n h, Int.fdiv_one]
theorem nB_n {t b : Int} (h : b ≠ 0) : nB (nT t b) (nB t b) = nB t b := by
  show (nB t b).fdiv (dv (nT t b) (nB t b)) = _
  rw [dv_n h, Int.fdiv_one]
theorem n_int {t b n : Int} (h : b ≠ 0) : (nB t b = 1 ∧ nT t b = n) ↔ n * b = t := by
  constructor
  · rintro ⟨e1, e2⟩
    have m1 := nT_mul (t := t) h
    have m2 := nB_mul (t := t) h
    rw [e2] at m1
    rw [e1, Int.one_mul] at m2
    rw [m2] at m1
    exact m1
  · intro e
    have d : dv t b = b := by
      have hn : Nat.gcd t.natAbs b.natAbs = b.natAbs := by
        rw [← e, Int.natAbs_mul]
        exact Nat.gcd_mul_left_left _ _
      unfold dv
      rw [hn]
      split <;> omega
    unfold nB nT
    rw [d]
    refine ⟨Int.fdiv_self h, ?_⟩
    rw [← e, Int.mul_fdiv_cancel _ h]
end FR
set_option Elab.async false
set_option linter.all false
set_option maxRecDepth 100000
namespace LD
open PySem PySem.Spec PyProof.Rows L2
/-! ### The text by places -/
def top (i : Nat) : Stmt := PySem.Challenge.pw_surelyends_k01_fractions_as_values.main.body.getD i (.Pass ⟨0, 0, 0, 0⟩)
abbrev sDice : Stmt := top 16
abbrev sRoll : Stmt := top 17
abbrev sOneOf : Stmt := top 18
/-! ### The dice -/
abbrev dxs (a b c : Int) : List V := [V.int a, V.int b, V.int c]
/-- the dice stand at d -/
def DiceAt (H : Hp) (d : Addr) : Prop := ∃ a b c : Int, H d = some (.lst (dxs a b c))
/-- nothing but the dice has changed -/
structure Rolled (H H' : Hp) (d : Addr) : Prop where
  ho : ∃ a b c : Int, H' = upd H d (.lst (dxs a b c))
def spRoll : Sp := fun vs H Q _ => ∃ (d : Addr) (n : Int), vs = [.ref d, .int n] ∧ DiceAt H d ∧ 0 < n ∧ n < 1073741824 ∧
  ∀ (r a b c : Int), 0 ≤ r → r < n → Q (.int r) (upd H d (.lst (dxs a b c)))
section
variable {P : Program} {w : World} {K : PySem.W.Frag} {mg : Str → Option Value} {base : Heap}
theorem scR : FnScope ["_law_dice_here", "_law_total", "_law_found", "_law_one", "_law_two"] ["_law_dice_here", "_law_total"] (defScope sRoll) :=
  ⟨rfl, rfl, rfl, by decide +kernel, rfl, by decide +kernel, by decide +kernel⟩
theorem nz1 : (2305843009213693951 : Int) ≠ 0 := by decide
theorem nz2 : (2305843009213693921 : Int) ≠ 0 := by decide
theorem nz3 : (2305843009213693907 : Int) ≠ 0 := by decide
theorem at0 {a b c : Int} : atI (dxs a b c) (0 : Int) = some (V.int a) := rfl
theorem at1 {a b c : Int} : atI (dxs a b c) (1 : Int) = some (V.int b) := rfl
theorem at2 {a b c : Int} : atI (dxs a b c) (2 : Int) = some (V.int c) := rfl
theorem ok_roll {f : Addr} {fd : FuncData} (F : Fun K "_law_roll" "_law_roll" sRoll f fd) (mI : mg "int" = none) : FnOk P w K mg base CX0 1 f fd ["_law_dice_here", "_law_total"] spRoll := by
  refine F.ok scR (fun vs H Q E h => ?_) (fun cdv A outer s H vs Q E hr h => ?_)
  · obtain ⟨d, n, rfl, _⟩ := h
    rfl
  · obtain ⟨d, n, rfl, ⟨a, b, c, hd⟩, h0, h1, k⟩ := h
    have hu := hu_of hr
    refine ⟨_, pss_cons (ps_if (pt_cmpR op_gt (pe_ix ix_list (pv 0) pe_int (fun _ _ => rfl)) pe_int (nomark _))
        (pss_cons (ps_set (i := 2) scR.nd rfl (Or.inl rfl) (pe_op op_modN (pe_callTy call_int1 (by rfl) mI (by decide +kernel) (pa_cons (pe_ix ix_list (pv 0) pe_int (fun _ _ => rfl)) pa_nil)) (pv 1)))
        (pss_cons (ps_asg (pe_op op_fdivN (pe_ix ix_list (pv 0) pe_int (fun _ _ => rfl)) (pv 1)) (pg_sub (pv 0) pe_int set_list))
        (pss_one (ps_ret (pv 2))))) pss_nil)
      (pss_cons (ps_asg (pe_op op_add (pe_ix ix_list (pv 0) pe_int (fun _ _ => rfl)) pe_int) (pg_sub (pv 0) pe_int set_list))
      (pss_cons (ps_set (i := 3) scR.nd rfl (Or.inl rfl) (pe_op op_modN (pe_callTy call_int1 (by rfl) mI (by decide +kernel) (pa_cons (pe_op op_add (pe_ix ix_list (pv 0) pe_int (fun _ _ => rfl)) (pe_op op_mul pe_int (pe_ix ix_list (pv 0) pe_int (fun _ _ => rfl)))) pa_nil)) pe_int))
      (pss_cons (ps_set (i := 4) scR.nd rfl (Or.inl rfl) (pe_op op_add (pe_op op_mul (pe_op op_modN (pe_callTy call_int1 (by rfl) mI (by decide +kernel) (pa_cons (pe_op op_mul (pv 3) (pv 3)) pa_nil)) pe_int) (pv 3)) (pe_op op_mul pe_int (pe_ix ix_list (pv 0) pe_int (fun _ _ => rfl)))))
      (pss_cons (ps_set (i := 4) scR.nd rfl (Or.inl rfl) (pe_op op_modN (pe_callTy call_int1 (by rfl) mI (by decide +kernel) (pa_cons (pv 4) pa_nil)) pe_int))
      (pss_one (ps_ret (pe_op op_modN (pe_callTy call_int1 (by rfl) mI (by decide +kernel) (pa_cons (pe_op op_fdivN (pv 4) pe_int) pa_nil)) (pv 1)))))))), ?_⟩
    refine ⟨_, rfl, d, _, _, _, rfl, rfl, SqL.of hd, at0, _, _, rfl, rfl, _, rfl, ?_⟩
    have hm : ∀ x : Int, 0 ≤ x.fmod n ∧ x.fmod n < n := fun x => by
      rw [Int.fmod_eq_emod_of_nonneg x (by omega)]
      exact ⟨Int.emod_nonneg x (by omega), Int.emod_lt_of_pos x h0⟩
    refine ite2 (fun ha => ?_) (fun ha => ?_)
    · refine ⟨_, rfl, d, _, _, _, rfl, rfl, SqL.of hd, at0, .inl ⟨_, rfl, ?_⟩⟩
      refine ⟨_, rfl, _, _, rfl, rfl, by omega, ?_⟩
      refine ⟨_, rfl, d, _, _, _, rfl, rfl, SqL.of hd, at0, _, rfl, _, _, rfl, rfl, ⟨by omega, by omega⟩, ?_⟩
      refine ⟨_, rfl, d, _, _, 0, rfl, rfl, hd, rfl, ?_⟩
      refine ⟨_, rfl, ?_⟩
      exact k _ _ _ _ (hm _).1 (hm _).2
    · refine ⟨_, rfl, d, _, _, _, rfl, rfl, SqL.of hd, at2, _, _, rfl, rfl, ?_⟩
      refine ⟨_, rfl, d, _, _, 2, rfl, rfl, hd, rfl, ?_⟩
      have hd2 : upd H d (.lst (dxs a b (c + 1))) d = some (.lst (dxs a b (c + 1))) := upd_same
      refine ⟨_, rfl, d, _, _, _, rfl, rfl, SqL.of hd2, at1, ?_⟩
      refine ⟨_, rfl, d, _, _, _, rfl, rfl, SqL.of hd2, at2, ?_⟩
      refine ⟨_, _, rfl, rfl, .inl ⟨by decide, by decide⟩, ?_⟩
      refine ⟨_, _, rfl, rfl, .inl ⟨_, rfl, ?_⟩⟩
      refine ⟨_, _, rfl, rfl, nz1, ?_⟩
      generalize hone : Int.fmod (b + 1000193 * (c + 1)) 2305843009213693951 = one
      have ho : 0 ≤ one ∧ one < 2305843009213693951 := by
        rw [← hone, Int.fmod_eq_emod_of_nonneg _ (by decide)]
        exact ⟨Int.emod_nonneg _ (by decide), Int.emod_lt_of_pos _ (by decide)⟩
      refine ⟨_, rfl, _, rfl, _, _, rfl, rfl, .inl ⟨by omega, by omega⟩, .inl ⟨_, rfl, ?_⟩⟩
      refine ⟨_, _, rfl, rfl, nz2, ?_⟩
      generalize htwo : Int.fmod (one * one) 2305843009213693921 = two
      refine ⟨_, rfl, _, _, rfl, rfl, .inr ⟨by omega, by omega⟩, ?_⟩
      refine ⟨_, rfl, d, _, _, _, rfl, rfl, SqL.of hd2, at2, ?_⟩
      refine ⟨_, _, rfl, rfl, .inl ⟨by decide, by decide⟩, ?_⟩
      refine ⟨_, _, rfl, rfl, ?_⟩
      generalize two * one + 8221 * (c + 1) = three
      refine ⟨_, rfl, .inl ⟨_, rfl, ?_⟩⟩
      refine ⟨_, _, rfl, rfl, nz3, ?_⟩
      refine ⟨_, rfl, _, _, rfl, rfl, ⟨by decide, by decide⟩, .inl ⟨_, rfl, ?_⟩⟩
      refine ⟨_, rfl, _, _, rfl, rfl, by omega, ?_⟩
      exact k _ _ _ _ (hm _).1 (hm _).2

/-! ### powers of any size within the line -/
def CPowW (i j : Int) : Prop := 0 ≤ j ∧ (Builtin.Int.intBits i : Int) * j ≤ 2 ^ 27
theorem op_powW {X : Cx} : OpR X (binaryOp .Pow) (rI CPowW fun i j => .int (i ^ j.toNat)) := opI fun _ _ _ _ _ _ _ hc q => pow_int hc.1 hc.2 q
theorem pow60 : CPowW 10 60 := ⟨by decide, by decide +kernel⟩
theorem pow600 : CPowW ((10 : Int) ^ (60 : Int).toNat) 10 := ⟨by decide, by decide +kernel⟩
theorem pow18 : CPowW 10 18 := ⟨by decide, by decide +kernel⟩
def big600 : Int := ((10 : Int) ^ (60 : Int).toNat) ^ (10 : Int).toNat
theorem big600_nz : ((10 : Int) ^ (60 : Int).toNat) ^ (10 : Int).toNat ≠ 0 := by decide +kernel
theorem nz4 : (2147483549 : Int) ≠ 0 := by decide
theorem nz5 : (2147483543 : Int) ≠ 0 := by decide
def spDice (K : PySem.W.Frag) : Sp := fun vs H Q _ => ∃ (a : Addr) (ns : List Int) (i : Nat) (j : Int), vs = [.ref a, .int j] ∧ j = (i : Int) ∧ SqL K H a (ns.map V.int) ∧
  ∀ (p : Addr) (x y z : Int), H p = none → Q (.ref p) (upd H p (.lst (dxs x y z)))
structure TxtD (mg : Str → Option Value) : Prop where
  mI : mg "int" = none
  mL : mg "len" = none
  mA : mg "abs" = none
  mM : mg "max" = none
theorem scD : FnScope ["_law_script", "_law_at", "_law_cell", "_law_great", "_law_mixed"] ["_law_script", "_law_at"] (defScope sDice) :=
  ⟨rfl, rfl, rfl, by decide +kernel, rfl, by decide +kernel, by decide +kernel⟩
theorem ok_dice {f : Addr} {fd : FuncData} (F : Fun K "_law_dice" "_law_dice" sDice f fd) (T : TxtD mg) : FnOk P w K mg base CX0 1 f fd ["_law_script", "_law_at"] (spDice K) := by
  refine F.ok scD (fun vs H Q E h => ?_) (fun cdv A outer s H vs Q E hr h => ?_)
  · obtain ⟨a, ns, i, j, rfl, _⟩ := h
    rfl
  · obtain ⟨a, ns, i, j, rfl, rfl, hs, k⟩ := h
    have hu := hu_of hr
    refine ⟨_, pss_cons (ps_set (i := 2) scD.nd rfl (Or.inl rfl) (pe_op op_add (pe_op op_mul pe_int (pv 1)) pe_int))
      (pss_cons (ps_if (pt_cmpR op_lt (pv 1) (pe_callB call_len_seq (by rfl) T.mL PySem.boot_len (pa_cons (pv 0) pa_nil)) (nomark _))
        (pss_one (ps_set (i := 2) scD.nd rfl (Or.inl rfl) (pe_ix ix_list (pv 0) (pv 1) (fun _ _ => rfl)))) pss_nil)
      (pss_cons (ps_set (i := 3) scD.nd rfl (Or.inl rfl) (pe_op op_modN (pe_callTy call_int1 (by rfl) T.mI (by decide +kernel) (pa_cons (pe_callB call_abs (by rfl) T.mA (by decide +kernel) (pa_cons (pv 2) pa_nil)) pa_nil))
          (pe_op op_powW (pe_op op_powW pe_int pe_int) pe_int)))
      (pss_cons (ps_set (i := 4) scD.nd rfl (Or.inl rfl) (pe_op op_add (pe_op op_add (pe_op op_add
          (pe_op op_mul (pe_op op_modN (pe_callTy call_int1 (by rfl) T.mI (by decide +kernel) (pa_cons (pv 3) pa_nil)) pe_int) pe_int)
          (pe_op op_mul pe_int (pv 1)))
          (pe_op op_mul pe_int (pe_callTy call_int1 (by rfl) T.mI (by decide +kernel) (pa_cons (pe_cmpR op_lt (pv 2) pe_int (nomark _)) pa_nil)))) pe_int))
      (pss_one (ps_ret (pe_lst (pa_cons (pe_callB (call_max2 rfl) (by rfl) T.mM (by decide +kernel) (pa_cons pe_int (pa_cons (pe_op op_sub (pv 3) (pe_op op_powW pe_int pe_int)) pa_nil)))
          (pa_cons (pe_op op_modN (pe_callTy call_int1 (by rfl) T.mI (by decide +kernel) (pa_cons (pv 4) pa_nil)) pe_int) (pa_cons pe_int pa_nil))))))))), ?_⟩
    refine ⟨_, rfl, _, _, rfl, rfl, .inl ⟨by decide, by decide⟩, _, _, rfl, rfl, ?_⟩
    refine ⟨_, rfl, _, rfl, a, _, rfl, .inl hs, _, _, rfl, rfl, _, rfl, ?_⟩
    refine ite2 (fun ha => ?_) (fun ha => ?_)
    · have hlt : i < (ns.map V.int).length := by
        have z := of_decide_eq_true ha
        omega
      refine ⟨_, rfl, _, rfl, a, _, _, V.int ((ns.getD i 0)), rfl, rfl, hs, atI_nat (by
        rw [List.length_map] at hlt
        simp [hlt]), ?_⟩
      refine ⟨_, rfl, _, rfl, .inl ⟨_, rfl, ?_⟩⟩
      refine ⟨_, _, rfl, rfl, pow60, _, _, rfl, rfl, pow600, _, _, rfl, rfl, big600_nz, ?_⟩
      refine ⟨_, rfl, .inl ⟨_, rfl, ?_⟩⟩
      refine ⟨_, _, rfl, rfl, nz4, _, _, rfl, rfl, .inr ⟨by decide, by decide⟩, ?_⟩
      refine ⟨_, rfl, _, _, rfl, rfl, .inl ⟨by decide, by decide⟩, _, _, rfl, rfl, ?_⟩
      refine ⟨_, rfl, _, _, rfl, rfl, .inr ⟨_, rfl, ?_⟩⟩
      refine ⟨_, _, rfl, rfl, .inl ⟨by decide, by decide⟩, _, _, rfl, rfl, _, _, rfl, rfl, ?_⟩
      refine ⟨_, rfl, _, _, rfl, rfl, pow18, _, _, rfl, rfl, _, _, rfl, ?_⟩
      refine ⟨_, rfl, .inl ⟨_, rfl, ?_⟩⟩
      refine ⟨_, _, rfl, rfl, nz5, ?_⟩
      refine ⟨by show 3 ≤ sizeLine; decide, fun p hp => ?_⟩
      exact k _ _ _ _ hp
    · refine ⟨_, rfl, _, rfl, .inl ⟨_, rfl, ?_⟩⟩
      refine ⟨_, _, rfl, rfl, pow60, _, _, rfl, rfl, pow600, _, _, rfl, rfl, big600_nz, ?_⟩
      refine ⟨_, rfl, .inl ⟨_, rfl, ?_⟩⟩
      refine ⟨_, _, rfl, rfl, nz4, _, _, rfl, rfl, .inr ⟨by decide, by decide⟩, ?_⟩
      refine ⟨_, rfl, _, _, rfl, rfl, .inl ⟨by decide, by decide⟩, _, _, rfl, rfl, ?_⟩
      refine ⟨_, rfl, _, _, rfl, rfl, .inr ⟨_, rfl, ?_⟩⟩
      refine ⟨_, _, rfl, rfl, .inl ⟨by decide, by decide⟩, _, _, rfl, rfl, _, _, rfl, rfl, ?_⟩
      refine ⟨_, rfl, _, _, rfl, rfl, pow18, _, _, rfl, rfl, _, _, rfl, ?_⟩
      refine ⟨_, rfl, .inl ⟨_, rfl, ?_⟩⟩
      refine ⟨_, _, rfl, rfl, nz5, ?_⟩
      refine ⟨by show 3 ≤ sizeLine; decide, fun p hp => ?_⟩
      exact k _ _ _ _ hp
/-! ### one of a list's items -/
def spOneOf : Sp := fun vs H Q _ => ∃ (d p : Addr) (xs : List V), vs = [.ref d, .ref p] ∧ DiceAt H d ∧ H p = some (.lst xs) ∧ p ≠ d ∧ 0 < xs.length ∧ xs.length < 1000 ∧
  ∀ (k : Nat) (x : V) (a b c : Int), xs[k]? = some x → Q x (upd H d (.lst (dxs a b c)))
theorem scO : FnScope ["_law_dice_here", "_law_items"] ["_law_dice_here", "_law_items"] (defScope sOneOf) :=
  ⟨rfl, rfl, rfl, by decide +kernel, rfl, by decide +kernel, by decide +kernel⟩
theorem ok_oneOf {f fR : Addr} {fd fdR : FuncData} (F : Fun K "_law_one_of" "_law_one_of" sOneOf f fd) (T : TxtD mg) (FR : Fun K "_law_roll" "_law_roll" sRoll fR fdR)
    (mR : mg "_law_roll" = some (.ref fR)) (kR : PySem.W.keepIn K (.ref fR) = true) (bR : Binds K fdR ["_law_dice_here", "_law_total"] []) : FnOk P w K mg base CX0 2 f fd ["_law_dice_here", "_law_items"] spOneOf := by
  have G : FnOk P w K mg base CX0 1 fR fdR ["_law_dice_here", "_law_total"] spRoll := ok_roll FR T.mI
  refine F.ok scO (fun vs H Q E h => ?_) (fun cdv A outer s H vs Q E hr h => ?_)
  · obtain ⟨d, p, xs, rfl, _⟩ := h
    rfl
  · obtain ⟨d, p, xs, rfl, hd, hp, ne, h0, h1, k⟩ := h
    have hu := hu_of hr
    refine ⟨_, pss_one (ps_ret (pe_ix ix_list (pv 1) (pe_call G hr (by rfl) mR kR bR .nil pass0
      (pa_cons (pv 0) (pa_cons (pe_callB call_len_seq (by rfl) T.mL PySem.boot_len (pa_cons (pv 1) pa_nil)) pa_nil))) (fun _ _ => rfl))), ?_⟩
    refine ⟨_, rfl, _, rfl, _, rfl, p, xs, rfl, .inl (SqL.of hp), d, _, rfl, hd, by omega, by omega, fun r a b c hr0 hr1 => ?_⟩
    obtain ⟨k', rfl⟩ : ∃ k' : Nat, r = (k' : Int) := ⟨r.toNat, by omega⟩
    have hk : k' < xs.length := by omega
    refine ⟨p, xs, _, xs[k'], rfl, rfl, SqL.of (by rw [upd_ne ne]; exact hp), atI_nat (List.getElem?_eq_getElem hk), ?_⟩
    exact k k' _ a b c (List.getElem?_eq_getElem hk)
end
end LD
set_option Elab.async false
set_option linter.all false
set_option maxRecDepth 100000
set_option maxHeartbeats 4000000
namespace FR
open PySem PySem.Spec PyProof.Rows L2 LD
section
variable {P : Program} {w : World} {K : PySem.W.Frag} {mg : Str → Option Value} {base : Heap}
/-! ### _law_gcd -/
abbrev sGcd : Stmt := FR.top 19
theorem scGcd : FnScope ["_law_one", "_law_two"] ["_law_one", "_law_two"] (defScope sGcd) := ⟨rfl, rfl, rfl, by decide +kernel, rfl, by decide +kernel, by decide +kernel⟩
def spGcd : Sp := fun vs H Q _ => ∃ a b : Nat, vs = [.int a, .int b] ∧ Q (.int (Nat.gcd a b : Nat)) H
theorem ok_gcd {f : Addr} {fd : FuncData} (F : Fun K "_law_gcd" "_law_gcd" sGcd f fd) (mI : mg "int" = none) : FnOk P w K mg base CX0 1 f fd ["_law_one", "_law_two"] spGcd := by
  refine F.ok scGcd (fun vs H Q E h => ?_) (fun cdv A outer s H vs Q E hr h => ?_)
  · obtain ⟨a, b, rfl, _⟩ := h
    rfl
  · obtain ⟨a, b, rfl, q⟩ := h
    refine ⟨_, pss_cons (ps_while PassesOwn.never (pt_cmpR op_gt (pv 1) pe_int (nomark _)) (pss_one (ps_par (i := 0) (j := 1) (by rfl) scGcd.nd rfl rfl (by decide) rfl rfl (pa_cons (pv 1) (pa_cons (pe_op op_modN (pe_callTy call_int1 (by rfl) mI (by decide +kernel) (pa_cons (pv 0) pa_nil)) (pv 1)) pa_nil)) (by rfl))))
      (pss_one (ps_ret (pv 0))), ?_⟩
    refine while_by (fun σ Hc => Hc = H ∧ ∃ x y : Nat, σ = [some (.int x), some (.int y)] ∧ Nat.gcd x y = Nat.gcd a b) (fun σ _ => match σ with | [_, some (.int y)] => y.toNat | _ => 0) ⟨rfl, a, b, rfl, rfl⟩ ?_ ?_
    · rintro σ Hc ⟨rfl, x, y, rfl, g⟩
      refine ⟨_, rfl, _, _, rfl, rfl, _, rfl, ite2 (fun z => ?_) (fun z => ?_)⟩
      · have hy : 0 < y := by have := of_decide_eq_true z; omega
        have e : (x : Int).fmod (y : Int) = ((x % y : Nat) : Int) := by rw [Int.fmod_eq_emod_of_nonneg _ (by omega)]; rfl
        have hn : (y : Int) ≠ 0 := by omega
        refine ⟨_, rfl, _, rfl, .inl ⟨_, rfl, ?_⟩⟩
        refine ⟨_, rfl, _, _, rfl, rfl, hn, ?_⟩
        refine ⟨_, _, rfl, ?_⟩
        refine ⟨⟨rfl, y, x % y, by rw [← e]; rfl, ?_⟩, ?_⟩
        · rw [← g, Nat.gcd_comm x y, Nat.gcd_rec y x, Nat.gcd_comm]
        · show ((x : Int).fmod (y : Int)).toNat < (y : Int).toNat
          rw [e]
          have := Nat.mod_lt x hy
          omega
      · have hy : y = 0 := by
          have : ¬ (0 : Int) < y := fun c => z (decide_eq_true c)
          omega
        subst hy
        rw [Nat.gcd_zero_right] at g
        refine ⟨_, rfl, ?_⟩
        subst g
        exact q
    · rintro σ Hc R R' im ⟨v, e1, i, j, e2, e3, k, e4, c⟩
      exact ⟨v, e1, i, j, e2, e3, k, e4, im _ _ c⟩
/-! ### _law_ratio, _law_pair, _law_told -/
abbrev sRat : Stmt := FR.top 20
theorem scRat : FnScope ["_law_top", "_law_bottom", "_law_part"] ["_law_top", "_law_bottom"] (defScope sRat) := ⟨rfl, rfl, rfl, by decide +kernel, rfl, by decide +kernel, by decide +kernel⟩
def spRat : Sp := fun vs H Q _ => ∃ t b : Int, vs = [.int t, .int b] ∧ 0 < b ∧ b.natAbs < 2 ^ 8000 ∧ ∀ p, H p = none → Q (.ref p) (upd H p (.tup [.int (nT t b), .int (nB t b)]))
theorem abs_nat (t : Int) : (if t < 0 then -t else t) = ((t.natAbs : Nat) : Int) := by split <;> omega
theorem ok_rat {f fG : Addr} {fd fdG : FuncData} (F : Fun K "_law_ratio" "_law_ratio" sRat f fd) (GG : FnOk P w K mg base CX0 1 fG fdG ["_law_one", "_law_two"] spGcd) (mG : mg "_law_gcd" = some (.ref fG))
    (kG : PySem.W.keepIn K (.ref fG) = true) (bG : Binds K fdG ["_law_one", "_law_two"] []) (ma : mg "abs" = none) : FnOk P w K mg base CX0 2 f fd ["_law_top", "_law_bottom"] spRat := by
  refine F.ok scRat (fun vs H Q E h => ?_) (fun cdv A outer s H vs Q E hr h => ?_)
  · obtain ⟨t, b, rfl, _⟩ := h
    rfl
  · obtain ⟨t, b, rfl, hb, hz, q⟩ := h
    refine ⟨_, pss_cons (ps_set (i := 2) scRat.nd rfl (Or.inl rfl) (pe_call GG hr (by rfl) mG kG bG .nil pass0 (pa_cons (pe_callB call_abs (by rfl) ma (by decide +kernel) (pa_cons (pv 0) pa_nil)) (pa_cons (pv 1) pa_nil))))
      (pss_one (ps_ret (pe_tup (pa_cons (pe_op op_fdivX (pv 0) (pv 2)) (pa_cons (pe_op op_fdivX (pv 1) (pv 2)) pa_nil))))), ?_⟩
    have ed : dv t b = ((Nat.gcd t.natAbs b.natAbs : Nat) : Int) := if_neg (by omega)
    have hb0 : b ≠ 0 := by omega
    have dz : ∀ i : Int, CDivX i ((Nat.gcd t.natAbs b.natAbs : Nat) : Int) := fun i => by
      rw [← ed]
      exact div_ok (dv_ne hb0) (Nat.lt_of_le_of_lt (dv_le hb0) hz) (by decide) (by decide)
    have eb : V.int b = V.int ((b.natAbs : Nat) : Int) := by rw [show ((b.natAbs : Nat) : Int) = b by omega]
    refine ⟨_, rfl, _, rfl, _, rfl, t.natAbs, b.natAbs, by rw [abs_nat, eb]; rfl, ?_⟩
    refine ⟨_, rfl, _, rfl, _, _, rfl, rfl, dz _, _, rfl, _, rfl, _, _, rfl, rfl, dz _, small1000 (by show 1 ≤ 1000; decide), fun p hp => ?_⟩
    have e := q p hp
    unfold nT nB at e
    rw [ed] at e
    exact e
abbrev sPair : Stmt := FR.top 23
theorem scPair : FnScope ["_law_top", "_law_bottom"] ["_law_top", "_law_bottom"] (defScope sPair) := ⟨rfl, rfl, rfl, by decide +kernel, rfl, by decide +kernel, by decide +kernel⟩
def spPair : Sp := fun vs H Q _ => ∃ t b : Int, vs = [.int t, .int b] ∧ b ≠ 0 ∧ b.natAbs < 2 ^ 8000 ∧ ∀ p, H p = none → Q (.ref p) (upd H p (.tup [.int (nT t b), .int (nB t b)]))
theorem ok_pair {f fG : Addr} {fd fdG : FuncData} (F : Fun K "_law_pair" "_law_pair" sPair f fd) (GG : FnOk P w K mg base CX0 2 fG fdG ["_law_top", "_law_bottom"] spRat) (mG : mg "_law_ratio" = some (.ref fG))
    (kG : PySem.W.keepIn K (.ref fG) = true) (bG : Binds K fdG ["_law_top", "_law_bottom"] []) : FnOk P w K mg base CX0 3 f fd ["_law_top", "_law_bottom"] spPair := by
  refine F.ok scPair (fun vs H Q E h => ?_) (fun cdv A outer s H vs Q E hr h => ?_)
  · obtain ⟨t, b, rfl, _⟩ := h
    rfl
  · obtain ⟨t, b, rfl, hb, hz, q⟩ := h
    refine ⟨_, pss_one (ps_ret (pe_ifExp (pt_cmpR op_gt (pv 1) pe_int (nomark _)) (pe_call GG hr (by rfl) mG kG bG .nil pass0 (pa_cons (pv 0) (pa_cons (pv 1) pa_nil)))
      (pe_call GG hr (by rfl) mG kG bG .nil pass0 (pa_cons (pe_op op_sub pe_int (pv 0)) (pa_cons (pe_op op_sub pe_int (pv 1)) pa_nil))))), ?_⟩
    refine ⟨_, rfl, _, _, rfl, rfl, _, rfl, ite2 (fun z => ?_) (fun z => ?_)⟩
    · have z := of_decide_eq_true z
      exact ⟨_, rfl, _, rfl, t, b, rfl, by omega, hz, q⟩
    · have z : ¬ (0 : Int) < b := fun c => z (decide_eq_true c)
      have e1 : (0 : Int) - t = -t := by omega
      have e2 : (0 : Int) - b = -b := by omega
      refine ⟨_, rfl, _, _, rfl, rfl, _, rfl, _, _, rfl, rfl, 0 - t, 0 - b, rfl, by omega, by rw [e2, Int.natAbs_neg]; exact hz, fun p hp => ?_⟩
      rw [e1, e2, nT_neg hb, nB_neg hb]
      exact q p hp
abbrev sTold : Stmt := FR.top 24
theorem scTold : FnScope ["_law_thing"] ["_law_thing"] (defScope sTold) := ⟨rfl, rfl, rfl, by decide +kernel, rfl, by decide +kernel, by decide +kernel⟩
def spTold (C : Addr) : Sp := fun vs H Q _ => ∃ (x : Addr) (t b : Int), vs = [.ref x] ∧ FrAt C H x t b ∧ ∀ p, H p = none → Q (.ref p) (upd H p (.tup [.int t, .int b]))
variable {C fI pT gT pB gB : Addr} {fdI fdT fdB : FuncData}
theorem ok_told {f : Addr} {fd : FuncData} (F : Fun K "_law_told" "_law_told" sTold f fd) (k : FrK P w K mg base C fI pT gT pB gB fdI fdT fdB) : FnOk P w K mg base CX0 3 f fd ["_law_thing"] (spTold C) := by
  refine F.ok scTold (fun vs H Q E h => ?_) (fun cdv A outer s H vs Q E hr h => ?_)
  · obtain ⟨x, t, b, rfl, _⟩ := h
    rfl
  · obtain ⟨x, t, b, rfl, ⟨dx, hp⟩, q⟩ := h
    refine ⟨_, pss_one (ps_ret (pe_tup (pa_cons (pe_prop (pv 0) k.T.cl k.oT k.GT (hr.mono (by decide)) k.bT .nil pass0 rfl) (pa_cons (pe_prop (pv 0) k.T.cl k.oB k.GB (hr.mono (by decide)) k.bB .nil pass0 rfl) pa_nil)))), ?_⟩
    exact ⟨_, rfl, x, dx, _, rfl, hp, x, dx, _, _, rfl, hp, fl_top _ _, _, rfl, x, dx, _, rfl, hp, x, dx, _, _, rfl, hp, fl_bot _ _, small1000 (by show 1 ≤ 1000; decide), fun p hn => q p hn⟩
end
end FR
set_option Elab.async false
set_option linter.all false
set_option maxRecDepth 100000
set_option maxHeartbeats 4000000
namespace FR
open PySem PySem.Spec PyProof.Rows L2 LD
/-- the dice have rolled; all else that stood there stands -/
def Rl (d : Addr) (H H' : Hp) : Prop := DiceAt H' d ∧ ∀ q o, q ≠ d → H q = some o → H' q = some o
theorem Rl.refl {d : Addr} {H : Hp} (h : DiceAt H d) : Rl d H H := ⟨h, fun _ _ _ e => e⟩
theorem Rl.trans {d : Addr} {H H1 H2 : Hp} (a : Rl d H H1) (b : Rl d H1 H2) : Rl d H H2 := ⟨b.1, fun q o n e => b.2 q o n (a.2 q o n e)⟩
theorem Rl.roll {d : Addr} {H H1 : Hp} {a b c : Int} (r : Rl d H H1) : Rl d H (upd H1 d (.lst (dxs a b c))) := ⟨⟨a, b, c, upd_same⟩, fun q o n e => by rw [upd_ne n]; exact r.2 q o n e⟩
theorem Rl.new {d p : Addr} {H H1 : Hp} {o : HO} (r : Rl d H H1) (hp : H1 p = none) : Rl d H (upd H1 p o) := by
  obtain ⟨a, b, c, e⟩ := r.1
  exact ⟨⟨a, b, c, by rw [upd_ne (ne_of_none e hp)]; exact e⟩, fun q o' n e' => by
    have := r.2 q o' n e'
    rw [upd_ne (ne_of_none this hp)]
    exact this⟩
theorem Rl.free {d p : Addr} {H H1 : Hp} (r : Rl d H H1) (hd : DiceAt H d) (hp : H1 p = none) : H p = none := by
  cases e : H p with
  | none => rfl
  | some o =>
    by_cases q : p = d
    · subst q
      obtain ⟨a, b, c, e'⟩ := r.1
      rw [hp] at e'
      cases e'
    · have := r.2 p o q e
      rw [hp] at this
      cases this
theorem Rl.same {d : Addr} {H H1 H2 : Hp} (r : Rl d H H1) (s : Same H1 H2) : Rl d H H2 := by
  obtain ⟨a, b, c, e⟩ := r.1
  exact ⟨⟨a, b, c, s _ _ e⟩, fun q o n e => s _ _ (r.2 q o n e)⟩
section
variable {P : Program} {w : World} {K : PySem.W.Frag} {mg : Str → Option Value} {base : Heap}
abbrev sInt : Stmt := FR.top 21
theorem scInt : FnScope ["_law_dice_here", "_law_found"] ["_law_dice_here"] (defScope sInt) := ⟨rfl, rfl, rfl, by decide +kernel, rfl, by decide +kernel, by decide +kernel⟩
def small (n : Nat) (v : V) : Prop := ∃ i : Int, v = .int i ∧ i.natAbs < 2 ^ n
theorem all_small {n : Nat} {xs : List V} {k : Nat} {v : V} (h : ∀ v ∈ xs, small n v) (e : xs[k]? = some v) : small n v := h v (List.mem_of_getElem? e)
theorem sm_nil {n : Nat} : ∀ v ∈ ([] : List V), small n v := fun v h => nomatch h
theorem sm_cons {n : Nat} {i : Int} {xs : List V} (h : i.natAbs < 2 ^ n) (r : ∀ v ∈ xs, small n v) : ∀ v ∈ V.int i :: xs, small n v := fun v hv => by
  rcases List.mem_cons.mp hv with e | e
  · exact ⟨i, e, h⟩
  · exact r v e
theorem pow6 : CPowW 10 6 := ⟨by decide, by decide +kernel⟩
theorem pow20 : CPowW 10 20 := ⟨by decide, by decide +kernel⟩
def spInt : Sp := fun vs H Q _ => ∃ d, vs = [.ref d] ∧ DiceAt H d ∧ ∀ (i : Int) H', i.natAbs < 2 ^ 240 → Rl d H H' → Q (.int i) H'
theorem ok_int {f fR fO : Addr} {fd fdR fdO : FuncData} (F : Fun K "_law_integer" "_law_integer" sInt f fd) (GR : FnOk P w K mg base CX0 1 fR fdR ["_law_dice_here", "_law_total"] spRoll) (mR : mg "_law_roll" = some (.ref fR)) (kR : PySem.W.keepIn K (.ref fR) = true)
    (bR : Binds K fdR ["_law_dice_here", "_law_total"] []) (GO : FnOk P w K mg base CX0 2 fO fdO ["_law_dice_here", "_law_items"] spOneOf) (mO : mg "_law_one_of" = some (.ref fO)) (kO : PySem.W.keepIn K (.ref fO) = true) (bO : Binds K fdO ["_law_dice_here", "_law_items"] []) :
    FnOk P w K mg base CX0 3 f fd ["_law_dice_here"] spInt := by
  refine F.ok scInt (fun vs H Q E h => ?_) (fun cdv A outer s H vs Q E hr h => ?_)
  · obtain ⟨d, rfl, _⟩ := h
    rfl
  · obtain ⟨d, rfl, hd, q⟩ := h
    refine ⟨_, pss_cons (ps_set (i := 1) scInt.nd rfl (Or.inl rfl) (pe_call GO hr (by rfl) mO kO bO .nil pass0 (pa_cons (pv 0) (pa_cons (pe_lst (pa_cons pe_int (pa_cons pe_int (pa_cons pe_int (pa_cons pe_int (pa_cons pe_int (pa_cons pe_int (pa_cons pe_int (pa_cons pe_int (pa_cons pe_int
        (pa_cons pe_int (pa_cons pe_int (pa_cons pe_int (pa_cons pe_int pa_nil)))))))))))))) pa_nil))))
      (pss_cons (ps_if (pt_cmpR op_eq (pe_call GR (hr.mono (by decide)) (by rfl) mR kR bR .nil pass0 (pa_cons (pv 0) (pa_cons pe_int pa_nil))) pe_int (nomark _))
        (pss_one (ps_set (i := 1) scInt.nd rfl (Or.inl rfl) (pe_op op_mulW (pe_op op_mulW (pv 1) (pe_op op_add pe_int (pe_call GR (hr.mono (by decide)) (by rfl) mR kR bR .nil pass0 (pa_cons (pv 0) (pa_cons (pe_op op_powW pe_int pe_int) pa_nil)))))
          (pe_call GO hr (by rfl) mO kO bO .nil pass0 (pa_cons (pv 0) (pa_cons (pe_lst (pa_cons pe_int (pa_cons pe_int (pa_cons (pe_op op_powW pe_int pe_int) (pa_cons (pe_op op_mulW pe_int (pe_op op_powW pe_int pe_int)) pa_nil))))) pa_nil)))))) pss_nil)
      (pss_one (ps_ret (pe_ifExp (pt_cmpR op_eq (pe_call GR (hr.mono (by decide)) (by rfl) mR kR bR .nil pass0 (pa_cons (pv 0) (pa_cons pe_int pa_nil))) pe_int (nomark _)) (pe_op op_sub pe_int (pv 1)) (pv 1))))), ?_⟩
    refine ⟨_, rfl, small1000 (by decide), fun p hp => ?_⟩
    have r1 : Rl d H (upd H p (.lst [V.int 0, .int 1, .int 1, .int 2, .int 3, .int 4, .int 6, .int 9, .int 12, .int 35, .int 60, .int 210, .int 997])) := (Rl.refl hd).new hp
    refine ⟨d, p, _, rfl, r1.1, upd_same, fun e => ?_, by decide, by decide, fun k x a b c hx => ?_⟩
    · subst e
      obtain ⟨a, b, c, e⟩ := hd
      rw [hp] at e
      cases e
    obtain ⟨i, rfl, hi⟩ := all_small (n := 10) (sm_cons (by decide) (sm_cons (by decide) (sm_cons (by decide) (sm_cons (by decide) (sm_cons (by decide) (sm_cons (by decide) (sm_cons (by decide) (sm_cons (by decide) (sm_cons (by decide) (sm_cons (by decide) (sm_cons (by decide) (sm_cons (by decide) (sm_cons (by decide) sm_nil))))))))))))) hx
    have r2 := r1.roll (a := a) (b := b) (c := c)
    generalize upd (upd H p _) d _ = H1 at r2 ⊢
    refine ⟨_, rfl, d, _, rfl, r2.1, by decide, by decide, fun r a b c _ _ => ?_⟩
    have r3 := r2.roll (a := a) (b := b) (c := c)
    generalize upd H1 d _ = H2 at r3 ⊢
    refine ⟨rfl, _, rfl, ite2 (fun z => ?_) (fun z => ?_)⟩
    · refine ⟨_, rfl, _, rfl, _, _, rfl, rfl, pow6, d, _, rfl, r3.1, by decide, by decide, fun y a b c y0 y1 => ?_⟩
      have r4 := r3.roll (a := a) (b := b) (c := c)
      generalize upd H2 d _ = H3 at r4 ⊢
      have y2 : (1 + y).natAbs < 2 ^ 20 := by
        have : y < 1000000 := y1
        omega
      refine ⟨_, _, rfl, rfl, _, _, rfl, rfl, wide_mul hi y2 (by decide) (by decide) (by decide), ?_⟩
      refine ⟨_, rfl, _, _, rfl, rfl, pow20, _, _, rfl, rfl, pow60, _, _, rfl, rfl, wide_mul (a := 3) (b := 200) (by decide) (by decide +kernel) (by decide) (by decide) (by decide), small1000 (by show 3 ≤ 1000; decide), fun p' hp' => ?_⟩
      have r5 := r4.new (o := .lst [V.int 1, .int 7, .int ((10 : Int) ^ (20 : Int).toNat), .int (6 * (10 : Int) ^ (60 : Int).toNat)]) hp'
      refine ⟨d, p', _, rfl, r5.1, upd_same, fun e => ?_, by show 0 < 4; decide, by show 4 < 1000; decide, fun k2 x a b c hx2 => ?_⟩
      · subst e
        obtain ⟨a, b, c, e⟩ := r4.1
        rw [hp'] at e
        cases e
      obtain ⟨i2, rfl, hi2⟩ := all_small (n := 203) (sm_cons (by decide) (sm_cons (by decide) (sm_cons (by decide +kernel) (sm_cons (by decide +kernel) sm_nil)))) hx2
      have r6 := r5.roll (a := a) (b := b) (c := c)
      generalize upd (upd H3 p' _) d _ = H4 at r6 ⊢
      have w1 : (i * (1 + y)).natAbs < 2 ^ 30 := wide_lt hi y2
      have w2 : (i * (1 + y) * i2).natAbs < 2 ^ 233 := wide_lt w1 hi2
      refine ⟨_, _, rfl, rfl, wide_mul w1 hi2 (by decide) (by decide) (by decide), ?_⟩
      have w3 : (i * (1 + y) * i2).natAbs < 2 ^ 240 := Nat.lt_trans w2 (by decide +kernel)
      refine ⟨_, rfl, d, _, rfl, r6.1, by decide, by decide, fun u a b c _ _ => ?_⟩
      refine ⟨rfl, _, rfl, ite2 (fun _ => ?_) (fun _ => ?_)⟩
      · exact ⟨_, rfl, _, _, rfl, rfl, q _ _ (by rw [Int.zero_sub, Int.natAbs_neg]; exact w3) r6.roll⟩
      · exact ⟨_, rfl, q _ _ w3 r6.roll⟩
    · have w3 : i.natAbs < 2 ^ 240 := Nat.lt_trans hi (by decide +kernel)
      refine ⟨_, rfl, d, _, rfl, r3.1, by decide, by decide, fun u a b c _ _ => ?_⟩
      refine ⟨rfl, _, rfl, ite2 (fun _ => ?_) (fun _ => ?_)⟩
      · exact ⟨_, rfl, _, _, rfl, rfl, q _ _ (by rw [Int.zero_sub, Int.natAbs_neg]; exact w3) r3.roll⟩
      · exact ⟨_, rfl, q _ _ w3 r3.roll⟩
abbrev sCou : Stmt := FR.top 22
theorem scCou : FnScope ["_law_dice_here", "_law_top", "_law_bottom"] ["_law_dice_here"] (defScope sCou) := ⟨rfl, rfl, rfl, by decide +kernel, rfl, by decide +kernel, by decide +kernel⟩
def spCou : Sp := fun vs H Q _ => ∃ d, vs = [.ref d] ∧ DiceAt H d ∧ ∀ (t b : Int) (p : Addr) H', t.natAbs < 2 ^ 240 → b.natAbs < 2 ^ 240 → b ≠ 0 → Rl d H H' → H' p = none → Q (.ref p) (upd H' p (.tup [.int t, .int b]))
theorem ok_cou {f fI fO : Addr} {fd fdI fdO : FuncData} (F : Fun K "_law_couple" "_law_couple" sCou f fd) (GI : FnOk P w K mg base CX0 3 fI fdI ["_law_dice_here"] spInt) (mI : mg "_law_integer" = some (.ref fI)) (kI : PySem.W.keepIn K (.ref fI) = true)
    (bI : Binds K fdI ["_law_dice_here"] []) (GO : FnOk P w K mg base CX0 2 fO fdO ["_law_dice_here", "_law_items"] spOneOf) (mO : mg "_law_one_of" = some (.ref fO)) (kO : PySem.W.keepIn K (.ref fO) = true) (bO : Binds K fdO ["_law_dice_here", "_law_items"] []) :
    FnOk P w K mg base CX0 4 f fd ["_law_dice_here"] spCou := by
  refine F.ok scCou (fun vs H Q E h => ?_) (fun cdv A outer s H vs Q E hr h => ?_)
  · obtain ⟨d, rfl, _⟩ := h
    rfl
  · obtain ⟨d, rfl, hd, q⟩ := h
    refine ⟨_, pss_cons (ps_par (i := 1) (j := 2) (by rfl) scCou.nd rfl rfl (by decide) rfl rfl (pa_cons (pe_call GI hr (by rfl) mI kI bI .nil pass0 (pa_cons (pv 0) pa_nil)) (pa_cons (pe_call GI hr (by rfl) mI kI bI .nil pass0 (pa_cons (pv 0) pa_nil)) pa_nil)) (by rfl))
      (pss_one (ps_ret (pe_tup (pa_cons (pv 1) (pa_cons (pe_ifExp (pt_cmpR op_ne (pv 2) pe_int (nomark _)) (pv 2) (pe_call GO (hr.mono (by decide)) (by rfl) mO kO bO .nil pass0 (pa_cons (pv 0) (pa_cons (pe_lst (pa_cons pe_int (pa_cons (pe_un un_neg pe_int) (pa_cons pe_int pa_nil)))) pa_nil)))) pa_nil))))), ?_⟩
    refine ⟨_, rfl, d, rfl, hd, fun t H1 ht r1 => ?_⟩
    refine ⟨_, rfl, d, rfl, r1.1, fun b H2 hb r2 => ?_⟩
    have r2 := r1.trans r2
    refine ⟨_, _, rfl, ?_⟩
    refine ⟨_, rfl, _, rfl, rfl, _, rfl, ite2 (fun z => ?_) (fun z => ?_)⟩
    · have hb0 : b ≠ 0 := fun e => by
        subst e
        exact absurd z (by decide)
      exact ⟨_, rfl, small1000 (by show 1 ≤ 1000; decide), fun p hp => q t b p H2 ht hb hb0 r2 hp⟩
    · refine ⟨_, rfl, _, rfl, small1000 (by show 2 ≤ 1000; decide), fun p hp => ?_⟩
      have r3 := r2.new (o := .lst [V.int 1, .int (-1), .int 5]) hp
      refine ⟨d, p, _, rfl, r3.1, upd_same, fun e => ?_, by show 0 < 3; decide, by show 3 < 1000; decide, fun k x a b c hx => ?_⟩
      · subst e
        obtain ⟨a, b, c, e⟩ := r2.1
        rw [hp] at e
        cases e
      have hx3 : ∃ i : Int, x = .int i ∧ i.natAbs < 2 ^ 240 ∧ i ≠ 0 := by
        have hm := List.mem_of_getElem? hx
        rcases List.mem_cons.mp hm with e | hm
        · exact ⟨1, e, by decide +kernel, by decide⟩
        rcases List.mem_cons.mp hm with e | hm
        · exact ⟨-1, e, by decide +kernel, by decide⟩
        rcases List.mem_cons.mp hm with e | hm
        · exact ⟨5, e, by decide +kernel, by decide⟩
        · exact nomatch hm
      obtain ⟨i, rfl, hi, hi0⟩ := hx3
      have r4 := r3.roll (a := a) (b := b) (c := c)
      exact ⟨small1000 (by show 1 ≤ 1000; decide), fun p2 hp2 => q t i p2 _ ht hi hi0 r4 hp2⟩
end
end FR
set_option Elab.async false
set_option linter.all false
set_option maxRecDepth 100000
set_option maxHeartbeats 2000000
/-! defs that write values as texts (repr): their promise knows that no repr is running around the call -/
namespace L2
open PySem PySem.Spec PyProof.Rows
/-- as FnOk, where no repr is running around -/
structure FnG (P : Program) (w : World) (K : PySem.W.Frag) (mg : Str → Option Value) (base : Heap) (CX : CXT) (k : Nat) (f : Addr) (fd : FuncData) (ps : List Str) (sp : Sp) : Prop where
  len : ∀ vs H Q E, sp vs H Q E → vs.length = ps.length
  run : ∀ (A : Around) (outer : List Env) (s : Shared) (H : Hp) (ar : Args) (us : List Value) (vs : List V) (Q : VK) (E : XK), Room k A → A.guards = some [] → Env0 P w K mg base A outer s H → BindsTo s fd ar (ps.zip us) → Vals vs us →
    sp vs H Q E → codeAny (model P w) A (.call (.ref f) ar) (CR CX outer P w H s Q E) s
theorem guards_deeper {A : Around} {env : Env} (h : A.guards = some []) : (A.deeper env).guards = some [] := by
  first | exact h | (show pushGuards _ A.guards = some []; rw [h]; rfl) | (simp [Around.deeper, h])
section
variable {P : Program} {w : World} {K : PySem.W.Frag} {mg : Str → Option Value} {base : Heap}
theorem FnOk.g {CX : CXT} {k : Nat} {f : Addr} {fd : FuncData} {ps : List Str} {sp : Sp} (F : FnOk P w K mg base CX k f fd ps sp) : FnG P w K mg base CX k f fd ps sp :=
  ⟨F.len, fun A o s H ar us vs Q E hr _ he hb hv hs => F.run A o s H ar us vs Q E hr he hb hv hs⟩
theorem Fun.okG {x qual : Str} {st : Stmt} {f : Addr} {fd : FuncData} {N ps : List Str} {k : Nat} {sp : Sp} (F : Fun K x qual st f fd) (S : FnScope N ps (defScope st)) (len : ∀ vs H Q E, sp vs H Q E → vs.length = ps.length)
    (hbody : ∀ (cdv : Value) (A : Around) (outer : List Env) (s : Shared) (H : Hp) (vs : List V) (Q : VK) (E : XK), Room k (A.deeper (envOfC qual (defScope st) s.heap.objs.size f cdv)) → A.guards = some [] → sp vs H Q E →
      ∃ t, PSs (cxOf CX0 P w K mg base N qual (defScope st) f cdv A outer s H E).nox (defBody st) t ∧ t { nx := fun _ H' => Q .non H', rt := Q } (start N vs) H) : FnG P w K mg base CX0 (k + 1) f fd ps sp := by
  obtain ⟨oc, od, kV, doc, pm, an, cdv, ct, osl, rfl, lk, hcd⟩ := F.ex
  constructor
  · exact len
  intro A outer s H ar us vs Q E hr hg e0 hb r hsp
  have bk : ∀ b o, base.get? b = some o → s.heap.get? b = some o := fun b o e => (e0.bs b o e).1
  have KX : K.In s.heap := e0.mod.kin.keeps bk
  have hkind : ∀ y ∈ ps.zip us, (defScope st).names.lookup y.1 = some .local ∨ ((defScope st).names.lookup y.1 = some .cell ∧ ((cellsFrom (s.heap.objs.size + 1) (defScope st).names []).lookup y.1).isSome = true) := by
    rintro ⟨n, v⟩ hy
    exact (S.par n (List.of_mem_zip hy).1).imp id fun q => ⟨q, PySem.W.cellsFrom_some _ _ _ (.inl q)⟩
  refine codeAny_call_function hr.depth (KX _ _ lk) rfl S.co S.gen rfl (PySem.W.codeRec_of KX hcd) (hb _ _ _ _ (wpAny_newFunctionEnv_cells S.kind hkind fun env he s1 x => ?_))
  subst he
  refine ⟨(e0.mod.nolimit.keeps bk).keeps x.toInCall.keep, codeAny_func ?_⟩
  obtain ⟨t, ht, hq⟩ := hbody cdv A outer s H vs Q E (hr.deeper _) hg hsp
  have I : Inv (cxOf CX0 P w K mg base N qual (defScope st) f cdv A outer s H E) [] (start N vs) H s1 := inv_start S hr.hd e0 (len _ _ _ _ hsp) r x
  refine wpAny_mono (ht.nox.run [] s1 (start N vs) H _ I hq) ?_ fun e s' hs => hs
  intro fl s' hs
  cases fl with
  | ret u => obtain ⟨v, σ', H', J, rv, q⟩ := hs; exact ⟨v, H', J.os, J.bare, J.base, J.hok, rv, q⟩
  | next => obtain ⟨σ', H', J, q⟩ := hs; exact ⟨V.non, H', J.os, J.bare, J.base, J.hok, rfl, q⟩
  | brk => obtain ⟨_, _, _, z⟩ := hs; exact z.elim
  | cont => obtain ⟨_, _, _, z⟩ := hs; exact z.elim
end
section
variable {X : Cx} {CX : CXT} {k : Nat} {f : Addr} {fd : FuncData} {ps : List Str} {sp : Sp} {ds : List Value} {dvs : List V} {E : XK} {x : Str} {p pos : Pos} {e : Expr} {es : List Expr} {t : TA}
theorem pe_callG (F : FnG X.prog X.w X.K X.mg X.base CX k f fd ps sp) (hr : Room k X.A) (hgd : X.A.guards = some []) (hg : Gl X x) (hm : X.mg x = some (.ref f)) (hk : PySem.W.keepIn X.K (.ref f) = true) (hb : Binds X.K fd ps ds) (hd : Vals dvs ds) (hx : Passes CX X E)
    (ha : PA X (e :: es) t) (hdb : (x == ("__debug__" : Str)) = false := by decide) (he : starEach (e :: es) X.env = (false, eval e X.env) :: starEach es X.env := by rfl) (hpl : (backTo pos (starEach es X.env)).any (·.1) = false := by rfl) :
    PE X (.Call (.Name x p) (e :: es) [] pos) (tCall sp dvs E t) := by
  refine ⟨fun pins s σ H Q I h => wpAny_Call_Name_kw (ld_glob I hg hm ?_ hdb)⟩
  refine PySem.W.callWith_K (h₀ := X.base) I.ok.mod.kin hk ?_ he hpl
  refine thn (ha.run pos pins s σ H _ I h) ?_
  rintro us s1 ⟨vs, H1, I1, r, q⟩
  refine ⟨I1.kIn, ?_⟩
  have r2 : Vals (vs ++ dvs) (us ++ ds) := r.append hd
  have hl : (us ++ ds).length = ps.length := r2.length.symm.trans (F.len _ _ _ _ q)
  refine wpAny_call (codeAny_mono (F.run X.A X.stack s1 H1 ⟨us, []⟩ (us ++ ds) (vs ++ dvs) Q E hr hgd I1.env0 (hb s1 us I1.kIn hl) r2 q) ?_)
  intro rr s' hq
  rcases rr with er | fl
  · exact hx pins σ H1 s1 er s' I1 hq
  · cases fl <;> first | exact I1.after hq | exact hq.elim
/-- repr of data -/
def rRepr (K : PySem.W.Frag) : List V → Hp → VK → Prop := fun xs H Q => ∃ (a : Addr) (d : PyData), xs = [.ref a] ∧ Dp K H (.ref a) d ∧ d.showable = true ∧ d.hasDict = false ∧ d.depth ≤ 20 ∧ d.shown.length ≤ sizeLine ∧ Q (.str d.shown) H
theorem call_repr (hg : X.A.guards = some []) (hu : X.A.units + 64 < cLine) : CallR X (.builtin "repr") (rRepr X.K) := by
  intro pins s σ H xs us Q I r h
  obtain ⟨a, d, rfl, hd, hs, hn, hz, hl, q⟩ := h
  obtain ⟨u, rfl, r1⟩ := vals1 r
  cases r1
  obtain ⟨as, R⟩ := Dp.reads I d _ _ hd rfl
  exact repr_of_reads' R hs (fun z => by rw [hn] at z; cases z) hg (by omega) (fun _ _ z => z) (fun h' u tk kk => ⟨.str _, H, I.kept (t' := tk) kk, ⟨_, rfl⟩, q⟩) hl
end

/-! ### the law's own end, for a promise of this kind -/
theorem lawG {P : Program} {w : World} {K : PySem.W.Frag} {mg mb : Str → Option Value} {CX : CXT} {k : Nat} {fa a : Addr} {fd : FuncData} {x : Str} {sp : Sp} {s₁ : Shared} {vs : List Value} {ns : List Int}
    (KX : K.In s₁.heap) (hns : s₁.heap.Ns mainGlobals mg) (hb : s₁.heap.Ns builtinsNs mb) (hbb : ∀ x : Str, x ≠ "__name__" → mb x = bootBuiltins x) (hlim : s₁.heap.NoLimit) (hg : s₁.gens = #[])
    (ha : s₁.heap.get? a = some { cls := .type "list", data := .seq vs.toArray }) (hi : IntsAre vs ns) (hl : ns.length ≤ sizeLine) (hr : Room k callerA)
    (F : ∀ base : Heap, K.In base → base.Ns mainGlobals mg → FnG P w K mg base CX k fa fd [x] sp) (hbind : ∀ (s : Shared) (u : Value), BindsTo s fd ⟨[u], []⟩ [(x, u)])
    (hsp : ∀ H : Hp, Only H → SqL K H a (ns.map V.int) → sp [.ref a] H (fun v _ => v = .bl true) fun _ _ _ => False) (hCX : ∀ H e s', CX [] H s₁ (fun _ _ _ => False) e s' → False) :
    codeAny (model P w) callerA (.call (.ref fa) ⟨[.ref a], []⟩) (fun r s' => r = .ok (.ret (.bool true)) ∧ OldK s₁.heap s'.heap ∧ s'.os = s₁.os ∧ AllBare s'.gens) s₁ := by
  have rv := vals_ints hi
  have nil0 : ∀ b : Addr, b ∉ ([] : List Addr) := fun b z => nomatch z
  have run : ∀ H : Hp, Only H → SqL K H a (ns.map V.int) → HOk P w H s₁.heap → (∀ b, H b ≠ none → b = a) → (H a ≠ none → K.lookup a = none) →
      codeAny (model P w) callerA (.call (.ref fa) ⟨[.ref a], []⟩) (fun r s' => r = .ok (.ret (.bool true)) ∧ OldK s₁.heap s'.heap ∧ s'.os = s₁.os ∧ AllBare s'.gens) s₁ := by
    intro H hO hS hok hA hK
    have noH : ∀ b, b ≠ a → H b = none := fun b hb => by
      cases q : H b with
      | none => rfl
      | some u => exact (hb (hA b (by rw [q]; exact fun z => nomatch z))).elim
    have noD : ∀ {b : Addr} {o : Obj} {es : Array DictEntry} {ep : Nat}, s₁.heap.get? b = some o → o.data = .dict es ep → H b = none := fun {b o es ep} e d => noH b fun z => by
      subst z
      have y := Option.some.inj (ha.symm.trans e)
      rw [← y] at d
      cases d
    have nsK : ∀ {b : Addr} {m : Str → Option Value}, s₁.heap.Ns b m → (hidT s₁.heap H).Ns b m := by
      rintro b m ⟨o, es, ep, e, d, r⟩
      exact ⟨o, es, ep, hidT_get e (noD e d), d, r⟩
    have hKb : K.In (hidT s₁.heap H) := fun b o e => hidT_get (KX b o e) (by
      by_cases hb : b = a
      · cases q : H b with
        | none => rfl
        | some u =>
          subst hb
          have y := hK (by rw [q]; exact fun z => nomatch z)
          rw [y] at e
          cases e
      · exact noH b hb)
    obtain ⟨mc, l1, l2⟩ := hlim
    have e0 : Env0 P w K mg (hidT s₁.heap H) callerA [] s₁ H :=
      ⟨rfl, ⟨hKb, nsK hns, ⟨mb, nsK hb, hbb⟩, ⟨mc, nsK l1, l2⟩⟩, fun b o e => of_hidT e, Nat.le_of_eq (hidT_size _ _), trivial, fun b hb => (nil0 b hb).elim, hok, .of_eq hg⟩
    have R := (F _ hKb (nsK hns)).run callerA [] s₁ H ⟨[.ref a], []⟩ [.ref a] [.ref a] _ _ hr rfl e0 (hbind s₁ (.ref a)) (.cons rfl .nil) (hsp H hO hS)
    refine codeAny_mono R ?_
    intro r s' h
    rcases r with e | fl
    · exact (hCX H e s' h).elim
    cases fl with
    | next => exact h.elim
    | brk => exact h.elim
    | cont => exact h.elim
    | ret u =>
      obtain ⟨v, H', os, bare, un, hok', r', q⟩ := h
      have qv : v = .bl true := q
      subst qv
      cases r'
      refine ⟨rfl, OldK.of_keep ?_, os, bare⟩
      intro b o e
      rcases hO b with z | ⟨ob, xs, z⟩
      · exact un.keep b o e z (nil0 b) (nil0 b)
      · have y1 := (hok b _ z).1
        have y2 := (hok' b _ (un.frzs b ob _ z)).1
        rw [y2, ← y1, e]
  cases hk : K.lookup a with
  | some o =>
    have e := Option.some.inj ((KX a o hk).symm.trans ha)
    subst e
    refine run (fun _ => none) (fun _ => .inl rfl) ?_ (fun b u z => nomatch z) (fun b z => (z rfl).elim) fun z => (z rfl).elim
    exact .inr ⟨_, vs.toArray, _, hk, rfl, rfl, rfl, by rw [List.size_toArray, hi.length]; exact hl, by simpa using rv⟩
  | none =>
    let o : Obj := { cls := .type "list", data := .seq vs.toArray }
    have hat : (fun b => if b = a then some (HO.frz o (.lst (ns.map V.int))) else none : Hp) a = some (HO.frz o (.lst (ns.map V.int))) := if_pos rfl
    refine run (fun b => if b = a then some (HO.frz o (.lst (ns.map V.int))) else none) (fun b => ?_) (.inl (.inr ⟨o, hat⟩)) (fun b u z => ?_) (fun b z => ?_) fun _ => hk
    · by_cases q : b = a
      · exact .inr ⟨o, _, if_pos q⟩
      · exact .inl (if_neg q)
    · by_cases q : b = a
      · have y := (if_pos q).symm.trans z
        cases y
        rw [q]
        exact ⟨ha, by rw [List.length_map]; exact hl, vs, _, rv, ha⟩
      · have y := (if_neg q).symm.trans z
        cases y
    · by_cases q : b = a
      · exact q
      · exact (z (if_neg q)).elim
theorem walkG {l : PySem.W.OpenLaw} {n k : Nat} {q : Program} {loose : List Str} {XP : (Str → Option Value) → Heap → Prop} {YP : World → Heap → Prop} {d : DefRec} {K : Params → PySem.W.Frag} {CX : World → CXT} {sp : World → Sp} {x : Str}
    (hn : l.most = some n) (hn2 : n ≤ sizeLine) (hdf : d.params.defaults = []) (hr : Room k callerA) (hY : ∀ (w : World) (h : Heap), YP w h → (K w.params).In h)
    (F : ∀ (w : World) (mg : Str → Option Value) (fa : Addr) (h : Heap), (K w.params).In h → h.Ns mainGlobals mg → mg d.name = some (.ref fa) →
      ∃ fd : FuncData, (∀ (s : Shared) (u : Value), BindsTo s fd ⟨[u], []⟩ [(x, u)]) ∧ ∀ base : Heap, (K w.params).In base → base.Ns mainGlobals mg → FnG l.prog w (K w.params) mg base (CX w) k fa fd [x] (sp w))
    (hsp : ∀ (w : World) (H : Hp) (a : Addr) (ns : List Int), ns.length ≤ n → Only H → SqL (K w.params) H a (ns.map V.int) → sp w [.ref a] H (fun v _ => v = .bl true) fun _ _ _ => False)
    (hCX : ∀ (w : World) (H : Hp) (s : Shared) (e : Value) (s' : Shared), CX w [] H s (fun _ _ _ => False) e s' → False) :
    PySem.W.WalkO q loose XP YP l.row.toRowW d [] (fun f vs => PySem.call f vs) := by
  refine Att.attach_call hn hdf ?_
  intro w s₀ s₁ mg mb fa o pm cd doc a vs ns G Y ho hd hcd hmg hobj hints hlen hg
  obtain ⟨fd, hb, hF⟩ := F w mg fa _ (hY w _ Y) G.T.g hmg
  exact lawG (hY w _ Y) G.T.g G.T.b G.T.builtins G.T.nolimit hg hobj hints (Nat.le_trans hlen hn2) hr hF hb (fun H hO hS => hsp w H a ns hlen hO hS) fun H e s' => hCX w H s₁ e s'
end L2
set_option Elab.async false
set_option linter.all false
set_option maxRecDepth 100000
set_option maxHeartbeats 4000000
namespace FR
open PySem PySem.Spec PyProof.Rows L2 LD
/-- a def of the top, with its promise -/
structure Glo (P : Program) (w : World) (K : PySem.W.Frag) (mg : Str → Option Value) (base : Heap) (nm : Str) (n : Nat) (ps : List Str) (sp : Sp) where
  f : Addr
  fd : FuncData
  G : FnOk P w K mg base CX0 n f fd ps sp
  m : mg nm = some (.ref f)
  k : PySem.W.keepIn K (.ref f) = true
  b : Binds K fd ps []
/-- a method -/
structure Met (P : Program) (w : World) (K : PySem.W.Frag) (mg : Str → Option Value) (base : Heap) (C : Addr) (nm : Str) (n : Nat) (ps : List Str) (sp : Sp) where
  f : Addr
  fd : FuncData
  D : Dun K C nm f
  kp : PySem.W.keepIn K (.ref f) = true
  G : FnOk P w K mg base CX0 n f fd ps sp
  b : Binds K fd ps []
/-- what the text says of an operator's names in int -/
structure IntOp (K : PySem.W.Frag) (C : Addr) (nm : String) : Prop where
  r : ∃ rc, PySem.W.findIn K (.ref C) (dunderR nm) = some rc ∧ (rc = none ∨ ∃ g : Addr, rc = some (.ref g))
  i : ∃ fo, PySem.W.findIn K (.type "int") (PySem.dunder nm) = some fo
  j : ∃ ro, PySem.W.findIn K (.type "int") (dunderR nm) = some ro
  s : PySem.W.subIn K (.type "int") (.ref C) = some false
theorem shown_two {i j : Int} (hi : i.natAbs.log2 < 240) (hj : j.natAbs.log2 < 240) : (PyData.tuple [.int i, .int j]).shown.length ≤ sizeLine := by
  have l : ∀ x : Int, x.natAbs.log2 < 240 → (PyData.shown (.int x)).length ≤ 241 := fun x hx => tx_len (i := x) hx (by decide)
  have wt : ∀ x : Int, x.natAbs.log2 < 240 → (PyData.int x).weight ≤ 240 := fun x hx => by
    simp only [PyData.weight]
    split <;> omega
  have h : (PyData.tuple [.int i, .int j]).leavesShort 241 = true := by
    simp only [PyData.leavesShort, PyData.leavesShortAll, Bool.and_eq_true, decide_eq_true_eq]
    exact ⟨l i hi, l j hj, trivial⟩
  have b := PyData.shown_le 241 (by decide) _ h
  have e : (PyData.tuple [.int i, .int j]).weight ≤ 500 := by
    have a1 := wt i hi
    have a2 := wt j hj
    simp only [PyData.weight, PyData.weightAll] at a1 a2 ⊢
    omega
  have hs : (16777216 : Nat) = sizeLine := sizeLine_eq.symm
  omega
theorem same_new {H : Hp} {p : Addr} {o : HO} (h : H p = none) : Same H (upd H p o) := fun q o' e => by rw [upd_ne (ne_of_none e h)]; exact e
theorem dep2 (i j : Int) : (PyData.tuple [.int i, .int j]).depth ≤ 20 := Nat.le_of_ble_eq_true rfl
abbrev sMade : Stmt := FR.top 25
abbrev NM : List Str := ["_law_dice_here", "_law_top", "_law_bottom", "_law_due", "_law_thing", "_law_text", "_law_many", "_law_same", "_law_told_here", "_law_one"]
theorem scM : FnScope NM ["_law_dice_here"] (defScope sMade) := ⟨rfl, rfl, rfl, by decide +kernel, rfl, by decide +kernel, by decide +kernel⟩
def spMade : Sp := fun vs H Q _ => ∃ d, vs = [.ref d] ∧ DiceAt H d ∧ ∀ H', Rl d H H' → Q (.bl true) H'
theorem boot_repr : bootBuiltins "repr" = some (.builtin "repr") := by decide +kernel
section
variable {P : Program} {w : World} {K : PySem.W.Frag} {mg : Str → Option Value} {base : Heap} {C fI pT gT pB gB : Addr} {fdI fdT fdB : FuncData}
structure TxtM (K : PySem.W.Frag) (mg : Str → Option Value) (C : Addr) : Prop where
  re : mg "repr" = none
  st : mg "str" = none
  ab : mg "abs" = none
  le : mg "len" = none
  sf : PySem.W.selfFirst K C = true
  oA : IntOp K C "add"
  si : PySem.W.subIn K (.ref C) (.type "int") = some false
  ne : NeOf K C
  od : OddsC K C
theorem ok_made {f : Addr} {fd : FuncData} (F : Fun K "_law_made_right" "_law_made_right" sMade f fd) (k : FrK P w K mg base C fI pT gT pB gB fdI fdT fdB) (T : TxtM K mg C)
    (gC : Glo P w K mg base "_law_couple" 4 ["_law_dice_here"] spCou) (gP : Glo P w K mg base "_law_pair" 3 ["_law_top", "_law_bottom"] spPair) (gT' : Glo P w K mg base "_law_told" 3 ["_law_thing"] (spTold C)) (gR : Glo P w K mg base "_law_roll" 1 ["_law_dice_here", "_law_total"] spRoll)
    (gF : Glo P w K mg base "is_fraction" 2 ["value"] (spIsF K C)) (mAdd : Met P w K mg base C "__add__" 5 ["self", "other"] (spOp C fAdd)) (mSub : Met P w K mg base C "__sub__" 5 ["self", "other"] (spOp C fSub)) (mRsub : Met P w K mg base C "__rsub__" 6 ["self", "other"] (spRsub C))
    (mMul : Met P w K mg base C "__mul__" 5 ["self", "other"] (spOp C fMul)) (mAbs : Met P w K mg base C "__abs__" 4 ["self"] (spAbs C)) (mStr : Met P w K mg base C "__str__" 3 ["self"] (spStr C)) (mEq : Met P w K mg base C "__eq__" 3 ["self", "other"] (spEq K C))
    (mPow : Met P w K mg base C "power" 4 ["self", "many"] (spPow C)) : FnG P w K mg base CX0 7 f fd ["_law_dice_here"] spMade := by
  obtain ⟨rcA, rA, rA'⟩ := T.oA.r
  obtain ⟨foA, iA⟩ := T.oA.i
  obtain ⟨roA, jA⟩ := T.oA.j
  refine F.okG scM (fun vs H Q E h => ?_) (fun cdv A outer s H vs Q E hr hgA h => ?_)
  · obtain ⟨d, rfl, _⟩ := h
    rfl
  · obtain ⟨d, rfl, hd, q⟩ := h
    have hgd : (A.deeper (envOfC "_law_made_right" (defScope sMade) s.heap.objs.size f cdv)).guards = some [] := guards_deeper hgA
    have hr3 := hr.mono (j := 3) (by decide)
    have hr4 := hr.mono (j := 4) (by decide)
    refine ⟨_, pss_cons (ps_asg (pe_call gC.G (hr.mono (by decide)) (by rfl) gC.m gC.k gC.b .nil pass0 (pa_cons (pv 0) pa_nil)) (pg_tup (by rfl) (pgs_cons (pg_name (i := 1) scM.nd rfl (.inl rfl)) (pgs_cons (pg_name (i := 2) scM.nd rfl (.inl rfl)) pgs_nil))))
      (pss_cons (ps_asg (pe_tup (pa_cons (pe_call gP.G (hr.mono (by decide)) (by rfl) gP.m gP.k gP.b .nil pass0 (pa_cons (pv 1) (pa_cons (pv 2) pa_nil))) (pa_cons (pe_make k.M k.GI (hr.mono (by decide)) (by rfl) k.T.mC k.b2 .nil pass0 (pa_cons (pv 1) (pa_cons (pv 2) pa_nil))) pa_nil)))
          (pg_tup (by rfl) (pgs_cons (pg_name (i := 3) scM.nd rfl (.inl rfl)) (pgs_cons (pg_name (i := 4) scM.nd rfl (.inr rfl)) pgs_nil))))
      (pss_cons (ps_if (pt_cmpR op_ne (pe_callB (call_repr hgd hr.units) (by rfl) T.re boot_repr (pa_cons (pe_call gT'.G (hr.mono (by decide)) (by rfl) gT'.m gT'.k gT'.b .nil pass0 (pa_cons (pv 4) pa_nil)) pa_nil)) (pe_callB (call_repr hgd hr.units) (by rfl) T.re boot_repr (pa_cons (pv 3) pa_nil)) (nomark _)) (pss_one (ps_ret pe_bl)) pss_nil)
      (pss_cons (ps_set (i := 5) scM.nd rfl (Or.inl rfl) (pe_ifExp (pt_cmpR op_eq (pe_ix ix_tup (pv 3) pe_int (fun _ _ => rfl)) pe_int (nomark _)) (pe_callTy call_str_int (by rfl) T.st (by decide +kernel) (pa_cons (pe_ix ix_tup (pv 3) pe_int (fun _ _ => rfl)) pa_nil))
          (pe_op op_add_str (pe_op op_add_str (pe_callTy call_str_int (by rfl) T.st (by decide +kernel) (pa_cons (pe_ix ix_tup (pv 3) pe_int (fun _ _ => rfl)) pa_nil)) pe_str) (pe_callTy call_str_int (by rfl) T.st (by decide +kernel) (pa_cons (pe_ix ix_tup (pv 3) pe_int (fun _ _ => rfl)) pa_nil)))))
      (pss_cons (ps_set (i := 6) scM.nd rfl (Or.inl rfl) (pe_op op_add pe_int (pe_call gR.G (hr.mono (by decide)) (by rfl) gR.m gR.k gR.b .nil pass0 (pa_cons (pv 0) (pa_cons pe_int pa_nil)))))
      (pss_cons (ps_set (i := 7) scM.nd rfl (Or.inl rfl) (pe_lst (pa_cons (pe_make k.M k.GI (hr.mono (by decide)) (by rfl) k.T.mC k.b2 .nil pass0 (pa_cons (pe_op op_mulW (pv 6) (pv 1)) (pa_cons (pe_op op_mulW (pv 6) (pv 2)) pa_nil)))
          (pa_cons (pe_make k.M k.GI (hr.mono (by decide)) (by rfl) k.T.mC k.b2 .nil pass0 (pa_cons (pe_op op_sub pe_int (pv 1)) (pa_cons (pe_op op_sub pe_int (pv 2)) pa_nil)))
          (pa_cons (pe_make k.M k.GI (hr.mono (by decide)) (by rfl) k.T.mC k.b2 .nil pass0 (pa_cons (pe_ix ix_tup (pv 3) pe_int (fun _ _ => rfl)) (pa_cons (pe_ix ix_tup (pv 3) pe_int (fun _ _ => rfl)) pa_nil))) pa_nil)))))
      (pss_cons (ps_if (PW.pt (pw_or (pt_cmpR op_ne (pe_callTy (call_strOwn mStr.D mStr.G (hr.mono (by decide)) mStr.b pass0) (by rfl) T.st (by decide +kernel) (pa_cons (pv 4) pa_nil)) (pv 5) (nomark _))
          (pw_or1 (pt_cmpR (op_neD hr.units) (pe_lc (own := [("_law_one", 9)]) (g := gName 9) (tt := tYes) rfl scM.nd (pi_list (pv 7)) (blkOk_by (N := NM) (sc := defScope sMade) (by decide +kernel))
            (fun _ _ _ _ _ => pg_name (i := 9) scM.nd rfl (.inl rfl)) (fun _ _ _ _ _ => pts_nil) (fun _ _ _ _ _ => pe_cmpR (op_eqLK rfl mEq.D mEq.G hr3 mEq.b pass0) (pv 9) (pv 4) (nomark _))) (pe_op op_rep (pe_lst (pa_cons pe_bl pa_nil)) pe_int) (nomark _))))) (pss_one (ps_ret pe_bl)) pss_nil)
      (pss_cons (ps_if (pt_cmpR (op_neD hr.units) (pe_lc (own := [("_law_one", 9)]) (g := gName 9) (tt := tYes) rfl scM.nd (pi_list (pv 7)) (blkOk_by (N := NM) (sc := defScope sMade) (by decide +kernel))
            (fun _ _ _ _ _ => pg_name (i := 9) scM.nd rfl (.inl rfl)) (fun _ _ _ _ _ => pts_nil) (fun _ _ _ _ _ => pe_cmpR (op_neLK rfl mEq.D T.ne mEq.G hr4 mEq.b pass0) (pv 9) (pv 4) (nomark _))) (pe_op op_rep (pe_lst (pa_cons pe_bl pa_nil)) pe_int) (nomark _)) (pss_one (ps_ret pe_bl)) pss_nil)
      (pss_cons (ps_set (i := 8) scM.nd rfl (Or.inl rfl) (pe_lst (pa_cons (pe_op (op_ownI (op := .Add) mAdd.D T.sf rA rA' iA jA T.oA.s mAdd.G (hr.mono (by decide)) mAdd.b pass0) (pv 4) pe_int)
          (pa_cons (pe_op (op_Iown (op := .Sub) mSub.D mRsub.D T.sf PySem.F.fills_int_sub PySem.F.slot_int_sub PySem.F.entry_int_sub PySem.F.args_int_sub_2 (fun i t l dx => OW.int_sub_no i t) T.si mRsub.G hr mRsub.b pass0) pe_int (pv 4))
          (pa_cons (pe_op (op_own2 (op := .Mult) mMul.D T.sf mMul.G (hr.mono (by decide)) mMul.b pass0) (pv 4) (pv 4))
          (pa_cons (pe_op (op_Iown (op := .Sub) mSub.D mRsub.D T.sf PySem.F.fills_int_sub PySem.F.slot_int_sub PySem.F.entry_int_sub PySem.F.args_int_sub_2 (fun i t l dx => OW.int_sub_no i t) T.si mRsub.G hr mRsub.b pass0) pe_int (pv 4))
          (pa_cons (pe_callB (call_absOwn mAbs.D mAbs.G (hr.mono (by decide)) mAbs.b pass0) (by rfl) T.ab (by decide +kernel) (pa_cons (pv 4) pa_nil))
          (pa_cons (pe_meth (pv 4) k.T.cl ⟨mPow.D.at_, mPow.D.fn, mPow.kp⟩ mPow.G (hr.mono (by decide)) mPow.b .nil pass0 (pa_cons pe_int pa_nil)) pa_nil))))))))
      (pss_one (ps_ret (pe_and (pe_cmpR op_eq (pe_callB call_len_seq (by rfl) T.le PySem.boot_len (pa_cons (pv 8) pa_nil)) pe_int (nomark _)) (pe_and (pe_cmpR (op_eqD hr.units) (pe_call gT'.G (hr.mono (by decide)) (by rfl) gT'.m gT'.k gT'.b .nil pass0 (pa_cons (pv 4) pa_nil)) (pv 3) (nomark _))
          (pe_one (pe_cmpR op_is_bl (pe_call gF.G (hr.mono (by decide)) (by rfl) gF.m gF.k gF.b .nil pass0 (pa_cons (pv 4) pa_nil)) pe_bl (nomark _))))))))))))))), ?_⟩
    refine ⟨_, rfl, d, rfl, hd, fun t b p1 H0 ht hb hb0 r0 hp1 => ?_⟩
    refine ⟨p1, _, rfl, SqT.of upd_same, rfl, _, _, rfl, _, _, rfl, rfl, ?_⟩
    have r1 := r0.new (o := .tup [.int t, .int b]) hp1
    generalize upd H0 p1 _ = H1 at r1 ⊢
    have hb8 : b.natAbs < 2 ^ 8000 := Nat.lt_of_lt_of_le hb (Nat.pow_le_pow_right (by decide) (by decide))
    refine ⟨_, rfl, _, rfl, t, b, rfl, hb0, hb8, fun pd hpd => ?_⟩
    have r2 := r1.new (o := .tup [.int (nT t b), .int (nB t b)]) hpd
    have hD2 : upd H1 pd (.tup [.int (nT t b), .int (nB t b)]) pd = some (.tup [.int (nT t b), .int (nB t b)]) := upd_same
    generalize upd H1 pd _ = H2 at r2 hD2 ⊢
    refine ⟨_, rfl, _, rfl, fun x dx nx nd ne => ⟨x, dx, t, b, rfl, upd_same, hb0, hb8, fun H3 hx3 hs3 => ⟨rfl, ?_⟩⟩⟩
    have s3 := same_make (C := C) nx nd hs3
    have r3 := r2.same s3
    have hD3 := s3 _ _ hD2
    refine ⟨small1000 (by show 1 ≤ 1000; decide), fun pt hpt => ?_⟩
    refine ⟨pt, _, rfl, SqT.of upd_same, rfl, _, _, rfl, _, _, rfl, rfl, ?_⟩
    have s4 : Same H3 (upd H3 pt (.tup [.ref pd, .ref x])) := same_new hpt
    have r4 := r3.same s4
    have hD4 := s4 _ _ hD3
    have hx4 := hx3.same s4
    generalize upd H3 pt _ = H4 at s4 r4 hD4 hx4 ⊢
    have nb0 : (nT t b).natAbs.log2 < 240 := PySem.Flt.log2_lt_of (by decide) (Nat.lt_of_le_of_lt (nT_le hb0) ht)
    have nb1 : (nB t b).natAbs.log2 < 240 := PySem.Flt.log2_lt_of (by decide) (Nat.lt_of_le_of_lt (nB_le hb0) hb)
    have hsl := shown_two nb0 nb1
    have nc0 : (nT t b).natAbs.log2 < 1920 := by omega
    have nc1 : (nB t b).natAbs.log2 < 1920 := by omega
    have hsh : (PyData.tuple [.int (nT t b), .int (nB t b)]).showable = true := by
      simp only [PyData.showable, PyData.showableAll, Bool.and_eq_true, decide_eq_true_eq]
      exact ⟨by omega, by omega, trivial⟩
    refine ⟨_, rfl, x, _, _, rfl, hx4, fun p5 hp5 => ?_⟩
    have s5 : Same H4 (upd H4 p5 (.tup [.int (nT t b), .int (nB t b)])) := same_new hp5
    have r5 := r4.same s5
    have hD5 := s5 _ _ hD4
    have hx5 := hx4.same s5
    have hE5 : upd H4 p5 (.tup [.int (nT t b), .int (nB t b)]) p5 = some (.tup [.int (nT t b), .int (nB t b)]) := upd_same
    generalize upd H4 p5 _ = H5 at s5 r5 hD5 hx5 hE5 ⊢
    refine ⟨p5, .tuple [.int (nT t b), .int (nB t b)], rfl, .tup (SqT.of hE5) (.cons (.int _) (.cons (.int _) .nil)), hsh, rfl, dep2 _ _, hsl, ?_⟩
    refine ⟨_, rfl, pd, .tuple [.int (nT t b), .int (nB t b)], rfl, .tup (SqT.of hD5) (.cons (.int _) (.cons (.int _) .nil)), hsh, rfl, dep2 _ _, hsl, ?_⟩
    refine ⟨rfl, _, rfl, ite2 (fun z => absurd z (by simp)) (fun _ => ?_)⟩
    refine ⟨_, rfl, pd, _, _, _, rfl, rfl, SqT.of hD5, rfl, rfl, _, rfl, ?_⟩
    refine (fun (R : (?T : Prop)) => ite2 (fun z => ?a) (fun z => ?b)) ?R
    case a =>
      rw [dec_int] at z
      have e : frText (nT t b) (nB t b) = txI (nT t b) := if_pos (of_decide_eq_true z)
      refine ⟨_, rfl, pd, _, _, _, rfl, rfl, SqT.of hD5, rfl, _, rfl, nc0, ?_⟩
      have e' : ((toString (nT t b) : String) : Str) = frText (nT t b) (nB t b) := e.symm
      rw [e']
      exact R
    case b =>
      rw [dec_int] at z
      have e : frText (nT t b) (nB t b) = txI (nT t b) ++ Str.ofString "/" ++ txI (nB t b) := if_neg fun c => z (decide_eq_true c)
      have l1 := tx_len nb0 (by decide)
      have l2 := tx_len nb1 (by decide)
      have l3 : (Str.ofString "/").length = 1 := by decide +kernel
      have hs : (16777216 : Nat) = sizeLine := sizeLine_eq.symm
      refine ⟨_, rfl, pd, _, _, _, rfl, rfl, SqT.of hD5, rfl, _, rfl, nc0, ?_⟩
      refine ⟨_, _, rfl, rfl, by show (txI (nT t b)).length + (Str.ofString "/").length ≤ sizeLine; omega, ?_⟩
      refine ⟨_, rfl, pd, _, _, _, rfl, rfl, SqT.of hD5, rfl, _, rfl, nc1, ?_⟩
      refine ⟨_, _, rfl, rfl, by show (txI (nT t b) ++ Str.ofString "/").length + (txI (nB t b)).length ≤ sizeLine; rw [strLen_append]; omega, ?_⟩
      have e' : ((toString (nT t b) : String) : Str) ++ Str.ofString "/" ++ ((toString (nB t b) : String) : Str) = frText (nT t b) (nB t b) := e.symm
      rw [e']
      exact R
    case R =>
      refine ⟨_, rfl, d, _, rfl, r5.1, by decide, by decide, fun m a6 b6 c6 m0 m1 => ?_⟩
      have hdp : ∀ {q : Addr} {o : HO}, H5 q = some o → (∀ xs, o ≠ .lst xs) → q ≠ d := fun {q o} e n z => by
        subst z
        obtain ⟨a, b, c, e'⟩ := r5.1
        rw [e] at e'
        exact n _ (Option.some.inj e')
      obtain ⟨dxx, hxx⟩ := id hx5
      have hpd := hdp hD5 (fun xs z => nomatch z)
      have hpx := hdp hxx (fun xs z => nomatch z)
      have r6 := r5.roll (a := a6) (b := b6) (c := c6)
      have hD6 : upd H5 d (.lst (dxs a6 b6 c6)) pd = some (.tup [.int (nT t b), .int (nB t b)]) := by rw [upd_ne hpd]; exact hD5
      have hx6 : FrAt C (upd H5 d (.lst (dxs a6 b6 c6))) x (nT t b) (nB t b) := ⟨dxx, by rw [upd_ne hpx]; exact hxx⟩
      generalize upd H5 d _ = H6 at r6 hD6 hx6 ⊢
      refine ⟨_, _, rfl, rfl, ?_⟩
      have mm : (1 + m).natAbs < 2 ^ 10 := by
        have : m < 99 := m1
        omega
      refine ⟨_, rfl, _, rfl, _, _, rfl, rfl, wide_mul mm ht (by decide) (by decide) (by decide), _, rfl, _, rfl, _, _, rfl, rfl, wide_mul mm hb (by decide) (by decide) (by decide), ?_⟩
      have m0' : 0 < 1 + m := by omega
      have mb0 : (1 + m) * b ≠ 0 := Int.mul_ne_zero (by omega) hb0
      have mb8 : ((1 + m) * b).natAbs < 2 ^ 8000 := Nat.lt_of_lt_of_le (wide_lt mm hb) (Nat.pow_le_pow_right (by decide) (by decide))
      refine fun x1 dx1 nx1 nd1 ne1 => ⟨x1, dx1, _, _, rfl, upd_same, mb0, mb8, fun H7 h7 hs7 => ⟨rfl, ?_⟩⟩
      have s7 := same_make (C := C) nx1 nd1 hs7
      have h7 : FrAt C H7 x1 (nT t b) (nB t b) := by
        have z := h7
        rw [nT_scale m0', nB_scale m0'] at z
        exact z
      have r7 := r6.same s7
      have hD7 := s7 _ _ hD6
      have hx7 := hx6.same s7
      have e1 : (0 : Int) - t = -t := by omega
      have e2 : (0 : Int) - b = -b := by omega
      have b20 : (0 : Int) - b ≠ 0 := by omega
      have b28 : ((0 : Int) - b).natAbs < 2 ^ 8000 := by rw [e2, Int.natAbs_neg]; exact hb8
      refine ⟨_, rfl, _, _, rfl, rfl, _, rfl, _, _, rfl, rfl, fun x2 dx2 nx2 nd2 ne2 => ⟨x2, dx2, _, _, rfl, upd_same, b20, b28, fun H8 h8 hs8 => ⟨rfl, ?_⟩⟩⟩
      have s8 := same_make (C := C) nx2 nd2 hs8
      have h8 : FrAt C H8 x2 (nT t b) (nB t b) := by
        have z := h8
        rw [e1, e2, nT_neg hb0, nB_neg hb0] at z
        exact z
      have r8 := r7.same s8
      have hD8 := s8 _ _ hD7
      have hx8 := hx7.same s8
      have h78 := h7.same s8
      have n0 : nB t b ≠ 0 := by have := nB_pos (t := t) hb0; omega
      have n8 : (nB t b).natAbs < 2 ^ 8000 := Nat.lt_of_le_of_lt (nB_le hb0) hb8
      refine ⟨_, rfl, pd, _, _, _, rfl, rfl, SqT.of hD8, rfl, _, rfl, pd, _, _, _, rfl, rfl, SqT.of hD8, rfl, fun x3 dx3 nx3 nd3 ne3 => ⟨x3, dx3, _, _, rfl, upd_same, n0, n8, fun H9 h9 hs9 => ⟨rfl, ?_⟩⟩⟩
      have s9 := same_make (C := C) nx3 nd3 hs9
      have h9 : FrAt C H9 x3 (nT t b) (nB t b) := by
        have z := h9
        rw [nT_n hb0, nB_n hb0] at z
        exact z
      refine ⟨small1000 (by show 2 ≤ 1000; decide), fun L hL => ?_⟩
      have sL : Same H9 (upd H9 L (.lst [.ref x1, .ref x2, .ref x3])) := same_new hL
      have rL := (r8.same s9).same sL
      have hDL := sL _ _ (s9 _ _ hD8)
      have hxL := (hx8.same s9).same sL
      have hall : ∀ v ∈ [V.ref x1, .ref x2, .ref x3], ∃ y, v = .ref y ∧ FrAt C (upd H9 L (.lst [.ref x1, .ref x2, .ref x3])) y (nT t b) (nB t b) := fun v hv => by
        rcases List.mem_cons.mp hv with e | hv
        · exact ⟨x1, e, (h78.same s9).same sL⟩
        rcases List.mem_cons.mp hv with e | hv
        · exact ⟨x2, e, (h8.same s9).same sL⟩
        rcases List.mem_cons.mp hv with e | hv
        · exact ⟨x3, e, h9.same sL⟩
        · exact nomatch hv
      have hLL : upd H9 L (.lst [.ref x1, .ref x2, .ref x3]) L = some (.lst [.ref x1, .ref x2, .ref x3]) := upd_same
      generalize upd H9 L _ = HL at sL rL hDL hxL hall hLL ⊢
      obtain ⟨dxL, hxLi⟩ := id hxL
      refine ⟨_, rfl, x, dxL, _, rfl, hxLi, x, nT t b, nB t b, rfl, hxL, nc0, nc1, ⟨_, rfl⟩, ?_⟩
      refine ⟨_, rfl, rfl, _, rfl, ite2 (fun z => absurd z (by simp)) (fun _ => ?_)⟩
      refine ⟨_, rfl, L, rfl, ⟨_, SqL.of hLL⟩, fun D hD => ?_⟩
      have tyx : ∀ Hc, Same HL Hc → TyX K Hc (.ref x) (.ref C) := fun Hc sm => .base (.ins (sm _ _ hxLi) k.T.cl k.ha k.hn k.tk k.hm)
      have nf : PySem.W.notFirst K C (.ref C) = true := by simp [PySem.W.notFirst]
      refine lc_list (xs := [V.ref x1, .ref x2, .ref x3]) (fun i Hc => Same HL Hc ∧ Hc D = some (.lst (List.replicate i (V.bl true)))) ⟨same_new hD, upd_same⟩ (fun i Hc _ p => SqL.of (p.1 _ _ hLL)) ?_ ?_
      · rintro i v Hc hv ⟨sm, hDc⟩
        obtain ⟨y, rfl, hy⟩ := hall v (List.mem_of_getElem? hv)
        have hi3 : i < 3 := (List.getElem?_eq_some_iff.mp hv).1
        obtain ⟨dy, hyc⟩ := hy.same sm
        refine ⟨rfl, _, rfl, _, rfl, y, dy, _, _, rfl, hyc, tyx _ sm, nf, y, .ref x, nT t b, nB t b, true, rfl, ⟨dy, hyc⟩, .inl ⟨x, nT t b, nB t b, rfl, hxL.same sm, by simp⟩, ?_⟩
        refine ⟨_, hDc, small1000 (by rw [List.length_replicate]; omega), fun q o e => ?_, ?_⟩
        · rw [upd_ne (ne_of_none e hD)]
          exact sm q o e
        · rw [List.replicate_succ', upd_same]
      rintro Hc ⟨sm, hDc⟩
      refine ⟨small1000 (by show 0 ≤ 1000; decide), fun p hp => ⟨p, 3, _, rfl, rfl, upd_same, by decide, by decide, by show 1 * 3 ≤ sizeLine; rw [sizeLine_eq]; decide, fun p' hp' => ?_⟩⟩
      have hDc2 : upd (upd Hc p (.lst [V.bl true])) p' (.lst (List.replicate (3 : Int).toNat [V.bl true]).flatten) D = some (.lst (List.replicate 3 (V.bl true))) := by
        have := same_new (o := .lst [V.bl true]) hp _ _ hDc
        exact same_new hp' _ _ this
      refine ⟨.list [.bool true, .bool true, .bool true], .list [.bool true, .bool true, .bool true], .lst (SqL.of hDc2) (.cons (.bl _) (.cons (.bl _) (.cons (.bl _) .nil))), .lst (SqL.of upd_same) (.cons (.bl _) (.cons (.bl _) (.cons (.bl _) .nil))), by decide, by decide, ?_⟩
      refine ⟨_, rfl, ite2 (fun z => absurd z (by decide)) (fun _ => ?_)⟩
      have sm2 := (sm.trans (same_new (o := .lst [V.bl true]) hp)).trans (same_new (o := .lst (List.replicate (3 : Int).toNat [V.bl true]).flatten) hp')
      have rA := rL.same sm2
      have hDA := sm2 _ _ hDL
      have hxA := hxL.same sm2
      have hLA := sm2 _ _ hLL
      have hallA : ∀ v ∈ [V.ref x1, .ref x2, .ref x3], ∃ y, v = .ref y ∧ FrAt C (upd (upd Hc p (.lst [V.bl true])) p' (.lst (List.replicate (3 : Int).toNat [V.bl true]).flatten)) y (nT t b) (nB t b) := fun v hv => by
        obtain ⟨y, e, hy⟩ := hall v hv
        exact ⟨y, e, hy.same sm2⟩
      generalize upd (upd Hc p (.lst [V.bl true])) p' _ = HA at sm2 rA hDA hxA hLA hallA ⊢
      obtain ⟨dxA, hxAi⟩ := id hxA
      refine ⟨_, rfl, L, rfl, ⟨_, SqL.of hLA⟩, fun D2 hD2 => ?_⟩
      have tyx2 : ∀ Hc, Same HA Hc → TyX K Hc (.ref x) (.ref C) := fun Hc sm => .base (.ins (sm _ _ hxAi) k.T.cl k.ha k.hn k.tk k.hm)
      refine lc_list (xs := [V.ref x1, .ref x2, .ref x3]) (fun i Hc => Same HA Hc ∧ Hc D2 = some (.lst (List.replicate i (V.bl false)))) ⟨same_new hD2, upd_same⟩ (fun i Hc _ p => SqL.of (p.1 _ _ hLA)) ?_ ?_
      · rintro i v Hc hv ⟨sm, hDc⟩
        obtain ⟨y, rfl, hy⟩ := hallA v (List.mem_of_getElem? hv)
        have hi3 : i < 3 := (List.getElem?_eq_some_iff.mp hv).1
        obtain ⟨dy, hyc⟩ := hy.same sm
        refine ⟨rfl, _, rfl, _, rfl, y, dy, _, _, rfl, hyc, tyx2 _ sm, nf, y, .ref x, nT t b, nB t b, true, rfl, ⟨dy, hyc⟩, .inl ⟨x, nT t b, nB t b, rfl, hxA.same sm, by simp⟩, true, rfl, ?_⟩
        refine ⟨_, hDc, small1000 (by rw [List.length_replicate]; omega), fun q o e => ?_, ?_⟩
        · rw [upd_ne (ne_of_none e hD2)]
          exact sm q o e
        · rw [List.replicate_succ', upd_same]
          rfl
      rintro Hc ⟨sm, hDc⟩
      refine ⟨small1000 (by show 0 ≤ 1000; decide), fun p hp => ⟨p, 3, _, rfl, rfl, upd_same, by decide, by decide, by show 1 * 3 ≤ sizeLine; rw [sizeLine_eq]; decide, fun p' hp' => ?_⟩⟩
      have hDc2 : upd (upd Hc p (.lst [V.bl false])) p' (.lst (List.replicate (3 : Int).toNat [V.bl false]).flatten) D2 = some (.lst (List.replicate 3 (V.bl false))) := by
        have := same_new (o := .lst [V.bl false]) hp _ _ hDc
        exact same_new hp' _ _ this
      refine ⟨.list [.bool false, .bool false, .bool false], .list [.bool false, .bool false, .bool false], .lst (SqL.of hDc2) (.cons (.bl _) (.cons (.bl _) (.cons (.bl _) .nil))), .lst (SqL.of upd_same) (.cons (.bl _) (.cons (.bl _) (.cons (.bl _) .nil))), by decide, by decide, ?_⟩
      refine ⟨_, rfl, ite2 (fun z => absurd z (by decide)) (fun _ => ?_)⟩
      have sm2 := (sm.trans (same_new (o := .lst [V.bl false]) hp)).trans (same_new (o := .lst (List.replicate (3 : Int).toNat [V.bl false]).flatten) hp')
      have rB := rA.same sm2
      have hDB := sm2 _ _ hDA
      have hxB := hxA.same sm2
      generalize upd (upd Hc p (.lst [V.bl false])) p' _ = HB at sm2 rB hDB hxB ⊢
      obtain ⟨dxB, hxBi⟩ := id hxB
      have zTB : Sz (nT t b) (nB t b) := ⟨Nat.lt_of_lt_of_le (Nat.lt_of_le_of_lt (nT_le hb0) ht) (Nat.pow_le_pow_right (by decide) (by decide)), Nat.lt_of_lt_of_le (Nat.lt_of_le_of_lt (nB_le hb0) hb) (Nat.pow_le_pow_right (by decide) (by decide)), n0⟩
      have zi : ∀ i : Int, i.natAbs < 2 ^ 10 → Sz i 1 := fun i h => ⟨Nat.lt_of_lt_of_le h (Nat.pow_le_pow_right (by decide) (by decide)), Nat.one_lt_two_pow (by decide), by decide⟩
      refine ⟨_, rfl, x, 1, dxB, _, rfl, rfl, hxBi, x, .int 1, nT t b, nB t b, 1, 1, rfl, hxB, .inr ⟨rfl, rfl⟩, zTB, zi 1 (by decide), fun y1 I1 _ t1 _ => ?_⟩
      refine ⟨_, rfl, x, 2, dxB, _, rfl, rfl, t1 _ _ hxBi, x, 2, nT t b, nB t b, rfl, hxB.same t1, zTB, zi 2 (by decide), fun y2 I2 _ t2 _ => ?_⟩
      have t2 := t1.trans t2
      refine ⟨_, rfl, _, rfl, x, x, dxB, dxB, _, _, rfl, rfl, t2 _ _ hxBi, t2 _ _ hxBi, x, .ref x, nT t b, nB t b, nT t b, nB t b, rfl, hxB.same t2, .inl ⟨x, rfl, hxB.same t2⟩, zTB, zTB, fun y3 I3 _ t3 _ => ?_⟩
      have t3 := t2.trans t3
      refine ⟨_, rfl, x, 0, dxB, _, rfl, rfl, t3 _ _ hxBi, x, 0, nT t b, nB t b, rfl, hxB.same t3, zTB, zi 0 (by decide), fun y4 I4 _ t4 _ => ?_⟩
      have t4 := t3.trans t4
      refine ⟨_, rfl, x, dxB, _, rfl, t4 _ _ hxBi, x, nT t b, nB t b, rfl, hxB.same t4, zTB, fun y5 I5 _ t5 _ => ?_⟩
      have t5 := t4.trans t5
      have p1 : (nT t b).natAbs < 2 ^ 6000 := Nat.lt_of_lt_of_le zTB.1 (Nat.pow_le_pow_right (by decide) (by decide))
      have p2 : (nB t b).natAbs < 2 ^ 6000 := Nat.lt_of_lt_of_le zTB.2.1 (Nat.pow_le_pow_right (by decide) (by decide))
      have p3 : (nB t b ^ 2).natAbs < 2 ^ 8000 := Nat.lt_of_lt_of_le (pow_sz zTB.2.1 2) (Nat.pow_le_pow_right (by decide) (by decide))
      refine ⟨_, rfl, x, dxB, _, rfl, t5 _ _ hxBi, fl_no _ _ (by decide +kernel) (by decide +kernel), x, 2, nT t b, nB t b, rfl, by decide, hxB.same t5, n0, p1, p2, p3, fun y6 I6 _ t6 _ => ?_⟩
      have t6 := t5.trans t6
      refine ⟨small1000 (by show 5 ≤ 1000; decide), fun M hM => ?_⟩
      have t7 := t6.trans (same_new (o := .lst [.ref y1, .ref y2, .ref y3, .ref y4, .ref y5, .ref y6]) hM)
      refine ⟨_, rfl, M, _, rfl, .inl (SqL.of upd_same), rfl, _, rfl, ?_⟩
      refine ite2 (fun _ => ?_) (fun z => absurd (decide_eq_true (p := V.int (([V.ref y1, .ref y2, .ref y3, .ref y4, .ref y5, .ref y6] : List V).length : Int) = V.int 6) rfl) z)
      refine ⟨_, rfl, x, nT t b, nB t b, rfl, hxB.same t7, fun pz hpz => ?_⟩
      have t8 := t7.trans (same_new (o := .tup [.int (nT t b), .int (nB t b)]) hpz)
      have ee : PyData.eqv (.tuple [.int (nT t b), .int (nB t b)]) (.tuple [.int (nT t b), .int (nB t b)]) = true := by simp [PyData.eqv, PyData.eqvAll]
      refine ⟨_, rfl, .tuple [.int (nT t b), .int (nB t b)], .tuple [.int (nT t b), .int (nB t b)], .tup (SqT.of upd_same) (.cons (.int _) (.cons (.int _) .nil)), .tup (SqT.of (t8 _ _ hDB)) (.cons (.int _) (.cons (.int _) .nil)), rfl, rfl, _, rfl, ?_⟩
      rw [if_pos ee]
      refine ⟨_, rfl, .ref x, true, rfl, .inl ⟨x, nT t b, nB t b, rfl, hxB.same t8, rfl⟩, _, _, rfl, rfl, ?_⟩
      exact q _ (rB.same t8)
end
end FR
set_option Elab.async false
set_option linter.all false
set_option maxRecDepth 100000
set_option maxHeartbeats 4000000
namespace FR
open PySem PySem.Spec PyProof.Rows L2 LD
abbrev sEqr : Stmt := FR.top 26
abbrev NE : List Str := ["_law_dice_here", "_law_one", "_law_two", "_law_first", "_law_second", "_law_is_same", "_law_number", "_law_odd", "_law_value"]
theorem scE : FnScope NE ["_law_dice_here"] (defScope sEqr) := ⟨rfl, rfl, rfl, by decide +kernel, rfl, by decide +kernel, by decide +kernel⟩
theorem Odd.same {K : PySem.W.Frag} {H H' : Hp} {v : V} {T : String} (o : Odd K H v T) (s : Same H H') : Odd K H' v T := by
  cases o with
  | non => exact .non
  | bl b => exact .bl b
  | int i => exact .int i
  | str x => exact .str x
  | lst e => exact .lst (s _ _ e)
  | tup e => exact .tup (s _ _ e)
  | dK e => exact .dK (s _ _ e)
theorem dice_ne {H : Hp} {d q : Addr} {o : HO} (hd : DiceAt H d) (e : H q = some o) (n : ∀ xs, o ≠ .lst xs) : q ≠ d := fun z => by
  subst z
  obtain ⟨a, b, c, e'⟩ := hd
  rw [e] at e'
  exact n _ (Option.some.inj e')
theorem dice_new {H : Hp} {d q : Addr} (hd : DiceAt H d) (e : H q = none) : q ≠ d := fun z => by
  subst z
  obtain ⟨a, b, c, e'⟩ := hd
  rw [e] at e'
  cases e'
theorem eqv_two (a b c e : Int) : PyData.eqv (.tuple [.int a, .int b]) (.tuple [.int c, .int e]) = decide (a = c ∧ b = e) := by
  rw [Bool.eq_iff_iff]
  simp [PyData.eqv, PyData.eqvAll]
theorem eqv_b3 (s : Bool) : (!PyData.eqv (.list [.bool s, .bool s, .bool !s]) (.list [.bool s, .bool s, .bool !s])) = false := by cases s <;> rfl
theorem eqv_b4 (s : Bool) : (!PyData.eqv (.list [.bool s, .bool s, .bool !s, .bool !s]) (.list [.bool s, .bool s, .bool !s, .bool !s])) = false := by cases s <;> rfl
section
variable {P : Program} {w : World} {K : PySem.W.Frag} {mg : Str → Option Value} {base : Heap} {C fI pT gT pB gB : Addr} {fdI fdT fdB : FuncData}
theorem ok_eqr {f : Addr} {fd : FuncData} (F : Fun K "_law_equal_right" "_law_equal_right" sEqr f fd) (k : FrK P w K mg base C fI pT gT pB gB fdI fdT fdB) (T : TxtM K mg C)
    (gC : Glo P w K mg base "_law_couple" 4 ["_law_dice_here"] spCou) (gP : Glo P w K mg base "_law_pair" 3 ["_law_top", "_law_bottom"] spPair) (gO : Glo P w K mg base "_law_one_of" 2 ["_law_dice_here", "_law_items"] spOneOf)
    (mStr : Met P w K mg base C "__str__" 3 ["self"] (spStr C)) (mEq : Met P w K mg base C "__eq__" 3 ["self", "other"] (spEq K C)) : FnOk P w K mg base CX0 6 f fd ["_law_dice_here"] spMade := by
  refine F.ok scE (fun vs H Q E h => ?_) (fun cdv A outer s H vs Q E hr h => ?_)
  · obtain ⟨d, rfl, _⟩ := h
    rfl
  · obtain ⟨d, rfl, hd, q⟩ := h
    have hr3 := hr.mono (j := 3) (by decide)
    have hr4 := hr.mono (j := 4) (by decide)
    refine ⟨_, pss_cons (ps_par (i := 1) (j := 2) (by rfl) scE.nd rfl rfl (by decide) rfl rfl (pa_cons (pe_call gC.G (hr.mono (by decide)) (by rfl) gC.m gC.k gC.b .nil pass0 (pa_cons (pv 0) pa_nil)) (pa_cons (pe_call gC.G (hr.mono (by decide)) (by rfl) gC.m gC.k gC.b .nil pass0 (pa_cons (pv 0) pa_nil)) pa_nil)) (by rfl))
      (pss_cons (ps_asg (pe_tup (pa_cons (pe_make k.M k.GI hr3 (by rfl) k.T.mC k.b2 .nil pass0 (pa_cons (pe_ix ix_tup (pv 1) pe_int (fun _ _ => rfl)) (pa_cons (pe_ix ix_tup (pv 1) pe_int (fun _ _ => rfl)) pa_nil)))
          (pa_cons (pe_make k.M k.GI hr3 (by rfl) k.T.mC k.b2 .nil pass0 (pa_cons (pe_ix ix_tup (pv 2) pe_int (fun _ _ => rfl)) (pa_cons (pe_ix ix_tup (pv 2) pe_int (fun _ _ => rfl)) pa_nil))) pa_nil)))
          (pg_tup (by rfl) (pgs_cons (pg_name (i := 3) scE.nd rfl (.inr rfl)) (pgs_cons (pg_name (i := 4) scE.nd rfl (.inl rfl)) pgs_nil))))
      (pss_cons (ps_set (i := 5) scE.nd rfl (Or.inl rfl) (pe_cmpR (op_eqD hr.units) (pe_call gP.G hr3 (by rfl) gP.m gP.k gP.b .nil pass0 (pa_cons (pe_ix ix_tup (pv 1) pe_int (fun _ _ => rfl)) (pa_cons (pe_ix ix_tup (pv 1) pe_int (fun _ _ => rfl)) pa_nil)))
          (pe_call gP.G hr3 (by rfl) gP.m gP.k gP.b .nil pass0 (pa_cons (pe_ix ix_tup (pv 2) pe_int (fun _ _ => rfl)) (pa_cons (pe_ix ix_tup (pv 2) pe_int (fun _ _ => rfl)) pa_nil))) (nomark _)))
      (pss_cons (ps_if (pt_cmpR (op_neD hr.units) (pe_lst (pa_cons (pe_cmpR (op_eqLK rfl mEq.D mEq.G hr3 mEq.b pass0) (pv 3) (pv 4) (nomark _)) (pa_cons (pe_cmpR (op_eqLK rfl mEq.D mEq.G hr3 mEq.b pass0) (pv 4) (pv 3) (nomark _)) (pa_cons (pe_cmpR (op_neLK rfl mEq.D T.ne mEq.G hr4 mEq.b pass0) (pv 3) (pv 4) (nomark _)) pa_nil))))
          (pe_lst (pa_cons (pv 5) (pa_cons (pv 5) (pa_cons (pe_not (pv 5)) pa_nil)))) (nomark _)) (pss_one (ps_ret pe_bl)) pss_nil)
      (pss_cons (ps_set (i := 6) scE.nd rfl (Or.inl rfl) (pe_call gO.G (hr.mono (by decide)) (by rfl) gO.m gO.k gO.b .nil pass0 (pa_cons (pv 0) (pa_cons (pe_lst (pa_cons (pe_ix ix_tup (pv 1) pe_int (fun _ _ => rfl)) (pa_cons (pe_op op_fdivX (pe_ix ix_tup (pv 1) pe_int (fun _ _ => rfl)) (pe_ix ix_tup (pv 1) pe_int (fun _ _ => rfl)))
          (pa_cons pe_int (pa_cons pe_int (pa_cons pe_int pa_nil)))))) pa_nil))))
      (pss_cons (ps_set (i := 5) scE.nd rfl (Or.inl rfl) (pe_cmpR op_eq (pe_op op_mulW (pv 6) (pe_ix ix_tup (pv 1) pe_int (fun _ _ => rfl))) (pe_ix ix_tup (pv 1) pe_int (fun _ _ => rfl)) (nomark _)))
      (pss_cons (ps_if (pt_cmpR (op_neD hr.units) (pe_lst (pa_cons (pe_cmpR (op_eqLK rfl mEq.D mEq.G hr3 mEq.b pass0) (pv 3) (pv 6) (nomark _)) (pa_cons (pe_cmpR (op_eqRK rfl mEq.D mEq.G hr3 mEq.b pass0) (pv 6) (pv 3) (nomark _))
          (pa_cons (pe_cmpR (op_neLK rfl mEq.D T.ne mEq.G hr4 mEq.b pass0) (pv 3) (pv 6) (nomark _)) (pa_cons (pe_cmpR (op_neR mEq.D T.ne T.si mEq.G hr4 mEq.b pass0) (pv 6) (pv 3) (nomark _)) pa_nil)))))
          (pe_op op_cat (pe_op op_rep (pe_lst (pa_cons (pv 5) pa_nil)) pe_int) (pe_op op_rep (pe_lst (pa_cons (pe_not (pv 5)) pa_nil)) pe_int)) (nomark _)) (pss_one (ps_ret pe_bl)) pss_nil)
      (pss_cons (ps_set (i := 7) scE.nd rfl (Or.inl rfl) (pe_lst (pa_cons pe_non (pa_cons pe_str (pa_cons (pe_callTy (call_strOwn mStr.D mStr.G (hr.mono (by decide)) mStr.b pass0) (by rfl) T.st (by decide +kernel) (pa_cons (pv 3) pa_nil))
          (pa_cons (pe_tup (pa_cons (pe_prop (pv 3) k.T.cl k.oT k.GT (hr.mono (by decide)) k.bT .nil pass0 rfl) (pa_cons (pe_prop (pv 3) k.T.cl k.oB k.GB (hr.mono (by decide)) k.bB .nil pass0 rfl) pa_nil)))
          (pa_cons (pe_lst pa_nil) (pa_cons pe_dnewK (pa_cons pe_bl (pa_cons pe_bl (pa_cons (pe_tup (pa_cons pe_str (pa_cons pe_int pa_nil))) (pa_cons (pe_lst (pa_cons (pv 3) pa_nil)) pa_nil))))))))))))
      (pss_one (ps_ret (pe_cmpR (op_eqD hr.units) (pe_lc (own := [("_law_value", 8)]) (g := gName 8) rfl scE.nd (pi_list (pv 7)) (blkOk_by (N := NE) (sc := defScope sEqr) (by decide +kernel)) (fun _ _ _ _ _ => pg_name (i := 8) scE.nd rfl (.inl rfl))
          (fun _ _ _ _ _ => pts_one (PW.pt (pw_or (pt_cmpR (op_eqLK rfl mEq.D mEq.G hr3 mEq.b pass0) (pv 3) (pv 8) (nomark _)) (pw_or (pt_cmpR (op_eqRK rfl mEq.D mEq.G hr3 mEq.b pass0) (pv 8) (pv 3) (nomark _)) (pw_or1 (pt_not (pt_cmpR (op_neLK rfl mEq.D T.ne mEq.G hr4 mEq.b pass0) (pv 3) (pv 8) (nomark _))))))))
          (fun _ _ _ _ _ => pv 8)) (pe_lst pa_nil) (nomark _))))))))))), ?_⟩
    have up8 : ∀ {b : Int}, b.natAbs < 2 ^ 240 → b.natAbs < 2 ^ 8000 := fun h => Nat.lt_of_lt_of_le h (Nat.pow_le_pow_right (by decide) (by decide))
    refine ⟨_, rfl, d, rfl, hd, fun t1 b1 p1 H0 ht1 hb1 hn1 r0 hp1 => ?_⟩
    have r1 := r0.new (o := .tup [.int t1, .int b1]) hp1
    have h11 : upd H0 p1 (.tup [.int t1, .int b1]) p1 = some (.tup [.int t1, .int b1]) := upd_same
    generalize upd H0 p1 _ = H1 at r1 h11 ⊢
    refine ⟨_, rfl, d, rfl, r1.1, fun t2 b2 p2 H2 ht2 hb2 hn2 r2 hp2 => ?_⟩
    have h12 := r2.2 _ _ (dice_ne r1.1 h11 (fun xs z => nomatch z)) h11
    have r3 := (r1.trans r2).new (o := .tup [.int t2, .int b2]) hp2
    have h13 := same_new (o := .tup [.int t2, .int b2]) hp2 _ _ h12
    have h23 : upd H2 p2 (.tup [.int t2, .int b2]) p2 = some (.tup [.int t2, .int b2]) := upd_same
    generalize upd H2 p2 _ = H3 at r3 h13 h23 ⊢
    refine ⟨_, _, rfl, ?_⟩
    refine ⟨_, rfl, p1, _, _, _, rfl, rfl, SqT.of h13, rfl, _, rfl, p1, _, _, _, rfl, rfl, SqT.of h13, rfl, fun x1 dx1 nx1 nd1 ne1 => ⟨x1, dx1, t1, b1, rfl, upd_same, hn1, up8 hb1, fun H4 hx4 hs4 => ⟨rfl, ?_⟩⟩⟩
    have s4 := same_make (C := C) nx1 nd1 hs4
    have h14 := s4 _ _ h13
    have h24 := s4 _ _ h23
    refine ⟨_, rfl, p2, _, _, _, rfl, rfl, SqT.of h24, rfl, _, rfl, p2, _, _, _, rfl, rfl, SqT.of h24, rfl, fun x2 dx2 nx2 nd2 ne2 => ⟨x2, dx2, t2, b2, rfl, upd_same, hn2, up8 hb2, fun H5 hy5 hs5 => ⟨rfl, ?_⟩⟩⟩
    have s5 := s4.trans (same_make (C := C) nx2 nd2 hs5)
    have hx5 := hx4.same (same_make (C := C) nx2 nd2 hs5)
    refine ⟨small1000 (by show 1 ≤ 1000; decide), fun pt hpt => ⟨pt, _, rfl, SqT.of upd_same, rfl, _, _, rfl, _, _, rfl, rfl, ?_⟩⟩
    have n6 := same_new (o := .tup [.ref x1, .ref x2]) hpt
    have r6 := r3.same (s5.trans n6)
    have h16 := n6 _ _ (s5 _ _ h13)
    have h26 := n6 _ _ (s5 _ _ h23)
    have hx6 := hx5.same n6
    have hy6 := hy5.same n6
    generalize upd H5 pt _ = H6 at n6 r6 h16 h26 hx6 hy6 ⊢
    refine ⟨_, rfl, p1, _, _, _, rfl, rfl, SqT.of h16, rfl, _, rfl, p1, _, _, _, rfl, rfl, SqT.of h16, rfl, t1, b1, rfl, hn1, up8 hb1, fun pa hpa => ?_⟩
    have na := same_new (o := .tup [.int (nT t1 b1), .int (nB t1 b1)]) hpa
    have h27 := na _ _ h26
    refine ⟨_, rfl, p2, _, _, _, rfl, rfl, SqT.of h27, rfl, _, rfl, p2, _, _, _, rfl, rfl, SqT.of h27, rfl, t2, b2, rfl, hn2, up8 hb2, fun pb hpb => ?_⟩
    have nb := same_new (o := .tup [.int (nT t2 b2), .int (nB t2 b2)]) hpb
    refine ⟨.tuple [.int (nT t1 b1), .int (nB t1 b1)], .tuple [.int (nT t2 b2), .int (nB t2 b2)], .tup (SqT.of (nb _ _ upd_same)) (.cons (.int _) (.cons (.int _) .nil)), .tup (SqT.of upd_same) (.cons (.int _) (.cons (.int _) .nil)), rfl, rfl, ?_⟩
    rw [eqv_two]
    have n7 := na.trans nb
    have r7 := r6.same n7
    have h17 := n7 _ _ h16
    have hx7 := hx6.same n7
    have hy7 := hy6.same n7
    generalize upd (upd H6 pa _) pb _ = H7 at n7 r7 h17 hx7 hy7 ⊢
    have nf : PySem.W.notFirst K C (.ref C) = true := by simp [PySem.W.notFirst]
    obtain ⟨dx, hxi⟩ := id hx7
    obtain ⟨dy, hyi⟩ := id hy7
    have eS : decide (nT t1 b1 = nT t2 b2 ∧ nB t1 b1 = nB t2 b2) = decide (nT t2 b2 = nT t1 b1 ∧ nB t2 b2 = nB t1 b1) := decide_eq_decide.mpr ⟨fun ⟨a, b⟩ => ⟨a.symm, b.symm⟩, fun ⟨a, b⟩ => ⟨a.symm, b.symm⟩⟩
    have eS0 : decide (nT t1 b1 = nT t2 b2 ∧ nB t1 b1 = nB t2 b2) = decide (nT t1 b1 = nT t2 b2 ∧ nB t1 b1 = nB t2 b2) := rfl
    generalize hS : decide (nT t1 b1 = nT t2 b2 ∧ nB t1 b1 = nB t2 b2) = S at eS eS0 ⊢
    have tx : TyX K H7 (.ref x1) (.ref C) := .base (.ins hxi k.T.cl k.ha k.hn k.tk k.hm)
    have ty : TyX K H7 (.ref x2) (.ref C) := .base (.ins hyi k.T.cl k.ha k.hn k.tk k.hm)
    refine ⟨_, rfl, _, rfl, x1, dx, _, _, rfl, hxi, ty, nf, x1, .ref x2, nT t1 b1, nB t1 b1, S, rfl, hx7, .inl ⟨x2, _, _, rfl, hy7, hS.symm⟩, ?_⟩
    refine ⟨_, rfl, _, rfl, x2, dy, _, _, rfl, hyi, tx, nf, x2, .ref x1, nT t2 b2, nB t2 b2, S, rfl, hy7, .inl ⟨x1, _, _, rfl, hx7, eS⟩, ?_⟩
    refine ⟨_, rfl, _, rfl, x1, dx, _, _, rfl, hxi, ty, nf, x1, .ref x2, nT t1 b1, nB t1 b1, S, rfl, hx7, .inl ⟨x2, _, _, rfl, hy7, hS.symm⟩, S, rfl, ?_⟩
    refine ⟨small1000 (by show 2 ≤ 1000; decide), fun L1 hL1 => ?_⟩
    have nL1 := same_new (o := .lst [.bl S, .bl S, .bl !S]) hL1
    refine ⟨_, rfl, _, rfl, _, rfl, S, rfl, small1000 (by show 2 ≤ 1000; decide), fun L2 hL2 => ?_⟩
    have nL2 := same_new (o := .lst [.bl S, .bl S, .bl !S]) hL2
    refine ⟨.list [.bool S, .bool S, .bool !S], .list [.bool S, .bool S, .bool !S], .lst (SqL.of (nL2 _ _ upd_same)) (.cons (.bl _) (.cons (.bl _) (.cons (.bl _) .nil))), .lst (SqL.of upd_same) (.cons (.bl _) (.cons (.bl _) (.cons (.bl _) .nil))), rfl, rfl, ?_⟩
    refine ⟨_, rfl, ite2 (fun z => by rw [eqv_b3] at z; cases z) (fun _ => ?_)⟩
    have n8 := nL1.trans nL2
    have r8 := r7.same n8
    have h18 := n8 _ _ h17
    have hx8 := hx7.same n8
    generalize upd (upd H7 L1 _) L2 _ = H8 at n8 r8 h18 hx8 ⊢
    clear hS eS eS0 nL1 nL2
    have dzz : CDivX t1 b1 := div_ok (n := 240) hn1 hb1 (by decide) (by decide)
    refine ⟨_, rfl, _, rfl, p1, _, _, _, rfl, rfl, SqT.of h18, rfl, _, rfl, p1, _, _, _, rfl, rfl, SqT.of h18, rfl, _, rfl, p1, _, _, _, rfl, rfl, SqT.of h18, rfl, _, _, rfl, rfl, dzz, small1000 (by show 4 ≤ 1000; decide), fun L3 hL3 => ?_⟩
    have r9 := r8.new (o := .lst [.int t1, .int (t1.fdiv b1), .int 0, .int 1, .int 2]) hL3
    have n9 := same_new (o := .lst [.int t1, .int (t1.fdiv b1), .int 0, .int 1, .int 2]) hL3
    have h19 := n9 _ _ h18
    have hx9 := hx8.same n9
    have hL9 : upd H8 L3 (.lst [.int t1, .int (t1.fdiv b1), .int 0, .int 1, .int 2]) L3 = some (.lst [.int t1, .int (t1.fdiv b1), .int 0, .int 1, .int 2]) := upd_same
    refine ⟨d, L3, _, rfl, r9.1, hL9, dice_new r8.1 hL3, by show 0 < 5; decide, by show 5 < 1000; decide, fun k2 v a9 b9 c9 hv => ?_⟩
    obtain ⟨n, rfl, hn⟩ := all_small (n := 240) (sm_cons ht1 (sm_cons (Nat.lt_of_le_of_lt (PySem.natAbs_fdiv_le t1 b1) ht1) (sm_cons (by decide +kernel) (sm_cons (by decide +kernel) (sm_cons (by decide +kernel) sm_nil))))) hv
    obtain ⟨dx9, hx9i⟩ := id hx9
    have h1x := (dice_ne r9.1 hx9i (fun xs z => nomatch z))
    have h1p := (dice_ne r9.1 h19 (fun xs z => nomatch z))
    have rA := r9.roll (a := a9) (b := b9) (c := c9)
    have h1A : upd (upd H8 L3 (.lst [.int t1, .int (t1.fdiv b1), .int 0, .int 1, .int 2])) d (.lst (dxs a9 b9 c9)) p1 = some (.tup [.int t1, .int b1]) := by rw [upd_ne h1p]; exact h19
    have hxA : FrAt C (upd (upd H8 L3 (.lst [.int t1, .int (t1.fdiv b1), .int 0, .int 1, .int 2])) d (.lst (dxs a9 b9 c9))) x1 (nT t1 b1) (nB t1 b1) := ⟨dx9, by rw [upd_ne h1x]; exact hx9i⟩
    generalize upd (upd H8 L3 _) d _ = HA at rA h1A hxA ⊢
    refine ⟨_, rfl, _, rfl, p1, _, _, _, rfl, rfl, SqT.of h1A, rfl, _, _, rfl, rfl, wide_mul hn hb1 (by decide) (by decide) (by decide), _, rfl, p1, _, _, _, rfl, rfl, SqT.of h1A, rfl, rfl, ?_⟩
    rw [dec_int]
    have eN : decide (n * b1 = t1) = decide (nB t1 b1 = 1 ∧ nT t1 b1 = n) := decide_eq_decide.mpr (n_int hn1).symm
    generalize decide (n * b1 = t1) = S2 at eN ⊢
    obtain ⟨dxA, hxAi⟩ := id hxA
    have tn : TyX K HA (.int n) (.type "int") := .base (.int n)
    have oth : Oth K C HA (.int n) (nT t1 b1) (nB t1 b1) S2 := .inr (.inl ⟨n, rfl, eN⟩)
    refine ⟨_, rfl, _, rfl, x1, dxA, _, _, rfl, hxAi, tn, T.od.int.n, x1, .int n, nT t1 b1, nB t1 b1, S2, rfl, hxA, oth, ?_⟩
    refine ⟨_, rfl, _, rfl, x1, dxA, _, "int", rfl, hxAi, .int n, T.od.int.s, x1, .int n, nT t1 b1, nB t1 b1, S2, rfl, hxA, oth, ?_⟩
    refine ⟨_, rfl, _, rfl, x1, dxA, _, _, rfl, hxAi, tn, T.od.int.n, x1, .int n, nT t1 b1, nB t1 b1, S2, rfl, hxA, oth, S2, rfl, ?_⟩
    refine ⟨_, rfl, _, rfl, x1, dxA, _, n, rfl, hxAi, rfl, x1, .int n, nT t1 b1, nB t1 b1, S2, rfl, hxA, oth, S2, rfl, ?_⟩
    refine ⟨small1000 (by show 3 ≤ 1000; decide), fun L4 hL4 => ?_⟩
    have m1 := same_new (o := .lst [.bl S2, .bl S2, .bl !S2, .bl !S2]) hL4
    refine ⟨_, rfl, small1000 (by show 0 ≤ 1000; decide), fun La hLa => ⟨La, 2, _, rfl, rfl, upd_same, by decide, by decide, by show 1 * 2 ≤ sizeLine; rw [sizeLine_eq]; decide, fun Lb hLb => ?_⟩⟩
    have m2 := same_new (o := .lst [.bl S2]) hLa
    have m3 := same_new (o := .lst (List.replicate (2 : Int).toNat [V.bl S2]).flatten) hLb
    refine ⟨_, rfl, S2, rfl, small1000 (by show 0 ≤ 1000; decide), fun Lc hLc => ⟨Lc, 2, _, rfl, rfl, upd_same, by decide, by decide, by show 1 * 2 ≤ sizeLine; rw [sizeLine_eq]; decide, fun Ld hLd => ?_⟩⟩
    have m4 := same_new (o := .lst [.bl !S2]) hLc
    have m5 := same_new (o := .lst (List.replicate (2 : Int).toNat [V.bl !S2]).flatten) hLd
    refine ⟨Lb, Ld, _, _, rfl, rfl, m5 _ _ (m4 _ _ upd_same), upd_same, by show 2 + 2 ≤ sizeLine; rw [sizeLine_eq]; decide, fun Le hLe => ?_⟩
    have m6 := same_new (o := .lst ((List.replicate (2 : Int).toNat [V.bl S2]).flatten ++ (List.replicate (2 : Int).toNat [V.bl !S2]).flatten)) hLe
    have m26 := (((m2.trans m3).trans m4).trans m5).trans m6
    refine ⟨.list [.bool S2, .bool S2, .bool !S2, .bool !S2], .list [.bool S2, .bool S2, .bool !S2, .bool !S2], .lst (SqL.of (m26 _ _ upd_same)) (.cons (.bl _) (.cons (.bl _) (.cons (.bl _) (.cons (.bl _) .nil)))), .lst (SqL.of upd_same) (.cons (.bl _) (.cons (.bl _) (.cons (.bl _) (.cons (.bl _) .nil)))), rfl, rfl, ?_⟩
    refine ⟨_, rfl, ite2 (fun z => by rw [eqv_b4] at z; cases z) (fun _ => ?_)⟩
    have m := m1.trans m26
    have rB := rA.same m
    have hxB := hxA.same m
    clear m26 m2 m3 m4 m5 m6
    generalize upd _ Le _ = HB at m rB hxB ⊢
    clear m m1
    obtain ⟨dxB, hxBi⟩ := id hxB
    have nb0 : (nT t1 b1).natAbs.log2 < 1920 := by
      have := PySem.Flt.log2_lt_of (by decide) (Nat.lt_of_le_of_lt (nT_le hn1) ht1)
      omega
    have nb1 : (nB t1 b1).natAbs.log2 < 1920 := by
      have := PySem.Flt.log2_lt_of (by decide) (Nat.lt_of_le_of_lt (nB_le (t := t1) hn1) hb1)
      omega
    refine ⟨_, rfl, x1, dxB, _, rfl, hxBi, x1, nT t1 b1, nB t1 b1, rfl, hxB, nb0, nb1, ⟨_, rfl⟩, ?_⟩
    refine ⟨_, rfl, x1, dxB, _, rfl, hxBi, x1, dxB, _, _, rfl, hxBi, fl_top _ _, _, rfl, x1, dxB, _, rfl, hxBi, x1, dxB, _, _, rfl, hxBi, fl_bot _ _, small1000 (by show 1 ≤ 1000; decide), fun q1 h1 => ?_⟩
    have m1 := same_new (o := .tup [.int (nT t1 b1), .int (nB t1 b1)]) h1
    refine ⟨Nat.zero_le _, fun q2 h2 => ?_⟩
    have m2 := same_new (o := .lst []) h2
    refine fun q3 h3 => ?_
    have m3 := same_new (o := .dK []) h3
    refine ⟨small1000 (by show 1 ≤ 1000; decide), fun q4 h4 => ?_⟩
    have m4 := same_new (o := .tup [.str "a", .int 1]) h4
    refine ⟨_, rfl, small1000 (by show 0 ≤ 1000; decide), fun q5 h5 => ?_⟩
    have m5 := same_new (o := .lst [.ref x1]) h5
    refine ⟨small1000 (by show 9 ≤ 1000; decide), fun LO hLO => ?_⟩
    have m6 := same_new (o := .lst [.non, .str "1", .str (frText (nT t1 b1) (nB t1 b1)), .ref q1, .ref q2, .ref q3, .bl true, .bl false, .ref q4, .ref q5]) hLO
    have odds : ∀ v ∈ [V.non, .str "1", .str (frText (nT t1 b1) (nB t1 b1)), .ref q1, .ref q2, .ref q3, .bl true, .bl false, .ref q4, .ref q5], ∃ T', Odd K (upd (upd (upd (upd (upd (upd HB q1 (.tup [.int (nT t1 b1), .int (nB t1 b1)])) q2 (.lst [])) q3 (.dK [])) q4 (.tup [.str "a", .int 1])) q5 (.lst [.ref x1])) LO
        (.lst [.non, .str "1", .str (frText (nT t1 b1) (nB t1 b1)), .ref q1, .ref q2, .ref q3, .bl true, .bl false, .ref q4, .ref q5])) v T' ∧ T' ≠ "int" := fun v hv => by
      rcases List.mem_cons.mp hv with rfl | hv
      · exact ⟨_, .non, by decide⟩
      rcases List.mem_cons.mp hv with rfl | hv
      · exact ⟨_, .str _, by decide⟩
      rcases List.mem_cons.mp hv with rfl | hv
      · exact ⟨_, .str _, by decide⟩
      rcases List.mem_cons.mp hv with rfl | hv
      · exact ⟨_, .tup ((((m2.trans m3).trans m4).trans m5).trans m6 _ _ upd_same), by decide⟩
      rcases List.mem_cons.mp hv with rfl | hv
      · exact ⟨_, .lst (((m3.trans m4).trans m5).trans m6 _ _ upd_same), by decide⟩
      rcases List.mem_cons.mp hv with rfl | hv
      · exact ⟨_, .dK ((m4.trans m5).trans m6 _ _ upd_same), by decide⟩
      rcases List.mem_cons.mp hv with rfl | hv
      · exact ⟨_, .bl _, by decide⟩
      rcases List.mem_cons.mp hv with rfl | hv
      · exact ⟨_, .bl _, by decide⟩
      rcases List.mem_cons.mp hv with rfl | hv
      · exact ⟨_, .tup (m5.trans m6 _ _ upd_same), by decide⟩
      rcases List.mem_cons.mp hv with rfl | hv
      · exact ⟨_, .lst (m6 _ _ upd_same), by decide⟩
      · exact nomatch hv
    have mm := ((((m1.trans m2).trans m3).trans m4).trans m5).trans m6
    have rC := rB.same mm
    have hxC := hxB.same mm
    have hLOi : upd (upd (upd (upd (upd (upd HB q1 (.tup [.int (nT t1 b1), .int (nB t1 b1)])) q2 (.lst [])) q3 (.dK [])) q4 (.tup [.str "a", .int 1])) q5 (.lst [.ref x1])) LO
        (.lst [.non, .str "1", .str (frText (nT t1 b1) (nB t1 b1)), .ref q1, .ref q2, .ref q3, .bl true, .bl false, .ref q4, .ref q5]) LO = some (.lst [.non, .str "1", .str (frText (nT t1 b1) (nB t1 b1)), .ref q1, .ref q2, .ref q3, .bl true, .bl false, .ref q4, .ref q5]) := upd_same
    clear m1 m2 m3 m4 m5 m6 mm
    generalize upd _ LO _ = HC at odds rC hxC hLOi ⊢
    generalize [V.non, .str "1", .str (frText (nT t1 b1) (nB t1 b1)), .ref q1, .ref q2, .ref q3, .bl true, .bl false, .ref q4, .ref q5] = os at odds hLOi
    refine ⟨_, rfl, LO, rfl, ⟨_, SqL.of hLOi⟩, fun D hD => ?_⟩
    refine lc_list (xs := os) (fun i Hc => Same HC Hc ∧ Hc D = some (.lst [])) ⟨same_new hD, upd_same⟩ (fun i Hc _ p => SqL.of (p.1 _ _ hLOi)) ?_ ?_
    · rintro i v Hc hv ⟨sm, hDc⟩
      obtain ⟨T', od, hT'⟩ := odds v (List.mem_of_getElem? hv)
      have od := Odd.same od sm
      obtain ⟨dxc, hxci⟩ := hxC.same sm
      have oth : Oth K C Hc v (nT t1 b1) (nB t1 b1) false := .inr (.inr ⟨T', od, hT', rfl⟩)
      refine ⟨rfl, ?_⟩
      refine ⟨_, rfl, _, rfl, x1, dxc, _, _, rfl, hxci, od.ty, (T.od.of od).n, x1, v, nT t1 b1, nB t1 b1, false, rfl, ⟨dxc, hxci⟩, oth, _, rfl, iteF ?_⟩
      refine ⟨_, rfl, _, rfl, x1, dxc, _, T', rfl, hxci, od, (T.od.of od).s, x1, v, nT t1 b1, nB t1 b1, false, rfl, ⟨dxc, hxci⟩, oth, _, rfl, iteF ?_⟩
      refine ⟨_, rfl, _, rfl, x1, dxc, _, _, rfl, hxci, od.ty, (T.od.of od).n, x1, v, nT t1 b1, nB t1 b1, false, rfl, ⟨dxc, hxci⟩, oth, false, rfl, _, rfl, ?_⟩
      exact iteF ⟨sm, hDc⟩
    rintro Hc ⟨sm, hDc⟩
    refine ⟨Nat.zero_le _, fun p hp => ⟨.list [], .list [], .lst (SqL.of (same_new hp _ _ hDc)) .nil, .lst (SqL.of upd_same) .nil, rfl, rfl, ?_⟩⟩
    exact q _ (rC.same (sm.trans (same_new hp)))
end
end FR
set_option Elab.async false
set_option linter.all false
set_option maxRecDepth 100000
set_option maxHeartbeats 4000000
namespace FR
open PySem PySem.Spec PyProof.Rows L2 LD
abbrev sLaw : Stmt := FR.top 27
abbrev NL : List Str := ["_law_script", "_law_at", "_law_dice_here", "_law_turn", "_law_some", "_law_told_here", "_law_values", "_law_one", "_law_value"]
theorem scL : FnScope NL ["_law_script"] (defScope sLaw) := ⟨rfl, rfl, rfl, by decide +kernel, rfl, by decide +kernel, by decide +kernel⟩
def spLaw (K : PySem.W.Frag) : Sp := fun vs H Q _ => ∃ (a : Addr) (ns : List Int), vs = [.ref a] ∧ SqL K H a (ns.map V.int) ∧ ∀ H', Q (.bl true) H'
structure TxtL (mg : Str → Option Value) : Prop where
  ra : mg "range" = none
  ma : mg "max" = none
  mi : mg "min" = none
  le : mg "len" = none
/-- the written fractions, in their least form -/
def frs : List (Int × Int) := [(1, 3), (-1, 2), (0, 1), (2, 1), (3, 1)]
theorem pow16 : CPowW ((10 : Int) ^ (60 : Int).toNat) 16 := ⟨by decide, by decide +kernel⟩
def TpA (H : Hp) : List V → List (Int × Int) → Prop
  | [], [] => True
  | v :: vs, p :: ps => (∃ q, v = .ref q ∧ H q = some (.tup [.int p.1, .int p.2])) ∧ TpA H vs ps
  | _, _ => False
theorem TpA.imp {H H' : Hp} (h : ∀ q xs, H q = some (.tup xs) → H' q = some (.tup xs)) : ∀ {vs : List V} {ps : List (Int × Int)}, TpA H vs ps → TpA H' vs ps
  | [], [], _ => trivial
  | _ :: _, _ :: _, ⟨⟨q, e, hq⟩, r⟩ => ⟨⟨q, e, h _ _ hq⟩, TpA.imp h r⟩
theorem TpA.snoc {H : Hp} {q : Addr} {p : Int × Int} (hq : H q = some (.tup [.int p.1, .int p.2])) : ∀ {vs : List V} {ps : List (Int × Int)}, TpA H vs ps → TpA H (vs ++ [.ref q]) (ps ++ [p])
  | [], [], _ => ⟨⟨q, rfl, hq⟩, trivial⟩
  | _ :: _, _ :: _, ⟨e, r⟩ => ⟨e, TpA.snoc hq r⟩
theorem TpA.dp {K : PySem.W.Frag} {H : Hp} : ∀ {vs : List V} {ps : List (Int × Int)}, TpA H vs ps → DpAll K H vs (ps.map fun p => .tuple [.int p.1, .int p.2])
  | [], [], _ => .nil
  | _ :: _, _ :: _, ⟨⟨q, e, hq⟩, r⟩ => by
    subst e
    exact .cons (.tup (SqT.of hq) (.cons (.int _) (.cons (.int _) .nil))) (TpA.dp r)
def dsF : List PyData := frs.map fun p => .tuple [.int p.1, .int p.2]
def dsS : List PyData := frs.map fun p => .str (frText p.1 p.2)
theorem frs_small : ∀ p ∈ frs, p.1.natAbs.log2 < 1920 ∧ p.2.natAbs.log2 < 1920 := by decide +kernel
theorem strs_dp {K : PySem.W.Frag} {H : Hp} : ∀ ps : List (Int × Int), DpAll K H (ps.map fun p => V.str (frText p.1 p.2)) (ps.map fun p => .str (frText p.1 p.2))
  | [] => .nil
  | p :: ps => .cons (.str _) (strs_dp ps)
def ex12 : List Bool := [true, true, true, true, false, false, false, false, false, false, false, false]
theorem bls_dp {K : PySem.W.Frag} {H : Hp} : ∀ bs : List Bool, DpAll K H (bs.map V.bl) (bs.map PyData.bool)
  | [] => .nil
  | _ :: bs => .cons (.bl _) (bls_dp bs)
theorem IsFr.same {K : PySem.W.Frag} {C : Addr} {H H' : Hp} {v : V} {r : Bool} (h : IsFr K C H v r) (s : Same H H') : IsFr K C H' v r := by
  rcases h with ⟨q, t, b, e1, e2, e3⟩ | h | ⟨T, o, e⟩
  · exact .inl ⟨q, t, b, e1, e2.same s, e3⟩
  · exact .inr (.inl h)
  · exact .inr (.inr ⟨T, Odd.same o s, e⟩)
theorem eqB : PyData.eqv (.list (ex12.map .bool)) (.list (ex12.map .bool)) = true := by decide +kernel
section
variable {P : Program} {w : World} {K : PySem.W.Frag} {mg : Str → Option Value} {base : Heap} {C fI pT gT pB gB : Addr} {fdI fdT fdB : FuncData}
theorem ok_law {f fM : Addr} {fd fdM : FuncData} (F : Fun K "law" "law" sLaw f fd) (k : FrK P w K mg base C fI pT gT pB gB fdI fdT fdB) (T : TxtM K mg C) (TL : TxtL mg)
    (gD : Glo P w K mg base "_law_dice" 1 ["_law_script", "_law_at"] (spDice K)) (GM : FnG P w K mg base CX0 7 fM fdM ["_law_dice_here"] spMade) (mM : mg "_law_made_right" = some (.ref fM)) (kM : PySem.W.keepIn K (.ref fM) = true) (bM : Binds K fdM ["_law_dice_here"] [])
    (gE : Glo P w K mg base "_law_equal_right" 6 ["_law_dice_here"] spMade) (gT' : Glo P w K mg base "_law_told" 3 ["_law_thing"] (spTold C)) (gF : Glo P w K mg base "is_fraction" 2 ["value"] (spIsF K C))
    (mStr : Met P w K mg base C "__str__" 3 ["self"] (spStr C)) (mEq : Met P w K mg base C "__eq__" 3 ["self", "other"] (spEq K C)) : FnG P w K mg base CX0 8 f fd ["_law_script"] (spLaw K) := by
  obtain ⟨ds, vds, bds⟩ := k.b1
  refine F.okG scL (fun vs H Q E h => ?_) (fun cdv A outer s H vs Q E hr hgA h => ?_)
  · obtain ⟨a, ns, rfl, _⟩ := h
    rfl
  · obtain ⟨a, ns, rfl, hs, q⟩ := h
    have hgd : (A.deeper (envOfC "law" (defScope sLaw) s.heap.objs.size f cdv)).guards = some [] := guards_deeper hgA
    have hr1 := hr.mono (j := 1) (by decide)
    have hr2 := hr.mono (j := 2) (by decide)
    have hr3 := hr.mono (j := 3) (by decide)
    have hr4 := hr.mono (j := 4) (by decide)
    have hr5 := hr.mono (j := 5) (by decide)
    refine ⟨_, pss_cons (ps_for PassesOwn.never rfl (pi_range1 (by rfl) TL.ra (pa_cons (pe_callB (call_max2 rfl) (by rfl) TL.ma (by decide +kernel) (pa_cons pe_int (pa_cons (pe_callB (call_min2 rfl) (by rfl) TL.mi (by decide +kernel) (pa_cons pe_int (pa_cons
          (pe_callB call_len_seq (by rfl) TL.le PySem.boot_len (pa_cons (pv 0) pa_nil)) pa_nil))) pa_nil))) pa_nil)) (pg_name (i := 1) scL.nd rfl (.inl rfl))
        (pss_cons (ps_set (i := 2) scL.nd rfl (Or.inl rfl) (pe_call gD.G hr1 (by rfl) gD.m gD.k gD.b .nil pass0 (pa_cons (pv 0) (pa_cons (pv 1) pa_nil))))
        (pss_one (ps_for PassesOwn.never rfl (pi_range1 (by rfl) TL.ra (pa_cons pe_int pa_nil)) (pg_name (i := 3) scL.nd rfl (.inl rfl))
          (pss_one (ps_if (PW.pt (pw_or (pt_not (pt_val (pe_callG GM hr hgd (by rfl) mM kM bM .nil pass0 (pa_cons (pv 2) pa_nil))))
            (pw_or1 (pt_not (pt_val (pe_call gE.G (hr.mono (by decide)) (by rfl) gE.m gE.k gE.b .nil pass0 (pa_cons (pv 2) pa_nil))))))) (pss_one (ps_ret pe_bl)) pss_nil))))))
      (pss_cons (ps_set (i := 4) scL.nd rfl (Or.inl rfl) (pe_lst (pa_cons (pe_make k.M k.GI hr3 (by rfl) k.T.mC k.b2 .nil pass0 (pa_cons (pe_un un_neg pe_int) (pa_cons (pe_un un_neg pe_int) pa_nil))) (pa_cons (pe_make k.M k.GI hr3 (by rfl) k.T.mC k.b2 .nil pass0 (pa_cons pe_int (pa_cons (pe_un un_neg pe_int) pa_nil)))
          (pa_cons (pe_make k.M k.GI hr3 (by rfl) k.T.mC k.b2 .nil pass0 (pa_cons pe_int (pa_cons (pe_un un_neg pe_int) pa_nil))) (pa_cons (pe_make k.M k.GI hr3 (by rfl) k.T.mC k.b2 .nil pass0 (pa_cons pe_int (pa_cons pe_int pa_nil))) (pa_cons (pe_make k.M k.GI hr3 (by rfl) k.T.mC bds vds pass0 (pa_cons pe_int pa_nil)) pa_nil)))))))
      (pss_cons (ps_if (pt_cmpR (op_neD hr.units) (pe_lc (own := [("_law_one", 7)]) (g := gName 7) (tt := tYes) rfl scL.nd (pi_list (pv 4)) (blkOk_by (N := NL) (sc := defScope sLaw) (by decide +kernel)) (fun _ _ _ _ _ => pg_name (i := 7) scL.nd rfl (.inl rfl)) (fun _ _ _ _ _ => pts_nil)
            (fun _ _ _ _ _ => pe_call gT'.G hr3 (by rfl) gT'.m gT'.k gT'.b .nil pass0 (pa_cons (pv 7) pa_nil)))
          (pe_lst (pa_cons (pe_tup (pa_cons pe_int (pa_cons pe_int pa_nil))) (pa_cons (pe_tup (pa_cons (pe_un un_neg pe_int) (pa_cons pe_int pa_nil))) (pa_cons (pe_tup (pa_cons pe_int (pa_cons pe_int pa_nil))) (pa_cons (pe_tup (pa_cons pe_int (pa_cons pe_int pa_nil))) (pa_cons (pe_tup (pa_cons pe_int (pa_cons pe_int pa_nil))) pa_nil)))))) (nomark _)) (pss_one (ps_ret pe_bl)) pss_nil)
      (pss_cons (ps_if (pt_cmpR (op_neD hr.units) (pe_lc (own := [("_law_one", 7)]) (g := gName 7) (tt := tYes) rfl scL.nd (pi_list (pv 4)) (blkOk_by (N := NL) (sc := defScope sLaw) (by decide +kernel)) (fun _ _ _ _ _ => pg_name (i := 7) scL.nd rfl (.inl rfl)) (fun _ _ _ _ _ => pts_nil)
            (fun _ _ _ _ _ => pe_callTy (call_strOwn mStr.D mStr.G hr5 mStr.b pass0) (by rfl) T.st (by decide +kernel) (pa_cons (pv 7) pa_nil)))
          (pe_lst (pa_cons pe_str (pa_cons pe_str (pa_cons pe_str (pa_cons pe_str (pa_cons pe_str pa_nil)))))) (nomark _)) (pss_one (ps_ret pe_bl)) pss_nil)
      (pss_cons (ps_set (i := 5) scL.nd rfl (Or.inl rfl) (pe_lst (pa_cons (pe_cmpR (op_eqLK rfl mEq.D mEq.G hr3 mEq.b pass0) (pe_make k.M k.GI hr3 (by rfl) k.T.mC k.b2 .nil pass0 (pa_cons pe_int (pa_cons pe_int pa_nil))) pe_int (nomark _))
          (pa_cons (pe_cmpR (op_eqLK rfl mEq.D mEq.G hr3 mEq.b pass0) (pe_make k.M k.GI hr3 (by rfl) k.T.mC k.b2 .nil pass0 (pa_cons pe_int (pa_cons pe_int pa_nil))) pe_int (nomark _))
          (pa_cons (pe_cmpR (op_eqRK rfl mEq.D mEq.G hr3 mEq.b pass0) pe_int (pe_make k.M k.GI hr3 (by rfl) k.T.mC k.b2 .nil pass0 (pa_cons pe_int (pa_cons pe_int pa_nil))) (nomark _))
          (pa_cons (pe_cmpR (op_eqLK rfl mEq.D mEq.G hr3 mEq.b pass0) (pe_make k.M k.GI hr3 (by rfl) k.T.mC bds vds pass0 (pa_cons pe_int pa_nil)) pe_bl (nomark _))
          (pa_cons (pe_cmpR (op_neLK rfl mEq.D T.ne mEq.G hr4 mEq.b pass0) (pe_make k.M k.GI hr3 (by rfl) k.T.mC bds vds pass0 (pa_cons pe_int pa_nil)) pe_bl (nomark _)) pa_nil)))))))
      (pss_cons (ps_if (pt_cmpR (op_neD hr.units) (pv 5) (pe_lst (pa_cons pe_bl (pa_cons pe_bl (pa_cons pe_bl (pa_cons pe_bl (pa_cons pe_bl pa_nil)))))) (nomark _)) (pss_one (ps_ret pe_bl)) pss_nil)
      (pss_cons (ps_set (i := 6) scL.nd rfl (Or.inl rfl) (pe_lst (pa_cons (pe_ix ix_list (pv 4) pe_int (fun _ _ => rfl)) (pa_cons pe_int (pa_cons (pe_un un_neg pe_int) (pa_cons (pe_op op_powW (pe_op op_powW pe_int pe_int) pe_int) (pa_cons pe_bl (pa_cons pe_non (pa_cons pe_str (pa_cons (pe_tup (pa_cons pe_int (pa_cons pe_int pa_nil)))
          (pa_cons (pe_lst pa_nil) (pa_cons pe_dnewK (pa_cons (pe_lst (pa_cons (pe_ix ix_list (pv 4) pe_int (fun _ _ => rfl)) pa_nil)) (pa_cons (pe_tup (pa_cons (pe_ix ix_list (pv 4) pe_int (fun _ _ => rfl)) pa_nil)) pa_nil))))))))))))))
      (pss_one (ps_ret (pe_cmpR (op_eqD hr.units) (pe_lc (own := [("_law_value", 8)]) (g := gName 8) (tt := tYes) rfl scL.nd (pi_list (pv 6)) (blkOk_by (N := NL) (sc := defScope sLaw) (by decide +kernel)) (fun _ _ _ _ _ => pg_name (i := 8) scL.nd rfl (.inl rfl)) (fun _ _ _ _ _ => pts_nil)
            (fun _ _ _ _ _ => pe_call gF.G hr2 (by rfl) gF.m gF.k gF.b .nil pass0 (pa_cons (pv 8) pa_nil)))
          (pe_op op_cat (pe_op op_rep (pe_lst (pa_cons pe_bl pa_nil)) pe_int) (pe_op op_rep (pe_lst (pa_cons pe_bl pa_nil)) pe_int)) (nomark _)))))))))), ?_⟩
    refine ⟨_, rfl, a, _, rfl, .inl hs, _, _, rfl, _, _, rfl, _, rfl, by split <;> (try split) <;> omega, by split <;> (try split) <;> omega, ?_⟩
    refine for_range (fun i σ Hc => (∃ x1 x2 x3 x4 x5 x6 x7 x8 : Option V, σ = [some (.ref a), x1, x2, x3, x4, x5, x6, x7, x8]) ∧ Same H Hc) ⟨⟨_, _, _, _, _, _, _, _, rfl⟩, Same.refl H⟩ ?_ ?_
    · rintro i σ Hc hi ⟨⟨x1, x2, x3, x4, x5, x6, x7, x8, rfl⟩, sm⟩
      refine ⟨_, rfl, _, rfl, a, ns, i, _, rfl, by omega, sm.seq hs, fun d x y z nd => ?_⟩
      have r0 : Rl d (upd Hc d (.lst (dxs x y z))) (upd Hc d (.lst (dxs x y z))) := Rl.refl ⟨_, _, _, upd_same⟩
      refine ⟨4, rfl, by decide, by decide, ?_⟩
      refine for_range (n := 4) (fun j σ Hd => (∃ x3 x4 x5 x6 x7 x8 : Option V, σ = [some (.ref a), some (.int (0 + (i : Int))), some (.ref d), x3, x4, x5, x6, x7, x8]) ∧ Rl d (upd Hc d (.lst (dxs x y z))) Hd) ⟨⟨_, _, _, _, _, _, rfl⟩, r0⟩ ?_ ?_
      · rintro j σ Hd hj ⟨⟨x3, x4, x5, x6, x7, x8, rfl⟩, r⟩
        refine ⟨_, rfl, d, rfl, r.1, fun H1 r1 => ⟨_, rfl, iteF ?_⟩⟩
        refine ⟨_, rfl, d, rfl, r1.1, fun H2 r2 => ?_⟩
        exact ⟨_, rfl, ⟨_, _, _, _, _, _, rfl⟩, (r.trans r1).trans r2⟩
      · rintro σ Hd ⟨⟨x3, x4, x5, x6, x7, x8, rfl⟩, r⟩
        refine ⟨⟨_, _, _, _, _, _, _, _, rfl⟩, fun b o e => ?_⟩
        have hd0 : H d = none := Same.free sm nd
        exact r.2 b o (ne_of_none e hd0) (same_new nd _ _ (sm _ _ e))
    rintro σ H0 ⟨⟨x1, x2, x3, x4, x5, x6, x7, x8, rfl⟩, sm0⟩
    refine ⟨_, rfl, _, rfl, fun y1 dy1 ny1 nd1 ne1 => ⟨y1, dy1, -2, -6, rfl, upd_same, by decide, by decide, fun H1 h1 hs1 => ⟨rfl, ?_⟩⟩⟩
    have s1 := same_make (C := C) ny1 nd1 hs1
    have h1 : FrAt C H1 y1 (1) 3 := h1
    refine ⟨_, rfl, fun y2 dy2 ny2 nd2 ne2 => ⟨y2, dy2, 1, -2, rfl, upd_same, by decide, by decide, fun H2 h2 hs2 => ⟨rfl, ?_⟩⟩⟩
    have s2 := same_make (C := C) ny2 nd2 hs2
    have h2 : FrAt C H2 y2 (-1) 2 := h2
    refine ⟨_, rfl, fun y3 dy3 ny3 nd3 ne3 => ⟨y3, dy3, 0, -7, rfl, upd_same, by decide, by decide, fun H3 h3 hs3 => ⟨rfl, ?_⟩⟩⟩
    have s3 := same_make (C := C) ny3 nd3 hs3
    have h3 : FrAt C H3 y3 (0) 1 := h3
    refine fun y4 dy4 ny4 nd4 ne4 => ⟨y4, dy4, 6, 3, rfl, upd_same, by decide, by decide, fun H4 h4 hs4 => ⟨rfl, ?_⟩⟩
    have s4 := same_make (C := C) ny4 nd4 hs4
    have h4 : FrAt C H4 y4 (2) 1 := h4
    refine fun y5 dy5 ny5 nd5 ne5 => ⟨y5, dy5, 3, 1, rfl, upd_same, by decide, by decide, fun H5 h5 hs5 => ⟨rfl, ?_⟩⟩
    have s5 := same_make (C := C) ny5 nd5 hs5
    have h5 : FrAt C H5 y5 (3) 1 := h5
    refine ⟨small1000 (by show 4 ≤ 1000; decide), fun LS hLS => ?_⟩
    have sS := same_new (o := .lst [.ref y1, .ref y2, .ref y3, .ref y4, .ref y5]) hLS
    have hall : ∀ (j : Nat) (v : V), ([V.ref y1, .ref y2, .ref y3, .ref y4, .ref y5] : List V)[j]? = some v → ∃ (y : Addr) (p : Int × Int), v = .ref y ∧ frs[j]? = some p ∧ FrAt C (upd H5 LS (.lst [.ref y1, .ref y2, .ref y3, .ref y4, .ref y5])) y p.1 p.2 := fun j v hv => by
      match j, hv with
      | 0, hv => exact ⟨y1, (1, 3), (Option.some.inj hv).symm, rfl, h1.same ((((s2.trans s3).trans s4).trans s5).trans sS)⟩
      | 1, hv => exact ⟨y2, (-1, 2), (Option.some.inj hv).symm, rfl, h2.same (((s3.trans s4).trans s5).trans sS)⟩
      | 2, hv => exact ⟨y3, (0, 1), (Option.some.inj hv).symm, rfl, h3.same ((s4.trans s5).trans sS)⟩
      | 3, hv => exact ⟨y4, (2, 1), (Option.some.inj hv).symm, rfl, h4.same (s5.trans sS)⟩
      | 4, hv => exact ⟨y5, (3, 1), (Option.some.inj hv).symm, rfl, h5.same sS⟩
      | n + 5, hv => exact nomatch hv
    have hLSi : upd H5 LS (.lst [.ref y1, .ref y2, .ref y3, .ref y4, .ref y5]) LS = some (.lst [.ref y1, .ref y2, .ref y3, .ref y4, .ref y5]) := upd_same
    have hy1 : FrAt C (upd H5 LS (.lst [.ref y1, .ref y2, .ref y3, .ref y4, .ref y5])) y1 1 3 := h1.same ((((s2.trans s3).trans s4).trans s5).trans sS)
    generalize upd H5 LS _ = H6 at hall hLSi hy1 ⊢
    refine ⟨_, rfl, LS, rfl, ⟨_, SqL.of hLSi⟩, fun D hD => ?_⟩
    refine lc_list (xs := [V.ref y1, .ref y2, .ref y3, .ref y4, .ref y5]) (fun i Hc => Same H6 Hc ∧ ∃ vs, Hc D = some (.lst vs) ∧ vs.length = i ∧ TpA Hc vs (frs.take i)) ⟨same_new hD, [], upd_same, rfl, trivial⟩ (fun i Hc _ p => SqL.of (p.1 _ _ hLSi)) ?_ ?_
    · rintro i v Hc hv ⟨sm, vs, hDc, hl, ht⟩
      obtain ⟨y, p, rfl, hp, hy⟩ := hall i v hv
      have hi5 : i < 5 := (List.getElem?_eq_some_iff.mp hv).1
      refine ⟨rfl, _, rfl, y, p.1, p.2, rfl, hy.same sm, fun pq hpq => ?_⟩
      have sq := same_new (o := .tup [.int p.1, .int p.2]) hpq
      refine ⟨vs, sq _ _ hDc, small1000 (by omega), fun q' o e => ?_, vs ++ [.ref pq], upd_same, by rw [List.length_append, hl]; rfl, ?_⟩
      · rw [upd_ne (ne_of_none e hD)]
        exact sq _ _ (sm q' o e)
      · have nD : ∀ q' xs, upd Hc pq (.tup [.int p.1, .int p.2]) q' = some (.tup xs) → q' ≠ D := fun q' xs e z => by
          subst z
          rw [sq _ _ hDc] at e
          cases e
        rw [List.take_succ, hp]
        refine TpA.snoc (by rw [upd_ne (nD pq _ upd_same)]; exact upd_same) ?_
        exact (ht.imp (fun q' xs e => sq _ _ e)).imp (fun q' xs e => by rw [upd_ne (nD q' xs e)]; exact e)
    rintro Hc ⟨sm, vs, hDc, hl, ht⟩
    refine ⟨small1000 (by show 1 ≤ 1000; decide), fun a1 ha1 => ⟨_, rfl, small1000 (by show 1 ≤ 1000; decide), fun a2 ha2 => ⟨small1000 (by show 1 ≤ 1000; decide), fun a3 ha3 => ⟨small1000 (by show 1 ≤ 1000; decide), fun a4 ha4 => ⟨small1000 (by show 1 ≤ 1000; decide), fun a5 ha5 => ⟨small1000 (by show 4 ≤ 1000; decide), fun La hLa => ?_⟩⟩⟩⟩⟩⟩
    have m1 := same_new (o := .tup [.int 1, .int 3]) ha1
    have m2 := same_new (o := .tup [.int (-1), .int 2]) ha2
    have m3 := same_new (o := .tup [.int 0, .int 1]) ha3
    have m4 := same_new (o := .tup [.int 2, .int 1]) ha4
    have m5 := same_new (o := .tup [.int 3, .int 1]) ha5
    have m6 := same_new (o := .lst [.ref a1, .ref a2, .ref a3, .ref a4, .ref a5]) hLa
    have mm := ((((m1.trans m2).trans m3).trans m4).trans m5).trans m6
    have tR : TpA (upd (upd (upd (upd (upd (upd Hc a1 (.tup [.int 1, .int 3])) a2 (.tup [.int (-1), .int 2])) a3 (.tup [.int 0, .int 1])) a4 (.tup [.int 2, .int 1])) a5 (.tup [.int 3, .int 1])) La (.lst [.ref a1, .ref a2, .ref a3, .ref a4, .ref a5])) [.ref a1, .ref a2, .ref a3, .ref a4, .ref a5] frs :=
      ⟨⟨a1, rfl, ((((m2.trans m3).trans m4).trans m5).trans m6) _ _ upd_same⟩, ⟨a2, rfl, (((m3.trans m4).trans m5).trans m6) _ _ upd_same⟩, ⟨a3, rfl, ((m4.trans m5).trans m6) _ _ upd_same⟩, ⟨a4, rfl, (m5.trans m6) _ _ upd_same⟩, ⟨a5, rfl, m6 _ _ upd_same⟩, trivial⟩
    have tL := TpA.imp (fun q xs e => mm _ _ e) ht
    refine ⟨.list dsF, .list dsF, .lst (SqL.of (mm _ _ hDc)) (TpA.dp tL), .lst (SqL.of upd_same) (TpA.dp tR), rfl, rfl, ?_⟩
    refine ⟨_, rfl, ite2 (fun z => absurd z (by decide +kernel)) (fun _ => ?_)⟩
    have smA := sm.trans mm
    have hallA : ∀ (j : Nat) (v : V), ([V.ref y1, .ref y2, .ref y3, .ref y4, .ref y5] : List V)[j]? = some v → ∃ (y : Addr) (p : Int × Int), v = .ref y ∧ frs[j]? = some p ∧ FrAt C (upd (upd (upd (upd (upd (upd Hc a1 (.tup [.int 1, .int 3])) a2 (.tup [.int (-1), .int 2])) a3 (.tup [.int 0, .int 1])) a4 (.tup [.int 2, .int 1])) a5 (.tup [.int 3, .int 1])) La (.lst [.ref a1, .ref a2, .ref a3, .ref a4, .ref a5])) y p.1 p.2 := fun j v hv => by
      obtain ⟨y, p, e1, e2, e3⟩ := hall j v hv
      exact ⟨y, p, e1, e2, e3.same smA⟩
    have hLA := smA _ _ hLSi
    have hyA := hy1.same smA
    clear tR tL m1 m2 m3 m4 m5 m6 mm smA
    generalize upd _ La _ = H7 at hallA hLA hyA ⊢
    refine ⟨_, rfl, LS, rfl, ⟨_, SqL.of hLA⟩, fun D2 hD2 => ?_⟩
    refine lc_list (xs := [V.ref y1, .ref y2, .ref y3, .ref y4, .ref y5]) (fun i Hc => Same H7 Hc ∧ Hc D2 = some (.lst ((frs.take i).map fun p => V.str (frText p.1 p.2)))) ⟨same_new hD2, upd_same⟩ (fun i Hc _ p => SqL.of (p.1 _ _ hLA)) ?_ ?_
    · rintro i v Hc hv ⟨sm, hDc⟩
      obtain ⟨y, p, rfl, hp, hy⟩ := hallA i v hv
      have hi5 : i < 5 := (List.getElem?_eq_some_iff.mp hv).1
      obtain ⟨z1, z2⟩ := frs_small p (List.mem_of_getElem? hp)
      have hyS := hy.same sm
      obtain ⟨dy, hyi⟩ := id hyS
      refine ⟨rfl, _, rfl, y, dy, _, rfl, hyi, y, p.1, p.2, rfl, hyS, z1, z2, ⟨_, rfl⟩, ?_⟩
      refine ⟨_, hDc, small1000 (by rw [List.length_map, List.length_take]; omega), fun q' o e => ?_, ?_⟩
      · rw [upd_ne (ne_of_none e hD2)]
        exact sm q' o e
      · rw [List.take_succ, hp, List.map_append]
        exact upd_same
    rintro Hc ⟨sm, hDc⟩
    refine ⟨small1000 (by show 4 ≤ 1000; decide), fun Lb hLb => ?_⟩
    have m1 := same_new (o := .lst [.str "1/3", .str "-1/2", .str "0", .str "2", .str "3"]) hLb
    refine ⟨.list dsS, .list [.str "1/3", .str "-1/2", .str "0", .str "2", .str "3"], .lst (SqL.of (m1 _ _ hDc)) (strs_dp frs), .lst (SqL.of upd_same) (.cons (.str _) (.cons (.str _) (.cons (.str _) (.cons (.str _) (.cons (.str _) .nil))))), by decide +kernel, by decide +kernel, ?_⟩
    refine ⟨_, rfl, ite2 (fun z => absurd z (by decide +kernel)) (fun _ => ?_)⟩
    have smB := sm.trans m1
    have hLB := smB _ _ hLA
    have hyB := hyA.same smB
    clear m1 smB
    generalize upd Hc Lb _ = H8 at hLB hyB ⊢
    refine fun z1 dz1 nz1 nd1 ne1 => ⟨z1, dz1, 3, 2, rfl, upd_same, by decide, by decide, fun G1 g1 gs1 => ⟨rfl, ?_⟩⟩
    have gm1 := same_make (C := C) nz1 nd1 gs1
    have g1 : FrAt C G1 z1 3 2 := g1
    obtain ⟨dg1, gi1⟩ := id g1
    refine ⟨z1, dg1, _, _, rfl, gi1, .base (.int 3), T.od.int.n, z1, .int 3, 3, 2, false, rfl, g1, .inr (.inl ⟨3, rfl, by decide⟩), ?_⟩
    refine fun z2 dz2 nz2 nd2 ne2 => ⟨z2, dz2, 3, 1, rfl, upd_same, by decide, by decide, fun G2 g2 gs2 => ⟨rfl, ?_⟩⟩
    have gm2 := same_make (C := C) nz2 nd2 gs2
    have g2 : FrAt C G2 z2 3 1 := g2
    obtain ⟨dg2, gi2⟩ := id g2
    refine ⟨z2, dg2, _, _, rfl, gi2, .base (.int 3), T.od.int.n, z2, .int 3, 3, 1, true, rfl, g2, .inr (.inl ⟨3, rfl, by decide⟩), ?_⟩
    refine fun z3 dz3 nz3 nd3 ne3 => ⟨z3, dz3, 6, 2, rfl, upd_same, by decide, by decide, fun G3 g3 gs3 => ⟨rfl, ?_⟩⟩
    have gm3 := same_make (C := C) nz3 nd3 gs3
    have g3 : FrAt C G3 z3 3 1 := g3
    obtain ⟨dg3, gi3⟩ := id g3
    refine ⟨z3, dg3, _, "int", rfl, gi3, .int 3, T.od.int.s, z3, .int 3, 3, 1, true, rfl, g3, .inr (.inl ⟨3, rfl, by decide⟩), ?_⟩
    refine fun z4 dz4 nz4 nd4 ne4 => ⟨z4, dz4, 1, 1, rfl, upd_same, by decide, by decide, fun G4 g4 gs4 => ⟨rfl, ?_⟩⟩
    have gm4 := same_make (C := C) nz4 nd4 gs4
    have g4 : FrAt C G4 z4 1 1 := g4
    obtain ⟨dg4, gi4⟩ := id g4
    refine ⟨z4, dg4, _, _, rfl, gi4, .base (.bl true), T.od.bl.n, z4, .bl true, 1, 1, false, rfl, g4, .inr (.inr ⟨"bool", .bl true, by decide, rfl⟩), ?_⟩
    refine fun z5 dz5 nz5 nd5 ne5 => ⟨z5, dz5, 0, 1, rfl, upd_same, by decide, by decide, fun G5 g5 gs5 => ⟨rfl, ?_⟩⟩
    have gm5 := same_make (C := C) nz5 nd5 gs5
    have g5 : FrAt C G5 z5 0 1 := g5
    obtain ⟨dg5, gi5⟩ := id g5
    refine ⟨z5, dg5, _, _, rfl, gi5, .base (.bl false), T.od.bl.n, z5, .bl false, 0, 1, false, rfl, g5, .inr (.inr ⟨"bool", .bl false, by decide, rfl⟩), false, rfl, ?_⟩
    refine ⟨small1000 (by show 4 ≤ 1000; decide), fun LT hLT => ?_⟩
    have m1 := same_new (o := .lst [.bl false, .bl true, .bl true, .bl false, .bl true]) hLT
    refine ⟨_, rfl, small1000 (by show 4 ≤ 1000; decide), fun LT2 hLT2 => ?_⟩
    have m2 := same_new (o := .lst [.bl false, .bl true, .bl true, .bl false, .bl true]) hLT2
    refine ⟨.list [.bool false, .bool true, .bool true, .bool false, .bool true], .list [.bool false, .bool true, .bool true, .bool false, .bool true], .lst (SqL.of (m2 _ _ upd_same)) (.cons (.bl _) (.cons (.bl _) (.cons (.bl _) (.cons (.bl _) (.cons (.bl _) .nil))))), .lst (SqL.of upd_same) (.cons (.bl _) (.cons (.bl _) (.cons (.bl _) (.cons (.bl _) (.cons (.bl _) .nil))))), by decide +kernel, by decide +kernel, ?_⟩
    refine ⟨_, rfl, ite2 (fun z => absurd z (by decide +kernel)) (fun _ => ?_)⟩
    have mm := (((((gm1.trans gm2).trans gm3).trans gm4).trans gm5).trans m1).trans m2
    have hLC := mm _ _ hLB
    have hyC := hyB.same mm
    clear m1 m2 mm
    generalize upd _ LT2 _ = H9 at hLC hyC ⊢
    refine ⟨_, rfl, LS, _, _, _, rfl, rfl, SqL.of hLC, rfl, _, rfl, _, _, rfl, rfl, pow60, _, _, rfl, rfl, pow16, small1000 (by show 1 ≤ 1000; decide), fun q1 h1 => ?_⟩
    have m1 := same_new (o := .tup [.int 1, .int 2]) h1
    refine ⟨Nat.zero_le _, fun q2 h2 => ?_⟩
    have m2 := same_new (o := .lst []) h2
    refine fun q3 h3 => ?_
    have m3 := same_new (o := .dK []) h3
    refine ⟨_, rfl, LS, _, _, _, rfl, rfl, SqL.of ((m1.trans m2).trans m3 _ _ hLC), rfl, small1000 (by show 0 ≤ 1000; decide), fun q4 h4 => ?_⟩
    have m4 := same_new (o := .lst [.ref y1]) h4
    refine ⟨_, rfl, LS, _, _, _, rfl, rfl, SqL.of (((m1.trans m2).trans m3).trans m4 _ _ hLC), rfl, small1000 (by show 0 ≤ 1000; decide), fun q5 h5 => ?_⟩
    have m5 := same_new (o := .tup [.ref y1]) h5
    refine ⟨small1000 (by show 11 ≤ 1000; decide), fun LV hLV => ?_⟩
    have m6 := same_new (o := .lst [V.ref y1, .int 0, .int (-7), .int (((10 : Int) ^ (60 : Int).toNat) ^ (16 : Int).toNat), .bl true, .non, .str "1/2", .ref q1, .ref q2, .ref q3, .ref q4, .ref q5]) hLV
    have mm := ((((m1.trans m2).trans m3).trans m4).trans m5).trans m6
    have hv : ∀ (j : Nat) (v : V), ([V.ref y1, .int 0, .int (-7), .int (((10 : Int) ^ (60 : Int).toNat) ^ (16 : Int).toNat), .bl true, .non, .str "1/2", .ref q1, .ref q2, .ref q3, .ref q4, .ref q5] : List V)[j]? = some v → ∃ r, ex12[j]? = some r ∧ IsFr K C (upd (upd (upd (upd (upd (upd H9 q1 (.tup [.int 1, .int 2])) q2 (.lst [])) q3 (.dK [])) q4 (.lst [.ref y1])) q5 (.tup [.ref y1])) LV (.lst [V.ref y1, .int 0, .int (-7), .int (((10 : Int) ^ (60 : Int).toNat) ^ (16 : Int).toNat), .bl true, .non, .str "1/2", .ref q1, .ref q2, .ref q3, .ref q4, .ref q5])) v r := fun j v hv => by
      match j, hv with
      | 0, hv => cases hv; exact ⟨true, rfl, .inl ⟨y1, 1, 3, rfl, hyC.same mm, rfl⟩⟩
      | 1, hv => cases hv; exact ⟨true, rfl, .inr (.inl ⟨_, rfl, rfl⟩)⟩
      | 2, hv => cases hv; exact ⟨true, rfl, .inr (.inl ⟨_, rfl, rfl⟩)⟩
      | 3, hv => rw [← Option.some.inj hv]; exact ⟨true, rfl, .inr (.inl ⟨_, rfl, rfl⟩)⟩
      | 4, hv => cases hv; exact ⟨false, rfl, .inr (.inr ⟨_, .bl _, by decide, rfl⟩)⟩
      | 5, hv => cases hv; exact ⟨false, rfl, .inr (.inr ⟨_, .non, by decide, rfl⟩)⟩
      | 6, hv => cases hv; exact ⟨false, rfl, .inr (.inr ⟨_, .str _, by decide, rfl⟩)⟩
      | 7, hv => cases hv; exact ⟨false, rfl, .inr (.inr ⟨_, .tup (((((m2.trans m3).trans m4).trans m5).trans m6) _ _ upd_same), by decide, rfl⟩)⟩
      | 8, hv => cases hv; exact ⟨false, rfl, .inr (.inr ⟨_, .lst ((((m3.trans m4).trans m5).trans m6) _ _ upd_same), by decide, rfl⟩)⟩
      | 9, hv => cases hv; exact ⟨false, rfl, .inr (.inr ⟨_, .dK (((m4.trans m5).trans m6) _ _ upd_same), by decide, rfl⟩)⟩
      | 10, hv => cases hv; exact ⟨false, rfl, .inr (.inr ⟨_, .lst ((m5.trans m6) _ _ upd_same), by decide, rfl⟩)⟩
      | 11, hv => cases hv; exact ⟨false, rfl, .inr (.inr ⟨_, .tup (m6 _ _ upd_same), by decide, rfl⟩)⟩
      | n + 12, hv => exact nomatch hv
    have hVi : (upd (upd (upd (upd (upd (upd H9 q1 (.tup [.int 1, .int 2])) q2 (.lst [])) q3 (.dK [])) q4 (.lst [.ref y1])) q5 (.tup [.ref y1])) LV (.lst [V.ref y1, .int 0, .int (-7), .int (((10 : Int) ^ (60 : Int).toNat) ^ (16 : Int).toNat), .bl true, .non, .str "1/2", .ref q1, .ref q2, .ref q3, .ref q4, .ref q5])) LV = some (.lst [V.ref y1, .int 0, .int (-7), .int (((10 : Int) ^ (60 : Int).toNat) ^ (16 : Int).toNat), .bl true, .non, .str "1/2", .ref q1, .ref q2, .ref q3, .ref q4, .ref q5]) := upd_same
    have hlen : ([V.ref y1, .int 0, .int (-7), .int (((10 : Int) ^ (60 : Int).toNat) ^ (16 : Int).toNat), .bl true, .non, .str "1/2", .ref q1, .ref q2, .ref q3, .ref q4, .ref q5] : List V).length = 12 := rfl
    clear m1 m2 m3 m4 m5 m6 mm
    generalize upd _ LV _ = HV0 at hv hVi ⊢
    generalize [V.ref y1, .int 0, .int (-7), .int (((10 : Int) ^ (60 : Int).toNat) ^ (16 : Int).toNat), .bl true, .non, .str "1/2", .ref q1, .ref q2, .ref q3, .ref q4, .ref q5] = xs at hv hVi hlen
    refine ⟨_, rfl, LV, rfl, ⟨_, SqL.of hVi⟩, fun D3 hD3 => ?_⟩
    refine lc_list (xs := xs) (fun i Hc => Same HV0 Hc ∧ Hc D3 = some (.lst ((ex12.take i).map V.bl))) ⟨same_new hD3, upd_same⟩ (fun i Hc _ p => SqL.of (p.1 _ _ hVi)) ?_ ?_
    · rintro i v Hc hvi ⟨sm, hDc⟩
      obtain ⟨r, hr', hf⟩ := hv i v hvi
      have hi12 : i < 12 := by rw [← hlen]; exact (List.getElem?_eq_some_iff.mp hvi).1
      refine ⟨rfl, _, rfl, v, r, rfl, hf.same sm, ?_⟩
      refine ⟨_, hDc, small1000 (by rw [List.length_map, List.length_take]; omega), fun q' o e => ?_, ?_⟩
      · rw [upd_ne (ne_of_none e hD3)]
        exact sm q' o e
      · rw [List.take_succ, hr', List.map_append]
        exact upd_same
    rintro Hc ⟨sm, hDc⟩
    rw [hlen] at hDc
    refine ⟨small1000 (by show 0 ≤ 1000; decide), fun b1 hb1 => ⟨b1, 4, _, rfl, rfl, upd_same, by decide, by decide, by show 1 * 4 ≤ sizeLine; rw [sizeLine_eq]; decide, fun b2 hb2 => ?_⟩⟩
    have m1 := same_new (o := .lst [.bl true]) hb1
    have m2 := same_new (o := .lst (List.replicate (4 : Int).toNat [V.bl true]).flatten) hb2
    refine ⟨small1000 (by show 0 ≤ 1000; decide), fun b3 hb3 => ⟨b3, 8, _, rfl, rfl, upd_same, by decide, by decide, by show 1 * 8 ≤ sizeLine; rw [sizeLine_eq]; decide, fun b4 hb4 => ?_⟩⟩
    have m3 := same_new (o := .lst [.bl false]) hb3
    have m4 := same_new (o := .lst (List.replicate (8 : Int).toNat [V.bl false]).flatten) hb4
    refine ⟨b2, b4, _, _, rfl, rfl, m4 _ _ (m3 _ _ upd_same), upd_same, by show 4 + 8 ≤ sizeLine; rw [sizeLine_eq]; decide, fun b5 hb5 => ?_⟩
    have m5 := same_new (o := .lst ((List.replicate (4 : Int).toNat [V.bl true]).flatten ++ (List.replicate (8 : Int).toNat [V.bl false]).flatten)) hb5
    refine ⟨.list (ex12.map .bool), .list (ex12.map .bool), .lst (SqL.of (((((m1.trans m2).trans m3).trans m4).trans m5) _ _ hDc)) (bls_dp ex12), .lst (SqL.of upd_same) (bls_dp ex12), by decide +kernel, by decide +kernel, ?_⟩
    show Q (.bl (PyData.eqv (.list (ex12.map .bool)) (.list (ex12.map .bool)))) _
    rw [eqB]
    exact q _
end
end FR
set_option Elab.async false
set_option linter.all false
set_option maxRecDepth 100000
set_option maxHeartbeats 4000000
namespace FR
open PySem PySem.Spec PyProof.Rows L2 LD
/-! ### what the written part says of the class, by computation -/
def refOr (o : Option (Option Value)) : Bool := match o with
  | some none => true
  | some (some (.ref _)) => true
  | _ => false
theorem refOr_of {o : Option (Option Value)} (h : refOr o = true) : ∃ rc, o = some rc ∧ (rc = none ∨ ∃ g : Addr, rc = some (.ref g)) := by
  unfold refOr at h
  split at h
  · exact ⟨_, rfl, .inl rfl⟩
  · exact ⟨_, rfl, .inr ⟨_, rfl⟩⟩
  · cases h
theorem isSome_of {α : Type} {o : Option α} (h : o.isSome = true) : ∃ x, o = some x := Option.isSome_iff_exists.mp h
def oddB (K : PySem.W.Frag) (C : Addr) (T : String) : Bool := (PySem.W.kitOne K (.type T) (.ref C) == some false) && ((PySem.W.subIn K (.ref C) (.type T) == some false) && PySem.W.notFirst K C (.type T))
theorem odd_of {K : PySem.W.Frag} {C : Addr} {T : String} (h : oddB K C T = true) : OddC K C T := by
  simp only [oddB, Bool.and_eq_true, beq_iff_eq] at h
  exact ⟨h.1, h.2.1, h.2.2⟩
def clsB (K : PySem.W.Frag) (C : Addr) : Bool := PySem.W.plainGet K C Str.empty && (PySem.W.hasDictIn K C && (PySem.W.plainOver K C && (PySem.W.findIn K (.ref C) "__setattr__" == some (some (.builtin "object.__setattr__")))))
theorem cls_of {K : PySem.W.Frag} {C : Addr} (h : clsB K C = true) : Cls K C := by
  simp only [clsB, Bool.and_eq_true, beq_iff_eq] at h
  exact ⟨h.1, h.2.1, h.2.2.1, h.2.2.2⟩
def rowB (K : PySem.W.Frag) (C : Addr) : Bool :=
  (PySem.W.findIn K (.ref C) "_top" == some none) && ((PySem.W.findIn K (.ref C) "_bottom" == some none) && ((PySem.W.findIn K (.ref C) "__class__" == some (some (.builtin "object.__class__"))) &&
  ((PySem.W.specialIn K (.builtin "object.__class__") "__get__" == some (some (.builtin "getset_descriptor.__get__"))) && ((PySem.W.takesIn K (.builtin "object.__class__") == some true) && ((PySem.W.mroIn K C (.type "object") == some true) &&
  ((PySem.W.findIn K (.ref C) "__ne__" == some (some (.builtin "object.__ne__"))) && ((PySem.W.subIn K (.ref C) (.type "object") == some true) && (PySem.W.makesIn K C && (PySem.W.keepIn K (.ref C) && (PySem.W.selfFirst K C && (PySem.W.subIn K (.type "int") (.ref C) == some false)))))))))))
def opB (K : PySem.W.Frag) (C : Addr) : Bool := refOr (PySem.W.findIn K (.ref C) (dunderR "add")) && ((PySem.W.findIn K (.type "int") (PySem.dunder "add")).isSome && (PySem.W.findIn K (.type "int") (dunderR "add")).isSome)
theorem all_mk {l : PySem.W.OpenLaw} {w : World} {K : PySem.W.Frag} {h : Heap} {mg : Str → Option Value} {fa C : Addr} (X : K.In h) (G : h.Ns mainGlobals mg) (hfa : mg "law" = some (.ref fa))
    (aC : PySem.W.nsIn K mainGlobals "Fraction" = some (some (.ref C)))
    (agcd : PySem.W.nsIn K mainGlobals "gcd" = some (some (.builtin "math.gcd")))
    {tkM : Tok}
    (aM : PySem.W.nsIn K mainGlobals "MAX_POWER" = some (some (.int 64 tkM)))
    {f_plain : Addr} {oc_plain kV_plain dc_plain pm_plain cd_plain ct_plain : Value} {od_plain an_plain : Option Addr} {sl_plain : Array (Option Value)}
    (n_plain : PySem.W.nsIn K mainGlobals "is_plain_integer" = some (some (.ref f_plain)))
    (l_plain : K.lookup f_plain = some ⟨oc_plain, od_plain, .func (PySem.W.fnOf "is_plain_integer" "is_plain_integer" (defArgs sPlain) (defBody sPlain) (defScope sPlain) .none kV_plain dc_plain pm_plain an_plain cd_plain ct_plain), sl_plain⟩)
    (d_plain : PySem.W.codeIn K cd_plain "is_plain_integer" = true)
    (k_plain : PySem.W.keepIn K (.ref f_plain) = true)
    {f_bet : Addr} {oc_bet kV_bet dc_bet pm_bet cd_bet ct_bet : Value} {od_bet an_bet : Option Addr} {sl_bet : Array (Option Value)}
    (n_bet : PySem.W.nsIn K mainGlobals "is_between" = some (some (.ref f_bet)))
    (l_bet : K.lookup f_bet = some ⟨oc_bet, od_bet, .func (PySem.W.fnOf "is_between" "is_between" (defArgs sBet) (defBody sBet) (defScope sBet) .none kV_bet dc_bet pm_bet an_bet cd_bet ct_bet), sl_bet⟩)
    (d_bet : PySem.W.codeIn K cd_bet "is_between" = true)
    (k_bet : PySem.W.keepIn K (.ref f_bet) = true)
    {f_isf : Addr} {oc_isf kV_isf dc_isf pm_isf cd_isf ct_isf : Value} {od_isf an_isf : Option Addr} {sl_isf : Array (Option Value)}
    (n_isf : PySem.W.nsIn K mainGlobals "is_fraction" = some (some (.ref f_isf)))
    (l_isf : K.lookup f_isf = some ⟨oc_isf, od_isf, .func (PySem.W.fnOf "is_fraction" "is_fraction" (defArgs sIsF) (defBody sIsF) (defScope sIsF) .none kV_isf dc_isf pm_isf an_isf cd_isf ct_isf), sl_isf⟩)
    (d_isf : PySem.W.codeIn K cd_isf "is_fraction" = true)
    (k_isf : PySem.W.keepIn K (.ref f_isf) = true)
    {f_asf : Addr} {oc_asf kV_asf dc_asf pm_asf cd_asf ct_asf : Value} {od_asf an_asf : Option Addr} {sl_asf : Array (Option Value)}
    (n_asf : PySem.W.nsIn K mainGlobals "as_fraction" = some (some (.ref f_asf)))
    (l_asf : K.lookup f_asf = some ⟨oc_asf, od_asf, .func (PySem.W.fnOf "as_fraction" "as_fraction" (defArgs sAs) (defBody sAs) (defScope sAs) .none kV_asf dc_asf pm_asf an_asf cd_asf ct_asf), sl_asf⟩)
    (d_asf : PySem.W.codeIn K cd_asf "as_fraction" = true)
    (k_asf : PySem.W.keepIn K (.ref f_asf) = true)
    {f_dice : Addr} {oc_dice kV_dice dc_dice pm_dice cd_dice ct_dice : Value} {od_dice an_dice : Option Addr} {sl_dice : Array (Option Value)}
    (n_dice : PySem.W.nsIn K mainGlobals "_law_dice" = some (some (.ref f_dice)))
    (l_dice : K.lookup f_dice = some ⟨oc_dice, od_dice, .func (PySem.W.fnOf "_law_dice" "_law_dice" (defArgs LD.sDice) (defBody LD.sDice) (defScope LD.sDice) .none kV_dice dc_dice pm_dice an_dice cd_dice ct_dice), sl_dice⟩)
    (d_dice : PySem.W.codeIn K cd_dice "_law_dice" = true)
    (k_dice : PySem.W.keepIn K (.ref f_dice) = true)
    {f_roll : Addr} {oc_roll kV_roll dc_roll pm_roll cd_roll ct_roll : Value} {od_roll an_roll : Option Addr} {sl_roll : Array (Option Value)}
    (n_roll : PySem.W.nsIn K mainGlobals "_law_roll" = some (some (.ref f_roll)))
    (l_roll : K.lookup f_roll = some ⟨oc_roll, od_roll, .func (PySem.W.fnOf "_law_roll" "_law_roll" (defArgs LD.sRoll) (defBody LD.sRoll) (defScope LD.sRoll) .none kV_roll dc_roll pm_roll an_roll cd_roll ct_roll), sl_roll⟩)
    (d_roll : PySem.W.codeIn K cd_roll "_law_roll" = true)
    (k_roll : PySem.W.keepIn K (.ref f_roll) = true)
    {f_one : Addr} {oc_one kV_one dc_one pm_one cd_one ct_one : Value} {od_one an_one : Option Addr} {sl_one : Array (Option Value)}
    (n_one : PySem.W.nsIn K mainGlobals "_law_one_of" = some (some (.ref f_one)))
    (l_one : K.lookup f_one = some ⟨oc_one, od_one, .func (PySem.W.fnOf "_law_one_of" "_law_one_of" (defArgs LD.sOneOf) (defBody LD.sOneOf) (defScope LD.sOneOf) .none kV_one dc_one pm_one an_one cd_one ct_one), sl_one⟩)
    (d_one : PySem.W.codeIn K cd_one "_law_one_of" = true)
    (k_one : PySem.W.keepIn K (.ref f_one) = true)
    {f_gcd : Addr} {oc_gcd kV_gcd dc_gcd pm_gcd cd_gcd ct_gcd : Value} {od_gcd an_gcd : Option Addr} {sl_gcd : Array (Option Value)}
    (n_gcd : PySem.W.nsIn K mainGlobals "_law_gcd" = some (some (.ref f_gcd)))
    (l_gcd : K.lookup f_gcd = some ⟨oc_gcd, od_gcd, .func (PySem.W.fnOf "_law_gcd" "_law_gcd" (defArgs sGcd) (defBody sGcd) (defScope sGcd) .none kV_gcd dc_gcd pm_gcd an_gcd cd_gcd ct_gcd), sl_gcd⟩)
    (d_gcd : PySem.W.codeIn K cd_gcd "_law_gcd" = true)
    (k_gcd : PySem.W.keepIn K (.ref f_gcd) = true)
    {f_rat : Addr} {oc_rat kV_rat dc_rat pm_rat cd_rat ct_rat : Value} {od_rat an_rat : Option Addr} {sl_rat : Array (Option Value)}
    (n_rat : PySem.W.nsIn K mainGlobals "_law_ratio" = some (some (.ref f_rat)))
    (l_rat : K.lookup f_rat = some ⟨oc_rat, od_rat, .func (PySem.W.fnOf "_law_ratio" "_law_ratio" (defArgs sRat) (defBody sRat) (defScope sRat) .none kV_rat dc_rat pm_rat an_rat cd_rat ct_rat), sl_rat⟩)
    (d_rat : PySem.W.codeIn K cd_rat "_law_ratio" = true)
    (k_rat : PySem.W.keepIn K (.ref f_rat) = true)
    {f_int : Addr} {oc_int kV_int dc_int pm_int cd_int ct_int : Value} {od_int an_int : Option Addr} {sl_int : Array (Option Value)}
    (n_int : PySem.W.nsIn K mainGlobals "_law_integer" = some (some (.ref f_int)))
    (l_int : K.lookup f_int = some ⟨oc_int, od_int, .func (PySem.W.fnOf "_law_integer" "_law_integer" (defArgs sInt) (defBody sInt) (defScope sInt) .none kV_int dc_int pm_int an_int cd_int ct_int), sl_int⟩)
    (d_int : PySem.W.codeIn K cd_int "_law_integer" = true)
    (k_int : PySem.W.keepIn K (.ref f_int) = true)
    {f_cou : Addr} {oc_cou kV_cou dc_cou pm_cou cd_cou ct_cou : Value} {od_cou an_cou : Option Addr} {sl_cou : Array (Option Value)}
    (n_cou : PySem.W.nsIn K mainGlobals "_law_couple" = some (some (.ref f_cou)))
    (l_cou : K.lookup f_cou = some ⟨oc_cou, od_cou, .func (PySem.W.fnOf "_law_couple" "_law_couple" (defArgs sCou) (defBody sCou) (defScope sCou) .none kV_cou dc_cou pm_cou an_cou cd_cou ct_cou), sl_cou⟩)
    (d_cou : PySem.W.codeIn K cd_cou "_law_couple" = true)
    (k_cou : PySem.W.keepIn K (.ref f_cou) = true)
    {f_pair : Addr} {oc_pair kV_pair dc_pair pm_pair cd_pair ct_pair : Value} {od_pair an_pair : Option Addr} {sl_pair : Array (Option Value)}
    (n_pair : PySem.W.nsIn K mainGlobals "_law_pair" = some (some (.ref f_pair)))
    (l_pair : K.lookup f_pair = some ⟨oc_pair, od_pair, .func (PySem.W.fnOf "_law_pair" "_law_pair" (defArgs sPair) (defBody sPair) (defScope sPair) .none kV_pair dc_pair pm_pair an_pair cd_pair ct_pair), sl_pair⟩)
    (d_pair : PySem.W.codeIn K cd_pair "_law_pair" = true)
    (k_pair : PySem.W.keepIn K (.ref f_pair) = true)
    {f_told : Addr} {oc_told kV_told dc_told pm_told cd_told ct_told : Value} {od_told an_told : Option Addr} {sl_told : Array (Option Value)}
    (n_told : PySem.W.nsIn K mainGlobals "_law_told" = some (some (.ref f_told)))
    (l_told : K.lookup f_told = some ⟨oc_told, od_told, .func (PySem.W.fnOf "_law_told" "_law_told" (defArgs sTold) (defBody sTold) (defScope sTold) .none kV_told dc_told pm_told an_told cd_told ct_told), sl_told⟩)
    (d_told : PySem.W.codeIn K cd_told "_law_told" = true)
    (k_told : PySem.W.keepIn K (.ref f_told) = true)
    {f_made : Addr} {oc_made kV_made dc_made pm_made cd_made ct_made : Value} {od_made an_made : Option Addr} {sl_made : Array (Option Value)}
    (n_made : PySem.W.nsIn K mainGlobals "_law_made_right" = some (some (.ref f_made)))
    (l_made : K.lookup f_made = some ⟨oc_made, od_made, .func (PySem.W.fnOf "_law_made_right" "_law_made_right" (defArgs sMade) (defBody sMade) (defScope sMade) .none kV_made dc_made pm_made an_made cd_made ct_made), sl_made⟩)
    (d_made : PySem.W.codeIn K cd_made "_law_made_right" = true)
    (k_made : PySem.W.keepIn K (.ref f_made) = true)
    {f_eqr : Addr} {oc_eqr kV_eqr dc_eqr pm_eqr cd_eqr ct_eqr : Value} {od_eqr an_eqr : Option Addr} {sl_eqr : Array (Option Value)}
    (n_eqr : PySem.W.nsIn K mainGlobals "_law_equal_right" = some (some (.ref f_eqr)))
    (l_eqr : K.lookup f_eqr = some ⟨oc_eqr, od_eqr, .func (PySem.W.fnOf "_law_equal_right" "_law_equal_right" (defArgs sEqr) (defBody sEqr) (defScope sEqr) .none kV_eqr dc_eqr pm_eqr an_eqr cd_eqr ct_eqr), sl_eqr⟩)
    (d_eqr : PySem.W.codeIn K cd_eqr "_law_equal_right" = true)
    (k_eqr : PySem.W.keepIn K (.ref f_eqr) = true)
    {f_law : Addr} {oc_law kV_law dc_law pm_law cd_law ct_law : Value} {od_law an_law : Option Addr} {sl_law : Array (Option Value)}
    (n_law : PySem.W.nsIn K mainGlobals "law" = some (some (.ref f_law)))
    (l_law : K.lookup f_law = some ⟨oc_law, od_law, .func (PySem.W.fnOf "law" "law" (defArgs sLaw) (defBody sLaw) (defScope sLaw) .none kV_law dc_law pm_law an_law cd_law ct_law), sl_law⟩)
    (d_law : PySem.W.codeIn K cd_law "law" = true)
    (k_law : PySem.W.keepIn K (.ref f_law) = true)
    {f_add : Addr} {oc_add kV_add dc_add pm_add cd_add ct_add : Value} {od_add an_add : Option Addr} {sl_add : Array (Option Value)}
    (n_add : PySem.W.findIn K (.ref C) "__add__" = some (some (.ref f_add)))
    (l_add : K.lookup f_add = some ⟨oc_add, od_add, .func (PySem.W.fnOf "__add__" "Fraction.__add__" (defArgs sAdd) (defBody sAdd) (defScope sAdd) .none kV_add dc_add pm_add an_add cd_add ct_add), sl_add⟩)
    (d_add : PySem.W.codeIn K cd_add "Fraction.__add__" = true)
    (k_add : PySem.W.keepIn K (.ref f_add) = true)
    (i_add : PySem.W.isFn K (.ref f_add) = true)
    {f_sub : Addr} {oc_sub kV_sub dc_sub pm_sub cd_sub ct_sub : Value} {od_sub an_sub : Option Addr} {sl_sub : Array (Option Value)}
    (n_sub : PySem.W.findIn K (.ref C) "__sub__" = some (some (.ref f_sub)))
    (l_sub : K.lookup f_sub = some ⟨oc_sub, od_sub, .func (PySem.W.fnOf "__sub__" "Fraction.__sub__" (defArgs sSub) (defBody sSub) (defScope sSub) .none kV_sub dc_sub pm_sub an_sub cd_sub ct_sub), sl_sub⟩)
    (d_sub : PySem.W.codeIn K cd_sub "Fraction.__sub__" = true)
    (k_sub : PySem.W.keepIn K (.ref f_sub) = true)
    (i_sub : PySem.W.isFn K (.ref f_sub) = true)
    {f_rsub : Addr} {oc_rsub kV_rsub dc_rsub pm_rsub cd_rsub ct_rsub : Value} {od_rsub an_rsub : Option Addr} {sl_rsub : Array (Option Value)}
    (n_rsub : PySem.W.findIn K (.ref C) "__rsub__" = some (some (.ref f_rsub)))
    (l_rsub : K.lookup f_rsub = some ⟨oc_rsub, od_rsub, .func (PySem.W.fnOf "__rsub__" "Fraction.__rsub__" (defArgs sRsub) (defBody sRsub) (defScope sRsub) .none kV_rsub dc_rsub pm_rsub an_rsub cd_rsub ct_rsub), sl_rsub⟩)
    (d_rsub : PySem.W.codeIn K cd_rsub "Fraction.__rsub__" = true)
    (k_rsub : PySem.W.keepIn K (.ref f_rsub) = true)
    (i_rsub : PySem.W.isFn K (.ref f_rsub) = true)
    {f_mul : Addr} {oc_mul kV_mul dc_mul pm_mul cd_mul ct_mul : Value} {od_mul an_mul : Option Addr} {sl_mul : Array (Option Value)}
    (n_mul : PySem.W.findIn K (.ref C) "__mul__" = some (some (.ref f_mul)))
    (l_mul : K.lookup f_mul = some ⟨oc_mul, od_mul, .func (PySem.W.fnOf "__mul__" "Fraction.__mul__" (defArgs sMul) (defBody sMul) (defScope sMul) .none kV_mul dc_mul pm_mul an_mul cd_mul ct_mul), sl_mul⟩)
    (d_mul : PySem.W.codeIn K cd_mul "Fraction.__mul__" = true)
    (k_mul : PySem.W.keepIn K (.ref f_mul) = true)
    (i_mul : PySem.W.isFn K (.ref f_mul) = true)
    {f_ab : Addr} {oc_ab kV_ab dc_ab pm_ab cd_ab ct_ab : Value} {od_ab an_ab : Option Addr} {sl_ab : Array (Option Value)}
    (n_ab : PySem.W.findIn K (.ref C) "__abs__" = some (some (.ref f_ab)))
    (l_ab : K.lookup f_ab = some ⟨oc_ab, od_ab, .func (PySem.W.fnOf "__abs__" "Fraction.__abs__" (defArgs sAbs) (defBody sAbs) (defScope sAbs) .none kV_ab dc_ab pm_ab an_ab cd_ab ct_ab), sl_ab⟩)
    (d_ab : PySem.W.codeIn K cd_ab "Fraction.__abs__" = true)
    (k_ab : PySem.W.keepIn K (.ref f_ab) = true)
    (i_ab : PySem.W.isFn K (.ref f_ab) = true)
    {f_eq : Addr} {oc_eq kV_eq dc_eq pm_eq cd_eq ct_eq : Value} {od_eq an_eq : Option Addr} {sl_eq : Array (Option Value)}
    (n_eq : PySem.W.findIn K (.ref C) "__eq__" = some (some (.ref f_eq)))
    (l_eq : K.lookup f_eq = some ⟨oc_eq, od_eq, .func (PySem.W.fnOf "__eq__" "Fraction.__eq__" (defArgs sEq) (defBody sEq) (defScope sEq) .none kV_eq dc_eq pm_eq an_eq cd_eq ct_eq), sl_eq⟩)
    (d_eq : PySem.W.codeIn K cd_eq "Fraction.__eq__" = true)
    (k_eq : PySem.W.keepIn K (.ref f_eq) = true)
    (i_eq : PySem.W.isFn K (.ref f_eq) = true)
    {f_st : Addr} {oc_st kV_st dc_st pm_st cd_st ct_st : Value} {od_st an_st : Option Addr} {sl_st : Array (Option Value)}
    (n_st : PySem.W.findIn K (.ref C) "__str__" = some (some (.ref f_st)))
    (l_st : K.lookup f_st = some ⟨oc_st, od_st, .func (PySem.W.fnOf "__str__" "Fraction.__str__" (defArgs sStr) (defBody sStr) (defScope sStr) .none kV_st dc_st pm_st an_st cd_st ct_st), sl_st⟩)
    (d_st : PySem.W.codeIn K cd_st "Fraction.__str__" = true)
    (k_st : PySem.W.keepIn K (.ref f_st) = true)
    (i_st : PySem.W.isFn K (.ref f_st) = true)
    {f_pow : Addr} {oc_pow kV_pow dc_pow pm_pow cd_pow ct_pow : Value} {od_pow an_pow : Option Addr} {sl_pow : Array (Option Value)}
    (n_pow : PySem.W.findIn K (.ref C) "power" = some (some (.ref f_pow)))
    (l_pow : K.lookup f_pow = some ⟨oc_pow, od_pow, .func (PySem.W.fnOf "power" "Fraction.power" (defArgs sPow) (defBody sPow) (defScope sPow) .none kV_pow dc_pow pm_pow an_pow cd_pow ct_pow), sl_pow⟩)
    (d_pow : PySem.W.codeIn K cd_pow "Fraction.power" = true)
    (k_pow : PySem.W.keepIn K (.ref f_pow) = true)
    (i_pow : PySem.W.isFn K (.ref f_pow) = true)
    {f_top : Addr} {oc_top kV_top dc_top pm_top cd_top ct_top : Value} {od_top an_top : Option Addr} {sl_top : Array (Option Value)}
    {p_top : Addr} {r_top : List Value}
    (n_top : PySem.W.findIn K (.ref C) "top" = some (some (.ref p_top)))
    (g_top : PySem.W.specialIn K (.ref p_top) "__get__" = some (some (.builtin "property.__get__")))
    (t_top : PySem.W.takesIn K (.ref p_top) = some true)
    (r_topx : PySem.W.recIn K p_top "property" = some (.ref f_top :: r_top))
    (l_top : K.lookup f_top = some ⟨oc_top, od_top, .func (PySem.W.fnOf "top" "Fraction.top" (defArgs sTop) (defBody sTop) (defScope sTop) .none kV_top dc_top pm_top an_top cd_top ct_top), sl_top⟩)
    (d_top : PySem.W.codeIn K cd_top "Fraction.top" = true)
    (k_top : PySem.W.keepIn K (.ref f_top) = true)
    {f_bot : Addr} {oc_bot kV_bot dc_bot pm_bot cd_bot ct_bot : Value} {od_bot an_bot : Option Addr} {sl_bot : Array (Option Value)}
    {p_bot : Addr} {r_bot : List Value}
    (n_bot : PySem.W.findIn K (.ref C) "bottom" = some (some (.ref p_bot)))
    (g_bot : PySem.W.specialIn K (.ref p_bot) "__get__" = some (some (.builtin "property.__get__")))
    (t_bot : PySem.W.takesIn K (.ref p_bot) = some true)
    (r_botx : PySem.W.recIn K p_bot "property" = some (.ref f_bot :: r_bot))
    (l_bot : K.lookup f_bot = some ⟨oc_bot, od_bot, .func (PySem.W.fnOf "bottom" "Fraction.bottom" (defArgs sBot) (defBody sBot) (defScope sBot) .none kV_bot dc_bot pm_bot an_bot cd_bot ct_bot), sl_bot⟩)
    (d_bot : PySem.W.codeIn K cd_bot "Fraction.bottom" = true)
    (k_bot : PySem.W.keepIn K (.ref f_bot) = true)
    {f_ini : Addr} {oc_ini kV_ini dc_ini pm_ini cd_ini ct_ini : Value} {od_ini an_ini : Option Addr} {sl_ini : Array (Option Value)}
    {T_ini : Addr} {tc_ini : Value} {td_ini : Option Addr} {ti_ini : Array Value} {tn_ini : Nat} {ts_ini : Array (Option Value)} {tk_ini : Tok}
    (n_ini : PySem.W.findIn K (.ref C) "__init__" = some (some (.ref f_ini)))
    (l_ini : K.lookup f_ini = some ⟨oc_ini, od_ini, .func (PySem.W.fnOf "__init__" "Fraction.__init__" (defArgs sInit) (defBody sInit) (defScope sInit) (.ref T_ini) kV_ini dc_ini pm_ini an_ini cd_ini ct_ini), sl_ini⟩)
    (d_ini : PySem.W.codeIn K cd_ini "Fraction.__init__" = true)
    (k_ini : PySem.W.keepIn K (.ref f_ini) = true)
    (i_ini : PySem.W.isFn K (.ref f_ini) = true)
    (T_inix : K.lookup T_ini = some ⟨tc_ini, td_ini, .seq ti_ini tn_ini, ts_ini⟩)
    (v_ini : ti_ini = [Value.int 1 tk_ini].toArray)
    (z_int : PySem.W.nsIn K mainGlobals "int" = some none)
    (z_len : PySem.W.nsIn K mainGlobals "len" = some none)
    (z_abs : PySem.W.nsIn K mainGlobals "abs" = some none)
    (z_max : PySem.W.nsIn K mainGlobals "max" = some none)
    (z_min : PySem.W.nsIn K mainGlobals "min" = some none)
    (z_isinstance : PySem.W.nsIn K mainGlobals "isinstance" = some none)
    (z_range : PySem.W.nsIn K mainGlobals "range" = some none)
    (z_repr : PySem.W.nsIn K mainGlobals "repr" = some none)
    (z_str : PySem.W.nsIn K mainGlobals "str" = some none)
    (z_bool : PySem.W.nsIn K mainGlobals "bool" = some none)
    (rcls : clsB K C = true)
    (rrow : rowB K C = true)
    (rop : opB K C = true)
    (o_NoneType : oddB K C "NoneType" = true)
    (o_bool : oddB K C "bool" = true)
    (o_int : oddB K C "int" = true)
    (o_str : oddB K C "str" = true)
    (o_list : oddB K C "list" = true)
    (o_tuple : oddB K C "tuple" = true)
    (o_dict : oddB K C "dict" = true) :
    ∃ fd : FuncData, (∀ (s : Shared) (v : Value), BindsTo s fd ⟨[v], []⟩ [("_law_script", v)]) ∧ ∀ base : Heap, K.In base → base.Ns mainGlobals mg → FnG l.prog w K mg base CX0 8 fa fd ["_law_script"] (spLaw K) := by
  have e := hfa.symm.trans (PySem.W.mg_of X G n_law)
  cases e
  have no : ∀ {x : Str}, PySem.W.nsIn K mainGlobals x = some none → mg x = none := fun z => PySem.W.mg_none_of X G z
  have at_ : ∀ {x : Str} {v : Value}, PySem.W.nsIn K mainGlobals x = some (some v) → mg x = some v := fun z => PySem.W.mg_of X G z
  have F_plain := fun_mk (st := sPlain) l_plain d_plain k_plain
  have b_plain := F_plain.binds (ps := ["value"]) fun _ _ _ _ _ _ us hl => match us, hl with | [_], _ => rfl
  have F_bet := fun_mk (st := sBet) l_bet d_bet k_bet
  have b_bet := F_bet.binds (ps := ["value", "least", "greatest"]) fun _ _ _ _ _ _ us hl => match us, hl with | [_, _, _], _ => rfl
  have F_isf := fun_mk (st := sIsF) l_isf d_isf k_isf
  have b_isf := F_isf.binds (ps := ["value"]) fun _ _ _ _ _ _ us hl => match us, hl with | [_], _ => rfl
  have F_asf := fun_mk (st := sAs) l_asf d_asf k_asf
  have b_asf := F_asf.binds (ps := ["value"]) fun _ _ _ _ _ _ us hl => match us, hl with | [_], _ => rfl
  have F_dice := fun_mk (st := LD.sDice) l_dice d_dice k_dice
  have b_dice := F_dice.binds (ps := ["_law_script", "_law_at"]) fun _ _ _ _ _ _ us hl => match us, hl with | [_, _], _ => rfl
  have F_roll := fun_mk (st := LD.sRoll) l_roll d_roll k_roll
  have b_roll := F_roll.binds (ps := ["_law_dice_here", "_law_total"]) fun _ _ _ _ _ _ us hl => match us, hl with | [_, _], _ => rfl
  have F_one := fun_mk (st := LD.sOneOf) l_one d_one k_one
  have b_one := F_one.binds (ps := ["_law_dice_here", "_law_items"]) fun _ _ _ _ _ _ us hl => match us, hl with | [_, _], _ => rfl
  have F_gcd := fun_mk (st := sGcd) l_gcd d_gcd k_gcd
  have b_gcd := F_gcd.binds (ps := ["_law_one", "_law_two"]) fun _ _ _ _ _ _ us hl => match us, hl with | [_, _], _ => rfl
  have F_rat := fun_mk (st := sRat) l_rat d_rat k_rat
  have b_rat := F_rat.binds (ps := ["_law_top", "_law_bottom"]) fun _ _ _ _ _ _ us hl => match us, hl with | [_, _], _ => rfl
  have F_int := fun_mk (st := sInt) l_int d_int k_int
  have b_int := F_int.binds (ps := ["_law_dice_here"]) fun _ _ _ _ _ _ us hl => match us, hl with | [_], _ => rfl
  have F_cou := fun_mk (st := sCou) l_cou d_cou k_cou
  have b_cou := F_cou.binds (ps := ["_law_dice_here"]) fun _ _ _ _ _ _ us hl => match us, hl with | [_], _ => rfl
  have F_pair := fun_mk (st := sPair) l_pair d_pair k_pair
  have b_pair := F_pair.binds (ps := ["_law_top", "_law_bottom"]) fun _ _ _ _ _ _ us hl => match us, hl with | [_, _], _ => rfl
  have F_told := fun_mk (st := sTold) l_told d_told k_told
  have b_told := F_told.binds (ps := ["_law_thing"]) fun _ _ _ _ _ _ us hl => match us, hl with | [_], _ => rfl
  have F_made := fun_mk (st := sMade) l_made d_made k_made
  have b_made := F_made.binds (ps := ["_law_dice_here"]) fun _ _ _ _ _ _ us hl => match us, hl with | [_], _ => rfl
  have F_eqr := fun_mk (st := sEqr) l_eqr d_eqr k_eqr
  have b_eqr := F_eqr.binds (ps := ["_law_dice_here"]) fun _ _ _ _ _ _ us hl => match us, hl with | [_], _ => rfl
  have F_law := fun_mk (st := sLaw) l_law d_law k_law
  have b_law := F_law.binds (ps := ["_law_script"]) fun _ _ _ _ _ _ us hl => match us, hl with | [_], _ => rfl
  have F_add := fun_mk (st := sAdd) l_add d_add k_add
  have b_add := F_add.binds (ps := ["self", "other"]) fun _ _ _ _ _ _ us hl => match us, hl with | [_, _], _ => rfl
  have F_sub := fun_mk (st := sSub) l_sub d_sub k_sub
  have b_sub := F_sub.binds (ps := ["self", "other"]) fun _ _ _ _ _ _ us hl => match us, hl with | [_, _], _ => rfl
  have F_rsub := fun_mk (st := sRsub) l_rsub d_rsub k_rsub
  have b_rsub := F_rsub.binds (ps := ["self", "other"]) fun _ _ _ _ _ _ us hl => match us, hl with | [_, _], _ => rfl
  have F_mul := fun_mk (st := sMul) l_mul d_mul k_mul
  have b_mul := F_mul.binds (ps := ["self", "other"]) fun _ _ _ _ _ _ us hl => match us, hl with | [_, _], _ => rfl
  have F_ab := fun_mk (st := sAbs) l_ab d_ab k_ab
  have b_ab := F_ab.binds (ps := ["self"]) fun _ _ _ _ _ _ us hl => match us, hl with | [_], _ => rfl
  have F_eq := fun_mk (st := sEq) l_eq d_eq k_eq
  have b_eq := F_eq.binds (ps := ["self", "other"]) fun _ _ _ _ _ _ us hl => match us, hl with | [_, _], _ => rfl
  have F_st := fun_mk (st := sStr) l_st d_st k_st
  have b_st := F_st.binds (ps := ["self"]) fun _ _ _ _ _ _ us hl => match us, hl with | [_], _ => rfl
  have F_pow := fun_mk (st := sPow) l_pow d_pow k_pow
  have b_pow := F_pow.binds (ps := ["self", "many"]) fun _ _ _ _ _ _ us hl => match us, hl with | [_, _], _ => rfl
  have F_top := fun_mk (st := sTop) l_top d_top k_top
  have b_top := F_top.binds (ps := ["self"]) fun _ _ _ _ _ _ us hl => match us, hl with | [_], _ => rfl
  have F_bot := fun_mk (st := sBot) l_bot d_bot k_bot
  have b_bot := F_bot.binds (ps := ["self"]) fun _ _ _ _ _ _ us hl => match us, hl with | [_], _ => rfl
  have cC := cls_of rcls
  simp only [rowB, Bool.and_eq_true, beq_iff_eq] at rrow
  obtain ⟨w1, w2, w3, w4, w5, w6, w7, w8, w9, w10, w11, w12⟩ := rrow
  simp only [opB, Bool.and_eq_true] at rop
  obtain ⟨q1, q2, q3⟩ := rop
  have OD : OddsC K C := ⟨odd_of o_NoneType, odd_of o_bool, odd_of o_int, odd_of o_str, odd_of o_list, odd_of o_tuple, odd_of o_dict⟩
  have TF : TxtF K mg C := ⟨cC, w1, w2, at_ aC, at_ agcd⟩
  have TD : TxtD mg := ⟨no z_int, no z_len, no z_abs, no z_max⟩
  have TM : TxtM K mg C := ⟨no z_repr, no z_str, no z_abs, no z_len, w11, ⟨refOr_of q1, isSome_of q2, isSome_of q3, w12⟩, OD.int.s, ⟨w7, w8⟩, OD⟩
  have TL : TxtL mg := ⟨no z_range, no z_max, no z_min, no z_len⟩
  subst v_ini
  have FI : FunD K "__init__" "Fraction.__init__" (defArgs sInit) (defBody sInit) (defScope sInit) [V.int 1] [] f_ini _ := ⟨⟨oc_ini, od_ini, .ref T_ini, kV_ini, dc_ini, pm_ini, an_ini, cd_ini, ct_ini, sl_ini, rfl, l_ini, d_ini, .inr ⟨by decide, T_ini, _, [.int 1 tk_ini], tn_ini, rfl, T_inix, rfl, .cons ⟨tk_ini, rfl⟩ .nil⟩, .inl rfl⟩, k_ini⟩
  obtain ⟨bI1, bI2⟩ := init_binds FI
  refine ⟨PySem.W.fnOf "law" "law" (defArgs sLaw) (defBody sLaw) (defScope sLaw) .none kV_law dc_law pm_law an_law cd_law ct_law, fun s v => .of_eq rfl, fun base _ _ => ?_⟩
  have GP : FnOk l.prog w K mg base CX0 1 f_plain _ ["value"] (spPlain K) := ok_plain F_plain (no z_isinstance) (no z_int) (no z_bool)
  have GI := ok_init (P := l.prog) (w := w) (base := base) FI TF GP (at_ n_plain) k_plain b_plain
  have GTo : FnOk l.prog w K mg base CX0 1 f_top _ ["self"] (getSp C "_top") := fn_getter (N := ["self"]) l_top d_top ⟨rfl, rfl, rfl, by decide +kernel, rfl, by decide +kernel, by decide +kernel⟩ rfl rfl cC w1
  have GBo : FnOk l.prog w K mg base CX0 1 f_bot _ ["self"] (getSp C "_bottom") := fn_getter (N := ["self"]) l_bot d_bot ⟨rfl, rfl, rfl, by decide +kernel, rfl, by decide +kernel, by decide +kernel⟩ rfl rfl cC w2
  have k : FrK l.prog w K mg base C f_ini p_top f_top p_bot f_bot _ _ _ := ⟨TF, ⟨w9, n_ini, i_ini, w10⟩, GI, bI1, bI2, ⟨n_top, g_top, t_top, _, r_topx⟩, GTo, b_top, ⟨n_bot, g_bot, t_bot, _, r_botx⟩, GBo, b_bot, no z_isinstance, w3, w4, w5, w6, OD.int.k⟩
  have GA := ok_as F_asf k
  have GAdd := ok_add F_add k GA (at_ n_asf) k_asf b_asf
  have GSub := ok_sub F_sub k GA (at_ n_asf) k_asf b_asf
  have GMul := ok_mul F_mul k GA (at_ n_asf) k_asf b_asf
  have GEq := ok_eq F_eq k OD GP (at_ n_plain) k_plain b_plain
  have GStr := ok_str F_st k (no z_str)
  have GAbs := ok_abs F_ab k (no z_abs)
  have GRs := ok_rsub F_rsub k GA (at_ n_asf) k_asf b_asf w11 ⟨n_sub, i_sub⟩ GSub b_sub
  have GIsF := ok_isF F_isf k OD GP (at_ n_plain) k_plain b_plain
  have GBet := ok_bet (P := l.prog) (w := w) (base := base) F_bet GP (at_ n_plain) k_plain b_plain
  have GPow := ok_pow F_pow k GBet (at_ n_bet) k_bet b_bet (at_ aM) (no z_range)
  have GR : FnOk l.prog w K mg base CX0 1 f_roll _ ["_law_dice_here", "_law_total"] spRoll := ok_roll F_roll TD.mI
  have GO : FnOk l.prog w K mg base CX0 2 f_one _ ["_law_dice_here", "_law_items"] spOneOf := ok_oneOf F_one TD F_roll (at_ n_roll) k_roll b_roll
  have GG : FnOk l.prog w K mg base CX0 1 f_gcd _ ["_law_one", "_law_two"] spGcd := ok_gcd F_gcd (no z_int)
  have GRat := ok_rat F_rat GG (at_ n_gcd) k_gcd b_gcd (no z_abs)
  have GPair := ok_pair F_pair GRat (at_ n_rat) k_rat b_rat
  have GTold := ok_told F_told k
  have GInt := ok_int F_int GR (at_ n_roll) k_roll b_roll GO (at_ n_one) k_one b_one
  have GCou := ok_cou F_cou GInt (at_ n_int) k_int b_int GO (at_ n_one) k_one b_one
  have gC : Glo l.prog w K mg base "_law_couple" 4 ["_law_dice_here"] spCou := ⟨_, _, GCou, at_ n_cou, k_cou, b_cou⟩
  have gP : Glo l.prog w K mg base "_law_pair" 3 ["_law_top", "_law_bottom"] spPair := ⟨_, _, GPair, at_ n_pair, k_pair, b_pair⟩
  have gT : Glo l.prog w K mg base "_law_told" 3 ["_law_thing"] (spTold C) := ⟨_, _, GTold, at_ n_told, k_told, b_told⟩
  have gR : Glo l.prog w K mg base "_law_roll" 1 ["_law_dice_here", "_law_total"] spRoll := ⟨_, _, GR, at_ n_roll, k_roll, b_roll⟩
  have gO : Glo l.prog w K mg base "_law_one_of" 2 ["_law_dice_here", "_law_items"] spOneOf := ⟨_, _, GO, at_ n_one, k_one, b_one⟩
  have gF : Glo l.prog w K mg base "is_fraction" 2 ["value"] (spIsF K C) := ⟨_, _, GIsF, at_ n_isf, k_isf, b_isf⟩
  have gD : Glo l.prog w K mg base "_law_dice" 1 ["_law_script", "_law_at"] (spDice K) := ⟨_, _, ok_dice F_dice TD, at_ n_dice, k_dice, b_dice⟩
  have mStr : Met l.prog w K mg base C "__str__" 3 ["self"] (spStr C) := ⟨_, _, ⟨n_st, i_st⟩, k_st, GStr, b_st⟩
  have mEq : Met l.prog w K mg base C "__eq__" 3 ["self", "other"] (spEq K C) := ⟨_, _, ⟨n_eq, i_eq⟩, k_eq, GEq, b_eq⟩
  have GMade := ok_made F_made k TM gC gP gT gR gF ⟨_, _, ⟨n_add, i_add⟩, k_add, GAdd, b_add⟩ ⟨_, _, ⟨n_sub, i_sub⟩, k_sub, GSub, b_sub⟩ ⟨_, _, ⟨n_rsub, i_rsub⟩, k_rsub, GRs, b_rsub⟩
    ⟨_, _, ⟨n_mul, i_mul⟩, k_mul, GMul, b_mul⟩ ⟨_, _, ⟨n_ab, i_ab⟩, k_ab, GAbs, b_ab⟩ mStr mEq ⟨_, _, ⟨n_pow, i_pow⟩, k_pow, GPow, b_pow⟩
  have GEqr := ok_eqr F_eqr k TM gC gP gO mStr mEq
  exact ok_law F_law k TM TL gD GMade (at_ n_made) k_made b_made ⟨_, _, GEqr, at_ n_eqr, k_eqr, b_eqr⟩ gT gF mStr mEq
end FR
open PySem PySem.W PyProof.Rows
set_option Elab.async false
set_option maxRecDepth 100000 in
set_option maxHeartbeats 0 in
theorem PySem.Challenge.cw_surelyends_k01_fractions_as_values_holds : PySem.Challenge.rw_surelyends_k01_fractions_as_values.Holds := by
  w_on; o_law; k_head; (case hw => w_witness2)
  k_fill
  refine L2.walkG (l := PySem.Challenge.rw_surelyends_k01_fractions_as_values) (n := 63) (k := 8) (x := "_law_script") (CX := fun _ => L2.CX0) (sp := fun w => FR.spLaw _) rfl (by decide) rfl ⟨rfl, by decide, by decide⟩ (fun w h Y => PySem.W.kIn_of Y) ?F (fun _ _ a ns hl _ hS => ⟨a, ns, rfl, hS, fun _ => rfl⟩) fun _ _ _ _ _ z => z
  case F =>
    intro w mg fa h KX G hmg
    refine' FR.all_mk KX G hmg ?aC ?agcd ?aM ?n_plain ?l_plain ?d_plain ?k_plain ?n_bet ?l_bet ?d_bet ?k_bet ?n_isf ?l_isf ?d_isf ?k_isf ?n_asf ?l_asf ?d_asf ?k_asf ?n_dice ?l_dice ?d_dice ?k_dice ?n_roll ?l_roll ?d_roll ?k_roll ?n_one ?l_one ?d_one ?k_one ?n_gcd ?l_gcd ?d_gcd ?k_gcd ?n_rat ?l_rat ?d_rat ?k_rat ?n_int ?l_int ?d_int ?k_int ?n_cou ?l_cou ?d_cou ?k_cou ?n_pair ?l_pair ?d_pair ?k_pair ?n_told ?l_told ?d_told ?k_told ?n_made ?l_made ?d_made ?k_made ?n_eqr ?l_eqr ?d_eqr ?k_eqr ?n_law ?l_law ?d_law ?k_law ?n_add ?l_add ?d_add ?k_add ?i_add ?n_sub ?l_sub ?d_sub ?k_sub ?i_sub ?n_rsub ?l_rsub ?d_rsub ?k_rsub ?i_rsub ?n_mul ?l_mul ?d_mul ?k_mul ?i_mul ?n_ab ?l_ab ?d_ab ?k_ab ?i_ab ?n_eq ?l_eq ?d_eq ?k_eq ?i_eq ?n_st ?l_st ?d_st ?k_st ?i_st ?n_pow ?l_pow ?d_pow ?k_pow ?i_pow ?n_top ?g_top ?t_top ?r_topx ?l_top ?d_top ?k_top ?n_bot ?g_bot ?t_bot ?r_botx ?l_bot ?d_bot ?k_bot ?n_ini ?l_ini ?d_ini ?k_ini ?i_ini ?T_inix ?v_ini ?z_int ?z_len ?z_abs ?z_max ?z_min ?z_isinstance ?z_range ?z_repr ?z_str ?z_bool ?rcls ?rrow ?rop ?o_NoneType ?o_bool ?o_int ?o_str ?o_list ?o_tuple ?o_dict
    (case aC => k_is)
    (case agcd => k_is)
    (case aM => k_is)
    (case n_plain => k_is)
    (case l_plain => k_is)
    (case d_plain => k_is)
    (case k_plain => k_is)
    (case n_bet => k_is)
    (case l_bet => k_is)
    (case d_bet => k_is)
    (case k_bet => k_is)
    (case n_isf => k_is)
    (case l_isf => k_is)
    (case d_isf => k_is)
    (case k_isf => k_is)
    (case n_asf => k_is)
    (case l_asf => k_is)
    (case d_asf => k_is)
    (case k_asf => k_is)
    (case n_dice => k_is)
    (case l_dice => k_is)
    (case d_dice => k_is)
    (case k_dice => k_is)
    (case n_roll => k_is)
    (case l_roll => k_is)
    (case d_roll => k_is)
    (case k_roll => k_is)
    (case n_one => k_is)
    (case l_one => k_is)
    (case d_one => k_is)
    (case k_one => k_is)
    (case n_gcd => k_is)
    (case l_gcd => k_is)
    (case d_gcd => k_is)
    (case k_gcd => k_is)
    (case n_rat => k_is)
    (case l_rat => k_is)
    (case d_rat => k_is)
    (case k_rat => k_is)
    (case n_int => k_is)
    (case l_int => k_is)
    (case d_int => k_is)
    (case k_int => k_is)
    (case n_cou => k_is)
    (case l_cou => k_is)
    (case d_cou => k_is)
    (case k_cou => k_is)
    (case n_pair => k_is)
    (case l_pair => k_is)
    (case d_pair => k_is)
    (case k_pair => k_is)
    (case n_told => k_is)
    (case l_told => k_is)
    (case d_told => k_is)
    (case k_told => k_is)
    (case n_made => k_is)
    (case l_made => k_is)
    (case d_made => k_is)
    (case k_made => k_is)
    (case n_eqr => k_is)
    (case l_eqr => k_is)
    (case d_eqr => k_is)
    (case k_eqr => k_is)
    (case n_law => k_is)
    (case l_law => k_is)
    (case d_law => k_is)
    (case k_law => k_is)
    (case n_add => k_is)
    (case l_add => k_is)
    (case d_add => k_is)
    (case k_add => k_is)
    (case i_add => k_is)
    (case n_sub => k_is)
    (case l_sub => k_is)
    (case d_sub => k_is)
    (case k_sub => k_is)
    (case i_sub => k_is)
    (case n_rsub => k_is)
    (case l_rsub => k_is)
    (case d_rsub => k_is)
    (case k_rsub => k_is)
    (case i_rsub => k_is)
    (case n_mul => k_is)
    (case l_mul => k_is)
    (case d_mul => k_is)
    (case k_mul => k_is)
    (case i_mul => k_is)
    (case n_ab => k_is)
    (case l_ab => k_is)
    (case d_ab => k_is)
    (case k_ab => k_is)
    (case i_ab => k_is)
    (case n_eq => k_is)
    (case l_eq => k_is)
    (case d_eq => k_is)
    (case k_eq => k_is)
    (case i_eq => k_is)
    (case n_st => k_is)
    (case l_st => k_is)
    (case d_st => k_is)
    (case k_st => k_is)
    (case i_st => k_is)
    (case n_pow => k_is)
    (case l_pow => k_is)
    (case d_pow => k_is)
    (case k_pow => k_is)
    (case i_pow => k_is)
    (case n_top => k_is)
    (case g_top => k_is)
    (case t_top => k_is)
    (case r_topx => k_is)
    (case l_top => k_is)
    (case d_top => k_is)
    (case k_top => k_is)
    (case n_bot => k_is)
    (case g_bot => k_is)
    (case t_bot => k_is)
    (case r_botx => k_is)
    (case l_bot => k_is)
    (case d_bot => k_is)
    (case k_bot => k_is)
    (case n_ini => k_is)
    (case l_ini => k_is)
    (case d_ini => k_is)
    (case k_ini => k_is)
    (case i_ini => k_is)
    (case T_inix => k_is)
    (case v_ini => rfl)
    (case z_int => k_is)
    (case z_len => k_is)
    (case z_abs => k_is)
    (case z_max => k_is)
    (case z_min => k_is)
    (case z_isinstance => k_is)
    (case z_range => k_is)
    (case z_repr => k_is)
    (case z_str => k_is)
    (case z_bool => k_is)
    (case rcls => kernel_rfl)
    (case rrow => kernel_rfl)
    (case rop => kernel_rfl)
    (case o_NoneType => kernel_rfl)
    (case o_bool => kernel_rfl)
    (case o_int => kernel_rfl)
    (case o_str => kernel_rfl)
    (case o_list => kernel_rfl)
    (case o_tuple => kernel_rfl)
    (case o_dict => kernel_rfl)
