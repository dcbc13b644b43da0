import PyProof.Rows.All
import Wide.All
import OpenK.AllK
import Wide.FinOn
import KE.KOpsOwn
import KE.KCallOwn
import HandS.ForMost
import HandS.Wide
import HandS.Property
import HandS.IsInst
import HandS.OwnEq
import HandS.Flow
import KE.KEqDict
import HandS.Gcd
import HandS.Defaults
import KE.KMathG
import HandS.Zip
import HandS.Walk
import HandS.DictComp
import HandS.More
import HandS.TupAny
import HandS.TupLe
import HandS.Conv
import HandS.TupMul
import HandS.RaiseMore
import PySem.Challenge.RW_surelyends_k04_rows_times_mixes_cleared
set_option Elab.async false
set_option linter.all false
set_option maxRecDepth 100000
set_option maxHeartbeats 4000000
/-! Operators between instances of an own class and other values -/
namespace OW
open PySem PySem.Spec PySem.W PySem.Calls PyProof.Rows
section
variable {prog : Program} {w : World} {A : Around} {E : Value → Shared → Prop} {s : Shared} {K : Frag} {x C L f g : Addr} {h₀ : Heap} {m : Str → Option Value} {ox : Obj} {od : Option Obj} {T idl : String}
/-- a built-in value in front, which declines: the reflected method -/
theorem binop_right {op : Operator} {b : Value} {Q : Value → Shared → Prop} (X : K.In s.heap) (I : InstAt s.heap x ox C od) (hb : typeOf b = pure (.type T)) (hT : s.TypeIs b T) (hc : selfFirst K C = true)
    (h0 : findIn K (.ref C) (PySem.dunder op.info.2) = some (some (.ref g))) (hs : findIn K (.ref C) (dunderR op.info.2) = some (some (.ref f))) (hf : isFn K (.ref f) = true)
    (hfT : fillsNumberSlot (.type T) op.info.2 = pure true) (hsub : subIn K (.ref C) (.type T) = some false) (hl : Slot T (PySem.dunder op.info.2) idl)
    (hd : ∀ Q' : Value → Shared → Prop, Q' .notImplemented s → wpAny (model prog w) A (call (.builtin idl) [b, .ref x]) Q' E s)
    (h : wpAny (model prog w) A (call (.ref f) [.ref x, b]) (PySem.W.CmpBack Q) E s) : wpAny (model prog w) A (binaryOp op b (.ref x)) Q E s := by
  obtain ⟨cd, rest, hcd, hm⟩ := ksp_first hc
  rcases hi : op.info with ⟨sym, nm'⟩
  rw [hi] at h0 hs hfT hl
  dsimp only at h0 hs hfT hl
  have one := ksp_try X I hs hf h
  have L1 : Looks (model prog w) s.heap (typeOf (.ref x)) (.ref C) := I.type
  have L2 : Looks (model prog w) s.heap (typeOf b) (.type T) := Looks.of_pure hb
  have L3 : Looks (model prog w) s.heap (fillsNumberSlot (.ref C) nm') true := fills_K X hcd hm h0
  have L4 : Looks (model prog w) s.heap (fillsNumberSlot (.type T) nm') true := Looks.of_pure hfT
  have L5 : Looks (model prog w) s.heap (isSubtype (.ref C) (.type T)) false := looks_subIn X hsub
  have hpy : numberSlotInPython (.type T) nm' = pure false := rfl
  have hne : (Value.type T == Value.ref C) = false := Bool.eq_false_iff.mpr fun q => by cases beq_iff_eq.mp q
  simp only [binaryOp, hi]
  refine wpAny_holding (wpAny_bind ?_)
  unfold binaryOp1
  refine wpAny_bind (L2.here (wpAny_bind (L1.here (wpAny_bind (L4.here ?_)))))
  simp only [hne, Bool.false_eq_true, if_false]
  refine wpAny_bind (L3.here ?_)
  simp only [Bool.and_self, if_true]
  refine wpAny_bind (L5.here ?_)
  simp only [Bool.false_eq_true, if_false, pure_bind, Bool.not_false, Bool.and_self, if_true, hpy]
  refine wpAny_bind (m := tryMethod b _ (.ref x)) (wpAny_tryMethod_declines hT hl (hd _ ⟨rfl, ?_⟩))
  refine wpAny_bind (m := tryMethod (.ref x) _ b) (wpAny_mono one (fun r s' hr' => ?_) fun _ _ e => e)
  obtain ⟨v, rfl, hq⟩ := hr'
  exact wpAny_bind (wpAny_rule (wpAny_pure (wpAny_pure hq)))
/-! ### == and != -/
theorem try_eq {b : Value} {Q : Value → Shared → Prop} (X : K.In s.heap) (I : InstAt s.heap x ox C od) (hs : findIn K (.ref C) "__eq__" = some (some (.ref f))) (hf : isFn K (.ref f) = true)
    (h : wpAny (model prog w) A (call (.ref f) [.ref x, b]) (PySem.W.CmpBack Q) E s) : wpAny (model prog w) A (tryCompare (.ref x) "__eq__" b) (fun r s' => ∃ v, r = some v ∧ Q v s') E s := by
  unfold tryCompare
  refine wpAny_bind (ifBound_K X I hs hf (wpAny_mono h (fun v s' hv => ?_) fun _ _ e => e))
  cases v <;> first | exact hv.elim | exact wpAny_pure ⟨_, rfl, hv⟩
theorem run_ne {b : Value} {Q : Value → Shared → Prop} (hu : A.units < cLine) (X : K.In s.heap) (I : InstAt s.heap x ox C od) (hs : findIn K (.ref C) "__eq__" = some (some (.ref f))) (hf : isFn K (.ref f) = true)
    (h : wpAny (model prog w) A (call (.ref f) [.ref x, b]) (fun v s' => ∃ r, v = .bool r ∧ Q (.bool (!r)) s') E s) :
    wpAny (model prog w) A (Builtin.«object.__ne__» ⟨[.ref x, b], []⟩) (fun fin s' => ∃ v, fin = .done (.ret v) ∧ Q v s') E s := by
  unfold Builtin.«object.__ne__»
  repeat (first
    | with_reducible refine wpAny_cRoomFor hu ?_
    | (refine wpAny_bind (m := callSpecialIfBound? (.ref x) (Str.ofString "__eq__") [b]) (ifBound_K X I hs hf (wpAny_mono h (fun v s' hv => by
        obtain ⟨r, rfl, q⟩ := hv
        repeat (first | exact ⟨_, rfl, q⟩ | exact wpAny_pure ⟨_, rfl, q⟩ | (refine wpAny_bind (m := truthy (.bool _)) (wpAny_truthy_bool ?_)) | wp_step)) fun _ _ e => e)))
    | wp_step)
theorem try_ne {b : Value} {Q : Value → Shared → Prop} (hu : A.units + 1 < cLine) (X : K.In s.heap) (I : InstAt s.heap x ox C od) (hs : findIn K (.ref C) "__eq__" = some (some (.ref f))) (hf : isFn K (.ref f) = true)
    (hn : findIn K (.ref C) "__ne__" = some (some (.builtin "object.__ne__"))) (ho : subIn K (.ref C) (.type "object") = some true)
    (h : wpAny (model prog w) A.in1 (call (.ref f) [.ref x, b]) (fun v s' => ∃ r, v = .bool r ∧ Q (.bool (!r)) s') E s) :
    wpAny (model prog w) A (tryCompare (.ref x) "__ne__" b) (fun r s' => ∃ v, r = some v ∧ Q v s' ∧ ∃ z, v = .bool z) E s := by
  have L1 : Looks (model prog w) s.heap (typeOf (.ref x)) (.ref C) := I.type
  have c : wpAny (model prog w) A (call (.builtin "object.__ne__") [.ref x, b]) (fun v s' => Q v s' ∧ ∃ z, v = .bool z) E s := by
    refine wpAny_call (codeAny_call_builtin F.cmp_object.ne.plain F.cmpEntry_ne (check_slot F.cmpKind_ne F.cmpSplit_ne (L1.andThen (looks_subIn X ho)) (F.cmpArgs_ne _ _) ?_))
    refine wpAny_mono (run_ne (A := A.in1) (Q := fun v s' => Q v s' ∧ ∃ z, v = .bool z) hu X I hs hf (wpAny_mono h (fun v s' hv => ?_) fun _ _ e => e)) (fun fin s' hv => ?_) fun _ _ z => z
    · obtain ⟨r, rfl, q⟩ := hv
      exact ⟨r, rfl, q, _, rfl⟩
    · obtain ⟨v, rfl, q⟩ := hv
      exact q
  unfold tryCompare
  refine wpAny_bind ?_
  simp only [callSpecialIfBound?, bindSpecialIfBound?]
  refine wpAny_holding (wpAny_bind (wpAny_bind (wpAny_bind (I.type.here ((looks_findIn X hn).here ?_)))))
  have fin : wpAny (model prog w) A (call (.builtin "object.__ne__") ([.ref x] ++ [b]) >>= fun v => pure (some v)) (fun r s' => ∃ v, r = some v ∧ Q v s' ∧ ∃ z, v = .bool z) E s :=
    wpAny_bind (wpAny_mono c (fun v s' h' => wpAny_pure ⟨v, rfl, h'⟩) fun _ _ h' => h')
  have hb := F.cmp_object.ne.bind (.ref x)
  refine wpAny_bind (wpAny_askSetting (wpAny_ite ?_))
  have fin2 := wpAny_mono (Q' := fun r s' => wpAny (model prog w) A (match r with | some .notImplemented => pure none | none => pure none | some v => pure (some v)) (fun r s' => ∃ v, r = some v ∧ Q v s' ∧ ∃ z, v = .bool z) E s') fin (fun r s' h' => by
    obtain ⟨v, rfl, q, z, rfl⟩ := h'
    exact wpAny_pure ⟨_, rfl, q, _, rfl⟩) fun _ _ e => e
  split
  · rw [hb]
    exact wpAny_bind (wpAny_pure (wpAny_pure fin2))
  · rw [hb]
    exact wpAny_tryCatch (wpAny_bind (wpAny_pure (wpAny_pure fin2)))
end
end OW
set_option Elab.async false
set_option linter.all false
set_option maxRecDepth 100000
set_option maxHeartbeats 4000000
namespace OW
open PySem PySem.Spec PySem.W PySem.Calls PyProof.Rows
section
variable {prog : Program} {w : World} {A : Around} {E : Value → Shared → Prop} {s : Shared} {K : Frag} {x C L f g : Addr} {h₀ : Heap} {m : Str → Option Value} {ox : Obj} {od : Option Obj} {T idl : String}
theorem ne_left {b tb : Value} {Q : Value → Shared → Prop} (hu : A.units + 1 < cLine) (X : K.In s.heap) (I : InstAt s.heap x ox C od) (hb : Looks (model prog w) s.heap (typeOf b) tb) (hnf : notFirst K C tb = true)
    (hs : findIn K (.ref C) "__eq__" = some (some (.ref f))) (hf : isFn K (.ref f) = true) (hn : findIn K (.ref C) "__ne__" = some (some (.builtin "object.__ne__"))) (ho : subIn K (.ref C) (.type "object") = some true)
    (h : wpAny (model prog w) A.in1 (call (.ref f) [.ref x, b]) (fun v s' => ∃ r, v = .bool r ∧ Q (.bool (!r)) s') E s) : wpAny (model prog w) A (richCompare .NotEq (.ref x) b) Q E s := by
  have one := try_ne hu X I hs hf hn ho h
  unfold richCompare
  simp only [oneThing_ref]
  refine wpAny_holding (wpAny_bind (wpAny_cRoomFor (Nat.lt_of_succ_lt hu) ?_))
  refine wpAny_bind (I.type.here (wpAny_bind (hb.here ?_)))
  split
  · rename_i q
    have e : subIn K tb (.ref C) = some false := by
      rcases Bool.or_eq_true_iff.mp hnf with e | e
      · rw [beq_iff_eq.mp e] at q; simp at q
      · exact beq_iff_eq.mp e
    refine wpAny_bind ((looks_subIn X e).here ?_)
    simp only [Bool.false_eq_true, if_false]
    refine wpAny_bind (wpAny_mono one (fun r s' z => ?_) fun _ _ e => e)
    obtain ⟨v, rfl, hq, _⟩ := z
    exact wpAny_pure hq
  · refine wpAny_bind (wpAny_pure ?_)
    simp only [Bool.false_eq_true, if_false]
    refine wpAny_bind (wpAny_mono one (fun r s' z => ?_) fun _ _ e => e)
    obtain ⟨v, rfl, hq, _⟩ := z
    exact wpAny_pure hq
theorem eq_right {b : Value} {Q : Value → Shared → Prop} (hu : A.units < cLine) (X : K.In s.heap) (I : InstAt s.heap x ox C od) (hT : s.TypeIs b T) (hsub : subIn K (.ref C) (.type T) = some false) (hl : Slot T "__eq__" idl)
    (hd : ∀ Q' : Value → Shared → Prop, Q' .notImplemented s → wpAny (model prog w) A (call (.builtin idl) [b, .ref x]) Q' E s)
    (hs : findIn K (.ref C) "__eq__" = some (some (.ref f))) (hf : isFn K (.ref f) = true)
    (h : wpAny (model prog w) A (call (.ref f) [.ref x, b]) (PySem.W.CmpBack Q) E s) : wpAny (model prog w) A (richCompare .Eq b (.ref x)) Q E s := by
  have one := try_eq X I hs hf h
  have hne : (Value.type T != Value.ref C) = true := by simp
  unfold richCompare
  simp only [hT.oneThing_none]
  refine wpAny_holding (wpAny_bind (wpAny_cRoomFor hu ?_))
  refine wpAny_bind (wpAny_typeOf hT (wpAny_bind (I.type.here ?_)))
  simp only [hne, if_true]
  refine wpAny_bind ((looks_subIn X hsub).here ?_)
  simp only [Bool.false_eq_true, if_false, Bool.not_false, if_true]
  refine wpAny_bind (m := tryCompare b _ (.ref x)) (wpAny_tryCompare_declines hT hl (hd _ ⟨rfl, ?_⟩))
  refine wpAny_bind (m := tryCompare (.ref x) _ b) (wpAny_mono one (fun r s' z => ?_) fun _ _ e => e)
  obtain ⟨v, rfl, hq⟩ := z
  exact wpAny_pure hq
theorem ne_right {b : Value} {Q : Value → Shared → Prop} (hu : A.units + 1 < cLine) (X : K.In s.heap) (I : InstAt s.heap x ox C od) (hT : s.TypeIs b T) (hsub : subIn K (.ref C) (.type T) = some false) (hl : Slot T "__ne__" idl)
    (hd : ∀ Q' : Value → Shared → Prop, Q' .notImplemented s → wpAny (model prog w) A (call (.builtin idl) [b, .ref x]) Q' E s)
    (hs : findIn K (.ref C) "__eq__" = some (some (.ref f))) (hf : isFn K (.ref f) = true) (hn : findIn K (.ref C) "__ne__" = some (some (.builtin "object.__ne__"))) (ho : subIn K (.ref C) (.type "object") = some true)
    (h : wpAny (model prog w) A.in1 (call (.ref f) [.ref x, b]) (fun v s' => ∃ r, v = .bool r ∧ Q (.bool (!r)) s') E s) : wpAny (model prog w) A (richCompare .NotEq b (.ref x)) Q E s := by
  have one := try_ne hu X I hs hf hn ho h
  have hne : (Value.type T != Value.ref C) = true := by simp
  unfold richCompare
  simp only [hT.oneThing_none]
  refine wpAny_holding (wpAny_bind (wpAny_cRoomFor (Nat.lt_of_succ_lt hu) ?_))
  refine wpAny_bind (wpAny_typeOf hT (wpAny_bind (I.type.here ?_)))
  simp only [hne, if_true]
  refine wpAny_bind ((looks_subIn X hsub).here ?_)
  simp only [Bool.false_eq_true, if_false, Bool.not_false, if_true]
  refine wpAny_bind (m := tryCompare b _ (.ref x)) (wpAny_tryCompare_declines hT hl (hd _ ⟨rfl, ?_⟩))
  refine wpAny_bind (m := tryCompare (.ref x) _ b) (wpAny_mono one (fun r s' z => ?_) fun _ _ e => e)
  obtain ⟨v, rfl, hq, _⟩ := z
  exact wpAny_pure hq
end
/-! ### the built-in types decline -/
section
variable {C l dx : Addr}
theorem int_eq_no (b : Int) (u : Tok) : Meets (Builtin.«int.__eq__» ⟨[.int b u, .ref l], []⟩) (fun _ R s => s.heap.get? l = some (instObj C dx) ∧ R (.ok (.ret .notImplemented)) s) :=
  .of_wp fun prog w A R s h => by obtain ⟨hp, g, d, tk, os⟩ := s; obtain ⟨hl, h⟩ := h; wp_walk using wpAny_loadPart' hl, wpAny_load hl; exact ⟨_, rfl, h⟩
theorem int_ne_no (b : Int) (u : Tok) : Meets (Builtin.«int.__ne__» ⟨[.int b u, .ref l], []⟩) (fun _ R s => s.heap.get? l = some (instObj C dx) ∧ R (.ok (.ret .notImplemented)) s) :=
  .of_wp fun prog w A R s h => by obtain ⟨hp, g, d, tk, os⟩ := s; obtain ⟨hl, h⟩ := h; wp_walk using wpAny_loadPart' hl, wpAny_load hl; exact ⟨_, rfl, h⟩
theorem int_add_no (b : Int) (u : Tok) : Meets (Builtin.«int.__add__» ⟨[.int b u, .ref l], []⟩) (fun _ R s => s.heap.get? l = some (instObj C dx) ∧ R (.ok (.ret .notImplemented)) s) :=
  .of_wp fun prog w A R s h => by obtain ⟨hp, g, d, tk, os⟩ := s; obtain ⟨hl, h⟩ := h; wp_walk using wpAny_loadPart' hl, wpAny_load hl; exact ⟨_, rfl, h⟩
theorem int_sub_no (b : Int) (u : Tok) : Meets (Builtin.«int.__sub__» ⟨[.int b u, .ref l], []⟩) (fun _ R s => s.heap.get? l = some (instObj C dx) ∧ R (.ok (.ret .notImplemented)) s) :=
  .of_wp fun prog w A R s h => by obtain ⟨hp, g, d, tk, os⟩ := s; obtain ⟨hl, h⟩ := h; wp_walk using wpAny_loadPart' hl, wpAny_load hl; exact ⟨_, rfl, h⟩
theorem int_mul_no (b : Int) (u : Tok) : Meets (Builtin.«int.__mul__» ⟨[.int b u, .ref l], []⟩) (fun _ R s => s.heap.get? l = some (instObj C dx) ∧ R (.ok (.ret .notImplemented)) s) :=
  .of_wp fun prog w A R s h => by obtain ⟨hp, g, d, tk, os⟩ := s; obtain ⟨hl, h⟩ := h; wp_walk using wpAny_loadPart' hl, wpAny_load hl; exact ⟨_, rfl, h⟩
theorem bool_eq_no (b : Bool) : Meets (Builtin.«int.__eq__» ⟨[.bool b, .ref l], []⟩) (fun _ R s => s.heap.get? l = some (instObj C dx) ∧ R (.ok (.ret .notImplemented)) s) :=
  .of_wp fun prog w A R s h => by obtain ⟨hp, g, d, tk, os⟩ := s; obtain ⟨hl, h⟩ := h; wp_walk using wpAny_loadPart' hl, wpAny_load hl; exact ⟨_, rfl, h⟩
theorem str_eq_no (b : Str) (u : Tok) : Meets (Builtin.«str.__eq__» ⟨[.str b u, .ref l], []⟩) (fun _ R s => s.heap.get? l = some (instObj C dx) ∧ R (.ok (.ret .notImplemented)) s) :=
  .of_wp fun prog w A R s h => by obtain ⟨hp, g, d, tk, os⟩ := s; obtain ⟨hl, h⟩ := h; wp_walk using wpAny_loadPart' hl, wpAny_load hl; exact ⟨_, rfl, h⟩
end
end OW
set_option Elab.async false
set_option linter.all false
set_option maxRecDepth 100000
set_option maxHeartbeats 4000000
namespace OW
open PySem PySem.Spec PySem.W PySem.Calls PyProof.Rows
open AutoSeq1 (wpAny_loadPart')
section
variable {C x l dx : Addr} {K : Frag} {od : Option Obj}
theorem list_eq_no (hs : subIn K (.ref C) (.type "list") = some false) (items : Array Value) (n : Nat) (dd : Option Addr) (sl : Array (Option Value)) : Meets (Builtin.«list.__eq__» ⟨[.ref l, .ref x], []⟩)
    (fun _ R s => s.heap.get? l = some { cls := .type "list", dict := dd, data := .seq items n, slots := sl } ∧ K.In s.heap ∧ s.heap.get? x = some (instObj C dx) ∧ R (.ok (.ret .notImplemented)) s) :=
  .of_wp fun prog w A R s h => by
    obtain ⟨hl, X, hx, h⟩ := h
    have L : Looks (model prog w) s.heap (isSubtype (.ref C) (.type "list")) false := looks_subIn X hs
    obtain ⟨hp, g, d, tk, os⟩ := s
    wp_walk using wpAny_loadPart' hl, wpAny_loadPart' hx, L.here
    exact ⟨_, rfl, h⟩
theorem tuple_eq_no (hs : subIn K (.ref C) (.type "tuple") = some false) (items : Array Value) (n : Nat) (dd : Option Addr) (sl : Array (Option Value)) : Meets (Builtin.«tuple.__eq__» ⟨[.ref l, .ref x], []⟩)
    (fun _ R s => s.heap.get? l = some { cls := .type "tuple", dict := dd, data := .seq items n, slots := sl } ∧ K.In s.heap ∧ s.heap.get? x = some (instObj C dx) ∧ R (.ok (.ret .notImplemented)) s) :=
  .of_wp fun prog w A R s h => by
    obtain ⟨hl, X, hx, h⟩ := h
    have L : Looks (model prog w) s.heap (isSubtype (.ref C) (.type "tuple")) false := looks_subIn X hs
    obtain ⟨hp, g, d, tk, os⟩ := s
    wp_walk using wpAny_loadPart' hl, wpAny_loadPart' hx, L.here
    exact ⟨_, rfl, h⟩
end
section
variable {prog : Program} {w : World} {A : Around} {E : Value → Shared → Prop} {s : Shared} {K : Frag} {x C a : Addr} {ox : Obj} {od : Option Obj}
theorem dict_eq_no {Q : Value → Shared → Prop} (hT : s.TypeIs (.ref a) "dict") (X : K.In s.heap) (I : InstAt s.heap x ox C od) (hs : subIn K (.ref C) (.type "dict") = some false) (h : Q .notImplemented s) :
    wpAny (model prog w) A (call (.builtin "dict.__eq__") [.ref a, .ref x]) Q E s := by
  have L1 : Looks (model prog w) s.heap (typeOf (.ref x)) (.ref C) := I.type
  have L : Looks (model prog w) s.heap (isInstance (.ref x) (.type "dict")) false := L1.andThen (looks_subIn X hs)
  refine wpAny_call_entry PySem.F.slot_dict_eq hT PySem.F.entry_dict_eq ?_ (PySem.F.args_dict_eq_2 _ _)
  show wpAny _ _ (Builtin.Dict.dictSlotArgs "__eq__" ⟨[.ref a, .ref x], []⟩ >>= _) _ _ s
  refine wpAny_bind ?_
  unfold Builtin.Dict.dictSlotArgs
  refine wpAny_bind (wpAny_notOrdered_dict hT ?_)
  show wpAny _ _ (pure (Value.ref a, Value.ref x)) _ _ s
  refine wpAny_pure ?_
  refine wpAny_bind (L.here ?_)
  wp_walk
  exact ⟨_, rfl, h⟩
end
end OW
set_option Elab.async false
set_option linter.all false
set_option maxRecDepth 100000
set_option maxHeartbeats 4000000
namespace L2
open PySem PySem.Spec PyProof.Rows PySem.Calls
theorem rRef (a : Addr) : RelV (.ref a) (.ref a) := rfl
theorem rInt (i : Int) (t : Tok) : RelV (.int i) (.int i t) := ⟨t, rfl⟩
/-- the class at C has this name as the def at f -/
structure Dun (K : PySem.W.Frag) (C : Addr) (nm : Str) (f : Addr) : Prop where
  at_ : PySem.W.findIn K (.ref C) nm = some (some (.ref f))
  fn : PySem.W.isFn K (.ref f) = true
section
variable {X : Cx} {CX : CXT} {k : Nat} {f C C' a : Addr} {fd : FuncData} {ps : List Str} {sp : Sp} {E : XK} {pins : List (Addr × Obj)} {σ : St} {H : Hp} {s : Shared} {Q : VK}
theorem run_sub {A : Around} {us : List Value} {vs : List V} (sb : Sub X k A) (F : FnOk X.prog X.w X.K X.mg X.base CX k f fd ps sp) (hb : Binds X.K fd ps []) (hx : Passes CX X E)
    (I : Inv X pins σ H s) (r : Vals vs us) (h : sp vs H Q E) : wpAny (model X.prog X.w) A (call (.ref f) us) (EP X pins σ Q) X.xe s := by
  have e0 : Env0 X.prog X.w X.K X.mg X.base A X.stack s H := by
    have e := I.env0
    exact ⟨by rw [sb.fr]; exact e.frames, e.mod, e.bs, e.bsz, e.funs, e.frf, e.hok, e.bare⟩
  have hl := F.len _ _ _ _ h
  refine wpAny_call (codeAny_mono (F.run A X.stack s H ⟨us, []⟩ us vs Q E sb.room e0 (by
    have := hb s us I.kIn (by rw [List.append_nil, ← r.length]; exact hl)
    rw [List.append_nil] at this
    exact this) r h) fun r s' hq => ?_)
  cases r with
  | error e => exact hx pins σ H s e s' I hq
  | ok fl =>
    cases fl with
    | ret w =>
      obtain ⟨z, H', I', rz, q⟩ := I.after hq
      exact ⟨z, H', I', rz, q⟩
    | next => exact False.elim hq
    | brk => exact False.elim hq
    | cont => exact False.elim hq
theorem back_rel {v : V} {u : Value} {s' : Shared} {R : Value → Shared → Prop} (r : RelV v u) (q : R u s') : PySem.W.CmpBack R u s' := by
  cases u
  case notImplemented =>
    cases v with
    | non => exact nomatch (show Value.notImplemented = Value.none from r)
    | bl b => exact nomatch (show Value.notImplemented = Value.bool b from r)
    | int i => obtain ⟨t, e⟩ := (show ∃ t, Value.notImplemented = Value.int i t from r); exact nomatch e
    | str x => obtain ⟨t, e⟩ := (show ∃ t, Value.notImplemented = Value.str x t from r); exact nomatch e
    | byt b => obtain ⟨t, e⟩ := (show ∃ t, Value.notImplemented = Value.bytes b t from r); exact nomatch e
    | flt b => obtain ⟨t, e⟩ := (show ∃ t, Value.notImplemented = Value.float b t from r); exact nomatch e
    | ref a => exact nomatch (show Value.notImplemented = Value.ref a from r)
    | ty n => exact nomatch (show Value.notImplemented = Value.type n from r)
  all_goals exact q
theorem ins_at {dx : Addr} {fs : List (Str × V)} (I : Inv X pins σ H s) (e : H a = some (.ins C dx fs)) : ∃ od, PySem.W.InstAt s.heap a (PySem.W.instObj C dx) C (some od) ∧ s.heap.get? a = some (PySem.W.instObj C dx) := by
  obtain ⟨mA, O, _⟩ := ins_get I.hok e
  obtain ⟨od, J, _⟩ := O.look
  exact ⟨od, J, O.obj⟩
/-- x op y, x an instance whose class has the method, y one of the same class -/
def rOw2 (C : Addr) (sp : Sp) (E : XK) : R2 := fun x y H Q => ∃ a b dx dy fs gs, x = .ref a ∧ y = .ref b ∧ H a = some (.ins C dx fs) ∧ H b = some (.ins C dy gs) ∧ sp [.ref a, .ref b] H Q E
theorem op_own2 {op : Operator} (D : Dun X.K C (PySem.dunder op.info.2) f) (hc : PySem.W.selfFirst X.K C = true) (F : FnOk X.prog X.w X.K X.mg X.base CX k f fd ps sp) (hr : Room k X.A) (hb : Binds X.K fd ps []) (hx : Passes CX X E) :
    OpR X (binaryOp op) (rOw2 C sp E) := by
  intro pins s σ H x y v u Q I rx ry ⟨a, b, dx, dy, fs, gs, ex, ey, ea, eb, h⟩
  subst ex ey
  cases (show v = .ref a from rx)
  cases (show u = .ref b from ry)
  obtain ⟨od, J, _⟩ := ins_at I ea
  obtain ⟨od', J', _⟩ := ins_at I eb
  obtain ⟨m, hF⟩ := I.fr
  exact PySem.W.binop_K hF I.ok.mod.kin J J'.type hc D.at_ D.fn (wpAny_mono (run_sub ⟨hr, rfl⟩ F hb hx I (.cons (rRef a) (.cons (rRef b) .nil)) h) (fun w' s' ⟨z, H', I', rz, q⟩ => back_rel rz ⟨z, H', I', rz, q⟩) fun _ _ e => e)
/-- x op y, y an integer -/
def rOwI (C : Addr) (sp : Sp) (E : XK) : R2 := fun x y H Q => ∃ a i dx fs, x = .ref a ∧ y = .int i ∧ H a = some (.ins C dx fs) ∧ sp [.ref a, .int i] H Q E
theorem op_ownI {op : Operator} {fo ro rc : Option Value} (D : Dun X.K C (PySem.dunder op.info.2) f) (hc : PySem.W.selfFirst X.K C = true) (hR : PySem.W.findIn X.K (.ref C) (dunderR op.info.2) = some rc) (hp : rc = none ∨ ∃ g : Addr, rc = some (.ref g))
    (h1 : PySem.W.findIn X.K (.type "int") (PySem.dunder op.info.2) = some fo) (h2 : PySem.W.findIn X.K (.type "int") (dunderR op.info.2) = some ro) (hs : PySem.W.subIn X.K (.type "int") (.ref C) = some false)
    (F : FnOk X.prog X.w X.K X.mg X.base CX k f fd ps sp) (hr : Room k X.A) (hb : Binds X.K fd ps []) (hx : Passes CX X E) : OpR X (binaryOp op) (rOwI C sp E) := by
  intro pins s σ H x y v u Q I rx ry ⟨a, i, dx, fs, ex, ey, ea, h⟩
  subst ex ey
  cases (show v = .ref a from rx)
  obtain ⟨t, rfl⟩ := (show ∃ t, u = Value.int i t from ry)
  obtain ⟨od, J, _⟩ := ins_at I ea
  obtain ⟨m, hF⟩ := I.fr
  exact PySem.W.ksp_binT hF I.ok.mod.kin J rfl hc D.at_ D.fn hR hp h1 h2 hs (wpAny_mono (run_sub ⟨hr, rfl⟩ F hb hx I (.cons (rRef a) (.cons (rInt i t) .nil)) h) (fun w' s' ⟨z, H', I', rz, q⟩ => back_rel rz ⟨z, H', I', rz, q⟩) fun _ _ e => e)
/-- i op x, i an integer: the reflected method -/
def rIOw (C : Addr) (sp : Sp) (E : XK) : R2 := fun x y H Q => ∃ a i dx fs, x = .int i ∧ y = .ref a ∧ H a = some (.ins C dx fs) ∧ sp [.ref a, .int i] H Q E
theorem op_Iown {op : Operator} {g : Addr} {idl : String} {B : Builtin} (D0 : Dun X.K C (PySem.dunder op.info.2) g) (D : Dun X.K C (dunderR op.info.2) f) (hc : PySem.W.selfFirst X.K C = true)
    (hfT : fillsNumberSlot (.type "int") op.info.2 = pure true) (hl : Slot "int" (PySem.dunder op.info.2) idl) (en : entryFor table idl = some B) (ar : ∀ x y, argsOk idl ⟨[x, y], []⟩)
    (no : ∀ (i : Int) (t : Tok) (l dx : Addr), Meets (B ⟨[.int i t, .ref l], []⟩) (fun _ R s => s.heap.get? l = some (PySem.W.instObj C dx) ∧ R (.ok (.ret .notImplemented)) s)) (hs : PySem.W.subIn X.K (.ref C) (.type "int") = some false)
    (F : FnOk X.prog X.w X.K X.mg X.base CX k f fd ps sp) (hr : Room k X.A) (hb : Binds X.K fd ps []) (hx : Passes CX X E) : OpR X (binaryOp op) (rIOw C sp E) := by
  intro pins s σ H x y v u Q I rx ry ⟨a, i, dx, fs, ex, ey, ea, h⟩
  subst ex ey
  cases (show u = .ref a from ry)
  obtain ⟨t, rfl⟩ := (show ∃ t, v = Value.int i t from rx)
  obtain ⟨od, J, O⟩ := ins_at I ea
  refine OW.binop_right I.kIn J rfl (typeIs_int s i t) hc D0.at_ D.at_ D.fn hfT hs hl (fun Q' q' => call_meets hl (typeIs_int s i t) en (ar _ _) (no i t a dx) ⟨O, q'⟩) ?_
  exact wpAny_mono (run_sub ⟨hr, rfl⟩ F hb hx I (.cons (rRef a) (.cons (rInt i t) .nil)) h) (fun w' s' ⟨z, H', I', rz, q⟩ => back_rel rz ⟨z, H', I', rz, q⟩) fun _ _ e => e
/-- -x -/
def rNeg (C : Addr) (sp : Sp) (E : XK) : V → Hp → VK → Prop := fun x H Q => ∃ a dx fs, x = .ref a ∧ H a = some (.ins C dx fs) ∧ sp [.ref a] H Q E
theorem un_own (D : Dun X.K C "__neg__" f) (F : FnOk X.prog X.w X.K X.mg X.base CX k f fd ps sp) (hr : Room k X.A) (hb : Binds X.K fd ps []) (hx : Passes CX X E) : UnR X (unaryOp .USub) (rNeg C sp E) := by
  intro pins s σ H x v Q I rx ⟨a, dx, fs, ex, ea, h⟩
  subst ex
  cases (show v = .ref a from rx)
  obtain ⟨od, J, _⟩ := ins_at I ea
  obtain ⟨m, hF⟩ := I.fr
  exact PySem.W.ksp_neg hF I.ok.mod.kin J D.at_ D.fn (run_sub ⟨hr, rfl⟩ F hb hx I (.cons (rRef a) .nil) h)
/-- abs(x) -/
def rAbs (C : Addr) (sp : Sp) (E : XK) : List V → Hp → VK → Prop := fun xs H Q => ∃ a dx fs, xs = [.ref a] ∧ H a = some (.ins C dx fs) ∧ sp [.ref a] H Q E
theorem call_absOwn (D : Dun X.K C "__abs__" f) (F : FnOk X.prog X.w X.K X.mg X.base CX k f fd ps sp) (hr : Room (k + 1) X.A) (hb : Binds X.K fd ps []) (hx : Passes CX X E) : CallR X (.builtin "abs") (rAbs C sp E) := by
  intro pins s σ H xs us Q I r ⟨a, dx, fs, ex, ea, h⟩
  subst ex
  obtain ⟨u, rfl, ru⟩ := vals1 r
  cases (show u = .ref a from ru)
  obtain ⟨od, J, _⟩ := ins_at I ea
  refine call_function_entry kind_abs plain_abs entry_abs (args_abs _) ?_
  unfold Builtin.«abs»
  refine wpAny_bind (m := oneArg "abs" _) (wpAny_pure ?_)
  refine wpAny_bind (m := callSpecial? (.ref a) (Str.ofString "__abs__")) (PySem.W.special_fn I.kIn J D.at_ (beq_iff_eq.mp D.fn) (wpAny_mono (run_sub ⟨hr.in1, rfl⟩ F hb hx I (.cons (rRef a) .nil) h) (fun w' s' z => ?_) fun _ _ e => e))
  exact wpAny_pure ⟨_, rfl, z⟩
/-- str(x) -/
def rStr (C : Addr) (sp : Sp) (E : XK) : List V → Hp → VK → Prop := fun xs H Q => ∃ a dx fs, xs = [.ref a] ∧ H a = some (.ins C dx fs) ∧ sp [.ref a] H (fun z H' => (∃ t, z = .str t) ∧ Q z H') E
theorem call_strOwn (D : Dun X.K C "__str__" f) (F : FnOk X.prog X.w X.K X.mg X.base CX k f fd ps sp) (hr : Room (k + 2) X.A) (hb : Binds X.K fd ps []) (hx : Passes CX X E) : CallR X (.type "str") (rStr C sp E) := by
  intro pins s σ H xs us Q I r ⟨a, dx, fs, ex, ea, h⟩
  subst ex
  obtain ⟨u, rfl, ru⟩ := vals1 r
  cases (show u = .ref a from ru)
  obtain ⟨od, J, _⟩ := ins_at I ea
  refine PySem.W.kso_call hr.in1.in1.units0 I.kIn J D.at_ D.fn (wpAny_mono (run_sub ⟨hr.in1.in1, rfl⟩ F hb hx I (.cons (rRef a) .nil) h) (fun w' s' ⟨z, H', I', rz, ⟨t, ez⟩, q⟩ => ?_) fun _ _ e => e)
  subst ez
  obtain ⟨tk, rfl⟩ := (show ∃ tk, w' = Value.str t tk from rz)
  exact ⟨_, H', I', rz, q⟩
end
end L2
set_option Elab.async false
set_option linter.all false
set_option maxRecDepth 100000
set_option maxHeartbeats 4000000
namespace L2
open PySem PySem.Spec PyProof.Rows PySem.Calls
section
variable {X : Cx} {CX : CXT} {k : Nat} {f C a : Addr} {fd : FuncData} {ps : List Str} {sp : Sp} {E : XK} {pins : List (Addr × Obj)} {σ : St} {H : Hp} {s : Shared} {Q : VK}
/-- x == y, x an instance whose class has __eq__ -/
def rEqL (K : PySem.W.Frag) (C : Addr) (sp : Sp) (E : XK) : R2 := fun x y H Q => ∃ a dx fs t, x = .ref a ∧ H a = some (.ins C dx fs) ∧ TyX K H y t ∧ PySem.W.notFirst K C t = true ∧ sp [.ref a, y] H Q E
theorem op_eqL (D : Dun X.K C "__eq__" f) (F : FnOk X.prog X.w X.K X.mg X.base CX k f fd ps sp) (hr : Room k X.A) (hb : Binds X.K fd ps []) (hx : Passes CX X E) : OpR X (compareOp .Eq) (rEqL X.K C sp E) := by
  intro pins s σ H x y v u Q I rx ry ⟨a, dx, fs, t, ex, ea, ty, hn, h⟩
  subst ex
  cases (show v = .ref a from rx)
  obtain ⟨od, J, _⟩ := ins_at I ea
  obtain ⟨m, hF⟩ := I.fr
  obtain ⟨P, Z, p, _⟩ := kit_of I ry ty
  exact PySem.W.cmp_K (op := .Eq) (tb := t) hr.units0 hF I.ok.mod.kin J (Z.ty _ _ I.kIn p) hn D.at_ D.fn (wpAny_mono (run_sub ⟨hr, rfl⟩ F hb hx I (.cons (rRef a) (.cons ry .nil)) h) (fun w' s' ⟨z, H', I', rz, q⟩ => back_rel rz ⟨z, H', I', rz, q⟩) fun _ _ e => e)
/-- x != y, by the class's __eq__ -/
def rNeL (K : PySem.W.Frag) (C : Addr) (sp : Sp) (E : XK) : R2 := fun x y H Q => ∃ a dx fs t, x = .ref a ∧ H a = some (.ins C dx fs) ∧ TyX K H y t ∧ PySem.W.notFirst K C t = true ∧ sp [.ref a, y] H (fun z H' => ∃ r, z = .bl r ∧ Q (.bl (!r)) H') E
structure NeOf (K : PySem.W.Frag) (C : Addr) : Prop where
  ne : PySem.W.findIn K (.ref C) "__ne__" = some (some (.builtin "object.__ne__"))
  ob : PySem.W.subIn K (.ref C) (.type "object") = some true
theorem op_neL (D : Dun X.K C "__eq__" f) (N : NeOf X.K C) (F : FnOk X.prog X.w X.K X.mg X.base CX k f fd ps sp) (hr : Room (k + 1) X.A) (hb : Binds X.K fd ps []) (hx : Passes CX X E) : OpR X (compareOp .NotEq) (rNeL X.K C sp E) := by
  intro pins s σ H x y v u Q I rx ry ⟨a, dx, fs, t, ex, ea, ty, hn, h⟩
  subst ex
  cases (show v = .ref a from rx)
  obtain ⟨od, J, _⟩ := ins_at I ea
  obtain ⟨P, Z, p, _⟩ := kit_of I ry ty
  refine OW.ne_left (by have := hr.un; omega) I.kIn J (Z.ty _ _ I.kIn p) hn D.at_ D.fn N.ne N.ob (wpAny_mono (run_sub ⟨hr.in1, rfl⟩ F hb hx I (.cons (rRef a) (.cons ry .nil)) h) (fun w' s' ⟨z, H', I', rz, r, ez, q⟩ => ?_) fun _ _ e => e)
  subst ez
  cases (show w' = .bool r from rz)
  exact ⟨r, rfl, .bl (!r), H', I', rfl, q⟩
/-- a value of a built-in type, which declines when it is compared with an instance -/
inductive Odd (K : PySem.W.Frag) (H : Hp) : V → String → Prop where
  | non : Odd K H .non "NoneType"
  | bl (b : Bool) : Odd K H (.bl b) "bool"
  | int (i : Int) : Odd K H (.int i) "int"
  | str (x : Str) : Odd K H (.str x) "str"
  | lst {a : Addr} {xs : List V} (e : H a = some (.lst xs)) : Odd K H (.ref a) "list"
  | tup {a : Addr} {xs : List V} (e : H a = some (.tup xs)) : Odd K H (.ref a) "tuple"
  | dK {a : Addr} {kvs : List (Key × V)} (e : H a = some (.dK kvs)) : Odd K H (.ref a) "dict"
theorem Odd.ty {K : PySem.W.Frag} {x : V} {T : String} (o : Odd K H x T) : TyX K H x (.type T) := by
  cases o with
  | non => exact .base .non
  | bl b => exact .base (.bl b)
  | int i => exact .base (.int i)
  | str y => exact .base (.str y)
  | lst e => exact .base (.lst e)
  | tup e => exact .base (.tup e)
  | dK e => exact .base (.dK e)
/-- y == x, y such a value -/
def rEqR (K : PySem.W.Frag) (C : Addr) (sp : Sp) (E : XK) : R2 := fun x y H Q => ∃ a dx fs T, y = .ref a ∧ H a = some (.ins C dx fs) ∧ Odd K H x T ∧ PySem.W.subIn K (.ref C) (.type T) = some false ∧ sp [.ref a, x] H Q E
theorem op_eqR (D : Dun X.K C "__eq__" f) (F : FnOk X.prog X.w X.K X.mg X.base CX k f fd ps sp) (hr : Room k X.A) (hb : Binds X.K fd ps []) (hx : Passes CX X E) : OpR X (compareOp .Eq) (rEqR X.K C sp E) := by
  intro pins s σ H x y v u Q I rx ry ⟨a, dx, fs, T, ey, ea, od', hs, h⟩
  subst ey
  cases (show u = .ref a from ry)
  obtain ⟨od, J, O⟩ := ins_at I ea
  have fin : wpAny (model X.prog X.w) X.A (call (.ref f) [.ref a, v]) (PySem.W.CmpBack (EP X pins σ Q)) X.xe s :=
    wpAny_mono (run_sub ⟨hr, rfl⟩ F hb hx I (.cons (rRef a) (.cons rx .nil)) h) (fun w' s' ⟨z, H', I', rz, q⟩ => back_rel rz ⟨z, H', I', rz, q⟩) fun _ _ e => e
  show wpAny (model X.prog X.w) X.A (richCompare .Eq v (.ref a)) (EP X pins σ Q) X.xe s
  cases od' with
  | non =>
    cases (show v = .none from rx)
    exact OW.eq_right hr.units0 I.kIn J rfl hs PySem.F.slot_NoneType_eq (fun Q' q' => call_gives PySem.F.slot_NoneType_eq rfl PySem.F.entry_NoneType_eq (PySem.F.args_NoneType_eq_2 _ _) (PySem.SeqAt.NoneType___eq___none_ref_0 a) q') D.at_ D.fn fin
  | bl b =>
    cases (show v = .bool b from rx)
    exact OW.eq_right hr.units0 I.kIn J rfl hs PySem.F.slot_bool_eq (fun Q' q' => call_meets PySem.F.slot_bool_eq rfl PySem.F.entry_int_eq (PySem.F.args_int_eq_2 _ _) (OW.bool_eq_no (C := C) (dx := dx) b) ⟨O, q'⟩) D.at_ D.fn fin
  | int i =>
    obtain ⟨t, rfl⟩ := (show ∃ t, v = Value.int i t from rx)
    exact OW.eq_right hr.units0 I.kIn J (typeIs_int s i t) hs PySem.F.slot_int_eq (fun Q' q' => call_meets PySem.F.slot_int_eq (typeIs_int s i t) PySem.F.entry_int_eq (PySem.F.args_int_eq_2 _ _) (OW.int_eq_no (C := C) (dx := dx) i t) ⟨O, q'⟩) D.at_ D.fn fin
  | str z =>
    obtain ⟨t, rfl⟩ := (show ∃ t, v = Value.str z t from rx)
    exact OW.eq_right hr.units0 I.kIn J (typeIs_str s z t) hs PySem.F.slot_str_eq (fun Q' q' => call_meets PySem.F.slot_str_eq (typeIs_str s z t) PySem.F.entry_str_eq (PySem.F.args_str_eq_2 _ _) (OW.str_eq_no (C := C) (dx := dx) z t) ⟨O, q'⟩) D.at_ D.fn fin
  | @lst l xs e =>
    cases (show v = .ref l from rx)
    obtain ⟨z, its, n, r, e1⟩ := I.hok l _ e
    exact OW.eq_right hr.units0 I.kIn J ⟨_, e1, rfl⟩ hs PySem.F.slot_list_eq (fun Q' q' => call_meets PySem.F.slot_list_eq ⟨_, e1, rfl⟩ PySem.F.entry_list_eq (PySem.F.args_list_eq_2 _ _) (OW.list_eq_no hs _ _ _ _) ⟨e1, I.kIn, O, q'⟩) D.at_ D.fn fin
  | @tup l xs e =>
    cases (show v = .ref l from rx)
    obtain ⟨_, its, _, o, h1, h2, n, h3⟩ := (show ObjOk X.prog X.w H s.heap l (.tup xs) from I.hok l _ e)
    obtain ⟨cls, dd, data, sl⟩ := o
    simp only at h2 h3
    subst h2 h3
    exact OW.eq_right hr.units0 I.kIn J ⟨_, h1, rfl⟩ hs PySem.F.slot_tuple_eq (fun Q' q' => call_meets PySem.F.slot_tuple_eq ⟨_, h1, rfl⟩ PySem.F.entry_tuple_eq (PySem.F.args_tuple_eq_2 _ _) (OW.tuple_eq_no hs _ _ _ _) ⟨h1, I.kIn, O, q'⟩) D.at_ D.fn fin
  | @dK l kvs e =>
    cases (show v = .ref l from rx)
    obtain ⟨_, _, vs, _, o, es, ep, h1, h2, _⟩ := (show ObjOk X.prog X.w H s.heap l (.dK kvs) from I.hok l _ e)
    have hT : s.TypeIs (.ref l) "dict" := ⟨_, h1, h2.1⟩
    exact OW.eq_right hr.units0 I.kIn J hT hs PySem.F.slot_dict_eq (fun Q' q' => OW.dict_eq_no hT I.kIn J hs q') D.at_ D.fn fin
/-- i != x, i an integer -/
def rNeR (C : Addr) (sp : Sp) (E : XK) : R2 := fun x y H Q => ∃ a dx fs i, y = .ref a ∧ H a = some (.ins C dx fs) ∧ x = .int i ∧ sp [.ref a, .int i] H (fun z H' => ∃ r, z = .bl r ∧ Q (.bl (!r)) H') E
theorem op_neR (D : Dun X.K C "__eq__" f) (N : NeOf X.K C) (hs : PySem.W.subIn X.K (.ref C) (.type "int") = some false) (F : FnOk X.prog X.w X.K X.mg X.base CX k f fd ps sp) (hr : Room (k + 1) X.A) (hb : Binds X.K fd ps []) (hx : Passes CX X E) :
    OpR X (compareOp .NotEq) (rNeR C sp E) := by
  intro pins s σ H x y v u Q I rx ry ⟨a, dx, fs, i, ey, ea, ex, h⟩
  subst ex ey
  cases (show u = .ref a from ry)
  obtain ⟨t, rfl⟩ := (show ∃ t, v = Value.int i t from rx)
  obtain ⟨od, J, O⟩ := ins_at I ea
  refine OW.ne_right (by have := hr.un; omega) I.kIn J (typeIs_int s i t) hs PySem.F.slot_int_ne (fun Q' q' => call_meets PySem.F.slot_int_ne (typeIs_int s i t) PySem.F.entry_int_ne (PySem.F.args_int_ne_2 _ _) (OW.int_ne_no (C := C) (dx := dx) i t) ⟨O, q'⟩) D.at_ D.fn N.ne N.ob
    (wpAny_mono (run_sub ⟨hr.in1, rfl⟩ F hb hx I (.cons (rRef a) (.cons (rInt i t) .nil)) h) (fun w' s' ⟨z, H', I', rz, r, ez, q⟩ => ?_) fun _ _ e => e)
  subst ez
  cases (show w' = .bool r from rz)
  exact ⟨r, rfl, .bl (!r), H', I', rfl, q⟩
theorem op_neLK {K : PySem.W.Frag} (hK : X.K = K) (D : Dun K C "__eq__" f) (N : NeOf K C) (F : FnOk X.prog X.w K X.mg X.base CX k f fd ps sp) (hr : Room (k + 1) X.A) (hb : Binds K fd ps []) (hx : Passes CX X E) : OpR X (compareOp .NotEq) (rNeL K C sp E) := by
  subst hK
  exact op_neL D N F hr hb hx
theorem op_eqLK {K : PySem.W.Frag} (hK : X.K = K) (D : Dun K C "__eq__" f) (F : FnOk X.prog X.w K X.mg X.base CX k f fd ps sp) (hr : Room k X.A) (hb : Binds K fd ps []) (hx : Passes CX X E) : OpR X (compareOp .Eq) (rEqL K C sp E) := by
  subst hK
  exact op_eqL D F hr hb hx
theorem op_eqRK {K : PySem.W.Frag} (hK : X.K = K) (D : Dun K C "__eq__" f) (F : FnOk X.prog X.w K X.mg X.base CX k f fd ps sp) (hr : Room k X.A) (hb : Binds K fd ps []) (hx : Passes CX X E) : OpR X (compareOp .Eq) (rEqR K C sp E) := by
  subst hK
  exact op_eqR D F hr hb hx
end
end L2
set_option Elab.async false
set_option linter.all false
set_option maxRecDepth 100000
set_option maxHeartbeats 4000000
/-! Fractions: what the class does -/
namespace FR
open PySem PySem.Spec PyProof.Rows L2
def top (i : Nat) : Stmt := PySem.Challenge.pw_surelyends_k04_rows_times_mixes_cleared.main.body.getD i (.Pass ⟨0, 0, 0, 0⟩)
abbrev sPlain : Stmt := top 11
abbrev sFrac : Stmt := top 14
abbrev sInit : Stmt := inClass sFrac 0
abbrev sTop : Stmt := inClass sFrac 1
abbrev sBot : Stmt := inClass sFrac 2
abbrev sAs : Stmt := top 16
/-! ### the mathematics of the least form -/
/-- what both are divided by -/
def dv (t b : Int) : Int := if b < 0 then -((Nat.gcd t.natAbs b.natAbs : Nat) : Int) else ((Nat.gcd t.natAbs b.natAbs : Nat) : Int)
def nT (t b : Int) : Int := t.fdiv (dv t b)
def nB (t b : Int) : Int := b.fdiv (dv t b)
theorem dv_ne {t b : Int} (h : b ≠ 0) : dv t b ≠ 0 := by
  have z : 0 < Nat.gcd t.natAbs b.natAbs := Nat.gcd_pos_of_pos_right _ (by omega)
  unfold dv
  split <;> omega
theorem dv_le {t b : Int} (h : b ≠ 0) : (dv t b).natAbs ≤ b.natAbs := by
  have z : Nat.gcd t.natAbs b.natAbs ≤ b.natAbs := Nat.gcd_le_right _ (by omega)
  unfold dv
  split <;> omega
/-! ### divisions by great numbers of both signs -/
def CDivX (_ j : Int) : Prop := j ≠ 0 ∧ j.natAbs.log2 < 9000
theorem op_fdivX {X : Cx} : OpR X (binaryOp .FloorDiv) (rI CDivX fun i j => .int (i.fdiv j)) := opI fun i j _ _ _ _ _ hc q => floordiv_int hc.1 q (.inl (PyProof.noPylong_of_log2 hc.2))
theorem dv8 {t b : Int} (h : b ≠ 0) (hb : b.natAbs < 2 ^ 8000) : (dv t b).natAbs < 2 ^ 8000 := Nat.lt_of_le_of_lt (dv_le h) hb
theorem div_ok {i j : Int} {n : Nat} (h : j ≠ 0) (hb : j.natAbs < 2 ^ n) (h0 : 0 < n) (h9 : n ≤ 9000) : CDivX i j := ⟨h, Nat.lt_of_lt_of_le (PySem.Flt.log2_lt_of h0 hb) h9⟩
/-! ### what is an integer -/
def spPlain (K : PySem.W.Frag) : Sp := fun vs H Q _ => ∃ (v : V) (t : Value) (b1 b2 : Bool), vs = [v] ∧ TyX K H v t ∧ PySem.W.kitOne K t (.type "int") = some b1 ∧ PySem.W.kitOne K t (.type "bool") = some b2 ∧ Q (.bl (b1 && !b2)) H
section
variable {P : Program} {w : World} {K : PySem.W.Frag} {mg : Str → Option Value} {base : Heap}
theorem scP : FnScope ["value"] ["value"] (defScope sPlain) := ⟨rfl, rfl, rfl, by decide +kernel, rfl, by decide +kernel, by decide +kernel⟩
theorem ok_plain {f : Addr} {fd : FuncData} (F : Fun K "is_plain_integer" "is_plain_integer" sPlain f fd) (m1 : mg "isinstance" = none) (m2 : mg "int" = none) (m3 : mg "bool" = none) : FnOk P w K mg base CX0 1 f fd ["value"] (spPlain K) := by
  refine F.ok scP (fun vs H Q E h => ?_) (fun cdv A outer s H vs Q E hr h => ?_)
  · obtain ⟨v, _, _, _, rfl, _⟩ := h
    rfl
  · obtain ⟨v, t, b1, b2, rfl, ht, h1, h2, k⟩ := h
    refine ⟨_, pss_one (ps_ret (pe_and (pe_callB call_isi (by rfl) m1 PyProof.Rows.boot_isinstance (pa_cons (pv 0) (pa_cons (pe_bltn (v := .ty "int") (by rfl) m2 (by decide +kernel) rfl) pa_nil)))
      (pe_one (pe_not (pe_callB call_isi (by rfl) m1 PyProof.Rows.boot_isinstance (pa_cons (pv 0) (pa_cons (pe_bltn (v := .ty "bool") (by rfl) m3 (by decide +kernel) rfl) pa_nil))))))), ?_⟩
    refine ⟨_, rfl, v, _, t, _, b1, rfl, .ty _, ht, h1, _, rfl, ?_⟩
    cases b1 with
    | false => exact k
    | true => exact ⟨_, rfl, v, _, t, _, b2, rfl, .ty _, ht, h2, _, rfl, k⟩
theorem kI1 : PySem.W.kitOne K (.type "int") (.type "int") = some true := kit_ty (by decide +kernel)
theorem kI2 : PySem.W.kitOne K (.type "int") (.type "bool") = some false := kit_ty (by decide +kernel)
/-! ### a Fraction -/
def fl (t b : Int) : List (Str × V) := putF "_bottom" (.int b) (putF "_top" (.int t) [])
theorem nTB : ¬ (("_top" : Str) = "_bottom") := by decide +kernel
theorem fl_top (t b : Int) : (fl t b).lookup ("_top" : Str) = some (.int t) := by
  unfold fl
  rw [lookup_putF, if_neg nTB, lookup_putF, if_pos rfl]
theorem fl_bot (t b : Int) : (fl t b).lookup ("_bottom" : Str) = some (.int b) := by
  unfold fl
  rw [lookup_putF, if_pos rfl]
theorem fl_no (t b : Int) {m : Str} (h1 : ¬ m = "_bottom") (h2 : ¬ m = "_top") : (fl t b).lookup m = none := by
  unfold fl
  rw [lookup_putF, if_neg h1, lookup_putF, if_neg h2]
  all_goals rfl
/-- a Fraction with this top and bottom stands at p -/
def FrAt (C : Addr) (H : Hp) (p : Addr) (t b : Int) : Prop := ∃ dx, H p = some (.ins C dx (fl t b))
structure TxtF (K : PySem.W.Frag) (mg : Str → Option Value) (C : Addr) : Prop where
  cl : Cls K C
  nT : NoAttr K C "_top"
  nB : NoAttr K C "_bottom"
  mC : mg "Fraction" = some (.ref C)
  gcd : mg "gcd" = some (.builtin "math.gcd")
def spInit (C : Addr) : Sp := fun vs H Q _ => ∃ (p dx : Addr) (t b : Int), vs = [.ref p, .int t, .int b] ∧ H p = some (.ins C dx []) ∧ b ≠ 0 ∧ (dv t b).natAbs < 2 ^ 8000 ∧
  ∀ H', FrAt C H' p (nT t b) (nB t b) → (∀ q o, q ≠ p → H q = some o → H' q = some o) → Q .non H'
theorem scI : FnScope ["self", "top", "bottom", "shared"] ["self", "top", "bottom"] (defScope sInit) := ⟨rfl, rfl, rfl, by decide +kernel, rfl, by decide +kernel, by decide +kernel⟩
theorem ok_init {f fP C : Addr} {fd fdP : FuncData} (F : FunD K "__init__" "Fraction.__init__" (defArgs sInit) (defBody sInit) (defScope sInit) [V.int 1] [] f fd) (T : TxtF K mg C) (GP : FnOk P w K mg base CX0 1 fP fdP ["value"] (spPlain K)) (mP : mg "is_plain_integer" = some (.ref fP)) (kP : PySem.W.keepIn K (.ref fP) = true)
    (bP : Binds K fdP ["value"] []) : FnOk P w K mg base CX0 2 f fd ["self", "top", "bottom"] (spInit C) := by
  refine F.ok scI (fun vs H Q E h => ?_) (fun cdv A outer s H vs Q E hr h => ?_)
  · obtain ⟨p, dx, t, b, rfl, _⟩ := h
    rfl
  · obtain ⟨p, dx, t, b, rfl, hp, hb, hz, k⟩ := h
    refine ⟨_, pss_cons (ps_if (PW.pt (pw_or (pt_not (pt_val (pe_call GP hr (by rfl) mP kP bP .nil pass0 (pa_cons (pv 1) pa_nil)))) (pw_or (pt_not (pt_val (pe_call GP hr (by rfl) mP kP bP .nil pass0 (pa_cons (pv 2) pa_nil))))
        (pw_or1 (pt_cmpR op_eq (pv 2) pe_int (nomark _)))))) pss_never pss_nil)
      (pss_cons (ps_set (i := 3) scI.nd rfl (Or.inl rfl) (pe_callBfun cr_gcd (by rfl) T.gcd (pa_cons (pv 1) (pa_cons (pv 2) pa_nil))))
      (pss_cons (ps_if (pt_cmpR op_lt (pv 2) pe_int (nomark _)) (pss_one (ps_set (i := 3) scI.nd rfl (Or.inl rfl) (pe_un un_neg (pv 3)))) pss_nil)
      (pss_cons (ps_fld (pv 0) (pe_op op_fdivX (pv 1) (pv 3)) rfl)
      (pss_one (ps_fld (pv 0) (pe_op op_fdivX (pv 2) (pv 3)) rfl))))), ?_⟩
    refine ⟨_, rfl, _, _, true, false, rfl, .base (.int t), kI1, kI2, _, rfl, iteF ?_⟩
    refine ⟨_, rfl, _, _, true, false, rfl, .base (.int b), kI1, kI2, _, rfl, iteF ?_⟩
    refine ⟨_, rfl, rfl, _, rfl, ite2 (fun z => (hb (V.int.inj (of_decide_eq_true z))).elim) (fun _ => ?_)⟩
    refine ⟨_, rfl, _, rfl, t, b, rfl, ?_⟩
    refine ⟨_, rfl, _, _, rfl, rfl, _, rfl, ite2 (fun hn => ?_) (fun hn => ?_)⟩
    · have hn := of_decide_eq_true hn
      have ed : dv t b = -((Nat.gcd t.natAbs b.natAbs : Nat) : Int) := if_pos hn
      have dz : ∀ i : Int, CDivX i (-((Nat.gcd t.natAbs b.natAbs : Nat) : Int)) := fun i => by
        rw [← ed]
        exact div_ok (dv_ne hb) hz (by decide) (by decide)
      refine ⟨_, rfl, _, rfl, ?_⟩
      refine ⟨_, rfl, _, rfl, _, _, rfl, rfl, dz _, _, rfl, p, C, dx, _, rfl, hp, T.cl, T.nT, (by show 0 < 1000; decide), ?_⟩
      refine ⟨_, rfl, _, rfl, _, _, rfl, rfl, dz _, _, rfl, p, C, dx, _, rfl, upd_same, T.cl, T.nB, (by show 1 < 1000; decide), ?_⟩
      refine k _ ⟨dx, ?_⟩ fun q o hq e => by rw [upd_ne hq, upd_ne hq]; exact e
      unfold nT nB
      rw [ed]
      exact upd_same
    · have hn : ¬ b < 0 := fun z => hn (decide_eq_true z)
      have ed : dv t b = ((Nat.gcd t.natAbs b.natAbs : Nat) : Int) := if_neg hn
      have dz : ∀ i : Int, CDivX i ((Nat.gcd t.natAbs b.natAbs : Nat) : Int) := fun i => by
        rw [← ed]
        exact div_ok (dv_ne hb) hz (by decide) (by decide)
      refine ⟨_, rfl, _, rfl, _, _, rfl, rfl, dz _, _, rfl, p, C, dx, _, rfl, hp, T.cl, T.nT, (by show 0 < 1000; decide), ?_⟩
      refine ⟨_, rfl, _, rfl, _, _, rfl, rfl, dz _, _, rfl, p, C, dx, _, rfl, upd_same, T.cl, T.nB, (by show 1 < 1000; decide), ?_⟩
      refine k _ ⟨dx, ?_⟩ fun q o hq e => by rw [upd_ne hq, upd_ne hq]; exact e
      unfold nT nB
      rw [ed]
      exact upd_same
end
end FR
set_option Elab.async false
set_option linter.all false
set_option maxRecDepth 100000
set_option maxHeartbeats 4000000
namespace FR
open PySem PySem.Spec PyProof.Rows L2
section
variable {P : Program} {w : World} {K : PySem.W.Frag} {mg : Str → Option Value} {base : Heap}
/-- how Fraction(t) binds, and Fraction(t, b) -/
theorem init_binds {f : Addr} {fd : FuncData} (F : FunD K "__init__" "Fraction.__init__" (defArgs sInit) (defBody sInit) (defScope sInit) [V.int 1] [] f fd) :
    (∃ ds, Vals [V.int 1] ds ∧ Binds K fd ["self", "top", "bottom"] ds) ∧ Binds K fd ["self", "top", "bottom"] [] := by
  have b1 := F.binds1 (ps := ["self", "top", "bottom"]) 2 0 (by simp) rfl fun T kV doc pm an cdv ct us its hu hi => match us, its, hu, hi with | [_, _], [_], _, _ => ⟨_, rfl, rfl⟩
  have b2 := F.binds1 (ps := ["self", "top", "bottom"]) 3 1 (by simp) rfl fun T kV doc pm an cdv ct us its hu hi => match us, its, hu, hi with | [_, _, _], [_], _, _ => ⟨_, rfl, rfl⟩
  obtain ⟨ds, v, b⟩ := b2
  cases v
  exact ⟨b1, b⟩
/-! ### what the other defs lean on -/
theorem dv_one (t : Int) : dv t 1 = 1 := by
  unfold dv
  rw [if_neg (by decide)]
  have z : Nat.gcd t.natAbs (1 : Int).natAbs = 1 := Nat.gcd_one_right _
  rw [z]
  rfl
theorem nT_one (t : Int) : nT t 1 = t := by
  unfold nT
  rw [dv_one, Int.fdiv_one]
theorem nB_one (t : Int) : nB t 1 = 1 := by
  unfold nB
  rw [dv_one, Int.fdiv_one]
/-- a Fraction, or an integer, and what it stands for -/
def FV (C : Addr) (H : Hp) (v : V) (t b : Int) : Prop := (∃ p, v = .ref p ∧ FrAt C H p t b) ∨ (v = .int t ∧ b = 1)
theorem FrAt.same {C : Addr} {H H' : Hp} {p : Addr} {t b : Int} (h : FrAt C H p t b) (s : Same H H') : FrAt C H' p t b := by
  obtain ⟨dx, e⟩ := h
  exact ⟨dx, s _ _ e⟩
theorem FV.same {C : Addr} {H H' : Hp} {v : V} {t b : Int} (h : FV C H v t b) (s : Same H H') : FV C H' v t b := by
  rcases h with ⟨p, e, z⟩ | z
  · exact .inl ⟨p, e, z.same s⟩
  · exact .inr z
structure FrK (P : Program) (w : World) (K : PySem.W.Frag) (mg : Str → Option Value) (base : Heap) (C fI pT gT pB gB : Addr) (fdI fdT fdB : FuncData) : Prop where
  T : TxtF K mg C
  M : Mk K C fI
  GI : FnOk P w K mg base CX0 2 fI fdI ["self", "top", "bottom"] (spInit C)
  b1 : ∃ ds, Vals [V.int 1] ds ∧ Binds K fdI ["self", "top", "bottom"] ds
  b2 : Binds K fdI ["self", "top", "bottom"] []
  oT : PropOf K C "top" pT gT
  GT : FnOk P w K mg base CX0 1 gT fdT ["self"] (getSp C "_top")
  bT : Binds K fdT ["self"] []
  oB : PropOf K C "bottom" pB gB
  GB : FnOk P w K mg base CX0 1 gB fdB ["self"] (getSp C "_bottom")
  bB : Binds K fdB ["self"] []
  is : mg "isinstance" = none
  ha : PySem.W.findIn K (.ref C) "__class__" = some (some (.builtin "object.__class__"))
  hn : PySem.W.specialIn K (.builtin "object.__class__") "__get__" = some (some (.builtin "getset_descriptor.__get__"))
  tk : PySem.W.takesIn K (.builtin "object.__class__") = some true
  hm : PySem.W.mroIn K C (.type "object") = some true
  iC : PySem.W.kitOne K (.type "int") (.ref C) = some false
theorem kit_self (K : PySem.W.Frag) (C : Addr) : PySem.W.kitOne K (.ref C) (.ref C) = some true := if_pos (by simp)
def spAs (C : Addr) : Sp := fun vs H Q _ => ∃ (v : V) (t b : Int), vs = [v] ∧ FV C H v t b ∧ ∀ p H', FrAt C H' p t b → Same H H' → Q (.ref p) H'
theorem scA : FnScope ["value"] ["value"] (defScope sAs) := ⟨rfl, rfl, rfl, by decide +kernel, rfl, by decide +kernel, by decide +kernel⟩
theorem same_make {H H' : Hp} {x dx : Addr} (nx : H x = none) (nd : H dx = none) (s : ∀ q o, q ≠ x → upd (upd H dx (.own x)) x (.ins C dx []) q = some o → H' q = some o) : Same H H' := fun q o e => by
  have h1 : q ≠ x := ne_of_none e nx
  refine s q o h1 ?_
  rw [upd_ne h1, upd_ne (ne_of_none e nd)]
  exact e
variable {C fI pT gT pB gB : Addr} {fdI fdT fdB : FuncData}
theorem ok_as {f : Addr} {fd : FuncData} (F : Fun K "as_fraction" "as_fraction" sAs f fd) (k : FrK P w K mg base C fI pT gT pB gB fdI fdT fdB) : FnOk P w K mg base CX0 4 f fd ["value"] (spAs C) := by
  obtain ⟨ds, vds, bds⟩ := k.b1
  refine F.ok scA (fun vs H Q E h => ?_) (fun cdv A outer s H vs Q E hr h => ?_)
  · obtain ⟨v, t, b, rfl, _⟩ := h
    rfl
  · obtain ⟨v, t, b, rfl, hv, q⟩ := h
    refine ⟨_, pss_one (ps_ret (pe_ifExp (pt_val (pe_callB call_isi (by rfl) k.is PyProof.Rows.boot_isinstance (pa_cons (pv 0) (pa_cons (pe_glob (v := .ref C) (by rfl) k.T.mC rfl) pa_nil)))) (pv 0)
      (pe_make k.M k.GI hr (by rfl) k.T.mC bds vds pass0 (pa_cons (pv 0) pa_nil)))), ?_⟩
    rcases hv with ⟨p, rfl, dx, hp⟩ | ⟨rfl, rfl⟩
    · refine ⟨_, rfl, _, _, _, _, true, rfl, .own _, .base (.ins hp k.T.cl k.ha k.hn k.tk k.hm), kit_self K C, _, rfl, ?_⟩
      exact ⟨_, rfl, q p H ⟨dx, hp⟩ (Same.refl H)⟩
    · refine ⟨_, rfl, _, _, _, _, false, rfl, .own _, .base (.int t), k.iC, _, rfl, ?_⟩
      refine ⟨_, rfl, fun x dx nx nd ne => ?_⟩
      refine ⟨x, dx, t, 1, rfl, upd_same, by decide, dv8 (by decide) (by decide), fun H' hf hs => ⟨rfl, ?_⟩⟩
      rw [nT_one, nB_one] at hf
      exact q x H' hf (same_make (C := C) nx nd hs)
/-- a bound for what stands in a Fraction -/
def Sz (t b : Int) : Prop := t.natAbs < 2 ^ 3000 ∧ b.natAbs < 2 ^ 3000 ∧ b ≠ 0
theorem Sz.mul {t b t' b' : Int} (h : Sz t b) (h' : Sz t' b') : CMulW t t' ∧ CMulW t b' ∧ CMulW t' b ∧ CMulW b b' ∧ (b * b').natAbs < 2 ^ 8000 ∧ b * b' ≠ 0 := by
  obtain ⟨h1, h2, h3⟩ := h
  obtain ⟨g1, g2, g3⟩ := h'
  refine ⟨wide_mul h1 g1 (by decide) (by decide) (by decide), wide_mul h1 g2 (by decide) (by decide) (by decide), wide_mul g1 h2 (by decide) (by decide) (by decide), wide_mul h2 g2 (by decide) (by decide) (by decide), ?_, Int.mul_ne_zero h3 g3⟩
  exact Nat.lt_of_lt_of_le (wide_lt h2 g2) (Nat.pow_le_pow_right (by decide) (by decide))
end
end FR
set_option Elab.async false
set_option linter.all false
set_option maxRecDepth 100000
set_option maxHeartbeats 4000000
namespace FR
open PySem PySem.Spec PyProof.Rows L2
section
variable {P : Program} {w : World} {K : PySem.W.Frag} {mg : Str → Option Value} {base : Heap} {C fI pT gT pB gB : Addr} {fdI fdT fdB : FuncData}
/-- what the text says of a built-in type beside the class -/
structure OddC (K : PySem.W.Frag) (C : Addr) (T : String) : Prop where
  k : PySem.W.kitOne K (.type T) (.ref C) = some false
  s : PySem.W.subIn K (.ref C) (.type T) = some false
  n : PySem.W.notFirst K C (.type T) = true
structure OddsC (K : PySem.W.Frag) (C : Addr) : Prop where
  non : OddC K C "NoneType"
  bl : OddC K C "bool"
  int : OddC K C "int"
  str : OddC K C "str"
  lst : OddC K C "list"
  tup : OddC K C "tuple"
  dK : OddC K C "dict"
theorem OddsC.of {H : Hp} (o : OddsC K C) {x : V} {T : String} (h : Odd K H x T) : OddC K C T := by
  cases h with
  | non => exact o.non
  | bl b => exact o.bl
  | int i => exact o.int
  | str y => exact o.str
  | lst e => exact o.lst
  | tup e => exact o.tup
  | dK e => exact o.dK
/-- a fraction, or a value of a built-in type; and whether a fraction t / b is equal to it -/
def Oth (K : PySem.W.Frag) (C : Addr) (H : Hp) (v : V) (t b : Int) (r : Bool) : Prop :=
  (∃ q t' b', v = .ref q ∧ FrAt C H q t' b' ∧ r = decide (t = t' ∧ b = b')) ∨ (∃ i, v = .int i ∧ r = decide (b = 1 ∧ t = i)) ∨ (∃ T, Odd K H v T ∧ T ≠ "int" ∧ r = false)
def spEq (K : PySem.W.Frag) (C : Addr) : Sp := fun vs H Q _ => ∃ (p : Addr) (v : V) (t b : Int) (r : Bool), vs = [.ref p, v] ∧ FrAt C H p t b ∧ Oth K C H v t b r ∧ Q (.bl r) H
abbrev sEq : Stmt := inClass sFrac 11
theorem scEq : FnScope ["self", "other"] ["self", "other"] (defScope sEq) := ⟨rfl, rfl, rfl, by decide +kernel, rfl, by decide +kernel, by decide +kernel⟩
theorem odd_plain {H : Hp} {v : V} {T : String} (o : Odd K H v T) (hT : T ≠ "int") : ∃ b1 b2, PySem.W.kitOne K (.type T) (.type "int") = some b1 ∧ PySem.W.kitOne K (.type T) (.type "bool") = some b2 ∧ (b1 && !b2) = false := by
  cases o with
  | non => exact ⟨false, false, kit_ty (by decide +kernel), kit_ty (by decide +kernel), rfl⟩
  | bl b => exact ⟨true, true, kit_ty (by decide +kernel), kit_ty (by decide +kernel), rfl⟩
  | int i => exact absurd rfl hT
  | str y => exact ⟨false, false, kit_ty (by decide +kernel), kit_ty (by decide +kernel), rfl⟩
  | lst e => exact ⟨false, false, kit_ty (by decide +kernel), kit_ty (by decide +kernel), rfl⟩
  | tup e => exact ⟨false, false, kit_ty (by decide +kernel), kit_ty (by decide +kernel), rfl⟩
  | dK e => exact ⟨false, false, kit_ty (by decide +kernel), kit_ty (by decide +kernel), rfl⟩
theorem dec_and {p q : Prop} [Decidable p] [Decidable q] : decide (p ∧ q) = (decide p && decide q) := by
  by_cases h : p <;> by_cases g : q <;> simp [h, g]
theorem dec_int (i j : Int) : decide (V.int i = V.int j) = decide (i = j) := by
  by_cases h : i = j
  · subst h; simp
  · rw [decide_eq_false h, decide_eq_false fun z => h (V.int.inj z)]
theorem ok_eq {f fP : Addr} {fd fdP : FuncData} (F : Fun K "__eq__" "Fraction.__eq__" sEq f fd) (k : FrK P w K mg base C fI pT gT pB gB fdI fdT fdB) (o : OddsC K C) (GP : FnOk P w K mg base CX0 1 fP fdP ["value"] (spPlain K)) (mP : mg "is_plain_integer" = some (.ref fP))
    (kP : PySem.W.keepIn K (.ref fP) = true) (bP : Binds K fdP ["value"] []) : FnOk P w K mg base CX0 3 f fd ["self", "other"] (spEq K C) := by
  refine F.ok scEq (fun vs H Q E h => ?_) (fun cdv A outer s H vs Q E hr h => ?_)
  · obtain ⟨p, v, t, b, r, rfl, _⟩ := h
    rfl
  · obtain ⟨p, v, t, b, r, rfl, ⟨dp, hp⟩, hv, q⟩ := h
    refine ⟨_, pss_cons (ps_if (pt_val (pe_callB call_isi (by rfl) k.is PyProof.Rows.boot_isinstance (pa_cons (pv 1) (pa_cons (pe_glob (v := .ref C) (by rfl) k.T.mC rfl) pa_nil))))
        (pss_one (ps_ret (pe_and (pe_cmpR op_eq (pe_prop (pv 0) k.T.cl k.oT k.GT (hr.mono (by decide)) k.bT .nil pass0 rfl) (pe_prop (pv 1) k.T.cl k.oT k.GT (hr.mono (by decide)) k.bT .nil pass0 rfl) (nomark _))
          (pe_one (pe_cmpR op_eq (pe_prop (pv 0) k.T.cl k.oB k.GB (hr.mono (by decide)) k.bB .nil pass0 rfl) (pe_prop (pv 1) k.T.cl k.oB k.GB (hr.mono (by decide)) k.bB .nil pass0 rfl) (nomark _)))))) pss_nil)
      (pss_one (ps_ret (pe_and (pe_call GP (hr.mono (by decide)) (by rfl) mP kP bP .nil pass0 (pa_cons (pv 1) pa_nil)) (pe_and (pe_cmpR op_eq (pe_prop (pv 0) k.T.cl k.oB k.GB (hr.mono (by decide)) k.bB .nil pass0 rfl) pe_int (nomark _))
          (pe_one (pe_cmpR op_eq (pe_prop (pv 0) k.T.cl k.oT k.GT (hr.mono (by decide)) k.bT .nil pass0 rfl) (pv 1) (nomark _))))))), ?_⟩
    rcases hv with ⟨q', t', b', rfl, ⟨dq, hq⟩, rfl⟩ | ⟨i, rfl, rfl⟩ | ⟨T, od, hT, rfl⟩
    · refine ⟨_, rfl, _, _, _, _, true, rfl, .own _, .base (.ins hq k.T.cl k.ha k.hn k.tk k.hm), kit_self K C, _, rfl, ?_⟩
      refine ⟨_, rfl, p, dp, _, rfl, hp, p, dp, _, _, rfl, hp, fl_top _ _, _, rfl, q', dq, _, rfl, hq, q', dq, _, _, rfl, hq, fl_top _ _, rfl, _, rfl, ?_⟩
      rw [dec_and] at q
      refine ite2 (fun z => ?_) (fun z => ?_)
      · rw [dec_int] at z
        rw [z, Bool.true_and] at q
        refine ⟨_, rfl, p, dp, _, rfl, hp, p, dp, _, _, rfl, hp, fl_bot _ _, _, rfl, q', dq, _, rfl, hq, q', dq, _, _, rfl, hq, fl_bot _ _, rfl, ?_⟩
        rw [dec_int]
        exact q
      · rw [dec_int] at z
        rw [Bool.eq_false_iff.mpr z, Bool.false_and] at q
        exact q
    · refine ⟨_, rfl, _, _, _, _, false, rfl, .own _, .base (.int i), o.int.k, _, rfl, iteF ?_⟩
      refine ⟨_, rfl, _, _, true, false, rfl, .base (.int i), kI1, kI2, _, rfl, ?_⟩
      refine ⟨_, rfl, p, dp, _, rfl, hp, p, dp, _, _, rfl, hp, fl_bot _ _, rfl, _, rfl, ?_⟩
      rw [dec_and] at q
      refine ite2 (fun z => ?_) (fun z => ?_)
      · rw [dec_int] at z
        rw [z, Bool.true_and] at q
        refine ⟨_, rfl, p, dp, _, rfl, hp, p, dp, _, _, rfl, hp, fl_top _ _, _, rfl, rfl, ?_⟩
        rw [dec_int]
        exact q
      · rw [dec_int] at z
        rw [Bool.eq_false_iff.mpr z, Bool.false_and] at q
        exact q
    · obtain ⟨b1, b2, e1, e2, e3⟩ := odd_plain (K := K) od hT
      refine ⟨_, rfl, _, _, _, _, false, rfl, .own _, od.ty, (o.of od).k, _, rfl, iteF ?_⟩
      refine ⟨_, rfl, _, _, b1, b2, rfl, od.ty, e1, e2, _, rfl, ?_⟩
      rw [e3]
      exact q
end
end FR
set_option Elab.async false
set_option linter.all false
set_option maxRecDepth 100000
set_option maxHeartbeats 4000000
namespace FR
open PySem PySem.Spec PyProof.Rows L2
section
variable {P : Program} {w : World} {K : PySem.W.Frag} {mg : Str → Option Value} {base : Heap} {C fI pT gT pB gB : Addr} {fdI fdT fdB : FuncData}
/-! ### is_fraction -/
abbrev sIsF : Stmt := top 15
theorem scIsF : FnScope ["value"] ["value"] (defScope sIsF) := ⟨rfl, rfl, rfl, by decide +kernel, rfl, by decide +kernel, by decide +kernel⟩
/-- whether it is a fraction -/
def IsFr (K : PySem.W.Frag) (C : Addr) (H : Hp) (v : V) (r : Bool) : Prop := (∃ q t b, v = .ref q ∧ FrAt C H q t b ∧ r = true) ∨ (∃ i, v = .int i ∧ r = true) ∨ (∃ T, Odd K H v T ∧ T ≠ "int" ∧ r = false)
def spIsF (K : PySem.W.Frag) (C : Addr) : Sp := fun vs H Q _ => ∃ v r, vs = [v] ∧ IsFr K C H v r ∧ Q (.bl r) H
theorem ok_isF {f fP : Addr} {fd fdP : FuncData} (F : Fun K "is_fraction" "is_fraction" sIsF f fd) (k : FrK P w K mg base C fI pT gT pB gB fdI fdT fdB) (o : OddsC K C) (GP : FnOk P w K mg base CX0 1 fP fdP ["value"] (spPlain K)) (mP : mg "is_plain_integer" = some (.ref fP))
    (kP : PySem.W.keepIn K (.ref fP) = true) (bP : Binds K fdP ["value"] []) : FnOk P w K mg base CX0 2 f fd ["value"] (spIsF K C) := by
  refine F.ok scIsF (fun vs H Q E h => ?_) (fun cdv A outer s H vs Q E hr h => ?_)
  · obtain ⟨v, r, rfl, _⟩ := h
    rfl
  · obtain ⟨v, r, rfl, hv, q⟩ := h
    refine ⟨_, pss_one (ps_ret (pe_or (pe_callB call_isi (by rfl) k.is PyProof.Rows.boot_isinstance (pa_cons (pv 0) (pa_cons (pe_glob (v := .ref C) (by rfl) k.T.mC rfl) pa_nil)))
      (pe_one (pe_call GP hr (by rfl) mP kP bP .nil pass0 (pa_cons (pv 0) pa_nil))))), ?_⟩
    rcases hv with ⟨p, t, b, rfl, ⟨dx, hp⟩, rfl⟩ | ⟨i, rfl, rfl⟩ | ⟨T, od, hT, rfl⟩
    · exact ⟨_, rfl, _, _, _, _, true, rfl, .own _, .base (.ins hp k.T.cl k.ha k.hn k.tk k.hm), kit_self K C, _, rfl, q⟩
    · exact ⟨_, rfl, _, _, _, _, false, rfl, .own _, .base (.int i), o.int.k, _, rfl, _, rfl, _, _, true, false, rfl, .base (.int i), kI1, kI2, q⟩
    · obtain ⟨b1, b2, e1, e2, e3⟩ := odd_plain (K := K) od hT
      refine ⟨_, rfl, _, _, _, _, false, rfl, .own _, od.ty, (o.of od).k, _, rfl, _, rfl, _, _, b1, b2, rfl, od.ty, e1, e2, ?_⟩
      rw [e3]
      exact q
end
end FR
set_option Elab.async false
set_option linter.all false
namespace FR
/-! ### the least form, as mathematics -/
theorem dv_dvd_t {t b : Int} (h : b ≠ 0) : dv t b ∣ t := by
  have z : ((Nat.gcd t.natAbs b.natAbs : Nat) : Int) ∣ t := Int.ofNat_dvd_left.mpr (Nat.gcd_dvd_left _ _)
  unfold dv
  split
  · exact Int.neg_dvd.mpr z
  · exact z
theorem dv_dvd_b {t b : Int} (h : b ≠ 0) : dv t b ∣ b := by
  have z : ((Nat.gcd t.natAbs b.natAbs : Nat) : Int) ∣ b := Int.ofNat_dvd_left.mpr (Nat.gcd_dvd_right _ _)
  unfold dv
  split
  · exact Int.neg_dvd.mpr z
  · exact z
theorem nT_mul {t b : Int} (h : b ≠ 0) : nT t b * dv t b = t := Int.fdiv_mul_cancel (dv_dvd_t h)
theorem nB_mul {t b : Int} (h : b ≠ 0) : nB t b * dv t b = b := Int.fdiv_mul_cancel (dv_dvd_b h)
theorem dv_sign {t b : Int} (h : b ≠ 0) : (0 < b → 0 < dv t b) ∧ (b < 0 → dv t b < 0) := by
  have z : 0 < Nat.gcd t.natAbs b.natAbs := Nat.gcd_pos_of_pos_right _ (by omega)
  unfold dv
  constructor
  · intro q
    rw [if_neg (by omega)]
    omega
  · intro q
    rw [if_pos q]
    omega
theorem nB_pos {t b : Int} (h : b ≠ 0) : 0 < nB t b := by
  have e := nB_mul (t := t) h
  obtain ⟨s1, s2⟩ := dv_sign (t := t) h
  rcases Int.lt_or_gt_of_ne h with q | q
  · have d := s2 q
    refine Int.not_le.mp fun c => ?_
    have := Int.mul_nonneg_of_nonpos_of_nonpos c (Int.le_of_lt d)
    omega
  · have d := s1 q
    refine Int.not_le.mp fun c => ?_
    have := Int.mul_nonpos_of_nonpos_of_nonneg c (Int.le_of_lt d)
    omega
/-- two forms of a fraction with bottoms above 0 and no common divisor are the same -/
theorem nT_le {t b : Int} (h : b ≠ 0) : (nT t b).natAbs ≤ t.natAbs := by
  have e := congrArg Int.natAbs (nT_mul (t := t) h)
  rw [Int.natAbs_mul] at e
  have z : 0 < (dv t b).natAbs := Int.natAbs_pos.mpr (dv_ne h)
  rw [← e]
  exact Nat.le_mul_of_pos_right _ z
theorem nB_le {t b : Int} (h : b ≠ 0) : (nB t b).natAbs ≤ b.natAbs := by
  have e := congrArg Int.natAbs (nB_mul (t := t) h)
  rw [Int.natAbs_mul] at e
  have z : 0 < (dv t b).natAbs := Int.natAbs_pos.mpr (dv_ne h)
  rw [← e]
  exact Nat.le_mul_of_pos_right _ z
theorem dv_scale {t b k : Int} (hk : 0 < k) : dv (k * t) (k * b) = k * dv t b := by
  have g : Nat.gcd (k * t).natAbs (k * b).natAbs = k.natAbs * Nat.gcd t.natAbs b.natAbs := by
    rw [Int.natAbs_mul, Int.natAbs_mul, Nat.gcd_mul_left]
  have kk : ((k.natAbs : Nat) : Int) = k := by omega
  have hb : k * b < 0 ↔ b < 0 := by
    constructor
    · intro q
      refine Int.not_le.mp fun c => ?_
      have := Int.mul_nonneg (Int.le_of_lt hk) c
      omega
    · intro q
      exact Int.mul_neg_of_pos_of_neg hk q
  unfold dv
  rw [g, Int.natCast_mul, kk]
  by_cases q : b < 0
  · rw [if_pos q, if_pos (hb.mpr q), Int.mul_neg]
  · rw [if_neg q, if_neg fun z => q (hb.mp z)]
theorem nT_scale {t b k : Int} (hk : 0 < k) : nT (k * t) (k * b) = nT t b := by
  unfold nT
  rw [dv_scale hk]
  exact Int.mul_fdiv_mul_of_pos _ _ hk
theorem nB_scale {t b k : Int} (hk : 0 < k) : nB (k * t) (k * b) = nB t b := by
  unfold nB
  rw [dv_scale hk]
  exact Int.mul_fdiv_mul_of_pos _ _ hk
theorem dv_neg {t b : Int} (h : b ≠ 0) : dv (-t) (-b) = -dv t b := by
  unfold dv
  rw [Int.natAbs_neg, Int.natAbs_neg]
  by_cases q : b < 0
  · rw [if_pos q, if_neg (by omega), Int.neg_neg]
  · rw [if_neg q, if_pos (by omega)]
theorem nT_neg {t b : Int} (h : b ≠ 0) : nT (-t) (-b) = nT t b := by
  unfold nT
  rw [dv_neg h, Int.neg_fdiv_neg]
theorem nB_neg {t b : Int} (h : b ≠ 0) : nB (-t) (-b) = nB t b := by
  unfold nB
  rw [dv_neg h, Int.neg_fdiv_neg]
theorem n_gcd {t b : Int} (h : b ≠ 0) : Nat.gcd (nT t b).natAbs (nB t b).natAbs = 1 := by
  have e1 := congrArg Int.natAbs (nT_mul (t := t) h)
  have e2 := congrArg Int.natAbs (nB_mul (t := t) h)
  rw [Int.natAbs_mul] at e1 e2
  have ed : (dv t b).natAbs = Nat.gcd t.natAbs b.natAbs := by
    unfold dv
    split <;> omega
  have g : Nat.gcd t.natAbs b.natAbs = Nat.gcd (nT t b).natAbs (nB t b).natAbs * (dv t b).natAbs := by
    rw [← Nat.gcd_mul_right, e1, e2]
  have z : 0 < (dv t b).natAbs := Int.natAbs_pos.mpr (dv_ne h)
  rw [ed] at g z
  exact Nat.eq_of_mul_eq_mul_right z (by rw [Nat.one_mul]; exact g.symm)
theorem dv_n {t b : Int} (h : b ≠ 0) : dv (nT t b) (nB t b) = 1 := by
  have p := nB_pos (t := t) h
  unfold dv
  rw [if_neg (by omega), n_gcd h]
  rfl
theorem nT_n {t b : Int} (h : b ≠ 0) : nT (nT t b) (nB t b) = nT t b := by
  show (nT t b).fdiv (dv (nT t b) (nB t b)) = _
  rw [dv_n h, Int.fdiv_one]
theorem nB_n {t b : Int} (h : b ≠ 0) : nB (nT t b) (nB t b) = nB t b := by
  show (nB t b).fdiv (dv (nT t b) (nB t b)) = _
  rw [dv_n h, Int.fdiv_one]
theorem n_int {t b n : Int} (h : b ≠ 0) : (nB t b = 1 ∧ nT t b = n) ↔ n * b = t := by
  constructor
  · rintro ⟨e1, e2⟩
    have m1 := nT_mul (t := t) h
    have m2 := nB_mul (t := t) h
    rw [e2] at m1
    rw [e1, Int.one_mul] at m2
    rw [m2] at m1
    exact m1
  · intro e
    have d : dv t b = b := by
      have hn : Nat.gcd t.natAbs b.natAbs = b.natAbs := by
        rw [← e, Int.natAbs_mul]
        exact Nat.gcd_mul_left_left _ _
      unfold dv
      rw [hn]
      split <;> omega
    unfold nB nT
    rw [d]
    refine ⟨Int.fdiv_self h, ?_⟩
    rw [← e, Int.mul_fdiv_cancel _ h]
end FR
set_option Elab.async false
set_option linter.all false
namespace FR
/-! ### pairs in least form -/
def Lf (t b : Int) : Prop := 0 < b ∧ Nat.gcd t.natAbs b.natAbs = 1
theorem Lf.dv1 {t b : Int} (h : Lf t b) : dv t b = 1 := by
  unfold dv
  rw [if_neg (by have := h.1; omega), h.2]
  rfl
theorem Lf.nT {t b : Int} (h : Lf t b) : nT t b = t := by
  unfold FR.nT
  rw [h.dv1, Int.fdiv_one]
theorem Lf.nB {t b : Int} (h : Lf t b) : nB t b = b := by
  unfold FR.nB
  rw [h.dv1, Int.fdiv_one]
theorem Lf.ne {t b : Int} (h : Lf t b) : b ≠ 0 := by have := h.1; omega
theorem lf_n {t b : Int} (h : b ≠ 0) : Lf (nT t b) (nB t b) := ⟨nB_pos h, n_gcd h⟩
theorem Lf.neg {t b : Int} (h : Lf t b) : Lf (-t) b := ⟨h.1, by rw [Int.natAbs_neg]; exact h.2⟩
theorem Lf.one (t : Int) : Lf t 1 := ⟨by decide, Nat.gcd_one_right _⟩
/-- forms of one fraction have one least form -/
theorem n_mul {t b k : Int} (hb : b ≠ 0) (hk : k ≠ 0) : nT (k * t) (k * b) = nT t b ∧ nB (k * t) (k * b) = nB t b := by
  rcases Int.lt_or_gt_of_ne hk with q | q
  · have e1 : k * t = -((-k) * t) := by rw [Int.neg_mul, Int.neg_neg]
    have e2 : k * b = -((-k) * b) := by rw [Int.neg_mul, Int.neg_neg]
    have n0 : -k * b ≠ 0 := Int.mul_ne_zero (by omega) hb
    rw [e1, e2, nT_neg n0, nB_neg n0, nT_scale (by omega), nB_scale (by omega)]
    exact ⟨rfl, rfl⟩
  · rw [nT_scale q, nB_scale q]
    exact ⟨rfl, rfl⟩
theorem n_cross {t b t' b' : Int} (hb : b ≠ 0) (hb' : b' ≠ 0) (h : t * b' = t' * b) : nT t b = nT t' b' ∧ nB t b = nB t' b' := by
  obtain ⟨a1, a2⟩ := n_mul (t := t) hb hb'
  obtain ⟨c1, c2⟩ := n_mul (t := t') hb' hb
  have e1 : b' * t = b * t' := by rw [Int.mul_comm, h, Int.mul_comm]
  have e2 : b' * b = b * b' := Int.mul_comm _ _
  rw [e1, e2] at a1 a2
  exact ⟨a1.symm.trans c1, a2.symm.trans c2⟩
/-- the least form, by its cross -/
theorem n_back {t b : Int} (hb : b ≠ 0) : nT t b * b = t * nB t b := by
  have e1 := nT_mul (t := t) hb
  have e2 := nB_mul (t := t) hb
  generalize nT t b = x at *
  generalize nB t b = y at *
  generalize dv t b = d at *
  subst e1
  rw [← e2, Int.mul_comm y d, ← Int.mul_assoc]
abbrev PI := Int × Int
def plusP (a c : PI) : PI := (nT (a.1 * c.2 + c.1 * a.2) (a.2 * c.2), nB (a.1 * c.2 + c.1 * a.2) (a.2 * c.2))
def sumP (ps : List PI) : PI := ps.foldl plusP (0, 1)
def lc (a b : Int) : Int := ((Nat.lcm a.natAbs b.natAbs : Nat) : Int)
def lcmP (ps : List PI) : Int := ps.foldl (fun a p => lc a p.2) 1
def topsP (ps : List PI) (m : Int) : List Int := ps.map fun p => p.1 * m.fdiv p.2
def AllLf (ps : List PI) : Prop := ∀ p ∈ ps, Lf p.1 p.2
theorem take_snoc {α : Type} {l : List α} {i : Nat} {x : α} (h : l[i]? = some x) : l.take (i + 1) = l.take i ++ [x] := by
  rw [List.take_add_one, h]
  rfl
theorem lc_dvd (a b : Int) : a ∣ lc a b ∧ b ∣ lc a b := ⟨Int.natAbs_dvd.mp (Int.ofNat_dvd.mpr (Nat.dvd_lcm_left _ _)), Int.natAbs_dvd.mp (Int.ofNat_dvd.mpr (Nat.dvd_lcm_right _ _))⟩
theorem lc_pos {a b : Int} (h : 0 < a) (g : 0 < b) : 0 < lc a b := by
  have z : 0 < Nat.lcm a.natAbs b.natAbs := Nat.lcm_pos (by omega) (by omega)
  unfold lc
  omega
theorem lc_le {a b : Int} {n m : Nat} (h : 0 < a) (g : 0 < b) (ha : a.natAbs < 2 ^ n) (hb : b.natAbs < 2 ^ m) : (lc a b).natAbs < 2 ^ (n + m) := by
  show Nat.lcm _ _ < _
  rw [Nat.pow_add]
  refine Nat.lt_of_le_of_lt (Nat.le_of_dvd (Nat.mul_pos (by omega) (by omega)) (Nat.lcm_dvd_mul _ _)) (Nat.mul_lt_mul'' ha hb)
theorem lcmP_snoc (ps : List PI) (p : PI) : lcmP (ps ++ [p]) = lc (lcmP ps) p.2 := by
  unfold lcmP
  rw [List.foldl_append]
  rfl
theorem sumP_snoc (ps : List PI) (p : PI) : sumP (ps ++ [p]) = plusP (sumP ps) p := by
  unfold sumP
  rw [List.foldl_append]
  rfl
theorem snoc_ind {α : Type} {Q : List α → Prop} (h0 : Q []) (h : ∀ l x, Q l → Q (l ++ [x])) (l : List α) : Q l := by
  have z : ∀ n (l : List α), l.length = n → Q l := by
    intro n
    induction n with
    | zero =>
      intro l e
      rw [List.length_eq_zero_iff.mp e]
      exact h0
    | succ n ih =>
      intro l e
      have e1 : l ≠ [] := by rintro rfl; exact absurd e (by simp)
      rw [← List.dropLast_concat_getLast e1]
      exact h _ _ (ih _ (by rw [List.length_dropLast, e]; rfl))
  exact z _ l rfl
theorem AllLf.init {ps : List PI} {p : PI} (h : AllLf (ps ++ [p])) : AllLf ps ∧ Lf p.1 p.2 :=
  ⟨fun q m => h q (List.mem_append_left _ m), h p (List.mem_append_right _ (List.mem_singleton.mpr rfl))⟩
theorem lcmP_pos {ps : List PI} (h : AllLf ps) : 0 < lcmP ps := by
  induction ps using snoc_ind with
  | h0 => decide
  | h l x ih =>
    rw [lcmP_snoc]
    exact lc_pos (ih h.init.1) h.init.2.1
theorem lcmP_dvd (ps : List PI) : ∀ p ∈ ps, p.2 ∣ lcmP ps := by
  induction ps using snoc_ind with
  | h0 => exact fun p m => absurd m (by simp)
  | h l x ih =>
    intro p m
    rw [lcmP_snoc]
    rcases List.mem_append.mp m with m | m
    · exact Int.dvd_trans (ih p m) (lc_dvd _ _).1
    · rw [List.mem_singleton.mp m]
      exact (lc_dvd _ _).2
theorem fdiv_mul {m b : Int} (h : b ∣ m) : m.fdiv b * b = m := Int.fdiv_mul_cancel h
theorem fdiv_le {m b : Int} (h : b ∣ m) (hb : 0 < b) : (m.fdiv b).natAbs ≤ m.natAbs := by
  have e := congrArg Int.natAbs (fdiv_mul h)
  rw [Int.natAbs_mul] at e
  rw [← e]
  exact Nat.le_mul_of_pos_right _ (by omega)
theorem sumP_lf {ps : List PI} (h : AllLf ps) : Lf (sumP ps).1 (sumP ps).2 := by
  induction ps using snoc_ind with
  | h0 => exact Lf.one 0
  | h l x ih =>
    rw [sumP_snoc]
    exact lf_n (Int.mul_ne_zero (ih h.init.1).ne h.init.2.ne)
/-- the sum of the tops over any bottom that serves, against the sum of the pairs -/
theorem sum_cross {ps : List PI} (h : AllLf ps) {m : Int} (hm : ∀ p ∈ ps, p.2 ∣ m) : (topsP ps m).sum * (sumP ps).2 = (sumP ps).1 * m := by
  induction ps using snoc_ind with
  | h0 => simp [topsP, sumP]
  | h l x ih =>
    have i1 := ih h.init.1 fun p k => hm p (List.mem_append_left _ k)
    have l0 := sumP_lf h.init.1
    have lx := h.init.2
    have dx := fdiv_mul (hm x (List.mem_append_right _ (List.mem_singleton.mpr rfl)))
    have nb := n_back (t := (sumP l).1 * x.2 + x.1 * (sumP l).2) (Int.mul_ne_zero l0.ne lx.ne)
    have hb := Int.mul_ne_zero l0.ne lx.ne
    have e1 : (topsP (l ++ [x]) m).sum = (topsP l m).sum + x.1 * m.fdiv x.2 := by
      unfold topsP
      rw [List.map_append, List.sum_append]
      simp
    rw [sumP_snoc, e1]
    show (_ + _) * nB _ _ = nT _ _ * m
    refine Int.eq_of_mul_eq_mul_right hb ?_
    generalize nT ((sumP l).1 * x.2 + x.1 * (sumP l).2) ((sumP l).2 * x.2) = N at *
    generalize nB ((sumP l).1 * x.2 + x.1 * (sumP l).2) ((sumP l).2 * x.2) = B at *
    generalize (sumP l).1 = s at *
    generalize (sumP l).2 = u at *
    generalize x.1 = p at *
    generalize x.2 = q at *
    generalize m.fdiv q = d at *
    generalize (topsP l m).sum = T at *
    have a1 : N * m * (u * q) = N * (u * q) * m := by ac_rfl
    have a2 : (T + p * d) * B * (u * q) = ((T * u) * q + (p * u) * (d * q)) * B := by
      rw [Int.add_mul, Int.add_mul, Int.add_mul]
      ac_rfl
    rw [a1, a2, nb, i1, dx]
    rw [Int.add_mul, Int.add_mul, Int.add_mul]
    ac_rfl
theorem total_is {ps : List PI} (h : AllLf ps) : nT (topsP ps (lcmP ps)).sum (lcmP ps) = (sumP ps).1 ∧ nB (topsP ps (lcmP ps)).sum (lcmP ps) = (sumP ps).2 := by
  have l := sumP_lf h
  have c := n_cross (t := (topsP ps (lcmP ps)).sum) (b := lcmP ps) (t' := (sumP ps).1) (b' := (sumP ps).2) (by have := lcmP_pos h; omega) l.ne (sum_cross h (lcmP_dvd ps))
  rw [l.nT, l.nB] at c
  exact c
/-! ### the least and the greatest one -/
def lessP (a c : PI) : Bool := decide (a.1 * c.2 < c.1 * a.2)
def leastP (a c : PI) : PI := if lessP c a then c else a
def mostP (a c : PI) : PI := if lessP a c then c else a
def fDown (t b n : Int) : Int := (t * n).fdiv b
def fUp (t b n : Int) : Int := if fDown t b n * b = t * n then fDown t b n else fDown t b n + 1
theorem up_is {t b n : Int} (hb : 0 < b) : -((-t * n).fdiv b) = fUp t b n := by
  have e : -t * n = -(t * n) := Int.neg_mul _ _
  unfold fUp fDown
  rw [e]
  generalize t * n = x
  rw [Int.fdiv_eq_ediv_of_nonneg _ (Int.le_of_lt hb), Int.fdiv_eq_ediv_of_nonneg _ (Int.le_of_lt hb)]
  have d := Int.mul_ediv_add_emod x b
  have m0 := Int.emod_nonneg x (by omega : b ≠ 0)
  have m1 := Int.emod_lt_of_pos x hb
  rw [Int.mul_comm] at d
  generalize x / b = q at *
  by_cases z : q * b = x
  · rw [if_pos z, ← z, ← Int.neg_mul, Int.mul_ediv_cancel _ (by omega), Int.neg_neg]
  · rw [if_neg z]
    have s : -x = (b - x % b) + (-(q + 1)) * b := by
      rw [Int.neg_mul, Int.add_mul, Int.one_mul]
      omega
    rw [s, Int.add_mul_ediv_right _ _ (by omega), Int.ediv_eq_zero_of_lt (by omega) (by omega)]
    omega
end FR
set_option Elab.async false
set_option linter.all false
set_option maxRecDepth 100000
set_option maxHeartbeats 4000000
namespace FR
open PySem PySem.Spec PyProof.Rows L2
/-! ### math.lcm -/
def rLcm : List V → Hp → VK → Prop := fun vs H Q => ∃ a b : Int, vs = [.int a, .int b] ∧ 0 < a ∧ 0 < b ∧ a.natAbs < 2 ^ 3000 ∧ b.natAbs < 2 ^ 3000 ∧ Q (.int (lc a b)) H
theorem cr_lcm {X : Cx} : CallR X (.builtin "math.lcm") rLcm := by
  intro pins s σ H vs us Q I r h
  obtain ⟨a, b, rfl, pa, pb, za, zb, q⟩ := h
  obtain ⟨t, u, rfl⟩ := Vals.int2 r
  have h1 : (max 1 a.natAbs).log2 < 3000 := PySem.Flt.log2_lt_of (by decide) (Nat.max_lt.mpr ⟨by decide +kernel, za⟩)
  have h2 : (max a.natAbs b.natAbs).log2 < 3000 := PySem.Flt.log2_lt_of (by decide) (Nat.max_lt.mpr ⟨za, zb⟩)
  have e : (Nat.lcm 1 a.natAbs).lcm b.natAbs = Nat.lcm a.natAbs b.natAbs := by rw [Nat.lcm_one_left]
  have g := PySem.W.mg_run_lcm a t b u (by omega) (by omega) (by
    rw [e]
    have : (lc a b).natAbs.log2 < 6000 := PySem.Flt.log2_lt_of (by decide) (lc_le pa pb za zb)
    show (lc a b).natAbs.log2 < bitsLine
    rw [bitsLine_eq]
    omega)
  rw [e] at g
  exact call_function_meets PySem.W.MGF.kind_lcm PySem.W.MGF.plain_lcm PySem.W.MGF.entry_lcm (PySem.W.MGF.args_lcm _ _) g.meets ⟨.int _, H, I.tok _, ⟨_, rfl⟩, q⟩
/-! ### lists of values that stand for pairs -/
def A2 (R : V → PI → Prop) (vs : List V) (ps : List PI) : Prop := vs.length = ps.length ∧ ∀ (i : Nat) (v : V), vs[i]? = some v → ∃ p : PI, ps[i]? = some p ∧ R v p
theorem A2.nil {R : V → PI → Prop} : A2 R [] [] := ⟨rfl, fun i v h => by simp at h⟩
theorem A2.cons {R : V → PI → Prop} {v : V} {p : PI} {vs : List V} {ps : List PI} (r : R v p) (h : A2 R vs ps) : A2 R (v :: vs) (p :: ps) := by
  refine ⟨by simp [h.1], fun i x hx => ?_⟩
  cases i with
  | zero => exact ⟨p, rfl, by cases hx; exact r⟩
  | succ i => exact h.2 i x hx
theorem A2.uncons {R : V → PI → Prop} {v : V} {p : PI} {vs : List V} {ps : List PI} (h : A2 R (v :: vs) (p :: ps)) : R v p ∧ A2 R vs ps := by
  refine ⟨?_, by simpa using h.1, fun i x hx => h.2 (i + 1) x hx⟩
  obtain ⟨q, e, r⟩ := h.2 0 v rfl
  cases e
  exact r
theorem A2.snoc {R : V → PI → Prop} {v : V} {p : PI} : ∀ {vs : List V} {ps : List PI}, A2 R vs ps → R v p → A2 R (vs ++ [v]) (ps ++ [p])
  | [], [], _, r => A2.cons r A2.nil
  | _ :: _, _ :: _, h, r => A2.cons h.uncons.1 (A2.snoc h.uncons.2 r)
  | [], _ :: _, h, _ => absurd h.1 (by simp)
  | _ :: _, [], h, _ => absurd h.1 (by simp)
theorem A2.imp {R R' : V → PI → Prop} {vs : List V} {ps : List PI} (h : A2 R vs ps) (f : ∀ v p, R v p → R' v p) : A2 R' vs ps := ⟨h.1, fun i v e => by
  obtain ⟨p, e', r⟩ := h.2 i v e
  exact ⟨p, e', f v p r⟩⟩
/-- a fraction, as an object -/
def FR1 (C : Addr) (H : Hp) (v : V) (p : PI) : Prop := ∃ q, v = .ref q ∧ FrAt C H q p.1 p.2
/-- a pair of integers, as a tuple -/
def TP1 (H : Hp) (v : V) (p : PI) : Prop := ∃ q, v = .ref q ∧ H q = some (.tup [.int p.1, .int p.2])
abbrev FVs (C : Addr) (H : Hp) (vs : List V) (ps : List PI) : Prop := A2 (fun v p => FV C H v p.1 p.2) vs ps
abbrev FRs (C : Addr) (H : Hp) (vs : List V) (ps : List PI) : Prop := A2 (FR1 C H) vs ps
abbrev TPs (H : Hp) (vs : List V) (ps : List PI) : Prop := A2 (TP1 H) vs ps
theorem FrAt.updl {C : Addr} {H : Hp} {p D : Addr} {t b : Int} {xs : List V} {o : HO} (h : FrAt C H p t b) (hD : H D = some (.lst xs)) : FrAt C (upd H D o) p t b := by
  obtain ⟨dx, e⟩ := h
  exact ⟨dx, by rw [upd_ne fun z => by rw [z, hD] at e; cases e]; exact e⟩
theorem tup_updl {H : Hp} {p D : Addr} {ys xs : List V} {o : HO} (h : H p = some (.tup ys)) (hD : H D = some (.lst xs)) : upd H D o p = some (.tup ys) := by
  rw [upd_ne fun z => by rw [z, hD] at h; cases h]
  exact h
theorem FRs.updl {C : Addr} {H : Hp} {D : Addr} {xs : List V} {o : HO} {vs : List V} {ps : List PI} (h : FRs C H vs ps) (hD : H D = some (.lst xs)) : FRs C (upd H D o) vs ps :=
  A2.imp h fun _ _ ⟨q, e, f⟩ => ⟨q, e, f.updl hD⟩
theorem TPs.updl {H : Hp} {D : Addr} {xs : List V} {o : HO} {vs : List V} {ps : List PI} (h : TPs H vs ps) (hD : H D = some (.lst xs)) : TPs (upd H D o) vs ps :=
  A2.imp h fun _ _ ⟨q, e, f⟩ => ⟨q, e, tup_updl f hD⟩
theorem FRs.same {C : Addr} {H H' : Hp} {vs : List V} {ps : List PI} (h : FRs C H vs ps) (s : Same H H') : FRs C H' vs ps := A2.imp h fun _ _ ⟨q, e, f⟩ => ⟨q, e, f.same s⟩
theorem FVs.same {C : Addr} {H H' : Hp} {vs : List V} {ps : List PI} (h : FVs C H vs ps) (s : Same H H') : FVs C H' vs ps := A2.imp h fun _ _ f => f.same s
theorem TPs.same {H H' : Hp} {vs : List V} {ps : List PI} (h : TPs H vs ps) (s : Same H H') : TPs H' vs ps := A2.imp h fun _ _ ⟨q, e, f⟩ => ⟨q, e, s _ _ f⟩
theorem same_grow {H H' : Hp} {D : Addr} {o : HO} (hD : H D = none) (s : Same H H') : Same H (upd H' D o) := fun q o' e => by
  rw [upd_ne (ne_of_none e hD)]
  exact s _ _ e
theorem same_new {H : Hp} {p : Addr} {o : HO} (h : H p = none) : Same H (upd H p o) := fun q o' e => by rw [upd_ne (ne_of_none e h)]; exact e
/-! ### is_at_least, is_fractions -/
section
variable {P : Program} {w : World} {K : PySem.W.Frag} {mg : Str → Option Value} {base : Heap} {C fI pT gT pB gB : Addr} {fdI fdT fdB : FuncData}
abbrev sFs : Stmt := top 17
abbrev NFs : List Str := ["value", "one"]
theorem scFs : FnScope NFs ["value"] (defScope sFs) := ⟨rfl, rfl, rfl, by decide +kernel, rfl, by decide +kernel, by decide +kernel⟩
/-- short, and so is the least bottom that all can have -/
def Shr (ps : List PI) : Prop := (lcmP ps).natAbs < 2 ^ 2401 ∧ ∀ p ∈ ps, p.1.natAbs < 2 ^ 2400 ∧ p.2.natAbs < 2 ^ 2400
/-- a tuple of fractions, few and short -/
structure Tf (C : Addr) (H : Hp) (tp : Addr) (ps : List PI) : Prop where
  at_ : ∃ xs, H tp = some (.tup xs) ∧ FVs C H xs ps
  few : ps.length ≤ 80
  lf : AllLf ps
  sz : Shr ps
theorem Tf.same {H H' : Hp} {tp : Addr} {ps : List PI} (t : Tf C H tp ps) (s : Same H H') : Tf C H' tp ps := by
  obtain ⟨⟨xs, h, f⟩, a, b, c⟩ := t
  exact ⟨⟨xs, s _ _ h, f.same s⟩, a, b, c⟩
def spFs (C : Addr) : Sp := fun vs H Q _ => ∃ (tp : Addr) (ps : List PI), vs = [.ref tp] ∧ Tf C H tp ps ∧ ∀ H', Same H H' → Q (.bl true) H'
theorem ok_fs {f fF : Addr} {fd fdF : FuncData} (F : Fun K "is_fractions" "is_fractions" sFs f fd) (GF : FnOk P w K mg base CX0 2 fF fdF ["value"] (spIsF K C)) (mF : mg "is_fraction" = some (.ref fF))
    (kF : PySem.W.keepIn K (.ref fF) = true) (bF : Binds K fdF ["value"] []) (m1 : mg "isinstance" = none) (m2 : mg "tuple" = none) (m3 : mg "all" = none) : FnOk P w K mg base CX0 3 f fd ["value"] (spFs C) := by
  refine F.ok scFs (fun vs H Q E h => ?_) (fun cdv A outer s H vs Q E hr h => ?_)
  · obtain ⟨tp, ps, rfl, _⟩ := h
    rfl
  · obtain ⟨tp, ps, rfl, ⟨⟨xs, hx, hf⟩, hn, _, _⟩, q⟩ := h
    refine ⟨_, pss_one (ps_ret (pe_and (pe_callB call_isi (by rfl) m1 PyProof.Rows.boot_isinstance (pa_cons (pv 0) (pa_cons (pe_bltn (v := .ty "tuple") (by rfl) m2 (by decide +kernel) rfl) pa_nil)))
      (pe_one (pe_callB (cr_all rfl) (by rfl) m3 (by decide +kernel) (pa_cons (pe_lc (own := [("one", 1)]) (g := gName 1) (tt := tYes) rfl scFs.nd (pi_tup (pv 0)) (blkOk_by (N := NFs) (sc := defScope sFs) (by decide +kernel))
        (fun _ _ _ _ _ => pg_name (i := 1) scFs.nd rfl (.inl rfl)) (fun _ _ _ _ _ => pts_nil) (fun _ _ _ _ _ => pe_call GF hr (by rfl) mF kF bF .nil pass0 (pa_cons (pv 1) pa_nil))) pa_nil))))), ?_⟩
    refine ⟨_, rfl, _, _, _, _, true, rfl, .ty _, .base (.tup hx), kit_ty (by decide +kernel), _, rfl, ?_⟩
    refine ⟨_, rfl, tp, rfl, ⟨_, SqT.of hx⟩, fun D hD => ?_⟩
    refine lc_tup (xs := xs) (fun i Hc => Same H Hc ∧ Hc D = some (.lst ((List.replicate i true).map V.bl))) ⟨same_new hD, upd_same⟩ (fun i Hc _ p => SqT.of (p.1 _ _ hx)) ?_ ?_
    · rintro i v Hc hv ⟨sm, hDc⟩
      obtain ⟨p, hp, fv⟩ := hf.2 i v hv
      have hi : i < ps.length := (List.getElem?_eq_some_iff.mp hp).1
      have isf : IsFr K C Hc v true := by
        rcases fv.same sm with ⟨q', e, z⟩ | ⟨e, _⟩
        · exact .inl ⟨q', _, _, e, z, rfl⟩
        · exact .inr (.inl ⟨_, e, rfl⟩)
      refine ⟨rfl, _, rfl, v, true, rfl, isf, _, hDc, small1000 (by rw [List.length_map, List.length_replicate]; omega), same_grow hD sm, ?_⟩
      rw [List.replicate_succ', List.map_append]
      exact upd_same
    · rintro Hc ⟨sm, hDc⟩
      refine ⟨D, _, rfl, SqL.of hDc, ?_⟩
      have e : (List.replicate xs.length true).all id = true := by simp
      rw [e]
      exact q _ sm
end
end FR
set_option Elab.async false
set_option linter.all false
set_option maxRecDepth 100000
set_option maxHeartbeats 4000000
namespace FR
open PySem PySem.Spec PyProof.Rows L2
section
variable {P : Program} {w : World} {K : PySem.W.Frag} {mg : Str → Option Value} {base : Heap} {C fI pT gT pB gB : Addr} {fdI fdT fdB : FuncData}
/-! ### over_one_bottom -/
theorem pow_up {x : Int} {n m : Nat} (h : x.natAbs < 2 ^ n) (g : n ≤ m) : x.natAbs < 2 ^ m := Nat.lt_of_lt_of_le h (Nat.pow_le_pow_right (by decide) g)
theorem lcmP_sz {ps : List PI} (h : AllLf ps) (hs : ∀ p ∈ ps, p.1.natAbs < 2 ^ 30 ∧ p.2.natAbs < 2 ^ 30) : (lcmP ps).natAbs < 2 ^ (30 * ps.length + 1) := by
  induction ps using snoc_ind with
  | h0 => decide
  | h l x ih =>
    rw [lcmP_snoc]
    have i1 := ih h.init.1 fun p m => hs p (List.mem_append_left _ m)
    have z := lc_le (lcmP_pos h.init.1) h.init.2.1 i1 (hs x (List.mem_append_right _ (List.mem_singleton.mpr rfl))).2
    refine pow_up z ?_
    rw [List.length_append, List.length_singleton]
    omega
theorem lcm_step : ∀ (r : List PI) (a : Int), a ∣ r.foldl (fun a p => lc a p.2) a
  | [], a => Int.dvd_refl a
  | p :: r, a => Int.dvd_trans (lc_dvd a p.2).1 (lcm_step r (lc a p.2))
theorem lcm_take {ps : List PI} (h : AllLf ps) (i : Nat) : (lcmP (ps.take i)).natAbs ≤ (lcmP ps).natAbs := by
  have e : lcmP ps = (ps.drop i).foldl (fun a p => lc a p.2) (lcmP (ps.take i)) := by
    unfold lcmP
    rw [← List.foldl_append, List.take_append_drop]
  have d : lcmP (ps.take i) ∣ lcmP ps := by
    rw [e]
    exact lcm_step _ _
  have p := lcmP_pos h
  exact Nat.le_of_dvd (by omega) (Int.natAbs_dvd_natAbs.mpr d)
theorem Shr.of {ps : List PI} (h : AllLf ps) (few : ps.length ≤ 80) (hs : ∀ p ∈ ps, p.1.natAbs < 2 ^ 30 ∧ p.2.natAbs < 2 ^ 30) : Shr ps :=
  ⟨pow_up (lcmP_sz h hs) (by omega), fun p m => ⟨pow_up (hs p m).1 (by decide), pow_up (hs p m).2 (by decide)⟩⟩
theorem take_all {α : Type} {ps : List α} {n : Nat} (h : n = ps.length) : ps.take n = ps := by rw [h, List.take_length]
abbrev sOver : Stmt := top 18
abbrev NOv : List Str := ["fractions", "parts", "bottom", "part", "one"]
theorem scOv : FnScope NOv ["fractions"] (defScope sOver) := ⟨rfl, rfl, rfl, by decide +kernel, rfl, by decide +kernel, by decide +kernel⟩
def spOver (C : Addr) : Sp := fun vs H Q _ => ∃ (tp : Addr) (ps : List PI), vs = [.ref tp] ∧ Tf C H tp ps ∧
  ∀ a b H', H' a = some (.lst ((topsP ps (lcmP ps)).map V.int)) → H' b = some (.tup [.ref a, .int (lcmP ps)]) → Same H H' → Q (.ref b) H'
theorem ok_over {f fA : Addr} {fd fdA : FuncData} (F : Fun K "over_one_bottom" "over_one_bottom" sOver f fd) (k : FrK P w K mg base C fI pT gT pB gB fdI fdT fdB) (GA : FnOk P w K mg base CX0 4 fA fdA ["value"] (spAs C)) (mA : mg "as_fraction" = some (.ref fA))
    (kA : PySem.W.keepIn K (.ref fA) = true) (bA : Binds K fdA ["value"] []) (mL : mg "lcm" = some (.builtin "math.lcm")) : FnOk P w K mg base CX0 5 f fd ["fractions"] (spOver C) := by
  refine F.ok scOv (fun vs H Q E h => ?_) (fun cdv A outer s H vs Q E hr h => ?_)
  · obtain ⟨tp, ps, rfl, _⟩ := h
    rfl
  · obtain ⟨tp, ps, rfl, ⟨⟨xs, hx, hf⟩, hn, hl, hz⟩, q⟩ := h
    have hr4 := hr.mono (j := 4) (by decide)
    have hr2 := hr.mono (j := 2) (by decide)
    refine ⟨_, pss_cons (ps_setLc (i := 1) (own := [("one", 4)]) (g := gName 4) (tt := tYes) rfl scOv.nd rfl rfl (sw_true rfl rfl rfl (by decide +kernel)) (pi_tup (pv 0)) (blkOk_by (N := NOv) (sc := defScope sOver) (by decide +kernel))
        (fun _ _ _ _ _ => pg_name (i := 4) scOv.nd rfl (.inl rfl)) (fun _ _ _ _ _ => pts_nil) (fun _ _ _ _ _ => pe_call GA hr4 (by rfl) mA kA bA .nil pass0 (pa_cons (pv 4) pa_nil)))
      (pss_cons (ps_set (i := 2) scOv.nd rfl (Or.inr rfl) pe_int)
      (pss_cons (ps_for PassesOwn.never rfl (pi_list (pv 1)) (pg_name (i := 3) scOv.nd rfl (.inl rfl))
        (pss_one (ps_set (i := 2) scOv.nd rfl (Or.inr rfl) (pe_callBfun cr_lcm (by rfl) mL (pa_cons (pv 2) (pa_cons (pe_prop (pv 3) k.T.cl k.oB k.GB hr2 k.bB .nil pass0 rfl) pa_nil))))))
      (pss_one (ps_ret (pe_tup (pa_cons (pe_lc (own := [("part", 3)]) (g := gName 3) (tt := tYes) rfl scOv.nd (pi_list (pv 1)) (blkOk_by (N := NOv) (sc := defScope sOver) (by decide +kernel))
          (fun _ _ _ _ _ => pg_name (i := 3) scOv.nd rfl (.inl rfl)) (fun _ _ _ _ _ => pts_nil)
          (fun _ _ _ _ _ => pe_op op_mulW (pe_prop (pv 3) k.T.cl k.oT k.GT hr2 k.bT .nil pass0 rfl) (pe_op op_fdivX (pv 2) (pe_prop (pv 3) k.T.cl k.oB k.GB hr2 k.bB .nil pass0 rfl)))) (pa_cons (pv 2) pa_nil))))))), ?_⟩
    refine ⟨_, rfl, tp, rfl, ⟨_, SqT.of hx⟩, fun D hD => ?_⟩
    refine lc_tup (xs := xs) (fun i Hc => Same H Hc ∧ ∃ vs, Hc D = some (.lst vs) ∧ FRs C Hc vs (ps.take i)) ⟨same_new hD, [], upd_same, A2.nil⟩ (fun i Hc _ p => SqT.of (p.1 _ _ hx)) ?_ ?_
    · rintro i v Hc hv ⟨sm, vs, hDc, hr'⟩
      obtain ⟨p, hp, fv⟩ := hf.2 i v hv
      have hi : i < ps.length := (List.getElem?_eq_some_iff.mp hp).1
      refine ⟨rfl, _, rfl, v, p.1, p.2, rfl, fv.same sm, fun y H2 hy s2 => ?_⟩
      refine ⟨vs, s2 _ _ hDc, small1000 (by rw [hr'.1, List.length_take]; omega), same_grow hD (sm.trans s2), vs ++ [.ref y], upd_same, ?_⟩
      rw [take_snoc hp]
      exact A2.snoc ((hr'.same s2).updl (s2 _ _ hDc)) ⟨y, rfl, hy.updl (s2 _ _ hDc)⟩
    rintro H1 ⟨s1, vs, hD1, hv⟩
    rw [hf.1, List.take_length] at hv
    refine ⟨_, rfl, D, rfl, ⟨_, SqL.of hD1⟩, ?_⟩
    have few : vs.length ≤ 80 := by rw [hv.1]; exact hn
    refine for_list (xs := vs) (fun i σ Hc => Hc = H1 ∧ ∃ x3 : Option V, σ = [some (.ref tp), some (.ref D), some (.int (lcmP (ps.take i))), x3, none]) ⟨rfl, none, rfl⟩ (fun i σ Hc _ p => by rw [p.1]; exact SqL.of hD1) ?_ ?_
    · rintro i v σ Hc hvi ⟨rfl, x3, rfl⟩
      obtain ⟨p, hp, y, rfl, hy⟩ := hv.2 i v hvi
      obtain ⟨dy, hyi⟩ := id hy
      have mp : p ∈ ps := List.mem_of_getElem? hp
      have sub : ∀ q ∈ ps.take i, q ∈ ps := fun q hq => List.mem_of_mem_take hq
      have l1 : AllLf (ps.take i) := fun q hq => hl q (sub q hq)
      have z1 := Nat.lt_of_le_of_lt (lcm_take hl i) hz.1
      have i5 : (ps.take i).length ≤ 80 := by rw [List.length_take]; omega
      refine ⟨_, rfl, _, rfl, y, dy, _, rfl, hyi, y, dy, _, _, rfl, hyi, fl_bot _ _, _, _, rfl, lcmP_pos l1, (hl p mp).1, pow_up z1 (by decide), pow_up (hz.2 p mp).2 (by decide), rfl, some (.ref y), ?_⟩
      rw [take_snoc hp, lcmP_snoc]
      rfl
    rintro σ Hc ⟨rfl, x3, rfl⟩
    rw [take_all hv.1]
    refine ⟨_, rfl, D, rfl, ⟨_, SqL.of hD1⟩, fun D2 hD2 => ?_⟩
    have mz := hz.1
    refine lc_list (xs := vs) (fun i Hx => Same Hc Hx ∧ Hx D2 = some (.lst ((topsP (ps.take i) (lcmP ps)).map V.int))) ⟨same_new hD2, upd_same⟩ (fun i Hx _ p => SqL.of (p.1 _ _ hD1)) ?_ ?_
    · rintro i v Hx hvi ⟨sm, hDx⟩
      obtain ⟨p, hp, y, rfl, hy⟩ := (hv.same sm).2 i v hvi
      obtain ⟨dy, hyi⟩ := id hy
      have mp : p ∈ ps := List.mem_of_getElem? hp
      have hi : i < ps.length := (List.getElem?_eq_some_iff.mp hp).1
      have dz := fdiv_le (lcmP_dvd ps p mp) (hl p mp).1
      refine ⟨rfl, _, rfl, y, dy, _, rfl, hyi, y, dy, _, _, rfl, hyi, fl_top _ _, ?_⟩
      refine ⟨_, rfl, _, rfl, y, dy, _, rfl, hyi, y, dy, _, _, rfl, hyi, fl_bot _ _, _, _, rfl, rfl, div_ok (hl p mp).ne (hz.2 p mp).2 (by decide) (by decide), _, _, rfl, rfl, wide_mul (hz.2 p mp).1 (Nat.lt_of_le_of_lt dz mz) (by decide) (by decide) (by decide), ?_⟩
      refine ⟨_, hDx, small1000 (by unfold topsP; rw [List.length_map, List.length_map, List.length_take]; omega), same_grow hD2 sm, ?_⟩
      unfold topsP
      rw [take_snoc hp, List.map_append, List.map_append]
      exact upd_same
    rintro Hx ⟨sm, hDx⟩
    rw [take_all hv.1] at hDx
    refine ⟨_, rfl, small1000 (by show 1 ≤ 1000; decide), fun b hb => ?_⟩
    exact q D2 b _ (same_new hb _ _ hDx) upd_same ((s1.trans sm).trans (same_new hb))
end
end FR
/-! cleared forms over the rational numbers: made step by step, unique -/
set_option linter.all false
namespace RF
abbrev Vec := Nat → Rat
/-- the sum of f 0 .. f (k - 1) -/
def S (k : Nat) (f : Nat → Rat) : Rat := match k with
  | 0 => 0
  | k + 1 => S k f + f k
theorem S_congr {k : Nat} {f g : Nat → Rat} (h : ∀ i, i < k → f i = g i) : S k f = S k g := by
  induction k with
  | zero => rfl
  | succ k ih => simp only [S]; rw [ih fun i hi => h i (Nat.lt_succ_of_lt hi), h k (Nat.lt_succ_self k)]
theorem S_zero {k : Nat} {f : Nat → Rat} (h : ∀ i, i < k → f i = 0) : S k f = 0 := by
  induction k with
  | zero => rfl
  | succ k ih => simp only [S]; rw [ih fun i hi => h i (Nat.lt_succ_of_lt hi), h k (Nat.lt_succ_self k)]; grind
theorem S_add {k : Nat} {f g : Nat → Rat} : S k (fun i => f i + g i) = S k f + S k g := by
  induction k with
  | zero => simp only [S]; grind
  | succ k ih => simp only [S]; rw [ih]; grind
theorem S_mul {k : Nat} {f : Nat → Rat} {c : Rat} : S k (fun i => c * f i) = c * S k f := by
  induction k with
  | zero => simp only [S]; grind
  | succ k ih => simp only [S]; rw [ih]; grind
theorem S_one {k : Nat} {f : Nat → Rat} {m : Nat} (hm : m < k) (h : ∀ i, i < k → i ≠ m → f i = 0) : S k f = f m := by
  induction k with
  | zero => omega
  | succ k ih =>
    simp only [S]
    by_cases e : m = k
    · subst e
      rw [S_zero fun i hi => h i (by omega) (by omega)]; grind
    · rw [ih (by omega) fun i hi hn => h i (by omega) hn, h k (by omega) (by omega)]; grind
theorem S_ne {k : Nat} {f : Nat → Rat} (h : S k f ≠ 0) : ∃ i, i < k ∧ f i ≠ 0 := by
  by_cases z : ∃ i, i < k ∧ f i ≠ 0
  · exact z
  · exact (h (S_zero fun i hi => Classical.byContradiction fun q => z ⟨i, hi, q⟩)).elim
/-! ### spans -/
inductive Sp (L : List Vec) : Vec → Prop
  | zero : Sp L (fun _ => 0)
  | mem {v : Vec} : v ∈ L → Sp L v
  | add {v u : Vec} : Sp L v → Sp L u → Sp L (fun j => v j + u j)
  | smul {v : Vec} (c : Rat) : Sp L v → Sp L (fun j => c * v j)
theorem Sp.of_eq {L : List Vec} {v u : Vec} (h : Sp L v) (e : ∀ j, u j = v j) : Sp L u := by
  have : u = v := funext e
  rw [this]; exact h
theorem Sp.mono {L L' : List Vec} {v : Vec} (h : Sp L v) (s : ∀ x, x ∈ L → Sp L' x) : Sp L' v := by
  induction h with
  | zero => exact .zero
  | mem m => exact s _ m
  | add _ _ a b => exact .add a b
  | smul c _ a => exact .smul c a
theorem Sp.sub {L : List Vec} {v u : Vec} (c : Rat) (h : Sp L v) (g : Sp L u) : Sp L (fun j => v j - c * u j) :=
  (Sp.add h (Sp.smul (-c) g)).of_eq fun j => by grind
theorem Sp.sum {L : List Vec} {k : Nat} {c : Nat → Rat} {R : Nat → Vec} (h : ∀ i, i < k → Sp L (R i)) : Sp L (fun j => S k fun i => c i * R i j) := by
  induction k with
  | zero => exact .zero
  | succ k ih => exact .add (ih fun i hi => h i (by omega)) (.smul (c k) (h k (by omega)))
/-! ### the form -/
structure Form (n k : Nat) (R : Nat → Vec) (P : Nat → Nat) (L : List Vec) : Prop where
  pn : ∀ i, i < k → P i < n
  piv : ∀ i m, i < k → m < k → R i (P m) = if i = m then 1 else 0
  lead : ∀ i j, i < k → j < P i → R i j = 0
  spn : ∀ i, i < k → Sp L (R i)
  phi : ∀ x, x ∈ L → ∀ j, j < n → x j = S k fun i => x (P i) * R i j
theorem Form.phi_sp {n k : Nat} {R : Nat → Vec} {P : Nat → Nat} {L : List Vec} (F : Form n k R P L) {x : Vec} (h : Sp L x) : ∀ j, j < n → x j = S k fun i => x (P i) * R i j := by
  induction h with
  | zero => intro j hj; exact (S_zero fun i hi => by grind).symm
  | mem m => exact F.phi _ m
  | add _ _ a b =>
    intro j hj
    show _ + _ = _
    rw [a j hj, b j hj, ← S_add]
    exact S_congr fun i hi => by grind
  | smul c _ a =>
    intro j hj
    show c * _ = _
    rw [a j hj, ← S_mul]
    exact S_congr fun i hi => by grind
theorem Form.inj {n k : Nat} {R : Nat → Vec} {P : Nat → Nat} {L : List Vec} (F : Form n k R P L) {i m : Nat} (hi : i < k) (hm : m < k) (e : P i = P m) : i = m := by
  have a := F.piv i i hi hi
  have b := F.piv i m hi hm
  rw [← e, a, if_pos rfl] at b
  by_cases z : i = m
  · exact z
  · rw [if_neg z] at b; exact absurd b (by decide)
theorem Form.place {n k k' : Nat} {R R' : Nat → Vec} {P P' : Nat → Nat} {L : List Vec} (F : Form n k R P L) (G : Form n k' R' P' L) {i : Nat} (hi : i < k) : ∃ m, m < k' ∧ P i = P' m := by
  have e := G.phi_sp (F.spn i hi) (P i) (F.pn i hi)
  rw [F.piv i i hi hi, if_pos rfl] at e
  obtain ⟨m, hm, hne⟩ := S_ne (k := k') (f := fun m => R i (P' m) * R' m (P i)) (by rw [← e]; decide)
  refine ⟨m, hm, ?_⟩
  have h1 : R i (P' m) ≠ 0 := fun z => hne (by rw [z]; grind)
  have h2 : R' m (P i) ≠ 0 := fun z => hne (by rw [z]; grind)
  have a : ¬ P' m < P i := fun z => h1 (F.lead i _ hi z)
  have b : ¬ P i < P' m := fun z => h2 (G.lead m _ hm z)
  omega
theorem Form.uniq {n k k' : Nat} {R R' : Nat → Vec} {P P' : Nat → Nat} {L : List Vec} (F : Form n k R P L) (G : Form n k' R' P' L) {i : Nat} (hi : i < k) : ∃ m, m < k' ∧ P i = P' m ∧ ∀ j, j < n → R i j = R' m j := by
  obtain ⟨m, hm, e⟩ := F.place G hi
  refine ⟨m, hm, e, fun j hj => ?_⟩
  rw [G.phi_sp (F.spn i hi) j hj, S_one hm]
  · rw [← e, F.piv i i hi hi, if_pos rfl]; grind
  · intro m' hm' ne
    obtain ⟨i', hi', e'⟩ := G.place F hm'
    have : i ≠ i' := fun z => ne (G.inj hm' hm (by rw [e', ← z, e]))
    rw [e', F.piv i i' hi hi', if_neg this]; grind
/-- one line more that hangs on the others -/
theorem Form.hang {n k : Nat} {R : Nat → Vec} {P : Nat → Nat} {L : List Vec} (F : Form n k R P L) {x : Vec} (h : ∀ j, j < n → x j = S k fun i => x (P i) * R i j) : Form n k R P (L ++ [x]) :=
  ⟨F.pn, F.piv, F.lead, fun i hi => (F.spn i hi).mono fun y hy => .mem (List.mem_append_left _ hy), fun y hy => by
    rcases List.mem_append.mp hy with z | z
    · exact F.phi y z
    · rw [List.mem_singleton.mp z]; exact h⟩
/-- what is left of a line -/
def rest (k : Nat) (R : Nat → Vec) (P : Nat → Nat) (x : Vec) : Vec := fun j => x j - S k fun i => x (P i) * R i j
def newR (k : Nat) (R : Nat → Vec) (u : Vec) (q : Nat) : Nat → Vec := fun i j => if i < k then R i j - R i q * (u j / u q) else u j / u q
def newP (k : Nat) (P : Nat → Nat) (q : Nat) : Nat → Nat := fun i => if i < k then P i else q
theorem rest_piv {n k : Nat} {R : Nat → Vec} {P : Nat → Nat} {L : List Vec} (F : Form n k R P L) {x : Vec} {m : Nat} (hm : m < k) : rest k R P x (P m) = 0 := by
  unfold rest
  rw [S_one hm, F.piv m m hm hm, if_pos rfl]
  · grind
  · intro i hi ne
    rw [F.piv i m hi hm, if_neg ne]; grind
theorem Form.take {n k : Nat} {R : Nat → Vec} {P : Nat → Nat} {L : List Vec} (F : Form n k R P L) {x : Vec} {q : Nat} (hq : q < n) (h0 : ∀ j, j < q → rest k R P x j = 0) (h1 : rest k R P x q ≠ 0) :
    Form n (k + 1) (newR k R (rest k R P x) q) (newP k P q) (L ++ [x]) := by
  have ru := fun m hm => rest_piv F (x := x) (m := m) hm
  have spu : Sp (L ++ [x]) (rest k R P x) := by
    have a : Sp (L ++ [x]) x := .mem (List.mem_append_right _ (List.mem_singleton.mpr rfl))
    have b : Sp (L ++ [x]) (fun j => S k fun i => x (P i) * R i j) := Sp.sum fun i hi => (F.spn i hi).mono fun y hy => .mem (List.mem_append_left _ hy)
    exact (a.sub 1 b).of_eq fun j => by show _ - _ = _; grind
  have hx : ∀ j, x j = rest k R P x j + S k fun i => x (P i) * R i j := fun j => by show _ = (_ - _) + _; grind
  generalize rest k R P x = u at *
  have ne : ∀ m, m < k → P m ≠ q := fun m hm z => h1 (by rw [← z]; exact ru m hm)
  have spn' : ∀ i, i < k + 1 → Sp (L ++ [x]) (newR k R u q i) := fun i hi => by
    have b : Sp (L ++ [x]) (fun j => u j / u q) := (Sp.smul (1 / u q) spu).of_eq fun j => by grind
    by_cases z : i < k
    · have a := (F.spn i z).mono (L' := L ++ [x]) fun y hy => .mem (List.mem_append_left _ hy)
      exact (a.sub (R i q) b).of_eq fun j => by show (if i < k then _ else _) = _; rw [if_pos z]
    · exact b.of_eq fun j => by show (if i < k then _ else _) = _; rw [if_neg z]
  refine ⟨fun i hi => ?_, fun i m hi hm => ?_, fun i j hi hj => ?_, spn', fun y hy j hj => ?_⟩
  · show (if i < k then P i else q) < n
    split
    · exact F.pn i ‹_›
    · exact hq
  · show newR k R u q i (if m < k then P m else q) = _
    by_cases z : m < k
    · rw [if_pos z]
      show (if i < k then R i (P m) - R i q * (u (P m) / u q) else u (P m) / u q) = _
      rw [ru m z]
      by_cases y : i < k
      · rw [if_pos y, F.piv i m y z]; split <;> grind
      · rw [if_neg y, if_neg (by omega)]; grind
    · rw [if_neg z]
      show (if i < k then R i q - R i q * (u q / u q) else u q / u q) = _
      have one : u q / u q = 1 := by grind
      rw [one]
      by_cases y : i < k
      · rw [if_pos y, if_neg (by omega)]; grind
      · rw [if_neg y, if_pos (by omega)]
  · have hj' : j < (if i < k then P i else q) := hj
    show (if i < k then R i j - R i q * (u j / u q) else u j / u q) = 0
    by_cases y : i < k
    · rw [if_pos y] at hj' ⊢
      rw [F.lead i j y hj']
      by_cases g : j < q
      · rw [h0 j g]; grind
      · have : R i q = 0 := F.lead i q y (by omega)
        rw [this]; grind
    · rw [if_neg y] at hj' ⊢
      rw [h0 j hj']; grind
  · have old : ∀ z : Vec, (∀ j, j < n → z j = S k fun i => z (P i) * R i j) → z j = S (k + 1) fun i => z (newP k P q i) * newR k R u q i j := fun z hz => by
      simp only [S]
      have e1 : S k (fun i => z (newP k P q i) * newR k R u q i j) = S k fun i => z (P i) * R i j + (-(u j / u q)) * (z (P i) * R i q) := S_congr fun i hi => by
        show z (if i < k then P i else q) * (if i < k then R i j - R i q * (u j / u q) else u j / u q) = _
        rw [if_pos hi, if_pos hi]; grind
      have e2 : z (newP k P q k) * newR k R u q k j = z q * (u j / u q) := by
        show z (if k < k then P k else q) * (if k < k then R k j - R k q * (u j / u q) else u j / u q) = _
        rw [if_neg (by omega), if_neg (by omega)]
      rw [e1, e2, S_add, S_mul, ← hz j hj, ← hz q hq]; grind
    rcases List.mem_append.mp hy with z | z
    · exact old y (F.phi y z)
    · rw [List.mem_singleton.mp z]
      simp only [S]
      have e1 : S k (fun i => x (newP k P q i) * newR k R u q i j) = S k fun i => x (P i) * R i j + (-(u j / u q)) * (x (P i) * R i q) := S_congr fun i hi => by
        show x (if i < k then P i else q) * (if i < k then R i j - R i q * (u j / u q) else u j / u q) = _
        rw [if_pos hi, if_pos hi]; grind
      have e2 : x (newP k P q k) * newR k R u q k j = x q * (u j / u q) := by
        show x (if k < k then P k else q) * (if k < k then R k j - R k q * (u j / u q) else u j / u q) = _
        rw [if_neg (by omega), if_neg (by omega)]
      rw [e1, e2, S_add, S_mul]
      have a := hx j
      have b := hx q
      generalize S k (fun i => x (P i) * R i j) = sj at *
      generalize S k (fun i => x (P i) * R i q) = sq at *
      rw [a, b]; grind
theorem Form.start {n : Nat} {R : Nat → Vec} {P : Nat → Nat} : Form n 0 R P [] :=
  ⟨fun i h => by omega, fun i m h => by omega, fun i j h => by omega, fun i h => by omega, fun x h => by cases h⟩
end RF
set_option linter.all false
/-! the cleared form made column by column -/
namespace RF
structure PForm (c k : Nat) (R : Nat → Vec) (P : Nat → Nat) (Lf L : List Vec) : Prop where
  pc : ∀ i, i < k → P i < c
  up : ∀ i m, i < m → m < k → P i < P m
  piv : ∀ i m, i < k → m < k → R i (P m) = if i = m then 1 else 0
  lead : ∀ i j, i < k → j < P i → R i j = 0
  spn : ∀ i, i < k → Sp L (R i)
  lz : ∀ w, w ∈ Lf → ∀ j, j < c → w j = 0
  ls : ∀ w, w ∈ Lf → Sp L w
  phi : ∀ x, x ∈ L → Sp Lf (fun j => x j - S k fun i => x (P i) * R i j)
theorem PForm.start {R : Nat → Vec} {P : Nat → Nat} {L : List Vec} : PForm 0 0 R P L L :=
  ⟨fun i h => by omega, fun i m h g => by omega, fun i m h => by omega, fun i j h => by omega, fun i h => by omega, fun w h j g => by omega, fun w h => .mem h, fun x h => (Sp.mem h).of_eq fun j => by simp only [S]; grind⟩
theorem PForm.skip {c k : Nat} {R : Nat → Vec} {P : Nat → Nat} {Lf L : List Vec} (F : PForm c k R P Lf L) (h : ∀ w, w ∈ Lf → w c = 0) : PForm (c + 1) k R P Lf L :=
  ⟨fun i hi => Nat.lt_succ_of_lt (F.pc i hi), F.up, F.piv, F.lead, F.spn, fun w hw j hj => by
    by_cases e : j = c
    · rw [e]; exact h w hw
    · exact F.lz w hw j (by omega), F.ls, F.phi⟩
theorem sp_zero {Lf : List Vec} {v : Vec} (h : Sp Lf v) {j : Nat} (z : ∀ w, w ∈ Lf → w j = 0) : v j = 0 := by
  induction h with
  | zero => rfl
  | mem m => exact z _ m
  | add _ _ a b => show _ + _ = _; rw [a, b]; grind
  | smul c _ a => show c * _ = _; rw [a]; grind
theorem PForm.done {n k : Nat} {R : Nat → Vec} {P : Nat → Nat} {Lf L : List Vec} (F : PForm n k R P Lf L) : Form n k R P L :=
  ⟨F.pc, F.piv, F.lead, F.spn, fun x hx j hj => by
    have z := sp_zero (F.phi x hx) (j := j) fun w hw => F.lz w hw j hj
    have z : x j - (S k fun i => x (P i) * R i j) = 0 := z
    grind⟩
/-- a row less so many times the line a that it has 0 at c -/
def wo (a : Vec) (c : Nat) (w : Vec) : Vec := fun j => w j - w c * (a j / a c)
theorem sp_wo {Lf L' : List Vec} {a v : Vec} {c : Nat} (h : Sp Lf v) (m : ∀ w, w ∈ Lf → Sp L' (wo a c w)) : Sp L' (wo a c v) := by
  induction h with
  | zero => exact Sp.zero.of_eq fun j => by show (0 : Rat) - 0 * _ = 0; grind
  | mem z => exact m _ z
  | add _ _ x y => exact (Sp.add x y).of_eq fun j => by unfold wo; grind
  | smul c _ x => exact (Sp.smul c x).of_eq fun j => by unfold wo; grind
theorem PForm.step {c k : Nat} {R : Nat → Vec} {P : Nat → Nat} {Lf Lf' L : List Vec} {a : Vec} (F : PForm c k R P Lf L) (ha : a ∈ Lf) (h : a c ≠ 0)
    (s1 : ∀ y, y ∈ Lf' → ∃ w, w ∈ Lf ∧ y = wo a c w) (s2 : ∀ w, w ∈ Lf → wo a c w ∈ Lf' ∨ w = a) :
    PForm (c + 1) (k + 1) (newR k R a c) (newP k P c) Lf' L := by
  have one : a c / a c = 1 := by grind
  have az : ∀ j, j < c → a j = 0 := F.lz a ha
  have spa : Sp L (fun j => a j / a c) := (Sp.smul (1 / a c) (F.ls a ha)).of_eq fun j => by grind
  have ne : ∀ i, i < k → P i ≠ c := fun i hi => Nat.ne_of_lt (F.pc i hi)
  refine ⟨fun i hi => ?_, fun i m hi hm => ?_, fun i m hi hm => ?_, fun i j hi hj => ?_, fun i hi => ?_, fun y hy j hj => ?_, fun y hy => ?_, fun x hx => ?_⟩
  · show (if i < k then P i else c) < c + 1
    split
    · exact Nat.lt_succ_of_lt (F.pc i ‹_›)
    · omega
  · show (if i < k then P i else c) < (if m < k then P m else c)
    by_cases z : m < k
    · rw [if_pos z, if_pos (by omega)]; exact F.up i m hi z
    · rw [if_neg z, if_pos (by omega)]; exact F.pc i (by omega)
  · show (if i < k then R i (if m < k then P m else c) - R i c * (a (if m < k then P m else c) / a c) else a (if m < k then P m else c) / a c) = _
    by_cases z : m < k
    · rw [if_pos z, az _ (F.pc m z)]
      by_cases y : i < k
      · rw [if_pos y, F.piv i m y z]; split <;> grind
      · rw [if_neg y, if_neg (by omega)]; grind
    · rw [if_neg z, one]
      by_cases y : i < k
      · rw [if_pos y, if_neg (by omega)]; grind
      · rw [if_neg y, if_pos (by omega)]
  · have hj' : j < (if i < k then P i else c) := hj
    show (if i < k then R i j - R i c * (a j / a c) else a j / a c) = 0
    by_cases y : i < k
    · rw [if_pos y] at hj' ⊢
      rw [F.lead i j y hj', az j (Nat.lt_trans hj' (F.pc i y))]; grind
    · rw [if_neg y] at hj' ⊢
      rw [az j hj']; grind
  · by_cases y : i < k
    · exact ((F.spn i y).sub (R i c) spa).of_eq fun j => by show (if i < k then _ else _) = _; rw [if_pos y]
    · exact spa.of_eq fun j => by show (if i < k then _ else _) = _; rw [if_neg y]
  · obtain ⟨w, hw, rfl⟩ := s1 y hy
    unfold wo
    by_cases e : j = c
    · subst e; rw [one]; grind
    · rw [az j (by omega), F.lz w hw j (by omega)]; grind
  · obtain ⟨w, hw, rfl⟩ := s1 y hy
    exact ((F.ls w hw).sub (w c) spa).of_eq fun j => rfl
  · have t := sp_wo (a := a) (c := c) (L' := Lf') (F.phi x hx) fun w hw => by
      rcases s2 w hw with z | z
      · exact .mem z
      · subst z
        exact Sp.zero.of_eq fun j => by unfold wo; grind
    refine t.of_eq fun j => ?_
    show x j - (S k (fun i => x (newP k P c i) * newR k R a c i j) + x (newP k P c k) * newR k R a c k j) = (x j - S k fun i => x (P i) * R i j) - (x c - S k fun i => x (P i) * R i c) * (a j / a c)
    have e1 : S k (fun i => x (newP k P c i) * newR k R a c i j) = S k fun i => x (P i) * R i j + (-(a j / a c)) * (x (P i) * R i c) := S_congr fun i hi => by
      show x (if i < k then P i else c) * (if i < k then R i j - R i c * (a j / a c) else a j / a c) = _
      rw [if_pos hi, if_pos hi]; grind
    have e2 : x (newP k P c k) * newR k R a c k j = x c * (a j / a c) := by
      show x (if k < k then P k else c) * (if k < k then R k j - R k c * (a j / a c) else a j / a c) = _
      rw [if_neg (by omega), if_neg (by omega)]
    rw [e1, e2, S_add, S_mul]; grind
end RF
set_option linter.all false
/-! rows of integers over one divisor -/
namespace RF
def ent (l : List Int) (j : Nat) : Int := l.getD j 0
theorem ent_none {l : List Int} {j : Nat} (h : l.length ≤ j) : ent l j = 0 := by unfold ent; rw [List.getD_eq_getElem?_getD, List.getElem?_eq_none h]; rfl
theorem ent_some {l : List Int} {j : Nat} {x : Int} (h : l[j]? = some x) : ent l j = x := by unfold ent; rw [List.getD_eq_getElem?_getD, h]; rfl
theorem get_ent {l : List Int} {j : Nat} (h : j < l.length) : l[j]? = some (ent l j) := by rw [List.getElem?_eq_getElem h, ent_some (List.getElem?_eq_getElem h)]
theorem ent_zip {f : Int → Int → Int} (f0 : f 0 0 = 0) {l m : List Int} (hl : l.length = m.length) (j : Nat) : ent (List.zipWith f l m) j = f (ent l j) (ent m j) := by
  by_cases h : j < l.length
  · refine ent_some ?_
    rw [List.getElem?_zipWith, get_ent h, get_ent (by omega)]
  · rw [ent_none (by rw [List.length_zipWith]; omega), ent_none (by omega), ent_none (by omega), f0]
theorem ent_map {f : Int → Int} (f0 : f 0 = 0) {l : List Int} (j : Nat) : ent (l.map f) j = f (ent l j) := by
  by_cases h : j < l.length
  · refine ent_some ?_
    rw [List.getElem?_map, get_ent h]; rfl
  · rw [ent_none (by rw [List.length_map]; omega), ent_none (by omega), f0]
theorem ext_ent {l m : List Int} (hl : l.length = m.length) (h : ∀ j, j < l.length → ent l j = ent m j) : l = m := by
  refine List.ext_getElem? fun j => ?_
  by_cases z : j < l.length
  · rw [get_ent z, get_ent (by omega), h j z]
  · rw [List.getElem?_eq_none (by omega), List.getElem?_eq_none (by omega)]
def vec (l : List Int) : Vec := fun j => (ent l j : Rat)
/-! ### what is left -/
def restStep (line r : List Int) (rp : List Int × Nat) : List Int := if ent line rp.2 ≠ 0 then List.zipWith (fun e o => e - ent line rp.2 * o) r rp.1 else r
def restL (d : Int) (prs : List (List Int × Nat)) (line : List Int) : List Int := prs.foldl (restStep line) (line.map (d * ·))
theorem restStep_len {line r : List Int} {rp : List Int × Nat} (h : r.length = rp.1.length) : (restStep line r rp).length = r.length := by
  unfold restStep
  split
  · rw [List.length_zipWith]; omega
  · rfl
theorem restStep_ent {line r : List Int} {rp : List Int × Nat} (h : r.length = rp.1.length) (j : Nat) : ent (restStep line r rp) j = ent r j - ent line rp.2 * ent rp.1 j := by
  unfold restStep
  split
  · rw [ent_zip (by simp) h]
  · next z =>
    have z : ent line rp.2 = 0 := Classical.byContradiction z
    rw [z]; simp
theorem rest_len {d : Int} {line : List Int} {n : Nat} (hn : line.length = n) : ∀ {prs : List (List Int × Nat)}, (∀ p, p ∈ prs → p.1.length = n) → (restL d prs line).length = n := by
  have go : ∀ (prs : List (List Int × Nat)) (r : List Int), r.length = n → (∀ p, p ∈ prs → p.1.length = n) → (prs.foldl (restStep line) r).length = n := by
    intro prs
    induction prs with
    | nil => intro r h _; exact h
    | cons p ps ih =>
      intro r h hp
      refine ih _ ?_ fun q hq => hp q (List.mem_cons_of_mem _ hq)
      rw [restStep_len (by rw [h, hp p List.mem_cons_self])]; exact h
  intro prs hp
  exact go prs _ (by rw [List.length_map, hn]) hp
/-- a linear form of the rest -/
theorem rest_lin {d : Int} {line : List Int} {n : Nat} (hn : line.length = n) {prs : List (List Int × Nat)} (hp : ∀ p, p ∈ prs → p.1.length = n) {A : List Int → Prop} (h0 : A (line.map (d * ·))) (h1 : ∀ r p, p ∈ prs → r.length = n → A r → A (restStep line r p)) : A (restL d prs line) := by
  have go : ∀ (qs : List (List Int × Nat)) (r : List Int), r.length = n → A r → (∀ p, p ∈ qs → p ∈ prs) → A (qs.foldl (restStep line) r) := by
    intro qs
    induction qs with
    | nil => intro r _ h _; exact h
    | cons p ps ih =>
      intro r h a hq
      have m := hq p List.mem_cons_self
      refine ih _ ?_ (h1 r p m h a) fun q hh => hq q (List.mem_cons_of_mem _ hh)
      rw [restStep_len (by rw [h, hp p m])]; exact h
  exact go prs _ (by rw [List.length_map, hn]) h0 fun p h => h
theorem rest_ent {d : Int} {line : List Int} {n : Nat} (hn : line.length = n) {rows : List (List Int)} {places : List Nat} (hl : rows.length = places.length) (hr : ∀ r, r ∈ rows → r.length = n) (j : Nat) :
    (ent (restL d (rows.zip places) line) j : Rat) = d * ent line j - S rows.length fun i => (ent line (places.getD i 0) : Rat) * ent (rows.getD i []) j := by
  have go : ∀ (k : Nat), k ≤ rows.length → (((rows.zip places).take k).foldl (restStep line) (line.map (d * ·))).length = n ∧ (ent (((rows.zip places).take k).foldl (restStep line) (line.map (d * ·))) j : Rat) = d * ent line j - S k fun i => (ent line (places.getD i 0) : Rat) * ent (rows.getD i []) j := by
    intro k
    induction k with
    | zero =>
      intro _
      refine ⟨by rw [List.take_zero]; show (line.map _).length = n; rw [List.length_map, hn], ?_⟩
      rw [List.take_zero]
      show (ent (line.map (d * ·)) j : Rat) = _
      rw [ent_map (by simp)]
      simp only [S]
      rw [Rat.intCast_mul]; grind
    | succ k ih =>
      intro hk
      obtain ⟨i1, i2⟩ := ih (by omega)
      have g1 : rows[k]? = some rows[k] := List.getElem?_eq_getElem (by omega)
      have g2 : places[k]? = some places[k] := List.getElem?_eq_getElem (by omega)
      have e : (rows.zip places)[k]? = some (rows[k], places[k]) := by rw [List.getElem?_zip_eq_some]; exact ⟨g1, g2⟩
      have rk := hr rows[k] (List.getElem_mem _)
      have e2 : (rows.zip places).take (k + 1) = (rows.zip places).take k ++ [(rows[k], places[k])] := by rw [List.take_succ, e]; rfl
      rw [e2, List.foldl_append]
      show (restStep line (((rows.zip places).take k).foldl (restStep line) (line.map (d * ·))) (rows[k], places[k])).length = n ∧ (ent (restStep line (((rows.zip places).take k).foldl (restStep line) (line.map (d * ·))) (rows[k], places[k])) j : Rat) = _
      rw [restStep_len (by rw [i1, rk]), restStep_ent (by rw [i1, rk])]
      refine ⟨i1, ?_⟩
      simp only [S]
      rw [Rat.intCast_sub, i2, Rat.intCast_mul]
      have a : rows.getD k [] = rows[k] := by rw [List.getD_eq_getElem?_getD, g1]; rfl
      have b : places.getD k 0 = places[k] := by rw [List.getD_eq_getElem?_getD, g2]; rfl
      rw [a, b]; grind
  have z := (go rows.length (Nat.le_refl _)).2
  rw [List.take_of_length_le (by rw [List.length_zip]; omega)] at z
  exact z
/-! ### a line more -/
def clearedBy (rows : List (List Int)) (line : List Int) (q : Nat) (d : Int) : List (List Int) := rows.map fun row => List.zipWith (fun e o => (e * ent line q - ent row q * o).fdiv d) row line
structure EI (n : Nat) (rows : List (List Int)) (places : List Nat) (d : Int) (L : List Vec) : Prop where
  ln : rows.length = places.length
  wd : ∀ r, r ∈ rows → r.length = n
  d0 : d ≠ 0
  fm : Form n rows.length (fun i j => (ent (rows.getD i []) j : Rat) / d) (fun i => places.getD i 0) L
  m2 : rows.length ≤ 3 → ∀ r, r ∈ rows → ∀ s, s ∈ rows → ∀ j l, d ∣ ent r j * ent s l - ent r l * ent s j
theorem EI.start {n : Nat} : EI n [] [] 1 [] := ⟨rfl, fun r h => (by cases h), by decide, Form.start, fun _ r h => (by cases h)⟩
theorem EI.rest {n : Nat} {rows : List (List Int)} {places : List Nat} {d : Int} {L : List Vec} (I : EI n rows places d L) {line : List Int} (hn : line.length = n) (j : Nat) :
    (ent (restL d (rows.zip places) line) j : Rat) = d * RF.rest rows.length (fun i j => (ent (rows.getD i []) j : Rat) / d) (fun i => places.getD i 0) (vec line) j := by
  rw [rest_ent hn I.ln I.wd j]
  unfold RF.rest vec
  have d0 : (d : Rat) ≠ 0 := fun z => I.d0 (Rat.intCast_inj.mp z)
  have e : (d : Rat) * S rows.length (fun i => (ent line (places.getD i 0) : Rat) * ((ent (rows.getD i []) j : Rat) / d)) = S rows.length fun i => (ent line (places.getD i 0) : Rat) * ent (rows.getD i []) j := by
    rw [← S_mul]
    exact S_congr fun i hi => by grind
  rw [← e]; grind
theorem EI.hang {n : Nat} {rows : List (List Int)} {places : List Nat} {d : Int} {L : List Vec} (I : EI n rows places d L) {line : List Int} (hn : line.length = n) (h : ∀ j, j < n → ent (restL d (rows.zip places) line) j = 0) : EI n rows places d (L ++ [vec line]) :=
  ⟨I.ln, I.wd, I.d0, I.fm.hang fun j hj => by
    have e := I.rest hn j
    rw [h j hj] at e
    have d0 : (d : Rat) ≠ 0 := fun z => I.d0 (Rat.intCast_inj.mp z)
    have z : RF.rest rows.length (fun i j => (ent (rows.getD i []) j : Rat) / d) (fun i => places.getD i 0) (vec line) j = 0 := by grind
    unfold RF.rest at z
    grind, I.m2⟩
theorem mem_two {α : Type} {l : List α} (h : l.length ≤ 2) {x y z : α} (hx : x ∈ l) (hy : y ∈ l) (hz : z ∈ l) : x = y ∨ z = x ∨ z = y := by
  match l, h with
  | [], _ => cases hx
  | [a], _ => simp at hx hy; exact .inl (hx.trans hy.symm)
  | [a, b], _ =>
    simp at hx hy hz
    rcases hx with rfl | rfl <;> rcases hy with rfl | rfl <;> rcases hz with rfl | rfl <;> simp
/-- the minor of three rows -/
def m3 (x y z : List Int) (j l q : Nat) : Int := ent z q * (ent x j * ent y l - ent x l * ent y j) - ent y q * (ent x j * ent z l - ent x l * ent z j) + ent x q * (ent y j * ent z l - ent y l * ent z j)
theorem rest_minor {n : Nat} {rows : List (List Int)} {places : List Nat} {d : Int} {line : List Int} (hn : line.length = n) (hl : rows.length = places.length) (hr : ∀ r, r ∈ rows → r.length = n)
    (m2 : ∀ r, r ∈ rows → ∀ s, s ∈ rows → ∀ j l, d ∣ ent r j * ent s l - ent r l * ent s j) {r : List Int} (h : r ∈ rows) (j l : Nat) : d ∣ ent r j * ent (restL d (rows.zip places) line) l - ent r l * ent (restL d (rows.zip places) line) j := by
  have mem : ∀ p, p ∈ rows.zip places → p.1 ∈ rows := fun p hp => (List.of_mem_zip (show (p.1, p.2) ∈ _ from hp)).1
  refine rest_lin (A := fun s => d ∣ ent r j * ent s l - ent r l * ent s j) hn (fun p hp => hr _ (mem p hp)) ?_ fun s p hp hs a => ?_
  · rw [ent_map (by simp), ent_map (by simp)]
    exact ⟨ent r j * ent line l - ent r l * ent line j, by grind⟩
  · have e := hr _ (mem p hp)
    rw [restStep_ent (by rw [hs, e]), restStep_ent (by rw [hs, e])]
    obtain ⟨u, hu⟩ := a
    obtain ⟨v, hv⟩ := m2 r h p.1 (mem p hp) j l
    exact ⟨u - ent line p.2 * v, by grind⟩
theorem rest_minor3 {n : Nat} {rows : List (List Int)} {places : List Nat} {d : Int} {line : List Int} (hn : line.length = n) (hl : rows.length = places.length) (hr : ∀ r, r ∈ rows → r.length = n) (few : rows.length ≤ 2)
    (m2 : ∀ r, r ∈ rows → ∀ s, s ∈ rows → ∀ j l, d ∣ ent r j * ent s l - ent r l * ent s j) {x y : List Int} (hx : x ∈ rows) (hy : y ∈ rows) (j l q : Nat) : d * d ∣ m3 x y (restL d (rows.zip places) line) j l q := by
  have mem : ∀ p, p ∈ rows.zip places → p.1 ∈ rows := fun p hp => (List.of_mem_zip (show (p.1, p.2) ∈ _ from hp)).1
  refine rest_lin (A := fun s => d * d ∣ m3 x y s j l q) hn (fun p hp => hr _ (mem p hp)) ?_ fun s p hp hs a => ?_
  · unfold m3
    rw [ent_map (by simp), ent_map (by simp), ent_map (by simp)]
    obtain ⟨u, hu⟩ := m2 x hx y hy j l
    obtain ⟨v, hv⟩ := m2 x hx y hy l q
    obtain ⟨w, hw⟩ := m2 x hx y hy j q
    exact ⟨ent line q * u + ent line j * v - ent line l * w, by grind⟩
  · have e := hr _ (mem p hp)
    unfold m3 at a ⊢
    rw [restStep_ent (by rw [hs, e]), restStep_ent (by rw [hs, e]), restStep_ent (by rw [hs, e])]
    obtain ⟨u, hu⟩ := a
    refine ⟨u, ?_⟩
    rcases mem_two few hx hy (mem p hp) with z | z | z
    · subst z; grind
    · rw [z]; grind
    · rw [z]; grind
theorem cleared_ent {n : Nat} {rows : List (List Int)} {r row : List Int} {q : Nat} {d : Int} (h : row.length = r.length) (d1 : ∀ j, d ∣ ent row j * ent r q - ent row q * ent r j) (j : Nat) :
    d * ent (List.zipWith (fun e o => (e * ent r q - ent row q * o).fdiv d) row r) j = ent row j * ent r q - ent row q * ent r j := by
  rw [ent_zip (by simp) h]
  exact Int.mul_fdiv_cancel' (d1 j)
theorem EI.take {n : Nat} {rows : List (List Int)} {places : List Nat} {d : Int} {L : List Vec} (I : EI n rows places d L) (few : rows.length ≤ 3) {line : List Int} (hn : line.length = n) {q : Nat} (hq : q < n)
    (h0 : ∀ j, j < q → ent (restL d (rows.zip places) line) j = 0) (h1 : ent (restL d (rows.zip places) line) q ≠ 0) :
    EI n (clearedBy rows (restL d (rows.zip places) line) q d ++ [restL d (rows.zip places) line]) (places ++ [q]) (ent (restL d (rows.zip places) line) q) (L ++ [vec line]) := by
  have d0 : (d : Rat) ≠ 0 := fun z => I.d0 (Rat.intCast_inj.mp z)
  have mem : ∀ p, p ∈ rows.zip places → p.1 ∈ rows := fun p hp => (List.of_mem_zip (show (p.1, p.2) ∈ _ from hp)).1
  have rl : (restL d (rows.zip places) line).length = n := rest_len hn fun p hp => I.wd _ (mem p hp)
  have mr := fun r (h : r ∈ rows) j l => rest_minor hn I.ln I.wd (I.m2 few) (line := line) h j l
  have m3' := fun (f2 : rows.length ≤ 2) x (hx : x ∈ rows) y (hy : y ∈ rows) j l q => rest_minor3 hn I.ln I.wd f2 (I.m2 few) (line := line) hx hy j l q
  have re := fun j => I.rest hn (line := line) j
  have rq0 : ∀ j, RF.rest rows.length (fun i j => (ent (rows.getD i []) j : Rat) / d) (fun i => places.getD i 0) (vec line) j = (ent (restL d (rows.zip places) line) j : Rat) / d := fun j => by rw [re j]; grind
  have ft := I.fm.take (x := vec line) (q := q) hq (fun j hj => by rw [rq0, h0 j hj]; grind) (by
    rw [rq0]
    intro z
    have : (ent (restL d (rows.zip places) line) q : Rat) = 0 := by grind
    exact h1 (Rat.intCast_inj.mp this))
  generalize restL d (rows.zip places) line = r at *
  have rr0 : (ent r q : Rat) ≠ 0 := fun z => h1 (Rat.intCast_inj.mp z)
  have ce : ∀ row, row ∈ rows → ∀ j, d * ent (List.zipWith (fun e o => (e * ent r q - ent row q * o).fdiv d) row r) j = ent row j * ent r q - ent row q * ent r j := fun row hrow j =>
    cleared_ent (n := n) (rows := rows) ((I.wd row hrow).trans rl.symm) (fun j => mr row hrow j q) j
  have newlen : (clearedBy rows r q d).length = rows.length := by unfold clearedBy; rw [List.length_map]
  have at_ : ∀ i, i < rows.length → (clearedBy rows r q d ++ [r]).getD i [] = List.zipWith (fun e o => (e * ent r q - ent (rows.getD i []) q * o).fdiv d) (rows.getD i []) r := fun i hi => by
    have g : rows[i]? = some rows[i] := List.getElem?_eq_getElem hi
    rw [List.getD_eq_getElem?_getD, List.getElem?_append_left (by rw [newlen]; exact hi), List.getD_eq_getElem?_getD, g]
    unfold clearedBy
    rw [List.getElem?_map, g]; rfl
  have at_k : (clearedBy rows r q d ++ [r]).getD rows.length [] = r := by
    rw [List.getD_eq_getElem?_getD, List.getElem?_append_right (by rw [newlen]; exact Nat.le_refl _), newlen, Nat.sub_self]; rfl
  have rmem : ∀ i, i < rows.length → rows.getD i [] ∈ rows := fun i hi => by
    rw [List.getD_eq_getElem?_getD, List.getElem?_eq_getElem hi]; exact List.getElem_mem _
  refine ⟨by rw [List.length_append, List.length_append, newlen, I.ln]; rfl, fun x hx => ?_, h1, ?_, fun few' x hx y hy j l => ?_⟩
  · rcases List.mem_append.mp hx with z | z
    · obtain ⟨row, hrow, rfl⟩ := List.mem_map.mp z
      rw [List.length_zipWith, I.wd row hrow, rl]; omega
    · rw [List.mem_singleton.mp z]; exact rl
  · have e1 : (clearedBy rows r q d ++ [r]).length = rows.length + 1 := by rw [List.length_append, newlen]; rfl
    rw [e1]
    refine ⟨fun i hi => ?_, fun i m hi hm => ?_, fun i j hi hj => ?_, fun i hi => ?_, fun x hx j hj => ?_⟩
    all_goals
      have R' : ∀ i, i < rows.length + 1 → ∀ j, (ent ((clearedBy rows r q d ++ [r]).getD i []) j : Rat) / (ent r q : Rat) = newR rows.length (fun i j => (ent (rows.getD i []) j : Rat) / d) (RF.rest rows.length (fun i j => (ent (rows.getD i []) j : Rat) / d) (fun i => places.getD i 0) (vec line)) q i j := fun i hi j => by
        unfold newR
        by_cases z : i < rows.length
        · simp only [if_pos z]
          have g := ce _ (rmem i z) j
          rw [at_ i z, rq0, rq0]
          have g2 : (d : Rat) * (ent (List.zipWith (fun e o => (e * ent r q - ent (rows.getD i []) q * o).fdiv d) (rows.getD i []) r) j : Rat) = (ent (rows.getD i []) j : Rat) * ent r q - (ent (rows.getD i []) q : Rat) * ent r j := by
            rw [← Rat.intCast_mul, g, Rat.intCast_sub, Rat.intCast_mul, Rat.intCast_mul]
          generalize (ent (List.zipWith (fun e o => (e * ent r q - ent (rows.getD i []) q * o).fdiv d) (rows.getD i []) r) j : Rat) = X at *
          grind
        · have : i = rows.length := by omega
          subst this
          simp only [if_neg z]
          rw [at_k, rq0, rq0]; grind
      have P' : ∀ i, i < rows.length + 1 → (places ++ [q]).getD i 0 = newP rows.length (fun i => places.getD i 0) q i := fun i hi => by
        unfold newP
        by_cases z : i < rows.length
        · rw [if_pos z, List.getD_eq_getElem?_getD, List.getElem?_append_left (by rw [← I.ln]; exact z)]
          show _ = places.getD i 0
          rw [List.getD_eq_getElem?_getD]
        · have : i = rows.length := by omega
          rw [if_neg z, this, I.ln, List.getD_eq_getElem?_getD, List.getElem?_append_right (Nat.le_refl _), Nat.sub_self]; rfl
    · rw [P' i hi]; exact ft.pn i hi
    · rw [P' m hm, R' i hi]; exact ft.piv i m hi hm
    · rw [P' i hi] at hj; rw [R' i hi]; exact ft.lead i j hi hj
    · exact (ft.spn i hi).of_eq fun j => R' i hi j
    · rw [ft.phi x hx j hj]
      exact S_congr fun i hi => by rw [P' i hi, R' i hi]
  · rw [List.length_append, newlen] at few'
    have f2 : rows.length ≤ 2 := by have : [r].length = 1 := rfl; omega
    rcases List.mem_append.mp hx with zx | zx <;> rcases List.mem_append.mp hy with zy | zy
    · obtain ⟨a, ha, rfl⟩ := List.mem_map.mp zx
      obtain ⟨b, hb, rfl⟩ := List.mem_map.mp zy
      have a1 := ce a ha j
      have a2 := ce a ha l
      have b1 := ce b hb j
      have b2 := ce b hb l
      obtain ⟨t, ht⟩ := m3' f2 a ha b hb j l q
      unfold m3 at ht
      generalize ent (List.zipWith (fun e o => (e * ent r q - ent a q * o).fdiv d) a r) j = A1 at *
      generalize ent (List.zipWith (fun e o => (e * ent r q - ent a q * o).fdiv d) a r) l = A2 at *
      generalize ent (List.zipWith (fun e o => (e * ent r q - ent b q * o).fdiv d) b r) j = B1 at *
      generalize ent (List.zipWith (fun e o => (e * ent r q - ent b q * o).fdiv d) b r) l = B2 at *
      refine ⟨t, ?_⟩
      have dd : d * d ≠ 0 := Int.mul_ne_zero I.d0 I.d0
      refine Int.eq_of_mul_eq_mul_left dd ?_
      have : d * d * (A1 * B2 - A2 * B1) = (d * A1) * (d * B2) - (d * A2) * (d * B1) := by grind
      rw [this, a1, a2, b1, b2]
      grind
    · obtain ⟨a, ha, rfl⟩ := List.mem_map.mp zx
      rw [List.mem_singleton.mp zy]
      have a1 := ce a ha j
      have a2 := ce a ha l
      obtain ⟨t, ht⟩ := mr a ha j l
      generalize ent (List.zipWith (fun e o => (e * ent r q - ent a q * o).fdiv d) a r) j = A1 at *
      generalize ent (List.zipWith (fun e o => (e * ent r q - ent a q * o).fdiv d) a r) l = A2 at *
      refine ⟨t, Int.eq_of_mul_eq_mul_left I.d0 ?_⟩
      have : d * (A1 * ent r l - A2 * ent r j) = (d * A1) * ent r l - (d * A2) * ent r j := by grind
      rw [this, a1, a2]; grind
    · obtain ⟨a, ha, rfl⟩ := List.mem_map.mp zy
      rw [List.mem_singleton.mp zx]
      have a1 := ce a ha j
      have a2 := ce a ha l
      obtain ⟨t, ht⟩ := mr a ha j l
      generalize ent (List.zipWith (fun e o => (e * ent r q - ent a q * o).fdiv d) a r) j = A1 at *
      generalize ent (List.zipWith (fun e o => (e * ent r q - ent a q * o).fdiv d) a r) l = A2 at *
      refine ⟨-t, Int.eq_of_mul_eq_mul_left I.d0 ?_⟩
      have : d * (ent r j * A2 - ent r l * A1) = (d * A2) * ent r j - (d * A1) * ent r l := by grind
      rw [this, a1, a2]; grind
    · rw [List.mem_singleton.mp zx, List.mem_singleton.mp zy]
      exact ⟨0, by grind⟩
end RF
set_option linter.all false
namespace RF
theorem pigeon : ∀ (n k : Nat) (P : Nat → Nat), (∀ i, i < k → P i < n) → (∀ i j, i < k → j < k → P i = P j → i = j) → k ≤ n
  | 0, k, P, h, _ => by
    by_cases z : k = 0
    · omega
    · have := h 0 (by omega); omega
  | n + 1, k, P, h, inj => by
    by_cases z : ∃ i, i < k ∧ P i = n
    · obtain ⟨i, hi, e⟩ := z
      have := pigeon n (k - 1) (fun j => if j = i then P (k - 1) else P j) (fun j hj => by
        show (if j = i then P (k - 1) else P j) < n
        split
        · next y =>
          have a := h (k - 1) (by omega)
          have b : P (k - 1) ≠ n := fun w => by have := inj (k - 1) i (by omega) hi (by rw [w, e]); omega
          omega
        · next y =>
          have a := h j (by omega)
          have b : P j ≠ n := fun w => y (inj j i (by omega) hi (by rw [w, e]))
          omega) (fun a b ha hb w => by
        have w : (if a = i then P (k - 1) else P a) = (if b = i then P (k - 1) else P b) := w
        by_cases ya : a = i
        · by_cases yb : b = i
          · omega
          · rw [if_pos ya, if_neg yb] at w
            have := inj _ _ (by omega) (by omega) w
            omega
        · by_cases yb : b = i
          · rw [if_neg ya, if_pos yb] at w
            have := inj _ _ (by omega) (by omega) w
            omega
          · rw [if_neg ya, if_neg yb] at w
            exact inj _ _ (by omega) (by omega) w)
      omega
    · have := pigeon n k P (fun i hi => by
        have a := h i hi
        have b : P i ≠ n := fun w => z ⟨i, hi, w⟩
        omega) inj
      omega
theorem Form.le {n k : Nat} {R : Nat → Vec} {P : Nat → Nat} {L : List Vec} (F : Form n k R P L) : k ≤ n := pigeon n k P F.pn fun _ _ hi hj e => F.inj hi hj e
theorem EI.room {n : Nat} {rows : List (List Int)} {places : List Nat} {d : Int} {L : List Vec} (I : EI n rows places d L) {line : List Int} (hn : line.length = n) {q : Nat} (hq : q < n)
    (h0 : ∀ j, j < q → ent (restL d (rows.zip places) line) j = 0) (h1 : ent (restL d (rows.zip places) line) q ≠ 0) : rows.length + 1 ≤ n := by
  have d0 : (d : Rat) ≠ 0 := fun z => I.d0 (Rat.intCast_inj.mp z)
  have rq0 : ∀ j, RF.rest rows.length (fun i j => (ent (rows.getD i []) j : Rat) / d) (fun i => places.getD i 0) (vec line) j = (ent (restL d (rows.zip places) line) j : Rat) / d := fun j => by rw [I.rest hn (line := line) j]; grind
  exact (I.fm.take (x := vec line) (q := q) hq (fun j hj => by rw [rq0, h0 j hj]; grind) (by
    rw [rq0]
    intro z
    have : (ent (restL d (rows.zip places) line) q : Rat) = 0 := by grind
    exact h1 (Rat.intCast_inj.mp this))).le
/-! ### sizes -/
theorem add_lt {a b : Int} {x y : Nat} (ha : a.natAbs < x) (hb : b.natAbs < y) : (a - b).natAbs < x + y := by omega
theorem mul_lt {a b : Int} {s t : Nat} (ha : a.natAbs < 2 ^ s) (hb : b.natAbs < 2 ^ t) : (a * b).natAbs < 2 ^ (s + t) := by
  rw [Int.natAbs_mul, Nat.pow_add]
  exact Nat.mul_lt_mul'' ha hb
theorem rest_sz {n : Nat} {rows : List (List Int)} {places : List Nat} {d : Int} {line : List Int} {m t : Nat} (hn : line.length = n) (hl : rows.length = places.length) (few : rows.length ≤ 4) (hr : ∀ r, r ∈ rows → r.length = n) (hs : ∀ r, r ∈ rows → ∀ j, (ent r j).natAbs < 2 ^ m) (hd : d.natAbs < 2 ^ m)
    (ht : ∀ j, (ent line j).natAbs < 2 ^ t) (j : Nat) : (ent (restL d (rows.zip places) line) j).natAbs < 2 ^ (m + t + 3) := by
  have go : ∀ (k : Nat), k ≤ rows.length → (((rows.zip places).take k).foldl (restStep line) (line.map (d * ·))).length = n ∧ (ent (((rows.zip places).take k).foldl (restStep line) (line.map (d * ·))) j).natAbs < 2 ^ (m + t) * (k + 1) := by
    intro k
    induction k with
    | zero =>
      intro _
      refine ⟨by rw [List.take_zero]; show (line.map _).length = n; rw [List.length_map, hn], ?_⟩
      rw [List.take_zero]
      show (ent (line.map (d * ·)) j).natAbs < _
      rw [ent_map (by simp), Nat.zero_add, Nat.mul_one]
      exact mul_lt hd (ht j)
    | succ k ih =>
      intro hk
      obtain ⟨i1, i2⟩ := ih (by omega)
      have g1 : rows[k]? = some rows[k] := List.getElem?_eq_getElem (by omega)
      have g2 : places[k]? = some places[k] := List.getElem?_eq_getElem (by omega)
      have e : (rows.zip places)[k]? = some (rows[k], places[k]) := by rw [List.getElem?_zip_eq_some]; exact ⟨g1, g2⟩
      have mk : rows[k] ∈ rows := List.getElem_mem _
      have rk := hr rows[k] mk
      have e2 : (rows.zip places).take (k + 1) = (rows.zip places).take k ++ [(rows[k], places[k])] := by rw [List.take_succ, e]; rfl
      rw [e2, List.foldl_append]
      show (restStep line (((rows.zip places).take k).foldl (restStep line) (line.map (d * ·))) (rows[k], places[k])).length = n ∧ (ent (restStep line (((rows.zip places).take k).foldl (restStep line) (line.map (d * ·))) (rows[k], places[k])) j).natAbs < _
      rw [restStep_len (by rw [i1, rk]), restStep_ent (by rw [i1, rk])]
      refine ⟨i1, ?_⟩
      have b := mul_lt (ht places[k]) (hs rows[k] mk j)
      rw [Nat.add_comm t m] at b
      have := add_lt i2 b
      show (_ - ent line places[k] * ent rows[k] j).natAbs < _
      have e3 : 2 ^ (m + t) * (k + 1) + 2 ^ (m + t) = 2 ^ (m + t) * (k + 1 + 1) := by rw [Nat.mul_succ (2 ^ (m + t)) (k + 1)]
      omega
  have z := (go rows.length (Nat.le_refl _)).2
  rw [List.take_of_length_le (by rw [List.length_zip]; omega)] at z
  refine Nat.lt_of_lt_of_le z ?_
  rw [Nat.pow_add 2 (m + t) 3]
  exact Nat.mul_le_mul_left _ (by omega)
theorem cleared_sz {rows : List (List Int)} {r : List Int} {q : Nat} {d : Int} {n m t : Nat} (hr : ∀ x, x ∈ rows → x.length = n) (hn : r.length = n) (hs : ∀ x, x ∈ rows → ∀ j, (ent x j).natAbs < 2 ^ m) (ht : ∀ j, (ent r j).natAbs < 2 ^ t) :
    ∀ x, x ∈ clearedBy rows r q d ++ [r] → x.length = n ∧ ∀ j, (ent x j).natAbs < 2 ^ (m + t + 1) := by
  intro x hx
  rcases List.mem_append.mp hx with z | z
  · obtain ⟨row, hrow, rfl⟩ := List.mem_map.mp z
    refine ⟨by rw [List.length_zipWith, hr row hrow, hn]; omega, fun j => ?_⟩
    rw [ent_zip (by simp) (by rw [hr row hrow, hn])]
    refine Nat.lt_of_le_of_lt (Int.natAbs_fdiv_le_natAbs _ _) ?_
    have := add_lt (mul_lt (hs row hrow j) (ht q)) (mul_lt (hs row hrow q) (ht j))
    have e : 2 ^ (m + t) + 2 ^ (m + t) = 2 ^ (m + t + 1) := by rw [Nat.pow_succ]; omega
    omega
  · rw [List.mem_singleton.mp z]
    exact ⟨hn, fun j => Nat.lt_of_lt_of_le (ht j) (Nat.pow_le_pow_right (by decide) (by omega))⟩
def szk (t : Nat) : Nat → Nat
  | 0 => 1
  | k + 1 => 2 * szk t k + t + 15
theorem szk_le {t : Nat} (ht : t ≤ 420) : ∀ {k : Nat}, k ≤ 4 → szk t k ≤ 7000
  | 0, _ => by simp only [szk]; omega
  | 1, _ => by simp only [szk]; omega
  | 2, _ => by simp only [szk]; omega
  | 3, _ => by simp only [szk]; omega
  | 4, _ => by simp only [szk]; omega
  | k + 5, h => by omega
theorem szk_pos (t k : Nat) : 0 < szk t k := by cases k <;> simp only [szk] <;> omega
end RF
set_option Elab.async false
set_option linter.all false
set_option maxRecDepth 100000
set_option maxHeartbeats 4000000
/-! lists of integers, lists of such lists; walks over two lists -/
namespace FR
open PySem PySem.Spec PyProof.Rows L2 RF
def retE : Stmt → Expr
  | .Return (some e) _ => e
  | _ => .Constant .none 0 ⟨0, 0, 0, 0⟩
/-- a block's scope within a def -/
def relS (sc fs : Scope) : Scope := { sc with names := sc.names.map fun (n, k) => if (k == .free && fs.kind == .function && fs.names.lookup n == some .cell) then (n, .cell) else (n, k) }
def lcEl : Expr → Expr
  | .ListComp e _ _ _ => e
  | e => e
def lcSc : Expr → Scope
  | .ListComp _ _ sc _ => sc
  | _ => defScope (.Pass ⟨0, 0, 0, 0⟩)
/-! rules whose reading names K apart, for blocks within blocks -/
theorem pi_zipK {X : Cx} {K : PySem.W.Frag} {e e2 : Expr} {ta : TA} {p pos tpos : Pos} {elts : List Expr} {kk : Nat} (hK : X.K = K) (hg : Gl X "zip") (hm : X.mg "zip" = none) (ha : PA X [e, e2] ta)
    (hs : starEach [e, e2] X.env = (false, eval e X.env) :: starEach [e2] X.env := by rfl) (hpl : (backTo pos (starEach [e2] X.env)).any (·.1) = false := by rfl) :
    L2.PI X (.Tuple elts kk tpos) (.Call (.Name "zip" p) [e, e2] [] pos) (iZip K ta) := by
  subst hK
  exact pi_zip hg hm ha hs hpl
theorem ix_listK {X : Cx} {K : PySem.W.Frag} (hK : X.K = K) : IxR X (rIxL K) := by
  subst hK
  exact ix_list
theorem pg_tupK {X : Cx} {K : PySem.W.Frag} {es : List Expr} {k : Nat} {pos : Pos} {t : TGs} {n : Nat} (hK : X.K = K) (hc : X.calm = true) (h : PGs X es t)
    (hn : (assignEach es X.env).length = n := by rfl) (hst : (assignEach es X.env).findIdx? (·.1) = none := by rfl) : PG X (.Tuple es k pos) (gTup K n t) := by
  subst hK
  exact pg_tup hc h hn hst
/-- a list of integers -/
def IL (H : Hp) (v : V) (r : List Int) : Prop := ∃ q, v = .ref q ∧ H q = some (.lst (r.map V.int))
theorem IL.same {H H' : Hp} {v : V} {r : List Int} (h : IL H v r) (s : Same H H') : IL H' v r := by
  obtain ⟨q, e, z⟩ := h
  exact ⟨q, e, s _ _ z⟩
/-- item by item -/
def AG {α : Type} (R : V → α → Prop) (vs : List V) (as : List α) : Prop := vs.length = as.length ∧ ∀ (i : Nat) (v : V), vs[i]? = some v → ∃ p : α, as[i]? = some p ∧ R v p
theorem AG.nil {α : Type} {R : V → α → Prop} : AG R [] [] := ⟨rfl, fun i v h => by simp at h⟩
theorem AG.snoc {α : Type} {R : V → α → Prop} {v : V} {p : α} {vs : List V} {ps : List α} (h : AG R vs ps) (r : R v p) : AG R (vs ++ [v]) (ps ++ [p]) := by
  refine ⟨by rw [List.length_append, List.length_append, h.1]; rfl, fun i w e => ?_⟩
  by_cases z : i < vs.length
  · rw [List.getElem?_append_left z] at e
    obtain ⟨q, hq, hr⟩ := h.2 i w e
    exact ⟨q, by rw [List.getElem?_append_left (by rw [← h.1]; exact z)]; exact hq, hr⟩
  · rw [List.getElem?_append_right (by omega)] at e
    have e0 : i = vs.length := by
      have := (List.getElem?_eq_some_iff.mp e).1
      rw [List.length_singleton] at this
      omega
    subst e0
    rw [Nat.sub_self] at e
    cases e
    refine ⟨p, by rw [List.getElem?_append_right (by rw [h.1]; exact Nat.le_refl _), h.1, Nat.sub_self]; rfl, r⟩
theorem AG.imp {α : Type} {R R' : V → α → Prop} {vs : List V} {ps : List α} (h : AG R vs ps) (f : ∀ v p, R v p → R' v p) : AG R' vs ps := ⟨h.1, fun i v e => by
  obtain ⟨p, hp, r⟩ := h.2 i v e
  exact ⟨p, hp, f v p r⟩⟩
theorem AG.take {α : Type} {R : V → α → Prop} {vs : List V} {ps : List α} (h : AG R vs ps) (n : Nat) : AG R (vs.take n) (ps.take n) := ⟨by rw [List.length_take, List.length_take, h.1], fun i v e => by
  rw [List.getElem?_take] at e ⊢
  split at e
  · next z => rw [if_pos z]; exact h.2 i v e
  · cases e⟩
/-- a list of lists of integers at a -/
def LM (H : Hp) (a : Addr) (rows : List (List Int)) : Prop := ∃ vs, H a = some (.lst vs) ∧ AG (IL H) vs rows
theorem LM.same {H H' : Hp} {a : Addr} {rows : List (List Int)} (h : LM H a rows) (s : Same H H') : LM H' a rows := by
  obtain ⟨vs, e, z⟩ := h
  exact ⟨vs, s _ _ e, z.imp fun _ _ x => x.same s⟩
theorem IL.updl {H : Hp} {D : Addr} {xs : List V} {o : HO} {v : V} {r : List Int} (h : IL H v r) (hD : ∀ q, v = .ref q → q ≠ D) : IL (upd H D o) v r := by
  obtain ⟨q, e, z⟩ := h
  exact ⟨q, e, by rw [upd_ne (hD q e)]; exact z⟩
/-- one that is not at D -/
def ILx (D : Addr) (H : Hp) (v : V) (r : List Int) : Prop := ∃ q, v = .ref q ∧ q ≠ D ∧ H q = some (.lst (r.map V.int))
theorem ILx.same {D : Addr} {H H' : Hp} {v : V} {r : List Int} (h : ILx D H v r) (s : Same H H') : ILx D H' v r := by
  obtain ⟨q, e, n, z⟩ := h
  exact ⟨q, e, n, s _ _ z⟩
theorem ILx.upd {D : Addr} {H : Hp} {o : HO} {v : V} {r : List Int} (h : ILx D H v r) : ILx D (upd H D o) v r := by
  obtain ⟨q, e, n, z⟩ := h
  exact ⟨q, e, n, by rw [upd_ne n]; exact z⟩
theorem ILx.il {D : Addr} {H : Hp} {v : V} {r : List Int} (h : ILx D H v r) : IL H v r := by
  obtain ⟨q, e, _, z⟩ := h
  exact ⟨q, e, z⟩
theorem same_upd {H0 H : Hp} {D : Addr} {o : HO} (hD : H0 D = none) (s : Same H0 H) : Same H0 (upd H D o) := same_grow hD s
theorem il_at {xs : List Int} {i : Nat} {v : V} (h : (xs.map V.int)[i]? = some v) : ∃ x, xs[i]? = some x ∧ v = .int x := by
  rw [List.getElem?_map] at h
  cases e : xs[i]? with
  | none => rw [e] at h; cases h
  | some x => rw [e] at h; exact ⟨x, rfl, (Option.some.inj h).symm⟩
theorem take_zw {f : Int → Int → Int} {xs ys : List Int} {i : Nat} {x y : Int} (hx : xs[i]? = some x) (hy : ys[i]? = some y) : (List.zipWith f xs ys).take (i + 1) = (List.zipWith f xs ys).take i ++ [f x y] := by
  refine take_snoc ?_
  rw [List.getElem?_zipWith, hx, hy]
/-- [e for a, b in zip(xs, ys)], integers of integers, where e leaves the heap -/
theorem lz_ints {K : PySem.W.Frag} {a b D : Addr} {xs ys : List Int} (hl : xs.length = ys.length) (hk : xs.length ≤ 900) {vs : List Nat} {σ : L2.St} {H1 : Hp} {Qd : Hp → Prop} {i1 i2 : Nat} {te : TE} (f : Int → Int → Int) (hD : H1 D = none)
    (ha : H1 a = some (.lst (xs.map V.int))) (hb : H1 b = some (.lst (ys.map V.int))) (wp : ∀ v w : V, wipe (((wipe σ vs).set i1 (some v)).set i2 (some w)) vs = wipe σ vs)
    (he : ∀ (i : Nat) (x y : Int) (H : Hp) (Q : VK), xs[i]? = some x → ys[i]? = some y → Same H1 H → Q (.int (f x y)) H → te (((wipe σ vs).set i1 (some (.int x))).set i2 (some (.int y))) H Q)
    (hd : ∀ H, Same H1 H → H D = some (.lst ((List.zipWith f xs ys).map V.int)) → Qd H) :
    ∃ Wk : Nat → Nat → Hp → Prop, (∃ m0, Wk 0 m0 (upd H1 D (.lst []))) ∧ ∀ (i0 m0 : Nat) (h0 : Hp), Wk i0 m0 h0 →
      ((Itz K a b).stop i0 h0 ∧ Qd h0) ∨ ((Itz K a b).go i0 h0 ∧ ∃ Nk : Hp → Prop, (∀ h1, Nk h1 → ∃ m1, m1 < m0 ∧ Wk (i0 + 1) m1 h1) ∧ ∀ x h2, (Itz K a b).yld i0 h0 x h2 → gTup K 2 (gCons (gName i1) (gCons (gName i2) gNil)) x (wipe σ vs) h2 fun σ2 H2 => wipe σ2 vs = wipe σ vs ∧ tYes σ2 H2 fun b H3 =>
        if b = true then te σ2 H3 fun y H4 => ∃ got, H4 D = some (.lst got) ∧ got.length < sizeLine ∧ Nk (upd H4 D (.lst (got ++ [y]))) else Nk H3) := by
  have len : (List.zipWith f xs ys).length = xs.length := by rw [List.length_zipWith]; omega
  refine lc_it (walk_zip (xs := xs.map V.int) (ys := ys.map V.int) (n := xs.length) (by rw [List.length_map, List.length_map]; omega)) (fun i H => Same H1 H ∧ H D = some (.lst (((List.zipWith f xs ys).take i).map V.int)))
    ⟨same_new hD, upd_same⟩ (fun i H _ p => ⟨SqL.of (p.1 _ _ ha), SqL.of (p.1 _ _ hb)⟩) ?_ fun H p => ?_
  · rintro i v H H' hi ⟨sm, hDc⟩ ⟨T, x, y, rfl, nT, rfl, hx, hy⟩
    obtain ⟨x, hx2, rfl⟩ := il_at hx
    obtain ⟨y, hy2, rfl⟩ := il_at hy
    clear hx hy
    have hx := hx2
    have hy := hy2
    have hDc' : upd H T (.tup [.int x, .int y]) D = some (.lst (((List.zipWith f xs ys).take i).map V.int)) := by rw [upd_ne (ne_of_none hDc nT)]; exact hDc
    have sm' : Same H1 (upd H T (.tup [.int x, .int y])) := sm.trans (same_new nT)
    refine ⟨T, _, rfl, SqT.of upd_same, rfl, _, _, rfl, _, _, rfl, rfl, wp _ _, ?_⟩
    refine he i x y _ _ hx hy sm' ⟨_, hDc', small1000 (by rw [List.length_map, List.length_take]; omega), same_upd hD sm', ?_⟩
    rw [take_zw hx hy, List.map_append]
    exact upd_same
  · obtain ⟨sm, hDc⟩ := p
    rw [List.take_of_length_le (by omega)] at hDc
    exact hd H sm hDc
/-- [e for a in xs], integers of integers, where e leaves the heap -/
theorem ll_ints {K : PySem.W.Frag} {a D : Addr} {xs : List Int} (hk : xs.length ≤ 900) {vs : List Nat} {σ : L2.St} {H1 : Hp} {Qd : Hp → Prop} {i1 : Nat} {te : TE} (f : Int → Int) (hD : H1 D = none)
    (ha : H1 a = some (.lst (xs.map V.int))) (wp : ∀ v : V, wipe ((wipe σ vs).set i1 (some v)) vs = wipe σ vs)
    (he : ∀ (i : Nat) (x : Int) (H : Hp) (Q : VK), xs[i]? = some x → Same H1 H → Q (.int (f x)) H → te ((wipe σ vs).set i1 (some (.int x))) H Q)
    (hd : ∀ H, Same H1 H → H D = some (.lst ((xs.map f).map V.int)) → Qd H) :
    ∃ Wk : Nat → Nat → Hp → Prop, (∃ m0, Wk 0 m0 (upd H1 D (.lst []))) ∧ ∀ (i0 m0 : Nat) (h0 : Hp), Wk i0 m0 h0 →
      ((Itl K a).stop i0 h0 ∧ Qd h0) ∨ ((Itl K a).go i0 h0 ∧ ∃ Nk : Hp → Prop, (∀ h1, Nk h1 → ∃ m1, m1 < m0 ∧ Wk (i0 + 1) m1 h1) ∧ ∀ x h2, (Itl K a).yld i0 h0 x h2 → gName i1 x (wipe σ vs) h2 fun σ2 H2 => wipe σ2 vs = wipe σ vs ∧ tYes σ2 H2 fun b H3 =>
        if b = true then te σ2 H3 fun y H4 => ∃ got, H4 D = some (.lst got) ∧ got.length < sizeLine ∧ Nk (upd H4 D (.lst (got ++ [y]))) else Nk H3) := by
  refine lc_list (xs := xs.map V.int) (fun i H => Same H1 H ∧ H D = some (.lst (((xs.map f).take i).map V.int)))
    ⟨same_new hD, upd_same⟩ (fun i H _ p => SqL.of (p.1 _ _ ha)) ?_ fun H p => ?_
  · rintro i v H hx ⟨sm, hDc⟩
    obtain ⟨x, hx2, rfl⟩ := il_at hx
    clear hx
    have hx := hx2
    have hi := (List.getElem?_eq_some_iff.mp hx).1
    refine ⟨wp _, ?_⟩
    refine he i x _ _ hx sm ⟨_, hDc, small1000 (by rw [List.length_map, List.length_take, List.length_map]; omega), same_upd hD sm, ?_⟩
    rw [take_snoc (x := f x) (by rw [List.getElem?_map, hx]; rfl), List.map_append]
    exact upd_same
  · obtain ⟨sm, hDc⟩ := p
    rw [List.take_of_length_le (by rw [List.length_map, List.length_map]; omega)] at hDc
    exact hd H sm hDc
section
variable {P : Program} {w : World} {K : PySem.W.Frag} {mg : Str → Option Value} {base : Heap} {C : Addr}
/-! ### cleared_by -/
theorem atI_ent {l : List Int} {q : Nat} (h : q < l.length) : atI (l.map V.int) (q : Int) = some (.int (ent l q)) := by
  exact atI_nat (by rw [List.getElem?_map, get_ent h]; rfl)
abbrev sClr : Stmt := top 8
abbrev NCl : List Str := ["rows", "line", "at", "divisor", "lead", "row", "entry", "other"]
abbrev lcClr : Scope := lcSc (retE ((defBody sClr).getD 1 (.Pass ⟨0, 0, 0, 0⟩)))
theorem scCl : FnScope NCl ["rows", "line", "at", "divisor"] (defScope sClr) := ⟨rfl, rfl, rfl, by decide +kernel, rfl, by decide +kernel, by decide +kernel⟩
/-- entries of a list are short -/
def Sh (l : List Int) (s : Nat) : Prop := ∀ j, (ent l j).natAbs < 2 ^ s
theorem Sh.get {l : List Int} {s i : Nat} {x : Int} (h : Sh l s) (e : l[i]? = some x) : x.natAbs < 2 ^ s := by
  have := h i
  rw [ent_some e] at this
  exact this
def spClr : Sp := fun vs H Q _ => ∃ (a l : Addr) (rows : List (List Int)) (line : List Int) (q : Nat) (d : Int) (n m t : Nat), vs = [.ref a, .ref l, .int q, .int d] ∧ LM H a rows ∧ H l = some (.lst (line.map V.int)) ∧ rows.length ≤ 4 ∧ (∀ r ∈ rows, r.length = n ∧ Sh r m) ∧ line.length = n ∧ Sh line t ∧ n ≤ 90 ∧ q < n ∧
  d ≠ 0 ∧ d.natAbs < 2 ^ m ∧ m ≤ 8000 ∧ t ≤ 8000 ∧ 0 < m ∧ 0 < t ∧ ∀ x H', LM H' x (clearedBy rows line q d) → Same H H' → Q (.ref x) H'
theorem ok_clr {f : Addr} {fd : FuncData} (F : Fun K "cleared_by" "cleared_by" sClr f fd) (mZ : mg "zip" = none) : FnOk P w K mg base CX0 1 f fd ["rows", "line", "at", "divisor"] spClr := by
  refine F.ok scCl (fun vs H Q E h => ?_) (fun cdv A outer s H vs Q E hr h => ?_)
  · obtain ⟨a, l, rows, line, q, d, n, m, t, rfl, _⟩ := h
    rfl
  · obtain ⟨a, l, rows, line, q, d, n, m, t, rfl, ⟨vs, ha, hv⟩, hl, few, hrow, hn, hsl, n90, hq, d0, dz, s8, t8, s0, t0, Qx⟩ := h
    refine ⟨_, pss_cons (ps_set (i := 4) scCl.nd rfl (Or.inr rfl) (pe_ix ix_list (pv 1) (pv 2) (fun _ _ => rfl)))
      (pss_one (ps_ret (pe_lc (X := (cxOf CX0 P w K mg base NCl "cleared_by" (defScope sClr) f cdv A outer s H E).nox) (own := [("row", 5)]) (g := gName 5) (tt := tYes) rfl scCl.nd (pi_list (pv 0)) (blkOk_by (N := NCl) (sc := defScope sClr) (by decide +kernel))
        (fun _ _ _ _ _ => pg_name (i := 5) scCl.nd rfl (.inr rfl)) (fun _ _ _ _ _ => pts_nil)
        (fun s0 H0 C0 cl0 fp0 => pe_lc (X := ((cxOf CX0 P w K mg base NCl "cleared_by" (defScope sClr) f cdv A outer s H E).nox).blk s0 H0 lcClr (compEnvC lcClr cl0 C0 ((cxOf CX0 P w K mg base NCl "cleared_by" (defScope sClr) f cdv A outer s H E).nox).env) fp0) (own := [("entry", 6), ("other", 7)]) (g := gTup _ 2 (gCons (gName 6) (gCons (gName 7) gNil))) (tt := tYes) rfl scCl.nd (pi_zipK (K := K) rfl (by rfl) mZ (pa_cons (pv 5) (pa_cons (pv 1) pa_nil))) (blkOk_by (N := NCl) (sc := relS lcClr (defScope sClr)) (by decide +kernel))
          (fun _ _ _ _ _ => pg_tupK (K := K) rfl rfl (pgs_cons (pg_name (i := 6) scCl.nd rfl (.inl rfl)) (pgs_cons (pg_name (i := 7) scCl.nd rfl (.inl rfl)) pgs_nil))) (fun _ _ _ _ _ => pts_nil)
          (fun _ _ _ _ _ => pe_op op_fdivX (pe_op op_sub (pe_op op_mulW (pv 6) (pv 4)) (pe_op op_mulW (pe_ix (ix_listK (K := K) rfl) (pv 5) (pv 2) (fun _ _ => rfl)) (pv 7))) (pv 3)))))), ?_⟩
    refine ⟨_, rfl, _, rfl, l, _, _, _, rfl, rfl, SqL.of hl, atI_ent (by rw [hn]; exact hq), ?_⟩
    refine ⟨_, rfl, a, rfl, ⟨_, SqL.of ha⟩, fun D hD => ?_⟩
    refine lc_list (xs := vs) (fun i Hc => Same H Hc ∧ ∃ us, Hc D = some (.lst us) ∧ AG (ILx D Hc) us ((clearedBy rows line q d).take i)) ⟨same_new hD, [], upd_same, AG.nil⟩ (fun i Hc _ p => SqL.of (p.1 _ _ ha)) ?_ ?_
    · rintro i v Hc hvi ⟨sm, us, hDc, hu⟩
      obtain ⟨r, hri, p, rfl, hp⟩ := hv.2 i v hvi
      have hi := (List.getElem?_eq_some_iff.mp hri).1
      obtain ⟨rn, rs⟩ := hrow r (List.mem_of_getElem? hri)
      have hp := sm _ _ hp
      have hl' := sm _ _ hl
      refine ⟨rfl, _, rfl, _, rfl, p, l, _, _, rfl, SqL.of hp, SqL.of hl', fun D2 hD2 => ?_⟩
      refine lz_ints (xs := r) (ys := line) (by omega) (by omega) (fun e o => (e * ent line q - ent r q * o).fdiv d) hD2 hp hl' (fun _ _ => rfl) ?_ ?_
      · intro i2 x y H2 Q2 hx hy s2 q2
        refine ⟨_, rfl, _, rfl, _, _, rfl, rfl, wide_mul (rs.get hx) (hsl q) (by omega) (by omega) (by omega), ?_⟩
        refine ⟨_, rfl, _, rfl, p, _, _, _, rfl, rfl, SqL.of (s2 _ _ hp), atI_ent (by omega), _, rfl, _, _, rfl, rfl, wide_mul (rs q) (hsl.get hy) (by omega) (by omega) (by omega), ?_⟩
        exact ⟨_, _, rfl, rfl, _, rfl, _, _, rfl, rfl, div_ok d0 dz (by omega) (by omega), q2⟩
      · intro H2 s2 hD3
        have e1 := s2 _ _ hDc
        have ne : D2 ≠ D := fun z => by rw [z, hDc] at hD2; cases hD2
        refine ⟨us, e1, small1000 (by rw [hu.1, List.length_take]; have := few; unfold clearedBy; rw [List.length_map]; omega), same_upd hD (sm.trans s2), us ++ [.ref D2], upd_same, ?_⟩
        rw [take_snoc (x := List.zipWith (fun e o => (e * ent line q - ent r q * o).fdiv d) r line) (by unfold clearedBy; rw [List.getElem?_map, hri]; rfl)]
        exact AG.snoc (hu.imp fun _ _ z => (z.same s2).upd) ⟨D2, rfl, ne, by rw [upd_ne ne]; exact hD3⟩
    · rintro Hc ⟨sm, us, hDc, hu⟩
      rw [List.take_of_length_le (by unfold clearedBy; rw [List.length_map, hv.1]; exact Nat.le_refl _)] at hu
      exact Qx D Hc ⟨us, hDc, hu.imp fun _ _ z => z.il⟩ sm
end
end FR
set_option Elab.async false
set_option linter.all false
set_option maxRecDepth 100000
set_option maxHeartbeats 4000000
/-! the class Echelon -/
namespace FR
open PySem PySem.Spec PyProof.Rows L2 RF
abbrev sEch : Stmt := top 9
abbrev sEi : Stmt := inClass sEch 0
abbrev sEr : Stmt := inClass sEch 1
abbrev sEp : Stmt := inClass sEch 2
abbrev sEt : Stmt := inClass sEch 3
structure TxtE (K : PySem.W.Frag) (mg : Str → Option Value) (D : Addr) : Prop where
  cl : Cls K D
  nW : NoAttr K D "width"
  nR : NoAttr K D "rows"
  nP : NoAttr K D "places"
  nD : NoAttr K D "divisor"
  zip : mg "zip" = none
  range : mg "range" = none
/-- what an Echelon holds -/
structure EcF (fs : List (Str × V)) (n : Nat) (a b : Addr) (d : Int) : Prop where
  w : fs.lookup ("width" : Str) = some (.int n)
  r : fs.lookup ("rows" : Str) = some (.ref a)
  p : fs.lookup ("places" : Str) = some (.ref b)
  d : fs.lookup ("divisor" : Str) = some (.int d)
  few : fs.length ≤ 900
  no : ∀ m : Str, ¬ m = "width" → ¬ m = "rows" → ¬ m = "places" → ¬ m = "divisor" → fs.lookup m = none
def Ec (D : Addr) (H : Hp) (x : Addr) (n : Nat) (rows : List (List Int)) (places : List Nat) (d : Int) : Prop :=
  ∃ dx fs a b, H x = some (.ins D dx fs) ∧ EcF fs n a b d ∧ LM H a rows ∧ H b = some (.lst (places.map fun i => V.int (i : Nat)))
theorem Ec.same {D : Addr} {H H' : Hp} {x : Addr} {n : Nat} {rows : List (List Int)} {places : List Nat} {d : Int} (h : Ec D H x n rows places d) (s : Same H H') : Ec D H' x n rows places d := by
  obtain ⟨dx, fs, a, b, h1, h2, h3, h4⟩ := h
  exact ⟨dx, fs, a, b, s _ _ h1, h2, h3.same s, s _ _ h4⟩
section
variable {P : Program} {w : World} {K : PySem.W.Frag} {mg : Str → Option Value} {base : Heap} {D : Addr}
def spEi (D : Addr) : Sp := fun vs H Q _ => ∃ (x dx : Addr) (n : Nat), vs = [.ref x, .int n] ∧ H x = some (.ins D dx []) ∧ ∀ H', Ec D H' x n [] [] 1 → (∀ q o, q ≠ x → H q = some o → H' q = some o) → Q .non H'
theorem scEi : FnScope ["self", "width"] ["self", "width"] (defScope sEi) := ⟨rfl, rfl, rfl, by decide +kernel, rfl, by decide +kernel, by decide +kernel⟩
theorem pe_fldK {X : Cx} {K : PySem.W.Frag} {e : Expr} {ta : TE} {f : Str} {pos : Pos} (hK : X.K = K) (he : PE X e ta) (hb : attributeBase e f X.env (eval e X.env) = eval e X.env) : PE X (.Attribute e f pos) (tFld K ta f) := by
  subst hK
  exact pe_fld he hb
theorem neq_of {i j : Int} (z : (!decide (V.int i = V.int j)) = true) : i ≠ j := fun e => by
  subst e
  simp at z
theorem neq_to {i j : Int} (z : i ≠ j) : (!decide (V.int i = V.int j)) = true := by
  simp
  exact z
theorem ne_fld {a b : Str} (h : ¬ a = b := by decide +kernel) : ¬ a = b := h
theorem ok_ei {f : Addr} {fd : FuncData} (F : Fun K "__init__" "Echelon.__init__" sEi f fd) (T : TxtE K mg D) : FnOk P w K mg base CX0 1 f fd ["self", "width"] (spEi D) := by
  refine F.ok scEi (fun vs H Q E h => ?_) (fun cdv A outer s H vs Q E hr h => ?_)
  · obtain ⟨x, dx, n, rfl, _⟩ := h
    rfl
  · obtain ⟨x, dx, n, rfl, hx, q⟩ := h
    refine ⟨_, pss_cons (ps_fld (pv 0) (pv 1) rfl) (pss_cons (ps_fld (pv 0) (pe_lst pa_nil) rfl) (pss_cons (ps_fld (pv 0) (pe_lst pa_nil) rfl) (pss_one (ps_fld (pv 0) pe_int rfl)))), ?_⟩
    refine ⟨_, rfl, _, rfl, x, D, dx, _, rfl, hx, T.cl, T.nW, (by show 0 < 1000; decide), ?_⟩
    refine ⟨Nat.zero_le _, fun a ha => ?_⟩
    have xa : x ≠ a := fun z => by rw [← z, upd_same] at ha; cases ha
    refine ⟨_, rfl, x, D, dx, _, rfl, by rw [upd_ne xa, upd_same], T.cl, T.nR, (by show 1 < 1000; decide), ?_⟩
    refine ⟨Nat.zero_le _, fun b hb => ?_⟩
    have xb : x ≠ b := fun z => by rw [← z, upd_same] at hb; cases hb
    have ab : a ≠ b := fun z => by rw [← z, upd_ne (Ne.symm xa), upd_same] at hb; cases hb
    refine ⟨_, rfl, x, D, dx, _, rfl, by rw [upd_ne xb, upd_same], T.cl, T.nP, (by show 2 < 1000; decide), ?_⟩
    refine ⟨_, rfl, x, D, dx, _, rfl, upd_same, T.cl, T.nD, (by show 3 < 1000; decide), ?_⟩
    refine q _ ⟨dx, _, a, b, upd_same, ⟨?_, ?_, ?_, ?_, by show 4 ≤ 900; decide, fun m h1 h2 h3 h4 => by rw [lookup_putF, if_neg h4, lookup_putF, if_neg h3, lookup_putF, if_neg h2, lookup_putF, if_neg h1]; rfl⟩, ⟨[], ?_, AG.nil⟩, ?_⟩ ?_
    · rw [lookup_putF, if_neg ne_fld, lookup_putF, if_neg ne_fld, lookup_putF, if_neg ne_fld, lookup_putF, if_pos rfl]
    · rw [lookup_putF, if_neg ne_fld, lookup_putF, if_neg ne_fld, lookup_putF, if_pos rfl]
    · rw [lookup_putF, if_neg ne_fld, lookup_putF, if_pos rfl]
    · rw [lookup_putF, if_pos rfl]
    · rw [upd_ne (Ne.symm xa), upd_ne (Ne.symm xa), upd_ne ab, upd_ne (Ne.symm xa), upd_same]
    · rw [upd_ne (Ne.symm xb), upd_ne (Ne.symm xb), upd_same]; rfl
    · intro z o hz e
      have za : z ≠ a := fun y => by rw [← y, upd_ne hz, e] at ha; cases ha
      have zb : z ≠ b := fun y => by rw [← y, upd_ne hz, upd_ne za, upd_ne hz, e] at hb; cases hb
      rw [upd_ne hz, upd_ne hz, upd_ne zb, upd_ne hz, upd_ne za, upd_ne hz]; exact e
/-! ### rest_of -/
abbrev NEr : List Str := ["self", "line", "rest", "row", "place", "factor", "entry", "other"]
theorem scEr : FnScope NEr ["self", "line"] (defScope sEr) := ⟨rfl, rfl, rfl, by decide +kernel, rfl, by decide +kernel, by decide +kernel⟩
/-- rows and places that belong together -/
structure Rws (rows : List (List Int)) (places : List Nat) (d : Int) (n m : Nat) : Prop where
  ln : rows.length = places.length
  few : rows.length ≤ 4
  row : ∀ r ∈ rows, r.length = n ∧ Sh r m
  pl : ∀ i ∈ places, i < n
  dz : d.natAbs < 2 ^ m
def spEr (D : Addr) : Sp := fun vs H Q _ => ∃ (x l : Addr) (n m t : Nat) (rows : List (List Int)) (places : List Nat) (d : Int) (line : List Int), vs = [.ref x, .ref l] ∧ Ec D H x n rows places d ∧ H l = some (.lst (line.map V.int)) ∧ Rws rows places d n m ∧ line.length = n ∧ Sh line t ∧ n ≤ 90 ∧
  m ≤ 8000 ∧ t ≤ 8000 ∧ 0 < m ∧ 0 < t ∧ ∀ y H', H' y = some (.lst ((restL d (rows.zip places) line).map V.int)) → Same H H' → Q (.ref y) H'
theorem ok_er {f : Addr} {fd : FuncData} (F : Fun K "rest_of" "Echelon.rest_of" sEr f fd) (T : TxtE K mg D) : FnOk P w K mg base CX0 1 f fd ["self", "line"] (spEr D) := by
  refine F.ok scEr (fun vs H Q E h => ?_) (fun cdv A outer s H vs Q E hr h => ?_)
  · obtain ⟨x, l, n, m, t, rows, places, d, line, rfl, _⟩ := h
    rfl
  · obtain ⟨x, l, n, m, t, rows, places, d, line, rfl, ⟨dx, fs, a, b, hx, ef, ⟨vs, ha, hv⟩, hb⟩, hl, rw_, hn, hsl, n90, m8, t8, m0, t0, q⟩ := h
    refine ⟨_, pss_cons (ps_setLc (i := 2) (own := [("entry", 6)]) (g := gName 6) (tt := tYes) rfl scEr.nd rfl rfl (sw_true rfl rfl rfl (by decide +kernel)) (pi_list (pv 1)) (blkOk_by (N := NEr) (sc := defScope sEr) (by decide +kernel))
        (fun _ _ _ _ _ => pg_name (i := 6) scEr.nd rfl (.inl rfl)) (fun _ _ _ _ _ => pts_nil) (fun _ _ _ _ _ => pe_op op_mulW (pe_fldK (K := K) rfl (pv 0) rfl) (pv 6)))
      (pss_cons (ps_for PassesOwn.never rfl (pi_zip (by rfl) T.zip (pa_cons (pe_fld (pv 0) rfl) (pa_cons (pe_fld (pv 0) rfl) pa_nil))) (pg_tup rfl (pgs_cons (pg_name (i := 3) scEr.nd rfl (.inl rfl)) (pgs_cons (pg_name (i := 4) scEr.nd rfl (.inl rfl)) pgs_nil)))
        (pss_cons (ps_set (i := 5) scEr.nd rfl (Or.inr rfl) (pe_ix ix_list (pv 1) (pv 4) (fun _ _ => rfl)))
        (pss_one (ps_if (pt_cmpR op_ne (pv 5) pe_int (nomark _)) (pss_one (ps_setLc (i := 2) (own := [("entry", 6), ("other", 7)]) (g := gTup K 2 (gCons (gName 6) (gCons (gName 7) gNil))) (tt := tYes) rfl scEr.nd rfl rfl (sw_true rfl rfl rfl (by decide +kernel)) (pi_zip (by rfl) T.zip (pa_cons (pv 2) (pa_cons (pv 3) pa_nil))) (blkOk_by (N := NEr) (sc := defScope sEr) (by decide +kernel))
          (fun _ _ _ _ _ => pg_tupK (K := K) rfl rfl (pgs_cons (pg_name (i := 6) scEr.nd rfl (.inl rfl)) (pgs_cons (pg_name (i := 7) scEr.nd rfl (.inl rfl)) pgs_nil))) (fun _ _ _ _ _ => pts_nil)
          (fun _ _ _ _ _ => pe_op op_sub (pv 6) (pe_op op_mulW (pv 5) (pv 7))))) pss_nil))))
      (pss_one (ps_ret (pv 2)))), ?_⟩
    refine ⟨_, rfl, l, rfl, ⟨_, SqL.of hl⟩, fun R0 hR0 => ?_⟩
    refine ll_ints (xs := line) (by omega) (d * ·) hR0 hl (fun _ => rfl) ?_ ?_
    · intro i y H2 Q2 hy s2 q2
      exact ⟨_, rfl, x, D, dx, _, _, rfl, s2 _ _ hx, T.cl, T.nD, ef.d, _, rfl, _, _, rfl, rfl, wide_mul rw_.dz (hsl.get hy) (by omega) (by omega) (by omega), q2⟩
    intro H1 s1 hR1
    refine ⟨_, rfl, x, D, dx, _, _, rfl, s1 _ _ hx, T.cl, T.nR, ef.r, _, rfl, x, D, dx, _, _, rfl, s1 _ _ hx, T.cl, T.nP, ef.p, a, b, _, _, rfl, SqL.of (s1 _ _ ha), SqL.of (s1 _ _ hb), ?_⟩
    have wd : ∀ p, p ∈ rows.zip places → p.1.length = n := fun p hp => (rw_.row _ (List.of_mem_zip (show (p.1, p.2) ∈ _ from hp)).1).1
    refine for_it (walk_zip (xs := vs) (ys := places.map fun i => V.int (i : Nat)) (n := rows.length) (by rw [List.length_map, hv.1, rw_.ln]; omega))
      (fun i σ Hc => Same H Hc ∧ ∃ (y : Addr) (x3 x4 x5 : Option V), σ = [some (.ref x), some (.ref l), some (.ref y), x3, x4, x5, none, none] ∧ Hc y = some (.lst ((restL d ((rows.zip places).take i) line).map V.int)))
      ⟨s1, R0, _, _, _, rfl, hR1⟩ (fun i σ Hc _ p => ⟨SqL.of (p.1 _ _ ha), SqL.of (p.1 _ _ hb)⟩) ?_ ?_
    · rintro i v σ Hc H' hi ⟨sm, y, x3, x4, x5, rfl, hy⟩ ⟨T0, u1, u2, rfl, nT, rfl, h1, h2⟩
      obtain ⟨r, hri, p, rfl, hp⟩ := hv.2 i u1 h1
      obtain ⟨pc, g2⟩ : ∃ pc, places[i]? = some pc := ⟨_, List.getElem?_eq_getElem (by rw [← rw_.ln]; exact hi)⟩
      have e2 : u2 = .int (pc : Nat) := by
        have h2' : (places.map fun i => V.int (i : Nat))[i]? = some u2 := h2
        rw [List.getElem?_map, g2] at h2'
        exact (Option.some.inj h2').symm
      subst e2
      obtain ⟨rn, rs⟩ := rw_.row r (List.mem_of_getElem? hri)
      have pl := rw_.pl pc (List.mem_of_getElem? g2)
      have sm' : Same H (upd Hc T0 (.tup [.ref p, .int (pc : Nat)])) := sm.trans (same_new nT)
      have hy' := same_new (o := .tup [.ref p, .int (pc : Nat)]) nT _ _ hy
      have tk : (rows.zip places).take (i + 1) = (rows.zip places).take i ++ [(r, pc)] := take_snoc (by rw [List.getElem?_zip_eq_some]; exact ⟨hri, g2⟩)
      have rl : (restL d ((rows.zip places).take i) line).length = n := rest_len hn fun p hp => wd p (List.mem_of_mem_take hp)
      have step : restL d ((rows.zip places).take (i + 1)) line = restStep line (restL d ((rows.zip places).take i) line) (r, pc) := by
        unfold restL
        rw [tk, List.foldl_append]
        rfl
      have tt : upd Hc T0 (.tup [.ref p, .int (pc : Nat)]) T0 = some (.tup [.ref p, .int (pc : Nat)]) := upd_same
      generalize upd Hc T0 _ = Hn at sm' hy' tt ⊢
      generalize restL d ((rows.zip places).take i) line = cur at *
      refine ⟨T0, _, rfl, SqT.of tt, rfl, _, _, rfl, _, _, rfl, rfl, ?_⟩
      refine ⟨_, rfl, _, rfl, l, _, _, _, rfl, rfl, SqL.of (sm' _ _ hl), atI_ent (by omega), ?_⟩
      refine ⟨_, rfl, rfl, _, rfl, ite2 (fun z => ?_) (fun z => ?_)⟩
      · have z : ent line pc ≠ 0 := neq_of z
        refine ⟨_, rfl, _, rfl, y, p, _, _, rfl, SqL.of hy', SqL.of (sm' _ _ hp), fun R2 hR2 => ?_⟩
        refine lz_ints (xs := cur) (ys := r) (by omega) (by omega) (fun e o => e - ent line pc * o) hR2 hy' (sm' _ _ hp) (fun _ _ => rfl) ?_ ?_
        · intro i2 u v2 H2 Q2 hu hv2 s2 q2
          exact ⟨_, rfl, _, rfl, _, rfl, _, _, rfl, rfl, wide_mul (hsl pc) (rs.get hv2) (by omega) (by omega) (by omega), _, _, rfl, rfl, q2⟩
        · intro H2 s2 hR3
          refine ⟨sm'.trans s2, R2, _, _, _, rfl, ?_⟩
          rw [step]
          unfold restStep
          rw [if_pos z]
          exact hR3
      · have z : ¬ ent line pc ≠ 0 := fun y => z (neq_to y)
        refine ⟨sm', y, _, _, _, rfl, ?_⟩
        rw [step]
        unfold restStep
        rw [if_neg z]
        exact hy'
    · rintro σ Hc ⟨sm, y, x3, x4, x5, rfl, hy⟩
      rw [List.take_of_length_le (by rw [List.length_zip]; omega)] at hy
      exact ⟨_, rfl, q y Hc hy sm⟩
end
end FR
set_option Elab.async false
set_option linter.all false
set_option maxRecDepth 100000
set_option maxHeartbeats 4000000
namespace FR
open PySem PySem.Spec PyProof.Rows L2 RF
/-- a def of the top, with its promise -/
structure Glo (P : Program) (w : World) (K : PySem.W.Frag) (mg : Str → Option Value) (base : Heap) (nm : Str) (n : Nat) (ps : List Str) (sp : Sp) where
  f : Addr
  fd : FuncData
  G : FnOk P w K mg base CX0 n f fd ps sp
  m : mg nm = some (.ref f)
  k : PySem.W.keepIn K (.ref f) = true
  b : Binds K fd ps []
/-- a method -/
structure Met (P : Program) (w : World) (K : PySem.W.Frag) (mg : Str → Option Value) (base : Heap) (C : Addr) (nm : Str) (n : Nat) (ps : List Str) (sp : Sp) where
  f : Addr
  fd : FuncData
  D : Dun K C nm f
  kp : PySem.W.keepIn K (.ref f) = true
  G : FnOk P w K mg base CX0 n f fd ps sp
  b : Binds K fd ps []
section
variable {P : Program} {w : World} {K : PySem.W.Frag} {mg : Str → Option Value} {base : Heap} {D : Addr}
def spEp (D : Addr) : Sp := fun vs H Q _ => ∃ (x r : Addr) (n : Nat) (rows : List (List Int)) (places : List Nat) (d : Int) (rest : List Int), vs = [.ref x, .ref r] ∧ Ec D H x n rows places d ∧ H r = some (.lst (rest.map V.int)) ∧ n ≤ rest.length ∧ n ≤ 90 ∧
  (∀ q, q < n → (∀ j, j < q → ent rest j = 0) → ent rest q ≠ 0 → Q (.int (q : Nat)) H) ∧ ((∀ j, j < n → ent rest j = 0) → Q .non H)
abbrev NEp : List Str := ["self", "rest", "place"]
theorem scEp : FnScope NEp ["self", "rest"] (defScope sEp) := ⟨rfl, rfl, rfl, by decide +kernel, rfl, by decide +kernel, by decide +kernel⟩
theorem ok_ep {f : Addr} {fd : FuncData} (F : Fun K "place_in" "Echelon.place_in" sEp f fd) (T : TxtE K mg D) : FnOk P w K mg base CX0 1 f fd ["self", "rest"] (spEp D) := by
  refine F.ok scEp (fun vs H Q E h => ?_) (fun cdv A outer s H vs Q E hr h => ?_)
  · obtain ⟨x, r, n, rows, places, d, rest, rfl, _⟩ := h
    rfl
  · obtain ⟨x, r, n, rows, places, d, rest, rfl, ⟨dx, fs, a, b, hx, ef, _, _⟩, hl, hn, n90, q1, q2⟩ := h
    refine ⟨_, pss_cons (ps_for PassesOwn.never rfl (pi_range1 (by rfl) T.range (pa_cons (pe_fld (pv 0) rfl) pa_nil)) (pg_name (i := 2) scEp.nd rfl (.inl rfl))
        (pss_one (ps_if (pt_cmpR op_ne (pe_ix ix_list (pv 1) (pv 2) (fun _ _ => rfl)) pe_int (nomark _)) (pss_one (ps_ret (pv 2))) pss_nil)))
      (pss_one (ps_ret pe_non)), ?_⟩
    refine ⟨_, rfl, x, D, dx, _, _, rfl, hx, T.cl, T.nW, ef.w, (n : Int), rfl, by omega, by omega, ?_⟩
    refine for_range (fun i σ Hc => Hc = H ∧ (∀ j, j < i → ent rest j = 0) ∧ ∃ x2 : Option V, σ = [some (.ref x), some (.ref r), x2]) ⟨rfl, fun j hj => by omega, _, rfl⟩ ?_ ?_
    · rintro i σ Hc hi ⟨rfl, h0, x2, rfl⟩
      have hi : i < n := by omega
      have e : (0 : Int) + (i : Nat) = (i : Nat) := by omega
      rw [e]
      refine ⟨_, rfl, _, rfl, r, _, _, _, rfl, rfl, SqL.of hl, atI_ent (by omega), rfl, _, rfl, ite2 (fun z => ?_) (fun z => ?_)⟩
      · exact ⟨_, rfl, q1 i hi h0 (neq_of z)⟩
      · have z : ent rest i = 0 := Classical.byContradiction fun y => z (neq_to y)
        refine ⟨rfl, fun j hj => ?_, _, rfl⟩
        by_cases y : j = i
        · rw [y]; exact z
        · exact h0 j (by omega)
    · rintro σ Hc ⟨rfl, h0, x2, rfl⟩
      exact q2 fun j hj => h0 j (by omega)
theorem putF_len {f : Str} {u v : V} : ∀ {fs : List (Str × V)}, fs.lookup f = some u → (putF f v fs).length = fs.length
  | [], h => by simp at h
  | (g, y) :: r, h => by
    show (if g = f then (g, v) :: r else (g, y) :: putF f v r).length = _
    by_cases e : g = f
    · rw [if_pos e]; rfl
    · rw [if_neg e]
      have h' : r.lookup f = some u := by
        rw [List.lookup_cons] at h
        have : (f == g) = false := by
          cases z : (f == g) with
          | false => rfl
          | true => exact absurd (eq_of_beq z).symm e
        rw [this] at h
        exact h
      show (putF f v r).length + 1 = r.length + 1
      rw [putF_len h']
def spEt (D : Addr) : Sp := fun vs H Q _ => ∃ (x r : Addr) (q n m t : Nat) (rows : List (List Int)) (places : List Nat) (d : Int) (rest : List Int), vs = [.ref x, .ref r, .int (q : Nat)] ∧ Ec D H x n rows places d ∧ H r = some (.lst (rest.map V.int)) ∧ Rws rows places d n m ∧ rest.length = n ∧ Sh rest t ∧ n ≤ 90 ∧ q < n ∧ d ≠ 0 ∧
  m ≤ 8000 ∧ t ≤ 8000 ∧ 0 < m ∧ 0 < t ∧ ∀ H', Ec D H' x n (clearedBy rows rest q d ++ [rest]) (places ++ [q]) (ent rest q) → (∀ z o, z ≠ x → H z = some o → H' z = some o) → Q .non H'
abbrev NEt : List Str := ["self", "rest", "place"]
theorem scEt : FnScope NEt ["self", "rest", "place"] (defScope sEt) := ⟨rfl, rfl, rfl, by decide +kernel, rfl, by decide +kernel, by decide +kernel⟩
theorem ok_et {f : Addr} {fd : FuncData} (F : Fun K "take" "Echelon.take" sEt f fd) (T : TxtE K mg D) (gC : Glo P w K mg base "cleared_by" 1 ["rows", "line", "at", "divisor"] spClr) : FnOk P w K mg base CX0 2 f fd ["self", "rest", "place"] (spEt D) := by
  refine F.ok scEt (fun vs H Q E h => ?_) (fun cdv A outer s H vs Q E hr h => ?_)
  · obtain ⟨x, r, q, n, m, t, rows, places, d, rest, rfl, _⟩ := h
    rfl
  · obtain ⟨x, r, q, n, m, t, rows, places, d, rest, rfl, ⟨dx, fs, a, b, hx, ef, hm, hb⟩, hl, rw_, hn, hsl, n90, hq, d0, m8, t8, m0, t0, k⟩ := h
    refine ⟨_, pss_cons (ps_fld (pv 0) (pe_op op_cat (pe_call gC.G hr (by rfl) gC.m gC.k gC.b .nil pass0 (pa_cons (pe_fld (pv 0) rfl) (pa_cons (pv 1) (pa_cons (pv 2) (pa_cons (pe_fld (pv 0) rfl) pa_nil))))) (pe_lst (pa_cons (pv 1) pa_nil))) rfl)
      (pss_cons (ps_fld (pv 0) (pe_op op_cat (pe_fld (pv 0) rfl) (pe_lst (pa_cons (pv 2) pa_nil))) rfl)
      (pss_one (ps_fld (pv 0) (pe_ix ix_list (pv 1) (pv 2) (fun _ _ => rfl)) rfl))), ?_⟩
    refine ⟨_, rfl, x, D, dx, _, _, rfl, hx, T.cl, T.nR, ef.r, _, rfl, _, rfl, _, rfl, x, D, dx, _, _, rfl, hx, T.cl, T.nD, ef.d, ?_⟩
    refine ⟨a, r, rows, rest, q, d, n, m, t, rfl, hm, hl, rw_.few, rw_.row, hn, hsl, n90, hq, d0, rw_.dz, m8, t8, m0, t0, fun y H1 hy s1 => ?_⟩
    obtain ⟨us, hy1, hu⟩ := hy
    refine ⟨_, rfl, small1000 (by show 0 ≤ 1000; decide), fun l1 hl1 => ?_⟩
    have s2 : Same H1 (upd H1 l1 (.lst [.ref r])) := same_new hl1
    have hl2 : upd H1 l1 (.lst [.ref r]) l1 = some (.lst [.ref r]) := upd_same
    have e1 := s2 _ _ hy1
    have s12 := s1.trans s2
    have hu2 := hu.imp fun _ _ z => z.same s2
    generalize upd H1 l1 _ = H2 at *
    have ulen : us.length ≤ 4 := by rw [hu.1]; unfold clearedBy; rw [List.length_map]; exact rw_.few
    refine ⟨y, l1, _, _, rfl, rfl, e1, hl2, Nat.le_of_lt (small1000 (by show us.length + 1 ≤ 1000; omega)), fun l2 hl3 => ?_⟩
    have s3 : Same H2 (upd H2 l2 (.lst (us ++ [.ref r]))) := same_new hl3
    have e3 : upd H2 l2 (.lst (us ++ [.ref r])) l2 = some (.lst (us ++ [.ref r])) := upd_same
    have s13 := s12.trans s3
    have hu3 := hu2.imp fun _ _ z => z.same s3
    have hx3 := s13 _ _ hx
    have hr3 := s13 _ _ hl
    have hb3 := s13 _ _ hb
    generalize upd H2 l2 _ = H3 at *
    refine ⟨_, rfl, x, D, dx, _, rfl, hx3, T.cl, T.nR, (by have := ef.few; omega), ?_⟩
    have xr : x ≠ r := fun z => by rw [z, hr3] at hx3; cases hx3
    have xb : x ≠ b := fun z => by rw [z, hb3] at hx3; cases hx3
    have xl2 : x ≠ l2 := fun z => by rw [z, e3] at hx3; cases hx3
    refine ⟨_, rfl, x, D, dx, _, _, rfl, upd_same, T.cl, T.nP, by rw [lookup_putF, if_neg ne_fld]; exact ef.p, _, rfl, small1000 (by show 0 ≤ 1000; decide), fun l3 hl5 => ?_⟩
    have g4 : ∀ z o, z ≠ x → H3 z = some o → upd H3 x (.ins D dx (putF "rows" (.ref l2) fs)) z = some o := fun z o n e => by rw [upd_ne n]; exact e
    have hx4 : upd H3 x (.ins D dx (putF "rows" (.ref l2) fs)) x = some (.ins D dx (putF "rows" (.ref l2) fs)) := upd_same
    generalize upd H3 x _ = H4 at *
    have hb4 := g4 _ _ (Ne.symm xb) hb3
    have hr4 := g4 _ _ (Ne.symm xr) hr3
    have he4 := g4 _ _ (Ne.symm xl2) e3
    have hu4 := hu3.imp (R' := IL H4) fun _ _ ⟨z, ez, hz⟩ => ⟨z, ez, g4 _ _ (fun y => by rw [y, hx3] at hz; cases hz) hz⟩
    have s5 : Same H4 (upd H4 l3 (.lst [.int (q : Nat)])) := same_new hl5
    have hl6 : upd H4 l3 (.lst [.int (q : Nat)]) l3 = some (.lst [.int (q : Nat)]) := upd_same
    have hx5 := s5 _ _ hx4
    have hb5 := s5 _ _ hb4
    have hr5 := s5 _ _ hr4
    have he5 := s5 _ _ he4
    have hu5 := hu4.imp fun _ _ z => IL.same z s5
    generalize upd H4 l3 _ = H5 at *
    refine ⟨b, l3, _, _, rfl, rfl, hb5, hl6, Nat.le_of_lt (small1000 (by rw [List.length_map, ← rw_.ln]; have := rw_.few; show rows.length + 1 ≤ 1000; omega)), fun l4 hl7 => ?_⟩
    have s6 : Same H5 (upd H5 l4 (.lst ((places.map fun i => V.int (i : Nat)) ++ [.int (q : Nat)]))) := same_new hl7
    have hp6 : upd H5 l4 (.lst ((places.map fun i => V.int (i : Nat)) ++ [.int (q : Nat)])) l4 = some (.lst ((places.map fun i => V.int (i : Nat)) ++ [.int (q : Nat)])) := upd_same
    have hx6 := s6 _ _ hx5
    have hr6 := s6 _ _ hr5
    have he6 := s6 _ _ he5
    have hu6 := hu5.imp fun _ _ z => IL.same z s6
    have s46 := s5.trans s6
    generalize upd H5 l4 _ = H6 at *
    have xl4 : x ≠ l4 := fun z => by rw [z, hp6] at hx6; cases hx6
    refine ⟨_, rfl, x, D, dx, _, rfl, hx6, T.cl, T.nP, by rw [putF_len ef.r]; have := ef.few; omega, ?_⟩
    refine ⟨_, rfl, _, rfl, r, _, _, _, rfl, rfl, SqL.of (by rw [upd_ne (Ne.symm xr)]; exact hr6), atI_ent (by omega), ?_⟩
    have lp : (putF "rows" (.ref l2) fs).lookup ("places" : Str) = some (.ref b) := by rw [lookup_putF, if_neg ne_fld]; exact ef.p
    refine ⟨_, rfl, x, D, dx, _, rfl, upd_same, T.cl, T.nD, by rw [putF_len lp, putF_len ef.r]; have := ef.few; omega, ?_⟩
    refine k _ ⟨dx, _, l2, l4, upd_same, ⟨?_, ?_, ?_, ?_, ?_, fun m h1 h2 h3 h4 => by rw [lookup_putF, if_neg h4, lookup_putF, if_neg h3, lookup_putF, if_neg h2]; exact ef.no m h1 h2 h3 h4⟩, ⟨us ++ [.ref r], ?_, ?_⟩, ?_⟩ ?_
    · rw [lookup_putF, if_neg ne_fld, lookup_putF, if_neg ne_fld, lookup_putF, if_neg ne_fld]; exact ef.w
    · rw [lookup_putF, if_neg ne_fld, lookup_putF, if_neg ne_fld, lookup_putF, if_pos rfl]
    · rw [lookup_putF, if_neg ne_fld, lookup_putF, if_pos rfl]
    · rw [lookup_putF, if_pos rfl]
    · have ld : (putF "places" (.ref l4) (putF "rows" (.ref l2) fs)).lookup ("divisor" : Str) = some (.int d) := by rw [lookup_putF, if_neg ne_fld, lookup_putF, if_neg ne_fld]; exact ef.d
      rw [putF_len ld, putF_len lp, putF_len ef.r]; exact ef.few
    · rw [upd_ne (Ne.symm xl2), upd_ne (Ne.symm xl2)]; exact he6
    · refine AG.snoc (hu6.imp fun _ _ ⟨z, ez, hz⟩ => ⟨z, ez, ?_⟩) ⟨r, rfl, by rw [upd_ne (Ne.symm xr), upd_ne (Ne.symm xr)]; exact hr6⟩
      have zx : z ≠ x := fun y => by rw [y, hx6] at hz; cases hz
      rw [upd_ne zx, upd_ne zx]; exact hz
    · rw [upd_ne (Ne.symm xl4), upd_ne (Ne.symm xl4), List.map_append]; exact hp6
    · intro z o n e
      rw [upd_ne n, upd_ne n]
      exact s46 _ _ (g4 _ _ n (s13 _ _ e))
end
end FR
set_option Elab.async false
set_option linter.all false
set_option maxRecDepth 100000
set_option maxHeartbeats 4000000
namespace FR
open PySem PySem.Spec PyProof.Rows L2 RF
section
variable {P : Program} {w : World} {K : PySem.W.Frag} {mg : Str → Option Value} {base : Heap} {C fI pT gT pB gB : Addr} {fdI fdT fdB : FuncData}
abbrev sBet : Stmt := top 12
theorem scBet : FnScope ["value", "least", "greatest"] ["value", "least", "greatest"] (defScope sBet) := ⟨rfl, rfl, rfl, by decide +kernel, rfl, by decide +kernel, by decide +kernel⟩
def spBet : Sp := fun vs H Q _ => ∃ i lo hi : Int, vs = [.int i, .int lo, .int hi] ∧ lo ≤ i ∧ i ≤ hi ∧ Q (.bl true) H
theorem ok_bet {f fP : Addr} {fd fdP : FuncData} (F : Fun K "is_between" "is_between" sBet f fd) (GP : FnOk P w K mg base CX0 1 fP fdP ["value"] (spPlain K)) (mP : mg "is_plain_integer" = some (.ref fP))
    (kP : PySem.W.keepIn K (.ref fP) = true) (bP : Binds K fdP ["value"] []) : FnOk P w K mg base CX0 2 f fd ["value", "least", "greatest"] spBet := by
  refine F.ok scBet (fun vs H Q E h => ?_) (fun cdv A outer s H vs Q E hr h => ?_)
  · obtain ⟨i, lo, hi, rfl, _⟩ := h
    rfl
  · obtain ⟨i, lo, hi, rfl, h1, h2, q⟩ := h
    refine ⟨_, pss_one (ps_ret (pe_and (pe_call GP hr (by rfl) mP kP bP .nil pass0 (pa_cons (pv 0) pa_nil)) (pe_one (pe_chain op_le op_le (pv 1) (pv 0) (pv 2))))), ?_⟩
    refine ⟨_, rfl, _, _, true, false, rfl, .base (.int i), kI1, kI2, _, rfl, ?_⟩
    refine ⟨_, rfl, _, rfl, _, _, rfl, rfl, _, rfl, ?_⟩
    rw [if_pos (decide_eq_true h1)]
    refine ⟨_, rfl, _, _, rfl, rfl, ?_⟩
    show Q (.bl (decide (i ≤ hi))) H
    rw [decide_eq_true h2]
    exact q

/-! ### _over -/
abbrev sOvr : Stmt := top 29
abbrev NOr : List Str := ["tops", "bottom", "top"]
theorem scOr : FnScope NOr ["tops", "bottom"] (defScope sOvr) := ⟨rfl, rfl, rfl, by decide +kernel, rfl, by decide +kernel, by decide +kernel⟩
/-- a tuple of Fractions -/
def TFr (C : Addr) (H : Hp) (a : Addr) (ps : List PI) : Prop := ∃ xs, H a = some (.tup xs) ∧ FRs C H xs ps
theorem TFr.same {H H' : Hp} {a : Addr} {ps : List PI} (h : TFr C H a ps) (s : Same H H') : TFr C H' a ps := by
  obtain ⟨xs, e, z⟩ := h
  exact ⟨xs, s _ _ e, z.same s⟩
def ovP (tops : List Int) (b : Int) : List PI := tops.map fun t => (nT t b, nB t b)
def spOvr (C : Addr) : Sp := fun vs H Q _ => ∃ (a : Addr) (tops : List Int) (b : Int), vs = [.ref a, .int b] ∧ H a = some (.lst (tops.map V.int)) ∧ tops.length ≤ 90 ∧ b ≠ 0 ∧ b.natAbs < 2 ^ 8000 ∧ ∀ t H', TFr C H' t (ovP tops b) → Same H H' → Q (.ref t) H'
theorem ok_ovr {f : Addr} {fd : FuncData} (F : Fun K "_over" "_over" sOvr f fd) (k : FrK P w K mg base C fI pT gT pB gB fdI fdT fdB) (mT : mg "tuple" = none) : FnOk P w K mg base CX0 4 f fd ["tops", "bottom"] (spOvr C) := by
  refine F.ok scOr (fun vs H Q E h => ?_) (fun cdv A outer s H vs Q E hr h => ?_)
  · obtain ⟨a, tops, b, rfl, _⟩ := h
    rfl
  · obtain ⟨a, tops, b, rfl, ha, hl, b0, bz, q⟩ := h
    refine ⟨_, pss_one (ps_ret (pe_callTy call_tuple_of (by rfl) mT (by decide +kernel) (pa_cons (pe_lc (own := [("top", 2)]) (g := gName 2) (tt := tYes) rfl scOr.nd (pi_list (pv 0)) (blkOk_by (N := NOr) (sc := defScope sOvr) (by decide +kernel))
        (fun _ _ _ _ _ => pg_name (i := 2) scOr.nd rfl (.inl rfl)) (fun _ _ _ _ _ => pts_nil) (fun _ _ _ _ _ => pe_make k.M k.GI hr (by rfl) k.T.mC k.b2 .nil pass0 (pa_cons (pv 2) (pa_cons (pv 1) pa_nil)))) pa_nil))), ?_⟩
    refine ⟨_, rfl, a, rfl, ⟨_, SqL.of ha⟩, fun D hD => ?_⟩
    refine lc_list (xs := tops.map V.int) (fun i Hc => Same H Hc ∧ ∃ vs, Hc D = some (.lst vs) ∧ FRs C Hc vs ((ovP tops b).take i)) ⟨same_new hD, [], upd_same, A2.nil⟩ (fun i Hc _ p => SqL.of (p.1 _ _ ha)) ?_ ?_
    · rintro i v Hc hv ⟨sm, vs, hDc, hf⟩
      obtain ⟨y, hy, rfl⟩ := il_at hv
      have hi := (List.getElem?_eq_some_iff.mp hy).1
      refine ⟨rfl, _, rfl, _, rfl, fun x dx nx nd ne => ?_⟩
      refine ⟨x, dx, _, _, rfl, upd_same, b0, dv8 b0 bz, fun H' hf' hs => ⟨rfl, ?_⟩⟩
      have s2 := same_make (C := C) nx nd hs
      refine ⟨vs, s2 _ _ hDc, small1000 (by rw [hf.1, List.length_take]; omega), same_upd hD (sm.trans s2), vs ++ [.ref x], upd_same, ?_⟩
      rw [take_snoc (x := (nT y b, nB y b)) (by unfold ovP; rw [List.getElem?_map, hy]; rfl)]
      exact A2.snoc ((hf.same s2).updl (s2 _ _ hDc)) ⟨x, rfl, hf'.updl (s2 _ _ hDc)⟩
    · rintro Hc ⟨sm, vs, hDc, hf⟩
      rw [List.take_of_length_le (by unfold ovP; rw [List.length_map, List.length_map]; exact Nat.le_refl _)] at hf
      refine ⟨D, _, rfl, .inl ⟨SqL.of hDc, fun t ht => ?_⟩⟩
      exact q t _ ⟨vs, upd_same, hf.same (same_new ht)⟩ (sm.trans (same_new ht))
end
end FR
set_option Elab.async false
set_option linter.all false
set_option maxRecDepth 100000
set_option maxHeartbeats 4000000
namespace FR
open PySem PySem.Spec PyProof.Rows L2 RF
theorem pi_tupK {X : Cx} {K : PySem.W.Frag} {tg l : Expr} {tl : TE} (hK : X.K = K) (hl : PE X l tl) : L2.PI X tg l (iTup K tl) := by
  subst hK
  exact pi_tup hl
theorem pi_listK {X : Cx} {K : PySem.W.Frag} {tg l : Expr} {tl : TE} (hK : X.K = K) (hl : PE X l tl) : L2.PI X tg l (iList K tl) := by
  subst hK
  exact pi_list hl
theorem ix_tupK {X : Cx} {K : PySem.W.Frag} (hK : X.K = K) : IxR X (rIxT K) := by
  subst hK
  exact ix_tup
theorem call_tuple_ofK {X : Cx} {K : PySem.W.Frag} (hK : X.K = K) : CallR X (.type "tuple") (fun xs H Q => ∃ p ys, xs = [.ref p] ∧ ((SqL K H p ys ∧ ∀ l, H l = none → Q (.ref l) (upd H l (.tup ys))) ∨ (SqT K H p ys ∧ Q (.ref p) H))) := by
  subst hK
  exact call_tuple_of
theorem FV.updl {C : Addr} {H : Hp} {D : Addr} {xs : List V} {o : HO} {v : V} {t b : Int} (h : FV C H v t b) (hD : H D = some (.lst xs)) : FV C (upd H D o) v t b := by
  rcases h with ⟨p, e, z⟩ | z
  · exact .inl ⟨p, e, z.updl hD⟩
  · exact .inr z
theorem FVs.updl {C : Addr} {H : Hp} {D : Addr} {xs : List V} {o : HO} {vs : List V} {ps : List PI} (h : FVs C H vs ps) (hD : H D = some (.lst xs)) : FVs C (upd H D o) vs ps := A2.imp h fun _ _ f => f.updl hD
/-- a tuple of tuples of fractions -/
def TMx (C : Addr) (H : Hp) (a : Addr) (pss : List (List PI)) : Prop := ∃ vs, H a = some (.tup vs) ∧ AG (fun v ps => ∃ q, v = .ref q ∧ Tf C H q ps) vs pss
theorem TMx.same {C : Addr} {H H' : Hp} {a : Addr} {pss : List (List PI)} (h : TMx C H a pss) (s : Same H H') : TMx C H' a pss := by
  obtain ⟨vs, e, z⟩ := h
  exact ⟨vs, s _ _ e, z.imp fun _ _ ⟨q, e, t⟩ => ⟨q, e, t.same s⟩⟩
def turnP (pss : List (List PI)) (n : Nat) : List (List PI) := (List.range n).map fun j => pss.map fun ps => ps.getD j (0, 1)
/-- rows: as many as can be, all of one length -/
structure Rs (pss : List (List PI)) (n : Nat) : Prop where
  ne : 0 < pss.length
  few : pss.length ≤ 80
  n1 : 0 < n
  n12 : n ≤ 12
  len : ∀ ps ∈ pss, ps.length = n
  lf : ∀ ps ∈ pss, AllLf ps
  sz : ∀ ps ∈ pss, Shr ps
/-- small entries -/
def Sm (pss : List (List PI)) : Prop := ∀ ps ∈ pss, ∀ p ∈ ps, p.1.natAbs < 2 ^ 30 ∧ p.2.natAbs < 2 ^ 30
section
variable {P : Program} {w : World} {K : PySem.W.Frag} {mg : Str → Option Value} {base : Heap} {C fI pT gT pB gB : Addr} {fdI fdT fdB : FuncData}
abbrev sTrn : Stmt := top 28
abbrev NTn : List Str := ["rows", "at", "row"]
theorem scTn : FnScope NTn ["rows"] (defScope sTrn) := ⟨rfl, rfl, rfl, by decide +kernel, rfl, by decide +kernel, by decide +kernel⟩
def callA : Expr → Expr
  | .Call _ (a :: _) _ _ => a
  | e => e
abbrev lcTn : Scope := lcSc (callA (retE ((defBody sTrn).getD 0 (.Pass ⟨0, 0, 0, 0⟩))))
def spTrn (C : Addr) : Sp := fun vs H Q _ => ∃ (a : Addr) (pss : List (List PI)) (n : Nat), vs = [.ref a] ∧ TMx C H a pss ∧ Rs pss n ∧ Sm pss ∧ ∀ t H', TMx C H' t (turnP pss n) → Same H H' → Q (.ref t) H'
theorem ok_trn {f : Addr} {fd : FuncData} (F : Fun K "_turned" "_turned" sTrn f fd) (mT : mg "tuple" = none) (mR : mg "range" = none) (mL : mg "len" = none) : FnOk P w K mg base CX0 1 f fd ["rows"] (spTrn C) := by
  refine F.ok scTn (fun vs H Q E h => ?_) (fun cdv A outer s H vs Q E hr h => ?_)
  · obtain ⟨a, pss, n, rfl, _⟩ := h
    rfl
  · obtain ⟨a, pss, n, rfl, ⟨vs, ha, hv⟩, R, Z, q⟩ := h
    refine ⟨_, pss_one (ps_ret (pe_callTy call_tuple_of (by rfl) mT (by decide +kernel) (pa_cons (pe_lc (X := (cxOf CX0 P w K mg base NTn "_turned" (defScope sTrn) f cdv A outer s H E).nox) (own := [("at", 1)]) (g := gName 1) (tt := tYes) rfl scTn.nd
        (pi_range1 (by rfl) mR (pa_cons (pe_callB call_len_seq (by rfl) mL PySem.boot_len (pa_cons (pe_ix ix_tup (pv 0) pe_int (fun _ _ => rfl)) pa_nil)) pa_nil)) (blkOk_by (N := NTn) (sc := defScope sTrn) (by decide +kernel))
        (fun _ _ _ _ _ => pg_name (i := 1) scTn.nd rfl (.inr rfl)) (fun _ _ _ _ _ => pts_nil)
        (fun s0 H0 C0 cl0 fp0 => pe_callTy (call_tuple_ofK (K := K) rfl) (by rfl) mT (by decide +kernel) (pa_cons (pe_lc (X := ((cxOf CX0 P w K mg base NTn "_turned" (defScope sTrn) f cdv A outer s H E).nox).blk s0 H0 lcTn (compEnvC lcTn cl0 C0 ((cxOf CX0 P w K mg base NTn "_turned" (defScope sTrn) f cdv A outer s H E).nox).env) fp0)
          (own := [("row", 2)]) (g := gName 2) (tt := tYes) rfl scTn.nd (pi_tupK (K := K) rfl (pv 0)) (blkOk_by (N := NTn) (sc := relS lcTn (defScope sTrn)) (by decide +kernel))
          (fun _ _ _ _ _ => pg_name (i := 2) scTn.nd rfl (.inl rfl)) (fun _ _ _ _ _ => pts_nil) (fun _ _ _ _ _ => pe_ix (ix_tupK (K := K) rfl) (pv 2) (pv 1) (fun _ _ => rfl))) pa_nil))) pa_nil))), ?_⟩
    match pss, vs, hv, R, ha, Z, q with
    | [], _, _, R, _, _, _ => exact absurd R.ne (by decide)
    | p0 :: pr, [], hv, _, _, _, _ => exact absurd hv.1 (by simp)
    | p0 :: pr, v0 :: vr, hv, R, ha, Z, q =>
    obtain ⟨z0, hz0, q0, rfl, tf0⟩ := hv.2 0 v0 rfl
    cases hz0
    obtain ⟨xs0, hx0, hf0⟩ := tf0.at_
    have l0 : xs0.length = n := by rw [hf0.1]; exact R.len p0 List.mem_cons_self
    have n12 := R.n12
    refine ⟨_, rfl, a, _, 0, _, rfl, rfl, SqT.of ha, atI_nat (j := 0) rfl, ?_⟩
    refine ⟨q0, xs0, rfl, .inr (SqT.of hx0), (xs0.length : Int), rfl, by omega, by omega, fun D hD => ?_⟩
    have nat : (xs0.length : Int).toNat = n := by omega
    rw [nat]
    generalize hpss : p0 :: pr = pss at *
    generalize hvs : V.ref q0 :: vr = vs at *
    refine lc_range (lo := 0) (n := n) (fun i Hc => Same H Hc ∧ ∃ us, Hc D = some (.lst us) ∧ AG (fun v ps => ∃ q, v = .ref q ∧ Tf C Hc q ps) us ((turnP pss n).take i)) ⟨same_new hD, [], upd_same, AG.nil⟩ ?_ ?_
    · rintro i Hc hi ⟨sm, us, hDc, hu⟩
      have e : (0 : Int) + (i : Nat) = (i : Nat) := by omega
      rw [e]
      have ha1 := sm _ _ ha
      refine ⟨rfl, _, rfl, a, rfl, ⟨_, SqT.of ha1⟩, fun D2 hD2 => ?_⟩
      refine lc_tup (xs := vs) (fun j Hx => Same Hc Hx ∧ ∃ ws, Hx D2 = some (.lst ws) ∧ FVs C Hx ws ((pss.map fun ps => ps.getD i (0, 1)).take j)) ⟨same_new hD2, [], upd_same, A2.nil⟩ (fun j Hx _ p => SqT.of (p.1 _ _ ha1)) ?_ ?_
      · rintro j v Hx hvj ⟨s2, ws, hD3, hw⟩
        obtain ⟨ps, hps, q1, rfl, tf⟩ := hv.2 j v hvj
        have mp := List.mem_of_getElem? hps
        obtain ⟨xs, hx, hf⟩ := (tf.same (sm.trans s2)).at_
        have lx : i < xs.length := by rw [hf.1, R.len ps mp]; exact hi
        have gx : xs[i]? = some xs[i] := List.getElem?_eq_getElem lx
        obtain ⟨p, hp, fv⟩ := hf.2 i _ gx
        have jl := (List.getElem?_eq_some_iff.mp hps).1
        have f80 := R.few
        refine ⟨rfl, _, rfl, _, rfl, q1, _, _, _, rfl, rfl, SqT.of hx, atI_nat gx, ws, hD3, small1000 (by rw [hw.1, List.length_take]; omega), same_upd hD2 s2, ws ++ [xs[i]], upd_same, ?_⟩
        rw [take_snoc (x := p) (by rw [List.getElem?_map, hps]; show some (ps.getD i (0, 1)) = _; rw [List.getD_eq_getElem?_getD, hp]; rfl)]
        exact A2.snoc (hw.updl hD3) (fv.updl hD3)
      · rintro Hx ⟨s2, ws, hD3, hw⟩
        rw [List.take_of_length_le (by rw [List.length_map, hv.1]; exact Nat.le_refl _)] at hw
        refine ⟨D2, _, rfl, .inl ⟨SqL.of hD3, fun t ht => ?_⟩⟩
        have s3 : Same Hc (upd Hx t (.tup ws)) := s2.trans (same_new ht)
        have e1 := s3 _ _ hDc
        have tT : upd Hx t (.tup ws) t = some (.tup ws) := upd_same
        have hw3 : FVs C (upd Hx t (.tup ws)) ws (pss.map fun ps => ps.getD i (0, 1)) := hw.same (same_new ht)
        generalize upd Hx t _ = Hy at *
        have f80 := R.few
        refine ⟨us, e1, small1000 (by rw [hu.1, List.length_take]; omega), same_upd hD (sm.trans s3), us ++ [.ref t], upd_same, ?_⟩
        have hDy := e1
        rw [take_snoc (x := pss.map fun ps => ps.getD i (0, 1)) (by unfold turnP; rw [List.getElem?_map, List.getElem?_range hi]; rfl)]
        have up : ∀ q ps, Tf C Hy q ps → Tf C (upd Hy D (.lst (us ++ [.ref t]))) q ps := fun q ps ⟨⟨xs, h1, h2⟩, h3, h4, h5⟩ => ⟨⟨xs, tup_updl h1 hDy, h2.updl hDy⟩, h3, h4, h5⟩
        refine AG.snoc (hu.imp fun _ _ ⟨q, e, tf⟩ => ⟨q, e, up _ _ (tf.same s3)⟩) ⟨t, rfl, up _ _ ⟨⟨ws, tT, hw3⟩, by rw [List.length_map]; exact f80, fun p hp => ?_, Shr.of (fun p hp => ?_) (by rw [List.length_map]; exact f80) fun p hp => ?_⟩⟩
        all_goals
          obtain ⟨ps, hps, rfl⟩ := List.mem_map.mp hp
          have g : ps[i]? = some (ps.getD i (0, 1)) := by
            have : i < ps.length := by rw [R.len ps hps]; exact hi
            rw [List.getD_eq_getElem?_getD, List.getElem?_eq_getElem this]; rfl
        · exact R.lf ps hps _ (List.mem_of_getElem? g)
        · exact R.lf ps hps _ (List.mem_of_getElem? g)
        · exact Z ps hps _ (List.mem_of_getElem? g)
    · rintro Hc ⟨sm, us, hDc, hu⟩
      rw [List.take_of_length_le (by unfold turnP; rw [List.length_map, List.length_range]; exact Nat.le_refl _)] at hu
      refine ⟨D, _, rfl, .inl ⟨SqL.of hDc, fun t ht => ?_⟩⟩
      exact q t _ ⟨us, upd_same, hu.imp fun _ _ ⟨q, e, tf⟩ => ⟨q, e, tf.same (same_new ht)⟩⟩ (sm.trans (same_new ht))
end
end FR
set_option Elab.async false
set_option linter.all false
set_option maxRecDepth 100000
set_option maxHeartbeats 4000000
namespace FR
open PySem PySem.Spec PyProof.Rows L2 RF
def dotI (xs ys : List Int) : Int := (List.zipWith (fun a b => a * b) xs ys).sum
def dotP (ps cs : List PI) : PI := (nT (dotI (topsP ps (lcmP ps)) (topsP cs (lcmP cs))) (lcmP ps * lcmP cs), nB (dotI (topsP ps (lcmP ps)) (topsP cs (lcmP cs))) (lcmP ps * lcmP cs))
def timesP (pss : List (List PI)) (cs : List PI) : List PI := pss.map fun ps => dotP ps cs
theorem topsP_get {ps : List PI} {m : Int} {i : Nat} {x : Int} (h : (topsP ps m)[i]? = some x) : ∃ p, p ∈ ps ∧ x = p.1 * m.fdiv p.2 := by
  unfold topsP at h
  rw [List.getElem?_map] at h
  cases e : ps[i]? with
  | none => rw [e] at h; cases h
  | some p => rw [e] at h; exact ⟨p, List.mem_of_getElem? e, (Option.some.inj h).symm⟩
theorem tops_sz {ps : List PI} (hl : AllLf ps) (few : ps.length ≤ 80) (hs : Shr ps) {i : Nat} {x : Int} (h : (topsP ps (lcmP ps))[i]? = some x) : x.natAbs < 2 ^ 4900 := by
  obtain ⟨p, mp, rfl⟩ := topsP_get h
  have dz := fdiv_le (lcmP_dvd ps p mp) (hl p mp).1
  have mz := hs.1
  exact Nat.lt_of_lt_of_le (wide_lt (hs.2 p mp).1 (Nat.lt_of_le_of_lt dz mz)) (Nat.pow_le_pow_right (by decide) (by decide))
section
variable {P : Program} {w : World} {K : PySem.W.Frag} {mg : Str → Option Value} {base : Heap} {C fI pT gT pB gB : Addr} {fdI fdT fdB : FuncData}
abbrev sTms : Stmt := top 30
abbrev NTm : List Str := ["rows", "column", "column_tops", "column_bottom", "found", "row", "tops", "bottom", "top", "one", "other"]
theorem scTm : FnScope NTm ["rows", "column"] (defScope sTms) := ⟨rfl, rfl, rfl, by decide +kernel, rfl, by decide +kernel, by decide +kernel⟩
def spTms (C : Addr) : Sp := fun vs H Q _ => ∃ (a c : Addr) (pss : List (List PI)) (cs : List PI), vs = [.ref a, .ref c] ∧ TMx C H a pss ∧ Tf C H c cs ∧ pss.length ≤ 80 ∧ (∀ ps ∈ pss, ps.length = cs.length) ∧ ∀ t H', TFr C H' t (timesP pss cs) → Same H H' → Q (.ref t) H'
theorem ok_tms {f : Addr} {fd : FuncData} (F : Fun K "_times" "_times" sTms f fd) (k : FrK P w K mg base C fI pT gT pB gB fdI fdT fdB) (gO : Glo P w K mg base "over_one_bottom" 5 ["fractions"] (spOver C)) (mS : mg "sum" = none) (mT : mg "tuple" = none) (mZ : mg "zip" = none) :
    FnOk P w K mg base CX0 6 f fd ["rows", "column"] (spTms C) := by
  refine F.ok scTm (fun vs H Q E h => ?_) (fun cdv A outer s H vs Q E hr h => ?_)
  · obtain ⟨a, c, pss, cs, rfl, _⟩ := h
    rfl
  · obtain ⟨a, c, pss, cs, rfl, ⟨vs, ha, hv⟩, tc, f80, len, q⟩ := h
    refine ⟨_, pss_cons (ps_asg (pe_call gO.G hr (by rfl) gO.m gO.k gO.b .nil pass0 (pa_cons (pv 1) pa_nil)) (pg_tup (by rfl) (pgs_cons (pg_name (i := 2) scTm.nd rfl (.inl rfl)) (pgs_cons (pg_name (i := 3) scTm.nd rfl (.inl rfl)) pgs_nil))))
      (pss_cons (ps_set (i := 4) scTm.nd rfl (Or.inl rfl) (pe_lst pa_nil))
      (pss_cons (ps_for PassesOwn.never rfl (pi_tup (pv 0)) (pg_name (i := 5) scTm.nd rfl (.inl rfl))
        (pss_cons (ps_asg (pe_call gO.G hr (by rfl) gO.m gO.k gO.b .nil pass0 (pa_cons (pv 5) pa_nil)) (pg_tup (by rfl) (pgs_cons (pg_name (i := 6) scTm.nd rfl (.inl rfl)) (pgs_cons (pg_name (i := 7) scTm.nd rfl (.inl rfl)) pgs_nil))))
        (pss_cons (ps_set (i := 8) scTm.nd rfl (Or.inl rfl) (pe_callB (cr_sum rfl) (by rfl) mS (by decide +kernel) (pa_cons (pe_lc (X := (cxOf CX0 P w K mg base NTm "_times" (defScope sTms) f cdv A outer s H E).nox) (own := [("one", 9), ("other", 10)]) (g := gTup K 2 (gCons (gName 9) (gCons (gName 10) gNil))) (tt := tYes) rfl scTm.nd (pi_zip (by rfl) mZ (pa_cons (pv 6) (pa_cons (pv 2) pa_nil))) (blkOk_by (N := NTm) (sc := defScope sTms) (by decide +kernel))
          (fun _ _ _ _ _ => pg_tupK (K := K) rfl rfl (pgs_cons (pg_name (i := 9) scTm.nd rfl (.inl rfl)) (pgs_cons (pg_name (i := 10) scTm.nd rfl (.inl rfl)) pgs_nil))) (fun _ _ _ _ _ => pts_nil) (fun _ _ _ _ _ => pe_op op_mulW (pv 9) (pv 10))) pa_nil)))
        (pss_one (ps_expr (pe_bm PySem.F.plainAttrs_list PySem.F.slot_list_append PySem.F.type_list_append mt_append (pv 4) (pa_cons (pe_make k.M k.GI (hr.mono (by decide)) (by rfl) k.T.mC k.b2 .nil pass0 (pa_cons (pv 8) (pa_cons (pe_op op_mulW (pv 7) (pv 3)) pa_nil))) pa_nil)))))))
      (pss_one (ps_ret (pe_callTy call_tuple_of (by rfl) mT (by decide +kernel) (pa_cons (pv 4) pa_nil)))))), ?_⟩
    refine ⟨_, rfl, c, cs, rfl, tc, fun ca cb H1 hca hcb s1 => ?_⟩
    refine ⟨cb, _, rfl, SqT.of hcb, rfl, _, _, rfl, _, _, rfl, rfl, ?_⟩
    refine ⟨Nat.zero_le _, fun fo hfo => ?_⟩
    have s2 : Same H (upd H1 fo (.lst [])) := s1.trans (same_new hfo)
    refine ⟨_, rfl, a, rfl, ⟨_, SqT.of (s2 _ _ ha)⟩, ?_⟩
    have cf : ca ≠ fo := ne_of_none hca hfo
    have c0 := lcmP_pos tc.lf
    have cz := tc.sz.1
    refine for_tup (xs := vs) (fun i σ Hc => Same H Hc ∧ Hc ca = some (.lst ((topsP cs (lcmP cs)).map V.int)) ∧ ∃ (us : List V) (x5 x6 x7 x8 : Option V), σ = [some (.ref a), some (.ref c), some (.ref ca), some (.int (lcmP cs)), some (.ref fo), x5, x6, x7, x8, none, none] ∧ Hc fo = some (.lst us) ∧ FRs C Hc us ((timesP pss cs).take i) ∧ H fo = none)
      ⟨s2, same_new hfo _ _ hca, [], _, _, _, _, rfl, upd_same, A2.nil, Same.free s1 hfo⟩ (fun i σ Hc _ p => SqT.of (p.1 _ _ ha)) ?_ ?_
    · rintro i v σ Hc hvi ⟨sm, hc3, us, x5, x6, x7, x8, rfl, hfo3, hu, hn⟩
      obtain ⟨ps, hps, q1, rfl, tf⟩ := hv.2 i v hvi
      have mp := List.mem_of_getElem? hps
      have tf := tf.same sm
      have il := (List.getElem?_eq_some_iff.mp hps).1
      refine ⟨_, rfl, q1, ps, rfl, tf, fun ra rb H2 hra hrb s3 => ?_⟩
      refine ⟨rb, _, rfl, SqT.of hrb, rfl, _, _, rfl, _, _, rfl, rfl, ?_⟩
      refine ⟨_, rfl, _, rfl, ra, ca, _, _, rfl, SqL.of hra, SqL.of (s3 _ _ hc3), fun D2 hD2 => ?_⟩
      have tl : (topsP ps (lcmP ps)).length = ps.length := by unfold topsP; rw [List.length_map]
      have cl : (topsP cs (lcmP cs)).length = cs.length := by unfold topsP; rw [List.length_map]
      refine lz_ints (xs := topsP ps (lcmP ps)) (ys := topsP cs (lcmP cs)) (by rw [tl, cl]; exact len ps mp) (by rw [tl]; have := tf.few; omega) (fun e o => e * o) hD2 hra (s3 _ _ hc3) (fun _ _ => rfl) ?_ ?_
      · intro i2 x y H3 Q2 hx hy s4 q2
        exact ⟨_, rfl, _, rfl, _, _, rfl, rfl, wide_mul (tops_sz tf.lf tf.few tf.sz hx) (tops_sz tc.lf tc.few tc.sz hy) (by decide) (by decide) (by decide), q2⟩
      · intro H3 s4 hD3
        have r0 := lcmP_pos tf.lf
        have rz := tf.sz.1
        refine ⟨D2, _, rfl, SqL.of hD3, ?_⟩
        have s34 := s3.trans s4
        refine ⟨_, rfl, .inl ⟨rfl, _, SqL.of (s34 _ _ hfo3)⟩, _, rfl, _, rfl, _, rfl, _, _, rfl, rfl, wide_mul rz cz (by decide) (by decide) (by decide), fun x dx nx nd ne => ?_⟩
        have m0 : lcmP ps * lcmP cs ≠ 0 := Int.mul_ne_zero (by omega) (by omega)
        have mz : (lcmP ps * lcmP cs).natAbs < 2 ^ 8000 := Nat.lt_of_lt_of_le (wide_lt rz cz) (Nat.pow_le_pow_right (by decide) (by decide))
        refine ⟨x, dx, _, _, rfl, upd_same, m0, dv8 m0 mz, fun H' hf hs => ⟨rfl, ?_⟩⟩
        have s5 := s34.trans (same_make (C := C) nx nd hs)
        have e5 := s5 _ _ hfo3
        refine ⟨fo, us, _, rfl, rfl, e5, small1000 (by rw [hu.1, List.length_take]; omega), ?_⟩
        refine ⟨same_upd hn (sm.trans s5), by rw [upd_ne cf]; exact s5 _ _ hc3, us ++ [.ref x], _, _, _, _, rfl, upd_same, ?_, hn⟩
        rw [take_snoc (x := dotP ps cs) (by unfold timesP; rw [List.getElem?_map, hps]; rfl)]
        exact A2.snoc ((hu.same s5).updl e5) ⟨x, rfl, hf.updl e5⟩
    · rintro σ Hc ⟨sm, hc3, us, x5, x6, x7, x8, rfl, hfo3, hu, hn⟩
      rw [List.take_of_length_le (by unfold timesP; rw [List.length_map, hv.1]; exact Nat.le_refl _)] at hu
      refine ⟨_, rfl, fo, _, rfl, .inl ⟨SqL.of hfo3, fun t ht => ?_⟩⟩
      exact q t _ ⟨us, upd_same, hu.same (same_new ht)⟩ (sm.trans (same_new ht))
end
end FR
set_option Elab.async false
set_option linter.all false
set_option maxRecDepth 100000
set_option maxHeartbeats 4000000
namespace FR
open PySem PySem.Spec PyProof.Rows L2 RF
theorem cr_allK {X : Cx} {K : PySem.W.Frag} (hK : X.K = K) (hc : X.calm = true) : CallR X (.builtin "all") (rAll K) := by
  subst hK
  exact cr_all hc
theorem call_len_seqK {X : Cx} {K : PySem.W.Frag} (hK : X.K = K) : CallR X (.builtin "len") (fun xs H Q => ∃ p ys, xs = [.ref p] ∧ (SqL K H p ys ∨ SqT K H p ys) ∧ Q (.int ys.length) H) := by
  subst hK
  exact call_len_seq
section
variable {P : Program} {w : World} {K : PySem.W.Frag} {mg : Str → Option Value} {base : Heap} {C : Addr}
/-! ### is_rows -/
abbrev sIrs : Stmt := top 22
abbrev NIr : List Str := ["value", "width", "row"]
theorem scIr : FnScope NIr ["value"] (defScope sIrs) := ⟨rfl, rfl, rfl, by decide +kernel, rfl, by decide +kernel, by decide +kernel⟩
structure TxtR (mg : Str → Option Value) : Prop where
  isi : mg "isinstance" = none
  tup : mg "tuple" = none
  len : mg "len" = none
  all : mg "all" = none
  mr : ∃ t, mg "MAX_ROWS" = some (.int 80 t)
  mw : ∃ t, mg "MAX_WIDTH" = some (.int 12 t)
def spIrs (C : Addr) : Sp := fun vs H Q _ => ∃ (a : Addr) (pss : List (List PI)) (n : Nat), vs = [.ref a] ∧ TMx C H a pss ∧ Rs pss n ∧ ∀ H', Same H H' → Q (.bl true) H'
theorem ok_irs {f : Addr} {fd : FuncData} (F : Fun K "is_rows" "is_rows" sIrs f fd) (T : TxtR mg) (gB : Glo P w K mg base "is_between" 2 ["value", "least", "greatest"] spBet) (gF : Glo P w K mg base "is_fractions" 3 ["value"] (spFs C)) : FnOk P w K mg base CX0 4 f fd ["value"] (spIrs C) := by
  refine F.ok scIr (fun vs H Q E h => ?_) (fun cdv A outer s H vs Q E hr h => ?_)
  · obtain ⟨a, pss, n, rfl, _⟩ := h
    rfl
  · obtain ⟨a, pss, n, rfl, ⟨vs, ha, hv⟩, R, q⟩ := h
    obtain ⟨t1, m1⟩ := T.mr
    obtain ⟨t2, m2⟩ := T.mw
    refine ⟨_, (pss_cons (ps_if (PW.pt (pw_or (pt_not (pt_val (pe_callB call_isi (by rfl) T.isi PyProof.Rows.boot_isinstance (pa_cons (pv 0) (pa_cons (pe_bltn (v := .ty "tuple") (by rfl) T.tup (by decide +kernel) rfl) pa_nil))))) (pw_or1 (pt_not (pt_val (pe_call gB.G (hr.mono (by decide)) (by rfl) gB.m gB.k gB.b .nil pass0 (pa_cons (pe_callB call_len_seq (by rfl) T.len PySem.boot_len (pa_cons (pv 0) pa_nil)) (pa_cons pe_int (pa_cons (pe_glob (v := .int 80) (by rfl) m1 ⟨t1, rfl⟩) pa_nil))))))))) (pss_one (ps_ret pe_bl)) pss_nil)
      (pss_cons (ps_if (pt_not (pt_val (pe_callB (cr_all rfl) (by rfl) T.all (by decide +kernel) (pa_cons (pe_lc (X := (cxOf CX0 P w K mg base NIr "is_rows" (defScope sIrs) f cdv A outer s H E).nox) (own := [("row", 2)]) (g := (gName 2)) (tt := tYes) rfl scIr.nd (pi_tup (pv 0)) (blkOk_by (N := NIr) (sc := defScope sIrs) (by decide +kernel)) (fun _ _ _ _ _ => (pg_name (i := 2) scIr.nd rfl (.inl rfl))) (fun _ _ _ _ _ => pts_nil) (fun _ _ _ _ _ => (pe_call gF.G hr (by rfl) gF.m gF.k gF.b .nil pass0 (pa_cons (pv 2) pa_nil)))) pa_nil)))) (pss_one (ps_ret pe_bl)) pss_nil)
      (pss_cons (ps_set (i := 1) scIr.nd rfl (Or.inr rfl) (pe_callB call_len_seq (by rfl) T.len PySem.boot_len (pa_cons (pe_ix ix_tup (pv 0) pe_int (fun _ _ => rfl)) pa_nil)))
      (pss_one (ps_ret (pe_and (pe_call gB.G (hr.mono (by decide)) (by rfl) gB.m gB.k gB.b .nil pass0 (pa_cons (pv 1) (pa_cons pe_int (pa_cons (pe_glob (v := .int 12) (by rfl) m2 ⟨t2, rfl⟩) pa_nil)))) (pe_one (pe_callB (cr_all rfl) (by rfl) T.all (by decide +kernel) (pa_cons (pe_lc (X := (cxOf CX0 P w K mg base NIr "is_rows" (defScope sIrs) f cdv A outer s H E).nox) (own := [("row", 2)]) (g := (gName 2)) (tt := tYes) rfl scIr.nd (pi_tup (pv 0)) (blkOk_by (N := NIr) (sc := defScope sIrs) (by decide +kernel)) (fun _ _ _ _ _ => (pg_name (i := 2) scIr.nd rfl (.inl rfl))) (fun _ _ _ _ _ => pts_nil) (fun _ _ _ _ _ => (pe_cmpR op_eq (pe_callB (call_len_seqK (K := K) rfl) (by rfl) T.len PySem.boot_len (pa_cons (pv 2) pa_nil)) (pv 1) (nomark _)))) pa_nil))))))))), ?_⟩
    have f80 := R.few
    have ne := R.ne
    have lv := hv.1
    refine ⟨_, rfl, _, _, _, _, true, rfl, .ty _, .base (.tup ha), kit_ty (by decide +kernel), _, rfl, iteF ?_⟩
    refine ⟨_, rfl, a, _, rfl, .inr (SqT.of ha), _, 1, 80, rfl, by omega, by omega, _, rfl, iteF ?_⟩
    refine ⟨_, rfl, a, rfl, ⟨_, SqT.of ha⟩, fun D hD => ?_⟩
    refine lc_tup (xs := vs) (fun i Hc => Same H Hc ∧ Hc D = some (.lst ((List.replicate i true).map V.bl))) ⟨same_new hD, upd_same⟩ (fun i Hc _ p => SqT.of (p.1 _ _ ha)) ?_ ?_
    · rintro i v Hc hvi ⟨sm, hDc⟩
      obtain ⟨ps, hps, q1, rfl, tf⟩ := hv.2 i v hvi
      have il := (List.getElem?_eq_some_iff.mp hps).1
      refine ⟨rfl, _, rfl, q1, ps, rfl, tf.same sm, fun H2 s2 => ?_⟩
      refine ⟨_, s2 _ _ hDc, small1000 (by rw [List.length_map, List.length_replicate]; omega), same_upd hD (sm.trans s2), ?_⟩
      rw [List.replicate_succ', List.map_append]
      exact upd_same
    rintro H1 ⟨s1, hD1⟩
    refine ⟨D, _, rfl, SqL.of hD1, ?_⟩
    have al : ∀ n : Nat, (List.replicate n true).all id = true := fun n => by simp
    rw [al]
    refine ⟨_, rfl, iteF ?_⟩
    have ha1 := s1 _ _ ha
    match pss, vs, hv, R, ha, ha1, q with
    | [], _, _, R, _, _, _ => exact absurd R.ne (by decide)
    | p0 :: pr, [], hv, _, _, _, _ => exact absurd hv.1 (by simp)
    | p0 :: pr, v0 :: vr, hv, R, ha, ha1, q =>
    obtain ⟨z0, hz0, q0, rfl, tf0⟩ := hv.2 0 v0 rfl
    cases hz0
    obtain ⟨xs0, hx0, hf0⟩ := tf0.at_
    have l0 : xs0.length = n := by rw [hf0.1]; exact R.len p0 List.mem_cons_self
    have n12 := R.n12
    have n1 := R.n1
    have f80 := R.few
    refine ⟨_, rfl, a, _, 0, _, rfl, rfl, SqT.of ha1, atI_nat (j := 0) rfl, ?_⟩
    refine ⟨q0, xs0, rfl, .inr (SqT.of (s1 _ _ hx0)), ?_⟩
    generalize hpss : p0 :: pr = pss at *
    generalize hvs : V.ref q0 :: vr = vs at *
    refine ⟨_, rfl, _, 1, 12, rfl, by omega, by omega, _, rfl, ?_⟩
    refine ⟨_, rfl, a, rfl, ⟨_, SqT.of ha1⟩, fun D2 hD2 => ?_⟩
    refine lc_tup (xs := vs) (fun i Hc => Same H1 Hc ∧ Hc D2 = some (.lst ((List.replicate i true).map V.bl))) ⟨same_new hD2, upd_same⟩ (fun i Hc _ p => SqT.of (p.1 _ _ ha1)) ?_ ?_
    · rintro i v Hc hvi ⟨sm, hDc⟩
      obtain ⟨ps, hps, q1, rfl, tf⟩ := hv.2 i v hvi
      have il := (List.getElem?_eq_some_iff.mp hps).1
      obtain ⟨xs, hx, hf⟩ := (tf.same (s1.trans sm)).at_
      have e : xs.length = xs0.length := by rw [hf.1, R.len ps (List.mem_of_getElem? hps), l0]
      refine ⟨rfl, _, rfl, q1, xs, rfl, .inr (SqT.of hx), _, rfl, rfl, ?_⟩
      rw [e, decide_eq_true rfl]
      refine ⟨_, hDc, small1000 (by rw [List.length_map, List.length_replicate]; omega), same_upd hD2 sm, ?_⟩
      rw [List.replicate_succ', List.map_append]
      exact upd_same
    · rintro H2 ⟨s2, hD3⟩
      refine ⟨D2, _, rfl, SqL.of hD3, ?_⟩
      rw [al]
      exact q H2 (s1.trans s2)
end
end FR
set_option Elab.async false
set_option linter.all false
set_option maxRecDepth 100000
set_option maxHeartbeats 4000000
namespace FR
open PySem PySem.Spec PyProof.Rows L2 RF
section
variable {P : Program} {w : World} {K : PySem.W.Frag} {mg : Str → Option Value} {base : Heap} {C fI pT gT pB gB : Addr} {fdI fdT fdB : FuncData}
abbrev sCrs : Stmt := top 26
theorem scCrs : FnScope ["rows"] ["rows"] (defScope sCrs) := ⟨rfl, rfl, rfl, by decide +kernel, rfl, by decide +kernel, by decide +kernel⟩
def spCrs (C : Addr) : Sp := fun vs H Q _ => ∃ (a : Addr) (pss : List (List PI)) (n : Nat), vs = [.ref a] ∧ TMx C H a pss ∧ Rs pss n ∧ ∀ H', Same H H' → Q .non H'
theorem ok_crs {f : Addr} {fd : FuncData} (F : Fun K "_check_rows" "_check_rows" sCrs f fd) (gR : Glo P w K mg base "is_rows" 4 ["value"] (spIrs C)) : FnOk P w K mg base CX0 5 f fd ["rows"] (spCrs C) := by
  refine F.ok scCrs (fun vs H Q E h => ?_) (fun cdv A outer s H vs Q E hr h => ?_)
  · obtain ⟨a, pss, n, rfl, _⟩ := h
    rfl
  · obtain ⟨a, pss, n, rfl, tm, R, q⟩ := h
    refine ⟨_, (pss_one (ps_if (pt_not (pt_val (pe_call gR.G hr (by rfl) gR.m gR.k gR.b .nil pass0 (pa_cons (pv 0) pa_nil)))) pss_never pss_nil)), ?_⟩
    exact ⟨_, rfl, a, pss, n, rfl, tm, R, fun H' s' => ⟨_, rfl, iteF (q H' s')⟩⟩
abbrev sCfs : Stmt := top 27
theorem scCfs : FnScope ["value", "many"] ["value", "many"] (defScope sCfs) := ⟨rfl, rfl, rfl, by decide +kernel, rfl, by decide +kernel, by decide +kernel⟩
def spCfs (C : Addr) : Sp := fun vs H Q _ => ∃ (a : Addr) (ps : List PI), vs = [.ref a, .int (ps.length : Nat)] ∧ Tf C H a ps ∧ ∀ H', Same H H' → Q .non H'
theorem ok_cfs {f : Addr} {fd : FuncData} (F : Fun K "_check_fractions" "_check_fractions" sCfs f fd) (gF : Glo P w K mg base "is_fractions" 3 ["value"] (spFs C)) (mL : mg "len" = none) : FnOk P w K mg base CX0 4 f fd ["value", "many"] (spCfs C) := by
  refine F.ok scCfs (fun vs H Q E h => ?_) (fun cdv A outer s H vs Q E hr h => ?_)
  · obtain ⟨a, ps, rfl, _⟩ := h
    rfl
  · obtain ⟨a, ps, rfl, tf, q⟩ := h
    refine ⟨_, (pss_one (ps_if (PW.pt (pw_or (pt_not (pt_val (pe_call gF.G hr (by rfl) gF.m gF.k gF.b .nil pass0 (pa_cons (pv 0) pa_nil)))) (pw_or1 (pt_cmpR op_ne (pe_callB call_len_seq (by rfl) mL PySem.boot_len (pa_cons (pv 0) pa_nil)) (pv 1) (nomark _))))) pss_never pss_nil)), ?_⟩
    refine ⟨_, rfl, a, ps, rfl, tf, fun H' s' => ⟨_, rfl, iteF ?_⟩⟩
    obtain ⟨⟨xs, hx, hf⟩, _, _, _⟩ := tf.same s'
    refine ⟨_, rfl, a, xs, rfl, .inr (SqT.of hx), _, rfl, rfl, _, rfl, ?_⟩
    rw [hf.1, decide_eq_true rfl]
    exact iteF (q H' s')
abbrev sTof : Stmt := top 23
theorem scTof : FnScope ["rows", "column"] ["rows", "column"] (defScope sTof) := ⟨rfl, rfl, rfl, by decide +kernel, rfl, by decide +kernel, by decide +kernel⟩
def spTof (C : Addr) : Sp := fun vs H Q _ => ∃ (a c : Addr) (pss : List (List PI)) (cs : List PI), vs = [.ref a, .ref c] ∧ TMx C H a pss ∧ Rs pss cs.length ∧ Tf C H c cs ∧ ∀ t H', TFr C H' t (timesP pss cs) → Same H H' → Q (.ref t) H'
theorem ok_tof {f : Addr} {fd : FuncData} (F : Fun K "times_of" "times_of" sTof f fd) (gR : Glo P w K mg base "_check_rows" 5 ["rows"] (spCrs C)) (gF : Glo P w K mg base "_check_fractions" 4 ["value", "many"] (spCfs C)) (gT' : Glo P w K mg base "_times" 6 ["rows", "column"] (spTms C)) (mL : mg "len" = none) : FnOk P w K mg base CX0 7 f fd ["rows", "column"] (spTof C) := by
  refine F.ok scTof (fun vs H Q E h => ?_) (fun cdv A outer s H vs Q E hr h => ?_)
  · obtain ⟨a, c, pss, cs, rfl, _⟩ := h
    rfl
  · obtain ⟨a, c, pss, cs, rfl, tm, R, tc, q⟩ := h
    refine ⟨_, (pss_cons (ps_expr (pe_call gR.G (hr.mono (by decide)) (by rfl) gR.m gR.k gR.b .nil pass0 (pa_cons (pv 0) pa_nil)))
      (pss_cons (ps_expr (pe_call gF.G (hr.mono (by decide)) (by rfl) gF.m gF.k gF.b .nil pass0 (pa_cons (pv 1) (pa_cons (pe_callB call_len_seq (by rfl) mL PySem.boot_len (pa_cons (pe_ix ix_tup (pv 0) pe_int (fun _ _ => rfl)) pa_nil)) pa_nil))))
      (pss_one (ps_ret (pe_call gT'.G hr (by rfl) gT'.m gT'.k gT'.b .nil pass0 (pa_cons (pv 0) (pa_cons (pv 1) pa_nil))))))), ?_⟩
    refine ⟨_, rfl, a, pss, _, rfl, tm, R, fun H1 s1 => ?_⟩
    obtain ⟨vs, ha, hv⟩ := tm.same s1
    match pss, vs, hv, R, ha, tm, q with
    | [], _, _, R, _, _, _ => exact absurd R.ne (by decide)
    | p0 :: pr, [], hv, _, _, _, _ => exact absurd hv.1 (by simp)
    | p0 :: pr, v0 :: vr, hv, R, ha, tm, q =>
    obtain ⟨z0, hz0, q0, rfl, tf0⟩ := hv.2 0 v0 rfl
    cases hz0
    obtain ⟨xs0, hx0, hf0⟩ := tf0.at_
    have l0 : xs0.length = cs.length := by rw [hf0.1]; exact R.len p0 List.mem_cons_self
    refine ⟨_, rfl, _, rfl, a, _, 0, _, rfl, rfl, SqT.of ha, atI_nat (j := 0) rfl, ?_⟩
    refine ⟨q0, xs0, rfl, .inr (SqT.of hx0), c, cs, by rw [l0]; rfl, tc.same s1, fun H2 s2 => ?_⟩
    have s12 := s1.trans s2
    refine ⟨_, rfl, _, rfl, a, c, _, cs, rfl, tm.same s12, tc.same s12, R.few, R.len, fun t H' ht s3 => q t H' ht (s12.trans s3)⟩
abbrev sMof : Stmt := top 24
theorem scMof : FnScope ["rows", "factors"] ["rows", "factors"] (defScope sMof) := ⟨rfl, rfl, rfl, by decide +kernel, rfl, by decide +kernel, by decide +kernel⟩
theorem turn_mem {pss : List (List PI)} {n : Nat} (R : Rs pss n) {ps : List PI} (h : ps ∈ turnP pss n) : ps.length = pss.length := by
  unfold turnP at h
  obtain ⟨j, hj, rfl⟩ := List.mem_map.mp h
  rw [List.length_map]
def spMof (C : Addr) : Sp := fun vs H Q _ => ∃ (a c : Addr) (pss : List (List PI)) (n : Nat) (cs : List PI), vs = [.ref a, .ref c] ∧ TMx C H a pss ∧ Rs pss n ∧ Sm pss ∧ Tf C H c cs ∧ cs.length = pss.length ∧ ∀ t H', TFr C H' t (timesP (turnP pss n) cs) → Same H H' → Q (.ref t) H'
theorem ok_mof {f : Addr} {fd : FuncData} (F : Fun K "mix_of" "mix_of" sMof f fd) (gR : Glo P w K mg base "_check_rows" 5 ["rows"] (spCrs C)) (gF : Glo P w K mg base "_check_fractions" 4 ["value", "many"] (spCfs C)) (gT' : Glo P w K mg base "_times" 6 ["rows", "column"] (spTms C)) (gU : Glo P w K mg base "_turned" 1 ["rows"] (spTrn C)) (mL : mg "len" = none) :
    FnOk P w K mg base CX0 7 f fd ["rows", "factors"] (spMof C) := by
  refine F.ok scMof (fun vs H Q E h => ?_) (fun cdv A outer s H vs Q E hr h => ?_)
  · obtain ⟨a, c, pss, n, cs, rfl, _⟩ := h
    rfl
  · obtain ⟨a, c, pss, n, cs, rfl, tm, R, Z, tc, ln, q⟩ := h
    refine ⟨_, (pss_cons (ps_expr (pe_call gR.G (hr.mono (by decide)) (by rfl) gR.m gR.k gR.b .nil pass0 (pa_cons (pv 0) pa_nil)))
      (pss_cons (ps_expr (pe_call gF.G (hr.mono (by decide)) (by rfl) gF.m gF.k gF.b .nil pass0 (pa_cons (pv 1) (pa_cons (pe_callB call_len_seq (by rfl) mL PySem.boot_len (pa_cons (pv 0) pa_nil)) pa_nil))))
      (pss_one (ps_ret (pe_call gT'.G hr (by rfl) gT'.m gT'.k gT'.b .nil pass0 (pa_cons (pe_call gU.G (hr.mono (by decide)) (by rfl) gU.m gU.k gU.b .nil pass0 (pa_cons (pv 0) pa_nil)) (pa_cons (pv 1) pa_nil))))))), ?_⟩
    refine ⟨_, rfl, a, pss, _, rfl, tm, R, fun H1 s1 => ?_⟩
    obtain ⟨vs, ha, hv⟩ := tm.same s1
    refine ⟨_, rfl, _, rfl, a, vs, rfl, .inr (SqT.of ha), c, cs, by rw [hv.1, ← ln]; rfl, tc.same s1, fun H2 s2 => ?_⟩
    have s12 := s1.trans s2
    refine ⟨_, rfl, a, pss, n, rfl, tm.same s12, R, Z, fun u H3 hu s3 => ?_⟩
    have n12 := R.n12
    refine ⟨_, rfl, u, c, _, cs, rfl, hu, tc.same (s12.trans s3), by unfold turnP; rw [List.length_map, List.length_range]; omega, fun ps h => by rw [turn_mem R h, ln], fun t H' ht s4 => q t H' ht ((s12.trans s3).trans s4)⟩
end
end FR
set_option Elab.async false
set_option linter.all false
set_option maxRecDepth 100000
set_option maxHeartbeats 4000000
namespace FR
open PySem PySem.Spec PyProof.Rows L2 RF
/-- a dict comprehension over a walk: Pk says what holds behind so many turns -/
theorem dc_it {J : It} {len : Nat} {G : Hp → Prop} {Y : Nat → Hp → V → Hp → Prop} (wk : Walk J len G Y) {g : TG} {tt : TT} {tk tv : TE} {own : List Nat} {σ : L2.St} {H1 : Hp} {D : Addr} {Qd : Hp → Prop} (Pk : Nat → Hp → Prop) (first : Pk 0 (upd H1 D (.dK []))) (stands : ∀ k h, k ≤ len → Pk k h → G h)
    (turn : ∀ k x h h', k < len → Pk k h → Y k h x h' → g x (wipe σ own) h' fun σ2 h2 => wipe σ2 own = wipe σ own ∧ tt σ2 h2 fun yes h3 =>
      if yes = true then tk σ2 h3 fun y h4 => tv σ2 h4 fun z h5 => ∃ es key, y = kV key ∧ h5 D = some (.dK es) ∧ es.length < sizeLine ∧ Pk (k + 1) (upd h5 D (.dK (putK es key z))) else Pk (k + 1) h3) (last : ∀ h, Pk len h → Qd h) :
    ∃ Wk : Nat → Nat → Hp → Prop, (∃ m0, Wk 0 m0 (upd H1 D (.dK []))) ∧ ∀ (k m0 : Nat) (h : Hp), Wk k m0 h →
      (J.stop k h ∧ Qd h) ∨ (J.go k h ∧ ∃ Nk : Hp → Prop, (∀ h', Nk h' → ∃ m1, m1 < m0 ∧ Wk (k + 1) m1 h') ∧ ∀ x h', J.yld k h x h' → g x (wipe σ own) h' fun σ2 h2 => wipe σ2 own = wipe σ own ∧ tt σ2 h2 fun yes h3 =>
        if yes = true then tk σ2 h3 fun y h4 => tv σ2 h4 fun z h5 => ∃ es key, y = kV key ∧ h5 D = some (.dK es) ∧ es.length < sizeLine ∧ Nk (upd h5 D (.dK (putK es key z))) else Nk h3) :=
  ⟨fun k m0 h => m0 + k = len ∧ Pk k h, ⟨len, rfl, first⟩, fun k m0 h ⟨e, p⟩ => by
    have g0 := stands k h (by omega) p
    rcases Nat.eq_zero_or_pos m0 with z | z
    · have ek : k = len := by omega
      rw [ek] at p ⊢
      exact Or.inl ⟨wk.stops h g0, last h p⟩
    · have lt : k < len := by omega
      exact Or.inr ⟨wk.goes k h lt g0, Pk (k + 1), fun h' p' => ⟨m0 - 1, by omega, by omega, p'⟩, fun x h' y => turn k x h h' lt p (wk.yields k h x h' lt g0 y)⟩⟩
/-! ### a dict of distinct integers -/
def kvz (places : List Nat) (us : List V) : List (Key × V) := List.zipWith (fun (p : Nat) u => ((Sum.inl (p : Int) : Key), u)) places us
theorem kvz_keys : ∀ {places : List Nat} {us : List V}, places.length = us.length → (kvz places us).map (·.1) = (places.map fun p : Nat => (p : Int)).map Sum.inl
  | [], [], _ => rfl
  | p :: ps, u :: us, h => by
    show (Sum.inl (p : Int) : Key) :: (kvz ps us).map (·.1) = _
    rw [kvz_keys (Nat.succ.inj h)]
    rfl
  | [], _ :: _, h => by cases h
  | _ :: _, [], h => by cases h
theorem kvz_val : ∀ {places : List Nat} {us : List V} {p : Nat}, places.length = us.length → p ∈ places → ∃ u, us[places.idxOf p]? = some u ∧ valV (kvz places us) (Sum.inl (p : Int)) = some u
  | [], _, _, _, h => by cases h
  | q :: ps, [], _, h, _ => by cases h
  | q :: ps, u :: us, p, h, hm => by
    by_cases e : q = p
    · subst e
      refine ⟨u, by rw [List.idxOf_cons_self]; rfl, ?_⟩
      exact valV_pos rfl
    · have hm' : p ∈ ps := by
        rcases List.mem_cons.mp hm with z | z
        · exact absurd z.symm e
        · exact z
      obtain ⟨w, h1, h2⟩ := kvz_val (us := us) (Nat.succ.inj h) hm'
      refine ⟨w, ?_, ?_⟩
      · have : (q :: ps).idxOf p = ps.idxOf p + 1 := by
          rw [List.idxOf_cons]
          have z : (q == p) = false := beq_false_of_ne e
          rw [z]
          rfl
        rw [this]; exact h1
      · show valV ((Sum.inl (q : Int), u) :: kvz ps us) _ = _
        rw [valV_neg (fun z => e (by have := Sum.inl.inj z; omega))]
        exact h2
theorem putK_new {kvs : List (Key × V)} {k : Key} {v : V} (h : ∀ kv ∈ kvs, kv.1 ≠ k) : putK kvs k v = kvs ++ [(k, v)] := by
  unfold putK
  rw [if_neg]
  intro z
  obtain ⟨kv, m, e⟩ := List.any_eq_true.mp z
  exact h kv m (of_decide_eq_true e)
section
variable {P : Program} {w : World} {K : PySem.W.Frag} {mg : Str → Option Value} {base : Heap} {C fI pT gT pB gB D : Addr} {fdI fdT fdB : FuncData}
abbrev sClrd : Stmt := top 25
abbrev NCd : List Str := ["rows", "echelon", "row", "rest", "place", "by_place"]
theorem scCd : FnScope NCd ["rows"] (defScope sClrd) := ⟨rfl, rfl, rfl, by decide +kernel, rfl, by decide +kernel, by decide +kernel⟩
/-- tuples of Fractions in a tuple -/
def TTF (C : Addr) (H : Hp) (a : Addr) (pss : List (List PI)) : Prop := ∃ vs, H a = some (.tup vs) ∧ AG (fun v ps => ∃ q, v = .ref q ∧ TFr C H q ps) vs pss
def lineP (ps : List PI) : List Int := topsP ps (lcmP ps)
/-- the class Echelon, for calls -/
structure EcK (P : Program) (w : World) (K : PySem.W.Frag) (mg : Str → Option Value) (base : Heap) (D fI' : Addr) (fdI' : FuncData) : Prop where
  T : TxtE K mg D
  M : Mk K D fI'
  G : FnOk P w K mg base CX0 1 fI' fdI' ["self", "width"] (spEi D)
  b : Binds K fdI' ["self", "width"] []
  m : mg "Echelon" = some (.ref D)
def outP (rows : List (List Int)) (places : List Nat) (d : Int) (ys : List Nat) : List (List PI) := ys.map fun y => ovP (rows.getD (places.idxOf y) []) d
def spClrd (C : Addr) : Sp := fun vs H Q _ => ∃ (a : Addr) (pss : List (List PI)) (n t0 : Nat), vs = [.ref a] ∧ TMx C H a pss ∧ Rs pss n ∧ n ≤ 4 ∧ 0 < t0 ∧ t0 ≤ 420 ∧ (∀ ps ∈ pss, Sh (lineP ps) t0) ∧
  ∀ (rows : List (List Int)) (places ys : List Nat) (d : Int) t H', EI n rows places d (pss.map fun ps => vec (lineP ps)) → (∀ r ∈ rows, ∀ j, (ent r j).natAbs < 2 ^ szk t0 rows.length) → d.natAbs < 2 ^ szk t0 rows.length → ys.Perm places → ys.Pairwise (· ≤ ·) → TTF C H' t (outP rows places d ys) → Same H H' → Q (.ref t) H'
theorem ok_clrd {f fI' : Addr} {fd fdI' : FuncData} (F : Fun K "cleared" "cleared" sClrd f fd) (ek : EcK P w K mg base D fI' fdI') (mR : Met P w K mg base D "rest_of" 1 ["self", "line"] (spEr D)) (mP : Met P w K mg base D "place_in" 1 ["self", "rest"] (spEp D)) (mTk : Met P w K mg base D "take" 2 ["self", "rest", "place"] (spEt D))
    (gR : Glo P w K mg base "_check_rows" 5 ["rows"] (spCrs C)) (gO : Glo P w K mg base "over_one_bottom" 5 ["fractions"] (spOver C)) (gV : Glo P w K mg base "_over" 4 ["tops", "bottom"] (spOvr C)) (mL : mg "len" = none) (mZ : mg "zip" = none) (mS : mg "sorted" = none) (mT : mg "tuple" = none) : FnOk P w K mg base CX0 6 f fd ["rows"] (spClrd C) := by
  refine F.ok scCd (fun vs H Q E h => ?_) (fun cdv A outer s H vs Q E hr h => ?_)
  · obtain ⟨a, pss, n, t0, rfl, _⟩ := h
    rfl
  · obtain ⟨a, pss, n, t0, rfl, tm, R, n4, tp, t250, shl, q⟩ := h
    refine ⟨_, (pss_cons (ps_expr (pe_call gR.G hr (by rfl) gR.m gR.k gR.b .nil pass0 (pa_cons (pv 0) pa_nil)))
      (pss_cons (ps_set (i := 1) scCd.nd rfl (Or.inr rfl) (pe_make ek.M ek.G (hr.mono (by decide)) (by rfl) ek.m ek.b .nil pass0 (pa_cons (pe_callB call_len_seq (by rfl) mL PySem.boot_len (pa_cons (pe_ix ix_tup (pv 0) pe_int (fun _ _ => rfl)) pa_nil)) pa_nil)))
      (pss_cons (ps_for PassesOwn.never rfl (pi_tup (pv 0)) (pg_name (i := 2) scCd.nd rfl (.inl rfl))
        (pss_cons (ps_set (i := 3) scCd.nd rfl (Or.inl rfl) (pe_meth (pv 1) ek.T.cl ⟨mR.D.at_, mR.D.fn, mR.kp⟩ mR.G (hr.mono (by decide)) mR.b .nil pass0 (pa_cons (pe_ix ix_tup (pe_call gO.G hr (by rfl) gO.m gO.k gO.b .nil pass0 (pa_cons (pv 2) pa_nil)) pe_int (fun _ _ => rfl)) pa_nil)))
      (pss_cons (ps_set (i := 4) scCd.nd rfl (Or.inl rfl) (pe_meth (pv 1) ek.T.cl ⟨mP.D.at_, mP.D.fn, mP.kp⟩ mP.G (hr.mono (by decide)) mP.b .nil pass0 (pa_cons (pv 3) pa_nil)))
      (pss_one (ps_if (pt_cmpR op_notN (pv 4) pe_non (nomark _)) (pss_one (ps_expr (pe_meth (pv 1) ek.T.cl ⟨mTk.D.at_, mTk.D.fn, mTk.kp⟩ mTk.G (hr.mono (by decide)) mTk.b .nil pass0 (pa_cons (pv 3) (pa_cons (pv 4) pa_nil))))) pss_nil)))))
      (pss_cons (ps_set (i := 5) scCd.nd rfl (Or.inr rfl) (pe_dc (X := (cxOf CX0 P w K mg base NCd "cleared" (defScope sClrd) f cdv A outer s H E).nox) (own := [("place", 4), ("row", 2)]) (g := (gTup K 2 (gCons (gName 4) (gCons (gName 2) gNil)))) (tt := tYes) rfl scCd.nd (pi_zip (by rfl) mZ (pa_cons (pe_fld (pv 1) rfl) (pa_cons (pe_fld (pv 1) rfl) pa_nil))) (blkOk_by (N := NCd) (sc := defScope sClrd) (by decide +kernel)) (fun _ _ _ _ _ => (pg_tupK (K := K) rfl rfl (pgs_cons (pg_name (i := 4) scCd.nd rfl (.inl rfl)) (pgs_cons (pg_name (i := 2) scCd.nd rfl (.inl rfl)) pgs_nil)))) (fun _ _ _ _ _ => pts_nil) (fun _ _ _ _ _ => (pv 4)) (fun _ _ _ _ _ => (pv 2))))
      (pss_one (ps_ret (pe_callTy call_tuple_of (by rfl) mT (by decide +kernel) (pa_cons (pe_lc (X := (cxOf CX0 P w K mg base NCd "cleared" (defScope sClrd) f cdv A outer s H E).nox) (own := [("place", 4)]) (g := (gName 4)) (tt := tYes) rfl scCd.nd (pi_list (pe_callB (call_sortedDI rfl) (by rfl) mS (by decide +kernel) (pa_cons (pv 5) pa_nil))) (blkOk_by (N := NCd) (sc := defScope sClrd) (by decide +kernel)) (fun _ _ _ _ _ => (pg_name (i := 4) scCd.nd rfl (.inl rfl))) (fun _ _ _ _ _ => pts_nil) (fun _ _ _ _ _ => (pe_call gV.G (hr.mono (by decide)) (by rfl) gV.m gV.k gV.b .nil pass0 (pa_cons (pe_dget (hu_of hr) (pv 5) (pv 4) (fun _ _ => rfl)) (pa_cons (pe_fldK (K := K) rfl (pv 1) rfl) pa_nil))))) pa_nil)))))))), ?_⟩
    refine ⟨_, rfl, a, pss, n, rfl, tm, R, fun H1 s1 => ?_⟩
    obtain ⟨vs, haH, hvH⟩ := id tm
    have ha := s1 _ _ haH
    have hv : AG (fun v ps => ∃ q, v = V.ref q ∧ Tf C H1 q ps) vs pss := hvH.imp fun _ _ ⟨q, e, t⟩ => ⟨q, e, t.same s1⟩
    obtain ⟨q0, xs0, hq0, hx0, l0⟩ : ∃ q0 xs0, vs[0]? = some (.ref q0) ∧ H1 q0 = some (.tup xs0) ∧ xs0.length = n := by
      match pss, vs, hv, R with
      | [], _, _, R => exact absurd R.ne (by decide)
      | p0 :: pr, [], hv, _ => exact absurd hv.1 (by simp)
      | p0 :: pr, v0 :: vr, hv, R =>
      obtain ⟨z0, hz0, q0, rfl, tf0⟩ := hv.2 0 v0 rfl
      cases hz0
      obtain ⟨xs0, hx0, hf0⟩ := tf0.at_
      exact ⟨q0, xs0, rfl, hx0, by rw [hf0.1]; exact R.len p0 List.mem_cons_self⟩
    have f80 := R.few
    refine ⟨_, rfl, a, _, 0, _, rfl, rfl, SqT.of ha, atI_nat (j := 0) hq0, ?_⟩
    refine ⟨q0, xs0, rfl, .inr (SqT.of hx0), fun e dx ne_ nd_ nn_ => ?_⟩
    refine ⟨e, dx, n, by rw [l0]; rfl, upd_same, fun H2 he hs => ⟨rfl, ?_⟩⟩
    have s2 : Same H1 H2 := same_make (C := D) ne_ nd_ hs
    have s12 := s1.trans s2
    have e0 : H e = none := Same.free s1 ne_
    refine ⟨_, rfl, a, rfl, ⟨_, SqT.of (s2 _ _ ha)⟩, ?_⟩
    have shv : ∀ ps ∈ pss, (lineP ps).length = n ∧ Sh (lineP ps) t0 := fun ps mp => ⟨by unfold lineP topsP; rw [List.length_map]; exact R.len ps mp, shl ps mp⟩
    refine for_tup (xs := vs) (fun i σ Hc => Same H Hc ∧ (∃ x2 x3 x4 : Option V, σ = [some (.ref a), some (.ref e), x2, x3, x4, none]) ∧ ∃ (rows : List (List Int)) (places : List Nat) (d : Int), Ec D Hc e n rows places d ∧ EI n rows places d ((pss.take i).map fun ps => vec (lineP ps)) ∧ (∀ r ∈ rows, ∀ j, (ent r j).natAbs < 2 ^ szk t0 rows.length) ∧ d.natAbs < 2 ^ szk t0 rows.length)
      ⟨s12, ⟨_, _, _, rfl⟩, [], [], 1, he, EI.start, fun r hr' => (by cases hr'), by show (1 : Int).natAbs < 2 ^ 1; decide⟩ (fun i σ Hc _ p => SqT.of (p.1 _ _ haH)) ?_ ?_
    · rintro i v σ Hc hvi ⟨sm, ⟨x2, x3, x4, rfl⟩, rows, places, d, ec, I, hsz, hdz⟩
      obtain ⟨ps, hps, q1, rfl, tf⟩ := hvH.2 i v hvi
      have mp := List.mem_of_getElem? hps
      obtain ⟨ll, lsh⟩ := shv ps mp
      have kn := I.fm.le
      have m8 : szk t0 rows.length ≤ 7000 := szk_le t250 (by omega)
      have m0 := szk_pos t0 rows.length
      have rws : Rws rows places d n (szk t0 rows.length) := ⟨I.ln, by omega, fun r hr' => ⟨I.wd r hr', hsz r hr'⟩, fun z hz => by
        obtain ⟨k, hk⟩ := List.mem_iff_getElem?.mp hz
        have kl := (List.getElem?_eq_some_iff.mp hk).1
        have := I.fm.pn k (by rw [I.ln]; exact kl)
        rw [List.getD_eq_getElem?_getD, hk] at this
        exact this, hdz⟩
      obtain ⟨dx1, fs1, a1, b1, g1, ef1, g2, g3⟩ := id ec
      refine ⟨_, rfl, e, dx1, _, rfl, g1, ef1.no _ (by decide) (by decide) (by decide) (by decide), _, rfl, q1, ps, rfl, tf.same sm, fun ta tb H3 hta htb s3 => ?_⟩
      refine ⟨tb, _, 0, _, rfl, rfl, SqT.of htb, atI_nat (j := 0) rfl, ?_⟩
      have ec3 := ec.same s3
      refine ⟨e, ta, n, szk t0 rows.length, t0, rows, places, d, lineP ps, rfl, ec3, hta, rws, ll, lsh, by omega, by omega, by omega, m0, by omega, fun y H4 hy s4 => ?_⟩
      have ec4 := ec3.same s4
      have sm4 := sm.trans (s3.trans s4)
      have rl : (restL d (rows.zip places) (lineP ps)).length = n := rest_len ll fun p hp => I.wd _ (List.of_mem_zip (show (p.1, p.2) ∈ _ from hp)).1
      have rz := rest_sz (m := szk t0 rows.length) (t := t0) ll I.ln (by omega) I.wd hsz hdz lsh
      obtain ⟨dx4, fs4, a4, b4, k1, ef4, k2, k3⟩ := id ec4
      have tk : (pss.take (i + 1)).map (fun ps => vec (lineP ps)) = (pss.take i).map (fun ps => vec (lineP ps)) ++ [vec (lineP ps)] := by rw [take_snoc hps, List.map_append]; rfl
      refine ⟨_, rfl, e, dx4, _, rfl, k1, ef4.no _ (by decide) (by decide) (by decide) (by decide), _, rfl, e, y, n, rows, places, d, _, rfl, ec4, hy, by omega, by omega, fun qq hq h0 h1 => ?_, fun h0 => ?_⟩
      · have rm := I.room ll hq h0 h1
        refine ⟨_, rfl, rfl, _, rfl, iteT ?_⟩
        refine ⟨_, rfl, e, dx4, _, rfl, k1, ef4.no _ (by decide) (by decide) (by decide) (by decide), _, rfl, _, rfl, e, y, qq, n, szk t0 rows.length, szk t0 rows.length + t0 + 3, rows, places, d, _, rfl, ec4, hy, rws, rl, rz, by omega, hq, I.d0, by omega, by omega, m0, by omega, fun H5 he5 hs5 => ?_⟩
        have szn : szk t0 (clearedBy rows (restL d (rows.zip places) (lineP ps)) qq d ++ [restL d (rows.zip places) (lineP ps)]).length = 2 * szk t0 rows.length + t0 + 15 := by
          rw [List.length_append]
          unfold clearedBy
          rw [List.length_map]
          rfl
        refine ⟨fun z o hz => hs5 z o (ne_of_none hz e0) (sm4 z o hz), ⟨_, _, _, rfl⟩, _, _, _, he5, ?_, ?_, ?_⟩
        · rw [tk]
          exact I.take (by omega) ll hq h0 h1
        · intro r hr' j
          rw [szn]
          exact Nat.lt_of_lt_of_le ((cleared_sz I.wd rl hsz rz r hr').2 j) (Nat.pow_le_pow_right (by decide) (by omega))
        · rw [szn]
          exact Nat.lt_of_lt_of_le (rz qq) (Nat.pow_le_pow_right (by decide) (by omega))
      · refine ⟨_, rfl, rfl, _, rfl, iteF ?_⟩
        refine ⟨sm4, ⟨_, _, _, rfl⟩, rows, places, d, ec4, ?_, hsz, hdz⟩
        rw [tk]
        exact I.hang ll h0
    · rintro σ Hc ⟨sm, ⟨x2, x3, x4, rfl⟩, rows, places, d, ec, I, hsz, hdz⟩
      rw [List.take_of_length_le (by rw [hvH.1]; exact Nat.le_refl _)] at I
      obtain ⟨dx1, fs1, a1, b1, g1, ef1, ⟨us, g2, hu⟩, g3⟩ := id ec
      have kn := I.fm.le
      have m8 : szk t0 rows.length ≤ 7000 := szk_le t250 (by omega)
      have pu : places.length = us.length := by rw [hu.1, I.ln]
      refine ⟨_, rfl, e, D, dx1, _, _, rfl, g1, ek.T.cl, ek.T.nP, ef1.p, _, rfl, e, D, dx1, _, _, rfl, g1, ek.T.cl, ek.T.nR, ef1.r, b1, a1, _, _, rfl, SqL.of g3, SqL.of g2, fun D2 hD2 => ?_⟩
      have inj : ∀ i j, i < places.length → j < places.length → places[i]? = places[j]? → i = j := fun i j hi hj e => by
        refine I.fm.inj (by rw [I.ln]; exact hi) (by rw [I.ln]; exact hj) ?_
        show places.getD i 0 = places.getD j 0
        rw [List.getD_eq_getElem?_getD, List.getD_eq_getElem?_getD, e]
      refine dc_it (walk_zip (xs := places.map fun i => V.int (i : Nat)) (ys := us) (n := places.length) (by rw [List.length_map, pu]; omega)) (fun i Hx => Same Hc Hx ∧ Hx D2 = some (.dK ((kvz places us).take i))) ⟨same_new hD2, upd_same⟩ (fun i Hx _ p => ⟨SqL.of (p.1 _ _ g3), SqL.of (p.1 _ _ g2)⟩) ?_ ?_
      · rintro i v Hx H' hi ⟨s2, hDx⟩ ⟨T0, u1, u2, rfl, nT, rfl, h1, h2⟩
        obtain ⟨pc, gp⟩ : ∃ pc, places[i]? = some pc := ⟨_, List.getElem?_eq_getElem hi⟩
        have e1 : u1 = .int (pc : Nat) := by
          have h1' : (places.map fun i => V.int (i : Nat))[i]? = some u1 := h1
          rw [List.getElem?_map, gp] at h1'
          exact (Option.some.inj h1').symm
        subst e1
        have h2 : us[i]? = some u2 := h2
        have s3 : Same Hx (upd Hx T0 (.tup [.int (pc : Nat), u2])) := same_new nT
        have kv : (kvz places us)[i]? = some (Sum.inl (pc : Int), u2) := by
          unfold kvz
          rw [List.getElem?_zipWith, gp, h2]
        refine ⟨T0, _, rfl, SqT.of upd_same, rfl, _, _, rfl, _, _, rfl, rfl, rfl, _, rfl, _, rfl, _, Sum.inl (pc : Int), rfl, s3 _ _ hDx, small1000 (by rw [List.length_take]; have : (kvz places us).length ≤ places.length := by { unfold kvz; rw [List.length_zipWith]; omega }; have := I.ln; omega), same_upd hD2 (s2.trans s3), ?_⟩
        rw [putK_new, take_snoc kv]
        · exact upd_same
        · intro y hy z
          obtain ⟨j, hj⟩ := List.mem_iff_getElem?.mp hy
          rw [List.getElem?_take] at hj
          split at hj
          · next jl =>
            have jl2 : j < places.length := by omega
            obtain ⟨pj, gj⟩ : ∃ pj, places[j]? = some pj := ⟨_, List.getElem?_eq_getElem jl2⟩
            obtain ⟨uj, guj⟩ : ∃ uj, us[j]? = some uj := ⟨_, List.getElem?_eq_getElem (by omega)⟩
            unfold kvz at hj
            rw [List.getElem?_zipWith, gj, guj] at hj
            have ey := Option.some.inj hj
            rw [← ey] at z
            have : (pj : Int) = (pc : Int) := Sum.inl.inj z
            have : j = i := inj j i jl2 hi (by rw [gj, gp]; congr 1; omega)
            omega
          · cases hj
      rintro H2 ⟨s2, hD2'⟩
      rw [List.take_of_length_le (by unfold kvz; rw [List.length_zipWith]; omega)] at hD2'
      refine ⟨_, rfl, D2, _, places.map (fun p : Nat => (p : Int)), rfl, Rd.of hD2', kvz_keys pu, by rw [List.length_map]; have := I.ln; omega, fun ys p hperm hsort hp => ?_⟩
      have nn : ∀ y ∈ ys, ∃ k : Nat, y = (k : Int) := fun y hy => by
        obtain ⟨k, _, e⟩ := List.mem_map.mp (hperm.mem_iff.mp hy)
        exact ⟨k, e.symm⟩
      have yn : (ys.map Int.toNat).map (fun p : Nat => (p : Int)) = ys := by
        rw [List.map_map]
        have : ys.map ((fun p : Nat => (p : Int)) ∘ Int.toNat) = ys.map id := List.map_congr_left fun y hy => by
          obtain ⟨k, e⟩ := nn y hy
          subst e
          rfl
        rw [this, List.map_id]
      have pn : (ys.map Int.toNat).Perm places := by
        have h := hperm.map Int.toNat
        rw [List.map_map] at h
        have e : places.map (Int.toNat ∘ fun p : Nat => (p : Int)) = places.map id := List.map_congr_left fun y hy => rfl
        rw [e, List.map_id] at h
        exact h
      have sn : (ys.map Int.toNat).Pairwise (· ≤ ·) := List.pairwise_map.mpr (hsort.imp fun h => Int.toNat_le_toNat h)
      generalize ys.map Int.toNat = zs at yn pn sn
      subst yn
      have s3 : Same H2 (upd H2 p (.lst ((zs.map fun p : Nat => (p : Int)).map V.int))) := same_new hp
      have hp3 : upd H2 p (.lst ((zs.map fun p : Nat => (p : Int)).map V.int)) p = some (.lst ((zs.map fun p : Nat => (p : Int)).map V.int)) := upd_same
      generalize upd H2 p _ = H3 at s3 hp3 ⊢
      have s03 := s2.trans s3
      refine ⟨p, rfl, ⟨_, SqL.of hp3⟩, fun D3 hD3 => ?_⟩
      have zl : zs.length = places.length := pn.length_eq
      refine lc_list (xs := (zs.map fun p : Nat => (p : Int)).map V.int) (fun i Hx => Same H3 Hx ∧ ∃ ws, Hx D3 = some (.lst ws) ∧ AG (fun v ps => ∃ q, v = .ref q ∧ TFr C Hx q ps) ws ((outP rows places d zs).take i)) ⟨same_new hD3, [], upd_same, AG.nil⟩ (fun i Hx _ p => SqL.of (p.1 _ _ hp3)) ?_ ?_
      · rintro i v Hx hvi ⟨s4, ws, hDx, hw⟩
        obtain ⟨y, hy, rfl⟩ := il_at hvi
        rw [List.getElem?_map] at hy
        obtain ⟨z, hz, rfl⟩ : ∃ z, zs[i]? = some z ∧ y = (z : Int) := by
          cases ez : zs[i]? with
          | none => rw [ez] at hy; cases hy
          | some z => rw [ez] at hy; exact ⟨z, rfl, (Option.some.inj hy).symm⟩
        have zm : z ∈ places := pn.mem_iff.mp (List.mem_of_getElem? hz)
        obtain ⟨u, hu1, hu2⟩ := kvz_val pu zm
        obtain ⟨r, hr1, ra, rfl, hra⟩ := hu.2 _ u hu1
        have rm := List.mem_of_getElem? hr1
        have s04 := s03.trans s4
        refine ⟨rfl, _, rfl, _, rfl, D2, .ref ra, rfl, ?_, _, rfl, e, D, dx1, _, _, rfl, s04 _ _ g1, ek.T.cl, ek.T.nD, ef1.d, ?_⟩
        · rw [← hu2]
          exact DGet.k (k := Sum.inl (z : Int)) ((s3.trans s4) _ _ hD2')
        refine ⟨ra, r, d, rfl, s04 _ _ hra, by rw [I.wd r rm]; omega, I.d0, pow_up hdz (by omega), fun t H4 ht s5 => ?_⟩
        refine ⟨ws, s5 _ _ hDx, small1000 (by rw [hw.1, List.length_take]; unfold outP; rw [List.length_map, zl]; have := I.ln; omega), same_upd hD3 (s4.trans s5), ws ++ [.ref t], upd_same, ?_⟩
        have hD5 := s5 _ _ hDx
        have up : ∀ q ps, TFr C H4 q ps → TFr C (upd H4 D3 (.lst (ws ++ [.ref t]))) q ps := fun q ps ⟨xs, h1, h2⟩ => ⟨xs, tup_updl h1 hD5, h2.updl hD5⟩
        rw [take_snoc (x := ovP r d) (by unfold outP; rw [List.getElem?_map, hz]; show some (ovP (rows.getD (places.idxOf z) []) d) = _; rw [List.getD_eq_getElem?_getD, hr1]; rfl)]
        exact AG.snoc (hw.imp fun _ _ ⟨q, e, tf⟩ => ⟨q, e, up _ _ (tf.same s5)⟩) ⟨t, rfl, up _ _ ht⟩
      · rintro Hx ⟨s4, ws, hDx, hw⟩
        rw [List.take_of_length_le (by unfold outP; rw [List.length_map, List.length_map, List.length_map]; exact Nat.le_refl _)] at hw
        refine ⟨D3, _, rfl, .inl ⟨SqL.of hDx, fun t ht => ?_⟩⟩
        exact q rows places zs d t _ I hsz hdz pn sn ⟨ws, upd_same, hw.imp fun _ _ ⟨q, e, tf⟩ => ⟨q, e, tf.same (same_new ht)⟩⟩ ((sm.trans (s03.trans s4)).trans (same_new ht))
end
end FR
set_option Elab.async false
set_option linter.all false
set_option maxRecDepth 100000
namespace LD
open PySem PySem.Spec PyProof.Rows L2
/-! ### The text by places -/
def top (i : Nat) : Stmt := PySem.Challenge.pw_surelyends_k04_rows_times_mixes_cleared.main.body.getD i (.Pass ⟨0, 0, 0, 0⟩)
abbrev sDice : Stmt := top 32
abbrev sRoll : Stmt := top 33
abbrev sOneOf : Stmt := top 34
/-! ### The dice -/
abbrev dxs (a b c : Int) : List V := [V.int a, V.int b, V.int c]
/-- the dice stand at d -/
def DiceAt (H : Hp) (d : Addr) : Prop := ∃ a b c : Int, H d = some (.lst (dxs a b c))
/-- nothing but the dice has changed -/
structure Rolled (H H' : Hp) (d : Addr) : Prop where
  ho : ∃ a b c : Int, H' = upd H d (.lst (dxs a b c))
def spRoll : Sp := fun vs H Q _ => ∃ (d : Addr) (n : Int), vs = [.ref d, .int n] ∧ DiceAt H d ∧ 0 < n ∧ n < 1073741824 ∧
  ∀ (r a b c : Int), 0 ≤ r → r < n → Q (.int r) (upd H d (.lst (dxs a b c)))
section
variable {P : Program} {w : World} {K : PySem.W.Frag} {mg : Str → Option Value} {base : Heap}
theorem scR : FnScope ["_law_dice_here", "_law_total", "_law_found", "_law_one", "_law_two"] ["_law_dice_here", "_law_total"] (defScope sRoll) :=
  ⟨rfl, rfl, rfl, by decide +kernel, rfl, by decide +kernel, by decide +kernel⟩
theorem nz1 : (2305843009213693951 : Int) ≠ 0 := by decide
theorem nz2 : (2305843009213693921 : Int) ≠ 0 := by decide
theorem nz3 : (2305843009213693907 : Int) ≠ 0 := by decide
theorem at0 {a b c : Int} : atI (dxs a b c) (0 : Int) = some (V.int a) := rfl
theorem at1 {a b c : Int} : atI (dxs a b c) (1 : Int) = some (V.int b) := rfl
theorem at2 {a b c : Int} : atI (dxs a b c) (2 : Int) = some (V.int c) := rfl
theorem ok_roll {f : Addr} {fd : FuncData} (F : Fun K "_law_roll" "_law_roll" sRoll f fd) (mI : mg "int" = none) : FnOk P w K mg base CX0 1 f fd ["_law_dice_here", "_law_total"] spRoll := by
  refine F.ok scR (fun vs H Q E h => ?_) (fun cdv A outer s H vs Q E hr h => ?_)
  · obtain ⟨d, n, rfl, _⟩ := h
    rfl
  · obtain ⟨d, n, rfl, ⟨a, b, c, hd⟩, h0, h1, k⟩ := h
    have hu := hu_of hr
    refine ⟨_, pss_cons (ps_if (pt_cmpR op_gt (pe_ix ix_list (pv 0) pe_int (fun _ _ => rfl)) pe_int (nomark _))
        (pss_cons (ps_set (i := 2) scR.nd rfl (Or.inl rfl) (pe_op op_modN (pe_callTy call_int1 (by rfl) mI (by decide +kernel) (pa_cons (pe_ix ix_list (pv 0) pe_int (fun _ _ => rfl)) pa_nil)) (pv 1)))
        (pss_cons (ps_asg (pe_op op_fdivN (pe_ix ix_list (pv 0) pe_int (fun _ _ => rfl)) (pv 1)) (pg_sub (pv 0) pe_int set_list))
        (pss_one (ps_ret (pv 2))))) pss_nil)
      (pss_cons (ps_asg (pe_op op_add (pe_ix ix_list (pv 0) pe_int (fun _ _ => rfl)) pe_int) (pg_sub (pv 0) pe_int set_list))
      (pss_cons (ps_set (i := 3) scR.nd rfl (Or.inl rfl) (pe_op op_modN (pe_callTy call_int1 (by rfl) mI (by decide +kernel) (pa_cons (pe_op op_add (pe_ix ix_list (pv 0) pe_int (fun _ _ => rfl)) (pe_op op_mul pe_int (pe_ix ix_list (pv 0) pe_int (fun _ _ => rfl)))) pa_nil)) pe_int))
      (pss_cons (ps_set (i := 4) scR.nd rfl (Or.inl rfl) (pe_op op_add (pe_op op_mul (pe_op op_modN (pe_callTy call_int1 (by rfl) mI (by decide +kernel) (pa_cons (pe_op op_mul (pv 3) (pv 3)) pa_nil)) pe_int) (pv 3)) (pe_op op_mul pe_int (pe_ix ix_list (pv 0) pe_int (fun _ _ => rfl)))))
      (pss_cons (ps_set (i := 4) scR.nd rfl (Or.inl rfl) (pe_op op_modN (pe_callTy call_int1 (by rfl) mI (by decide +kernel) (pa_cons (pv 4) pa_nil)) pe_int))
      (pss_one (ps_ret (pe_op op_modN (pe_callTy call_int1 (by rfl) mI (by decide +kernel) (pa_cons (pe_op op_fdivN (pv 4) pe_int) pa_nil)) (pv 1)))))))), ?_⟩
    refine ⟨_, rfl, d, _, _, _, rfl, rfl, SqL.of hd, at0, _, _, rfl, rfl, _, rfl, ?_⟩
    have hm : ∀ x : Int, 0 ≤ x.fmod n ∧ x.fmod n < n := fun x => by
      rw [Int.fmod_eq_emod_of_nonneg x (by omega)]
      exact ⟨Int.emod_nonneg x (by omega), Int.emod_lt_of_pos x h0⟩
    refine ite2 (fun ha => ?_) (fun ha => ?_)
    · refine ⟨_, rfl, d, _, _, _, rfl, rfl, SqL.of hd, at0, .inl ⟨_, rfl, ?_⟩⟩
      refine ⟨_, rfl, _, _, rfl, rfl, by omega, ?_⟩
      refine ⟨_, rfl, d, _, _, _, rfl, rfl, SqL.of hd, at0, _, rfl, _, _, rfl, rfl, ⟨by omega, by omega⟩, ?_⟩
      refine ⟨_, rfl, d, _, _, 0, rfl, rfl, hd, rfl, ?_⟩
      refine ⟨_, rfl, ?_⟩
      exact k _ _ _ _ (hm _).1 (hm _).2
    · refine ⟨_, rfl, d, _, _, _, rfl, rfl, SqL.of hd, at2, _, _, rfl, rfl, ?_⟩
      refine ⟨_, rfl, d, _, _, 2, rfl, rfl, hd, rfl, ?_⟩
      have hd2 : upd H d (.lst (dxs a b (c + 1))) d = some (.lst (dxs a b (c + 1))) := upd_same
      refine ⟨_, rfl, d, _, _, _, rfl, rfl, SqL.of hd2, at1, ?_⟩
      refine ⟨_, rfl, d, _, _, _, rfl, rfl, SqL.of hd2, at2, ?_⟩
      refine ⟨_, _, rfl, rfl, .inl ⟨by decide, by decide⟩, ?_⟩
      refine ⟨_, _, rfl, rfl, .inl ⟨_, rfl, ?_⟩⟩
      refine ⟨_, _, rfl, rfl, nz1, ?_⟩
      generalize hone : Int.fmod (b + 1000193 * (c + 1)) 2305843009213693951 = one
      have ho : 0 ≤ one ∧ one < 2305843009213693951 := by
        rw [← hone, Int.fmod_eq_emod_of_nonneg _ (by decide)]
        exact ⟨Int.emod_nonneg _ (by decide), Int.emod_lt_of_pos _ (by decide)⟩
      refine ⟨_, rfl, _, rfl, _, _, rfl, rfl, .inl ⟨by omega, by omega⟩, .inl ⟨_, rfl, ?_⟩⟩
      refine ⟨_, _, rfl, rfl, nz2, ?_⟩
      generalize htwo : Int.fmod (one * one) 2305843009213693921 = two
      refine ⟨_, rfl, _, _, rfl, rfl, .inr ⟨by omega, by omega⟩, ?_⟩
      refine ⟨_, rfl, d, _, _, _, rfl, rfl, SqL.of hd2, at2, ?_⟩
      refine ⟨_, _, rfl, rfl, .inl ⟨by decide, by decide⟩, ?_⟩
      refine ⟨_, _, rfl, rfl, ?_⟩
      generalize two * one + 8221 * (c + 1) = three
      refine ⟨_, rfl, .inl ⟨_, rfl, ?_⟩⟩
      refine ⟨_, _, rfl, rfl, nz3, ?_⟩
      refine ⟨_, rfl, _, _, rfl, rfl, ⟨by decide, by decide⟩, .inl ⟨_, rfl, ?_⟩⟩
      refine ⟨_, rfl, _, _, rfl, rfl, by omega, ?_⟩
      exact k _ _ _ _ (hm _).1 (hm _).2

/-! ### powers of any size within the line -/
def CPowW (i j : Int) : Prop := 0 ≤ j ∧ (Builtin.Int.intBits i : Int) * j ≤ 2 ^ 27
theorem op_powW {X : Cx} : OpR X (binaryOp .Pow) (rI CPowW fun i j => .int (i ^ j.toNat)) := opI fun _ _ _ _ _ _ _ hc q => pow_int hc.1 hc.2 q
theorem pow60 : CPowW 10 60 := ⟨by decide, by decide +kernel⟩
theorem pow600 : CPowW ((10 : Int) ^ (60 : Int).toNat) 10 := ⟨by decide, by decide +kernel⟩
theorem pow18 : CPowW 10 18 := ⟨by decide, by decide +kernel⟩
def big600 : Int := ((10 : Int) ^ (60 : Int).toNat) ^ (10 : Int).toNat
theorem big600_nz : ((10 : Int) ^ (60 : Int).toNat) ^ (10 : Int).toNat ≠ 0 := by decide +kernel
theorem nz4 : (2147483549 : Int) ≠ 0 := by decide
theorem nz5 : (2147483543 : Int) ≠ 0 := by decide
def spDice (K : PySem.W.Frag) : Sp := fun vs H Q _ => ∃ (a : Addr) (ns : List Int) (i : Nat) (j : Int), vs = [.ref a, .int j] ∧ j = (i : Int) ∧ SqL K H a (ns.map V.int) ∧
  ∀ (p : Addr) (x y z : Int), H p = none → Q (.ref p) (upd H p (.lst (dxs x y z)))
structure TxtD (mg : Str → Option Value) : Prop where
  mI : mg "int" = none
  mL : mg "len" = none
  mA : mg "abs" = none
  mM : mg "max" = none
theorem scD : FnScope ["_law_script", "_law_at", "_law_cell", "_law_great", "_law_mixed"] ["_law_script", "_law_at"] (defScope sDice) :=
  ⟨rfl, rfl, rfl, by decide +kernel, rfl, by decide +kernel, by decide +kernel⟩
theorem ok_dice {f : Addr} {fd : FuncData} (F : Fun K "_law_dice" "_law_dice" sDice f fd) (T : TxtD mg) : FnOk P w K mg base CX0 1 f fd ["_law_script", "_law_at"] (spDice K) := by
  refine F.ok scD (fun vs H Q E h => ?_) (fun cdv A outer s H vs Q E hr h => ?_)
  · obtain ⟨a, ns, i, j, rfl, _⟩ := h
    rfl
  · obtain ⟨a, ns, i, j, rfl, rfl, hs, k⟩ := h
    have hu := hu_of hr
    refine ⟨_, pss_cons (ps_set (i := 2) scD.nd rfl (Or.inl rfl) (pe_op op_add (pe_op op_mul pe_int (pv 1)) pe_int))
      (pss_cons (ps_if (pt_cmpR op_lt (pv 1) (pe_callB call_len_seq (by rfl) T.mL PySem.boot_len (pa_cons (pv 0) pa_nil)) (nomark _))
        (pss_one (ps_set (i := 2) scD.nd rfl (Or.inl rfl) (pe_ix ix_list (pv 0) (pv 1) (fun _ _ => rfl)))) pss_nil)
      (pss_cons (ps_set (i := 3) scD.nd rfl (Or.inl rfl) (pe_op op_modN (pe_callTy call_int1 (by rfl) T.mI (by decide +kernel) (pa_cons (pe_callB call_abs (by rfl) T.mA (by decide +kernel) (pa_cons (pv 2) pa_nil)) pa_nil))
          (pe_op op_powW (pe_op op_powW pe_int pe_int) pe_int)))
      (pss_cons (ps_set (i := 4) scD.nd rfl (Or.inl rfl) (pe_op op_add (pe_op op_add (pe_op op_add
          (pe_op op_mul (pe_op op_modN (pe_callTy call_int1 (by rfl) T.mI (by decide +kernel) (pa_cons (pv 3) pa_nil)) pe_int) pe_int)
          (pe_op op_mul pe_int (pv 1)))
          (pe_op op_mul pe_int (pe_callTy call_int1 (by rfl) T.mI (by decide +kernel) (pa_cons (pe_cmpR op_lt (pv 2) pe_int (nomark _)) pa_nil)))) pe_int))
      (pss_one (ps_ret (pe_lst (pa_cons (pe_callB (call_max2 rfl) (by rfl) T.mM (by decide +kernel) (pa_cons pe_int (pa_cons (pe_op op_sub (pv 3) (pe_op op_powW pe_int pe_int)) pa_nil)))
          (pa_cons (pe_op op_modN (pe_callTy call_int1 (by rfl) T.mI (by decide +kernel) (pa_cons (pv 4) pa_nil)) pe_int) (pa_cons pe_int pa_nil))))))))), ?_⟩
    refine ⟨_, rfl, _, _, rfl, rfl, .inl ⟨by decide, by decide⟩, _, _, rfl, rfl, ?_⟩
    refine ⟨_, rfl, _, rfl, a, _, rfl, .inl hs, _, _, rfl, rfl, _, rfl, ?_⟩
    refine ite2 (fun ha => ?_) (fun ha => ?_)
    · have hlt : i < (ns.map V.int).length := by
        have z := of_decide_eq_true ha
        omega
      refine ⟨_, rfl, _, rfl, a, _, _, V.int ((ns.getD i 0)), rfl, rfl, hs, atI_nat (by
        rw [List.length_map] at hlt
        simp [hlt]), ?_⟩
      refine ⟨_, rfl, _, rfl, .inl ⟨_, rfl, ?_⟩⟩
      refine ⟨_, _, rfl, rfl, pow60, _, _, rfl, rfl, pow600, _, _, rfl, rfl, big600_nz, ?_⟩
      refine ⟨_, rfl, .inl ⟨_, rfl, ?_⟩⟩
      refine ⟨_, _, rfl, rfl, nz4, _, _, rfl, rfl, .inr ⟨by decide, by decide⟩, ?_⟩
      refine ⟨_, rfl, _, _, rfl, rfl, .inl ⟨by decide, by decide⟩, _, _, rfl, rfl, ?_⟩
      refine ⟨_, rfl, _, _, rfl, rfl, .inr ⟨_, rfl, ?_⟩⟩
      refine ⟨_, _, rfl, rfl, .inl ⟨by decide, by decide⟩, _, _, rfl, rfl, _, _, rfl, rfl, ?_⟩
      refine ⟨_, rfl, _, _, rfl, rfl, pow18, _, _, rfl, rfl, _, _, rfl, ?_⟩
      refine ⟨_, rfl, .inl ⟨_, rfl, ?_⟩⟩
      refine ⟨_, _, rfl, rfl, nz5, ?_⟩
      refine ⟨by show 3 ≤ sizeLine; decide, fun p hp => ?_⟩
      exact k _ _ _ _ hp
    · refine ⟨_, rfl, _, rfl, .inl ⟨_, rfl, ?_⟩⟩
      refine ⟨_, _, rfl, rfl, pow60, _, _, rfl, rfl, pow600, _, _, rfl, rfl, big600_nz, ?_⟩
      refine ⟨_, rfl, .inl ⟨_, rfl, ?_⟩⟩
      refine ⟨_, _, rfl, rfl, nz4, _, _, rfl, rfl, .inr ⟨by decide, by decide⟩, ?_⟩
      refine ⟨_, rfl, _, _, rfl, rfl, .inl ⟨by decide, by decide⟩, _, _, rfl, rfl, ?_⟩
      refine ⟨_, rfl, _, _, rfl, rfl, .inr ⟨_, rfl, ?_⟩⟩
      refine ⟨_, _, rfl, rfl, .inl ⟨by decide, by decide⟩, _, _, rfl, rfl, _, _, rfl, rfl, ?_⟩
      refine ⟨_, rfl, _, _, rfl, rfl, pow18, _, _, rfl, rfl, _, _, rfl, ?_⟩
      refine ⟨_, rfl, .inl ⟨_, rfl, ?_⟩⟩
      refine ⟨_, _, rfl, rfl, nz5, ?_⟩
      refine ⟨by show 3 ≤ sizeLine; decide, fun p hp => ?_⟩
      exact k _ _ _ _ hp
/-! ### one of a list's items -/
def spOneOf : Sp := fun vs H Q _ => ∃ (d p : Addr) (xs : List V), vs = [.ref d, .ref p] ∧ DiceAt H d ∧ H p = some (.lst xs) ∧ p ≠ d ∧ 0 < xs.length ∧ xs.length < 1000 ∧
  ∀ (k : Nat) (x : V) (a b c : Int), xs[k]? = some x → Q x (upd H d (.lst (dxs a b c)))
theorem scO : FnScope ["_law_dice_here", "_law_items"] ["_law_dice_here", "_law_items"] (defScope sOneOf) :=
  ⟨rfl, rfl, rfl, by decide +kernel, rfl, by decide +kernel, by decide +kernel⟩
theorem ok_oneOf {f fR : Addr} {fd fdR : FuncData} (F : Fun K "_law_one_of" "_law_one_of" sOneOf f fd) (T : TxtD mg) (FR : Fun K "_law_roll" "_law_roll" sRoll fR fdR)
    (mR : mg "_law_roll" = some (.ref fR)) (kR : PySem.W.keepIn K (.ref fR) = true) (bR : Binds K fdR ["_law_dice_here", "_law_total"] []) : FnOk P w K mg base CX0 2 f fd ["_law_dice_here", "_law_items"] spOneOf := by
  have G : FnOk P w K mg base CX0 1 fR fdR ["_law_dice_here", "_law_total"] spRoll := ok_roll FR T.mI
  refine F.ok scO (fun vs H Q E h => ?_) (fun cdv A outer s H vs Q E hr h => ?_)
  · obtain ⟨d, p, xs, rfl, _⟩ := h
    rfl
  · obtain ⟨d, p, xs, rfl, hd, hp, ne, h0, h1, k⟩ := h
    have hu := hu_of hr
    refine ⟨_, pss_one (ps_ret (pe_ix ix_list (pv 1) (pe_call G hr (by rfl) mR kR bR .nil pass0
      (pa_cons (pv 0) (pa_cons (pe_callB call_len_seq (by rfl) T.mL PySem.boot_len (pa_cons (pv 1) pa_nil)) pa_nil))) (fun _ _ => rfl))), ?_⟩
    refine ⟨_, rfl, _, rfl, _, rfl, p, xs, rfl, .inl (SqL.of hp), d, _, rfl, hd, by omega, by omega, fun r a b c hr0 hr1 => ?_⟩
    obtain ⟨k', rfl⟩ : ∃ k' : Nat, r = (k' : Int) := ⟨r.toNat, by omega⟩
    have hk : k' < xs.length := by omega
    refine ⟨p, xs, _, xs[k'], rfl, rfl, SqL.of (by rw [upd_ne ne]; exact hp), atI_nat (List.getElem?_eq_getElem hk), ?_⟩
    exact k k' _ a b c (List.getElem?_eq_getElem hk)
end
end LD
set_option Elab.async false
set_option linter.all false
set_option maxRecDepth 100000
set_option maxHeartbeats 4000000
namespace FR
open PySem PySem.Spec PyProof.Rows L2 LD
section
variable {P : Program} {w : World} {K : PySem.W.Frag} {mg : Str → Option Value} {base : Heap}
/-! ### _law_gcd -/
abbrev sGcd : Stmt := FR.top 35
theorem scGcd : FnScope ["_law_one", "_law_two"] ["_law_one", "_law_two"] (defScope sGcd) := ⟨rfl, rfl, rfl, by decide +kernel, rfl, by decide +kernel, by decide +kernel⟩
def spGcd : Sp := fun vs H Q _ => ∃ a b : Nat, vs = [.int a, .int b] ∧ Q (.int (Nat.gcd a b : Nat)) H
theorem ok_gcd {f : Addr} {fd : FuncData} (F : Fun K "_law_gcd" "_law_gcd" sGcd f fd) (mI : mg "int" = none) : FnOk P w K mg base CX0 1 f fd ["_law_one", "_law_two"] spGcd := by
  refine F.ok scGcd (fun vs H Q E h => ?_) (fun cdv A outer s H vs Q E hr h => ?_)
  · obtain ⟨a, b, rfl, _⟩ := h
    rfl
  · obtain ⟨a, b, rfl, q⟩ := h
    refine ⟨_, pss_cons (ps_while PassesOwn.never (pt_cmpR op_gt (pv 1) pe_int (nomark _)) (pss_one (ps_par (i := 0) (j := 1) (by rfl) scGcd.nd rfl rfl (by decide) rfl rfl (pa_cons (pv 1) (pa_cons (pe_op op_modN (pe_callTy call_int1 (by rfl) mI (by decide +kernel) (pa_cons (pv 0) pa_nil)) (pv 1)) pa_nil)) (by rfl))))
      (pss_one (ps_ret (pv 0))), ?_⟩
    refine while_by (fun σ Hc => Hc = H ∧ ∃ x y : Nat, σ = [some (.int x), some (.int y)] ∧ Nat.gcd x y = Nat.gcd a b) (fun σ _ => match σ with | [_, some (.int y)] => y.toNat | _ => 0) ⟨rfl, a, b, rfl, rfl⟩ ?_ ?_
    · rintro σ Hc ⟨rfl, x, y, rfl, g⟩
      refine ⟨_, rfl, _, _, rfl, rfl, _, rfl, ite2 (fun z => ?_) (fun z => ?_)⟩
      · have hy : 0 < y := by have := of_decide_eq_true z; omega
        have e : (x : Int).fmod (y : Int) = ((x % y : Nat) : Int) := by rw [Int.fmod_eq_emod_of_nonneg _ (by omega)]; rfl
        have hn : (y : Int) ≠ 0 := by omega
        refine ⟨_, rfl, _, rfl, .inl ⟨_, rfl, ?_⟩⟩
        refine ⟨_, rfl, _, _, rfl, rfl, hn, ?_⟩
        refine ⟨_, _, rfl, ?_⟩
        refine ⟨⟨rfl, y, x % y, by rw [← e]; rfl, ?_⟩, ?_⟩
        · rw [← g, Nat.gcd_comm x y, Nat.gcd_rec y x, Nat.gcd_comm]
        · show ((x : Int).fmod (y : Int)).toNat < (y : Int).toNat
          rw [e]
          have := Nat.mod_lt x hy
          omega
      · have hy : y = 0 := by
          have : ¬ (0 : Int) < y := fun c => z (decide_eq_true c)
          omega
        subst hy
        rw [Nat.gcd_zero_right] at g
        refine ⟨_, rfl, ?_⟩
        subst g
        exact q
    · rintro σ Hc R R' im ⟨v, e1, i, j, e2, e3, k, e4, c⟩
      exact ⟨v, e1, i, j, e2, e3, k, e4, im _ _ c⟩
/-! ### _law_ratio, _law_pair, _law_told -/
abbrev sRat : Stmt := FR.top 36
theorem scRat : FnScope ["_law_top", "_law_bottom", "_law_part"] ["_law_top", "_law_bottom"] (defScope sRat) := ⟨rfl, rfl, rfl, by decide +kernel, rfl, by decide +kernel, by decide +kernel⟩
def spRat : Sp := fun vs H Q _ => ∃ t b : Int, vs = [.int t, .int b] ∧ 0 < b ∧ b.natAbs < 2 ^ 8000 ∧ ∀ p, H p = none → Q (.ref p) (upd H p (.tup [.int (nT t b), .int (nB t b)]))
theorem abs_nat (t : Int) : (if t < 0 then -t else t) = ((t.natAbs : Nat) : Int) := by split <;> omega
theorem ok_rat {f fG : Addr} {fd fdG : FuncData} (F : Fun K "_law_ratio" "_law_ratio" sRat f fd) (GG : FnOk P w K mg base CX0 1 fG fdG ["_law_one", "_law_two"] spGcd) (mG : mg "_law_gcd" = some (.ref fG))
    (kG : PySem.W.keepIn K (.ref fG) = true) (bG : Binds K fdG ["_law_one", "_law_two"] []) (ma : mg "abs" = none) : FnOk P w K mg base CX0 2 f fd ["_law_top", "_law_bottom"] spRat := by
  refine F.ok scRat (fun vs H Q E h => ?_) (fun cdv A outer s H vs Q E hr h => ?_)
  · obtain ⟨t, b, rfl, _⟩ := h
    rfl
  · obtain ⟨t, b, rfl, hb, hz, q⟩ := h
    refine ⟨_, pss_cons (ps_set (i := 2) scRat.nd rfl (Or.inl rfl) (pe_call GG hr (by rfl) mG kG bG .nil pass0 (pa_cons (pe_callB call_abs (by rfl) ma (by decide +kernel) (pa_cons (pv 0) pa_nil)) (pa_cons (pv 1) pa_nil))))
      (pss_one (ps_ret (pe_tup (pa_cons (pe_op op_fdivX (pv 0) (pv 2)) (pa_cons (pe_op op_fdivX (pv 1) (pv 2)) pa_nil))))), ?_⟩
    have ed : dv t b = ((Nat.gcd t.natAbs b.natAbs : Nat) : Int) := if_neg (by omega)
    have hb0 : b ≠ 0 := by omega
    have dz : ∀ i : Int, CDivX i ((Nat.gcd t.natAbs b.natAbs : Nat) : Int) := fun i => by
      rw [← ed]
      exact div_ok (dv_ne hb0) (Nat.lt_of_le_of_lt (dv_le hb0) hz) (by decide) (by decide)
    have eb : V.int b = V.int ((b.natAbs : Nat) : Int) := by rw [show ((b.natAbs : Nat) : Int) = b by omega]
    refine ⟨_, rfl, _, rfl, _, rfl, t.natAbs, b.natAbs, by rw [abs_nat, eb]; rfl, ?_⟩
    refine ⟨_, rfl, _, rfl, _, _, rfl, rfl, dz _, _, rfl, _, rfl, _, _, rfl, rfl, dz _, small1000 (by show 1 ≤ 1000; decide), fun p hp => ?_⟩
    have e := q p hp
    unfold nT nB at e
    rw [ed] at e
    exact e
end
end FR
set_option Elab.async false
set_option linter.all false
set_option maxRecDepth 100000
set_option maxHeartbeats 4000000
namespace FR
open PySem PySem.Spec PyProof.Rows L2 LD
/-! ### the law's own sums, products, less, powers -/
/-- a pair of integers stands at a -/
def TA (H : Hp) (a : Addr) (p : PI) : Prop := H a = some (.tup [.int p.1, .int p.2])
/-- short, with a bottom above 0 -/
structure Pp (p : PI) : Prop where
  b0 : 0 < p.2
  tz : p.1.natAbs < 2 ^ 4000
  bz : p.2.natAbs < 2 ^ 4000
theorem Pp.mul {p r : PI} (h : Pp p) (g : Pp r) : CMulW p.1 r.1 ∧ CMulW p.1 r.2 ∧ CMulW r.1 p.2 ∧ CMulW p.2 r.2 ∧ (p.2 * r.2).natAbs < 2 ^ 8000 :=
  ⟨wide_mul h.tz g.tz (by decide) (by decide) (by decide), wide_mul h.tz g.bz (by decide) (by decide) (by decide), wide_mul g.tz h.bz (by decide) (by decide) (by decide), wide_mul h.bz g.bz (by decide) (by decide) (by decide), wide_lt h.bz g.bz⟩
def spLP (g : PI → PI → PI) : Sp := fun vs H Q _ => ∃ (a c : Addr) (p r : PI), vs = [.ref a, .ref c] ∧ TA H a p ∧ TA H c r ∧ Pp p ∧ Pp r ∧ ∀ x, H x = none → Q (.ref x) (upd H x (.tup [.int (g p r).1, .int (g p r).2]))
def byP (a c : PI) : PI := (nT (a.1 * c.1) (a.2 * c.2), nB (a.1 * c.1) (a.2 * c.2))
section
variable {P : Program} {w : World} {K : PySem.W.Frag} {mg : Str → Option Value} {base : Heap} {C fI pT gT pB gB : Addr} {fdI fdT fdB : FuncData}
abbrev sPlus : Stmt := FR.top 37
abbrev N12 : List Str := ["_law_one", "_law_two"]
theorem scPl : FnScope N12 N12 (defScope sPlus) := ⟨rfl, rfl, rfl, by decide +kernel, rfl, by decide +kernel, by decide +kernel⟩
theorem ok_plus {f : Addr} {fd : FuncData} (F : Fun K "_law_plus" "_law_plus" sPlus f fd) (gR : Glo P w K mg base "_law_ratio" 2 ["_law_top", "_law_bottom"] spRat) : FnOk P w K mg base CX0 3 f fd N12 (spLP plusP) := by
  refine F.ok scPl (fun vs H Q E h => ?_) (fun cdv A outer s H vs Q E hr h => ?_)
  · obtain ⟨a, c, p, r, rfl, _⟩ := h
    rfl
  · obtain ⟨a, c, p, r, rfl, ha, hc, z1, z2, q⟩ := h
    obtain ⟨m1, m2, m3, m4, m5⟩ := z1.mul z2
    refine ⟨_, pss_one (ps_ret (pe_call gR.G hr (by rfl) gR.m gR.k gR.b .nil pass0 (pa_cons (pe_op op_add (pe_op op_mulW (pe_ix ix_tup (pv 0) pe_int (fun _ _ => rfl)) (pe_ix ix_tup (pv 1) pe_int (fun _ _ => rfl))) (pe_op op_mulW (pe_ix ix_tup (pv 1) pe_int (fun _ _ => rfl)) (pe_ix ix_tup (pv 0) pe_int (fun _ _ => rfl))))
      (pa_cons (pe_op op_mulW (pe_ix ix_tup (pv 0) pe_int (fun _ _ => rfl)) (pe_ix ix_tup (pv 1) pe_int (fun _ _ => rfl))) pa_nil)))), ?_⟩
    refine ⟨_, rfl, a, _, _, _, rfl, rfl, SqT.of ha, rfl, _, rfl, c, _, _, _, rfl, rfl, SqT.of hc, rfl, _, _, rfl, rfl, m2, ?_⟩
    refine ⟨_, rfl, c, _, _, _, rfl, rfl, SqT.of hc, rfl, _, rfl, a, _, _, _, rfl, rfl, SqT.of ha, rfl, _, _, rfl, rfl, m3, _, _, rfl, rfl, ?_⟩
    refine ⟨_, rfl, a, _, _, _, rfl, rfl, SqT.of ha, rfl, _, rfl, c, _, _, _, rfl, rfl, SqT.of hc, rfl, _, _, rfl, rfl, m4, ?_⟩
    exact ⟨_, _, rfl, Int.mul_pos z1.b0 z2.b0, m5, fun x hx => q x hx⟩
abbrev sLby : Stmt := FR.top 38
theorem scLb : FnScope N12 N12 (defScope sLby) := ⟨rfl, rfl, rfl, by decide +kernel, rfl, by decide +kernel, by decide +kernel⟩
theorem ok_lby {f : Addr} {fd : FuncData} (F : Fun K "_law_by" "_law_by" sLby f fd) (gR : Glo P w K mg base "_law_ratio" 2 ["_law_top", "_law_bottom"] spRat) : FnOk P w K mg base CX0 3 f fd N12 (spLP byP) := by
  refine F.ok scLb (fun vs H Q E h => ?_) (fun cdv A outer s H vs Q E hr h => ?_)
  · obtain ⟨a, c, p, r, rfl, _⟩ := h
    rfl
  · obtain ⟨a, c, p, r, rfl, ha, hc, z1, z2, q⟩ := h
    obtain ⟨m1, m2, m3, m4, m5⟩ := z1.mul z2
    refine ⟨_, pss_one (ps_ret (pe_call gR.G hr (by rfl) gR.m gR.k gR.b .nil pass0 (pa_cons (pe_op op_mulW (pe_ix ix_tup (pv 0) pe_int (fun _ _ => rfl)) (pe_ix ix_tup (pv 1) pe_int (fun _ _ => rfl)))
      (pa_cons (pe_op op_mulW (pe_ix ix_tup (pv 0) pe_int (fun _ _ => rfl)) (pe_ix ix_tup (pv 1) pe_int (fun _ _ => rfl))) pa_nil)))), ?_⟩
    refine ⟨_, rfl, a, _, _, _, rfl, rfl, SqT.of ha, rfl, _, rfl, c, _, _, _, rfl, rfl, SqT.of hc, rfl, _, _, rfl, rfl, m1, ?_⟩
    refine ⟨_, rfl, a, _, _, _, rfl, rfl, SqT.of ha, rfl, _, rfl, c, _, _, _, rfl, rfl, SqT.of hc, rfl, _, _, rfl, rfl, m4, ?_⟩
    exact ⟨_, _, rfl, Int.mul_pos z1.b0 z2.b0, m5, fun x hx => q x hx⟩
abbrev sInv : Stmt := FR.top 48
theorem scInv : FnScope ["_law_pair_here"] ["_law_pair_here"] (defScope sInv) := ⟨rfl, rfl, rfl, by decide +kernel, rfl, by decide +kernel, by decide +kernel⟩
def invP (p : PI) : PI := if 0 < p.1 then (p.2, p.1) else (0 - p.2, 0 - p.1)
def spInv : Sp := fun vs H Q _ => ∃ (a : Addr) (p : PI), vs = [.ref a] ∧ TA H a p ∧ ∀ x, H x = none → Q (.ref x) (upd H x (.tup [.int (invP p).1, .int (invP p).2]))
theorem ok_inv {f : Addr} {fd : FuncData} (F : Fun K "_law_inverse" "_law_inverse" sInv f fd) : FnOk P w K mg base CX0 1 f fd ["_law_pair_here"] spInv := by
  refine F.ok scInv (fun vs H Q E h => ?_) (fun cdv A outer s H vs Q E hr h => ?_)
  · obtain ⟨a, p, rfl, _⟩ := h
    rfl
  · obtain ⟨a, p, rfl, ha, q⟩ := h
    refine ⟨_, (pss_one (ps_ret (pe_ifExp (pt_cmpR op_gt (pe_ix ix_tup (pv 0) pe_int (fun _ _ => rfl)) pe_int (nomark _)) (pe_tup (pa_cons (pe_ix ix_tup (pv 0) pe_int (fun _ _ => rfl)) (pa_cons (pe_ix ix_tup (pv 0) pe_int (fun _ _ => rfl)) pa_nil))) (pe_tup (pa_cons (pe_op op_sub pe_int (pe_ix ix_tup (pv 0) pe_int (fun _ _ => rfl))) (pa_cons (pe_op op_sub pe_int (pe_ix ix_tup (pv 0) pe_int (fun _ _ => rfl))) pa_nil)))))), ?_⟩
    refine ⟨_, rfl, a, _, _, _, rfl, rfl, SqT.of ha, rfl, _, _, rfl, rfl, _, rfl, ite2 (fun z => ?_) (fun z => ?_)⟩
    · have z := of_decide_eq_true z
      unfold invP at q
      rw [if_pos z] at q
      exact ⟨_, rfl, a, _, _, _, rfl, rfl, SqT.of ha, rfl, _, rfl, a, _, _, _, rfl, rfl, SqT.of ha, rfl, small1000 (by show 1 ≤ 1000; decide), fun x hx => q x hx⟩
    · have z : ¬ 0 < p.1 := fun y => z (decide_eq_true y)
      unfold invP at q
      rw [if_neg z] at q
      exact ⟨_, rfl, a, _, _, _, rfl, rfl, SqT.of ha, rfl, _, _, rfl, rfl, _, rfl, a, _, _, _, rfl, rfl, SqT.of ha, rfl, _, _, rfl, rfl, small1000 (by show 1 ≤ 1000; decide), fun x hx => q x hx⟩
end
end FR
set_option Elab.async false
set_option linter.all false
set_option maxRecDepth 100000
set_option maxHeartbeats 4000000
namespace FR
open PySem PySem.Spec PyProof.Rows L2 LD
def Rl (d : Addr) (H H' : Hp) : Prop := DiceAt H' d ∧ ∀ q o, q ≠ d → H q = some o → H' q = some o
theorem Rl.refl {d : Addr} {H : Hp} (h : DiceAt H d) : Rl d H H := ⟨h, fun _ _ _ e => e⟩
theorem Rl.trans {d : Addr} {H H1 H2 : Hp} (a : Rl d H H1) (b : Rl d H1 H2) : Rl d H H2 := ⟨b.1, fun q o n e => b.2 q o n (a.2 q o n e)⟩
theorem Rl.roll {d : Addr} {H H1 : Hp} {a b c : Int} (r : Rl d H H1) : Rl d H (upd H1 d (.lst (dxs a b c))) := ⟨⟨a, b, c, upd_same⟩, fun q o n e => by rw [upd_ne n]; exact r.2 q o n e⟩
theorem Rl.new {d p : Addr} {H H1 : Hp} {o : HO} (r : Rl d H H1) (hp : H1 p = none) : Rl d H (upd H1 p o) := by
  obtain ⟨a, b, c, e⟩ := r.1
  exact ⟨⟨a, b, c, by rw [upd_ne (ne_of_none e hp)]; exact e⟩, fun q o' n e' => by
    have := r.2 q o' n e'
    rw [upd_ne (ne_of_none this hp)]
    exact this⟩
theorem Rl.free {d p : Addr} {H H1 : Hp} (r : Rl d H H1) (hd : DiceAt H d) (hp : H1 p = none) : H p = none := by
  cases e : H p with
  | none => rfl
  | some o =>
    by_cases q : p = d
    · subst q
      obtain ⟨a, b, c, e'⟩ := r.1
      rw [hp] at e'
      cases e'
    · have := r.2 p o q e
      rw [hp] at this
      cases this
theorem Rl.same {d : Addr} {H H1 H2 : Hp} (r : Rl d H H1) (s : Same H1 H2) : Rl d H H2 := by
  obtain ⟨a, b, c, e⟩ := r.1
  exact ⟨⟨a, b, c, s _ _ e⟩, fun q o n e => s _ _ (r.2 q o n e)⟩

theorem FrAt.rl {C d : Addr} {H H' : Hp} {p : Addr} {t b : Int} (h : FrAt C H p t b) (hd : DiceAt H d) (r : Rl d H H') : FrAt C H' p t b := by
  obtain ⟨dx, e⟩ := h
  obtain ⟨x, y, z, hz⟩ := hd
  exact ⟨dx, r.2 _ _ (fun w => by rw [w, hz] at e; cases e) e⟩
theorem FV.rl {C d : Addr} {H H' : Hp} {v : V} {t b : Int} (h : FV C H v t b) (hd : DiceAt H d) (r : Rl d H H') : FV C H' v t b := by
  rcases h with ⟨p, e, z⟩ | z
  · exact .inl ⟨p, e, z.rl hd r⟩
  · exact .inr z
theorem FVs.rl {C d : Addr} {H H' : Hp} {vs : List V} {ps : List PI} (h : FVs C H vs ps) (hd : DiceAt H d) (r : Rl d H H') : FVs C H' vs ps := A2.imp h fun _ _ f => f.rl hd r
theorem TP1.rl {d : Addr} {H H' : Hp} {v : V} {p : PI} (h : TP1 H v p) (hd : DiceAt H d) (r : Rl d H H') : TP1 H' v p := by
  obtain ⟨q, e, z⟩ := h
  obtain ⟨x, y, w, hz⟩ := hd
  exact ⟨q, e, r.2 _ _ (fun u => by rw [u, hz] at z; cases z) z⟩
/-- a list of pairs at a -/
def PL (H : Hp) (a : Addr) (ps : List PI) : Prop := ∃ us, H a = some (.lst us) ∧ TPs H us ps
theorem PL.same {H H' : Hp} {a : Addr} {ps : List PI} (h : PL H a ps) (s : Same H H') : PL H' a ps := by
  obtain ⟨us, e, z⟩ := h
  exact ⟨us, s _ _ e, z.same s⟩
theorem PL.rl {d : Addr} {H H' : Hp} {a : Addr} {ps : List PI} (h : PL H a ps) (n : a ≠ d) (hd : DiceAt H d) (r : Rl d H H') : PL H' a ps := by
  obtain ⟨us, e, z⟩ := h
  exact ⟨us, r.2 _ _ n e, A2.imp z fun _ _ y => y.rl hd r⟩
/-- a tuple of fractions -/
def TV (C : Addr) (H : Hp) (a : Addr) (ps : List PI) : Prop := ∃ xs, H a = some (.tup xs) ∧ FVs C H xs ps
theorem TV.same {C : Addr} {H H' : Hp} {a : Addr} {ps : List PI} (h : TV C H a ps) (s : Same H H') : TV C H' a ps := by
  obtain ⟨us, e, z⟩ := h
  exact ⟨us, s _ _ e, z.same s⟩
theorem TFr.tv {C : Addr} {H : Hp} {a : Addr} {ps : List PI} (h : TFr C H a ps) : TV C H a ps := by
  obtain ⟨us, e, z⟩ := h
  exact ⟨us, e, A2.imp z fun _ _ ⟨q, e, f⟩ => .inl ⟨q, e, f⟩⟩
section
variable {P : Program} {w : World} {K : PySem.W.Frag} {mg : Str → Option Value} {base : Heap} {C fI pT gT pB gB : Addr} {fdI fdT fdB : FuncData}
abbrev sPr : Stmt := FR.top 39
theorem scPr : FnScope ["_law_number_here"] ["_law_number_here"] (defScope sPr) := ⟨rfl, rfl, rfl, by decide +kernel, rfl, by decide +kernel, by decide +kernel⟩
def spPr (C : Addr) : Sp := fun vs H Q _ => ∃ (v : V) (t b : Int), vs = [v] ∧ FV C H v t b ∧ ∀ p, H p = none → Q (.ref p) (upd H p (.tup [.int t, .int b]))
theorem ok_pr {f : Addr} {fd : FuncData} (F : Fun K "_law_pair" "_law_pair" sPr f fd) (k : FrK P w K mg base C fI pT gT pB gB fdI fdT fdB) (kCI : PySem.W.kitOne K (.ref C) (.type "int") = some false) (mI : mg "isinstance" = none) (mInt : mg "int" = none) : FnOk P w K mg base CX0 3 f fd ["_law_number_here"] (spPr C) := by
  refine F.ok scPr (fun vs H Q E h => ?_) (fun cdv A outer s H vs Q E hr h => ?_)
  · obtain ⟨v, t, b, rfl, _⟩ := h
    rfl
  · obtain ⟨v, t, b, rfl, hv, q⟩ := h
    refine ⟨_, (pss_one (ps_ret (pe_ifExp (pt_val (pe_callB call_isi (by rfl) mI PyProof.Rows.boot_isinstance (pa_cons (pv 0) (pa_cons (pe_bltn (v := .ty "int") (by rfl) mInt (by decide +kernel) rfl) pa_nil)))) (pe_tup (pa_cons (pv 0) (pa_cons pe_int pa_nil))) (pe_tup (pa_cons (pe_prop (pv 0) k.T.cl k.oT k.GT (hr.mono (by decide)) k.bT .nil pass0 rfl) (pa_cons (pe_prop (pv 0) k.T.cl k.oB k.GB (hr.mono (by decide)) k.bB .nil pass0 rfl) pa_nil)))))), ?_⟩
    rcases hv with ⟨p, rfl, dx, hp⟩ | ⟨rfl, rfl⟩
    · refine ⟨_, rfl, _, _, _, _, false, rfl, .ty _, .base (.ins hp k.T.cl k.ha k.hn k.tk k.hm), kCI, _, rfl, ?_⟩
      exact ⟨_, rfl, p, dx, _, rfl, hp, p, dx, _, _, rfl, hp, fl_top _ _, _, rfl, p, dx, _, rfl, hp, p, dx, _, _, rfl, hp, fl_bot _ _, small1000 (by show 1 ≤ 1000; decide), fun x hx => q x hx⟩
    · refine ⟨_, rfl, _, _, _, _, true, rfl, .ty _, .base (.int _), kI1, _, rfl, ?_⟩
      exact ⟨_, rfl, small1000 (by show 1 ≤ 1000; decide), fun x hx => q x hx⟩
abbrev sPs : Stmt := FR.top 40
abbrev NPs : List Str := ["_law_row", "_law_number_here"]
theorem scPs : FnScope NPs ["_law_row"] (defScope sPs) := ⟨rfl, rfl, rfl, by decide +kernel, rfl, by decide +kernel, by decide +kernel⟩
def spPs (C : Addr) : Sp := fun vs H Q _ => ∃ (a : Addr) (ps : List PI), vs = [.ref a] ∧ TV C H a ps ∧ ps.length ≤ 90 ∧ ∀ l H', PL H' l ps → Same H H' → H l = none → Q (.ref l) H'
theorem ok_ps {f : Addr} {fd : FuncData} (F : Fun K "_law_pairs" "_law_pairs" sPs f fd) (gP : Glo P w K mg base "_law_pair" 3 ["_law_number_here"] (spPr C)) : FnOk P w K mg base CX0 4 f fd ["_law_row"] (spPs C) := by
  refine F.ok scPs (fun vs H Q E h => ?_) (fun cdv A outer s H vs Q E hr h => ?_)
  · obtain ⟨a, ps, rfl, _⟩ := h
    rfl
  · obtain ⟨a, ps, rfl, ⟨xs, hx, hf⟩, l90, q⟩ := h
    refine ⟨_, (pss_one (ps_ret (pe_lc (X := (cxOf CX0 P w K mg base NPs "_law_pairs" (defScope sPs) f cdv A outer s H E).nox) (own := [("_law_number_here", 1)]) (g := (gName 1)) (tt := tYes) rfl scPs.nd (pi_tup (pv 0)) (blkOk_by (N := NPs) (sc := defScope sPs) (by decide +kernel)) (fun _ _ _ _ _ => (pg_name (i := 1) scPs.nd rfl (.inl rfl))) (fun _ _ _ _ _ => pts_nil) (fun _ _ _ _ _ => (pe_call gP.G hr (by rfl) gP.m gP.k gP.b .nil pass0 (pa_cons (pv 1) pa_nil)))))), ?_⟩
    refine ⟨_, rfl, a, rfl, ⟨_, SqT.of hx⟩, fun D hD => ?_⟩
    refine lc_tup (xs := xs) (fun i Hc => Same H Hc ∧ ∃ us, Hc D = some (.lst us) ∧ TPs Hc us (ps.take i)) ⟨same_new hD, [], upd_same, A2.nil⟩ (fun i Hc _ p => SqT.of (p.1 _ _ hx)) ?_ ?_
    · rintro i v Hc hvi ⟨sm, us, hDc, hu⟩
      obtain ⟨p, hp, fv⟩ := hf.2 i v hvi
      refine ⟨rfl, _, rfl, v, p.1, p.2, rfl, fv.same sm, fun x hx' => ?_⟩
      have s2 : Same Hc (upd Hc x (.tup [.int p.1, .int p.2])) := same_new hx'
      have e := s2 _ _ hDc
      have il := (List.getElem?_eq_some_iff.mp hp).1
      refine ⟨us, e, small1000 (by rw [hu.1, List.length_take]; omega), same_upd hD (sm.trans s2), us ++ [.ref x], upd_same, ?_⟩
      rw [take_snoc hp]
      exact A2.snoc ((hu.same s2).updl e) ⟨x, rfl, tup_updl upd_same e⟩
    · rintro Hc ⟨sm, us, hDc, hu⟩
      rw [List.take_of_length_le (by rw [hf.1]; exact Nat.le_refl _)] at hu
      exact q D Hc ⟨us, hDc, hu⟩ sm hD
abbrev sSh : Stmt := FR.top 41
abbrev NSh : List Str := ["_law_dice_here", "_law_pair_here"]
theorem scSh : FnScope NSh NSh (defScope sSh) := ⟨rfl, rfl, rfl, by decide +kernel, rfl, by decide +kernel, by decide +kernel⟩
def spSh (C : Addr) : Sp := fun vs H Q _ => ∃ (d a : Addr) (p : PI), vs = [.ref d, .ref a] ∧ DiceAt H d ∧ TA H a p ∧ Lf p.1 p.2 ∧ p.2.natAbs < 2 ^ 8000 ∧ ∀ v H', FV C H' v p.1 p.2 → Rl d H H' → Q v H'
theorem ok_sh {f : Addr} {fd : FuncData} (F : Fun K "_law_shown" "_law_shown" sSh f fd) (k : FrK P w K mg base C fI pT gT pB gB fdI fdT fdB) (gR : Glo P w K mg base "_law_roll" 1 ["_law_dice_here", "_law_total"] spRoll) : FnOk P w K mg base CX0 4 f fd NSh (spSh C) := by
  refine F.ok scSh (fun vs H Q E h => ?_) (fun cdv A outer s H vs Q E hr h => ?_)
  · obtain ⟨d, a, p, rfl, _⟩ := h
    rfl
  · obtain ⟨d, a, p, rfl, hd, ha, lf, bz, q⟩ := h
    refine ⟨_, (pss_cons (ps_if (PW.pt (pw_and (pt_cmpR op_eq (pe_ix ix_tup (pv 1) pe_int (fun _ _ => rfl)) pe_int (nomark _)) (pw_and1 (pt_cmpR op_eq (pe_call gR.G (hr.mono (by decide)) (by rfl) gR.m gR.k gR.b .nil pass0 (pa_cons (pv 0) (pa_cons pe_int pa_nil))) pe_int (nomark _))))) (pss_one (ps_ret (pe_ix ix_tup (pv 1) pe_int (fun _ _ => rfl)))) pss_nil)
      (pss_one (ps_ret (pe_make k.M k.GI (hr.mono (by decide)) (by rfl) k.T.mC k.b2 .nil pass0 (pa_cons (pe_ix ix_tup (pv 1) pe_int (fun _ _ => rfl)) (pa_cons (pe_ix ix_tup (pv 1) pe_int (fun _ _ => rfl)) pa_nil)))))), ?_⟩
    have made : ∀ H1, TA H1 a p → Rl d H H1 → ∀ x dx, H1 x = none → H1 dx = none → dx ≠ x → spInit C [.ref x, .int p.1, .int p.2] (upd (upd H1 dx (.own x)) x (.ins C dx [])) (fun v H' => v = .non ∧ Q (.ref x) H') E := fun H1 h1 r x dx nx nd ne => by
      refine ⟨x, dx, _, _, rfl, upd_same, lf.ne, dv8 lf.ne bz, fun H' hf hs => ⟨rfl, ?_⟩⟩
      rw [lf.nT, lf.nB] at hf
      exact q _ H' (.inl ⟨x, rfl, hf⟩) (r.same (same_make (C := C) nx nd hs))
    refine ⟨_, rfl, a, _, _, _, rfl, rfl, SqT.of ha, rfl, rfl, _, rfl, ite2 (fun z => ?_) (fun _ => ?_)⟩
    · rw [dec_int] at z
      have z := of_decide_eq_true z
      refine ⟨_, rfl, d, 2, rfl, hd, by decide, by decide, fun r x y u h0 h2 => ?_⟩
      have ad : a ≠ d := fun w => by
        obtain ⟨_, _, _, hd⟩ := hd
        rw [w] at ha
        have ha : H d = _ := ha
        rw [hd] at ha; cases ha
      have ha2 : TA (upd H d (.lst (dxs x y u))) a p := by
        show upd H d _ a = _
        rw [upd_ne ad]; exact ha
      have r2 : Rl d H (upd H d (.lst (dxs x y u))) := (Rl.refl hd).roll
      refine ⟨rfl, _, rfl, ite2 (fun _ => ?_) (fun _ => ?_)⟩
      · exact ⟨_, rfl, a, _, _, _, rfl, rfl, SqT.of ha2, rfl, q _ _ (.inr ⟨rfl, z⟩) r2⟩
      · exact ⟨_, rfl, a, _, _, _, rfl, rfl, SqT.of ha2, rfl, _, rfl, a, _, _, _, rfl, rfl, SqT.of ha2, rfl, fun x dx nx nd ne => made _ ha2 r2 x dx nx nd ne⟩
    · exact ⟨_, rfl, a, _, _, _, rfl, rfl, SqT.of ha, rfl, _, rfl, a, _, _, _, rfl, rfl, SqT.of ha, rfl, fun x dx nx nd ne => made _ ha (Rl.refl hd) x dx nx nd ne⟩
end
end FR
set_option Elab.async false
set_option linter.all false
set_option maxRecDepth 100000
set_option maxHeartbeats 4000000
namespace FR
open PySem PySem.Spec PyProof.Rows L2 LD RF
/-- in least form and short -/
structure Pz (s : Nat) (p : PI) : Prop where
  lf : Lf p.1 p.2
  tz : p.1.natAbs < 2 ^ s
  bz : p.2.natAbs < 2 ^ s
theorem Pz.up {s t : Nat} {p : PI} (h : Pz s p) (g : s ≤ t) : Pz t p := ⟨h.lf, pow_up h.tz g, pow_up h.bz g⟩
theorem Pz.pp {s : Nat} {p : PI} (h : Pz s p) (g : s ≤ 4000) : Pp p := ⟨h.lf.1, pow_up h.tz g, pow_up h.bz g⟩
theorem Pz.by_ {s t : Nat} {p r : PI} (h : Pz s p) (g : Pz t r) : Pz (s + t) (byP p r) := by
  have n : p.2 * r.2 ≠ 0 := Int.mul_ne_zero h.lf.ne g.lf.ne
  exact ⟨lf_n n, Nat.lt_of_le_of_lt (nT_le n) (RF.mul_lt h.tz g.tz), Nat.lt_of_le_of_lt (nB_le n) (RF.mul_lt h.bz g.bz)⟩
theorem Pz.plus {s t : Nat} {p r : PI} (h : Pz s p) (g : Pz t r) : Pz (s + t + 1) (plusP p r) := by
  have n : p.2 * r.2 ≠ 0 := Int.mul_ne_zero h.lf.ne g.lf.ne
  refine ⟨lf_n n, Nat.lt_of_le_of_lt (nT_le n) ?_, Nat.lt_of_le_of_lt (nB_le n) (pow_up (RF.mul_lt h.bz g.bz) (by omega))⟩
  have a := RF.mul_lt h.tz g.bz
  have b := RF.mul_lt g.tz h.bz
  rw [Nat.add_comm t s] at b
  have e : 2 ^ (s + t) + 2 ^ (s + t) = 2 ^ (s + t + 1) := by rw [Nat.pow_succ]; omega
  generalize p.1 * r.2 = x at *
  generalize r.1 * p.2 = y at *
  omega
theorem Rl.grow {d D : Addr} {H H1 : Hp} {o : HO} (hD : H D = none) (n : D ≠ d) (r : Rl d H H1) : Rl d H (upd H1 D o) := by
  obtain ⟨⟨a, b, c, e⟩, k⟩ := r
  exact ⟨⟨a, b, c, by rw [upd_ne (Ne.symm n)]; exact e⟩, fun q u hq hu => by rw [upd_ne (ne_of_none hu hD)]; exact k q u hq hu⟩
theorem dice_ne {d D : Addr} {H : Hp} (hd : DiceAt H d) (hD : H D = none) : D ≠ d := fun z => by
  obtain ⟨a, b, c, e⟩ := hd
  rw [z, e] at hD
  cases hD
section
variable {P : Program} {w : World} {K : PySem.W.Frag} {mg : Str → Option Value} {base : Heap} {C fI pT gT pB gB : Addr} {fdI fdT fdB : FuncData}
abbrev sSr : Stmt := FR.top 42
abbrev NSr : List Str := ["_law_dice_here", "_law_pairs_here", "_law_pair_here"]
theorem scSr : FnScope NSr ["_law_dice_here", "_law_pairs_here"] (defScope sSr) := ⟨rfl, rfl, rfl, by decide +kernel, rfl, by decide +kernel, by decide +kernel⟩
def spSr (C : Addr) : Sp := fun vs H Q _ => ∃ (d a : Addr) (ps : List PI), vs = [.ref d, .ref a] ∧ DiceAt H d ∧ PL H a ps ∧ a ≠ d ∧ ps.length ≤ 90 ∧ (∀ p ∈ ps, Pz 4000 p) ∧ ∀ t H', TV C H' t ps → Rl d H H' → H t = none → Q (.ref t) H'
theorem ok_sr {f : Addr} {fd : FuncData} (F : Fun K "_law_shown_row" "_law_shown_row" sSr f fd) (gS : Glo P w K mg base "_law_shown" 4 NSh (spSh C)) (mT : mg "tuple" = none) : FnOk P w K mg base CX0 5 f fd ["_law_dice_here", "_law_pairs_here"] (spSr C) := by
  refine F.ok scSr (fun vs H Q E h => ?_) (fun cdv A outer s H vs Q E hr h => ?_)
  · obtain ⟨d, a, ps, rfl, _⟩ := h
    rfl
  · obtain ⟨d, a, ps, rfl, hd, ⟨us, ha, hu⟩, ad, l90, hz, q⟩ := h
    refine ⟨_, (pss_one (ps_ret (pe_callTy call_tuple_of (by rfl) mT (by decide +kernel) (pa_cons (pe_lc (X := (cxOf CX0 P w K mg base NSr "_law_shown_row" (defScope sSr) f cdv A outer s H E).nox) (own := [("_law_pair_here", 2)]) (g := (gName 2)) (tt := tYes) rfl scSr.nd (pi_list (pv 1)) (blkOk_by (N := NSr) (sc := defScope sSr) (by decide +kernel)) (fun _ _ _ _ _ => (pg_name (i := 2) scSr.nd rfl (.inl rfl))) (fun _ _ _ _ _ => pts_nil) (fun _ _ _ _ _ => (pe_call gS.G hr (by rfl) gS.m gS.k gS.b .nil pass0 (pa_cons (pv 0) (pa_cons (pv 2) pa_nil))))) pa_nil)))), ?_⟩
    refine ⟨_, rfl, a, rfl, ⟨_, SqL.of ha⟩, fun D hD => ?_⟩
    have Dd := dice_ne hd hD
    refine lc_list (xs := us) (fun i Hc => Rl d H Hc ∧ ∃ ws, Hc D = some (.lst ws) ∧ FVs C Hc ws (ps.take i)) ⟨(Rl.refl hd).grow hD Dd, [], upd_same, A2.nil⟩ (fun i Hc _ p => SqL.of (p.1.2 _ _ ad ha)) ?_ ?_
    · rintro i v Hc hvi ⟨r, ws, hDc, hw⟩
      obtain ⟨p, hp, x, rfl, hx⟩ := hu.2 i v hvi
      have mp := List.mem_of_getElem? hp
      have il := (List.getElem?_eq_some_iff.mp hp).1
      have xd : x ≠ d := fun z => by
        obtain ⟨_, _, _, e⟩ := hd
        rw [z, e] at hx; cases hx
      refine ⟨rfl, _, rfl, _, rfl, d, x, p, rfl, r.1, r.2 _ _ xd hx, (hz p mp).lf, pow_up (hz p mp).bz (by decide), fun v' H2 fv r2 => ?_⟩
      have e := r2.2 _ _ Dd hDc
      refine ⟨ws, e, small1000 (by rw [hw.1, List.length_take]; omega), (r.trans r2).grow hD Dd, ws ++ [v'], upd_same, ?_⟩
      rw [take_snoc hp]
      exact A2.snoc ((hw.rl r.1 r2).updl e) (fv.updl e)
    · rintro Hc ⟨r, ws, hDc, hw⟩
      rw [List.take_of_length_le (by rw [hu.1]; exact Nat.le_refl _)] at hw
      refine ⟨D, _, rfl, .inl ⟨SqL.of hDc, fun t ht => ?_⟩⟩
      exact q t _ ⟨ws, upd_same, hw.same (same_new ht)⟩ (r.new ht) (r.free hd ht)
/-- an integer within bounds -/
def inR (lo hi : Int) (v : V) : Prop := ∃ i : Int, v = .int i ∧ lo ≤ i ∧ i ≤ hi
theorem inR_nil {lo hi : Int} : ∀ v ∈ ([] : List V), inR lo hi v := fun v h => nomatch h
theorem inR_cons {lo hi i : Int} {xs : List V} (h : lo ≤ i ∧ i ≤ hi) (r : ∀ v ∈ xs, inR lo hi v) : ∀ v ∈ V.int i :: xs, inR lo hi v := fun v hv => by
  rcases List.mem_cons.mp hv with e | e
  · exact ⟨i, e, h⟩
  · exact r v e
abbrev sNu : Stmt := FR.top 43
theorem scNu : FnScope ["_law_dice_here"] ["_law_dice_here"] (defScope sNu) := ⟨rfl, rfl, rfl, by decide +kernel, rfl, by decide +kernel, by decide +kernel⟩
def spNu : Sp := fun vs H Q _ => ∃ (d : Addr), vs = [.ref d] ∧ DiceAt H d ∧ ∀ (t b : Int) (x : Addr) H', -7 ≤ t → t ≤ 5 → 1 ≤ b → b ≤ 4 → Rl d H H' → H' x = none → Q (.ref x) (upd H' x (.tup [.int (nT t b), .int (nB t b)]))
theorem ok_nu {f : Addr} {fd : FuncData} (F : Fun K "_law_number" "_law_number" sNu f fd) (gO : Glo P w K mg base "_law_one_of" 2 ["_law_dice_here", "_law_items"] spOneOf) (gR : Glo P w K mg base "_law_ratio" 2 ["_law_top", "_law_bottom"] spRat) : FnOk P w K mg base CX0 3 f fd ["_law_dice_here"] spNu := by
  refine F.ok scNu (fun vs H Q E h => ?_) (fun cdv A outer s H vs Q E hr h => ?_)
  · obtain ⟨d, rfl, _⟩ := h
    rfl
  · obtain ⟨d, rfl, hd, q⟩ := h
    refine ⟨_, (pss_one (ps_ret (pe_call gR.G hr (by rfl) gR.m gR.k gR.b .nil pass0 (pa_cons (pe_call gO.G hr (by rfl) gO.m gO.k gO.b .nil pass0 (pa_cons (pv 0) (pa_cons (pe_lst (pa_cons pe_int (pa_cons pe_int (pa_cons pe_int (pa_cons pe_int (pa_cons pe_int (pa_cons pe_int (pa_cons pe_int (pa_cons (pe_un un_neg pe_int) (pa_cons (pe_un un_neg pe_int) (pa_cons (pe_un un_neg pe_int) (pa_cons (pe_un un_neg pe_int) pa_nil)))))))))))) pa_nil))) (pa_cons (pe_call gO.G hr (by rfl) gO.m gO.k gO.b .nil pass0 (pa_cons (pv 0) (pa_cons (pe_lst (pa_cons pe_int (pa_cons pe_int (pa_cons pe_int (pa_cons pe_int (pa_cons pe_int (pa_cons pe_int pa_nil))))))) pa_nil))) pa_nil))))), ?_⟩
    refine ⟨_, rfl, _, rfl, _, rfl, _, rfl, _, rfl, small1000 (by show 10 ≤ 1000; decide), fun l hl => ?_⟩
    have ld := dice_ne hd hl
    have hd1 : DiceAt (upd H l (.lst [V.int 0, V.int 0, V.int 1, V.int 1, V.int 2, V.int 3, V.int 5, V.int (-1), V.int (-1), V.int (-2), V.int (-7)])) d := ((Rl.refl hd).grow hl ld).1
    refine ⟨d, l, _, rfl, hd1, upd_same, ld, by show 0 < 11; decide, by show 11 < 1000; decide, fun k x a b c hx => ?_⟩
    obtain ⟨t, rfl, t1, t2⟩ : inR (-7) 5 x := inR_cons (by decide) (inR_cons (by decide) (inR_cons (by decide) (inR_cons (by decide) (inR_cons (by decide) (inR_cons (by decide) (inR_cons (by decide) (inR_cons (by decide) (inR_cons (by decide) (inR_cons (by decide) (inR_cons (by decide) inR_nil)))))))))) x (List.mem_of_getElem? hx)
    have r1 : Rl d H (upd (upd H l (.lst [V.int 0, V.int 0, V.int 1, V.int 1, V.int 2, V.int 3, V.int 5, V.int (-1), V.int (-1), V.int (-2), V.int (-7)])) d (.lst (dxs a b c))) := ((Rl.refl hd).grow hl ld).roll
    generalize upd (upd H l _) d _ = H1 at *
    refine ⟨_, rfl, small1000 (by show 5 ≤ 1000; decide), fun l2 hl2 => ?_⟩
    have ld2 := dice_ne r1.1 hl2
    have r2 : Rl d H1 (upd H1 l2 (.lst [V.int 1, V.int 1, V.int 1, V.int 2, V.int 3, V.int 4])) := (Rl.refl r1.1).grow hl2 ld2
    refine ⟨d, l2, _, rfl, r2.1, upd_same, ld2, by show 0 < 6; decide, by show 6 < 1000; decide, fun k2 x2 a2 b2 c2 hx2 => ?_⟩
    obtain ⟨b', rfl, b1, b3⟩ : inR 1 4 x2 := inR_cons (by decide) (inR_cons (by decide) (inR_cons (by decide) (inR_cons (by decide) (inR_cons (by decide) (inR_cons (by decide) inR_nil))))) x2 (List.mem_of_getElem? hx2)
    refine ⟨t, b', rfl, by omega, Nat.lt_of_lt_of_le (show b'.natAbs < 2 ^ 3 by omega) (Nat.pow_le_pow_right (by decide) (by decide)), fun p hp => ?_⟩
    exact q t b' p _ t1 t2 b1 b3 (r1.trans r2.roll) hp
end
end FR
set_option Elab.async false
set_option linter.all false
set_option maxRecDepth 100000
set_option maxHeartbeats 4000000
namespace FR
open PySem PySem.Spec PyProof.Rows L2 LD RF
theorem PL.sp {H : Hp} {a : Addr} {ps : List PI} {us : List V} (h : TPs H us ps) {i : Nat} {v : V} (hv : us[i]? = some v) : ∃ p x, ps[i]? = some p ∧ v = .ref x ∧ TA H x p := by
  obtain ⟨p, hp, x, e, z⟩ := h.2 i v hv
  exact ⟨p, x, hp, e, z⟩
theorem TA.same {H H' : Hp} {x : Addr} {p : PI} (h : TA H x p) (s : Same H H') : TA H' x p := s _ _ h
/-- [e for a, b in zip(xs, ys)] of two lists of pairs: new pairs -/
theorem lz_pl {K : PySem.W.Frag} {a b D : Addr} {ps rs : List PI} {us ws : List V} (hl : ps.length = rs.length) (hk : ps.length ≤ 900) {vs : List Nat} {σ : L2.St} {H1 : Hp} {Qd : Hp → Prop} {i1 i2 : Nat} {te : TE} (f : PI → PI → PI) (hD : H1 D = none)
    (ha : H1 a = some (.lst us)) (hu : TPs H1 us ps) (hb : H1 b = some (.lst ws)) (hw : TPs H1 ws rs) (wp : ∀ v w : V, wipe (((wipe σ vs).set i1 (some v)).set i2 (some w)) vs = wipe σ vs)
    (he : ∀ (i : Nat) (p r : PI) (x y : Addr) (H : Hp) (Q : VK), ps[i]? = some p → rs[i]? = some r → TA H x p → TA H y r → Same H1 H → (∀ z H', TA H' z (f p r) → Same H H' → Q (.ref z) H') → te (((wipe σ vs).set i1 (some (.ref x))).set i2 (some (.ref y))) H Q)
    (hd : ∀ H, Same H1 H → PL H D (List.zipWith f ps rs) → Qd H) :
    ∃ Wk : Nat → Nat → Hp → Prop, (∃ m0, Wk 0 m0 (upd H1 D (.lst []))) ∧ ∀ (i0 m0 : Nat) (h0 : Hp), Wk i0 m0 h0 →
      ((Itz K a b).stop i0 h0 ∧ Qd h0) ∨ ((Itz K a b).go i0 h0 ∧ ∃ Nk : Hp → Prop, (∀ h1, Nk h1 → ∃ m1, m1 < m0 ∧ Wk (i0 + 1) m1 h1) ∧ ∀ x h2, (Itz K a b).yld i0 h0 x h2 → gTup K 2 (gCons (gName i1) (gCons (gName i2) gNil)) x (wipe σ vs) h2 fun σ2 H2 => wipe σ2 vs = wipe σ vs ∧ tYes σ2 H2 fun b H3 =>
        if b = true then te σ2 H3 fun y H4 => ∃ got, H4 D = some (.lst got) ∧ got.length < sizeLine ∧ Nk (upd H4 D (.lst (got ++ [y]))) else Nk H3) := by
  have len : (List.zipWith f ps rs).length = ps.length := by rw [List.length_zipWith]; omega
  refine lc_it (walk_zip (xs := us) (ys := ws) (n := ps.length) (by rw [hu.1, hw.1]; omega)) (fun i H => Same H1 H ∧ ∃ zs, H D = some (.lst zs) ∧ TPs H zs ((List.zipWith f ps rs).take i))
    ⟨same_new hD, [], upd_same, A2.nil⟩ (fun i H _ p => ⟨SqL.of (p.1 _ _ ha), SqL.of (p.1 _ _ hb)⟩) ?_ fun H p => ?_
  · rintro i v H H' hi ⟨sm, zs, hDc, hz⟩ ⟨T, u1, u2, rfl, nT, rfl, hx, hy⟩
    have hx : us[i]? = some u1 := hx
    have hy : ws[i]? = some u2 := hy
    obtain ⟨p, hp, x, rfl, tx⟩ := hu.2 i u1 hx
    obtain ⟨r, hr, y, rfl, ty⟩ := hw.2 i u2 hy
    have sT : Same H (upd H T (.tup [.ref x, .ref y])) := same_new nT
    have sm' := sm.trans sT
    refine ⟨T, _, rfl, SqT.of upd_same, rfl, _, _, rfl, _, _, rfl, rfl, wp _ _, ?_⟩
    refine he i p r x y _ _ hp hr (sm' _ _ tx) (sm' _ _ ty) sm' fun z H' tz s' => ?_
    have e := s' _ _ (sT _ _ hDc)
    refine ⟨zs, e, small1000 (by rw [hz.1, List.length_take]; omega), same_upd hD (sm'.trans s'), zs ++ [.ref z], upd_same, ?_⟩
    rw [take_snoc (x := f p r) (by rw [List.getElem?_zipWith, hp, hr])]
    exact A2.snoc ((hz.same (sT.trans s')).updl e) ⟨z, rfl, tup_updl tz e⟩
  · obtain ⟨sm, zs, hDc, hz⟩ := p
    rw [List.take_of_length_le (by omega)] at hz
    exact hd H sm ⟨zs, hDc, hz⟩
/-- [e for a in xs] of a list of pairs: new pairs -/
theorem ll_pl {K : PySem.W.Frag} {a D : Addr} {ps : List PI} {us : List V} (hk : ps.length ≤ 900) {vs : List Nat} {σ : L2.St} {H1 : Hp} {Qd : Hp → Prop} {i1 : Nat} {te : TE} (f : PI → PI) (hD : H1 D = none)
    (ha : H1 a = some (.lst us)) (hu : TPs H1 us ps) (wp : ∀ v : V, wipe ((wipe σ vs).set i1 (some v)) vs = wipe σ vs)
    (he : ∀ (i : Nat) (p : PI) (x : Addr) (H : Hp) (Q : VK), ps[i]? = some p → TA H x p → Same H1 H → (∀ z H', TA H' z (f p) → Same H H' → Q (.ref z) H') → te ((wipe σ vs).set i1 (some (.ref x))) H Q)
    (hd : ∀ H, Same H1 H → PL H D (ps.map f) → Qd H) :
    ∃ Wk : Nat → Nat → Hp → Prop, (∃ m0, Wk 0 m0 (upd H1 D (.lst []))) ∧ ∀ (i0 m0 : Nat) (h0 : Hp), Wk i0 m0 h0 →
      ((Itl K a).stop i0 h0 ∧ Qd h0) ∨ ((Itl K a).go i0 h0 ∧ ∃ Nk : Hp → Prop, (∀ h1, Nk h1 → ∃ m1, m1 < m0 ∧ Wk (i0 + 1) m1 h1) ∧ ∀ x h2, (Itl K a).yld i0 h0 x h2 → gName i1 x (wipe σ vs) h2 fun σ2 H2 => wipe σ2 vs = wipe σ vs ∧ tYes σ2 H2 fun b H3 =>
        if b = true then te σ2 H3 fun y H4 => ∃ got, H4 D = some (.lst got) ∧ got.length < sizeLine ∧ Nk (upd H4 D (.lst (got ++ [y]))) else Nk H3) := by
  refine lc_list (xs := us) (fun i H => Same H1 H ∧ ∃ zs, H D = some (.lst zs) ∧ TPs H zs ((ps.map f).take i))
    ⟨same_new hD, [], upd_same, A2.nil⟩ (fun i H _ p => SqL.of (p.1 _ _ ha)) ?_ fun H p => ?_
  · rintro i v H hx ⟨sm, zs, hDc, hz⟩
    obtain ⟨p, hp, x, rfl, tx⟩ := hu.2 i v hx
    have hi := (List.getElem?_eq_some_iff.mp hp).1
    refine ⟨wp _, ?_⟩
    refine he i p x _ _ hp (sm _ _ tx) sm fun z H' tz s' => ?_
    have e := s' _ _ hDc
    refine ⟨zs, e, small1000 (by rw [hz.1, List.length_take, List.length_map]; omega), same_upd hD (sm.trans s'), zs ++ [.ref z], upd_same, ?_⟩
    rw [take_snoc (x := f p) (by rw [List.getElem?_map, hp]; rfl)]
    exact A2.snoc ((hz.same s').updl e) ⟨z, rfl, tup_updl tz e⟩
  · obtain ⟨sm, zs, hDc, hz⟩ := p
    rw [List.take_of_length_le (by rw [List.length_map, hu.1]; exact Nat.le_refl _)] at hz
    exact hd H sm ⟨zs, hDc, hz⟩
section
variable {P : Program} {w : World} {K : PySem.W.Frag} {mg : Str → Option Value} {base : Heap} {C fI pT gT pB gB : Addr} {fdI fdT fdB : FuncData}
abbrev sPd : Stmt := FR.top 44
abbrev NPd : List Str := ["_law_row", "_law_column", "_law_found", "_law_one", "_law_other"]
theorem scPd : FnScope NPd ["_law_row", "_law_column"] (defScope sPd) := ⟨rfl, rfl, rfl, by decide +kernel, rfl, by decide +kernel, by decide +kernel⟩
def prodP (ps cs : List PI) : PI := (ps.zip cs).foldl (fun acc pr => plusP acc (byP pr.1 pr.2)) (0, 1)
def spPd : Sp := fun vs H Q _ => ∃ (a c : Addr) (ps cs : List PI), vs = [.ref a, .ref c] ∧ PL H a ps ∧ PL H c cs ∧ ps.length = cs.length ∧ ps.length ≤ 5 ∧ (∀ p ∈ ps, Pz 60 p) ∧ (∀ p ∈ cs, Pz 60 p) ∧ ∀ x H', TA H' x (prodP ps cs) → Same H H' → Q (.ref x) H'
theorem ok_pd {f : Addr} {fd : FuncData} (F : Fun K "_law_product" "_law_product" sPd f fd) (gA : Glo P w K mg base "_law_plus" 3 N12 (spLP plusP)) (gB : Glo P w K mg base "_law_by" 3 N12 (spLP byP)) (mZ : mg "zip" = none) : FnOk P w K mg base CX0 4 f fd ["_law_row", "_law_column"] spPd := by
  refine F.ok scPd (fun vs H Q E h => ?_) (fun cdv A outer s H vs Q E hr h => ?_)
  · obtain ⟨a, c, ps, cs, rfl, _⟩ := h
    rfl
  · obtain ⟨a, c, ps, cs, rfl, ⟨us, ha, hu⟩, ⟨ws, hc, hw⟩, len, l5, z1, z2, q⟩ := h
    refine ⟨_, (pss_cons (ps_set (i := 2) scPd.nd rfl (Or.inl rfl) (pe_tup (pa_cons pe_int (pa_cons pe_int pa_nil))))
      (pss_cons (ps_for PassesOwn.never rfl (pi_zip (by rfl) mZ (pa_cons (pv 0) (pa_cons (pv 1) pa_nil))) (pg_tup (by rfl) (pgs_cons (pg_name (i := 3) scPd.nd rfl (.inl rfl)) (pgs_cons (pg_name (i := 4) scPd.nd rfl (.inl rfl)) pgs_nil)))
        (pss_one (ps_set (i := 2) scPd.nd rfl (Or.inl rfl) (pe_call gA.G hr (by rfl) gA.m gA.k gA.b .nil pass0 (pa_cons (pv 2) (pa_cons (pe_call gB.G hr (by rfl) gB.m gB.k gB.b .nil pass0 (pa_cons (pv 3) (pa_cons (pv 4) pa_nil))) pa_nil))))))
      (pss_one (ps_ret (pv 2))))), ?_⟩
    refine ⟨small1000 (by show 1 ≤ 1000; decide), fun f0 hf0 => ?_⟩
    have s0 : Same H (upd H f0 (.tup [.int 0, .int 1])) := same_new hf0
    refine ⟨_, rfl, _, rfl, a, c, us, ws, rfl, SqL.of (s0 _ _ ha), SqL.of (s0 _ _ hc), ?_⟩
    refine for_it (walk_zip (xs := us) (ys := ws) (n := ps.length) (by rw [hu.1, hw.1]; omega))
      (fun i σ Hc => Same H Hc ∧ ∃ (y : Addr) (x3 x4 : Option V) (acc : PI), σ = [some (.ref a), some (.ref c), some (.ref y), x3, x4] ∧ TA Hc y acc ∧ acc = ((ps.zip cs).take i).foldl (fun acc pr => plusP acc (byP pr.1 pr.2)) (0, 1) ∧ Pz (121 * i + 1) acc)
      ⟨s0, f0, _, _, (0, 1), rfl, upd_same, rfl, ⟨Lf.one 0, by decide, by decide⟩⟩ (fun i σ Hc _ p => ⟨SqL.of (p.1 _ _ ha), SqL.of (p.1 _ _ hc)⟩) ?_ ?_
    · rintro i v σ Hc H' hi ⟨sm, y, x3, x4, acc, rfl, ty, ea, za⟩ ⟨T0, u1, u2, rfl, nT, rfl, h1, h2⟩
      have h1 : us[i]? = some u1 := h1
      have h2 : ws[i]? = some u2 := h2
      obtain ⟨p, hp, x, rfl, tx⟩ := hu.2 i u1 h1
      obtain ⟨r, hr', z, rfl, tz⟩ := hw.2 i u2 h2
      have pz := z1 p (List.mem_of_getElem? hp)
      have rz := z2 r (List.mem_of_getElem? hr')
      have sT : Same Hc (upd Hc T0 (.tup [.ref x, .ref z])) := same_new nT
      have sm' := sm.trans sT
      have ty' := sT _ _ ty
      have tt : upd Hc T0 (.tup [.ref x, .ref z]) T0 = some (.tup [.ref x, .ref z]) := upd_same
      generalize upd Hc T0 _ = Hn at *
      refine ⟨T0, _, rfl, SqT.of tt, rfl, _, _, rfl, _, _, rfl, rfl, ?_⟩
      refine ⟨_, rfl, _, rfl, _, rfl, x, z, p, r, rfl, sm' _ _ tx, sm' _ _ tz, pz.pp (by decide), rz.pp (by decide), fun b hb => ?_⟩
      have s2 : Same Hn (upd Hn b (.tup [.int (byP p r).1, .int (byP p r).2])) := same_new hb
      have bz := pz.by_ rz
      refine ⟨y, b, acc, byP p r, rfl, s2 _ _ ty', upd_same, za.pp (by omega), bz.pp (by decide), fun b2 hb2 => ?_⟩
      refine ⟨(sm'.trans s2).trans (same_new hb2), b2, _, _, plusP acc (byP p r), rfl, upd_same, ?_, (za.plus bz).up (by omega)⟩
      rw [take_snoc (x := (p, r)) (by rw [List.getElem?_zip_eq_some]; exact ⟨hp, hr'⟩), List.foldl_append, ← ea]
      rfl
    · rintro σ Hc ⟨sm, y, x3, x4, acc, rfl, ty, ea, za⟩
      rw [List.take_of_length_le (by rw [List.length_zip]; omega)] at ea
      subst ea
      exact ⟨_, rfl, q y Hc ty sm⟩
abbrev sWo : Stmt := FR.top 49
abbrev NWo : List Str := ["_law_row", "_law_line", "_law_place", "_law_turn", "_law_one", "_law_other"]
theorem scWo : FnScope NWo ["_law_row", "_law_line", "_law_place"] (defScope sWo) := ⟨rfl, rfl, rfl, by decide +kernel, rfl, by decide +kernel, by decide +kernel⟩
def negQ (p : PI) : PI := (0 - p.1, p.2)
def woP (ps ls : List PI) (q : Nat) : List PI := List.zipWith (fun p r => plusP p (byP (negQ (ps.getD q (0, 1))) r)) ps ls
theorem Pz.negQ {s : Nat} {p : PI} (h : Pz s p) : Pz s (negQ p) := by
  have e : (FR.negQ p).1 = -p.1 := by show 0 - p.1 = _; omega
  refine ⟨?_, ?_, h.bz⟩
  · rw [e]; exact h.lf.neg
  · rw [e, Int.natAbs_neg]; exact h.tz
def spWo : Sp := fun vs H Q _ => ∃ (a c : Addr) (ps ls : List PI) (j s t : Nat), vs = [.ref a, .ref c, .int (j : Nat)] ∧ PL H a ps ∧ PL H c ls ∧ ps.length = ls.length ∧ ps.length ≤ 90 ∧ j < ps.length ∧ (∀ p ∈ ps, Pz s p) ∧ (∀ p ∈ ls, Pz t p) ∧ s + t ≤ 4000 ∧ ∀ x H', PL H' x (woP ps ls j) → Same H H' → H x = none → Q (.ref x) H'
theorem ok_wo {f : Addr} {fd : FuncData} (F : Fun K "_law_without" "_law_without" sWo f fd) (gA : Glo P w K mg base "_law_plus" 3 N12 (spLP plusP)) (gB : Glo P w K mg base "_law_by" 3 N12 (spLP byP)) (mZ : mg "zip" = none) : FnOk P w K mg base CX0 4 f fd ["_law_row", "_law_line", "_law_place"] spWo := by
  refine F.ok scWo (fun vs H Q E h => ?_) (fun cdv A outer s H vs Q E hr h => ?_)
  · obtain ⟨a, c, ps, ls, j, sz, t, rfl, _⟩ := h
    rfl
  · obtain ⟨a, c, ps, ls, j, sz, t, rfl, ⟨us, ha, hu⟩, ⟨ws, hc, hw⟩, len, l90, hj, z1, z2, st, q⟩ := h
    refine ⟨_, (pss_cons (ps_set (i := 3) scWo.nd rfl (Or.inr rfl) (pe_tup (pa_cons (pe_op op_sub pe_int (pe_ix ix_tup (pe_ix ix_list (pv 0) (pv 2) (fun _ _ => rfl)) pe_int (fun _ _ => rfl))) (pa_cons (pe_ix ix_tup (pe_ix ix_list (pv 0) (pv 2) (fun _ _ => rfl)) pe_int (fun _ _ => rfl)) pa_nil))))
      (pss_one (ps_ret (pe_lc (X := (cxOf CX0 P w K mg base NWo "_law_without" (defScope sWo) f cdv A outer s H E).nox) (own := [("_law_one", 4), ("_law_other", 5)]) (g := (gTup K 2 (gCons (gName 4) (gCons (gName 5) gNil)))) (tt := tYes) rfl scWo.nd (pi_zip (by rfl) mZ (pa_cons (pv 0) (pa_cons (pv 1) pa_nil))) (blkOk_by (N := NWo) (sc := defScope sWo) (by decide +kernel)) (fun _ _ _ _ _ => (pg_tupK (K := K) rfl rfl (pgs_cons (pg_name (i := 4) scWo.nd rfl (.inl rfl)) (pgs_cons (pg_name (i := 5) scWo.nd rfl (.inl rfl)) pgs_nil)))) (fun _ _ _ _ _ => pts_nil) (fun _ _ _ _ _ => (pe_call gA.G hr (by rfl) gA.m gA.k gA.b .nil pass0 (pa_cons (pv 4) (pa_cons (pe_call gB.G hr (by rfl) gB.m gB.k gB.b .nil pass0 (pa_cons (pv 3) (pa_cons (pv 5) pa_nil))) pa_nil)))))))), ?_⟩
    obtain ⟨v, hv⟩ : ∃ v, us[j]? = some v := ⟨_, List.getElem?_eq_getElem (by rw [hu.1]; exact hj)⟩
    obtain ⟨p0, hp0, x0, rfl, t0⟩ := hu.2 j v hv
    have t0 : TA H x0 p0 := t0
    have gj : ps.getD j (0, 1) = p0 := by rw [List.getD_eq_getElem?_getD, hp0]; rfl
    have p0z := z1 p0 (List.mem_of_getElem? hp0)
    refine ⟨_, rfl, _, rfl, a, _, _, _, rfl, rfl, SqL.of ha, atI_nat hv, x0, _, _, _, rfl, rfl, SqT.of t0, rfl, _, _, rfl, rfl, _, rfl, _, rfl, a, _, _, _, rfl, rfl, SqL.of ha, atI_nat hv, x0, _, _, _, rfl, rfl, SqT.of t0, rfl, small1000 (by show 1 ≤ 1000; decide), fun tn htn => ?_⟩
    have s1 : Same H (upd H tn (.tup [.int (0 - p0.1), .int p0.2])) := same_new htn
    have tt : TA (upd H tn (.tup [.int (0 - p0.1), .int p0.2])) tn (negQ p0) := upd_same
    generalize upd H tn _ = H1 at *
    refine ⟨_, rfl, _, rfl, a, c, us, ws, rfl, SqL.of (s1 _ _ ha), SqL.of (s1 _ _ hc), fun D hD => ?_⟩
    refine lz_pl (ps := ps) (rs := ls) len (by omega) (fun p r => plusP p (byP (negQ p0) r)) hD (s1 _ _ ha) (hu.same s1) (s1 _ _ hc) (hw.same s1) (fun _ _ => rfl) ?_ ?_
    · intro i p r x y H2 Q2 hp hr' tx ty s2 k
      have pz := z1 p (List.mem_of_getElem? hp)
      have rz := z2 r (List.mem_of_getElem? hr')
      have bz := p0z.negQ.by_ rz
      refine ⟨_, rfl, _, rfl, _, rfl, tn, y, negQ p0, r, rfl, s2 _ _ tt, ty, p0z.negQ.pp (by omega), rz.pp (by omega), fun b hb => ?_⟩
      have s3 : Same H2 (upd H2 b (.tup [.int (byP (negQ p0) r).1, .int (byP (negQ p0) r).2])) := same_new hb
      refine ⟨x, b, p, byP (negQ p0) r, rfl, s3 _ _ tx, upd_same, pz.pp (by omega), bz.pp (by omega), fun b2 hb2 => ?_⟩
      exact k b2 _ upd_same (s3.trans (same_new hb2))
    · intro H2 s2 pl
      refine q D H2 ?_ (s1.trans s2) (Same.free s1 hD)
      unfold woP
      rw [gj]
      exact pl
end
end FR
set_option Elab.async false
set_option linter.all false
set_option maxRecDepth 100000
set_option maxHeartbeats 4000000
namespace FR
open PySem PySem.Spec PyProof.Rows L2 LD RF
/-- a list of lists of pairs -/
def LL (H : Hp) (a : Addr) (pss : List (List PI)) : Prop := ∃ vs, H a = some (.lst vs) ∧ AG (fun v ps => ∃ q, v = .ref q ∧ PL H q ps) vs pss
theorem LL.same {H H' : Hp} {a : Addr} {pss : List (List PI)} (h : LL H a pss) (s : Same H H') : LL H' a pss := by
  obtain ⟨vs, e, z⟩ := h
  exact ⟨vs, s _ _ e, z.imp fun _ _ ⟨q, e, t⟩ => ⟨q, e, t.same s⟩⟩
theorem PL.ne {d : Addr} {H : Hp} {a : Addr} {ps : List PI} (h : PL H a ps) (hd : DiceAt H d) : a ≠ d := fun z => by
  obtain ⟨us, e, f⟩ := h
  obtain ⟨x, y, w, hd⟩ := hd
  rw [z, hd] at e
  cases e
  obtain ⟨p, _, q, e, _⟩ := f.2 0 _ rfl
  cases e
theorem LL.ne {d : Addr} {H : Hp} {a : Addr} {pss : List (List PI)} (h : LL H a pss) (hd : DiceAt H d) : a ≠ d := fun z => by
  obtain ⟨us, e, f⟩ := h
  obtain ⟨x, y, w, hd⟩ := hd
  rw [z, hd] at e
  cases e
  obtain ⟨p, _, q, e, _⟩ := f.2 0 _ rfl
  cases e
theorem LL.rl {d : Addr} {H H' : Hp} {a : Addr} {pss : List (List PI)} (h : LL H a pss) (hd : DiceAt H d) (r : Rl d H H') : LL H' a pss := by
  have n := h.ne hd
  obtain ⟨us, e, z⟩ := h
  exact ⟨us, r.2 _ _ n e, z.imp fun _ _ ⟨q, e, t⟩ => ⟨q, e, t.rl (t.ne hd) hd r⟩⟩
/-- a tuple of tuples of fractions, of any size -/
def TT (C : Addr) (H : Hp) (a : Addr) (pss : List (List PI)) : Prop := ∃ vs, H a = some (.tup vs) ∧ AG (fun v ps => ∃ q, v = .ref q ∧ TV C H q ps) vs pss
theorem TT.same {C : Addr} {H H' : Hp} {a : Addr} {pss : List (List PI)} (h : TT C H a pss) (s : Same H H') : TT C H' a pss := by
  obtain ⟨vs, e, z⟩ := h
  exact ⟨vs, s _ _ e, z.imp fun _ _ ⟨q, e, t⟩ => ⟨q, e, t.same s⟩⟩
theorem TV.rl {C d : Addr} {H H' : Hp} {a : Addr} {ps : List PI} (h : TV C H a ps) (hd : DiceAt H d) (r : Rl d H H') : TV C H' a ps := by
  obtain ⟨xs, e, z⟩ := h
  have n : a ≠ d := fun w => by
    obtain ⟨_, _, _, hd⟩ := hd
    rw [w, hd] at e; cases e
  exact ⟨xs, r.2 _ _ n e, z.rl hd r⟩
section
variable {P : Program} {w : World} {K : PySem.W.Frag} {mg : Str → Option Value} {base : Heap} {C fI pT gT pB gB : Addr} {fdI fdT fdB : FuncData}
abbrev sMx : Stmt := FR.top 45
abbrev NMx : List Str := ["_law_lines_here", "_law_factors", "_law_place", "_law_row"]
theorem scMx : FnScope NMx ["_law_lines_here", "_law_factors"] (defScope sMx) := ⟨rfl, rfl, rfl, by decide +kernel, rfl, by decide +kernel, by decide +kernel⟩
abbrev lcMx : Scope := lcSc (retE ((defBody sMx).getD 0 (.Pass ⟨0, 0, 0, 0⟩)))
def mixL (pss : List (List PI)) (cs : List PI) (n : Nat) : List PI := (List.range n).map fun j => prodP (pss.map fun ps => ps.getD j (0, 1)) cs
def spMx : Sp := fun vs H Q _ => ∃ (a c : Addr) (pss : List (List PI)) (cs : List PI) (n : Nat), vs = [.ref a, .ref c] ∧ LL H a pss ∧ PL H c cs ∧ pss.length = cs.length ∧ 0 < pss.length ∧ pss.length ≤ 5 ∧ n ≤ 90 ∧ (∀ ps ∈ pss, ps.length = n) ∧ (∀ ps ∈ pss, ∀ p ∈ ps, Pz 60 p) ∧ (∀ p ∈ cs, Pz 60 p) ∧ ∀ x H', PL H' x (mixL pss cs n) → Same H H' → Q (.ref x) H'
theorem ok_mx {f : Addr} {fd : FuncData} (F : Fun K "_law_mix" "_law_mix" sMx f fd) (gP : Glo P w K mg base "_law_product" 4 ["_law_row", "_law_column"] spPd) (mR : mg "range" = none) (mL : mg "len" = none) : FnOk P w K mg base CX0 5 f fd ["_law_lines_here", "_law_factors"] spMx := by
  refine F.ok scMx (fun vs H Q E h => ?_) (fun cdv A outer s H vs Q E hr h => ?_)
  · obtain ⟨a, c, pss, cs, n, rfl, _⟩ := h
    rfl
  · obtain ⟨a, c, pss, cs, n, rfl, ⟨vs, ha, hv⟩, pc, len, pos, l5, n90, ln, z1, z2, q⟩ := h
    refine ⟨_, (pss_one (ps_ret (pe_lc (X := (cxOf CX0 P w K mg base NMx "_law_mix" (defScope sMx) f cdv A outer s H E).nox) (own := [("_law_place", 2)]) (g := (gName 2)) (tt := tYes) rfl scMx.nd (pi_range1 (by rfl) mR (pa_cons (pe_callB call_len_seq (by rfl) mL PySem.boot_len (pa_cons (pe_ix ix_list (pv 0) pe_int (fun _ _ => rfl)) pa_nil)) pa_nil)) (blkOk_by (N := NMx) (sc := defScope sMx) (by decide +kernel)) (fun _ _ _ _ _ => (pg_name (i := 2) scMx.nd rfl (.inr rfl))) (fun _ _ _ _ _ => pts_nil) (fun s0 H0 C0 cl0 fp0 => (pe_call gP.G hr (by rfl) gP.m gP.k gP.b .nil pass0 (pa_cons (pe_lc (X := (((cxOf CX0 P w K mg base NMx "_law_mix" (defScope sMx) f cdv A outer s H E).nox).blk s0 H0 lcMx (compEnvC lcMx cl0 C0 ((cxOf CX0 P w K mg base NMx "_law_mix" (defScope sMx) f cdv A outer s H E).nox).env) fp0)) (own := [("_law_row", 3)]) (g := (gName 3)) (tt := tYes) rfl scMx.nd (pi_listK (K := K) rfl (pv 0)) (blkOk_by (N := NMx) (sc := relS lcMx (defScope sMx)) (by decide +kernel)) (fun _ _ _ _ _ => (pg_name (i := 3) scMx.nd rfl (.inl rfl))) (fun _ _ _ _ _ => pts_nil) (fun _ _ _ _ _ => (pe_ix (ix_listK (K := K) rfl) (pv 3) (pv 2) (fun _ _ => rfl)))) (pa_cons (pv 1) pa_nil))))))), ?_⟩
    obtain ⟨q0, us0, hq0, hx0, l0⟩ : ∃ q0 us0, vs[0]? = some (.ref q0) ∧ H q0 = some (.lst us0) ∧ us0.length = n := by
      obtain ⟨v0, h0⟩ : ∃ v0, vs[0]? = some v0 := ⟨_, List.getElem?_eq_getElem (by rw [hv.1]; exact pos)⟩
      obtain ⟨p0, hp0, q0, rfl, us0, e0, f0⟩ := hv.2 0 v0 h0
      exact ⟨q0, us0, h0, e0, by rw [f0.1]; exact ln p0 (List.mem_of_getElem? hp0)⟩
    refine ⟨_, rfl, a, _, 0, _, rfl, rfl, SqL.of ha, atI_nat (j := 0) hq0, q0, us0, rfl, .inl (SqL.of hx0), (us0.length : Int), rfl, by omega, by omega, fun D hD => ?_⟩
    have nat : (us0.length : Int).toNat = n := by omega
    rw [nat]
    refine lc_range (lo := 0) (n := n) (fun i Hc => Same H Hc ∧ ∃ zs, Hc D = some (.lst zs) ∧ TPs Hc zs ((mixL pss cs n).take i)) ⟨same_new hD, [], upd_same, A2.nil⟩ ?_ ?_
    · rintro i Hc hi ⟨sm, zs, hDc, hz⟩
      have e : (0 : Int) + (i : Nat) = (i : Nat) := by omega
      rw [e]
      have ha1 := sm _ _ ha
      refine ⟨rfl, _, rfl, a, rfl, ⟨_, SqL.of ha1⟩, fun D2 hD2 => ?_⟩
      refine lc_list (xs := vs) (fun j Hx => Same Hc Hx ∧ ∃ ws, Hx D2 = some (.lst ws) ∧ TPs Hx ws ((pss.map fun ps => ps.getD i (0, 1)).take j)) ⟨same_new hD2, [], upd_same, A2.nil⟩ (fun j Hx _ p => SqL.of (p.1 _ _ ha1)) ?_ ?_
      · rintro j v Hx hvj ⟨s2, ws, hD3, hw⟩
        obtain ⟨ps, hps, q1, rfl, pl⟩ := hv.2 j v hvj
        have mp := List.mem_of_getElem? hps
        obtain ⟨xs, hx, hf⟩ := pl.same (sm.trans s2)
        have lx : i < xs.length := by rw [hf.1, ln ps mp]; exact hi
        have gx : xs[i]? = some xs[i] := List.getElem?_eq_getElem lx
        obtain ⟨p, hp, x, ex, tx⟩ := hf.2 i _ gx
        have jl := (List.getElem?_eq_some_iff.mp hps).1
        refine ⟨rfl, _, rfl, _, rfl, q1, _, _, _, rfl, rfl, SqL.of hx, atI_nat gx, ws, hD3, small1000 (by rw [hw.1, List.length_take]; omega), same_upd hD2 s2, ws ++ [xs[i]], upd_same, ?_⟩
        rw [take_snoc (x := p) (by rw [List.getElem?_map, hps]; show some (ps.getD i (0, 1)) = _; rw [List.getD_eq_getElem?_getD, hp]; rfl)]
        exact A2.snoc (hw.updl hD3) ⟨x, ex, tup_updl tx hD3⟩
      · rintro Hx ⟨s2, ws, hD3, hw⟩
        rw [List.take_of_length_le (by rw [List.length_map, hv.1]; exact Nat.le_refl _)] at hw
        have pl : PL Hx D2 (pss.map fun ps => ps.getD i (0, 1)) := ⟨ws, hD3, hw⟩
        refine ⟨_, rfl, D2, c, _, cs, rfl, pl, pc.same (sm.trans s2), by rw [List.length_map]; exact len, by rw [List.length_map]; exact l5, fun p hp => ?_, z2, fun x H2 tx s3 => ?_⟩
        · obtain ⟨ps, hps, rfl⟩ := List.mem_map.mp hp
          have g : ps[i]? = some (ps.getD i (0, 1)) := by
            have : i < ps.length := by rw [ln ps hps]; exact hi
            rw [List.getD_eq_getElem?_getD, List.getElem?_eq_getElem this]; rfl
          exact z1 ps hps _ (List.mem_of_getElem? g)
        · have s23 := s2.trans s3
          have e := s23 _ _ hDc
          refine ⟨zs, e, small1000 (by rw [hz.1, List.length_take]; omega), same_upd hD (sm.trans s23), zs ++ [.ref x], upd_same, ?_⟩
          rw [take_snoc (x := prodP (pss.map fun ps => ps.getD i (0, 1)) cs) (by unfold mixL; rw [List.getElem?_map, List.getElem?_range hi]; rfl)]
          exact A2.snoc ((hz.same s23).updl e) ⟨x, rfl, tup_updl tx e⟩
    · rintro Hc ⟨sm, zs, hDc, hz⟩
      rw [List.take_of_length_le (by unfold mixL; rw [List.length_map, List.length_range]; exact Nat.le_refl _)] at hz
      exact q D Hc ⟨zs, hDc, hz⟩ sm
abbrev sSl : Stmt := FR.top 47
abbrev NSl : List Str := ["_law_dice_here", "_law_lines_here", "_law_row"]
theorem scSl : FnScope NSl ["_law_dice_here", "_law_lines_here"] (defScope sSl) := ⟨rfl, rfl, rfl, by decide +kernel, rfl, by decide +kernel, by decide +kernel⟩
def spSl (C : Addr) : Sp := fun vs H Q _ => ∃ (d a : Addr) (pss : List (List PI)), vs = [.ref d, .ref a] ∧ DiceAt H d ∧ LL H a pss ∧ pss.length ≤ 90 ∧ (∀ ps ∈ pss, ps.length ≤ 90 ∧ ∀ p ∈ ps, Pz 4000 p) ∧ ∀ t H', TT C H' t pss → Rl d H H' → Q (.ref t) H'
theorem ok_sl {f : Addr} {fd : FuncData} (F : Fun K "_law_shown_lines" "_law_shown_lines" sSl f fd) (gS : Glo P w K mg base "_law_shown_row" 5 ["_law_dice_here", "_law_pairs_here"] (spSr C)) (mT : mg "tuple" = none) : FnOk P w K mg base CX0 6 f fd ["_law_dice_here", "_law_lines_here"] (spSl C) := by
  refine F.ok scSl (fun vs H Q E h => ?_) (fun cdv A outer s H vs Q E hr h => ?_)
  · obtain ⟨d, a, pss, rfl, _⟩ := h
    rfl
  · obtain ⟨d, a, pss, rfl, hd, ll, l90, hz, q⟩ := h
    have ad := ll.ne hd
    obtain ⟨vs, ha, hv⟩ := ll
    refine ⟨_, (pss_one (ps_ret (pe_callTy call_tuple_of (by rfl) mT (by decide +kernel) (pa_cons (pe_lc (X := (cxOf CX0 P w K mg base NSl "_law_shown_lines" (defScope sSl) f cdv A outer s H E).nox) (own := [("_law_row", 2)]) (g := (gName 2)) (tt := tYes) rfl scSl.nd (pi_list (pv 1)) (blkOk_by (N := NSl) (sc := defScope sSl) (by decide +kernel)) (fun _ _ _ _ _ => (pg_name (i := 2) scSl.nd rfl (.inl rfl))) (fun _ _ _ _ _ => pts_nil) (fun _ _ _ _ _ => (pe_call gS.G hr (by rfl) gS.m gS.k gS.b .nil pass0 (pa_cons (pv 0) (pa_cons (pv 2) pa_nil))))) pa_nil)))), ?_⟩
    refine ⟨_, rfl, a, rfl, ⟨_, SqL.of ha⟩, fun D hD => ?_⟩
    have Dd := dice_ne hd hD
    refine lc_list (xs := vs) (fun i Hc => Rl d H Hc ∧ ∃ ws, Hc D = some (.lst ws) ∧ AG (fun v ps => ∃ q, v = .ref q ∧ TV C Hc q ps) ws (pss.take i)) ⟨(Rl.refl hd).grow hD Dd, [], upd_same, AG.nil⟩ (fun i Hc _ p => SqL.of (p.1.2 _ _ ad ha)) ?_ ?_
    · rintro i v Hc hvi ⟨r, ws, hDc, hw⟩
      obtain ⟨ps, hp, x, rfl, px⟩ := hv.2 i v hvi
      have mp := List.mem_of_getElem? hp
      have il := (List.getElem?_eq_some_iff.mp hp).1
      have xd := px.ne hd
      have px2 := px.rl xd hd r
      refine ⟨rfl, _, rfl, _, rfl, d, x, ps, rfl, r.1, px2, xd, (hz ps mp).1, (hz ps mp).2, fun t H2 tv r2 nt => ?_⟩
      have e := r2.2 _ _ Dd hDc
      have up : ∀ q ps, TV C H2 q ps → TV C (upd H2 D (.lst (ws ++ [.ref t]))) q ps := fun q ps ⟨xs, h1, h2⟩ => ⟨xs, tup_updl h1 e, h2.updl e⟩
      refine ⟨ws, e, small1000 (by rw [hw.1, List.length_take]; omega), (r.trans r2).grow hD Dd, ws ++ [.ref t], upd_same, ?_⟩
      rw [take_snoc hp]
      exact AG.snoc (hw.imp fun _ _ ⟨q, e', tq⟩ => ⟨q, e', up _ _ (tq.rl r.1 r2)⟩) ⟨t, rfl, up _ _ tv⟩
    · rintro Hc ⟨r, ws, hDc, hw⟩
      rw [List.take_of_length_le (by rw [hv.1]; exact Nat.le_refl _)] at hw
      refine ⟨D, _, rfl, .inl ⟨SqL.of hDc, fun t ht => ?_⟩⟩
      exact q t _ ⟨ws, upd_same, hw.imp fun _ _ ⟨q, e, tq⟩ => ⟨q, e, tq.same (same_new ht)⟩⟩ (r.new ht)
abbrev sAt : Stmt := FR.top 51
abbrev NAt : List Str := ["_law_numbers", "_law_one"]
theorem scAt : FnScope NAt ["_law_numbers"] (defScope sAt) := ⟨rfl, rfl, rfl, by decide +kernel, rfl, by decide +kernel, by decide +kernel⟩
theorem call_isiK {X : Cx} {K : PySem.W.Frag} (hK : X.K = K) : CallR X (.builtin "isinstance") (rIsi K) := by
  subst hK
  exact call_isi
def spAt (C : Addr) : Sp := fun vs H Q _ => ∃ (a : Addr) (ps : List PI), vs = [.ref a] ∧ TFr C H a ps ∧ ∀ H', Same H H' → Q (.bl true) H'
theorem ok_at {f : Addr} {fd : FuncData} (F : Fun K "_law_are_told" "_law_are_told" sAt f fd) (k : FrK P w K mg base C fI pT gT pB gB fdI fdT fdB) (mI : mg "isinstance" = none) : FnOk P w K mg base CX0 1 f fd ["_law_numbers"] (spAt C) := by
  refine F.ok scAt (fun vs H Q E h => ?_) (fun cdv A outer s H vs Q E hr h => ?_)
  · obtain ⟨a, ps, rfl, _⟩ := h
    rfl
  · obtain ⟨a, ps, rfl, ⟨xs, hx, hf⟩, q⟩ := h
    refine ⟨_, (pss_one (ps_ret (pe_cmpR (op_eqD hr.units) (pe_lc (X := (cxOf CX0 P w K mg base NAt "_law_are_told" (defScope sAt) f cdv A outer s H E).nox) (own := [("_law_one", 1)]) (g := (gName 1)) rfl scAt.nd (pi_tup (pv 0)) (blkOk_by (N := NAt) (sc := defScope sAt) (by decide +kernel)) (fun _ _ _ _ _ => (pg_name (i := 1) scAt.nd rfl (.inl rfl))) (fun _ _ _ _ _ => (pts_one (pt_not (pt_val (pe_callB (call_isiK (K := K) rfl) (by rfl) mI PyProof.Rows.boot_isinstance (pa_cons (pv 1) (pa_cons (pe_glob (v := .ref C) (by rfl) k.T.mC rfl) pa_nil))))))) (fun _ _ _ _ _ => pe_int)) (pe_lst pa_nil) (nomark _)))), ?_⟩
    refine ⟨_, rfl, a, rfl, ⟨_, SqT.of hx⟩, fun D hD => ?_⟩
    refine lc_tup (xs := xs) (fun i Hc => Same H Hc ∧ Hc D = some (.lst [])) ⟨same_new hD, upd_same⟩ (fun i Hc _ p => SqT.of (p.1 _ _ hx)) ?_ ?_
    · rintro i v Hc hvi ⟨sm, hDc⟩
      obtain ⟨p, hp, x, rfl, dx, fx⟩ := hf.2 i v hvi
      have fx := sm _ _ fx
      refine ⟨rfl, _, rfl, _, _, _, _, true, rfl, .own _, .base (.ins fx k.T.cl k.ha k.hn k.tk k.hm), kit_self K C, _, rfl, ?_⟩
      exact ⟨sm, hDc⟩
    · rintro Hc ⟨sm, hDc⟩
      refine ⟨Nat.zero_le _, fun l hl => ?_⟩
      refine ⟨.list [], .list [], Dp.lst (SqL.of (same_new hl _ _ hDc)) .nil, Dp.lst (SqL.of upd_same) .nil, rfl, rfl, ?_⟩
      have e : PyData.eqv (.list []) (.list []) = true := by decide +kernel
      rw [e]
      exact q _ (sm.trans (same_new hl))
end
end FR
set_option Elab.async false
set_option linter.all false
set_option maxRecDepth 100000
set_option maxHeartbeats 4000000
/-! pairs as rational numbers -/
namespace FR
open RF
def val (p : PI) : Rat := (p.1 : Rat) / p.2
def valV (ps : List PI) : Vec := fun j => val (ps.getD j (0, 1))
theorem cast_ne {b : Int} (h : b ≠ 0) : (b : Rat) ≠ 0 := fun z => h (Rat.intCast_inj.mp z)
theorem val_n {t b : Int} (h : b ≠ 0) : val (nT t b, nB t b) = (t : Rat) / b := by
  have e := n_back (t := t) h
  have e2 : (nT t b : Rat) * b = t * (nB t b : Rat) := by rw [← Rat.intCast_mul, e, Rat.intCast_mul]
  have h1 := cast_ne h
  have h2 : (nB t b : Rat) ≠ 0 := cast_ne (by have := nB_pos (t := t) h; omega)
  show (nT t b : Rat) / (nB t b : Rat) = _
  grind
theorem val_plus {p r : PI} (h : Lf p.1 p.2) (g : Lf r.1 r.2) : val (plusP p r) = val p + val r := by
  have h1 := cast_ne h.ne
  have h2 := cast_ne g.ne
  show val (nT _ _, nB _ _) = _
  rw [val_n (Int.mul_ne_zero h.ne g.ne), Rat.intCast_add, Rat.intCast_mul, Rat.intCast_mul, Rat.intCast_mul]
  unfold val
  grind
theorem val_by {p r : PI} (h : Lf p.1 p.2) (g : Lf r.1 r.2) : val (byP p r) = val p * val r := by
  have h1 := cast_ne h.ne
  have h2 := cast_ne g.ne
  show val (nT _ _, nB _ _) = _
  rw [val_n (Int.mul_ne_zero h.ne g.ne), Rat.intCast_mul, Rat.intCast_mul]
  unfold val
  grind
theorem val_neg {p : PI} : val (negQ p) = - val p := by
  show ((0 - p.1 : Int) : Rat) / p.2 = _
  rw [Rat.intCast_sub]
  unfold val
  grind
theorem val_zero {p : PI} (h : Lf p.1 p.2) : val p = 0 ↔ p.1 = 0 := by
  have h1 := cast_ne h.ne
  unfold val
  constructor
  · intro e
    have : (p.1 : Rat) = 0 := by grind
    exact Rat.intCast_inj.mp this
  · intro e
    rw [e]; grind
theorem val_inv {p : PI} (h : p.1 ≠ 0) : val (invP p) = 1 / val p := by
  have h1 := cast_ne h
  unfold invP
  split
  · unfold val; grind
  · show ((0 - p.2 : Int) : Rat) / ((0 - p.1 : Int) : Rat) = _
    rw [Rat.intCast_sub, Rat.intCast_sub]
    unfold val; grind
theorem Pz.inv {s : Nat} {p : PI} (h : Pz s p) (n : p.1 ≠ 0) : Pz s (invP p) := by
  have g : Nat.gcd p.2.natAbs p.1.natAbs = 1 := by rw [Nat.gcd_comm]; exact h.lf.2
  have b := h.lf.1
  unfold invP
  split
  · next z => exact ⟨⟨z, g⟩, h.bz, h.tz⟩
  · next z =>
    have e1 : (0 - p.2).natAbs = p.2.natAbs := by omega
    have e2 : (0 - p.1).natAbs = p.1.natAbs := by omega
    refine ⟨⟨by show 0 < 0 - p.1; omega, ?_⟩, ?_, ?_⟩
    · show Nat.gcd (0 - p.2).natAbs (0 - p.1).natAbs = 1
      rw [e1, e2]; exact g
    · show (0 - p.2).natAbs < _
      rw [e1]; exact h.bz
    · show (0 - p.1).natAbs < _
      rw [e2]; exact h.tz
theorem val_inj {p r : PI} (h : Lf p.1 p.2) (g : Lf r.1 r.2) (e : val p = val r) : p = r := by
  have h1 := cast_ne h.ne
  have h2 := cast_ne g.ne
  have e2 : ((p.1 * r.2 : Int) : Rat) = ((r.1 * p.2 : Int) : Rat) := by
    rw [Rat.intCast_mul, Rat.intCast_mul]
    unfold val at e
    grind
  obtain ⟨a, b⟩ := n_cross h.ne g.ne (Rat.intCast_inj.mp e2)
  rw [h.nT, g.nT] at a
  rw [h.nB, g.nB] at b
  exact Prod.ext a b
theorem valV_get {ps : List PI} {j : Nat} {p : PI} (h : ps[j]? = some p) : valV ps j = val p := by
  unfold valV
  rw [List.getD_eq_getElem?_getD, h]; rfl
theorem valV_out {ps : List PI} {j : Nat} (h : ps.length ≤ j) : valV ps j = 0 := by
  unfold valV
  rw [List.getD_eq_getElem?_getD, List.getElem?_eq_none h]
  show ((0 : Int) : Rat) / ((1 : Int) : Rat) = 0
  grind
theorem getD_mem {ps : List PI} {q : Nat} (h : q < ps.length) : ps.getD q (0, 1) ∈ ps := by
  rw [List.getD_eq_getElem?_getD, List.getElem?_eq_getElem h]; exact List.getElem_mem _
theorem valV_wo {ps ls : List PI} {q s t : Nat} (hl : ps.length = ls.length) (hq : q < ps.length) (h1 : ∀ p ∈ ps, Pz s p) (h2 : ∀ p ∈ ls, Pz t p) (j : Nat) : valV (woP ps ls q) j = valV ps j - valV ps q * valV ls j := by
  have lq := h1 _ (getD_mem hq)
  by_cases hj : j < ps.length
  · obtain ⟨p, hp⟩ : ∃ p, ps[j]? = some p := ⟨_, List.getElem?_eq_getElem hj⟩
    obtain ⟨r, hr⟩ : ∃ r, ls[j]? = some r := ⟨_, List.getElem?_eq_getElem (by omega)⟩
    have zp := h1 p (List.mem_of_getElem? hp)
    have zr := h2 r (List.mem_of_getElem? hr)
    rw [valV_get (p := plusP p (byP (negQ (ps.getD q (0, 1))) r)) (by unfold woP; rw [List.getElem?_zipWith, hp, hr]), valV_get hp, valV_get hr, val_plus zp.lf (lq.negQ.by_ zr).lf, val_by lq.negQ.lf zr.lf, val_neg]
    show _ = _ - val (ps.getD q (0, 1)) * _
    grind
  · rw [valV_out (by unfold woP; rw [List.length_zipWith]; omega), valV_out (by omega), valV_out (ps := ls) (by omega)]; grind
/-- the two cleared forms are alike, row by row -/
def lsP (a : List PI) (c : Nat) : List PI := a.map (byP (invP (a.getD c (0, 1))))
theorem valV_ls {a : List PI} {c s : Nat} (hc : c < a.length) (h : ∀ p ∈ a, Pz s p) (n : (a.getD c (0, 1)).1 ≠ 0) (j : Nat) : valV (lsP a c) j = valV a j / valV a c := by
  have z := h _ (getD_mem hc)
  have vc : valV a c = val (a.getD c (0, 1)) := rfl
  have v0 : val (a.getD c (0, 1)) ≠ 0 := fun e => n ((val_zero z.lf).mp e)
  by_cases hj : j < a.length
  · obtain ⟨p, hp⟩ : ∃ p, a[j]? = some p := ⟨_, List.getElem?_eq_getElem hj⟩
    have zp := h p (List.mem_of_getElem? hp)
    rw [valV_get (p := byP (invP (a.getD c (0, 1))) p) (by unfold lsP; rw [List.getElem?_map, hp]; rfl), valV_get hp, vc, val_by (z.inv n).lf zp.lf, val_inv n]
    grind
  · rw [valV_out (by unfold lsP; rw [List.length_map]; omega), valV_out (by omega)]; grind
def clk : Nat → Nat
  | 0 => 19
  | k + 1 => 4 * clk k + 1
/-- one state of the law's own clearing -/
structure CS (n c : Nat) (left found : List (List PI)) (pl : List Nat) (L : List Vec) : Prop where
  ln : found.length = pl.length
  lz : ∀ ps ∈ left, ps.length = n ∧ ∀ p ∈ ps, Pz (clk c) p
  fz : ∀ ps ∈ found, ps.length = n ∧ ∀ p ∈ ps, Pz (clk c) p
  pf : PForm c found.length (fun i => valV (found.getD i [])) (fun i => pl.getD i 0) (left.map valV) L
theorem pf_cg {c k : Nat} {R R' : Nat → Vec} {P P' : Nat → Nat} {Lf L : List Vec} (F : PForm c k R P Lf L) (hR : ∀ i, i < k → ∀ j, R' i j = R i j) (hP : ∀ i, i < k → P' i = P i) : PForm c k R' P' Lf L := by
  refine ⟨fun i hi => by rw [hP i hi]; exact F.pc i hi, fun i m h g => by rw [hP i (by omega), hP m g]; exact F.up i m h g, fun i m h g => by rw [hP m g, hR i h]; exact F.piv i m h g, fun i j h g => by rw [hR i h]; rw [hP i h] at g; exact F.lead i j h g, fun i hi => (F.spn i hi).of_eq (hR i hi), F.lz, F.ls, fun x hx => (F.phi x hx).of_eq fun j => ?_⟩
  rw [S_congr fun i hi => by rw [hP i hi, hR i hi]]
theorem CS.skip {n c : Nat} {left found : List (List PI)} {pl : List Nat} {L : List Vec} (X : CS n c left found pl L) (h : ∀ ps ∈ left, (ps.getD c (0, 1)).1 = 0) (hc : c < n) : CS n (c + 1) left found pl L := by
  have u : clk c ≤ clk (c + 1) := by simp only [clk]; omega
  refine ⟨X.ln, fun ps m => ⟨(X.lz ps m).1, fun p hp => ((X.lz ps m).2 p hp).up u⟩, fun ps m => ⟨(X.fz ps m).1, fun p hp => ((X.fz ps m).2 p hp).up u⟩, X.pf.skip fun w hw => ?_⟩
  obtain ⟨ps, m, rfl⟩ := List.mem_map.mp hw
  show val (ps.getD c (0, 1)) = 0
  exact (val_zero ((X.lz ps m).2 _ (getD_mem (by rw [(X.lz ps m).1]; exact hc))).lf).mpr (h ps m)
theorem CS.step {n c k0 : Nat} {left found : List (List PI)} {pl : List Nat} {L : List Vec} (X : CS n c left found pl L) {a : List PI} (ha : left[k0]? = some a) (n0 : (a.getD c (0, 1)).1 ≠ 0) (hc : c < n) :
    CS n (c + 1) ((left.eraseIdx k0).map fun ps => woP ps (lsP a c) c) ((found.map fun ps => woP ps (lsP a c) c) ++ [lsP a c]) (pl ++ [c]) L := by
  have ma := List.mem_of_getElem? ha
  obtain ⟨al, az⟩ := X.lz a ma
  have ca : c < a.length := by rw [al]; exact hc
  have zc := az _ (getD_mem ca)
  have lsl : (lsP a c).length = n := by unfold lsP; rw [List.length_map, al]
  have lsz : ∀ p ∈ lsP a c, Pz (2 * clk c) p := fun p hp => by
    obtain ⟨r, hr, rfl⟩ := List.mem_map.mp hp
    exact ((zc.inv n0).by_ (az r hr)).up (by omega)
  have va0 : valV a c ≠ 0 := fun e => n0 ((val_zero zc.lf).mp e)
  have woz : ∀ ps, (ps.length = n ∧ ∀ p ∈ ps, Pz (clk c) p) → (woP ps (lsP a c) c).length = n ∧ ∀ p ∈ woP ps (lsP a c) c, Pz (clk (c + 1)) p := fun ps ⟨h1, h2⟩ => by
    refine ⟨by unfold woP; rw [List.length_zipWith, h1, lsl]; omega, fun p hp => ?_⟩
    obtain ⟨i, hi⟩ := List.mem_iff_getElem?.mp hp
    unfold woP at hi
    rw [List.getElem?_zipWith] at hi
    cases e1 : ps[i]? with
    | none => rw [e1] at hi; cases hi
    | some x =>
      cases e2 : (lsP a c)[i]? with
      | none => rw [e1, e2] at hi; cases hi
      | some y =>
        rw [e1, e2] at hi
        have := Option.some.inj hi
        rw [← this]
        have q := (h2 _ (getD_mem (by rw [h1]; exact hc) : ps.getD c (0, 1) ∈ ps)).negQ.by_ (lsz y (List.mem_of_getElem? e2))
        exact ((h2 x (List.mem_of_getElem? e1)).plus q).up (by simp only [clk]; omega)
  have vw : ∀ ps, (ps.length = n ∧ ∀ p ∈ ps, Pz (clk c) p) → ∀ j, valV (woP ps (lsP a c) c) j = wo (valV a) c (valV ps) j := fun ps ⟨h1, h2⟩ j => by
    rw [valV_wo (by rw [h1, lsl]) (by rw [h1]; exact hc) h2 lsz, valV_ls ca az n0]
    rfl
  refine ⟨by rw [List.length_append, List.length_append, List.length_map, X.ln]; rfl, fun ps hp => ?_, fun ps hp => ?_, ?_⟩
  · obtain ⟨r, hr, rfl⟩ := List.mem_map.mp hp
    exact woz r (X.lz r (List.mem_of_mem_eraseIdx hr))
  · rcases List.mem_append.mp hp with z | z
    · obtain ⟨r, hr, rfl⟩ := List.mem_map.mp z
      exact woz r (X.fz r hr)
    · rw [List.mem_singleton.mp z]
      exact ⟨lsl, fun p hp => (lsz p hp).up (by simp only [clk]; omega)⟩
  · have fl : ((found.map fun ps => woP ps (lsP a c) c) ++ [lsP a c]).length = found.length + 1 := by rw [List.length_append, List.length_map]; rfl
    rw [fl]
    have st := X.pf.step (a := valV a) (Lf' := ((left.eraseIdx k0).map fun ps => woP ps (lsP a c) c).map valV) (List.mem_map.mpr ⟨a, ma, rfl⟩) va0 (fun y hy => by
        obtain ⟨r, hr, rfl⟩ := List.mem_map.mp hy
        obtain ⟨ps, hps, rfl⟩ := List.mem_map.mp hr
        have m := List.mem_of_mem_eraseIdx hps
        exact ⟨valV ps, List.mem_map.mpr ⟨ps, m, rfl⟩, funext (vw ps (X.lz ps m))⟩) (fun w hw => by
        obtain ⟨ps, m, rfl⟩ := List.mem_map.mp hw
        obtain ⟨i, hi⟩ := List.mem_iff_getElem?.mp m
        by_cases e : i = k0
        · subst e
          rw [ha] at hi
          cases hi
          exact .inr rfl
        · refine .inl (List.mem_map.mpr ⟨woP ps (lsP a c) c, List.mem_map.mpr ⟨ps, List.mem_eraseIdx_iff_getElem?.mpr ⟨i, e, hi⟩, rfl⟩, funext (vw ps (X.lz ps m))⟩))
    refine pf_cg st (fun i hi j => ?_) fun i hi => ?_
    · show valV (((found.map fun ps => woP ps (lsP a c) c) ++ [lsP a c]).getD i []) j = newR found.length _ (valV a) c i j
      unfold newR
      by_cases z : i < found.length
      · simp only [if_pos z]
        obtain ⟨f0, hf0⟩ : ∃ f0, found[i]? = some f0 := ⟨_, List.getElem?_eq_getElem z⟩
        have g1 : ((found.map fun ps => woP ps (lsP a c) c) ++ [lsP a c]).getD i [] = woP f0 (lsP a c) c := by
          rw [List.getD_eq_getElem?_getD, List.getElem?_append_left (by rw [List.length_map]; exact z), List.getElem?_map, hf0]; rfl
        have g2 : found.getD i [] = f0 := by rw [List.getD_eq_getElem?_getD, hf0]; rfl
        rw [g1, g2, vw f0 (X.fz f0 (List.mem_of_getElem? hf0))]
        rfl
      · have : i = found.length := by omega
        simp only [if_neg z]
        have g1 : ((found.map fun ps => woP ps (lsP a c) c) ++ [lsP a c]).getD i [] = lsP a c := by
          rw [List.getD_eq_getElem?_getD, List.getElem?_append_right (by rw [List.length_map]; omega), List.length_map, this, Nat.sub_self]; rfl
        rw [g1, valV_ls ca az n0]
    · show (pl ++ [c]).getD i 0 = newP found.length (fun i => pl.getD i 0) c i
      unfold newP
      by_cases z : i < found.length
      · rw [if_pos z, List.getD_eq_getElem?_getD, List.getElem?_append_left (by rw [← X.ln]; exact z)]
        show _ = pl.getD i 0
        rw [List.getD_eq_getElem?_getD]
      · have : i = pl.length := by rw [← X.ln]; omega
        rw [if_neg z, this, List.getD_eq_getElem?_getD, List.getElem?_append_right (Nat.le_refl _), Nat.sub_self]; rfl
end FR
set_option Elab.async false
set_option linter.all false
set_option maxRecDepth 100000
set_option maxHeartbeats 4000000
namespace FR
open PySem PySem.Spec PyProof.Rows L2 LD RF
theorem call_list_ofK {X : Cx} {K : PySem.W.Frag} (hK : X.K = K) : CallR X (.type "list") (fun xs H Q => ∃ p ys, xs = [.ref p] ∧ (SqL K H p ys ∨ SqT K H p ys) ∧ ∀ l, H l = none → Q (.ref l) (upd H l (.lst ys))) := by
  subst hK
  exact call_list_of
theorem pi_enumK {X : Cx} {K : PySem.W.Frag} {e : Expr} {ta : L2.TA} {p pos tpos : Pos} {elts : List Expr} {kk : Nat} (hK : X.K = K) (hg : Gl X "enumerate") (hm : X.mg "enumerate" = none) (ha : PA X [e] ta) (hs : starEach [e] X.env = [(false, eval e X.env)] := by rfl) :
    L2.PI X (.Tuple elts kk tpos) (.Call (.Name "enumerate" p) [e] [] pos) (iEnum K ta) := by
  subst hK
  exact pi_enum hg hm ha hs
/-- lists of pairs in a list at la, none of them at la or fo -/
def LX (H : Hp) (la fo : Addr) (pss : List (List PI)) : Prop := ∃ vs, H la = some (.lst vs) ∧ AG (fun v ps => ∃ q, v = .ref q ∧ q ≠ la ∧ q ≠ fo ∧ PL H q ps) vs pss
theorem LX.same {H H' : Hp} {la fo : Addr} {pss : List (List PI)} (h : LX H la fo pss) (s : Same H H') : LX H' la fo pss := by
  obtain ⟨vs, e, z⟩ := h
  exact ⟨vs, s _ _ e, z.imp fun _ _ ⟨q, e, n, m, t⟩ => ⟨q, e, n, m, t.same s⟩⟩
/-! data of integers, pairs, lists of pairs -/
def inD (S : List Nat) : PyData := .list (S.map fun k => .int (k : Nat))
theorem inD_lay : ∀ S : List Nat, PyData.canLayAll0 (S.map fun k => .int (k : Nat)) = true
  | [] => by simp [PyData.canLayAll0]
  | z :: zs => by simp [PyData.canLayAll0, PyData.canLay0, inD_lay zs]
theorem inD_depth : ∀ S : List Nat, PyData.depthAll (S.map fun k => .int (k : Nat)) ≤ 2
  | [] => by simp [PyData.depthAll]
  | z :: zs => by
    have h1 := inD_depth zs
    simp only [List.map_cons, PyData.depthAll, PyData.depth]
    omega
theorem inD_shaped (S : List Nat) : SeqAt.shaped (inD S) = true := by
  have h1 := inD_depth S
  have h2 : PyData.depth (inD S) ≤ 64 := by
    simp only [inD, PyData.depth]
    omega
  show (PyData.canLay0 (inD S) && decide (PyData.depth (inD S) ≤ 64)) = true
  rw [Bool.and_eq_true]
  exact ⟨by simp only [inD, PyData.canLay0]; exact inD_lay S, decide_eq_true h2⟩
theorem inD_dp {K : PySem.W.Frag} {H : Hp} : ∀ S : List Nat, DpAll K H (S.map fun k => V.int (k : Nat)) (S.map fun k => PyData.int (k : Nat))
  | [] => .nil
  | k :: ks => .cons (.int _) (inD_dp ks)
theorem ll_ll {K : PySem.W.Frag} {a D : Addr} {pss : List (List PI)} {us : List V} (hk : pss.length ≤ 900) {vs : List Nat} {σ : L2.St} {H1 : Hp} {Qd : Hp → Prop} {i1 : Nat} {te : TE} (f : List PI → List PI) (hD : H1 D = none)
    (ha : H1 a = some (.lst us)) (hu : AG (fun v ps => ∃ q, v = .ref q ∧ PL H1 q ps) us pss) (wp : ∀ v : V, wipe ((wipe σ vs).set i1 (some v)) vs = wipe σ vs)
    (he : ∀ (i : Nat) (ps : List PI) (x : Addr) (H : Hp) (Q : VK), pss[i]? = some ps → PL H x ps → Same H1 H → (∀ z H', PL H' z (f ps) → Same H H' → H z = none → Q (.ref z) H') → te ((wipe σ vs).set i1 (some (.ref x))) H Q)
    (hd : ∀ H, Same H1 H → (∃ zs, H D = some (.lst zs) ∧ AG (fun v ps => ∃ q, v = .ref q ∧ q ≠ D ∧ H1 q = none ∧ PL H q ps) zs (pss.map f)) → Qd H) :
    ∃ Wk : Nat → Nat → Hp → Prop, (∃ m0, Wk 0 m0 (upd H1 D (.lst []))) ∧ ∀ (i0 m0 : Nat) (h0 : Hp), Wk i0 m0 h0 →
      ((Itl K a).stop i0 h0 ∧ Qd h0) ∨ ((Itl K a).go i0 h0 ∧ ∃ Nk : Hp → Prop, (∀ h1, Nk h1 → ∃ m1, m1 < m0 ∧ Wk (i0 + 1) m1 h1) ∧ ∀ x h2, (Itl K a).yld i0 h0 x h2 → gName i1 x (wipe σ vs) h2 fun σ2 H2 => wipe σ2 vs = wipe σ vs ∧ tYes σ2 H2 fun b H3 =>
        if b = true then te σ2 H3 fun y H4 => ∃ got, H4 D = some (.lst got) ∧ got.length < sizeLine ∧ Nk (upd H4 D (.lst (got ++ [y]))) else Nk H3) := by
  refine lc_list (xs := us) (fun i H => Same H1 H ∧ ∃ zs, H D = some (.lst zs) ∧ AG (fun v ps => ∃ q, v = .ref q ∧ q ≠ D ∧ H1 q = none ∧ PL H q ps) zs ((pss.map f).take i))
    ⟨same_new hD, [], upd_same, AG.nil⟩ (fun i H _ p => SqL.of (p.1 _ _ ha)) ?_ fun H p => ?_
  · rintro i v H hx ⟨sm, zs, hDc, hz⟩
    obtain ⟨ps, hp, x, rfl, px⟩ := hu.2 i v hx
    have hi := (List.getElem?_eq_some_iff.mp hp).1
    refine ⟨wp _, ?_⟩
    refine he i ps x _ _ hp (px.same sm) sm fun z H' pz s' nz => ?_
    have e := s' _ _ hDc
    have zD : z ≠ D := fun y => by rw [y, hDc] at nz; cases nz
    have up : ∀ q ps, q ≠ D → PL H' q ps → PL (upd H' D (.lst (zs ++ [.ref z]))) q ps := fun q ps n ⟨ys, h1, h2⟩ => ⟨ys, by rw [upd_ne n]; exact h1, h2.updl e⟩
    refine ⟨zs, e, small1000 (by rw [hz.1, List.length_take, List.length_map]; omega), same_upd hD (sm.trans s'), zs ++ [.ref z], upd_same, ?_⟩
    rw [take_snoc (x := f ps) (by rw [List.getElem?_map, hp]; rfl)]
    exact AG.snoc (hz.imp fun _ _ ⟨q, e', n, m, t⟩ => ⟨q, e', n, m, up _ _ n (t.same s')⟩) ⟨z, rfl, zD, Same.free sm nz, up _ _ zD pz⟩
  · obtain ⟨sm, zs, hDc, hz⟩ := p
    rw [List.take_of_length_le (by rw [List.length_map, hu.1]; exact Nat.le_refl _)] at hz
    exact hd H sm ⟨zs, hDc, hz⟩
theorem clk_le : ∀ {c : Nat}, c ≤ 3 → clk c ≤ 1237
  | 0, _ => by decide
  | 1, _ => by decide
  | 2, _ => by decide
  | 3, _ => by decide
  | c + 4, h => by omega
theorem AG.erase {α : Type} {R : V → α → Prop} {vs : List V} {as : List α} (h : AG R vs as) (k : Nat) : AG R (vs.eraseIdx k) (as.eraseIdx k) := by
  refine ⟨by rw [List.length_eraseIdx, List.length_eraseIdx, h.1], fun i v e => ?_⟩
  rw [List.getElem?_eraseIdx] at e ⊢
  split at e
  · next z => rw [if_pos z]; exact h.2 i v e
  · next z => rw [if_neg z]; exact h.2 _ v e
theorem seq_nat {k n : Nat} (h : k < n) : seqIndex? (k : Int) n = some k := by
  first | (unfold seqIndex?; simp; omega) | (unfold seqIndex?; simp [h]) | (unfold seqIndex?; split <;> simp <;> omega)
section
variable {P : Program} {w : World} {K : PySem.W.Frag} {mg : Str → Option Value} {base : Heap} {C fI pT gT pB gB : Addr} {fdI fdT fdB : FuncData}
abbrev sLc : Stmt := FR.top 50
abbrev NLc : List Str := ["_law_lines_here", "_law_left", "_law_found", "_law_place", "_law_some", "_law_line", "_law_turn", "_law_row", "_law_at", "_law_one"]
theorem scLc : FnScope NLc ["_law_lines_here"] (defScope sLc) := ⟨rfl, rfl, rfl, by decide +kernel, rfl, by decide +kernel, by decide +kernel⟩
structure TxtC (mg : Str → Option Value) : Prop where
  range : mg "range" = none
  len : mg "len" = none
  enum : mg "enumerate" = none
  list : mg "list" = none
def spLc : Sp := fun vs H Q _ => ∃ (a : Addr) (pss : List (List PI)) (n : Nat), vs = [.ref a] ∧ LL H a pss ∧ 0 < pss.length ∧ pss.length ≤ 90 ∧ n ≤ 4 ∧ (∀ ps ∈ pss, ps.length = n ∧ ∀ p ∈ ps, Pz 19 p) ∧
  ∀ (left found : List (List PI)) (pl : List Nat) x H', CS n n left found pl (pss.map valV) → LL H' x found → Same H H' → Q (.ref x) H'
theorem ok_lc {f : Addr} {fd : FuncData} (F : Fun K "_law_cleared" "_law_cleared" sLc f fd) (T : TxtC mg) (gI : Glo P w K mg base "_law_inverse" 1 ["_law_pair_here"] spInv) (gB : Glo P w K mg base "_law_by" 3 N12 (spLP byP)) (gW : Glo P w K mg base "_law_without" 4 ["_law_row", "_law_line", "_law_place"] spWo) : FnOk P w K mg base CX0 5 f fd ["_law_lines_here"] spLc := by
  refine F.ok scLc (fun vs H Q E h => ?_) (fun cdv A outer s H vs Q E hr h => ?_)
  · obtain ⟨a, pss, n, rfl, _⟩ := h
    rfl
  · obtain ⟨a, pss, n, rfl, ⟨vs, ha, hv⟩, pos, l90, n4, hz, q⟩ := h
    refine ⟨_, (pss_cons (ps_par (i := 1) (j := 2) (by rfl) scLc.nd rfl rfl (by decide) rfl rfl (pa_cons (pe_lc (X := (cxOf CX0 P w K mg base NLc "_law_cleared" (defScope sLc) f cdv A outer s H E).nox) (own := [("_law_row", 7)]) (g := (gName 7)) (tt := tYes) rfl scLc.nd (pi_list (pv 0)) (blkOk_by (N := NLc) (sc := defScope sLc) (by decide +kernel)) (fun _ _ _ _ _ => (pg_name (i := 7) scLc.nd rfl (.inl rfl))) (fun _ _ _ _ _ => pts_nil) (fun _ _ _ _ _ => (pe_callTy (call_list_ofK (K := K) rfl) (by rfl) T.list (by decide +kernel) (pa_cons (pv 7) pa_nil)))) (pa_cons (pe_lst pa_nil) pa_nil)) (by rfl))
      (pss_cons (ps_for PassesOwn.never rfl (pi_range1 (by rfl) T.range (pa_cons (pe_callB call_len_seq (by rfl) T.len PySem.boot_len (pa_cons (pe_ix ix_list (pv 0) pe_int (fun _ _ => rfl)) pa_nil)) pa_nil)) (pg_name (i := 3) scLc.nd rfl (.inr rfl))
        (pss_cons (ps_setLc (i := 4) (X := (cxOf CX0 P w K mg base NLc "_law_cleared" (defScope sLc) f cdv A outer s H E).nox) (own := [("_law_at", 8), ("_law_row", 7)]) (g := (gTup K 2 (gCons (gName 8) (gCons (gName 7) gNil)))) rfl scLc.nd rfl rfl (sw_true rfl rfl rfl (by decide +kernel)) (pi_enum (by rfl) T.enum (pa_cons (pv 1) pa_nil)) (blkOk_by (N := NLc) (sc := defScope sLc) (by decide +kernel)) (fun _ _ _ _ _ => (pg_tupK (K := K) rfl rfl (pgs_cons (pg_name (i := 8) scLc.nd rfl (.inl rfl)) (pgs_cons (pg_name (i := 7) scLc.nd rfl (.inl rfl)) pgs_nil)))) (fun _ _ _ _ _ => (pts_one (pt_cmpR op_ne (pe_ix (ix_tupK (K := K) rfl) (pe_ix (ix_listK (K := K) rfl) (pv 7) (pv 3) (fun _ _ => rfl)) pe_int (fun _ _ => rfl)) pe_int (nomark _)))) (fun _ _ _ _ _ => (pv 8)))
      (pss_one (ps_if (pt_cmpR (op_neD hr.units) (pv 4) (pe_lst pa_nil) (nomark _)) (pss_cons (ps_set (i := 5) scLc.nd rfl (Or.inr rfl) (pe_bm PySem.F.plainAttrs_list PySem.F.slot_list_pop PySem.F.type_list_pop mt_popAt (pv 1) (pa_cons (pe_ix ix_list (pv 4) pe_int (fun _ _ => rfl)) pa_nil)))
      (pss_cons (ps_set (i := 6) scLc.nd rfl (Or.inr rfl) (pe_call gI.G (hr.mono (by decide)) (by rfl) gI.m gI.k gI.b .nil pass0 (pa_cons (pe_ix ix_list (pv 5) (pv 3) (fun _ _ => rfl)) pa_nil)))
      (pss_cons (ps_set (i := 5) scLc.nd rfl (Or.inr rfl) (pe_lc (X := (cxOf CX0 P w K mg base NLc "_law_cleared" (defScope sLc) f cdv A outer s H E).nox) (own := [("_law_one", 9)]) (g := (gName 9)) (tt := tYes) rfl scLc.nd (pi_list (pv 5)) (blkOk_by (N := NLc) (sc := defScope sLc) (by decide +kernel)) (fun _ _ _ _ _ => (pg_name (i := 9) scLc.nd rfl (.inl rfl))) (fun _ _ _ _ _ => pts_nil) (fun _ _ _ _ _ => (pe_call gB.G (hr.mono (by decide)) (by rfl) gB.m gB.k gB.b .nil pass0 (pa_cons (pv 6) (pa_cons (pv 9) pa_nil))))))
      (pss_cons (ps_setLc (i := 1) (X := (cxOf CX0 P w K mg base NLc "_law_cleared" (defScope sLc) f cdv A outer s H E).nox) (own := [("_law_row", 7)]) (g := (gName 7)) (tt := tYes) rfl scLc.nd rfl rfl (sw_true rfl rfl rfl (by decide +kernel)) (pi_list (pv 1)) (blkOk_by (N := NLc) (sc := defScope sLc) (by decide +kernel)) (fun _ _ _ _ _ => (pg_name (i := 7) scLc.nd rfl (.inl rfl))) (fun _ _ _ _ _ => pts_nil) (fun _ _ _ _ _ => (pe_call gW.G hr (by rfl) gW.m gW.k gW.b .nil pass0 (pa_cons (pv 7) (pa_cons (pv 5) (pa_cons (pv 3) pa_nil))))))
      (pss_one (ps_set (i := 2) scLc.nd rfl (Or.inl rfl) (pe_op op_cat (pe_lc (X := (cxOf CX0 P w K mg base NLc "_law_cleared" (defScope sLc) f cdv A outer s H E).nox) (own := [("_law_row", 7)]) (g := (gName 7)) (tt := tYes) rfl scLc.nd (pi_list (pv 2)) (blkOk_by (N := NLc) (sc := defScope sLc) (by decide +kernel)) (fun _ _ _ _ _ => (pg_name (i := 7) scLc.nd rfl (.inl rfl))) (fun _ _ _ _ _ => pts_nil) (fun _ _ _ _ _ => (pe_call gW.G hr (by rfl) gW.m gW.k gW.b .nil pass0 (pa_cons (pv 7) (pa_cons (pv 5) (pa_cons (pv 3) pa_nil)))))) (pe_lst (pa_cons (pv 5) pa_nil))))))))) pss_nil))))
      (pss_one (ps_ret (pv 2))))), ?_⟩
    obtain ⟨q0, us0, hq0, hx0, l0⟩ : ∃ q0 us0, vs[0]? = some (.ref q0) ∧ H q0 = some (.lst us0) ∧ us0.length = n := by
      obtain ⟨v0, h0⟩ : ∃ v0, vs[0]? = some v0 := ⟨_, List.getElem?_eq_getElem (by rw [hv.1]; exact pos)⟩
      obtain ⟨p0, hp0, q0, rfl, us0, e0, f0⟩ := hv.2 0 v0 h0
      exact ⟨q0, us0, h0, e0, by rw [f0.1]; exact (hz p0 (List.mem_of_getElem? hp0)).1⟩
    refine ⟨_, rfl, a, rfl, ⟨_, SqL.of ha⟩, fun D hD => ?_⟩
    refine lc_list (xs := vs) (fun i Hc => Same H Hc ∧ ∃ us, Hc D = some (.lst us) ∧ AG (fun v ps => ∃ q, v = .ref q ∧ q ≠ D ∧ PL Hc q ps) us (pss.take i)) ⟨same_new hD, [], upd_same, AG.nil⟩ (fun i Hc _ p => SqL.of (p.1 _ _ ha)) ?_ ?_
    · rintro i v Hc hvi ⟨sm, us, hDc, hu⟩
      obtain ⟨ps, hp, x, rfl, px⟩ := hv.2 i v hvi
      obtain ⟨xs, hx, hf⟩ := px.same sm
      have il := (List.getElem?_eq_some_iff.mp hp).1
      refine ⟨rfl, _, rfl, x, xs, rfl, .inl (SqL.of hx), fun l hl => ?_⟩
      have s2 : Same Hc (upd Hc l (.lst xs)) := same_new hl
      have e := s2 _ _ hDc
      have lD : l ≠ D := fun z => by rw [z, hDc] at hl; cases hl
      have up : ∀ q ps, q ≠ D → PL (upd Hc l (.lst xs)) q ps → PL (upd (upd Hc l (.lst xs)) D (.lst (us ++ [.ref l]))) q ps := fun q ps n ⟨ys, h1, h2⟩ => ⟨ys, by rw [upd_ne n]; exact h1, h2.updl e⟩
      refine ⟨us, e, small1000 (by rw [hu.1, List.length_take]; omega), same_upd hD (sm.trans s2), us ++ [.ref l], upd_same, ?_⟩
      rw [take_snoc hp]
      exact AG.snoc (hu.imp fun _ _ ⟨q, e', n, t⟩ => ⟨q, e', n, up _ _ n (t.same s2)⟩) ⟨l, rfl, lD, up _ _ lD ⟨xs, upd_same, hf.same s2⟩⟩
    rintro H1 ⟨s1, us, hD1, hu⟩
    rw [List.take_of_length_le (by rw [hv.1]; exact Nat.le_refl _)] at hu
    refine ⟨Nat.zero_le _, fun fo hfo => ?_⟩
    have s2 : Same H1 (upd H1 fo (.lst [])) := same_new hfo
    have fD : fo ≠ D := fun z => by rw [z, hD1] at hfo; cases hfo
    refine ⟨_, _, rfl, ?_⟩
    refine ⟨_, rfl, a, _, 0, _, rfl, rfl, SqL.of ((s1.trans s2) _ _ ha), atI_nat (j := 0) hq0, q0, us0, rfl, .inl (SqL.of ((s1.trans s2) _ _ hx0)), (us0.length : Int), rfl, by omega, by omega, ?_⟩
    have nat : (us0.length : Int).toNat = n := by omega
    rw [nat]
    have hu1 : AG (fun v ps => ∃ q, v = .ref q ∧ q ≠ D ∧ PL H1 q ps) us pss := hu
    have st0 : LX (upd H1 fo (.lst [])) D fo pss := ⟨us, s2 _ _ hD1, hu1.imp fun _ _ ⟨q, e, nq, t⟩ => ⟨q, e, nq, (fun z => by
      obtain ⟨ys, h1, _⟩ := t
      rw [z, hfo] at h1
      cases h1), t.same s2⟩⟩
    refine for_range (fun c σ Hc => Same H Hc ∧ ∃ (la fo : Addr) (left found : List (List PI)) (pl : List Nat) (x3 x4 x5 x6 : Option V), σ = [some (.ref a), some (.ref la), some (.ref fo), x3, x4, x5, x6, none, none, none] ∧ LX Hc la fo left ∧ LX Hc fo la found ∧ la ≠ fo ∧ H la = none ∧ CS n c left found pl (pss.map valV) ∧ left.length ≤ 90 ∧ found.length ≤ c)
      ⟨s1.trans s2, D, fo, pss, [], [], _, _, _, _, rfl, st0, ⟨[], upd_same, AG.nil⟩, Ne.symm fD, hD, ⟨rfl, fun ps m => ⟨(hz ps m).1, fun p hp => (hz ps m).2 p hp⟩, fun ps m => (by cases m), PForm.start⟩, l90, Nat.le_refl _⟩ ?_ ?_
    · rintro c σ Hc hc ⟨sm, la, fo, left, found, pl, x3, x4, x5, x6, rfl, ll, lf, lne, nla, X, ll90, fc⟩
      have hc : c < n := by omega
      have e0 : (0 : Int) + (c : Nat) = (c : Nat) := by omega
      rw [e0]
      obtain ⟨us, hla, hu⟩ := id ll
      refine ⟨_, rfl, la, us, rfl, SqL.of hla, fun D2 hD2 => ?_⟩
      let NZ : Nat → Prop := fun k => ∃ ps, left[k]? = some ps ∧ (ps.getD c (0, 1)).1 ≠ 0
      refine lc_it (walk_enum (xs := us)) (fun i Hx => Same Hc Hx ∧ ∃ S : List Nat, Hx D2 = some (.lst (S.map fun k => V.int (k : Nat))) ∧ (∀ k ∈ S, k < i ∧ NZ k) ∧ (∀ k, k < i → NZ k → k ∈ S) ∧ S.length ≤ i)
        ⟨same_new hD2, [], upd_same, fun k hk => (by cases hk), fun k hk _ => by omega, Nat.le_refl _⟩ (fun i Hx _ p => SqL.of (p.1 _ _ hla)) ?_ ?_
      · rintro i v Hx H' hi ⟨s3, S, hS, g1, g2, g3⟩ ⟨T0, u1, u2, rfl, nT, rfl, h1, h2⟩
        have h1 : some (V.int (i : Nat)) = some u1 := h1
        cases h1
        have h2 : us[i]? = some u2 := h2
        obtain ⟨ps, hps, x, rfl, _, _, px⟩ := hu.2 i u2 h2
        have il := (List.getElem?_eq_some_iff.mp hps).1
        have sT : Same Hx (upd Hx T0 (.tup [.int (i : Nat), .ref x])) := same_new nT
        obtain ⟨xs, hx, hf⟩ := px.same (s3.trans sT)
        have hS' := sT _ _ hS
        have s3' := s3.trans sT
        have tt : upd Hx T0 (.tup [.int (i : Nat), .ref x]) T0 = some (.tup [.int (i : Nat), .ref x]) := upd_same
        generalize upd Hx T0 _ = Hn at *
        have pl_ := (X.lz ps (List.mem_of_getElem? hps)).1
        have lx : c < xs.length := by rw [hf.1, pl_]; exact hc
        obtain ⟨w0, gx⟩ : ∃ w0, xs[c]? = some w0 := ⟨_, List.getElem?_eq_getElem lx⟩
        obtain ⟨p, hp, y, rfl, ty⟩ := hf.2 c w0 gx
        have gp : ps.getD c (0, 1) = p := by rw [List.getD_eq_getElem?_getD, hp]; rfl
        refine ⟨T0, _, rfl, SqT.of tt, rfl, _, _, rfl, _, _, rfl, rfl, rfl, ?_⟩
        refine ⟨_, rfl, _, rfl, x, _, _, _, rfl, rfl, SqL.of hx, atI_nat gx, y, _, _, _, rfl, rfl, SqT.of ty, rfl, rfl, _, rfl, ite2 (fun z => ?_) (fun z => ?_)⟩
        · have z := neq_of z
          refine ⟨_, rfl, _, hS', small1000 (by rw [List.length_map]; omega), same_upd hD2 s3', S ++ [i], ?_, ?_, ?_, ?_⟩
          · rw [List.map_append]; exact upd_same
          · intro k hk
            rcases List.mem_append.mp hk with h | h
            · exact ⟨by have := (g1 k h).1; omega, (g1 k h).2⟩
            · rw [List.mem_singleton.mp h]; exact ⟨by omega, ps, hps, by rw [gp]; exact z⟩
          · intro k hk nz
            by_cases e : k = i
            · exact List.mem_append_right _ (List.mem_singleton.mpr e)
            · exact List.mem_append_left _ (g2 k (by omega) nz)
          · rw [List.length_append]; show S.length + 1 ≤ i + 1; omega
        · refine ⟨s3', S, hS', fun k hk => ⟨by have := (g1 k hk).1; omega, (g1 k hk).2⟩, fun k hk nz => ?_, by omega⟩
          by_cases e : k = i
          · subst e
            obtain ⟨ps', h', n'⟩ := nz
            rw [hps] at h'
            cases h'
            rw [gp] at n'
            exact absurd (neq_to n') z
          · exact g2 k (by omega) nz
      rintro H2 ⟨s3, S, hS, g1, g2, g3⟩
      refine ⟨_, rfl, Nat.zero_le _, fun l0 hl0 => ?_⟩
      have s4 : Same H2 (upd H2 l0 (.lst [])) := same_new hl0
      have hS4 := s4 _ _ hS
      have hl4 : upd H2 l0 (.lst []) l0 = some (.lst []) := upd_same
      have s34 := s3.trans s4
      generalize upd H2 l0 _ = H3 at *
      refine ⟨inD S, .list [], Dp.lst (SqL.of hS4) (inD_dp S), Dp.lst (SqL.of hl4) .nil, inD_shaped S, rfl, _, rfl, ?_⟩
      match S, hS4, g1, g2, g3 with
      | [], hS4, g1, g2, g3 =>
        have ev : (!PyData.eqv (inD []) (.list [])) = false := by decide +kernel
        rw [ev]
        have sm3 := sm.trans s34
        refine ⟨sm3, la, fo, left, found, pl, _, _, _, _, rfl, ll.same s34, lf.same s34, lne, nla, X.skip (fun ps m => Classical.byContradiction fun nz => ?_) hc, ll90, by omega⟩
        obtain ⟨k, hk⟩ := List.mem_iff_getElem?.mp m
        have := g2 k (by rw [hu.1]; exact (List.getElem?_eq_some_iff.mp hk).1) ⟨ps, hk, nz⟩
        cases this
      | k0 :: S', hS4, g1, g2, g3 =>
        have ev : (!PyData.eqv (inD (k0 :: S')) (.list [])) = true := by
          show (!PyData.eqv (.list (_ :: _)) (.list [])) = true
          simp only [PyData.eqv, PyData.eqvAll]
          rfl
        rw [ev]
        obtain ⟨k0l, ak, hak, an⟩ := g1 k0 List.mem_cons_self
        have k0l2 : k0 < us.length := k0l
        obtain ⟨v0, hv0⟩ : ∃ v0, us[k0]? = some v0 := ⟨_, List.getElem?_eq_getElem k0l2⟩
        obtain ⟨ak', hak', qa, rfl, qa1, qa2, pa⟩ := hu.2 k0 v0 hv0
        rw [hak] at hak'
        cases hak'
        have hla3 := s34 _ _ hla
        have lf3 := lf.same s34
        have hu3 := hu.imp fun _ _ ⟨q, e, n1, n2, t⟩ => (⟨q, e, n1, n2, t.same s34⟩ : ∃ q, _ = V.ref q ∧ q ≠ la ∧ q ≠ fo ∧ PL H3 q _)
        have pa3 := pa.same s34
        have ul90 : us.length ≤ 90 := by rw [hu.1]; exact ll90
        have sm3 := sm.trans s34
        refine iteT ?_
        refine ⟨_, rfl, .inl ⟨rfl, _, SqL.of hla3⟩, _, rfl, D2, _, _, _, rfl, rfl, SqL.of hS4, atI_nat (j := 0) rfl, ?_⟩
        refine ⟨la, us, (k0 : Int), k0, .ref qa, rfl, rfl, hla3, by omega, by omega, seq_nat k0l2, hv0, ?_⟩
        have g4 : ∀ z o, z ≠ la → H3 z = some o → upd H3 la (.lst (us.eraseIdx k0)) z = some o := fun z o nz e => by rw [upd_ne nz]; exact e
        have hla4 : upd H3 la (.lst (us.eraseIdx k0)) la = some (.lst (us.eraseIdx k0)) := upd_same
        generalize upd H3 la _ = H4 at *
        have sm4 : Same H H4 := fun z o e => g4 z o (ne_of_none e nla) (sm3 z o e)
        have keepP : ∀ q ps, q ≠ la → PL H3 q ps → PL H4 q ps := fun q ps nq ⟨ys, h1, h2⟩ => ⟨ys, g4 _ _ nq h1, A2.imp h2 fun _ _ ⟨t, et, ht⟩ => ⟨t, et, g4 _ _ (fun y => by rw [y, hla3] at ht; cases ht) ht⟩⟩
        have hu4 : AG (fun v ps => ∃ q, v = .ref q ∧ q ≠ la ∧ q ≠ fo ∧ PL H4 q ps) us left := hu3.imp fun _ _ ⟨q, e, n1, n2, t⟩ => ⟨q, e, n1, n2, keepP _ _ n1 t⟩
        have lf4 : LX H4 fo la found := by
          obtain ⟨ws, e, z⟩ := lf3
          exact ⟨ws, g4 _ _ (Ne.symm lne) e, z.imp fun _ _ ⟨q, e, n1, n2, t⟩ => ⟨q, e, n1, n2, keepP _ _ n2 t⟩⟩
        have pa4 := keepP _ _ qa1 pa3
        have hul := hu4.erase k0
        obtain ⟨al, az⟩ := X.lz ak (List.mem_of_getElem? hak)
        have ca : c < ak.length := by rw [al]; exact hc
        have zc := az _ (getD_mem ca)
        obtain ⟨xa, hxa, hfa⟩ := id pa4
        obtain ⟨w0, gx⟩ : ∃ w0, xa[c]? = some w0 := ⟨_, List.getElem?_eq_getElem (by rw [hfa.1]; exact ca)⟩
        obtain ⟨p0, hp0, y0, rfl, t0⟩ := hfa.2 c w0 gx
        have t0 : TA H4 y0 p0 := t0
        have gp : ak.getD c (0, 1) = p0 := by rw [List.getD_eq_getElem?_getD, hp0]; rfl
        rw [gp] at zc an
        have ck : clk c ≤ 1237 := clk_le (by omega)
        refine ⟨_, rfl, _, rfl, qa, _, _, _, rfl, rfl, SqL.of hxa, atI_nat gx, y0, p0, rfl, t0, fun tn htn => ?_⟩
        have s5 : Same H4 (upd H4 tn (.tup [.int (invP p0).1, .int (invP p0).2])) := same_new htn
        have tt : TA (upd H4 tn (.tup [.int (invP p0).1, .int (invP p0).2])) tn (invP p0) := upd_same
        generalize upd H4 tn _ = H5 at *
        have zi := zc.inv an
        refine ⟨_, rfl, qa, rfl, ⟨_, SqL.of (s5 _ _ hxa)⟩, fun DL hDL => ?_⟩
        refine ll_pl (ps := ak) (by omega) (byP (invP p0)) hDL (s5 _ _ hxa) (hfa.same s5) (fun _ => rfl) ?_ ?_
        · intro i2 p x H6 Q6 hp tx s6 kk
          have pz := az p (List.mem_of_getElem? hp)
          exact ⟨_, rfl, _, rfl, tn, x, invP p0, p, rfl, s6 _ _ tt, tx, zi.pp (by omega), pz.pp (by omega), fun b hb => kk b _ upd_same (same_new hb)⟩
        intro H6 s6 pL
        have pL : PL H6 DL (lsP ak c) := by
          unfold lsP
          rw [gp]; exact pL
        have s56 := s5.trans s6
        have lsl : (lsP ak c).length = n := by unfold lsP; rw [List.length_map, al]
        have lsz : ∀ p ∈ lsP ak c, Pz (2 * clk c) p := fun p hp => by
          unfold lsP at hp
          rw [gp] at hp
          obtain ⟨r, hr, rfl⟩ := List.mem_map.mp hp
          exact (zi.by_ (az r hr)).up (by omega)
        refine ⟨_, rfl, la, rfl, ⟨_, SqL.of (s56 _ _ hla4)⟩, fun D3 hD3 => ?_⟩
        have e90 : (left.eraseIdx k0).length ≤ 90 := by rw [List.length_eraseIdx]; split <;> omega
        refine ll_ll (pss := left.eraseIdx k0) (by omega) (fun ps => woP ps (lsP ak c) c) hD3 (s56 _ _ hla4) (hul.imp fun _ _ ⟨q, e, _, _, t⟩ => ⟨q, e, t.same s56⟩) (fun _ => rfl) ?_ ?_
        · intro i2 ps x H7 Q7 hp px s7 kk
          obtain ⟨pl1, pz1⟩ := X.lz ps (List.mem_of_mem_eraseIdx (List.mem_of_getElem? hp))
          exact ⟨_, rfl, _, rfl, _, rfl, x, DL, ps, lsP ak c, c, clk c, 2 * clk c, rfl, px, pL.same s7, by rw [pl1, lsl], by omega, by rw [pl1]; exact hc, pz1, lsz, by omega, kk⟩
        rintro H7 s7 ⟨zs, hz1, hz2⟩
        have s67 := s56.trans s7
        obtain ⟨ws, hw1, hw2⟩ := id lf4
        refine ⟨_, rfl, fo, rfl, ⟨_, SqL.of (s67 _ _ hw1)⟩, fun D4 hD4 => ?_⟩
        refine ll_ll (pss := found) (by omega) (fun ps => woP ps (lsP ak c) c) hD4 (s67 _ _ hw1) (hw2.imp fun _ _ ⟨q, e, _, _, t⟩ => ⟨q, e, t.same s67⟩) (fun _ => rfl) ?_ ?_
        · intro i2 ps x H8 Q8 hp px s8 kk
          obtain ⟨pl1, pz1⟩ := X.fz ps (List.mem_of_getElem? hp)
          exact ⟨_, rfl, _, rfl, _, rfl, x, DL, ps, lsP ak c, c, clk c, 2 * clk c, rfl, px, pL.same (s7.trans s8), by rw [pl1, lsl], by omega, by rw [pl1]; exact hc, pz1, lsz, by omega, kk⟩
        rintro H8 s8 ⟨ys, hy1, hy2⟩
        refine ⟨_, rfl, small1000 (by show 0 ≤ 1000; decide), fun l1 hl1 => ?_⟩
        have s9 : Same H8 (upd H8 l1 (.lst [.ref DL])) := same_new hl1
        have hl9 : upd H8 l1 (.lst [.ref DL]) l1 = some (.lst [.ref DL]) := upd_same
        generalize upd H8 l1 _ = H9 at *
        have yl : ys.length ≤ 90 := by rw [hy2.1, List.length_map]; omega
        refine ⟨D4, l1, _, _, rfl, rfl, s9 _ _ hy1, hl9, Nat.le_of_lt (small1000 (by show ys.length + 1 ≤ 1000; omega)), fun l2 hl2 => ?_⟩
        have sA : Same H9 (upd H9 l2 (.lst (ys ++ [.ref DL]))) := same_new hl2
        have hlA : upd H9 l2 (.lst (ys ++ [.ref DL])) l2 = some (.lst (ys ++ [.ref DL])) := upd_same
        have ex9 : ∀ q ps, PL H9 q ps → q ≠ l2 := fun q ps ⟨ys, h1, _⟩ z => by rw [z, hl2] at h1; cases h1
        have D3l : D3 ≠ l2 := fun z => by
          have := s9 _ _ (s8 _ _ hz1)
          rw [z, hl2] at this; cases this
        generalize upd H9 l2 _ = HA at *
        have s7A := (s8.trans s9).trans sA
        have pL9 : PL H9 DL (lsP ak c) := ((pL.same s7).same s8).same s9
        have DLD3 : DL ≠ D3 := fun z => by
          obtain ⟨_, h1, _⟩ := pL
          rw [z, hD3] at h1; cases h1
        refine ⟨(sm4.trans s67).trans s7A, D3, l2, _, _, pl ++ [c], _, _, _, _, rfl, ⟨zs, s7A _ _ hz1, hz2.imp fun _ _ ⟨q, e, n1, _, t⟩ => ⟨q, e, n1, ex9 _ _ ((t.same s8).same s9), t.same s7A⟩⟩, ⟨_, hlA, AG.snoc (hy2.imp fun _ _ ⟨q, e, n1, n2, t⟩ => ⟨q, e, ex9 _ _ (t.same s9), (fun z => by rw [z, hz1] at n2; cases n2), t.same (s9.trans sA)⟩) ⟨DL, rfl, ex9 _ _ pL9, DLD3, pL9.same sA⟩⟩, D3l, Same.free (sm4.trans s56) hD3, X.step hak (by rw [gp]; exact an) hc, by rw [List.length_map]; exact e90, by rw [List.length_append, List.length_map]; show found.length + 1 ≤ c + 1; omega⟩
    · rintro σ Hc ⟨sm, la, fo, left, found, pl, x3, x4, x5, x6, rfl, ll, lf, lne, nla, X, ll90, fc⟩
      obtain ⟨ws, e, z⟩ := lf
      exact ⟨_, rfl, q left found pl fo Hc X ⟨ws, e, z.imp fun _ _ ⟨q, e, _, _, t⟩ => ⟨q, e, t⟩⟩ sm⟩
end
end FR
set_option Elab.async false
set_option linter.all false
set_option maxRecDepth 100000
set_option maxHeartbeats 4000000
namespace FR
open PySem PySem.Spec PyProof.Rows L2 LD RF
/-! ### entries with a bottom that divides 12 -/
structure Q12 (M : Nat) (p : PI) : Prop where
  lf : Lf p.1 p.2
  dv : p.2 ∣ 12
  le : p.1.natAbs ≤ M * p.2.natAbs
theorem Q12.up {M N : Nat} {p : PI} (h : Q12 M p) (g : M ≤ N) : Q12 N p := ⟨h.lf, h.dv, Nat.le_trans h.le (Nat.mul_le_mul_right _ g)⟩
theorem q12_n {M : Nat} {t b : Int} (hb : b ≠ 0) (d : b ∣ 12) (h : t.natAbs ≤ M * b.natAbs) : Q12 M (nT t b, nB t b) := by
  have e1 := nT_mul (t := t) hb
  have e2 := nB_mul (t := t) hb
  have k := dv_ne (t := t) hb
  refine ⟨lf_n hb, Int.dvd_trans ⟨dv t b, e2.symm⟩ d, ?_⟩
  show (nT t b).natAbs ≤ M * (nB t b).natAbs
  have z : 0 < (dv t b).natAbs := by omega
  refine Nat.le_of_mul_le_mul_right ?_ z
  rw [← Int.natAbs_mul, e1, Nat.mul_assoc, ← Int.natAbs_mul, e2]
  exact h
theorem Q12.plus {M N : Nat} {p r : PI} (h : Q12 M p) (g : Q12 N r) : Q12 (M + N) (plusP p r) := by
  obtain ⟨u, hu⟩ := h.dv
  obtain ⟨v, hv⟩ := g.dv
  have n : p.2 * r.2 ≠ 0 := Int.mul_ne_zero h.lf.ne g.lf.ne
  have u0 : u ≠ 0 := fun z => by rw [z] at hu; simp at hu
  have v0 : v ≠ 0 := fun z => by rw [z] at hv; simp at hv
  have c : (p.1 * r.2 + r.1 * p.2) * 12 = (p.1 * u + r.1 * v) * (p.2 * r.2) := by
    have : (12 : Int) * 12 = (p.2 * u) * (r.2 * v) := by rw [← hu, ← hv]
    have e1 : p.1 * r.2 * 12 = p.1 * r.2 * (p.2 * u) := by rw [← hu]
    have e2 : r.1 * p.2 * 12 = r.1 * p.2 * (r.2 * v) := by rw [← hv]
    grind
  obtain ⟨a, b⟩ := n_cross n (show (12 : Int) ≠ 0 by decide) c
  have e : plusP p r = (nT (p.1 * u + r.1 * v) 12, nB (p.1 * u + r.1 * v) 12) := Prod.ext a b
  rw [e]
  refine q12_n (by decide) ⟨1, by decide⟩ ?_
  have x1 : (p.1 * u).natAbs ≤ M * 12 := by
    rw [Int.natAbs_mul]
    have y : p.2.natAbs * u.natAbs = 12 := by rw [← Int.natAbs_mul, ← hu]; rfl
    have := Nat.mul_le_mul_right u.natAbs h.le
    rw [Nat.mul_assoc, y] at this
    exact this
  have x2 : (r.1 * v).natAbs ≤ N * 12 := by
    rw [Int.natAbs_mul]
    have y : r.2.natAbs * v.natAbs = 12 := by rw [← Int.natAbs_mul, ← hv]; rfl
    have := Nat.mul_le_mul_right v.natAbs g.le
    rw [Nat.mul_assoc, y] at this
    exact this
  show _ ≤ (M + N) * 12
  omega
theorem Q12.twice {M : Nat} {p : PI} (h : Q12 M p) : Q12 (2 * M) (byP (2, 1) p) := by
  show Q12 (2 * M) (nT (2 * p.1) (1 * p.2), nB (2 * p.1) (1 * p.2))
  have e : (1 : Int) * p.2 = p.2 := Int.one_mul _
  rw [e]
  refine q12_n h.lf.ne h.dv ?_
  rw [Int.natAbs_mul, Nat.mul_assoc]
  exact Nat.mul_le_mul_left _ h.le
theorem Q12.zero : Q12 0 (0, 1) := ⟨Lf.one 0, ⟨12, by decide⟩, by decide⟩
theorem q12_num {t b : Int} (h1 : -7 ≤ t) (h2 : t ≤ 5) (h3 : 1 ≤ b) (h4 : b ≤ 4) : Q12 7 (nT t b, nB t b) := by
  refine q12_n (by omega) ?_ (by omega)
  have : b = 1 ∨ b = 2 ∨ b = 3 ∨ b = 4 := by omega
  rcases this with e | e | e | e <;> subst e
  · exact ⟨12, by decide⟩
  · exact ⟨6, by decide⟩
  · exact ⟨4, by decide⟩
  · exact ⟨3, by decide⟩
theorem Q12.b12 {M : Nat} {p : PI} (h : Q12 M p) : p.2.natAbs ≤ 12 := Nat.le_of_dvd (by decide) (Int.natAbs_dvd_natAbs.mpr h.dv)
theorem Q12.pz {M : Nat} {p : PI} (h : Q12 M p) (m : M ≤ 112) : Pz 11 p := by
  have b := h.b12
  have l := h.le
  have : M * p.2.natAbs ≤ 112 * 12 := Nat.mul_le_mul m b
  exact ⟨h.lf, by omega, by omega⟩
theorem lc12 {ps : List PI} {M : Nat} (h : ∀ p ∈ ps, Q12 M p) : lcmP ps ∣ 12 := by
  induction ps using snoc_ind with
  | h0 => exact ⟨12, by decide⟩
  | h l x ih =>
    rw [lcmP_snoc]
    have i1 := ih fun p m => h p (List.mem_append_left _ m)
    have i2 := (h x (List.mem_append_right _ (List.mem_singleton.mpr rfl))).dv
    unfold lc
    exact Int.natAbs_dvd_natAbs.mp (by
      rw [Int.natAbs_natCast]
      exact Nat.lcm_dvd (Int.natAbs_dvd_natAbs.mpr i1) (Int.natAbs_dvd_natAbs.mpr i2))
theorem line_q12 {ps : List PI} {M : Nat} (h : ∀ p ∈ ps, Q12 M p) (m : M ≤ 112) : Sh (lineP ps) 11 := by
  intro j
  by_cases hj : j < (lineP ps).length
  · obtain ⟨p, m1, e1⟩ := topsP_get (get_ent hj)
    show (ent (topsP ps (lcmP ps)) j).natAbs < _
    rw [e1]
    obtain ⟨k, hk⟩ := lc12 h
    have q := h p m1
    have al : AllLf ps := fun p m => (h p m).lf
    have d := lcmP_dvd ps p m1
    have e := Int.fdiv_mul_cancel d
    have c : p.2.natAbs * ((lcmP ps).fdiv p.2).natAbs ≤ 12 := by
      rw [← Int.natAbs_mul, Int.mul_comm, e]
      exact Nat.le_of_dvd (by decide) (Int.natAbs_dvd_natAbs.mpr ⟨k, hk⟩)
    rw [Int.natAbs_mul]
    have x := Nat.mul_le_mul_right ((lcmP ps).fdiv p.2).natAbs q.le
    rw [Nat.mul_assoc] at x
    have y : M * (p.2.natAbs * ((lcmP ps).fdiv p.2).natAbs) ≤ 112 * 12 := Nat.mul_le_mul m c
    omega
  · rw [ent_none (by omega)]
    exact Nat.pow_pos (by decide)
/-! ### lists of lists of pairs as data -/
def tupD (p : PI) : PyData := .tuple [.int p.1, .int p.2]
def plD (ps : List PI) : PyData := .list (ps.map tupD)
def llD (pss : List (List PI)) : PyData := .list (pss.map plD)
theorem tupD_lay (p : PI) : (tupD p).canLay0 = true := by simp [tupD, PyData.canLay0, PyData.canLayAll0]
theorem tupD_depth (p : PI) : (tupD p).depth ≤ 1 := by simp [tupD, PyData.depth, PyData.depthAll]
theorem plA_lay : ∀ ps : List PI, PyData.canLayAll0 (ps.map tupD) = true
  | [] => by simp [PyData.canLayAll0]
  | z :: zs => by simp [PyData.canLayAll0, tupD_lay z, plA_lay zs]
theorem plA_depth : ∀ ps : List PI, PyData.depthAll (ps.map tupD) ≤ 1
  | [] => by simp [PyData.depthAll]
  | z :: zs => by
    have h1 := plA_depth zs
    have h2 := tupD_depth z
    simp only [List.map_cons, PyData.depthAll]
    omega
theorem plD_lay (ps : List PI) : (plD ps).canLay0 = true := by simp only [plD, PyData.canLay0]; exact plA_lay ps
theorem plD_depth (ps : List PI) : (plD ps).depth ≤ 2 := by
  have := plA_depth ps
  simp only [plD, PyData.depth]
  omega
theorem llA_lay : ∀ pss : List (List PI), PyData.canLayAll0 (pss.map plD) = true
  | [] => by simp [PyData.canLayAll0]
  | z :: zs => by simp [PyData.canLayAll0, plD_lay z, llA_lay zs]
theorem llA_depth : ∀ pss : List (List PI), PyData.depthAll (pss.map plD) ≤ 2
  | [] => by simp [PyData.depthAll]
  | z :: zs => by
    have h1 := llA_depth zs
    have h2 := plD_depth z
    simp only [List.map_cons, PyData.depthAll]
    omega
theorem plD_shaped (ps : List PI) : SeqAt.shaped (plD ps) = true := by
  have h := plD_depth ps
  show ((plD ps).canLay0 && decide ((plD ps).depth ≤ 64)) = true
  rw [Bool.and_eq_true]
  exact ⟨plD_lay ps, decide_eq_true (by omega)⟩
theorem llD_shaped (pss : List (List PI)) : SeqAt.shaped (llD pss) = true := by
  have h := llA_depth pss
  have h2 : PyData.depth (llD pss) ≤ 64 := by
    simp only [llD, PyData.depth]
    omega
  show (PyData.canLay0 (llD pss) && decide (PyData.depth (llD pss) ≤ 64)) = true
  rw [Bool.and_eq_true]
  exact ⟨by simp only [llD, PyData.canLay0]; exact llA_lay pss, decide_eq_true h2⟩
theorem TPs.dp {K : PySem.W.Frag} {H : Hp} : ∀ {vs : List V} {ps : List PI}, TPs H vs ps → DpAll K H vs (ps.map tupD)
  | [], [], _ => .nil
  | [], _ :: _, h => by have := h.1; simp at this
  | _ :: _, [], h => by have := h.1; simp at this
  | v :: vs, p :: ps, h => by
    obtain ⟨⟨q, e, z⟩, r⟩ := h.uncons
    subst e
    exact .cons (.tup (SqT.of z) (.cons (.int _) (.cons (.int _) .nil))) (TPs.dp r)
theorem PL.dp {K : PySem.W.Frag} {H : Hp} {a : Addr} {ps : List PI} (h : PL H a ps) : Dp K H (.ref a) (plD ps) := by
  obtain ⟨us, e, z⟩ := h
  exact .lst (SqL.of e) (TPs.dp z)
theorem AG.uncons {α : Type} {R : V → α → Prop} {v : V} {p : α} {vs : List V} {ps : List α} (h : AG R (v :: vs) (p :: ps)) : R v p ∧ AG R vs ps := by
  obtain ⟨q, hq, r⟩ := h.2 0 v rfl
  cases hq
  exact ⟨r, by have := h.1; simpa using this, fun i w e => h.2 (i + 1) w e⟩
theorem LL.dpA {K : PySem.W.Frag} {H : Hp} : ∀ {vs : List V} {pss : List (List PI)}, AG (fun v ps => ∃ q, v = .ref q ∧ PL H q ps) vs pss → DpAll K H vs (pss.map plD)
  | [], [], _ => .nil
  | [], _ :: _, h => by have := h.1; simp at this
  | _ :: _, [], h => by have := h.1; simp at this
  | v :: vs, p :: ps, h => by
    obtain ⟨⟨q, e, z⟩, r⟩ := h.uncons
    subst e
    exact .cons z.dp (LL.dpA r)
theorem LL.dp {K : PySem.W.Frag} {H : Hp} {a : Addr} {pss : List (List PI)} (h : LL H a pss) : Dp K H (.ref a) (llD pss) := by
  obtain ⟨us, e, z⟩ := h
  exact .lst (SqL.of e) (LL.dpA z)
theorem eqv_same {d : PyData} (h : SeqAt.shaped d = true) : PyData.eqv d d = true := SeqAt.eqv_refl _ (SeqAt.canLay_of_shaped h)
theorem llD_nil (pss : List (List PI)) : (!PyData.eqv (llD pss) (.list [])) = !pss.isEmpty := by
  cases pss with
  | nil => simp only [llD, List.map_nil, PyData.eqv, PyData.eqvAll]; rfl
  | cons a r => simp only [llD, List.map_cons, PyData.eqv, PyData.eqvAll]; rfl
end FR
set_option Elab.async false
set_option linter.all false
set_option maxRecDepth 100000
set_option maxHeartbeats 4000000
/-! the program's answers and the law's own are the same -/
namespace FR
open RF
def dotQ : List PI → List PI → Rat
  | p :: ps, c :: cs => val p * val c + dotQ ps cs
  | _, _ => 0
theorem top_val {p : PI} {m : Int} (h : Lf p.1 p.2) (d : p.2 ∣ m) : ((p.1 * m.fdiv p.2 : Int) : Rat) = (m : Rat) * val p := by
  have e := Int.fdiv_mul_cancel d
  have b := cast_ne h.ne
  have e2 : (m.fdiv p.2 : Rat) * p.2 = m := by rw [← Rat.intCast_mul, e]
  rw [Rat.intCast_mul]
  unfold val
  grind
theorem dot_tops {m1 m2 : Int} : ∀ {ps cs : List PI}, AllLf ps → AllLf cs → (∀ p ∈ ps, p.2 ∣ m1) → (∀ p ∈ cs, p.2 ∣ m2) → (dotI (topsP ps m1) (topsP cs m2) : Rat) = (m1 : Rat) * m2 * dotQ ps cs
  | [], [], _, _, _, _ => by show ((0 : Int) : Rat) = _ * (0 : Rat); grind
  | [], _ :: _, _, _, _, _ => by show ((0 : Int) : Rat) = _ * (0 : Rat); grind
  | _ :: _, [], _, _, _, _ => by show ((0 : Int) : Rat) = _ * (0 : Rat); grind
  | p :: ps, c :: cs, h1, h2, d1, d2 => by
    have ih := dot_tops (ps := ps) (cs := cs) (fun q hq => h1 q (List.mem_cons_of_mem _ hq)) (fun q hq => h2 q (List.mem_cons_of_mem _ hq)) (fun q hq => d1 q (List.mem_cons_of_mem _ hq)) (fun q hq => d2 q (List.mem_cons_of_mem _ hq))
    have a := top_val (h1 p List.mem_cons_self) (d1 p List.mem_cons_self)
    have b := top_val (h2 c List.mem_cons_self) (d2 c List.mem_cons_self)
    have e : dotI (topsP (p :: ps) m1) (topsP (c :: cs) m2) = (p.1 * m1.fdiv p.2) * (c.1 * m2.fdiv c.2) + dotI (topsP ps m1) (topsP cs m2) := by
      unfold dotI topsP
      simp only [List.map_cons, List.zipWith_cons_cons, List.sum_cons]
    rw [e, Rat.intCast_add, Rat.intCast_mul, ih, a, b]
    show _ = _ * (val p * val c + dotQ ps cs)
    grind
theorem dotP_val {ps cs : List PI} (h1 : AllLf ps) (h2 : AllLf cs) : Lf (dotP ps cs).1 (dotP ps cs).2 ∧ val (dotP ps cs) = dotQ ps cs := by
  have a := lcmP_pos h1
  have b := lcmP_pos h2
  have n : lcmP ps * lcmP cs ≠ 0 := Int.mul_ne_zero (by omega) (by omega)
  refine ⟨lf_n n, ?_⟩
  show val (nT _ _, nB _ _) = _
  rw [val_n n, dot_tops h1 h2 (lcmP_dvd ps) (lcmP_dvd cs), Rat.intCast_mul]
  have a' := cast_ne (show lcmP ps ≠ 0 by omega)
  have b' := cast_ne (show lcmP cs ≠ 0 by omega)
  grind
theorem prodP_val {ps cs : List PI} (h1 : AllLf ps) (h2 : AllLf cs) : Lf (prodP ps cs).1 (prodP ps cs).2 ∧ val (prodP ps cs) = dotQ ps cs := by
  have go : ∀ (ps cs : List PI) (acc : PI), AllLf ps → AllLf cs → Lf acc.1 acc.2 → Lf ((ps.zip cs).foldl (fun acc pr => plusP acc (byP pr.1 pr.2)) acc).1 ((ps.zip cs).foldl (fun acc pr => plusP acc (byP pr.1 pr.2)) acc).2 ∧ val ((ps.zip cs).foldl (fun acc pr => plusP acc (byP pr.1 pr.2)) acc) = val acc + dotQ ps cs := by
    intro ps
    induction ps with
    | nil => intro cs acc _ _ h; exact ⟨h, by show val acc = val acc + 0; grind⟩
    | cons p ps ih =>
      intro cs acc a1 a2 h
      cases cs with
      | nil => exact ⟨h, by show val acc = val acc + 0; grind⟩
      | cons c cs =>
        have lp := a1 p List.mem_cons_self
        have lc' := a2 c List.mem_cons_self
        have lb : Lf (byP p c).1 (byP p c).2 := lf_n (Int.mul_ne_zero lp.ne lc'.ne)
        have la : Lf (plusP acc (byP p c)).1 (plusP acc (byP p c)).2 := lf_n (Int.mul_ne_zero h.ne lb.ne)
        obtain ⟨i1, i2⟩ := ih cs (plusP acc (byP p c)) (fun q hq => a1 q (List.mem_cons_of_mem _ hq)) (fun q hq => a2 q (List.mem_cons_of_mem _ hq)) la
        refine ⟨i1, ?_⟩
        show val ((ps.zip cs).foldl _ (plusP acc (byP p c))) = _
        rw [i2, val_plus h lb, val_by lp lc']
        show _ = _ + (val p * val c + dotQ ps cs)
        grind
  obtain ⟨a, b⟩ := go ps cs (0, 1) h1 h2 (Lf.one 0)
  refine ⟨a, ?_⟩
  show val ((ps.zip cs).foldl _ (0, 1)) = _
  rw [b]
  have : val (0, 1) = 0 := (val_zero (p := (0, 1)) (Lf.one 0)).mpr rfl
  rw [this]; grind
theorem dot_prod {ps cs : List PI} (h1 : AllLf ps) (h2 : AllLf cs) : dotP ps cs = prodP ps cs := by
  obtain ⟨a, b⟩ := dotP_val h1 h2
  obtain ⟨c, d⟩ := prodP_val h1 h2
  exact val_inj a c (by rw [b, d])
/-! ### the cleared forms -/
theorem line_val {ps : List PI} (h : AllLf ps) (j : Nat) : vec (lineP ps) j = (lcmP ps : Rat) * valV ps j := by
  by_cases hj : j < ps.length
  · obtain ⟨p, hp⟩ : ∃ p, ps[j]? = some p := ⟨_, List.getElem?_eq_getElem hj⟩
    have m := List.mem_of_getElem? hp
    have e : (lineP ps)[j]? = some (p.1 * (lcmP ps).fdiv p.2) := by
      unfold lineP topsP
      rw [List.getElem?_map, hp]; rfl
    show ((ent (lineP ps) j : Int) : Rat) = _
    rw [ent_some e, valV_get hp]
    exact top_val (h p m) (lcmP_dvd ps p m)
  · have e : (lineP ps).length ≤ j := by unfold lineP topsP; rw [List.length_map]; omega
    show ((ent (lineP ps) j : Int) : Rat) = _
    rw [ent_none e, valV_out (by omega)]
    show ((0 : Int) : Rat) = _
    grind
theorem form_conv {n k : Nat} {R : Nat → Vec} {P : Nat → Nat} {pss : List (List PI)} (h : ∀ ps ∈ pss, AllLf ps) (F : Form n k R P (pss.map fun ps => vec (lineP ps))) : Form n k R P (pss.map valV) := by
  refine ⟨F.pn, F.piv, F.lead, fun i hi => (F.spn i hi).mono fun x hx => ?_, fun x hx j hj => ?_⟩
  · obtain ⟨ps, m, rfl⟩ := List.mem_map.mp hx
    exact (Sp.smul (lcmP ps : Rat) (.mem (List.mem_map.mpr ⟨ps, m, rfl⟩))).of_eq fun j => line_val (h ps m) j
  · obtain ⟨ps, m, rfl⟩ := List.mem_map.mp hx
    have p := lcmP_pos (h ps m)
    have z := cast_ne (show lcmP ps ≠ 0 by omega)
    have s : Sp (pss.map fun ps => vec (lineP ps)) (valV ps) := (Sp.smul (1 / (lcmP ps : Rat)) (.mem (List.mem_map.mpr ⟨ps, m, rfl⟩))).of_eq fun j => by rw [line_val (h ps m)]; grind
    exact F.phi_sp s j hj
theorem eq_of_sorted : ∀ {xs ys : List Nat}, xs.Pairwise (· < ·) → ys.Pairwise (· < ·) → (∀ a, a ∈ xs ↔ a ∈ ys) → xs = ys
  | [], [], _, _, _ => rfl
  | [], y :: ys, _, _, h => by have := (h y).mpr List.mem_cons_self; cases this
  | x :: xs, [], _, _, h => by have := (h x).mp List.mem_cons_self; cases this
  | x :: xs, y :: ys, h1, h2, h => by
    rw [List.pairwise_cons] at h1 h2
    have e : x = y := by
      have a := (h x).mp List.mem_cons_self
      have b := (h y).mpr List.mem_cons_self
      rcases List.mem_cons.mp a with e | m
      · exact e
      · rcases List.mem_cons.mp b with e' | m'
        · exact e'.symm
        · have := h1.1 y m'; have := h2.1 x m; omega
    subst e
    rw [eq_of_sorted (xs := xs) (ys := ys) h1.2 h2.2 fun a => ?_]
    constructor
    · intro m
      rcases List.mem_cons.mp ((h a).mp (List.mem_cons_of_mem _ m)) with e | m'
      · have := h1.1 a m; omega
      · exact m'
    · intro m
      rcases List.mem_cons.mp ((h a).mpr (List.mem_cons_of_mem _ m)) with e | m'
      · have := h2.1 a m; omega
      · exact m'
theorem out_form {n : Nat} {rows : List (List Int)} {places ys : List Nat} {d : Int} {pss found : List (List PI)} {pl : List Nat} (h : ∀ ps ∈ pss, AllLf ps) (I : EI n rows places d (pss.map fun ps => vec (lineP ps)))
    (pm : ys.Perm places) (so : ys.Pairwise (· ≤ ·)) (Xln : found.length = pl.length) (Xfz : ∀ ps ∈ found, ps.length = n ∧ AllLf ps) (G : Form n found.length (fun i => valV (found.getD i [])) (fun i => pl.getD i 0) (pss.map valV)) (ps1 : pl.Pairwise (· < ·)) : outP rows places d ys = found := by
  have F := form_conv h I.fm
  have gp : ∀ k (hk : k < places.length), places.getD k 0 = places[k] := fun k hk => by rw [List.getD_eq_getElem?_getD, List.getElem?_eq_getElem hk]; rfl
  have gl : ∀ k (hk : k < pl.length), pl.getD k 0 = pl[k] := fun k hk => by rw [List.getD_eq_getElem?_getD, List.getElem?_eq_getElem hk]; rfl
  have nd : places.Nodup := by
    rw [List.nodup_iff_pairwise_ne, List.pairwise_iff_getElem]
    intro i j hi hj lt e
    have := F.inj (i := i) (m := j) (by rw [I.ln]; exact hi) (by rw [I.ln]; exact hj) (by show places.getD i 0 = places.getD j 0; rw [gp i hi, gp j hj, e])
    omega
  have ynd : ys.Nodup := pm.nodup_iff.mpr nd
  have ys1 : ys.Pairwise (· < ·) := by
    have a := List.nodup_iff_pairwise_ne.mp ynd
    exact (so.and a).imp fun ⟨x, y⟩ => by omega
  have same : ∀ a, a ∈ ys ↔ a ∈ pl := fun a => by
    rw [pm.mem_iff]
    constructor
    · intro m
      obtain ⟨i, hi, e⟩ := List.getElem_of_mem m
      obtain ⟨k, hk, e2⟩ := F.place G (i := i) (by rw [I.ln]; exact hi)
      have e2 : places.getD i 0 = pl.getD k 0 := e2
      rw [Xln] at hk
      rw [gp i hi, e, gl k hk] at e2
      rw [e2]; exact List.getElem_mem _
    · intro m
      obtain ⟨i, hi, e⟩ := List.getElem_of_mem m
      obtain ⟨k, hk, e2⟩ := G.place F (i := i) (by rw [Xln]; exact hi)
      have e2 : pl.getD i 0 = places.getD k 0 := e2
      rw [I.ln] at hk
      rw [gl i hi, e, gp k hk] at e2
      rw [e2]; exact List.getElem_mem _
  have eq := eq_of_sorted ys1 ps1 same
  subst eq
  refine List.ext_getElem? fun i => ?_
  by_cases hi : i < ys.length
  · obtain ⟨y, hy⟩ : ∃ y, ys[i]? = some y := ⟨_, List.getElem?_eq_getElem hi⟩
    obtain ⟨fi, hfi⟩ : ∃ fi, found[i]? = some fi := ⟨_, List.getElem?_eq_getElem (by rw [Xln]; exact hi)⟩
    have gy : ys.getD i 0 = y := by rw [List.getD_eq_getElem?_getD, hy]; rfl
    have gf : found.getD i [] = fi := by rw [List.getD_eq_getElem?_getD, hfi]; rfl
    obtain ⟨k, hk, e1, e2⟩ := G.uniq F (i := i) (by rw [Xln]; exact hi)
    have e1 : ys.getD i 0 = places.getD k 0 := e1
    have e2 : ∀ j, j < n → valV (found.getD i []) j = (ent (rows.getD k []) j : Rat) / d := e2
    rw [I.ln] at hk
    rw [gy, gp k hk] at e1
    have ix : places.idxOf y = k := by rw [e1]; exact nd.idxOf_getElem k hk
    have hr : rows[k]? = some (rows.getD k []) := by rw [List.getD_eq_getElem?_getD, List.getElem?_eq_getElem (by rw [I.ln]; exact hk)]; rfl
    have rl := I.wd _ (List.mem_of_getElem? hr)
    obtain ⟨fl, fz⟩ := Xfz fi (List.mem_of_getElem? hfi)
    have l1 : (outP rows places d ys)[i]? = some (ovP (rows.getD k []) d) := by
      unfold outP
      rw [List.getElem?_map, hy]
      show some (ovP (rows.getD (places.idxOf y) []) d) = _
      rw [ix]
    rw [l1, hfi]
    congr 1
    refine List.ext_getElem? fun j => ?_
    by_cases hj : j < n
    · obtain ⟨p, hp⟩ : ∃ p, fi[j]? = some p := ⟨_, List.getElem?_eq_getElem (by rw [fl]; exact hj)⟩
      have o1 : (ovP (rows.getD k []) d)[j]? = some (nT (ent (rows.getD k []) j) d, nB (ent (rows.getD k []) j) d) := by
        unfold ovP
        rw [List.getElem?_map, get_ent (by rw [rl]; exact hj)]; rfl
      rw [o1, hp]
      congr 1
      refine val_inj (lf_n I.d0) (fz p (List.mem_of_getElem? hp)) ?_
      rw [val_n I.d0, ← e2 j hj, gf, valV_get hp]
    · rw [List.getElem?_eq_none (by unfold ovP; rw [List.length_map, rl]; omega), List.getElem?_eq_none (by rw [fl]; omega)]
  · rw [List.getElem?_eq_none (by unfold outP; rw [List.length_map]; omega), List.getElem?_eq_none (by rw [Xln]; omega)]
theorem CS.sorted {n : Nat} {left found : List (List PI)} {pl : List Nat} {L : List Vec} (X : CS n n left found pl L) : pl.Pairwise (· < ·) := by
  rw [List.pairwise_iff_getElem]
  intro i j hi hj lt
  have := X.pf.up i j lt (by rw [X.ln]; exact hj)
  have e : ∀ k (hk : k < pl.length), pl.getD k 0 = pl[k] := fun k hk => by rw [List.getD_eq_getElem?_getD, List.getElem?_eq_getElem hk]; rfl
  rw [e i hi, e j hj] at this
  exact this
theorem out_found {n : Nat} {rows : List (List Int)} {places ys : List Nat} {d : Int} {pss left found : List (List PI)} {pl : List Nat} (h : ∀ ps ∈ pss, AllLf ps) (I : EI n rows places d (pss.map fun ps => vec (lineP ps)))
    (pm : ys.Perm places) (so : ys.Pairwise (· ≤ ·)) (X : CS n n left found pl (pss.map valV)) : outP rows places d ys = found :=
  out_form h I pm so X.ln (fun ps m => ⟨(X.fz ps m).1, fun p hp => ((X.fz ps m).2 p hp).lf⟩) X.pf.done X.sorted
/-- the rows of a cleared form are their own cleared form -/
theorem form_self {n : Nat} {found : List (List PI)} {P : Nat → Nat} {L : List Vec} (G : Form n found.length (fun i => valV (found.getD i [])) P L) : Form n found.length (fun i => valV (found.getD i [])) P (found.map valV) := by
  have mem : ∀ i, i < found.length → valV (found.getD i []) ∈ found.map valV := fun i hi => List.mem_map.mpr ⟨found.getD i [], by rw [List.getD_eq_getElem?_getD, List.getElem?_eq_getElem hi]; exact List.getElem_mem _, rfl⟩
  refine ⟨G.pn, G.piv, G.lead, fun i hi => .mem (mem i hi), fun x hx j hj => ?_⟩
  obtain ⟨ps, m, rfl⟩ := List.mem_map.mp hx
  obtain ⟨i, hi, e⟩ := List.getElem_of_mem m
  have ge : found.getD i [] = ps := by rw [List.getD_eq_getElem?_getD, List.getElem?_eq_getElem hi, ← e]; rfl
  rw [S_one hi]
  · have p1 : valV (found.getD i []) (P i) = 1 := by have := G.piv i i hi hi; rw [if_pos rfl] at this; exact this
    show valV ps j = valV ps (P i) * valV (found.getD i []) j
    rw [ge] at p1 ⊢
    rw [p1]; grind
  · intro k hk ne
    have p0 : valV (found.getD i []) (P k) = 0 := by have := G.piv i k hi hk; rw [if_neg (Ne.symm ne)] at this; exact this
    show valV ps (P k) * _ = 0
    rw [ge] at p0
    rw [p0]; grind
theorem out_again {n : Nat} {rows : List (List Int)} {places ys : List Nat} {d : Int} {left found : List (List PI)} {pl : List Nat} {L : List Vec} (I : EI n rows places d (found.map fun ps => vec (lineP ps))) (pm : ys.Perm places) (so : ys.Pairwise (· ≤ ·)) (X : CS n n left found pl L) : outP rows places d ys = found :=
  out_form (fun ps m p hp => ((X.fz ps m).2 p hp).lf) I pm so X.ln (fun ps m => ⟨(X.fz ps m).1, fun p hp => ((X.fz ps m).2 p hp).lf⟩) (form_self X.pf.done) X.sorted
end FR
set_option Elab.async false
set_option linter.all false
set_option maxRecDepth 100000
set_option maxHeartbeats 4000000
/-! the rows of an answer, cleared once more, stay short -/
namespace FR
open RF L2
theorem ov_get {r : List Int} {d : Int} {p : PI} (h : p ∈ ovP r d) : ∃ x, x ∈ r ∧ p = (nT x d, nB x d) := by
  unfold ovP at h
  obtain ⟨x, m, e⟩ := List.mem_map.mp h
  exact ⟨x, m, e.symm⟩
theorem ov_lcm {d : Int} (hd : d ≠ 0) : ∀ ps : List PI, (∀ p ∈ ps, ∃ x, p = (nT x d, nB x d)) → lcmP ps ∣ d := by
  intro ps
  induction ps using snoc_ind with
  | h0 => intro _; exact ⟨d, by show d = 1 * d; omega⟩
  | h l x ih =>
    intro h
    rw [lcmP_snoc]
    have i1 := ih fun p m => h p (List.mem_append_left _ m)
    obtain ⟨y, hy⟩ := h x (List.mem_append_right _ (List.mem_singleton.mpr rfl))
    have i2 : x.2 ∣ d := by
      rw [hy]
      exact ⟨dv y d, (nB_mul hd).symm⟩
    unfold lc
    exact Int.natAbs_dvd_natAbs.mp (by
      rw [Int.natAbs_natCast]
      exact Nat.lcm_dvd (Int.natAbs_dvd_natAbs.mpr i1) (Int.natAbs_dvd_natAbs.mpr i2))
theorem ov_lf {r : List Int} {d : Int} (hd : d ≠ 0) : AllLf (ovP r d) := fun p h => by
  obtain ⟨x, _, e⟩ := ov_get h
  rw [e]
  exact lf_n hd
theorem mem_sh {r : List Int} {m : Nat} {x : Int} (h : ∀ j, (ent r j).natAbs < 2 ^ m) (hx : x ∈ r) : x.natAbs < 2 ^ m := by
  obtain ⟨i, hi⟩ := List.mem_iff_getElem?.mp hx
  have := h i
  rw [ent_some hi] at this
  exact this
theorem ov_shr {r : List Int} {d : Int} {m : Nat} (hd : d ≠ 0) (h : ∀ j, (ent r j).natAbs < 2 ^ m) (hz : d.natAbs < 2 ^ m) (m24 : m ≤ 2400) : Shr (ovP r d) := by
  have dl : (lcmP (ovP r d)).natAbs ≤ d.natAbs := Nat.le_of_dvd (by omega) (Int.natAbs_dvd_natAbs.mpr (ov_lcm hd _ fun p hp => by
    obtain ⟨x, _, e⟩ := ov_get hp
    exact ⟨x, e⟩))
  refine ⟨pow_up (Nat.lt_of_le_of_lt dl hz) (by omega), fun p hp => ?_⟩
  obtain ⟨x, hx, e⟩ := ov_get hp
  rw [e]
  exact ⟨pow_up (Nat.lt_of_le_of_lt (nT_le hd) (mem_sh h hx)) m24, pow_up (Nat.lt_of_le_of_lt (nB_le hd) hz) m24⟩
theorem ov_line {r : List Int} {d : Int} {m : Nat} (hd : d ≠ 0) (h : ∀ j, (ent r j).natAbs < 2 ^ m) : Sh (lineP (ovP r d)) m := by
  intro j
  by_cases hj : j < (lineP (ovP r d)).length
  · obtain ⟨p, m1, e1⟩ := topsP_get (get_ent hj)
    obtain ⟨x, hx, e⟩ := ov_get m1
    show (ent (topsP (ovP r d) (lcmP (ovP r d))) j).natAbs < _
    rw [e1]
    have al := ov_lf (r := r) hd
    have ld := lcmP_dvd (ovP r d) p m1
    have lD := ov_lcm hd (ovP r d) fun p hp => by
      obtain ⟨x, _, e⟩ := ov_get hp
      exact ⟨x, e⟩
    obtain ⟨k, hk⟩ := lD
    have f := Int.fdiv_mul_cancel ld
    generalize (lcmP (ovP r d)).fdiv p.2 = q at *
    have n1 := nT_mul (t := x) hd
    have n2 := nB_mul (t := x) hd
    have e2 : p.1 = nT x d := by rw [e]
    have e3 : p.2 = nB x d := by rw [e]
    have b0 : nB x d ≠ 0 := by have := nB_pos (t := x) hd; omega
    have c : dv x d = q * k := by
      have : nB x d * dv x d = nB x d * (q * k) := by
        rw [n2, hk, ← f, e3]
        grind
      exact Int.eq_of_mul_eq_mul_left b0 this
    have z : x = (p.1 * q) * k := by rw [← n1, c, e2]; grind
    have k0 : k ≠ 0 := fun y => by
      rw [y] at hk
      exact hd (by rw [hk]; simp)
    have : (p.1 * q).natAbs ≤ x.natAbs := by
      have y : x.natAbs = (p.1 * q).natAbs * k.natAbs := by rw [z, Int.natAbs_mul (p.1 * q) k]
      rw [y]
      exact Nat.le_mul_of_pos_right _ (Int.natAbs_pos.mpr k0)
    exact Nat.lt_of_le_of_lt this (mem_sh h hx)
  · rw [ent_none (by omega)]
    exact Nat.pow_pos (by decide)
end FR
set_option Elab.async false
set_option linter.all false
set_option maxRecDepth 100000
set_option maxHeartbeats 4000000
namespace FR
open PySem PySem.Spec PyProof.Rows L2 LD RF
/-- lists of pairs in a list at fo, none of them at fo -/
def LY (H : Hp) (fo : Addr) (pss : List (List PI)) : Prop := ∃ vs, H fo = some (.lst vs) ∧ AG (fun v ps => ∃ q, v = .ref q ∧ q ≠ fo ∧ PL H q ps) vs pss
theorem LY.ll {H : Hp} {fo : Addr} {pss : List (List PI)} (h : LY H fo pss) : LL H fo pss := by
  obtain ⟨vs, e, z⟩ := h
  exact ⟨vs, e, z.imp fun _ _ ⟨q, e, _, t⟩ => ⟨q, e, t⟩⟩
theorem LY.same {H H' : Hp} {fo : Addr} {pss : List (List PI)} (h : LY H fo pss) (s : Same H H') : LY H' fo pss := by
  obtain ⟨vs, e, z⟩ := h
  exact ⟨vs, s _ _ e, z.imp fun _ _ ⟨q, e, n, t⟩ => ⟨q, e, n, t.same s⟩⟩
theorem LY.rl {d : Addr} {H H' : Hp} {a : Addr} {pss : List (List PI)} (h : LY H a pss) (n : a ≠ d) (hd : DiceAt H d) (r : Rl d H H') : LY H' a pss := by
  obtain ⟨us, e, z⟩ := h
  exact ⟨us, r.2 _ _ n e, z.imp fun _ _ ⟨q, e, m, t⟩ => ⟨q, e, m, t.rl (t.ne hd) hd r⟩⟩
theorem at_last {α : Type} (xs : List α) (h : xs ≠ []) : atI xs (-1) = some (xs.getLast h) := by
  have e := List.dropLast_concat_getLast h
  have z := atI_last xs.dropLast (xs.getLast h)
  rw [e] at z
  exact z
theorem flat_rep {α : Type} (x : α) : ∀ n : Nat, (List.replicate n [x]).flatten = List.replicate n x
  | 0 => rfl
  | n + 1 => by rw [List.replicate_succ, List.flatten_cons, flat_rep x n, List.replicate_succ]; rfl
theorem rep_tps {H : Hp} {t : Addr} (ht : TA H t (0, 1)) (n : Nat) : TPs H (List.replicate n (V.ref t)) (List.replicate n ((0, 1) : PI)) := by
  refine ⟨by rw [List.length_replicate, List.length_replicate], fun i v hv => ?_⟩
  rw [List.getElem?_replicate] at hv ⊢
  split at hv
  · next z =>
    rw [if_pos z]
    cases hv
    exact ⟨_, rfl, t, rfl, ht⟩
  · cases hv
theorem seq_join {a r : TS} {D : Ends} {σ : L2.St} {H : Hp} {Fx : Hp → Addr → Prop} (σf : Addr → L2.St) (hrest : ∀ Hx fr, Fx Hx fr → r D (σf fr) Hx) (hgo : ∀ N : L2.St → Hp → Prop, (∀ Hx fr, Fx Hx fr → N (σf fr) Hx) → a { D with nx := N } σ H) : tSeq a r D σ H := hgo _ hrest
section
variable {P : Program} {w : World} {K : PySem.W.Frag} {mg : Str → Option Value} {base : Heap}
abbrev sLn : Stmt := FR.top 46
abbrev NLn : List Str := ["_law_dice_here", "_law_most", "_law_wide", "_law_size", "_law_found", "_law_turn", "_law_way", "_law_fresh", "_law_place", "_law_one", "_law_other"]
theorem scLn : FnScope NLn ["_law_dice_here", "_law_most", "_law_wide"] (defScope sLn) := ⟨rfl, rfl, rfl, by decide +kernel, rfl, by decide +kernel, by decide +kernel⟩
def spLn : Sp := fun vs H Q _ => ∃ (d : Addr), vs = [.ref d, .int 5, .int 4] ∧ DiceAt H d ∧ ∀ (fo : Addr) (pss : List (List PI)) (n : Nat) H', 1 ≤ n → n ≤ 4 → 1 ≤ pss.length → pss.length ≤ 5 → (∀ ps ∈ pss, ps.length = n ∧ ∀ p ∈ ps, Q12 112 p) → LL H' fo pss → Rl d H H' → Q (.ref fo) H'
theorem ok_ln {f : Addr} {fd : FuncData} (F : Fun K "_law_lines" "_law_lines" sLn f fd) (T : TxtC mg) (mZ : mg "zip" = none) (gR : Glo P w K mg base "_law_roll" 1 ["_law_dice_here", "_law_total"] spRoll) (gO : Glo P w K mg base "_law_one_of" 2 ["_law_dice_here", "_law_items"] spOneOf) (gN : Glo P w K mg base "_law_number" 3 ["_law_dice_here"] spNu) (gB : Glo P w K mg base "_law_by" 3 N12 (spLP byP)) (gA : Glo P w K mg base "_law_plus" 3 N12 (spLP plusP)) : FnOk P w K mg base CX0 4 f fd ["_law_dice_here", "_law_most", "_law_wide"] spLn := by
  refine F.ok scLn (fun vs H Q E h => ?_) (fun cdv A outer s H vs Q E hr h => ?_)
  · obtain ⟨d, rfl, _⟩ := h
    rfl
  · obtain ⟨d, rfl, hd, q⟩ := h
    refine ⟨_, (pss_cons (ps_par (i := 3) (j := 4) (by rfl) scLn.nd rfl rfl (by decide) rfl rfl (pa_cons (pe_op op_add pe_int (pe_call gR.G (hr.mono (by decide)) (by rfl) gR.m gR.k gR.b .nil pass0 (pa_cons (pv 0) (pa_cons (pv 2) pa_nil)))) (pa_cons (pe_lst pa_nil) pa_nil)) (by rfl))
      (pss_cons (ps_for PassesOwn.never rfl (pi_range1 (by rfl) T.range (pa_cons (pe_op op_add pe_int (pe_call gR.G (hr.mono (by decide)) (by rfl) gR.m gR.k gR.b .nil pass0 (pa_cons (pv 0) (pa_cons (pv 1) pa_nil)))) pa_nil)) (pg_name (i := 5) scLn.nd rfl (.inl rfl))
        (pss_cons (ps_par (i := 6) (j := 7) (by rfl) scLn.nd rfl rfl (by decide) rfl rfl (pa_cons (pe_call gR.G (hr.mono (by decide)) (by rfl) gR.m gR.k gR.b .nil pass0 (pa_cons (pv 0) (pa_cons pe_int pa_nil))) (pa_cons (pe_lc (X := (cxOf CX0 P w K mg base NLn "_law_lines" (defScope sLn) f cdv A outer s H E).nox) (own := [("_law_place", 8)]) (g := (gName 8)) (tt := tYes) rfl scLn.nd (pi_range1 (by rfl) T.range (pa_cons (pv 3) pa_nil)) (blkOk_by (N := NLn) (sc := defScope sLn) (by decide +kernel)) (fun _ _ _ _ _ => (pg_name (i := 8) scLn.nd rfl (.inl rfl))) (fun _ _ _ _ _ => pts_nil) (fun _ _ _ _ _ => (pe_call gN.G hr (by rfl) gN.m gN.k gN.b .nil pass0 (pa_cons (pv 0) pa_nil)))) pa_nil)) (by rfl))
      (pss_cons (ps_if (PW.pt (pw_and (pt_cmpR op_eq (pv 6) pe_int (nomark _)) (pw_and1 (pt_cmpR (op_neD hr.units) (pv 4) (pe_lst pa_nil) (nomark _))))) (pss_one (ps_setLc (i := 7) (X := (cxOf CX0 P w K mg base NLn "_law_lines" (defScope sLn) f cdv A outer s H E).nox) (own := [("_law_one", 9)]) (g := (gName 9)) (tt := tYes) rfl scLn.nd rfl rfl (sw_true rfl rfl rfl (by decide +kernel)) (pi_list (pe_call gO.G (hr.mono (by decide)) (by rfl) gO.m gO.k gO.b .nil pass0 (pa_cons (pv 0) (pa_cons (pv 4) pa_nil)))) (blkOk_by (N := NLn) (sc := defScope sLn) (by decide +kernel)) (fun _ _ _ _ _ => (pg_name (i := 9) scLn.nd rfl (.inl rfl))) (fun _ _ _ _ _ => pts_nil) (fun _ _ _ _ _ => (pe_call gB.G hr (by rfl) gB.m gB.k gB.b .nil pass0 (pa_cons (pe_tup (pa_cons pe_int (pa_cons pe_int pa_nil))) (pa_cons (pv 9) pa_nil)))))) pss_nil)
      (pss_cons (ps_if (PW.pt (pw_and (pt_cmpR op_eq (pv 6) pe_int (nomark _)) (pw_and1 (pt_cmpR op_gt (pe_callB call_len_seq (by rfl) T.len PySem.boot_len (pa_cons (pv 4) pa_nil)) pe_int (nomark _))))) (pss_one (ps_setLc (i := 7) (X := (cxOf CX0 P w K mg base NLn "_law_lines" (defScope sLn) f cdv A outer s H E).nox) (own := [("_law_one", 9), ("_law_other", 10)]) (g := (gTup K 2 (gCons (gName 9) (gCons (gName 10) gNil)))) (tt := tYes) rfl scLn.nd rfl rfl (sw_true rfl rfl rfl (by decide +kernel)) (pi_zip (by rfl) mZ (pa_cons (pe_ix ix_list (pv 4) pe_int (fun _ _ => rfl)) (pa_cons (pe_ix ix_list (pv 4) (pe_un un_neg pe_int) (fun _ _ => rfl)) pa_nil))) (blkOk_by (N := NLn) (sc := defScope sLn) (by decide +kernel)) (fun _ _ _ _ _ => (pg_tupK (K := K) rfl rfl (pgs_cons (pg_name (i := 9) scLn.nd rfl (.inl rfl)) (pgs_cons (pg_name (i := 10) scLn.nd rfl (.inl rfl)) pgs_nil)))) (fun _ _ _ _ _ => pts_nil) (fun _ _ _ _ _ => (pe_call gA.G hr (by rfl) gA.m gA.k gA.b .nil pass0 (pa_cons (pv 9) (pa_cons (pv 10) pa_nil)))))) pss_nil)
      (pss_cons (ps_if (pt_cmpR op_eq (pv 6) pe_int (nomark _)) (pss_one (ps_set (i := 7) scLn.nd rfl (Or.inl rfl) (pe_op op_rep (pe_lst (pa_cons (pe_tup (pa_cons pe_int (pa_cons pe_int pa_nil))) pa_nil)) (pv 3)))) pss_nil)
      (pss_one (ps_expr (pe_bm PySem.F.plainAttrs_list PySem.F.slot_list_append PySem.F.type_list_append mt_append (pv 4) (pa_cons (pv 7) pa_nil)))))))))
      (pss_one (ps_ret (pv 4))))), ?_⟩
    refine ⟨_, rfl, _, rfl, d, 4, rfl, hd, by decide, by decide, fun r x y u r0 r4 => ?_⟩
    have R1 : Rl d H (upd H d (.lst (dxs x y u))) := (Rl.refl hd).roll
    generalize upd H d _ = H1 at R1 ⊢
    refine ⟨_, _, rfl, rfl, Nat.zero_le _, fun fo hfo => ?_⟩
    have fd' := dice_ne R1.1 hfo
    have R2 : Rl d H (upd H1 fo (.lst [])) := R1.new hfo
    have nfo : H fo = none := R1.free hd hfo
    have hfo2 : upd H1 fo (.lst []) fo = some (.lst []) := upd_same
    generalize upd H1 fo _ = H2 at *
    refine ⟨_, _, rfl, ?_⟩
    refine ⟨_, rfl, _, rfl, d, 5, rfl, R2.1, by decide, by decide, fun r2 x2 y2 u2 r20 r25 => ?_⟩
    have R3 : Rl d H (upd H2 d (.lst (dxs x2 y2 u2))) := R2.roll
    have hfo3 : upd H2 d (.lst (dxs x2 y2 u2)) fo = some (.lst []) := by rw [upd_ne fd']; exact hfo2
    generalize upd H2 d _ = H3 at *
    obtain ⟨n, hn, n1, n4⟩ : ∃ n : Nat, (1 : Int) + r = (n : Int) ∧ 1 ≤ n ∧ n ≤ 4 := ⟨(1 + r).toNat, by omega, by omega, by omega⟩
    have he : (fun i j : Int => V.int (i + j)) 1 r = V.int (n : Int) := by show V.int (1 + r) = _; rw [hn]
    rw [he]
    refine ⟨_, _, rfl, rfl, 1 + r2, rfl, by omega, by omega, ?_⟩
    refine for_range (n := (1 + r2).toNat) (fun i σ Hc => Rl d H Hc ∧ ∃ (pss : List (List PI)) (x5 x6 x7 : Option V), σ = [some (.ref d), some (.int 5), some (.int 4), some (.int (n : Nat)), some (.ref fo), x5, x6, x7, none, none, none] ∧ LY Hc fo pss ∧ pss.length = i ∧ (∀ ps ∈ pss, ps.length = n ∧ ∀ p ∈ ps, Q12 (7 * 2 ^ i / 2) p))
      ⟨R3, [], _, _, _, rfl, ⟨[], hfo3, AG.nil⟩, rfl, fun ps m => (by cases m)⟩ ?_ ?_
    · rintro i σ Hc hi ⟨Rc, pss, x5, x6, x7, rfl, ly, pl, hz⟩
      have i5 : i < 5 := by omega
      have pw : 2 ^ (i + 1) = 2 * 2 ^ i := by rw [Nat.pow_succ]; omega
      have p1 : 1 ≤ 2 ^ i := Nat.pow_pos (by decide)
      refine ⟨_, rfl, d, 6, rfl, Rc.1, by decide, by decide, fun w0 x3 y3 u3 w00 w06 => ?_⟩
      have R4 : Rl d Hc (upd Hc d (.lst (dxs x3 y3 u3))) := (Rl.refl Rc.1).roll
      have ly4 := ly.rl fd' Rc.1 R4
      have Rc4 := Rc.trans R4
      generalize upd Hc d _ = H4 at *
      refine ⟨_, rfl, (n : Int), rfl, by omega, by omega, fun D hD => ?_⟩
      have natn : ((n : Int)).toNat = n := by omega
      rw [natn]
      have Dd := dice_ne Rc4.1 hD
      refine lc_range (lo := 0) (n := n) (fun j Hx => Rl d H4 Hx ∧ ∃ us ps, Hx D = some (.lst us) ∧ TPs Hx us ps ∧ ps.length = j ∧ ∀ p ∈ ps, Q12 7 p) ⟨(Rl.refl Rc4.1).grow hD Dd, [], [], upd_same, A2.nil, rfl, fun p m => (by cases m)⟩ ?_ ?_
      · rintro j Hx hj ⟨rx, us, ps, hDx, hu, lj, hq⟩
        refine ⟨rfl, _, rfl, d, rfl, rx.1, fun t b x H' t1 t2 b1 b2 r2 nx => ?_⟩
        have sx : Same H' (upd H' x (.tup [.int (nT t b), .int (nB t b)])) := same_new nx
        have e := sx _ _ (r2.2 _ _ Dd hDx)
        have hu2 : TPs (upd H' x (.tup [.int (nT t b), .int (nB t b)])) us ps := A2.imp hu fun _ _ z => by
          obtain ⟨q, e1, e2⟩ := z.rl rx.1 r2
          exact ⟨q, e1, sx _ _ e2⟩
        refine ⟨us, e, small1000 (by rw [hu.1]; omega), ((rx.trans r2).same sx).grow hD Dd, us ++ [.ref x], ps ++ [(nT t b, nB t b)], upd_same, ?_, by rw [List.length_append, lj]; rfl, fun p m => ?_⟩
        · exact A2.snoc (hu2.updl e) ⟨x, rfl, tup_updl upd_same e⟩
        · rcases List.mem_append.mp m with z | z
          · exact hq p z
          · rw [List.mem_singleton.mp z]; exact q12_num t1 t2 b1 b2
      rintro H5 ⟨r5, us, ps, hD5, hu5, l5, q5⟩
      have ly5 := ly4.rl fd' Rc4.1 r5
      have Rc5 := Rc4.trans r5
      have Dfo : D ≠ fo := fun z => by
        obtain ⟨_, e, _⟩ := ly4
        rw [z, e] at hD; cases hD
      refine ⟨_, _, rfl, ?_⟩
      let Fx : Hp → Addr → Prop := fun Hx fr => Rl d H Hx ∧ LY Hx fo pss ∧ fr ≠ fo ∧ ∃ ps, PL Hx fr ps ∧ ps.length = n ∧ ∀ p ∈ ps, Q12 (7 * 2 ^ (i + 1) / 2) p
      have F0 : Fx H5 D := ⟨Rc5, ly5, Dfo, ps, ⟨us, hD5, hu5⟩, l5, fun p m => (q5 p m).up (by omega)⟩
      have fsame : ∀ Hx Hy fr, Fx Hx fr → Same Hx Hy → Fx Hy fr := fun Hx Hy fr ⟨h1, h2, h3, ps, h4, h5⟩ s => ⟨h1.same s, h2.same s, h3, ps, h4.same s, h5⟩
      dsimp only
      refine seq_join (Fx := Fx) (fun fr => [some (.ref d), some (.int 5), some (.int 4), some (.int (n : Nat)), some (.ref fo), some (.int (0 + (i : Nat))), some (.int w0), some (.ref fr), none, none, none]) ?R fun N R => ?_
      rotate_left
      refine ⟨_, rfl, rfl, _, rfl, ite2 (fun z => ?a) (fun z => iteF (R H5 D F0))⟩
      case a =>
        obtain ⟨_, hl5⟩ := id ly5
        refine ⟨_, rfl, Nat.zero_le _, fun l0 hl0 => ?_⟩
        have s6 : Same H5 (upd H5 l0 (.lst [])) := same_new hl0
        have hl6 : upd H5 l0 (.lst []) l0 = some (.lst []) := upd_same
        have F6 := fsame _ _ _ F0 s6
        have ly6 := ly5.same s6
        have Rc6 := Rc5.same s6
        generalize upd H5 l0 _ = H6 at *
        refine ⟨llD pss, .list [], ly6.ll.dp, Dp.lst (SqL.of hl6) .nil, llD_shaped pss, rfl, _, rfl, ?_⟩
        rw [llD_nil]
        by_cases hnil : pss = []
        · have en : (!pss.isEmpty) = false := by rw [hnil]; rfl
          rw [en]
          exact iteF (R _ _ F6)
        · have en : (!pss.isEmpty) = true := by
            cases pss with
            | nil => exact absurd rfl hnil
            | cons _ _ => rfl
          have lpos : 0 < pss.length := List.length_pos_iff.mpr hnil
          rw [en]
          refine iteT ?_
          obtain ⟨vs, hv1, hv2⟩ := id ly6
          have vl : vs.length = i := by rw [hv2.1]; exact pl
          refine ⟨_, rfl, _, rfl, d, fo, vs, rfl, Rc6.1, hv1, fd', by rw [hv2.1]; exact lpos, by omega, fun kk xx x7 y7 u7 hk => ?_⟩
          have R7 : Rl d H6 (upd H6 d (.lst (dxs x7 y7 u7))) := (Rl.refl Rc6.1).roll
          have ly7 := ly6.rl fd' Rc6.1 R7
          have Rc7 := Rc6.trans R7
          generalize upd H6 d _ = H7 at *
          obtain ⟨vs7, hv7, hw7⟩ := id ly7
          obtain ⟨pk, hpk, qk, rfl, _, _⟩ := hv2.2 kk xx hk
          have hk7 : ∃ q7, vs7[kk]? = some (.ref q7) ∧ PL H7 q7 pk ∧ q7 = qk := by
            have e := R7.2 _ _ fd' hv1
            rw [hv7] at e
            have e2 : vs7 = vs := by injection e with e; injection e
            obtain ⟨pk2, h1, q7, h2, _, h3⟩ := hw7.2 kk (.ref qk) (by rw [e2]; exact hk)
            rw [hpk] at h1
            cases h1
            cases h2
            exact ⟨qk, by rw [e2]; exact hk, h3, rfl⟩
          obtain ⟨q7, _, pk7, rfl⟩ := hk7
          obtain ⟨us7, hu7, ht7⟩ := id pk7
          obtain ⟨lk, zk⟩ := hz pk (List.mem_of_getElem? hpk)
          refine ⟨q7, rfl, ⟨_, SqL.of hu7⟩, fun D8 hD8 => ?_⟩
          refine ll_pl (ps := pk) (by omega) (byP (2, 1)) hD8 hu7 ht7 (fun _ => rfl) ?_ ?_
          · intro i2 p x H9 Q9 hp tx s9 k9
            refine ⟨small1000 (by show 1 ≤ 1000; decide), fun tn htn => ?_⟩
            have sT : Same H9 (upd H9 tn (.tup [.int 2, .int 1])) := same_new htn
            exact ⟨_, rfl, tn, x, (2, 1), p, rfl, upd_same, sT _ _ tx, ⟨by decide, by show (2 : Int).natAbs < _; exact Nat.lt_of_lt_of_le (show 2 < 2 ^ 2 by decide) (Nat.pow_le_pow_right (by decide) (by decide)), by show (1 : Int).natAbs < _; exact Nat.lt_of_lt_of_le (show 1 < 2 ^ 2 by decide) (Nat.pow_le_pow_right (by decide) (by decide))⟩, ((zk p (List.mem_of_getElem? hp)).pz (by have : 2 ^ i ≤ 2 ^ 4 := Nat.pow_le_pow_right (by decide) (by omega); omega)).pp (by decide), fun b hb => k9 b _ upd_same (sT.trans (same_new hb))⟩
          · intro H9 s9 pL9
            refine R H9 D8 ⟨Rc7.same s9, ly7.same s9, (fun z => by rw [z, hv7] at hD8; cases hD8), pk.map (byP (2, 1)), pL9, by rw [List.length_map]; exact lk, fun p hp => ?_⟩
            obtain ⟨r, hr', rfl⟩ := List.mem_map.mp hp
            exact (zk r hr').twice.up (by omega)
      case R =>
        intro H6 fr6 F6
        refine seq_join (Fx := Fx) (fun fr => [some (.ref d), some (.int 5), some (.int 4), some (.int (n : Nat)), some (.ref fo), some (.int (0 + (i : Nat))), some (.int w0), some (.ref fr), none, none, none]) ?R2 fun N R => ?_
        rotate_left
        · obtain ⟨Rc6, ly6, nf6, ps6, pl6, l6, q6⟩ := id F6
          obtain ⟨vs, hv1, hv2⟩ := id ly6
          refine ⟨_, rfl, rfl, _, rfl, ite2 (fun z => ?_) (fun z => iteF (R H6 fr6 F6))⟩
          refine ⟨_, rfl, fo, vs, rfl, .inl (SqL.of hv1), _, _, rfl, rfl, _, rfl, ite2 (fun z2 => ?_) (fun z2 => R H6 fr6 F6)⟩
          have z2 : (1 : Int) < (vs.length : Nat) := of_decide_eq_true z2
          have vne : vs ≠ [] := fun e => by rw [e] at z2; simp at z2
          obtain ⟨v0, h0⟩ : ∃ v0, vs[0]? = some v0 := ⟨_, List.getElem?_eq_getElem (by omega)⟩
          have hL : vs[vs.length - 1]? = some (vs.getLast vne) := by rw [List.getLast_eq_getElem]; exact List.getElem?_eq_getElem (by omega)
          obtain ⟨p0, hp0, q0, e0, _, pq0⟩ := hv2.2 0 v0 h0
          obtain ⟨pL, hpL, qL, eL, _, pqL⟩ := hv2.2 _ _ hL
          subst e0
          obtain ⟨us0, hu0, ht0⟩ := id pq0
          obtain ⟨usL, huL, htL⟩ := id pqL
          obtain ⟨l0, z0⟩ := hz p0 (List.mem_of_getElem? hp0)
          obtain ⟨lL, zL⟩ := hz pL (List.mem_of_getElem? hpL)
          refine ⟨_, rfl, fo, _, 0, _, rfl, rfl, SqL.of hv1, atI_nat (j := 0) h0, _, rfl, _, rfl, fo, _, -1, _, rfl, rfl, SqL.of hv1, at_last vs vne, q0, qL, us0, usL, by rw [eL], SqL.of hu0, SqL.of huL, fun D8 hD8 => ?_⟩
          have m4 : 7 * 2 ^ i / 2 ≤ 112 := by have : 2 ^ i ≤ 2 ^ 4 := Nat.pow_le_pow_right (by decide) (by omega); omega
          refine lz_pl (ps := p0) (rs := pL) (by rw [l0, lL]) (by omega) plusP hD8 hu0 ht0 huL htL (fun _ _ => rfl) ?_ ?_
          · intro i2 p r x y H9 Q9 hp hr' tx ty s9 k9
            exact ⟨_, rfl, _, rfl, x, y, p, r, rfl, tx, ty, ((z0 p (List.mem_of_getElem? hp)).pz m4).pp (by decide), ((zL r (List.mem_of_getElem? hr')).pz m4).pp (by decide), fun b hb => k9 b _ upd_same (same_new hb)⟩
          · intro H9 s9 pL9
            refine R H9 D8 ⟨Rc6.same s9, ly6.same s9, (fun z => by rw [z, hv1] at hD8; cases hD8), List.zipWith plusP p0 pL, pL9, by rw [List.length_zipWith, l0, lL]; omega, fun p hp => ?_⟩
            obtain ⟨j, hj⟩ := List.mem_iff_getElem?.mp hp
            rw [List.getElem?_zipWith] at hj
            cases e1 : p0[j]? with
            | none => rw [e1] at hj; cases hj
            | some x =>
              cases e2 : pL[j]? with
              | none => rw [e1, e2] at hj; cases hj
              | some y =>
                rw [e1, e2] at hj
                have := Option.some.inj hj
                rw [← this]
                exact ((z0 x (List.mem_of_getElem? e1)).plus (zL y (List.mem_of_getElem? e2))).up (by omega)
        clear F6
        intro H6 fr6 F6
        refine seq_join (Fx := Fx) (fun fr => [some (.ref d), some (.int 5), some (.int 4), some (.int (n : Nat)), some (.ref fo), some (.int (0 + (i : Nat))), some (.int w0), some (.ref fr), none, none, none]) ?R3 fun N R => ?_
        rotate_left
        · obtain ⟨Rc6, ly6, nf6, ps6, pl6, l6, q6⟩ := id F6
          refine ⟨_, rfl, rfl, _, rfl, ite2 (fun z => ?_) (fun z => R H6 fr6 F6)⟩
          refine ⟨small1000 (by show 1 ≤ 1000; decide), fun t ht => ?_⟩
          have s7 : Same H6 (upd H6 t (.tup [.int 0, .int 1])) := same_new ht
          have tt : TA (upd H6 t (.tup [.int 0, .int 1])) t (0, 1) := upd_same
          generalize upd H6 t _ = H7 at *
          refine ⟨small1000 (by show 0 ≤ 1000; decide), fun l hl => ?_⟩
          have s8 : Same H7 (upd H7 l (.lst [.ref t])) := same_new hl
          have hl8 : upd H7 l (.lst [.ref t]) l = some (.lst [.ref t]) := upd_same
          generalize upd H7 l _ = H8 at *
          refine ⟨_, rfl, l, (n : Int), _, rfl, rfl, hl8, by omega, by omega, Nat.le_of_lt (small1000 (by show 1 * (n : Int).toNat ≤ 1000; omega)), fun p hp => ?_⟩
          have en : (List.replicate (n : Int).toNat [V.ref t]).flatten = List.replicate n (V.ref t) := by rw [flat_rep]; rfl
          rw [en]
          have s9 : Same H8 (upd H8 p (.lst (List.replicate n (V.ref t)))) := same_new hp
          have s69 := s7.trans (s8.trans s9)
          refine R _ p ⟨Rc6.same s69, ly6.same s69, (fun z => by
            obtain ⟨_, e, _⟩ := ly6
            have := (s7.trans s8) _ _ e
            rw [z, this] at hp; cases hp), List.replicate n (0, 1), ⟨_, upd_same, rep_tps ((s8.trans s9) _ _ tt) n⟩, List.length_replicate, fun p hp => ?_⟩
          rw [List.eq_of_mem_replicate hp]
          exact Q12.zero.up (Nat.zero_le _)
        clear F6
        rintro H6 fr6 ⟨Rc6, ly6, nf6, ps6, pl6, l6, q6⟩
        obtain ⟨vs, hv1, hv2⟩ := id ly6
        have vl : vs.length = i := by rw [hv2.1]; exact pl
        refine ⟨_, rfl, .inl ⟨rfl, _, SqL.of hv1⟩, _, rfl, fo, vs, _, rfl, rfl, hv1, small1000 (by omega), ?_⟩
        have up : ∀ q ps, q ≠ fo → PL H6 q ps → PL (upd H6 fo (.lst (vs ++ [.ref fr6]))) q ps := fun q ps nq ⟨ys, h1, h2⟩ => ⟨ys, by rw [upd_ne nq]; exact h1, h2.updl hv1⟩
        refine ⟨Rc6.grow nfo fd', pss ++ [ps6], _, _, _, rfl, ⟨_, upd_same, AG.snoc (hv2.imp fun _ _ ⟨q, e, nq, t⟩ => ⟨q, e, nq, up _ _ nq t⟩) ⟨fr6, rfl, nf6, up _ _ nf6 pl6⟩⟩, by rw [List.length_append, pl]; rfl, fun ps hps => ?_⟩
        rcases List.mem_append.mp hps with z | z
        · exact ⟨(hz ps z).1, fun p hp => ((hz ps z).2 p hp).up (by omega)⟩
        · rw [List.mem_singleton.mp z]; exact ⟨l6, q6⟩
    · rintro σ Hc ⟨Rc, pss, x5, x6, x7, rfl, ly, pl, hz⟩
      have e : 2 ^ (1 + r2).toNat ≤ 2 ^ 5 := Nat.pow_le_pow_right (by decide) (by omega)
      exact ⟨_, rfl, q fo pss n Hc n1 n4 (by omega) (by omega) (fun ps m => ⟨(hz ps m).1, fun p hp => ((hz ps m).2 p hp).up (by omega)⟩) ly.ll Rc⟩
end
end FR
set_option Elab.async false
set_option linter.all false
set_option maxRecDepth 100000
set_option maxHeartbeats 4000000
/-! tuples that are equal, asked by != -/
namespace GQ
open PySem PySem.SeqAt
open AutoSeq1 (wpAny_loadPart')
open MeetsSeq MeetsSeq2 MeetsSeq3 SeqRoads2
section
variable {prog : Program} {w : World} {A : Around} {R : Result → Shared → Prop}
theorem tuple_neG (p q : Addr) (xs ys : Array Value) (n m : Nat) (d1 d2 : Option Addr) (z1 z2 : Array (Option Value)) (len : xs.size = ys.size) (J : Nat → Shared → Prop)
    (each : ∀ k (k1 : k < xs.size) (k2 : k < ys.size) s, J k s → wpAny (model prog w) A.in1 (eqBool xs[k] ys[k]) (fun r s' => r = true ∧ J (k + 1) s') (fun e s' => R (.error e) s') s)
    (done : ∀ s, J xs.size s → R (.ok (.ret (.bool false))) s) {s : Shared} (hp : s.heap.get? p = some { cls := .type "tuple", dict := d1, data := .seq xs n, slots := z1 }) (hq : s.heap.get? q = some { cls := .type "tuple", dict := d2, data := .seq ys m, slots := z2 })
    (start : J 0 s) : wpAny (model prog w) A.in1 (Builtin.«tuple.__ne__» ⟨[.ref p, .ref q], []⟩) (FinOf prog w A R) (fun e s' => R (.error e) s') s := by
  have sub := AutoSeq1.sub_tuple_tuple
  have zl : (xs.toList.zip ys.toList).length = xs.size := by simp [len]
  have st := start
  obtain ⟨hp0, gens0, dr0, tk0, os0⟩ := s
  wp_walk using wpAny_loadPart' hp, wpAny_loadPart' hq, wpAny_forIn_list _ (fun left c s' => c.1 = none ∧ ∃ k, left = (xs.toList.zip ys.toList).drop k ∧ k ≤ xs.size ∧ J k s') _
  case turn =>
    rintro ⟨u, v⟩ left c s' ⟨c0, k, zk, hk, hJ⟩
    have lt : k < (xs.toList.zip ys.toList).length := Nat.lt_of_not_le fun ge => by
      rw [List.drop_of_length_le ge] at zk
      cases zk
    have k1 : k < xs.size := by omega
    have k2 : k < ys.size := by omega
    rw [List.drop_eq_getElem_cons lt] at zk
    injection zk with eh et
    have eu : u = xs[k] := by have e := congrArg Prod.fst eh; simpa using e
    have ev : v = ys[k] := by have e := congrArg Prod.snd eh; simpa using e
    subst eu ev
    refine wpAny_bind (wpAny_mono (each k k1 k2 s' hJ) (fun r s2 ⟨er, hJ2⟩ => ?_) fun _ _ y => y)
    subst er
    wp_walk
    exact ⟨rfl, k + 1, et, k1, hJ2⟩
  case fin =>
    rintro ⟨c1, c2⟩ s' ⟨c0, k, zk, hk, hJ⟩
    simp only at c0
    subst c0
    have ke : k = xs.size := by
      rcases Nat.lt_or_ge k (xs.toList.zip ys.toList).length with lt | ge
      · rw [List.drop_eq_getElem_cons lt] at zk
        cases zk
      · omega
    have fin := done s' (ke ▸ hJ)
    wp_walk
    simpa [Builtin.Tuple.tupleCompareSizes, len] using fin
  case h =>
    exact ⟨rfl, 0, rfl, Nat.zero_le _, st⟩
end
section
variable {prog : Program} {w : World} {A : Around} {E : Value → Shared → Prop} {s : Shared}
theorem rc_tupNe {p q : Addr} {xs ys : Array Value} {Q : Value → Shared → Prop} (len : xs.size = ys.size) (hu : A.units < cLine) (J : Nat → Shared → Prop)
    (hp : s.heap.IsTuple p xs) (hq : s.heap.IsTuple q ys)
    (each : ∀ k (k1 : k < xs.size) (k2 : k < ys.size) s, J k s → wpAny (model prog w) A.in1 (eqBool xs[k] ys[k]) (fun r s' => r = true ∧ J (k + 1) s') E s)
    (done : ∀ s, J xs.size s → Q (.bool false) s) (start : J 0 s) : wpAny (model prog w) A (richCompare .NotEq (.ref p) (.ref q)) Q E s := by
  obtain ⟨⟨c1, d1, t1, z1⟩, h1, e1, n, g1⟩ := id hp
  obtain ⟨⟨c2, d2, t2, z2⟩, h2, e2, m, g2⟩ := id hq
  simp only at e1 g1 e2 g2
  subst e1 g1 e2 g2
  refine wpAny_richCompare_same_room (op := .NotEq) ⟨_, h1, rfl⟩ ⟨_, h2, rfl⟩ F.slot_tuple_ne (call_here F.slot_tuple_ne ⟨_, h1, rfl⟩ F.entry_tuple_ne (F.args_tuple_ne_2 _ _) ?_) hu
  exact tuple_neG (R := wants (fun v s' => v ≠ .notImplemented ∧ Q v s') E) p q xs ys n m d1 d2 z1 z2 len J each (fun s' y => ⟨(fun z => nomatch z), done s' y⟩) h1 h2 start
end
end GQ
set_option Elab.async false
set_option linter.all false
set_option maxRecDepth 100000
set_option maxHeartbeats 4000000
namespace L2
open PySem PySem.Spec PyProof.Rows
/-- two tuples whose items are equal, under != -/
theorem op_neTup {X : Cx} {n : Nat} {D : Eqv} (mono : Mon D) (items : EqG X n D) (hr : Room (n + 1) X.A) : OpR X (compareOp .NotEq) (fun x y H Q => DTup X.K D x y H ∧ ∀ H', Ext H H' → Q (.bl false) H') := by
  intro pins s σ H x y v u Q I rx ry ⟨d, q⟩
  obtain ⟨a, b, xs, ys, rfl, rfl, ha, hb, pr⟩ := d
  cases rx
  cases ry
  obtain ⟨i1, r1, e1, _⟩ := I.tuple ha
  obtain ⟨i2, r2, e2, _⟩ := I.tuple hb
  have sub : Sub X (n + 1) X.A := ⟨hr, rfl⟩
  have len : i1.toArray.size = i2.toArray.size := by
    have := pr.1
    have l1 := r1.length
    have l2 := r2.length
    simp only [List.size_toArray]
    omega
  show wpAny (model X.prog X.w) X.A (richCompare .NotEq (.ref a) (.ref b)) (EP X pins σ Q) X.xe s
  exact GQ.rc_tupNe len hr.units0 (fun _ s' => LoopI X pins σ H s') e1 e2 (fun k k1 k2 s' l => turnG mono items sub pr r1 r2 k k1 k2 s' l) (fun s' ⟨H', J, ex⟩ => ⟨.bl false, H', J, rfl, q H' ex⟩) ⟨H, I, Ext.rfl'⟩
theorem fn_weaken {P : Program} {w : World} {K : PySem.W.Frag} {mg : Str → Option Value} {base : Heap} {CX : CXT} {k : Nat} {f : Addr} {fd : FuncData} {ps : List Str} {sp sp' : Sp} (F : FnOk P w K mg base CX k f fd ps sp) (g : ∀ vs H Q E, sp' vs H Q E → sp vs H Q E) : FnOk P w K mg base CX k f fd ps sp' :=
  ⟨fun vs H Q E h => F.len vs H Q E (g vs H Q E h), fun A o s H ar us vs Q E hr e0 b r h => F.run A o s H ar us vs Q E hr e0 b r (g vs H Q E h)⟩
end L2
set_option Elab.async false
set_option linter.all false
set_option maxRecDepth 100000
set_option maxHeartbeats 4000000
namespace GQ
open PySem PySem.SeqAt
open AutoSeq1 (wpAny_loadPart')
open MeetsSeq MeetsSeq2 MeetsSeq3 SeqRoads2
section
variable {prog : Program} {w : World} {A : Around} {R : Result → Shared → Prop}
/-- a tuple that isn't empty beside an empty one -/
theorem tuple_neE (p q : Addr) (xs ys : Array Value) (n m : Nat) (d1 d2 : Option Addr) (z1 z2 : Array (Option Value)) (some_ : 0 < xs.size) (none_ : ys.size = 0) {s : Shared}
    (done : R (.ok (.ret (.bool true))) s) (hp : s.heap.get? p = some { cls := .type "tuple", dict := d1, data := .seq xs n, slots := z1 }) (hq : s.heap.get? q = some { cls := .type "tuple", dict := d2, data := .seq ys m, slots := z2 }) :
    wpAny (model prog w) A.in1 (Builtin.«tuple.__ne__» ⟨[.ref p, .ref q], []⟩) (FinOf prog w A R) (fun e s' => R (.error e) s') s := by
  have sub := AutoSeq1.sub_tuple_tuple
  have ye : ys = #[] := Array.size_eq_zero_iff.mp none_
  subst ye
  have zl : (xs.toList.zip (#[] : Array Value).toList) = [] := by simp
  have dd := done
  obtain ⟨hp0, gens0, dr0, tk0, os0⟩ := s
  wp_walk using wpAny_loadPart' hp, wpAny_loadPart' hq, wpAny_forIn_list _ (fun left c s' => c.1 = none ∧ left = [] ∧ R (.ok (.ret (.bool true))) s') _
  case turn =>
    rintro ⟨u, v⟩ left c s' ⟨c0, zk, hJ⟩
    cases zk
  case fin =>
    rintro ⟨c1, c2⟩ s' ⟨c0, zk, hJ⟩
    simp only at c0
    subst c0
    wp_walk
    have ne : (xs.size != 0) = true := bne_iff_ne.mpr (Nat.pos_iff_ne_zero.mp some_)
    simp only [Builtin.Tuple.tupleCompareSizes]
    first
      | (show R (.ok (.ret (.bool (xs.size != 0)))) s'; rw [ne]; exact hJ)
      | (show R (.ok (.ret (.bool (xs.size != (#[] : Array Value).size)))) s'; simpa [ne] using hJ)
  case h =>
    exact ⟨rfl, zl, dd⟩
end
section
variable {prog : Program} {w : World} {A : Around} {E : Value → Shared → Prop} {s : Shared}
theorem rc_tupNeE {p q : Addr} {xs ys : Array Value} {Q : Value → Shared → Prop} (some_ : 0 < xs.size) (none_ : ys.size = 0) (hu : A.units < cLine) (hp : s.heap.IsTuple p xs) (hq : s.heap.IsTuple q ys) (done : Q (.bool true) s) :
    wpAny (model prog w) A (richCompare .NotEq (.ref p) (.ref q)) Q E s := by
  obtain ⟨⟨c1, d1, t1, z1⟩, h1, e1, n, g1⟩ := id hp
  obtain ⟨⟨c2, d2, t2, z2⟩, h2, e2, m, g2⟩ := id hq
  simp only at e1 g1 e2 g2
  subst e1 g1 e2 g2
  refine wpAny_richCompare_same_room (op := .NotEq) ⟨_, h1, rfl⟩ ⟨_, h2, rfl⟩ F.slot_tuple_ne (call_here F.slot_tuple_ne ⟨_, h1, rfl⟩ F.entry_tuple_ne (F.args_tuple_ne_2 _ _) ?_) hu
  exact tuple_neE (R := wants (fun v s' => v ≠ .notImplemented ∧ Q v s') E) p q xs ys n m d1 d2 z1 z2 some_ none_ ⟨(fun z => nomatch z), done⟩ h1 h2
end
end GQ
namespace L2
open PySem PySem.Spec PyProof.Rows
/-- a tuple beside an empty one, under != -/
theorem op_neTupE {X : Cx} (hu : X.A.units < cLine) : OpR X (compareOp .NotEq) (fun x y H Q => ∃ a b xs, x = .ref a ∧ y = .ref b ∧ SqT X.K H a xs ∧ SqT X.K H b [] ∧ 0 < xs.length ∧ Q (.bl true) H) := by
  intro pins s σ H x y v u Q I rx ry ⟨a, b, xs, ex, ey, ha, hb, pos, q⟩
  subst ex ey
  cases rx
  cases ry
  obtain ⟨i1, r1, e1, _⟩ := I.tuple ha
  obtain ⟨i2, r2, e2, _⟩ := I.tuple hb
  have l1 := r1.length
  have l2 := r2.length
  show wpAny (model X.prog X.w) X.A (richCompare .NotEq (.ref a) (.ref b)) (EP X pins σ Q) X.xe s
  exact GQ.rc_tupNeE (by simp only [List.size_toArray]; omega) (by simp only [List.size_toArray]; rw [← l2]; rfl) hu e1 e2 ⟨.bl true, H, I, rfl, q⟩
end L2
set_option Elab.async false
set_option linter.all false
set_option maxRecDepth 100000
set_option maxHeartbeats 4000000
/-! an instance beside an integer, within tuples -/
namespace GQ
open PySem PySem.SeqAt
section
variable {prog : Program} {w : World} {A : Around} {E : Value → Shared → Prop} {s : Shared}
theorem eqBool_refI {l : Addr} {i : Int} {t : Tok} {Q : Bool → Shared → Prop} (h : wpAny (model prog w) A (richCompare .Eq (.ref l) (.int i t)) (fun v s' => ∃ r, v = .bool r ∧ Q r s') E s) : wpAny (model prog w) A (eqBool (.ref l) (.int i t)) Q E s := by
  unfold eqBool
  refine wpAny_holding ?_
  refine wpAny_ite_split (fun hab => absurd (eq_of_beq hab) (fun z => nomatch z)) (fun _ => ?_)
  refine wpAny_bind (wpAny_mono h (fun v s' hv => ?_) fun _ _ x => x)
  obtain ⟨r, rfl, q⟩ := hv
  exact wpAny_truthy_bool q
end
end GQ
namespace L2
open PySem PySem.Spec PyProof.Rows PySem.Calls
section
variable {X : Cx} {CX : CXT} {n : Nat} {f C : Addr} {fd : FuncData} {ps : List Str} {sp : Sp} {E : XK}
/-- an instance of the class at C beside an integer: what R says of the two -/
def DOwnI (C : Addr) (R : Addr → Int → Hp → Prop) : Eqv := fun x y H => ∃ a dx fs i, x = .ref a ∧ y = .int i ∧ H a = some (.ins C dx fs) ∧ R a i H
theorem mon_ownI {C : Addr} {R : Addr → Int → Hp → Prop} (hR : ∀ a i H H', Ext H H' → R a i H → R a i H') : Mon (DOwnI C R) := fun x y H H' e d => by
  obtain ⟨a, dx, fs, i, hx, hy, h1, r⟩ := d
  exact ⟨a, dx, fs, i, hx, hy, e _ _ h1, hR a i H H' e r⟩
theorem eqG_ownI {R : Addr → Int → Hp → Prop} (D : Dun X.K C "__eq__" f) (F : FnOk X.prog X.w X.K X.mg X.base CX n f fd ps sp) (hb : Binds X.K fd ps []) (hx : Passes CX X E) (nf : PySem.W.notFirst X.K C (.type "int") = true)
    (g : ∀ a i H, R a i H → sp [.ref a, .int i] H (fun v H' => v = .bl true ∧ Ext H H') E) : EqG X n (DOwnI C R) := by
  intro A pins s σ H x y u v sb I rx ry d
  obtain ⟨a, dx, fs, i, rfl, rfl, ha, hr⟩ := d
  cases rx
  obtain ⟨t, rfl⟩ := (show ∃ t, v = Value.int i t from ry)
  refine GQ.eqBool_refI ?_
  obtain ⟨od, J, _⟩ := ins_at I ha
  obtain ⟨m, hF⟩ := I.fr
  obtain ⟨P, Z, p, _⟩ := kit_of I (rInt i t) (.base (.int i))
  refine PySem.W.cmp_K (op := .Eq) (tb := .type "int") sb.room.units0 hF I.ok.mod.kin J (Z.ty _ _ I.kIn p) nf D.at_ D.fn (wpAny_mono (run_sub sb F hb hx I (.cons (rRef a) (.cons (rInt i t) .nil)) (g a i H hr)) (fun w' s' q => ?_) fun _ _ e => e)
  obtain ⟨z, H', I', rz, ez, ex⟩ := q
  subst ez
  cases rz
  exact ⟨true, rfl, rfl, H', I', ex⟩
end
end L2
set_option Elab.async false
set_option linter.all false
set_option maxRecDepth 100000
set_option maxHeartbeats 4000000
/-! rows that are written: what is asked of them, by evaluation -/
namespace FR
open RF L2
def tfB (ps : List PI) : Bool := decide ((lcmP ps).natAbs < 2 ^ 2401) && ps.all fun p => decide (0 < p.2) && decide (Nat.gcd p.1.natAbs p.2.natAbs = 1) && decide (p.1.natAbs < 2 ^ 19) && decide (p.2.natAbs < 2 ^ 19)
def rsB (pss : List (List PI)) (n : Nat) : Bool := decide (0 < pss.length) && decide (pss.length ≤ 80) && decide (0 < n) && decide (n ≤ 12) && pss.all fun ps => decide (ps.length = n) && tfB ps
theorem tf_of {ps : List PI} (h : tfB ps = true) : AllLf ps ∧ Shr ps ∧ (∀ p ∈ ps, Pz 19 p) := by
  unfold tfB at h
  rw [Bool.and_eq_true] at h
  obtain ⟨h1, h2⟩ := h
  rw [List.all_eq_true] at h2
  have g : ∀ p ∈ ps, Pz 19 p := fun p m => by
    have z := h2 p m
    rw [Bool.and_eq_true, Bool.and_eq_true, Bool.and_eq_true] at z
    exact ⟨⟨of_decide_eq_true z.1.1.1, of_decide_eq_true z.1.1.2⟩, of_decide_eq_true z.1.2, of_decide_eq_true z.2⟩
  exact ⟨fun p m => (g p m).lf, ⟨of_decide_eq_true h1, fun p m => ⟨pow_up (g p m).tz (by decide), pow_up (g p m).bz (by decide)⟩⟩, g⟩
theorem rs_of {pss : List (List PI)} {n : Nat} (h : rsB pss n = true) : Rs pss n ∧ Sm pss ∧ ∀ ps ∈ pss, ps.length = n ∧ ∀ p ∈ ps, Pz 19 p := by
  unfold rsB at h
  rw [Bool.and_eq_true, Bool.and_eq_true, Bool.and_eq_true, Bool.and_eq_true] at h
  obtain ⟨⟨⟨⟨h1, h2⟩, h3⟩, h4⟩, h5⟩ := h
  rw [List.all_eq_true] at h5
  have g : ∀ ps ∈ pss, ps.length = n ∧ tfB ps = true := fun ps m => by
    have z := h5 ps m
    rw [Bool.and_eq_true] at z
    exact ⟨of_decide_eq_true z.1, z.2⟩
  exact ⟨⟨of_decide_eq_true h1, of_decide_eq_true h2, of_decide_eq_true h3, of_decide_eq_true h4, fun ps m => (g ps m).1, fun ps m => (tf_of (g ps m).2).1, fun ps m => (tf_of (g ps m).2).2.1⟩, fun ps m p hp => ⟨pow_up ((tf_of (g ps m).2).2.2 p hp).tz (by decide), pow_up ((tf_of (g ps m).2).2.2 p hp).bz (by decide)⟩, fun ps m => ⟨(g ps m).1, (tf_of (g ps m).2).2.2⟩⟩
def shB (pss : List (List PI)) (t : Nat) : Bool := pss.all fun ps => (lineP ps).all fun x => decide (x.natAbs < 2 ^ t)
theorem sh_of {pss : List (List PI)} {t : Nat} (h : shB pss t = true) : ∀ ps ∈ pss, Sh (lineP ps) t := by
  intro ps m j
  unfold shB at h
  rw [List.all_eq_true] at h
  have z := h ps m
  rw [List.all_eq_true] at z
  by_cases hj : j < (lineP ps).length
  · exact of_decide_eq_true (z _ (List.mem_of_getElem? (get_ent hj)))
  · rw [ent_none (by omega)]
    exact Nat.pow_pos (by decide)
abbrev SC : Type := List (List PI) × List (List PI) × List Nat
def stC (c : Nat) (st : SC) : SC := match st.1.findIdx? fun ps => decide ((ps.getD c (0, 1)).1 ≠ 0) with
  | none => st
  | some k => ((st.1.eraseIdx k).map fun ps => woP ps (lsP (st.1.getD k []) c) c, (st.2.1.map fun ps => woP ps (lsP (st.1.getD k []) c) c) ++ [lsP (st.1.getD k []) c], st.2.2 ++ [c])
def runC (pss : List (List PI)) : Nat → SC
  | 0 => (pss, [], [])
  | c + 1 => stC c (runC pss c)
theorem cs_run {n : Nat} {pss : List (List PI)} (h : ∀ ps ∈ pss, ps.length = n ∧ ∀ p ∈ ps, Pz 19 p) : ∀ c, c ≤ n → CS n c (runC pss c).1 (runC pss c).2.1 (runC pss c).2.2 (pss.map valV)
  | 0, _ => ⟨rfl, fun ps m => ⟨(h ps m).1, fun p hp => (h ps m).2 p hp⟩, fun ps m => (by cases m), PForm.start⟩
  | c + 1, hc => by
    have X := cs_run h c (by omega)
    show CS n (c + 1) (stC c (runC pss c)).1 (stC c (runC pss c)).2.1 (stC c (runC pss c)).2.2 (pss.map valV)
    generalize runC pss c = st at X ⊢
    unfold stC
    cases e : st.1.findIdx? fun ps => decide ((ps.getD c (0, 1)).1 ≠ 0) with
    | none =>
      refine X.skip (fun ps m => ?_) hc
      have z := List.findIdx?_eq_none_iff.mp e ps m
      exact Classical.byContradiction fun w => by
        rw [decide_eq_true w] at z
        cases z
    | some k =>
      obtain ⟨kl, kp, _⟩ := List.findIdx?_eq_some_iff_getElem.mp e
      have ge : st.1[k]? = some (st.1.getD k []) := by rw [List.getD_eq_getElem?_getD, List.getElem?_eq_getElem kl]; rfl
      have gk : st.1[k] = st.1.getD k [] := by rw [List.getElem?_eq_getElem kl] at ge; exact Option.some.inj ge
      rw [gk] at kp
      exact X.step ge (of_decide_eq_true kp) (by omega)
theorem out_run {n : Nat} {rows : List (List Int)} {places ys : List Nat} {d : Int} {pss : List (List PI)} (h : rsB pss n = true) (I : EI n rows places d (pss.map fun ps => vec (lineP ps))) (pm : ys.Perm places) (so : ys.Pairwise (· ≤ ·)) : outP rows places d ys = (runC pss n).2.1 :=
  out_found (fun ps m => (rs_of h).1.lf ps m) I pm so (cs_run (rs_of h).2.2 n (Nat.le_refl _))
def oneI (i : Int) : PI := (i, 1)
def rowsHigh : List (List PI) := (List.range 80).map fun i => [((i : Nat), 1), (0 - ((i : Nat) : Int), 1)]
theorem run1 : (runC [[(2, 1), (4, 1)], [(0, 1), (0, 1)]] 2).2.1 = [[(1, 1), (2, 1)]] := by decide +kernel
theorem run2 : (runC [[(0, 1), (0, 1)]] 2).2.1 = [] := by decide +kernel
theorem run3 : (runC [[(0, 1), (3, 1), (1, 2)]] 3).2.1 = [[(0, 1), (1, 1), (1, 6)]] := by decide +kernel
theorem run4 : (runC [[(0, 1), (2, 1)], [(3, 1), (1, 1)], [(3, 1), (3, 1)]] 2).2.1 = [[(1, 1), (0, 1)], [(0, 1), (1, 1)]] := by decide +kernel
theorem run5 : (runC rowsHigh 2).2.1 = [[(1, 1), (-1, 1)]] := by decide +kernel
theorem rs1 : rsB [[(2, 1), (4, 1)], [(0, 1), (0, 1)]] 2 = true := by decide +kernel
theorem rs2 : rsB [[(0, 1), (0, 1)]] 2 = true := by decide +kernel
theorem rs3 : rsB [[(0, 1), (3, 1), (1, 2)]] 3 = true := by decide +kernel
theorem rs4 : rsB [[(0, 1), (2, 1)], [(3, 1), (1, 1)], [(3, 1), (3, 1)]] 2 = true := by decide +kernel
theorem rs5 : rsB rowsHigh 2 = true := by decide +kernel
theorem rs6 : rsB [[(1, 1), (2, 1)], [(1, 2), (0, 1)]] 2 = true := by decide +kernel
theorem rs7 : rsB [List.replicate 12 (1, 1)] 12 = true := by decide +kernel
theorem tm1 : timesP [[(1, 1), (2, 1)], [(1, 2), (0, 1)]] [(4, 1), (1, 1)] = [(6, 1), (2, 1)] := by decide +kernel
theorem tm2 : timesP (turnP [[(1, 1), (2, 1)], [(1, 2), (0, 1)]] 2) [(1, 1), (4, 1)] = [(3, 1), (2, 1)] := by decide +kernel
theorem tm3 : timesP [List.replicate 12 (1, 1)] ((List.range 12).map fun i => ((i : Nat), 1)) = [(66, 1)] := by decide +kernel
theorem tm4 : timesP (turnP rowsHigh 2) (List.replicate 80 (1, 1)) = [(3160, 1), (-3160, 1)] := by decide +kernel
theorem sh1 : shB [[(2, 1), (4, 1)], [(0, 1), (0, 1)]] 10 = true := by decide +kernel
theorem sh2 : shB [[(0, 1), (0, 1)]] 10 = true := by decide +kernel
theorem sh3 : shB [[(0, 1), (3, 1), (1, 2)]] 10 = true := by decide +kernel
theorem sh4 : shB [[(0, 1), (2, 1)], [(3, 1), (1, 1)], [(3, 1), (3, 1)]] 10 = true := by decide +kernel
theorem sh5 : shB rowsHigh 10 = true := by decide +kernel
end FR
set_option Elab.async false
set_option linter.all false
set_option maxRecDepth 100000
set_option maxHeartbeats 4000000
namespace L2
open PySem PySem.Spec PyProof.Rows
theorem opr_or {X : Cx} {op : Value → Value → Sem Value} {r1 r2 : R2} (h1 : OpR X op r1) (h2 : OpR X op r2) : OpR X op (fun x y H Q => r1 x y H Q ∨ r2 x y H Q) := by
  intro pins s σ H x y v u Q I rx ry h
  rcases h with h | h
  · exact h1 pins s σ H x y v u Q I rx ry h
  · exact h2 pins s σ H x y v u Q I rx ry h
end L2
namespace FR
open PySem PySem.Spec PyProof.Rows L2 LD RF
theorem TT.rl {C d : Addr} {H H' : Hp} {a : Addr} {pss : List (List PI)} (h : TT C H a pss) (hd : DiceAt H d) (r : Rl d H H') : TT C H' a pss := by
  obtain ⟨vs, e, z⟩ := h
  have n : a ≠ d := fun w => by
    obtain ⟨_, _, _, hd⟩ := hd
    rw [w, hd] at e; cases e
  exact ⟨vs, r.2 _ _ n e, z.imp fun _ _ ⟨q, e, t⟩ => ⟨q, e, t.rl hd r⟩⟩
theorem shr12 {ps : List PI} (h : ∀ p ∈ ps, Q12 112 p) : Shr ps := by
  refine ⟨Nat.lt_of_le_of_lt (Nat.le_of_dvd (by decide) (Int.natAbs_dvd_natAbs.mpr (lc12 h))) ?_, fun p m => ?_⟩
  · exact Nat.lt_of_lt_of_le (show 12 < 2 ^ 4 by decide) (Nat.pow_le_pow_right (by decide) (by decide))
  · have z := (h p m).pz (Nat.le_refl _)
    exact ⟨pow_up z.tz (by decide), pow_up z.bz (by decide)⟩
theorem TT.mx {C : Addr} {H : Hp} {a : Addr} {pss : List (List PI)} (h : TT C H a pss) (g : ∀ ps ∈ pss, ps.length ≤ 80 ∧ AllLf ps ∧ Shr ps) : TMx C H a pss := by
  obtain ⟨vs, e, l, z⟩ := h
  refine ⟨vs, e, l, fun i v hv => ?_⟩
  obtain ⟨ps, hp, q, e1, xs, h1, h2⟩ := z i v hv
  obtain ⟨g1, g2, g3⟩ := g ps (List.mem_of_getElem? hp)
  exact ⟨ps, hp, q, e1, ⟨xs, h1, h2⟩, g1, g2, g3⟩
theorem TTF.tt {C : Addr} {H : Hp} {a : Addr} {pss : List (List PI)} (h : TTF C H a pss) : TT C H a pss := by
  obtain ⟨vs, e, z⟩ := h
  exact ⟨vs, e, z.imp fun _ _ ⟨q, e, t⟩ => ⟨q, e, t.tv⟩⟩
theorem TTF.same {C : Addr} {H H' : Hp} {a : Addr} {pss : List (List PI)} (h : TTF C H a pss) (s : Same H H') : TTF C H' a pss := by
  obtain ⟨vs, e, z⟩ := h
  exact ⟨vs, s _ _ e, z.imp fun _ _ ⟨q, e, xs, t1, t2⟩ => ⟨q, e, xs, s _ _ t1, t2.same s⟩⟩
/-- two fractions that are one by their parts -/
def REq (C : Addr) (a b : Addr) (H : Hp) : Prop := ∃ t u, FrAt C H a t u ∧ FrAt C H b t u
theorem mon_req (C : Addr) : ∀ a b H H', Ext H H' → REq C a b H → REq C a b H' := fun _ _ _ _ e ⟨t, u, h1, h2⟩ => ⟨t, u, h1.same e, h2.same e⟩
abbrev DRw (K : PySem.W.Frag) (C : Addr) : Eqv := DTup K (DIns C (REq C))
theorem frs_prs {C : Addr} {H : Hp} {xs ys : List V} {ps : List PI} (h : FRs C H xs ps) (g : FRs C H ys ps) : Prs (DIns C (REq C)) xs ys H := by
  refine ⟨by rw [h.1, g.1], fun i x y hx hy => ?_⟩
  obtain ⟨p, hp, a, rfl, dx, fx⟩ := h.2 i x hx
  obtain ⟨p', hp', b, rfl, dy, fy⟩ := g.2 i y hy
  rw [hp] at hp'
  cases hp'
  exact ⟨a, b, dx, dy, _, _, rfl, rfl, fx, fy, _, _, ⟨dx, fx⟩, ⟨dy, fy⟩⟩
theorem ttf_prs {K : PySem.W.Frag} {C : Addr} {H : Hp} {a b : Addr} {pss : List (List PI)} (h : TTF C H a pss) (g : TTF C H b pss) : DTup K (DRw K C) (.ref a) (.ref b) H := by
  obtain ⟨vs, ha, lv, zv⟩ := h
  obtain ⟨us, hb, lu, zu⟩ := g
  refine ⟨a, b, vs, us, rfl, rfl, SqT.of ha, SqT.of hb, by rw [lv, lu], fun i x y hx hy => ?_⟩
  obtain ⟨p, hp, q, rfl, xs, h1, h2⟩ := zv i x hx
  obtain ⟨p', hp', q', rfl, ys, h3, h4⟩ := zu i y hy
  rw [hp] at hp'
  cases hp'
  exact ⟨q, q', xs, ys, rfl, rfl, SqT.of h1, SqT.of h3, frs_prs h2 h4⟩
theorem FRs.append {C : Addr} {H : Hp} : ∀ {xs ys : List V} {ps qs : List PI}, FRs C H xs ps → FRs C H ys qs → FRs C H (xs ++ ys) (ps ++ qs)
  | [], _, [], _, _, g => g
  | _ :: _, _, _ :: _, _, h, g => A2.cons h.uncons.1 (FRs.append h.uncons.2 g)
  | [], _, _ :: _, _, h, _ => absurd h.1 (by simp)
  | _ :: _, _, [], _, h, _ => absurd h.1 (by simp)
/-- a list of drawn numbers, one for each item of a list -/
theorem lc_nums {K : PySem.W.Frag} {a D d : Addr} {us : List V} (hk : us.length ≤ 900) {vs : List Nat} {σ : L2.St} {H1 : Hp} {Qd : Hp → Prop} {i1 : Nat} {te : TE} (hD : H1 D = none) (hd : DiceAt H1 d)
    (ha : H1 a = some (.lst us)) (na : a ≠ d) (wp : ∀ v : V, wipe ((wipe σ vs).set i1 (some v)) vs = wipe σ vs)
    (he : ∀ (x : V) (H : Hp) (Q : VK), DiceAt H d → (∀ (t b : Int) (y : Addr) H', -7 ≤ t → t ≤ 5 → 1 ≤ b → b ≤ 4 → Rl d H H' → H' y = none → Q (.ref y) (upd H' y (.tup [.int (nT t b), .int (nB t b)]))) → te ((wipe σ vs).set i1 (some x)) H Q)
    (hq : ∀ H ps, Rl d H1 H → PL H D ps → ps.length = us.length → (∀ p ∈ ps, Q12 7 p) → Qd H) :
    ∃ Wk : Nat → Nat → Hp → Prop, (∃ m0, Wk 0 m0 (upd H1 D (.lst []))) ∧ ∀ (i0 m0 : Nat) (h0 : Hp), Wk i0 m0 h0 →
      ((Itl K a).stop i0 h0 ∧ Qd h0) ∨ ((Itl K a).go i0 h0 ∧ ∃ Nk : Hp → Prop, (∀ h1, Nk h1 → ∃ m1, m1 < m0 ∧ Wk (i0 + 1) m1 h1) ∧ ∀ x h2, (Itl K a).yld i0 h0 x h2 → gName i1 x (wipe σ vs) h2 fun σ2 H2 => wipe σ2 vs = wipe σ vs ∧ tYes σ2 H2 fun b H3 =>
        if b = true then te σ2 H3 fun y H4 => ∃ got, H4 D = some (.lst got) ∧ got.length < sizeLine ∧ Nk (upd H4 D (.lst (got ++ [y]))) else Nk H3) := by
  have Dd := dice_ne hd hD
  refine lc_list (xs := us) (fun i H => Rl d H1 H ∧ ∃ ws ps, H D = some (.lst ws) ∧ TPs H ws ps ∧ ps.length = i ∧ ∀ p ∈ ps, Q12 7 p)
    ⟨(Rl.refl hd).grow hD Dd, [], [], upd_same, A2.nil, rfl, fun p m => (by cases m)⟩ (fun i H _ p => SqL.of (p.1.2 _ _ na ha)) ?_ fun H p => ?_
  · rintro i v Hx hx ⟨rx, ws, ps, hDx, hu, lj, hq'⟩
    have hi := (List.getElem?_eq_some_iff.mp hx).1
    refine ⟨wp _, ?_⟩
    refine he v Hx _ rx.1 fun t b x H' t1 t2 b1 b2 r2 nx => ?_
    have sx : Same H' (upd H' x (.tup [.int (nT t b), .int (nB t b)])) := same_new nx
    have e := sx _ _ (r2.2 _ _ Dd hDx)
    have hu2 : TPs (upd H' x (.tup [.int (nT t b), .int (nB t b)])) ws ps := A2.imp hu fun _ _ z => by
      obtain ⟨q, e1, e2⟩ := z.rl rx.1 r2
      exact ⟨q, e1, sx _ _ e2⟩
    refine ⟨ws, e, small1000 (by rw [hu.1]; omega), ((rx.trans r2).same sx).grow hD Dd, ws ++ [.ref x], ps ++ [(nT t b, nB t b)], upd_same, ?_, by rw [List.length_append, lj]; rfl, fun p m => ?_⟩
    · exact A2.snoc (hu2.updl e) ⟨x, rfl, tup_updl upd_same e⟩
    · rcases List.mem_append.mp m with z | z
      · exact hq' p z
      · rw [List.mem_singleton.mp z]; exact q12_num t1 t2 b1 b2
  · obtain ⟨rx, ws, ps, hDx, hu, lj, hq'⟩ := p
    exact hq H ps rx ⟨ws, hDx, hu⟩ lj hq'
/-- the pairs of the rows of a tuple of rows -/
theorem tt_ll {K : PySem.W.Frag} {C a D : Addr} {pss : List (List PI)} {us : List V} (hk : pss.length ≤ 900) {vs : List Nat} {σ : L2.St} {H1 : Hp} {Qd : Hp → Prop} {i1 : Nat} {te : TE} (hD : H1 D = none)
    (ha : H1 a = some (.tup us)) (hu : AG (fun v ps => ∃ q, v = .ref q ∧ TV C H1 q ps) us pss) (wp : ∀ v : V, wipe ((wipe σ vs).set i1 (some v)) vs = wipe σ vs)
    (he : ∀ (i : Nat) (ps : List PI) (x : Addr) (H : Hp) (Q : VK), pss[i]? = some ps → TV C H x ps → (∀ z H', PL H' z ps → Same H H' → H z = none → Q (.ref z) H') → te ((wipe σ vs).set i1 (some (.ref x))) H Q)
    (hd : ∀ H, Same H1 H → LL H D pss → Qd H) :
    ∃ Wk : Nat → Nat → Hp → Prop, (∃ m0, Wk 0 m0 (upd H1 D (.lst []))) ∧ ∀ (i0 m0 : Nat) (h0 : Hp), Wk i0 m0 h0 →
      ((Itt K a).stop i0 h0 ∧ Qd h0) ∨ ((Itt K a).go i0 h0 ∧ ∃ Nk : Hp → Prop, (∀ h1, Nk h1 → ∃ m1, m1 < m0 ∧ Wk (i0 + 1) m1 h1) ∧ ∀ x h2, (Itt K a).yld i0 h0 x h2 → gName i1 x (wipe σ vs) h2 fun σ2 H2 => wipe σ2 vs = wipe σ vs ∧ tYes σ2 H2 fun b H3 =>
        if b = true then te σ2 H3 fun y H4 => ∃ got, H4 D = some (.lst got) ∧ got.length < sizeLine ∧ Nk (upd H4 D (.lst (got ++ [y]))) else Nk H3) := by
  refine lc_tup (xs := us) (fun i H => Same H1 H ∧ ∃ zs, H D = some (.lst zs) ∧ AG (fun v ps => ∃ q, v = .ref q ∧ q ≠ D ∧ PL H q ps) zs (pss.take i))
    ⟨same_new hD, [], upd_same, AG.nil⟩ (fun i H _ p => SqT.of (p.1 _ _ ha)) ?_ fun H p => ?_
  · rintro i v H hx ⟨sm, zs, hDc, hz⟩
    obtain ⟨ps, hp, x, rfl, tx⟩ := hu.2 i v hx
    have hi := (List.getElem?_eq_some_iff.mp hp).1
    refine ⟨wp _, ?_⟩
    refine he i ps x _ _ hp (tx.same sm) fun z H' tz s' fz => ?_
    have e := s' _ _ hDc
    have zD : z ≠ D := fun y => by rw [y, hDc] at fz; cases fz
    have up : ∀ q ps, q ≠ D → PL H' q ps → PL (upd H' D (.lst (zs ++ [.ref z]))) q ps := fun q ps n ⟨ys, h1, h2⟩ => ⟨ys, by rw [upd_ne n]; exact h1, h2.updl e⟩
    refine ⟨zs, e, small1000 (by rw [hz.1, List.length_take]; omega), same_upd hD (sm.trans s'), zs ++ [.ref z], upd_same, ?_⟩
    rw [take_snoc hp]
    exact AG.snoc (hz.imp fun _ _ ⟨q, e', n, t⟩ => ⟨q, e', n, up _ _ n (t.same s')⟩) ⟨z, rfl, zD, up _ _ zD tz⟩
  · obtain ⟨sm, zs, hDc, hz⟩ := p
    rw [List.take_of_length_le (by rw [hu.1]; exact Nat.le_refl _)] at hz
    exact hd H sm ⟨zs, hDc, hz.imp fun _ _ ⟨q, e, _, t⟩ => ⟨q, e, t⟩⟩
theorem times_eq {pss : List (List PI)} {cs : List PI} (h : ∀ ps ∈ pss, AllLf ps) (g : AllLf cs) : timesP pss cs = pss.map fun ps => prodP ps cs := by
  unfold timesP
  exact List.map_congr_left fun ps m => dot_prod (h ps m) g
theorem turn_lf {pss : List (List PI)} {n : Nat} (h : ∀ ps ∈ pss, ps.length = n ∧ AllLf ps) : ∀ qs ∈ turnP pss n, AllLf qs := by
  intro qs m p hp
  unfold turnP at m
  obtain ⟨j, mj, rfl⟩ := List.mem_map.mp m
  obtain ⟨ps, mp, rfl⟩ := List.mem_map.mp hp
  have jn : j < n := List.mem_range.mp mj
  have g : ps[j]? = some (ps.getD j (0, 1)) := by rw [List.getD_eq_getElem?_getD, List.getElem?_eq_getElem (by rw [(h ps mp).1]; exact jn)]; rfl
  exact (h ps mp).2 _ (List.mem_of_getElem? g)
theorem mix_eq {pss : List (List PI)} {fs : List PI} {n : Nat} (h : ∀ ps ∈ pss, ps.length = n ∧ AllLf ps) (g : AllLf fs) : timesP (turnP pss n) fs = mixL pss fs n := by
  rw [times_eq (turn_lf h) g]
  unfold turnP mixL
  rw [List.map_map]
  rfl
theorem out_rows {n : Nat} {rows : List (List Int)} {places ys : List Nat} {d : Int} {L : List Vec} (_ : EI n rows places d L) : ∀ ps ∈ outP rows places d ys, ∃ r, (r ∈ rows ∨ r = []) ∧ ps = ovP r d := by
  intro ps m
  unfold outP at m
  obtain ⟨y, _, rfl⟩ := List.mem_map.mp m
  refine ⟨_, ?_, rfl⟩
  rw [List.getD_eq_getElem?_getD]
  cases e : rows[places.idxOf y]? with
  | none => exact .inr rfl
  | some r => exact .inl (List.mem_of_getElem? e)
theorem out_len {n : Nat} {rows : List (List Int)} {places : List Nat} {d : Int} {L : List Vec} (I : EI n rows places d L) {r : List Int} {ps : List PI} (h : r ∈ rows ∨ r = []) (e : ps = ovP r d) : ps.length ≤ n := by
  rw [e]
  unfold ovP
  rw [List.length_map]
  rcases h with h | h
  · rw [I.wd r h]; exact Nat.le_refl _
  · rw [h]; exact Nat.zero_le _
theorem szk4 {k : Nat} (h : k ≤ 4) : szk 11 k ≤ 406 := by
  have : k = 0 ∨ k = 1 ∨ k = 2 ∨ k = 3 ∨ k = 4 := by omega
  rcases this with e | e | e | e | e <;> subst e <;> decide
end FR
set_option Elab.async false
set_option linter.all false
set_option maxRecDepth 100000
set_option maxHeartbeats 4000000
namespace FR
open PySem PySem.Spec PyProof.Rows L2 LD RF
section
variable {P : Program} {w : World} {K : PySem.W.Frag} {mg : Str → Option Value} {base : Heap} {C fI pT gT pB gB : Addr} {fdI fdT fdB : FuncData}
abbrev sRt : Stmt := FR.top 52
abbrev NRt : List Str := ["_law_dice_here", "_law_lines_here", "_law_rows", "_law_before", "_law_column", "_law_factors", "_law_told", "_law_mixed", "_law_least", "_law_line", "_law_one", "_law_row"]
theorem scRt : FnScope NRt ["_law_dice_here"] (defScope sRt) := ⟨rfl, rfl, rfl, by decide +kernel, rfl, by decide +kernel, by decide +kernel⟩
def spRt : Sp := fun vs H Q _ => ∃ (d : Addr), vs = [.ref d] ∧ DiceAt H d ∧ ∀ H', Rl d H H' → Q (.bl true) H'
theorem ok_rt {f : Addr} {fd : FuncData} (F : Fun K "_law_right" "_law_right" sRt f fd) (T : TxtC mg)
    (gLn : Glo P w K mg base "_law_lines" 4 ["_law_dice_here", "_law_most", "_law_wide"] spLn) (gSl : Glo P w K mg base "_law_shown_lines" 6 ["_law_dice_here", "_law_lines_here"] (spSl C)) (gNu : Glo P w K mg base "_law_number" 3 ["_law_dice_here"] spNu)
    (gSr : Glo P w K mg base "_law_shown_row" 5 ["_law_dice_here", "_law_pairs_here"] (spSr C)) (gTo : Glo P w K mg base "times_of" 7 ["rows", "column"] (spTof C)) (gIr : Glo P w K mg base "is_rows" 4 ["value"] (spIrs C)) (gPs : Glo P w K mg base "_law_pairs" 4 ["_law_row"] (spPs C))
    (gPd : Glo P w K mg base "_law_product" 4 ["_law_row", "_law_column"] spPd) (gMo : Glo P w K mg base "mix_of" 7 ["rows", "factors"] (spMof C)) (gMx : Glo P w K mg base "_law_mix" 5 ["_law_lines_here", "_law_factors"] spMx) (gAt : Glo P w K mg base "_law_are_told" 1 ["_law_numbers"] (spAt C))
    (gCl : Glo P w K mg base "cleared" 6 ["rows"] (spClrd C)) (gLc : Glo P w K mg base "_law_cleared" 5 ["_law_lines_here"] spLc) (mE : Met P w K mg base C "__eq__" 3 ["self", "other"] (FR.spEq K C)) : FnOk P w K mg base CX0 8 f fd ["_law_dice_here"] spRt := by
  refine F.ok scRt (fun vs H Q E h => ?_) (fun cdv A outer s H vs Q E hr h => ?_)
  · obtain ⟨d, rfl, _⟩ := h
    rfl
  · obtain ⟨d, rfl, hd, q⟩ := h
    have eqI : EqG ((cxOf CX0 P w K mg base NRt "_law_right" (defScope sRt) f cdv A outer s H E).nox) 3 (DIns C (REq C)) := eqG_ins (E := E) (fn_weaken mE.G fun vs H Q E ⟨a, b, e, ⟨t, u, h1, h2⟩, q⟩ => ⟨a, .ref b, t, u, true, e, h1, .inl ⟨b, t, u, rfl, h2, by simp⟩, q H Ext.rfl'⟩) mE.D.at_ mE.D.fn mE.b pass0
    have eqRt := eqG_tup (mon_ins (mon_req C)) eqI
    refine ⟨_, (pss_cons (ps_set (i := 1) scRt.nd rfl (Or.inl rfl) (pe_call gLn.G (hr.mono (by decide)) (by rfl) gLn.m gLn.k gLn.b .nil pass0 (pa_cons (pv 0) (pa_cons pe_int (pa_cons pe_int pa_nil)))))
      (pss_cons (ps_par (i := 2) (j := 3) (by rfl) scRt.nd rfl rfl (by decide) rfl rfl (pa_cons (pe_call gSl.G (hr.mono (by decide)) (by rfl) gSl.m gSl.k gSl.b .nil pass0 (pa_cons (pv 0) (pa_cons (pv 1) pa_nil))) (pa_cons (pe_lc (X := (cxOf CX0 P w K mg base NRt "_law_right" (defScope sRt) f cdv A outer s H E).nox) (own := [("_law_line", 9)]) (g := (gName 9)) (tt := tYes) rfl scRt.nd (pi_list (pv 1)) (blkOk_by (N := NRt) (sc := (defScope sRt)) (by decide +kernel)) (fun _ _ _ _ _ => (pg_name (i := 9) scRt.nd rfl (.inl rfl))) (fun _ _ _ _ _ => pts_nil) (fun _ _ _ _ _ => (pe_callTy (call_list_ofK (K := K) rfl) (by rfl) T.list (by decide +kernel) (pa_cons (pv 9) pa_nil)))) pa_nil)) (by rfl))
      (pss_cons (ps_asg (pe_tup (pa_cons (pe_lc (X := (cxOf CX0 P w K mg base NRt "_law_right" (defScope sRt) f cdv A outer s H E).nox) (own := [("_law_one", 10)]) (g := (gName 10)) (tt := tYes) rfl scRt.nd (pi_list (pe_ix ix_list (pv 1) pe_int (fun _ _ => rfl))) (blkOk_by (N := NRt) (sc := (defScope sRt)) (by decide +kernel)) (fun _ _ _ _ _ => (pg_name (i := 10) scRt.nd rfl (.inl rfl))) (fun _ _ _ _ _ => pts_nil) (fun _ _ _ _ _ => (pe_call gNu.G (hr.mono (by decide)) (by rfl) gNu.m gNu.k gNu.b .nil pass0 (pa_cons (pv 0) pa_nil)))) (pa_cons (pe_lc (X := (cxOf CX0 P w K mg base NRt "_law_right" (defScope sRt) f cdv A outer s H E).nox) (own := [("_law_line", 9)]) (g := (gName 9)) (tt := tYes) rfl scRt.nd (pi_list (pv 1)) (blkOk_by (N := NRt) (sc := (defScope sRt)) (by decide +kernel)) (fun _ _ _ _ _ => (pg_name (i := 9) scRt.nd rfl (.inl rfl))) (fun _ _ _ _ _ => pts_nil) (fun _ _ _ _ _ => (pe_call gNu.G (hr.mono (by decide)) (by rfl) gNu.m gNu.k gNu.b .nil pass0 (pa_cons (pv 0) pa_nil)))) pa_nil))) (pg_tup (by rfl) (pgs_cons (pg_name (i := 4) scRt.nd rfl (.inr rfl)) (pgs_cons (pg_name (i := 5) scRt.nd rfl (.inl rfl)) pgs_nil))))
      (pss_cons (ps_set (i := 6) scRt.nd rfl (Or.inl rfl) (pe_call gTo.G hr (by rfl) gTo.m gTo.k gTo.b .nil pass0 (pa_cons (pv 2) (pa_cons (pe_call gSr.G (hr.mono (by decide)) (by rfl) gSr.m gSr.k gSr.b .nil pass0 (pa_cons (pv 0) (pa_cons (pv 4) pa_nil))) pa_nil))))
      (pss_cons (ps_if (PW.pt (pw_or (pt_cmpR op_isnot_bl (pe_call gIr.G (hr.mono (by decide)) (by rfl) gIr.m gIr.k gIr.b .nil pass0 (pa_cons (pv 2) pa_nil)) pe_bl (nomark _)) (pw_or1 (pt_cmpR (op_neD hr.units) (pe_call gPs.G (hr.mono (by decide)) (by rfl) gPs.m gPs.k gPs.b .nil pass0 (pa_cons (pv 6) pa_nil)) (pe_lc (X := (cxOf CX0 P w K mg base NRt "_law_right" (defScope sRt) f cdv A outer s H E).nox) (own := [("_law_line", 9)]) (g := (gName 9)) (tt := tYes) rfl scRt.nd (pi_list (pv 1)) (blkOk_by (N := NRt) (sc := (defScope sRt)) (by decide +kernel)) (fun _ _ _ _ _ => (pg_name (i := 9) scRt.nd rfl (.inl rfl))) (fun _ _ _ _ _ => pts_nil) (fun _ _ _ _ _ => (pe_call gPd.G (hr.mono (by decide)) (by rfl) gPd.m gPd.k gPd.b .nil pass0 (pa_cons (pv 9) (pa_cons (pv 4) pa_nil))))) (nomark _))))) (pss_one (ps_ret pe_bl)) pss_nil)
      (pss_cons (ps_set (i := 7) scRt.nd rfl (Or.inl rfl) (pe_call gMo.G hr (by rfl) gMo.m gMo.k gMo.b .nil pass0 (pa_cons (pv 2) (pa_cons (pe_call gSr.G (hr.mono (by decide)) (by rfl) gSr.m gSr.k gSr.b .nil pass0 (pa_cons (pv 0) (pa_cons (pv 5) pa_nil))) pa_nil))))
      (pss_cons (ps_if (PW.pt (pw_or (pt_cmpR (op_neD hr.units) (pe_call gPs.G (hr.mono (by decide)) (by rfl) gPs.m gPs.k gPs.b .nil pass0 (pa_cons (pv 7) pa_nil)) (pe_call gMx.G (hr.mono (by decide)) (by rfl) gMx.m gMx.k gMx.b .nil pass0 (pa_cons (pv 1) (pa_cons (pv 5) pa_nil))) (nomark _)) (pw_or1 (pt_not (pt_val (pe_call gAt.G (hr.mono (by decide)) (by rfl) gAt.m gAt.k gAt.b .nil pass0 (pa_cons (pe_op op_catA (pv 6) (pv 7)) pa_nil))))))) (pss_one (ps_ret pe_bl)) pss_nil)
      (pss_cons (ps_set (i := 8) scRt.nd rfl (Or.inl rfl) (pe_call gCl.G (hr.mono (by decide)) (by rfl) gCl.m gCl.k gCl.b .nil pass0 (pa_cons (pv 2) pa_nil)))
      (pss_cons (ps_if (pt_cmpR (op_neD hr.units) (pe_lc (X := (cxOf CX0 P w K mg base NRt "_law_right" (defScope sRt) f cdv A outer s H E).nox) (own := [("_law_row", 11)]) (g := (gName 11)) (tt := tYes) rfl scRt.nd (pi_tup (pv 8)) (blkOk_by (N := NRt) (sc := (defScope sRt)) (by decide +kernel)) (fun _ _ _ _ _ => (pg_name (i := 11) scRt.nd rfl (.inl rfl))) (fun _ _ _ _ _ => pts_nil) (fun _ _ _ _ _ => (pe_call gPs.G (hr.mono (by decide)) (by rfl) gPs.m gPs.k gPs.b .nil pass0 (pa_cons (pv 11) pa_nil)))) (pe_call gLc.G (hr.mono (by decide)) (by rfl) gLc.m gLc.k gLc.b .nil pass0 (pa_cons (pv 1) pa_nil)) (nomark _)) (pss_one (ps_ret pe_bl)) pss_nil)
      (pss_cons (ps_if (PW.pt (pw_or (pt_cmpR (op_neD hr.units) (pe_lc (X := (cxOf CX0 P w K mg base NRt "_law_right" (defScope sRt) f cdv A outer s H E).nox) (own := [("_law_row", 11)]) (g := (gName 11)) rfl scRt.nd (pi_tup (pv 8)) (blkOk_by (N := NRt) (sc := (defScope sRt)) (by decide +kernel)) (fun _ _ _ _ _ => (pg_name (i := 11) scRt.nd rfl (.inl rfl))) (fun _ _ _ _ _ => (pts_one (pt_not (pt_val (pe_call gAt.G (hr.mono (by decide)) (by rfl) gAt.m gAt.k gAt.b .nil pass0 (pa_cons (pv 11) pa_nil)))))) (fun _ _ _ _ _ => pe_int)) (pe_lst pa_nil) (nomark _)) (pw_or1 (PW.pt (pw_and (pt_cmpR (opr_or (op_neTup (mon_tup (K := K) (mon_ins (mon_req C))) eqRt (hr.mono (by decide))) (op_neTupE hr.units0)) (pv 8) (pe_tup pa_nil) (nomark _)) (pw_and1 (pt_cmpR (op_neTup (mon_tup (K := K) (mon_ins (mon_req C))) eqRt (hr.mono (by decide))) (pe_call gCl.G (hr.mono (by decide)) (by rfl) gCl.m gCl.k gCl.b .nil pass0 (pa_cons (pv 8) pa_nil)) (pv 8) (nomark _)))))))) (pss_one (ps_ret pe_bl)) pss_nil)
      (pss_one (ps_ret (pe_cmpR (op_eqD hr.units) (pe_lc (X := (cxOf CX0 P w K mg base NRt "_law_right" (defScope sRt) f cdv A outer s H E).nox) (own := [("_law_row", 11)]) (g := (gName 11)) (tt := tYes) rfl scRt.nd (pi_tup (pv 2)) (blkOk_by (N := NRt) (sc := (defScope sRt)) (by decide +kernel)) (fun _ _ _ _ _ => (pg_name (i := 11) scRt.nd rfl (.inl rfl))) (fun _ _ _ _ _ => pts_nil) (fun _ _ _ _ _ => (pe_call gPs.G (hr.mono (by decide)) (by rfl) gPs.m gPs.k gPs.b .nil pass0 (pa_cons (pv 11) pa_nil)))) (pv 3) (nomark _)))))))))))))), ?_⟩
    -- the rows
    refine ⟨_, rfl, d, rfl, hd, fun fo pss n H1 n1 n4 l1 l5 hz hl r1 => ?_⟩
    have d1 := r1.1
    have lz : ∀ ps ∈ pss, ps.length = n := fun ps m => (hz ps m).1
    have lf : ∀ ps ∈ pss, AllLf ps := fun ps m p hp => ((hz ps m).2 p hp).lf
    refine ⟨_, rfl, _, rfl, d, fo, pss, rfl, d1, hl, by omega, (fun ps m => ⟨by have := lz ps m; omega, fun p hp => (((hz ps m).2 p hp).pz (Nat.le_refl _)).up (by decide)⟩), fun tr H2 htt r2 => ?_⟩
    have hl2 := hl.rl d1 r2
    have R2 := r1.trans r2
    obtain ⟨vs, hv1, hv2⟩ := id hl2
    refine ⟨_, rfl, fo, rfl, ⟨_, SqL.of hv1⟩, fun D hD => ?_⟩
    refine lc_list (xs := vs) (fun i Hc => Same H2 Hc ∧ ∃ us, Hc D = some (.lst us) ∧ AG (fun v ps => ∃ q, v = .ref q ∧ q ≠ D ∧ PL Hc q ps) us (pss.take i)) ⟨same_new hD, [], upd_same, AG.nil⟩ (fun i Hc _ p => SqL.of (p.1 _ _ hv1)) ?_ ?_
    · rintro i v Hc hvi ⟨sm, us, hDc, hu⟩
      obtain ⟨ps, hp, x, rfl, px⟩ := hv2.2 i v hvi
      obtain ⟨xs, hx, hf⟩ := px.same sm
      have il := (List.getElem?_eq_some_iff.mp hp).1
      refine ⟨rfl, _, rfl, x, xs, rfl, .inl (SqL.of hx), fun l hl => ?_⟩
      have s2 : Same Hc (upd Hc l (.lst xs)) := same_new hl
      have e := s2 _ _ hDc
      have lD : l ≠ D := fun z => by rw [z, hDc] at hl; cases hl
      have up : ∀ q ps, q ≠ D → PL (upd Hc l (.lst xs)) q ps → PL (upd (upd Hc l (.lst xs)) D (.lst (us ++ [.ref l]))) q ps := fun q ps n ⟨ys, h1, h2⟩ => ⟨ys, by rw [upd_ne n]; exact h1, h2.updl e⟩
      refine ⟨us, e, small1000 (by rw [hu.1, List.length_take]; omega), same_upd hD (sm.trans s2), us ++ [.ref l], upd_same, ?_⟩
      rw [take_snoc hp]
      exact AG.snoc (hu.imp fun _ _ ⟨q, e', n, t⟩ => ⟨q, e', n, up _ _ n (t.same s2)⟩) ⟨l, rfl, lD, up _ _ lD ⟨xs, upd_same, hf.same s2⟩⟩
    rintro H3 ⟨s3, us, hD3, hu⟩
    rw [List.take_of_length_le (by rw [hv2.1]; exact Nat.le_refl _)] at hu
    have hb3 : LL H3 D pss := ⟨us, hD3, hu.imp fun _ _ ⟨q, e, _, t⟩ => ⟨q, e, t⟩⟩
    refine ⟨_, _, rfl, ?_⟩
    have htt3 := htt.same s3
    have hl3 := hl2.same s3
    have R3 := R2.same s3
    have d3 := R3.1
    have hv3 := s3 _ _ hv1
    have vl : vs.length = pss.length := hv2.1
    obtain ⟨q0, us0, hq0, hx0, l0, q0d⟩ : ∃ q0 us0, vs[0]? = some (.ref q0) ∧ H3 q0 = some (.lst us0) ∧ us0.length = n ∧ q0 ≠ d := by
      obtain ⟨v0, h0⟩ : ∃ v0, vs[0]? = some v0 := ⟨_, List.getElem?_eq_getElem (by omega)⟩
      obtain ⟨p0, hp0, q0, rfl, pl0⟩ := hv2.2 0 v0 h0
      have pl3 := pl0.same s3
      obtain ⟨us0, e0, f0⟩ := id pl3
      exact ⟨q0, us0, h0, e0, by rw [f0.1]; exact lz p0 (List.mem_of_getElem? hp0), pl3.ne d3⟩
    refine ⟨_, rfl, fo, _, 0, _, rfl, rfl, SqL.of hv3, atI_nat (j := 0) hq0, q0, rfl, ⟨_, SqL.of hx0⟩, fun D4 hD4 => ?_⟩
    refine lc_nums (d := d) (by omega) hD4 d3 hx0 q0d (fun _ => rfl) (fun x Hx Qx dx qx => ⟨_, rfl, d, rfl, dx, qx⟩) ?_
    intro H4 cs r4 pc lc qc
    have hl4 := hl3.rl d3 r4
    have hb4 := hb3.rl d3 r4
    have htt4 := htt3.rl d3 r4
    have d4 := r4.1
    have fod := hl3.ne d3
    have hv4 := r4.2 _ _ fod hv3
    have R4 := R3.trans r4
    refine ⟨_, rfl, fo, rfl, ⟨_, SqL.of hv4⟩, fun D5 hD5 => ?_⟩
    refine lc_nums (d := d) (by omega) hD5 d4 hv4 fod (fun _ => rfl) (fun x Hx Qx dx qx => ⟨_, rfl, d, rfl, dx, qx⟩) ?_
    intro H5 fs r5 pf lfs qf
    have pc5 := pc.rl (pc.ne d4) d4 r5
    have hl5 := hl4.rl d4 r5
    have hb5 := hb4.rl d4 r5
    have htt5 := htt4.rl d4 r5
    have R5 := R4.trans r5
    have d5 := R5.1
    have pcD : cs.length = n := by rw [lc, l0]
    have pfD : fs.length = pss.length := by rw [lfs, vl]
    refine ⟨small1000 (by show 1 ≤ 1000; decide), fun tn htn => ?_⟩
    have s6 : Same H5 (upd H5 tn (.tup [.ref D4, .ref D5])) := same_new htn
    refine ⟨tn, _, rfl, SqT.of upd_same, rfl, _, _, rfl, _, _, rfl, rfl, ?_⟩
    have pc6 := pc5.same s6
    have pf6 := pf.same s6
    have hl6 := hl5.same s6
    have hb6 := hb5.same s6
    have htt6 := htt5.same s6
    have R6 := R5.same s6
    generalize upd H5 tn _ = H6 at *
    have d6 := R6.1
    have cz : ∀ p ∈ cs, Pz 11 p := fun p m => (qc p m).pz (by decide)
    have fz : ∀ p ∈ fs, Pz 11 p := fun p m => (qf p m).pz (by decide)
    -- times_of
    refine ⟨_, rfl, _, rfl, _, rfl, d, D4, cs, rfl, d6, pc6, pc6.ne d6, by omega, fun p m => (cz p m).up (by decide), fun tc H7 tvc r7 _ => ?_⟩
    have hl7 := hl6.rl d6 r7
    have hb7 := hb6.rl d6 r7
    have htt7 := htt6.rl d6 r7
    have pc7 := pc6.rl (pc6.ne d6) d6 r7
    have pf7 := pf6.rl (pf6.ne d6) d6 r7
    have R7 := R6.trans r7
    have d7 := R7.1
    have fit : ∀ ps ∈ pss, ps.length ≤ 80 ∧ AllLf ps ∧ Shr ps := fun ps m => ⟨by have := lz ps m; omega, lf ps m, shr12 (hz ps m).2⟩
    have rs : Rs pss n := ⟨by omega, by omega, by omega, by omega, lz, lf, fun ps m => (fit ps m).2.2⟩
    have clf : AllLf cs := fun p m => (cz p m).lf
    have flf : AllLf fs := fun p m => (fz p m).lf
    have tfc : Tf C H7 tc cs := by
      obtain ⟨xs, e1, e2⟩ := tvc
      exact ⟨⟨xs, e1, e2⟩, by omega, clf, shr12 fun p m => (qc p m).up (by decide)⟩
    refine ⟨tr, tc, pss, cs, rfl, htt7.mx fit, by rw [pcD]; exact rs, tfc, fun tt H8 tft s8 => ?_⟩
    rw [times_eq lf clf] at tft
    have hl8 := hl7.same s8
    have hb8 := hb7.same s8
    have htt8 := htt7.same s8
    have pc8 := pc7.same s8
    have pf8 := pf7.same s8
    have R8 := R7.same s8
    -- is_rows; the products
    refine ⟨_, rfl, tr, pss, n, rfl, htt8.mx fit, rs, fun H9 s9 => ?_⟩
    refine ⟨true, true, rfl, rfl, _, rfl, iteF ?_⟩
    have tft9 := tft.same s9
    have hl9 := hl8.same s9
    have pc9 := pc8.same s9
    have s89 := s9
    refine ⟨_, rfl, tt, _, rfl, tft9.tv, by rw [List.length_map]; omega, fun l1 HA pl1 sA _ => ?_⟩
    have hlA := hl9.same sA
    have pcA := pc9.same sA
    obtain ⟨va, hva1, hva2⟩ := id hlA
    refine ⟨_, rfl, fo, rfl, ⟨_, SqL.of hva1⟩, fun DB hDB => ?_⟩
    refine lc_list (xs := va) (fun i Hc => Same HA Hc ∧ ∃ zs, Hc DB = some (.lst zs) ∧ TPs Hc zs ((pss.map fun ps => prodP ps cs).take i)) ⟨same_new hDB, [], upd_same, A2.nil⟩ (fun i Hc _ p => SqL.of (p.1 _ _ hva1)) ?_ ?_
    · rintro i v Hc hvi ⟨sm, zs, hDc, hzz⟩
      obtain ⟨ps, hp, x, rfl, px⟩ := hva2.2 i v hvi
      have mp := List.mem_of_getElem? hp
      have il := (List.getElem?_eq_some_iff.mp hp).1
      refine ⟨rfl, _, rfl, _, rfl, x, D4, ps, cs, rfl, px.same sm, pcA.same sm, by rw [lz ps mp, pcD], by rw [lz ps mp]; omega, fun p hp => (((hz ps mp).2 p hp).pz (Nat.le_refl _)).up (by decide), fun p hp => (cz p hp).up (by decide), fun z H' tz s' => ?_⟩
      have e := s' _ _ hDc
      refine ⟨zs, e, small1000 (by rw [hzz.1, List.length_take, List.length_map]; omega), same_upd hDB (sm.trans s'), zs ++ [.ref z], upd_same, ?_⟩
      rw [take_snoc (x := prodP ps cs) (by rw [List.getElem?_map, hp]; rfl)]
      exact A2.snoc ((hzz.same s').updl e) ⟨z, rfl, tup_updl tz e⟩
    rintro HB ⟨sB, zs, hDB1, hzz⟩
    rw [List.take_of_length_le (by rw [hva2.1, List.length_map]; exact Nat.le_refl _)] at hzz
    have plB : PL HB DB (pss.map fun ps => prodP ps cs) := ⟨zs, hDB1, hzz⟩
    refine ⟨plD _, plD _, (pl1.same sB).dp, plB.dp, plD_shaped _, plD_shaped _, ?_⟩
    rw [eqv_same (plD_shaped _)]
    refine ⟨_, rfl, iteF ?_⟩
    have s8B := (s9.trans sA).trans sB
    have hlB := hl8.same s8B
    have hbB := hb8.same s8B
    have httB := htt8.same s8B
    have pfB := pf8.same s8B
    have tftB := tft.same s8B
    have RB := R8.same s8B
    have dB := RB.1
    -- mix_of
    refine ⟨_, rfl, _, rfl, _, rfl, d, D5, fs, rfl, dB, pfB, pfB.ne dB, by omega, fun p m => (fz p m).up (by decide), fun tg HC tvg rC _ => ?_⟩
    have hlC := hlB.rl dB rC
    have hbC := hbB.rl dB rC
    have httC := httB.rl dB rC
    have pfC := pfB.rl (pfB.ne dB) dB rC
    have tftC : TFr C HC tt (pss.map fun ps => prodP ps cs) := by
      obtain ⟨xs, e1, e2⟩ := tftB
      have ne : tt ≠ d := fun w => by
        obtain ⟨_, _, _, hd⟩ := dB
        rw [w, hd] at e1; cases e1
      exact ⟨xs, rC.2 _ _ ne e1, A2.imp e2 fun _ _ ⟨q, e, f⟩ => ⟨q, e, f.rl dB rC⟩⟩
    have RC := RB.trans rC
    have sm30 : Sm pss := fun ps m p hp => by
      have z := ((hz ps m).2 p hp).pz (Nat.le_refl _)
      exact ⟨pow_up z.tz (by decide), pow_up z.bz (by decide)⟩
    have tfg : Tf C HC tg fs := by
      obtain ⟨xs, e1, e2⟩ := tvg
      exact ⟨⟨xs, e1, e2⟩, by omega, flf, shr12 fun p m => (qf p m).up (by decide)⟩
    refine ⟨tr, tg, pss, n, fs, rfl, httC.mx fit, rs, sm30, tfg, pfD, fun tm HD tmt sD => ?_⟩
    rw [mix_eq (fun ps m => ⟨lz ps m, lf ps m⟩) flf] at tmt
    have hlD := hlC.same sD
    have hbD := hbC.same sD
    have httD := httC.same sD
    have pfDD := pfC.same sD
    have tftD := tftC.same sD
    have RD := RC.same sD
    have mlen : (mixL pss fs n).length = n := by unfold mixL; rw [List.length_map, List.length_range]
    refine ⟨_, rfl, tm, _, rfl, tmt.tv, by rw [mlen]; omega, fun l2 HE pl2 sE _ => ?_⟩
    refine ⟨_, rfl, _, rfl, fo, D5, pss, fs, n, rfl, hlD.same sE, pfDD.same sE, pfD.symm, by omega, by omega, by omega, lz, fun ps m p hp => (((hz ps m).2 p hp).pz (Nat.le_refl _)).up (by decide), fun p m => (fz p m).up (by decide), fun l3 HF pl3 sF => ?_⟩
    refine ⟨plD _, plD _, (pl2.same sF).dp, pl3.dp, plD_shaped _, plD_shaped _, ?_⟩
    rw [eqv_same (plD_shaped _)]
    refine ⟨_, rfl, iteF ?_⟩
    have sDF := sE.trans sF
    obtain ⟨xt, ht1, ht2⟩ := tftD.same sDF
    obtain ⟨xm, hm1, hm2⟩ := tmt.same sDF
    have xtl : xt.length = pss.length := by rw [ht2.1, List.length_map]
    have xml : xm.length = n := by rw [hm2.1, mlen]
    have xt0 : xt ≠ [] := fun z => by rw [z] at xtl; simp at xtl; omega
    have xm0 : xm ≠ [] := fun z => by rw [z] at xml; simp at xml; omega
    refine ⟨_, rfl, _, rfl, tt, tm, xt, xm, rfl, rfl, SqT.of ht1, SqT.of hm1, Nat.le_of_lt (small1000 (by omega)), fun z => absurd z xt0, fun _ z => absurd z xm0, fun _ _ ta hta => ?_⟩
    have sN : Same HF (upd HF ta (.tup (xt ++ xm))) := same_new hta
    refine ⟨ta, _, rfl, ⟨_, upd_same, FRs.append (ht2.same sN) (hm2.same sN)⟩, fun HG sG => ?_⟩
    refine ⟨_, rfl, iteF ?_⟩
    have sDG := (sDF.trans sN).trans sG
    have hlG := hlD.same sDG
    have hbG := hbD.same sDG
    have httG := httD.same sDG
    have RG := RD.same sDG
    -- cleared
    refine ⟨_, rfl, tr, pss, n, 11, rfl, httG.mx fit, rs, n4, by decide, by decide, fun ps m => line_q12 (hz ps m).2 (Nat.le_refl _), fun rows places ys dd tl HH I hsz hdz pm so ttf sH => ?_⟩
    have hlH := hlG.same sH
    have hbH := hbG.same sH
    have httH := httG.same sH
    have RH := RG.same sH
    have on := out_rows (ys := ys) I
    obtain ⟨vo, hvo1, hvo2⟩ := ttf.tt
    have ol : (outP rows places dd ys).length ≤ 4 := by
      unfold outP
      rw [List.length_map, pm.length_eq, ← I.ln]
      exact Nat.le_trans I.fm.le n4
    refine ⟨_, rfl, tl, rfl, ⟨_, SqT.of hvo1⟩, fun DI hDI => ?_⟩
    refine tt_ll (C := C) (by omega) hDI hvo1 hvo2 (fun _ => rfl) (fun i ps x Hx Qx hp tv qx => ⟨_, rfl, x, ps, rfl, tv, by obtain ⟨r, hr', e⟩ := on ps (List.mem_of_getElem? hp); have := out_len I hr' e; omega, qx⟩) ?_
    intro HI sI llI
    refine ⟨_, rfl, fo, pss, n, rfl, hlH.same sI, by omega, by omega, by omega, (fun ps m => ⟨lz ps m, fun p hp => (((hz ps m).2 p hp).pz (Nat.le_refl _)).up (by decide)⟩), fun left found pl xc HJ X llc sJ => ?_⟩
    have eo := out_found lf I pm so X
    rw [eo] at llI ttf on hvo2 ol
    refine ⟨llD _, llD _, (llI.same sJ).dp, llc.dp, llD_shaped _, llD_shaped _, ?_⟩
    rw [eqv_same (llD_shaped _)]
    refine ⟨_, rfl, iteF ?_⟩
    have sHJ := sI.trans sJ
    have ttfJ := ttf.same sHJ
    have hbJ := hbH.same sHJ
    have httJ := httH.same sHJ
    have RJ := RH.same sHJ
    -- all of the class
    obtain ⟨vj, hvj1, hvj2⟩ := id ttfJ
    refine ⟨_, rfl, tl, rfl, ⟨_, SqT.of hvj1⟩, fun DK hDK => ?_⟩
    refine lc_tup (xs := vj) (fun i Hc => Same HJ Hc ∧ Hc DK = some (.lst [])) ⟨same_new hDK, upd_same⟩ (fun i Hc _ p => SqT.of (p.1 _ _ hvj1)) ?_ ?_
    · rintro i v Hc hvi ⟨sm, hDc⟩
      obtain ⟨ps, hp, x, rfl, tx⟩ := hvj2.2 i v hvi
      refine ⟨rfl, _, rfl, x, ps, rfl, tx.same sm, fun H2 s2 => ⟨_, rfl, ?_⟩⟩
      exact ⟨sm.trans s2, s2 _ _ hDc⟩
    rintro HK ⟨sK, hDK1⟩
    refine ⟨Nat.zero_le _, fun lk hlk => ?_⟩
    have sK2 : Same HK (upd HK lk (.lst [])) := same_new hlk
    have hlk2 : upd HK lk (.lst []) lk = some (.lst []) := upd_same
    have hDK2 := sK2 _ _ hDK1
    generalize upd HK lk _ = HL at *
    refine ⟨.list [], .list [], Dp.lst (SqL.of hDK2) .nil, Dp.lst (SqL.of hlk2) .nil, rfl, rfl, ?_⟩
    have ev : (!PyData.eqv (.list []) (.list [])) = false := by decide +kernel
    rw [ev]
    refine ⟨_, rfl, iteF ?_⟩
    have sJL := sK.trans sK2
    have ttfL := ttfJ.same sJL
    have hbL := hbJ.same sJL
    have httL := httJ.same sJL
    have RL := RJ.same sJL
    refine ⟨_, rfl, Nat.zero_le _, fun te hte => ?_⟩
    have sT : Same HL (upd HL te (.tup [])) := same_new hte
    have hte2 : upd HL te (.tup []) te = some (.tup []) := upd_same
    generalize upd HL te _ = HT at *
    have ttfT := ttfL.same sT
    have hbT := hbL.same sT
    have httT := httL.same sT
    have RT := RL.same sT
    obtain ⟨vt, hvt1, hvt2⟩ := id ttfT
    by_cases hnil : found = []
    · have vt0 : vt = [] := List.length_eq_zero_iff.mp (by rw [hvt2.1, hnil]; rfl)
      subst vt0
      refine .inl ⟨⟨tl, te, [], [], rfl, rfl, SqT.of hvt1, SqT.of hte2, Prs.nil⟩, fun HZ eZ => ?_⟩
      have sZ : Same HT HZ := eZ
      refine ⟨_, rfl, iteF ?_⟩
      have hbZ := hbT.same sZ
      obtain ⟨vz, hwZ1, hwZ2⟩ := httT.same sZ
      have RZ := RT.same sZ
      refine ⟨_, rfl, tr, rfl, ⟨_, SqT.of hwZ1⟩, fun DY hDY => ?_⟩
      refine tt_ll (C := C) (by omega) hDY hwZ1 hwZ2 (fun _ => rfl) (fun i ps x Hx Qx hp tv qx => ⟨_, rfl, x, ps, rfl, tv, by have := lz ps (List.mem_of_getElem? hp); omega, qx⟩) ?_
      intro HY sY llY
      refine ⟨_, rfl, ?_⟩
      refine ⟨llD _, llD _, llY.dp, (hbZ.same sY).dp, llD_shaped _, llD_shaped _, ?_⟩
      rw [eqv_same (llD_shaped _)]
      exact q _ (RZ.same sY)
    · have fp : 0 < found.length := List.length_pos_iff.mpr hnil
      refine .inr ⟨tl, te, vt, rfl, rfl, SqT.of hvt1, SqT.of hte2, by rw [hvt2.1]; exact fp, ?_⟩
      refine ⟨_, rfl, iteT ?_⟩
      have rl4 : rows.length ≤ 4 := by have := I.fm.le; omega
      have sz4 := szk4 rl4
      have hsz' : ∀ r, r ∈ rows ∨ r = [] → ∀ j, (ent r j).natAbs < 2 ^ szk 11 rows.length := fun r hr' j => by
        rcases hr' with z | z
        · exact hsz r z j
        · rw [z, ent_none (by exact Nat.zero_le _)]; exact Nat.pow_pos (by decide)
      have fit2 : ∀ ps ∈ found, ps.length ≤ 80 ∧ AllLf ps ∧ Shr ps := fun ps m => by
        obtain ⟨r, hr', e⟩ := on ps m
        refine ⟨by have := (X.fz ps m).1; omega, fun p hp => ((X.fz ps m).2 p hp).lf, ?_⟩
        rw [e]
        exact ov_shr I.d0 (hsz' r hr') hdz (by omega)
      have rs2 : Rs found n := ⟨fp, by omega, by omega, by omega, fun ps m => (X.fz ps m).1, fun ps m => (fit2 ps m).2.1, fun ps m => (fit2 ps m).2.2⟩
      refine ⟨_, rfl, tl, found, n, 406, rfl, ttfT.tt.mx fit2, rs2, n4, by decide, by decide, fun ps m => ?_, fun rows2 places2 ys2 dd2 tl2 HM I2 hsz2 hdz2 pm2 so2 ttf2 sM => ?_⟩
      · obtain ⟨r, hr', e⟩ := on ps m
        rw [e]
        intro j
        exact pow_up (ov_line I.d0 (hsz' r hr') j) sz4
      have eo2 := out_again I2 pm2 so2 X
      rw [eo2] at ttf2
      refine ⟨_, rfl, ttf_prs ttf2 (ttfT.same sM), fun HZ eZ => ?_⟩
      have sZ : Same HT HZ := sM.trans eZ
      refine ⟨_, rfl, iteF ?_⟩
      have hbZ := hbT.same sZ
      obtain ⟨vz, hwZ1, hwZ2⟩ := httT.same sZ
      have RZ := RT.same sZ
      refine ⟨_, rfl, tr, rfl, ⟨_, SqT.of hwZ1⟩, fun DY hDY => ?_⟩
      refine tt_ll (C := C) (by omega) hDY hwZ1 hwZ2 (fun _ => rfl) (fun i ps x Hx Qx hp tv qx => ⟨_, rfl, x, ps, rfl, tv, by have := lz ps (List.mem_of_getElem? hp); omega, qx⟩) ?_
      intro HY sY llY
      refine ⟨_, rfl, ?_⟩
      refine ⟨llD _, llD _, llY.dp, (hbZ.same sY).dp, llD_shaped _, llD_shaped _, ?_⟩
      rw [eqv_same (llD_shaped _)]
      exact q _ (RZ.same sY)
end
end FR
set_option Elab.async false
set_option linter.all false
set_option maxRecDepth 100000
set_option maxHeartbeats 4000000
namespace FR
open PySem PySem.Spec PyProof.Rows L2 LD RF
theorem FrAt.to {C : Addr} {H : Hp} {p : Addr} {t b t' b' : Int} (h : FrAt C H p t b) (e1 : t = t') (e2 : b = b') : FrAt C H p t' b' := by
  subst e1 e2
  exact h
theorem tv_i {C : Addr} {H : Hp} {a : Addr} : ∀ {is : List Int}, H a = some (.tup (is.map V.int)) → TV C H a (is.map fun i => (i, 1)) := fun {is} h => ⟨_, h, by
  refine ⟨by rw [List.length_map, List.length_map], fun i v hv => ?_⟩
  rw [List.getElem?_map] at hv ⊢
  cases e : is[i]? with
  | none => rw [e] at hv; cases hv
  | some x =>
    rw [e] at hv
    cases hv
    exact ⟨_, rfl, .inr ⟨rfl, rfl⟩⟩⟩
theorem tt1 {C : Addr} {H : Hp} {a q1 : Addr} {p1 : List PI} (h : H a = some (.tup [.ref q1])) (h1 : TV C H q1 p1) : TT C H a [p1] := ⟨_, h, AG.snoc AG.nil ⟨q1, rfl, h1⟩⟩
theorem tt2 {C : Addr} {H : Hp} {a q1 q2 : Addr} {p1 p2 : List PI} (h : H a = some (.tup [.ref q1, .ref q2])) (h1 : TV C H q1 p1) (h2 : TV C H q2 p2) : TT C H a [p1, p2] := ⟨_, h, AG.snoc (AG.snoc AG.nil ⟨q1, rfl, h1⟩) ⟨q2, rfl, h2⟩⟩
theorem tt3 {C : Addr} {H : Hp} {a q1 q2 q3 : Addr} {p1 p2 p3 : List PI} (h : H a = some (.tup [.ref q1, .ref q2, .ref q3])) (h1 : TV C H q1 p1) (h2 : TV C H q2 p2) (h3 : TV C H q3 p3) : TT C H a [p1, p2, p3] := ⟨_, h, AG.snoc (AG.snoc (AG.snoc AG.nil ⟨q1, rfl, h1⟩) ⟨q2, rfl, h2⟩) ⟨q3, rfl, h3⟩⟩
theorem TT.mxB {C : Addr} {H : Hp} {a : Addr} {pss : List (List PI)} {n : Nat} (h : TT C H a pss) (r : rsB pss n = true) : TMx C H a pss := by
  have R := (rs_of r).1
  exact h.mx fun ps m => ⟨by have := R.len ps m; have := R.n12; omega, R.lf ps m, R.sz ps m⟩
theorem TV.tf {C : Addr} {H : Hp} {a : Addr} {ps : List PI} (h : TV C H a ps) (l : ps.length ≤ 80) (r : tfB ps = true) : Tf C H a ps := by
  obtain ⟨xs, h1, h2⟩ := h
  exact ⟨⟨xs, h1, h2⟩, l, (tf_of r).1, (tf_of r).2.1⟩
theorem cf1 : tfB [(4, 1), (1, 1)] = true := by decide +kernel
theorem cf2 : tfB [(1, 1), (4, 1)] = true := by decide +kernel
theorem cf3 : tfB ((List.range 12).map fun i => ((i : Nat), 1)) = true := by decide +kernel
theorem cf4 : tfB (List.replicate 80 (1, 1)) = true := by decide +kernel
def REI (C : Addr) (a : Addr) (i : Int) (H : Hp) : Prop := FrAt C H a i 1
/-- a fraction beside an integer or a fraction -/
def DEl (C : Addr) : Eqv := fun x y H => DOwnI C (REI C) x y H ∨ DIns C (REq C) x y H
theorem mon_el (C : Addr) : Mon (DEl C) := (mon_ownI (C := C) (R := REI C) fun _ _ _ _ e h => h.same e).or (mon_ins (mon_req C))
theorem prs_one {C : Addr} {H : Hp} {xs ys : List V} {ps : List PI} (h : FRs C H xs ps) (g : FVs C H ys ps) : Prs (DEl C) xs ys H := by
  refine ⟨by rw [h.1, g.1], fun i x y hx hy => ?_⟩
  obtain ⟨p, hp, a, rfl, dx, fx⟩ := h.2 i x hx
  obtain ⟨p', hp', fv⟩ := g.2 i y hy
  rw [hp] at hp'
  cases hp'
  rcases fv with ⟨b, rfl, dy, fy⟩ | ⟨rfl, e⟩
  · exact .inr ⟨a, b, dx, dy, _, _, rfl, rfl, fx, fy, _, _, ⟨dx, fx⟩, ⟨dy, fy⟩⟩
  · rw [e] at fx
    exact .inl ⟨a, dx, _, p.1, rfl, rfl, fx, dx, fx⟩
theorem dt_one {K : PySem.W.Frag} {C : Addr} {H : Hp} {a b : Addr} {ps : List PI} (h : TFr C H a ps) (g : TV C H b ps) : DTup K (DEl C) (.ref a) (.ref b) H := by
  obtain ⟨xs, h1, h2⟩ := h
  obtain ⟨ys, h3, h4⟩ := g
  exact ⟨a, b, xs, ys, rfl, rfl, SqT.of h1, SqT.of h3, prs_one h2 h4⟩
theorem dt_two {K : PySem.W.Frag} {C : Addr} {H : Hp} {a b : Addr} {pss : List (List PI)} (h : TTF C H a pss) (g : TT C H b pss) : DTup K (DTup K (DEl C)) (.ref a) (.ref b) H := by
  obtain ⟨vs, ha, lv, zv⟩ := h
  obtain ⟨us, hb, lu, zu⟩ := g
  refine ⟨a, b, vs, us, rfl, rfl, SqT.of ha, SqT.of hb, by rw [lv, lu], fun i x y hx hy => ?_⟩
  obtain ⟨p, hp, q, rfl, h1⟩ := zv i x hx
  obtain ⟨p', hp', q', rfl, h3⟩ := zu i y hy
  rw [hp] at hp'
  cases hp'
  exact dt_one h1 h3
/-- n times True, in a list -/
def BLs (H : Hp) (a : Addr) (n : Nat) : Prop := H a = some (.lst (List.replicate n (V.bl true)))
theorem BLs.same {H H' : Hp} {a : Addr} {n : Nat} (h : BLs H a n) (s : Same H H') : BLs H' a n := s _ _ h
def bD (n : Nat) : PyData := .list (List.replicate n (.bool true))
theorem bls_all {K : PySem.W.Frag} {H : Hp} : ∀ n : Nat, DpAll K H (List.replicate n (V.bl true)) (List.replicate n (.bool true))
  | 0 => .nil
  | n + 1 => by rw [List.replicate_succ, List.replicate_succ]; exact .cons (.bl _) (bls_all n)
theorem BLs.dp {K : PySem.W.Frag} {H : Hp} {a : Addr} {n : Nat} (h : BLs H a n) : Dp K H (.ref a) (bD n) := .lst (SqL.of h) (bls_all n)
def H2T (H : Hp) (a : Addr) (i j : Int) : Prop := H a = some (.tup [.int i, .int j])
theorem H2T.same {H H' : Hp} {a : Addr} {i j : Int} (h : H2T H a i j) (s : Same H H') : H2T H' a i j := s _ _ h
def TL1 (C : Addr) (H : Hp) (us : List V) : Prop := AG (fun v ps => ∃ q, v = .ref q ∧ TV C H q ps) us rowsHigh
theorem TL1.same {C : Addr} {H H' : Hp} {us : List V} (h : TL1 C H us) (s : Same H H') : TL1 C H' us := h.imp fun _ _ ⟨q, e, t⟩ => ⟨q, e, t.same s⟩
theorem tv_rep {C : Addr} {H : Hp} {a : Addr} {n : Nat} (h : H a = some (.tup (List.replicate n [V.int 1]).flatten)) : TV C H a (List.replicate n (1, 1)) := by
  rw [flat_rep] at h
  refine ⟨_, h, by rw [List.length_replicate, List.length_replicate], fun i v hv => ?_⟩
  rw [List.getElem?_replicate] at hv ⊢
  split at hv
  · next z =>
    rw [if_pos z]
    cases hv
    exact ⟨_, rfl, .inr ⟨rfl, rfl⟩⟩
  · cases hv
theorem tv_rg {C : Addr} {H : Hp} {a : Addr} (h : H a = some (.tup (rgV 0 12))) : TV C H a ((List.range 12).map fun i => ((i : Nat), 1)) := by
  have e : rgV 0 12 = ((List.range 12).map fun i : Nat => (i : Int)).map V.int := by rfl
  rw [e] at h
  have := tv_i (C := C) h
  rw [List.map_map] at this
  exact this
section
variable {P : Program} {w : World} {K : PySem.W.Frag} {mg : Str → Option Value} {base : Heap} {C fI pT gT0 pB gB0 : Addr} {fdI fdT fdB : FuncData}
abbrev sLaw : Stmt := FR.top 53
abbrev NL : List Str := ["_law_script", "_law_at", "_law_dice_here", "_law_turn", "_law_half", "_law_told", "_law_wide", "_law_high"]
theorem scL : FnScope NL ["_law_script"] (defScope sLaw) := ⟨rfl, rfl, rfl, by decide +kernel, rfl, by decide +kernel, by decide +kernel⟩
def spLaw (K : PySem.W.Frag) : Sp := fun vs H Q _ => ∃ (a : Addr) (ns : List Int), vs = [.ref a] ∧ SqL K H a (ns.map V.int) ∧ ∀ H', Q (.bl true) H'
structure TxtL (mg : Str → Option Value) : Prop where
  ra : mg "range" = none
  ma : mg "max" = none
  mi : mg "min" = none
  le : mg "len" = none
  tu : mg "tuple" = none
theorem ok_law {f : Addr} {fd : FuncData} (F : Fun K "law" "law" sLaw f fd) (k : FrK P w K mg base C fI pT gT0 pB gB0 fdI fdT fdB) (TL : TxtL mg) (TR : TxtR mg) (OD : OddsC K C)
    (gD : Glo P w K mg base "_law_dice" 1 ["_law_script", "_law_at"] (spDice K)) (gG : Glo P w K mg base "_law_right" 8 ["_law_dice_here"] spRt)
    (gTo : Glo P w K mg base "times_of" 7 ["rows", "column"] (spTof C)) (gMo : Glo P w K mg base "mix_of" 7 ["rows", "factors"] (spMof C)) (gCl : Glo P w K mg base "cleared" 6 ["rows"] (spClrd C)) (gIr : Glo P w K mg base "is_rows" 4 ["value"] (spIrs C))
    (mE : Met P w K mg base C "__eq__" 3 ["self", "other"] (FR.spEq K C)) : FnOk P w K mg base CX0 9 f fd ["_law_script"] (spLaw K) := by
  obtain ⟨tk1, mr1⟩ := TR.mr
  obtain ⟨tk2, mw1⟩ := TR.mw
  refine F.ok scL (fun vs H Q E h => ?_) (fun cdv A outer s H vs Q E hr h => ?_)
  · obtain ⟨a, ns, rfl, _⟩ := h
    rfl
  · obtain ⟨a, ns, rfl, hs, q⟩ := h
    have eqE : EqG ((cxOf CX0 P w K mg base NL "law" (defScope sLaw) f cdv A outer s H E).nox) 3 (DEl C) :=
      (eqG_ownI (E := E) (R := REI C) mE.D mE.G mE.b pass0 OD.int.n fun a i H h => ⟨a, .int i, i, 1, true, rfl, h, .inr (.inl ⟨i, rfl, by simp⟩), rfl, Ext.rfl'⟩).or
      (eqG_ins (E := E) (fn_weaken mE.G fun vs H Q E ⟨a, b, e, ⟨t, u, h1, h2⟩, q⟩ => ⟨a, .ref b, t, u, true, e, h1, .inl ⟨b, t, u, rfl, h2, by simp⟩, q H Ext.rfl'⟩) mE.D.at_ mE.D.fn mE.b pass0)
    refine ⟨_, (pss_cons (ps_for PassesOwn.never rfl (pi_range1 (by rfl) TL.ra (pa_cons (pe_callB (call_max2 rfl) (by rfl) TL.ma (by decide +kernel) (pa_cons pe_int (pa_cons (pe_callB (call_min2 rfl) (by rfl) TL.mi (by decide +kernel) (pa_cons pe_int (pa_cons (pe_callB call_len_seq (by rfl) TL.le PySem.boot_len (pa_cons (pv 0) pa_nil)) pa_nil))) pa_nil))) pa_nil)) (pg_name (i := 1) scL.nd rfl (.inl rfl))
        (pss_cons (ps_set (i := 2) scL.nd rfl (Or.inl rfl) (pe_call gD.G (hr.mono (by decide)) (by rfl) gD.m gD.k gD.b .nil pass0 (pa_cons (pv 0) (pa_cons (pv 1) pa_nil))))
      (pss_one (ps_for PassesOwn.never rfl (pi_range1 (by rfl) TL.ra (pa_cons pe_int pa_nil)) (pg_name (i := 3) scL.nd rfl (.inl rfl)) (pss_one (ps_if (pt_not (pt_val (pe_call gG.G hr (by rfl) gG.m gG.k gG.b .nil pass0 (pa_cons (pv 2) pa_nil)))) (pss_one (ps_ret pe_bl)) pss_nil))))))
      (pss_cons (ps_set (i := 4) scL.nd rfl (Or.inl rfl) (pe_make k.M k.GI (hr.mono (by decide)) (by rfl) k.T.mC k.b2 .nil pass0 (pa_cons pe_int (pa_cons pe_int pa_nil))))
      (pss_cons (ps_set (i := 5) scL.nd rfl (Or.inl rfl) (pe_lst (pa_cons (pe_cmpR (op_eqG (rcG_tup (mon_el C) eqE) (hr.mono (by decide))) (pe_call gTo.G (hr.mono (by decide)) (by rfl) gTo.m gTo.k gTo.b .nil pass0 (pa_cons (pe_tup (pa_cons (pe_tup (pa_cons pe_int (pa_cons pe_int pa_nil))) (pa_cons (pe_tup (pa_cons (pv 4) (pa_cons pe_int pa_nil))) pa_nil))) (pa_cons (pe_tup (pa_cons pe_int (pa_cons pe_int pa_nil))) pa_nil))) (pe_tup (pa_cons pe_int (pa_cons pe_int pa_nil))) (nomark _)) (pa_cons (pe_cmpR (op_eqG (rcG_tup (mon_el C) eqE) (hr.mono (by decide))) (pe_call gMo.G (hr.mono (by decide)) (by rfl) gMo.m gMo.k gMo.b .nil pass0 (pa_cons (pe_tup (pa_cons (pe_tup (pa_cons pe_int (pa_cons pe_int pa_nil))) (pa_cons (pe_tup (pa_cons (pv 4) (pa_cons pe_int pa_nil))) pa_nil))) (pa_cons (pe_tup (pa_cons pe_int (pa_cons pe_int pa_nil))) pa_nil))) (pe_tup (pa_cons pe_int (pa_cons pe_int pa_nil))) (nomark _)) pa_nil))))
      (pss_cons (ps_set (i := 5) scL.nd rfl (Or.inl rfl) (pe_op op_cat (pv 5) (pe_lst (pa_cons (pe_cmpR (op_eqG (rcG_tup (mon_tup (K := K) (mon_el C)) (eqG_tup (mon_el C) eqE)) (hr.mono (by decide))) (pe_call gCl.G (hr.mono (by decide)) (by rfl) gCl.m gCl.k gCl.b .nil pass0 (pa_cons (pe_tup (pa_cons (pe_tup (pa_cons pe_int (pa_cons pe_int pa_nil))) (pa_cons (pe_tup (pa_cons pe_int (pa_cons pe_int pa_nil))) pa_nil))) pa_nil)) (pe_tup (pa_cons (pe_tup (pa_cons pe_int (pa_cons pe_int pa_nil))) pa_nil)) (nomark _)) (pa_cons (pe_cmpR (op_eqG (rcG_tup (mon_tup (K := K) (mon_el C)) (eqG_tup (mon_el C) eqE)) (hr.mono (by decide))) (pe_call gCl.G (hr.mono (by decide)) (by rfl) gCl.m gCl.k gCl.b .nil pass0 (pa_cons (pe_tup (pa_cons (pe_tup (pa_cons pe_int (pa_cons pe_int pa_nil))) pa_nil)) pa_nil)) (pe_tup pa_nil) (nomark _)) pa_nil)))))
      (pss_cons (ps_expr (pe_bm PySem.F.plainAttrs_list PySem.F.slot_list_append PySem.F.type_list_append mt_append (pv 5) (pa_cons (pe_cmpR (op_eqG (rcG_tup (mon_tup (K := K) (mon_el C)) (eqG_tup (mon_el C) eqE)) (hr.mono (by decide))) (pe_call gCl.G (hr.mono (by decide)) (by rfl) gCl.m gCl.k gCl.b .nil pass0 (pa_cons (pe_tup (pa_cons (pe_tup (pa_cons pe_int (pa_cons pe_int (pa_cons (pv 4) pa_nil)))) pa_nil)) pa_nil)) (pe_tup (pa_cons (pe_tup (pa_cons pe_int (pa_cons pe_int (pa_cons (pe_make k.M k.GI (hr.mono (by decide)) (by rfl) k.T.mC k.b2 .nil pass0 (pa_cons pe_int (pa_cons pe_int pa_nil))) pa_nil)))) pa_nil)) (nomark _)) pa_nil)))
      (pss_cons (ps_expr (pe_bm PySem.F.plainAttrs_list PySem.F.slot_list_append PySem.F.type_list_append mt_append (pv 5) (pa_cons (pe_cmpR (op_eqG (rcG_tup (mon_tup (K := K) (mon_el C)) (eqG_tup (mon_el C) eqE)) (hr.mono (by decide))) (pe_call gCl.G (hr.mono (by decide)) (by rfl) gCl.m gCl.k gCl.b .nil pass0 (pa_cons (pe_tup (pa_cons (pe_tup (pa_cons pe_int (pa_cons pe_int pa_nil))) (pa_cons (pe_tup (pa_cons pe_int (pa_cons pe_int pa_nil))) (pa_cons (pe_tup (pa_cons pe_int (pa_cons pe_int pa_nil))) pa_nil)))) pa_nil)) (pe_tup (pa_cons (pe_tup (pa_cons pe_int (pa_cons pe_int pa_nil))) (pa_cons (pe_tup (pa_cons pe_int (pa_cons pe_int pa_nil))) pa_nil))) (nomark _)) pa_nil)))
      (pss_cons (ps_par (i := 6) (j := 7) (by rfl) scL.nd rfl rfl (by decide) rfl rfl (pa_cons (pe_tup (pa_cons (pe_op op_repT (pe_tup (pa_cons pe_int pa_nil)) pe_int) pa_nil)) (pa_cons (pe_callTy call_tuple_of (by rfl) TL.tu (by decide +kernel) (pa_cons (pe_lc (X := (cxOf CX0 P w K mg base NL "law" (defScope sLaw) f cdv A outer s H E).nox) (own := [("_law_at", 1)]) (g := (gName 1)) (tt := tYes) rfl scL.nd (pi_range1 (by rfl) TL.ra (pa_cons pe_int pa_nil)) (blkOk_by (N := NL) (sc := (defScope sLaw)) (by decide +kernel)) (fun _ _ _ _ _ => (pg_name (i := 1) scL.nd rfl (.inl rfl))) (fun _ _ _ _ _ => pts_nil) (fun _ _ _ _ _ => (pe_tup (pa_cons (pv 1) (pa_cons (pe_op op_sub pe_int (pv 1)) pa_nil))))) pa_nil)) pa_nil)) (by rfl))
      (pss_cons (ps_set (i := 5) scL.nd rfl (Or.inl rfl) (pe_op op_cat (pv 5) (pe_lst (pa_cons (pe_call gIr.G (hr.mono (by decide)) (by rfl) gIr.m gIr.k gIr.b .nil pass0 (pa_cons (pv 6) pa_nil)) (pa_cons (pe_call gIr.G (hr.mono (by decide)) (by rfl) gIr.m gIr.k gIr.b .nil pass0 (pa_cons (pv 7) pa_nil)) (pa_cons (pe_cmpR (op_eqG (rcG_tup (mon_el C) eqE) (hr.mono (by decide))) (pe_call gTo.G (hr.mono (by decide)) (by rfl) gTo.m gTo.k gTo.b .nil pass0 (pa_cons (pv 6) (pa_cons (pe_tupRg rfl (by rfl) TL.tu (prg_1 (by rfl) TL.ra pe_int)) pa_nil))) (pe_tup (pa_cons pe_int pa_nil)) (nomark _)) pa_nil))))))
      (pss_cons (ps_set (i := 5) scL.nd rfl (Or.inl rfl) (pe_op op_cat (pv 5) (pe_lst (pa_cons (pe_cmpR (op_eqG (rcG_tup (mon_tup (K := K) (mon_el C)) (eqG_tup (mon_el C) eqE)) (hr.mono (by decide))) (pe_call gCl.G (hr.mono (by decide)) (by rfl) gCl.m gCl.k gCl.b .nil pass0 (pa_cons (pv 7) pa_nil)) (pe_tup (pa_cons (pe_tup (pa_cons pe_int (pa_cons (pe_un un_neg pe_int) pa_nil))) pa_nil)) (nomark _)) (pa_cons (pe_cmpR (op_eqG (rcG_tup (mon_el C) eqE) (hr.mono (by decide))) (pe_call gMo.G (hr.mono (by decide)) (by rfl) gMo.m gMo.k gMo.b .nil pass0 (pa_cons (pv 7) (pa_cons (pe_op op_repT (pe_tup (pa_cons pe_int pa_nil)) pe_int) pa_nil))) (pe_tup (pa_cons pe_int (pa_cons (pe_un un_neg pe_int) pa_nil))) (nomark _)) pa_nil)))))
      (pss_one (ps_ret (pe_and (pe_cmpR (op_eqD hr.units) (pv 5) (pe_op op_rep (pe_lst (pa_cons pe_bl pa_nil)) pe_int) (nomark _)) (pe_one (pe_cmpR (op_eqD hr.units) (pe_tup (pa_cons (pe_glob (v := .int 80) (by rfl) mr1 ⟨tk1, rfl⟩) (pa_cons (pe_glob (v := .int 12) (by rfl) mw1 ⟨tk2, rfl⟩) pa_nil))) (pe_tup (pa_cons pe_int (pa_cons pe_int pa_nil))) (nomark _))))))))))))))), ?_⟩
    refine ⟨_, rfl, a, _, rfl, .inl hs, _, _, rfl, _, _, rfl, _, rfl, by split <;> (try split) <;> omega, by split <;> (try split) <;> omega, ?_⟩
    refine for_range (fun i σ Hc => (∃ x1 x2 x3 : Option V, σ = [some (.ref a), x1, x2, x3, none, none, none, none]) ∧ Same H Hc) ⟨⟨_, _, _, rfl⟩, Same.refl H⟩ ?_ ?_
    · rintro i σ Hc hi ⟨⟨x1, x2, x3, rfl⟩, sm⟩
      refine ⟨_, rfl, _, rfl, a, ns, i, _, rfl, by omega, sm.seq hs, fun d x y z nd => ?_⟩
      have r0 : Rl d (upd Hc d (.lst (dxs x y z))) (upd Hc d (.lst (dxs x y z))) := Rl.refl ⟨_, _, _, upd_same⟩
      refine ⟨8, rfl, by decide, by decide, ?_⟩
      refine for_range (n := 8) (fun j σ Hd => (∃ x3 : Option V, σ = [some (.ref a), some (.int (0 + (i : Int))), some (.ref d), x3, none, none, none, none]) ∧ Rl d (upd Hc d (.lst (dxs x y z))) Hd) ⟨⟨_, rfl⟩, r0⟩ ?_ ?_
      · rintro j σ Hd hj ⟨⟨x3, rfl⟩, r⟩
        refine ⟨_, rfl, d, rfl, r.1, fun H1 r1 => ?_⟩
        exact ⟨_, rfl, ⟨_, rfl⟩, r.trans r1⟩
      · rintro σ Hd ⟨⟨x3, rfl⟩, r⟩
        refine ⟨⟨_, _, _, rfl⟩, fun b o e => ?_⟩
        have hd0 : H d = none := Same.free sm nd
        exact r.2 b o (ne_of_none e hd0) (same_new nd _ _ (sm _ _ e))
    rintro σ H00 ⟨⟨x1, x2, x3, rfl⟩, sm0⟩
    clear sm0 hs
    refine fun hf dxf nxf ndf nef => ⟨hf, dxf, 1, 2, rfl, upd_same, by decide, dv8 (by decide) (by decide +kernel), fun H0 hh hsf => ⟨rfl, ?_⟩⟩
    replace hh : FrAt C H0 hf 1 2 := hh.to (by decide +kernel) (by decide +kernel)
    refine ⟨small1000 (by show 1 ≤ 1000; decide), fun t1 ht1 => ?_⟩
    have s3 : Same H0 (upd H0 t1 (.tup [.int 1, .int 2])) := same_new ht1
    have e4 : upd H0 t1 (.tup [.int 1, .int 2]) t1 = some (.tup [.int 1, .int 2]) := upd_same
    generalize hg4 : upd H0 t1 (.tup [.int 1, .int 2]) = H2 at s3 e4 ⊢
    clear hg4 ht1
    replace hh := hh.same s3
    have v5 : TV C H2 t1 [(1, 1), (2, 1)] := tv_i (is := [1, 2]) e4
    refine ⟨_, rfl, ?_⟩
    refine ⟨small1000 (by show 1 ≤ 1000; decide), fun t6 ht6 => ?_⟩
    have s8 : Same H2 (upd H2 t6 (.tup [.ref hf, .int 0])) := same_new ht6
    have e9 : upd H2 t6 (.tup [.ref hf, .int 0]) t6 = some (.tup [.ref hf, .int 0]) := upd_same
    generalize hg9 : upd H2 t6 (.tup [.ref hf, .int 0]) = H7 at s8 e9 ⊢
    clear hg9 ht6
    replace hh := hh.same s8
    replace v5 := v5.same s8
    have v10 : TV C H7 t6 [(1, 2), (0, 1)] := ⟨_, e9, A2.cons (.inl ⟨hf, rfl, hh⟩) (A2.cons (.inr ⟨rfl, rfl⟩) A2.nil)⟩
    refine ⟨small1000 (by show 1 ≤ 1000; decide), fun t11 ht11 => ?_⟩
    have s13 : Same H7 (upd H7 t11 (.tup [.ref t1, .ref t6])) := same_new ht11
    have e14 : upd H7 t11 (.tup [.ref t1, .ref t6]) t11 = some (.tup [.ref t1, .ref t6]) := upd_same
    generalize hg14 : upd H7 t11 (.tup [.ref t1, .ref t6]) = H12 at s13 e14 ⊢
    clear hg14 ht11
    replace hh := hh.same s13
    replace v5 := v5.same s13
    replace v10 := v10.same s13
    have m15 := tt2 e14 v5 v10
    refine ⟨small1000 (by show 1 ≤ 1000; decide), fun t16 ht16 => ?_⟩
    have s18 : Same H12 (upd H12 t16 (.tup [.int 4, .int 1])) := same_new ht16
    have e19 : upd H12 t16 (.tup [.int 4, .int 1]) t16 = some (.tup [.int 4, .int 1]) := upd_same
    generalize hg19 : upd H12 t16 (.tup [.int 4, .int 1]) = H17 at s18 e19 ⊢
    clear hg19 ht16
    replace hh := hh.same s18
    replace v5 := v5.same s18
    replace v10 := v10.same s18
    replace m15 := m15.same s18
    have v20 : TV C H17 t16 [(4, 1), (1, 1)] := tv_i (is := [4, 1]) e19
    refine ⟨t11, t16, _, [(4, 1), (1, 1)], rfl, m15.mxB rs6, (rs_of rs6).1, v20.tf (by decide) cf1, fun t21 H22 r24 s23 => ?_⟩
    rw [tm1] at r24
    replace hh := hh.same s23
    replace v5 := v5.same s23
    replace v10 := v10.same s23
    replace m15 := m15.same s23
    replace v20 := v20.same s23
    refine ⟨small1000 (by show 1 ≤ 1000; decide), fun t25 ht25 => ?_⟩
    have s27 : Same H22 (upd H22 t25 (.tup [.int 6, .int 2])) := same_new ht25
    have e28 : upd H22 t25 (.tup [.int 6, .int 2]) t25 = some (.tup [.int 6, .int 2]) := upd_same
    generalize hg28 : upd H22 t25 (.tup [.int 6, .int 2]) = H26 at s27 e28 ⊢
    clear hg28 ht25
    replace hh := hh.same s27
    replace v5 := v5.same s27
    replace v10 := v10.same s27
    replace m15 := m15.same s27
    replace v20 := v20.same s27
    replace r24 := r24.same s27
    have v29 : TV C H26 t25 [(6, 1), (2, 1)] := tv_i (is := [6, 2]) e28
    refine ⟨dt_one r24 v29, fun H30 s31 => ?_⟩
    replace s31 : Same H26 H30 := s31
    replace hh := hh.same s31
    replace v5 := v5.same s31
    replace v10 := v10.same s31
    replace m15 := m15.same s31
    replace v20 := v20.same s31
    replace r24 := r24.same s31
    replace v29 := v29.same s31
    refine ⟨small1000 (by show 1 ≤ 1000; decide), fun t32 ht32 => ?_⟩
    have s34 : Same H30 (upd H30 t32 (.tup [.int 1, .int 2])) := same_new ht32
    have e35 : upd H30 t32 (.tup [.int 1, .int 2]) t32 = some (.tup [.int 1, .int 2]) := upd_same
    generalize hg35 : upd H30 t32 (.tup [.int 1, .int 2]) = H33 at s34 e35 ⊢
    clear hg35 ht32
    replace hh := hh.same s34
    replace v5 := v5.same s34
    replace v10 := v10.same s34
    replace m15 := m15.same s34
    replace v20 := v20.same s34
    replace r24 := r24.same s34
    replace v29 := v29.same s34
    have v36 : TV C H33 t32 [(1, 1), (2, 1)] := tv_i (is := [1, 2]) e35
    refine ⟨_, rfl, ?_⟩
    refine ⟨small1000 (by show 1 ≤ 1000; decide), fun t37 ht37 => ?_⟩
    have s39 : Same H33 (upd H33 t37 (.tup [.ref hf, .int 0])) := same_new ht37
    have e40 : upd H33 t37 (.tup [.ref hf, .int 0]) t37 = some (.tup [.ref hf, .int 0]) := upd_same
    generalize hg40 : upd H33 t37 (.tup [.ref hf, .int 0]) = H38 at s39 e40 ⊢
    clear hg40 ht37
    replace hh := hh.same s39
    replace v5 := v5.same s39
    replace v10 := v10.same s39
    replace m15 := m15.same s39
    replace v20 := v20.same s39
    replace r24 := r24.same s39
    replace v29 := v29.same s39
    replace v36 := v36.same s39
    have v41 : TV C H38 t37 [(1, 2), (0, 1)] := ⟨_, e40, A2.cons (.inl ⟨hf, rfl, hh⟩) (A2.cons (.inr ⟨rfl, rfl⟩) A2.nil)⟩
    refine ⟨small1000 (by show 1 ≤ 1000; decide), fun t42 ht42 => ?_⟩
    have s44 : Same H38 (upd H38 t42 (.tup [.ref t32, .ref t37])) := same_new ht42
    have e45 : upd H38 t42 (.tup [.ref t32, .ref t37]) t42 = some (.tup [.ref t32, .ref t37]) := upd_same
    generalize hg45 : upd H38 t42 (.tup [.ref t32, .ref t37]) = H43 at s44 e45 ⊢
    clear hg45 ht42
    replace hh := hh.same s44
    replace v5 := v5.same s44
    replace v10 := v10.same s44
    replace m15 := m15.same s44
    replace v20 := v20.same s44
    replace r24 := r24.same s44
    replace v29 := v29.same s44
    replace v36 := v36.same s44
    replace v41 := v41.same s44
    have m46 := tt2 e45 v36 v41
    refine ⟨small1000 (by show 1 ≤ 1000; decide), fun t47 ht47 => ?_⟩
    have s49 : Same H43 (upd H43 t47 (.tup [.int 1, .int 4])) := same_new ht47
    have e50 : upd H43 t47 (.tup [.int 1, .int 4]) t47 = some (.tup [.int 1, .int 4]) := upd_same
    generalize hg50 : upd H43 t47 (.tup [.int 1, .int 4]) = H48 at s49 e50 ⊢
    clear hg50 ht47
    replace hh := hh.same s49
    replace v5 := v5.same s49
    replace v10 := v10.same s49
    replace m15 := m15.same s49
    replace v20 := v20.same s49
    replace r24 := r24.same s49
    replace v29 := v29.same s49
    replace v36 := v36.same s49
    replace v41 := v41.same s49
    replace m46 := m46.same s49
    have v51 : TV C H48 t47 [(1, 1), (4, 1)] := tv_i (is := [1, 4]) e50
    refine ⟨t42, t47, _, 2, _, rfl, m46.mxB rs6, (rs_of rs6).1, (rs_of rs6).2.1, v51.tf (by decide) cf2, by decide, fun t52 H53 r55 s54 => ?_⟩
    rw [tm2] at r55
    replace hh := hh.same s54
    replace v5 := v5.same s54
    replace v10 := v10.same s54
    replace m15 := m15.same s54
    replace v20 := v20.same s54
    replace r24 := r24.same s54
    replace v29 := v29.same s54
    replace v36 := v36.same s54
    replace v41 := v41.same s54
    replace m46 := m46.same s54
    replace v51 := v51.same s54
    refine ⟨small1000 (by show 1 ≤ 1000; decide), fun t56 ht56 => ?_⟩
    have s58 : Same H53 (upd H53 t56 (.tup [.int 3, .int 2])) := same_new ht56
    have e59 : upd H53 t56 (.tup [.int 3, .int 2]) t56 = some (.tup [.int 3, .int 2]) := upd_same
    generalize hg59 : upd H53 t56 (.tup [.int 3, .int 2]) = H57 at s58 e59 ⊢
    clear hg59 ht56
    replace hh := hh.same s58
    replace v5 := v5.same s58
    replace v10 := v10.same s58
    replace m15 := m15.same s58
    replace v20 := v20.same s58
    replace r24 := r24.same s58
    replace v29 := v29.same s58
    replace v36 := v36.same s58
    replace v41 := v41.same s58
    replace m46 := m46.same s58
    replace v51 := v51.same s58
    replace r55 := r55.same s58
    have v60 : TV C H57 t56 [(3, 1), (2, 1)] := tv_i (is := [3, 2]) e59
    refine ⟨dt_one r55 v60, fun H61 s62 => ?_⟩
    replace s62 : Same H57 H61 := s62
    replace hh := hh.same s62
    replace v5 := v5.same s62
    replace v10 := v10.same s62
    replace m15 := m15.same s62
    replace v20 := v20.same s62
    replace r24 := r24.same s62
    replace v29 := v29.same s62
    replace v36 := v36.same s62
    replace v41 := v41.same s62
    replace m46 := m46.same s62
    replace v51 := v51.same s62
    replace r55 := r55.same s62
    replace v60 := v60.same s62
    clear v5
    clear v10
    clear m15
    clear v20
    clear r24
    clear v29
    clear v36
    clear v41
    clear m46
    clear v51
    clear r55
    clear v60
    refine ⟨small1000 (by show 1 ≤ 1000; decide), fun l63 hl63 => ?_⟩
    have s65 : Same H61 (upd H61 l63 (.lst [.bl true, .bl true])) := same_new hl63
    have e66 : upd H61 l63 (.lst [.bl true, .bl true]) l63 = some (.lst [.bl true, .bl true]) := upd_same
    generalize hg66 : upd H61 l63 (.lst [.bl true, .bl true]) = H64 at s65 e66 ⊢
    clear hg66 hl63
    replace hh := hh.same s65
    have b67 : BLs H64 l63 2 := e66
    refine ⟨_, rfl, ?_⟩
    refine ⟨small1000 (by show 1 ≤ 1000; decide), fun t68 ht68 => ?_⟩
    have s70 : Same H64 (upd H64 t68 (.tup [.int 2, .int 4])) := same_new ht68
    have e71 : upd H64 t68 (.tup [.int 2, .int 4]) t68 = some (.tup [.int 2, .int 4]) := upd_same
    generalize hg71 : upd H64 t68 (.tup [.int 2, .int 4]) = H69 at s70 e71 ⊢
    clear hg71 ht68
    replace hh := hh.same s70
    replace b67 := b67.same s70
    have v72 : TV C H69 t68 [(2, 1), (4, 1)] := tv_i (is := [2, 4]) e71
    refine ⟨small1000 (by show 1 ≤ 1000; decide), fun t73 ht73 => ?_⟩
    have s75 : Same H69 (upd H69 t73 (.tup [.int 0, .int 0])) := same_new ht73
    have e76 : upd H69 t73 (.tup [.int 0, .int 0]) t73 = some (.tup [.int 0, .int 0]) := upd_same
    generalize hg76 : upd H69 t73 (.tup [.int 0, .int 0]) = H74 at s75 e76 ⊢
    clear hg76 ht73
    replace hh := hh.same s75
    replace b67 := b67.same s75
    replace v72 := v72.same s75
    have v77 : TV C H74 t73 [(0, 1), (0, 1)] := tv_i (is := [0, 0]) e76
    refine ⟨small1000 (by show 1 ≤ 1000; decide), fun t78 ht78 => ?_⟩
    have s80 : Same H74 (upd H74 t78 (.tup [.ref t68, .ref t73])) := same_new ht78
    have e81 : upd H74 t78 (.tup [.ref t68, .ref t73]) t78 = some (.tup [.ref t68, .ref t73]) := upd_same
    generalize hg81 : upd H74 t78 (.tup [.ref t68, .ref t73]) = H79 at s80 e81 ⊢
    clear hg81 ht78
    replace hh := hh.same s80
    replace b67 := b67.same s80
    replace v72 := v72.same s80
    replace v77 := v77.same s80
    have m82 := tt2 e81 v72 v77
    refine ⟨t78, _, 2, 10, rfl, m82.mxB rs1, (rs_of rs1).1, by decide, by decide, by decide, sh_of sh1, fun _ _ _ _ t83 H84 I _ _ pm so r86 s85 => ?_⟩
    rw [out_run rs1 I pm so, run1] at r86
    clear I pm so
    replace hh := hh.same s85
    replace b67 := b67.same s85
    replace v72 := v72.same s85
    replace v77 := v77.same s85
    replace m82 := m82.same s85
    refine ⟨small1000 (by show 1 ≤ 1000; decide), fun t87 ht87 => ?_⟩
    have s89 : Same H84 (upd H84 t87 (.tup [.int 1, .int 2])) := same_new ht87
    have e90 : upd H84 t87 (.tup [.int 1, .int 2]) t87 = some (.tup [.int 1, .int 2]) := upd_same
    generalize hg90 : upd H84 t87 (.tup [.int 1, .int 2]) = H88 at s89 e90 ⊢
    clear hg90 ht87
    replace hh := hh.same s89
    replace b67 := b67.same s89
    replace v72 := v72.same s89
    replace v77 := v77.same s89
    replace m82 := m82.same s89
    replace r86 := r86.same s89
    have v91 : TV C H88 t87 [(1, 1), (2, 1)] := tv_i (is := [1, 2]) e90
    refine ⟨small1000 (by show 0 ≤ 1000; decide), fun t92 ht92 => ?_⟩
    have s94 : Same H88 (upd H88 t92 (.tup [.ref t87])) := same_new ht92
    have e95 : upd H88 t92 (.tup [.ref t87]) t92 = some (.tup [.ref t87]) := upd_same
    generalize hg95 : upd H88 t92 (.tup [.ref t87]) = H93 at s94 e95 ⊢
    clear hg95 ht92
    replace hh := hh.same s94
    replace b67 := b67.same s94
    replace v72 := v72.same s94
    replace v77 := v77.same s94
    replace m82 := m82.same s94
    replace r86 := r86.same s94
    replace v91 := v91.same s94
    have m96 := tt1 e95 v91
    refine ⟨dt_two r86 m96, fun H97 s98 => ?_⟩
    replace s98 : Same H93 H97 := s98
    replace hh := hh.same s98
    replace b67 := b67.same s98
    replace v72 := v72.same s98
    replace v77 := v77.same s98
    replace m82 := m82.same s98
    replace r86 := r86.same s98
    replace v91 := v91.same s98
    replace m96 := m96.same s98
    refine ⟨small1000 (by show 1 ≤ 1000; decide), fun t99 ht99 => ?_⟩
    have s101 : Same H97 (upd H97 t99 (.tup [.int 0, .int 0])) := same_new ht99
    have e102 : upd H97 t99 (.tup [.int 0, .int 0]) t99 = some (.tup [.int 0, .int 0]) := upd_same
    generalize hg102 : upd H97 t99 (.tup [.int 0, .int 0]) = H100 at s101 e102 ⊢
    clear hg102 ht99
    replace hh := hh.same s101
    replace b67 := b67.same s101
    replace v72 := v72.same s101
    replace v77 := v77.same s101
    replace m82 := m82.same s101
    replace r86 := r86.same s101
    replace v91 := v91.same s101
    replace m96 := m96.same s101
    have v103 : TV C H100 t99 [(0, 1), (0, 1)] := tv_i (is := [0, 0]) e102
    refine ⟨small1000 (by show 0 ≤ 1000; decide), fun t104 ht104 => ?_⟩
    have s106 : Same H100 (upd H100 t104 (.tup [.ref t99])) := same_new ht104
    have e107 : upd H100 t104 (.tup [.ref t99]) t104 = some (.tup [.ref t99]) := upd_same
    generalize hg107 : upd H100 t104 (.tup [.ref t99]) = H105 at s106 e107 ⊢
    clear hg107 ht104
    replace hh := hh.same s106
    replace b67 := b67.same s106
    replace v72 := v72.same s106
    replace v77 := v77.same s106
    replace m82 := m82.same s106
    replace r86 := r86.same s106
    replace v91 := v91.same s106
    replace m96 := m96.same s106
    replace v103 := v103.same s106
    have m108 := tt1 e107 v103
    refine ⟨t104, _, 2, 10, rfl, m108.mxB rs2, (rs_of rs2).1, by decide, by decide, by decide, sh_of sh2, fun _ _ _ _ t109 H110 I _ _ pm so r112 s111 => ?_⟩
    rw [out_run rs2 I pm so, run2] at r112
    clear I pm so
    replace hh := hh.same s111
    replace b67 := b67.same s111
    replace v72 := v72.same s111
    replace v77 := v77.same s111
    replace m82 := m82.same s111
    replace r86 := r86.same s111
    replace v91 := v91.same s111
    replace m96 := m96.same s111
    replace v103 := v103.same s111
    replace m108 := m108.same s111
    refine ⟨Nat.zero_le _, fun t113 ht113 => ?_⟩
    have s115 : Same H110 (upd H110 t113 (.tup [])) := same_new ht113
    have e116 : upd H110 t113 (.tup []) t113 = some (.tup []) := upd_same
    generalize hg116 : upd H110 t113 (.tup []) = H114 at s115 e116 ⊢
    clear hg116 ht113
    replace hh := hh.same s115
    replace b67 := b67.same s115
    replace v72 := v72.same s115
    replace v77 := v77.same s115
    replace m82 := m82.same s115
    replace r86 := r86.same s115
    replace v91 := v91.same s115
    replace m96 := m96.same s115
    replace v103 := v103.same s115
    replace m108 := m108.same s115
    replace r112 := r112.same s115
    have me : TT C H114 t113 [] := ⟨[], e116, AG.nil⟩
    refine ⟨dt_two r112 me, fun H117 s118 => ?_⟩
    replace s118 : Same H114 H117 := s118
    replace hh := hh.same s118
    replace b67 := b67.same s118
    replace v72 := v72.same s118
    replace v77 := v77.same s118
    replace m82 := m82.same s118
    replace r86 := r86.same s118
    replace v91 := v91.same s118
    replace m96 := m96.same s118
    replace v103 := v103.same s118
    replace m108 := m108.same s118
    replace r112 := r112.same s118
    replace me := me.same s118
    clear v72
    clear v77
    clear m82
    clear r86
    clear v91
    clear m96
    clear v103
    clear m108
    clear r112
    clear me
    refine ⟨small1000 (by show 1 ≤ 1000; decide), fun l119 hl119 => ?_⟩
    have s121 : Same H117 (upd H117 l119 (.lst [.bl true, .bl true])) := same_new hl119
    have e122 : upd H117 l119 (.lst [.bl true, .bl true]) l119 = some (.lst [.bl true, .bl true]) := upd_same
    generalize hg122 : upd H117 l119 (.lst [.bl true, .bl true]) = H120 at s121 e122 ⊢
    clear hg122 hl119
    replace hh := hh.same s121
    replace b67 := b67.same s121
    have b123 : BLs H120 l119 2 := e122
    refine ⟨l63, l119, _, _, rfl, rfl, b67, b123, Nat.le_of_lt (small1000 (by show 4 ≤ 1000; decide)), fun l124 hl124 => ?_⟩
    have s126 : Same H120 (upd H120 l124 (.lst (List.replicate 2 (V.bl true) ++ List.replicate 2 (V.bl true)))) := same_new hl124
    have e127 : upd H120 l124 (.lst (List.replicate 2 (V.bl true) ++ List.replicate 2 (V.bl true))) l124 = some (.lst (List.replicate 2 (V.bl true) ++ List.replicate 2 (V.bl true))) := upd_same
    generalize hg127 : upd H120 l124 (.lst (List.replicate 2 (V.bl true) ++ List.replicate 2 (V.bl true))) = H125 at s126 e127 ⊢
    clear hg127 hl124
    replace hh := hh.same s126
    replace b67 := b67.same s126
    have b128 : BLs H125 l124 4 := e127
    refine ⟨_, rfl, .inl ⟨rfl, _, SqL.of b128⟩, ?_⟩
    refine ⟨_, rfl, ?_⟩
    refine ⟨small1000 (by show 2 ≤ 1000; decide), fun t129 ht129 => ?_⟩
    have s131 : Same H125 (upd H125 t129 (.tup [.int 0, .int 3, .ref hf])) := same_new ht129
    have e132 : upd H125 t129 (.tup [.int 0, .int 3, .ref hf]) t129 = some (.tup [.int 0, .int 3, .ref hf]) := upd_same
    generalize hg132 : upd H125 t129 (.tup [.int 0, .int 3, .ref hf]) = H130 at s131 e132 ⊢
    clear hg132 ht129
    replace hh := hh.same s131
    replace b128 := b128.same s131
    have v0 : TV C H130 t129 [(0, 1), (3, 1), (1, 2)] := ⟨_, e132, A2.cons (.inr ⟨rfl, rfl⟩) (A2.cons (.inr ⟨rfl, rfl⟩) (A2.cons (.inl ⟨hf, rfl, hh⟩) A2.nil))⟩
    refine ⟨small1000 (by show 0 ≤ 1000; decide), fun t133 ht133 => ?_⟩
    have s135 : Same H130 (upd H130 t133 (.tup [.ref t129])) := same_new ht133
    have e136 : upd H130 t133 (.tup [.ref t129]) t133 = some (.tup [.ref t129]) := upd_same
    generalize hg136 : upd H130 t133 (.tup [.ref t129]) = H134 at s135 e136 ⊢
    clear hg136 ht133
    replace hh := hh.same s135
    replace b128 := b128.same s135
    replace v0 := v0.same s135
    have m137 := tt1 e136 v0
    refine ⟨t133, _, 3, 10, rfl, m137.mxB rs3, (rs_of rs3).1, by decide, by decide, by decide, sh_of sh3, fun _ _ _ _ t138 H139 I _ _ pm so r141 s140 => ?_⟩
    rw [out_run rs3 I pm so, run3] at r141
    clear I pm so
    replace hh := hh.same s140
    replace b128 := b128.same s140
    replace v0 := v0.same s140
    replace m137 := m137.same s140
    refine fun sx dsx nsx ndsx nesx => ⟨sx, dsx, 1, 6, rfl, upd_same, by decide, dv8 (by decide) (by decide +kernel), fun H142 hsx hsy => ⟨rfl, ?_⟩⟩
    have sM := same_make (C := C) nsx ndsx hsy
    replace hh := hh.same sM
    replace b128 := b128.same sM
    replace v0 := v0.same sM
    replace m137 := m137.same sM
    replace r141 := r141.same sM
    replace hsx : FrAt C H142 sx 1 6 := hsx.to (by decide +kernel) (by decide +kernel)
    refine ⟨small1000 (by show 2 ≤ 1000; decide), fun t143 ht143 => ?_⟩
    have s145 : Same H142 (upd H142 t143 (.tup [.int 0, .int 1, .ref sx])) := same_new ht143
    have e146 : upd H142 t143 (.tup [.int 0, .int 1, .ref sx]) t143 = some (.tup [.int 0, .int 1, .ref sx]) := upd_same
    generalize hg146 : upd H142 t143 (.tup [.int 0, .int 1, .ref sx]) = H144 at s145 e146 ⊢
    clear hg146 ht143
    replace hh := hh.same s145
    replace b128 := b128.same s145
    replace v0 := v0.same s145
    replace m137 := m137.same s145
    replace r141 := r141.same s145
    replace hsx := hsx.same s145
    have v1 : TV C H144 t143 [(0, 1), (1, 1), (1, 6)] := ⟨_, e146, A2.cons (.inr ⟨rfl, rfl⟩) (A2.cons (.inr ⟨rfl, rfl⟩) (A2.cons (.inl ⟨sx, rfl, hsx⟩) A2.nil))⟩
    refine ⟨small1000 (by show 0 ≤ 1000; decide), fun t147 ht147 => ?_⟩
    have s149 : Same H144 (upd H144 t147 (.tup [.ref t143])) := same_new ht147
    have e150 : upd H144 t147 (.tup [.ref t143]) t147 = some (.tup [.ref t143]) := upd_same
    generalize hg150 : upd H144 t147 (.tup [.ref t143]) = H148 at s149 e150 ⊢
    clear hg150 ht147
    replace hh := hh.same s149
    replace b128 := b128.same s149
    replace v0 := v0.same s149
    replace m137 := m137.same s149
    replace r141 := r141.same s149
    replace hsx := hsx.same s149
    replace v1 := v1.same s149
    have m151 := tt1 e150 v1
    refine ⟨dt_two r141 m151, fun H152 s153 => ?_⟩
    replace s153 : Same H148 H152 := s153
    replace hh := hh.same s153
    replace b128 := b128.same s153
    replace v0 := v0.same s153
    replace m137 := m137.same s153
    replace r141 := r141.same s153
    replace hsx := hsx.same s153
    replace v1 := v1.same s153
    replace m151 := m151.same s153
    clear v0
    clear m137
    clear r141
    clear hsx
    clear v1
    clear m151
    refine ⟨l124, _, _, rfl, rfl, b128, small1000 (by show 4 ≤ 1000; decide), ?_⟩
    have e155 : BLs (upd H152 l124 (.lst (List.replicate 4 (V.bl true) ++ [V.bl true]))) l124 5 := upd_same
    replace hh := hh.updl (o := .lst (List.replicate 4 (V.bl true) ++ [V.bl true])) b128
    generalize hg155 : upd H152 l124 _ = H154 at e155 hh ⊢
    clear hg155
    refine ⟨_, rfl, .inl ⟨rfl, _, SqL.of e155⟩, ?_⟩
    refine ⟨small1000 (by show 1 ≤ 1000; decide), fun t156 ht156 => ?_⟩
    have s158 : Same H154 (upd H154 t156 (.tup [.int 0, .int 2])) := same_new ht156
    have e159 : upd H154 t156 (.tup [.int 0, .int 2]) t156 = some (.tup [.int 0, .int 2]) := upd_same
    generalize hg159 : upd H154 t156 (.tup [.int 0, .int 2]) = H157 at s158 e159 ⊢
    clear hg159 ht156
    replace hh := hh.same s158
    replace e155 := e155.same s158
    have v160 : TV C H157 t156 [(0, 1), (2, 1)] := tv_i (is := [0, 2]) e159
    refine ⟨small1000 (by show 1 ≤ 1000; decide), fun t161 ht161 => ?_⟩
    have s163 : Same H157 (upd H157 t161 (.tup [.int 3, .int 1])) := same_new ht161
    have e164 : upd H157 t161 (.tup [.int 3, .int 1]) t161 = some (.tup [.int 3, .int 1]) := upd_same
    generalize hg164 : upd H157 t161 (.tup [.int 3, .int 1]) = H162 at s163 e164 ⊢
    clear hg164 ht161
    replace hh := hh.same s163
    replace e155 := e155.same s163
    replace v160 := v160.same s163
    have v165 : TV C H162 t161 [(3, 1), (1, 1)] := tv_i (is := [3, 1]) e164
    refine ⟨small1000 (by show 1 ≤ 1000; decide), fun t166 ht166 => ?_⟩
    have s168 : Same H162 (upd H162 t166 (.tup [.int 3, .int 3])) := same_new ht166
    have e169 : upd H162 t166 (.tup [.int 3, .int 3]) t166 = some (.tup [.int 3, .int 3]) := upd_same
    generalize hg169 : upd H162 t166 (.tup [.int 3, .int 3]) = H167 at s168 e169 ⊢
    clear hg169 ht166
    replace hh := hh.same s168
    replace e155 := e155.same s168
    replace v160 := v160.same s168
    replace v165 := v165.same s168
    have v170 : TV C H167 t166 [(3, 1), (3, 1)] := tv_i (is := [3, 3]) e169
    refine ⟨small1000 (by show 2 ≤ 1000; decide), fun t171 ht171 => ?_⟩
    have s173 : Same H167 (upd H167 t171 (.tup [.ref t156, .ref t161, .ref t166])) := same_new ht171
    have e174 : upd H167 t171 (.tup [.ref t156, .ref t161, .ref t166]) t171 = some (.tup [.ref t156, .ref t161, .ref t166]) := upd_same
    generalize hg174 : upd H167 t171 (.tup [.ref t156, .ref t161, .ref t166]) = H172 at s173 e174 ⊢
    clear hg174 ht171
    replace hh := hh.same s173
    replace e155 := e155.same s173
    replace v160 := v160.same s173
    replace v165 := v165.same s173
    replace v170 := v170.same s173
    have m175 := tt3 e174 v160 v165 v170
    refine ⟨t171, _, 2, 10, rfl, m175.mxB rs4, (rs_of rs4).1, by decide, by decide, by decide, sh_of sh4, fun _ _ _ _ t176 H177 I _ _ pm so r179 s178 => ?_⟩
    rw [out_run rs4 I pm so, run4] at r179
    clear I pm so
    replace hh := hh.same s178
    replace e155 := e155.same s178
    replace v160 := v160.same s178
    replace v165 := v165.same s178
    replace v170 := v170.same s178
    replace m175 := m175.same s178
    refine ⟨small1000 (by show 1 ≤ 1000; decide), fun t180 ht180 => ?_⟩
    have s182 : Same H177 (upd H177 t180 (.tup [.int 1, .int 0])) := same_new ht180
    have e183 : upd H177 t180 (.tup [.int 1, .int 0]) t180 = some (.tup [.int 1, .int 0]) := upd_same
    generalize hg183 : upd H177 t180 (.tup [.int 1, .int 0]) = H181 at s182 e183 ⊢
    clear hg183 ht180
    replace hh := hh.same s182
    replace e155 := e155.same s182
    replace v160 := v160.same s182
    replace v165 := v165.same s182
    replace v170 := v170.same s182
    replace m175 := m175.same s182
    replace r179 := r179.same s182
    have v184 : TV C H181 t180 [(1, 1), (0, 1)] := tv_i (is := [1, 0]) e183
    refine ⟨small1000 (by show 1 ≤ 1000; decide), fun t185 ht185 => ?_⟩
    have s187 : Same H181 (upd H181 t185 (.tup [.int 0, .int 1])) := same_new ht185
    have e188 : upd H181 t185 (.tup [.int 0, .int 1]) t185 = some (.tup [.int 0, .int 1]) := upd_same
    generalize hg188 : upd H181 t185 (.tup [.int 0, .int 1]) = H186 at s187 e188 ⊢
    clear hg188 ht185
    replace hh := hh.same s187
    replace e155 := e155.same s187
    replace v160 := v160.same s187
    replace v165 := v165.same s187
    replace v170 := v170.same s187
    replace m175 := m175.same s187
    replace r179 := r179.same s187
    replace v184 := v184.same s187
    have v189 : TV C H186 t185 [(0, 1), (1, 1)] := tv_i (is := [0, 1]) e188
    refine ⟨small1000 (by show 1 ≤ 1000; decide), fun t190 ht190 => ?_⟩
    have s192 : Same H186 (upd H186 t190 (.tup [.ref t180, .ref t185])) := same_new ht190
    have e193 : upd H186 t190 (.tup [.ref t180, .ref t185]) t190 = some (.tup [.ref t180, .ref t185]) := upd_same
    generalize hg193 : upd H186 t190 (.tup [.ref t180, .ref t185]) = H191 at s192 e193 ⊢
    clear hg193 ht190
    replace hh := hh.same s192
    replace e155 := e155.same s192
    replace v160 := v160.same s192
    replace v165 := v165.same s192
    replace v170 := v170.same s192
    replace m175 := m175.same s192
    replace r179 := r179.same s192
    replace v184 := v184.same s192
    replace v189 := v189.same s192
    have m194 := tt2 e193 v184 v189
    refine ⟨dt_two r179 m194, fun H195 s196 => ?_⟩
    replace s196 : Same H191 H195 := s196
    replace hh := hh.same s196
    replace e155 := e155.same s196
    replace v160 := v160.same s196
    replace v165 := v165.same s196
    replace v170 := v170.same s196
    replace m175 := m175.same s196
    replace r179 := r179.same s196
    replace v184 := v184.same s196
    replace v189 := v189.same s196
    replace m194 := m194.same s196
    clear v160
    clear v165
    clear v170
    clear m175
    clear r179
    clear v184
    clear v189
    clear m194
    refine ⟨l124, _, _, rfl, rfl, e155, small1000 (by show 5 ≤ 1000; decide), ?_⟩
    have e198 : BLs (upd H195 l124 (.lst (List.replicate 5 (V.bl true) ++ [V.bl true]))) l124 6 := upd_same
    replace hh := hh.updl (o := .lst (List.replicate 5 (V.bl true) ++ [V.bl true])) e155
    generalize hg198 : upd H195 l124 _ = H197 at e198 hh ⊢
    clear hg198
    refine ⟨small1000 (by show 0 ≤ 1000; decide), fun t199 ht199 => ?_⟩
    have s201 : Same H197 (upd H197 t199 (.tup [.int 1])) := same_new ht199
    have e202 : upd H197 t199 (.tup [.int 1]) t199 = some (.tup [.int 1]) := upd_same
    generalize hg202 : upd H197 t199 (.tup [.int 1]) = H200 at s201 e202 ⊢
    clear hg202 ht199
    replace hh := hh.same s201
    replace e198 := e198.same s201
    refine ⟨t199, 12, [.int 1], rfl, rfl, SqT.of e202, by decide, by decide, by decide, by decide, fun t203 ht203 => ?_⟩
    have s205 : Same H200 (upd H200 t203 (.tup (List.replicate ((12 : Int).toNat) [V.int 1]).flatten)) := same_new ht203
    have e206 : upd H200 t203 (.tup (List.replicate ((12 : Int).toNat) [V.int 1]).flatten) t203 = some (.tup (List.replicate ((12 : Int).toNat) [V.int 1]).flatten) := upd_same
    generalize hg206 : upd H200 t203 (.tup (List.replicate ((12 : Int).toNat) [V.int 1]).flatten) = H204 at s205 e206 ⊢
    clear hg206 ht203
    replace hh := hh.same s205
    replace e198 := e198.same s205
    have v207 : TV C H204 t203 (List.replicate 12 (1, 1)) := tv_rep e206
    refine ⟨small1000 (by show 0 ≤ 1000; decide), fun t208 ht208 => ?_⟩
    have s210 : Same H204 (upd H204 t208 (.tup [.ref t203])) := same_new ht208
    have e211 : upd H204 t208 (.tup [.ref t203]) t208 = some (.tup [.ref t203]) := upd_same
    generalize hg211 : upd H204 t208 (.tup [.ref t203]) = H209 at s210 e211 ⊢
    clear hg211 ht208
    replace hh := hh.same s210
    replace e198 := e198.same s210
    replace v207 := v207.same s210
    have m212 := tt1 e211 v207
    refine ⟨_, rfl, by decide, by decide, fun DH hDH => ?_⟩
    refine lc_range (lo := 0) (n := 80) (fun i Hc => Same H209 Hc ∧ ∃ us, Hc DH = some (.lst us) ∧ AG (fun v ps => ∃ q, v = .ref q ∧ TV C Hc q ps) us (rowsHigh.take i)) ⟨same_new hDH, [], upd_same, AG.nil⟩ ?_ ?_
    · rintro i Hc hi ⟨sm, us, hDc, hu⟩
      have e0 : (0 : Int) + (i : Nat) = (i : Nat) := by omega
      rw [e0]
      refine ⟨rfl, _, rfl, _, rfl, _, _, rfl, rfl, small1000 (by show 1 ≤ 1000; decide), fun tq htq => ?_⟩
      have s2 : Same Hc (upd Hc tq (.tup [.int (i : Nat), .int (0 - (i : Nat))])) := same_new htq
      have e := s2 _ _ hDc
      refine ⟨us, e, small1000 (by rw [hu.1, List.length_take]; omega), same_upd hDH (sm.trans s2), us ++ [.ref tq], upd_same, ?_⟩
      rw [take_snoc (x := ([(((i : Nat) : Int), 1), (0 - ((i : Nat) : Int), 1)] : List PI)) (by unfold rowsHigh; rw [List.getElem?_map, List.getElem?_range hi]; rfl)]
      have up : ∀ q ps, TV C (upd Hc tq (.tup [.int (i : Nat), .int (0 - (i : Nat))])) q ps → TV C (upd (upd Hc tq (.tup [.int (i : Nat), .int (0 - (i : Nat))])) DH (.lst (us ++ [.ref tq]))) q ps := fun q ps ⟨xs, h1, h2⟩ => ⟨xs, tup_updl h1 e, h2.updl e⟩
      exact AG.snoc (hu.imp fun _ _ ⟨q, e1, tv⟩ => ⟨q, e1, up _ _ (tv.same s2)⟩) ⟨tq, rfl, up _ _ ⟨_, upd_same, A2.cons (.inr ⟨rfl, rfl⟩) (A2.cons (.inr ⟨rfl, rfl⟩) A2.nil)⟩⟩
    rintro H213 ⟨s214, us, hDH1, hus⟩
    rw [List.take_of_length_le (by unfold rowsHigh; rw [List.length_map, List.length_range]; exact Nat.le_refl _)] at hus
    replace hh := hh.same s214
    replace e198 := e198.same s214
    replace v207 := v207.same s214
    replace m212 := m212.same s214
    have hgh : TL1 C H213 us := hus
    refine ⟨DH, us, rfl, .inl ⟨SqL.of hDH1, fun t215 ht215 => ?_⟩⟩
    have s217 : Same H213 (upd H213 t215 (.tup us)) := same_new ht215
    have e218 : upd H213 t215 (.tup us) t215 = some (.tup us) := upd_same
    generalize hg218 : upd H213 t215 (.tup us) = H216 at s217 e218 ⊢
    clear hg218 ht215
    replace hh := hh.same s217
    replace e198 := e198.same s217
    replace v207 := v207.same s217
    replace m212 := m212.same s217
    replace hgh := hgh.same s217
    have hm : TT C H216 t215 rowsHigh := ⟨us, e218, hgh⟩
    refine ⟨_, _, rfl, ?_⟩
    refine ⟨_, rfl, ?_⟩
    refine ⟨_, rfl, t208, _, 12, rfl, m212.mxB rs7, (rs_of rs7).1, fun H219 s220 => ?_⟩
    replace hh := hh.same s220
    replace e198 := e198.same s220
    replace v207 := v207.same s220
    replace m212 := m212.same s220
    replace hm := hm.same s220
    refine ⟨_, rfl, t215, _, 2, rfl, hm.mxB rs5, (rs_of rs5).1, fun H221 s222 => ?_⟩
    replace hh := hh.same s222
    replace e198 := e198.same s222
    replace v207 := v207.same s222
    replace m212 := m212.same s222
    replace hm := hm.same s222
    refine ⟨_, rfl, ?_⟩
    refine ⟨_, rfl, RgOk.of_le (by decide) (by decide) (by decide) (by decide), fun t223 ht223 => ?_⟩
    have s225 : Same H221 (upd H221 t223 (.tup (rgV 0 12))) := same_new ht223
    have e226 : upd H221 t223 (.tup (rgV 0 12)) t223 = some (.tup (rgV 0 12)) := upd_same
    generalize hg226 : upd H221 t223 (.tup (rgV 0 12)) = H224 at s225 e226 ⊢
    clear hg226 ht223
    replace hh := hh.same s225
    replace e198 := e198.same s225
    replace v207 := v207.same s225
    replace m212 := m212.same s225
    replace hm := hm.same s225
    have vr : TV C H224 t223 ((List.range 12).map fun i => ((i : Nat), 1)) := tv_rg e226
    refine ⟨t208, t223, _, ((List.range 12).map fun i => ((i : Nat), 1)), rfl, m212.mxB rs7, (rs_of rs7).1, vr.tf (by decide) cf3, fun t227 H228 r230 s229 => ?_⟩
    rw [tm3] at r230
    replace hh := hh.same s229
    replace e198 := e198.same s229
    replace v207 := v207.same s229
    replace m212 := m212.same s229
    replace hm := hm.same s229
    replace vr := vr.same s229
    refine ⟨small1000 (by show 0 ≤ 1000; decide), fun t231 ht231 => ?_⟩
    have s233 : Same H228 (upd H228 t231 (.tup [.int 66])) := same_new ht231
    have e234 : upd H228 t231 (.tup [.int 66]) t231 = some (.tup [.int 66]) := upd_same
    generalize hg234 : upd H228 t231 (.tup [.int 66]) = H232 at s233 e234 ⊢
    clear hg234 ht231
    replace hh := hh.same s233
    replace e198 := e198.same s233
    replace v207 := v207.same s233
    replace m212 := m212.same s233
    replace hm := hm.same s233
    replace vr := vr.same s233
    replace r230 := r230.same s233
    have v235 : TV C H232 t231 [(66, 1)] := tv_i (is := [66]) e234
    refine ⟨dt_one r230 v235, fun H236 s237 => ?_⟩
    replace s237 : Same H232 H236 := s237
    replace hh := hh.same s237
    replace e198 := e198.same s237
    replace v207 := v207.same s237
    replace m212 := m212.same s237
    replace hm := hm.same s237
    replace vr := vr.same s237
    replace r230 := r230.same s237
    replace v235 := v235.same s237
    clear v207
    clear m212
    clear vr
    clear r230
    clear v235
    refine ⟨small1000 (by show 2 ≤ 1000; decide), fun l238 hl238 => ?_⟩
    have s240 : Same H236 (upd H236 l238 (.lst [.bl true, .bl true, .bl true])) := same_new hl238
    have e241 : upd H236 l238 (.lst [.bl true, .bl true, .bl true]) l238 = some (.lst [.bl true, .bl true, .bl true]) := upd_same
    generalize hg241 : upd H236 l238 (.lst [.bl true, .bl true, .bl true]) = H239 at s240 e241 ⊢
    clear hg241 hl238
    replace hh := hh.same s240
    replace e198 := e198.same s240
    replace hm := hm.same s240
    have b242 : BLs H239 l238 3 := e241
    refine ⟨l124, l238, _, _, rfl, rfl, e198, b242, Nat.le_of_lt (small1000 (by show 9 ≤ 1000; decide)), fun l243 hl243 => ?_⟩
    have s245 : Same H239 (upd H239 l243 (.lst (List.replicate 6 (V.bl true) ++ List.replicate 3 (V.bl true)))) := same_new hl243
    have e246 : upd H239 l243 (.lst (List.replicate 6 (V.bl true) ++ List.replicate 3 (V.bl true))) l243 = some (.lst (List.replicate 6 (V.bl true) ++ List.replicate 3 (V.bl true))) := upd_same
    generalize hg246 : upd H239 l243 (.lst (List.replicate 6 (V.bl true) ++ List.replicate 3 (V.bl true))) = H244 at s245 e246 ⊢
    clear hg246 hl243
    replace hh := hh.same s245
    replace e198 := e198.same s245
    replace hm := hm.same s245
    have b247 : BLs H244 l243 9 := e246
    refine ⟨_, rfl, ?_⟩
    refine ⟨_, rfl, ?_⟩
    refine ⟨t215, _, 2, 10, rfl, hm.mxB rs5, (rs_of rs5).1, by decide, by decide, by decide, sh_of sh5, fun _ _ _ _ t248 H249 I _ _ pm so r251 s250 => ?_⟩
    rw [out_run rs5 I pm so, run5] at r251
    clear I pm so
    replace hh := hh.same s250
    replace b247 := b247.same s250
    replace hm := hm.same s250
    refine ⟨_, rfl, ?_⟩
    refine ⟨small1000 (by show 1 ≤ 1000; decide), fun t252 ht252 => ?_⟩
    have s254 : Same H249 (upd H249 t252 (.tup [.int 1, .int (-1)])) := same_new ht252
    have e255 : upd H249 t252 (.tup [.int 1, .int (-1)]) t252 = some (.tup [.int 1, .int (-1)]) := upd_same
    generalize hg255 : upd H249 t252 (.tup [.int 1, .int (-1)]) = H253 at s254 e255 ⊢
    clear hg255 ht252
    replace hh := hh.same s254
    replace b247 := b247.same s254
    replace hm := hm.same s254
    replace r251 := r251.same s254
    have v256 : TV C H253 t252 [(1, 1), (-1, 1)] := tv_i (is := [1, -1]) e255
    refine ⟨small1000 (by show 0 ≤ 1000; decide), fun t257 ht257 => ?_⟩
    have s259 : Same H253 (upd H253 t257 (.tup [.ref t252])) := same_new ht257
    have e260 : upd H253 t257 (.tup [.ref t252]) t257 = some (.tup [.ref t252]) := upd_same
    generalize hg260 : upd H253 t257 (.tup [.ref t252]) = H258 at s259 e260 ⊢
    clear hg260 ht257
    replace hh := hh.same s259
    replace b247 := b247.same s259
    replace hm := hm.same s259
    replace r251 := r251.same s259
    replace v256 := v256.same s259
    have m261 := tt1 e260 v256
    refine ⟨dt_two r251 m261, fun H262 s263 => ?_⟩
    replace s263 : Same H258 H262 := s263
    replace hh := hh.same s263
    replace b247 := b247.same s263
    replace hm := hm.same s263
    replace r251 := r251.same s263
    replace v256 := v256.same s263
    replace m261 := m261.same s263
    refine ⟨_, rfl, ?_⟩
    refine ⟨small1000 (by show 0 ≤ 1000; decide), fun t264 ht264 => ?_⟩
    have s266 : Same H262 (upd H262 t264 (.tup [.int 1])) := same_new ht264
    have e267 : upd H262 t264 (.tup [.int 1]) t264 = some (.tup [.int 1]) := upd_same
    generalize hg267 : upd H262 t264 (.tup [.int 1]) = H265 at s266 e267 ⊢
    clear hg267 ht264
    replace hh := hh.same s266
    replace b247 := b247.same s266
    replace hm := hm.same s266
    replace r251 := r251.same s266
    replace v256 := v256.same s266
    replace m261 := m261.same s266
    refine ⟨t264, 80, [.int 1], rfl, rfl, SqT.of e267, by decide, by decide, by decide, by decide, fun t268 ht268 => ?_⟩
    have s270 : Same H265 (upd H265 t268 (.tup (List.replicate ((80 : Int).toNat) [V.int 1]).flatten)) := same_new ht268
    have e271 : upd H265 t268 (.tup (List.replicate ((80 : Int).toNat) [V.int 1]).flatten) t268 = some (.tup (List.replicate ((80 : Int).toNat) [V.int 1]).flatten) := upd_same
    generalize hg271 : upd H265 t268 (.tup (List.replicate ((80 : Int).toNat) [V.int 1]).flatten) = H269 at s270 e271 ⊢
    clear hg271 ht268
    replace hh := hh.same s270
    replace b247 := b247.same s270
    replace hm := hm.same s270
    replace r251 := r251.same s270
    replace v256 := v256.same s270
    replace m261 := m261.same s270
    have v272 : TV C H269 t268 (List.replicate 80 (1, 1)) := tv_rep e271
    refine ⟨t215, t268, _, 2, _, rfl, hm.mxB rs5, (rs_of rs5).1, (rs_of rs5).2.1, v272.tf (by decide) cf4, by decide, fun t273 H274 r276 s275 => ?_⟩
    rw [tm4] at r276
    replace hh := hh.same s275
    replace b247 := b247.same s275
    replace hm := hm.same s275
    replace r251 := r251.same s275
    replace v256 := v256.same s275
    replace m261 := m261.same s275
    replace v272 := v272.same s275
    refine ⟨_, rfl, ?_⟩
    refine ⟨small1000 (by show 1 ≤ 1000; decide), fun t277 ht277 => ?_⟩
    have s279 : Same H274 (upd H274 t277 (.tup [.int 3160, .int (-3160)])) := same_new ht277
    have e280 : upd H274 t277 (.tup [.int 3160, .int (-3160)]) t277 = some (.tup [.int 3160, .int (-3160)]) := upd_same
    generalize hg280 : upd H274 t277 (.tup [.int 3160, .int (-3160)]) = H278 at s279 e280 ⊢
    clear hg280 ht277
    replace hh := hh.same s279
    replace b247 := b247.same s279
    replace hm := hm.same s279
    replace r251 := r251.same s279
    replace v256 := v256.same s279
    replace m261 := m261.same s279
    replace v272 := v272.same s279
    replace r276 := r276.same s279
    have v281 : TV C H278 t277 [(3160, 1), (-3160, 1)] := tv_i (is := [3160, -3160]) e280
    refine ⟨dt_one r276 v281, fun H282 s283 => ?_⟩
    replace s283 : Same H278 H282 := s283
    replace hh := hh.same s283
    replace b247 := b247.same s283
    replace hm := hm.same s283
    replace r251 := r251.same s283
    replace v256 := v256.same s283
    replace m261 := m261.same s283
    replace v272 := v272.same s283
    replace r276 := r276.same s283
    replace v281 := v281.same s283
    clear hm
    clear r251
    clear v256
    clear m261
    clear v272
    clear r276
    clear v281
    refine ⟨small1000 (by show 1 ≤ 1000; decide), fun l284 hl284 => ?_⟩
    have s286 : Same H282 (upd H282 l284 (.lst [.bl true, .bl true])) := same_new hl284
    have e287 : upd H282 l284 (.lst [.bl true, .bl true]) l284 = some (.lst [.bl true, .bl true]) := upd_same
    generalize hg287 : upd H282 l284 (.lst [.bl true, .bl true]) = H285 at s286 e287 ⊢
    clear hg287 hl284
    replace hh := hh.same s286
    replace b247 := b247.same s286
    have b288 : BLs H285 l284 2 := e287
    refine ⟨l243, l284, _, _, rfl, rfl, b247, b288, Nat.le_of_lt (small1000 (by show 11 ≤ 1000; decide)), fun l289 hl289 => ?_⟩
    have s291 : Same H285 (upd H285 l289 (.lst (List.replicate 9 (V.bl true) ++ List.replicate 2 (V.bl true)))) := same_new hl289
    have e292 : upd H285 l289 (.lst (List.replicate 9 (V.bl true) ++ List.replicate 2 (V.bl true))) l289 = some (.lst (List.replicate 9 (V.bl true) ++ List.replicate 2 (V.bl true))) := upd_same
    generalize hg292 : upd H285 l289 (.lst (List.replicate 9 (V.bl true) ++ List.replicate 2 (V.bl true))) = H290 at s291 e292 ⊢
    clear hg292 hl289
    replace hh := hh.same s291
    replace b247 := b247.same s291
    have b293 : BLs H290 l289 11 := e292
    refine ⟨_, rfl, ?_⟩
    refine ⟨small1000 (by show 0 ≤ 1000; decide), fun l294 hl294 => ?_⟩
    have s296 : Same H290 (upd H290 l294 (.lst [.bl true])) := same_new hl294
    have e297 : upd H290 l294 (.lst [.bl true]) l294 = some (.lst [.bl true]) := upd_same
    generalize hg297 : upd H290 l294 (.lst [.bl true]) = H295 at s296 e297 ⊢
    clear hg297 hl294
    replace hh := hh.same s296
    replace b293 := b293.same s296
    have b298 : BLs H295 l294 1 := e297
    refine ⟨l294, 11, _, rfl, rfl, b298, by decide, by decide, Nat.le_of_lt (small1000 (by decide)), fun l299 hl299 => ?_⟩
    have s301 : Same H295 (upd H295 l299 (.lst (List.replicate ((11 : Int).toNat) (List.replicate 1 (V.bl true))).flatten)) := same_new hl299
    have e302 : upd H295 l299 (.lst (List.replicate ((11 : Int).toNat) (List.replicate 1 (V.bl true))).flatten) l299 = some (.lst (List.replicate ((11 : Int).toNat) (List.replicate 1 (V.bl true))).flatten) := upd_same
    generalize hg302 : upd H295 l299 (.lst (List.replicate ((11 : Int).toNat) (List.replicate 1 (V.bl true))).flatten) = H300 at s301 e302 ⊢
    clear hg302 hl299
    replace hh := hh.same s301
    replace b293 := b293.same s301
    have fin : BLs H300 l299 11 := e302
    refine ⟨bD 11, bD 11, b293.dp, fin.dp, by decide +kernel, by decide +kernel, ?_⟩
    have ev : PyData.eqv (bD 11) (bD 11) = true := by decide +kernel
    rw [ev]
    refine ⟨_, rfl, ?_⟩
    refine ⟨small1000 (by show 1 ≤ 1000; decide), fun t303 ht303 => ?_⟩
    have s305 : Same H300 (upd H300 t303 (.tup [.int 80, .int 12])) := same_new ht303
    have e306 : upd H300 t303 (.tup [.int 80, .int 12]) t303 = some (.tup [.int 80, .int 12]) := upd_same
    generalize hg306 : upd H300 t303 (.tup [.int 80, .int 12]) = H304 at s305 e306 ⊢
    clear hg306 ht303
    replace hh := hh.same s305
    replace b293 := b293.same s305
    have dp1 : H2T H304 t303 80 12 := e306
    refine ⟨small1000 (by show 1 ≤ 1000; decide), fun t307 ht307 => ?_⟩
    have s309 : Same H304 (upd H304 t307 (.tup [.int 80, .int 12])) := same_new ht307
    have e310 : upd H304 t307 (.tup [.int 80, .int 12]) t307 = some (.tup [.int 80, .int 12]) := upd_same
    generalize hg310 : upd H304 t307 (.tup [.int 80, .int 12]) = H308 at s309 e310 ⊢
    clear hg310 ht307
    replace hh := hh.same s309
    replace b293 := b293.same s309
    replace dp1 := dp1.same s309
    refine ⟨.tuple [.int 80, .int 12], .tuple [.int 80, .int 12], .tup (SqT.of dp1) (.cons (.int _) (.cons (.int _) .nil)), .tup (SqT.of e310) (.cons (.int _) (.cons (.int _) .nil)), by decide +kernel, by decide +kernel, ?_⟩
    have ev2 : PyData.eqv (.tuple [.int 80, .int 12]) (.tuple [.int 80, .int 12]) = true := by decide +kernel
    rw [ev2]
    exact q _
end
end FR
set_option Elab.async false
set_option linter.all false
set_option maxRecDepth 100000
set_option maxHeartbeats 2000000
/-! defs that write values as texts (repr): their promise knows that no repr is running around the call -/
namespace L2
open PySem PySem.Spec PyProof.Rows
/-- as FnOk, where no repr is running around -/
structure FnG (P : Program) (w : World) (K : PySem.W.Frag) (mg : Str → Option Value) (base : Heap) (CX : CXT) (k : Nat) (f : Addr) (fd : FuncData) (ps : List Str) (sp : Sp) : Prop where
  len : ∀ vs H Q E, sp vs H Q E → vs.length = ps.length
  run : ∀ (A : Around) (outer : List Env) (s : Shared) (H : Hp) (ar : Args) (us : List Value) (vs : List V) (Q : VK) (E : XK), Room k A → A.guards = some [] → Env0 P w K mg base A outer s H → BindsTo s fd ar (ps.zip us) → Vals vs us →
    sp vs H Q E → codeAny (model P w) A (.call (.ref f) ar) (CR CX outer P w H s Q E) s
theorem guards_deeper {A : Around} {env : Env} (h : A.guards = some []) : (A.deeper env).guards = some [] := by
  first | exact h | (show pushGuards _ A.guards = some []; rw [h]; rfl) | (simp [Around.deeper, h])
section
variable {P : Program} {w : World} {K : PySem.W.Frag} {mg : Str → Option Value} {base : Heap}
theorem FnOk.g {CX : CXT} {k : Nat} {f : Addr} {fd : FuncData} {ps : List Str} {sp : Sp} (F : FnOk P w K mg base CX k f fd ps sp) : FnG P w K mg base CX k f fd ps sp :=
  ⟨F.len, fun A o s H ar us vs Q E hr _ he hb hv hs => F.run A o s H ar us vs Q E hr he hb hv hs⟩
theorem Fun.okG {x qual : Str} {st : Stmt} {f : Addr} {fd : FuncData} {N ps : List Str} {k : Nat} {sp : Sp} (F : Fun K x qual st f fd) (S : FnScope N ps (defScope st)) (len : ∀ vs H Q E, sp vs H Q E → vs.length = ps.length)
    (hbody : ∀ (cdv : Value) (A : Around) (outer : List Env) (s : Shared) (H : Hp) (vs : List V) (Q : VK) (E : XK), Room k (A.deeper (envOfC qual (defScope st) s.heap.objs.size f cdv)) → A.guards = some [] → sp vs H Q E →
      ∃ t, PSs (cxOf CX0 P w K mg base N qual (defScope st) f cdv A outer s H E).nox (defBody st) t ∧ t { nx := fun _ H' => Q .non H', rt := Q } (start N vs) H) : FnG P w K mg base CX0 (k + 1) f fd ps sp := by
  obtain ⟨oc, od, kV, doc, pm, an, cdv, ct, osl, rfl, lk, hcd⟩ := F.ex
  constructor
  · exact len
  intro A outer s H ar us vs Q E hr hg e0 hb r hsp
  have bk : ∀ b o, base.get? b = some o → s.heap.get? b = some o := fun b o e => (e0.bs b o e).1
  have KX : K.In s.heap := e0.mod.kin.keeps bk
  have hkind : ∀ y ∈ ps.zip us, (defScope st).names.lookup y.1 = some .local ∨ ((defScope st).names.lookup y.1 = some .cell ∧ ((cellsFrom (s.heap.objs.size + 1) (defScope st).names []).lookup y.1).isSome = true) := by
    rintro ⟨n, v⟩ hy
    exact (S.par n (List.of_mem_zip hy).1).imp id fun q => ⟨q, PySem.W.cellsFrom_some _ _ _ (.inl q)⟩
  refine codeAny_call_function hr.depth (KX _ _ lk) rfl S.co S.gen rfl (PySem.W.codeRec_of KX hcd) (hb _ _ _ _ (wpAny_newFunctionEnv_cells S.kind hkind fun env he s1 x => ?_))
  subst he
  refine ⟨(e0.mod.nolimit.keeps bk).keeps x.toInCall.keep, codeAny_func ?_⟩
  obtain ⟨t, ht, hq⟩ := hbody cdv A outer s H vs Q E (hr.deeper _) hg hsp
  have I : Inv (cxOf CX0 P w K mg base N qual (defScope st) f cdv A outer s H E) [] (start N vs) H s1 := inv_start S hr.hd e0 (len _ _ _ _ hsp) r x
  refine wpAny_mono (ht.nox.run [] s1 (start N vs) H _ I hq) ?_ fun e s' hs => hs
  intro fl s' hs
  cases fl with
  | ret u => obtain ⟨v, σ', H', J, rv, q⟩ := hs; exact ⟨v, H', J.os, J.bare, J.base, J.hok, rv, q⟩
  | next => obtain ⟨σ', H', J, q⟩ := hs; exact ⟨V.non, H', J.os, J.bare, J.base, J.hok, rfl, q⟩
  | brk => obtain ⟨_, _, _, z⟩ := hs; exact z.elim
  | cont => obtain ⟨_, _, _, z⟩ := hs; exact z.elim
end
section
variable {X : Cx} {CX : CXT} {k : Nat} {f : Addr} {fd : FuncData} {ps : List Str} {sp : Sp} {ds : List Value} {dvs : List V} {E : XK} {x : Str} {p pos : Pos} {e : Expr} {es : List Expr} {t : TA}
theorem pe_callG (F : FnG X.prog X.w X.K X.mg X.base CX k f fd ps sp) (hr : Room k X.A) (hgd : X.A.guards = some []) (hg : Gl X x) (hm : X.mg x = some (.ref f)) (hk : PySem.W.keepIn X.K (.ref f) = true) (hb : Binds X.K fd ps ds) (hd : Vals dvs ds) (hx : Passes CX X E)
    (ha : PA X (e :: es) t) (hdb : (x == ("__debug__" : Str)) = false := by decide) (he : starEach (e :: es) X.env = (false, eval e X.env) :: starEach es X.env := by rfl) (hpl : (backTo pos (starEach es X.env)).any (·.1) = false := by rfl) :
    PE X (.Call (.Name x p) (e :: es) [] pos) (tCall sp dvs E t) := by
  refine ⟨fun pins s σ H Q I h => wpAny_Call_Name_kw (ld_glob I hg hm ?_ hdb)⟩
  refine PySem.W.callWith_K (h₀ := X.base) I.ok.mod.kin hk ?_ he hpl
  refine thn (ha.run pos pins s σ H _ I h) ?_
  rintro us s1 ⟨vs, H1, I1, r, q⟩
  refine ⟨I1.kIn, ?_⟩
  have r2 : Vals (vs ++ dvs) (us ++ ds) := r.append hd
  have hl : (us ++ ds).length = ps.length := r2.length.symm.trans (F.len _ _ _ _ q)
  refine wpAny_call (codeAny_mono (F.run X.A X.stack s1 H1 ⟨us, []⟩ (us ++ ds) (vs ++ dvs) Q E hr hgd I1.env0 (hb s1 us I1.kIn hl) r2 q) ?_)
  intro rr s' hq
  rcases rr with er | fl
  · exact hx pins σ H1 s1 er s' I1 hq
  · cases fl <;> first | exact I1.after hq | exact hq.elim
/-- repr of data -/
def rRepr (K : PySem.W.Frag) : List V → Hp → VK → Prop := fun xs H Q => ∃ (a : Addr) (d : PyData), xs = [.ref a] ∧ Dp K H (.ref a) d ∧ d.showable = true ∧ d.hasDict = false ∧ d.depth ≤ 20 ∧ d.shown.length ≤ sizeLine ∧ Q (.str d.shown) H
theorem call_repr (hg : X.A.guards = some []) (hu : X.A.units + 64 < cLine) : CallR X (.builtin "repr") (rRepr X.K) := by
  intro pins s σ H xs us Q I r h
  obtain ⟨a, d, rfl, hd, hs, hn, hz, hl, q⟩ := h
  obtain ⟨u, rfl, r1⟩ := vals1 r
  cases r1
  obtain ⟨as, R⟩ := Dp.reads I d _ _ hd rfl
  exact repr_of_reads' R hs (fun z => by rw [hn] at z; cases z) hg (by omega) (fun _ _ z => z) (fun h' u tk kk => ⟨.str _, H, I.kept (t' := tk) kk, ⟨_, rfl⟩, q⟩) hl
end

/-! ### the law's own end, for a promise of this kind -/
theorem lawG {P : Program} {w : World} {K : PySem.W.Frag} {mg mb : Str → Option Value} {CX : CXT} {k : Nat} {fa a : Addr} {fd : FuncData} {x : Str} {sp : Sp} {s₁ : Shared} {vs : List Value} {ns : List Int}
    (KX : K.In s₁.heap) (hns : s₁.heap.Ns mainGlobals mg) (hb : s₁.heap.Ns builtinsNs mb) (hbb : ∀ x : Str, x ≠ "__name__" → mb x = bootBuiltins x) (hlim : s₁.heap.NoLimit) (hg : s₁.gens = #[])
    (ha : s₁.heap.get? a = some { cls := .type "list", data := .seq vs.toArray }) (hi : IntsAre vs ns) (hl : ns.length ≤ sizeLine) (hr : Room k callerA)
    (F : ∀ base : Heap, K.In base → base.Ns mainGlobals mg → FnG P w K mg base CX k fa fd [x] sp) (hbind : ∀ (s : Shared) (u : Value), BindsTo s fd ⟨[u], []⟩ [(x, u)])
    (hsp : ∀ H : Hp, Only H → SqL K H a (ns.map V.int) → sp [.ref a] H (fun v _ => v = .bl true) fun _ _ _ => False) (hCX : ∀ H e s', CX [] H s₁ (fun _ _ _ => False) e s' → False) :
    codeAny (model P w) callerA (.call (.ref fa) ⟨[.ref a], []⟩) (fun r s' => r = .ok (.ret (.bool true)) ∧ OldK s₁.heap s'.heap ∧ s'.os = s₁.os ∧ AllBare s'.gens) s₁ := by
  have rv := vals_ints hi
  have nil0 : ∀ b : Addr, b ∉ ([] : List Addr) := fun b z => nomatch z
  have run : ∀ H : Hp, Only H → SqL K H a (ns.map V.int) → HOk P w H s₁.heap → (∀ b, H b ≠ none → b = a) → (H a ≠ none → K.lookup a = none) →
      codeAny (model P w) callerA (.call (.ref fa) ⟨[.ref a], []⟩) (fun r s' => r = .ok (.ret (.bool true)) ∧ OldK s₁.heap s'.heap ∧ s'.os = s₁.os ∧ AllBare s'.gens) s₁ := by
    intro H hO hS hok hA hK
    have noH : ∀ b, b ≠ a → H b = none := fun b hb => by
      cases q : H b with
      | none => rfl
      | some u => exact (hb (hA b (by rw [q]; exact fun z => nomatch z))).elim
    have noD : ∀ {b : Addr} {o : Obj} {es : Array DictEntry} {ep : Nat}, s₁.heap.get? b = some o → o.data = .dict es ep → H b = none := fun {b o es ep} e d => noH b fun z => by
      subst z
      have y := Option.some.inj (ha.symm.trans e)
      rw [← y] at d
      cases d
    have nsK : ∀ {b : Addr} {m : Str → Option Value}, s₁.heap.Ns b m → (hidT s₁.heap H).Ns b m := by
      rintro b m ⟨o, es, ep, e, d, r⟩
      exact ⟨o, es, ep, hidT_get e (noD e d), d, r⟩
    have hKb : K.In (hidT s₁.heap H) := fun b o e => hidT_get (KX b o e) (by
      by_cases hb : b = a
      · cases q : H b with
        | none => rfl
        | some u =>
          subst hb
          have y := hK (by rw [q]; exact fun z => nomatch z)
          rw [y] at e
          cases e
      · exact noH b hb)
    obtain ⟨mc, l1, l2⟩ := hlim
    have e0 : Env0 P w K mg (hidT s₁.heap H) callerA [] s₁ H :=
      ⟨rfl, ⟨hKb, nsK hns, ⟨mb, nsK hb, hbb⟩, ⟨mc, nsK l1, l2⟩⟩, fun b o e => of_hidT e, Nat.le_of_eq (hidT_size _ _), trivial, fun b hb => (nil0 b hb).elim, hok, .of_eq hg⟩
    have R := (F _ hKb (nsK hns)).run callerA [] s₁ H ⟨[.ref a], []⟩ [.ref a] [.ref a] _ _ hr rfl e0 (hbind s₁ (.ref a)) (.cons rfl .nil) (hsp H hO hS)
    refine codeAny_mono R ?_
    intro r s' h
    rcases r with e | fl
    · exact (hCX H e s' h).elim
    cases fl with
    | next => exact h.elim
    | brk => exact h.elim
    | cont => exact h.elim
    | ret u =>
      obtain ⟨v, H', os, bare, un, hok', r', q⟩ := h
      have qv : v = .bl true := q
      subst qv
      cases r'
      refine ⟨rfl, OldK.of_keep ?_, os, bare⟩
      intro b o e
      rcases hO b with z | ⟨ob, xs, z⟩
      · exact un.keep b o e z (nil0 b) (nil0 b)
      · have y1 := (hok b _ z).1
        have y2 := (hok' b _ (un.frzs b ob _ z)).1
        rw [y2, ← y1, e]
  cases hk : K.lookup a with
  | some o =>
    have e := Option.some.inj ((KX a o hk).symm.trans ha)
    subst e
    refine run (fun _ => none) (fun _ => .inl rfl) ?_ (fun b u z => nomatch z) (fun b z => (z rfl).elim) fun z => (z rfl).elim
    exact .inr ⟨_, vs.toArray, _, hk, rfl, rfl, rfl, by rw [List.size_toArray, hi.length]; exact hl, by simpa using rv⟩
  | none =>
    let o : Obj := { cls := .type "list", data := .seq vs.toArray }
    have hat : (fun b => if b = a then some (HO.frz o (.lst (ns.map V.int))) else none : Hp) a = some (HO.frz o (.lst (ns.map V.int))) := if_pos rfl
    refine run (fun b => if b = a then some (HO.frz o (.lst (ns.map V.int))) else none) (fun b => ?_) (.inl (.inr ⟨o, hat⟩)) (fun b u z => ?_) (fun b z => ?_) fun _ => hk
    · by_cases q : b = a
      · exact .inr ⟨o, _, if_pos q⟩
      · exact .inl (if_neg q)
    · by_cases q : b = a
      · have y := (if_pos q).symm.trans z
        cases y
        rw [q]
        exact ⟨ha, by rw [List.length_map]; exact hl, vs, _, rv, ha⟩
      · have y := (if_neg q).symm.trans z
        cases y
    · by_cases q : b = a
      · exact q
      · exact (z (if_neg q)).elim
theorem walkG {l : PySem.W.OpenLaw} {n k : Nat} {q : Program} {loose : List Str} {XP : (Str → Option Value) → Heap → Prop} {YP : World → Heap → Prop} {d : DefRec} {K : Params → PySem.W.Frag} {CX : World → CXT} {sp : World → Sp} {x : Str}
    (hn : l.most = some n) (hn2 : n ≤ sizeLine) (hdf : d.params.defaults = []) (hr : Room k callerA) (hY : ∀ (w : World) (h : Heap), YP w h → (K w.params).In h)
    (F : ∀ (w : World) (mg : Str → Option Value) (fa : Addr) (h : Heap), (K w.params).In h → h.Ns mainGlobals mg → mg d.name = some (.ref fa) →
      ∃ fd : FuncData, (∀ (s : Shared) (u : Value), BindsTo s fd ⟨[u], []⟩ [(x, u)]) ∧ ∀ base : Heap, (K w.params).In base → base.Ns mainGlobals mg → FnG l.prog w (K w.params) mg base (CX w) k fa fd [x] (sp w))
    (hsp : ∀ (w : World) (H : Hp) (a : Addr) (ns : List Int), ns.length ≤ n → Only H → SqL (K w.params) H a (ns.map V.int) → sp w [.ref a] H (fun v _ => v = .bl true) fun _ _ _ => False)
    (hCX : ∀ (w : World) (H : Hp) (s : Shared) (e : Value) (s' : Shared), CX w [] H s (fun _ _ _ => False) e s' → False) :
    PySem.W.WalkO q loose XP YP l.row.toRowW d [] (fun f vs => PySem.call f vs) := by
  refine Att.attach_call hn hdf ?_
  intro w s₀ s₁ mg mb fa o pm cd doc a vs ns G Y ho hd hcd hmg hobj hints hlen hg
  obtain ⟨fd, hb, hF⟩ := F w mg fa _ (hY w _ Y) G.T.g hmg
  exact lawG (hY w _ Y) G.T.g G.T.b G.T.builtins G.T.nolimit hg hobj hints (Nat.le_trans hlen hn2) hr hF hb (fun H hO hS => hsp w H a ns hlen hO hS) fun H e s' => hCX w H s₁ e s'
end L2
set_option Elab.async false
set_option linter.all false
set_option maxRecDepth 100000
set_option maxHeartbeats 4000000
namespace FR
open PySem PySem.Spec PyProof.Rows L2 LD RF
/-! ### what the written part says of the classes, by computation -/
def oddB (K : PySem.W.Frag) (C : Addr) (T : String) : Bool := (PySem.W.kitOne K (.type T) (.ref C) == some false) && ((PySem.W.subIn K (.ref C) (.type T) == some false) && PySem.W.notFirst K C (.type T))
theorem odd_of {K : PySem.W.Frag} {C : Addr} {T : String} (h : oddB K C T = true) : OddC K C T := by
  simp only [oddB, Bool.and_eq_true, beq_iff_eq] at h
  exact ⟨h.1, h.2.1, h.2.2⟩
def clsB (K : PySem.W.Frag) (C : Addr) : Bool := PySem.W.plainGet K C Str.empty && (PySem.W.hasDictIn K C && (PySem.W.plainOver K C && (PySem.W.findIn K (.ref C) "__setattr__" == some (some (.builtin "object.__setattr__")))))
theorem cls_of {K : PySem.W.Frag} {C : Addr} (h : clsB K C = true) : Cls K C := by
  simp only [clsB, Bool.and_eq_true, beq_iff_eq] at h
  exact ⟨h.1, h.2.1, h.2.2.1, h.2.2.2⟩
def rowB (K : PySem.W.Frag) (C : Addr) : Bool :=
  (PySem.W.findIn K (.ref C) "_top" == some none) && ((PySem.W.findIn K (.ref C) "_bottom" == some none) && ((PySem.W.findIn K (.ref C) "__class__" == some (some (.builtin "object.__class__"))) &&
  ((PySem.W.specialIn K (.builtin "object.__class__") "__get__" == some (some (.builtin "getset_descriptor.__get__"))) && ((PySem.W.takesIn K (.builtin "object.__class__") == some true) && ((PySem.W.mroIn K C (.type "object") == some true) &&
  ((PySem.W.makesIn K C) && (PySem.W.keepIn K (.ref C) && (PySem.W.kitOne K (.ref C) (.type "int") == some false))))))))
def echB (K : PySem.W.Frag) (C : Addr) : Bool :=
  (PySem.W.findIn K (.ref C) "width" == some none) && ((PySem.W.findIn K (.ref C) "rows" == some none) && ((PySem.W.findIn K (.ref C) "places" == some none) && ((PySem.W.findIn K (.ref C) "divisor" == some none) && (PySem.W.makesIn K C && PySem.W.keepIn K (.ref C)))))
theorem all_mk {l : PySem.W.OpenLaw} {w : World} {K : PySem.W.Frag} {h : Heap} {mg : Str → Option Value} {fa C D : Addr} (X : K.In h) (G : h.Ns mainGlobals mg) (hfa : mg "law" = some (.ref fa))
    (aC : PySem.W.nsIn K mainGlobals "Fraction" = some (some (.ref C)))
    (aD : PySem.W.nsIn K mainGlobals "Echelon" = some (some (.ref D)))
    (agcd : PySem.W.nsIn K mainGlobals "gcd" = some (some (.builtin "math.gcd")))
    (alcm : PySem.W.nsIn K mainGlobals "lcm" = some (some (.builtin "math.lcm")))
    {tkR tkW : Tok}
    (aMR : PySem.W.nsIn K mainGlobals "MAX_ROWS" = some (some (.int 80 tkR)))
    (aMW : PySem.W.nsIn K mainGlobals "MAX_WIDTH" = some (some (.int 12 tkW)))
    {f_clr : Addr} {oc_clr kV_clr dc_clr pm_clr cd_clr ct_clr : Value} {od_clr an_clr : Option Addr} {sl_clr : Array (Option Value)}
    (n_clr : PySem.W.nsIn K mainGlobals "cleared_by" = some (some (.ref f_clr)))
    (l_clr : K.lookup f_clr = some ⟨oc_clr, od_clr, .func (PySem.W.fnOf "cleared_by" "cleared_by" (defArgs sClr) (defBody sClr) (defScope sClr) .none kV_clr dc_clr pm_clr an_clr cd_clr ct_clr), sl_clr⟩)
    (d_clr : PySem.W.codeIn K cd_clr "cleared_by" = true)
    (k_clr : PySem.W.keepIn K (.ref f_clr) = true)
    {f_plain : Addr} {oc_plain kV_plain dc_plain pm_plain cd_plain ct_plain : Value} {od_plain an_plain : Option Addr} {sl_plain : Array (Option Value)}
    (n_plain : PySem.W.nsIn K mainGlobals "is_plain_integer" = some (some (.ref f_plain)))
    (l_plain : K.lookup f_plain = some ⟨oc_plain, od_plain, .func (PySem.W.fnOf "is_plain_integer" "is_plain_integer" (defArgs sPlain) (defBody sPlain) (defScope sPlain) .none kV_plain dc_plain pm_plain an_plain cd_plain ct_plain), sl_plain⟩)
    (d_plain : PySem.W.codeIn K cd_plain "is_plain_integer" = true)
    (k_plain : PySem.W.keepIn K (.ref f_plain) = true)
    {f_bet : Addr} {oc_bet kV_bet dc_bet pm_bet cd_bet ct_bet : Value} {od_bet an_bet : Option Addr} {sl_bet : Array (Option Value)}
    (n_bet : PySem.W.nsIn K mainGlobals "is_between" = some (some (.ref f_bet)))
    (l_bet : K.lookup f_bet = some ⟨oc_bet, od_bet, .func (PySem.W.fnOf "is_between" "is_between" (defArgs sBet) (defBody sBet) (defScope sBet) .none kV_bet dc_bet pm_bet an_bet cd_bet ct_bet), sl_bet⟩)
    (d_bet : PySem.W.codeIn K cd_bet "is_between" = true)
    (k_bet : PySem.W.keepIn K (.ref f_bet) = true)
    {f_isf : Addr} {oc_isf kV_isf dc_isf pm_isf cd_isf ct_isf : Value} {od_isf an_isf : Option Addr} {sl_isf : Array (Option Value)}
    (n_isf : PySem.W.nsIn K mainGlobals "is_fraction" = some (some (.ref f_isf)))
    (l_isf : K.lookup f_isf = some ⟨oc_isf, od_isf, .func (PySem.W.fnOf "is_fraction" "is_fraction" (defArgs sIsF) (defBody sIsF) (defScope sIsF) .none kV_isf dc_isf pm_isf an_isf cd_isf ct_isf), sl_isf⟩)
    (d_isf : PySem.W.codeIn K cd_isf "is_fraction" = true)
    (k_isf : PySem.W.keepIn K (.ref f_isf) = true)
    {f_asf : Addr} {oc_asf kV_asf dc_asf pm_asf cd_asf ct_asf : Value} {od_asf an_asf : Option Addr} {sl_asf : Array (Option Value)}
    (n_asf : PySem.W.nsIn K mainGlobals "as_fraction" = some (some (.ref f_asf)))
    (l_asf : K.lookup f_asf = some ⟨oc_asf, od_asf, .func (PySem.W.fnOf "as_fraction" "as_fraction" (defArgs sAs) (defBody sAs) (defScope sAs) .none kV_asf dc_asf pm_asf an_asf cd_asf ct_asf), sl_asf⟩)
    (d_asf : PySem.W.codeIn K cd_asf "as_fraction" = true)
    (k_asf : PySem.W.keepIn K (.ref f_asf) = true)
    {f_fs : Addr} {oc_fs kV_fs dc_fs pm_fs cd_fs ct_fs : Value} {od_fs an_fs : Option Addr} {sl_fs : Array (Option Value)}
    (n_fs : PySem.W.nsIn K mainGlobals "is_fractions" = some (some (.ref f_fs)))
    (l_fs : K.lookup f_fs = some ⟨oc_fs, od_fs, .func (PySem.W.fnOf "is_fractions" "is_fractions" (defArgs sFs) (defBody sFs) (defScope sFs) .none kV_fs dc_fs pm_fs an_fs cd_fs ct_fs), sl_fs⟩)
    (d_fs : PySem.W.codeIn K cd_fs "is_fractions" = true)
    (k_fs : PySem.W.keepIn K (.ref f_fs) = true)
    {f_over : Addr} {oc_over kV_over dc_over pm_over cd_over ct_over : Value} {od_over an_over : Option Addr} {sl_over : Array (Option Value)}
    (n_over : PySem.W.nsIn K mainGlobals "over_one_bottom" = some (some (.ref f_over)))
    (l_over : K.lookup f_over = some ⟨oc_over, od_over, .func (PySem.W.fnOf "over_one_bottom" "over_one_bottom" (defArgs sOver) (defBody sOver) (defScope sOver) .none kV_over dc_over pm_over an_over cd_over ct_over), sl_over⟩)
    (d_over : PySem.W.codeIn K cd_over "over_one_bottom" = true)
    (k_over : PySem.W.keepIn K (.ref f_over) = true)
    {f_irs : Addr} {oc_irs kV_irs dc_irs pm_irs cd_irs ct_irs : Value} {od_irs an_irs : Option Addr} {sl_irs : Array (Option Value)}
    (n_irs : PySem.W.nsIn K mainGlobals "is_rows" = some (some (.ref f_irs)))
    (l_irs : K.lookup f_irs = some ⟨oc_irs, od_irs, .func (PySem.W.fnOf "is_rows" "is_rows" (defArgs sIrs) (defBody sIrs) (defScope sIrs) .none kV_irs dc_irs pm_irs an_irs cd_irs ct_irs), sl_irs⟩)
    (d_irs : PySem.W.codeIn K cd_irs "is_rows" = true)
    (k_irs : PySem.W.keepIn K (.ref f_irs) = true)
    {f_tof : Addr} {oc_tof kV_tof dc_tof pm_tof cd_tof ct_tof : Value} {od_tof an_tof : Option Addr} {sl_tof : Array (Option Value)}
    (n_tof : PySem.W.nsIn K mainGlobals "times_of" = some (some (.ref f_tof)))
    (l_tof : K.lookup f_tof = some ⟨oc_tof, od_tof, .func (PySem.W.fnOf "times_of" "times_of" (defArgs sTof) (defBody sTof) (defScope sTof) .none kV_tof dc_tof pm_tof an_tof cd_tof ct_tof), sl_tof⟩)
    (d_tof : PySem.W.codeIn K cd_tof "times_of" = true)
    (k_tof : PySem.W.keepIn K (.ref f_tof) = true)
    {f_mof : Addr} {oc_mof kV_mof dc_mof pm_mof cd_mof ct_mof : Value} {od_mof an_mof : Option Addr} {sl_mof : Array (Option Value)}
    (n_mof : PySem.W.nsIn K mainGlobals "mix_of" = some (some (.ref f_mof)))
    (l_mof : K.lookup f_mof = some ⟨oc_mof, od_mof, .func (PySem.W.fnOf "mix_of" "mix_of" (defArgs sMof) (defBody sMof) (defScope sMof) .none kV_mof dc_mof pm_mof an_mof cd_mof ct_mof), sl_mof⟩)
    (d_mof : PySem.W.codeIn K cd_mof "mix_of" = true)
    (k_mof : PySem.W.keepIn K (.ref f_mof) = true)
    {f_cd : Addr} {oc_cd kV_cd dc_cd pm_cd cd_cd ct_cd : Value} {od_cd an_cd : Option Addr} {sl_cd : Array (Option Value)}
    (n_cd : PySem.W.nsIn K mainGlobals "cleared" = some (some (.ref f_cd)))
    (l_cd : K.lookup f_cd = some ⟨oc_cd, od_cd, .func (PySem.W.fnOf "cleared" "cleared" (defArgs sClrd) (defBody sClrd) (defScope sClrd) .none kV_cd dc_cd pm_cd an_cd cd_cd ct_cd), sl_cd⟩)
    (d_cd : PySem.W.codeIn K cd_cd "cleared" = true)
    (k_cd : PySem.W.keepIn K (.ref f_cd) = true)
    {f_crs : Addr} {oc_crs kV_crs dc_crs pm_crs cd_crs ct_crs : Value} {od_crs an_crs : Option Addr} {sl_crs : Array (Option Value)}
    (n_crs : PySem.W.nsIn K mainGlobals "_check_rows" = some (some (.ref f_crs)))
    (l_crs : K.lookup f_crs = some ⟨oc_crs, od_crs, .func (PySem.W.fnOf "_check_rows" "_check_rows" (defArgs sCrs) (defBody sCrs) (defScope sCrs) .none kV_crs dc_crs pm_crs an_crs cd_crs ct_crs), sl_crs⟩)
    (d_crs : PySem.W.codeIn K cd_crs "_check_rows" = true)
    (k_crs : PySem.W.keepIn K (.ref f_crs) = true)
    {f_cfs : Addr} {oc_cfs kV_cfs dc_cfs pm_cfs cd_cfs ct_cfs : Value} {od_cfs an_cfs : Option Addr} {sl_cfs : Array (Option Value)}
    (n_cfs : PySem.W.nsIn K mainGlobals "_check_fractions" = some (some (.ref f_cfs)))
    (l_cfs : K.lookup f_cfs = some ⟨oc_cfs, od_cfs, .func (PySem.W.fnOf "_check_fractions" "_check_fractions" (defArgs sCfs) (defBody sCfs) (defScope sCfs) .none kV_cfs dc_cfs pm_cfs an_cfs cd_cfs ct_cfs), sl_cfs⟩)
    (d_cfs : PySem.W.codeIn K cd_cfs "_check_fractions" = true)
    (k_cfs : PySem.W.keepIn K (.ref f_cfs) = true)
    {f_trn : Addr} {oc_trn kV_trn dc_trn pm_trn cd_trn ct_trn : Value} {od_trn an_trn : Option Addr} {sl_trn : Array (Option Value)}
    (n_trn : PySem.W.nsIn K mainGlobals "_turned" = some (some (.ref f_trn)))
    (l_trn : K.lookup f_trn = some ⟨oc_trn, od_trn, .func (PySem.W.fnOf "_turned" "_turned" (defArgs sTrn) (defBody sTrn) (defScope sTrn) .none kV_trn dc_trn pm_trn an_trn cd_trn ct_trn), sl_trn⟩)
    (d_trn : PySem.W.codeIn K cd_trn "_turned" = true)
    (k_trn : PySem.W.keepIn K (.ref f_trn) = true)
    {f_ovr : Addr} {oc_ovr kV_ovr dc_ovr pm_ovr cd_ovr ct_ovr : Value} {od_ovr an_ovr : Option Addr} {sl_ovr : Array (Option Value)}
    (n_ovr : PySem.W.nsIn K mainGlobals "_over" = some (some (.ref f_ovr)))
    (l_ovr : K.lookup f_ovr = some ⟨oc_ovr, od_ovr, .func (PySem.W.fnOf "_over" "_over" (defArgs sOvr) (defBody sOvr) (defScope sOvr) .none kV_ovr dc_ovr pm_ovr an_ovr cd_ovr ct_ovr), sl_ovr⟩)
    (d_ovr : PySem.W.codeIn K cd_ovr "_over" = true)
    (k_ovr : PySem.W.keepIn K (.ref f_ovr) = true)
    {f_tms : Addr} {oc_tms kV_tms dc_tms pm_tms cd_tms ct_tms : Value} {od_tms an_tms : Option Addr} {sl_tms : Array (Option Value)}
    (n_tms : PySem.W.nsIn K mainGlobals "_times" = some (some (.ref f_tms)))
    (l_tms : K.lookup f_tms = some ⟨oc_tms, od_tms, .func (PySem.W.fnOf "_times" "_times" (defArgs sTms) (defBody sTms) (defScope sTms) .none kV_tms dc_tms pm_tms an_tms cd_tms ct_tms), sl_tms⟩)
    (d_tms : PySem.W.codeIn K cd_tms "_times" = true)
    (k_tms : PySem.W.keepIn K (.ref f_tms) = true)
    {f_dice : Addr} {oc_dice kV_dice dc_dice pm_dice cd_dice ct_dice : Value} {od_dice an_dice : Option Addr} {sl_dice : Array (Option Value)}
    (n_dice : PySem.W.nsIn K mainGlobals "_law_dice" = some (some (.ref f_dice)))
    (l_dice : K.lookup f_dice = some ⟨oc_dice, od_dice, .func (PySem.W.fnOf "_law_dice" "_law_dice" (defArgs LD.sDice) (defBody LD.sDice) (defScope LD.sDice) .none kV_dice dc_dice pm_dice an_dice cd_dice ct_dice), sl_dice⟩)
    (d_dice : PySem.W.codeIn K cd_dice "_law_dice" = true)
    (k_dice : PySem.W.keepIn K (.ref f_dice) = true)
    {f_roll : Addr} {oc_roll kV_roll dc_roll pm_roll cd_roll ct_roll : Value} {od_roll an_roll : Option Addr} {sl_roll : Array (Option Value)}
    (n_roll : PySem.W.nsIn K mainGlobals "_law_roll" = some (some (.ref f_roll)))
    (l_roll : K.lookup f_roll = some ⟨oc_roll, od_roll, .func (PySem.W.fnOf "_law_roll" "_law_roll" (defArgs LD.sRoll) (defBody LD.sRoll) (defScope LD.sRoll) .none kV_roll dc_roll pm_roll an_roll cd_roll ct_roll), sl_roll⟩)
    (d_roll : PySem.W.codeIn K cd_roll "_law_roll" = true)
    (k_roll : PySem.W.keepIn K (.ref f_roll) = true)
    {f_one : Addr} {oc_one kV_one dc_one pm_one cd_one ct_one : Value} {od_one an_one : Option Addr} {sl_one : Array (Option Value)}
    (n_one : PySem.W.nsIn K mainGlobals "_law_one_of" = some (some (.ref f_one)))
    (l_one : K.lookup f_one = some ⟨oc_one, od_one, .func (PySem.W.fnOf "_law_one_of" "_law_one_of" (defArgs LD.sOneOf) (defBody LD.sOneOf) (defScope LD.sOneOf) .none kV_one dc_one pm_one an_one cd_one ct_one), sl_one⟩)
    (d_one : PySem.W.codeIn K cd_one "_law_one_of" = true)
    (k_one : PySem.W.keepIn K (.ref f_one) = true)
    {f_gcd : Addr} {oc_gcd kV_gcd dc_gcd pm_gcd cd_gcd ct_gcd : Value} {od_gcd an_gcd : Option Addr} {sl_gcd : Array (Option Value)}
    (n_gcd : PySem.W.nsIn K mainGlobals "_law_gcd" = some (some (.ref f_gcd)))
    (l_gcd : K.lookup f_gcd = some ⟨oc_gcd, od_gcd, .func (PySem.W.fnOf "_law_gcd" "_law_gcd" (defArgs sGcd) (defBody sGcd) (defScope sGcd) .none kV_gcd dc_gcd pm_gcd an_gcd cd_gcd ct_gcd), sl_gcd⟩)
    (d_gcd : PySem.W.codeIn K cd_gcd "_law_gcd" = true)
    (k_gcd : PySem.W.keepIn K (.ref f_gcd) = true)
    {f_rat : Addr} {oc_rat kV_rat dc_rat pm_rat cd_rat ct_rat : Value} {od_rat an_rat : Option Addr} {sl_rat : Array (Option Value)}
    (n_rat : PySem.W.nsIn K mainGlobals "_law_ratio" = some (some (.ref f_rat)))
    (l_rat : K.lookup f_rat = some ⟨oc_rat, od_rat, .func (PySem.W.fnOf "_law_ratio" "_law_ratio" (defArgs sRat) (defBody sRat) (defScope sRat) .none kV_rat dc_rat pm_rat an_rat cd_rat ct_rat), sl_rat⟩)
    (d_rat : PySem.W.codeIn K cd_rat "_law_ratio" = true)
    (k_rat : PySem.W.keepIn K (.ref f_rat) = true)
    {f_plus : Addr} {oc_plus kV_plus dc_plus pm_plus cd_plus ct_plus : Value} {od_plus an_plus : Option Addr} {sl_plus : Array (Option Value)}
    (n_plus : PySem.W.nsIn K mainGlobals "_law_plus" = some (some (.ref f_plus)))
    (l_plus : K.lookup f_plus = some ⟨oc_plus, od_plus, .func (PySem.W.fnOf "_law_plus" "_law_plus" (defArgs sPlus) (defBody sPlus) (defScope sPlus) .none kV_plus dc_plus pm_plus an_plus cd_plus ct_plus), sl_plus⟩)
    (d_plus : PySem.W.codeIn K cd_plus "_law_plus" = true)
    (k_plus : PySem.W.keepIn K (.ref f_plus) = true)
    {f_lby : Addr} {oc_lby kV_lby dc_lby pm_lby cd_lby ct_lby : Value} {od_lby an_lby : Option Addr} {sl_lby : Array (Option Value)}
    (n_lby : PySem.W.nsIn K mainGlobals "_law_by" = some (some (.ref f_lby)))
    (l_lby : K.lookup f_lby = some ⟨oc_lby, od_lby, .func (PySem.W.fnOf "_law_by" "_law_by" (defArgs sLby) (defBody sLby) (defScope sLby) .none kV_lby dc_lby pm_lby an_lby cd_lby ct_lby), sl_lby⟩)
    (d_lby : PySem.W.codeIn K cd_lby "_law_by" = true)
    (k_lby : PySem.W.keepIn K (.ref f_lby) = true)
    {f_pair : Addr} {oc_pair kV_pair dc_pair pm_pair cd_pair ct_pair : Value} {od_pair an_pair : Option Addr} {sl_pair : Array (Option Value)}
    (n_pair : PySem.W.nsIn K mainGlobals "_law_pair" = some (some (.ref f_pair)))
    (l_pair : K.lookup f_pair = some ⟨oc_pair, od_pair, .func (PySem.W.fnOf "_law_pair" "_law_pair" (defArgs sPr) (defBody sPr) (defScope sPr) .none kV_pair dc_pair pm_pair an_pair cd_pair ct_pair), sl_pair⟩)
    (d_pair : PySem.W.codeIn K cd_pair "_law_pair" = true)
    (k_pair : PySem.W.keepIn K (.ref f_pair) = true)
    {f_pairs : Addr} {oc_pairs kV_pairs dc_pairs pm_pairs cd_pairs ct_pairs : Value} {od_pairs an_pairs : Option Addr} {sl_pairs : Array (Option Value)}
    (n_pairs : PySem.W.nsIn K mainGlobals "_law_pairs" = some (some (.ref f_pairs)))
    (l_pairs : K.lookup f_pairs = some ⟨oc_pairs, od_pairs, .func (PySem.W.fnOf "_law_pairs" "_law_pairs" (defArgs sPs) (defBody sPs) (defScope sPs) .none kV_pairs dc_pairs pm_pairs an_pairs cd_pairs ct_pairs), sl_pairs⟩)
    (d_pairs : PySem.W.codeIn K cd_pairs "_law_pairs" = true)
    (k_pairs : PySem.W.keepIn K (.ref f_pairs) = true)
    {f_shw : Addr} {oc_shw kV_shw dc_shw pm_shw cd_shw ct_shw : Value} {od_shw an_shw : Option Addr} {sl_shw : Array (Option Value)}
    (n_shw : PySem.W.nsIn K mainGlobals "_law_shown" = some (some (.ref f_shw)))
    (l_shw : K.lookup f_shw = some ⟨oc_shw, od_shw, .func (PySem.W.fnOf "_law_shown" "_law_shown" (defArgs sSh) (defBody sSh) (defScope sSh) .none kV_shw dc_shw pm_shw an_shw cd_shw ct_shw), sl_shw⟩)
    (d_shw : PySem.W.codeIn K cd_shw "_law_shown" = true)
    (k_shw : PySem.W.keepIn K (.ref f_shw) = true)
    {f_shr : Addr} {oc_shr kV_shr dc_shr pm_shr cd_shr ct_shr : Value} {od_shr an_shr : Option Addr} {sl_shr : Array (Option Value)}
    (n_shr : PySem.W.nsIn K mainGlobals "_law_shown_row" = some (some (.ref f_shr)))
    (l_shr : K.lookup f_shr = some ⟨oc_shr, od_shr, .func (PySem.W.fnOf "_law_shown_row" "_law_shown_row" (defArgs sSr) (defBody sSr) (defScope sSr) .none kV_shr dc_shr pm_shr an_shr cd_shr ct_shr), sl_shr⟩)
    (d_shr : PySem.W.codeIn K cd_shr "_law_shown_row" = true)
    (k_shr : PySem.W.keepIn K (.ref f_shr) = true)
    {f_num : Addr} {oc_num kV_num dc_num pm_num cd_num ct_num : Value} {od_num an_num : Option Addr} {sl_num : Array (Option Value)}
    (n_num : PySem.W.nsIn K mainGlobals "_law_number" = some (some (.ref f_num)))
    (l_num : K.lookup f_num = some ⟨oc_num, od_num, .func (PySem.W.fnOf "_law_number" "_law_number" (defArgs sNu) (defBody sNu) (defScope sNu) .none kV_num dc_num pm_num an_num cd_num ct_num), sl_num⟩)
    (d_num : PySem.W.codeIn K cd_num "_law_number" = true)
    (k_num : PySem.W.keepIn K (.ref f_num) = true)
    {f_prd : Addr} {oc_prd kV_prd dc_prd pm_prd cd_prd ct_prd : Value} {od_prd an_prd : Option Addr} {sl_prd : Array (Option Value)}
    (n_prd : PySem.W.nsIn K mainGlobals "_law_product" = some (some (.ref f_prd)))
    (l_prd : K.lookup f_prd = some ⟨oc_prd, od_prd, .func (PySem.W.fnOf "_law_product" "_law_product" (defArgs sPd) (defBody sPd) (defScope sPd) .none kV_prd dc_prd pm_prd an_prd cd_prd ct_prd), sl_prd⟩)
    (d_prd : PySem.W.codeIn K cd_prd "_law_product" = true)
    (k_prd : PySem.W.keepIn K (.ref f_prd) = true)
    {f_mixl : Addr} {oc_mixl kV_mixl dc_mixl pm_mixl cd_mixl ct_mixl : Value} {od_mixl an_mixl : Option Addr} {sl_mixl : Array (Option Value)}
    (n_mixl : PySem.W.nsIn K mainGlobals "_law_mix" = some (some (.ref f_mixl)))
    (l_mixl : K.lookup f_mixl = some ⟨oc_mixl, od_mixl, .func (PySem.W.fnOf "_law_mix" "_law_mix" (defArgs sMx) (defBody sMx) (defScope sMx) .none kV_mixl dc_mixl pm_mixl an_mixl cd_mixl ct_mixl), sl_mixl⟩)
    (d_mixl : PySem.W.codeIn K cd_mixl "_law_mix" = true)
    (k_mixl : PySem.W.keepIn K (.ref f_mixl) = true)
    {f_lns : Addr} {oc_lns kV_lns dc_lns pm_lns cd_lns ct_lns : Value} {od_lns an_lns : Option Addr} {sl_lns : Array (Option Value)}
    (n_lns : PySem.W.nsIn K mainGlobals "_law_lines" = some (some (.ref f_lns)))
    (l_lns : K.lookup f_lns = some ⟨oc_lns, od_lns, .func (PySem.W.fnOf "_law_lines" "_law_lines" (defArgs sLn) (defBody sLn) (defScope sLn) .none kV_lns dc_lns pm_lns an_lns cd_lns ct_lns), sl_lns⟩)
    (d_lns : PySem.W.codeIn K cd_lns "_law_lines" = true)
    (k_lns : PySem.W.keepIn K (.ref f_lns) = true)
    {f_shl : Addr} {oc_shl kV_shl dc_shl pm_shl cd_shl ct_shl : Value} {od_shl an_shl : Option Addr} {sl_shl : Array (Option Value)}
    (n_shl : PySem.W.nsIn K mainGlobals "_law_shown_lines" = some (some (.ref f_shl)))
    (l_shl : K.lookup f_shl = some ⟨oc_shl, od_shl, .func (PySem.W.fnOf "_law_shown_lines" "_law_shown_lines" (defArgs sSl) (defBody sSl) (defScope sSl) .none kV_shl dc_shl pm_shl an_shl cd_shl ct_shl), sl_shl⟩)
    (d_shl : PySem.W.codeIn K cd_shl "_law_shown_lines" = true)
    (k_shl : PySem.W.keepIn K (.ref f_shl) = true)
    {f_inv : Addr} {oc_inv kV_inv dc_inv pm_inv cd_inv ct_inv : Value} {od_inv an_inv : Option Addr} {sl_inv : Array (Option Value)}
    (n_inv : PySem.W.nsIn K mainGlobals "_law_inverse" = some (some (.ref f_inv)))
    (l_inv : K.lookup f_inv = some ⟨oc_inv, od_inv, .func (PySem.W.fnOf "_law_inverse" "_law_inverse" (defArgs sInv) (defBody sInv) (defScope sInv) .none kV_inv dc_inv pm_inv an_inv cd_inv ct_inv), sl_inv⟩)
    (d_inv : PySem.W.codeIn K cd_inv "_law_inverse" = true)
    (k_inv : PySem.W.keepIn K (.ref f_inv) = true)
    {f_wo : Addr} {oc_wo kV_wo dc_wo pm_wo cd_wo ct_wo : Value} {od_wo an_wo : Option Addr} {sl_wo : Array (Option Value)}
    (n_wo : PySem.W.nsIn K mainGlobals "_law_without" = some (some (.ref f_wo)))
    (l_wo : K.lookup f_wo = some ⟨oc_wo, od_wo, .func (PySem.W.fnOf "_law_without" "_law_without" (defArgs sWo) (defBody sWo) (defScope sWo) .none kV_wo dc_wo pm_wo an_wo cd_wo ct_wo), sl_wo⟩)
    (d_wo : PySem.W.codeIn K cd_wo "_law_without" = true)
    (k_wo : PySem.W.keepIn K (.ref f_wo) = true)
    {f_lcl : Addr} {oc_lcl kV_lcl dc_lcl pm_lcl cd_lcl ct_lcl : Value} {od_lcl an_lcl : Option Addr} {sl_lcl : Array (Option Value)}
    (n_lcl : PySem.W.nsIn K mainGlobals "_law_cleared" = some (some (.ref f_lcl)))
    (l_lcl : K.lookup f_lcl = some ⟨oc_lcl, od_lcl, .func (PySem.W.fnOf "_law_cleared" "_law_cleared" (defArgs sLc) (defBody sLc) (defScope sLc) .none kV_lcl dc_lcl pm_lcl an_lcl cd_lcl ct_lcl), sl_lcl⟩)
    (d_lcl : PySem.W.codeIn K cd_lcl "_law_cleared" = true)
    (k_lcl : PySem.W.keepIn K (.ref f_lcl) = true)
    {f_told : Addr} {oc_told kV_told dc_told pm_told cd_told ct_told : Value} {od_told an_told : Option Addr} {sl_told : Array (Option Value)}
    (n_told : PySem.W.nsIn K mainGlobals "_law_are_told" = some (some (.ref f_told)))
    (l_told : K.lookup f_told = some ⟨oc_told, od_told, .func (PySem.W.fnOf "_law_are_told" "_law_are_told" (defArgs sAt) (defBody sAt) (defScope sAt) .none kV_told dc_told pm_told an_told cd_told ct_told), sl_told⟩)
    (d_told : PySem.W.codeIn K cd_told "_law_are_told" = true)
    (k_told : PySem.W.keepIn K (.ref f_told) = true)
    {f_rig : Addr} {oc_rig kV_rig dc_rig pm_rig cd_rig ct_rig : Value} {od_rig an_rig : Option Addr} {sl_rig : Array (Option Value)}
    (n_rig : PySem.W.nsIn K mainGlobals "_law_right" = some (some (.ref f_rig)))
    (l_rig : K.lookup f_rig = some ⟨oc_rig, od_rig, .func (PySem.W.fnOf "_law_right" "_law_right" (defArgs sRt) (defBody sRt) (defScope sRt) .none kV_rig dc_rig pm_rig an_rig cd_rig ct_rig), sl_rig⟩)
    (d_rig : PySem.W.codeIn K cd_rig "_law_right" = true)
    (k_rig : PySem.W.keepIn K (.ref f_rig) = true)
    {f_law : Addr} {oc_law kV_law dc_law pm_law cd_law ct_law : Value} {od_law an_law : Option Addr} {sl_law : Array (Option Value)}
    (n_law : PySem.W.nsIn K mainGlobals "law" = some (some (.ref f_law)))
    (l_law : K.lookup f_law = some ⟨oc_law, od_law, .func (PySem.W.fnOf "law" "law" (defArgs sLaw) (defBody sLaw) (defScope sLaw) .none kV_law dc_law pm_law an_law cd_law ct_law), sl_law⟩)
    (d_law : PySem.W.codeIn K cd_law "law" = true)
    (k_law : PySem.W.keepIn K (.ref f_law) = true)
    {f_eq : Addr} {oc_eq kV_eq dc_eq pm_eq cd_eq ct_eq : Value} {od_eq an_eq : Option Addr} {sl_eq : Array (Option Value)}
    (n_eq : PySem.W.findIn K (.ref C) "__eq__" = some (some (.ref f_eq)))
    (l_eq : K.lookup f_eq = some ⟨oc_eq, od_eq, .func (PySem.W.fnOf "__eq__" "Fraction.__eq__" (defArgs sEq) (defBody sEq) (defScope sEq) .none kV_eq dc_eq pm_eq an_eq cd_eq ct_eq), sl_eq⟩)
    (d_eq : PySem.W.codeIn K cd_eq "Fraction.__eq__" = true)
    (k_eq : PySem.W.keepIn K (.ref f_eq) = true)
    (i_eq : PySem.W.isFn K (.ref f_eq) = true)
    {f_ei : Addr} {oc_ei kV_ei dc_ei pm_ei cd_ei ct_ei : Value} {od_ei an_ei : Option Addr} {sl_ei : Array (Option Value)}
    (n_ei : PySem.W.findIn K (.ref D) "__init__" = some (some (.ref f_ei)))
    (l_ei : K.lookup f_ei = some ⟨oc_ei, od_ei, .func (PySem.W.fnOf "__init__" "Echelon.__init__" (defArgs sEi) (defBody sEi) (defScope sEi) .none kV_ei dc_ei pm_ei an_ei cd_ei ct_ei), sl_ei⟩)
    (d_ei : PySem.W.codeIn K cd_ei "Echelon.__init__" = true)
    (k_ei : PySem.W.keepIn K (.ref f_ei) = true)
    (i_ei : PySem.W.isFn K (.ref f_ei) = true)
    {f_er : Addr} {oc_er kV_er dc_er pm_er cd_er ct_er : Value} {od_er an_er : Option Addr} {sl_er : Array (Option Value)}
    (n_er : PySem.W.findIn K (.ref D) "rest_of" = some (some (.ref f_er)))
    (l_er : K.lookup f_er = some ⟨oc_er, od_er, .func (PySem.W.fnOf "rest_of" "Echelon.rest_of" (defArgs sEr) (defBody sEr) (defScope sEr) .none kV_er dc_er pm_er an_er cd_er ct_er), sl_er⟩)
    (d_er : PySem.W.codeIn K cd_er "Echelon.rest_of" = true)
    (k_er : PySem.W.keepIn K (.ref f_er) = true)
    (i_er : PySem.W.isFn K (.ref f_er) = true)
    {f_ep : Addr} {oc_ep kV_ep dc_ep pm_ep cd_ep ct_ep : Value} {od_ep an_ep : Option Addr} {sl_ep : Array (Option Value)}
    (n_ep : PySem.W.findIn K (.ref D) "place_in" = some (some (.ref f_ep)))
    (l_ep : K.lookup f_ep = some ⟨oc_ep, od_ep, .func (PySem.W.fnOf "place_in" "Echelon.place_in" (defArgs sEp) (defBody sEp) (defScope sEp) .none kV_ep dc_ep pm_ep an_ep cd_ep ct_ep), sl_ep⟩)
    (d_ep : PySem.W.codeIn K cd_ep "Echelon.place_in" = true)
    (k_ep : PySem.W.keepIn K (.ref f_ep) = true)
    (i_ep : PySem.W.isFn K (.ref f_ep) = true)
    {f_et : Addr} {oc_et kV_et dc_et pm_et cd_et ct_et : Value} {od_et an_et : Option Addr} {sl_et : Array (Option Value)}
    (n_et : PySem.W.findIn K (.ref D) "take" = some (some (.ref f_et)))
    (l_et : K.lookup f_et = some ⟨oc_et, od_et, .func (PySem.W.fnOf "take" "Echelon.take" (defArgs sEt) (defBody sEt) (defScope sEt) .none kV_et dc_et pm_et an_et cd_et ct_et), sl_et⟩)
    (d_et : PySem.W.codeIn K cd_et "Echelon.take" = true)
    (k_et : PySem.W.keepIn K (.ref f_et) = true)
    (i_et : PySem.W.isFn K (.ref f_et) = true)
    {f_top : Addr} {oc_top kV_top dc_top pm_top cd_top ct_top : Value} {od_top an_top : Option Addr} {sl_top : Array (Option Value)}
    {p_top : Addr} {r_top : List Value}
    (n_top : PySem.W.findIn K (.ref C) "top" = some (some (.ref p_top)))
    (g_top : PySem.W.specialIn K (.ref p_top) "__get__" = some (some (.builtin "property.__get__")))
    (t_top : PySem.W.takesIn K (.ref p_top) = some true)
    (r_topx : PySem.W.recIn K p_top "property" = some (.ref f_top :: r_top))
    (l_top : K.lookup f_top = some ⟨oc_top, od_top, .func (PySem.W.fnOf "top" "Fraction.top" (defArgs sTop) (defBody sTop) (defScope sTop) .none kV_top dc_top pm_top an_top cd_top ct_top), sl_top⟩)
    (d_top : PySem.W.codeIn K cd_top "Fraction.top" = true)
    (k_top : PySem.W.keepIn K (.ref f_top) = true)
    {f_bot : Addr} {oc_bot kV_bot dc_bot pm_bot cd_bot ct_bot : Value} {od_bot an_bot : Option Addr} {sl_bot : Array (Option Value)}
    {p_bot : Addr} {r_bot : List Value}
    (n_bot : PySem.W.findIn K (.ref C) "bottom" = some (some (.ref p_bot)))
    (g_bot : PySem.W.specialIn K (.ref p_bot) "__get__" = some (some (.builtin "property.__get__")))
    (t_bot : PySem.W.takesIn K (.ref p_bot) = some true)
    (r_botx : PySem.W.recIn K p_bot "property" = some (.ref f_bot :: r_bot))
    (l_bot : K.lookup f_bot = some ⟨oc_bot, od_bot, .func (PySem.W.fnOf "bottom" "Fraction.bottom" (defArgs sBot) (defBody sBot) (defScope sBot) .none kV_bot dc_bot pm_bot an_bot cd_bot ct_bot), sl_bot⟩)
    (d_bot : PySem.W.codeIn K cd_bot "Fraction.bottom" = true)
    (k_bot : PySem.W.keepIn K (.ref f_bot) = true)
    {f_ini : Addr} {oc_ini kV_ini dc_ini pm_ini cd_ini ct_ini : Value} {od_ini an_ini : Option Addr} {sl_ini : Array (Option Value)}
    {T_ini : Addr} {tc_ini : Value} {td_ini : Option Addr} {ti_ini : Array Value} {tn_ini : Nat} {ts_ini : Array (Option Value)} {tk_ini : Tok}
    (n_ini : PySem.W.findIn K (.ref C) "__init__" = some (some (.ref f_ini)))
    (l_ini : K.lookup f_ini = some ⟨oc_ini, od_ini, .func (PySem.W.fnOf "__init__" "Fraction.__init__" (defArgs sInit) (defBody sInit) (defScope sInit) (.ref T_ini) kV_ini dc_ini pm_ini an_ini cd_ini ct_ini), sl_ini⟩)
    (d_ini : PySem.W.codeIn K cd_ini "Fraction.__init__" = true)
    (k_ini : PySem.W.keepIn K (.ref f_ini) = true)
    (i_ini : PySem.W.isFn K (.ref f_ini) = true)
    (T_inix : K.lookup T_ini = some ⟨tc_ini, td_ini, .seq ti_ini tn_ini, ts_ini⟩)
    (v_ini : ti_ini = [Value.int 1 tk_ini].toArray)
    (z_int : PySem.W.nsIn K mainGlobals "int" = some none)
    (z_len : PySem.W.nsIn K mainGlobals "len" = some none)
    (z_abs : PySem.W.nsIn K mainGlobals "abs" = some none)
    (z_max : PySem.W.nsIn K mainGlobals "max" = some none)
    (z_min : PySem.W.nsIn K mainGlobals "min" = some none)
    (z_isinstance : PySem.W.nsIn K mainGlobals "isinstance" = some none)
    (z_range : PySem.W.nsIn K mainGlobals "range" = some none)
    (z_bool : PySem.W.nsIn K mainGlobals "bool" = some none)
    (z_tuple : PySem.W.nsIn K mainGlobals "tuple" = some none)
    (z_all : PySem.W.nsIn K mainGlobals "all" = some none)
    (z_sum : PySem.W.nsIn K mainGlobals "sum" = some none)
    (z_zip : PySem.W.nsIn K mainGlobals "zip" = some none)
    (z_enumerate : PySem.W.nsIn K mainGlobals "enumerate" = some none)
    (z_list : PySem.W.nsIn K mainGlobals "list" = some none)
    (z_sorted : PySem.W.nsIn K mainGlobals "sorted" = some none)
    (rcls : clsB K C = true)
    (rrow : rowB K C = true)
    (ecls : clsB K D = true)
    (erow : echB K D = true)
    (o_NoneType : oddB K C "NoneType" = true)
    (o_bool : oddB K C "bool" = true)
    (o_int : oddB K C "int" = true)
    (o_str : oddB K C "str" = true)
    (o_list : oddB K C "list" = true)
    (o_tuple : oddB K C "tuple" = true)
    (o_dict : oddB K C "dict" = true) :
    ∃ fd : FuncData, (∀ (s : Shared) (v : Value), BindsTo s fd ⟨[v], []⟩ [("_law_script", v)]) ∧ ∀ base : Heap, K.In base → base.Ns mainGlobals mg → FnG l.prog w K mg base CX0 9 fa fd ["_law_script"] (spLaw K) := by
  have e := hfa.symm.trans (PySem.W.mg_of X G n_law)
  cases e
  have no : ∀ {x : Str}, PySem.W.nsIn K mainGlobals x = some none → mg x = none := fun z => PySem.W.mg_none_of X G z
  have at_ : ∀ {x : Str} {v : Value}, PySem.W.nsIn K mainGlobals x = some (some v) → mg x = some v := fun z => PySem.W.mg_of X G z
  have F_clr := fun_mk (st := sClr) l_clr d_clr k_clr
  have b_clr := F_clr.binds (ps := ["rows", "line", "at", "divisor"]) fun _ _ _ _ _ _ us hl => match us, hl with | [_, _, _, _], _ => rfl
  have F_plain := fun_mk (st := sPlain) l_plain d_plain k_plain
  have b_plain := F_plain.binds (ps := ["value"]) fun _ _ _ _ _ _ us hl => match us, hl with | [_], _ => rfl
  have F_bet := fun_mk (st := sBet) l_bet d_bet k_bet
  have b_bet := F_bet.binds (ps := ["value", "least", "greatest"]) fun _ _ _ _ _ _ us hl => match us, hl with | [_, _, _], _ => rfl
  have F_isf := fun_mk (st := sIsF) l_isf d_isf k_isf
  have b_isf := F_isf.binds (ps := ["value"]) fun _ _ _ _ _ _ us hl => match us, hl with | [_], _ => rfl
  have F_asf := fun_mk (st := sAs) l_asf d_asf k_asf
  have b_asf := F_asf.binds (ps := ["value"]) fun _ _ _ _ _ _ us hl => match us, hl with | [_], _ => rfl
  have F_fs := fun_mk (st := sFs) l_fs d_fs k_fs
  have b_fs := F_fs.binds (ps := ["value"]) fun _ _ _ _ _ _ us hl => match us, hl with | [_], _ => rfl
  have F_over := fun_mk (st := sOver) l_over d_over k_over
  have b_over := F_over.binds (ps := ["fractions"]) fun _ _ _ _ _ _ us hl => match us, hl with | [_], _ => rfl
  have F_irs := fun_mk (st := sIrs) l_irs d_irs k_irs
  have b_irs := F_irs.binds (ps := ["value"]) fun _ _ _ _ _ _ us hl => match us, hl with | [_], _ => rfl
  have F_tof := fun_mk (st := sTof) l_tof d_tof k_tof
  have b_tof := F_tof.binds (ps := ["rows", "column"]) fun _ _ _ _ _ _ us hl => match us, hl with | [_, _], _ => rfl
  have F_mof := fun_mk (st := sMof) l_mof d_mof k_mof
  have b_mof := F_mof.binds (ps := ["rows", "factors"]) fun _ _ _ _ _ _ us hl => match us, hl with | [_, _], _ => rfl
  have F_cd := fun_mk (st := sClrd) l_cd d_cd k_cd
  have b_cd := F_cd.binds (ps := ["rows"]) fun _ _ _ _ _ _ us hl => match us, hl with | [_], _ => rfl
  have F_crs := fun_mk (st := sCrs) l_crs d_crs k_crs
  have b_crs := F_crs.binds (ps := ["rows"]) fun _ _ _ _ _ _ us hl => match us, hl with | [_], _ => rfl
  have F_cfs := fun_mk (st := sCfs) l_cfs d_cfs k_cfs
  have b_cfs := F_cfs.binds (ps := ["value", "many"]) fun _ _ _ _ _ _ us hl => match us, hl with | [_, _], _ => rfl
  have F_trn := fun_mk (st := sTrn) l_trn d_trn k_trn
  have b_trn := F_trn.binds (ps := ["rows"]) fun _ _ _ _ _ _ us hl => match us, hl with | [_], _ => rfl
  have F_ovr := fun_mk (st := sOvr) l_ovr d_ovr k_ovr
  have b_ovr := F_ovr.binds (ps := ["tops", "bottom"]) fun _ _ _ _ _ _ us hl => match us, hl with | [_, _], _ => rfl
  have F_tms := fun_mk (st := sTms) l_tms d_tms k_tms
  have b_tms := F_tms.binds (ps := ["rows", "column"]) fun _ _ _ _ _ _ us hl => match us, hl with | [_, _], _ => rfl
  have F_dice := fun_mk (st := LD.sDice) l_dice d_dice k_dice
  have b_dice := F_dice.binds (ps := ["_law_script", "_law_at"]) fun _ _ _ _ _ _ us hl => match us, hl with | [_, _], _ => rfl
  have F_roll := fun_mk (st := LD.sRoll) l_roll d_roll k_roll
  have b_roll := F_roll.binds (ps := ["_law_dice_here", "_law_total"]) fun _ _ _ _ _ _ us hl => match us, hl with | [_, _], _ => rfl
  have F_one := fun_mk (st := LD.sOneOf) l_one d_one k_one
  have b_one := F_one.binds (ps := ["_law_dice_here", "_law_items"]) fun _ _ _ _ _ _ us hl => match us, hl with | [_, _], _ => rfl
  have F_gcd := fun_mk (st := sGcd) l_gcd d_gcd k_gcd
  have b_gcd := F_gcd.binds (ps := ["_law_one", "_law_two"]) fun _ _ _ _ _ _ us hl => match us, hl with | [_, _], _ => rfl
  have F_rat := fun_mk (st := sRat) l_rat d_rat k_rat
  have b_rat := F_rat.binds (ps := ["_law_top", "_law_bottom"]) fun _ _ _ _ _ _ us hl => match us, hl with | [_, _], _ => rfl
  have F_plus := fun_mk (st := sPlus) l_plus d_plus k_plus
  have b_plus := F_plus.binds (ps := ["_law_one", "_law_two"]) fun _ _ _ _ _ _ us hl => match us, hl with | [_, _], _ => rfl
  have F_lby := fun_mk (st := sLby) l_lby d_lby k_lby
  have b_lby := F_lby.binds (ps := ["_law_one", "_law_two"]) fun _ _ _ _ _ _ us hl => match us, hl with | [_, _], _ => rfl
  have F_pair := fun_mk (st := sPr) l_pair d_pair k_pair
  have b_pair := F_pair.binds (ps := ["_law_number_here"]) fun _ _ _ _ _ _ us hl => match us, hl with | [_], _ => rfl
  have F_pairs := fun_mk (st := sPs) l_pairs d_pairs k_pairs
  have b_pairs := F_pairs.binds (ps := ["_law_row"]) fun _ _ _ _ _ _ us hl => match us, hl with | [_], _ => rfl
  have F_shw := fun_mk (st := sSh) l_shw d_shw k_shw
  have b_shw := F_shw.binds (ps := ["_law_dice_here", "_law_pair_here"]) fun _ _ _ _ _ _ us hl => match us, hl with | [_, _], _ => rfl
  have F_shr := fun_mk (st := sSr) l_shr d_shr k_shr
  have b_shr := F_shr.binds (ps := ["_law_dice_here", "_law_pairs_here"]) fun _ _ _ _ _ _ us hl => match us, hl with | [_, _], _ => rfl
  have F_num := fun_mk (st := sNu) l_num d_num k_num
  have b_num := F_num.binds (ps := ["_law_dice_here"]) fun _ _ _ _ _ _ us hl => match us, hl with | [_], _ => rfl
  have F_prd := fun_mk (st := sPd) l_prd d_prd k_prd
  have b_prd := F_prd.binds (ps := ["_law_row", "_law_column"]) fun _ _ _ _ _ _ us hl => match us, hl with | [_, _], _ => rfl
  have F_mixl := fun_mk (st := sMx) l_mixl d_mixl k_mixl
  have b_mixl := F_mixl.binds (ps := ["_law_lines_here", "_law_factors"]) fun _ _ _ _ _ _ us hl => match us, hl with | [_, _], _ => rfl
  have F_lns := fun_mk (st := sLn) l_lns d_lns k_lns
  have b_lns := F_lns.binds (ps := ["_law_dice_here", "_law_most", "_law_wide"]) fun _ _ _ _ _ _ us hl => match us, hl with | [_, _, _], _ => rfl
  have F_shl := fun_mk (st := sSl) l_shl d_shl k_shl
  have b_shl := F_shl.binds (ps := ["_law_dice_here", "_law_lines_here"]) fun _ _ _ _ _ _ us hl => match us, hl with | [_, _], _ => rfl
  have F_inv := fun_mk (st := sInv) l_inv d_inv k_inv
  have b_inv := F_inv.binds (ps := ["_law_pair_here"]) fun _ _ _ _ _ _ us hl => match us, hl with | [_], _ => rfl
  have F_wo := fun_mk (st := sWo) l_wo d_wo k_wo
  have b_wo := F_wo.binds (ps := ["_law_row", "_law_line", "_law_place"]) fun _ _ _ _ _ _ us hl => match us, hl with | [_, _, _], _ => rfl
  have F_lcl := fun_mk (st := sLc) l_lcl d_lcl k_lcl
  have b_lcl := F_lcl.binds (ps := ["_law_lines_here"]) fun _ _ _ _ _ _ us hl => match us, hl with | [_], _ => rfl
  have F_told := fun_mk (st := sAt) l_told d_told k_told
  have b_told := F_told.binds (ps := ["_law_numbers"]) fun _ _ _ _ _ _ us hl => match us, hl with | [_], _ => rfl
  have F_rig := fun_mk (st := sRt) l_rig d_rig k_rig
  have b_rig := F_rig.binds (ps := ["_law_dice_here"]) fun _ _ _ _ _ _ us hl => match us, hl with | [_], _ => rfl
  have F_law := fun_mk (st := sLaw) l_law d_law k_law
  have b_law := F_law.binds (ps := ["_law_script"]) fun _ _ _ _ _ _ us hl => match us, hl with | [_], _ => rfl
  have F_eq := fun_mk (st := sEq) l_eq d_eq k_eq
  have b_eq := F_eq.binds (ps := ["self", "other"]) fun _ _ _ _ _ _ us hl => match us, hl with | [_, _], _ => rfl
  have F_ei := fun_mk (st := sEi) l_ei d_ei k_ei
  have b_ei := F_ei.binds (ps := ["self", "width"]) fun _ _ _ _ _ _ us hl => match us, hl with | [_, _], _ => rfl
  have F_er := fun_mk (st := sEr) l_er d_er k_er
  have b_er := F_er.binds (ps := ["self", "line"]) fun _ _ _ _ _ _ us hl => match us, hl with | [_, _], _ => rfl
  have F_ep := fun_mk (st := sEp) l_ep d_ep k_ep
  have b_ep := F_ep.binds (ps := ["self", "rest"]) fun _ _ _ _ _ _ us hl => match us, hl with | [_, _], _ => rfl
  have F_et := fun_mk (st := sEt) l_et d_et k_et
  have b_et := F_et.binds (ps := ["self", "rest", "place"]) fun _ _ _ _ _ _ us hl => match us, hl with | [_, _, _], _ => rfl
  have F_top := fun_mk (st := sTop) l_top d_top k_top
  have b_top := F_top.binds (ps := ["self"]) fun _ _ _ _ _ _ us hl => match us, hl with | [_], _ => rfl
  have F_bot := fun_mk (st := sBot) l_bot d_bot k_bot
  have b_bot := F_bot.binds (ps := ["self"]) fun _ _ _ _ _ _ us hl => match us, hl with | [_], _ => rfl
  have cC := cls_of rcls
  have cD := cls_of ecls
  simp only [rowB, Bool.and_eq_true, beq_iff_eq] at rrow
  obtain ⟨w1, w2, w3, w4, w5, w6, w7, w8, w9⟩ := rrow
  simp only [echB, Bool.and_eq_true, beq_iff_eq] at erow
  obtain ⟨e1, e2, e3, e4, e5, e6⟩ := erow
  have OD : OddsC K C := ⟨odd_of o_NoneType, odd_of o_bool, odd_of o_int, odd_of o_str, odd_of o_list, odd_of o_tuple, odd_of o_dict⟩
  have TF : TxtF K mg C := ⟨cC, w1, w2, at_ aC, at_ agcd⟩
  have TE : TxtE K mg D := ⟨cD, e1, e2, e3, e4, no z_zip, no z_range⟩
  have TD : TxtD mg := ⟨no z_int, no z_len, no z_abs, no z_max⟩
  have TL : TxtL mg := ⟨no z_range, no z_max, no z_min, no z_len, no z_tuple⟩
  have TR : TxtR mg := ⟨no z_isinstance, no z_tuple, no z_len, no z_all, ⟨_, at_ aMR⟩, ⟨_, at_ aMW⟩⟩
  have TC : TxtC mg := ⟨no z_range, no z_len, no z_enumerate, no z_list⟩
  subst v_ini
  have FI : FunD K "__init__" "Fraction.__init__" (defArgs sInit) (defBody sInit) (defScope sInit) [V.int 1] [] f_ini _ := ⟨⟨oc_ini, od_ini, .ref T_ini, kV_ini, dc_ini, pm_ini, an_ini, cd_ini, ct_ini, sl_ini, rfl, l_ini, d_ini, .inr ⟨by decide, T_ini, _, [.int 1 tk_ini], tn_ini, rfl, T_inix, rfl, .cons ⟨tk_ini, rfl⟩ .nil⟩, .inl rfl⟩, k_ini⟩
  obtain ⟨bI1, bI2⟩ := init_binds FI
  refine ⟨PySem.W.fnOf "law" "law" (defArgs sLaw) (defBody sLaw) (defScope sLaw) .none kV_law dc_law pm_law an_law cd_law ct_law, fun s v => .of_eq rfl, fun base _ _ => ?_⟩
  have GP : FnOk l.prog w K mg base CX0 1 f_plain _ ["value"] (spPlain K) := ok_plain F_plain (no z_isinstance) (no z_int) (no z_bool)
  have GI := ok_init (P := l.prog) (w := w) (base := base) FI TF GP (at_ n_plain) k_plain b_plain
  have GTo : FnOk l.prog w K mg base CX0 1 f_top _ ["self"] (getSp C "_top") := fn_getter (N := ["self"]) l_top d_top ⟨rfl, rfl, rfl, by decide +kernel, rfl, by decide +kernel, by decide +kernel⟩ rfl rfl cC w1
  have GBo : FnOk l.prog w K mg base CX0 1 f_bot _ ["self"] (getSp C "_bottom") := fn_getter (N := ["self"]) l_bot d_bot ⟨rfl, rfl, rfl, by decide +kernel, rfl, by decide +kernel, by decide +kernel⟩ rfl rfl cC w2
  have k : FrK l.prog w K mg base C f_ini p_top f_top p_bot f_bot _ _ _ := ⟨TF, ⟨w7, n_ini, i_ini, w8⟩, GI, bI1, bI2, ⟨n_top, g_top, t_top, _, r_topx⟩, GTo, b_top, ⟨n_bot, g_bot, t_bot, _, r_botx⟩, GBo, b_bot, no z_isinstance, w3, w4, w5, w6, OD.int.k⟩
  have GA := ok_as F_asf k
  have GIsF := ok_isF F_isf k OD GP (at_ n_plain) k_plain b_plain
  have mE : Met l.prog w K mg base C "__eq__" 3 ["self", "other"] (FR.spEq K C) := ⟨_, _, ⟨n_eq, i_eq⟩, k_eq, ok_eq F_eq k OD GP (at_ n_plain) k_plain b_plain, b_eq⟩
  have gBet : Glo l.prog w K mg base "is_between" 2 ["value", "least", "greatest"] spBet := ⟨_, _, ok_bet F_bet GP (at_ n_plain) k_plain b_plain, at_ n_bet, k_bet, b_bet⟩
  have gFs : Glo l.prog w K mg base "is_fractions" 3 ["value"] (spFs C) := ⟨_, _, ok_fs F_fs GIsF (at_ n_isf) k_isf b_isf (no z_isinstance) (no z_tuple) (no z_all), at_ n_fs, k_fs, b_fs⟩
  have gOv : Glo l.prog w K mg base "over_one_bottom" 5 ["fractions"] (spOver C) := ⟨_, _, ok_over F_over k GA (at_ n_asf) k_asf b_asf (at_ alcm), at_ n_over, k_over, b_over⟩
  have gClr : Glo l.prog w K mg base "cleared_by" 1 ["rows", "line", "at", "divisor"] spClr := ⟨_, _, ok_clr F_clr (no z_zip), at_ n_clr, k_clr, b_clr⟩
  have GEi : FnOk l.prog w K mg base CX0 1 f_ei _ ["self", "width"] (spEi D) := ok_ei F_ei TE
  have ek : EcK l.prog w K mg base D f_ei _ := ⟨TE, ⟨e5, n_ei, i_ei, e6⟩, GEi, b_ei, at_ aD⟩
  have mR : Met l.prog w K mg base D "rest_of" 1 ["self", "line"] (spEr D) := ⟨_, _, ⟨n_er, i_er⟩, k_er, ok_er F_er TE, b_er⟩
  have mP : Met l.prog w K mg base D "place_in" 1 ["self", "rest"] (spEp D) := ⟨_, _, ⟨n_ep, i_ep⟩, k_ep, ok_ep F_ep TE, b_ep⟩
  have mT : Met l.prog w K mg base D "take" 2 ["self", "rest", "place"] (spEt D) := ⟨_, _, ⟨n_et, i_et⟩, k_et, ok_et F_et TE gClr, b_et⟩
  have gOvr : Glo l.prog w K mg base "_over" 4 ["tops", "bottom"] (spOvr C) := ⟨_, _, ok_ovr F_ovr k (no z_tuple), at_ n_ovr, k_ovr, b_ovr⟩
  have gTrn : Glo l.prog w K mg base "_turned" 1 ["rows"] (spTrn C) := ⟨_, _, ok_trn F_trn (no z_tuple) (no z_range) (no z_len), at_ n_trn, k_trn, b_trn⟩
  have gTms : Glo l.prog w K mg base "_times" 6 ["rows", "column"] (spTms C) := ⟨_, _, ok_tms F_tms k gOv (no z_sum) (no z_tuple) (no z_zip), at_ n_tms, k_tms, b_tms⟩
  have gIrs : Glo l.prog w K mg base "is_rows" 4 ["value"] (spIrs C) := ⟨_, _, ok_irs F_irs TR gBet gFs, at_ n_irs, k_irs, b_irs⟩
  have gCrs : Glo l.prog w K mg base "_check_rows" 5 ["rows"] (spCrs C) := ⟨_, _, ok_crs F_crs gIrs, at_ n_crs, k_crs, b_crs⟩
  have gCfs : Glo l.prog w K mg base "_check_fractions" 4 ["value", "many"] (spCfs C) := ⟨_, _, ok_cfs F_cfs gFs (no z_len), at_ n_cfs, k_cfs, b_cfs⟩
  have gTof : Glo l.prog w K mg base "times_of" 7 ["rows", "column"] (spTof C) := ⟨_, _, ok_tof F_tof gCrs gCfs gTms (no z_len), at_ n_tof, k_tof, b_tof⟩
  have gMof : Glo l.prog w K mg base "mix_of" 7 ["rows", "factors"] (spMof C) := ⟨_, _, ok_mof F_mof gCrs gCfs gTms gTrn (no z_len), at_ n_mof, k_mof, b_mof⟩
  have gCd : Glo l.prog w K mg base "cleared" 6 ["rows"] (spClrd C) := ⟨_, _, ok_clrd F_cd ek mR mP mT gCrs gOv gOvr (no z_len) (no z_zip) (no z_sorted) (no z_tuple), at_ n_cd, k_cd, b_cd⟩
  have gR : Glo l.prog w K mg base "_law_roll" 1 ["_law_dice_here", "_law_total"] spRoll := ⟨_, _, ok_roll F_roll TD.mI, at_ n_roll, k_roll, b_roll⟩
  have gO : Glo l.prog w K mg base "_law_one_of" 2 ["_law_dice_here", "_law_items"] spOneOf := ⟨_, _, ok_oneOf F_one TD F_roll (at_ n_roll) k_roll b_roll, at_ n_one, k_one, b_one⟩
  have GG : FnOk l.prog w K mg base CX0 1 f_gcd _ ["_law_one", "_law_two"] spGcd := ok_gcd F_gcd (no z_int)
  have gRa : Glo l.prog w K mg base "_law_ratio" 2 ["_law_top", "_law_bottom"] spRat := ⟨_, _, ok_rat F_rat GG (at_ n_gcd) k_gcd b_gcd (no z_abs), at_ n_rat, k_rat, b_rat⟩
  have gD : Glo l.prog w K mg base "_law_dice" 1 ["_law_script", "_law_at"] (spDice K) := ⟨_, _, ok_dice F_dice TD, at_ n_dice, k_dice, b_dice⟩
  have gP : Glo l.prog w K mg base "_law_plus" 3 ["_law_one", "_law_two"] (spLP plusP) := ⟨_, _, ok_plus F_plus gRa, at_ n_plus, k_plus, b_plus⟩
  have gB' : Glo l.prog w K mg base "_law_by" 3 ["_law_one", "_law_two"] (spLP byP) := ⟨_, _, ok_lby F_lby gRa, at_ n_lby, k_lby, b_lby⟩
  have gPr : Glo l.prog w K mg base "_law_pair" 3 ["_law_number_here"] (spPr C) := ⟨_, _, ok_pr F_pair k w9 (no z_isinstance) (no z_int), at_ n_pair, k_pair, b_pair⟩
  have gPs : Glo l.prog w K mg base "_law_pairs" 4 ["_law_row"] (spPs C) := ⟨_, _, ok_ps F_pairs gPr, at_ n_pairs, k_pairs, b_pairs⟩
  have gSh : Glo l.prog w K mg base "_law_shown" 4 ["_law_dice_here", "_law_pair_here"] (spSh C) := ⟨_, _, ok_sh F_shw k gR, at_ n_shw, k_shw, b_shw⟩
  have gSr : Glo l.prog w K mg base "_law_shown_row" 5 ["_law_dice_here", "_law_pairs_here"] (spSr C) := ⟨_, _, ok_sr F_shr gSh (no z_tuple), at_ n_shr, k_shr, b_shr⟩
  have gNu : Glo l.prog w K mg base "_law_number" 3 ["_law_dice_here"] spNu := ⟨_, _, ok_nu F_num gO gRa, at_ n_num, k_num, b_num⟩
  have gPd : Glo l.prog w K mg base "_law_product" 4 ["_law_row", "_law_column"] spPd := ⟨_, _, ok_pd F_prd gP gB' (no z_zip), at_ n_prd, k_prd, b_prd⟩
  have gWo : Glo l.prog w K mg base "_law_without" 4 ["_law_row", "_law_line", "_law_place"] spWo := ⟨_, _, ok_wo F_wo gP gB' (no z_zip), at_ n_wo, k_wo, b_wo⟩
  have gMx : Glo l.prog w K mg base "_law_mix" 5 ["_law_lines_here", "_law_factors"] spMx := ⟨_, _, ok_mx F_mixl gPd (no z_range) (no z_len), at_ n_mixl, k_mixl, b_mixl⟩
  have gSl : Glo l.prog w K mg base "_law_shown_lines" 6 ["_law_dice_here", "_law_lines_here"] (spSl C) := ⟨_, _, ok_sl F_shl gSr (no z_tuple), at_ n_shl, k_shl, b_shl⟩
  have gAt : Glo l.prog w K mg base "_law_are_told" 1 ["_law_numbers"] (spAt C) := ⟨_, _, ok_at F_told k (no z_isinstance), at_ n_told, k_told, b_told⟩
  have gIn : Glo l.prog w K mg base "_law_inverse" 1 ["_law_pair_here"] spInv := ⟨_, _, ok_inv F_inv, at_ n_inv, k_inv, b_inv⟩
  have gLc : Glo l.prog w K mg base "_law_cleared" 5 ["_law_lines_here"] spLc := ⟨_, _, ok_lc F_lcl TC gIn gB' gWo, at_ n_lcl, k_lcl, b_lcl⟩
  have gLn : Glo l.prog w K mg base "_law_lines" 4 ["_law_dice_here", "_law_most", "_law_wide"] spLn := ⟨_, _, ok_ln F_lns TC (no z_zip) gR gO gNu gB' gP, at_ n_lns, k_lns, b_lns⟩
  have gG : Glo l.prog w K mg base "_law_right" 8 ["_law_dice_here"] spRt := ⟨_, _, ok_rt F_rig TC gLn gSl gNu gSr gTof gIrs gPs gPd gMof gMx gAt gCd gLc mE, at_ n_rig, k_rig, b_rig⟩
  exact (ok_law F_law k TL TR OD gD gG gTof gMof gCd gIrs mE).g
end FR
open PySem PySem.W PyProof.Rows
set_option Elab.async false
set_option maxRecDepth 100000 in
set_option maxHeartbeats 0 in
theorem PySem.Challenge.cw_surelyends_k04_rows_times_mixes_cleared_holds : PySem.Challenge.rw_surelyends_k04_rows_times_mixes_cleared.Holds := by
  w_on; o_law; k_head; (case hw => w_witness2)
  k_fill
  refine L2.walkG (l := PySem.Challenge.rw_surelyends_k04_rows_times_mixes_cleared) (n := 63) (k := 9) (x := "_law_script") (CX := fun _ => L2.CX0) (sp := fun w => FR.spLaw _) rfl (by decide) rfl ⟨rfl, by decide, by decide⟩ (fun w h Y => PySem.W.kIn_of Y) ?F (fun _ _ a ns hl _ hS => ⟨a, ns, rfl, hS, fun _ => rfl⟩) fun _ _ _ _ _ z => z
  case F =>
    intro w mg fa h KX G hmg
    refine' FR.all_mk KX G hmg ?aC ?aD ?agcd ?alcm ?aMR ?aMW ?n_clr ?l_clr ?d_clr ?k_clr ?n_plain ?l_plain ?d_plain ?k_plain ?n_bet ?l_bet ?d_bet ?k_bet ?n_isf ?l_isf ?d_isf ?k_isf ?n_asf ?l_asf ?d_asf ?k_asf ?n_fs ?l_fs ?d_fs ?k_fs ?n_over ?l_over ?d_over ?k_over ?n_irs ?l_irs ?d_irs ?k_irs ?n_tof ?l_tof ?d_tof ?k_tof ?n_mof ?l_mof ?d_mof ?k_mof ?n_cd ?l_cd ?d_cd ?k_cd ?n_crs ?l_crs ?d_crs ?k_crs ?n_cfs ?l_cfs ?d_cfs ?k_cfs ?n_trn ?l_trn ?d_trn ?k_trn ?n_ovr ?l_ovr ?d_ovr ?k_ovr ?n_tms ?l_tms ?d_tms ?k_tms ?n_dice ?l_dice ?d_dice ?k_dice ?n_roll ?l_roll ?d_roll ?k_roll ?n_one ?l_one ?d_one ?k_one ?n_gcd ?l_gcd ?d_gcd ?k_gcd ?n_rat ?l_rat ?d_rat ?k_rat ?n_plus ?l_plus ?d_plus ?k_plus ?n_lby ?l_lby ?d_lby ?k_lby ?n_pair ?l_pair ?d_pair ?k_pair ?n_pairs ?l_pairs ?d_pairs ?k_pairs ?n_shw ?l_shw ?d_shw ?k_shw ?n_shr ?l_shr ?d_shr ?k_shr ?n_num ?l_num ?d_num ?k_num ?n_prd ?l_prd ?d_prd ?k_prd ?n_mixl ?l_mixl ?d_mixl ?k_mixl ?n_lns ?l_lns ?d_lns ?k_lns ?n_shl ?l_shl ?d_shl ?k_shl ?n_inv ?l_inv ?d_inv ?k_inv ?n_wo ?l_wo ?d_wo ?k_wo ?n_lcl ?l_lcl ?d_lcl ?k_lcl ?n_told ?l_told ?d_told ?k_told ?n_rig ?l_rig ?d_rig ?k_rig ?n_law ?l_law ?d_law ?k_law ?n_eq ?l_eq ?d_eq ?k_eq ?i_eq ?n_ei ?l_ei ?d_ei ?k_ei ?i_ei ?n_er ?l_er ?d_er ?k_er ?i_er ?n_ep ?l_ep ?d_ep ?k_ep ?i_ep ?n_et ?l_et ?d_et ?k_et ?i_et ?n_top ?g_top ?t_top ?r_topx ?l_top ?d_top ?k_top ?n_bot ?g_bot ?t_bot ?r_botx ?l_bot ?d_bot ?k_bot ?n_ini ?l_ini ?d_ini ?k_ini ?i_ini ?T_inix ?v_ini ?z_int ?z_len ?z_abs ?z_max ?z_min ?z_isinstance ?z_range ?z_bool ?z_tuple ?z_all ?z_sum ?z_zip ?z_enumerate ?z_list ?z_sorted ?rcls ?rrow ?ecls ?erow ?o_NoneType ?o_bool ?o_int ?o_str ?o_list ?o_tuple ?o_dict
    (case aC => k_is)
    (case aD => k_is)
    (case agcd => k_is)
    (case alcm => k_is)
    (case aMR => k_is)
    (case aMW => k_is)
    (case n_clr => k_is)
    (case l_clr => k_is)
    (case d_clr => k_is)
    (case k_clr => k_is)
    (case n_plain => k_is)
    (case l_plain => k_is)
    (case d_plain => k_is)
    (case k_plain => k_is)
    (case n_bet => k_is)
    (case l_bet => k_is)
    (case d_bet => k_is)
    (case k_bet => k_is)
    (case n_isf => k_is)
    (case l_isf => k_is)
    (case d_isf => k_is)
    (case k_isf => k_is)
    (case n_asf => k_is)
    (case l_asf => k_is)
    (case d_asf => k_is)
    (case k_asf => k_is)
    (case n_fs => k_is)
    (case l_fs => k_is)
    (case d_fs => k_is)
    (case k_fs => k_is)
    (case n_over => k_is)
    (case l_over => k_is)
    (case d_over => k_is)
    (case k_over => k_is)
    (case n_irs => k_is)
    (case l_irs => k_is)
    (case d_irs => k_is)
    (case k_irs => k_is)
    (case n_tof => k_is)
    (case l_tof => k_is)
    (case d_tof => k_is)
    (case k_tof => k_is)
    (case n_mof => k_is)
    (case l_mof => k_is)
    (case d_mof => k_is)
    (case k_mof => k_is)
    (case n_cd => k_is)
    (case l_cd => k_is)
    (case d_cd => k_is)
    (case k_cd => k_is)
    (case n_crs => k_is)
    (case l_crs => k_is)
    (case d_crs => k_is)
    (case k_crs => k_is)
    (case n_cfs => k_is)
    (case l_cfs => k_is)
    (case d_cfs => k_is)
    (case k_cfs => k_is)
    (case n_trn => k_is)
    (case l_trn => k_is)
    (case d_trn => k_is)
    (case k_trn => k_is)
    (case n_ovr => k_is)
    (case l_ovr => k_is)
    (case d_ovr => k_is)
    (case k_ovr => k_is)
    (case n_tms => k_is)
    (case l_tms => k_is)
    (case d_tms => k_is)
    (case k_tms => k_is)
    (case n_dice => k_is)
    (case l_dice => k_is)
    (case d_dice => k_is)
    (case k_dice => k_is)
    (case n_roll => k_is)
    (case l_roll => k_is)
    (case d_roll => k_is)
    (case k_roll => k_is)
    (case n_one => k_is)
    (case l_one => k_is)
    (case d_one => k_is)
    (case k_one => k_is)
    (case n_gcd => k_is)
    (case l_gcd => k_is)
    (case d_gcd => k_is)
    (case k_gcd => k_is)
    (case n_rat => k_is)
    (case l_rat => k_is)
    (case d_rat => k_is)
    (case k_rat => k_is)
    (case n_plus => k_is)
    (case l_plus => k_is)
    (case d_plus => k_is)
    (case k_plus => k_is)
    (case n_lby => k_is)
    (case l_lby => k_is)
    (case d_lby => k_is)
    (case k_lby => k_is)
    (case n_pair => k_is)
    (case l_pair => k_is)
    (case d_pair => k_is)
    (case k_pair => k_is)
    (case n_pairs => k_is)
    (case l_pairs => k_is)
    (case d_pairs => k_is)
    (case k_pairs => k_is)
    (case n_shw => k_is)
    (case l_shw => k_is)
    (case d_shw => k_is)
    (case k_shw => k_is)
    (case n_shr => k_is)
    (case l_shr => k_is)
    (case d_shr => k_is)
    (case k_shr => k_is)
    (case n_num => k_is)
    (case l_num => k_is)
    (case d_num => k_is)
    (case k_num => k_is)
    (case n_prd => k_is)
    (case l_prd => k_is)
    (case d_prd => k_is)
    (case k_prd => k_is)
    (case n_mixl => k_is)
    (case l_mixl => k_is)
    (case d_mixl => k_is)
    (case k_mixl => k_is)
    (case n_lns => k_is)
    (case l_lns => k_is)
    (case d_lns => k_is)
    (case k_lns => k_is)
    (case n_shl => k_is)
    (case l_shl => k_is)
    (case d_shl => k_is)
    (case k_shl => k_is)
    (case n_inv => k_is)
    (case l_inv => k_is)
    (case d_inv => k_is)
    (case k_inv => k_is)
    (case n_wo => k_is)
    (case l_wo => k_is)
    (case d_wo => k_is)
    (case k_wo => k_is)
    (case n_lcl => k_is)
    (case l_lcl => k_is)
    (case d_lcl => k_is)
    (case k_lcl => k_is)
    (case n_told => k_is)
    (case l_told => k_is)
    (case d_told => k_is)
    (case k_told => k_is)
    (case n_rig => k_is)
    (case l_rig => k_is)
    (case d_rig => k_is)
    (case k_rig => k_is)
    (case n_law => k_is)
    (case l_law => k_is)
    (case d_law => k_is)
    (case k_law => k_is)
    (case n_eq => k_is)
    (case l_eq => k_is)
    (case d_eq => k_is)
    (case k_eq => k_is)
    (case i_eq => k_is)
    (case n_ei => k_is)
    (case l_ei => k_is)
    (case d_ei => k_is)
    (case k_ei => k_is)
    (case i_ei => k_is)
    (case n_er => k_is)
    (case l_er => k_is)
    (case d_er => k_is)
    (case k_er => k_is)
    (case i_er => k_is)
    (case n_ep => k_is)
    (case l_ep => k_is)
    (case d_ep => k_is)
    (case k_ep => k_is)
    (case i_ep => k_is)
    (case n_et => k_is)
    (case l_et => k_is)
    (case d_et => k_is)
    (case k_et => k_is)
    (case i_et => k_is)
    (case n_top => k_is)
    (case g_top => k_is)
    (case t_top => k_is)
    (case r_topx => k_is)
    (case l_top => k_is)
    (case d_top => k_is)
    (case k_top => k_is)
    (case n_bot => k_is)
    (case g_bot => k_is)
    (case t_bot => k_is)
    (case r_botx => k_is)
    (case l_bot => k_is)
    (case d_bot => k_is)
    (case k_bot => k_is)
    (case n_ini => k_is)
    (case l_ini => k_is)
    (case d_ini => k_is)
    (case k_ini => k_is)
    (case i_ini => k_is)
    (case T_inix => k_is)
    (case v_ini => rfl)
    (case z_int => k_is)
    (case z_len => k_is)
    (case z_abs => k_is)
    (case z_max => k_is)
    (case z_min => k_is)
    (case z_isinstance => k_is)
    (case z_range => k_is)
    (case z_bool => k_is)
    (case z_tuple => k_is)
    (case z_all => k_is)
    (case z_sum => k_is)
    (case z_zip => k_is)
    (case z_enumerate => k_is)
    (case z_list => k_is)
    (case z_sorted => k_is)
    (case rcls => kernel_rfl)
    (case rrow => kernel_rfl)
    (case ecls => kernel_rfl)
    (case erow => kernel_rfl)
    (case o_NoneType => kernel_rfl)
    (case o_bool => kernel_rfl)
    (case o_int => kernel_rfl)
    (case o_str => kernel_rfl)
    (case o_list => kernel_rfl)
    (case o_tuple => kernel_rfl)
    (case o_dict => kernel_rfl)
