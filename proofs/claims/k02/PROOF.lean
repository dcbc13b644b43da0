import PyProof.Rows.All
import Wide.All
import OpenK.AllK
import Wide.FinOn
import KE.KOpsOwn
import KE.KCallOwn
import HandS.ForMost
import HandS.Wide
import HandS.Property
import HandS.IsInst
import HandS.OwnEq
import HandS.Flow
import KE.KEqDict
import HandS.Gcd
import HandS.Defaults
import HandS.FStr
import PyProof.FitsInt
import PyProof.StrLaws
import KE.KMathG
import HandS.RaiseMore
import HandS.TupLe
import PyProof.ReprLen
import HandS.Style
import PySem.Challenge.RW_surelyends_k02_sums_products_and_others
set_option Elab.async false
set_option linter.all false
set_option maxRecDepth 100000
set_option maxHeartbeats 4000000
/-! Operators between instances of an own class and other values -/
namespace OW
open PySem PySem.Spec PySem.W PySem.Calls PyProof.Rows
section
variable {prog : Program} {w : World} {A : Around} {E : Value → Shared → Prop} {s : Shared} {K : Frag} {x C L f g : Addr} {h₀ : Heap} {m : Str → Option Value} {ox : Obj} {od : Option Obj} {T idl : String}
/-- a built-in value in front, which declines: the reflected method -/
theorem binop_right {op : Operator} {b : Value} {Q : Value → Shared → Prop} (X : K.In s.heap) (I : InstAt s.heap x ox C od) (hb : typeOf b = pure (.type T)) (hT : s.TypeIs b T) (hc : selfFirst K C = true)
    (h0 : findIn K (.ref C) (PySem.dunder op.info.2) = some (some (.ref g))) (hs : findIn K (.ref C) (dunderR op.info.2) = some (some (.ref f))) (hf : isFn K (.ref f) = true)
    (hfT : fillsNumberSlot (.type T) op.info.2 = pure true) (hsub : subIn K (.ref C) (.type T) = some false) (hl : Slot T (PySem.dunder op.info.2) idl)
    (hd : ∀ Q' : Value → Shared → Prop, Q' .notImplemented s → wpAny (model prog w) A (call (.builtin idl) [b, .ref x]) Q' E s)
    (h : wpAny (model prog w) A (call (.ref f) [.ref x, b]) (PySem.W.CmpBack Q) E s) : wpAny (model prog w) A (binaryOp op b (.ref x)) Q E s := by
  obtain ⟨cd, rest, hcd, hm⟩ := ksp_first hc
  rcases hi : op.info with ⟨sym, nm'⟩
  rw [hi] at h0 hs hfT hl
  dsimp only at h0 hs hfT hl
  have one := ksp_try X I hs hf h
  have L1 : Looks (model prog w) s.heap (typeOf (.ref x)) (.ref C) := I.type
  have L2 : Looks (model prog w) s.heap (typeOf b) (.type T) := Looks.of_pure hb
  have L3 : Looks (model prog w) s.heap (fillsNumberSlot (.ref C) nm') true := fills_K X hcd hm h0
  have L4 : Looks (model prog w) s.heap (fillsNumberSlot (.type T) nm') true := Looks.of_pure hfT
  have L5 : Looks (model prog w) s.heap (isSubtype (.ref C) (.type T)) false := looks_subIn X hsub
  have hpy : numberSlotInPython (.type T) nm' = pure false := rfl
  have hne : (Value.type T == Value.ref C) = false := Bool.eq_false_iff.mpr fun q => by cases beq_iff_eq.mp q
  simp only [binaryOp, hi]
  refine wpAny_holding (wpAny_bind ?_)
  unfold binaryOp1
  refine wpAny_bind (L2.here (wpAny_bind (L1.here (wpAny_bind (L4.here ?_)))))
  simp only [hne, Bool.false_eq_true, if_false]
  refine wpAny_bind (L3.here ?_)
  simp only [Bool.and_self, if_true]
  refine wpAny_bind (L5.here ?_)
  simp only [Bool.false_eq_true, if_false, pure_bind, Bool.not_false, Bool.and_self, if_true, hpy]
  refine wpAny_bind (m := tryMethod b _ (.ref x)) (wpAny_tryMethod_declines hT hl (hd _ ⟨rfl, ?_⟩))
  refine wpAny_bind (m := tryMethod (.ref x) _ b) (wpAny_mono one (fun r s' hr' => ?_) fun _ _ e => e)
  obtain ⟨v, rfl, hq⟩ := hr'
  exact wpAny_bind (wpAny_rule (wpAny_pure (wpAny_pure hq)))
/-! ### == and != -/
theorem try_eq {b : Value} {Q : Value → Shared → Prop} (X : K.In s.heap) (I : InstAt s.heap x ox C od) (hs : findIn K (.ref C) "__eq__" = some (some (.ref f))) (hf : isFn K (.ref f) = true)
    (h : wpAny (model prog w) A (call (.ref f) [.ref x, b]) (PySem.W.CmpBack Q) E s) : wpAny (model prog w) A (tryCompare (.ref x) "__eq__" b) (fun r s' => ∃ v, r = some v ∧ Q v s') E s := by
  unfold tryCompare
  refine wpAny_bind (ifBound_K X I hs hf (wpAny_mono h (fun v s' hv => ?_) fun _ _ e => e))
  cases v <;> first | exact hv.elim | exact wpAny_pure ⟨_, rfl, hv⟩
theorem run_ne {b : Value} {Q : Value → Shared → Prop} (hu : A.units < cLine) (X : K.In s.heap) (I : InstAt s.heap x ox C od) (hs : findIn K (.ref C) "__eq__" = some (some (.ref f))) (hf : isFn K (.ref f) = true)
    (h : wpAny (model prog w) A (call (.ref f) [.ref x, b]) (fun v s' => ∃ r, v = .bool r ∧ Q (.bool (!r)) s') E s) :
    wpAny (model prog w) A (Builtin.«object.__ne__» ⟨[.ref x, b], []⟩) (fun fin s' => ∃ v, fin = .done (.ret v) ∧ Q v s') E s := by
  unfold Builtin.«object.__ne__»
  repeat (first
    | with_reducible refine wpAny_cRoomFor hu ?_
    | (refine wpAny_bind (m := callSpecialIfBound? (.ref x) (Str.ofString "__eq__") [b]) (ifBound_K X I hs hf (wpAny_mono h (fun v s' hv => by
        obtain ⟨r, rfl, q⟩ := hv
        repeat (first | exact ⟨_, rfl, q⟩ | exact wpAny_pure ⟨_, rfl, q⟩ | (refine wpAny_bind (m := truthy (.bool _)) (wpAny_truthy_bool ?_)) | wp_step)) fun _ _ e => e)))
    | wp_step)
theorem try_ne {b : Value} {Q : Value → Shared → Prop} (hu : A.units + 1 < cLine) (X : K.In s.heap) (I : InstAt s.heap x ox C od) (hs : findIn K (.ref C) "__eq__" = some (some (.ref f))) (hf : isFn K (.ref f) = true)
    (hn : findIn K (.ref C) "__ne__" = some (some (.builtin "object.__ne__"))) (ho : subIn K (.ref C) (.type "object") = some true)
    (h : wpAny (model prog w) A.in1 (call (.ref f) [.ref x, b]) (fun v s' => ∃ r, v = .bool r ∧ Q (.bool (!r)) s') E s) :
    wpAny (model prog w) A (tryCompare (.ref x) "__ne__" b) (fun r s' => ∃ v, r = some v ∧ Q v s' ∧ ∃ z, v = .bool z) E s := by
  have L1 : Looks (model prog w) s.heap (typeOf (.ref x)) (.ref C) := I.type
  have c : wpAny (model prog w) A (call (.builtin "object.__ne__") [.ref x, b]) (fun v s' => Q v s' ∧ ∃ z, v = .bool z) E s := by
    refine wpAny_call (codeAny_call_builtin F.cmp_object.ne.plain F.cmpEntry_ne (check_slot F.cmpKind_ne F.cmpSplit_ne (L1.andThen (looks_subIn X ho)) (F.cmpArgs_ne _ _) ?_))
    refine wpAny_mono (run_ne (A := A.in1) (Q := fun v s' => Q v s' ∧ ∃ z, v = .bool z) hu X I hs hf (wpAny_mono h (fun v s' hv => ?_) fun _ _ e => e)) (fun fin s' hv => ?_) fun _ _ z => z
    · obtain ⟨r, rfl, q⟩ := hv
      exact ⟨r, rfl, q, _, rfl⟩
    · obtain ⟨v, rfl, q⟩ := hv
      exact q
  unfold tryCompare
  refine wpAny_bind ?_
  simp only [callSpecialIfBound?, bindSpecialIfBound?]
  refine wpAny_holding (wpAny_bind (wpAny_bind (wpAny_bind (I.type.here ((looks_findIn X hn).here ?_)))))
  have fin : wpAny (model prog w) A (call (.builtin "object.__ne__") ([.ref x] ++ [b]) >>= fun v => pure (some v)) (fun r s' => ∃ v, r = some v ∧ Q v s' ∧ ∃ z, v = .bool z) E s :=
    wpAny_bind (wpAny_mono c (fun v s' h' => wpAny_pure ⟨v, rfl, h'⟩) fun _ _ h' => h')
  have hb := F.cmp_object.ne.bind (.ref x)
  refine wpAny_bind (wpAny_askSetting (wpAny_ite ?_))
  have fin2 := wpAny_mono (Q' := fun r s' => wpAny (model prog w) A (match r with | some .notImplemented => pure none | none => pure none | some v => pure (some v)) (fun r s' => ∃ v, r = some v ∧ Q v s' ∧ ∃ z, v = .bool z) E s') fin (fun r s' h' => by
    obtain ⟨v, rfl, q, z, rfl⟩ := h'
    exact wpAny_pure ⟨_, rfl, q, _, rfl⟩) fun _ _ e => e
  split
  · rw [hb]
    exact wpAny_bind (wpAny_pure (wpAny_pure fin2))
  · rw [hb]
    exact wpAny_tryCatch (wpAny_bind (wpAny_pure (wpAny_pure fin2)))
end
end OW
set_option Elab.async false
set_option linter.all false
set_option maxRecDepth 100000
set_option maxHeartbeats 4000000
namespace OW
open PySem PySem.Spec PySem.W PySem.Calls PyProof.Rows
section
variable {prog : Program} {w : World} {A : Around} {E : Value → Shared → Prop} {s : Shared} {K : Frag} {x C L f g : Addr} {h₀ : Heap} {m : Str → Option Value} {ox : Obj} {od : Option Obj} {T idl : String}
theorem ne_left {b tb : Value} {Q : Value → Shared → Prop} (hu : A.units + 1 < cLine) (X : K.In s.heap) (I : InstAt s.heap x ox C od) (hb : Looks (model prog w) s.heap (typeOf b) tb) (hnf : notFirst K C tb = true)
    (hs : findIn K (.ref C) "__eq__" = some (some (.ref f))) (hf : isFn K (.ref f) = true) (hn : findIn K (.ref C) "__ne__" = some (some (.builtin "object.__ne__"))) (ho : subIn K (.ref C) (.type "object") = some true)
    (h : wpAny (model prog w) A.in1 (call (.ref f) [.ref x, b]) (fun v s' => ∃ r, v = .bool r ∧ Q (.bool (!r)) s') E s) : wpAny (model prog w) A (richCompare .NotEq (.ref x) b) Q E s := by
  have one := try_ne hu X I hs hf hn ho h
  unfold richCompare
  simp only [oneThing_ref]
  refine wpAny_holding (wpAny_bind (wpAny_cRoomFor (Nat.lt_of_succ_lt hu) ?_))
  refine wpAny_bind (I.type.here (wpAny_bind (hb.here ?_)))
  split
  · rename_i q
    have e : subIn K tb (.ref C) = some false := by
      rcases Bool.or_eq_true_iff.mp hnf with e | e
      · rw [beq_iff_eq.mp e] at q; simp at q
      · exact beq_iff_eq.mp e
    refine wpAny_bind ((looks_subIn X e).here ?_)
    simp only [Bool.false_eq_true, if_false]
    refine wpAny_bind (wpAny_mono one (fun r s' z => ?_) fun _ _ e => e)
    obtain ⟨v, rfl, hq, _⟩ := z
    exact wpAny_pure hq
  · refine wpAny_bind (wpAny_pure ?_)
    simp only [Bool.false_eq_true, if_false]
    refine wpAny_bind (wpAny_mono one (fun r s' z => ?_) fun _ _ e => e)
    obtain ⟨v, rfl, hq, _⟩ := z
    exact wpAny_pure hq
theorem eq_right {b : Value} {Q : Value → Shared → Prop} (hu : A.units < cLine) (X : K.In s.heap) (I : InstAt s.heap x ox C od) (hT : s.TypeIs b T) (hsub : subIn K (.ref C) (.type T) = some false) (hl : Slot T "__eq__" idl)
    (hd : ∀ Q' : Value → Shared → Prop, Q' .notImplemented s → wpAny (model prog w) A (call (.builtin idl) [b, .ref x]) Q' E s)
    (hs : findIn K (.ref C) "__eq__" = some (some (.ref f))) (hf : isFn K (.ref f) = true)
    (h : wpAny (model prog w) A (call (.ref f) [.ref x, b]) (PySem.W.CmpBack Q) E s) : wpAny (model prog w) A (richCompare .Eq b (.ref x)) Q E s := by
  have one := try_eq X I hs hf h
  have hne : (Value.type T != Value.ref C) = true := by simp
  unfold richCompare
  simp only [hT.oneThing_none]
  refine wpAny_holding (wpAny_bind (wpAny_cRoomFor hu ?_))
  refine wpAny_bind (wpAny_typeOf hT (wpAny_bind (I.type.here ?_)))
  simp only [hne, if_true]
  refine wpAny_bind ((looks_subIn X hsub).here ?_)
  simp only [Bool.false_eq_true, if_false, Bool.not_false, if_true]
  refine wpAny_bind (m := tryCompare b _ (.ref x)) (wpAny_tryCompare_declines hT hl (hd _ ⟨rfl, ?_⟩))
  refine wpAny_bind (m := tryCompare (.ref x) _ b) (wpAny_mono one (fun r s' z => ?_) fun _ _ e => e)
  obtain ⟨v, rfl, hq⟩ := z
  exact wpAny_pure hq
theorem ne_right {b : Value} {Q : Value → Shared → Prop} (hu : A.units + 1 < cLine) (X : K.In s.heap) (I : InstAt s.heap x ox C od) (hT : s.TypeIs b T) (hsub : subIn K (.ref C) (.type T) = some false) (hl : Slot T "__ne__" idl)
    (hd : ∀ Q' : Value → Shared → Prop, Q' .notImplemented s → wpAny (model prog w) A (call (.builtin idl) [b, .ref x]) Q' E s)
    (hs : findIn K (.ref C) "__eq__" = some (some (.ref f))) (hf : isFn K (.ref f) = true) (hn : findIn K (.ref C) "__ne__" = some (some (.builtin "object.__ne__"))) (ho : subIn K (.ref C) (.type "object") = some true)
    (h : wpAny (model prog w) A.in1 (call (.ref f) [.ref x, b]) (fun v s' => ∃ r, v = .bool r ∧ Q (.bool (!r)) s') E s) : wpAny (model prog w) A (richCompare .NotEq b (.ref x)) Q E s := by
  have one := try_ne hu X I hs hf hn ho h
  have hne : (Value.type T != Value.ref C) = true := by simp
  unfold richCompare
  simp only [hT.oneThing_none]
  refine wpAny_holding (wpAny_bind (wpAny_cRoomFor (Nat.lt_of_succ_lt hu) ?_))
  refine wpAny_bind (wpAny_typeOf hT (wpAny_bind (I.type.here ?_)))
  simp only [hne, if_true]
  refine wpAny_bind ((looks_subIn X hsub).here ?_)
  simp only [Bool.false_eq_true, if_false, Bool.not_false, if_true]
  refine wpAny_bind (m := tryCompare b _ (.ref x)) (wpAny_tryCompare_declines hT hl (hd _ ⟨rfl, ?_⟩))
  refine wpAny_bind (m := tryCompare (.ref x) _ b) (wpAny_mono one (fun r s' z => ?_) fun _ _ e => e)
  obtain ⟨v, rfl, hq, _⟩ := z
  exact wpAny_pure hq
end
/-! ### the built-in types decline -/
section
variable {C l dx : Addr}
theorem int_eq_no (b : Int) (u : Tok) : Meets (Builtin.«int.__eq__» ⟨[.int b u, .ref l], []⟩) (fun _ R s => s.heap.get? l = some (instObj C dx) ∧ R (.ok (.ret .notImplemented)) s) :=
  .of_wp fun prog w A R s h => by obtain ⟨hp, g, d, tk, os⟩ := s; obtain ⟨hl, h⟩ := h; wp_walk using wpAny_loadPart' hl, wpAny_load hl; exact ⟨_, rfl, h⟩
theorem int_ne_no (b : Int) (u : Tok) : Meets (Builtin.«int.__ne__» ⟨[.int b u, .ref l], []⟩) (fun _ R s => s.heap.get? l = some (instObj C dx) ∧ R (.ok (.ret .notImplemented)) s) :=
  .of_wp fun prog w A R s h => by obtain ⟨hp, g, d, tk, os⟩ := s; obtain ⟨hl, h⟩ := h; wp_walk using wpAny_loadPart' hl, wpAny_load hl; exact ⟨_, rfl, h⟩
theorem int_add_no (b : Int) (u : Tok) : Meets (Builtin.«int.__add__» ⟨[.int b u, .ref l], []⟩) (fun _ R s => s.heap.get? l = some (instObj C dx) ∧ R (.ok (.ret .notImplemented)) s) :=
  .of_wp fun prog w A R s h => by obtain ⟨hp, g, d, tk, os⟩ := s; obtain ⟨hl, h⟩ := h; wp_walk using wpAny_loadPart' hl, wpAny_load hl; exact ⟨_, rfl, h⟩
theorem int_sub_no (b : Int) (u : Tok) : Meets (Builtin.«int.__sub__» ⟨[.int b u, .ref l], []⟩) (fun _ R s => s.heap.get? l = some (instObj C dx) ∧ R (.ok (.ret .notImplemented)) s) :=
  .of_wp fun prog w A R s h => by obtain ⟨hp, g, d, tk, os⟩ := s; obtain ⟨hl, h⟩ := h; wp_walk using wpAny_loadPart' hl, wpAny_load hl; exact ⟨_, rfl, h⟩
theorem int_mul_no (b : Int) (u : Tok) : Meets (Builtin.«int.__mul__» ⟨[.int b u, .ref l], []⟩) (fun _ R s => s.heap.get? l = some (instObj C dx) ∧ R (.ok (.ret .notImplemented)) s) :=
  .of_wp fun prog w A R s h => by obtain ⟨hp, g, d, tk, os⟩ := s; obtain ⟨hl, h⟩ := h; wp_walk using wpAny_loadPart' hl, wpAny_load hl; exact ⟨_, rfl, h⟩
theorem bool_eq_no (b : Bool) : Meets (Builtin.«int.__eq__» ⟨[.bool b, .ref l], []⟩) (fun _ R s => s.heap.get? l = some (instObj C dx) ∧ R (.ok (.ret .notImplemented)) s) :=
  .of_wp fun prog w A R s h => by obtain ⟨hp, g, d, tk, os⟩ := s; obtain ⟨hl, h⟩ := h; wp_walk using wpAny_loadPart' hl, wpAny_load hl; exact ⟨_, rfl, h⟩
theorem str_eq_no (b : Str) (u : Tok) : Meets (Builtin.«str.__eq__» ⟨[.str b u, .ref l], []⟩) (fun _ R s => s.heap.get? l = some (instObj C dx) ∧ R (.ok (.ret .notImplemented)) s) :=
  .of_wp fun prog w A R s h => by obtain ⟨hp, g, d, tk, os⟩ := s; obtain ⟨hl, h⟩ := h; wp_walk using wpAny_loadPart' hl, wpAny_load hl; exact ⟨_, rfl, h⟩
end
end OW
set_option Elab.async false
set_option linter.all false
set_option maxRecDepth 100000
set_option maxHeartbeats 4000000
namespace OW
open PySem PySem.Spec PySem.W PySem.Calls PyProof.Rows
open AutoSeq1 (wpAny_loadPart')
section
variable {C x l dx : Addr} {K : Frag} {od : Option Obj}
theorem list_eq_no (hs : subIn K (.ref C) (.type "list") = some false) (items : Array Value) (n : Nat) (dd : Option Addr) (sl : Array (Option Value)) : Meets (Builtin.«list.__eq__» ⟨[.ref l, .ref x], []⟩)
    (fun _ R s => s.heap.get? l = some { cls := .type "list", dict := dd, data := .seq items n, slots := sl } ∧ K.In s.heap ∧ s.heap.get? x = some (instObj C dx) ∧ R (.ok (.ret .notImplemented)) s) :=
  .of_wp fun prog w A R s h => by
    obtain ⟨hl, X, hx, h⟩ := h
    have L : Looks (model prog w) s.heap (isSubtype (.ref C) (.type "list")) false := looks_subIn X hs
    obtain ⟨hp, g, d, tk, os⟩ := s
    wp_walk using wpAny_loadPart' hl, wpAny_loadPart' hx, L.here
    exact ⟨_, rfl, h⟩
theorem tuple_eq_no (hs : subIn K (.ref C) (.type "tuple") = some false) (items : Array Value) (n : Nat) (dd : Option Addr) (sl : Array (Option Value)) : Meets (Builtin.«tuple.__eq__» ⟨[.ref l, .ref x], []⟩)
    (fun _ R s => s.heap.get? l = some { cls := .type "tuple", dict := dd, data := .seq items n, slots := sl } ∧ K.In s.heap ∧ s.heap.get? x = some (instObj C dx) ∧ R (.ok (.ret .notImplemented)) s) :=
  .of_wp fun prog w A R s h => by
    obtain ⟨hl, X, hx, h⟩ := h
    have L : Looks (model prog w) s.heap (isSubtype (.ref C) (.type "tuple")) false := looks_subIn X hs
    obtain ⟨hp, g, d, tk, os⟩ := s
    wp_walk using wpAny_loadPart' hl, wpAny_loadPart' hx, L.here
    exact ⟨_, rfl, h⟩
end
section
variable {prog : Program} {w : World} {A : Around} {E : Value → Shared → Prop} {s : Shared} {K : Frag} {x C a : Addr} {ox : Obj} {od : Option Obj}
theorem dict_eq_no {Q : Value → Shared → Prop} (hT : s.TypeIs (.ref a) "dict") (X : K.In s.heap) (I : InstAt s.heap x ox C od) (hs : subIn K (.ref C) (.type "dict") = some false) (h : Q .notImplemented s) :
    wpAny (model prog w) A (call (.builtin "dict.__eq__") [.ref a, .ref x]) Q E s := by
  have L1 : Looks (model prog w) s.heap (typeOf (.ref x)) (.ref C) := I.type
  have L : Looks (model prog w) s.heap (isInstance (.ref x) (.type "dict")) false := L1.andThen (looks_subIn X hs)
  refine wpAny_call_entry PySem.F.slot_dict_eq hT PySem.F.entry_dict_eq ?_ (PySem.F.args_dict_eq_2 _ _)
  show wpAny _ _ (Builtin.Dict.dictSlotArgs "__eq__" ⟨[.ref a, .ref x], []⟩ >>= _) _ _ s
  refine wpAny_bind ?_
  unfold Builtin.Dict.dictSlotArgs
  refine wpAny_bind (wpAny_notOrdered_dict hT ?_)
  show wpAny _ _ (pure (Value.ref a, Value.ref x)) _ _ s
  refine wpAny_pure ?_
  refine wpAny_bind (L.here ?_)
  wp_walk
  exact ⟨_, rfl, h⟩
end
end OW
set_option Elab.async false
set_option linter.all false
set_option maxRecDepth 100000
set_option maxHeartbeats 4000000
namespace L2
open PySem PySem.Spec PyProof.Rows PySem.Calls
theorem rRef (a : Addr) : RelV (.ref a) (.ref a) := rfl
theorem rInt (i : Int) (t : Tok) : RelV (.int i) (.int i t) := ⟨t, rfl⟩
/-- the class at C has this name as the def at f -/
structure Dun (K : PySem.W.Frag) (C : Addr) (nm : Str) (f : Addr) : Prop where
  at_ : PySem.W.findIn K (.ref C) nm = some (some (.ref f))
  fn : PySem.W.isFn K (.ref f) = true
section
variable {X : Cx} {CX : CXT} {k : Nat} {f C C' a : Addr} {fd : FuncData} {ps : List Str} {sp : Sp} {E : XK} {pins : List (Addr × Obj)} {σ : St} {H : Hp} {s : Shared} {Q : VK}
theorem run_sub {A : Around} {us : List Value} {vs : List V} (sb : Sub X k A) (F : FnOk X.prog X.w X.K X.mg X.base CX k f fd ps sp) (hb : Binds X.K fd ps []) (hx : Passes CX X E)
    (I : Inv X pins σ H s) (r : Vals vs us) (h : sp vs H Q E) : wpAny (model X.prog X.w) A (call (.ref f) us) (EP X pins σ Q) X.xe s := by
  have e0 : Env0 X.prog X.w X.K X.mg X.base A X.stack s H := by
    have e := I.env0
    exact ⟨by rw [sb.fr]; exact e.frames, e.mod, e.bs, e.bsz, e.funs, e.frf, e.hok, e.bare⟩
  have hl := F.len _ _ _ _ h
  refine wpAny_call (codeAny_mono (F.run A X.stack s H ⟨us, []⟩ us vs Q E sb.room e0 (by
    have := hb s us I.kIn (by rw [List.append_nil, ← r.length]; exact hl)
    rw [List.append_nil] at this
    exact this) r h) fun r s' hq => ?_)
  cases r with
  | error e => exact hx pins σ H s e s' I hq
  | ok fl =>
    cases fl with
    | ret w =>
      obtain ⟨z, H', I', rz, q⟩ := I.after hq
      exact ⟨z, H', I', rz, q⟩
    | next => exact False.elim hq
    | brk => exact False.elim hq
    | cont => exact False.elim hq
theorem back_rel {v : V} {u : Value} {s' : Shared} {R : Value → Shared → Prop} (r : RelV v u) (q : R u s') : PySem.W.CmpBack R u s' := by
  cases u
  case notImplemented =>
    cases v with
    | non => exact nomatch (show Value.notImplemented = Value.none from r)
    | bl b => exact nomatch (show Value.notImplemented = Value.bool b from r)
    | int i => obtain ⟨t, e⟩ := (show ∃ t, Value.notImplemented = Value.int i t from r); exact nomatch e
    | str x => obtain ⟨t, e⟩ := (show ∃ t, Value.notImplemented = Value.str x t from r); exact nomatch e
    | byt b => obtain ⟨t, e⟩ := (show ∃ t, Value.notImplemented = Value.bytes b t from r); exact nomatch e
    | flt b => obtain ⟨t, e⟩ := (show ∃ t, Value.notImplemented = Value.float b t from r); exact nomatch e
    | ref a => exact nomatch (show Value.notImplemented = Value.ref a from r)
    | ty n => exact nomatch (show Value.notImplemented = Value.type n from r)
  all_goals exact q
theorem ins_at {dx : Addr} {fs : List (Str × V)} (I : Inv X pins σ H s) (e : H a = some (.ins C dx fs)) : ∃ od, PySem.W.InstAt s.heap a (PySem.W.instObj C dx) C (some od) ∧ s.heap.get? a = some (PySem.W.instObj C dx) := by
  obtain ⟨mA, O, _⟩ := ins_get I.hok e
  obtain ⟨od, J, _⟩ := O.look
  exact ⟨od, J, O.obj⟩
/-- x op y, x an instance whose class has the method, y one of the same class -/
def rOw2 (C : Addr) (sp : Sp) (E : XK) : R2 := fun x y H Q => ∃ a b dx dy fs gs, x = .ref a ∧ y = .ref b ∧ H a = some (.ins C dx fs) ∧ H b = some (.ins C dy gs) ∧ sp [.ref a, .ref b] H Q E
theorem op_own2 {op : Operator} (D : Dun X.K C (PySem.dunder op.info.2) f) (hc : PySem.W.selfFirst X.K C = true) (F : FnOk X.prog X.w X.K X.mg X.base CX k f fd ps sp) (hr : Room k X.A) (hb : Binds X.K fd ps []) (hx : Passes CX X E) :
    OpR X (binaryOp op) (rOw2 C sp E) := by
  intro pins s σ H x y v u Q I rx ry ⟨a, b, dx, dy, fs, gs, ex, ey, ea, eb, h⟩
  subst ex ey
  cases (show v = .ref a from rx)
  cases (show u = .ref b from ry)
  obtain ⟨od, J, _⟩ := ins_at I ea
  obtain ⟨od', J', _⟩ := ins_at I eb
  obtain ⟨m, hF⟩ := I.fr
  exact PySem.W.binop_K hF I.ok.mod.kin J J'.type hc D.at_ D.fn (wpAny_mono (run_sub ⟨hr, rfl⟩ F hb hx I (.cons (rRef a) (.cons (rRef b) .nil)) h) (fun w' s' ⟨z, H', I', rz, q⟩ => back_rel rz ⟨z, H', I', rz, q⟩) fun _ _ e => e)
/-- x op y, y an integer -/
def rOwI (C : Addr) (sp : Sp) (E : XK) : R2 := fun x y H Q => ∃ a i dx fs, x = .ref a ∧ y = .int i ∧ H a = some (.ins C dx fs) ∧ sp [.ref a, .int i] H Q E
theorem op_ownI {op : Operator} {fo ro rc : Option Value} (D : Dun X.K C (PySem.dunder op.info.2) f) (hc : PySem.W.selfFirst X.K C = true) (hR : PySem.W.findIn X.K (.ref C) (dunderR op.info.2) = some rc) (hp : rc = none ∨ ∃ g : Addr, rc = some (.ref g))
    (h1 : PySem.W.findIn X.K (.type "int") (PySem.dunder op.info.2) = some fo) (h2 : PySem.W.findIn X.K (.type "int") (dunderR op.info.2) = some ro) (hs : PySem.W.subIn X.K (.type "int") (.ref C) = some false)
    (F : FnOk X.prog X.w X.K X.mg X.base CX k f fd ps sp) (hr : Room k X.A) (hb : Binds X.K fd ps []) (hx : Passes CX X E) : OpR X (binaryOp op) (rOwI C sp E) := by
  intro pins s σ H x y v u Q I rx ry ⟨a, i, dx, fs, ex, ey, ea, h⟩
  subst ex ey
  cases (show v = .ref a from rx)
  obtain ⟨t, rfl⟩ := (show ∃ t, u = Value.int i t from ry)
  obtain ⟨od, J, _⟩ := ins_at I ea
  obtain ⟨m, hF⟩ := I.fr
  exact PySem.W.ksp_binT hF I.ok.mod.kin J rfl hc D.at_ D.fn hR hp h1 h2 hs (wpAny_mono (run_sub ⟨hr, rfl⟩ F hb hx I (.cons (rRef a) (.cons (rInt i t) .nil)) h) (fun w' s' ⟨z, H', I', rz, q⟩ => back_rel rz ⟨z, H', I', rz, q⟩) fun _ _ e => e)
/-- i op x, i an integer: the reflected method -/
def rIOw (C : Addr) (sp : Sp) (E : XK) : R2 := fun x y H Q => ∃ a i dx fs, x = .int i ∧ y = .ref a ∧ H a = some (.ins C dx fs) ∧ sp [.ref a, .int i] H Q E
theorem op_Iown {op : Operator} {g : Addr} {idl : String} {B : Builtin} (D0 : Dun X.K C (PySem.dunder op.info.2) g) (D : Dun X.K C (dunderR op.info.2) f) (hc : PySem.W.selfFirst X.K C = true)
    (hfT : fillsNumberSlot (.type "int") op.info.2 = pure true) (hl : Slot "int" (PySem.dunder op.info.2) idl) (en : entryFor table idl = some B) (ar : ∀ x y, argsOk idl ⟨[x, y], []⟩)
    (no : ∀ (i : Int) (t : Tok) (l dx : Addr), Meets (B ⟨[.int i t, .ref l], []⟩) (fun _ R s => s.heap.get? l = some (PySem.W.instObj C dx) ∧ R (.ok (.ret .notImplemented)) s)) (hs : PySem.W.subIn X.K (.ref C) (.type "int") = some false)
    (F : FnOk X.prog X.w X.K X.mg X.base CX k f fd ps sp) (hr : Room k X.A) (hb : Binds X.K fd ps []) (hx : Passes CX X E) : OpR X (binaryOp op) (rIOw C sp E) := by
  intro pins s σ H x y v u Q I rx ry ⟨a, i, dx, fs, ex, ey, ea, h⟩
  subst ex ey
  cases (show u = .ref a from ry)
  obtain ⟨t, rfl⟩ := (show ∃ t, v = Value.int i t from rx)
  obtain ⟨od, J, O⟩ := ins_at I ea
  refine OW.binop_right I.kIn J rfl (typeIs_int s i t) hc D0.at_ D.at_ D.fn hfT hs hl (fun Q' q' => call_meets hl (typeIs_int s i t) en (ar _ _) (no i t a dx) ⟨O, q'⟩) ?_
  exact wpAny_mono (run_sub ⟨hr, rfl⟩ F hb hx I (.cons (rRef a) (.cons (rInt i t) .nil)) h) (fun w' s' ⟨z, H', I', rz, q⟩ => back_rel rz ⟨z, H', I', rz, q⟩) fun _ _ e => e
/-- -x -/
def rNeg (C : Addr) (sp : Sp) (E : XK) : V → Hp → VK → Prop := fun x H Q => ∃ a dx fs, x = .ref a ∧ H a = some (.ins C dx fs) ∧ sp [.ref a] H Q E
theorem un_own (D : Dun X.K C "__neg__" f) (F : FnOk X.prog X.w X.K X.mg X.base CX k f fd ps sp) (hr : Room k X.A) (hb : Binds X.K fd ps []) (hx : Passes CX X E) : UnR X (unaryOp .USub) (rNeg C sp E) := by
  intro pins s σ H x v Q I rx ⟨a, dx, fs, ex, ea, h⟩
  subst ex
  cases (show v = .ref a from rx)
  obtain ⟨od, J, _⟩ := ins_at I ea
  obtain ⟨m, hF⟩ := I.fr
  exact PySem.W.ksp_neg hF I.ok.mod.kin J D.at_ D.fn (run_sub ⟨hr, rfl⟩ F hb hx I (.cons (rRef a) .nil) h)
/-- abs(x) -/
def rAbs (C : Addr) (sp : Sp) (E : XK) : List V → Hp → VK → Prop := fun xs H Q => ∃ a dx fs, xs = [.ref a] ∧ H a = some (.ins C dx fs) ∧ sp [.ref a] H Q E
theorem call_absOwn (D : Dun X.K C "__abs__" f) (F : FnOk X.prog X.w X.K X.mg X.base CX k f fd ps sp) (hr : Room (k + 1) X.A) (hb : Binds X.K fd ps []) (hx : Passes CX X E) : CallR X (.builtin "abs") (rAbs C sp E) := by
  intro pins s σ H xs us Q I r ⟨a, dx, fs, ex, ea, h⟩
  subst ex
  obtain ⟨u, rfl, ru⟩ := vals1 r
  cases (show u = .ref a from ru)
  obtain ⟨od, J, _⟩ := ins_at I ea
  refine call_function_entry kind_abs plain_abs entry_abs (args_abs _) ?_
  unfold Builtin.«abs»
  refine wpAny_bind (m := oneArg "abs" _) (wpAny_pure ?_)
  refine wpAny_bind (m := callSpecial? (.ref a) (Str.ofString "__abs__")) (PySem.W.special_fn I.kIn J D.at_ (beq_iff_eq.mp D.fn) (wpAny_mono (run_sub ⟨hr.in1, rfl⟩ F hb hx I (.cons (rRef a) .nil) h) (fun w' s' z => ?_) fun _ _ e => e))
  exact wpAny_pure ⟨_, rfl, z⟩
/-- str(x) -/
def rStr (C : Addr) (sp : Sp) (E : XK) : List V → Hp → VK → Prop := fun xs H Q => ∃ a dx fs, xs = [.ref a] ∧ H a = some (.ins C dx fs) ∧ sp [.ref a] H (fun z H' => (∃ t, z = .str t) ∧ Q z H') E
theorem call_strOwn (D : Dun X.K C "__str__" f) (F : FnOk X.prog X.w X.K X.mg X.base CX k f fd ps sp) (hr : Room (k + 2) X.A) (hb : Binds X.K fd ps []) (hx : Passes CX X E) : CallR X (.type "str") (rStr C sp E) := by
  intro pins s σ H xs us Q I r ⟨a, dx, fs, ex, ea, h⟩
  subst ex
  obtain ⟨u, rfl, ru⟩ := vals1 r
  cases (show u = .ref a from ru)
  obtain ⟨od, J, _⟩ := ins_at I ea
  refine PySem.W.kso_call hr.in1.in1.units0 I.kIn J D.at_ D.fn (wpAny_mono (run_sub ⟨hr.in1.in1, rfl⟩ F hb hx I (.cons (rRef a) .nil) h) (fun w' s' ⟨z, H', I', rz, ⟨t, ez⟩, q⟩ => ?_) fun _ _ e => e)
  subst ez
  obtain ⟨tk, rfl⟩ := (show ∃ tk, w' = Value.str t tk from rz)
  exact ⟨_, H', I', rz, q⟩
end
end L2
set_option Elab.async false
set_option linter.all false
set_option maxRecDepth 100000
set_option maxHeartbeats 4000000
namespace L2
open PySem PySem.Spec PyProof.Rows PySem.Calls
section
variable {X : Cx} {CX : CXT} {k : Nat} {f C a : Addr} {fd : FuncData} {ps : List Str} {sp : Sp} {E : XK} {pins : List (Addr × Obj)} {σ : St} {H : Hp} {s : Shared} {Q : VK}
/-- x == y, x an instance whose class has __eq__ -/
def rEqL (K : PySem.W.Frag) (C : Addr) (sp : Sp) (E : XK) : R2 := fun x y H Q => ∃ a dx fs t, x = .ref a ∧ H a = some (.ins C dx fs) ∧ TyX K H y t ∧ PySem.W.notFirst K C t = true ∧ sp [.ref a, y] H Q E
theorem op_eqL (D : Dun X.K C "__eq__" f) (F : FnOk X.prog X.w X.K X.mg X.base CX k f fd ps sp) (hr : Room k X.A) (hb : Binds X.K fd ps []) (hx : Passes CX X E) : OpR X (compareOp .Eq) (rEqL X.K C sp E) := by
  intro pins s σ H x y v u Q I rx ry ⟨a, dx, fs, t, ex, ea, ty, hn, h⟩
  subst ex
  cases (show v = .ref a from rx)
  obtain ⟨od, J, _⟩ := ins_at I ea
  obtain ⟨m, hF⟩ := I.fr
  obtain ⟨P, Z, p, _⟩ := kit_of I ry ty
  exact PySem.W.cmp_K (op := .Eq) (tb := t) hr.units0 hF I.ok.mod.kin J (Z.ty _ _ I.kIn p) hn D.at_ D.fn (wpAny_mono (run_sub ⟨hr, rfl⟩ F hb hx I (.cons (rRef a) (.cons ry .nil)) h) (fun w' s' ⟨z, H', I', rz, q⟩ => back_rel rz ⟨z, H', I', rz, q⟩) fun _ _ e => e)
/-- x != y, by the class's __eq__ -/
def rNeL (K : PySem.W.Frag) (C : Addr) (sp : Sp) (E : XK) : R2 := fun x y H Q => ∃ a dx fs t, x = .ref a ∧ H a = some (.ins C dx fs) ∧ TyX K H y t ∧ PySem.W.notFirst K C t = true ∧ sp [.ref a, y] H (fun z H' => ∃ r, z = .bl r ∧ Q (.bl (!r)) H') E
structure NeOf (K : PySem.W.Frag) (C : Addr) : Prop where
  ne : PySem.W.findIn K (.ref C) "__ne__" = some (some (.builtin "object.__ne__"))
  ob : PySem.W.subIn K (.ref C) (.type "object") = some true
theorem op_neL (D : Dun X.K C "__eq__" f) (N : NeOf X.K C) (F : FnOk X.prog X.w X.K X.mg X.base CX k f fd ps sp) (hr : Room (k + 1) X.A) (hb : Binds X.K fd ps []) (hx : Passes CX X E) : OpR X (compareOp .NotEq) (rNeL X.K C sp E) := by
  intro pins s σ H x y v u Q I rx ry ⟨a, dx, fs, t, ex, ea, ty, hn, h⟩
  subst ex
  cases (show v = .ref a from rx)
  obtain ⟨od, J, _⟩ := ins_at I ea
  obtain ⟨P, Z, p, _⟩ := kit_of I ry ty
  refine OW.ne_left (by have := hr.un; omega) I.kIn J (Z.ty _ _ I.kIn p) hn D.at_ D.fn N.ne N.ob (wpAny_mono (run_sub ⟨hr.in1, rfl⟩ F hb hx I (.cons (rRef a) (.cons ry .nil)) h) (fun w' s' ⟨z, H', I', rz, r, ez, q⟩ => ?_) fun _ _ e => e)
  subst ez
  cases (show w' = .bool r from rz)
  exact ⟨r, rfl, .bl (!r), H', I', rfl, q⟩
/-- a value of a built-in type, which declines when it is compared with an instance -/
inductive Odd (K : PySem.W.Frag) (H : Hp) : V → String → Prop where
  | non : Odd K H .non "NoneType"
  | bl (b : Bool) : Odd K H (.bl b) "bool"
  | int (i : Int) : Odd K H (.int i) "int"
  | str (x : Str) : Odd K H (.str x) "str"
  | lst {a : Addr} {xs : List V} (e : H a = some (.lst xs)) : Odd K H (.ref a) "list"
  | tup {a : Addr} {xs : List V} (e : H a = some (.tup xs)) : Odd K H (.ref a) "tuple"
  | dK {a : Addr} {kvs : List (Key × V)} (e : H a = some (.dK kvs)) : Odd K H (.ref a) "dict"
theorem Odd.ty {K : PySem.W.Frag} {x : V} {T : String} (o : Odd K H x T) : TyX K H x (.type T) := by
  cases o with
  | non => exact .base .non
  | bl b => exact .base (.bl b)
  | int i => exact .base (.int i)
  | str y => exact .base (.str y)
  | lst e => exact .base (.lst e)
  | tup e => exact .base (.tup e)
  | dK e => exact .base (.dK e)
/-- y == x, y such a value -/
def rEqR (K : PySem.W.Frag) (C : Addr) (sp : Sp) (E : XK) : R2 := fun x y H Q => ∃ a dx fs T, y = .ref a ∧ H a = some (.ins C dx fs) ∧ Odd K H x T ∧ PySem.W.subIn K (.ref C) (.type T) = some false ∧ sp [.ref a, x] H Q E
theorem op_eqR (D : Dun X.K C "__eq__" f) (F : FnOk X.prog X.w X.K X.mg X.base CX k f fd ps sp) (hr : Room k X.A) (hb : Binds X.K fd ps []) (hx : Passes CX X E) : OpR X (compareOp .Eq) (rEqR X.K C sp E) := by
  intro pins s σ H x y v u Q I rx ry ⟨a, dx, fs, T, ey, ea, od', hs, h⟩
  subst ey
  cases (show u = .ref a from ry)
  obtain ⟨od, J, O⟩ := ins_at I ea
  have fin : wpAny (model X.prog X.w) X.A (call (.ref f) [.ref a, v]) (PySem.W.CmpBack (EP X pins σ Q)) X.xe s :=
    wpAny_mono (run_sub ⟨hr, rfl⟩ F hb hx I (.cons (rRef a) (.cons rx .nil)) h) (fun w' s' ⟨z, H', I', rz, q⟩ => back_rel rz ⟨z, H', I', rz, q⟩) fun _ _ e => e
  show wpAny (model X.prog X.w) X.A (richCompare .Eq v (.ref a)) (EP X pins σ Q) X.xe s
  cases od' with
  | non =>
    cases (show v = .none from rx)
    exact OW.eq_right hr.units0 I.kIn J rfl hs PySem.F.slot_NoneType_eq (fun Q' q' => call_gives PySem.F.slot_NoneType_eq rfl PySem.F.entry_NoneType_eq (PySem.F.args_NoneType_eq_2 _ _) (PySem.SeqAt.NoneType___eq___none_ref_0 a) q') D.at_ D.fn fin
  | bl b =>
    cases (show v = .bool b from rx)
    exact OW.eq_right hr.units0 I.kIn J rfl hs PySem.F.slot_bool_eq (fun Q' q' => call_meets PySem.F.slot_bool_eq rfl PySem.F.entry_int_eq (PySem.F.args_int_eq_2 _ _) (OW.bool_eq_no (C := C) (dx := dx) b) ⟨O, q'⟩) D.at_ D.fn fin
  | int i =>
    obtain ⟨t, rfl⟩ := (show ∃ t, v = Value.int i t from rx)
    exact OW.eq_right hr.units0 I.kIn J (typeIs_int s i t) hs PySem.F.slot_int_eq (fun Q' q' => call_meets PySem.F.slot_int_eq (typeIs_int s i t) PySem.F.entry_int_eq (PySem.F.args_int_eq_2 _ _) (OW.int_eq_no (C := C) (dx := dx) i t) ⟨O, q'⟩) D.at_ D.fn fin
  | str z =>
    obtain ⟨t, rfl⟩ := (show ∃ t, v = Value.str z t from rx)
    exact OW.eq_right hr.units0 I.kIn J (typeIs_str s z t) hs PySem.F.slot_str_eq (fun Q' q' => call_meets PySem.F.slot_str_eq (typeIs_str s z t) PySem.F.entry_str_eq (PySem.F.args_str_eq_2 _ _) (OW.str_eq_no (C := C) (dx := dx) z t) ⟨O, q'⟩) D.at_ D.fn fin
  | @lst l xs e =>
    cases (show v = .ref l from rx)
    obtain ⟨z, its, n, r, e1⟩ := I.hok l _ e
    exact OW.eq_right hr.units0 I.kIn J ⟨_, e1, rfl⟩ hs PySem.F.slot_list_eq (fun Q' q' => call_meets PySem.F.slot_list_eq ⟨_, e1, rfl⟩ PySem.F.entry_list_eq (PySem.F.args_list_eq_2 _ _) (OW.list_eq_no hs _ _ _ _) ⟨e1, I.kIn, O, q'⟩) D.at_ D.fn fin
  | @tup l xs e =>
    cases (show v = .ref l from rx)
    obtain ⟨_, its, _, o, h1, h2, n, h3⟩ := (show ObjOk X.prog X.w H s.heap l (.tup xs) from I.hok l _ e)
    obtain ⟨cls, dd, data, sl⟩ := o
    simp only at h2 h3
    subst h2 h3
    exact OW.eq_right hr.units0 I.kIn J ⟨_, h1, rfl⟩ hs PySem.F.slot_tuple_eq (fun Q' q' => call_meets PySem.F.slot_tuple_eq ⟨_, h1, rfl⟩ PySem.F.entry_tuple_eq (PySem.F.args_tuple_eq_2 _ _) (OW.tuple_eq_no hs _ _ _ _) ⟨h1, I.kIn, O, q'⟩) D.at_ D.fn fin
  | @dK l kvs e =>
    cases (show v = .ref l from rx)
    obtain ⟨_, _, vs, _, o, es, ep, h1, h2, _⟩ := (show ObjOk X.prog X.w H s.heap l (.dK kvs) from I.hok l _ e)
    have hT : s.TypeIs (.ref l) "dict" := ⟨_, h1, h2.1⟩
    exact OW.eq_right hr.units0 I.kIn J hT hs PySem.F.slot_dict_eq (fun Q' q' => OW.dict_eq_no hT I.kIn J hs q') D.at_ D.fn fin
/-- i != x, i an integer -/
def rNeR (C : Addr) (sp : Sp) (E : XK) : R2 := fun x y H Q => ∃ a dx fs i, y = .ref a ∧ H a = some (.ins C dx fs) ∧ x = .int i ∧ sp [.ref a, .int i] H (fun z H' => ∃ r, z = .bl r ∧ Q (.bl (!r)) H') E
theorem op_neR (D : Dun X.K C "__eq__" f) (N : NeOf X.K C) (hs : PySem.W.subIn X.K (.ref C) (.type "int") = some false) (F : FnOk X.prog X.w X.K X.mg X.base CX k f fd ps sp) (hr : Room (k + 1) X.A) (hb : Binds X.K fd ps []) (hx : Passes CX X E) :
    OpR X (compareOp .NotEq) (rNeR C sp E) := by
  intro pins s σ H x y v u Q I rx ry ⟨a, dx, fs, i, ey, ea, ex, h⟩
  subst ex ey
  cases (show u = .ref a from ry)
  obtain ⟨t, rfl⟩ := (show ∃ t, v = Value.int i t from rx)
  obtain ⟨od, J, O⟩ := ins_at I ea
  refine OW.ne_right (by have := hr.un; omega) I.kIn J (typeIs_int s i t) hs PySem.F.slot_int_ne (fun Q' q' => call_meets PySem.F.slot_int_ne (typeIs_int s i t) PySem.F.entry_int_ne (PySem.F.args_int_ne_2 _ _) (OW.int_ne_no (C := C) (dx := dx) i t) ⟨O, q'⟩) D.at_ D.fn N.ne N.ob
    (wpAny_mono (run_sub ⟨hr.in1, rfl⟩ F hb hx I (.cons (rRef a) (.cons (rInt i t) .nil)) h) (fun w' s' ⟨z, H', I', rz, r, ez, q⟩ => ?_) fun _ _ e => e)
  subst ez
  cases (show w' = .bool r from rz)
  exact ⟨r, rfl, .bl (!r), H', I', rfl, q⟩
theorem op_neLK {K : PySem.W.Frag} (hK : X.K = K) (D : Dun K C "__eq__" f) (N : NeOf K C) (F : FnOk X.prog X.w K X.mg X.base CX k f fd ps sp) (hr : Room (k + 1) X.A) (hb : Binds K fd ps []) (hx : Passes CX X E) : OpR X (compareOp .NotEq) (rNeL K C sp E) := by
  subst hK
  exact op_neL D N F hr hb hx
theorem op_eqLK {K : PySem.W.Frag} (hK : X.K = K) (D : Dun K C "__eq__" f) (F : FnOk X.prog X.w K X.mg X.base CX k f fd ps sp) (hr : Room k X.A) (hb : Binds K fd ps []) (hx : Passes CX X E) : OpR X (compareOp .Eq) (rEqL K C sp E) := by
  subst hK
  exact op_eqL D F hr hb hx
theorem op_eqRK {K : PySem.W.Frag} (hK : X.K = K) (D : Dun K C "__eq__" f) (F : FnOk X.prog X.w K X.mg X.base CX k f fd ps sp) (hr : Room k X.A) (hb : Binds K fd ps []) (hx : Passes CX X E) : OpR X (compareOp .Eq) (rEqR K C sp E) := by
  subst hK
  exact op_eqR D F hr hb hx
end
end L2
set_option Elab.async false
set_option linter.all false
set_option maxRecDepth 100000
set_option maxHeartbeats 4000000
/-! Fractions: what the class does -/
namespace FR
open PySem PySem.Spec PyProof.Rows L2
def top (i : Nat) : Stmt := PySem.Challenge.pw_surelyends_k02_sums_products_and_others.main.body.getD i (.Pass ⟨0, 0, 0, 0⟩)
abbrev sPlain : Stmt := top 7
abbrev sFrac : Stmt := top 12
abbrev sInit : Stmt := inClass sFrac 0
abbrev sTop : Stmt := inClass sFrac 1
abbrev sBot : Stmt := inClass sFrac 2
abbrev sAs : Stmt := top 14
/-! ### the mathematics of the least form -/
/-- what both are divided by -/
def dv (t b : Int) : Int := if b < 0 then -((Nat.gcd t.natAbs b.natAbs : Nat) : Int) else ((Nat.gcd t.natAbs b.natAbs : Nat) : Int)
def nT (t b : Int) : Int := t.fdiv (dv t b)
def nB (t b : Int) : Int := b.fdiv (dv t b)
theorem dv_ne {t b : Int} (h : b ≠ 0) : dv t b ≠ 0 := by
  have z : 0 < Nat.gcd t.natAbs b.natAbs := Nat.gcd_pos_of_pos_right _ (by omega)
  unfold dv
  split <;> omega
theorem dv_le {t b : Int} (h : b ≠ 0) : (dv t b).natAbs ≤ b.natAbs := by
  have z : Nat.gcd t.natAbs b.natAbs ≤ b.natAbs := Nat.gcd_le_right _ (by omega)
  unfold dv
  split <;> omega
/-! ### divisions by great numbers of both signs -/
def CDivX (_ j : Int) : Prop := j ≠ 0 ∧ j.natAbs.log2 < 9000
theorem op_fdivX {X : Cx} : OpR X (binaryOp .FloorDiv) (rI CDivX fun i j => .int (i.fdiv j)) := opI fun i j _ _ _ _ _ hc q => floordiv_int hc.1 q (.inl (PyProof.noPylong_of_log2 hc.2))
theorem dv8 {t b : Int} (h : b ≠ 0) (hb : b.natAbs < 2 ^ 8000) : (dv t b).natAbs < 2 ^ 8000 := Nat.lt_of_le_of_lt (dv_le h) hb
theorem div_ok {i j : Int} {n : Nat} (h : j ≠ 0) (hb : j.natAbs < 2 ^ n) (h0 : 0 < n) (h9 : n ≤ 9000) : CDivX i j := ⟨h, Nat.lt_of_lt_of_le (PySem.Flt.log2_lt_of h0 hb) h9⟩
/-! ### what is an integer -/
def spPlain (K : PySem.W.Frag) : Sp := fun vs H Q _ => ∃ (v : V) (t : Value) (b1 b2 : Bool), vs = [v] ∧ TyX K H v t ∧ PySem.W.kitOne K t (.type "int") = some b1 ∧ PySem.W.kitOne K t (.type "bool") = some b2 ∧ Q (.bl (b1 && !b2)) H
section
variable {P : Program} {w : World} {K : PySem.W.Frag} {mg : Str → Option Value} {base : Heap}
theorem scP : FnScope ["value"] ["value"] (defScope sPlain) := ⟨rfl, rfl, rfl, by decide +kernel, rfl, by decide +kernel, by decide +kernel⟩
theorem ok_plain {f : Addr} {fd : FuncData} (F : Fun K "is_plain_integer" "is_plain_integer" sPlain f fd) (m1 : mg "isinstance" = none) (m2 : mg "int" = none) (m3 : mg "bool" = none) : FnOk P w K mg base CX0 1 f fd ["value"] (spPlain K) := by
  refine F.ok scP (fun vs H Q E h => ?_) (fun cdv A outer s H vs Q E hr h => ?_)
  · obtain ⟨v, _, _, _, rfl, _⟩ := h
    rfl
  · obtain ⟨v, t, b1, b2, rfl, ht, h1, h2, k⟩ := h
    refine ⟨_, pss_one (ps_ret (pe_and (pe_callB call_isi (by rfl) m1 PyProof.Rows.boot_isinstance (pa_cons (pv 0) (pa_cons (pe_bltn (v := .ty "int") (by rfl) m2 (by decide +kernel) rfl) pa_nil)))
      (pe_one (pe_not (pe_callB call_isi (by rfl) m1 PyProof.Rows.boot_isinstance (pa_cons (pv 0) (pa_cons (pe_bltn (v := .ty "bool") (by rfl) m3 (by decide +kernel) rfl) pa_nil))))))), ?_⟩
    refine ⟨_, rfl, v, _, t, _, b1, rfl, .ty _, ht, h1, _, rfl, ?_⟩
    cases b1 with
    | false => exact k
    | true => exact ⟨_, rfl, v, _, t, _, b2, rfl, .ty _, ht, h2, _, rfl, k⟩
theorem kI1 : PySem.W.kitOne K (.type "int") (.type "int") = some true := kit_ty (by decide +kernel)
theorem kI2 : PySem.W.kitOne K (.type "int") (.type "bool") = some false := kit_ty (by decide +kernel)
/-! ### a Fraction -/
def fl (t b : Int) : List (Str × V) := putF "_bottom" (.int b) (putF "_top" (.int t) [])
theorem nTB : ¬ (("_top" : Str) = "_bottom") := by decide +kernel
theorem fl_top (t b : Int) : (fl t b).lookup ("_top" : Str) = some (.int t) := by
  unfold fl
  rw [lookup_putF, if_neg nTB, lookup_putF, if_pos rfl]
theorem fl_bot (t b : Int) : (fl t b).lookup ("_bottom" : Str) = some (.int b) := by
  unfold fl
  rw [lookup_putF, if_pos rfl]
theorem fl_no (t b : Int) {m : Str} (h1 : ¬ m = "_bottom") (h2 : ¬ m = "_top") : (fl t b).lookup m = none := by
  unfold fl
  rw [lookup_putF, if_neg h1, lookup_putF, if_neg h2]
  all_goals rfl
/-- a Fraction with this top and bottom stands at p -/
def FrAt (C : Addr) (H : Hp) (p : Addr) (t b : Int) : Prop := ∃ dx, H p = some (.ins C dx (fl t b))
structure TxtF (K : PySem.W.Frag) (mg : Str → Option Value) (C : Addr) : Prop where
  cl : Cls K C
  nT : NoAttr K C "_top"
  nB : NoAttr K C "_bottom"
  mC : mg "Fraction" = some (.ref C)
  gcd : mg "gcd" = some (.builtin "math.gcd")
def spInit (C : Addr) : Sp := fun vs H Q _ => ∃ (p dx : Addr) (t b : Int), vs = [.ref p, .int t, .int b] ∧ H p = some (.ins C dx []) ∧ b ≠ 0 ∧ (dv t b).natAbs < 2 ^ 8000 ∧
  ∀ H', FrAt C H' p (nT t b) (nB t b) → (∀ q o, q ≠ p → H q = some o → H' q = some o) → Q .non H'
theorem scI : FnScope ["self", "top", "bottom", "shared"] ["self", "top", "bottom"] (defScope sInit) := ⟨rfl, rfl, rfl, by decide +kernel, rfl, by decide +kernel, by decide +kernel⟩
theorem ok_init {f fP C : Addr} {fd fdP : FuncData} (F : FunD K "__init__" "Fraction.__init__" (defArgs sInit) (defBody sInit) (defScope sInit) [V.int 1] [] f fd) (T : TxtF K mg C) (GP : FnOk P w K mg base CX0 1 fP fdP ["value"] (spPlain K)) (mP : mg "is_plain_integer" = some (.ref fP)) (kP : PySem.W.keepIn K (.ref fP) = true)
    (bP : Binds K fdP ["value"] []) : FnOk P w K mg base CX0 2 f fd ["self", "top", "bottom"] (spInit C) := by
  refine F.ok scI (fun vs H Q E h => ?_) (fun cdv A outer s H vs Q E hr h => ?_)
  · obtain ⟨p, dx, t, b, rfl, _⟩ := h
    rfl
  · obtain ⟨p, dx, t, b, rfl, hp, hb, hz, k⟩ := h
    refine ⟨_, pss_cons (ps_if (PW.pt (pw_or (pt_not (pt_val (pe_call GP hr (by rfl) mP kP bP .nil pass0 (pa_cons (pv 1) pa_nil)))) (pw_or (pt_not (pt_val (pe_call GP hr (by rfl) mP kP bP .nil pass0 (pa_cons (pv 2) pa_nil))))
        (pw_or1 (pt_cmpR op_eq (pv 2) pe_int (nomark _)))))) pss_never pss_nil)
      (pss_cons (ps_set (i := 3) scI.nd rfl (Or.inl rfl) (pe_callBfun cr_gcd (by rfl) T.gcd (pa_cons (pv 1) (pa_cons (pv 2) pa_nil))))
      (pss_cons (ps_if (pt_cmpR op_lt (pv 2) pe_int (nomark _)) (pss_one (ps_set (i := 3) scI.nd rfl (Or.inl rfl) (pe_un un_neg (pv 3)))) pss_nil)
      (pss_cons (ps_fld (pv 0) (pe_op op_fdivX (pv 1) (pv 3)) rfl)
      (pss_one (ps_fld (pv 0) (pe_op op_fdivX (pv 2) (pv 3)) rfl))))), ?_⟩
    refine ⟨_, rfl, _, _, true, false, rfl, .base (.int t), kI1, kI2, _, rfl, iteF ?_⟩
    refine ⟨_, rfl, _, _, true, false, rfl, .base (.int b), kI1, kI2, _, rfl, iteF ?_⟩
    refine ⟨_, rfl, rfl, _, rfl, ite2 (fun z => (hb (V.int.inj (of_decide_eq_true z))).elim) (fun _ => ?_)⟩
    refine ⟨_, rfl, _, rfl, t, b, rfl, ?_⟩
    refine ⟨_, rfl, _, _, rfl, rfl, _, rfl, ite2 (fun hn => ?_) (fun hn => ?_)⟩
    · have hn := of_decide_eq_true hn
      have ed : dv t b = -((Nat.gcd t.natAbs b.natAbs : Nat) : Int) := if_pos hn
      have dz : ∀ i : Int, CDivX i (-((Nat.gcd t.natAbs b.natAbs : Nat) : Int)) := fun i => by
        rw [← ed]
        exact div_ok (dv_ne hb) hz (by decide) (by decide)
      refine ⟨_, rfl, _, rfl, ?_⟩
      refine ⟨_, rfl, _, rfl, _, _, rfl, rfl, dz _, _, rfl, p, C, dx, _, rfl, hp, T.cl, T.nT, (by show 0 < 1000; decide), ?_⟩
      refine ⟨_, rfl, _, rfl, _, _, rfl, rfl, dz _, _, rfl, p, C, dx, _, rfl, upd_same, T.cl, T.nB, (by show 1 < 1000; decide), ?_⟩
      refine k _ ⟨dx, ?_⟩ fun q o hq e => by rw [upd_ne hq, upd_ne hq]; exact e
      unfold nT nB
      rw [ed]
      exact upd_same
    · have hn : ¬ b < 0 := fun z => hn (decide_eq_true z)
      have ed : dv t b = ((Nat.gcd t.natAbs b.natAbs : Nat) : Int) := if_neg hn
      have dz : ∀ i : Int, CDivX i ((Nat.gcd t.natAbs b.natAbs : Nat) : Int) := fun i => by
        rw [← ed]
        exact div_ok (dv_ne hb) hz (by decide) (by decide)
      refine ⟨_, rfl, _, rfl, _, _, rfl, rfl, dz _, _, rfl, p, C, dx, _, rfl, hp, T.cl, T.nT, (by show 0 < 1000; decide), ?_⟩
      refine ⟨_, rfl, _, rfl, _, _, rfl, rfl, dz _, _, rfl, p, C, dx, _, rfl, upd_same, T.cl, T.nB, (by show 1 < 1000; decide), ?_⟩
      refine k _ ⟨dx, ?_⟩ fun q o hq e => by rw [upd_ne hq, upd_ne hq]; exact e
      unfold nT nB
      rw [ed]
      exact upd_same
end
end FR
set_option Elab.async false
set_option linter.all false
set_option maxRecDepth 100000
set_option maxHeartbeats 4000000
namespace FR
open PySem PySem.Spec PyProof.Rows L2
section
variable {P : Program} {w : World} {K : PySem.W.Frag} {mg : Str → Option Value} {base : Heap}
/-- how Fraction(t) binds, and Fraction(t, b) -/
theorem init_binds {f : Addr} {fd : FuncData} (F : FunD K "__init__" "Fraction.__init__" (defArgs sInit) (defBody sInit) (defScope sInit) [V.int 1] [] f fd) :
    (∃ ds, Vals [V.int 1] ds ∧ Binds K fd ["self", "top", "bottom"] ds) ∧ Binds K fd ["self", "top", "bottom"] [] := by
  have b1 := F.binds1 (ps := ["self", "top", "bottom"]) 2 0 (by simp) rfl fun T kV doc pm an cdv ct us its hu hi => match us, its, hu, hi with | [_, _], [_], _, _ => ⟨_, rfl, rfl⟩
  have b2 := F.binds1 (ps := ["self", "top", "bottom"]) 3 1 (by simp) rfl fun T kV doc pm an cdv ct us its hu hi => match us, its, hu, hi with | [_, _, _], [_], _, _ => ⟨_, rfl, rfl⟩
  obtain ⟨ds, v, b⟩ := b2
  cases v
  exact ⟨b1, b⟩
/-! ### what the other defs lean on -/
theorem dv_one (t : Int) : dv t 1 = 1 := by
  unfold dv
  rw [if_neg (by decide)]
  have z : Nat.gcd t.natAbs (1 : Int).natAbs = 1 := Nat.gcd_one_right _
  rw [z]
  rfl
theorem nT_one (t : Int) : nT t 1 = t := by
  unfold nT
  rw [dv_one, Int.fdiv_one]
theorem nB_one (t : Int) : nB t 1 = 1 := by
  unfold nB
  rw [dv_one, Int.fdiv_one]
/-- a Fraction, or an integer, and what it stands for -/
def FV (C : Addr) (H : Hp) (v : V) (t b : Int) : Prop := (∃ p, v = .ref p ∧ FrAt C H p t b) ∨ (v = .int t ∧ b = 1)
theorem FrAt.same {C : Addr} {H H' : Hp} {p : Addr} {t b : Int} (h : FrAt C H p t b) (s : Same H H') : FrAt C H' p t b := by
  obtain ⟨dx, e⟩ := h
  exact ⟨dx, s _ _ e⟩
theorem FV.same {C : Addr} {H H' : Hp} {v : V} {t b : Int} (h : FV C H v t b) (s : Same H H') : FV C H' v t b := by
  rcases h with ⟨p, e, z⟩ | z
  · exact .inl ⟨p, e, z.same s⟩
  · exact .inr z
structure FrK (P : Program) (w : World) (K : PySem.W.Frag) (mg : Str → Option Value) (base : Heap) (C fI pT gT pB gB : Addr) (fdI fdT fdB : FuncData) : Prop where
  T : TxtF K mg C
  M : Mk K C fI
  GI : FnOk P w K mg base CX0 2 fI fdI ["self", "top", "bottom"] (spInit C)
  b1 : ∃ ds, Vals [V.int 1] ds ∧ Binds K fdI ["self", "top", "bottom"] ds
  b2 : Binds K fdI ["self", "top", "bottom"] []
  oT : PropOf K C "top" pT gT
  GT : FnOk P w K mg base CX0 1 gT fdT ["self"] (getSp C "_top")
  bT : Binds K fdT ["self"] []
  oB : PropOf K C "bottom" pB gB
  GB : FnOk P w K mg base CX0 1 gB fdB ["self"] (getSp C "_bottom")
  bB : Binds K fdB ["self"] []
  is : mg "isinstance" = none
  ha : PySem.W.findIn K (.ref C) "__class__" = some (some (.builtin "object.__class__"))
  hn : PySem.W.specialIn K (.builtin "object.__class__") "__get__" = some (some (.builtin "getset_descriptor.__get__"))
  tk : PySem.W.takesIn K (.builtin "object.__class__") = some true
  hm : PySem.W.mroIn K C (.type "object") = some true
  iC : PySem.W.kitOne K (.type "int") (.ref C) = some false
theorem kit_self (K : PySem.W.Frag) (C : Addr) : PySem.W.kitOne K (.ref C) (.ref C) = some true := if_pos (by simp)
def spAs (C : Addr) : Sp := fun vs H Q _ => ∃ (v : V) (t b : Int), vs = [v] ∧ FV C H v t b ∧ ∀ p H', FrAt C H' p t b → Same H H' → Q (.ref p) H'
theorem scA : FnScope ["value"] ["value"] (defScope sAs) := ⟨rfl, rfl, rfl, by decide +kernel, rfl, by decide +kernel, by decide +kernel⟩
theorem same_make {H H' : Hp} {x dx : Addr} (nx : H x = none) (nd : H dx = none) (s : ∀ q o, q ≠ x → upd (upd H dx (.own x)) x (.ins C dx []) q = some o → H' q = some o) : Same H H' := fun q o e => by
  have h1 : q ≠ x := ne_of_none e nx
  refine s q o h1 ?_
  rw [upd_ne h1, upd_ne (ne_of_none e nd)]
  exact e
variable {C fI pT gT pB gB : Addr} {fdI fdT fdB : FuncData}
theorem ok_as {f : Addr} {fd : FuncData} (F : Fun K "as_fraction" "as_fraction" sAs f fd) (k : FrK P w K mg base C fI pT gT pB gB fdI fdT fdB) : FnOk P w K mg base CX0 4 f fd ["value"] (spAs C) := by
  obtain ⟨ds, vds, bds⟩ := k.b1
  refine F.ok scA (fun vs H Q E h => ?_) (fun cdv A outer s H vs Q E hr h => ?_)
  · obtain ⟨v, t, b, rfl, _⟩ := h
    rfl
  · obtain ⟨v, t, b, rfl, hv, q⟩ := h
    refine ⟨_, pss_one (ps_ret (pe_ifExp (pt_val (pe_callB call_isi (by rfl) k.is PyProof.Rows.boot_isinstance (pa_cons (pv 0) (pa_cons (pe_glob (v := .ref C) (by rfl) k.T.mC rfl) pa_nil)))) (pv 0)
      (pe_make k.M k.GI hr (by rfl) k.T.mC bds vds pass0 (pa_cons (pv 0) pa_nil)))), ?_⟩
    rcases hv with ⟨p, rfl, dx, hp⟩ | ⟨rfl, rfl⟩
    · refine ⟨_, rfl, _, _, _, _, true, rfl, .own _, .base (.ins hp k.T.cl k.ha k.hn k.tk k.hm), kit_self K C, _, rfl, ?_⟩
      exact ⟨_, rfl, q p H ⟨dx, hp⟩ (Same.refl H)⟩
    · refine ⟨_, rfl, _, _, _, _, false, rfl, .own _, .base (.int t), k.iC, _, rfl, ?_⟩
      refine ⟨_, rfl, fun x dx nx nd ne => ?_⟩
      refine ⟨x, dx, t, 1, rfl, upd_same, by decide, dv8 (by decide) (by decide), fun H' hf hs => ⟨rfl, ?_⟩⟩
      rw [nT_one, nB_one] at hf
      exact q x H' hf (same_make (C := C) nx nd hs)
/-- a bound for what stands in a Fraction -/
def Sz (t b : Int) : Prop := t.natAbs < 2 ^ 3000 ∧ b.natAbs < 2 ^ 3000 ∧ b ≠ 0
theorem Sz.mul {t b t' b' : Int} (h : Sz t b) (h' : Sz t' b') : CMulW t t' ∧ CMulW t b' ∧ CMulW t' b ∧ CMulW b b' ∧ (b * b').natAbs < 2 ^ 8000 ∧ b * b' ≠ 0 := by
  obtain ⟨h1, h2, h3⟩ := h
  obtain ⟨g1, g2, g3⟩ := h'
  refine ⟨wide_mul h1 g1 (by decide) (by decide) (by decide), wide_mul h1 g2 (by decide) (by decide) (by decide), wide_mul g1 h2 (by decide) (by decide) (by decide), wide_mul h2 g2 (by decide) (by decide) (by decide), ?_, Int.mul_ne_zero h3 g3⟩
  exact Nat.lt_of_lt_of_le (wide_lt h2 g2) (Nat.pow_le_pow_right (by decide) (by decide))
def spOp (C : Addr) (f : Int → Int → Int → Int → Int) : Sp := fun vs H Q _ => ∃ (p : Addr) (v : V) (t b t' b' : Int), vs = [.ref p, v] ∧ FrAt C H p t b ∧ FV C H v t' b' ∧ Sz t b ∧ Sz t' b' ∧
  ∀ q H', FrAt C H' q (nT (f t b t' b') (b * b')) (nB (f t b t' b') (b * b')) → Same H H' → H q = none → Q (.ref q) H'
def fAdd (t b t' b' : Int) : Int := t * b' + t' * b
def fSub (t b t' b' : Int) : Int := t * b' - t' * b
def fMul (t _ t' _ : Int) : Int := t * t'
abbrev sAdd : Stmt := inClass sFrac 3
theorem scAdd : FnScope ["self", "other", "more"] ["self", "other"] (defScope sAdd) := ⟨rfl, rfl, rfl, by decide +kernel, rfl, by decide +kernel, by decide +kernel⟩
theorem ok_add {f fA : Addr} {fd fdA : FuncData} (F : Fun K "__add__" "Fraction.__add__" sAdd f fd) (k : FrK P w K mg base C fI pT gT pB gB fdI fdT fdB) (GA : FnOk P w K mg base CX0 4 fA fdA ["value"] (spAs C)) (mA : mg "as_fraction" = some (.ref fA))
    (kA : PySem.W.keepIn K (.ref fA) = true) (bA : Binds K fdA ["value"] []) : FnOk P w K mg base CX0 5 f fd ["self", "other"] (spOp C fAdd) := by
  refine F.ok scAdd (fun vs H Q E h => ?_) (fun cdv A outer s H vs Q E hr h => ?_)
  · obtain ⟨p, v, t, b, t', b', rfl, _⟩ := h
    rfl
  · obtain ⟨p, v, t, b, t', b', rfl, ⟨dp, hp⟩, hv, z1, z2, q⟩ := h
    obtain ⟨m1, m2, m3, m4, m5, m6⟩ := z1.mul z2
    refine ⟨_, pss_cons (ps_set (i := 2) scAdd.nd rfl (Or.inl rfl) (pe_call GA hr (by rfl) mA kA bA .nil pass0 (pa_cons (pv 1) pa_nil)))
      (pss_one (ps_ret (pe_make k.M k.GI (hr.mono (by decide)) (by rfl) k.T.mC k.b2 .nil pass0 (pa_cons (pe_op op_add (pe_op op_mulW (pe_prop (pv 0) k.T.cl k.oT k.GT (hr.mono (by decide)) k.bT .nil pass0 rfl) (pe_prop (pv 2) k.T.cl k.oB k.GB (hr.mono (by decide)) k.bB .nil pass0 rfl)) (pe_op op_mulW (pe_prop (pv 2) k.T.cl k.oT k.GT (hr.mono (by decide)) k.bT .nil pass0 rfl) (pe_prop (pv 0) k.T.cl k.oB k.GB (hr.mono (by decide)) k.bB .nil pass0 rfl))) (pa_cons (pe_op op_mulW (pe_prop (pv 0) k.T.cl k.oB k.GB (hr.mono (by decide)) k.bB .nil pass0 rfl) (pe_prop (pv 2) k.T.cl k.oB k.GB (hr.mono (by decide)) k.bB .nil pass0 rfl)) pa_nil))))), ?_⟩
    refine ⟨_, rfl, v, t', b', rfl, hv, fun m H1 ⟨dm, hm⟩ sm => ?_⟩
    have hp := sm _ _ hp
    refine ⟨_, rfl, p, dp, _, rfl, hp, p, dp, _, _, rfl, hp, fl_top _ _, _, rfl, m, dm, _, rfl, hm, m, dm, _, _, rfl, hm, fl_bot _ _, _, _, rfl, rfl, m2, _, rfl, m, dm, _, rfl, hm, m, dm, _, _, rfl, hm, fl_top _ _, _, rfl, p, dp, _, rfl, hp, p, dp, _, _, rfl, hp, fl_bot _ _, _, _, rfl, rfl, m3, _, _, rfl, rfl, _, rfl, p, dp, _, rfl, hp, p, dp, _, _, rfl, hp, fl_bot _ _, _, rfl, m, dm, _, rfl, hm, m, dm, _, _, rfl, hm, fl_bot _ _, _, _, rfl, rfl, m4, fun x dx nx nd ne => ?_⟩
    refine ⟨x, dx, _, _, rfl, upd_same, m6, dv8 m6 m5, fun H' hf hs => ⟨rfl, ?_⟩⟩
    exact q x H' hf (sm.trans (same_make (C := C) nx nd hs)) (Same.free sm nx)
abbrev sSub : Stmt := inClass sFrac 5
theorem scSub : FnScope ["self", "other", "less"] ["self", "other"] (defScope sSub) := ⟨rfl, rfl, rfl, by decide +kernel, rfl, by decide +kernel, by decide +kernel⟩
theorem ok_sub {f fA : Addr} {fd fdA : FuncData} (F : Fun K "__sub__" "Fraction.__sub__" sSub f fd) (k : FrK P w K mg base C fI pT gT pB gB fdI fdT fdB) (GA : FnOk P w K mg base CX0 4 fA fdA ["value"] (spAs C)) (mA : mg "as_fraction" = some (.ref fA))
    (kA : PySem.W.keepIn K (.ref fA) = true) (bA : Binds K fdA ["value"] []) : FnOk P w K mg base CX0 5 f fd ["self", "other"] (spOp C fSub) := by
  refine F.ok scSub (fun vs H Q E h => ?_) (fun cdv A outer s H vs Q E hr h => ?_)
  · obtain ⟨p, v, t, b, t', b', rfl, _⟩ := h
    rfl
  · obtain ⟨p, v, t, b, t', b', rfl, ⟨dp, hp⟩, hv, z1, z2, q⟩ := h
    obtain ⟨m1, m2, m3, m4, m5, m6⟩ := z1.mul z2
    refine ⟨_, pss_cons (ps_set (i := 2) scSub.nd rfl (Or.inl rfl) (pe_call GA hr (by rfl) mA kA bA .nil pass0 (pa_cons (pv 1) pa_nil)))
      (pss_one (ps_ret (pe_make k.M k.GI (hr.mono (by decide)) (by rfl) k.T.mC k.b2 .nil pass0 (pa_cons (pe_op op_sub (pe_op op_mulW (pe_prop (pv 0) k.T.cl k.oT k.GT (hr.mono (by decide)) k.bT .nil pass0 rfl) (pe_prop (pv 2) k.T.cl k.oB k.GB (hr.mono (by decide)) k.bB .nil pass0 rfl)) (pe_op op_mulW (pe_prop (pv 2) k.T.cl k.oT k.GT (hr.mono (by decide)) k.bT .nil pass0 rfl) (pe_prop (pv 0) k.T.cl k.oB k.GB (hr.mono (by decide)) k.bB .nil pass0 rfl))) (pa_cons (pe_op op_mulW (pe_prop (pv 0) k.T.cl k.oB k.GB (hr.mono (by decide)) k.bB .nil pass0 rfl) (pe_prop (pv 2) k.T.cl k.oB k.GB (hr.mono (by decide)) k.bB .nil pass0 rfl)) pa_nil))))), ?_⟩
    refine ⟨_, rfl, v, t', b', rfl, hv, fun m H1 ⟨dm, hm⟩ sm => ?_⟩
    have hp := sm _ _ hp
    refine ⟨_, rfl, p, dp, _, rfl, hp, p, dp, _, _, rfl, hp, fl_top _ _, _, rfl, m, dm, _, rfl, hm, m, dm, _, _, rfl, hm, fl_bot _ _, _, _, rfl, rfl, m2, _, rfl, m, dm, _, rfl, hm, m, dm, _, _, rfl, hm, fl_top _ _, _, rfl, p, dp, _, rfl, hp, p, dp, _, _, rfl, hp, fl_bot _ _, _, _, rfl, rfl, m3, _, _, rfl, rfl, _, rfl, p, dp, _, rfl, hp, p, dp, _, _, rfl, hp, fl_bot _ _, _, rfl, m, dm, _, rfl, hm, m, dm, _, _, rfl, hm, fl_bot _ _, _, _, rfl, rfl, m4, fun x dx nx nd ne => ?_⟩
    refine ⟨x, dx, _, _, rfl, upd_same, m6, dv8 m6 m5, fun H' hf hs => ⟨rfl, ?_⟩⟩
    exact q x H' hf (sm.trans (same_make (C := C) nx nd hs)) (Same.free sm nx)
abbrev sMul : Stmt := inClass sFrac 7
theorem scMul : FnScope ["self", "other", "factor"] ["self", "other"] (defScope sMul) := ⟨rfl, rfl, rfl, by decide +kernel, rfl, by decide +kernel, by decide +kernel⟩
theorem ok_mul {f fA : Addr} {fd fdA : FuncData} (F : Fun K "__mul__" "Fraction.__mul__" sMul f fd) (k : FrK P w K mg base C fI pT gT pB gB fdI fdT fdB) (GA : FnOk P w K mg base CX0 4 fA fdA ["value"] (spAs C)) (mA : mg "as_fraction" = some (.ref fA))
    (kA : PySem.W.keepIn K (.ref fA) = true) (bA : Binds K fdA ["value"] []) : FnOk P w K mg base CX0 5 f fd ["self", "other"] (spOp C fMul) := by
  refine F.ok scMul (fun vs H Q E h => ?_) (fun cdv A outer s H vs Q E hr h => ?_)
  · obtain ⟨p, v, t, b, t', b', rfl, _⟩ := h
    rfl
  · obtain ⟨p, v, t, b, t', b', rfl, ⟨dp, hp⟩, hv, z1, z2, q⟩ := h
    obtain ⟨m1, m2, m3, m4, m5, m6⟩ := z1.mul z2
    refine ⟨_, pss_cons (ps_set (i := 2) scMul.nd rfl (Or.inl rfl) (pe_call GA hr (by rfl) mA kA bA .nil pass0 (pa_cons (pv 1) pa_nil)))
      (pss_one (ps_ret (pe_make k.M k.GI (hr.mono (by decide)) (by rfl) k.T.mC k.b2 .nil pass0 (pa_cons (pe_op op_mulW (pe_prop (pv 0) k.T.cl k.oT k.GT (hr.mono (by decide)) k.bT .nil pass0 rfl) (pe_prop (pv 2) k.T.cl k.oT k.GT (hr.mono (by decide)) k.bT .nil pass0 rfl)) (pa_cons (pe_op op_mulW (pe_prop (pv 0) k.T.cl k.oB k.GB (hr.mono (by decide)) k.bB .nil pass0 rfl) (pe_prop (pv 2) k.T.cl k.oB k.GB (hr.mono (by decide)) k.bB .nil pass0 rfl)) pa_nil))))), ?_⟩
    refine ⟨_, rfl, v, t', b', rfl, hv, fun m H1 ⟨dm, hm⟩ sm => ?_⟩
    have hp := sm _ _ hp
    refine ⟨_, rfl, p, dp, _, rfl, hp, p, dp, _, _, rfl, hp, fl_top _ _, _, rfl, m, dm, _, rfl, hm, m, dm, _, _, rfl, hm, fl_top _ _, _, _, rfl, rfl, m1, _, rfl, p, dp, _, rfl, hp, p, dp, _, _, rfl, hp, fl_bot _ _, _, rfl, m, dm, _, rfl, hm, m, dm, _, _, rfl, hm, fl_bot _ _, _, _, rfl, rfl, m4, fun x dx nx nd ne => ?_⟩
    refine ⟨x, dx, _, _, rfl, upd_same, m6, dv8 m6 m5, fun H' hf hs => ⟨rfl, ?_⟩⟩
    exact q x H' hf (sm.trans (same_make (C := C) nx nd hs)) (Same.free sm nx)
end
end FR
set_option Elab.async false
set_option linter.all false
set_option maxRecDepth 100000
set_option maxHeartbeats 4000000
namespace FR
open PySem PySem.Spec PyProof.Rows L2
section
variable {P : Program} {w : World} {K : PySem.W.Frag} {mg : Str → Option Value} {base : Heap} {C fI pT gT pB gB : Addr} {fdI fdT fdB : FuncData}
/-- what the text says of a built-in type beside the class -/
structure OddC (K : PySem.W.Frag) (C : Addr) (T : String) : Prop where
  k : PySem.W.kitOne K (.type T) (.ref C) = some false
  s : PySem.W.subIn K (.ref C) (.type T) = some false
  n : PySem.W.notFirst K C (.type T) = true
structure OddsC (K : PySem.W.Frag) (C : Addr) : Prop where
  non : OddC K C "NoneType"
  bl : OddC K C "bool"
  int : OddC K C "int"
  str : OddC K C "str"
  lst : OddC K C "list"
  tup : OddC K C "tuple"
  dK : OddC K C "dict"
theorem OddsC.of {H : Hp} (o : OddsC K C) {x : V} {T : String} (h : Odd K H x T) : OddC K C T := by
  cases h with
  | non => exact o.non
  | bl b => exact o.bl
  | int i => exact o.int
  | str y => exact o.str
  | lst e => exact o.lst
  | tup e => exact o.tup
  | dK e => exact o.dK
/-- a fraction, or a value of a built-in type; and whether a fraction t / b is equal to it -/
def Oth (K : PySem.W.Frag) (C : Addr) (H : Hp) (v : V) (t b : Int) (r : Bool) : Prop :=
  (∃ q t' b', v = .ref q ∧ FrAt C H q t' b' ∧ r = decide (t = t' ∧ b = b')) ∨ (∃ i, v = .int i ∧ r = decide (b = 1 ∧ t = i)) ∨ (∃ T, Odd K H v T ∧ T ≠ "int" ∧ r = false)
def spEq (K : PySem.W.Frag) (C : Addr) : Sp := fun vs H Q _ => ∃ (p : Addr) (v : V) (t b : Int) (r : Bool), vs = [.ref p, v] ∧ FrAt C H p t b ∧ Oth K C H v t b r ∧ Q (.bl r) H
abbrev sEq : Stmt := inClass sFrac 11
theorem scEq : FnScope ["self", "other"] ["self", "other"] (defScope sEq) := ⟨rfl, rfl, rfl, by decide +kernel, rfl, by decide +kernel, by decide +kernel⟩
theorem odd_plain {H : Hp} {v : V} {T : String} (o : Odd K H v T) (hT : T ≠ "int") : ∃ b1 b2, PySem.W.kitOne K (.type T) (.type "int") = some b1 ∧ PySem.W.kitOne K (.type T) (.type "bool") = some b2 ∧ (b1 && !b2) = false := by
  cases o with
  | non => exact ⟨false, false, kit_ty (by decide +kernel), kit_ty (by decide +kernel), rfl⟩
  | bl b => exact ⟨true, true, kit_ty (by decide +kernel), kit_ty (by decide +kernel), rfl⟩
  | int i => exact absurd rfl hT
  | str y => exact ⟨false, false, kit_ty (by decide +kernel), kit_ty (by decide +kernel), rfl⟩
  | lst e => exact ⟨false, false, kit_ty (by decide +kernel), kit_ty (by decide +kernel), rfl⟩
  | tup e => exact ⟨false, false, kit_ty (by decide +kernel), kit_ty (by decide +kernel), rfl⟩
  | dK e => exact ⟨false, false, kit_ty (by decide +kernel), kit_ty (by decide +kernel), rfl⟩
theorem dec_and {p q : Prop} [Decidable p] [Decidable q] : decide (p ∧ q) = (decide p && decide q) := by
  by_cases h : p <;> by_cases g : q <;> simp [h, g]
theorem dec_int (i j : Int) : decide (V.int i = V.int j) = decide (i = j) := by
  by_cases h : i = j
  · subst h; simp
  · rw [decide_eq_false h, decide_eq_false fun z => h (V.int.inj z)]
theorem ok_eq {f fP : Addr} {fd fdP : FuncData} (F : Fun K "__eq__" "Fraction.__eq__" sEq f fd) (k : FrK P w K mg base C fI pT gT pB gB fdI fdT fdB) (o : OddsC K C) (GP : FnOk P w K mg base CX0 1 fP fdP ["value"] (spPlain K)) (mP : mg "is_plain_integer" = some (.ref fP))
    (kP : PySem.W.keepIn K (.ref fP) = true) (bP : Binds K fdP ["value"] []) : FnOk P w K mg base CX0 3 f fd ["self", "other"] (spEq K C) := by
  refine F.ok scEq (fun vs H Q E h => ?_) (fun cdv A outer s H vs Q E hr h => ?_)
  · obtain ⟨p, v, t, b, r, rfl, _⟩ := h
    rfl
  · obtain ⟨p, v, t, b, r, rfl, ⟨dp, hp⟩, hv, q⟩ := h
    refine ⟨_, pss_cons (ps_if (pt_val (pe_callB call_isi (by rfl) k.is PyProof.Rows.boot_isinstance (pa_cons (pv 1) (pa_cons (pe_glob (v := .ref C) (by rfl) k.T.mC rfl) pa_nil))))
        (pss_one (ps_ret (pe_and (pe_cmpR op_eq (pe_prop (pv 0) k.T.cl k.oT k.GT (hr.mono (by decide)) k.bT .nil pass0 rfl) (pe_prop (pv 1) k.T.cl k.oT k.GT (hr.mono (by decide)) k.bT .nil pass0 rfl) (nomark _))
          (pe_one (pe_cmpR op_eq (pe_prop (pv 0) k.T.cl k.oB k.GB (hr.mono (by decide)) k.bB .nil pass0 rfl) (pe_prop (pv 1) k.T.cl k.oB k.GB (hr.mono (by decide)) k.bB .nil pass0 rfl) (nomark _)))))) pss_nil)
      (pss_one (ps_ret (pe_and (pe_call GP (hr.mono (by decide)) (by rfl) mP kP bP .nil pass0 (pa_cons (pv 1) pa_nil)) (pe_and (pe_cmpR op_eq (pe_prop (pv 0) k.T.cl k.oB k.GB (hr.mono (by decide)) k.bB .nil pass0 rfl) pe_int (nomark _))
          (pe_one (pe_cmpR op_eq (pe_prop (pv 0) k.T.cl k.oT k.GT (hr.mono (by decide)) k.bT .nil pass0 rfl) (pv 1) (nomark _))))))), ?_⟩
    rcases hv with ⟨q', t', b', rfl, ⟨dq, hq⟩, rfl⟩ | ⟨i, rfl, rfl⟩ | ⟨T, od, hT, rfl⟩
    · refine ⟨_, rfl, _, _, _, _, true, rfl, .own _, .base (.ins hq k.T.cl k.ha k.hn k.tk k.hm), kit_self K C, _, rfl, ?_⟩
      refine ⟨_, rfl, p, dp, _, rfl, hp, p, dp, _, _, rfl, hp, fl_top _ _, _, rfl, q', dq, _, rfl, hq, q', dq, _, _, rfl, hq, fl_top _ _, rfl, _, rfl, ?_⟩
      rw [dec_and] at q
      refine ite2 (fun z => ?_) (fun z => ?_)
      · rw [dec_int] at z
        rw [z, Bool.true_and] at q
        refine ⟨_, rfl, p, dp, _, rfl, hp, p, dp, _, _, rfl, hp, fl_bot _ _, _, rfl, q', dq, _, rfl, hq, q', dq, _, _, rfl, hq, fl_bot _ _, rfl, ?_⟩
        rw [dec_int]
        exact q
      · rw [dec_int] at z
        rw [Bool.eq_false_iff.mpr z, Bool.false_and] at q
        exact q
    · refine ⟨_, rfl, _, _, _, _, false, rfl, .own _, .base (.int i), o.int.k, _, rfl, iteF ?_⟩
      refine ⟨_, rfl, _, _, true, false, rfl, .base (.int i), kI1, kI2, _, rfl, ?_⟩
      refine ⟨_, rfl, p, dp, _, rfl, hp, p, dp, _, _, rfl, hp, fl_bot _ _, rfl, _, rfl, ?_⟩
      rw [dec_and] at q
      refine ite2 (fun z => ?_) (fun z => ?_)
      · rw [dec_int] at z
        rw [z, Bool.true_and] at q
        refine ⟨_, rfl, p, dp, _, rfl, hp, p, dp, _, _, rfl, hp, fl_top _ _, _, rfl, rfl, ?_⟩
        rw [dec_int]
        exact q
      · rw [dec_int] at z
        rw [Bool.eq_false_iff.mpr z, Bool.false_and] at q
        exact q
    · obtain ⟨b1, b2, e1, e2, e3⟩ := odd_plain (K := K) od hT
      refine ⟨_, rfl, _, _, _, _, false, rfl, .own _, od.ty, (o.of od).k, _, rfl, iteF ?_⟩
      refine ⟨_, rfl, _, _, b1, b2, rfl, od.ty, e1, e2, _, rfl, ?_⟩
      rw [e3]
      exact q
end
end FR
set_option Elab.async false
set_option linter.all false
set_option maxRecDepth 100000
set_option maxHeartbeats 4000000
namespace FR
open PySem PySem.Spec PyProof.Rows L2
section
variable {P : Program} {w : World} {K : PySem.W.Frag} {mg : Str → Option Value} {base : Heap} {C fI pT gT pB gB : Addr} {fdI fdT fdB : FuncData}
/-! ### str -/
def txI (i : Int) : Str := toString i
def frText (t b : Int) : Str := if b = 1 then txI t else txI t ++ Str.ofString "/" ++ txI b
theorem tx_len {i : Int} {n : Nat} (h : i.natAbs.log2 < n) (h0 : 0 < n) : (txI i).length ≤ n + 1 := by
  unfold txI
  rw [PySem.ofString_length]
  exact PySem.int_text_length_le h0 h
def spStr (C : Addr) : Sp := fun vs H Q _ => ∃ (p : Addr) (t b : Int), vs = [.ref p] ∧ FrAt C H p t b ∧ t.natAbs.log2 < 1920 ∧ b.natAbs.log2 < 1920 ∧ Q (.str (frText t b)) H
abbrev sStr : Stmt := inClass sFrac 12
theorem scStr : FnScope ["self"] ["self"] (defScope sStr) := ⟨rfl, rfl, rfl, by decide +kernel, rfl, by decide +kernel, by decide +kernel⟩
theorem ok_str {f : Addr} {fd : FuncData} (F : Fun K "__str__" "Fraction.__str__" sStr f fd) (k : FrK P w K mg base C fI pT gT pB gB fdI fdT fdB) (ms : mg "str" = none) : FnOk P w K mg base CX0 3 f fd ["self"] (spStr C) := by
  refine F.ok scStr (fun vs H Q E h => ?_) (fun cdv A outer s H vs Q E hr h => ?_)
  · obtain ⟨p, t, b, rfl, _⟩ := h
    rfl
  · obtain ⟨p, t, b, rfl, ⟨dp, hp⟩, z1, z2, q⟩ := h
    refine ⟨_, pss_cons (ps_if (pt_cmpR op_eq (pe_prop (pv 0) k.T.cl k.oB k.GB (hr.mono (by decide)) k.bB .nil pass0 rfl) pe_int (nomark _))
        (pss_one (ps_ret (pe_callTy call_str_int (by rfl) ms (by decide +kernel) (pa_cons (pe_prop (pv 0) k.T.cl k.oT k.GT (hr.mono (by decide)) k.bT .nil pass0 rfl) pa_nil)))) pss_nil)
      (pss_one (ps_ret (pe_joined (PJ.cons (pe_fmt (pe_prop (pv 0) k.T.cl k.oT k.GT (hr.mono (by decide)) k.bT .nil pass0 rfl)) (PJ.cons pe_str (PJ.cons (pe_fmt (pe_prop (pv 0) k.T.cl k.oB k.GB (hr.mono (by decide)) k.bB .nil pass0 rfl)) PJ.nil)))))), ?_⟩
    refine ⟨_, rfl, p, dp, _, rfl, hp, p, dp, _, _, rfl, hp, fl_bot _ _, rfl, _, rfl, ite2 (fun z => ?_) (fun z => ?_)⟩
    · rw [dec_int] at z
      have z := of_decide_eq_true z
      refine ⟨_, rfl, p, dp, _, rfl, hp, p, dp, _, _, rfl, hp, fl_top _ _, t, rfl, z1, ?_⟩
      unfold frText at q
      rw [if_pos z] at q
      exact q
    · rw [dec_int] at z
      have z : ¬ b = 1 := fun e => z (decide_eq_true e)
      unfold frText at q
      rw [if_neg z] at q
      have l1 := tx_len z1 (by decide)
      have l2 := tx_len z2 (by decide)
      have e0 : Str.empty ++ txI t = txI t := PySem.Str.empty_append _
      have hs : (16777216 : Nat) = sizeLine := sizeLine_eq.symm
      have l3 : (Str.ofString "/").length = 1 := by decide +kernel
      refine ⟨_, rfl, p, dp, _, rfl, hp, p, dp, _, _, rfl, hp, fl_top _ _, .inr ⟨t, rfl, z1, ?_⟩⟩
      show ∃ y : Str, V.str (txI t) = .str y ∧ (Str.empty ++ y).length ≤ sizeLine ∧ _
      refine ⟨_, rfl, by rw [e0, ← hs]; omega, ?_⟩
      rw [e0]
      refine ⟨_, rfl, by rw [strLen_append, ← hs]; rw [l3]; omega, ?_⟩
      refine ⟨_, rfl, p, dp, _, rfl, hp, p, dp, _, _, rfl, hp, fl_bot _ _, .inr ⟨b, rfl, z2, ?_⟩⟩
      show ∃ y : Str, V.str (txI b) = .str y ∧ _
      refine ⟨_, rfl, by rw [strLen_append, strLen_append, ← hs]; rw [l3]; omega, ?_⟩
      exact q
end
end FR
set_option Elab.async false
set_option linter.all false
set_option maxRecDepth 100000
set_option maxHeartbeats 4000000
namespace FR
open PySem PySem.Spec PyProof.Rows L2
section
variable {P : Program} {w : World} {K : PySem.W.Frag} {mg : Str → Option Value} {base : Heap} {C fI pT gT pB gB : Addr} {fdI fdT fdB : FuncData}
/-! ### abs, int - fraction -/
def iabs (t : Int) : Int := if t < 0 then -t else t
def spAbs (C : Addr) : Sp := fun vs H Q _ => ∃ (p : Addr) (t b : Int), vs = [.ref p] ∧ FrAt C H p t b ∧ Sz t b ∧ ∀ q H', FrAt C H' q (nT (iabs t) b) (nB (iabs t) b) → Same H H' → H q = none → Q (.ref q) H'
abbrev sAbs : Stmt := inClass sFrac 10
theorem scAbs : FnScope ["self"] ["self"] (defScope sAbs) := ⟨rfl, rfl, rfl, by decide +kernel, rfl, by decide +kernel, by decide +kernel⟩
theorem Sz.b8 {t b : Int} (z : Sz t b) : b.natAbs < 2 ^ 8000 := Nat.lt_of_lt_of_le z.2.1 (Nat.pow_le_pow_right (by decide) (by decide))
theorem ok_abs {f : Addr} {fd : FuncData} (F : Fun K "__abs__" "Fraction.__abs__" sAbs f fd) (k : FrK P w K mg base C fI pT gT pB gB fdI fdT fdB) (ma : mg "abs" = none) : FnOk P w K mg base CX0 4 f fd ["self"] (spAbs C) := by
  refine F.ok scAbs (fun vs H Q E h => ?_) (fun cdv A outer s H vs Q E hr h => ?_)
  · obtain ⟨p, t, b, rfl, _⟩ := h
    rfl
  · obtain ⟨p, t, b, rfl, ⟨dp, hp⟩, z, q⟩ := h
    refine ⟨_, pss_one (ps_ret (pe_make k.M k.GI (hr.mono (by decide)) (by rfl) k.T.mC k.b2 .nil pass0 (pa_cons (pe_callB call_abs (by rfl) ma (by decide +kernel) (pa_cons (pe_prop (pv 0) k.T.cl k.oT k.GT (hr.mono (by decide)) k.bT .nil pass0 rfl) pa_nil))
      (pa_cons (pe_prop (pv 0) k.T.cl k.oB k.GB (hr.mono (by decide)) k.bB .nil pass0 rfl) pa_nil)))), ?_⟩
    refine ⟨_, rfl, p, dp, _, rfl, hp, p, dp, _, _, rfl, hp, fl_top _ _, t, rfl, _, rfl, p, dp, _, rfl, hp, p, dp, _, _, rfl, hp, fl_bot _ _, fun x dx nx nd ne => ?_⟩
    refine ⟨x, dx, _, _, rfl, upd_same, z.2.2, dv8 z.2.2 z.b8, fun H' hf hs => ⟨rfl, ?_⟩⟩
    exact q x H' hf (same_make (C := C) nx nd hs) nx
def spRsub (C : Addr) : Sp := fun vs H Q _ => ∃ (p : Addr) (i t b : Int), vs = [.ref p, .int i] ∧ FrAt C H p t b ∧ Sz t b ∧ Sz i 1 ∧
  ∀ q H', FrAt C H' q (nT (fSub i 1 t b) (1 * b)) (nB (fSub i 1 t b) (1 * b)) → Same H H' → H q = none → Q (.ref q) H'
abbrev sRsub : Stmt := inClass sFrac 6
theorem scRsub : FnScope ["self", "other"] ["self", "other"] (defScope sRsub) := ⟨rfl, rfl, rfl, by decide +kernel, rfl, by decide +kernel, by decide +kernel⟩
theorem ok_rsub {f fA fS : Addr} {fd fdA fdS : FuncData} (F : Fun K "__rsub__" "Fraction.__rsub__" sRsub f fd) (k : FrK P w K mg base C fI pT gT pB gB fdI fdT fdB) (GA : FnOk P w K mg base CX0 4 fA fdA ["value"] (spAs C)) (mA : mg "as_fraction" = some (.ref fA))
    (kA : PySem.W.keepIn K (.ref fA) = true) (bA : Binds K fdA ["value"] []) (hc : PySem.W.selfFirst K C = true) (DS : Dun K C "__sub__" fS) (GS : FnOk P w K mg base CX0 5 fS fdS ["self", "other"] (spOp C fSub)) (bS : Binds K fdS ["self", "other"] []) :
    FnOk P w K mg base CX0 6 f fd ["self", "other"] (spRsub C) := by
  refine F.ok scRsub (fun vs H Q E h => ?_) (fun cdv A outer s H vs Q E hr h => ?_)
  · obtain ⟨p, i, t, b, rfl, _⟩ := h
    rfl
  · obtain ⟨p, i, t, b, rfl, hp, z, zi, q⟩ := h
    refine ⟨_, pss_one (ps_ret (pe_op (op_own2 (op := .Sub) DS hc GS hr bS pass0) (pe_call GA (hr.mono (by decide)) (by rfl) mA kA bA .nil pass0 (pa_cons (pv 1) pa_nil)) (pv 0))), ?_⟩
    refine ⟨_, rfl, .int i, i, 1, rfl, .inr ⟨rfl, rfl⟩, fun m H1 hm sm => ?_⟩
    obtain ⟨dp, hp1⟩ := hp.same sm
    obtain ⟨dm, hm1⟩ := id hm
    refine ⟨_, rfl, m, p, dm, dp, _, _, rfl, rfl, hm1, hp1, m, .ref p, i, 1, t, b, rfl, hm, .inl ⟨p, rfl, hp.same sm⟩, zi, z, fun x H' hf hs nx => ?_⟩
    exact q x H' hf (sm.trans hs) (Same.free sm nx)
/-! ### is_fraction -/
abbrev sIsF : Stmt := top 13
theorem scIsF : FnScope ["value"] ["value"] (defScope sIsF) := ⟨rfl, rfl, rfl, by decide +kernel, rfl, by decide +kernel, by decide +kernel⟩
/-- whether it is a fraction -/
def IsFr (K : PySem.W.Frag) (C : Addr) (H : Hp) (v : V) (r : Bool) : Prop := (∃ q t b, v = .ref q ∧ FrAt C H q t b ∧ r = true) ∨ (∃ i, v = .int i ∧ r = true) ∨ (∃ T, Odd K H v T ∧ T ≠ "int" ∧ r = false)
def spIsF (K : PySem.W.Frag) (C : Addr) : Sp := fun vs H Q _ => ∃ v r, vs = [v] ∧ IsFr K C H v r ∧ Q (.bl r) H
theorem ok_isF {f fP : Addr} {fd fdP : FuncData} (F : Fun K "is_fraction" "is_fraction" sIsF f fd) (k : FrK P w K mg base C fI pT gT pB gB fdI fdT fdB) (o : OddsC K C) (GP : FnOk P w K mg base CX0 1 fP fdP ["value"] (spPlain K)) (mP : mg "is_plain_integer" = some (.ref fP))
    (kP : PySem.W.keepIn K (.ref fP) = true) (bP : Binds K fdP ["value"] []) : FnOk P w K mg base CX0 2 f fd ["value"] (spIsF K C) := by
  refine F.ok scIsF (fun vs H Q E h => ?_) (fun cdv A outer s H vs Q E hr h => ?_)
  · obtain ⟨v, r, rfl, _⟩ := h
    rfl
  · obtain ⟨v, r, rfl, hv, q⟩ := h
    refine ⟨_, pss_one (ps_ret (pe_or (pe_callB call_isi (by rfl) k.is PyProof.Rows.boot_isinstance (pa_cons (pv 0) (pa_cons (pe_glob (v := .ref C) (by rfl) k.T.mC rfl) pa_nil)))
      (pe_one (pe_call GP hr (by rfl) mP kP bP .nil pass0 (pa_cons (pv 0) pa_nil))))), ?_⟩
    rcases hv with ⟨p, t, b, rfl, ⟨dx, hp⟩, rfl⟩ | ⟨i, rfl, rfl⟩ | ⟨T, od, hT, rfl⟩
    · exact ⟨_, rfl, _, _, _, _, true, rfl, .own _, .base (.ins hp k.T.cl k.ha k.hn k.tk k.hm), kit_self K C, _, rfl, q⟩
    · exact ⟨_, rfl, _, _, _, _, false, rfl, .own _, .base (.int i), o.int.k, _, rfl, _, rfl, _, _, true, false, rfl, .base (.int i), kI1, kI2, q⟩
    · obtain ⟨b1, b2, e1, e2, e3⟩ := odd_plain (K := K) od hT
      refine ⟨_, rfl, _, _, _, _, false, rfl, .own _, od.ty, (o.of od).k, _, rfl, _, rfl, _, _, b1, b2, rfl, od.ty, e1, e2, ?_⟩
      rw [e3]
      exact q
end
end FR
set_option Elab.async false
set_option linter.all false
set_option maxRecDepth 100000
set_option maxHeartbeats 4000000
namespace FR
open PySem PySem.Spec PyProof.Rows L2
section
variable {P : Program} {w : World} {K : PySem.W.Frag} {mg : Str → Option Value} {base : Heap} {C fI pT gT pB gB : Addr} {fdI fdT fdB : FuncData}
/-! ### is_between, power -/
abbrev sBet : Stmt := top 9
theorem scBet : FnScope ["value", "least", "greatest"] ["value", "least", "greatest"] (defScope sBet) := ⟨rfl, rfl, rfl, by decide +kernel, rfl, by decide +kernel, by decide +kernel⟩
def spBet : Sp := fun vs H Q _ => ∃ i lo hi : Int, vs = [.int i, .int lo, .int hi] ∧ lo ≤ i ∧ i ≤ hi ∧ Q (.bl true) H
theorem ok_bet {f fP : Addr} {fd fdP : FuncData} (F : Fun K "is_between" "is_between" sBet f fd) (GP : FnOk P w K mg base CX0 1 fP fdP ["value"] (spPlain K)) (mP : mg "is_plain_integer" = some (.ref fP))
    (kP : PySem.W.keepIn K (.ref fP) = true) (bP : Binds K fdP ["value"] []) : FnOk P w K mg base CX0 2 f fd ["value", "least", "greatest"] spBet := by
  refine F.ok scBet (fun vs H Q E h => ?_) (fun cdv A outer s H vs Q E hr h => ?_)
  · obtain ⟨i, lo, hi, rfl, _⟩ := h
    rfl
  · obtain ⟨i, lo, hi, rfl, h1, h2, q⟩ := h
    refine ⟨_, pss_one (ps_ret (pe_and (pe_call GP hr (by rfl) mP kP bP .nil pass0 (pa_cons (pv 0) pa_nil)) (pe_one (pe_chain op_le op_le (pv 1) (pv 0) (pv 2))))), ?_⟩
    refine ⟨_, rfl, _, _, true, false, rfl, .base (.int i), kI1, kI2, _, rfl, ?_⟩
    refine ⟨_, rfl, _, rfl, _, _, rfl, rfl, _, rfl, ?_⟩
    rw [if_pos (decide_eq_true h1)]
    refine ⟨_, rfl, _, _, rfl, rfl, ?_⟩
    show Q (.bl (decide (i ≤ hi))) H
    rw [decide_eq_true h2]
    exact q
abbrev sPow : Stmt := inClass sFrac 15
theorem scPow : FnScope ["self", "many", "top", "bottom", "_"] ["self", "many"] (defScope sPow) := ⟨rfl, rfl, rfl, by decide +kernel, rfl, by decide +kernel, by decide +kernel⟩
def spPow (C : Addr) : Sp := fun vs H Q _ => ∃ (p : Addr) (n : Nat) (t b : Int), vs = [.ref p, .int n] ∧ n ≤ 64 ∧ FrAt C H p t b ∧ b ≠ 0 ∧ t.natAbs < 2 ^ 6000 ∧ b.natAbs < 2 ^ 6000 ∧ (dv (t ^ n) (b ^ n)).natAbs < 2 ^ 8000 ∧
  ∀ q H', FrAt C H' q (nT (t ^ n) (b ^ n)) (nB (t ^ n) (b ^ n)) → Same H H' → H q = none → Q (.ref q) H'
theorem pow_sz {t : Int} {s : Nat} (h : t.natAbs < 2 ^ s) (i : Nat) : (t ^ i).natAbs < 2 ^ (s * i + 1) := by
  induction i with
  | zero =>
    rw [Nat.mul_zero, Int.pow_zero]
    decide
  | succ i ih =>
    rw [Int.pow_succ, Int.natAbs_mul]
    have e : s * (i + 1) + 1 = (s * i + 1) + s := by rw [Nat.mul_succ]; omega
    rw [e, Nat.pow_add]
    exact Nat.mul_lt_mul'' ih h
theorem ok_pow {f fP : Addr} {fd fdP : FuncData} (F : Fun K "power" "Fraction.power" sPow f fd) (k : FrK P w K mg base C fI pT gT pB gB fdI fdT fdB) (GP : FnOk P w K mg base CX0 2 fP fdP ["value", "least", "greatest"] spBet) (mP : mg "is_between" = some (.ref fP))
    (kP : PySem.W.keepIn K (.ref fP) = true) (bP : Binds K fdP ["value", "least", "greatest"] []) {tk : Tok} (mM : mg "MAX_POWER" = some (.int 64 tk)) (mr : mg "range" = none) : FnOk P w K mg base CX0 4 f fd ["self", "many"] (spPow C) := by
  refine F.ok scPow (fun vs H Q E h => ?_) (fun cdv A outer s H vs Q E hr h => ?_)
  · obtain ⟨p, n, t, b, rfl, _⟩ := h
    rfl
  · obtain ⟨p, n, t, b, rfl, hn, ⟨dp, hp⟩, hb, z1, z2, z3, q⟩ := h
    refine ⟨_, pss_cons (ps_if (pt_not (pt_val (pe_call GP (hr.mono (by decide)) (by rfl) mP kP bP .nil pass0 (pa_cons (pv 1) (pa_cons pe_int (pa_cons (pe_glob (v := .int 64) (by rfl) mM ⟨tk, rfl⟩) pa_nil)))))) pss_never pss_nil)
      (pss_cons (ps_set (i := 2) scPow.nd rfl (Or.inl rfl) pe_int) (pss_cons (ps_set (i := 3) scPow.nd rfl (Or.inl rfl) pe_int)
      (pss_cons (ps_for PassesOwn.never rfl (pi_range1 (by rfl) mr (pa_cons (pv 1) pa_nil)) (pg_name (i := 4) scPow.nd rfl (Or.inl rfl))
        (pss_cons (ps_set (i := 2) scPow.nd rfl (Or.inl rfl) (pe_op op_mulW (pv 2) (pe_prop (pv 0) k.T.cl k.oT k.GT (hr.mono (by decide)) k.bT .nil pass0 rfl)))
          (pss_one (ps_set (i := 3) scPow.nd rfl (Or.inl rfl) (pe_op op_mulW (pv 3) (pe_prop (pv 0) k.T.cl k.oB k.GB (hr.mono (by decide)) k.bB .nil pass0 rfl))))))
      (pss_one (ps_ret (pe_make k.M k.GI (hr.mono (by decide)) (by rfl) k.T.mC k.b2 .nil pass0 (pa_cons (pv 2) (pa_cons (pv 3) pa_nil)))))))), ?_⟩
    refine ⟨_, rfl, n, 0, 64, rfl, by omega, by omega, _, rfl, iteF ?_⟩
    refine ⟨_, rfl, n, rfl, by omega, by omega, ?_⟩
    refine for_range (fun i σ Hc => Hc = H ∧ ∃ x4 : Option V, σ = [some (.ref p), some (.int n), some (.int (t ^ i)), some (.int (b ^ i)), x4]) ⟨rfl, none, by rw [Int.pow_zero, Int.pow_zero]; rfl⟩ ?_ ?_
    · rintro i σ Hc hi ⟨rfl, x4, rfl⟩
      have g1 : (t ^ i).natAbs < 2 ^ 390000 := Nat.lt_of_lt_of_le (pow_sz z1 i) (Nat.pow_le_pow_right (by decide) (by omega))
      have g2 : (b ^ i).natAbs < 2 ^ 390000 := Nat.lt_of_lt_of_le (pow_sz z2 i) (Nat.pow_le_pow_right (by decide) (by omega))
      refine ⟨_, rfl, _, rfl, p, dp, _, rfl, hp, p, dp, _, _, rfl, hp, fl_top _ _, _, _, rfl, rfl, wide_mul g1 z1 (by decide) (by decide) (by decide), ?_⟩
      refine ⟨_, rfl, _, rfl, p, dp, _, rfl, hp, p, dp, _, _, rfl, hp, fl_bot _ _, _, _, rfl, rfl, wide_mul g2 z2 (by decide) (by decide) (by decide), ?_⟩
      refine ⟨rfl, some (.int (0 + (i : Int))), ?_⟩
      rw [Int.pow_succ, Int.pow_succ]
      rfl
    · rintro σ Hc ⟨rfl, x4, rfl⟩
      refine ⟨_, rfl, _, rfl, fun x dx nx nd ne => ?_⟩
      refine ⟨x, dx, _, _, rfl, upd_same, Int.pow_ne_zero hb, z3, fun H' hf hs => ⟨rfl, ?_⟩⟩
      exact q x H' hf (same_make (C := C) nx nd hs) nx
end
end FR
set_option Elab.async false
set_option linter.all false
set_option maxRecDepth 100000
set_option maxHeartbeats 4000000
namespace FR
open PySem PySem.Spec PyProof.Rows L2
section
variable {P : Program} {w : World} {K : PySem.W.Frag} {mg : Str → Option Value} {base : Heap} {C fI pT gT pB gB : Addr} {fdI fdT fdB : FuncData}
/-! ### int + fraction, int * fraction, -fraction, by, is_less -/
def spRop (C : Addr) (g : Int → Int → Int → Int → Int) : Sp := fun vs H Q _ => ∃ (p : Addr) (i t b : Int), vs = [.ref p, .int i] ∧ FrAt C H p t b ∧ Sz t b ∧ Sz i 1 ∧
  ∀ q H', FrAt C H' q (nT (g i 1 t b) (1 * b)) (nB (g i 1 t b) (1 * b)) → Same H H' → H q = none → Q (.ref q) H'
abbrev sRadd : Stmt := inClass sFrac 4
theorem scRadd : FnScope ["self", "other"] ["self", "other"] (defScope sRadd) := ⟨rfl, rfl, rfl, by decide +kernel, rfl, by decide +kernel, by decide +kernel⟩
theorem ok_radd {f fA fS : Addr} {fd fdA fdS : FuncData} (F : Fun K "__radd__" "Fraction.__radd__" sRadd f fd) (GA : FnOk P w K mg base CX0 4 fA fdA ["value"] (spAs C)) (mA : mg "as_fraction" = some (.ref fA))
    (kA : PySem.W.keepIn K (.ref fA) = true) (bA : Binds K fdA ["value"] []) (hc : PySem.W.selfFirst K C = true) (DS : Dun K C "__add__" fS) (GS : FnOk P w K mg base CX0 5 fS fdS ["self", "other"] (spOp C fAdd)) (bS : Binds K fdS ["self", "other"] []) :
    FnOk P w K mg base CX0 6 f fd ["self", "other"] (spRop C fAdd) := by
  refine F.ok scRadd (fun vs H Q E h => ?_) (fun cdv A outer s H vs Q E hr h => ?_)
  · obtain ⟨p, i, t, b, rfl, _⟩ := h
    rfl
  · obtain ⟨p, i, t, b, rfl, hp, z, zi, q⟩ := h
    refine ⟨_, pss_one (ps_ret (pe_op (op_own2 (op := .Add) DS hc GS hr bS pass0) (pe_call GA (hr.mono (by decide)) (by rfl) mA kA bA .nil pass0 (pa_cons (pv 1) pa_nil)) (pv 0))), ?_⟩
    refine ⟨_, rfl, .int i, i, 1, rfl, .inr ⟨rfl, rfl⟩, fun m H1 hm sm => ?_⟩
    obtain ⟨dp, hp1⟩ := hp.same sm
    obtain ⟨dm, hm1⟩ := id hm
    refine ⟨_, rfl, m, p, dm, dp, _, _, rfl, rfl, hm1, hp1, m, .ref p, i, 1, t, b, rfl, hm, .inl ⟨p, rfl, hp.same sm⟩, zi, z, fun x H' hf hs nx => ?_⟩
    exact q x H' hf (sm.trans hs) (Same.free sm nx)
abbrev sRmul : Stmt := inClass sFrac 8
theorem scRmul : FnScope ["self", "other"] ["self", "other"] (defScope sRmul) := ⟨rfl, rfl, rfl, by decide +kernel, rfl, by decide +kernel, by decide +kernel⟩
theorem ok_rmul {f fA fS : Addr} {fd fdA fdS : FuncData} (F : Fun K "__rmul__" "Fraction.__rmul__" sRmul f fd) (GA : FnOk P w K mg base CX0 4 fA fdA ["value"] (spAs C)) (mA : mg "as_fraction" = some (.ref fA))
    (kA : PySem.W.keepIn K (.ref fA) = true) (bA : Binds K fdA ["value"] []) (hc : PySem.W.selfFirst K C = true) (DS : Dun K C "__mul__" fS) (GS : FnOk P w K mg base CX0 5 fS fdS ["self", "other"] (spOp C fMul)) (bS : Binds K fdS ["self", "other"] []) :
    FnOk P w K mg base CX0 6 f fd ["self", "other"] (spRop C fMul) := by
  refine F.ok scRmul (fun vs H Q E h => ?_) (fun cdv A outer s H vs Q E hr h => ?_)
  · obtain ⟨p, i, t, b, rfl, _⟩ := h
    rfl
  · obtain ⟨p, i, t, b, rfl, hp, z, zi, q⟩ := h
    refine ⟨_, pss_one (ps_ret (pe_op (op_own2 (op := .Mult) DS hc GS hr bS pass0) (pe_call GA (hr.mono (by decide)) (by rfl) mA kA bA .nil pass0 (pa_cons (pv 1) pa_nil)) (pv 0))), ?_⟩
    refine ⟨_, rfl, .int i, i, 1, rfl, .inr ⟨rfl, rfl⟩, fun m H1 hm sm => ?_⟩
    obtain ⟨dp, hp1⟩ := hp.same sm
    obtain ⟨dm, hm1⟩ := id hm
    refine ⟨_, rfl, m, p, dm, dp, _, _, rfl, rfl, hm1, hp1, m, .ref p, i, 1, t, b, rfl, hm, .inl ⟨p, rfl, hp.same sm⟩, zi, z, fun x H' hf hs nx => ?_⟩
    exact q x H' hf (sm.trans hs) (Same.free sm nx)
def spNeg (C : Addr) : Sp := fun vs H Q _ => ∃ (p : Addr) (t b : Int), vs = [.ref p] ∧ FrAt C H p t b ∧ Sz t b ∧ ∀ q H', FrAt C H' q (nT (-t) b) (nB (-t) b) → Same H H' → H q = none → Q (.ref q) H'
abbrev sNeg : Stmt := inClass sFrac 9
theorem scNeg : FnScope ["self"] ["self"] (defScope sNeg) := ⟨rfl, rfl, rfl, by decide +kernel, rfl, by decide +kernel, by decide +kernel⟩
theorem ok_neg {f : Addr} {fd : FuncData} (F : Fun K "__neg__" "Fraction.__neg__" sNeg f fd) (k : FrK P w K mg base C fI pT gT pB gB fdI fdT fdB) : FnOk P w K mg base CX0 4 f fd ["self"] (spNeg C) := by
  refine F.ok scNeg (fun vs H Q E h => ?_) (fun cdv A outer s H vs Q E hr h => ?_)
  · obtain ⟨p, t, b, rfl, _⟩ := h
    rfl
  · obtain ⟨p, t, b, rfl, ⟨dp, hp⟩, z, q⟩ := h
    refine ⟨_, pss_one (ps_ret (pe_make k.M k.GI (hr.mono (by decide)) (by rfl) k.T.mC k.b2 .nil pass0 (pa_cons (pe_un un_neg (pe_prop (pv 0) k.T.cl k.oT k.GT (hr.mono (by decide)) k.bT .nil pass0 rfl))
      (pa_cons (pe_prop (pv 0) k.T.cl k.oB k.GB (hr.mono (by decide)) k.bB .nil pass0 rfl) pa_nil)))), ?_⟩
    refine ⟨_, rfl, p, dp, _, rfl, hp, p, dp, _, _, rfl, hp, fl_top _ _, t, rfl, _, rfl, p, dp, _, rfl, hp, p, dp, _, _, rfl, hp, fl_bot _ _, fun x dx nx nd ne => ?_⟩
    refine ⟨x, dx, _, _, rfl, upd_same, z.2.2, dv8 z.2.2 z.b8, fun H' hf hs => ⟨rfl, ?_⟩⟩
    exact q x H' hf (same_make (C := C) nx nd hs) nx
def spBy (C : Addr) : Sp := fun vs H Q _ => ∃ (p : Addr) (v : V) (t b t' b' : Int), vs = [.ref p, v] ∧ FrAt C H p t b ∧ FV C H v t' b' ∧ Sz t b ∧ Sz t' b' ∧ t' ≠ 0 ∧
  ∀ q H', FrAt C H' q (nT (t * b') (b * t')) (nB (t * b') (b * t')) → Same H H' → H q = none → Q (.ref q) H'
abbrev sBy : Stmt := inClass sFrac 13
theorem scBy : FnScope ["self", "other", "divisor"] ["self", "other"] (defScope sBy) := ⟨rfl, rfl, rfl, by decide +kernel, rfl, by decide +kernel, by decide +kernel⟩
theorem ok_by {f fA : Addr} {fd fdA : FuncData} (F : Fun K "by" "Fraction.by" sBy f fd) (k : FrK P w K mg base C fI pT gT pB gB fdI fdT fdB) (GA : FnOk P w K mg base CX0 4 fA fdA ["value"] (spAs C)) (mA : mg "as_fraction" = some (.ref fA))
    (kA : PySem.W.keepIn K (.ref fA) = true) (bA : Binds K fdA ["value"] []) : FnOk P w K mg base CX0 5 f fd ["self", "other"] (spBy C) := by
  refine F.ok scBy (fun vs H Q E h => ?_) (fun cdv A outer s H vs Q E hr h => ?_)
  · obtain ⟨p, v, t, b, t', b', rfl, _⟩ := h
    rfl
  · obtain ⟨p, v, t, b, t', b', rfl, ⟨dp, hp⟩, hv, z1, z2, nz, q⟩ := h
    have z3 : Sz b t' := ⟨z1.2.1, z2.1, nz⟩
    have m2 := (z1.mul z2).2.1
    have m4 : CMulW b t' := wide_mul z1.2.1 z2.1 (by decide) (by decide) (by decide)
    have m6 : b * t' ≠ 0 := Int.mul_ne_zero z1.2.2 nz
    have m5 : (b * t').natAbs < 2 ^ 8000 := Nat.lt_of_lt_of_le (wide_lt z1.2.1 z2.1) (Nat.pow_le_pow_right (by decide) (by decide))
    refine ⟨_, pss_cons (ps_set (i := 2) scBy.nd rfl (Or.inl rfl) (pe_call GA hr (by rfl) mA kA bA .nil pass0 (pa_cons (pv 1) pa_nil)))
      (pss_cons (ps_if (pt_cmpR op_eq (pe_prop (pv 2) k.T.cl k.oT k.GT (hr.mono (by decide)) k.bT .nil pass0 rfl) pe_int (nomark _)) pss_never pss_nil)
      (pss_one (ps_ret (pe_make k.M k.GI (hr.mono (by decide)) (by rfl) k.T.mC k.b2 .nil pass0 (pa_cons (pe_op op_mulW (pe_prop (pv 0) k.T.cl k.oT k.GT (hr.mono (by decide)) k.bT .nil pass0 rfl) (pe_prop (pv 2) k.T.cl k.oB k.GB (hr.mono (by decide)) k.bB .nil pass0 rfl)) (pa_cons (pe_op op_mulW (pe_prop (pv 0) k.T.cl k.oB k.GB (hr.mono (by decide)) k.bB .nil pass0 rfl) (pe_prop (pv 2) k.T.cl k.oT k.GT (hr.mono (by decide)) k.bT .nil pass0 rfl)) pa_nil)))))), ?_⟩
    refine ⟨_, rfl, v, t', b', rfl, hv, fun m H1 ⟨dm, hm⟩ sm => ?_⟩
    have hp := sm _ _ hp
    refine ⟨_, rfl, m, dm, _, rfl, hm, m, dm, _, _, rfl, hm, fl_top _ _, rfl, _, rfl, ite2 (fun z => (nz (V.int.inj (of_decide_eq_true z))).elim) (fun _ => ?_)⟩
    refine ⟨_, rfl, p, dp, _, rfl, hp, p, dp, _, _, rfl, hp, fl_top _ _, _, rfl, m, dm, _, rfl, hm, m, dm, _, _, rfl, hm, fl_bot _ _, _, _, rfl, rfl, m2, _, rfl, p, dp, _, rfl, hp, p, dp, _, _, rfl, hp, fl_bot _ _, _, rfl, m, dm, _, rfl, hm, m, dm, _, _, rfl, hm, fl_top _ _, _, _, rfl, rfl, m4, fun x dx nx nd ne => ?_⟩
    refine ⟨x, dx, _, _, rfl, upd_same, m6, dv8 m6 m5, fun H' hf hs => ⟨rfl, ?_⟩⟩
    exact q x H' hf (sm.trans (same_make (C := C) nx nd hs)) (Same.free sm nx)
def spLess (C : Addr) : Sp := fun vs H Q _ => ∃ (p : Addr) (v : V) (t b t' b' : Int), vs = [.ref p, v] ∧ FrAt C H p t b ∧ FV C H v t' b' ∧ Sz t b ∧ Sz t' b' ∧
  ∀ H', Same H H' → Q (.bl (decide (t * b' < t' * b))) H'
abbrev sLess : Stmt := inClass sFrac 14
theorem scLess : FnScope ["self", "other", "compared"] ["self", "other"] (defScope sLess) := ⟨rfl, rfl, rfl, by decide +kernel, rfl, by decide +kernel, by decide +kernel⟩
theorem ok_less {f fA : Addr} {fd fdA : FuncData} (F : Fun K "is_less" "Fraction.is_less" sLess f fd) (k : FrK P w K mg base C fI pT gT pB gB fdI fdT fdB) (GA : FnOk P w K mg base CX0 4 fA fdA ["value"] (spAs C)) (mA : mg "as_fraction" = some (.ref fA))
    (kA : PySem.W.keepIn K (.ref fA) = true) (bA : Binds K fdA ["value"] []) : FnOk P w K mg base CX0 5 f fd ["self", "other"] (spLess C) := by
  refine F.ok scLess (fun vs H Q E h => ?_) (fun cdv A outer s H vs Q E hr h => ?_)
  · obtain ⟨p, v, t, b, t', b', rfl, _⟩ := h
    rfl
  · obtain ⟨p, v, t, b, t', b', rfl, ⟨dp, hp⟩, hv, z1, z2, q⟩ := h
    obtain ⟨m1, m2, m3, m4, m5, m6⟩ := z1.mul z2
    refine ⟨_, pss_cons (ps_set (i := 2) scLess.nd rfl (Or.inl rfl) (pe_call GA hr (by rfl) mA kA bA .nil pass0 (pa_cons (pv 1) pa_nil)))
      (pss_one (ps_ret (pe_cmpR op_lt (pe_op op_mulW (pe_prop (pv 0) k.T.cl k.oT k.GT (hr.mono (by decide)) k.bT .nil pass0 rfl) (pe_prop (pv 2) k.T.cl k.oB k.GB (hr.mono (by decide)) k.bB .nil pass0 rfl)) (pe_op op_mulW (pe_prop (pv 2) k.T.cl k.oT k.GT (hr.mono (by decide)) k.bT .nil pass0 rfl) (pe_prop (pv 0) k.T.cl k.oB k.GB (hr.mono (by decide)) k.bB .nil pass0 rfl)) (nomark _)))), ?_⟩
    refine ⟨_, rfl, v, t', b', rfl, hv, fun m H1 ⟨dm, hm⟩ sm => ?_⟩
    have hp := sm _ _ hp
    exact ⟨_, rfl, p, dp, _, rfl, hp, p, dp, _, _, rfl, hp, fl_top _ _, _, rfl, m, dm, _, rfl, hm, m, dm, _, _, rfl, hm, fl_bot _ _, _, _, rfl, rfl, m2, _, rfl, m, dm, _, rfl, hm, m, dm, _, _, rfl, hm, fl_top _ _, _, rfl, p, dp, _, rfl, hp, p, dp, _, _, rfl, hp, fl_bot _ _, _, _, rfl, rfl, m3, _, _, rfl, rfl, q H1 sm⟩
end
end FR
set_option Elab.async false
set_option linter.all false
namespace FR
/-! ### the least form, as mathematics -/
theorem dv_dvd_t {t b : Int} (h : b ≠ 0) : dv t b ∣ t := by
  have z : ((Nat.gcd t.natAbs b.natAbs : Nat) : Int) ∣ t := Int.ofNat_dvd_left.mpr (Nat.gcd_dvd_left _ _)
  unfold dv
  split
  · exact Int.neg_dvd.mpr z
  · exact z
theorem dv_dvd_b {t b : Int} (h : b ≠ 0) : dv t b ∣ b := by
  have z : ((Nat.gcd t.natAbs b.natAbs : Nat) : Int) ∣ b := Int.ofNat_dvd_left.mpr (Nat.gcd_dvd_right _ _)
  unfold dv
  split
  · exact Int.neg_dvd.mpr z
  · exact z
theorem nT_mul {t b : Int} (h : b ≠ 0) : nT t b * dv t b = t := Int.fdiv_mul_cancel (dv_dvd_t h)
theorem nB_mul {t b : Int} (h : b ≠ 0) : nB t b * dv t b = b := Int.fdiv_mul_cancel (dv_dvd_b h)
theorem dv_sign {t b : Int} (h : b ≠ 0) : (0 < b → 0 < dv t b) ∧ (b < 0 → dv t b < 0) := by
  have z : 0 < Nat.gcd t.natAbs b.natAbs := Nat.gcd_pos_of_pos_right _ (by omega)
  unfold dv
  constructor
  · intro q
    rw [if_neg (by omega)]
    omega
  · intro q
    rw [if_pos q]
    omega
theorem nB_pos {t b : Int} (h : b ≠ 0) : 0 < nB t b := by
  have e := nB_mul (t := t) h
  obtain ⟨s1, s2⟩ := dv_sign (t := t) h
  rcases Int.lt_or_gt_of_ne h with q | q
  · have d := s2 q
    refine Int.not_le.mp fun c => ?_
    have := Int.mul_nonneg_of_nonpos_of_nonpos c (Int.le_of_lt d)
    omega
  · have d := s1 q
    refine Int.not_le.mp fun c => ?_
    have := Int.mul_nonpos_of_nonpos_of_nonneg c (Int.le_of_lt d)
    omega
/-- two forms of a fraction with bottoms above 0 and no common divisor are the same -/
theorem nT_le {t b : Int} (h : b ≠ 0) : (nT t b).natAbs ≤ t.natAbs := by
  have e := congrArg Int.natAbs (nT_mul (t := t) h)
  rw [Int.natAbs_mul] at e
  have z : 0 < (dv t b).natAbs := Int.natAbs_pos.mpr (dv_ne h)
  rw [← e]
  exact Nat.le_mul_of_pos_right _ z
theorem nB_le {t b : Int} (h : b ≠ 0) : (nB t b).natAbs ≤ b.natAbs := by
  have e := congrArg Int.natAbs (nB_mul (t := t) h)
  rw [Int.natAbs_mul] at e
  have z : 0 < (dv t b).natAbs := Int.natAbs_pos.mpr (dv_ne h)
  rw [← e]
  exact Nat.le_mul_of_pos_right _ z
theorem dv_scale {t b k : Int} (hk : 0 < k) : dv (k * t) (k * b) = k * dv t b := by
  have g : Nat.gcd (k * t).natAbs (k * b).natAbs = k.natAbs * Nat.gcd t.natAbs b.natAbs := by
    rw [Int.natAbs_mul, Int.natAbs_mul, Nat.gcd_mul_left]
  have kk : ((k.natAbs : Nat) : Int) = k := by omega
  have hb : k * b < 0 ↔ b < 0 := by
    constructor
    · intro q
      refine Int.not_le.mp fun c => ?_
      have := Int.mul_nonneg (Int.le_of_lt hk) c
      omega
    · intro q
      exact Int.mul_neg_of_pos_of_neg hk q
  unfold dv
  rw [g, Int.natCast_mul, kk]
  by_cases q : b < 0
  · rw [if_pos q, if_pos (hb.mpr q), Int.mul_neg]
  · rw [if_neg q, if_neg fun z => q (hb.mp z)]
theorem nT_scale {t b k : Int} (hk : 0 < k) : nT (k * t) (k * b) = nT t b := by
  unfold nT
  rw [dv_scale hk]
  exact Int.mul_fdiv_mul_of_pos _ _ hk
theorem nB_scale {t b k : Int} (hk : 0 < k) : nB (k * t) (k * b) = nB t b := by
  unfold nB
  rw [dv_scale hk]
  exact Int.mul_fdiv_mul_of_pos _ _ hk
theorem dv_neg {t b : Int} (h : b ≠ 0) : dv (-t) (-b) = -dv t b := by
  unfold dv
  rw [Int.natAbs_neg, Int.natAbs_neg]
  by_cases q : b < 0
  · rw [if_pos q, if_neg (by omega), Int.neg_neg]
  · rw [if_neg q, if_pos (by omega)]
theorem nT_neg {t b : Int} (h : b ≠ 0) : nT (-t) (-b) = nT t b := by
  unfold nT
  rw [dv_neg h, Int.neg_fdiv_neg]
theorem nB_neg {t b : Int} (h : b ≠ 0) : nB (-t) (-b) = nB t b := by
  unfold nB
  rw [dv_neg h, Int.neg_fdiv_neg]
theorem n_gcd {t b : Int} (h : b ≠ 0) : Nat.gcd (nT t b).natAbs (nB t b).natAbs = 1 := by
  have e1 := congrArg Int.natAbs (nT_mul (t := t) h)
  have e2 := congrArg Int.natAbs (nB_mul (t := t) h)
  rw [Int.natAbs_mul] at e1 e2
  have ed : (dv t b).natAbs = Nat.gcd t.natAbs b.natAbs := by
    unfold dv
    split <;> omega
  have g : Nat.gcd t.natAbs b.natAbs = Nat.gcd (nT t b).natAbs (nB t b).natAbs * (dv t b).natAbs := by
    rw [← Nat.gcd_mul_right, e1, e2]
  have z : 0 < (dv t b).natAbs := Int.natAbs_pos.mpr (dv_ne h)
  rw [ed] at g z
  exact Nat.eq_of_mul_eq_mul_right z (by rw [Nat.one_mul]; exact g.symm)
theorem dv_n {t b : Int} (h : b ≠ 0) : dv (nT t b) (nB t b) = 1 := by
  have p := nB_pos (t := t) h
  unfold dv
  rw [if_neg (by omega), n_gcd h]
  rfl
theorem nT_n {t b : Int} (h : b ≠ 0) : nT (nT t b) (nB t b) = nT t b := by
  show (nT t b).fdiv (dv (nT t b) (nB t b)) = _
  rw [dv_n h, Int.fdiv_one]
theorem nB_n {t b : Int} (h : b ≠ 0) : nB (nT t b) (nB t b) = nB t b := by
  show (nB t b).fdiv (dv (nT t b) (nB t b)) = _
  rw [dv_n h, Int.fdiv_one]
theorem n_int {t b n : Int} (h : b ≠ 0) : (nB t b = 1 ∧ nT t b = n) ↔ n * b = t := by
  constructor
  · rintro ⟨e1, e2⟩
    have m1 := nT_mul (t := t) h
    have m2 := nB_mul (t := t) h
    rw [e2] at m1
    rw [e1, Int.one_mul] at m2
    rw [m2] at m1
    exact m1
  · intro e
    have d : dv t b = b := by
      have hn : Nat.gcd t.natAbs b.natAbs = b.natAbs := by
        rw [← e, Int.natAbs_mul]
        exact Nat.gcd_mul_left_left _ _
      unfold dv
      rw [hn]
      split <;> omega
    unfold nB nT
    rw [d]
    refine ⟨Int.fdiv_self h, ?_⟩
    rw [← e, Int.mul_fdiv_cancel _ h]
end FR
set_option Elab.async false
set_option linter.all false
namespace FR
/-! ### pairs in least form -/
def Lf (t b : Int) : Prop := 0 < b ∧ Nat.gcd t.natAbs b.natAbs = 1
theorem Lf.dv1 {t b : Int} (h : Lf t b) : dv t b = 1 := by
  unfold dv
  rw [if_neg (by have := h.1; omega), h.2]
  rfl
theorem Lf.nT {t b : Int} (h : Lf t b) : nT t b = t := by
  unfold FR.nT
  rw [h.dv1, Int.fdiv_one]
theorem Lf.nB {t b : Int} (h : Lf t b) : nB t b = b := by
  unfold FR.nB
  rw [h.dv1, Int.fdiv_one]
theorem Lf.ne {t b : Int} (h : Lf t b) : b ≠ 0 := by have := h.1; omega
theorem lf_n {t b : Int} (h : b ≠ 0) : Lf (nT t b) (nB t b) := ⟨nB_pos h, n_gcd h⟩
theorem Lf.neg {t b : Int} (h : Lf t b) : Lf (-t) b := ⟨h.1, by rw [Int.natAbs_neg]; exact h.2⟩
theorem Lf.one (t : Int) : Lf t 1 := ⟨by decide, Nat.gcd_one_right _⟩
/-- forms of one fraction have one least form -/
theorem n_mul {t b k : Int} (hb : b ≠ 0) (hk : k ≠ 0) : nT (k * t) (k * b) = nT t b ∧ nB (k * t) (k * b) = nB t b := by
  rcases Int.lt_or_gt_of_ne hk with q | q
  · have e1 : k * t = -((-k) * t) := by rw [Int.neg_mul, Int.neg_neg]
    have e2 : k * b = -((-k) * b) := by rw [Int.neg_mul, Int.neg_neg]
    have n0 : -k * b ≠ 0 := Int.mul_ne_zero (by omega) hb
    rw [e1, e2, nT_neg n0, nB_neg n0, nT_scale (by omega), nB_scale (by omega)]
    exact ⟨rfl, rfl⟩
  · rw [nT_scale q, nB_scale q]
    exact ⟨rfl, rfl⟩
theorem n_cross {t b t' b' : Int} (hb : b ≠ 0) (hb' : b' ≠ 0) (h : t * b' = t' * b) : nT t b = nT t' b' ∧ nB t b = nB t' b' := by
  obtain ⟨a1, a2⟩ := n_mul (t := t) hb hb'
  obtain ⟨c1, c2⟩ := n_mul (t := t') hb' hb
  have e1 : b' * t = b * t' := by rw [Int.mul_comm, h, Int.mul_comm]
  have e2 : b' * b = b * b' := Int.mul_comm _ _
  rw [e1, e2] at a1 a2
  exact ⟨a1.symm.trans c1, a2.symm.trans c2⟩
/-- the least form, by its cross -/
theorem n_back {t b : Int} (hb : b ≠ 0) : nT t b * b = t * nB t b := by
  have e1 := nT_mul (t := t) hb
  have e2 := nB_mul (t := t) hb
  generalize nT t b = x at *
  generalize nB t b = y at *
  generalize dv t b = d at *
  subst e1
  rw [← e2, Int.mul_comm y d, ← Int.mul_assoc]
abbrev PI := Int × Int
def plusP (a c : PI) : PI := (nT (a.1 * c.2 + c.1 * a.2) (a.2 * c.2), nB (a.1 * c.2 + c.1 * a.2) (a.2 * c.2))
def sumP (ps : List PI) : PI := ps.foldl plusP (0, 1)
def lc (a b : Int) : Int := ((Nat.lcm a.natAbs b.natAbs : Nat) : Int)
def lcmP (ps : List PI) : Int := ps.foldl (fun a p => lc a p.2) 1
def topsP (ps : List PI) (m : Int) : List Int := ps.map fun p => p.1 * m.fdiv p.2
def AllLf (ps : List PI) : Prop := ∀ p ∈ ps, Lf p.1 p.2
theorem take_snoc {α : Type} {l : List α} {i : Nat} {x : α} (h : l[i]? = some x) : l.take (i + 1) = l.take i ++ [x] := by
  rw [List.take_add_one, h]
  rfl
theorem lc_dvd (a b : Int) : a ∣ lc a b ∧ b ∣ lc a b := ⟨Int.natAbs_dvd.mp (Int.ofNat_dvd.mpr (Nat.dvd_lcm_left _ _)), Int.natAbs_dvd.mp (Int.ofNat_dvd.mpr (Nat.dvd_lcm_right _ _))⟩
theorem lc_pos {a b : Int} (h : 0 < a) (g : 0 < b) : 0 < lc a b := by
  have z : 0 < Nat.lcm a.natAbs b.natAbs := Nat.lcm_pos (by omega) (by omega)
  unfold lc
  omega
theorem lc_le {a b : Int} {n m : Nat} (h : 0 < a) (g : 0 < b) (ha : a.natAbs < 2 ^ n) (hb : b.natAbs < 2 ^ m) : (lc a b).natAbs < 2 ^ (n + m) := by
  show Nat.lcm _ _ < _
  rw [Nat.pow_add]
  refine Nat.lt_of_le_of_lt (Nat.le_of_dvd (Nat.mul_pos (by omega) (by omega)) (Nat.lcm_dvd_mul _ _)) (Nat.mul_lt_mul'' ha hb)
theorem lcmP_snoc (ps : List PI) (p : PI) : lcmP (ps ++ [p]) = lc (lcmP ps) p.2 := by
  unfold lcmP
  rw [List.foldl_append]
  rfl
theorem sumP_snoc (ps : List PI) (p : PI) : sumP (ps ++ [p]) = plusP (sumP ps) p := by
  unfold sumP
  rw [List.foldl_append]
  rfl
theorem snoc_ind {α : Type} {Q : List α → Prop} (h0 : Q []) (h : ∀ l x, Q l → Q (l ++ [x])) (l : List α) : Q l := by
  have z : ∀ n (l : List α), l.length = n → Q l := by
    intro n
    induction n with
    | zero =>
      intro l e
      rw [List.length_eq_zero_iff.mp e]
      exact h0
    | succ n ih =>
      intro l e
      have e1 : l ≠ [] := by rintro rfl; exact absurd e (by simp)
      rw [← List.dropLast_concat_getLast e1]
      exact h _ _ (ih _ (by rw [List.length_dropLast, e]; rfl))
  exact z _ l rfl
theorem AllLf.init {ps : List PI} {p : PI} (h : AllLf (ps ++ [p])) : AllLf ps ∧ Lf p.1 p.2 :=
  ⟨fun q m => h q (List.mem_append_left _ m), h p (List.mem_append_right _ (List.mem_singleton.mpr rfl))⟩
theorem lcmP_pos {ps : List PI} (h : AllLf ps) : 0 < lcmP ps := by
  induction ps using snoc_ind with
  | h0 => decide
  | h l x ih =>
    rw [lcmP_snoc]
    exact lc_pos (ih h.init.1) h.init.2.1
theorem lcmP_dvd (ps : List PI) : ∀ p ∈ ps, p.2 ∣ lcmP ps := by
  induction ps using snoc_ind with
  | h0 => exact fun p m => absurd m (by simp)
  | h l x ih =>
    intro p m
    rw [lcmP_snoc]
    rcases List.mem_append.mp m with m | m
    · exact Int.dvd_trans (ih p m) (lc_dvd _ _).1
    · rw [List.mem_singleton.mp m]
      exact (lc_dvd _ _).2
theorem fdiv_mul {m b : Int} (h : b ∣ m) : m.fdiv b * b = m := Int.fdiv_mul_cancel h
theorem fdiv_le {m b : Int} (h : b ∣ m) (hb : 0 < b) : (m.fdiv b).natAbs ≤ m.natAbs := by
  have e := congrArg Int.natAbs (fdiv_mul h)
  rw [Int.natAbs_mul] at e
  rw [← e]
  exact Nat.le_mul_of_pos_right _ (by omega)
theorem sumP_lf {ps : List PI} (h : AllLf ps) : Lf (sumP ps).1 (sumP ps).2 := by
  induction ps using snoc_ind with
  | h0 => exact Lf.one 0
  | h l x ih =>
    rw [sumP_snoc]
    exact lf_n (Int.mul_ne_zero (ih h.init.1).ne h.init.2.ne)
/-- the sum of the tops over any bottom that serves, against the sum of the pairs -/
theorem sum_cross {ps : List PI} (h : AllLf ps) {m : Int} (hm : ∀ p ∈ ps, p.2 ∣ m) : (topsP ps m).sum * (sumP ps).2 = (sumP ps).1 * m := by
  induction ps using snoc_ind with
  | h0 => simp [topsP, sumP]
  | h l x ih =>
    have i1 := ih h.init.1 fun p k => hm p (List.mem_append_left _ k)
    have l0 := sumP_lf h.init.1
    have lx := h.init.2
    have dx := fdiv_mul (hm x (List.mem_append_right _ (List.mem_singleton.mpr rfl)))
    have nb := n_back (t := (sumP l).1 * x.2 + x.1 * (sumP l).2) (Int.mul_ne_zero l0.ne lx.ne)
    have hb := Int.mul_ne_zero l0.ne lx.ne
    have e1 : (topsP (l ++ [x]) m).sum = (topsP l m).sum + x.1 * m.fdiv x.2 := by
      unfold topsP
      rw [List.map_append, List.sum_append]
      simp
    rw [sumP_snoc, e1]
    show (_ + _) * nB _ _ = nT _ _ * m
    refine Int.eq_of_mul_eq_mul_right hb ?_
    generalize nT ((sumP l).1 * x.2 + x.1 * (sumP l).2) ((sumP l).2 * x.2) = N at *
    generalize nB ((sumP l).1 * x.2 + x.1 * (sumP l).2) ((sumP l).2 * x.2) = B at *
    generalize (sumP l).1 = s at *
    generalize (sumP l).2 = u at *
    generalize x.1 = p at *
    generalize x.2 = q at *
    generalize m.fdiv q = d at *
    generalize (topsP l m).sum = T at *
    have a1 : N * m * (u * q) = N * (u * q) * m := by ac_rfl
    have a2 : (T + p * d) * B * (u * q) = ((T * u) * q + (p * u) * (d * q)) * B := by
      rw [Int.add_mul, Int.add_mul, Int.add_mul]
      ac_rfl
    rw [a1, a2, nb, i1, dx]
    rw [Int.add_mul, Int.add_mul, Int.add_mul]
    ac_rfl
theorem total_is {ps : List PI} (h : AllLf ps) : nT (topsP ps (lcmP ps)).sum (lcmP ps) = (sumP ps).1 ∧ nB (topsP ps (lcmP ps)).sum (lcmP ps) = (sumP ps).2 := by
  have l := sumP_lf h
  have c := n_cross (t := (topsP ps (lcmP ps)).sum) (b := lcmP ps) (t' := (sumP ps).1) (b' := (sumP ps).2) (by have := lcmP_pos h; omega) l.ne (sum_cross h (lcmP_dvd ps))
  rw [l.nT, l.nB] at c
  exact c
/-! ### the least and the greatest one -/
def lessP (a c : PI) : Bool := decide (a.1 * c.2 < c.1 * a.2)
def leastP (a c : PI) : PI := if lessP c a then c else a
def mostP (a c : PI) : PI := if lessP a c then c else a
def fDown (t b n : Int) : Int := (t * n).fdiv b
def fUp (t b n : Int) : Int := if fDown t b n * b = t * n then fDown t b n else fDown t b n + 1
theorem up_is {t b n : Int} (hb : 0 < b) : -((-t * n).fdiv b) = fUp t b n := by
  have e : -t * n = -(t * n) := Int.neg_mul _ _
  unfold fUp fDown
  rw [e]
  generalize t * n = x
  rw [Int.fdiv_eq_ediv_of_nonneg _ (Int.le_of_lt hb), Int.fdiv_eq_ediv_of_nonneg _ (Int.le_of_lt hb)]
  have d := Int.mul_ediv_add_emod x b
  have m0 := Int.emod_nonneg x (by omega : b ≠ 0)
  have m1 := Int.emod_lt_of_pos x hb
  rw [Int.mul_comm] at d
  generalize x / b = q at *
  by_cases z : q * b = x
  · rw [if_pos z, ← z, ← Int.neg_mul, Int.mul_ediv_cancel _ (by omega), Int.neg_neg]
  · rw [if_neg z]
    have s : -x = (b - x % b) + (-(q + 1)) * b := by
      rw [Int.neg_mul, Int.add_mul, Int.one_mul]
      omega
    rw [s, Int.add_mul_ediv_right _ _ (by omega), Int.ediv_eq_zero_of_lt (by omega) (by omega)]
    omega
end FR
set_option Elab.async false
set_option linter.all false
set_option maxRecDepth 100000
set_option maxHeartbeats 4000000
namespace FR
open PySem PySem.Spec PyProof.Rows L2
/-! ### math.lcm -/
def rLcm : List V → Hp → VK → Prop := fun vs H Q => ∃ a b : Int, vs = [.int a, .int b] ∧ 0 < a ∧ 0 < b ∧ a.natAbs < 2 ^ 3000 ∧ b.natAbs < 2 ^ 3000 ∧ Q (.int (lc a b)) H
theorem cr_lcm {X : Cx} : CallR X (.builtin "math.lcm") rLcm := by
  intro pins s σ H vs us Q I r h
  obtain ⟨a, b, rfl, pa, pb, za, zb, q⟩ := h
  obtain ⟨t, u, rfl⟩ := Vals.int2 r
  have h1 : (max 1 a.natAbs).log2 < 3000 := PySem.Flt.log2_lt_of (by decide) (Nat.max_lt.mpr ⟨by decide +kernel, za⟩)
  have h2 : (max a.natAbs b.natAbs).log2 < 3000 := PySem.Flt.log2_lt_of (by decide) (Nat.max_lt.mpr ⟨za, zb⟩)
  have e : (Nat.lcm 1 a.natAbs).lcm b.natAbs = Nat.lcm a.natAbs b.natAbs := by rw [Nat.lcm_one_left]
  have g := PySem.W.mg_run_lcm a t b u (by omega) (by omega) (by
    rw [e]
    have : (lc a b).natAbs.log2 < 6000 := PySem.Flt.log2_lt_of (by decide) (lc_le pa pb za zb)
    show (lc a b).natAbs.log2 < bitsLine
    rw [bitsLine_eq]
    omega)
  rw [e] at g
  exact call_function_meets PySem.W.MGF.kind_lcm PySem.W.MGF.plain_lcm PySem.W.MGF.entry_lcm (PySem.W.MGF.args_lcm _ _) g.meets ⟨.int _, H, I.tok _, ⟨_, rfl⟩, q⟩
/-! ### lists of values that stand for pairs -/
def A2 (R : V → PI → Prop) (vs : List V) (ps : List PI) : Prop := vs.length = ps.length ∧ ∀ (i : Nat) (v : V), vs[i]? = some v → ∃ p : PI, ps[i]? = some p ∧ R v p
theorem A2.nil {R : V → PI → Prop} : A2 R [] [] := ⟨rfl, fun i v h => by simp at h⟩
theorem A2.cons {R : V → PI → Prop} {v : V} {p : PI} {vs : List V} {ps : List PI} (r : R v p) (h : A2 R vs ps) : A2 R (v :: vs) (p :: ps) := by
  refine ⟨by simp [h.1], fun i x hx => ?_⟩
  cases i with
  | zero => exact ⟨p, rfl, by cases hx; exact r⟩
  | succ i => exact h.2 i x hx
theorem A2.uncons {R : V → PI → Prop} {v : V} {p : PI} {vs : List V} {ps : List PI} (h : A2 R (v :: vs) (p :: ps)) : R v p ∧ A2 R vs ps := by
  refine ⟨?_, by simpa using h.1, fun i x hx => h.2 (i + 1) x hx⟩
  obtain ⟨q, e, r⟩ := h.2 0 v rfl
  cases e
  exact r
theorem A2.snoc {R : V → PI → Prop} {v : V} {p : PI} : ∀ {vs : List V} {ps : List PI}, A2 R vs ps → R v p → A2 R (vs ++ [v]) (ps ++ [p])
  | [], [], _, r => A2.cons r A2.nil
  | _ :: _, _ :: _, h, r => A2.cons h.uncons.1 (A2.snoc h.uncons.2 r)
  | [], _ :: _, h, _ => absurd h.1 (by simp)
  | _ :: _, [], h, _ => absurd h.1 (by simp)
theorem A2.imp {R R' : V → PI → Prop} {vs : List V} {ps : List PI} (h : A2 R vs ps) (f : ∀ v p, R v p → R' v p) : A2 R' vs ps := ⟨h.1, fun i v e => by
  obtain ⟨p, e', r⟩ := h.2 i v e
  exact ⟨p, e', f v p r⟩⟩
/-- a fraction, as an object -/
def FR1 (C : Addr) (H : Hp) (v : V) (p : PI) : Prop := ∃ q, v = .ref q ∧ FrAt C H q p.1 p.2
/-- a pair of integers, as a tuple -/
def TP1 (H : Hp) (v : V) (p : PI) : Prop := ∃ q, v = .ref q ∧ H q = some (.tup [.int p.1, .int p.2])
abbrev FVs (C : Addr) (H : Hp) (vs : List V) (ps : List PI) : Prop := A2 (fun v p => FV C H v p.1 p.2) vs ps
abbrev FRs (C : Addr) (H : Hp) (vs : List V) (ps : List PI) : Prop := A2 (FR1 C H) vs ps
abbrev TPs (H : Hp) (vs : List V) (ps : List PI) : Prop := A2 (TP1 H) vs ps
theorem FrAt.updl {C : Addr} {H : Hp} {p D : Addr} {t b : Int} {xs : List V} {o : HO} (h : FrAt C H p t b) (hD : H D = some (.lst xs)) : FrAt C (upd H D o) p t b := by
  obtain ⟨dx, e⟩ := h
  exact ⟨dx, by rw [upd_ne fun z => by rw [z, hD] at e; cases e]; exact e⟩
theorem tup_updl {H : Hp} {p D : Addr} {ys xs : List V} {o : HO} (h : H p = some (.tup ys)) (hD : H D = some (.lst xs)) : upd H D o p = some (.tup ys) := by
  rw [upd_ne fun z => by rw [z, hD] at h; cases h]
  exact h
theorem FRs.updl {C : Addr} {H : Hp} {D : Addr} {xs : List V} {o : HO} {vs : List V} {ps : List PI} (h : FRs C H vs ps) (hD : H D = some (.lst xs)) : FRs C (upd H D o) vs ps :=
  A2.imp h fun _ _ ⟨q, e, f⟩ => ⟨q, e, f.updl hD⟩
theorem TPs.updl {H : Hp} {D : Addr} {xs : List V} {o : HO} {vs : List V} {ps : List PI} (h : TPs H vs ps) (hD : H D = some (.lst xs)) : TPs (upd H D o) vs ps :=
  A2.imp h fun _ _ ⟨q, e, f⟩ => ⟨q, e, tup_updl f hD⟩
theorem FRs.same {C : Addr} {H H' : Hp} {vs : List V} {ps : List PI} (h : FRs C H vs ps) (s : Same H H') : FRs C H' vs ps := A2.imp h fun _ _ ⟨q, e, f⟩ => ⟨q, e, f.same s⟩
theorem FVs.same {C : Addr} {H H' : Hp} {vs : List V} {ps : List PI} (h : FVs C H vs ps) (s : Same H H') : FVs C H' vs ps := A2.imp h fun _ _ f => f.same s
theorem TPs.same {H H' : Hp} {vs : List V} {ps : List PI} (h : TPs H vs ps) (s : Same H H') : TPs H' vs ps := A2.imp h fun _ _ ⟨q, e, f⟩ => ⟨q, e, s _ _ f⟩
theorem same_grow {H H' : Hp} {D : Addr} {o : HO} (hD : H D = none) (s : Same H H') : Same H (upd H' D o) := fun q o' e => by
  rw [upd_ne (ne_of_none e hD)]
  exact s _ _ e
theorem same_new {H : Hp} {p : Addr} {o : HO} (h : H p = none) : Same H (upd H p o) := fun q o' e => by rw [upd_ne (ne_of_none e h)]; exact e
/-! ### is_at_least, is_fractions -/
section
variable {P : Program} {w : World} {K : PySem.W.Frag} {mg : Str → Option Value} {base : Heap} {C fI pT gT pB gB : Addr} {fdI fdT fdB : FuncData}
abbrev sAtl : Stmt := top 8
theorem scAtl : FnScope ["value", "least"] ["value", "least"] (defScope sAtl) := ⟨rfl, rfl, rfl, by decide +kernel, rfl, by decide +kernel, by decide +kernel⟩
def spAtl : Sp := fun vs H Q _ => ∃ i lo : Int, vs = [.int i, .int lo] ∧ lo ≤ i ∧ Q (.bl true) H
theorem ok_atl {f fP : Addr} {fd fdP : FuncData} (F : Fun K "is_at_least" "is_at_least" sAtl f fd) (GP : FnOk P w K mg base CX0 1 fP fdP ["value"] (spPlain K)) (mP : mg "is_plain_integer" = some (.ref fP))
    (kP : PySem.W.keepIn K (.ref fP) = true) (bP : Binds K fdP ["value"] []) : FnOk P w K mg base CX0 2 f fd ["value", "least"] spAtl := by
  refine F.ok scAtl (fun vs H Q E h => ?_) (fun cdv A outer s H vs Q E hr h => ?_)
  · obtain ⟨i, lo, rfl, _⟩ := h
    rfl
  · obtain ⟨i, lo, rfl, h1, q⟩ := h
    refine ⟨_, pss_one (ps_ret (pe_and (pe_call GP hr (by rfl) mP kP bP .nil pass0 (pa_cons (pv 0) pa_nil)) (pe_one (pe_cmpR op_ge (pv 0) (pv 1) (nomark _))))), ?_⟩
    refine ⟨_, rfl, _, _, true, false, rfl, .base (.int i), kI1, kI2, _, rfl, ?_⟩
    refine ⟨_, rfl, _, rfl, _, _, rfl, rfl, ?_⟩
    show Q (.bl (decide (lo ≤ i))) H
    rw [decide_eq_true h1]
    exact q
abbrev sFs : Stmt := top 15
abbrev NFs : List Str := ["value", "one"]
theorem scFs : FnScope NFs ["value"] (defScope sFs) := ⟨rfl, rfl, rfl, by decide +kernel, rfl, by decide +kernel, by decide +kernel⟩
/-- a tuple of fractions, few and short -/
structure Tf (C : Addr) (H : Hp) (tp : Addr) (ps : List PI) : Prop where
  at_ : ∃ xs, H tp = some (.tup xs) ∧ FVs C H xs ps
  few : ps.length ≤ 5
  lf : AllLf ps
  sz : ∀ p ∈ ps, p.1.natAbs < 2 ^ 240 ∧ p.2.natAbs < 2 ^ 240
theorem Tf.same {H H' : Hp} {tp : Addr} {ps : List PI} (t : Tf C H tp ps) (s : Same H H') : Tf C H' tp ps := by
  obtain ⟨⟨xs, h, f⟩, a, b, c⟩ := t
  exact ⟨⟨xs, s _ _ h, f.same s⟩, a, b, c⟩
def spFs (C : Addr) : Sp := fun vs H Q _ => ∃ (tp : Addr) (ps : List PI), vs = [.ref tp] ∧ Tf C H tp ps ∧ ∀ H', Same H H' → Q (.bl true) H'
theorem ok_fs {f fF : Addr} {fd fdF : FuncData} (F : Fun K "is_fractions" "is_fractions" sFs f fd) (GF : FnOk P w K mg base CX0 2 fF fdF ["value"] (spIsF K C)) (mF : mg "is_fraction" = some (.ref fF))
    (kF : PySem.W.keepIn K (.ref fF) = true) (bF : Binds K fdF ["value"] []) (m1 : mg "isinstance" = none) (m2 : mg "tuple" = none) (m3 : mg "all" = none) : FnOk P w K mg base CX0 3 f fd ["value"] (spFs C) := by
  refine F.ok scFs (fun vs H Q E h => ?_) (fun cdv A outer s H vs Q E hr h => ?_)
  · obtain ⟨tp, ps, rfl, _⟩ := h
    rfl
  · obtain ⟨tp, ps, rfl, ⟨⟨xs, hx, hf⟩, hn, _, _⟩, q⟩ := h
    refine ⟨_, pss_one (ps_ret (pe_and (pe_callB call_isi (by rfl) m1 PyProof.Rows.boot_isinstance (pa_cons (pv 0) (pa_cons (pe_bltn (v := .ty "tuple") (by rfl) m2 (by decide +kernel) rfl) pa_nil)))
      (pe_one (pe_callB (cr_all rfl) (by rfl) m3 (by decide +kernel) (pa_cons (pe_lc (own := [("one", 1)]) (g := gName 1) (tt := tYes) rfl scFs.nd (pi_tup (pv 0)) (blkOk_by (N := NFs) (sc := defScope sFs) (by decide +kernel))
        (fun _ _ _ _ _ => pg_name (i := 1) scFs.nd rfl (.inl rfl)) (fun _ _ _ _ _ => pts_nil) (fun _ _ _ _ _ => pe_call GF hr (by rfl) mF kF bF .nil pass0 (pa_cons (pv 1) pa_nil))) pa_nil))))), ?_⟩
    refine ⟨_, rfl, _, _, _, _, true, rfl, .ty _, .base (.tup hx), kit_ty (by decide +kernel), _, rfl, ?_⟩
    refine ⟨_, rfl, tp, rfl, ⟨_, SqT.of hx⟩, fun D hD => ?_⟩
    refine lc_tup (xs := xs) (fun i Hc => Same H Hc ∧ Hc D = some (.lst ((List.replicate i true).map V.bl))) ⟨same_new hD, upd_same⟩ (fun i Hc _ p => SqT.of (p.1 _ _ hx)) ?_ ?_
    · rintro i v Hc hv ⟨sm, hDc⟩
      obtain ⟨p, hp, fv⟩ := hf.2 i v hv
      have hi : i < ps.length := (List.getElem?_eq_some_iff.mp hp).1
      have isf : IsFr K C Hc v true := by
        rcases fv.same sm with ⟨q', e, z⟩ | ⟨e, _⟩
        · exact .inl ⟨q', _, _, e, z, rfl⟩
        · exact .inr (.inl ⟨_, e, rfl⟩)
      refine ⟨rfl, _, rfl, v, true, rfl, isf, _, hDc, small1000 (by rw [List.length_map, List.length_replicate]; omega), same_grow hD sm, ?_⟩
      rw [List.replicate_succ', List.map_append]
      exact upd_same
    · rintro Hc ⟨sm, hDc⟩
      refine ⟨D, _, rfl, SqL.of hDc, ?_⟩
      have e : (List.replicate xs.length true).all id = true := by simp
      rw [e]
      exact q _ sm
end
end FR
set_option Elab.async false
set_option linter.all false
set_option maxRecDepth 100000
set_option maxHeartbeats 4000000
namespace FR
open PySem PySem.Spec PyProof.Rows L2
section
variable {P : Program} {w : World} {K : PySem.W.Frag} {mg : Str → Option Value} {base : Heap} {C fI pT gT pB gB : Addr} {fdI fdT fdB : FuncData}
/-! ### over_one_bottom -/
theorem pow_up {x : Int} {n m : Nat} (h : x.natAbs < 2 ^ n) (g : n ≤ m) : x.natAbs < 2 ^ m := Nat.lt_of_lt_of_le h (Nat.pow_le_pow_right (by decide) g)
theorem lcmP_sz {ps : List PI} (h : AllLf ps) (hs : ∀ p ∈ ps, p.1.natAbs < 2 ^ 240 ∧ p.2.natAbs < 2 ^ 240) : (lcmP ps).natAbs < 2 ^ (240 * ps.length + 1) := by
  induction ps using snoc_ind with
  | h0 => decide
  | h l x ih =>
    rw [lcmP_snoc]
    have i1 := ih h.init.1 fun p m => hs p (List.mem_append_left _ m)
    have z := lc_le (lcmP_pos h.init.1) h.init.2.1 i1 (hs x (List.mem_append_right _ (List.mem_singleton.mpr rfl))).2
    refine pow_up z ?_
    rw [List.length_append, List.length_singleton]
    omega
theorem take_all {α : Type} {ps : List α} {n : Nat} (h : n = ps.length) : ps.take n = ps := by rw [h, List.take_length]
abbrev sOver : Stmt := top 16
abbrev NOv : List Str := ["fractions", "parts", "bottom", "part", "one"]
theorem scOv : FnScope NOv ["fractions"] (defScope sOver) := ⟨rfl, rfl, rfl, by decide +kernel, rfl, by decide +kernel, by decide +kernel⟩
def spOver (C : Addr) : Sp := fun vs H Q _ => ∃ (tp : Addr) (ps : List PI), vs = [.ref tp] ∧ Tf C H tp ps ∧
  ∀ a b H', H' a = some (.lst ((topsP ps (lcmP ps)).map V.int)) → H' b = some (.tup [.ref a, .int (lcmP ps)]) → Same H H' → Q (.ref b) H'
theorem ok_over {f fA : Addr} {fd fdA : FuncData} (F : Fun K "over_one_bottom" "over_one_bottom" sOver f fd) (k : FrK P w K mg base C fI pT gT pB gB fdI fdT fdB) (GA : FnOk P w K mg base CX0 4 fA fdA ["value"] (spAs C)) (mA : mg "as_fraction" = some (.ref fA))
    (kA : PySem.W.keepIn K (.ref fA) = true) (bA : Binds K fdA ["value"] []) (mL : mg "lcm" = some (.builtin "math.lcm")) : FnOk P w K mg base CX0 5 f fd ["fractions"] (spOver C) := by
  refine F.ok scOv (fun vs H Q E h => ?_) (fun cdv A outer s H vs Q E hr h => ?_)
  · obtain ⟨tp, ps, rfl, _⟩ := h
    rfl
  · obtain ⟨tp, ps, rfl, ⟨⟨xs, hx, hf⟩, hn, hl, hz⟩, q⟩ := h
    have hr4 := hr.mono (j := 4) (by decide)
    have hr2 := hr.mono (j := 2) (by decide)
    refine ⟨_, pss_cons (ps_setLc (i := 1) (own := [("one", 4)]) (g := gName 4) (tt := tYes) rfl scOv.nd rfl rfl (sw_true rfl rfl rfl (by decide +kernel)) (pi_tup (pv 0)) (blkOk_by (N := NOv) (sc := defScope sOver) (by decide +kernel))
        (fun _ _ _ _ _ => pg_name (i := 4) scOv.nd rfl (.inl rfl)) (fun _ _ _ _ _ => pts_nil) (fun _ _ _ _ _ => pe_call GA hr4 (by rfl) mA kA bA .nil pass0 (pa_cons (pv 4) pa_nil)))
      (pss_cons (ps_set (i := 2) scOv.nd rfl (Or.inr rfl) pe_int)
      (pss_cons (ps_for PassesOwn.never rfl (pi_list (pv 1)) (pg_name (i := 3) scOv.nd rfl (.inl rfl))
        (pss_one (ps_set (i := 2) scOv.nd rfl (Or.inr rfl) (pe_callBfun cr_lcm (by rfl) mL (pa_cons (pv 2) (pa_cons (pe_prop (pv 3) k.T.cl k.oB k.GB hr2 k.bB .nil pass0 rfl) pa_nil))))))
      (pss_one (ps_ret (pe_tup (pa_cons (pe_lc (own := [("part", 3)]) (g := gName 3) (tt := tYes) rfl scOv.nd (pi_list (pv 1)) (blkOk_by (N := NOv) (sc := defScope sOver) (by decide +kernel))
          (fun _ _ _ _ _ => pg_name (i := 3) scOv.nd rfl (.inl rfl)) (fun _ _ _ _ _ => pts_nil)
          (fun _ _ _ _ _ => pe_op op_mulW (pe_prop (pv 3) k.T.cl k.oT k.GT hr2 k.bT .nil pass0 rfl) (pe_op op_fdivX (pv 2) (pe_prop (pv 3) k.T.cl k.oB k.GB hr2 k.bB .nil pass0 rfl)))) (pa_cons (pv 2) pa_nil))))))), ?_⟩
    refine ⟨_, rfl, tp, rfl, ⟨_, SqT.of hx⟩, fun D hD => ?_⟩
    refine lc_tup (xs := xs) (fun i Hc => Same H Hc ∧ ∃ vs, Hc D = some (.lst vs) ∧ FRs C Hc vs (ps.take i)) ⟨same_new hD, [], upd_same, A2.nil⟩ (fun i Hc _ p => SqT.of (p.1 _ _ hx)) ?_ ?_
    · rintro i v Hc hv ⟨sm, vs, hDc, hr'⟩
      obtain ⟨p, hp, fv⟩ := hf.2 i v hv
      have hi : i < ps.length := (List.getElem?_eq_some_iff.mp hp).1
      refine ⟨rfl, _, rfl, v, p.1, p.2, rfl, fv.same sm, fun y H2 hy s2 => ?_⟩
      refine ⟨vs, s2 _ _ hDc, small1000 (by rw [hr'.1, List.length_take]; omega), same_grow hD (sm.trans s2), vs ++ [.ref y], upd_same, ?_⟩
      rw [take_snoc hp]
      exact A2.snoc ((hr'.same s2).updl (s2 _ _ hDc)) ⟨y, rfl, hy.updl (s2 _ _ hDc)⟩
    rintro H1 ⟨s1, vs, hD1, hv⟩
    rw [hf.1, List.take_length] at hv
    refine ⟨_, rfl, D, rfl, ⟨_, SqL.of hD1⟩, ?_⟩
    have few : vs.length ≤ 5 := by rw [hv.1]; exact hn
    refine for_list (xs := vs) (fun i σ Hc => Hc = H1 ∧ ∃ x3 : Option V, σ = [some (.ref tp), some (.ref D), some (.int (lcmP (ps.take i))), x3, none]) ⟨rfl, none, rfl⟩ (fun i σ Hc _ p => by rw [p.1]; exact SqL.of hD1) ?_ ?_
    · rintro i v σ Hc hvi ⟨rfl, x3, rfl⟩
      obtain ⟨p, hp, y, rfl, hy⟩ := hv.2 i v hvi
      obtain ⟨dy, hyi⟩ := id hy
      have mp : p ∈ ps := List.mem_of_getElem? hp
      have sub : ∀ q ∈ ps.take i, q ∈ ps := fun q hq => List.mem_of_mem_take hq
      have l1 : AllLf (ps.take i) := fun q hq => hl q (sub q hq)
      have z1 := lcmP_sz l1 fun q hq => hz q (sub q hq)
      have i5 : (ps.take i).length ≤ 5 := by rw [List.length_take]; omega
      refine ⟨_, rfl, _, rfl, y, dy, _, rfl, hyi, y, dy, _, _, rfl, hyi, fl_bot _ _, _, _, rfl, lcmP_pos l1, (hl p mp).1, pow_up z1 (by omega), pow_up (hz p mp).2 (by decide), rfl, some (.ref y), ?_⟩
      rw [take_snoc hp, lcmP_snoc]
      rfl
    rintro σ Hc ⟨rfl, x3, rfl⟩
    rw [take_all hv.1]
    refine ⟨_, rfl, D, rfl, ⟨_, SqL.of hD1⟩, fun D2 hD2 => ?_⟩
    have mz : (lcmP ps).natAbs < 2 ^ 1201 := pow_up (lcmP_sz hl hz) (by omega)
    refine lc_list (xs := vs) (fun i Hx => Same Hc Hx ∧ Hx D2 = some (.lst ((topsP (ps.take i) (lcmP ps)).map V.int))) ⟨same_new hD2, upd_same⟩ (fun i Hx _ p => SqL.of (p.1 _ _ hD1)) ?_ ?_
    · rintro i v Hx hvi ⟨sm, hDx⟩
      obtain ⟨p, hp, y, rfl, hy⟩ := (hv.same sm).2 i v hvi
      obtain ⟨dy, hyi⟩ := id hy
      have mp : p ∈ ps := List.mem_of_getElem? hp
      have hi : i < ps.length := (List.getElem?_eq_some_iff.mp hp).1
      have dz := fdiv_le (lcmP_dvd ps p mp) (hl p mp).1
      refine ⟨rfl, _, rfl, y, dy, _, rfl, hyi, y, dy, _, _, rfl, hyi, fl_top _ _, ?_⟩
      refine ⟨_, rfl, _, rfl, y, dy, _, rfl, hyi, y, dy, _, _, rfl, hyi, fl_bot _ _, _, _, rfl, rfl, div_ok (hl p mp).ne (hz p mp).2 (by decide) (by decide), _, _, rfl, rfl, wide_mul (hz p mp).1 (Nat.lt_of_le_of_lt dz mz) (by decide) (by decide) (by decide), ?_⟩
      refine ⟨_, hDx, small1000 (by unfold topsP; rw [List.length_map, List.length_map, List.length_take]; omega), same_grow hD2 sm, ?_⟩
      unfold topsP
      rw [take_snoc hp, List.map_append, List.map_append]
      exact upd_same
    rintro Hx ⟨sm, hDx⟩
    rw [take_all hv.1] at hDx
    refine ⟨_, rfl, small1000 (by show 1 ≤ 1000; decide), fun b hb => ?_⟩
    exact q D2 b _ (same_new hb _ _ hDx) upd_same ((s1.trans sm).trans (same_new hb))
end
end FR
set_option Elab.async false
set_option linter.all false
set_option maxRecDepth 100000
set_option maxHeartbeats 4000000
namespace FR
open PySem PySem.Spec PyProof.Rows L2
/-- a def of the top, with its promise -/
structure Glo (P : Program) (w : World) (K : PySem.W.Frag) (mg : Str → Option Value) (base : Heap) (nm : Str) (n : Nat) (ps : List Str) (sp : Sp) where
  f : Addr
  fd : FuncData
  G : FnOk P w K mg base CX0 n f fd ps sp
  m : mg nm = some (.ref f)
  k : PySem.W.keepIn K (.ref f) = true
  b : Binds K fd ps []
/-- a method -/
structure Met (P : Program) (w : World) (K : PySem.W.Frag) (mg : Str → Option Value) (base : Heap) (C : Addr) (nm : Str) (n : Nat) (ps : List Str) (sp : Sp) where
  f : Addr
  fd : FuncData
  D : Dun K C nm f
  kp : PySem.W.keepIn K (.ref f) = true
  G : FnOk P w K mg base CX0 n f fd ps sp
  b : Binds K fd ps []
theorem at_zero {α : Type} (x : α) (xs : List α) : atI (x :: xs) 0 = some x := by
  unfold atI ixN
  rw [if_pos (by decide), if_pos (by rw [List.length_cons]; omega)]
  rfl
section
variable {P : Program} {w : World} {K : PySem.W.Frag} {mg : Str → Option Value} {base : Heap} {C fI pT gT pB gB : Addr} {fdI fdT fdB : FuncData}
/-! ### _some_fractions -/
abbrev sSome : Stmt := top 20
abbrev NSo : List Str := ["fractions", "one"]
theorem scSo : FnScope NSo ["fractions"] (defScope sSome) := ⟨rfl, rfl, rfl, by decide +kernel, rfl, by decide +kernel, by decide +kernel⟩
def spSome (C : Addr) : Sp := fun vs H Q _ => ∃ (tp : Addr) (ps : List PI), vs = [.ref tp] ∧ Tf C H tp ps ∧ ps ≠ [] ∧ ∀ a vs' H', H' a = some (.lst vs') → FRs C H' vs' ps → Same H H' → Q (.ref a) H'
theorem ok_some {f : Addr} {fd : FuncData} (F : Fun K "_some_fractions" "_some_fractions" sSome f fd) (gF : Glo P w K mg base "is_fractions" 3 ["value"] (spFs C)) (gA : Glo P w K mg base "as_fraction" 4 ["value"] (spAs C)) (mL : mg "len" = none) :
    FnOk P w K mg base CX0 5 f fd ["fractions"] (spSome C) := by
  refine F.ok scSo (fun vs H Q E h => ?_) (fun cdv A outer s H vs Q E hr h => ?_)
  · obtain ⟨tp, ps, rfl, _⟩ := h
    rfl
  · obtain ⟨tp, ps, rfl, tf, ne, q⟩ := h
    have hr4 := hr.mono (j := 4) (by decide)
    have hr3 := hr.mono (j := 3) (by decide)
    refine ⟨_, pss_cons (ps_if (pt_not (pt_val (pe_call gF.G hr3 (by rfl) gF.m gF.k gF.b .nil pass0 (pa_cons (pv 0) pa_nil)))) pss_never pss_nil)
      (pss_cons (ps_if (pt_cmpR op_eq (pe_callB call_len_seq (by rfl) mL PySem.boot_len (pa_cons (pv 0) pa_nil)) pe_int (nomark _)) pss_never pss_nil)
      (pss_one (ps_ret (pe_lc (own := [("one", 1)]) (g := gName 1) (tt := tYes) rfl scSo.nd (pi_tup (pv 0)) (blkOk_by (N := NSo) (sc := defScope sSome) (by decide +kernel))
        (fun _ _ _ _ _ => pg_name (i := 1) scSo.nd rfl (.inl rfl)) (fun _ _ _ _ _ => pts_nil) (fun _ _ _ _ _ => pe_call gA.G hr4 (by rfl) gA.m gA.k gA.b .nil pass0 (pa_cons (pv 1) pa_nil)))))), ?_⟩
    refine ⟨_, rfl, tp, ps, rfl, tf, fun H0 s0 => ⟨_, rfl, iteF ?_⟩⟩
    obtain ⟨⟨xs, hx, hf⟩, hn, _, _⟩ := tf.same s0
    refine ⟨_, rfl, tp, xs, rfl, .inr (SqT.of hx), rfl, _, rfl, ite2 (fun z => ?_) (fun _ => ?_)⟩
    · rw [dec_int] at z
      have z := of_decide_eq_true z
      have e := hf.1
      have : ps.length = 0 := by omega
      exact (ne (List.length_eq_zero_iff.mp this)).elim
    refine ⟨_, rfl, tp, rfl, ⟨_, SqT.of hx⟩, fun D hD => ?_⟩
    refine lc_tup (xs := xs) (fun i Hc => Same H0 Hc ∧ ∃ vs, Hc D = some (.lst vs) ∧ FRs C Hc vs (ps.take i)) ⟨same_new hD, [], upd_same, A2.nil⟩ (fun i Hc _ p => SqT.of (p.1 _ _ hx)) ?_ ?_
    · rintro i v Hc hv ⟨sm, vs, hDc, hr'⟩
      obtain ⟨p, hp, fv⟩ := hf.2 i v hv
      have hi : i < ps.length := (List.getElem?_eq_some_iff.mp hp).1
      refine ⟨rfl, _, rfl, v, p.1, p.2, rfl, fv.same sm, fun y H2 hy s2 => ?_⟩
      refine ⟨vs, s2 _ _ hDc, small1000 (by rw [hr'.1, List.length_take]; omega), same_grow hD (sm.trans s2), vs ++ [.ref y], upd_same, ?_⟩
      rw [take_snoc hp]
      exact A2.snoc ((hr'.same s2).updl (s2 _ _ hDc)) ⟨y, rfl, hy.updl (s2 _ _ hDc)⟩
    · rintro Hc ⟨sm, vs, hDc, hr'⟩
      rw [hf.1, List.take_length] at hr'
      exact q D vs Hc hDc hr' (s0.trans sm)
/-! ### least_of, greatest_of -/
theorem small_sz {p : PI} (h : Lf p.1 p.2) (z : p.1.natAbs < 2 ^ 240 ∧ p.2.natAbs < 2 ^ 240) : Sz p.1 p.2 := ⟨pow_up z.1 (by decide), pow_up z.2 (by decide), h.ne⟩
theorem fold_mem (f : PI → PI → PI) (hf : ∀ a c, f a c = a ∨ f a c = c) (p0 : PI) (ps : List PI) (h0 : p0 ∈ ps) : ∀ qs : List PI, (∀ q ∈ qs, q ∈ ps) → ∀ a ∈ ps, qs.foldl f a ∈ ps
  | [], _, a, ha => ha
  | q :: qs, h, a, ha => by
    show qs.foldl f (f a q) ∈ ps
    refine fold_mem f hf p0 ps h0 qs (fun x hx => h x (List.mem_cons_of_mem _ hx)) _ ?_
    rcases hf a q with e | e
    · rw [e]; exact ha
    · rw [e]; exact h q List.mem_cons_self
theorem least_or (a c : PI) : leastP a c = a ∨ leastP a c = c := by unfold leastP; split <;> simp
theorem most_or (a c : PI) : mostP a c = a ∨ mostP a c = c := by unfold mostP; split <;> simp
def spPick (C : Addr) (g : PI → PI → PI) : Sp := fun vs H Q _ => ∃ (tp : Addr) (p0 : PI) (pr : List PI), vs = [.ref tp] ∧ Tf C H tp (p0 :: pr) ∧ ∀ x H', FrAt C H' x ((p0 :: pr).foldl g p0).1 ((p0 :: pr).foldl g p0).2 → Same H H' → Q (.ref x) H'
abbrev sLeast : Stmt := top 17
abbrev NLe : List Str := ["fractions", "parts", "least", "part"]
theorem scLe : FnScope NLe ["fractions"] (defScope sLeast) := ⟨rfl, rfl, rfl, by decide +kernel, rfl, by decide +kernel, by decide +kernel⟩
theorem ok_least {f : Addr} {fd : FuncData} (F : Fun K "least_of" "least_of" sLeast f fd) (hC : Cls K C) (gS : Glo P w K mg base "_some_fractions" 5 ["fractions"] (spSome C)) (mL : Met P w K mg base C "is_less" 5 ["self", "other"] (spLess C)) :
    FnOk P w K mg base CX0 6 f fd ["fractions"] (spPick C leastP) := by
  refine F.ok scLe (fun vs H Q E h => ?_) (fun cdv A outer s H vs Q E hr h => ?_)
  · obtain ⟨tp, p0, pr, rfl, _⟩ := h
    rfl
  · obtain ⟨tp, p0, pr, rfl, tf, q⟩ := h
    refine ⟨_, pss_cons (ps_set (i := 1) scLe.nd rfl (Or.inl rfl) (pe_call gS.G hr (by rfl) gS.m gS.k gS.b .nil pass0 (pa_cons (pv 0) pa_nil)))
      (pss_cons (ps_set (i := 2) scLe.nd rfl (Or.inl rfl) (pe_ix ix_list (pv 1) pe_int (fun _ _ => rfl)))
      (pss_cons (ps_for PassesOwn.never rfl (pi_list (pv 1)) (pg_name (i := 3) scLe.nd rfl (.inl rfl))
        (pss_one (ps_if (pt_val (pe_meth (pv 3) hC ⟨mL.D.at_, mL.D.fn, mL.kp⟩ mL.G hr mL.b .nil pass0 (pa_cons (pv 2) pa_nil))) (pss_one (ps_set (i := 2) scLe.nd rfl (Or.inl rfl) (pv 3))) pss_nil)))
      (pss_one (ps_ret (pv 2))))), ?_⟩
    have lf := tf.lf
    have sz := tf.sz
    refine ⟨_, rfl, tp, _, rfl, tf, by simp, fun a vs H1 ha hv s1 => ?_⟩
    match vs, hv with
    | [], hv => exact absurd hv.1 (by simp)
    | v0 :: vr, hv =>
    obtain ⟨x0, e0, h0⟩ := hv.uncons.1
    subst e0
    refine ⟨_, rfl, a, _, 0, _, rfl, rfl, SqL.of ha, at_zero _ _, ?_⟩
    refine ⟨_, rfl, a, rfl, ⟨_, SqL.of ha⟩, ?_⟩
    refine for_list (xs := .ref x0 :: vr) (fun i σ Hc => Same H1 Hc ∧ ∃ (x : Addr) (x3 : Option V), σ = [some (.ref tp), some (.ref a), some (.ref x), x3] ∧ FrAt C Hc x (((p0 :: pr).take i).foldl leastP p0).1 (((p0 :: pr).take i).foldl leastP p0).2)
      ⟨Same.refl _, x0, _, rfl, h0⟩ (fun i σ Hc _ p => SqL.of (p.1 _ _ ha)) ?_ ?_
    · rintro i v σ Hc hvi ⟨sm, x, x3, rfl, hx⟩
      obtain ⟨p, hp, y, rfl, hy⟩ := (hv.same sm).2 i v hvi
      obtain ⟨dy, hyi⟩ := id hy
      have mp : p ∈ p0 :: pr := List.mem_of_getElem? hp
      have mx : ((p0 :: pr).take i).foldl leastP p0 ∈ p0 :: pr := fold_mem leastP least_or p0 _ List.mem_cons_self _ (fun q hq => List.mem_of_mem_take hq) _ List.mem_cons_self
      rw [take_snoc hp, List.foldl_append]
      generalize ((p0 :: pr).take i).foldl leastP p0 = m at hx mx ⊢
      show ∃ _, _
      refine ⟨_, rfl, y, dy, _, rfl, hyi, fl_no _ _ (by decide) (by decide), _, rfl, y, .ref x, p.1, p.2, m.1, m.2, rfl, hy, .inl ⟨x, rfl, hx⟩, small_sz (lf p mp) (sz p mp), small_sz (lf m mx) (sz m mx), fun H2 s2 => ?_⟩
      refine ⟨_, rfl, ite2 (fun z => ?_) (fun z => ?_)⟩
      · have e : leastP m p = p := if_pos z
        refine ⟨_, rfl, sm.trans s2, y, _, rfl, ?_⟩
        show FrAt C H2 y (leastP m p).1 (leastP m p).2
        rw [e]
        exact hy.same s2
      · have e : leastP m p = m := if_neg z
        refine ⟨sm.trans s2, x, _, rfl, ?_⟩
        show FrAt C H2 x (leastP m p).1 (leastP m p).2
        rw [e]
        exact hx.same s2
    · rintro σ Hc ⟨sm, x, x3, rfl, hx⟩
      have e : (V.ref x0 :: vr).length = (p0 :: pr).length := hv.1
      rw [e, List.take_length] at hx
      exact ⟨_, rfl, q x Hc hx (s1.trans sm)⟩
abbrev sMost : Stmt := top 18
abbrev NMo : List Str := ["fractions", "parts", "greatest", "part"]
theorem scMo : FnScope NMo ["fractions"] (defScope sMost) := ⟨rfl, rfl, rfl, by decide +kernel, rfl, by decide +kernel, by decide +kernel⟩
theorem ok_most {f : Addr} {fd : FuncData} (F : Fun K "greatest_of" "greatest_of" sMost f fd) (hC : Cls K C) (gS : Glo P w K mg base "_some_fractions" 5 ["fractions"] (spSome C)) (mL : Met P w K mg base C "is_less" 5 ["self", "other"] (spLess C)) :
    FnOk P w K mg base CX0 6 f fd ["fractions"] (spPick C mostP) := by
  refine F.ok scMo (fun vs H Q E h => ?_) (fun cdv A outer s H vs Q E hr h => ?_)
  · obtain ⟨tp, p0, pr, rfl, _⟩ := h
    rfl
  · obtain ⟨tp, p0, pr, rfl, tf, q⟩ := h
    refine ⟨_, pss_cons (ps_set (i := 1) scMo.nd rfl (Or.inl rfl) (pe_call gS.G hr (by rfl) gS.m gS.k gS.b .nil pass0 (pa_cons (pv 0) pa_nil)))
      (pss_cons (ps_set (i := 2) scMo.nd rfl (Or.inl rfl) (pe_ix ix_list (pv 1) pe_int (fun _ _ => rfl)))
      (pss_cons (ps_for PassesOwn.never rfl (pi_list (pv 1)) (pg_name (i := 3) scMo.nd rfl (.inl rfl))
        (pss_one (ps_if (pt_val (pe_meth (pv 2) hC ⟨mL.D.at_, mL.D.fn, mL.kp⟩ mL.G hr mL.b .nil pass0 (pa_cons (pv 3) pa_nil))) (pss_one (ps_set (i := 2) scMo.nd rfl (Or.inl rfl) (pv 3))) pss_nil)))
      (pss_one (ps_ret (pv 2))))), ?_⟩
    have lf := tf.lf
    have sz := tf.sz
    refine ⟨_, rfl, tp, _, rfl, tf, by simp, fun a vs H1 ha hv s1 => ?_⟩
    match vs, hv with
    | [], hv => exact absurd hv.1 (by simp)
    | v0 :: vr, hv =>
    obtain ⟨x0, e0, h0⟩ := hv.uncons.1
    subst e0
    refine ⟨_, rfl, a, _, 0, _, rfl, rfl, SqL.of ha, at_zero _ _, ?_⟩
    refine ⟨_, rfl, a, rfl, ⟨_, SqL.of ha⟩, ?_⟩
    refine for_list (xs := .ref x0 :: vr) (fun i σ Hc => Same H1 Hc ∧ ∃ (x : Addr) (x3 : Option V), σ = [some (.ref tp), some (.ref a), some (.ref x), x3] ∧ FrAt C Hc x (((p0 :: pr).take i).foldl mostP p0).1 (((p0 :: pr).take i).foldl mostP p0).2)
      ⟨Same.refl _, x0, _, rfl, h0⟩ (fun i σ Hc _ p => SqL.of (p.1 _ _ ha)) ?_ ?_
    · rintro i v σ Hc hvi ⟨sm, x, x3, rfl, hx⟩
      obtain ⟨p, hp, y, rfl, hy⟩ := (hv.same sm).2 i v hvi
      obtain ⟨dx, hxi⟩ := id hx
      have mp : p ∈ p0 :: pr := List.mem_of_getElem? hp
      have mx : ((p0 :: pr).take i).foldl mostP p0 ∈ p0 :: pr := fold_mem mostP most_or p0 _ List.mem_cons_self _ (fun q hq => List.mem_of_mem_take hq) _ List.mem_cons_self
      rw [take_snoc hp, List.foldl_append]
      generalize ((p0 :: pr).take i).foldl mostP p0 = m at hx mx hxi ⊢
      show ∃ _, _
      refine ⟨_, rfl, x, dx, _, rfl, hxi, fl_no _ _ (by decide) (by decide), _, rfl, x, .ref y, m.1, m.2, p.1, p.2, rfl, hx, .inl ⟨y, rfl, hy⟩, small_sz (lf m mx) (sz m mx), small_sz (lf p mp) (sz p mp), fun H2 s2 => ?_⟩
      refine ⟨_, rfl, ite2 (fun z => ?_) (fun z => ?_)⟩
      · have e : mostP m p = p := if_pos z
        refine ⟨_, rfl, sm.trans s2, y, _, rfl, ?_⟩
        show FrAt C H2 y (mostP m p).1 (mostP m p).2
        rw [e]
        exact hy.same s2
      · have e : mostP m p = m := if_neg z
        refine ⟨sm.trans s2, x, _, rfl, ?_⟩
        show FrAt C H2 x (mostP m p).1 (mostP m p).2
        rw [e]
        exact hx.same s2
    · rintro σ Hc ⟨sm, x, x3, rfl, hx⟩
      have e : (V.ref x0 :: vr).length = (p0 :: pr).length := hv.1
      rw [e, List.take_length] at hx
      exact ⟨_, rfl, q x Hc hx (s1.trans sm)⟩
end
end FR
set_option Elab.async false
set_option linter.all false
set_option maxRecDepth 100000
set_option maxHeartbeats 4000000
namespace FR
open PySem PySem.Spec PyProof.Rows L2
section
variable {P : Program} {w : World} {K : PySem.W.Frag} {mg : Str → Option Value} {base : Heap} {C fI pT gT pB gB : Addr} {fdI fdT fdB : FuncData}
/-! ### total_of -/
abbrev sTotal : Stmt := top 19
abbrev NTo : List Str := ["fractions", "tops", "bottom"]
theorem scTo : FnScope NTo ["fractions"] (defScope sTotal) := ⟨rfl, rfl, rfl, by decide +kernel, rfl, by decide +kernel, by decide +kernel⟩
def spTotal (C : Addr) : Sp := fun vs H Q _ => ∃ (tp : Addr) (ps : List PI), vs = [.ref tp] ∧ Tf C H tp ps ∧ ∀ x H', FrAt C H' x (sumP ps).1 (sumP ps).2 → Same H H' → Q (.ref x) H'
theorem ok_total {f : Addr} {fd : FuncData} (F : Fun K "total_of" "total_of" sTotal f fd) (k : FrK P w K mg base C fI pT gT pB gB fdI fdT fdB) (gF : Glo P w K mg base "is_fractions" 3 ["value"] (spFs C)) (gO : Glo P w K mg base "over_one_bottom" 5 ["fractions"] (spOver C)) (mS : mg "sum" = none) :
    FnOk P w K mg base CX0 6 f fd ["fractions"] (spTotal C) := by
  refine F.ok scTo (fun vs H Q E h => ?_) (fun cdv A outer s H vs Q E hr h => ?_)
  · obtain ⟨tp, ps, rfl, _⟩ := h
    rfl
  · obtain ⟨tp, ps, rfl, tf, q⟩ := h
    refine ⟨_, pss_cons (ps_if (pt_not (pt_val (pe_call gF.G (hr.mono (by decide)) (by rfl) gF.m gF.k gF.b .nil pass0 (pa_cons (pv 0) pa_nil)))) pss_never pss_nil)
      (pss_cons (ps_asg (pe_call gO.G hr (by rfl) gO.m gO.k gO.b .nil pass0 (pa_cons (pv 0) pa_nil)) (pg_tup (by rfl) (pgs_cons (pg_name (i := 1) scTo.nd rfl (.inl rfl)) (pgs_cons (pg_name (i := 2) scTo.nd rfl (.inl rfl)) pgs_nil))))
      (pss_one (ps_ret (pe_make k.M k.GI (hr.mono (by decide)) (by rfl) k.T.mC k.b2 .nil pass0 (pa_cons (pe_callB (cr_sum rfl) (by rfl) mS (by decide +kernel) (pa_cons (pv 1) pa_nil)) (pa_cons (pv 2) pa_nil)))))), ?_⟩
    refine ⟨_, rfl, tp, ps, rfl, tf, fun H0 s0 => ⟨_, rfl, iteF ?_⟩⟩
    have m0 := lcmP_pos tf.lf
    have mz := lcmP_sz tf.lf tf.sz
    have m8 : (lcmP ps).natAbs < 2 ^ 8000 := pow_up mz (by have := tf.few; omega)
    have mn : lcmP ps ≠ 0 := by omega
    obtain ⟨t1, t2⟩ := total_is tf.lf
    refine ⟨_, rfl, tp, ps, rfl, tf.same s0, fun a b H1 ha hb s1 => ?_⟩
    refine ⟨b, _, rfl, SqT.of hb, rfl, _, _, rfl, _, _, rfl, rfl, ?_⟩
    refine ⟨_, rfl, a, _, rfl, SqL.of ha, _, rfl, fun x dx nx nd ne => ?_⟩
    refine ⟨x, dx, _, _, rfl, upd_same, mn, dv8 mn m8, fun H' hf hs => ⟨rfl, ?_⟩⟩
    rw [t1, t2] at hf
    exact q x H' hf ((s0.trans s1).trans (same_make (C := C) nx nd hs))
/-! ### _to_be_rounded, rounded_down, rounded_up -/
abbrev sToB : Stmt := top 23
abbrev NRo : List Str := ["fraction", "bottom", "part"]
theorem scTb : FnScope NRo ["fraction", "bottom"] (defScope sToB) := ⟨rfl, rfl, rfl, by decide +kernel, rfl, by decide +kernel, by decide +kernel⟩
def spToB (C : Addr) : Sp := fun vs H Q _ => ∃ (v : V) (t b n : Int), vs = [v, .int n] ∧ FV C H v t b ∧ 1 ≤ n ∧ ∀ x H', FrAt C H' x t b → Same H H' → Q (.ref x) H'
theorem ok_tob {f : Addr} {fd : FuncData} (F : Fun K "_to_be_rounded" "_to_be_rounded" sToB f fd) (gA : Glo P w K mg base "as_fraction" 4 ["value"] (spAs C)) (gL : Glo P w K mg base "is_at_least" 2 ["value", "least"] spAtl) :
    FnOk P w K mg base CX0 5 f fd ["fraction", "bottom"] (spToB C) := by
  refine F.ok scTb (fun vs H Q E h => ?_) (fun cdv A outer s H vs Q E hr h => ?_)
  · obtain ⟨v, t, b, n, rfl, _⟩ := h
    rfl
  · obtain ⟨v, t, b, n, rfl, hv, h1, q⟩ := h
    refine ⟨_, pss_cons (ps_set (i := 2) scTb.nd rfl (Or.inl rfl) (pe_call gA.G hr (by rfl) gA.m gA.k gA.b .nil pass0 (pa_cons (pv 0) pa_nil)))
      (pss_cons (ps_if (pt_not (pt_val (pe_call gL.G (hr.mono (by decide)) (by rfl) gL.m gL.k gL.b .nil pass0 (pa_cons (pv 1) (pa_cons pe_int pa_nil))))) pss_never pss_nil)
      (pss_one (ps_ret (pv 2)))), ?_⟩
    refine ⟨_, rfl, v, t, b, rfl, hv, fun x H1 hx s1 => ?_⟩
    refine ⟨_, rfl, n, 1, rfl, h1, _, rfl, iteF ?_⟩
    exact ⟨_, rfl, q x H1 hx s1⟩
/-- what is rounded: short -/
structure Rn (t b n : Int) : Prop where
  lf : Lf t b
  tz : t.natAbs < 2 ^ 240
  bz : b.natAbs < 2 ^ 240
  n1 : 1 ≤ n
  nz : n.natAbs < 2 ^ 300
def spRnd (C : Addr) (g : Int → Int → Int → Int) : Sp := fun vs H Q _ => ∃ (v : V) (t b n : Int), vs = [v, .int n] ∧ FV C H v t b ∧ Rn t b n ∧ ∀ x H', FrAt C H' x (nT (g t b n) n) (nB (g t b n) n) → Same H H' → Q (.ref x) H'
abbrev sDown : Stmt := top 21
abbrev sUp : Stmt := top 22
theorem scDown : FnScope NRo ["fraction", "bottom"] (defScope sDown) := ⟨rfl, rfl, rfl, by decide +kernel, rfl, by decide +kernel, by decide +kernel⟩
theorem scUp : FnScope NRo ["fraction", "bottom"] (defScope sUp) := ⟨rfl, rfl, rfl, by decide +kernel, rfl, by decide +kernel, by decide +kernel⟩
theorem ok_down {f : Addr} {fd : FuncData} (F : Fun K "rounded_down" "rounded_down" sDown f fd) (k : FrK P w K mg base C fI pT gT pB gB fdI fdT fdB) (gB' : Glo P w K mg base "_to_be_rounded" 5 ["fraction", "bottom"] (spToB C)) : FnOk P w K mg base CX0 6 f fd ["fraction", "bottom"] (spRnd C fDown) := by
  refine F.ok scDown (fun vs H Q E h => ?_) (fun cdv A outer s H vs Q E hr h => ?_)
  · obtain ⟨v, t, b, n, rfl, _⟩ := h
    rfl
  · obtain ⟨v, t, b, n, rfl, hv, rn, q⟩ := h
    refine ⟨_, pss_cons (ps_set (i := 2) scDown.nd rfl (Or.inl rfl) (pe_call gB'.G hr (by rfl) gB'.m gB'.k gB'.b .nil pass0 (pa_cons (pv 0) (pa_cons (pv 1) pa_nil))))
      (pss_one (ps_ret (pe_make k.M k.GI (hr.mono (by decide)) (by rfl) k.T.mC k.b2 .nil pass0 (pa_cons (pe_op op_fdivX (pe_op op_mulW (pe_prop (pv 2) k.T.cl k.oT k.GT (hr.mono (by decide)) k.bT .nil pass0 rfl) (pv 1)) (pe_prop (pv 2) k.T.cl k.oB k.GB (hr.mono (by decide)) k.bB .nil pass0 rfl)) (pa_cons (pv 1) pa_nil))))), ?_⟩
    have n0 : n ≠ 0 := by have := rn.n1; omega
    have n8 : n.natAbs < 2 ^ 8000 := pow_up rn.nz (by decide)
    refine ⟨_, rfl, _, rfl, v, t, b, n, rfl, hv, rn.n1, fun x H1 hx s1 => ?_⟩
    obtain ⟨dx, hxi⟩ := id hx
    refine ⟨_, rfl, x, dx, _, rfl, hxi, x, dx, _, _, rfl, hxi, fl_top _ _, _, rfl, _, _, rfl, rfl, wide_mul rn.tz rn.nz (by decide) (by decide) (by decide), _, rfl, x, dx, _, rfl, hxi, x, dx, _, _, rfl, hxi, fl_bot _ _, _, _, rfl, rfl, div_ok rn.lf.ne rn.bz (by decide) (by decide), _, rfl, fun y dy ny nd ne => ?_⟩
    refine ⟨y, dy, _, _, rfl, upd_same, n0, dv8 n0 n8, fun H' hf hs => ⟨rfl, ?_⟩⟩
    exact q y H' hf (s1.trans (same_make (C := C) ny nd hs))
theorem ok_up {f : Addr} {fd : FuncData} (F : Fun K "rounded_up" "rounded_up" sUp f fd) (k : FrK P w K mg base C fI pT gT pB gB fdI fdT fdB) (gB' : Glo P w K mg base "_to_be_rounded" 5 ["fraction", "bottom"] (spToB C)) : FnOk P w K mg base CX0 6 f fd ["fraction", "bottom"] (spRnd C fUp) := by
  refine F.ok scUp (fun vs H Q E h => ?_) (fun cdv A outer s H vs Q E hr h => ?_)
  · obtain ⟨v, t, b, n, rfl, _⟩ := h
    rfl
  · obtain ⟨v, t, b, n, rfl, hv, rn, q⟩ := h
    refine ⟨_, pss_cons (ps_set (i := 2) scUp.nd rfl (Or.inl rfl) (pe_call gB'.G hr (by rfl) gB'.m gB'.k gB'.b .nil pass0 (pa_cons (pv 0) (pa_cons (pv 1) pa_nil))))
      (pss_one (ps_ret (pe_make k.M k.GI (hr.mono (by decide)) (by rfl) k.T.mC k.b2 .nil pass0 (pa_cons (pe_un un_neg (pe_op op_fdivX (pe_op op_mulW (pe_un un_neg (pe_prop (pv 2) k.T.cl k.oT k.GT (hr.mono (by decide)) k.bT .nil pass0 rfl)) (pv 1)) (pe_prop (pv 2) k.T.cl k.oB k.GB (hr.mono (by decide)) k.bB .nil pass0 rfl))) (pa_cons (pv 1) pa_nil))))), ?_⟩
    have n0 : n ≠ 0 := by have := rn.n1; omega
    have n8 : n.natAbs < 2 ^ 8000 := pow_up rn.nz (by decide)
    refine ⟨_, rfl, _, rfl, v, t, b, n, rfl, hv, rn.n1, fun x H1 hx s1 => ?_⟩
    obtain ⟨dx, hxi⟩ := id hx
    have tn : (-t).natAbs < 2 ^ 240 := by rw [Int.natAbs_neg]; exact rn.tz
    refine ⟨_, rfl, x, dx, _, rfl, hxi, x, dx, _, _, rfl, hxi, fl_top _ _, t, rfl, _, rfl, _, _, rfl, rfl, wide_mul tn rn.nz (by decide) (by decide) (by decide), _, rfl, x, dx, _, rfl, hxi, x, dx, _, _, rfl, hxi, fl_bot _ _, _, _, rfl, rfl, div_ok rn.lf.ne rn.bz (by decide) (by decide), _, rfl, _, rfl, fun y dy ny nd ne => ?_⟩
    refine ⟨y, dy, _, _, rfl, upd_same, n0, dv8 n0 n8, fun H' hf hs => ⟨rfl, ?_⟩⟩
    rw [up_is rn.lf.1] at hf
    exact q y H' hf (s1.trans (same_make (C := C) ny nd hs))
end
end FR
set_option Elab.async false
set_option linter.all false
set_option maxRecDepth 100000
namespace LD
open PySem PySem.Spec PyProof.Rows L2
/-! ### The text by places -/
def top (i : Nat) : Stmt := PySem.Challenge.pw_surelyends_k02_sums_products_and_others.main.body.getD i (.Pass ⟨0, 0, 0, 0⟩)
abbrev sDice : Stmt := top 25
abbrev sRoll : Stmt := top 26
abbrev sOneOf : Stmt := top 27
/-! ### The dice -/
abbrev dxs (a b c : Int) : List V := [V.int a, V.int b, V.int c]
/-- the dice stand at d -/
def DiceAt (H : Hp) (d : Addr) : Prop := ∃ a b c : Int, H d = some (.lst (dxs a b c))
/-- nothing but the dice has changed -/
structure Rolled (H H' : Hp) (d : Addr) : Prop where
  ho : ∃ a b c : Int, H' = upd H d (.lst (dxs a b c))
def spRoll : Sp := fun vs H Q _ => ∃ (d : Addr) (n : Int), vs = [.ref d, .int n] ∧ DiceAt H d ∧ 0 < n ∧ n < 1073741824 ∧
  ∀ (r a b c : Int), 0 ≤ r → r < n → Q (.int r) (upd H d (.lst (dxs a b c)))
section
variable {P : Program} {w : World} {K : PySem.W.Frag} {mg : Str → Option Value} {base : Heap}
theorem scR : FnScope ["_law_dice_here", "_law_total", "_law_found", "_law_one", "_law_two"] ["_law_dice_here", "_law_total"] (defScope sRoll) :=
  ⟨rfl, rfl, rfl, by decide +kernel, rfl, by decide +kernel, by decide +kernel⟩
theorem nz1 : (2305843009213693951 : Int) ≠ 0 := by decide
theorem nz2 : (2305843009213693921 : Int) ≠ 0 := by decide
theorem nz3 : (2305843009213693907 : Int) ≠ 0 := by decide
theorem at0 {a b c : Int} : atI (dxs a b c) (0 : Int) = some (V.int a) := rfl
theorem at1 {a b c : Int} : atI (dxs a b c) (1 : Int) = some (V.int b) := rfl
theorem at2 {a b c : Int} : atI (dxs a b c) (2 : Int) = some (V.int c) := rfl
theorem ok_roll {f : Addr} {fd : FuncData} (F : Fun K "_law_roll" "_law_roll" sRoll f fd) (mI : mg "int" = none) : FnOk P w K mg base CX0 1 f fd ["_law_dice_here", "_law_total"] spRoll := by
  refine F.ok scR (fun vs H Q E h => ?_) (fun cdv A outer s H vs Q E hr h => ?_)
  · obtain ⟨d, n, rfl, _⟩ := h
    rfl
  · obtain ⟨d, n, rfl, ⟨a, b, c, hd⟩, h0, h1, k⟩ := h
    have hu := hu_of hr
    refine ⟨_, pss_cons (ps_if (pt_cmpR op_gt (pe_ix ix_list (pv 0) pe_int (fun _ _ => rfl)) pe_int (nomark _))
        (pss_cons (ps_set (i := 2) scR.nd rfl (Or.inl rfl) (pe_op op_modN (pe_callTy call_int1 (by rfl) mI (by decide +kernel) (pa_cons (pe_ix ix_list (pv 0) pe_int (fun _ _ => rfl)) pa_nil)) (pv 1)))
        (pss_cons (ps_asg (pe_op op_fdivN (pe_ix ix_list (pv 0) pe_int (fun _ _ => rfl)) (pv 1)) (pg_sub (pv 0) pe_int set_list))
        (pss_one (ps_ret (pv 2))))) pss_nil)
      (pss_cons (ps_asg (pe_op op_add (pe_ix ix_list (pv 0) pe_int (fun _ _ => rfl)) pe_int) (pg_sub (pv 0) pe_int set_list))
      (pss_cons (ps_set (i := 3) scR.nd rfl (Or.inl rfl) (pe_op op_modN (pe_callTy call_int1 (by rfl) mI (by decide +kernel) (pa_cons (pe_op op_add (pe_ix ix_list (pv 0) pe_int (fun _ _ => rfl)) (pe_op op_mul pe_int (pe_ix ix_list (pv 0) pe_int (fun _ _ => rfl)))) pa_nil)) pe_int))
      (pss_cons (ps_set (i := 4) scR.nd rfl (Or.inl rfl) (pe_op op_add (pe_op op_mul (pe_op op_modN (pe_callTy call_int1 (by rfl) mI (by decide +kernel) (pa_cons (pe_op op_mul (pv 3) (pv 3)) pa_nil)) pe_int) (pv 3)) (pe_op op_mul pe_int (pe_ix ix_list (pv 0) pe_int (fun _ _ => rfl)))))
      (pss_cons (ps_set (i := 4) scR.nd rfl (Or.inl rfl) (pe_op op_modN (pe_callTy call_int1 (by rfl) mI (by decide +kernel) (pa_cons (pv 4) pa_nil)) pe_int))
      (pss_one (ps_ret (pe_op op_modN (pe_callTy call_int1 (by rfl) mI (by decide +kernel) (pa_cons (pe_op op_fdivN (pv 4) pe_int) pa_nil)) (pv 1)))))))), ?_⟩
    refine ⟨_, rfl, d, _, _, _, rfl, rfl, SqL.of hd, at0, _, _, rfl, rfl, _, rfl, ?_⟩
    have hm : ∀ x : Int, 0 ≤ x.fmod n ∧ x.fmod n < n := fun x => by
      rw [Int.fmod_eq_emod_of_nonneg x (by omega)]
      exact ⟨Int.emod_nonneg x (by omega), Int.emod_lt_of_pos x h0⟩
    refine ite2 (fun ha => ?_) (fun ha => ?_)
    · refine ⟨_, rfl, d, _, _, _, rfl, rfl, SqL.of hd, at0, .inl ⟨_, rfl, ?_⟩⟩
      refine ⟨_, rfl, _, _, rfl, rfl, by omega, ?_⟩
      refine ⟨_, rfl, d, _, _, _, rfl, rfl, SqL.of hd, at0, _, rfl, _, _, rfl, rfl, ⟨by omega, by omega⟩, ?_⟩
      refine ⟨_, rfl, d, _, _, 0, rfl, rfl, hd, rfl, ?_⟩
      refine ⟨_, rfl, ?_⟩
      exact k _ _ _ _ (hm _).1 (hm _).2
    · refine ⟨_, rfl, d, _, _, _, rfl, rfl, SqL.of hd, at2, _, _, rfl, rfl, ?_⟩
      refine ⟨_, rfl, d, _, _, 2, rfl, rfl, hd, rfl, ?_⟩
      have hd2 : upd H d (.lst (dxs a b (c + 1))) d = some (.lst (dxs a b (c + 1))) := upd_same
      refine ⟨_, rfl, d, _, _, _, rfl, rfl, SqL.of hd2, at1, ?_⟩
      refine ⟨_, rfl, d, _, _, _, rfl, rfl, SqL.of hd2, at2, ?_⟩
      refine ⟨_, _, rfl, rfl, .inl ⟨by decide, by decide⟩, ?_⟩
      refine ⟨_, _, rfl, rfl, .inl ⟨_, rfl, ?_⟩⟩
      refine ⟨_, _, rfl, rfl, nz1, ?_⟩
      generalize hone : Int.fmod (b + 1000193 * (c + 1)) 2305843009213693951 = one
      have ho : 0 ≤ one ∧ one < 2305843009213693951 := by
        rw [← hone, Int.fmod_eq_emod_of_nonneg _ (by decide)]
        exact ⟨Int.emod_nonneg _ (by decide), Int.emod_lt_of_pos _ (by decide)⟩
      refine ⟨_, rfl, _, rfl, _, _, rfl, rfl, .inl ⟨by omega, by omega⟩, .inl ⟨_, rfl, ?_⟩⟩
      refine ⟨_, _, rfl, rfl, nz2, ?_⟩
      generalize htwo : Int.fmod (one * one) 2305843009213693921 = two
      refine ⟨_, rfl, _, _, rfl, rfl, .inr ⟨by omega, by omega⟩, ?_⟩
      refine ⟨_, rfl, d, _, _, _, rfl, rfl, SqL.of hd2, at2, ?_⟩
      refine ⟨_, _, rfl, rfl, .inl ⟨by decide, by decide⟩, ?_⟩
      refine ⟨_, _, rfl, rfl, ?_⟩
      generalize two * one + 8221 * (c + 1) = three
      refine ⟨_, rfl, .inl ⟨_, rfl, ?_⟩⟩
      refine ⟨_, _, rfl, rfl, nz3, ?_⟩
      refine ⟨_, rfl, _, _, rfl, rfl, ⟨by decide, by decide⟩, .inl ⟨_, rfl, ?_⟩⟩
      refine ⟨_, rfl, _, _, rfl, rfl, by omega, ?_⟩
      exact k _ _ _ _ (hm _).1 (hm _).2

/-! ### powers of any size within the line -/
def CPowW (i j : Int) : Prop := 0 ≤ j ∧ (Builtin.Int.intBits i : Int) * j ≤ 2 ^ 27
theorem op_powW {X : Cx} : OpR X (binaryOp .Pow) (rI CPowW fun i j => .int (i ^ j.toNat)) := opI fun _ _ _ _ _ _ _ hc q => pow_int hc.1 hc.2 q
theorem pow60 : CPowW 10 60 := ⟨by decide, by decide +kernel⟩
theorem pow600 : CPowW ((10 : Int) ^ (60 : Int).toNat) 10 := ⟨by decide, by decide +kernel⟩
theorem pow18 : CPowW 10 18 := ⟨by decide, by decide +kernel⟩
def big600 : Int := ((10 : Int) ^ (60 : Int).toNat) ^ (10 : Int).toNat
theorem big600_nz : ((10 : Int) ^ (60 : Int).toNat) ^ (10 : Int).toNat ≠ 0 := by decide +kernel
theorem nz4 : (2147483549 : Int) ≠ 0 := by decide
theorem nz5 : (2147483543 : Int) ≠ 0 := by decide
def spDice (K : PySem.W.Frag) : Sp := fun vs H Q _ => ∃ (a : Addr) (ns : List Int) (i : Nat) (j : Int), vs = [.ref a, .int j] ∧ j = (i : Int) ∧ SqL K H a (ns.map V.int) ∧
  ∀ (p : Addr) (x y z : Int), H p = none → Q (.ref p) (upd H p (.lst (dxs x y z)))
structure TxtD (mg : Str → Option Value) : Prop where
  mI : mg "int" = none
  mL : mg "len" = none
  mA : mg "abs" = none
  mM : mg "max" = none
theorem scD : FnScope ["_law_script", "_law_at", "_law_cell", "_law_great", "_law_mixed"] ["_law_script", "_law_at"] (defScope sDice) :=
  ⟨rfl, rfl, rfl, by decide +kernel, rfl, by decide +kernel, by decide +kernel⟩
theorem ok_dice {f : Addr} {fd : FuncData} (F : Fun K "_law_dice" "_law_dice" sDice f fd) (T : TxtD mg) : FnOk P w K mg base CX0 1 f fd ["_law_script", "_law_at"] (spDice K) := by
  refine F.ok scD (fun vs H Q E h => ?_) (fun cdv A outer s H vs Q E hr h => ?_)
  · obtain ⟨a, ns, i, j, rfl, _⟩ := h
    rfl
  · obtain ⟨a, ns, i, j, rfl, rfl, hs, k⟩ := h
    have hu := hu_of hr
    refine ⟨_, pss_cons (ps_set (i := 2) scD.nd rfl (Or.inl rfl) (pe_op op_add (pe_op op_mul pe_int (pv 1)) pe_int))
      (pss_cons (ps_if (pt_cmpR op_lt (pv 1) (pe_callB call_len_seq (by rfl) T.mL PySem.boot_len (pa_cons (pv 0) pa_nil)) (nomark _))
        (pss_one (ps_set (i := 2) scD.nd rfl (Or.inl rfl) (pe_ix ix_list (pv 0) (pv 1) (fun _ _ => rfl)))) pss_nil)
      (pss_cons (ps_set (i := 3) scD.nd rfl (Or.inl rfl) (pe_op op_modN (pe_callTy call_int1 (by rfl) T.mI (by decide +kernel) (pa_cons (pe_callB call_abs (by rfl) T.mA (by decide +kernel) (pa_cons (pv 2) pa_nil)) pa_nil))
          (pe_op op_powW (pe_op op_powW pe_int pe_int) pe_int)))
      (pss_cons (ps_set (i := 4) scD.nd rfl (Or.inl rfl) (pe_op op_add (pe_op op_add (pe_op op_add
          (pe_op op_mul (pe_op op_modN (pe_callTy call_int1 (by rfl) T.mI (by decide +kernel) (pa_cons (pv 3) pa_nil)) pe_int) pe_int)
          (pe_op op_mul pe_int (pv 1)))
          (pe_op op_mul pe_int (pe_callTy call_int1 (by rfl) T.mI (by decide +kernel) (pa_cons (pe_cmpR op_lt (pv 2) pe_int (nomark _)) pa_nil)))) pe_int))
      (pss_one (ps_ret (pe_lst (pa_cons (pe_callB (call_max2 rfl) (by rfl) T.mM (by decide +kernel) (pa_cons pe_int (pa_cons (pe_op op_sub (pv 3) (pe_op op_powW pe_int pe_int)) pa_nil)))
          (pa_cons (pe_op op_modN (pe_callTy call_int1 (by rfl) T.mI (by decide +kernel) (pa_cons (pv 4) pa_nil)) pe_int) (pa_cons pe_int pa_nil))))))))), ?_⟩
    refine ⟨_, rfl, _, _, rfl, rfl, .inl ⟨by decide, by decide⟩, _, _, rfl, rfl, ?_⟩
    refine ⟨_, rfl, _, rfl, a, _, rfl, .inl hs, _, _, rfl, rfl, _, rfl, ?_⟩
    refine ite2 (fun ha => ?_) (fun ha => ?_)
    · have hlt : i < (ns.map V.int).length := by
        have z := of_decide_eq_true ha
        omega
      refine ⟨_, rfl, _, rfl, a, _, _, V.int ((ns.getD i 0)), rfl, rfl, hs, atI_nat (by
        rw [List.length_map] at hlt
        simp [hlt]), ?_⟩
      refine ⟨_, rfl, _, rfl, .inl ⟨_, rfl, ?_⟩⟩
      refine ⟨_, _, rfl, rfl, pow60, _, _, rfl, rfl, pow600, _, _, rfl, rfl, big600_nz, ?_⟩
      refine ⟨_, rfl, .inl ⟨_, rfl, ?_⟩⟩
      refine ⟨_, _, rfl, rfl, nz4, _, _, rfl, rfl, .inr ⟨by decide, by decide⟩, ?_⟩
      refine ⟨_, rfl, _, _, rfl, rfl, .inl ⟨by decide, by decide⟩, _, _, rfl, rfl, ?_⟩
      refine ⟨_, rfl, _, _, rfl, rfl, .inr ⟨_, rfl, ?_⟩⟩
      refine ⟨_, _, rfl, rfl, .inl ⟨by decide, by decide⟩, _, _, rfl, rfl, _, _, rfl, rfl, ?_⟩
      refine ⟨_, rfl, _, _, rfl, rfl, pow18, _, _, rfl, rfl, _, _, rfl, ?_⟩
      refine ⟨_, rfl, .inl ⟨_, rfl, ?_⟩⟩
      refine ⟨_, _, rfl, rfl, nz5, ?_⟩
      refine ⟨by show 3 ≤ sizeLine; decide, fun p hp => ?_⟩
      exact k _ _ _ _ hp
    · refine ⟨_, rfl, _, rfl, .inl ⟨_, rfl, ?_⟩⟩
      refine ⟨_, _, rfl, rfl, pow60, _, _, rfl, rfl, pow600, _, _, rfl, rfl, big600_nz, ?_⟩
      refine ⟨_, rfl, .inl ⟨_, rfl, ?_⟩⟩
      refine ⟨_, _, rfl, rfl, nz4, _, _, rfl, rfl, .inr ⟨by decide, by decide⟩, ?_⟩
      refine ⟨_, rfl, _, _, rfl, rfl, .inl ⟨by decide, by decide⟩, _, _, rfl, rfl, ?_⟩
      refine ⟨_, rfl, _, _, rfl, rfl, .inr ⟨_, rfl, ?_⟩⟩
      refine ⟨_, _, rfl, rfl, .inl ⟨by decide, by decide⟩, _, _, rfl, rfl, _, _, rfl, rfl, ?_⟩
      refine ⟨_, rfl, _, _, rfl, rfl, pow18, _, _, rfl, rfl, _, _, rfl, ?_⟩
      refine ⟨_, rfl, .inl ⟨_, rfl, ?_⟩⟩
      refine ⟨_, _, rfl, rfl, nz5, ?_⟩
      refine ⟨by show 3 ≤ sizeLine; decide, fun p hp => ?_⟩
      exact k _ _ _ _ hp
/-! ### one of a list's items -/
def spOneOf : Sp := fun vs H Q _ => ∃ (d p : Addr) (xs : List V), vs = [.ref d, .ref p] ∧ DiceAt H d ∧ H p = some (.lst xs) ∧ p ≠ d ∧ 0 < xs.length ∧ xs.length < 1000 ∧
  ∀ (k : Nat) (x : V) (a b c : Int), xs[k]? = some x → Q x (upd H d (.lst (dxs a b c)))
theorem scO : FnScope ["_law_dice_here", "_law_items"] ["_law_dice_here", "_law_items"] (defScope sOneOf) :=
  ⟨rfl, rfl, rfl, by decide +kernel, rfl, by decide +kernel, by decide +kernel⟩
theorem ok_oneOf {f fR : Addr} {fd fdR : FuncData} (F : Fun K "_law_one_of" "_law_one_of" sOneOf f fd) (T : TxtD mg) (FR : Fun K "_law_roll" "_law_roll" sRoll fR fdR)
    (mR : mg "_law_roll" = some (.ref fR)) (kR : PySem.W.keepIn K (.ref fR) = true) (bR : Binds K fdR ["_law_dice_here", "_law_total"] []) : FnOk P w K mg base CX0 2 f fd ["_law_dice_here", "_law_items"] spOneOf := by
  have G : FnOk P w K mg base CX0 1 fR fdR ["_law_dice_here", "_law_total"] spRoll := ok_roll FR T.mI
  refine F.ok scO (fun vs H Q E h => ?_) (fun cdv A outer s H vs Q E hr h => ?_)
  · obtain ⟨d, p, xs, rfl, _⟩ := h
    rfl
  · obtain ⟨d, p, xs, rfl, hd, hp, ne, h0, h1, k⟩ := h
    have hu := hu_of hr
    refine ⟨_, pss_one (ps_ret (pe_ix ix_list (pv 1) (pe_call G hr (by rfl) mR kR bR .nil pass0
      (pa_cons (pv 0) (pa_cons (pe_callB call_len_seq (by rfl) T.mL PySem.boot_len (pa_cons (pv 1) pa_nil)) pa_nil))) (fun _ _ => rfl))), ?_⟩
    refine ⟨_, rfl, _, rfl, _, rfl, p, xs, rfl, .inl (SqL.of hp), d, _, rfl, hd, by omega, by omega, fun r a b c hr0 hr1 => ?_⟩
    obtain ⟨k', rfl⟩ : ∃ k' : Nat, r = (k' : Int) := ⟨r.toNat, by omega⟩
    have hk : k' < xs.length := by omega
    refine ⟨p, xs, _, xs[k'], rfl, rfl, SqL.of (by rw [upd_ne ne]; exact hp), atI_nat (List.getElem?_eq_getElem hk), ?_⟩
    exact k k' _ a b c (List.getElem?_eq_getElem hk)
end
end LD
set_option Elab.async false
set_option linter.all false
set_option maxRecDepth 100000
set_option maxHeartbeats 4000000
namespace FR
open PySem PySem.Spec PyProof.Rows L2 LD
section
variable {P : Program} {w : World} {K : PySem.W.Frag} {mg : Str → Option Value} {base : Heap}
/-! ### _law_gcd -/
abbrev sGcd : Stmt := FR.top 28
theorem scGcd : FnScope ["_law_one", "_law_two"] ["_law_one", "_law_two"] (defScope sGcd) := ⟨rfl, rfl, rfl, by decide +kernel, rfl, by decide +kernel, by decide +kernel⟩
def spGcd : Sp := fun vs H Q _ => ∃ a b : Nat, vs = [.int a, .int b] ∧ Q (.int (Nat.gcd a b : Nat)) H
theorem ok_gcd {f : Addr} {fd : FuncData} (F : Fun K "_law_gcd" "_law_gcd" sGcd f fd) (mI : mg "int" = none) : FnOk P w K mg base CX0 1 f fd ["_law_one", "_law_two"] spGcd := by
  refine F.ok scGcd (fun vs H Q E h => ?_) (fun cdv A outer s H vs Q E hr h => ?_)
  · obtain ⟨a, b, rfl, _⟩ := h
    rfl
  · obtain ⟨a, b, rfl, q⟩ := h
    refine ⟨_, pss_cons (ps_while PassesOwn.never (pt_cmpR op_gt (pv 1) pe_int (nomark _)) (pss_one (ps_par (i := 0) (j := 1) (by rfl) scGcd.nd rfl rfl (by decide) rfl rfl (pa_cons (pv 1) (pa_cons (pe_op op_modN (pe_callTy call_int1 (by rfl) mI (by decide +kernel) (pa_cons (pv 0) pa_nil)) (pv 1)) pa_nil)) (by rfl))))
      (pss_one (ps_ret (pv 0))), ?_⟩
    refine while_by (fun σ Hc => Hc = H ∧ ∃ x y : Nat, σ = [some (.int x), some (.int y)] ∧ Nat.gcd x y = Nat.gcd a b) (fun σ _ => match σ with | [_, some (.int y)] => y.toNat | _ => 0) ⟨rfl, a, b, rfl, rfl⟩ ?_ ?_
    · rintro σ Hc ⟨rfl, x, y, rfl, g⟩
      refine ⟨_, rfl, _, _, rfl, rfl, _, rfl, ite2 (fun z => ?_) (fun z => ?_)⟩
      · have hy : 0 < y := by have := of_decide_eq_true z; omega
        have e : (x : Int).fmod (y : Int) = ((x % y : Nat) : Int) := by rw [Int.fmod_eq_emod_of_nonneg _ (by omega)]; rfl
        have hn : (y : Int) ≠ 0 := by omega
        refine ⟨_, rfl, _, rfl, .inl ⟨_, rfl, ?_⟩⟩
        refine ⟨_, rfl, _, _, rfl, rfl, hn, ?_⟩
        refine ⟨_, _, rfl, ?_⟩
        refine ⟨⟨rfl, y, x % y, by rw [← e]; rfl, ?_⟩, ?_⟩
        · rw [← g, Nat.gcd_comm x y, Nat.gcd_rec y x, Nat.gcd_comm]
        · show ((x : Int).fmod (y : Int)).toNat < (y : Int).toNat
          rw [e]
          have := Nat.mod_lt x hy
          omega
      · have hy : y = 0 := by
          have : ¬ (0 : Int) < y := fun c => z (decide_eq_true c)
          omega
        subst hy
        rw [Nat.gcd_zero_right] at g
        refine ⟨_, rfl, ?_⟩
        subst g
        exact q
    · rintro σ Hc R R' im ⟨v, e1, i, j, e2, e3, k, e4, c⟩
      exact ⟨v, e1, i, j, e2, e3, k, e4, im _ _ c⟩
/-! ### _law_ratio, _law_pair, _law_told -/
abbrev sRat : Stmt := FR.top 29
theorem scRat : FnScope ["_law_top", "_law_bottom", "_law_part"] ["_law_top", "_law_bottom"] (defScope sRat) := ⟨rfl, rfl, rfl, by decide +kernel, rfl, by decide +kernel, by decide +kernel⟩
def spRat : Sp := fun vs H Q _ => ∃ t b : Int, vs = [.int t, .int b] ∧ 0 < b ∧ b.natAbs < 2 ^ 8000 ∧ ∀ p, H p = none → Q (.ref p) (upd H p (.tup [.int (nT t b), .int (nB t b)]))
theorem abs_nat (t : Int) : (if t < 0 then -t else t) = ((t.natAbs : Nat) : Int) := by split <;> omega
theorem ok_rat {f fG : Addr} {fd fdG : FuncData} (F : Fun K "_law_ratio" "_law_ratio" sRat f fd) (GG : FnOk P w K mg base CX0 1 fG fdG ["_law_one", "_law_two"] spGcd) (mG : mg "_law_gcd" = some (.ref fG))
    (kG : PySem.W.keepIn K (.ref fG) = true) (bG : Binds K fdG ["_law_one", "_law_two"] []) (ma : mg "abs" = none) : FnOk P w K mg base CX0 2 f fd ["_law_top", "_law_bottom"] spRat := by
  refine F.ok scRat (fun vs H Q E h => ?_) (fun cdv A outer s H vs Q E hr h => ?_)
  · obtain ⟨t, b, rfl, _⟩ := h
    rfl
  · obtain ⟨t, b, rfl, hb, hz, q⟩ := h
    refine ⟨_, pss_cons (ps_set (i := 2) scRat.nd rfl (Or.inl rfl) (pe_call GG hr (by rfl) mG kG bG .nil pass0 (pa_cons (pe_callB call_abs (by rfl) ma (by decide +kernel) (pa_cons (pv 0) pa_nil)) (pa_cons (pv 1) pa_nil))))
      (pss_one (ps_ret (pe_tup (pa_cons (pe_op op_fdivX (pv 0) (pv 2)) (pa_cons (pe_op op_fdivX (pv 1) (pv 2)) pa_nil))))), ?_⟩
    have ed : dv t b = ((Nat.gcd t.natAbs b.natAbs : Nat) : Int) := if_neg (by omega)
    have hb0 : b ≠ 0 := by omega
    have dz : ∀ i : Int, CDivX i ((Nat.gcd t.natAbs b.natAbs : Nat) : Int) := fun i => by
      rw [← ed]
      exact div_ok (dv_ne hb0) (Nat.lt_of_le_of_lt (dv_le hb0) hz) (by decide) (by decide)
    have eb : V.int b = V.int ((b.natAbs : Nat) : Int) := by rw [show ((b.natAbs : Nat) : Int) = b by omega]
    refine ⟨_, rfl, _, rfl, _, rfl, t.natAbs, b.natAbs, by rw [abs_nat, eb]; rfl, ?_⟩
    refine ⟨_, rfl, _, rfl, _, _, rfl, rfl, dz _, _, rfl, _, rfl, _, _, rfl, rfl, dz _, small1000 (by show 1 ≤ 1000; decide), fun p hp => ?_⟩
    have e := q p hp
    unfold nT nB at e
    rw [ed] at e
    exact e
abbrev sPair : Stmt := FR.top 35
theorem scPair : FnScope ["_law_top", "_law_bottom"] ["_law_top", "_law_bottom"] (defScope sPair) := ⟨rfl, rfl, rfl, by decide +kernel, rfl, by decide +kernel, by decide +kernel⟩
def spPair : Sp := fun vs H Q _ => ∃ t b : Int, vs = [.int t, .int b] ∧ b ≠ 0 ∧ b.natAbs < 2 ^ 8000 ∧ ∀ p, H p = none → Q (.ref p) (upd H p (.tup [.int (nT t b), .int (nB t b)]))
theorem ok_pair {f fG : Addr} {fd fdG : FuncData} (F : Fun K "_law_pair" "_law_pair" sPair f fd) (GG : FnOk P w K mg base CX0 2 fG fdG ["_law_top", "_law_bottom"] spRat) (mG : mg "_law_ratio" = some (.ref fG))
    (kG : PySem.W.keepIn K (.ref fG) = true) (bG : Binds K fdG ["_law_top", "_law_bottom"] []) : FnOk P w K mg base CX0 3 f fd ["_law_top", "_law_bottom"] spPair := by
  refine F.ok scPair (fun vs H Q E h => ?_) (fun cdv A outer s H vs Q E hr h => ?_)
  · obtain ⟨t, b, rfl, _⟩ := h
    rfl
  · obtain ⟨t, b, rfl, hb, hz, q⟩ := h
    refine ⟨_, pss_one (ps_ret (pe_ifExp (pt_cmpR op_gt (pv 1) pe_int (nomark _)) (pe_call GG hr (by rfl) mG kG bG .nil pass0 (pa_cons (pv 0) (pa_cons (pv 1) pa_nil)))
      (pe_call GG hr (by rfl) mG kG bG .nil pass0 (pa_cons (pe_op op_sub pe_int (pv 0)) (pa_cons (pe_op op_sub pe_int (pv 1)) pa_nil))))), ?_⟩
    refine ⟨_, rfl, _, _, rfl, rfl, _, rfl, ite2 (fun z => ?_) (fun z => ?_)⟩
    · have z := of_decide_eq_true z
      exact ⟨_, rfl, _, rfl, t, b, rfl, by omega, hz, q⟩
    · have z : ¬ (0 : Int) < b := fun c => z (decide_eq_true c)
      have e1 : (0 : Int) - t = -t := by omega
      have e2 : (0 : Int) - b = -b := by omega
      refine ⟨_, rfl, _, _, rfl, rfl, _, rfl, _, _, rfl, rfl, 0 - t, 0 - b, rfl, by omega, by rw [e2, Int.natAbs_neg]; exact hz, fun p hp => ?_⟩
      rw [e1, e2, nT_neg hb, nB_neg hb]
      exact q p hp
abbrev sTold : Stmt := FR.top 36
theorem scTold : FnScope ["_law_thing"] ["_law_thing"] (defScope sTold) := ⟨rfl, rfl, rfl, by decide +kernel, rfl, by decide +kernel, by decide +kernel⟩
def spTold (C : Addr) : Sp := fun vs H Q _ => ∃ (x : Addr) (t b : Int), vs = [.ref x] ∧ FrAt C H x t b ∧ ∀ p, H p = none → Q (.ref p) (upd H p (.tup [.int t, .int b]))
variable {C fI pT gT pB gB : Addr} {fdI fdT fdB : FuncData}
theorem ok_told {f : Addr} {fd : FuncData} (F : Fun K "_law_told" "_law_told" sTold f fd) (k : FrK P w K mg base C fI pT gT pB gB fdI fdT fdB) : FnOk P w K mg base CX0 3 f fd ["_law_thing"] (spTold C) := by
  refine F.ok scTold (fun vs H Q E h => ?_) (fun cdv A outer s H vs Q E hr h => ?_)
  · obtain ⟨x, t, b, rfl, _⟩ := h
    rfl
  · obtain ⟨x, t, b, rfl, ⟨dx, hp⟩, q⟩ := h
    refine ⟨_, pss_one (ps_ret (pe_tup (pa_cons (pe_prop (pv 0) k.T.cl k.oT k.GT (hr.mono (by decide)) k.bT .nil pass0 rfl) (pa_cons (pe_prop (pv 0) k.T.cl k.oB k.GB (hr.mono (by decide)) k.bB .nil pass0 rfl) pa_nil)))), ?_⟩
    exact ⟨_, rfl, x, dx, _, rfl, hp, x, dx, _, _, rfl, hp, fl_top _ _, _, rfl, x, dx, _, rfl, hp, x, dx, _, _, rfl, hp, fl_bot _ _, small1000 (by show 1 ≤ 1000; decide), fun p hn => q p hn⟩
end
end FR
set_option Elab.async false
set_option linter.all false
set_option maxRecDepth 100000
set_option maxHeartbeats 4000000
namespace FR
open PySem PySem.Spec PyProof.Rows L2 LD
/-- the dice have rolled; all else that stood there stands -/
def Rl (d : Addr) (H H' : Hp) : Prop := DiceAt H' d ∧ ∀ q o, q ≠ d → H q = some o → H' q = some o
theorem Rl.refl {d : Addr} {H : Hp} (h : DiceAt H d) : Rl d H H := ⟨h, fun _ _ _ e => e⟩
theorem Rl.trans {d : Addr} {H H1 H2 : Hp} (a : Rl d H H1) (b : Rl d H1 H2) : Rl d H H2 := ⟨b.1, fun q o n e => b.2 q o n (a.2 q o n e)⟩
theorem Rl.roll {d : Addr} {H H1 : Hp} {a b c : Int} (r : Rl d H H1) : Rl d H (upd H1 d (.lst (dxs a b c))) := ⟨⟨a, b, c, upd_same⟩, fun q o n e => by rw [upd_ne n]; exact r.2 q o n e⟩
theorem Rl.new {d p : Addr} {H H1 : Hp} {o : HO} (r : Rl d H H1) (hp : H1 p = none) : Rl d H (upd H1 p o) := by
  obtain ⟨a, b, c, e⟩ := r.1
  exact ⟨⟨a, b, c, by rw [upd_ne (ne_of_none e hp)]; exact e⟩, fun q o' n e' => by
    have := r.2 q o' n e'
    rw [upd_ne (ne_of_none this hp)]
    exact this⟩
theorem Rl.free {d p : Addr} {H H1 : Hp} (r : Rl d H H1) (hd : DiceAt H d) (hp : H1 p = none) : H p = none := by
  cases e : H p with
  | none => rfl
  | some o =>
    by_cases q : p = d
    · subst q
      obtain ⟨a, b, c, e'⟩ := r.1
      rw [hp] at e'
      cases e'
    · have := r.2 p o q e
      rw [hp] at this
      cases this
theorem Rl.same {d : Addr} {H H1 H2 : Hp} (r : Rl d H H1) (s : Same H1 H2) : Rl d H H2 := by
  obtain ⟨a, b, c, e⟩ := r.1
  exact ⟨⟨a, b, c, s _ _ e⟩, fun q o n e => s _ _ (r.2 q o n e)⟩
section
variable {P : Program} {w : World} {K : PySem.W.Frag} {mg : Str → Option Value} {base : Heap}
abbrev sInt : Stmt := FR.top 33
theorem scInt : FnScope ["_law_dice_here", "_law_found"] ["_law_dice_here"] (defScope sInt) := ⟨rfl, rfl, rfl, by decide +kernel, rfl, by decide +kernel, by decide +kernel⟩
def small (n : Nat) (v : V) : Prop := ∃ i : Int, v = .int i ∧ i.natAbs < 2 ^ n
theorem all_small {n : Nat} {xs : List V} {k : Nat} {v : V} (h : ∀ v ∈ xs, small n v) (e : xs[k]? = some v) : small n v := h v (List.mem_of_getElem? e)
theorem sm_nil {n : Nat} : ∀ v ∈ ([] : List V), small n v := fun v h => nomatch h
theorem sm_cons {n : Nat} {i : Int} {xs : List V} (h : i.natAbs < 2 ^ n) (r : ∀ v ∈ xs, small n v) : ∀ v ∈ V.int i :: xs, small n v := fun v hv => by
  rcases List.mem_cons.mp hv with e | e
  · exact ⟨i, e, h⟩
  · exact r v e
theorem pow6 : CPowW 10 6 := ⟨by decide, by decide +kernel⟩
theorem pow20 : CPowW 10 20 := ⟨by decide, by decide +kernel⟩
def spInt : Sp := fun vs H Q _ => ∃ d, vs = [.ref d] ∧ DiceAt H d ∧ ∀ (i : Int) H', i.natAbs < 2 ^ 240 → Rl d H H' → Q (.int i) H'
theorem ok_int {f fR fO : Addr} {fd fdR fdO : FuncData} (F : Fun K "_law_integer" "_law_integer" sInt f fd) (GR : FnOk P w K mg base CX0 1 fR fdR ["_law_dice_here", "_law_total"] spRoll) (mR : mg "_law_roll" = some (.ref fR)) (kR : PySem.W.keepIn K (.ref fR) = true)
    (bR : Binds K fdR ["_law_dice_here", "_law_total"] []) (GO : FnOk P w K mg base CX0 2 fO fdO ["_law_dice_here", "_law_items"] spOneOf) (mO : mg "_law_one_of" = some (.ref fO)) (kO : PySem.W.keepIn K (.ref fO) = true) (bO : Binds K fdO ["_law_dice_here", "_law_items"] []) :
    FnOk P w K mg base CX0 3 f fd ["_law_dice_here"] spInt := by
  refine F.ok scInt (fun vs H Q E h => ?_) (fun cdv A outer s H vs Q E hr h => ?_)
  · obtain ⟨d, rfl, _⟩ := h
    rfl
  · obtain ⟨d, rfl, hd, q⟩ := h
    refine ⟨_, pss_cons (ps_set (i := 1) scInt.nd rfl (Or.inl rfl) (pe_call GO hr (by rfl) mO kO bO .nil pass0 (pa_cons (pv 0) (pa_cons (pe_lst (pa_cons pe_int (pa_cons pe_int (pa_cons pe_int (pa_cons pe_int (pa_cons pe_int (pa_cons pe_int (pa_cons pe_int (pa_cons pe_int (pa_cons pe_int
        (pa_cons pe_int (pa_cons pe_int (pa_cons pe_int (pa_cons pe_int pa_nil)))))))))))))) pa_nil))))
      (pss_cons (ps_if (pt_cmpR op_eq (pe_call GR (hr.mono (by decide)) (by rfl) mR kR bR .nil pass0 (pa_cons (pv 0) (pa_cons pe_int pa_nil))) pe_int (nomark _))
        (pss_one (ps_set (i := 1) scInt.nd rfl (Or.inl rfl) (pe_op op_mulW (pe_op op_mulW (pv 1) (pe_op op_add pe_int (pe_call GR (hr.mono (by decide)) (by rfl) mR kR bR .nil pass0 (pa_cons (pv 0) (pa_cons (pe_op op_powW pe_int pe_int) pa_nil)))))
          (pe_call GO hr (by rfl) mO kO bO .nil pass0 (pa_cons (pv 0) (pa_cons (pe_lst (pa_cons pe_int (pa_cons pe_int (pa_cons (pe_op op_powW pe_int pe_int) (pa_cons (pe_op op_mulW pe_int (pe_op op_powW pe_int pe_int)) pa_nil))))) pa_nil)))))) pss_nil)
      (pss_one (ps_ret (pe_ifExp (pt_cmpR op_eq (pe_call GR (hr.mono (by decide)) (by rfl) mR kR bR .nil pass0 (pa_cons (pv 0) (pa_cons pe_int pa_nil))) pe_int (nomark _)) (pe_op op_sub pe_int (pv 1)) (pv 1))))), ?_⟩
    refine ⟨_, rfl, small1000 (by decide), fun p hp => ?_⟩
    have r1 : Rl d H (upd H p (.lst [V.int 0, .int 1, .int 1, .int 2, .int 3, .int 4, .int 6, .int 9, .int 12, .int 35, .int 60, .int 210, .int 997])) := (Rl.refl hd).new hp
    refine ⟨d, p, _, rfl, r1.1, upd_same, fun e => ?_, by decide, by decide, fun k x a b c hx => ?_⟩
    · subst e
      obtain ⟨a, b, c, e⟩ := hd
      rw [hp] at e
      cases e
    obtain ⟨i, rfl, hi⟩ := all_small (n := 10) (sm_cons (by decide) (sm_cons (by decide) (sm_cons (by decide) (sm_cons (by decide) (sm_cons (by decide) (sm_cons (by decide) (sm_cons (by decide) (sm_cons (by decide) (sm_cons (by decide) (sm_cons (by decide) (sm_cons (by decide) (sm_cons (by decide) (sm_cons (by decide) sm_nil))))))))))))) hx
    have r2 := r1.roll (a := a) (b := b) (c := c)
    generalize upd (upd H p _) d _ = H1 at r2 ⊢
    refine ⟨_, rfl, d, _, rfl, r2.1, by decide, by decide, fun r a b c _ _ => ?_⟩
    have r3 := r2.roll (a := a) (b := b) (c := c)
    generalize upd H1 d _ = H2 at r3 ⊢
    refine ⟨rfl, _, rfl, ite2 (fun z => ?_) (fun z => ?_)⟩
    · refine ⟨_, rfl, _, rfl, _, _, rfl, rfl, pow6, d, _, rfl, r3.1, by decide, by decide, fun y a b c y0 y1 => ?_⟩
      have r4 := r3.roll (a := a) (b := b) (c := c)
      generalize upd H2 d _ = H3 at r4 ⊢
      have y2 : (1 + y).natAbs < 2 ^ 20 := by
        have : y < 1000000 := y1
        omega
      refine ⟨_, _, rfl, rfl, _, _, rfl, rfl, wide_mul hi y2 (by decide) (by decide) (by decide), ?_⟩
      refine ⟨_, rfl, _, _, rfl, rfl, pow20, _, _, rfl, rfl, pow60, _, _, rfl, rfl, wide_mul (a := 3) (b := 200) (by decide) (by decide +kernel) (by decide) (by decide) (by decide), small1000 (by show 3 ≤ 1000; decide), fun p' hp' => ?_⟩
      have r5 := r4.new (o := .lst [V.int 1, .int 7, .int ((10 : Int) ^ (20 : Int).toNat), .int (6 * (10 : Int) ^ (60 : Int).toNat)]) hp'
      refine ⟨d, p', _, rfl, r5.1, upd_same, fun e => ?_, by show 0 < 4; decide, by show 4 < 1000; decide, fun k2 x a b c hx2 => ?_⟩
      · subst e
        obtain ⟨a, b, c, e⟩ := r4.1
        rw [hp'] at e
        cases e
      obtain ⟨i2, rfl, hi2⟩ := all_small (n := 203) (sm_cons (by decide) (sm_cons (by decide) (sm_cons (by decide +kernel) (sm_cons (by decide +kernel) sm_nil)))) hx2
      have r6 := r5.roll (a := a) (b := b) (c := c)
      generalize upd (upd H3 p' _) d _ = H4 at r6 ⊢
      have w1 : (i * (1 + y)).natAbs < 2 ^ 30 := wide_lt hi y2
      have w2 : (i * (1 + y) * i2).natAbs < 2 ^ 233 := wide_lt w1 hi2
      refine ⟨_, _, rfl, rfl, wide_mul w1 hi2 (by decide) (by decide) (by decide), ?_⟩
      have w3 : (i * (1 + y) * i2).natAbs < 2 ^ 240 := Nat.lt_trans w2 (by decide +kernel)
      refine ⟨_, rfl, d, _, rfl, r6.1, by decide, by decide, fun u a b c _ _ => ?_⟩
      refine ⟨rfl, _, rfl, ite2 (fun _ => ?_) (fun _ => ?_)⟩
      · exact ⟨_, rfl, _, _, rfl, rfl, q _ _ (by rw [Int.zero_sub, Int.natAbs_neg]; exact w3) r6.roll⟩
      · exact ⟨_, rfl, q _ _ w3 r6.roll⟩
    · have w3 : i.natAbs < 2 ^ 240 := Nat.lt_trans hi (by decide +kernel)
      refine ⟨_, rfl, d, _, rfl, r3.1, by decide, by decide, fun u a b c _ _ => ?_⟩
      refine ⟨rfl, _, rfl, ite2 (fun _ => ?_) (fun _ => ?_)⟩
      · exact ⟨_, rfl, _, _, rfl, rfl, q _ _ (by rw [Int.zero_sub, Int.natAbs_neg]; exact w3) r3.roll⟩
      · exact ⟨_, rfl, q _ _ w3 r3.roll⟩
abbrev sCou : Stmt := FR.top 34
theorem scCou : FnScope ["_law_dice_here", "_law_top", "_law_bottom"] ["_law_dice_here"] (defScope sCou) := ⟨rfl, rfl, rfl, by decide +kernel, rfl, by decide +kernel, by decide +kernel⟩
def spCou : Sp := fun vs H Q _ => ∃ d, vs = [.ref d] ∧ DiceAt H d ∧ ∀ (t b : Int) (p : Addr) H', t.natAbs < 2 ^ 240 → b.natAbs < 2 ^ 240 → b ≠ 0 → Rl d H H' → H' p = none → Q (.ref p) (upd H' p (.tup [.int t, .int b]))
theorem ok_cou {f fI fO : Addr} {fd fdI fdO : FuncData} (F : Fun K "_law_couple" "_law_couple" sCou f fd) (GI : FnOk P w K mg base CX0 3 fI fdI ["_law_dice_here"] spInt) (mI : mg "_law_integer" = some (.ref fI)) (kI : PySem.W.keepIn K (.ref fI) = true)
    (bI : Binds K fdI ["_law_dice_here"] []) (GO : FnOk P w K mg base CX0 2 fO fdO ["_law_dice_here", "_law_items"] spOneOf) (mO : mg "_law_one_of" = some (.ref fO)) (kO : PySem.W.keepIn K (.ref fO) = true) (bO : Binds K fdO ["_law_dice_here", "_law_items"] []) :
    FnOk P w K mg base CX0 4 f fd ["_law_dice_here"] spCou := by
  refine F.ok scCou (fun vs H Q E h => ?_) (fun cdv A outer s H vs Q E hr h => ?_)
  · obtain ⟨d, rfl, _⟩ := h
    rfl
  · obtain ⟨d, rfl, hd, q⟩ := h
    refine ⟨_, pss_cons (ps_par (i := 1) (j := 2) (by rfl) scCou.nd rfl rfl (by decide) rfl rfl (pa_cons (pe_call GI hr (by rfl) mI kI bI .nil pass0 (pa_cons (pv 0) pa_nil)) (pa_cons (pe_call GI hr (by rfl) mI kI bI .nil pass0 (pa_cons (pv 0) pa_nil)) pa_nil)) (by rfl))
      (pss_one (ps_ret (pe_tup (pa_cons (pv 1) (pa_cons (pe_ifExp (pt_cmpR op_ne (pv 2) pe_int (nomark _)) (pv 2) (pe_call GO (hr.mono (by decide)) (by rfl) mO kO bO .nil pass0 (pa_cons (pv 0) (pa_cons (pe_lst (pa_cons pe_int (pa_cons (pe_un un_neg pe_int) (pa_cons pe_int pa_nil)))) pa_nil)))) pa_nil))))), ?_⟩
    refine ⟨_, rfl, d, rfl, hd, fun t H1 ht r1 => ?_⟩
    refine ⟨_, rfl, d, rfl, r1.1, fun b H2 hb r2 => ?_⟩
    have r2 := r1.trans r2
    refine ⟨_, _, rfl, ?_⟩
    refine ⟨_, rfl, _, rfl, rfl, _, rfl, ite2 (fun z => ?_) (fun z => ?_)⟩
    · have hb0 : b ≠ 0 := fun e => by
        subst e
        exact absurd z (by decide)
      exact ⟨_, rfl, small1000 (by show 1 ≤ 1000; decide), fun p hp => q t b p H2 ht hb hb0 r2 hp⟩
    · refine ⟨_, rfl, _, rfl, small1000 (by show 2 ≤ 1000; decide), fun p hp => ?_⟩
      have r3 := r2.new (o := .lst [V.int 1, .int (-1), .int 5]) hp
      refine ⟨d, p, _, rfl, r3.1, upd_same, fun e => ?_, by show 0 < 3; decide, by show 3 < 1000; decide, fun k x a b c hx => ?_⟩
      · subst e
        obtain ⟨a, b, c, e⟩ := r2.1
        rw [hp] at e
        cases e
      have hx3 : ∃ i : Int, x = .int i ∧ i.natAbs < 2 ^ 240 ∧ i ≠ 0 := by
        have hm := List.mem_of_getElem? hx
        rcases List.mem_cons.mp hm with e | hm
        · exact ⟨1, e, by decide +kernel, by decide⟩
        rcases List.mem_cons.mp hm with e | hm
        · exact ⟨-1, e, by decide +kernel, by decide⟩
        rcases List.mem_cons.mp hm with e | hm
        · exact ⟨5, e, by decide +kernel, by decide⟩
        · exact nomatch hm
      obtain ⟨i, rfl, hi, hi0⟩ := hx3
      have r4 := r3.roll (a := a) (b := b) (c := c)
      exact ⟨small1000 (by show 1 ≤ 1000; decide), fun p2 hp2 => q t i p2 _ ht hi hi0 r4 hp2⟩
end
end FR
set_option Elab.async false
set_option linter.all false
set_option maxRecDepth 100000
set_option maxHeartbeats 2000000
/-! defs that write values as texts (repr): their promise knows that no repr is running around the call -/
namespace L2
open PySem PySem.Spec PyProof.Rows
/-- as FnOk, where no repr is running around -/
structure FnG (P : Program) (w : World) (K : PySem.W.Frag) (mg : Str → Option Value) (base : Heap) (CX : CXT) (k : Nat) (f : Addr) (fd : FuncData) (ps : List Str) (sp : Sp) : Prop where
  len : ∀ vs H Q E, sp vs H Q E → vs.length = ps.length
  run : ∀ (A : Around) (outer : List Env) (s : Shared) (H : Hp) (ar : Args) (us : List Value) (vs : List V) (Q : VK) (E : XK), Room k A → A.guards = some [] → Env0 P w K mg base A outer s H → BindsTo s fd ar (ps.zip us) → Vals vs us →
    sp vs H Q E → codeAny (model P w) A (.call (.ref f) ar) (CR CX outer P w H s Q E) s
theorem guards_deeper {A : Around} {env : Env} (h : A.guards = some []) : (A.deeper env).guards = some [] := by
  first | exact h | (show pushGuards _ A.guards = some []; rw [h]; rfl) | (simp [Around.deeper, h])
section
variable {P : Program} {w : World} {K : PySem.W.Frag} {mg : Str → Option Value} {base : Heap}
theorem FnOk.g {CX : CXT} {k : Nat} {f : Addr} {fd : FuncData} {ps : List Str} {sp : Sp} (F : FnOk P w K mg base CX k f fd ps sp) : FnG P w K mg base CX k f fd ps sp :=
  ⟨F.len, fun A o s H ar us vs Q E hr _ he hb hv hs => F.run A o s H ar us vs Q E hr he hb hv hs⟩
theorem Fun.okG {x qual : Str} {st : Stmt} {f : Addr} {fd : FuncData} {N ps : List Str} {k : Nat} {sp : Sp} (F : Fun K x qual st f fd) (S : FnScope N ps (defScope st)) (len : ∀ vs H Q E, sp vs H Q E → vs.length = ps.length)
    (hbody : ∀ (cdv : Value) (A : Around) (outer : List Env) (s : Shared) (H : Hp) (vs : List V) (Q : VK) (E : XK), Room k (A.deeper (envOfC qual (defScope st) s.heap.objs.size f cdv)) → A.guards = some [] → sp vs H Q E →
      ∃ t, PSs (cxOf CX0 P w K mg base N qual (defScope st) f cdv A outer s H E).nox (defBody st) t ∧ t { nx := fun _ H' => Q .non H', rt := Q } (start N vs) H) : FnG P w K mg base CX0 (k + 1) f fd ps sp := by
  obtain ⟨oc, od, kV, doc, pm, an, cdv, ct, osl, rfl, lk, hcd⟩ := F.ex
  constructor
  · exact len
  intro A outer s H ar us vs Q E hr hg e0 hb r hsp
  have bk : ∀ b o, base.get? b = some o → s.heap.get? b = some o := fun b o e => (e0.bs b o e).1
  have KX : K.In s.heap := e0.mod.kin.keeps bk
  have hkind : ∀ y ∈ ps.zip us, (defScope st).names.lookup y.1 = some .local ∨ ((defScope st).names.lookup y.1 = some .cell ∧ ((cellsFrom (s.heap.objs.size + 1) (defScope st).names []).lookup y.1).isSome = true) := by
    rintro ⟨n, v⟩ hy
    exact (S.par n (List.of_mem_zip hy).1).imp id fun q => ⟨q, PySem.W.cellsFrom_some _ _ _ (.inl q)⟩
  refine codeAny_call_function hr.depth (KX _ _ lk) rfl S.co S.gen rfl (PySem.W.codeRec_of KX hcd) (hb _ _ _ _ (wpAny_newFunctionEnv_cells S.kind hkind fun env he s1 x => ?_))
  subst he
  refine ⟨(e0.mod.nolimit.keeps bk).keeps x.toInCall.keep, codeAny_func ?_⟩
  obtain ⟨t, ht, hq⟩ := hbody cdv A outer s H vs Q E (hr.deeper _) hg hsp
  have I : Inv (cxOf CX0 P w K mg base N qual (defScope st) f cdv A outer s H E) [] (start N vs) H s1 := inv_start S hr.hd e0 (len _ _ _ _ hsp) r x
  refine wpAny_mono (ht.nox.run [] s1 (start N vs) H _ I hq) ?_ fun e s' hs => hs
  intro fl s' hs
  cases fl with
  | ret u => obtain ⟨v, σ', H', J, rv, q⟩ := hs; exact ⟨v, H', J.os, J.bare, J.base, J.hok, rv, q⟩
  | next => obtain ⟨σ', H', J, q⟩ := hs; exact ⟨V.non, H', J.os, J.bare, J.base, J.hok, rfl, q⟩
  | brk => obtain ⟨_, _, _, z⟩ := hs; exact z.elim
  | cont => obtain ⟨_, _, _, z⟩ := hs; exact z.elim
end
section
variable {X : Cx} {CX : CXT} {k : Nat} {f : Addr} {fd : FuncData} {ps : List Str} {sp : Sp} {ds : List Value} {dvs : List V} {E : XK} {x : Str} {p pos : Pos} {e : Expr} {es : List Expr} {t : TA}
theorem pe_callG (F : FnG X.prog X.w X.K X.mg X.base CX k f fd ps sp) (hr : Room k X.A) (hgd : X.A.guards = some []) (hg : Gl X x) (hm : X.mg x = some (.ref f)) (hk : PySem.W.keepIn X.K (.ref f) = true) (hb : Binds X.K fd ps ds) (hd : Vals dvs ds) (hx : Passes CX X E)
    (ha : PA X (e :: es) t) (hdb : (x == ("__debug__" : Str)) = false := by decide) (he : starEach (e :: es) X.env = (false, eval e X.env) :: starEach es X.env := by rfl) (hpl : (backTo pos (starEach es X.env)).any (·.1) = false := by rfl) :
    PE X (.Call (.Name x p) (e :: es) [] pos) (tCall sp dvs E t) := by
  refine ⟨fun pins s σ H Q I h => wpAny_Call_Name_kw (ld_glob I hg hm ?_ hdb)⟩
  refine PySem.W.callWith_K (h₀ := X.base) I.ok.mod.kin hk ?_ he hpl
  refine thn (ha.run pos pins s σ H _ I h) ?_
  rintro us s1 ⟨vs, H1, I1, r, q⟩
  refine ⟨I1.kIn, ?_⟩
  have r2 : Vals (vs ++ dvs) (us ++ ds) := r.append hd
  have hl : (us ++ ds).length = ps.length := r2.length.symm.trans (F.len _ _ _ _ q)
  refine wpAny_call (codeAny_mono (F.run X.A X.stack s1 H1 ⟨us, []⟩ (us ++ ds) (vs ++ dvs) Q E hr hgd I1.env0 (hb s1 us I1.kIn hl) r2 q) ?_)
  intro rr s' hq
  rcases rr with er | fl
  · exact hx pins σ H1 s1 er s' I1 hq
  · cases fl <;> first | exact I1.after hq | exact hq.elim
/-- repr of data -/
def rRepr (K : PySem.W.Frag) : List V → Hp → VK → Prop := fun xs H Q => ∃ (a : Addr) (d : PyData), xs = [.ref a] ∧ Dp K H (.ref a) d ∧ d.showable = true ∧ d.hasDict = false ∧ d.depth ≤ 20 ∧ d.shown.length ≤ sizeLine ∧ Q (.str d.shown) H
theorem call_repr (hg : X.A.guards = some []) (hu : X.A.units + 64 < cLine) : CallR X (.builtin "repr") (rRepr X.K) := by
  intro pins s σ H xs us Q I r h
  obtain ⟨a, d, rfl, hd, hs, hn, hz, hl, q⟩ := h
  obtain ⟨u, rfl, r1⟩ := vals1 r
  cases r1
  obtain ⟨as, R⟩ := Dp.reads I d _ _ hd rfl
  exact repr_of_reads' R hs (fun z => by rw [hn] at z; cases z) hg (by omega) (fun _ _ z => z) (fun h' u tk kk => ⟨.str _, H, I.kept (t' := tk) kk, ⟨_, rfl⟩, q⟩) hl
end

/-! ### the law's own end, for a promise of this kind -/
theorem lawG {P : Program} {w : World} {K : PySem.W.Frag} {mg mb : Str → Option Value} {CX : CXT} {k : Nat} {fa a : Addr} {fd : FuncData} {x : Str} {sp : Sp} {s₁ : Shared} {vs : List Value} {ns : List Int}
    (KX : K.In s₁.heap) (hns : s₁.heap.Ns mainGlobals mg) (hb : s₁.heap.Ns builtinsNs mb) (hbb : ∀ x : Str, x ≠ "__name__" → mb x = bootBuiltins x) (hlim : s₁.heap.NoLimit) (hg : s₁.gens = #[])
    (ha : s₁.heap.get? a = some { cls := .type "list", data := .seq vs.toArray }) (hi : IntsAre vs ns) (hl : ns.length ≤ sizeLine) (hr : Room k callerA)
    (F : ∀ base : Heap, K.In base → base.Ns mainGlobals mg → FnG P w K mg base CX k fa fd [x] sp) (hbind : ∀ (s : Shared) (u : Value), BindsTo s fd ⟨[u], []⟩ [(x, u)])
    (hsp : ∀ H : Hp, Only H → SqL K H a (ns.map V.int) → sp [.ref a] H (fun v _ => v = .bl true) fun _ _ _ => False) (hCX : ∀ H e s', CX [] H s₁ (fun _ _ _ => False) e s' → False) :
    codeAny (model P w) callerA (.call (.ref fa) ⟨[.ref a], []⟩) (fun r s' => r = .ok (.ret (.bool true)) ∧ OldK s₁.heap s'.heap ∧ s'.os = s₁.os ∧ AllBare s'.gens) s₁ := by
  have rv := vals_ints hi
  have nil0 : ∀ b : Addr, b ∉ ([] : List Addr) := fun b z => nomatch z
  have run : ∀ H : Hp, Only H → SqL K H a (ns.map V.int) → HOk P w H s₁.heap → (∀ b, H b ≠ none → b = a) → (H a ≠ none → K.lookup a = none) →
      codeAny (model P w) callerA (.call (.ref fa) ⟨[.ref a], []⟩) (fun r s' => r = .ok (.ret (.bool true)) ∧ OldK s₁.heap s'.heap ∧ s'.os = s₁.os ∧ AllBare s'.gens) s₁ := by
    intro H hO hS hok hA hK
    have noH : ∀ b, b ≠ a → H b = none := fun b hb => by
      cases q : H b with
      | none => rfl
      | some u => exact (hb (hA b (by rw [q]; exact fun z => nomatch z))).elim
    have noD : ∀ {b : Addr} {o : Obj} {es : Array DictEntry} {ep : Nat}, s₁.heap.get? b = some o → o.data = .dict es ep → H b = none := fun {b o es ep} e d => noH b fun z => by
      subst z
      have y := Option.some.inj (ha.symm.trans e)
      rw [← y] at d
      cases d
    have nsK : ∀ {b : Addr} {m : Str → Option Value}, s₁.heap.Ns b m → (hidT s₁.heap H).Ns b m := by
      rintro b m ⟨o, es, ep, e, d, r⟩
      exact ⟨o, es, ep, hidT_get e (noD e d), d, r⟩
    have hKb : K.In (hidT s₁.heap H) := fun b o e => hidT_get (KX b o e) (by
      by_cases hb : b = a
      · cases q : H b with
        | none => rfl
        | some u =>
          subst hb
          have y := hK (by rw [q]; exact fun z => nomatch z)
          rw [y] at e
          cases e
      · exact noH b hb)
    obtain ⟨mc, l1, l2⟩ := hlim
    have e0 : Env0 P w K mg (hidT s₁.heap H) callerA [] s₁ H :=
      ⟨rfl, ⟨hKb, nsK hns, ⟨mb, nsK hb, hbb⟩, ⟨mc, nsK l1, l2⟩⟩, fun b o e => of_hidT e, Nat.le_of_eq (hidT_size _ _), trivial, fun b hb => (nil0 b hb).elim, hok, .of_eq hg⟩
    have R := (F _ hKb (nsK hns)).run callerA [] s₁ H ⟨[.ref a], []⟩ [.ref a] [.ref a] _ _ hr rfl e0 (hbind s₁ (.ref a)) (.cons rfl .nil) (hsp H hO hS)
    refine codeAny_mono R ?_
    intro r s' h
    rcases r with e | fl
    · exact (hCX H e s' h).elim
    cases fl with
    | next => exact h.elim
    | brk => exact h.elim
    | cont => exact h.elim
    | ret u =>
      obtain ⟨v, H', os, bare, un, hok', r', q⟩ := h
      have qv : v = .bl true := q
      subst qv
      cases r'
      refine ⟨rfl, OldK.of_keep ?_, os, bare⟩
      intro b o e
      rcases hO b with z | ⟨ob, xs, z⟩
      · exact un.keep b o e z (nil0 b) (nil0 b)
      · have y1 := (hok b _ z).1
        have y2 := (hok' b _ (un.frzs b ob _ z)).1
        rw [y2, ← y1, e]
  cases hk : K.lookup a with
  | some o =>
    have e := Option.some.inj ((KX a o hk).symm.trans ha)
    subst e
    refine run (fun _ => none) (fun _ => .inl rfl) ?_ (fun b u z => nomatch z) (fun b z => (z rfl).elim) fun z => (z rfl).elim
    exact .inr ⟨_, vs.toArray, _, hk, rfl, rfl, rfl, by rw [List.size_toArray, hi.length]; exact hl, by simpa using rv⟩
  | none =>
    let o : Obj := { cls := .type "list", data := .seq vs.toArray }
    have hat : (fun b => if b = a then some (HO.frz o (.lst (ns.map V.int))) else none : Hp) a = some (HO.frz o (.lst (ns.map V.int))) := if_pos rfl
    refine run (fun b => if b = a then some (HO.frz o (.lst (ns.map V.int))) else none) (fun b => ?_) (.inl (.inr ⟨o, hat⟩)) (fun b u z => ?_) (fun b z => ?_) fun _ => hk
    · by_cases q : b = a
      · exact .inr ⟨o, _, if_pos q⟩
      · exact .inl (if_neg q)
    · by_cases q : b = a
      · have y := (if_pos q).symm.trans z
        cases y
        rw [q]
        exact ⟨ha, by rw [List.length_map]; exact hl, vs, _, rv, ha⟩
      · have y := (if_neg q).symm.trans z
        cases y
    · by_cases q : b = a
      · exact q
      · exact (z (if_neg q)).elim
theorem walkG {l : PySem.W.OpenLaw} {n k : Nat} {q : Program} {loose : List Str} {XP : (Str → Option Value) → Heap → Prop} {YP : World → Heap → Prop} {d : DefRec} {K : Params → PySem.W.Frag} {CX : World → CXT} {sp : World → Sp} {x : Str}
    (hn : l.most = some n) (hn2 : n ≤ sizeLine) (hdf : d.params.defaults = []) (hr : Room k callerA) (hY : ∀ (w : World) (h : Heap), YP w h → (K w.params).In h)
    (F : ∀ (w : World) (mg : Str → Option Value) (fa : Addr) (h : Heap), (K w.params).In h → h.Ns mainGlobals mg → mg d.name = some (.ref fa) →
      ∃ fd : FuncData, (∀ (s : Shared) (u : Value), BindsTo s fd ⟨[u], []⟩ [(x, u)]) ∧ ∀ base : Heap, (K w.params).In base → base.Ns mainGlobals mg → FnG l.prog w (K w.params) mg base (CX w) k fa fd [x] (sp w))
    (hsp : ∀ (w : World) (H : Hp) (a : Addr) (ns : List Int), ns.length ≤ n → Only H → SqL (K w.params) H a (ns.map V.int) → sp w [.ref a] H (fun v _ => v = .bl true) fun _ _ _ => False)
    (hCX : ∀ (w : World) (H : Hp) (s : Shared) (e : Value) (s' : Shared), CX w [] H s (fun _ _ _ => False) e s' → False) :
    PySem.W.WalkO q loose XP YP l.row.toRowW d [] (fun f vs => PySem.call f vs) := by
  refine Att.attach_call hn hdf ?_
  intro w s₀ s₁ mg mb fa o pm cd doc a vs ns G Y ho hd hcd hmg hobj hints hlen hg
  obtain ⟨fd, hb, hF⟩ := F w mg fa _ (hY w _ Y) G.T.g hmg
  exact lawG (hY w _ Y) G.T.g G.T.b G.T.builtins G.T.nolimit hg hobj hints (Nat.le_trans hlen hn2) hr hF hb (fun H hO hS => hsp w H a ns hlen hO hS) fun H e s' => hCX w H s₁ e s'
end L2
set_option Elab.async false
set_option linter.all false
set_option maxRecDepth 100000
set_option maxHeartbeats 4000000
namespace FR
open PySem PySem.Spec PyProof.Rows L2 LD
/-! ### the law's own sums, products, less, powers -/
/-- a pair of integers stands at a -/
def TA (H : Hp) (a : Addr) (p : PI) : Prop := H a = some (.tup [.int p.1, .int p.2])
/-- short, with a bottom above 0 -/
structure Pp (p : PI) : Prop where
  b0 : 0 < p.2
  tz : p.1.natAbs < 2 ^ 3000
  bz : p.2.natAbs < 2 ^ 3000
theorem Pp.sz {p : PI} (h : Pp p) : Sz p.1 p.2 := ⟨h.tz, h.bz, by have := h.b0; omega⟩
def spLP (g : PI → PI → PI) : Sp := fun vs H Q _ => ∃ (a c : Addr) (p r : PI), vs = [.ref a, .ref c] ∧ TA H a p ∧ TA H c r ∧ Pp p ∧ Pp r ∧ ∀ x, H x = none → Q (.ref x) (upd H x (.tup [.int (g p r).1, .int (g p r).2]))
def byP (a c : PI) : PI := (nT (a.1 * c.1) (a.2 * c.2), nB (a.1 * c.1) (a.2 * c.2))
section
variable {P : Program} {w : World} {K : PySem.W.Frag} {mg : Str → Option Value} {base : Heap} {C fI pT gT pB gB : Addr} {fdI fdT fdB : FuncData}
abbrev sPlus : Stmt := FR.top 30
abbrev N12 : List Str := ["_law_one", "_law_two"]
theorem scPl : FnScope N12 N12 (defScope sPlus) := ⟨rfl, rfl, rfl, by decide +kernel, rfl, by decide +kernel, by decide +kernel⟩
theorem ok_plus {f : Addr} {fd : FuncData} (F : Fun K "_law_plus" "_law_plus" sPlus f fd) (gR : Glo P w K mg base "_law_ratio" 2 ["_law_top", "_law_bottom"] spRat) : FnOk P w K mg base CX0 3 f fd N12 (spLP plusP) := by
  refine F.ok scPl (fun vs H Q E h => ?_) (fun cdv A outer s H vs Q E hr h => ?_)
  · obtain ⟨a, c, p, r, rfl, _⟩ := h
    rfl
  · obtain ⟨a, c, p, r, rfl, ha, hc, z1, z2, q⟩ := h
    obtain ⟨m1, m2, m3, m4, m5, m6⟩ := z1.sz.mul z2.sz
    refine ⟨_, pss_one (ps_ret (pe_call gR.G hr (by rfl) gR.m gR.k gR.b .nil pass0 (pa_cons (pe_op op_add (pe_op op_mulW (pe_ix ix_tup (pv 0) pe_int (fun _ _ => rfl)) (pe_ix ix_tup (pv 1) pe_int (fun _ _ => rfl))) (pe_op op_mulW (pe_ix ix_tup (pv 1) pe_int (fun _ _ => rfl)) (pe_ix ix_tup (pv 0) pe_int (fun _ _ => rfl))))
      (pa_cons (pe_op op_mulW (pe_ix ix_tup (pv 0) pe_int (fun _ _ => rfl)) (pe_ix ix_tup (pv 1) pe_int (fun _ _ => rfl))) pa_nil)))), ?_⟩
    refine ⟨_, rfl, a, _, _, _, rfl, rfl, SqT.of ha, rfl, _, rfl, c, _, _, _, rfl, rfl, SqT.of hc, rfl, _, _, rfl, rfl, m2, ?_⟩
    refine ⟨_, rfl, c, _, _, _, rfl, rfl, SqT.of hc, rfl, _, rfl, a, _, _, _, rfl, rfl, SqT.of ha, rfl, _, _, rfl, rfl, m3, _, _, rfl, rfl, ?_⟩
    refine ⟨_, rfl, a, _, _, _, rfl, rfl, SqT.of ha, rfl, _, rfl, c, _, _, _, rfl, rfl, SqT.of hc, rfl, _, _, rfl, rfl, m4, ?_⟩
    exact ⟨_, _, rfl, Int.mul_pos z1.b0 z2.b0, m5, fun x hx => q x hx⟩
abbrev sLby : Stmt := FR.top 31
theorem scLb : FnScope N12 N12 (defScope sLby) := ⟨rfl, rfl, rfl, by decide +kernel, rfl, by decide +kernel, by decide +kernel⟩
theorem ok_lby {f : Addr} {fd : FuncData} (F : Fun K "_law_by" "_law_by" sLby f fd) (gR : Glo P w K mg base "_law_ratio" 2 ["_law_top", "_law_bottom"] spRat) : FnOk P w K mg base CX0 3 f fd N12 (spLP byP) := by
  refine F.ok scLb (fun vs H Q E h => ?_) (fun cdv A outer s H vs Q E hr h => ?_)
  · obtain ⟨a, c, p, r, rfl, _⟩ := h
    rfl
  · obtain ⟨a, c, p, r, rfl, ha, hc, z1, z2, q⟩ := h
    obtain ⟨m1, m2, m3, m4, m5, m6⟩ := z1.sz.mul z2.sz
    refine ⟨_, pss_one (ps_ret (pe_call gR.G hr (by rfl) gR.m gR.k gR.b .nil pass0 (pa_cons (pe_op op_mulW (pe_ix ix_tup (pv 0) pe_int (fun _ _ => rfl)) (pe_ix ix_tup (pv 1) pe_int (fun _ _ => rfl)))
      (pa_cons (pe_op op_mulW (pe_ix ix_tup (pv 0) pe_int (fun _ _ => rfl)) (pe_ix ix_tup (pv 1) pe_int (fun _ _ => rfl))) pa_nil)))), ?_⟩
    refine ⟨_, rfl, a, _, _, _, rfl, rfl, SqT.of ha, rfl, _, rfl, c, _, _, _, rfl, rfl, SqT.of hc, rfl, _, _, rfl, rfl, m1, ?_⟩
    refine ⟨_, rfl, a, _, _, _, rfl, rfl, SqT.of ha, rfl, _, rfl, c, _, _, _, rfl, rfl, SqT.of hc, rfl, _, _, rfl, rfl, m4, ?_⟩
    exact ⟨_, _, rfl, Int.mul_pos z1.b0 z2.b0, m5, fun x hx => q x hx⟩
abbrev sLle : Stmt := FR.top 32
theorem scLl : FnScope N12 N12 (defScope sLle) := ⟨rfl, rfl, rfl, by decide +kernel, rfl, by decide +kernel, by decide +kernel⟩
def spLle : Sp := fun vs H Q _ => ∃ (a c : Addr) (p r : PI), vs = [.ref a, .ref c] ∧ TA H a p ∧ TA H c r ∧ Pp p ∧ Pp r ∧ Q (.bl (lessP p r)) H
theorem ok_lle {f : Addr} {fd : FuncData} (F : Fun K "_law_is_less" "_law_is_less" sLle f fd) : FnOk P w K mg base CX0 1 f fd N12 spLle := by
  refine F.ok scLl (fun vs H Q E h => ?_) (fun cdv A outer s H vs Q E hr h => ?_)
  · obtain ⟨a, c, p, r, rfl, _⟩ := h
    rfl
  · obtain ⟨a, c, p, r, rfl, ha, hc, z1, z2, q⟩ := h
    obtain ⟨m1, m2, m3, m4, m5, m6⟩ := z1.sz.mul z2.sz
    refine ⟨_, pss_one (ps_ret (pe_cmpR op_lt (pe_op op_mulW (pe_ix ix_tup (pv 0) pe_int (fun _ _ => rfl)) (pe_ix ix_tup (pv 1) pe_int (fun _ _ => rfl))) (pe_op op_mulW (pe_ix ix_tup (pv 1) pe_int (fun _ _ => rfl)) (pe_ix ix_tup (pv 0) pe_int (fun _ _ => rfl))) (nomark _))), ?_⟩
    refine ⟨_, rfl, a, _, _, _, rfl, rfl, SqT.of ha, rfl, _, rfl, c, _, _, _, rfl, rfl, SqT.of hc, rfl, _, _, rfl, rfl, m2, ?_⟩
    exact ⟨_, rfl, c, _, _, _, rfl, rfl, SqT.of hc, rfl, _, rfl, a, _, _, _, rfl, rfl, SqT.of ha, rfl, _, _, rfl, rfl, m3, _, _, rfl, rfl, q⟩
abbrev sLpw : Stmt := FR.top 37
abbrev NPw : List Str := ["_law_pair_here", "_law_many", "_law_found", "_law_turn"]
theorem scLp : FnScope NPw ["_law_pair_here", "_law_many"] (defScope sLpw) := ⟨rfl, rfl, rfl, by decide +kernel, rfl, by decide +kernel, by decide +kernel⟩
def spLpw : Sp := fun vs H Q _ => ∃ (a : Addr) (n : Nat) (p : PI), vs = [.ref a, .int n] ∧ n ≤ 64 ∧ TA H a p ∧ p.1.natAbs < 2 ^ 240 ∧ p.2.natAbs < 2 ^ 240 ∧ ∀ x H', TA H' x (p.1 ^ n, p.2 ^ n) → Same H H' → Q (.ref x) H'
theorem ok_lpw {f : Addr} {fd : FuncData} (F : Fun K "_law_power" "_law_power" sLpw f fd) (mr : mg "range" = none) : FnOk P w K mg base CX0 1 f fd ["_law_pair_here", "_law_many"] spLpw := by
  refine F.ok scLp (fun vs H Q E h => ?_) (fun cdv A outer s H vs Q E hr h => ?_)
  · obtain ⟨a, n, p, rfl, _⟩ := h
    rfl
  · obtain ⟨a, n, p, rfl, hn, ha, z1, z2, q⟩ := h
    refine ⟨_, pss_cons (ps_set (i := 2) scLp.nd rfl (Or.inl rfl) (pe_tup (pa_cons pe_int (pa_cons pe_int pa_nil))))
      (pss_cons (ps_for PassesOwn.never rfl (pi_range1 (by rfl) mr (pa_cons (pv 1) pa_nil)) (pg_name (i := 3) scLp.nd rfl (Or.inl rfl))
        (pss_one (ps_set (i := 2) scLp.nd rfl (Or.inl rfl) (pe_tup (pa_cons (pe_op op_mulW (pe_ix ix_tup (pv 2) pe_int (fun _ _ => rfl)) (pe_ix ix_tup (pv 0) pe_int (fun _ _ => rfl))) (pa_cons (pe_op op_mulW (pe_ix ix_tup (pv 2) pe_int (fun _ _ => rfl)) (pe_ix ix_tup (pv 0) pe_int (fun _ _ => rfl))) pa_nil))))))
      (pss_one (ps_ret (pv 2)))), ?_⟩
    refine ⟨small1000 (by show 1 ≤ 1000; decide), fun y0 hy0 => ?_⟩
    refine ⟨_, rfl, n, rfl, by omega, by omega, ?_⟩
    refine for_range (fun i σ Hc => Same H Hc ∧ ∃ (y : Addr) (x3 : Option V), σ = [some (.ref a), some (.int n), some (.ref y), x3] ∧ TA Hc y (p.1 ^ i, p.2 ^ i)) ⟨same_new hy0, y0, none, rfl, by show upd H y0 _ y0 = some (.tup [.int (p.1 ^ 0), .int (p.2 ^ 0)]); rw [Int.pow_zero, Int.pow_zero]; exact upd_same⟩ ?_ ?_
    · rintro i σ Hc hi ⟨sm, y, x3, rfl, hy⟩
      have g1 : (p.1 ^ i).natAbs < 2 ^ 15400 := pow_up (pow_sz z1 i) (by omega)
      have g2 : (p.2 ^ i).natAbs < 2 ^ 15400 := pow_up (pow_sz z2 i) (by omega)
      have ha1 := sm _ _ ha
      refine ⟨_, rfl, y, _, _, _, rfl, rfl, SqT.of hy, rfl, _, rfl, a, _, _, _, rfl, rfl, SqT.of ha1, rfl, _, _, rfl, rfl, wide_mul g1 z1 (by decide) (by decide) (by decide), ?_⟩
      refine ⟨_, rfl, y, _, _, _, rfl, rfl, SqT.of hy, rfl, _, rfl, a, _, _, _, rfl, rfl, SqT.of ha1, rfl, _, _, rfl, rfl, wide_mul g2 z2 (by decide) (by decide) (by decide), small1000 (by show 1 ≤ 1000; decide), fun y1 hy1 => ?_⟩
      refine ⟨sm.trans (same_new hy1), y1, _, rfl, ?_⟩
      rw [Int.pow_succ, Int.pow_succ]
      exact upd_same
    · rintro σ Hc ⟨sm, y, x3, rfl, hy⟩
      exact ⟨_, rfl, q y Hc hy sm⟩
end
end FR
set_option Elab.async false
set_option linter.all false
set_option maxRecDepth 100000
set_option maxHeartbeats 4000000
namespace FR
open PySem PySem.Spec PyProof.Rows L2 LD
/-! ### texts of lists of pairs -/
def tupD (p : PI) : PyData := .tuple [.int p.1, .int p.2]
def prD (ps : List PI) : PyData := .list (ps.map tupD)
def shortP (p : PI) : Prop := p.1.natAbs < 2 ^ 1000 ∧ p.2.natAbs < 2 ^ 1000
theorem TPs.dp {K : PySem.W.Frag} {H : Hp} : ∀ {vs : List V} {ps : List PI}, TPs H vs ps → DpAll K H vs (ps.map tupD)
  | [], [], _ => .nil
  | _ :: _, _ :: _, h => by
    obtain ⟨q, e, hq⟩ := h.uncons.1
    subst e
    exact .cons (.tup (SqT.of hq) (.cons (.int _) (.cons (.int _) .nil))) (TPs.dp h.uncons.2)
  | [], _ :: _, h => absurd h.1 (by simp)
  | _ :: _, [], h => absurd h.1 (by simp)
theorem pr_show {ps : List PI} (hz : ∀ p ∈ ps, shortP p) : PyData.showableAll (ps.map tupD) = true ∧ PyData.hasDictAll (ps.map tupD) = false ∧ PyData.depthAll (ps.map tupD) ≤ 1 ∧ PyData.leavesShortAll 1001 (ps.map tupD) = true ∧ PyData.weightAll (ps.map tupD) ≤ 2010 * ps.length := by
  induction ps with
  | nil => exact ⟨rfl, rfl, Nat.zero_le _, rfl, Nat.zero_le _⟩
  | cons p ps ih =>
    obtain ⟨i1, i2, i3, i4, i5⟩ := ih fun q hq => hz q (List.mem_cons_of_mem _ hq)
    obtain ⟨z1, z2⟩ := hz p List.mem_cons_self
    have l1 : p.1.natAbs.log2 < 1000 := PySem.Flt.log2_lt_of (by decide) z1
    have l2 : p.2.natAbs.log2 < 1000 := PySem.Flt.log2_lt_of (by decide) z2
    have t1 : (PyData.shown (.int p.1)).length ≤ 1001 := tx_len (i := p.1) l1 (by decide)
    have t2 : (PyData.shown (.int p.2)).length ≤ 1001 := tx_len (i := p.2) l2 (by decide)
    have w1 : (PyData.int p.1).weight ≤ 1000 := by simp only [PyData.weight]; split <;> omega
    have w2 : (PyData.int p.2).weight ≤ 1000 := by simp only [PyData.weight]; split <;> omega
    refine ⟨?_, ?_, ?_, ?_, ?_⟩
    · show ((decide (p.1.natAbs.log2 < 1920) && (decide (p.2.natAbs.log2 < 1920) && true)) && PyData.showableAll (ps.map tupD)) = true
      rw [i1, decide_eq_true (by omega), decide_eq_true (by omega)]
      rfl
    · show ((false || (false || false)) || PyData.hasDictAll (ps.map tupD)) = false
      rw [i2]
      rfl
    · show max 1 (PyData.depthAll (ps.map tupD)) ≤ 1
      omega
    · show ((decide ((PyData.shown (.int p.1)).length ≤ 1001) && (decide ((PyData.shown (.int p.2)).length ≤ 1001) && true)) && PyData.leavesShortAll 1001 (ps.map tupD)) = true
      rw [i4, decide_eq_true t1, decide_eq_true t2]
      rfl
    · show ((PyData.int p.1).weight + 1 + ((PyData.int p.2).weight + 1 + 0)) + 1 + PyData.weightAll (ps.map tupD) ≤ 2010 * (ps.length + 1)
      omega
theorem prs_ok {ps : List PI} (hn : ps.length ≤ 8) (hz : ∀ p ∈ ps, shortP p) : (prD ps).showable = true ∧ (prD ps).hasDict = false ∧ (prD ps).depth ≤ 20 ∧ (prD ps).shown.length ≤ sizeLine := by
  obtain ⟨i1, i2, i3, i4, i5⟩ := pr_show hz
  refine ⟨i1, i2, by show PyData.depthAll (ps.map tupD) + 1 ≤ 20; omega, ?_⟩
  have h := PyData.shown_le 1001 (by decide) (prD ps) i4
  have e : (prD ps).weight = PyData.weightAll (ps.map tupD) := rfl
  rw [sizeLine_eq]
  have : (1001 + 2) * (prD ps).weight ≤ 1003 * (2010 * 8) := Nat.mul_le_mul (Nat.le_refl _) (by omega)
  omega
theorem bls_dp {K : PySem.W.Frag} {H : Hp} : ∀ bs : List Bool, DpAll K H (bs.map V.bl) (bs.map PyData.bool)
  | [] => .nil
  | _ :: bs => .cons (.bl _) (bls_dp bs)
abbrev bl3 (b1 b2 b3 : Bool) : PyData := .list [.bool b1, .bool b2, .bool b3]
theorem bl3_ok (b1 b2 b3 : Bool) : (bl3 b1 b2 b3).showable = true ∧ (bl3 b1 b2 b3).hasDict = false ∧ (bl3 b1 b2 b3).depth ≤ 20 ∧ (bl3 b1 b2 b3).shown.length ≤ sizeLine := by
  refine ⟨rfl, rfl, by show 0 + 1 ≤ 20; decide, ?_⟩
  have h := PyData.shown_le 8 (by decide) (bl3 b1 b2 b3) (by cases b1 <;> cases b2 <;> cases b3 <;> decide +kernel)
  have e : (bl3 b1 b2 b3).weight = 3 := rfl
  rw [sizeLine_eq]
  omega
theorem boot_repr : bootBuiltins "repr" = some (.builtin "repr") := by decide +kernel
/-! ### what the law's text says beside the defs -/
/-- what the text says of an operator's names in int -/
structure IntOp (K : PySem.W.Frag) (C : Addr) (nm : String) : Prop where
  r : ∃ rc, PySem.W.findIn K (.ref C) (dunderR nm) = some rc ∧ (rc = none ∨ ∃ g : Addr, rc = some (.ref g))
  i : ∃ fo, PySem.W.findIn K (.type "int") (PySem.dunder nm) = some fo
  j : ∃ ro, PySem.W.findIn K (.type "int") (dunderR nm) = some ro
  s : PySem.W.subIn K (.type "int") (.ref C) = some false
structure TxtM (K : PySem.W.Frag) (mg : Str → Option Value) (C : Addr) : Prop where
  re : mg "repr" = none
  st : mg "str" = none
  ab : mg "abs" = none
  ra : mg "range" = none
  tu : mg "tuple" = none
  sf : PySem.W.selfFirst K C = true
  oA : IntOp K C "add"
  oS : IntOp K C "sub"
  oM : IntOp K C "mul"
  si : PySem.W.subIn K (.ref C) (.type "int") = some false
/-! ### drawn pairs -/
structure Wf (p : PI) : Prop where
  lf : Lf p.1 p.2
  tz : p.1.natAbs < 2 ^ 240
  bz : p.2.natAbs < 2 ^ 240
theorem Wf.pp {p : PI} (h : Wf p) : Pp p := ⟨h.lf.1, pow_up h.tz (by decide), pow_up h.bz (by decide)⟩
theorem Wf.sz {p : PI} (h : Wf p) : Sz p.1 p.2 := h.pp.sz
theorem Wf.b8 {p : PI} (h : Wf p) : p.2.natAbs < 2 ^ 8000 := pow_up h.bz (by decide)
/-- with the other sign -/
def negP (p : PI) : PI := (0 - p.1, p.2)
def absP (p : PI) : PI := (iabs p.1, p.2)
theorem Wf.neg {p : PI} (h : Wf p) : Wf (negP p) := by
  have e : (0 : Int) - p.1 = -p.1 := by omega
  refine ⟨?_, ?_, h.bz⟩
  · show Lf (0 - p.1) p.2
    rw [e]
    exact h.lf.neg
  · show (0 - p.1).natAbs < _
    rw [e, Int.natAbs_neg]
    exact h.tz
theorem Wf.abs {p : PI} (h : Wf p) : Wf (absP p) := by
  unfold absP iabs
  split
  · have := h.neg
    unfold negP at this
    rw [Int.zero_sub] at this
    exact this
  · exact h
theorem Wf.short {p : PI} (h : Wf p) : shortP p := ⟨pow_up h.tz (by decide), pow_up h.bz (by decide)⟩
theorem mul_short {a b : Int} (h : a.natAbs < 2 ^ 240) (g : b.natAbs < 2 ^ 240) : (a * b).natAbs < 2 ^ 480 := wide_lt h g
theorem add_short {a b : Int} (h : a.natAbs < 2 ^ 480) (g : b.natAbs < 2 ^ 480) : (a + b).natAbs < 2 ^ 1000 := by
  have e : (2 : Nat) ^ 480 + 2 ^ 480 ≤ 2 ^ 1000 := by decide +kernel
  omega
theorem Wf.plus {p r : PI} (h : Wf p) (g : Wf r) : shortP (plusP p r) := by
  have nb : p.2 * r.2 ≠ 0 := Int.mul_ne_zero h.lf.ne g.lf.ne
  exact ⟨Nat.lt_of_le_of_lt (nT_le nb) (add_short (mul_short h.tz g.bz) (mul_short g.tz h.bz)), Nat.lt_of_le_of_lt (nB_le nb) (pow_up (mul_short h.bz g.bz) (by decide))⟩
theorem Wf.by_ {p r : PI} (h : Wf p) (g : Wf r) : shortP (byP p r) := by
  have nb : p.2 * r.2 ≠ 0 := Int.mul_ne_zero h.lf.ne g.lf.ne
  exact ⟨Nat.lt_of_le_of_lt (nT_le nb) (pow_up (mul_short h.tz g.tz) (by decide)), Nat.lt_of_le_of_lt (nB_le nb) (pow_up (mul_short h.bz g.bz) (by decide))⟩
theorem sub_plus (p r : PI) : fSub p.1 p.2 r.1 r.2 = p.1 * (negP r).2 + (negP r).1 * p.2 := by
  show p.1 * r.2 - r.1 * p.2 = p.1 * r.2 + (0 - r.1) * p.2
  have e : (0 - r.1) * p.2 = -(r.1 * p.2) := by rw [Int.zero_sub, Int.neg_mul]
  rw [e, Int.sub_eq_add_neg]
end FR
namespace FR
theorem zero_sub_is {p : PI} (h : Wf p) : nT (fSub 0 1 p.1 p.2) (1 * p.2) = (negP p).1 ∧ nB (fSub 0 1 p.1 p.2) (1 * p.2) = (negP p).2 := by
  have e : fSub 0 1 p.1 p.2 = 0 - p.1 := by
    unfold fSub
    rw [Int.zero_mul, Int.mul_one]
  rw [e, Int.one_mul]
  exact ⟨h.neg.lf.nT, h.neg.lf.nB⟩
theorem neg_is {p : PI} (h : Wf p) : nT (-p.1) p.2 = (negP p).1 ∧ nB (-p.1) p.2 = (negP p).2 := by
  have e : -p.1 = 0 - p.1 := by omega
  rw [e]
  exact ⟨h.neg.lf.nT, h.neg.lf.nB⟩
theorem abs_is {p : PI} (h : Wf p) : nT (iabs p.1) p.2 = (absP p).1 ∧ nB (iabs p.1) p.2 = (absP p).2 := ⟨h.abs.lf.nT, h.abs.lf.nB⟩
theorem sz01 : Sz 0 1 := ⟨by decide +kernel, by decide +kernel, by decide⟩
end FR
namespace FR
theorem all_n {S : PI → Prop} : ∀ z ∈ ([] : List PI), S z := fun z h => nomatch h
theorem all_c {S : PI → Prop} {a : PI} {l : List PI} (h : S a) (t : ∀ z ∈ l, S z) : ∀ z ∈ a :: l, S z := fun z hz => by
  rcases List.mem_cons.mp hz with e | e
  · rw [e]; exact h
  · exact t z e
end FR
namespace FR
open PySem
theorem eqv_two (a b c e : Int) : PyData.eqv (.tuple [.int a, .int b]) (.tuple [.int c, .int e]) = decide (a = c ∧ b = e) := by
  rw [Bool.eq_iff_iff]
  simp [PyData.eqv, PyData.eqvAll]
theorem eqv_tup (p : PI) : (!PyData.eqv (tupD p) (tupD p)) = false := by
  show (!PyData.eqv (.tuple [.int p.1, .int p.2]) (.tuple [.int p.1, .int p.2])) = false
  rw [eqv_two, decide_eq_true ⟨rfl, rfl⟩]
  rfl
end FR
set_option Elab.async false
set_option linter.all false
set_option maxRecDepth 100000
set_option maxHeartbeats 4000000
namespace FR
open PySem PySem.Spec PyProof.Rows L2 LD
abbrev sTwo : Stmt := FR.top 38
abbrev N2 : List Str := ["_law_first", "_law_second", "_law_one", "_law_two", "_law_less", "_law_back", "_law_told_here", "_law_due", "_law_quotient", "_law_some"]
theorem sc2 : FnScope N2 ["_law_first", "_law_second"] (defScope sTwo) := ⟨rfl, rfl, rfl, by decide +kernel, rfl, by decide +kernel, by decide +kernel⟩
def spTwo : Sp := fun vs H Q _ => ∃ (a c : Addr) (p r : PI), vs = [.ref a, .ref c] ∧ TA H a p ∧ TA H c r ∧ Wf p ∧ Wf r ∧ ∀ H', Same H H' → Q (.bl true) H'
section
variable {P : Program} {w : World} {K : PySem.W.Frag} {mg : Str → Option Value} {base : Heap} {C fI pT gT0 pB gB0 : Addr} {fdI fdT fdB : FuncData}
theorem ok_two {f : Addr} {fd : FuncData} (F : Fun K "_law_two_right" "_law_two_right" sTwo f fd) (k : FrK P w K mg base C fI pT gT0 pB gB0 fdI fdT fdB) (T : TxtM K mg C)
    (gP : Glo P w K mg base "_law_plus" 3 N12 (spLP plusP)) (gB : Glo P w K mg base "_law_by" 3 N12 (spLP byP)) (gL : Glo P w K mg base "_law_is_less" 1 N12 spLle) (gT : Glo P w K mg base "_law_told" 3 ["_law_thing"] (spTold C)) (gPa : Glo P w K mg base "_law_pair" 3 ["_law_top", "_law_bottom"] spPair)
    (mAdd : Met P w K mg base C "__add__" 5 ["self", "other"] (spOp C fAdd)) (mSub : Met P w K mg base C "__sub__" 5 ["self", "other"] (spOp C fSub)) (mMul : Met P w K mg base C "__mul__" 5 ["self", "other"] (spOp C fMul)) (mRsub : Met P w K mg base C "__rsub__" 6 ["self", "other"] (spRsub C))
    (mNeg : Met P w K mg base C "__neg__" 4 ["self"] (spNeg C)) (mAbs : Met P w K mg base C "__abs__" 4 ["self"] (spAbs C)) (mBy : Met P w K mg base C "by" 5 ["self", "other"] (spBy C)) (mLess : Met P w K mg base C "is_less" 5 ["self", "other"] (spLess C)) :
    FnG P w K mg base CX0 7 f fd ["_law_first", "_law_second"] spTwo := by
  refine F.okG sc2 (fun vs H Q E h => ?_) (fun cdv A outer s H vs Q E hr hgA h => ?_)
  · obtain ⟨a, c, p, r, rfl, _⟩ := h
    rfl
  · obtain ⟨a, c, p, r, rfl, ha, hc, wp, wr, q⟩ := h
    have hgd : (A.deeper (envOfC "_law_two_right" (defScope sTwo) s.heap.objs.size f cdv)).guards = some [] := guards_deeper hgA
    have hr1 := hr.mono (j := 1) (by decide)
    have hr2 := hr.mono (j := 2) (by decide)
    have hr3 := hr.mono (j := 3) (by decide)
    have hr4 := hr.mono (j := 4) (by decide)
    have hr5 := hr.mono (j := 5) (by decide)
    have hr6 := hr.mono (j := 6) (by decide)
    refine ⟨_, pss_cons (ps_par (i := 2) (j := 3) (by rfl) sc2.nd rfl rfl (by decide) rfl rfl (pa_cons (pe_make k.M k.GI hr3 (by rfl) k.T.mC k.b2 .nil pass0 (pa_cons (pe_ix ix_tup (pv 0) pe_int (fun _ _ => rfl)) (pa_cons (pe_ix ix_tup (pv 0) pe_int (fun _ _ => rfl)) pa_nil))) (pa_cons (pe_make k.M k.GI hr3 (by rfl) k.T.mC k.b2 .nil pass0 (pa_cons (pe_ix ix_tup (pv 1) pe_int (fun _ _ => rfl)) (pa_cons (pe_ix ix_tup (pv 1) pe_int (fun _ _ => rfl)) pa_nil))) pa_nil)) (by rfl))
      (pss_cons (ps_par (i := 4) (j := 5) (by rfl) sc2.nd rfl rfl (by decide) rfl rfl (pa_cons (pe_tup (pa_cons (pe_op op_sub pe_int (pe_ix ix_tup (pv 1) pe_int (fun _ _ => rfl))) (pa_cons (pe_ix ix_tup (pv 1) pe_int (fun _ _ => rfl)) pa_nil))) (pa_cons (pe_tup (pa_cons (pe_op op_sub pe_int (pe_ix ix_tup (pv 0) pe_int (fun _ _ => rfl))) (pa_cons (pe_ix ix_tup (pv 0) pe_int (fun _ _ => rfl)) pa_nil))) pa_nil)) (by rfl))
      (pss_cons (ps_setLc (i := 6) (own := [("_law_some", 9)]) (g := gName 9) (tt := tYes) rfl sc2.nd rfl rfl (sw_true rfl rfl rfl (by decide +kernel)) (pi_tup (pe_tup (pa_cons (pe_op (op_own2 (op := .Add) mAdd.D T.sf mAdd.G hr5 mAdd.b pass0) (pv 2) (pv 3)) (pa_cons (pe_op (op_own2 (op := .Sub) mSub.D T.sf mSub.G hr5 mSub.b pass0) (pv 2) (pv 3)) (pa_cons (pe_op (op_own2 (op := .Mult) mMul.D T.sf mMul.G hr5 mMul.b pass0) (pv 2) (pv 3)) (pa_cons (pe_op (op_own2 (op := .Sub) mSub.D T.sf mSub.G hr5 mSub.b pass0) (pv 3) (pv 2)) (pa_cons (pe_op (op_Iown (op := .Sub) mSub.D mRsub.D T.sf PySem.F.fills_int_sub PySem.F.slot_int_sub PySem.F.entry_int_sub PySem.F.args_int_sub_2 (fun i t l dx => OW.int_sub_no i t) T.si mRsub.G hr6 mRsub.b pass0) pe_int (pv 2)) (pa_cons (pe_un (un_own mNeg.D mNeg.G hr4 mNeg.b pass0) (pv 2)) (pa_cons (pe_callB (call_absOwn mAbs.D mAbs.G hr5 mAbs.b pass0) (by rfl) T.ab (by decide +kernel) (pa_cons (pv 2) pa_nil)) pa_nil))))))))) (blkOk_by (N := N2) (sc := defScope sTwo) (by decide +kernel)) (fun _ _ _ _ _ => pg_name (i := 9) sc2.nd rfl (.inl rfl)) (fun _ _ _ _ _ => pts_nil) (fun _ _ _ _ _ => (pe_call gT.G hr3 (by rfl) gT.m gT.k gT.b .nil pass0 (pa_cons (pv 9) pa_nil))))
      (pss_cons (ps_set (i := 7) sc2.nd rfl (Or.inl rfl) (pe_lst (pa_cons (pe_call gP.G hr3 (by rfl) gP.m gP.k gP.b .nil pass0 (pa_cons (pv 0) (pa_cons (pv 1) pa_nil))) (pa_cons (pe_call gP.G hr3 (by rfl) gP.m gP.k gP.b .nil pass0 (pa_cons (pv 0) (pa_cons (pv 4) pa_nil))) (pa_cons (pe_call gB.G hr3 (by rfl) gB.m gB.k gB.b .nil pass0 (pa_cons (pv 0) (pa_cons (pv 1) pa_nil))) (pa_cons (pe_call gP.G hr3 (by rfl) gP.m gP.k gP.b .nil pass0 (pa_cons (pv 1) (pa_cons (pv 5) pa_nil))) pa_nil))))))
      (pss_cons (ps_if (pt_cmpR op_ne (pe_callB (call_repr hgd hr.units) (by rfl) T.re boot_repr (pa_cons (pv 6) pa_nil)) (pe_callB (call_repr hgd hr.units) (by rfl) T.re boot_repr (pa_cons (pe_op op_cat (pv 7) (pe_lst (pa_cons (pv 5) (pa_cons (pv 5) (pa_cons (pe_tup (pa_cons (pe_callB call_abs (by rfl) T.ab (by decide +kernel) (pa_cons (pe_ix ix_tup (pv 0) pe_int (fun _ _ => rfl)) pa_nil)) (pa_cons (pe_ix ix_tup (pv 0) pe_int (fun _ _ => rfl)) pa_nil))) pa_nil))))) pa_nil)) (nomark _)) (pss_one (ps_ret pe_bl)) pss_nil)
      (pss_cons (ps_set (i := 8) sc2.nd rfl (Or.inl rfl) (pe_tup (pa_cons (pe_op op_mulW (pe_ix ix_tup (pv 0) pe_int (fun _ _ => rfl)) (pe_ix ix_tup (pv 1) pe_int (fun _ _ => rfl))) (pa_cons (pe_op op_mulW (pe_ix ix_tup (pv 0) pe_int (fun _ _ => rfl)) (pe_ix ix_tup (pv 1) pe_int (fun _ _ => rfl))) pa_nil))))
      (pss_cons (ps_if (PW.pt (pw_and (pt_cmpR op_ne (pe_ix ix_tup (pv 1) pe_int (fun _ _ => rfl)) pe_int (nomark _)) (pw_and1 (pt_cmpR (op_neD hr.units) (pe_call gT.G hr3 (by rfl) gT.m gT.k gT.b .nil pass0 (pa_cons (pe_meth (pv 2) k.T.cl ⟨mBy.D.at_, mBy.D.fn, mBy.kp⟩ mBy.G hr5 mBy.b .nil pass0 (pa_cons (pv 3) pa_nil)) pa_nil)) (pe_call gPa.G hr3 (by rfl) gPa.m gPa.k gPa.b .nil pass0 (pa_cons (pe_ix ix_tup (pv 8) pe_int (fun _ _ => rfl)) (pa_cons (pe_ix ix_tup (pv 8) pe_int (fun _ _ => rfl)) pa_nil))) (nomark _))))) (pss_one (ps_ret pe_bl)) pss_nil)
      (pss_cons (ps_set (i := 6) sc2.nd rfl (Or.inl rfl) (pe_lst (pa_cons (pe_meth (pv 2) k.T.cl ⟨mLess.D.at_, mLess.D.fn, mLess.kp⟩ mLess.G hr5 mLess.b .nil pass0 (pa_cons (pv 3) pa_nil)) (pa_cons (pe_meth (pv 3) k.T.cl ⟨mLess.D.at_, mLess.D.fn, mLess.kp⟩ mLess.G hr5 mLess.b .nil pass0 (pa_cons (pv 2) pa_nil)) (pa_cons (pe_meth (pv 2) k.T.cl ⟨mLess.D.at_, mLess.D.fn, mLess.kp⟩ mLess.G hr5 mLess.b .nil pass0 (pa_cons (pv 2) pa_nil)) pa_nil)))))
      (pss_one (ps_ret (pe_cmpR op_eq (pe_callB (call_repr hgd hr.units) (by rfl) T.re boot_repr (pa_cons (pv 6) pa_nil)) (pe_callB (call_repr hgd hr.units) (by rfl) T.re boot_repr (pa_cons (pe_lst (pa_cons (pe_call gL.G hr1 (by rfl) gL.m gL.k gL.b .nil pass0 (pa_cons (pv 0) (pa_cons (pv 1) pa_nil))) (pa_cons (pe_call gL.G hr1 (by rfl) gL.m gL.k gL.b .nil pass0 (pa_cons (pv 1) (pa_cons (pv 0) pa_nil))) (pa_cons pe_bl pa_nil)))) pa_nil)) (nomark _))))))))))), ?_⟩
    have z1 := wp.sz
    have z2 := wr.sz
    refine ⟨_, rfl, a, _, _, _, rfl, rfl, SqT.of ha, rfl, _, rfl, a, _, _, _, rfl, rfl, SqT.of ha, rfl, fun x1 dx1 nx1 nd1 ne1 => ⟨x1, dx1, _, _, rfl, upd_same, wp.lf.ne, dv8 wp.lf.ne wp.b8, fun H1 h1 hs1 => ⟨rfl, ?_⟩⟩⟩
    have sm := same_make (C := C) nx1 nd1 hs1
    replace ha := sm _ _ ha
    replace hc := sm _ _ hc
    rw [wp.lf.nT, wp.lf.nB] at h1
    have sA := sm
    refine ⟨_, rfl, c, _, _, _, rfl, rfl, SqT.of hc, rfl, _, rfl, c, _, _, _, rfl, rfl, SqT.of hc, rfl, fun x2 dx2 nx2 nd2 ne2 => ⟨x2, dx2, _, _, rfl, upd_same, wr.lf.ne, dv8 wr.lf.ne wr.b8, fun H2 h2 hs2 => ⟨rfl, ?_⟩⟩⟩
    have sm := same_make (C := C) nx2 nd2 hs2
    replace ha := sm _ _ ha
    replace hc := sm _ _ hc
    replace h1 := h1.same sm
    replace sA := sA.trans sm
    rw [wr.lf.nT, wr.lf.nB] at h2
    refine ⟨_, _, rfl, ?_⟩
    refine ⟨_, rfl, c, _, _, _, rfl, rfl, SqT.of hc, rfl, _, _, rfl, rfl, _, rfl, c, _, _, _, rfl, rfl, SqT.of hc, rfl, small1000 (by show 1 ≤ 1000; decide), fun l hl => ?_⟩
    have sm := same_new (o := .tup [.int (0 - r.1), .int r.2]) hl
    replace ha := sm _ _ ha
    replace hc := sm _ _ hc
    replace h1 := h1.same sm
    replace sA := sA.trans sm
    replace h2 := h2.same sm
    have hlt : TA (upd H2 l (.tup [.int (0 - r.1), .int r.2])) l (negP r) := upd_same
    generalize upd H2 l _ = H3 at *
    refine ⟨_, rfl, a, _, _, _, rfl, rfl, SqT.of ha, rfl, _, _, rfl, rfl, _, rfl, a, _, _, _, rfl, rfl, SqT.of ha, rfl, small1000 (by show 1 ≤ 1000; decide), fun k0 hk => ?_⟩
    have sm := same_new (o := .tup [.int (0 - p.1), .int p.2]) hk
    replace ha := sm _ _ ha
    replace hc := sm _ _ hc
    replace h1 := h1.same sm
    replace sA := sA.trans sm
    replace h2 := h2.same sm
    replace hlt := sm _ _ hlt
    have hkt : TA (upd H3 k0 (.tup [.int (0 - p.1), .int p.2])) k0 (negP p) := upd_same
    generalize upd H3 k0 _ = H4 at *
    refine ⟨_, _, rfl, ?_⟩
    obtain ⟨e1, g1⟩ := id h1
    obtain ⟨e2, g2⟩ := id h2
    refine ⟨_, rfl, _, rfl, x1, x2, e1, e2, _, _, rfl, rfl, g1, g2, x1, .ref x2, p.1, p.2, r.1, r.2, rfl, h1, .inl ⟨x2, rfl, h2⟩, z1, z2, fun y1 G1 f1 sm _ => ?_⟩
    replace ha := sm _ _ ha
    replace hc := sm _ _ hc
    replace h1 := h1.same sm
    replace sA := sA.trans sm
    replace h2 := h2.same sm
    replace hlt := sm _ _ hlt
    replace hkt := sm _ _ hkt
    replace g1 := sm _ _ g1
    replace g2 := sm _ _ g2
    have f1 : FrAt C G1 y1 (plusP p r).1 (plusP p r).2 := f1
    refine ⟨_, rfl, _, rfl, x1, x2, e1, e2, _, _, rfl, rfl, g1, g2, x1, .ref x2, p.1, p.2, r.1, r.2, rfl, h1, .inl ⟨x2, rfl, h2⟩, z1, z2, fun y2 G2 f2 sm _ => ?_⟩
    replace ha := sm _ _ ha
    replace hc := sm _ _ hc
    replace h1 := h1.same sm
    replace sA := sA.trans sm
    replace h2 := h2.same sm
    replace hlt := sm _ _ hlt
    replace hkt := sm _ _ hkt
    replace g1 := sm _ _ g1
    replace g2 := sm _ _ g2
    replace f1 := f1.same sm
    rw [sub_plus] at f2
    have f2 : FrAt C G2 y2 (plusP p (negP r)).1 (plusP p (negP r)).2 := f2
    refine ⟨_, rfl, _, rfl, x1, x2, e1, e2, _, _, rfl, rfl, g1, g2, x1, .ref x2, p.1, p.2, r.1, r.2, rfl, h1, .inl ⟨x2, rfl, h2⟩, z1, z2, fun y3 G3 f3 sm _ => ?_⟩
    replace ha := sm _ _ ha
    replace hc := sm _ _ hc
    replace h1 := h1.same sm
    replace sA := sA.trans sm
    replace h2 := h2.same sm
    replace hlt := sm _ _ hlt
    replace hkt := sm _ _ hkt
    replace g1 := sm _ _ g1
    replace g2 := sm _ _ g2
    replace f1 := f1.same sm
    replace f2 := f2.same sm
    have f3 : FrAt C G3 y3 (byP p r).1 (byP p r).2 := f3
    refine ⟨_, rfl, _, rfl, x2, x1, e2, e1, _, _, rfl, rfl, g2, g1, x2, .ref x1, r.1, r.2, p.1, p.2, rfl, h2, .inl ⟨x1, rfl, h1⟩, z2, z1, fun y4 G4 f4 sm _ => ?_⟩
    replace ha := sm _ _ ha
    replace hc := sm _ _ hc
    replace h1 := h1.same sm
    replace sA := sA.trans sm
    replace h2 := h2.same sm
    replace hlt := sm _ _ hlt
    replace hkt := sm _ _ hkt
    replace g1 := sm _ _ g1
    replace g2 := sm _ _ g2
    replace f1 := f1.same sm
    replace f2 := f2.same sm
    replace f3 := f3.same sm
    rw [sub_plus] at f4
    have f4 : FrAt C G4 y4 (plusP r (negP p)).1 (plusP r (negP p)).2 := f4
    refine ⟨_, rfl, x1, 0, e1, _, rfl, rfl, g1, x1, 0, p.1, p.2, rfl, h1, z1, sz01, fun y5 G5 f5 sm _ => ?_⟩
    replace ha := sm _ _ ha
    replace hc := sm _ _ hc
    replace h1 := h1.same sm
    replace sA := sA.trans sm
    replace h2 := h2.same sm
    replace hlt := sm _ _ hlt
    replace hkt := sm _ _ hkt
    replace g1 := sm _ _ g1
    replace g2 := sm _ _ g2
    replace f1 := f1.same sm
    replace f2 := f2.same sm
    replace f3 := f3.same sm
    replace f4 := f4.same sm
    rw [(zero_sub_is wp).1, (zero_sub_is wp).2] at f5
    refine ⟨_, rfl, x1, e1, _, rfl, g1, x1, p.1, p.2, rfl, h1, z1, fun y6 G6 f6 sm _ => ?_⟩
    replace ha := sm _ _ ha
    replace hc := sm _ _ hc
    replace h1 := h1.same sm
    replace sA := sA.trans sm
    replace h2 := h2.same sm
    replace hlt := sm _ _ hlt
    replace hkt := sm _ _ hkt
    replace g1 := sm _ _ g1
    replace g2 := sm _ _ g2
    replace f1 := f1.same sm
    replace f2 := f2.same sm
    replace f3 := f3.same sm
    replace f4 := f4.same sm
    replace f5 := f5.same sm
    rw [(neg_is wp).1, (neg_is wp).2] at f6
    refine ⟨_, rfl, x1, e1, _, rfl, g1, x1, p.1, p.2, rfl, h1, z1, fun y7 G7 f7 sm _ => ?_⟩
    replace ha := sm _ _ ha
    replace hc := sm _ _ hc
    replace h1 := h1.same sm
    replace sA := sA.trans sm
    replace h2 := h2.same sm
    replace hlt := sm _ _ hlt
    replace hkt := sm _ _ hkt
    replace g1 := sm _ _ g1
    replace g2 := sm _ _ g2
    replace f1 := f1.same sm
    replace f2 := f2.same sm
    replace f3 := f3.same sm
    replace f4 := f4.same sm
    replace f5 := f5.same sm
    replace f6 := f6.same sm
    rw [(abs_is wp).1, (abs_is wp).2] at f7
    refine ⟨small1000 (by show 6 ≤ 1000; decide), fun tp htp => ?_⟩
    have sm := same_new (o := .tup [V.ref y1, .ref y2, .ref y3, .ref y4, .ref y5, .ref y6, .ref y7]) htp
    replace ha := sm _ _ ha
    replace hc := sm _ _ hc
    replace h1 := h1.same sm
    replace sA := sA.trans sm
    replace h2 := h2.same sm
    replace hlt := sm _ _ hlt
    replace hkt := sm _ _ hkt
    replace g1 := sm _ _ g1
    replace g2 := sm _ _ g2
    replace f1 := f1.same sm
    replace f2 := f2.same sm
    replace f3 := f3.same sm
    replace f4 := f4.same sm
    replace f5 := f5.same sm
    replace f6 := f6.same sm
    replace f7 := f7.same sm
    have hall : FRs C (upd G7 tp (.tup [V.ref y1, .ref y2, .ref y3, .ref y4, .ref y5, .ref y6, .ref y7])) [V.ref y1, .ref y2, .ref y3, .ref y4, .ref y5, .ref y6, .ref y7] [plusP p r, plusP p (negP r), byP p r, plusP r (negP p), negP p, negP p, absP p] := A2.cons ⟨y1, rfl, f1⟩ (A2.cons ⟨y2, rfl, f2⟩ (A2.cons ⟨y3, rfl, f3⟩ (A2.cons ⟨y4, rfl, f4⟩ (A2.cons ⟨y5, rfl, f5⟩ (A2.cons ⟨y6, rfl, f6⟩ (A2.cons ⟨y7, rfl, f7⟩ A2.nil))))))
    clear f1 f2 f3 f4 f5 f6 f7
    have htx : upd G7 tp (.tup [V.ref y1, .ref y2, .ref y3, .ref y4, .ref y5, .ref y6, .ref y7]) tp = some (.tup [V.ref y1, .ref y2, .ref y3, .ref y4, .ref y5, .ref y6, .ref y7]) := upd_same
    generalize upd G7 tp _ = G8 at *
    have hT : ∀ z ∈ [plusP p r, plusP p (negP r), byP p r, plusP r (negP p), negP p, negP p, absP p], shortP z := all_c (wp.plus wr) (all_c (wp.plus wr.neg) (all_c (wp.by_ wr) (all_c (wr.plus wp.neg) (all_c wp.neg.short (all_c wp.neg.short (all_c wp.abs.short all_n))))))
    generalize hTL : [plusP p r, plusP p (negP r), byP p r, plusP r (negP p), negP p, negP p, absP p] = TL at hall hT
    have hxl : [V.ref y1, .ref y2, .ref y3, .ref y4, .ref y5, .ref y6, .ref y7].length = 7 := rfl
    generalize [V.ref y1, .ref y2, .ref y3, .ref y4, .ref y5, .ref y6, .ref y7] = xs at hall htx hxl
    refine ⟨tp, rfl, ⟨_, SqT.of htx⟩, fun D hD => ?_⟩
    refine lc_tup (xs := xs) (fun i Hc => Same G8 Hc ∧ ∃ vs, Hc D = some (.lst vs) ∧ TPs Hc vs (TL.take i)) ⟨same_new hD, [], upd_same, A2.nil⟩ (fun i Hc _ p => SqT.of (p.1 _ _ htx)) ?_ ?_
    · rintro i v Hc hv ⟨sm, vs, hDc, ht⟩
      obtain ⟨z, hz, y, rfl, hy⟩ := (hall.same sm).2 i v hv
      refine ⟨rfl, _, rfl, y, z.1, z.2, rfl, hy, fun pq hpq => ?_⟩
      have hi : i < TL.length := (List.getElem?_eq_some_iff.mp hz).1
      have sn := same_new (o := .tup [.int z.1, .int z.2]) hpq
      refine ⟨vs, sn _ _ hDc, small1000 (by rw [ht.1, List.length_take]; have := hall.1; omega), same_grow hD (sm.trans sn), vs ++ [.ref pq], upd_same, ?_⟩
      rw [take_snoc hz]
      exact A2.snoc ((ht.same sn).updl (sn _ _ hDc)) ⟨pq, rfl, tup_updl upd_same (sn _ _ hDc)⟩
    rintro G9 ⟨sm, vs, hvs, ht⟩
    replace ha := sm _ _ ha
    replace hc := sm _ _ hc
    replace h1 := h1.same sm
    replace sA := sA.trans sm
    replace h2 := h2.same sm
    replace hlt := sm _ _ hlt
    replace hkt := sm _ _ hkt
    replace g1 := sm _ _ g1
    replace g2 := sm _ _ g2
    rw [take_all hall.1] at ht
    have tn : TL.length ≤ 8 := by rw [← hall.1, hxl]; decide
    clear hall htx hxl
    refine ⟨_, rfl, _, rfl, a, c, p, r, rfl, ha, hc, wp.pp, wr.pp, fun d1 hd1 => ?_⟩
    have sm := same_new (o := (.tup [.int (plusP p r).1, .int (plusP p r).2])) hd1
    replace ha := sm _ _ ha
    replace hc := sm _ _ hc
    replace h1 := h1.same sm
    replace sA := sA.trans sm
    replace h2 := h2.same sm
    replace hlt := sm _ _ hlt
    replace hkt := sm _ _ hkt
    replace g1 := sm _ _ g1
    replace g2 := sm _ _ g2
    replace hvs := sm _ _ hvs
    replace ht := ht.same sm
    have t1 : TA (upd G9 d1 (.tup [.int (plusP p r).1, .int (plusP p r).2])) d1 (plusP p r) := upd_same
    generalize upd G9 d1 _ = K1 at *
    refine ⟨_, rfl, _, rfl, a, l, p, (negP r), rfl, ha, hlt, wp.pp, wr.neg.pp, fun d2 hd2 => ?_⟩
    have sm := same_new (o := (.tup [.int (plusP p (negP r)).1, .int (plusP p (negP r)).2])) hd2
    replace ha := sm _ _ ha
    replace hc := sm _ _ hc
    replace h1 := h1.same sm
    replace sA := sA.trans sm
    replace h2 := h2.same sm
    replace hlt := sm _ _ hlt
    replace hkt := sm _ _ hkt
    replace g1 := sm _ _ g1
    replace g2 := sm _ _ g2
    replace hvs := sm _ _ hvs
    replace ht := ht.same sm
    replace t1 := sm _ _ t1
    have t2 : TA (upd K1 d2 (.tup [.int (plusP p (negP r)).1, .int (plusP p (negP r)).2])) d2 (plusP p (negP r)) := upd_same
    generalize upd K1 d2 _ = K2 at *
    refine ⟨_, rfl, _, rfl, a, c, p, r, rfl, ha, hc, wp.pp, wr.pp, fun d3 hd3 => ?_⟩
    have sm := same_new (o := (.tup [.int (byP p r).1, .int (byP p r).2])) hd3
    replace ha := sm _ _ ha
    replace hc := sm _ _ hc
    replace h1 := h1.same sm
    replace sA := sA.trans sm
    replace h2 := h2.same sm
    replace hlt := sm _ _ hlt
    replace hkt := sm _ _ hkt
    replace g1 := sm _ _ g1
    replace g2 := sm _ _ g2
    replace hvs := sm _ _ hvs
    replace ht := ht.same sm
    replace t1 := sm _ _ t1
    replace t2 := sm _ _ t2
    have t3 : TA (upd K2 d3 (.tup [.int (byP p r).1, .int (byP p r).2])) d3 (byP p r) := upd_same
    generalize upd K2 d3 _ = K3 at *
    refine ⟨_, rfl, _, rfl, c, k0, r, (negP p), rfl, hc, hkt, wr.pp, wp.neg.pp, fun d4 hd4 => ?_⟩
    have sm := same_new (o := (.tup [.int (plusP r (negP p)).1, .int (plusP r (negP p)).2])) hd4
    replace ha := sm _ _ ha
    replace hc := sm _ _ hc
    replace h1 := h1.same sm
    replace sA := sA.trans sm
    replace h2 := h2.same sm
    replace hlt := sm _ _ hlt
    replace hkt := sm _ _ hkt
    replace g1 := sm _ _ g1
    replace g2 := sm _ _ g2
    replace hvs := sm _ _ hvs
    replace ht := ht.same sm
    replace t1 := sm _ _ t1
    replace t2 := sm _ _ t2
    replace t3 := sm _ _ t3
    have t4 : TA (upd K3 d4 (.tup [.int (plusP r (negP p)).1, .int (plusP r (negP p)).2])) d4 (plusP r (negP p)) := upd_same
    generalize upd K3 d4 _ = K4 at *
    refine ⟨small1000 (by show 3 ≤ 1000; decide), fun L1 hL1 => ?_⟩
    have sm := same_new (o := (.lst [.ref d1, .ref d2, .ref d3, .ref d4])) hL1
    replace ha := sm _ _ ha
    replace hc := sm _ _ hc
    replace h1 := h1.same sm
    replace sA := sA.trans sm
    replace h2 := h2.same sm
    replace hlt := sm _ _ hlt
    replace hkt := sm _ _ hkt
    replace g1 := sm _ _ g1
    replace g2 := sm _ _ g2
    replace hvs := sm _ _ hvs
    replace ht := ht.same sm
    replace t1 := sm _ _ t1
    replace t2 := sm _ _ t2
    replace t3 := sm _ _ t3
    replace t4 := sm _ _ t4
    have l1 : upd K4 L1 (.lst [.ref d1, .ref d2, .ref d3, .ref d4]) L1 = some (.lst [.ref d1, .ref d2, .ref d3, .ref d4]) := upd_same
    generalize upd K4 L1 _ = K5 at *
    obtain ⟨i1, i2, i3, i4⟩ := prs_ok tn hT
    refine ⟨_, rfl, D, prD TL, rfl, .lst (SqL.of hvs) ht.dp, i1, i2, i3, i4, ?_⟩
    clear hvs ht
    refine ⟨_, rfl, _, rfl, _, rfl, _, rfl, a, _, _, _, rfl, rfl, SqT.of ha, rfl, _, rfl, _, rfl, a, _, _, _, rfl, rfl, SqT.of ha, rfl, small1000 (by show 1 ≤ 1000; decide), fun d5 hd5 => ?_⟩
    have sm := same_new (o := (.tup [.int (if p.1 < 0 then -p.1 else p.1), .int p.2])) hd5
    replace ha := sm _ _ ha
    replace hc := sm _ _ hc
    replace h1 := h1.same sm
    replace sA := sA.trans sm
    replace h2 := h2.same sm
    replace hlt := sm _ _ hlt
    replace hkt := sm _ _ hkt
    replace g1 := sm _ _ g1
    replace g2 := sm _ _ g2
    replace t1 := sm _ _ t1
    replace t2 := sm _ _ t2
    replace t3 := sm _ _ t3
    replace t4 := sm _ _ t4
    replace l1 := sm _ _ l1
    have t5 : TA (upd K5 d5 (.tup [.int (if p.1 < 0 then -p.1 else p.1), .int p.2])) d5 (absP p) := upd_same
    generalize upd K5 d5 _ = K51 at *
    refine ⟨small1000 (by show 2 ≤ 1000; decide), fun L2 hL2 => ?_⟩
    have sm := same_new (o := (.lst [.ref k0, .ref k0, .ref d5])) hL2
    replace ha := sm _ _ ha
    replace hc := sm _ _ hc
    replace h1 := h1.same sm
    replace sA := sA.trans sm
    replace h2 := h2.same sm
    replace hlt := sm _ _ hlt
    replace hkt := sm _ _ hkt
    replace g1 := sm _ _ g1
    replace g2 := sm _ _ g2
    replace t1 := sm _ _ t1
    replace t2 := sm _ _ t2
    replace t3 := sm _ _ t3
    replace t4 := sm _ _ t4
    replace l1 := sm _ _ l1
    replace t5 := sm _ _ t5
    have l2 : upd K51 L2 (.lst [.ref k0, .ref k0, .ref d5]) L2 = some (.lst [.ref k0, .ref k0, .ref d5]) := upd_same
    generalize upd K51 L2 _ = K52 at *
    refine ⟨L1, L2, _, _, rfl, rfl, l1, l2, by show 4 + 3 ≤ sizeLine; rw [sizeLine_eq]; decide, fun L3 hL3 => ?_⟩
    have sm := same_new (o := (.lst ([.ref d1, .ref d2, .ref d3, .ref d4] ++ [.ref k0, .ref k0, .ref d5]))) hL3
    replace ha := sm _ _ ha
    replace hc := sm _ _ hc
    replace h1 := h1.same sm
    replace sA := sA.trans sm
    replace h2 := h2.same sm
    replace hlt := sm _ _ hlt
    replace hkt := sm _ _ hkt
    replace g1 := sm _ _ g1
    replace g2 := sm _ _ g2
    replace t1 := sm _ _ t1
    replace t2 := sm _ _ t2
    replace t3 := sm _ _ t3
    replace t4 := sm _ _ t4
    replace l1 := sm _ _ l1
    replace t5 := sm _ _ t5
    replace l2 := sm _ _ l2
    have l3 : upd K52 L3 (.lst ([.ref d1, .ref d2, .ref d3, .ref d4] ++ [.ref k0, .ref k0, .ref d5])) L3 = some (.lst ([.ref d1, .ref d2, .ref d3, .ref d4] ++ [.ref k0, .ref k0, .ref d5])) := upd_same
    generalize upd K52 L3 _ = K6 at *
    have ht2 : TPs K6 ([.ref d1, .ref d2, .ref d3, .ref d4] ++ [.ref k0, .ref k0, .ref d5]) TL := by
      rw [← hTL]
      exact A2.cons ⟨d1, rfl, t1⟩ (A2.cons ⟨d2, rfl, t2⟩ (A2.cons ⟨d3, rfl, t3⟩ (A2.cons ⟨d4, rfl, t4⟩ (A2.cons ⟨k0, rfl, hkt⟩ (A2.cons ⟨k0, rfl, hkt⟩ (A2.cons ⟨d5, rfl, t5⟩ A2.nil))))))
    refine ⟨L3, prD TL, rfl, .lst (SqL.of l3) ht2.dp, i1, i2, i3, i4, ?_⟩
    refine ⟨rfl, _, rfl, ite2 (fun z => absurd z (by simp)) (fun _ => ?_)⟩
    clear t1 t2 t3 t4 t5 ht2 l1 l2 l3 hlt hkt hT tn
    have m2 := (z1.mul z2).2.1
    have m3 : CMulW p.2 r.1 := wide_mul wp.bz wr.tz (by decide) (by decide) (by decide)
    refine ⟨_, rfl, a, _, _, _, rfl, rfl, SqT.of ha, rfl, _, rfl, c, _, _, _, rfl, rfl, SqT.of hc, rfl, _, _, rfl, rfl, m2, _, rfl, a, _, _, _, rfl, rfl, SqT.of ha, rfl, _, rfl, c, _, _, _, rfl, rfl, SqT.of hc, rfl, _, _, rfl, rfl, m3, small1000 (by show 1 ≤ 1000; decide), fun qd hqd => ?_⟩
    have sm := same_new (o := (.tup [.int (p.1 * r.2), .int (p.2 * r.1)])) hqd
    replace ha := sm _ _ ha
    replace hc := sm _ _ hc
    replace h1 := h1.same sm
    replace sA := sA.trans sm
    replace h2 := h2.same sm
    replace g1 := sm _ _ g1
    replace g2 := sm _ _ g2
    have hq : TA (upd K6 qd (.tup [.int (p.1 * r.2), .int (p.2 * r.1)])) qd (p.1 * r.2, p.2 * r.1) := upd_same
    generalize upd K6 qd _ = K7 at *
    refine ⟨_, rfl, c, _, _, _, rfl, rfl, SqT.of hc, rfl, rfl, _, rfl, ?_⟩
    refine ite2 (fun z => ?_) (fun z => ?_)
    · have nz : r.1 ≠ 0 := fun e => by rw [e] at z; exact absurd z (by decide)
      have nb : p.2 * r.1 ≠ 0 := Int.mul_ne_zero wp.lf.ne nz
      have nb8 : (p.2 * r.1).natAbs < 2 ^ 8000 := pow_up (mul_short wp.bz wr.tz) (by decide)
      refine ⟨_, rfl, x1, e1, _, rfl, g1, fl_no _ _ (by decide) (by decide), _, rfl, x1, .ref x2, p.1, p.2, r.1, r.2, rfl, h1, .inl ⟨x2, rfl, h2⟩, z1, z2, nz, fun y8 J1 f8 sm _ => ?_⟩
      replace ha := sm _ _ ha
      replace hc := sm _ _ hc
      replace h1 := h1.same sm
      replace sA := sA.trans sm
      replace h2 := h2.same sm
      replace g1 := sm _ _ g1
      replace g2 := sm _ _ g2
      replace hq := sm _ _ hq
      refine ⟨y8, _, _, rfl, f8, fun pa hpa => ?_⟩
      have sm := same_new (o := (.tup [.int (nT (p.1 * r.2) (p.2 * r.1)), .int (nB (p.1 * r.2) (p.2 * r.1))])) hpa
      replace ha := sm _ _ ha
      replace hc := sm _ _ hc
      replace h1 := h1.same sm
      replace sA := sA.trans sm
      replace h2 := h2.same sm
      replace g1 := sm _ _ g1
      replace g2 := sm _ _ g2
      replace hq := sm _ _ hq
      have ta : upd J1 pa (.tup [.int (nT (p.1 * r.2) (p.2 * r.1)), .int (nB (p.1 * r.2) (p.2 * r.1))]) pa = some (.tup [.int (nT (p.1 * r.2) (p.2 * r.1)), .int (nB (p.1 * r.2) (p.2 * r.1))]) := upd_same
      generalize upd J1 pa _ = J2 at *
      refine ⟨_, rfl, qd, _, _, _, rfl, rfl, SqT.of hq, rfl, _, rfl, qd, _, _, _, rfl, rfl, SqT.of hq, rfl, _, _, rfl, nb, nb8, fun pb hpb => ?_⟩
      have sm := same_new (o := (.tup [.int (nT (p.1 * r.2) (p.2 * r.1)), .int (nB (p.1 * r.2) (p.2 * r.1))])) hpb
      replace ha := sm _ _ ha
      replace hc := sm _ _ hc
      replace h1 := h1.same sm
      replace sA := sA.trans sm
      replace h2 := h2.same sm
      replace g1 := sm _ _ g1
      replace g2 := sm _ _ g2
      replace hq := sm _ _ hq
      replace ta := sm _ _ ta
      have tb : upd J2 pb (.tup [.int (nT (p.1 * r.2) (p.2 * r.1)), .int (nB (p.1 * r.2) (p.2 * r.1))]) pb = some (.tup [.int (nT (p.1 * r.2) (p.2 * r.1)), .int (nB (p.1 * r.2) (p.2 * r.1))]) := upd_same
      generalize upd J2 pb _ = J3 at *
      refine ⟨tupD (nT (p.1 * r.2) (p.2 * r.1), nB (p.1 * r.2) (p.2 * r.1)), tupD (nT (p.1 * r.2) (p.2 * r.1), nB (p.1 * r.2) (p.2 * r.1)), .tup (SqT.of ta) (.cons (.int _) (.cons (.int _) .nil)), .tup (SqT.of tb) (.cons (.int _) (.cons (.int _) .nil)), rfl, rfl, ?_⟩
      rw [eqv_tup]
      refine ⟨_, rfl, iteF ?_⟩
      refine ⟨_, rfl, x1, e1, _, rfl, g1, fl_no _ _ (by decide) (by decide), _, rfl, x1, .ref x2, p.1, p.2, r.1, r.2, rfl, h1, .inl ⟨x2, rfl, h2⟩, z1, z2, fun M1 sm => ?_⟩
      replace ha := sm _ _ ha
      replace hc := sm _ _ hc
      replace h1 := h1.same sm
      replace sA := sA.trans sm
      replace h2 := h2.same sm
      replace g1 := sm _ _ g1
      replace g2 := sm _ _ g2
      replace hq := sm _ _ hq
      replace ta := sm _ _ ta
      replace tb := sm _ _ tb
      refine ⟨_, rfl, x2, e2, _, rfl, g2, fl_no _ _ (by decide) (by decide), _, rfl, x2, .ref x1, r.1, r.2, p.1, p.2, rfl, h2, .inl ⟨x1, rfl, h1⟩, z2, z1, fun M2 sm => ?_⟩
      replace ha := sm _ _ ha
      replace hc := sm _ _ hc
      replace h1 := h1.same sm
      replace sA := sA.trans sm
      replace h2 := h2.same sm
      replace g1 := sm _ _ g1
      replace g2 := sm _ _ g2
      replace hq := sm _ _ hq
      replace ta := sm _ _ ta
      replace tb := sm _ _ tb
      refine ⟨_, rfl, x1, e1, _, rfl, g1, fl_no _ _ (by decide) (by decide), _, rfl, x1, .ref x1, p.1, p.2, p.1, p.2, rfl, h1, .inl ⟨x1, rfl, h1⟩, z1, z1, fun M3 sm => ?_⟩
      replace ha := sm _ _ ha
      replace hc := sm _ _ hc
      replace h1 := h1.same sm
      replace sA := sA.trans sm
      replace h2 := h2.same sm
      replace g1 := sm _ _ g1
      replace g2 := sm _ _ g2
      replace hq := sm _ _ hq
      replace ta := sm _ _ ta
      replace tb := sm _ _ tb
      refine ⟨small1000 (by show 2 ≤ 1000; decide), fun L7 hL7 => ?_⟩
      have sm := same_new (o := (.lst [.bl (lessP p r), .bl (lessP r p), .bl (lessP p p)])) hL7
      replace ha := sm _ _ ha
      replace hc := sm _ _ hc
      replace h1 := h1.same sm
      replace sA := sA.trans sm
      replace h2 := h2.same sm
      replace g1 := sm _ _ g1
      replace g2 := sm _ _ g2
      replace hq := sm _ _ hq
      replace ta := sm _ _ ta
      replace tb := sm _ _ tb
      have l7 : upd M3 L7 (.lst [.bl (lessP p r), .bl (lessP r p), .bl (lessP p p)]) L7 = some (.lst [.bl (lessP p r), .bl (lessP r p), .bl (lessP p p)]) := upd_same
      obtain ⟨i1, i2, i3, i4⟩ := bl3_ok (lessP p r) (lessP r p) (lessP p p)
      refine ⟨_, rfl, L7, bl3 (lessP p r) (lessP r p) (lessP p p), rfl, .lst (SqL.of l7) (bls_dp [lessP p r, lessP r p, lessP p p]), i1, i2, i3, i4, ?_⟩
      refine ⟨_, rfl, _, rfl, a, c, p, r, rfl, ha, hc, wp.pp, wr.pp, _, rfl, _, rfl, c, a, r, p, rfl, hc, ha, wr.pp, wp.pp, small1000 (by show 2 ≤ 1000; decide), fun L8 hL8 => ?_⟩
      have sm := same_new (o := .lst [.bl (lessP p r), .bl (lessP r p), .bl false]) hL8
      replace ha := sm _ _ ha
      replace hc := sm _ _ hc
      replace h1 := h1.same sm
      replace sA := sA.trans sm
      replace h2 := h2.same sm
      replace g1 := sm _ _ g1
      replace g2 := sm _ _ g2
      replace hq := sm _ _ hq
      replace ta := sm _ _ ta
      replace tb := sm _ _ tb
      replace l7 := sm _ _ l7
      have e3 : lessP p p = false := decide_eq_false (Int.lt_irrefl _)
      rw [e3] at i1 i2 i3 i4 ⊢
      refine ⟨L8, bl3 (lessP p r) (lessP r p) false, rfl, .lst (SqL.of upd_same) (bls_dp [lessP p r, lessP r p, false]), i1, i2, i3, i4, rfl, ?_⟩
      show Q (.bl (decide (V.str _ = V.str _))) _
      rw [decide_eq_true rfl]
      exact q _ sA
    · refine ⟨_, rfl, x1, e1, _, rfl, g1, fl_no _ _ (by decide) (by decide), _, rfl, x1, .ref x2, p.1, p.2, r.1, r.2, rfl, h1, .inl ⟨x2, rfl, h2⟩, z1, z2, fun M1 sm => ?_⟩
      replace ha := sm _ _ ha
      replace hc := sm _ _ hc
      replace h1 := h1.same sm
      replace sA := sA.trans sm
      replace h2 := h2.same sm
      replace g1 := sm _ _ g1
      replace g2 := sm _ _ g2
      replace hq := sm _ _ hq
      refine ⟨_, rfl, x2, e2, _, rfl, g2, fl_no _ _ (by decide) (by decide), _, rfl, x2, .ref x1, r.1, r.2, p.1, p.2, rfl, h2, .inl ⟨x1, rfl, h1⟩, z2, z1, fun M2 sm => ?_⟩
      replace ha := sm _ _ ha
      replace hc := sm _ _ hc
      replace h1 := h1.same sm
      replace sA := sA.trans sm
      replace h2 := h2.same sm
      replace g1 := sm _ _ g1
      replace g2 := sm _ _ g2
      replace hq := sm _ _ hq
      refine ⟨_, rfl, x1, e1, _, rfl, g1, fl_no _ _ (by decide) (by decide), _, rfl, x1, .ref x1, p.1, p.2, p.1, p.2, rfl, h1, .inl ⟨x1, rfl, h1⟩, z1, z1, fun M3 sm => ?_⟩
      replace ha := sm _ _ ha
      replace hc := sm _ _ hc
      replace h1 := h1.same sm
      replace sA := sA.trans sm
      replace h2 := h2.same sm
      replace g1 := sm _ _ g1
      replace g2 := sm _ _ g2
      replace hq := sm _ _ hq
      refine ⟨small1000 (by show 2 ≤ 1000; decide), fun L7 hL7 => ?_⟩
      have sm := same_new (o := (.lst [.bl (lessP p r), .bl (lessP r p), .bl (lessP p p)])) hL7
      replace ha := sm _ _ ha
      replace hc := sm _ _ hc
      replace h1 := h1.same sm
      replace sA := sA.trans sm
      replace h2 := h2.same sm
      replace g1 := sm _ _ g1
      replace g2 := sm _ _ g2
      replace hq := sm _ _ hq
      have l7 : upd M3 L7 (.lst [.bl (lessP p r), .bl (lessP r p), .bl (lessP p p)]) L7 = some (.lst [.bl (lessP p r), .bl (lessP r p), .bl (lessP p p)]) := upd_same
      obtain ⟨i1, i2, i3, i4⟩ := bl3_ok (lessP p r) (lessP r p) (lessP p p)
      refine ⟨_, rfl, L7, bl3 (lessP p r) (lessP r p) (lessP p p), rfl, .lst (SqL.of l7) (bls_dp [lessP p r, lessP r p, lessP p p]), i1, i2, i3, i4, ?_⟩
      refine ⟨_, rfl, _, rfl, a, c, p, r, rfl, ha, hc, wp.pp, wr.pp, _, rfl, _, rfl, c, a, r, p, rfl, hc, ha, wr.pp, wp.pp, small1000 (by show 2 ≤ 1000; decide), fun L8 hL8 => ?_⟩
      have sm := same_new (o := .lst [.bl (lessP p r), .bl (lessP r p), .bl false]) hL8
      replace ha := sm _ _ ha
      replace hc := sm _ _ hc
      replace h1 := h1.same sm
      replace sA := sA.trans sm
      replace h2 := h2.same sm
      replace g1 := sm _ _ g1
      replace g2 := sm _ _ g2
      replace hq := sm _ _ hq
      replace l7 := sm _ _ l7
      have e3 : lessP p p = false := decide_eq_false (Int.lt_irrefl _)
      rw [e3] at i1 i2 i3 i4 ⊢
      refine ⟨L8, bl3 (lessP p r) (lessP r p) false, rfl, .lst (SqL.of upd_same) (bls_dp [lessP p r, lessP r p, false]), i1, i2, i3, i4, rfl, ?_⟩
      show Q (.bl (decide (V.str _ = V.str _))) _
      rw [decide_eq_true rfl]
      exact q _ sA
end
end FR
set_option Elab.async false
set_option linter.all false
set_option maxRecDepth 100000
set_option maxHeartbeats 4000000
namespace FR
open PySem PySem.Spec PyProof.Rows L2 LD
/-- repr of a truth -/
def txB (b : Bool) : Str := if b then "True" else "False"
def rReprB : List V → Hp → VK → Prop := fun xs H Q => ∃ b, xs = [.bl b] ∧ Q (.str (txB b)) H
theorem call_reprB {X : Cx} : CallR X (.builtin "repr") rReprB := by
  intro pins s σ H xs us Q I r h
  obtain ⟨b, rfl, q⟩ := h
  obtain ⟨u, rfl, r1⟩ := vals1 r
  cases (show u = Value.bool b from r1)
  exact PySem.P.repr_of_bool ⟨.str _, H, I.tok _, ⟨_, rfl⟩, q⟩
theorem radd_is (p : PI) (n : Int) : fAdd n 1 p.1 p.2 = p.1 * 1 + n * p.2 := by
  unfold fAdd
  rw [Int.add_comm]
theorem rmul_is (p : PI) (n : Int) : fMul n 1 p.1 p.2 = p.1 * n := by
  unfold fMul
  rw [Int.mul_comm]
abbrev sMix : Stmt := FR.top 39
abbrev NX : List Str := ["_law_first", "_law_number", "_law_one", "_law_pair_here", "_law_told_here", "_law_due", "_law_some"]
theorem scX : FnScope NX ["_law_first", "_law_number"] (defScope sMix) := ⟨rfl, rfl, rfl, by decide +kernel, rfl, by decide +kernel, by decide +kernel⟩
def spMix : Sp := fun vs H Q _ => ∃ (a : Addr) (n : Int) (p : PI), vs = [.ref a, .int n] ∧ TA H a p ∧ Wf p ∧ n.natAbs < 2 ^ 240 ∧ ∀ H', Same H H' → Q (.bl true) H'
section
variable {P : Program} {w : World} {K : PySem.W.Frag} {mg : Str → Option Value} {base : Heap} {C fI pT gT0 pB gB0 : Addr} {fdI fdT fdB : FuncData}
theorem ok_mix {f : Addr} {fd : FuncData} (F : Fun K "_law_mixed_right" "_law_mixed_right" sMix f fd) (k : FrK P w K mg base C fI pT gT0 pB gB0 fdI fdT fdB) (T : TxtM K mg C)
    (gP : Glo P w K mg base "_law_plus" 3 N12 (spLP plusP)) (gB : Glo P w K mg base "_law_by" 3 N12 (spLP byP)) (gL : Glo P w K mg base "_law_is_less" 1 N12 spLle) (gT : Glo P w K mg base "_law_told" 3 ["_law_thing"] (spTold C)) (gPa : Glo P w K mg base "_law_pair" 3 ["_law_top", "_law_bottom"] spPair)
    (mAdd : Met P w K mg base C "__add__" 5 ["self", "other"] (spOp C fAdd)) (mSub : Met P w K mg base C "__sub__" 5 ["self", "other"] (spOp C fSub)) (mMul : Met P w K mg base C "__mul__" 5 ["self", "other"] (spOp C fMul)) (mRsub : Met P w K mg base C "__rsub__" 6 ["self", "other"] (spRsub C))
    (mRadd : Met P w K mg base C "__radd__" 6 ["self", "other"] (spRop C fAdd)) (mRmul : Met P w K mg base C "__rmul__" 6 ["self", "other"] (spRop C fMul)) (mBy : Met P w K mg base C "by" 5 ["self", "other"] (spBy C)) (mLess : Met P w K mg base C "is_less" 5 ["self", "other"] (spLess C)) :
    FnG P w K mg base CX0 7 f fd ["_law_first", "_law_number"] spMix := by
  obtain ⟨rcA, rA, rA1⟩ := T.oA.r
  obtain ⟨foA, iA⟩ := T.oA.i
  obtain ⟨roA, jA⟩ := T.oA.j
  obtain ⟨rcS, rS, rS1⟩ := T.oS.r
  obtain ⟨foS, iS⟩ := T.oS.i
  obtain ⟨roS, jS⟩ := T.oS.j
  obtain ⟨rcM, rM, rM1⟩ := T.oM.r
  obtain ⟨foM, iM⟩ := T.oM.i
  obtain ⟨roM, jM⟩ := T.oM.j
  refine F.okG scX (fun vs H Q E h => ?_) (fun cdv A outer s H vs Q E hr hgA h => ?_)
  · obtain ⟨a, n, p, rfl, _⟩ := h
    rfl
  · obtain ⟨a, n, p, rfl, ha, wp, hn, q⟩ := h
    have hgd : (A.deeper (envOfC "_law_mixed_right" (defScope sMix) s.heap.objs.size f cdv)).guards = some [] := guards_deeper hgA
    have hr1 := hr.mono (j := 1) (by decide)
    have hr2 := hr.mono (j := 2) (by decide)
    have hr3 := hr.mono (j := 3) (by decide)
    have hr4 := hr.mono (j := 4) (by decide)
    have hr5 := hr.mono (j := 5) (by decide)
    have hr6 := hr.mono (j := 6) (by decide)
    refine ⟨_, pss_cons (ps_par (i := 2) (j := 3) (by rfl) scX.nd rfl rfl (by decide) rfl rfl (pa_cons (pe_make k.M k.GI hr3 (by rfl) k.T.mC k.b2 .nil pass0 (pa_cons (pe_ix ix_tup (pv 0) pe_int (fun _ _ => rfl)) (pa_cons (pe_ix ix_tup (pv 0) pe_int (fun _ _ => rfl)) pa_nil))) (pa_cons (pe_tup (pa_cons (pv 1) (pa_cons pe_int pa_nil))) pa_nil)) (by rfl))
      (pss_cons (ps_setLc (i := 4) (own := [("_law_some", 6)]) (g := gName 6) (tt := tYes) rfl scX.nd rfl rfl (sw_true rfl rfl rfl (by decide +kernel)) (pi_tup (pe_tup (pa_cons (pe_op (op_ownI (op := .Add) mAdd.D T.sf rA rA1 iA jA T.oA.s mAdd.G hr5 mAdd.b pass0) (pv 2) (pv 1)) (pa_cons (pe_op (op_Iown (op := .Add) mAdd.D mRadd.D T.sf PySem.F.fills_int_add PySem.F.slot_int_add PySem.F.entry_int_add PySem.F.args_int_add_2 (fun i t l dx => OW.int_add_no i t) T.si mRadd.G hr6 mRadd.b pass0) (pv 1) (pv 2)) (pa_cons (pe_op (op_ownI (op := .Sub) mSub.D T.sf rS rS1 iS jS T.oS.s mSub.G hr5 mSub.b pass0) (pv 2) (pv 1)) (pa_cons (pe_op (op_Iown (op := .Sub) mSub.D mRsub.D T.sf PySem.F.fills_int_sub PySem.F.slot_int_sub PySem.F.entry_int_sub PySem.F.args_int_sub_2 (fun i t l dx => OW.int_sub_no i t) T.si mRsub.G hr6 mRsub.b pass0) (pv 1) (pv 2)) pa_nil)))))) (blkOk_by (N := NX) (sc := defScope sMix) (by decide +kernel)) (fun _ _ _ _ _ => pg_name (i := 6) scX.nd rfl (.inl rfl)) (fun _ _ _ _ _ => pts_nil) (fun _ _ _ _ _ => (pe_call gT.G hr3 (by rfl) gT.m gT.k gT.b .nil pass0 (pa_cons (pv 6) pa_nil))))
      (pss_cons (ps_set (i := 4) scX.nd rfl (Or.inl rfl) (pe_op op_cat (pv 4) (pe_lst (pa_cons (pe_call gT.G hr3 (by rfl) gT.m gT.k gT.b .nil pass0 (pa_cons (pe_op (op_ownI (op := .Mult) mMul.D T.sf rM rM1 iM jM T.oM.s mMul.G hr5 mMul.b pass0) (pv 2) (pv 1)) pa_nil)) (pa_cons (pe_call gT.G hr3 (by rfl) gT.m gT.k gT.b .nil pass0 (pa_cons (pe_op (op_Iown (op := .Mult) mMul.D mRmul.D T.sf PySem.F.fills_int_mul PySem.F.slot_int_mul PySem.F.entry_int_mul PySem.F.args_int_mul_2 (fun i t l dx => OW.int_mul_no i t) T.si mRmul.G hr6 mRmul.b pass0) (pv 1) (pv 2)) pa_nil)) pa_nil)))))
      (pss_cons (ps_set (i := 5) scX.nd rfl (Or.inl rfl) (pe_op op_cat (pe_op op_rep (pe_lst (pa_cons (pe_call gP.G hr3 (by rfl) gP.m gP.k gP.b .nil pass0 (pa_cons (pv 0) (pa_cons (pv 3) pa_nil))) pa_nil)) pe_int) (pe_lst (pa_cons (pe_call gP.G hr3 (by rfl) gP.m gP.k gP.b .nil pass0 (pa_cons (pv 0) (pa_cons (pe_tup (pa_cons (pe_op op_sub pe_int (pv 1)) (pa_cons pe_int pa_nil))) pa_nil))) (pa_cons (pe_call gP.G hr3 (by rfl) gP.m gP.k gP.b .nil pass0 (pa_cons (pv 3) (pa_cons (pe_tup (pa_cons (pe_op op_sub pe_int (pe_ix ix_tup (pv 0) pe_int (fun _ _ => rfl))) (pa_cons (pe_ix ix_tup (pv 0) pe_int (fun _ _ => rfl)) pa_nil))) pa_nil))) pa_nil)))))
      (pss_cons (ps_if (pt_cmpR op_ne (pe_callB (call_repr hgd hr.units) (by rfl) T.re boot_repr (pa_cons (pv 4) pa_nil)) (pe_callB (call_repr hgd hr.units) (by rfl) T.re boot_repr (pa_cons (pe_op op_cat (pv 5) (pe_op op_rep (pe_lst (pa_cons (pe_call gB.G hr3 (by rfl) gB.m gB.k gB.b .nil pass0 (pa_cons (pv 0) (pa_cons (pv 3) pa_nil))) pa_nil)) pe_int)) pa_nil)) (nomark _)) (pss_one (ps_ret pe_bl)) pss_nil)
      (pss_cons (ps_if (pt_cmpR op_ne (pe_callB call_reprB (by rfl) T.re boot_repr (pa_cons (pe_meth (pv 2) k.T.cl ⟨mLess.D.at_, mLess.D.fn, mLess.kp⟩ mLess.G hr5 mLess.b .nil pass0 (pa_cons (pv 1) pa_nil)) pa_nil)) (pe_callB call_reprB (by rfl) T.re boot_repr (pa_cons (pe_call gL.G hr1 (by rfl) gL.m gL.k gL.b .nil pass0 (pa_cons (pv 0) (pa_cons (pv 3) pa_nil))) pa_nil)) (nomark _)) (pss_one (ps_ret pe_bl)) pss_nil)
      (pss_one (ps_ret (pe_or (pe_cmpR op_eq (pv 1) pe_int (nomark _)) (pe_one (pe_cmpR (op_eqD hr.units) (pe_call gT.G hr3 (by rfl) gT.m gT.k gT.b .nil pass0 (pa_cons (pe_meth (pv 2) k.T.cl ⟨mBy.D.at_, mBy.D.fn, mBy.kp⟩ mBy.G hr5 mBy.b .nil pass0 (pa_cons (pv 1) pa_nil)) pa_nil)) (pe_call gPa.G hr3 (by rfl) gPa.m gPa.k gPa.b .nil pass0 (pa_cons (pe_ix ix_tup (pv 0) pe_int (fun _ _ => rfl)) (pa_cons (pe_op op_mulW (pe_ix ix_tup (pv 0) pe_int (fun _ _ => rfl)) (pv 1)) pa_nil))) (nomark _))))))))))), ?_⟩
    have z1 := wp.sz
    have wn : Wf (n, 1) := ⟨Lf.one n, hn, by show (1 : Int).natAbs < 2 ^ 240; decide +kernel⟩
    have zn := wn.sz
    refine ⟨_, rfl, a, _, _, _, rfl, rfl, SqT.of ha, rfl, _, rfl, a, _, _, _, rfl, rfl, SqT.of ha, rfl, fun x1 dx1 nx1 nd1 ne1 => ⟨x1, dx1, _, _, rfl, upd_same, wp.lf.ne, dv8 wp.lf.ne wp.b8, fun H1 h1 hs1 => ⟨rfl, ?_⟩⟩⟩
    have sm := same_make (C := C) nx1 nd1 hs1
    replace ha := sm _ _ ha
    rw [wp.lf.nT, wp.lf.nB] at h1
    have sA := sm
    refine ⟨_, rfl, small1000 (by show 1 ≤ 1000; decide), fun l hl => ?_⟩
    have sm := same_new (o := .tup [.int n, .int 1]) hl
    replace ha := sm _ _ ha
    replace h1 := h1.same sm
    replace sA := sA.trans sm
    have ht : TA (upd H1 l (.tup [.int n, .int 1])) l (n, 1) := upd_same
    generalize upd H1 l _ = H2 at *
    refine ⟨_, _, rfl, ?_⟩
    obtain ⟨e1, g1⟩ := id h1
    refine ⟨_, rfl, _, rfl, x1, n, e1, _, rfl, rfl, g1, x1, .int n, p.1, p.2, n, 1, rfl, h1, .inr ⟨rfl, rfl⟩, z1, zn, fun y1 G1 f1 sm _ => ?_⟩
    replace ha := sm _ _ ha
    replace h1 := h1.same sm
    replace sA := sA.trans sm
    replace ht := sm _ _ ht
    replace g1 := sm _ _ g1
    replace f1 : FrAt C G1 y1 (plusP p (n, 1)).1 (plusP p (n, 1)).2 := f1
    refine ⟨_, rfl, _, rfl, x1, n, e1, _, rfl, rfl, g1, x1, n, p.1, p.2, rfl, h1, z1, zn, fun y2 G2 f2 sm _ => ?_⟩
    replace ha := sm _ _ ha
    replace h1 := h1.same sm
    replace sA := sA.trans sm
    replace ht := sm _ _ ht
    replace g1 := sm _ _ g1
    replace f1 := f1.same sm
    rw [radd_is p n, Int.mul_comm 1 p.2] at f2
    replace f2 : FrAt C G2 y2 (plusP p (n, 1)).1 (plusP p (n, 1)).2 := f2
    refine ⟨_, rfl, _, rfl, x1, n, e1, _, rfl, rfl, g1, x1, .int n, p.1, p.2, n, 1, rfl, h1, .inr ⟨rfl, rfl⟩, z1, zn, fun y3 G3 f3 sm _ => ?_⟩
    replace ha := sm _ _ ha
    replace h1 := h1.same sm
    replace sA := sA.trans sm
    replace ht := sm _ _ ht
    replace g1 := sm _ _ g1
    replace f1 := f1.same sm
    replace f2 := f2.same sm
    rw [sub_plus p (n, 1)] at f3
    replace f3 : FrAt C G3 y3 (plusP p (negP (n, 1))).1 (plusP p (negP (n, 1))).2 := f3
    refine ⟨_, rfl, _, rfl, x1, n, e1, _, rfl, rfl, g1, x1, n, p.1, p.2, rfl, h1, z1, zn, fun y4 G4 f4 sm _ => ?_⟩
    replace ha := sm _ _ ha
    replace h1 := h1.same sm
    replace sA := sA.trans sm
    replace ht := sm _ _ ht
    replace g1 := sm _ _ g1
    replace f1 := f1.same sm
    replace f2 := f2.same sm
    replace f3 := f3.same sm
    rw [sub_plus (n, 1) p] at f4
    replace f4 : FrAt C G4 y4 (plusP (n, 1) (negP p)).1 (plusP (n, 1) (negP p)).2 := f4
    refine ⟨small1000 (by show 3 ≤ 1000; decide), fun tp htp => ?_⟩
    have sm := same_new (o := .tup [V.ref y1, .ref y2, .ref y3, .ref y4]) htp
    replace ha := sm _ _ ha
    replace h1 := h1.same sm
    replace sA := sA.trans sm
    replace ht := sm _ _ ht
    replace g1 := sm _ _ g1
    replace f1 := f1.same sm
    replace f2 := f2.same sm
    replace f3 := f3.same sm
    replace f4 := f4.same sm
    have hall : FRs C (upd G4 tp (.tup [V.ref y1, .ref y2, .ref y3, .ref y4])) [V.ref y1, .ref y2, .ref y3, .ref y4] [plusP p (n, 1), plusP p (n, 1), plusP p (negP (n, 1)), plusP (n, 1) (negP p)] := A2.cons ⟨y1, rfl, f1⟩ (A2.cons ⟨y2, rfl, f2⟩ (A2.cons ⟨y3, rfl, f3⟩ (A2.cons ⟨y4, rfl, f4⟩ A2.nil)))
    clear f1 f2 f3 f4
    have htx : upd G4 tp (.tup [V.ref y1, .ref y2, .ref y3, .ref y4]) tp = some (.tup [V.ref y1, .ref y2, .ref y3, .ref y4]) := upd_same
    generalize upd G4 tp _ = G5 at *
    generalize hTL : [plusP p (n, 1), plusP p (n, 1), plusP p (negP (n, 1)), plusP (n, 1) (negP p)] = TL at hall
    have hxl : [V.ref y1, .ref y2, .ref y3, .ref y4].length = 4 := rfl
    generalize [V.ref y1, .ref y2, .ref y3, .ref y4] = xs at hall htx hxl
    refine ⟨tp, rfl, ⟨_, SqT.of htx⟩, fun D hD => ?_⟩
    refine lc_tup (xs := xs) (fun i Hc => Same G5 Hc ∧ ∃ vs, Hc D = some (.lst vs) ∧ TPs Hc vs (TL.take i)) ⟨same_new hD, [], upd_same, A2.nil⟩ (fun i Hc _ p => SqT.of (p.1 _ _ htx)) ?_ ?_
    · rintro i v Hc hv ⟨sm, vs, hDc, ht⟩
      obtain ⟨z, hz, y, rfl, hy⟩ := (hall.same sm).2 i v hv
      refine ⟨rfl, _, rfl, y, z.1, z.2, rfl, hy, fun pq hpq => ?_⟩
      have hi : i < TL.length := (List.getElem?_eq_some_iff.mp hz).1
      have sn := same_new (o := .tup [.int z.1, .int z.2]) hpq
      refine ⟨vs, sn _ _ hDc, small1000 (by rw [ht.1, List.length_take]; have := hall.1; omega), same_grow hD (sm.trans sn), vs ++ [.ref pq], upd_same, ?_⟩
      rw [take_snoc hz]
      exact A2.snoc ((ht.same sn).updl (sn _ _ hDc)) ⟨pq, rfl, tup_updl upd_same (sn _ _ hDc)⟩
    rintro G9 ⟨sm, vs, hvs, tt⟩
    replace ha := sm _ _ ha
    replace h1 := h1.same sm
    replace sA := sA.trans sm
    replace ht := sm _ _ ht
    replace g1 := sm _ _ g1
    rw [take_all hall.1] at tt
    have vl : vs.length = 4 := by rw [tt.1, ← hall.1, hxl]
    clear hall htx hxl
    refine ⟨_, rfl, ?_⟩
    refine ⟨_, rfl, _, rfl, x1, n, e1, _, rfl, rfl, g1, x1, .int n, p.1, p.2, n, 1, rfl, h1, .inr ⟨rfl, rfl⟩, z1, zn, fun y6 G6 f6 sm _ => ?_⟩
    replace ha := sm _ _ ha
    replace h1 := h1.same sm
    replace sA := sA.trans sm
    replace ht := sm _ _ ht
    replace g1 := sm _ _ g1
    replace hvs := sm _ _ hvs
    replace tt := tt.same sm
    replace f6 : FrAt C G6 y6 (byP p (n, 1)).1 (byP p (n, 1)).2 := f6
    refine ⟨y6, _, _, rfl, f6, fun u6 hu6 => ?_⟩
    have sm := same_new (o := (.tup [.int (byP p (n, 1)).1, .int (byP p (n, 1)).2])) hu6
    replace ha := sm _ _ ha
    replace h1 := h1.same sm
    replace sA := sA.trans sm
    replace ht := sm _ _ ht
    replace g1 := sm _ _ g1
    replace hvs := sm _ _ hvs
    replace tt := tt.same sm
    have w6 : TA (upd G6 u6 (.tup [.int (byP p (n, 1)).1, .int (byP p (n, 1)).2])) u6 (byP p (n, 1)) := upd_same
    generalize upd G6 u6 _ = J6 at *
    refine ⟨_, rfl, _, rfl, x1, n, e1, _, rfl, rfl, g1, x1, n, p.1, p.2, rfl, h1, z1, zn, fun y7 G7 f7 sm _ => ?_⟩
    replace ha := sm _ _ ha
    replace h1 := h1.same sm
    replace sA := sA.trans sm
    replace ht := sm _ _ ht
    replace g1 := sm _ _ g1
    replace hvs := sm _ _ hvs
    replace tt := tt.same sm
    replace w6 := sm _ _ w6
    rw [rmul_is p n, Int.mul_comm 1 p.2] at f7
    replace f7 : FrAt C G7 y7 (byP p (n, 1)).1 (byP p (n, 1)).2 := f7
    refine ⟨y7, _, _, rfl, f7, fun u7 hu7 => ?_⟩
    have sm := same_new (o := (.tup [.int (byP p (n, 1)).1, .int (byP p (n, 1)).2])) hu7
    replace ha := sm _ _ ha
    replace h1 := h1.same sm
    replace sA := sA.trans sm
    replace ht := sm _ _ ht
    replace g1 := sm _ _ g1
    replace hvs := sm _ _ hvs
    replace tt := tt.same sm
    replace w6 := sm _ _ w6
    have w7 : TA (upd G7 u7 (.tup [.int (byP p (n, 1)).1, .int (byP p (n, 1)).2])) u7 (byP p (n, 1)) := upd_same
    generalize upd G7 u7 _ = J7 at *
    refine ⟨small1000 (by show 1 ≤ 1000; decide), fun L1 hL1 => ?_⟩
    have sm := same_new (o := (.lst [.ref u6, .ref u7])) hL1
    replace ha := sm _ _ ha
    replace h1 := h1.same sm
    replace sA := sA.trans sm
    replace ht := sm _ _ ht
    replace g1 := sm _ _ g1
    replace hvs := sm _ _ hvs
    replace tt := tt.same sm
    replace w6 := sm _ _ w6
    replace w7 := sm _ _ w7
    have l1 : upd J7 L1 (.lst [.ref u6, .ref u7]) L1 = some (.lst [.ref u6, .ref u7]) := upd_same
    generalize upd J7 L1 _ = K1 at *
    refine ⟨D, L1, _, _, rfl, rfl, hvs, l1, by rw [vl]; show 4 + 2 ≤ sizeLine; rw [sizeLine_eq]; decide, fun L2 hL2 => ?_⟩
    have sm := same_new (o := (.lst (vs ++ [.ref u6, .ref u7]))) hL2
    replace ha := sm _ _ ha
    replace h1 := h1.same sm
    replace sA := sA.trans sm
    replace ht := sm _ _ ht
    replace g1 := sm _ _ g1
    replace hvs := sm _ _ hvs
    replace tt := tt.same sm
    replace w6 := sm _ _ w6
    replace w7 := sm _ _ w7
    replace l1 := sm _ _ l1
    have l2 : upd K1 L2 (.lst (vs ++ [.ref u6, .ref u7])) L2 = some (.lst (vs ++ [.ref u6, .ref u7])) := upd_same
    generalize upd K1 L2 _ = K2 at *
    have t2 : TPs K2 (vs ++ [.ref u6, .ref u7]) (TL ++ [byP p (n, 1), byP p (n, 1)]) := by
      have e : vs ++ [V.ref u6, .ref u7] = (vs ++ [.ref u6]) ++ [.ref u7] := by simp
      have e2 : TL ++ [byP p (n, 1), byP p (n, 1)] = (TL ++ [byP p (n, 1)]) ++ [byP p (n, 1)] := by simp
      rw [e, e2]
      exact A2.snoc (A2.snoc tt ⟨u6, rfl, w6⟩) ⟨u7, rfl, w7⟩
    clear tt hvs l1 w6 w7
    generalize vs ++ [V.ref u6, .ref u7] = us at *
    refine ⟨_, rfl, _, rfl, a, l, p, (n, 1), rfl, ha, ht, wp.pp, wn.pp, fun d3 hd3 => ?_⟩
    have sm := same_new (o := (.tup [.int (plusP p (n, 1)).1, .int (plusP p (n, 1)).2])) hd3
    replace ha := sm _ _ ha
    replace h1 := h1.same sm
    replace sA := sA.trans sm
    replace ht := sm _ _ ht
    replace g1 := sm _ _ g1
    replace l2 := sm _ _ l2
    replace t2 := t2.same sm
    have t3 : TA (upd K2 d3 (.tup [.int (plusP p (n, 1)).1, .int (plusP p (n, 1)).2])) d3 (plusP p (n, 1)) := upd_same
    generalize upd K2 d3 _ = K3 at *
    refine ⟨small1000 (by show 0 ≤ 1000; decide), fun L3 hL3 => ?_⟩
    have sm := same_new (o := (.lst [.ref d3])) hL3
    replace ha := sm _ _ ha
    replace h1 := h1.same sm
    replace sA := sA.trans sm
    replace ht := sm _ _ ht
    replace g1 := sm _ _ g1
    replace l2 := sm _ _ l2
    replace t2 := t2.same sm
    replace t3 := sm _ _ t3
    have l3 : upd K3 L3 (.lst [.ref d3]) L3 = some (.lst [.ref d3]) := upd_same
    generalize upd K3 L3 _ = K4 at *
    refine ⟨L3, 2, _, rfl, rfl, l3, by decide, by decide, by show 1 * 2 ≤ sizeLine; rw [sizeLine_eq]; decide, fun L4 hL4 => ?_⟩
    have sm := same_new (o := (.lst (List.replicate (2 : Int).toNat [V.ref d3]).flatten)) hL4
    replace ha := sm _ _ ha
    replace h1 := h1.same sm
    replace sA := sA.trans sm
    replace ht := sm _ _ ht
    replace g1 := sm _ _ g1
    replace l2 := sm _ _ l2
    replace t2 := t2.same sm
    replace t3 := sm _ _ t3
    replace l3 := sm _ _ l3
    have l4 : upd K4 L4 (.lst (List.replicate (2 : Int).toNat [V.ref d3]).flatten) L4 = some (.lst (List.replicate (2 : Int).toNat [V.ref d3]).flatten) := upd_same
    generalize upd K4 L4 _ = K5 at *
    refine ⟨_, rfl, _, rfl, _, _, rfl, rfl, small1000 (by show 1 ≤ 1000; decide), fun m1 hm1 => ?_⟩
    have sm := same_new (o := (.tup [.int (0 - n), .int 1])) hm1
    replace ha := sm _ _ ha
    replace h1 := h1.same sm
    replace sA := sA.trans sm
    replace ht := sm _ _ ht
    replace g1 := sm _ _ g1
    replace l2 := sm _ _ l2
    replace t2 := t2.same sm
    replace t3 := sm _ _ t3
    replace l3 := sm _ _ l3
    replace l4 := sm _ _ l4
    have s1 : TA (upd K5 m1 (.tup [.int (0 - n), .int 1])) m1 (negP (n, 1)) := upd_same
    generalize upd K5 m1 _ = K6 at *
    refine ⟨a, m1, p, negP (n, 1), rfl, ha, s1, wp.pp, wn.neg.pp, fun d4 hd4 => ?_⟩
    have sm := same_new (o := (.tup [.int (plusP p (negP (n, 1))).1, .int (plusP p (negP (n, 1))).2])) hd4
    replace ha := sm _ _ ha
    replace h1 := h1.same sm
    replace sA := sA.trans sm
    replace ht := sm _ _ ht
    replace g1 := sm _ _ g1
    replace l2 := sm _ _ l2
    replace t2 := t2.same sm
    replace t3 := sm _ _ t3
    replace l3 := sm _ _ l3
    replace l4 := sm _ _ l4
    replace s1 := sm _ _ s1
    have t4 : TA (upd K6 d4 (.tup [.int (plusP p (negP (n, 1))).1, .int (plusP p (negP (n, 1))).2])) d4 (plusP p (negP (n, 1))) := upd_same
    generalize upd K6 d4 _ = K7 at *
    refine ⟨_, rfl, _, rfl, a, _, _, _, rfl, rfl, SqT.of ha, rfl, _, _, rfl, rfl, _, rfl, a, _, _, _, rfl, rfl, SqT.of ha, rfl, small1000 (by show 1 ≤ 1000; decide), fun m2 hm2 => ?_⟩
    have sm := same_new (o := (.tup [.int (0 - p.1), .int p.2])) hm2
    replace ha := sm _ _ ha
    replace h1 := h1.same sm
    replace sA := sA.trans sm
    replace ht := sm _ _ ht
    replace g1 := sm _ _ g1
    replace l2 := sm _ _ l2
    replace t2 := t2.same sm
    replace t3 := sm _ _ t3
    replace l3 := sm _ _ l3
    replace l4 := sm _ _ l4
    replace s1 := sm _ _ s1
    replace t4 := sm _ _ t4
    have s2 : TA (upd K7 m2 (.tup [.int (0 - p.1), .int p.2])) m2 (negP p) := upd_same
    generalize upd K7 m2 _ = K8 at *
    refine ⟨l, m2, (n, 1), negP p, rfl, ht, s2, wn.pp, wp.neg.pp, fun d5 hd5 => ?_⟩
    have sm := same_new (o := (.tup [.int (plusP (n, 1) (negP p)).1, .int (plusP (n, 1) (negP p)).2])) hd5
    replace ha := sm _ _ ha
    replace h1 := h1.same sm
    replace sA := sA.trans sm
    replace ht := sm _ _ ht
    replace g1 := sm _ _ g1
    replace l2 := sm _ _ l2
    replace t2 := t2.same sm
    replace t3 := sm _ _ t3
    replace l3 := sm _ _ l3
    replace l4 := sm _ _ l4
    replace s1 := sm _ _ s1
    replace t4 := sm _ _ t4
    replace s2 := sm _ _ s2
    have t5 : TA (upd K8 d5 (.tup [.int (plusP (n, 1) (negP p)).1, .int (plusP (n, 1) (negP p)).2])) d5 (plusP (n, 1) (negP p)) := upd_same
    generalize upd K8 d5 _ = K9 at *
    refine ⟨small1000 (by show 1 ≤ 1000; decide), fun L5 hL5 => ?_⟩
    have sm := same_new (o := (.lst [.ref d4, .ref d5])) hL5
    replace ha := sm _ _ ha
    replace h1 := h1.same sm
    replace sA := sA.trans sm
    replace ht := sm _ _ ht
    replace g1 := sm _ _ g1
    replace l2 := sm _ _ l2
    replace t2 := t2.same sm
    replace t3 := sm _ _ t3
    replace l3 := sm _ _ l3
    replace l4 := sm _ _ l4
    replace s1 := sm _ _ s1
    replace t4 := sm _ _ t4
    replace s2 := sm _ _ s2
    replace t5 := sm _ _ t5
    have l5 : upd K9 L5 (.lst [.ref d4, .ref d5]) L5 = some (.lst [.ref d4, .ref d5]) := upd_same
    generalize upd K9 L5 _ = KA at *
    refine ⟨L4, L5, _, _, rfl, rfl, l4, l5, by show 2 + 2 ≤ sizeLine; rw [sizeLine_eq]; decide, fun L6 hL6 => ?_⟩
    have sm := same_new (o := (.lst ((List.replicate (2 : Int).toNat [V.ref d3]).flatten ++ [.ref d4, .ref d5]))) hL6
    replace ha := sm _ _ ha
    replace h1 := h1.same sm
    replace sA := sA.trans sm
    replace ht := sm _ _ ht
    replace g1 := sm _ _ g1
    replace l2 := sm _ _ l2
    replace t2 := t2.same sm
    replace t3 := sm _ _ t3
    replace l3 := sm _ _ l3
    replace l4 := sm _ _ l4
    replace s1 := sm _ _ s1
    replace t4 := sm _ _ t4
    replace s2 := sm _ _ s2
    replace t5 := sm _ _ t5
    replace l5 := sm _ _ l5
    have l6 : upd KA L6 (.lst ((List.replicate (2 : Int).toNat [V.ref d3]).flatten ++ [.ref d4, .ref d5])) L6 = some (.lst ((List.replicate (2 : Int).toNat [V.ref d3]).flatten ++ [.ref d4, .ref d5])) := upd_same
    generalize upd KA L6 _ = KB at *
    clear l3 l4 l5 s1 s2
    have hTs : ∀ z ∈ TL ++ [byP p (n, 1), byP p (n, 1)], shortP z := by
      rw [← hTL]
      exact all_c (wp.plus wn) (all_c (wp.plus wn) (all_c (wp.plus wn.neg) (all_c (wn.plus wp.neg) (all_c (wp.by_ wn) (all_c (wp.by_ wn) all_n)))))
    have hTn : (TL ++ [byP p (n, 1), byP p (n, 1)]).length ≤ 8 := by rw [← hTL]; exact Nat.le_of_ble_eq_true rfl
    obtain ⟨i1, i2, i3, i4⟩ := prs_ok hTn hTs
    refine ⟨_, rfl, L2, prD (TL ++ [byP p (n, 1), byP p (n, 1)]), rfl, .lst (SqL.of l2) t2.dp, i1, i2, i3, i4, ?_⟩
    clear l2 t2
    refine ⟨_, rfl, _, rfl, _, rfl, a, l, p, (n, 1), rfl, ha, ht, wp.pp, wn.pp, fun d6 hd6 => ?_⟩
    have sm := same_new (o := (.tup [.int (byP p (n, 1)).1, .int (byP p (n, 1)).2])) hd6
    replace ha := sm _ _ ha
    replace h1 := h1.same sm
    replace sA := sA.trans sm
    replace ht := sm _ _ ht
    replace g1 := sm _ _ g1
    replace t3 := sm _ _ t3
    replace t4 := sm _ _ t4
    replace t5 := sm _ _ t5
    replace l6 := sm _ _ l6
    have t6 : TA (upd KB d6 (.tup [.int (byP p (n, 1)).1, .int (byP p (n, 1)).2])) d6 (byP p (n, 1)) := upd_same
    generalize upd KB d6 _ = KC at *
    refine ⟨small1000 (by show 0 ≤ 1000; decide), fun L7 hL7 => ?_⟩
    have sm := same_new (o := (.lst [.ref d6])) hL7
    replace ha := sm _ _ ha
    replace h1 := h1.same sm
    replace sA := sA.trans sm
    replace ht := sm _ _ ht
    replace g1 := sm _ _ g1
    replace t3 := sm _ _ t3
    replace t4 := sm _ _ t4
    replace t5 := sm _ _ t5
    replace l6 := sm _ _ l6
    replace t6 := sm _ _ t6
    have l7 : upd KC L7 (.lst [.ref d6]) L7 = some (.lst [.ref d6]) := upd_same
    generalize upd KC L7 _ = KD at *
    refine ⟨L7, 2, _, rfl, rfl, l7, by decide, by decide, by show 1 * 2 ≤ sizeLine; rw [sizeLine_eq]; decide, fun L8 hL8 => ?_⟩
    have sm := same_new (o := (.lst (List.replicate (2 : Int).toNat [V.ref d6]).flatten)) hL8
    replace ha := sm _ _ ha
    replace h1 := h1.same sm
    replace sA := sA.trans sm
    replace ht := sm _ _ ht
    replace g1 := sm _ _ g1
    replace t3 := sm _ _ t3
    replace t4 := sm _ _ t4
    replace t5 := sm _ _ t5
    replace l6 := sm _ _ l6
    replace t6 := sm _ _ t6
    replace l7 := sm _ _ l7
    have l8 : upd KD L8 (.lst (List.replicate (2 : Int).toNat [V.ref d6]).flatten) L8 = some (.lst (List.replicate (2 : Int).toNat [V.ref d6]).flatten) := upd_same
    generalize upd KD L8 _ = KE at *
    refine ⟨L6, L8, _, _, rfl, rfl, l6, l8, by show 4 + 2 ≤ sizeLine; rw [sizeLine_eq]; decide, fun L9 hL9 => ?_⟩
    have sm := same_new (o := (.lst (((List.replicate (2 : Int).toNat [V.ref d3]).flatten ++ [.ref d4, .ref d5]) ++ (List.replicate (2 : Int).toNat [V.ref d6]).flatten))) hL9
    replace ha := sm _ _ ha
    replace h1 := h1.same sm
    replace sA := sA.trans sm
    replace ht := sm _ _ ht
    replace g1 := sm _ _ g1
    replace t3 := sm _ _ t3
    replace t4 := sm _ _ t4
    replace t5 := sm _ _ t5
    replace l6 := sm _ _ l6
    replace t6 := sm _ _ t6
    replace l7 := sm _ _ l7
    replace l8 := sm _ _ l8
    have l9 : upd KE L9 (.lst (((List.replicate (2 : Int).toNat [V.ref d3]).flatten ++ [.ref d4, .ref d5]) ++ (List.replicate (2 : Int).toNat [V.ref d6]).flatten)) L9 = some (.lst (((List.replicate (2 : Int).toNat [V.ref d3]).flatten ++ [.ref d4, .ref d5]) ++ (List.replicate (2 : Int).toNat [V.ref d6]).flatten)) := upd_same
    generalize upd KE L9 _ = KF at *
    have t9 : TPs KF (((List.replicate (2 : Int).toNat [V.ref d3]).flatten ++ [.ref d4, .ref d5]) ++ (List.replicate (2 : Int).toNat [V.ref d6]).flatten) (TL ++ [byP p (n, 1), byP p (n, 1)]) := by
      rw [← hTL]
      exact A2.cons ⟨d3, rfl, t3⟩ (A2.cons ⟨d3, rfl, t3⟩ (A2.cons ⟨d4, rfl, t4⟩ (A2.cons ⟨d5, rfl, t5⟩ (A2.cons ⟨d6, rfl, t6⟩ (A2.cons ⟨d6, rfl, t6⟩ A2.nil)))))
    refine ⟨L9, prD (TL ++ [byP p (n, 1), byP p (n, 1)]), rfl, .lst (SqL.of l9) t9.dp, i1, i2, i3, i4, ?_⟩
    refine ⟨rfl, _, rfl, ite2 (fun z => absurd z (by simp)) (fun _ => ?_)⟩
    clear l6 l7 l8 l9 t3 t4 t5 t6 t9 hTs hTn i1 i2 i3 i4
    refine ⟨_, rfl, x1, e1, _, rfl, g1, fl_no _ _ (by decide) (by decide), _, rfl, x1, .int n, p.1, p.2, n, 1, rfl, h1, .inr ⟨rfl, rfl⟩, z1, zn, fun M1 sm => ?_⟩
    replace ha := sm _ _ ha
    replace h1 := h1.same sm
    replace sA := sA.trans sm
    replace ht := sm _ _ ht
    replace g1 := sm _ _ g1
    refine ⟨lessP p (n, 1), rfl, ?_⟩
    refine ⟨_, rfl, _, rfl, a, l, p, (n, 1), rfl, ha, ht, wp.pp, wn.pp, lessP p (n, 1), rfl, rfl, _, rfl, ite2 (fun z => absurd z (by simp)) (fun _ => ?_)⟩
    refine ⟨_, rfl, rfl, ?_⟩
    refine ⟨_, rfl, ite2 (fun z => q _ sA) (fun z => ?_)⟩
    have nz : n ≠ 0 := fun e => z (by rw [e]; exact decide_eq_true rfl)
    have nb : p.2 * n ≠ 0 := Int.mul_ne_zero wp.lf.ne nz
    have nb8 : (p.2 * n).natAbs < 2 ^ 8000 := pow_up (mul_short wp.bz hn) (by decide)
    have m3 : CMulW p.2 n := wide_mul wp.bz hn (by decide) (by decide) (by decide)
    refine ⟨_, rfl, x1, e1, _, rfl, g1, fl_no _ _ (by decide) (by decide), _, rfl, x1, .int n, p.1, p.2, n, 1, rfl, h1, .inr ⟨rfl, rfl⟩, z1, zn, nz, fun y8 I1 f8 sm _ => ?_⟩
    replace ha := sm _ _ ha
    replace h1 := h1.same sm
    replace sA := sA.trans sm
    replace g1 := sm _ _ g1
    rw [Int.mul_one] at f8
    refine ⟨y8, _, _, rfl, f8, fun pa hpa => ?_⟩
    have sm := same_new (o := (.tup [.int (nT p.1 (p.2 * n)), .int (nB p.1 (p.2 * n))])) hpa
    replace ha := sm _ _ ha
    replace h1 := h1.same sm
    replace sA := sA.trans sm
    replace g1 := sm _ _ g1
    have ta : upd I1 pa (.tup [.int (nT p.1 (p.2 * n)), .int (nB p.1 (p.2 * n))]) pa = some (.tup [.int (nT p.1 (p.2 * n)), .int (nB p.1 (p.2 * n))]) := upd_same
    generalize upd I1 pa _ = I2 at *
    refine ⟨_, rfl, a, _, _, _, rfl, rfl, SqT.of ha, rfl, _, rfl, a, _, _, _, rfl, rfl, SqT.of ha, rfl, _, rfl, _, _, rfl, rfl, m3, _, _, rfl, nb, nb8, fun pb hpb => ?_⟩
    have sm := same_new (o := (.tup [.int (nT p.1 (p.2 * n)), .int (nB p.1 (p.2 * n))])) hpb
    replace ha := sm _ _ ha
    replace h1 := h1.same sm
    replace sA := sA.trans sm
    replace g1 := sm _ _ g1
    replace ta := sm _ _ ta
    refine ⟨tupD (nT p.1 (p.2 * n), nB p.1 (p.2 * n)), tupD (nT p.1 (p.2 * n), nB p.1 (p.2 * n)), .tup (SqT.of ta) (.cons (.int _) (.cons (.int _) .nil)), .tup (SqT.of upd_same) (.cons (.int _) (.cons (.int _) .nil)), rfl, rfl, ?_⟩
    show Q (.bl (PyData.eqv _ _)) _
    rw [Bool.not_eq_eq_eq_not.mp (eqv_tup _)]
    exact q _ sA
end
end FR
set_option Elab.async false
set_option linter.all false
set_option maxRecDepth 100000
set_option maxHeartbeats 4000000
namespace FR
open PySem PySem.Spec PyProof.Rows L2 LD
theorem sum_sz {ps : List PI} (h : ∀ p ∈ ps, Wf p) : (sumP ps).1.natAbs < 2 ^ (242 * ps.length + 1) ∧ (sumP ps).2.natAbs < 2 ^ (242 * ps.length + 1) := by
  induction ps using snoc_ind with
  | h0 => exact ⟨by decide, by decide⟩
  | h l x ih =>
    have wl : ∀ p ∈ l, Wf p := fun p m => h p (List.mem_append_left _ m)
    have wx : Wf x := h x (List.mem_append_right _ (List.mem_singleton.mpr rfl))
    obtain ⟨i1, i2⟩ := ih wl
    have ls := sumP_lf (ps := l) fun p m => (wl p m).lf
    have nb : (sumP l).2 * x.2 ≠ 0 := Int.mul_ne_zero ls.ne wx.lf.ne
    rw [sumP_snoc, List.length_append, List.length_singleton]
    have e : 242 * (l.length + 1) + 1 = (242 * l.length + 1 + 240) + 2 := by omega
    rw [e]
    have m1 := wide_lt i1 wx.bz
    have m2 := wide_lt wx.tz i2
    have m3 := wide_lt i2 wx.bz
    rw [Nat.add_comm 240] at m2
    generalize 242 * l.length + 1 + 240 = n at *
    have pw : 2 ^ (n + 2) = 2 ^ n * 4 := by rw [Nat.pow_add]
    refine ⟨Nat.lt_of_le_of_lt (nT_le nb) ?_, Nat.lt_of_le_of_lt (nB_le nb) ?_⟩
    · have := Int.natAbs_add_le ((sumP l).1 * x.2) (x.1 * (sumP l).2)
      omega
    · omega
theorem sum_pp {ps : List PI} (h : ∀ p ∈ ps, Wf p) (hn : ps.length ≤ 4) : Pp (sumP ps) ∧ shortP (sumP ps) := by
  obtain ⟨a, b⟩ := sum_sz h
  have ls := sumP_lf (ps := ps) fun p m => (h p m).lf
  exact ⟨⟨ls.1, pow_up a (by omega), pow_up b (by omega)⟩, pow_up a (by omega), pow_up b (by omega)⟩
theorem dice_ne {H : Hp} {d q : Addr} {o : HO} (hd : DiceAt H d) (e : H q = some o) (n : ∀ xs, o ≠ .lst xs) : q ≠ d := fun z => by
  subst z
  obtain ⟨a, b, c, e'⟩ := hd
  rw [e] at e'
  exact n _ (Option.some.inj e')
theorem dice_new {H : Hp} {d q : Addr} (hd : DiceAt H d) (e : H q = none) : q ≠ d := fun z => by
  subst z
  obtain ⟨a, b, c, e'⟩ := hd
  rw [e] at e'
  cases e'
/-- with the dice rolled: tuples and fractions stand -/
theorem Rl.tup {d q : Addr} {H H' : Hp} {xs : List V} (r : Rl d H H') (hd : DiceAt H d) (e : H q = some (.tup xs)) : H' q = some (.tup xs) := r.2 _ _ (dice_ne hd e fun _ z => nomatch z) e
theorem Rl.fr {C d q : Addr} {H H' : Hp} {t b : Int} (r : Rl d H H') (hd : DiceAt H d) (e : FrAt C H q t b) : FrAt C H' q t b := by
  obtain ⟨dx, e⟩ := e
  exact ⟨dx, r.2 _ _ (dice_ne hd e fun _ z => nomatch z) e⟩
theorem Rl.fv {C d : Addr} {v : V} {H H' : Hp} {t b : Int} (r : Rl d H H') (hd : DiceAt H d) (e : FV C H v t b) : FV C H' v t b := by
  rcases e with ⟨q, z, e⟩ | e
  · exact .inl ⟨q, z, r.fr hd e⟩
  · exact .inr e
theorem Rl.tps {d : Addr} {H H' : Hp} {vs : List V} {ps : List PI} (r : Rl d H H') (hd : DiceAt H d) (h : TPs H vs ps) : TPs H' vs ps := A2.imp h fun _ _ ⟨q, e, f⟩ => ⟨q, e, r.tup hd f⟩
theorem Rl.fvs {C d : Addr} {H H' : Hp} {vs : List V} {ps : List PI} (r : Rl d H H') (hd : DiceAt H d) (h : FVs C H vs ps) : FVs C H' vs ps := A2.imp h fun _ _ f => r.fv hd f
theorem FVs.updl {C : Addr} {H : Hp} {D : Addr} {xs : List V} {o : HO} {vs : List V} {ps : List PI} (h : FVs C H vs ps) (hD : H D = some (.lst xs)) : FVs C (upd H D o) vs ps :=
  A2.imp h fun _ _ f => by
    rcases f with ⟨q, e, z⟩ | z
    · exact .inl ⟨q, e, z.updl hD⟩
    · exact .inr z
theorem Rl.put {d p : Addr} {H H1 : Hp} {o : HO} (r : Rl d H H1) (hp : H p = none) (n : p ≠ d) : Rl d H (upd H1 p o) := by
  obtain ⟨a, b, c, e⟩ := r.1
  exact ⟨⟨a, b, c, by rw [upd_ne (Ne.symm n)]; exact e⟩, fun q o' m e' => by
    rw [upd_ne (ne_of_none e' hp)]
    exact r.2 q o' m e'⟩
theorem small1000' {n : Nat} (h : n < 1000) : n < sizeLine := by rw [sizeLine_eq]; omega
abbrev sTup : Stmt := FR.top 40
abbrev NT : List Str := ["_law_dice_here", "_law_pairs", "_law_least", "_law_most", "_law_whole", "_law_one", "_law_some", "_law_told_here"]
theorem scT : FnScope NT ["_law_dice_here", "_law_pairs"] (defScope sTup) := ⟨rfl, rfl, rfl, by decide +kernel, rfl, by decide +kernel, by decide +kernel⟩
/-- the drawn pairs: a list -/
structure Pl (H : Hp) (d pl : Addr) (ps : List PI) : Prop where
  at_ : ∃ vs, H pl = some (.lst vs) ∧ TPs H vs ps
  ne : pl ≠ d
  few : ps.length ≤ 4
  wf : ∀ p ∈ ps, Wf p
def spTup : Sp := fun vs H Q _ => ∃ (d pl : Addr) (p0 : PI) (pr : List PI), vs = [.ref d, .ref pl] ∧ DiceAt H d ∧ Pl H d pl (p0 :: pr) ∧ ∀ H', Rl d H H' → Q (.bl true) H'
section
variable {P : Program} {w : World} {K : PySem.W.Frag} {mg : Str → Option Value} {base : Heap} {C fI pT gT0 pB gB0 : Addr} {fdI fdT fdB : FuncData}
theorem ok_tup {f : Addr} {fd : FuncData} (F : Fun K "_law_tuple_right" "_law_tuple_right" sTup f fd) (k : FrK P w K mg base C fI pT gT0 pB gB0 fdI fdT fdB) (T : TxtM K mg C)
    (gP : Glo P w K mg base "_law_plus" 3 N12 (spLP plusP)) (gL : Glo P w K mg base "_law_is_less" 1 N12 spLle) (gT : Glo P w K mg base "_law_told" 3 ["_law_thing"] (spTold C)) (gR : Glo P w K mg base "_law_roll" 1 ["_law_dice_here", "_law_total"] spRoll)
    (gLe : Glo P w K mg base "least_of" 6 ["fractions"] (spPick C leastP)) (gMo : Glo P w K mg base "greatest_of" 6 ["fractions"] (spPick C mostP)) (gTo : Glo P w K mg base "total_of" 6 ["fractions"] (spTotal C)) :
    FnG P w K mg base CX0 7 f fd ["_law_dice_here", "_law_pairs"] spTup := by
  refine F.okG scT (fun vs H Q E h => ?_) (fun cdv A outer s H vs Q E hr hgA h => ?_)
  · obtain ⟨d, pl, p0, pr, rfl, _⟩ := h
    rfl
  · obtain ⟨d, pl, p0, pr, rfl, hd, ⟨⟨vs, hpl, tps⟩, hne, few, wf⟩, q⟩ := h
    have hgd : (A.deeper (envOfC "_law_tuple_right" (defScope sTup) s.heap.objs.size f cdv)).guards = some [] := guards_deeper hgA
    have hr1 := hr.mono (j := 1) (by decide)
    have hr3 := hr.mono (j := 3) (by decide)
    have hr6 := hr.mono (j := 6) (by decide)
    refine ⟨_, pss_cons (ps_par3 (i := 2) (j := 3) (l := 4) (by rfl) scT.nd rfl rfl rfl (by decide) (by decide) (by decide) rfl rfl rfl (pa_cons (pe_ix ix_list (pv 1) pe_int (fun _ _ => rfl)) (pa_cons (pe_ix ix_list (pv 1) pe_int (fun _ _ => rfl)) (pa_cons (pe_tup (pa_cons pe_int (pa_cons pe_int pa_nil))) pa_nil))) (by rfl))
      (pss_cons (ps_for PassesOwn.never rfl (pi_list (pv 1)) (pg_name (i := 5) scT.nd rfl (.inl rfl)) (pss_cons (ps_set (i := 2) scT.nd rfl (Or.inl rfl) (pe_ifExp (pt_val (pe_call gL.G hr1 (by rfl) gL.m gL.k gL.b .nil pass0 (pa_cons (pv 5) (pa_cons (pv 2) pa_nil)))) (pv 5) (pv 2))) (pss_cons (ps_set (i := 3) scT.nd rfl (Or.inl rfl) (pe_ifExp (pt_val (pe_call gL.G hr1 (by rfl) gL.m gL.k gL.b .nil pass0 (pa_cons (pv 3) (pa_cons (pv 5) pa_nil)))) (pv 5) (pv 3))) (pss_one (ps_set (i := 4) scT.nd rfl (Or.inl rfl) (pe_call gP.G hr3 (by rfl) gP.m gP.k gP.b .nil pass0 (pa_cons (pv 4) (pa_cons (pv 5) pa_nil))))))))
      (pss_cons (ps_set (i := 6) scT.nd rfl (Or.inl rfl) (pe_lst pa_nil))
      (pss_cons (ps_for PassesOwn.never rfl (pi_list (pv 1)) (pg_name (i := 5) scT.nd rfl (.inl rfl)) (pss_one (ps_expr (pe_bm PySem.F.plainAttrs_list PySem.F.slot_list_append PySem.F.type_list_append mt_append (pv 6) (pa_cons (pe_ifExp (PW.pt (pw_and (pt_cmpR op_eq (pe_ix ix_tup (pv 5) pe_int (fun _ _ => rfl)) pe_int (nomark _)) (pw_and1 (pt_cmpR op_eq (pe_call gR.G hr1 (by rfl) gR.m gR.k gR.b .nil pass0 (pa_cons (pv 0) (pa_cons pe_int pa_nil))) pe_int (nomark _))))) (pe_ix ix_tup (pv 5) pe_int (fun _ _ => rfl)) (pe_make k.M k.GI hr3 (by rfl) k.T.mC k.b2 .nil pass0 (pa_cons (pe_ix ix_tup (pv 5) pe_int (fun _ _ => rfl)) (pa_cons (pe_ix ix_tup (pv 5) pe_int (fun _ _ => rfl)) pa_nil)))) pa_nil)))))
      (pss_cons (ps_set (i := 7) scT.nd rfl (Or.inl rfl) (pe_lst (pa_cons (pe_call gLe.G hr6 (by rfl) gLe.m gLe.k gLe.b .nil pass0 (pa_cons (pe_callTy call_tuple_of (by rfl) T.tu (by decide +kernel) (pa_cons (pv 6) pa_nil)) pa_nil)) (pa_cons (pe_call gMo.G hr6 (by rfl) gMo.m gMo.k gMo.b .nil pass0 (pa_cons (pe_callTy call_tuple_of (by rfl) T.tu (by decide +kernel) (pa_cons (pv 6) pa_nil)) pa_nil)) (pa_cons (pe_call gTo.G hr6 (by rfl) gTo.m gTo.k gTo.b .nil pass0 (pa_cons (pe_callTy call_tuple_of (by rfl) T.tu (by decide +kernel) (pa_cons (pv 6) pa_nil)) pa_nil)) (pa_cons (pe_call gTo.G hr6 (by rfl) gTo.m gTo.k gTo.b .nil pass0 (pa_cons (pe_tup pa_nil) pa_nil)) pa_nil))))))
      (pss_one (ps_ret (pe_cmpR op_eq (pe_callB (call_repr hgd hr.units) (by rfl) T.re boot_repr (pa_cons (pe_lc (own := [("_law_one", 5)]) (g := gName 5) (tt := tYes) rfl scT.nd (pi_list (pv 7)) (blkOk_by (N := NT) (sc := defScope sTup) (by decide +kernel)) (fun _ _ _ _ _ => pg_name (i := 5) scT.nd rfl (.inl rfl)) (fun _ _ _ _ _ => pts_nil) (fun _ _ _ _ _ => (pe_call gT.G hr3 (by rfl) gT.m gT.k gT.b .nil pass0 (pa_cons (pv 5) pa_nil)))) pa_nil)) (pe_callB (call_repr hgd hr.units) (by rfl) T.re boot_repr (pa_cons (pe_lst (pa_cons (pv 2) (pa_cons (pv 3) (pa_cons (pv 4) (pa_cons (pe_tup (pa_cons pe_int (pa_cons pe_int pa_nil))) pa_nil))))) pa_nil)) (nomark _)))))))), ?_⟩
    cases vs with
    | nil => exact absurd tps.1 (by simp)
    | cons v0 vr =>
    obtain ⟨x0, e0, hx0⟩ := tps.uncons.1
    subst e0
    refine ⟨_, rfl, pl, _, 0, _, rfl, rfl, SqL.of hpl, at_zero _ _, _, rfl, pl, _, 0, _, rfl, rfl, SqL.of hpl, at_zero _ _, small1000 (by show 1 ≤ 1000; decide), fun z0 hz0 => ?_⟩
    refine ⟨_, _, _, rfl, ?_⟩
    have sm := same_new (o := .tup [.int 0, .int 1]) hz0
    have hz : TA (upd H z0 (.tup [.int 0, .int 1])) z0 (0, 1) := upd_same
    have hpl1 := sm _ _ hpl
    have hx1 := sm _ _ hx0
    have tp1 := tps.same sm
    have r1 := (Rl.refl hd).new (o := .tup [.int 0, .int 1]) hz0
    generalize upd H z0 _ = H1 at *
    refine ⟨_, rfl, pl, rfl, ⟨_, SqL.of hpl1⟩, ?_⟩
    refine for_list (xs := .ref x0 :: vr) (fun i σ Hc => Same H1 Hc ∧ ∃ (x y z : Addr) (x5 : Option V), σ = [some (.ref d), some (.ref pl), some (.ref x), some (.ref y), some (.ref z), x5, none, none] ∧ TA Hc x (((p0 :: pr).take i).foldl leastP p0) ∧ TA Hc y (((p0 :: pr).take i).foldl mostP p0) ∧ TA Hc z (sumP ((p0 :: pr).take i)))
      ⟨Same.refl _, x0, x0, z0, none, rfl, hx1, hx1, hz⟩ (fun i σ Hc _ p => SqL.of (p.1 _ _ hpl1)) ?_ ?_
    · rintro i v σ Hc hvi ⟨sm, x, y, z, x5, rfl, hx, hy, hz⟩
      obtain ⟨p, hp, u, rfl, hu⟩ := (tp1.same sm).2 i v hvi
      have wp := wf p (List.mem_of_getElem? hp)
      have wl := wf _ (fold_mem leastP least_or p0 (p0 :: pr) List.mem_cons_self _ (fun q hq => List.mem_of_mem_take (i := i) hq) _ List.mem_cons_self)
      have wm := wf _ (fold_mem mostP most_or p0 (p0 :: pr) List.mem_cons_self _ (fun q hq => List.mem_of_mem_take (i := i) hq) _ List.mem_cons_self)
      have sub : ∀ q ∈ (p0 :: pr).take i, Wf q := fun q hq => wf q (List.mem_of_mem_take hq)
      have sp := (sum_pp sub (by rw [List.length_take]; omega)).1
      rw [take_snoc hp, List.foldl_append, List.foldl_append, sumP_snoc]
      generalize ((p0 :: pr).take i).foldl leastP p0 = ml at *
      generalize ((p0 :: pr).take i).foldl mostP p0 = mm at *
      generalize sumP ((p0 :: pr).take i) = ms at *
      refine ⟨_, rfl, _, rfl, u, x, p, ml, rfl, hu, hx, wp.pp, wl.pp, _, rfl, ?_⟩
      refine ite2 (fun c1 => ?_) (fun c1 => ?_)
      · have e1 : leastP ml p = p := if_pos c1
        refine ⟨_, rfl, ?_⟩
        refine ⟨_, rfl, _, rfl, y, u, mm, p, rfl, hy, hu, wm.pp, wp.pp, _, rfl, ?_⟩
        refine ite2 (fun c2 => ?_) (fun c2 => ?_)
        · have e2 : mostP mm p = p := if_pos c2
          refine ⟨_, rfl, ?_⟩
          refine ⟨_, rfl, _, rfl, z, u, ms, p, rfl, hz, hu, sp, wp.pp, fun w hw => ?_⟩
          exact ⟨sm.trans (same_new hw), u, u, w, _, rfl, by show TA _ _ (leastP ml p); rw [e1]; exact same_new hw _ _ hu, by show TA _ _ (mostP mm p); rw [e2]; exact same_new hw _ _ hu, upd_same⟩
        · have e2 : mostP mm p = mm := if_neg c2
          refine ⟨_, rfl, ?_⟩
          refine ⟨_, rfl, _, rfl, z, u, ms, p, rfl, hz, hu, sp, wp.pp, fun w hw => ?_⟩
          exact ⟨sm.trans (same_new hw), u, y, w, _, rfl, by show TA _ _ (leastP ml p); rw [e1]; exact same_new hw _ _ hu, by show TA _ _ (mostP mm p); rw [e2]; exact same_new hw _ _ hy, upd_same⟩
      · have e1 : leastP ml p = ml := if_neg c1
        refine ⟨_, rfl, ?_⟩
        refine ⟨_, rfl, _, rfl, y, u, mm, p, rfl, hy, hu, wm.pp, wp.pp, _, rfl, ?_⟩
        refine ite2 (fun c2 => ?_) (fun c2 => ?_)
        · have e2 : mostP mm p = p := if_pos c2
          refine ⟨_, rfl, ?_⟩
          refine ⟨_, rfl, _, rfl, z, u, ms, p, rfl, hz, hu, sp, wp.pp, fun w hw => ?_⟩
          exact ⟨sm.trans (same_new hw), x, u, w, _, rfl, by show TA _ _ (leastP ml p); rw [e1]; exact same_new hw _ _ hx, by show TA _ _ (mostP mm p); rw [e2]; exact same_new hw _ _ hu, upd_same⟩
        · have e2 : mostP mm p = mm := if_neg c2
          refine ⟨_, rfl, ?_⟩
          refine ⟨_, rfl, _, rfl, z, u, ms, p, rfl, hz, hu, sp, wp.pp, fun w hw => ?_⟩
          exact ⟨sm.trans (same_new hw), x, y, w, _, rfl, by show TA _ _ (leastP ml p); rw [e1]; exact same_new hw _ _ hx, by show TA _ _ (mostP mm p); rw [e2]; exact same_new hw _ _ hy, upd_same⟩
    rintro σ H2 ⟨sm, x, y, z, x5, rfl, hx, hy, hz⟩
    rw [take_all tps.1] at hx hy hz
    have r2 := r1.same sm
    have hpl2 := sm _ _ hpl1
    have tp2 := tp1.same sm
    refine ⟨Nat.zero_le _, fun sl hsl => ?_⟩
    have slne : sl ≠ d := dice_new r2.1 hsl
    have hpl3 : upd H2 sl (.lst []) pl = _ := same_new hsl _ _ hpl2
    refine ⟨_, rfl, pl, rfl, ⟨_, SqL.of hpl3⟩, ?_⟩
    refine for_list (xs := .ref x0 :: vr) (fun i σ Hc => Rl d H2 Hc ∧ ∃ (x5 : Option V) (ws : List V), σ = [some (.ref d), some (.ref pl), some (.ref x), some (.ref y), some (.ref z), x5, some (.ref sl), none] ∧ Hc sl = some (.lst ws) ∧ FVs C Hc ws ((p0 :: pr).take i))
      ⟨(Rl.refl r2.1).new hsl, _, [], rfl, upd_same, A2.nil⟩ (fun i σ Hc _ p => SqL.of (p.1.2 _ _ hne hpl2)) ?_ ?_
    · rintro i v σ Hc hvi ⟨rl, x5, ws, rfl, hsw, fv⟩
      obtain ⟨p, hp, u, rfl, hu⟩ := (rl.tps r2.1 tp2).2 i v hvi
      have wp := wf p (List.mem_of_getElem? hp)
      have wl : ws.length < 1000 := by
        have := fv.1
        rw [List.length_take] at this
        omega
      rw [take_snoc hp]
      have leaf : ∀ (Hx : Hp) (y : V), Rl d H2 Hx → Hx sl = some (.lst ws) → FVs C Hx ws ((p0 :: pr).take i) → FV C Hx y p.1 p.2 → Rl d H2 (upd Hx sl (.lst (ws ++ [y]))) ∧ (upd Hx sl (.lst (ws ++ [y]))) sl = some (.lst (ws ++ [y])) ∧ FVs C (upd Hx sl (.lst (ws ++ [y]))) (ws ++ [y]) ((p0 :: pr).take i ++ [p]) := fun Hx y rx hs f fy => by
        refine ⟨rx.put hsl slne, upd_same, A2.snoc (f.updl hs) ?_⟩
        rcases fy with ⟨q', e, z⟩ | z
        · exact .inl ⟨q', e, z.updl hs⟩
        · exact .inr z
      refine ⟨_, rfl, .inl ⟨rfl, _, SqL.of hsw⟩, ?_⟩
      refine ⟨_, rfl, u, _, _, _, rfl, rfl, SqT.of hu, rfl, rfl, _, rfl, ?_⟩
      refine ite2 (fun c1 => ?_) (fun c1 => ?_)
      · refine ⟨_, rfl, d, 2, rfl, rl.1, by decide, by decide, fun r a b c _ _ => ?_⟩
        have ro := (Rl.refl rl.1).roll (a := a) (b := b) (c := c)
        have rl2 := rl.roll (a := a) (b := b) (c := c)
        have hsw2 : upd Hc d (.lst (dxs a b c)) sl = some (.lst ws) := ro.2 _ _ slne hsw
        have fv2 := ro.fvs rl.1 fv
        have hu2 := ro.tup rl.1 hu
        generalize upd Hc d _ = Hd at *
        refine ⟨rfl, _, rfl, ite2 (fun c2 => ?_) (fun c2 => ?_)⟩
        · have b1 : p.2 = 1 := V.int.inj (of_decide_eq_true c1)
          refine ⟨_, rfl, u, _, _, _, rfl, rfl, SqT.of hu2, rfl, ?_⟩
          obtain ⟨l1, l2, l3⟩ := leaf Hd (.int p.1) rl2 hsw2 fv2 (.inr ⟨rfl, b1⟩)
          exact ⟨sl, ws, _, rfl, rfl, hsw2, small1000' wl, l1, _, _, rfl, l2, l3⟩
        · refine ⟨_, rfl, u, _, _, _, rfl, rfl, SqT.of hu2, rfl, _, rfl, u, _, _, _, rfl, rfl, SqT.of hu2, rfl, fun f1 df nf1 nd1 ne1 => ⟨f1, df, _, _, rfl, upd_same, wp.lf.ne, dv8 wp.lf.ne wp.b8, fun He hf hs => ⟨rfl, ?_⟩⟩⟩
          have sf := same_make (C := C) nf1 nd1 hs
          rw [wp.lf.nT, wp.lf.nB] at hf
          obtain ⟨l1, l2, l3⟩ := leaf He (.ref f1) (rl2.same sf) (sf _ _ hsw2) (fv2.same sf) (.inl ⟨f1, rfl, hf⟩)
          exact ⟨sl, ws, _, rfl, rfl, sf _ _ hsw2, small1000' wl, l1, _, _, rfl, l2, l3⟩
      · refine ⟨_, rfl, u, _, _, _, rfl, rfl, SqT.of hu, rfl, _, rfl, u, _, _, _, rfl, rfl, SqT.of hu, rfl, fun f1 df nf1 nd1 ne1 => ⟨f1, df, _, _, rfl, upd_same, wp.lf.ne, dv8 wp.lf.ne wp.b8, fun He hf hs => ⟨rfl, ?_⟩⟩⟩
        have sf := same_make (C := C) nf1 nd1 hs
        rw [wp.lf.nT, wp.lf.nB] at hf
        obtain ⟨l1, l2, l3⟩ := leaf He (.ref f1) (rl.same sf) (sf _ _ hsw) (fv.same sf) (.inl ⟨f1, rfl, hf⟩)
        exact ⟨sl, ws, _, rfl, rfl, sf _ _ hsw, small1000' wl, l1, _, _, rfl, l2, l3⟩
    rintro σ H4 ⟨rl, x5, ws, rfl, hsw, fv⟩
    rw [take_all tps.1] at fv
    have hx := rl.tup r2.1 hx
    have hy := rl.tup r2.1 hy
    have hz := rl.tup r2.1 hz
    have rA := r2.trans rl
    have lf : AllLf (p0 :: pr) := fun p hp => (wf p hp).lf
    have sz : ∀ p ∈ p0 :: pr, p.1.natAbs < 2 ^ 240 ∧ p.2.natAbs < 2 ^ 240 := fun p hp => ⟨(wf p hp).tz, (wf p hp).bz⟩
    have few5 : (p0 :: pr).length ≤ 5 := by omega
    refine ⟨_, rfl, sl, ws, rfl, .inl ⟨SqL.of hsw, fun t1 ht1 => ?_⟩⟩
    have sm := same_new (o := .tup ws) ht1
    refine ⟨t1, p0, pr, rfl, ⟨⟨ws, upd_same, fv.same sm⟩, few5, lf, sz⟩, fun y1 G1 f1 s1 => ?_⟩
    replace sm := sm.trans s1
    replace hsw := sm _ _ hsw
    replace hx := sm _ _ hx
    replace hy := sm _ _ hy
    replace hz := sm _ _ hz
    replace fv := fv.same sm
    replace rA := rA.same sm
    refine ⟨_, rfl, sl, ws, rfl, .inl ⟨SqL.of hsw, fun t2 ht2 => ?_⟩⟩
    have sm := same_new (o := .tup ws) ht2
    refine ⟨t2, p0, pr, rfl, ⟨⟨ws, upd_same, fv.same sm⟩, few5, lf, sz⟩, fun y2 G2 f2 s2 => ?_⟩
    replace sm := sm.trans s2
    replace hsw := sm _ _ hsw
    replace hx := sm _ _ hx
    replace hy := sm _ _ hy
    replace hz := sm _ _ hz
    replace fv := fv.same sm
    replace rA := rA.same sm
    replace f1 := f1.same sm
    refine ⟨_, rfl, sl, ws, rfl, .inl ⟨SqL.of hsw, fun t3 ht3 => ?_⟩⟩
    have sm := same_new (o := .tup ws) ht3
    refine ⟨t3, p0 :: pr, rfl, ⟨⟨ws, upd_same, fv.same sm⟩, few5, lf, sz⟩, fun y3 G3 f3 s3 => ?_⟩
    replace sm := sm.trans s3
    replace hsw := sm _ _ hsw
    replace hx := sm _ _ hx
    replace hy := sm _ _ hy
    replace hz := sm _ _ hz
    replace fv := fv.same sm
    replace rA := rA.same sm
    replace f1 := f1.same sm
    replace f2 := f2.same sm
    refine ⟨Nat.zero_le _, fun et het => ?_⟩
    have sm := same_new (o := .tup []) het
    refine ⟨et, [], rfl, ⟨⟨[], upd_same, A2.nil⟩, by decide, (fun _ h => nomatch h), (fun _ h => nomatch h)⟩, fun y4 G4 f4 s4 => ?_⟩
    replace sm := sm.trans s4
    replace hx := sm _ _ hx
    replace hy := sm _ _ hy
    replace hz := sm _ _ hz
    replace rA := rA.same sm
    replace f1 := f1.same sm
    replace f2 := f2.same sm
    replace f3 := f3.same sm
    refine ⟨small1000 (by show 3 ≤ 1000; decide), fun L1 hL1 => ?_⟩
    have sm := same_new (o := .lst [.ref y1, .ref y2, .ref y3, .ref y4]) hL1
    replace hx := sm _ _ hx
    replace hy := sm _ _ hy
    replace hz := sm _ _ hz
    replace rA := rA.same sm
    replace f1 := f1.same sm
    replace f2 := f2.same sm
    replace f3 := f3.same sm
    replace f4 := f4.same sm
    have l1 : upd G4 L1 (.lst [.ref y1, .ref y2, .ref y3, .ref y4]) L1 = some (.lst [.ref y1, .ref y2, .ref y3, .ref y4]) := upd_same
    generalize upd G4 L1 _ = G5 at *
    have hall : FRs C G5 [V.ref y1, .ref y2, .ref y3, .ref y4] [(p0 :: pr).foldl leastP p0, (p0 :: pr).foldl mostP p0, sumP (p0 :: pr), (0, 1)] := A2.cons ⟨y1, rfl, f1⟩ (A2.cons ⟨y2, rfl, f2⟩ (A2.cons ⟨y3, rfl, f3⟩ (A2.cons ⟨y4, rfl, f4⟩ A2.nil)))
    have wl := wf _ (fold_mem leastP least_or p0 (p0 :: pr) List.mem_cons_self (p0 :: pr) (fun q hq => hq) _ List.mem_cons_self)
    have wm := wf _ (fold_mem mostP most_or p0 (p0 :: pr) List.mem_cons_self (p0 :: pr) (fun q hq => hq) _ List.mem_cons_self)
    have hT : ∀ z ∈ [(p0 :: pr).foldl leastP p0, (p0 :: pr).foldl mostP p0, sumP (p0 :: pr), (0, 1)], shortP z := all_c wl.short (all_c wm.short (all_c (sum_pp wf few).2 (all_c ⟨by decide +kernel, by decide +kernel⟩ all_n)))
    generalize hl : (p0 :: pr).foldl leastP p0 = ml at *
    generalize hm : (p0 :: pr).foldl mostP p0 = mm at *
    generalize hs : sumP (p0 :: pr) = ms at *
    generalize hTL : [ml, mm, ms, ((0, 1) : PI)] = TL at hall hT
    have hxl : [V.ref y1, .ref y2, .ref y3, .ref y4].length = 4 := rfl
    generalize [V.ref y1, .ref y2, .ref y3, .ref y4] = xs at hall l1 hxl
    refine ⟨_, rfl, L1, rfl, ⟨_, SqL.of l1⟩, fun D hD => ?_⟩
    refine lc_list (xs := xs) (fun i Hc => Same G5 Hc ∧ ∃ vs, Hc D = some (.lst vs) ∧ TPs Hc vs (TL.take i)) ⟨same_new hD, [], upd_same, A2.nil⟩ (fun i Hc _ p => SqL.of (p.1 _ _ l1)) ?_ ?_
    · rintro i v Hc hv ⟨sm, vs, hDc, ht⟩
      obtain ⟨z, hz, y, rfl, hy⟩ := (hall.same sm).2 i v hv
      refine ⟨rfl, _, rfl, y, z.1, z.2, rfl, hy, fun pq hpq => ?_⟩
      have hi : i < TL.length := (List.getElem?_eq_some_iff.mp hz).1
      have sn := same_new (o := .tup [.int z.1, .int z.2]) hpq
      refine ⟨vs, sn _ _ hDc, small1000 (by rw [ht.1, List.length_take]; have := hall.1; omega), same_grow hD (sm.trans sn), vs ++ [.ref pq], upd_same, ?_⟩
      rw [take_snoc hz]
      exact A2.snoc ((ht.same sn).updl (sn _ _ hDc)) ⟨pq, rfl, tup_updl upd_same (sn _ _ hDc)⟩
    rintro G6 ⟨sm, vs, hvs, tt⟩
    rw [take_all hall.1] at tt
    have tn : TL.length ≤ 8 := by rw [← hall.1, hxl]; decide
    replace rA := rA.same sm
    replace hx := sm _ _ hx
    replace hy := sm _ _ hy
    replace hz := sm _ _ hz
    obtain ⟨i1, i2, i3, i4⟩ := prs_ok tn hT
    refine ⟨D, prD TL, rfl, .lst (SqL.of hvs) tt.dp, i1, i2, i3, i4, ?_⟩
    refine ⟨_, rfl, _, rfl, _, rfl, small1000 (by show 1 ≤ 1000; decide), fun w0 hw0 => ?_⟩
    have sm := same_new (o := .tup [.int 0, .int 1]) hw0
    have hw : TA (upd G6 w0 (.tup [.int 0, .int 1])) w0 (0, 1) := upd_same
    replace rA := rA.same sm
    replace hx := sm _ _ hx
    replace hy := sm _ _ hy
    replace hz := sm _ _ hz
    generalize upd G6 w0 _ = G7 at *
    refine ⟨small1000 (by show 3 ≤ 1000; decide), fun L2 hL2 => ?_⟩
    have sm := same_new (o := .lst [.ref x, .ref y, .ref z, .ref w0]) hL2
    have t2 : TPs (upd G7 L2 (.lst [.ref x, .ref y, .ref z, .ref w0])) [.ref x, .ref y, .ref z, .ref w0] TL := by
      rw [← hTL]
      exact A2.cons ⟨x, rfl, sm _ _ hx⟩ (A2.cons ⟨y, rfl, sm _ _ hy⟩ (A2.cons ⟨z, rfl, sm _ _ hz⟩ (A2.cons ⟨w0, rfl, sm _ _ hw⟩ A2.nil)))
    refine ⟨L2, prD TL, rfl, .lst (SqL.of upd_same) t2.dp, i1, i2, i3, i4, rfl, ?_⟩
    show Q (.bl (decide (V.str _ = V.str _))) _
    rw [decide_eq_true rfl]
    exact q _ (rA.same sm)
end
end FR
set_option Elab.async false
set_option linter.all false
set_option maxRecDepth 100000
set_option maxHeartbeats 4000000
namespace FR
open PySem PySem.Spec PyProof.Rows L2 LD
def bott (v : V) : Prop := ∃ i : Int, v = .int i ∧ 1 ≤ i ∧ i.natAbs < 2 ^ 300
theorem bo_n : ∀ v ∈ ([] : List V), bott v := fun v h => nomatch h
theorem bo_c {i : Int} {xs : List V} (h : 1 ≤ i) (g : i.natAbs < 2 ^ 300) (r : ∀ v ∈ xs, bott v) : ∀ v ∈ V.int i :: xs, bott v := fun v hv => by
  rcases List.mem_cons.mp hv with e | e
  · exact ⟨i, e, h, g⟩
  · exact r v e
theorem pow9 : CPowW 10 9 := ⟨by decide, by decide +kernel⟩
theorem pow40 : CPowW 10 40 := ⟨by decide, by decide +kernel⟩
theorem rnd_short {x n : Int} (h : n ≠ 0) (hx : x.natAbs < 2 ^ 1000) (nz : n.natAbs < 2 ^ 300) : shortP (nT x n, nB x n) := ⟨Nat.lt_of_le_of_lt (nT_le h) hx, Nat.lt_of_le_of_lt (nB_le h) (pow_up nz (by decide))⟩
theorem at_val {f : V → Hp → Prop} {x y : V} {H : Hp} (e : x = y) (h : f y H) : f x H := by rw [e]; exact h
abbrev sRr : Stmt := FR.top 41
abbrev NRr : List Str := ["_law_dice_here", "_law_first", "_law_bottom", "_law_low", "_law_high", "_law_value", "_law_told_here"]
theorem scRr : FnScope NRr ["_law_dice_here", "_law_first"] (defScope sRr) := ⟨rfl, rfl, rfl, by decide +kernel, rfl, by decide +kernel, by decide +kernel⟩
def spRr : Sp := fun vs H Q _ => ∃ (d a : Addr) (p : PI), vs = [.ref d, .ref a] ∧ DiceAt H d ∧ TA H a p ∧ Wf p ∧ ∀ H', Rl d H H' → Q (.bl true) H'
section
variable {P : Program} {w : World} {K : PySem.W.Frag} {mg : Str → Option Value} {base : Heap} {C fI pT gT0 pB gB0 : Addr} {fdI fdT fdB : FuncData}
theorem ok_rr {f : Addr} {fd : FuncData} (F : Fun K "_law_rounded_right" "_law_rounded_right" sRr f fd) (k : FrK P w K mg base C fI pT gT0 pB gB0 fdI fdT fdB) (T : TxtM K mg C)
    (gO : Glo P w K mg base "_law_one_of" 2 ["_law_dice_here", "_law_items"] spOneOf) (gR : Glo P w K mg base "_law_roll" 1 ["_law_dice_here", "_law_total"] spRoll) (gRa : Glo P w K mg base "_law_ratio" 2 ["_law_top", "_law_bottom"] spRat) (gT : Glo P w K mg base "_law_told" 3 ["_law_thing"] (spTold C))
    (gD : Glo P w K mg base "rounded_down" 6 ["fraction", "bottom"] (spRnd C fDown)) (gU : Glo P w K mg base "rounded_up" 6 ["fraction", "bottom"] (spRnd C fUp)) : FnG P w K mg base CX0 7 f fd ["_law_dice_here", "_law_first"] spRr := by
  refine F.okG scRr (fun vs H Q E h => ?_) (fun cdv A outer s H vs Q E hr hgA h => ?_)
  · obtain ⟨d, a, p, rfl, _⟩ := h
    rfl
  · obtain ⟨d, a, p, rfl, hd, ha, wp, q⟩ := h
    have hgd : (A.deeper (envOfC "_law_rounded_right" (defScope sRr) s.heap.objs.size f cdv)).guards = some [] := guards_deeper hgA
    have hr1 := hr.mono (j := 1) (by decide)
    have hr2 := hr.mono (j := 2) (by decide)
    have hr3 := hr.mono (j := 3) (by decide)
    have hr6 := hr.mono (j := 6) (by decide)
    refine ⟨_, pss_cons (ps_set (i := 2) scRr.nd rfl (Or.inl rfl) (pe_call gO.G hr2 (by rfl) gO.m gO.k gO.b .nil pass0 (pa_cons (pv 0) (pa_cons (pe_lst (pa_cons pe_int (pa_cons pe_int (pa_cons pe_int (pa_cons pe_int (pa_cons pe_int (pa_cons pe_int (pa_cons (pe_op op_powW pe_int pe_int) (pa_cons (pe_op op_mulW pe_int (pe_ix ix_tup (pv 1) pe_int (fun _ _ => rfl))) (pa_cons (pe_ix ix_tup (pv 1) pe_int (fun _ _ => rfl)) (pa_cons (pe_op op_powW pe_int pe_int) pa_nil))))))))))) pa_nil))))
      (pss_cons (ps_set (i := 3) scRr.nd rfl (Or.inl rfl) (pe_op op_fdivX (pe_op op_mulW (pe_ix ix_tup (pv 1) pe_int (fun _ _ => rfl)) (pv 2)) (pe_ix ix_tup (pv 1) pe_int (fun _ _ => rfl))))
      (pss_cons (ps_set (i := 4) scRr.nd rfl (Or.inl rfl) (pe_ifExp (pt_cmpR op_eq (pe_op op_mulW (pv 3) (pe_ix ix_tup (pv 1) pe_int (fun _ _ => rfl))) (pe_op op_mulW (pe_ix ix_tup (pv 1) pe_int (fun _ _ => rfl)) (pv 2)) (nomark _)) (pv 3) (pe_op op_add (pv 3) pe_int)))
      (pss_cons (ps_set (i := 5) scRr.nd rfl (Or.inl rfl) (pe_ifExp (PW.pt (pw_and (pt_cmpR op_eq (pe_ix ix_tup (pv 1) pe_int (fun _ _ => rfl)) pe_int (nomark _)) (pw_and1 (pt_cmpR op_eq (pe_call gR.G hr1 (by rfl) gR.m gR.k gR.b .nil pass0 (pa_cons (pv 0) (pa_cons pe_int pa_nil))) pe_int (nomark _))))) (pe_ix ix_tup (pv 1) pe_int (fun _ _ => rfl)) (pe_make k.M k.GI hr3 (by rfl) k.T.mC k.b2 .nil pass0 (pa_cons (pe_ix ix_tup (pv 1) pe_int (fun _ _ => rfl)) (pa_cons (pe_ix ix_tup (pv 1) pe_int (fun _ _ => rfl)) pa_nil)))))
      (pss_cons (ps_set (i := 6) scRr.nd rfl (Or.inl rfl) (pe_lst (pa_cons (pe_call gT.G hr3 (by rfl) gT.m gT.k gT.b .nil pass0 (pa_cons (pe_call gD.G hr6 (by rfl) gD.m gD.k gD.b .nil pass0 (pa_cons (pv 5) (pa_cons (pv 2) pa_nil))) pa_nil)) (pa_cons (pe_call gT.G hr3 (by rfl) gT.m gT.k gT.b .nil pass0 (pa_cons (pe_call gU.G hr6 (by rfl) gU.m gU.k gU.b .nil pass0 (pa_cons (pv 5) (pa_cons (pv 2) pa_nil))) pa_nil)) pa_nil))))
      (pss_one (ps_ret (pe_cmpR op_eq (pe_callB (call_repr hgd hr.units) (by rfl) T.re boot_repr (pa_cons (pv 6) pa_nil)) (pe_callB (call_repr hgd hr.units) (by rfl) T.re boot_repr (pa_cons (pe_lst (pa_cons (pe_call gRa.G hr2 (by rfl) gRa.m gRa.k gRa.b .nil pass0 (pa_cons (pv 3) (pa_cons (pv 2) pa_nil))) (pa_cons (pe_call gRa.G hr2 (by rfl) gRa.m gRa.k gRa.b .nil pass0 (pa_cons (pv 4) (pa_cons (pv 2) pa_nil))) pa_nil))) pa_nil)) (nomark _)))))))), ?_⟩
    have b2 : (2 : Int).natAbs < 2 ^ 3 := by decide
    refine ⟨_, rfl, _, _, rfl, rfl, pow9, _, rfl, a, _, _, _, rfl, rfl, SqT.of ha, rfl, _, _, rfl, rfl, wide_mul b2 wp.bz (by decide) (by decide) (by decide), _, rfl, a, _, _, _, rfl, rfl, SqT.of ha, rfl, _, _, rfl, rfl, pow40, small1000 (by show 9 ≤ 1000; decide), fun li hli => ?_⟩
    have sm := same_new (o := .lst [V.int 1, .int 2, .int 3, .int 4, .int 7, .int 64, .int ((10 : Int) ^ (9 : Int).toNat), .int (2 * p.2), .int p.2, .int ((10 : Int) ^ (40 : Int).toNat)]) hli
    have r1 := (Rl.refl hd).same sm
    have hl1 : upd H li (.lst [V.int 1, .int 2, .int 3, .int 4, .int 7, .int 64, .int ((10 : Int) ^ (9 : Int).toNat), .int (2 * p.2), .int p.2, .int ((10 : Int) ^ (40 : Int).toNat)]) li = some (.lst [V.int 1, .int 2, .int 3, .int 4, .int 7, .int 64, .int ((10 : Int) ^ (9 : Int).toNat), .int (2 * p.2), .int p.2, .int ((10 : Int) ^ (40 : Int).toNat)]) := upd_same
    have hit : ∀ v ∈ [V.int 1, .int 2, .int 3, .int 4, .int 7, .int 64, .int ((10 : Int) ^ (9 : Int).toNat), .int (2 * p.2), .int p.2, .int ((10 : Int) ^ (40 : Int).toNat)], bott v := by
      have bp := wp.lf.1
      have z1 := pow_up wp.bz (m := 300) (by decide)
      have z2 : (2 * p.2).natAbs < 2 ^ 300 := pow_up (wide_lt b2 wp.bz) (by decide)
      exact bo_c (by decide) (by decide +kernel) (bo_c (by decide) (by decide +kernel) (bo_c (by decide) (by decide +kernel) (bo_c (by decide) (by decide +kernel) (bo_c (by decide) (by decide +kernel) (bo_c (by decide) (by decide +kernel) (bo_c (by decide +kernel) (by decide +kernel) (bo_c (by omega) z2 (bo_c (by omega) z1 (bo_c (by decide +kernel) (by decide +kernel) bo_n)))))))))
    have hlen : [V.int 1, .int 2, .int 3, .int 4, .int 7, .int 64, .int ((10 : Int) ^ (9 : Int).toNat), .int (2 * p.2), .int p.2, .int ((10 : Int) ^ (40 : Int).toNat)].length = 10 := rfl
    have lin : li ≠ d := dice_new hd hli
    generalize [V.int 1, .int 2, .int 3, .int 4, .int 7, .int 64, .int ((10 : Int) ^ (9 : Int).toNat), .int (2 * p.2), .int p.2, .int ((10 : Int) ^ (40 : Int).toNat)] = items at *
    have ha := sm _ _ ha
    generalize upd H li _ = H1 at *
    refine ⟨d, li, _, rfl, r1.1, hl1, lin, by rw [hlen]; decide, by rw [hlen]; decide, fun k0 x a1 a2 a3 hx => ?_⟩
    obtain ⟨n, rfl, n1, nz⟩ := hit x (List.mem_of_getElem? hx)
    have ha := ((Rl.refl r1.1).roll (a := a1) (b := a2) (c := a3)).tup r1.1 ha
    have r2 := r1.roll (a := a1) (b := a2) (c := a3)
    generalize upd H1 d _ = H2 at *
    clear hit hlen hl1 hx sm
    have mt : CMulW p.1 n := wide_mul wp.tz nz (by decide) (by decide) (by decide)
    have tn : (p.1 * n).natAbs < 2 ^ 540 := wide_lt wp.tz nz
    have ln : (fDown p.1 p.2 n).natAbs < 2 ^ 540 := Nat.lt_of_le_of_lt (PySem.natAbs_fdiv_le _ _) tn
    refine ⟨_, rfl, a, _, _, _, rfl, rfl, SqT.of ha, rfl, _, rfl, _, _, rfl, rfl, mt, _, rfl, a, _, _, _, rfl, rfl, SqT.of ha, rfl, _, _, rfl, rfl, div_ok wp.lf.ne wp.bz (by decide) (by decide), ?_⟩
    have elw : (p.1 * n).fdiv p.2 = fDown p.1 p.2 n := rfl
    dsimp only
    rw [elw]
    have hn : (fUp p.1 p.2 n).natAbs < 2 ^ 541 := by
      unfold fUp
      have e : (2 : Nat) ^ 540 + 1 ≤ 2 ^ 541 := by decide +kernel
      split <;> omega
    have hup : fUp p.1 p.2 n = if fDown p.1 p.2 n * p.2 = p.1 * n then fDown p.1 p.2 n else fDown p.1 p.2 n + 1 := rfl
    generalize hlw : fDown p.1 p.2 n = lw at *
    generalize hhi : fUp p.1 p.2 n = hi at *
    refine ⟨_, rfl, _, rfl, a, _, _, _, rfl, rfl, SqT.of ha, rfl, _, _, rfl, rfl, wide_mul ln wp.bz (by decide) (by decide) (by decide), _, rfl, a, _, _, _, rfl, rfl, SqT.of ha, rfl, _, rfl, _, _, rfl, rfl, mt, rfl, _, rfl, ?_⟩
    rw [dec_int]
    refine (fun (R : (?T : Prop)) => ite2 (fun z => ?a) (fun z => ?b)) ?R
    case b =>
      have e : lw + 1 = hi := by rw [hup, if_neg fun c => z (decide_eq_true c)]
      refine ⟨_, rfl, _, _, rfl, rfl, ?_⟩
      dsimp only
      rw [e]
      exact R
    case a =>
      have e : hi = lw := by rw [hup, if_pos (of_decide_eq_true z)]
      refine ⟨_, rfl, ?_⟩
      rw [e] at R
      exact R
    case R =>
      have n0 : 0 < n := by omega
      have n8 : n.natAbs < 2 ^ 8000 := pow_up nz (by decide)
      have rn : Rn p.1 p.2 n := ⟨wp.lf, wp.tz, wp.bz, n1, nz⟩
      have hT : ∀ z ∈ [((nT lw n, nB lw n) : PI), (nT hi n, nB hi n)], shortP z := all_c (rnd_short (by omega) (pow_up ln (by decide)) nz) (all_c (rnd_short (by omega) (pow_up hn (by decide)) nz) all_n)
      refine ⟨_, rfl, a, _, _, _, rfl, rfl, SqT.of ha, rfl, rfl, _, rfl, ?_⟩
      refine ite2 (fun c1 => ?_) (fun c1 => ?_)
      · refine ⟨_, rfl, d, 2, rfl, r2.1, by decide, by decide, fun rr b1 b2 b3 _ _ => ?_⟩
        have ha := ((Rl.refl r2.1).roll (a := b1) (b := b2) (c := b3)).tup r2.1 ha
        have r3 := r2.roll (a := b1) (b := b2) (c := b3)
        generalize upd H2 d _ = H3 at *
        refine ⟨rfl, _, rfl, ite2 (fun c2 => ?_) (fun c2 => ?_)⟩
        · have bb : p.2 = 1 := V.int.inj (of_decide_eq_true c1)
          refine ⟨_, rfl, a, _, _, _, rfl, rfl, SqT.of ha, rfl, ?_⟩
          refine ⟨_, rfl, _, rfl, (.int p.1), p.1, p.2, n, rfl, (Or.inr ⟨rfl, bb⟩), rn, fun x1 G1 f1 s1 => ?_⟩
          rw [hlw] at f1
          refine ⟨x1, _, _, rfl, f1, fun u1 hu1 => ?_⟩
          have s2 := s1.trans (same_new (o := .tup [.int (nT lw n), .int (nB lw n)]) hu1)
          refine ⟨_, rfl, _, rfl, (.int p.1), p.1, p.2, n, rfl, FV.same (H := H3) (t := p.1) (b := p.2) (Or.inr ⟨rfl, bb⟩) s2, rn, fun x2 G2 f2 s3 => ?_⟩
          rw [hhi] at f2
          refine ⟨x2, _, _, rfl, f2, fun u2 hu2 => ?_⟩
          have s4 := s3.trans (same_new (o := .tup [.int (nT hi n), .int (nB hi n)]) hu2)
          refine ⟨small1000 (by show 1 ≤ 1000; decide), fun L1 hL1 => ?_⟩
          have s5 := same_new (o := .lst [.ref u1, .ref u2]) hL1
          have t1 : TPs _ [.ref u1, .ref u2] [((nT lw n, nB lw n) : PI), (nT hi n, nB hi n)] := A2.cons ⟨u1, rfl, (s4.trans s5) _ _ upd_same⟩ (A2.cons ⟨u2, rfl, s5 _ _ upd_same⟩ A2.nil)
          have rA := (r3).same ((s2.trans s4).trans s5)
          obtain ⟨i1, i2, i3, i4⟩ := prs_ok (ps := [((nT lw n, nB lw n) : PI), (nT hi n, nB hi n)]) (Nat.le_of_ble_eq_true rfl) hT
          refine ⟨_, rfl, L1, prD [((nT lw n, nB lw n) : PI), (nT hi n, nB hi n)], rfl, .lst (SqL.of upd_same) t1.dp, i1, i2, i3, i4, ?_⟩
          refine ⟨_, rfl, _, rfl, lw, n, rfl, n0, n8, fun w1 hw1 => ?_⟩
          refine ⟨_, rfl, _, rfl, hi, n, rfl, n0, n8, fun w2 hw2 => ?_⟩
          refine ⟨small1000 (by show 1 ≤ 1000; decide), fun L2 hL2 => ?_⟩
          have s6 := same_new (o := .tup [.int (nT lw n), .int (nB lw n)]) hw1
          have s7 := same_new (o := .tup [.int (nT hi n), .int (nB hi n)]) hw2
          have s8 := same_new (o := .lst [.ref w1, .ref w2]) hL2
          have t2 : TPs _ [.ref w1, .ref w2] [((nT lw n, nB lw n) : PI), (nT hi n, nB hi n)] := A2.cons ⟨w1, rfl, (s7.trans s8) _ _ upd_same⟩ (A2.cons ⟨w2, rfl, s8 _ _ upd_same⟩ A2.nil)
          refine ⟨L2, prD [((nT lw n, nB lw n) : PI), (nT hi n, nB hi n)], rfl, .lst (SqL.of upd_same) t2.dp, i1, i2, i3, i4, rfl, ?_⟩
          show Q (.bl (decide (V.str _ = V.str _))) _
          rw [decide_eq_true rfl]
          exact q _ (rA.same ((s6.trans s7).trans s8))
        · refine ⟨_, rfl, a, _, _, _, rfl, rfl, SqT.of ha, rfl, _, rfl, a, _, _, _, rfl, rfl, SqT.of ha, rfl, fun fq df nf1 nd1 ne1 => ⟨fq, df, _, _, rfl, upd_same, wp.lf.ne, dv8 wp.lf.ne wp.b8, fun He hf hs => ⟨rfl, ?_⟩⟩⟩
          have sf := same_make (C := C) nf1 nd1 hs
          rw [wp.lf.nT, wp.lf.nB] at hf
          refine ⟨_, rfl, _, rfl, (.ref fq), p.1, p.2, n, rfl, (Or.inl ⟨fq, rfl, hf⟩), rn, fun x1 G1 f1 s1 => ?_⟩
          rw [hlw] at f1
          refine ⟨x1, _, _, rfl, f1, fun u1 hu1 => ?_⟩
          have s2 := s1.trans (same_new (o := .tup [.int (nT lw n), .int (nB lw n)]) hu1)
          refine ⟨_, rfl, _, rfl, (.ref fq), p.1, p.2, n, rfl, FV.same (H := He) (t := p.1) (b := p.2) (Or.inl ⟨fq, rfl, hf⟩) s2, rn, fun x2 G2 f2 s3 => ?_⟩
          rw [hhi] at f2
          refine ⟨x2, _, _, rfl, f2, fun u2 hu2 => ?_⟩
          have s4 := s3.trans (same_new (o := .tup [.int (nT hi n), .int (nB hi n)]) hu2)
          refine ⟨small1000 (by show 1 ≤ 1000; decide), fun L1 hL1 => ?_⟩
          have s5 := same_new (o := .lst [.ref u1, .ref u2]) hL1
          have t1 : TPs _ [.ref u1, .ref u2] [((nT lw n, nB lw n) : PI), (nT hi n, nB hi n)] := A2.cons ⟨u1, rfl, (s4.trans s5) _ _ upd_same⟩ (A2.cons ⟨u2, rfl, s5 _ _ upd_same⟩ A2.nil)
          have rA := (r3.same sf).same ((s2.trans s4).trans s5)
          obtain ⟨i1, i2, i3, i4⟩ := prs_ok (ps := [((nT lw n, nB lw n) : PI), (nT hi n, nB hi n)]) (Nat.le_of_ble_eq_true rfl) hT
          refine ⟨_, rfl, L1, prD [((nT lw n, nB lw n) : PI), (nT hi n, nB hi n)], rfl, .lst (SqL.of upd_same) t1.dp, i1, i2, i3, i4, ?_⟩
          refine ⟨_, rfl, _, rfl, lw, n, rfl, n0, n8, fun w1 hw1 => ?_⟩
          refine ⟨_, rfl, _, rfl, hi, n, rfl, n0, n8, fun w2 hw2 => ?_⟩
          refine ⟨small1000 (by show 1 ≤ 1000; decide), fun L2 hL2 => ?_⟩
          have s6 := same_new (o := .tup [.int (nT lw n), .int (nB lw n)]) hw1
          have s7 := same_new (o := .tup [.int (nT hi n), .int (nB hi n)]) hw2
          have s8 := same_new (o := .lst [.ref w1, .ref w2]) hL2
          have t2 : TPs _ [.ref w1, .ref w2] [((nT lw n, nB lw n) : PI), (nT hi n, nB hi n)] := A2.cons ⟨w1, rfl, (s7.trans s8) _ _ upd_same⟩ (A2.cons ⟨w2, rfl, s8 _ _ upd_same⟩ A2.nil)
          refine ⟨L2, prD [((nT lw n, nB lw n) : PI), (nT hi n, nB hi n)], rfl, .lst (SqL.of upd_same) t2.dp, i1, i2, i3, i4, rfl, ?_⟩
          show Q (.bl (decide (V.str _ = V.str _))) _
          rw [decide_eq_true rfl]
          exact q _ (rA.same ((s6.trans s7).trans s8))
      · refine ⟨_, rfl, a, _, _, _, rfl, rfl, SqT.of ha, rfl, _, rfl, a, _, _, _, rfl, rfl, SqT.of ha, rfl, fun fq df nf1 nd1 ne1 => ⟨fq, df, _, _, rfl, upd_same, wp.lf.ne, dv8 wp.lf.ne wp.b8, fun He hf hs => ⟨rfl, ?_⟩⟩⟩
        have sf := same_make (C := C) nf1 nd1 hs
        rw [wp.lf.nT, wp.lf.nB] at hf
        refine ⟨_, rfl, _, rfl, (.ref fq), p.1, p.2, n, rfl, (Or.inl ⟨fq, rfl, hf⟩), rn, fun x1 G1 f1 s1 => ?_⟩
        rw [hlw] at f1
        refine ⟨x1, _, _, rfl, f1, fun u1 hu1 => ?_⟩
        have s2 := s1.trans (same_new (o := .tup [.int (nT lw n), .int (nB lw n)]) hu1)
        refine ⟨_, rfl, _, rfl, (.ref fq), p.1, p.2, n, rfl, FV.same (H := He) (t := p.1) (b := p.2) (Or.inl ⟨fq, rfl, hf⟩) s2, rn, fun x2 G2 f2 s3 => ?_⟩
        rw [hhi] at f2
        refine ⟨x2, _, _, rfl, f2, fun u2 hu2 => ?_⟩
        have s4 := s3.trans (same_new (o := .tup [.int (nT hi n), .int (nB hi n)]) hu2)
        refine ⟨small1000 (by show 1 ≤ 1000; decide), fun L1 hL1 => ?_⟩
        have s5 := same_new (o := .lst [.ref u1, .ref u2]) hL1
        have t1 : TPs _ [.ref u1, .ref u2] [((nT lw n, nB lw n) : PI), (nT hi n, nB hi n)] := A2.cons ⟨u1, rfl, (s4.trans s5) _ _ upd_same⟩ (A2.cons ⟨u2, rfl, s5 _ _ upd_same⟩ A2.nil)
        have rA := (r2.same sf).same ((s2.trans s4).trans s5)
        obtain ⟨i1, i2, i3, i4⟩ := prs_ok (ps := [((nT lw n, nB lw n) : PI), (nT hi n, nB hi n)]) (Nat.le_of_ble_eq_true rfl) hT
        refine ⟨_, rfl, L1, prD [((nT lw n, nB lw n) : PI), (nT hi n, nB hi n)], rfl, .lst (SqL.of upd_same) t1.dp, i1, i2, i3, i4, ?_⟩
        refine ⟨_, rfl, _, rfl, lw, n, rfl, n0, n8, fun w1 hw1 => ?_⟩
        refine ⟨_, rfl, _, rfl, hi, n, rfl, n0, n8, fun w2 hw2 => ?_⟩
        refine ⟨small1000 (by show 1 ≤ 1000; decide), fun L2 hL2 => ?_⟩
        have s6 := same_new (o := .tup [.int (nT lw n), .int (nB lw n)]) hw1
        have s7 := same_new (o := .tup [.int (nT hi n), .int (nB hi n)]) hw2
        have s8 := same_new (o := .lst [.ref w1, .ref w2]) hL2
        have t2 : TPs _ [.ref w1, .ref w2] [((nT lw n, nB lw n) : PI), (nT hi n, nB hi n)] := A2.cons ⟨w1, rfl, (s7.trans s8) _ _ upd_same⟩ (A2.cons ⟨w2, rfl, s8 _ _ upd_same⟩ A2.nil)
        refine ⟨L2, prD [((nT lw n, nB lw n) : PI), (nT hi n, nB hi n)], rfl, .lst (SqL.of upd_same) t2.dp, i1, i2, i3, i4, rfl, ?_⟩
        show Q (.bl (decide (V.str _ = V.str _))) _
        rw [decide_eq_true rfl]
        exact q _ (rA.same ((s6.trans s7).trans s8))
end
end FR
set_option Elab.async false
set_option linter.all false
set_option maxRecDepth 100000
set_option maxHeartbeats 4000000
namespace FR
open PySem PySem.Spec PyProof.Rows L2 LD
/-- a def whose promise knows that no repr is running -/
structure GloG (P : Program) (w : World) (K : PySem.W.Frag) (mg : Str → Option Value) (base : Heap) (nm : Str) (n : Nat) (ps : List Str) (sp : Sp) where
  f : Addr
  fd : FuncData
  G : FnG P w K mg base CX0 n f fd ps sp
  m : mg nm = some (.ref f)
  k : PySem.W.keepIn K (.ref f) = true
  b : Binds K fd ps []
theorem at_one {α : Type} (x y : α) (xs : List α) : atI (x :: y :: xs) 1 = some y := by
  unfold atI ixN
  rw [if_pos (by decide), if_pos (by rw [List.length_cons, List.length_cons]; omega)]
  rfl
theorem lf_pow {t b : Int} (h : Lf t b) (n : Nat) : Lf (t ^ n) (b ^ n) := by
  refine ⟨Int.pow_pos h.1, ?_⟩
  rw [Int.natAbs_pow, Int.natAbs_pow]
  exact Nat.Coprime.pow n n h.2
def expo (v : V) : Prop := ∃ n : Nat, v = .int n ∧ n ≤ 64
theorem ex_n : ∀ v ∈ ([] : List V), expo v := fun v h => nomatch h
theorem ex_c {i : Nat} {xs : List V} (h : i ≤ 64) (r : ∀ v ∈ xs, expo v) : ∀ v ∈ V.int (i : Int) :: xs, expo v := fun v hv => by
  rcases List.mem_cons.mp hv with e | e
  · exact ⟨i, e, h⟩
  · exact r v e
theorem wf_n {t b : Int} (h : b ≠ 0) (ht : t.natAbs < 2 ^ 240) (hb : b.natAbs < 2 ^ 240) : Wf (nT t b, nB t b) := ⟨lf_n h, Nat.lt_of_le_of_lt (nT_le h) ht, Nat.lt_of_le_of_lt (nB_le h) hb⟩
abbrev sRig : Stmt := FR.top 42
abbrev NG : List Str := ["_law_dice_here", "_law_pairs", "_law_turn", "_law_top", "_law_bottom", "_law_first", "_law_many"]
theorem scG : FnScope NG ["_law_dice_here"] (defScope sRig) := ⟨rfl, rfl, rfl, by decide +kernel, rfl, by decide +kernel, by decide +kernel⟩
def spRig : Sp := fun vs H Q _ => ∃ d, vs = [.ref d] ∧ DiceAt H d ∧ ∀ H', Rl d H H' → Q (.bl true) H'
section
variable {P : Program} {w : World} {K : PySem.W.Frag} {mg : Str → Option Value} {base : Heap} {C fI pT gT0 pB gB0 : Addr} {fdI fdT fdB : FuncData}
theorem ok_rig {f : Addr} {fd : FuncData} (F : Fun K "_law_right" "_law_right" sRig f fd) (k : FrK P w K mg base C fI pT gT0 pB gB0 fdI fdT fdB) (T : TxtM K mg C)
    (gC : Glo P w K mg base "_law_couple" 4 ["_law_dice_here"] spCou) (gPa : Glo P w K mg base "_law_pair" 3 ["_law_top", "_law_bottom"] spPair) (gO : Glo P w K mg base "_law_one_of" 2 ["_law_dice_here", "_law_items"] spOneOf) (gR : Glo P w K mg base "_law_roll" 1 ["_law_dice_here", "_law_total"] spRoll)
    (gT : Glo P w K mg base "_law_told" 3 ["_law_thing"] (spTold C)) (gPw : Glo P w K mg base "_law_power" 1 ["_law_pair_here", "_law_many"] spLpw) (gI : Glo P w K mg base "_law_integer" 3 ["_law_dice_here"] spInt) (mPow : Met P w K mg base C "power" 4 ["self", "many"] (spPow C))
    (g2 : GloG P w K mg base "_law_two_right" 7 ["_law_first", "_law_second"] spTwo) (gX : GloG P w K mg base "_law_mixed_right" 7 ["_law_first", "_law_number"] spMix) (gTu : GloG P w K mg base "_law_tuple_right" 7 ["_law_dice_here", "_law_pairs"] spTup)
    (gRr : GloG P w K mg base "_law_rounded_right" 7 ["_law_dice_here", "_law_first"] spRr) : FnG P w K mg base CX0 8 f fd ["_law_dice_here"] spRig := by
  refine F.okG scG (fun vs H Q E h => ?_) (fun cdv A outer s H vs Q E hr hgA h => ?_)
  · obtain ⟨d, rfl, _⟩ := h
    rfl
  · obtain ⟨d, rfl, hd, q⟩ := h
    have hgd : (A.deeper (envOfC "_law_right" (defScope sRig) s.heap.objs.size f cdv)).guards = some [] := guards_deeper hgA
    have hr1 := hr.mono (j := 1) (by decide)
    have hr2 := hr.mono (j := 2) (by decide)
    have hr3 := hr.mono (j := 3) (by decide)
    have hr4 := hr.mono (j := 4) (by decide)
    refine ⟨_, pss_cons (ps_set (i := 1) scG.nd rfl (Or.inl rfl) (pe_lst pa_nil))
      (pss_cons (ps_for PassesOwn.never rfl (pi_range1 (by rfl) T.ra (pa_cons (pe_op op_add pe_int (pe_call gR.G hr1 (by rfl) gR.m gR.k gR.b .nil pass0 (pa_cons (pv 0) (pa_cons pe_int pa_nil)))) pa_nil)) (pg_name (i := 2) scG.nd rfl (.inl rfl)) (pss_cons (ps_asg (pe_call gC.G hr4 (by rfl) gC.m gC.k gC.b .nil pass0 (pa_cons (pv 0) pa_nil)) (pg_tup (by rfl) (pgs_cons (pg_name (i := 3) scG.nd rfl (.inl rfl)) (pgs_cons (pg_name (i := 4) scG.nd rfl (.inl rfl)) pgs_nil)))) (pss_one (ps_expr (pe_bm PySem.F.plainAttrs_list PySem.F.slot_list_append PySem.F.type_list_append mt_append (pv 1) (pa_cons (pe_call gPa.G hr3 (by rfl) gPa.m gPa.k gPa.b .nil pass0 (pa_cons (pv 3) (pa_cons (pv 4) pa_nil))) pa_nil))))))
      (pss_cons (ps_par (i := 5) (j := 6) (by rfl) scG.nd rfl rfl (by decide) rfl rfl (pa_cons (pe_ix ix_list (pv 1) pe_int (fun _ _ => rfl)) (pa_cons (pe_call gO.G hr2 (by rfl) gO.m gO.k gO.b .nil pass0 (pa_cons (pv 0) (pa_cons (pe_lst (pa_cons pe_int (pa_cons pe_int (pa_cons pe_int (pa_cons pe_int (pa_cons pe_int (pa_cons pe_int pa_nil))))))) pa_nil))) pa_nil)) (by rfl))
      (pss_cons (ps_if (pt_cmpR (op_neD hr.units) (pe_call gT.G hr3 (by rfl) gT.m gT.k gT.b .nil pass0 (pa_cons (pe_meth (pe_make k.M k.GI hr3 (by rfl) k.T.mC k.b2 .nil pass0 (pa_cons (pe_ix ix_tup (pv 5) pe_int (fun _ _ => rfl)) (pa_cons (pe_ix ix_tup (pv 5) pe_int (fun _ _ => rfl)) pa_nil))) k.T.cl ⟨mPow.D.at_, mPow.D.fn, mPow.kp⟩ mPow.G hr4 mPow.b .nil pass0 (pa_cons (pv 6) pa_nil)) pa_nil)) (pe_call gPw.G hr1 (by rfl) gPw.m gPw.k gPw.b .nil pass0 (pa_cons (pv 5) (pa_cons (pv 6) pa_nil))) (nomark _)) (pss_one (ps_ret pe_bl)) pss_nil)
      (pss_cons (ps_if (PW.pt (pw_or (pt_not (pt_val (pe_callG g2.G hr hgd (by rfl) g2.m g2.k g2.b .nil pass0 (pa_cons (pv 5) (pa_cons (pe_ix ix_list (pv 1) pe_int (fun _ _ => rfl)) pa_nil))))) (pw_or1 (pt_not (pt_val (pe_callG g2.G hr hgd (by rfl) g2.m g2.k g2.b .nil pass0 (pa_cons (pv 5) (pa_cons (pv 5) pa_nil)))))))) (pss_one (ps_ret pe_bl)) pss_nil)
      (pss_cons (ps_if (PW.pt (pw_or (pt_not (pt_val (pe_callG gX.G hr hgd (by rfl) gX.m gX.k gX.b .nil pass0 (pa_cons (pv 5) (pa_cons (pe_call gI.G hr3 (by rfl) gI.m gI.k gI.b .nil pass0 (pa_cons (pv 0) pa_nil)) pa_nil))))) (pw_or1 (pt_not (pt_val (pe_callG gTu.G hr hgd (by rfl) gTu.m gTu.k gTu.b .nil pass0 (pa_cons (pv 0) (pa_cons (pv 1) pa_nil)))))))) (pss_one (ps_ret pe_bl)) pss_nil)
      (pss_one (ps_ret (pe_callG gRr.G hr hgd (by rfl) gRr.m gRr.k gRr.b .nil pass0 (pa_cons (pv 0) (pa_cons (pv 5) pa_nil)))))))))), ?_⟩
    refine ⟨Nat.zero_le _, fun pl hpl => ?_⟩
    have pne : pl ≠ d := dice_new hd hpl
    have r0 : Rl d H (upd H pl (.lst [])) := (Rl.refl hd).new hpl
    have l0 : upd H pl (.lst []) pl = some (.lst []) := upd_same
    generalize upd H pl _ = H0 at *
    refine ⟨_, rfl, d, 3, rfl, r0.1, by decide, by decide, fun m a1 a2 a3 m0 m1 => ?_⟩
    have l1 : upd H0 d (.lst (dxs a1 a2 a3)) pl = some (.lst []) := by rw [upd_ne pne]; exact l0
    have r1 := r0.roll (a := a1) (b := a2) (c := a3)
    generalize upd H0 d _ = H1 at *
    refine ⟨_, _, rfl, rfl, _, rfl, by omega, by omega, ?_⟩
    refine for_range (n := (2 + m).toNat) (fun i σ Hc => Rl d H Hc ∧ ∃ (x2 x3 x4 : Option V) (ws : List V) (ps : List PI), σ = [some (.ref d), some (.ref pl), x2, x3, x4, none, none] ∧ Hc pl = some (.lst ws) ∧ TPs Hc ws ps ∧ ps.length = i ∧ ∀ p ∈ ps, Wf p)
      ⟨r1, none, none, none, [], [], rfl, l1, A2.nil, rfl, all_n⟩ ?_ ?_
    · rintro i σ Hc hi ⟨rl, x2, x3, x4, ws, ps, rfl, hpc, tps, hlen, wf⟩
      refine ⟨_, rfl, d, rfl, rl.1, fun t b c1 Hd ht hb hb0 r2 hc1 => ?_⟩
      have rl2 := rl.trans r2
      have hpc2 : Hd pl = some (.lst ws) := r2.2 _ _ pne hpc
      have tps2 := r2.tps rl.1 tps
      have sm := same_new (o := .tup [.int t, .int b]) hc1
      have hct : upd Hd c1 (.tup [.int t, .int b]) c1 = some (.tup [.int t, .int b]) := upd_same
      generalize upd Hd c1 _ = He at *
      refine ⟨c1, _, rfl, SqT.of hct, rfl, _, _, rfl, _, _, rfl, rfl, ?_⟩
      have rl3 := rl2.same sm
      have hpc3 := sm _ _ hpc2
      have tps3 := tps2.same sm
      refine ⟨_, rfl, .inl ⟨rfl, _, SqL.of hpc3⟩, ?_⟩
      refine ⟨_, rfl, _, rfl, t, b, rfl, hb0, pow_up hb (by decide), fun e1 he1 => ?_⟩
      have sn := same_new (o := .tup [.int (nT t b), .int (nB t b)]) he1
      have het : TA (upd He e1 (.tup [.int (nT t b), .int (nB t b)])) e1 (nT t b, nB t b) := upd_same
      have rl4 := rl3.same sn
      have hpc4 := sn _ _ hpc3
      have tps4 := tps3.same sn
      generalize upd He e1 _ = Hf at *
      have w5 : ws.length < 1000 := by
        have := tps.1
        have : (2 + m).toNat < 10 := by omega
        omega
      refine ⟨pl, ws, _, rfl, rfl, hpc4, small1000' w5, rl4.put hpl pne, _, _, _, ws ++ [.ref e1], ps ++ [(nT t b, nB t b)], rfl, upd_same, ?_, by rw [List.length_append, hlen]; rfl, ?_⟩
      · exact A2.snoc (tps4.updl hpc4) ⟨e1, rfl, tup_updl het hpc4⟩
      · intro p hp
        rcases List.mem_append.mp hp with h | h
        · exact wf p h
        · rw [List.mem_singleton.mp h]
          exact wf_n hb0 ht hb
    rintro σ H2 ⟨rA, x2, x3, x4, ws, ps, rfl, hpc, tps, hlen, wf⟩
    have l4 : ps.length ≤ 4 := by omega
    have l2 : 2 ≤ ps.length := by omega
    clear hlen
    match ps, ws, tps, l2 with
    | [], _, _, l2 => exact absurd l2 (by decide)
    | [_], _, _, l2 => exact absurd l2 (by simp)
    | _ :: _ :: _, [], tps, _ => exact absurd tps.1 (by simp)
    | _ :: _ :: _, [_], tps, _ => exact absurd tps.1 (by simp)
    | p0 :: p1 :: pr, v0 :: v1 :: vr, tps, _ =>
    obtain ⟨x0, e0, h0⟩ := tps.uncons.1
    obtain ⟨x1, e1, h1⟩ := tps.uncons.2.uncons.1
    subst e0 e1
    have w0 : Wf p0 := wf p0 List.mem_cons_self
    have w1 : Wf p1 := wf p1 (List.mem_cons_of_mem _ List.mem_cons_self)
    refine ⟨_, rfl, pl, _, 0, _, rfl, rfl, SqL.of hpc, at_zero _ _, _, rfl, small1000 (by show 5 ≤ 1000; decide), fun li hli => ?_⟩
    have lin : li ≠ d := dice_new rA.1 hli
    have hli1 : upd H2 li (.lst [.int 0, .int 1, .int 2, .int 3, .int 5, .int 64]) li = some (.lst [.int 0, .int 1, .int 2, .int 3, .int 5, .int 64]) := upd_same
    have sm := same_new (o := .lst [.int 0, .int 1, .int 2, .int 3, .int 5, .int 64]) hli
    have rA := rA.same sm
    have hpc := sm _ _ hpc
    have tps := tps.same sm
    generalize upd H2 li _ = H3 at *
    refine ⟨d, li, _, rfl, rA.1, hli1, lin, by show 0 < 6; decide, by show 6 < 1000; decide, fun k0 v a1 b1 c1 hv => ?_⟩
    obtain ⟨n, rfl, hn⟩ : expo v := ex_c (i := 0) (by decide) (ex_c (i := 1) (by decide) (ex_c (i := 2) (by decide) (ex_c (i := 3) (by decide) (ex_c (i := 5) (by decide) (ex_c (i := 64) (by decide) ex_n))))) v (List.mem_of_getElem? hv)
    have ro := (Rl.refl rA.1).roll (a := a1) (b := b1) (c := c1)
    have tps := ro.tps rA.1 tps
    have hpc := ro.2 _ _ pne hpc
    have rA := rA.roll (a := a1) (b := b1) (c := c1)
    generalize upd H3 d _ = H4 at *
    obtain ⟨_, e0, h0⟩ := tps.uncons.1
    cases e0
    obtain ⟨_, e1, h1⟩ := tps.uncons.2.uncons.1
    cases e1
    refine ⟨_, _, rfl, ?_⟩
    refine ⟨_, rfl, x0, _, _, _, rfl, rfl, SqT.of h0, rfl, _, rfl, x0, _, _, _, rfl, rfl, SqT.of h0, rfl, fun y dy ny nd ne => ⟨y, dy, _, _, rfl, upd_same, w0.lf.ne, dv8 w0.lf.ne w0.b8, fun H5 hy hs => ⟨rfl, ?_⟩⟩⟩
    have s5 := same_make (C := C) ny nd hs
    rw [w0.lf.nT, w0.lf.nB] at hy
    obtain ⟨dz, hyi⟩ := id hy
    have lp := lf_pow w0.lf n
    have dv1 : (dv (p0.1 ^ n) (p0.2 ^ n)).natAbs < 2 ^ 8000 := by
      rw [lp.dv1]
      decide +kernel
    refine ⟨y, dz, _, rfl, hyi, fl_no _ _ (by decide) (by decide), _, rfl, y, n, p0.1, p0.2, rfl, hn, hy, w0.lf.ne, pow_up w0.tz (by decide), pow_up w0.bz (by decide), dv1, fun z1 H6 f6 s6 _ => ?_⟩
    rw [lp.nT, lp.nB] at f6
    refine ⟨z1, _, _, rfl, f6, fun u1 hu1 => ?_⟩
    have s7 := same_new (o := .tup [.int (p0.1 ^ n), .int (p0.2 ^ n)]) hu1
    have tu : TA (upd H6 u1 (.tup [.int (p0.1 ^ n), .int (p0.2 ^ n)])) u1 (p0.1 ^ n, p0.2 ^ n) := upd_same
    have sm := (s5.trans s6).trans s7
    have rA := rA.same sm
    have hpc := sm _ _ hpc
    have tps := tps.same sm
    have h0 := sm _ _ h0
    have h1 := sm _ _ h1
    generalize upd H6 u1 _ = H7 at *
    refine ⟨_, rfl, _, rfl, x0, n, p0, rfl, hn, h0, w0.tz, w0.bz, fun u2 H8 t8 s8 => ?_⟩
    refine ⟨tupD (p0.1 ^ n, p0.2 ^ n), tupD (p0.1 ^ n, p0.2 ^ n), .tup (SqT.of (s8 _ _ tu)) (.cons (.int _) (.cons (.int _) .nil)), .tup (SqT.of t8) (.cons (.int _) (.cons (.int _) .nil)), rfl, rfl, ?_⟩
    rw [eqv_tup]
    refine ⟨_, rfl, iteF ?_⟩
    have rA := rA.same s8
    have hpc := s8 _ _ hpc
    have h0 := s8 _ _ h0
    have h1 := s8 _ _ h1
    have tps := tps.same s8
    refine ⟨_, rfl, _, rfl, pl, _, 1, _, rfl, rfl, SqL.of hpc, at_one _ _ _, x0, x1, p0, p1, rfl, h0, h1, w0, w1, fun H9 s9 => ⟨_, rfl, iteF ?_⟩⟩
    have rA := rA.same s9
    have hpc := s9 _ _ hpc
    have h0 := s9 _ _ h0
    have tps := tps.same s9
    refine ⟨_, rfl, _, rfl, x0, x0, p0, p0, rfl, h0, h0, w0, w0, fun HA sA => ⟨_, rfl, iteF ?_⟩⟩
    have rA := rA.same sA
    have hpc := sA _ _ hpc
    have h0 := sA _ _ h0
    have tps := tps.same sA
    refine ⟨_, rfl, _, rfl, d, rfl, rA.1, fun i HB hi rB => ?_⟩
    have h0 := rB.tup rA.1 h0
    have hpc := rB.2 _ _ pne hpc
    have tps := rB.tps rA.1 tps
    have rA := rA.trans rB
    refine ⟨x0, i, p0, rfl, h0, w0, hi, fun HC sC => ⟨_, rfl, iteF ?_⟩⟩
    have rA := rA.same sC
    have hpc := sC _ _ hpc
    have h0 := sC _ _ h0
    have tps := tps.same sC
    refine ⟨_, rfl, _, rfl, d, pl, p0, p1 :: pr, rfl, rA.1, ⟨⟨_, hpc, tps⟩, pne, l4, wf⟩, fun HD rD => ⟨_, rfl, iteF ?_⟩⟩
    have h0 := rD.tup rA.1 h0
    have rA := rA.trans rD
    exact ⟨_, rfl, _, rfl, d, x0, p0, rfl, rA.1, h0, w0, fun HE rE => q _ (rA.trans rE)⟩
end
end FR
set_option Elab.async false
set_option linter.all false
set_option maxRecDepth 100000
set_option maxHeartbeats 4000000
namespace FR
open PySem PySem.Spec PyProof.Rows L2 LD
abbrev sLaw : Stmt := FR.top 43
abbrev NL : List Str := ["_law_script", "_law_at", "_law_dice_here", "_law_turn", "_law_half", "_law_third", "_law_low", "_law_some", "_law_told_here", "_law_long", "_law_one"]
theorem scL : FnScope NL ["_law_script"] (defScope sLaw) := ⟨rfl, rfl, rfl, by decide +kernel, rfl, by decide +kernel, by decide +kernel⟩
def spLaw (K : PySem.W.Frag) : Sp := fun vs H Q _ => ∃ (a : Addr) (ns : List Int), vs = [.ref a] ∧ SqL K H a (ns.map V.int) ∧ ∀ H', Q (.bl true) H'
structure TxtL (mg : Str → Option Value) : Prop where
  ra : mg "range" = none
  ma : mg "max" = none
  mi : mg "min" = none
  le : mg "len" = none
theorem strs_dp {K : PySem.W.Frag} {H : Hp} : ∀ ps : List PI, DpAll K H (ps.map fun p => V.str (frText p.1 p.2)) (ps.map fun p => .str (frText p.1 p.2))
  | [] => .nil
  | p :: ps => .cons (.str _) (strs_dp ps)
theorem FrAt.to {C : Addr} {H : Hp} {p : Addr} {t b t' b' : Int} (h : FrAt C H p t b) (e1 : t = t') (e2 : b = b') : FrAt C H p t' b' := by
  subst e1 e2
  exact h
def logP (p : PI) : Prop := p.1.natAbs.log2 < 1920 ∧ p.2.natAbs.log2 < 1920
instance {p : PI} : Decidable (logP p) := by unfold logP; infer_instance
def T9 : Int := (10 : Int) ^ (9 : Int).toNat + 7
def B9 : Int := (10 : Int) ^ (9 : Int).toNat + 9
theorem lf9 : Lf T9 B9 := ⟨by decide +kernel, by decide +kernel⟩
theorem p64T : CPowW ((10 : Int) ^ (9 : Int).toNat + 7) 64 := ⟨by decide, by decide +kernel⟩
theorem p64B : CPowW ((10 : Int) ^ (9 : Int).toNat + 9) 64 := ⟨by decide, by decide +kernel⟩
section
variable {P : Program} {w : World} {K : PySem.W.Frag} {mg : Str → Option Value} {base : Heap} {C fI pT gT0 pB gB0 : Addr} {fdI fdT fdB : FuncData}
theorem ok_law {f : Addr} {fd : FuncData} (F : Fun K "law" "law" sLaw f fd) (k : FrK P w K mg base C fI pT gT0 pB gB0 fdI fdT fdB) (T : TxtM K mg C) (TL : TxtL mg)
    (gD : Glo P w K mg base "_law_dice" 1 ["_law_script", "_law_at"] (spDice K)) (gG : GloG P w K mg base "_law_right" 8 ["_law_dice_here"] spRig)
    (gDn : Glo P w K mg base "rounded_down" 6 ["fraction", "bottom"] (spRnd C fDown)) (gUp : Glo P w K mg base "rounded_up" 6 ["fraction", "bottom"] (spRnd C fUp))
    (gLe : Glo P w K mg base "least_of" 6 ["fractions"] (spPick C leastP)) (gMo : Glo P w K mg base "greatest_of" 6 ["fractions"] (spPick C mostP)) (gTo : Glo P w K mg base "total_of" 6 ["fractions"] (spTotal C))
    (mAdd : Met P w K mg base C "__add__" 5 ["self", "other"] (spOp C fAdd)) (mSub : Met P w K mg base C "__sub__" 5 ["self", "other"] (spOp C fSub)) (mMul : Met P w K mg base C "__mul__" 5 ["self", "other"] (spOp C fMul)) (mRsub : Met P w K mg base C "__rsub__" 6 ["self", "other"] (spRsub C))
    (mNeg : Met P w K mg base C "__neg__" 4 ["self"] (spNeg C)) (mAbs : Met P w K mg base C "__abs__" 4 ["self"] (spAbs C)) (mBy : Met P w K mg base C "by" 5 ["self", "other"] (spBy C)) (mPow : Met P w K mg base C "power" 4 ["self", "many"] (spPow C)) (mStr : Met P w K mg base C "__str__" 3 ["self"] (spStr C)) :
    FnG P w K mg base CX0 9 f fd ["_law_script"] (spLaw K) := by
  obtain ⟨rcS, rS, rS1⟩ := T.oS.r
  obtain ⟨foS, iS⟩ := T.oS.i
  obtain ⟨roS, jS⟩ := T.oS.j
  obtain ⟨rcM, rM, rM1⟩ := T.oM.r
  obtain ⟨foM, iM⟩ := T.oM.i
  obtain ⟨roM, jM⟩ := T.oM.j
  refine F.okG scL (fun vs H Q E h => ?_) (fun cdv A outer s H vs Q E hr hgA h => ?_)
  · obtain ⟨a, ns, rfl, _⟩ := h
    rfl
  · obtain ⟨a, ns, rfl, hs, q⟩ := h
    have hgd : (A.deeper (envOfC "law" (defScope sLaw) s.heap.objs.size f cdv)).guards = some [] := guards_deeper hgA
    have hr1 := hr.mono (j := 1) (by decide)
    have hr2 := hr.mono (j := 2) (by decide)
    have hr3 := hr.mono (j := 3) (by decide)
    have hr4 := hr.mono (j := 4) (by decide)
    have hr5 := hr.mono (j := 5) (by decide)
    have hr6 := hr.mono (j := 6) (by decide)
    refine ⟨_, pss_cons (ps_for PassesOwn.never rfl (pi_range1 (by rfl) TL.ra (pa_cons (pe_callB (call_max2 rfl) (by rfl) TL.ma (by decide +kernel) (pa_cons pe_int (pa_cons (pe_callB (call_min2 rfl) (by rfl) TL.mi (by decide +kernel) (pa_cons pe_int (pa_cons
          (pe_callB call_len_seq (by rfl) TL.le PySem.boot_len (pa_cons (pv 0) pa_nil)) pa_nil))) pa_nil))) pa_nil)) (pg_name (i := 1) scL.nd rfl (.inl rfl))
        (pss_cons (ps_set (i := 2) scL.nd rfl (Or.inl rfl) (pe_call gD.G hr1 (by rfl) gD.m gD.k gD.b .nil pass0 (pa_cons (pv 0) (pa_cons (pv 1) pa_nil))))
        (pss_one (ps_for PassesOwn.never rfl (pi_range1 (by rfl) TL.ra (pa_cons pe_int pa_nil)) (pg_name (i := 3) scL.nd rfl (.inl rfl)) (pss_one (ps_if (pt_not (pt_val (pe_callG gG.G hr hgd (by rfl) gG.m gG.k gG.b .nil pass0 (pa_cons (pv 2) pa_nil)))) (pss_one (ps_ret pe_bl)) pss_nil))))))
      (pss_cons (ps_par3 (i := 4) (j := 5) (l := 6) (by rfl) scL.nd rfl rfl rfl (by decide) (by decide) (by decide) rfl rfl rfl (pa_cons (pe_make k.M k.GI hr3 (by rfl) k.T.mC k.b2 .nil pass0 (pa_cons pe_int (pa_cons pe_int pa_nil))) (pa_cons (pe_make k.M k.GI hr3 (by rfl) k.T.mC k.b2 .nil pass0 (pa_cons pe_int (pa_cons pe_int pa_nil))) (pa_cons (pe_make k.M k.GI hr3 (by rfl) k.T.mC k.b2 .nil pass0 (pa_cons (pe_un un_neg pe_int) (pa_cons pe_int pa_nil))) pa_nil))) (by rfl))
      (pss_cons (ps_set (i := 7) scL.nd rfl (Or.inl rfl) (pe_lst (pa_cons (pe_op (op_own2 (op := .Add) mAdd.D T.sf mAdd.G hr5 mAdd.b pass0) (pv 4) (pv 5)) (pa_cons (pe_op (op_Iown (op := .Sub) mSub.D mRsub.D T.sf PySem.F.fills_int_sub PySem.F.slot_int_sub PySem.F.entry_int_sub PySem.F.args_int_sub_2 (fun i t l dx => OW.int_sub_no i t) T.si mRsub.G hr6 mRsub.b pass0) pe_int (pv 5)) (pa_cons (pe_op (op_ownI (op := .Sub) mSub.D T.sf rS rS1 iS jS T.oS.s mSub.G hr5 mSub.b pass0) (pv 5) pe_int) (pa_cons (pe_op (op_ownI (op := .Mult) mMul.D T.sf rM rM1 iM jM T.oM.s mMul.G hr5 mMul.b pass0) (pv 4) pe_int) (pa_cons (pe_meth (pv 4) k.T.cl ⟨mBy.D.at_, mBy.D.fn, mBy.kp⟩ mBy.G hr5 mBy.b .nil pass0 (pa_cons (pe_make k.M k.GI hr3 (by rfl) k.T.mC k.b2 .nil pass0 (pa_cons (pe_un un_neg pe_int) (pa_cons pe_int pa_nil))) pa_nil)) (pa_cons (pe_meth (pv 5) k.T.cl ⟨mPow.D.at_, mPow.D.fn, mPow.kp⟩ mPow.G hr4 mPow.b .nil pass0 (pa_cons pe_int pa_nil)) pa_nil))))))))
      (pss_cons (ps_set (i := 7) scL.nd rfl (Or.inl rfl) (pe_op op_cat (pv 7) (pe_lst (pa_cons (pe_meth (pv 6) k.T.cl ⟨mPow.D.at_, mPow.D.fn, mPow.kp⟩ mPow.G hr4 mPow.b .nil pass0 (pa_cons pe_int pa_nil)) (pa_cons (pe_meth (pv 6) k.T.cl ⟨mPow.D.at_, mPow.D.fn, mPow.kp⟩ mPow.G hr4 mPow.b .nil pass0 (pa_cons pe_int pa_nil)) pa_nil)))))
      (pss_cons (ps_if (pt_cmpR (op_neD hr.units) (pe_lc (own := [("_law_one", 10)]) (g := gName 10) (tt := tYes) rfl scL.nd (pi_list (pv 7)) (blkOk_by (N := NL) (sc := defScope sLaw) (by decide +kernel)) (fun _ _ _ _ _ => pg_name (i := 10) scL.nd rfl (.inl rfl)) (fun _ _ _ _ _ => pts_nil) (fun _ _ _ _ _ => pe_callTy (call_strOwn mStr.D mStr.G hr5 mStr.b pass0) (by rfl) T.st (by decide +kernel) (pa_cons (pv 10) pa_nil))) (pe_lst (pa_cons pe_str (pa_cons pe_str (pa_cons pe_str (pa_cons pe_str (pa_cons pe_str (pa_cons pe_str (pa_cons pe_str (pa_cons pe_str pa_nil))))))))) (nomark _)) (pss_one (ps_ret pe_bl)) pss_nil)
      (pss_cons (ps_set (i := 8) scL.nd rfl (Or.inl rfl) (pe_lst (pa_cons (pe_call gDn.G hr6 (by rfl) gDn.m gDn.k gDn.b .nil pass0 (pa_cons (pv 6) (pa_cons pe_int pa_nil))) (pa_cons (pe_call gUp.G hr6 (by rfl) gUp.m gUp.k gUp.b .nil pass0 (pa_cons (pv 6) (pa_cons pe_int pa_nil))) (pa_cons (pe_call gDn.G hr6 (by rfl) gDn.m gDn.k gDn.b .nil pass0 (pa_cons (pv 6) (pa_cons pe_int pa_nil))) (pa_cons (pe_call gUp.G hr6 (by rfl) gUp.m gUp.k gUp.b .nil pass0 (pa_cons (pv 6) (pa_cons pe_int pa_nil))) (pa_cons (pe_call gUp.G hr6 (by rfl) gUp.m gUp.k gUp.b .nil pass0 (pa_cons pe_int (pa_cons pe_int pa_nil))) pa_nil)))))))
      (pss_cons (ps_if (pt_cmpR (op_neD hr.units) (pe_lc (own := [("_law_one", 10)]) (g := gName 10) (tt := tYes) rfl scL.nd (pi_list (pv 8)) (blkOk_by (N := NL) (sc := defScope sLaw) (by decide +kernel)) (fun _ _ _ _ _ => pg_name (i := 10) scL.nd rfl (.inl rfl)) (fun _ _ _ _ _ => pts_nil) (fun _ _ _ _ _ => pe_callTy (call_strOwn mStr.D mStr.G hr5 mStr.b pass0) (by rfl) T.st (by decide +kernel) (pa_cons (pv 10) pa_nil))) (pe_lst (pa_cons pe_str (pa_cons pe_str (pa_cons pe_str (pa_cons pe_str (pa_cons pe_str pa_nil)))))) (nomark _)) (pss_one (ps_ret pe_bl)) pss_nil)
      (pss_cons (ps_set (i := 8) scL.nd rfl (Or.inl rfl) (pe_lst (pa_cons (pe_call gLe.G hr6 (by rfl) gLe.m gLe.k gLe.b .nil pass0 (pa_cons (pe_tup (pa_cons (pv 4) (pa_cons (pv 6) (pa_cons pe_int pa_nil)))) pa_nil)) (pa_cons (pe_call gMo.G hr6 (by rfl) gMo.m gMo.k gMo.b .nil pass0 (pa_cons (pe_tup (pa_cons (pe_un un_neg pe_int) (pa_cons (pv 6) pa_nil))) pa_nil)) (pa_cons (pe_call gTo.G hr6 (by rfl) gTo.m gTo.k gTo.b .nil pass0 (pa_cons (pe_tup (pa_cons (pv 4) (pa_cons pe_int (pa_cons (pv 5) pa_nil)))) pa_nil)) (pa_cons (pe_un (un_own mNeg.D mNeg.G hr4 mNeg.b pass0) (pv 4)) (pa_cons (pe_callB (call_absOwn mAbs.D mAbs.G hr5 mAbs.b pass0) (by rfl) T.ab (by decide +kernel) (pa_cons (pv 6) pa_nil)) (pa_cons (pe_un (un_own mNeg.D mNeg.G hr4 mNeg.b pass0) (pv 6)) pa_nil))))))))
      (pss_cons (ps_if (pt_cmpR (op_neD hr.units) (pe_lc (own := [("_law_one", 10)]) (g := gName 10) (tt := tYes) rfl scL.nd (pi_list (pv 8)) (blkOk_by (N := NL) (sc := defScope sLaw) (by decide +kernel)) (fun _ _ _ _ _ => pg_name (i := 10) scL.nd rfl (.inl rfl)) (fun _ _ _ _ _ => pts_nil) (fun _ _ _ _ _ => pe_callTy (call_strOwn mStr.D mStr.G hr5 mStr.b pass0) (by rfl) T.st (by decide +kernel) (pa_cons (pv 10) pa_nil))) (pe_lst (pa_cons pe_str (pa_cons pe_str (pa_cons pe_str (pa_cons pe_str (pa_cons pe_str (pa_cons pe_str pa_nil))))))) (nomark _)) (pss_one (ps_ret pe_bl)) pss_nil)
      (pss_cons (ps_set (i := 9) scL.nd rfl (Or.inl rfl) (pe_meth (pe_make k.M k.GI hr3 (by rfl) k.T.mC k.b2 .nil pass0 (pa_cons (pe_op op_add (pe_op op_powW pe_int pe_int) pe_int) (pa_cons (pe_op op_add (pe_op op_powW pe_int pe_int) pe_int) pa_nil))) k.T.cl ⟨mPow.D.at_, mPow.D.fn, mPow.kp⟩ mPow.G hr4 mPow.b .nil pass0 (pa_cons pe_int pa_nil)))
      (pss_one (ps_ret (pe_cmpR (op_eqD hr.units) (pe_tup (pa_cons (pe_prop (pv 9) k.T.cl k.oT k.GT hr2 k.bT .nil pass0 rfl) (pa_cons (pe_prop (pv 9) k.T.cl k.oB k.GB hr2 k.bB .nil pass0 rfl) pa_nil))) (pe_tup (pa_cons (pe_op op_powW (pe_op op_add (pe_op op_powW pe_int pe_int) pe_int) pe_int) (pa_cons (pe_op op_powW (pe_op op_add (pe_op op_powW pe_int pe_int) pe_int) pe_int) pa_nil))) (nomark _))))))))))))), ?_⟩
    refine ⟨_, rfl, a, _, rfl, .inl hs, _, _, rfl, _, _, rfl, _, rfl, by split <;> (try split) <;> omega, by split <;> (try split) <;> omega, ?_⟩
    refine for_range (fun i σ Hc => (∃ x1 x2 x3 : Option V, σ = [some (.ref a), x1, x2, x3, none, none, none, none, none, none, none]) ∧ Same H Hc) ⟨⟨_, _, _, rfl⟩, Same.refl H⟩ ?_ ?_
    · rintro i σ Hc hi ⟨⟨x1, x2, x3, rfl⟩, sm⟩
      refine ⟨_, rfl, _, rfl, a, ns, i, _, rfl, by omega, sm.seq hs, fun d x y z nd => ?_⟩
      have r0 : Rl d (upd Hc d (.lst (dxs x y z))) (upd Hc d (.lst (dxs x y z))) := Rl.refl ⟨_, _, _, upd_same⟩
      refine ⟨4, rfl, by decide, by decide, ?_⟩
      refine for_range (n := 4) (fun j σ Hd => (∃ x3 : Option V, σ = [some (.ref a), some (.int (0 + (i : Int))), some (.ref d), x3, none, none, none, none, none, none, none]) ∧ Rl d (upd Hc d (.lst (dxs x y z))) Hd) ⟨⟨_, rfl⟩, r0⟩ ?_ ?_
      · rintro j σ Hd hj ⟨⟨x3, rfl⟩, r⟩
        refine ⟨_, rfl, d, rfl, r.1, fun H1 r1 => ?_⟩
        exact ⟨_, rfl, ⟨_, rfl⟩, r.trans r1⟩
      · rintro σ Hd ⟨⟨x3, rfl⟩, r⟩
        refine ⟨⟨_, _, _, rfl⟩, fun b o e => ?_⟩
        have hd0 : H d = none := Same.free sm nd
        exact r.2 b o (ne_of_none e hd0) (same_new nd _ _ (sm _ _ e))
    rintro σ H0 ⟨⟨x1, x2, x3, rfl⟩, sm0⟩
    clear sm0 hs
    refine fun x1 dx1 nx1 nd1 ne1 => ⟨x1, dx1, 1, 2, rfl, upd_same, by decide, dv8 (by decide) (by decide +kernel), fun H1 h1 hs1 => ⟨rfl, ?_⟩⟩
    have sm := same_make (C := C) nx1 nd1 hs1
    replace h1 : FrAt C H1 x1 1 2 := h1.to (by decide +kernel) (by decide +kernel)
    refine fun x2 dx2 nx2 nd2 ne2 => ⟨x2, dx2, 1, 3, rfl, upd_same, by decide, dv8 (by decide) (by decide +kernel), fun H2 h2 hs2 => ⟨rfl, ?_⟩⟩
    have sm := same_make (C := C) nx2 nd2 hs2
    replace h1 := h1.same sm
    replace h2 : FrAt C H2 x2 1 3 := h2.to (by decide +kernel) (by decide +kernel)
    refine ⟨_, rfl, fun x3 dx3 nx3 nd3 ne3 => ⟨x3, dx3, (-7), 3, rfl, upd_same, by decide, dv8 (by decide) (by decide +kernel), fun H3 h3 hs3 => ⟨rfl, ?_⟩⟩⟩
    have sm := same_make (C := C) nx3 nd3 hs3
    replace h1 := h1.same sm
    replace h2 := h2.same sm
    replace h3 : FrAt C H3 x3 (-7) 3 := h3.to (by decide +kernel) (by decide +kernel)
    refine ⟨_, _, _, rfl, ?_⟩
    obtain ⟨e1, g1⟩ := id h1
    obtain ⟨e2, g2⟩ := id h2
    obtain ⟨e3, g3⟩ := id h3
    have z12 : Sz 1 2 := ⟨by decide +kernel, by decide +kernel, by decide⟩
    have z13 : Sz 1 3 := ⟨by decide +kernel, by decide +kernel, by decide⟩
    have z73 : Sz (-7) 3 := ⟨by decide +kernel, by decide +kernel, by decide⟩
    have zm3 : Sz (-1) 3 := ⟨by decide +kernel, by decide +kernel, by decide⟩
    have z11 : Sz 1 1 := ⟨by decide +kernel, by decide +kernel, by decide⟩
    have z41 : Sz 4 1 := ⟨by decide +kernel, by decide +kernel, by decide⟩
    refine ⟨_, rfl, _, rfl, x1, x2, e1, e2, _, _, rfl, rfl, g1, g2, x1, .ref x2, 1, 2, 1, 3, rfl, h1, .inl ⟨x2, rfl, h2⟩, z12, z13, fun y1 G1 f1 sm _ => ?_⟩
    replace h1 := h1.same sm
    replace h2 := h2.same sm
    replace h3 := h3.same sm
    replace g1 := sm _ _ g1
    replace g2 := sm _ _ g2
    replace g3 := sm _ _ g3
    replace f1 : FrAt C G1 y1 5 6 := f1.to (by decide +kernel) (by decide +kernel)
    refine ⟨_, rfl, x2, 1, e2, _, rfl, rfl, g2, x2, 1, 1, 3, rfl, h2, z13, z11, fun y2 G2 f2 sm _ => ?_⟩
    replace h1 := h1.same sm
    replace h2 := h2.same sm
    replace h3 := h3.same sm
    replace g1 := sm _ _ g1
    replace g2 := sm _ _ g2
    replace g3 := sm _ _ g3
    replace f1 := f1.same sm
    replace f2 : FrAt C G2 y2 2 3 := f2.to (by decide +kernel) (by decide +kernel)
    refine ⟨_, rfl, x2, 1, e2, _, rfl, rfl, g2, x2, .int 1, 1, 3, 1, 1, rfl, h2, .inr ⟨rfl, rfl⟩, z13, z11, fun y3 G3 f3 sm _ => ?_⟩
    replace h1 := h1.same sm
    replace h2 := h2.same sm
    replace h3 := h3.same sm
    replace g1 := sm _ _ g1
    replace g2 := sm _ _ g2
    replace g3 := sm _ _ g3
    replace f1 := f1.same sm
    replace f2 := f2.same sm
    replace f3 : FrAt C G3 y3 (-2) 3 := f3.to (by decide +kernel) (by decide +kernel)
    refine ⟨_, rfl, x1, 4, e1, _, rfl, rfl, g1, x1, .int 4, 1, 2, 4, 1, rfl, h1, .inr ⟨rfl, rfl⟩, z12, z41, fun y4 G4 f4 sm _ => ?_⟩
    replace h1 := h1.same sm
    replace h2 := h2.same sm
    replace h3 := h3.same sm
    replace g1 := sm _ _ g1
    replace g2 := sm _ _ g2
    replace g3 := sm _ _ g3
    replace f1 := f1.same sm
    replace f2 := f2.same sm
    replace f3 := f3.same sm
    replace f4 : FrAt C G4 y4 2 1 := f4.to (by decide +kernel) (by decide +kernel)
    refine ⟨_, rfl, x1, e1, _, rfl, g1, fl_no _ _ (by decide) (by decide), _, rfl, fun x5 dx5 nx5 nd5 ne5 => ⟨x5, dx5, (-1), 3, rfl, upd_same, by decide, dv8 (by decide) (by decide +kernel), fun H5 h5 hs5 => ⟨rfl, ?_⟩⟩⟩
    have sm := same_make (C := C) nx5 nd5 hs5
    replace h1 := h1.same sm
    replace h2 := h2.same sm
    replace h3 := h3.same sm
    replace g1 := sm _ _ g1
    replace g2 := sm _ _ g2
    replace g3 := sm _ _ g3
    replace f1 := f1.same sm
    replace f2 := f2.same sm
    replace f3 := f3.same sm
    replace f4 := f4.same sm
    replace h5 : FrAt C H5 x5 (-1) 3 := h5.to (by decide +kernel) (by decide +kernel)
    refine ⟨x1, .ref x5, 1, 2, -1, 3, rfl, h1, .inl ⟨x5, rfl, h5⟩, z12, zm3, by decide, fun y5 G5 f5 sm _ => ?_⟩
    replace h1 := h1.same sm
    replace h2 := h2.same sm
    replace h3 := h3.same sm
    replace g1 := sm _ _ g1
    replace g2 := sm _ _ g2
    replace g3 := sm _ _ g3
    replace f1 := f1.same sm
    replace f2 := f2.same sm
    replace f3 := f3.same sm
    replace f4 := f4.same sm
    replace f5 : FrAt C G5 y5 (-3) 2 := f5.to (by decide +kernel) (by decide +kernel)
    refine ⟨_, rfl, x2, e2, _, rfl, g2, fl_no _ _ (by decide) (by decide), x2, 3, 1, 3, rfl, by decide, h2, by decide, by decide +kernel, by decide +kernel, by decide +kernel, fun y6 G6 f6 sm _ => ?_⟩
    replace h1 := h1.same sm
    replace h2 := h2.same sm
    replace h3 := h3.same sm
    replace g1 := sm _ _ g1
    replace g2 := sm _ _ g2
    replace g3 := sm _ _ g3
    replace f1 := f1.same sm
    replace f2 := f2.same sm
    replace f3 := f3.same sm
    replace f4 := f4.same sm
    replace f5 := f5.same sm
    replace f6 : FrAt C G6 y6 1 27 := f6.to (by decide +kernel) (by decide +kernel)
    refine ⟨small1000 (by show 5 ≤ 1000; decide), fun L1 hL1 => ?_⟩
    have sm := same_new (o := (.lst [.ref y1, .ref y2, .ref y3, .ref y4, .ref y5, .ref y6])) hL1
    replace h1 := h1.same sm
    replace h2 := h2.same sm
    replace h3 := h3.same sm
    replace g1 := sm _ _ g1
    replace g2 := sm _ _ g2
    replace g3 := sm _ _ g3
    replace f1 := f1.same sm
    replace f2 := f2.same sm
    replace f3 := f3.same sm
    replace f4 := f4.same sm
    replace f5 := f5.same sm
    replace f6 := f6.same sm
    have l1 : upd G6 L1 (.lst [.ref y1, .ref y2, .ref y3, .ref y4, .ref y5, .ref y6]) L1 = some (.lst [.ref y1, .ref y2, .ref y3, .ref y4, .ref y5, .ref y6]) := upd_same
    generalize upd G6 L1 _ = K1 at *
    refine ⟨_, rfl, _, rfl, x3, e3, _, rfl, g3, fl_no _ _ (by decide) (by decide), x3, 0, -7, 3, rfl, by decide, h3, by decide, by decide +kernel, by decide +kernel, by decide +kernel, fun y7 G7 f7 sm _ => ?_⟩
    replace h1 := h1.same sm
    replace h2 := h2.same sm
    replace h3 := h3.same sm
    replace g1 := sm _ _ g1
    replace g2 := sm _ _ g2
    replace g3 := sm _ _ g3
    replace f1 := f1.same sm
    replace f2 := f2.same sm
    replace f3 := f3.same sm
    replace f4 := f4.same sm
    replace f5 := f5.same sm
    replace f6 := f6.same sm
    replace l1 := sm _ _ l1
    replace f7 : FrAt C G7 y7 1 1 := f7.to (by decide +kernel) (by decide +kernel)
    refine ⟨_, rfl, x3, e3, _, rfl, g3, fl_no _ _ (by decide) (by decide), x3, 3, -7, 3, rfl, by decide, h3, by decide, by decide +kernel, by decide +kernel, by decide +kernel, fun y8 G8 f8 sm _ => ?_⟩
    replace h1 := h1.same sm
    replace h2 := h2.same sm
    replace h3 := h3.same sm
    replace g1 := sm _ _ g1
    replace g2 := sm _ _ g2
    replace g3 := sm _ _ g3
    replace f1 := f1.same sm
    replace f2 := f2.same sm
    replace f3 := f3.same sm
    replace f4 := f4.same sm
    replace f5 := f5.same sm
    replace f6 := f6.same sm
    replace l1 := sm _ _ l1
    replace f7 := f7.same sm
    replace f8 : FrAt C G8 y8 (-343) 27 := f8.to (by decide +kernel) (by decide +kernel)
    refine ⟨small1000 (by show 1 ≤ 1000; decide), fun L2 hL2 => ?_⟩
    have sm := same_new (o := (.lst [.ref y7, .ref y8])) hL2
    replace h1 := h1.same sm
    replace h2 := h2.same sm
    replace h3 := h3.same sm
    replace g1 := sm _ _ g1
    replace g2 := sm _ _ g2
    replace g3 := sm _ _ g3
    replace f1 := f1.same sm
    replace f2 := f2.same sm
    replace f3 := f3.same sm
    replace f4 := f4.same sm
    replace f5 := f5.same sm
    replace f6 := f6.same sm
    replace l1 := sm _ _ l1
    replace f7 := f7.same sm
    replace f8 := f8.same sm
    have l2 : upd G8 L2 (.lst [.ref y7, .ref y8]) L2 = some (.lst [.ref y7, .ref y8]) := upd_same
    generalize upd G8 L2 _ = K2 at *
    refine ⟨L1, L2, _, _, rfl, rfl, l1, l2, by show 6 + 2 ≤ sizeLine; rw [sizeLine_eq]; decide, fun L3 hL3 => ?_⟩
    have ea : ([.ref y1, .ref y2, .ref y3, .ref y4, .ref y5, .ref y6] : List V) ++ [.ref y7, .ref y8] = [.ref y1, .ref y2, .ref y3, .ref y4, .ref y5, .ref y6, .ref y7, .ref y8] := rfl
    rw [ea]
    have sm := same_new (o := (.lst [V.ref y1, V.ref y2, V.ref y3, V.ref y4, V.ref y5, V.ref y6, V.ref y7, V.ref y8])) hL3
    replace h1 := h1.same sm
    replace h2 := h2.same sm
    replace h3 := h3.same sm
    replace g1 := sm _ _ g1
    replace g2 := sm _ _ g2
    replace g3 := sm _ _ g3
    replace f1 := f1.same sm
    replace f2 := f2.same sm
    replace f3 := f3.same sm
    replace f4 := f4.same sm
    replace f5 := f5.same sm
    replace f6 := f6.same sm
    replace l1 := sm _ _ l1
    replace f7 := f7.same sm
    replace f8 := f8.same sm
    replace l2 := sm _ _ l2
    have m1 : upd K2 L3 (.lst [V.ref y1, V.ref y2, V.ref y3, V.ref y4, V.ref y5, V.ref y6, V.ref y7, V.ref y8]) L3 = some (.lst [V.ref y1, V.ref y2, V.ref y3, V.ref y4, V.ref y5, V.ref y6, V.ref y7, V.ref y8]) := upd_same
    generalize upd K2 L3 _ = K3 at *
    have hall : FRs C K3 [V.ref y1, V.ref y2, V.ref y3, V.ref y4, V.ref y5, V.ref y6, V.ref y7, V.ref y8] [((5, 6) : PI), ((2, 3) : PI), ((-2, 3) : PI), ((2, 1) : PI), ((-3, 2) : PI), ((1, 27) : PI), ((1, 1) : PI), ((-343, 27) : PI)] := A2.cons ⟨y1, rfl, f1⟩ (A2.cons ⟨y2, rfl, f2⟩ (A2.cons ⟨y3, rfl, f3⟩ (A2.cons ⟨y4, rfl, f4⟩ (A2.cons ⟨y5, rfl, f5⟩ (A2.cons ⟨y6, rfl, f6⟩ (A2.cons ⟨y7, rfl, f7⟩ (A2.cons ⟨y8, rfl, f8⟩ A2.nil)))))))
    clear f1 f2 f3 f4 f5 f6 f7 f8
    have lg : ∀ p ∈ [((5, 6) : PI), ((2, 3) : PI), ((-2, 3) : PI), ((2, 1) : PI), ((-3, 2) : PI), ((1, 27) : PI), ((1, 1) : PI), ((-343, 27) : PI)], logP p := by decide +kernel
    have hde : (!PyData.eqv (.list ([((5, 6) : PI), ((2, 3) : PI), ((-2, 3) : PI), ((2, 1) : PI), ((-3, 2) : PI), ((1, 27) : PI), ((1, 1) : PI), ((-343, 27) : PI)].map fun p => .str (frText p.1 p.2))) (.list [.str "5/6", .str "2/3", .str "-2/3", .str "2", .str "-3/2", .str "1/27", .str "1", .str "-343/27"])) = false := by decide +kernel
    have hsh : SeqAt.shaped (.list ([((5, 6) : PI), ((2, 3) : PI), ((-2, 3) : PI), ((2, 1) : PI), ((-3, 2) : PI), ((1, 27) : PI), ((1, 1) : PI), ((-343, 27) : PI)].map fun p => .str (frText p.1 p.2))) = true := by decide +kernel
    have hxl : [V.ref y1, V.ref y2, V.ref y3, V.ref y4, V.ref y5, V.ref y6, V.ref y7, V.ref y8].length = 8 := rfl
    generalize [((5, 6) : PI), ((2, 3) : PI), ((-2, 3) : PI), ((2, 1) : PI), ((-3, 2) : PI), ((1, 27) : PI), ((1, 1) : PI), ((-343, 27) : PI)] = PS at *
    generalize [V.ref y1, V.ref y2, V.ref y3, V.ref y4, V.ref y5, V.ref y6, V.ref y7, V.ref y8] = xs at *
    refine ⟨_, rfl, L3, rfl, ⟨_, SqL.of m1⟩, fun D hD => ?_⟩
    refine lc_list (xs := xs) (fun i Hc => Same K3 Hc ∧ Hc D = some (.lst ((PS.take i).map fun p => V.str (frText p.1 p.2)))) ⟨same_new hD, upd_same⟩ (fun i Hc _ p => SqL.of (p.1 _ _ m1)) ?_ ?_
    · rintro i v Hc hv ⟨sm, hDc⟩
      obtain ⟨p, hp, y, rfl, hy⟩ := (hall.same sm).2 i v hv
      have hi : i < PS.length := (List.getElem?_eq_some_iff.mp hp).1
      obtain ⟨dy, hyi⟩ := id hy
      obtain ⟨z1, z2⟩ := lg p (List.mem_of_getElem? hp)
      refine ⟨rfl, _, rfl, y, dy, _, rfl, hyi, y, p.1, p.2, rfl, hy, z1, z2, ⟨_, rfl⟩, ?_⟩
      refine ⟨_, hDc, small1000 (by rw [List.length_map, List.length_take]; have := hall.1; omega), same_grow hD sm, ?_⟩
      rw [take_snoc hp, List.map_append]
      exact upd_same
    rintro J1 ⟨sm, hDc⟩
    replace h1 := h1.same sm
    replace h2 := h2.same sm
    replace h3 := h3.same sm
    replace g1 := sm _ _ g1
    replace g2 := sm _ _ g2
    replace g3 := sm _ _ g3
    replace l1 := sm _ _ l1
    replace l2 := sm _ _ l2
    replace m1 := sm _ _ m1
    rw [take_all hall.1] at hDc
    refine ⟨small1000 (by show 7 ≤ 1000; decide), fun Lb hLb => ?_⟩
    have sm := same_new (o := .lst [.str "5/6", .str "2/3", .str "-2/3", .str "2", .str "-3/2", .str "1/27", .str "1", .str "-343/27"]) hLb
    replace h1 := h1.same sm
    replace h2 := h2.same sm
    replace h3 := h3.same sm
    replace g1 := sm _ _ g1
    replace g2 := sm _ _ g2
    replace g3 := sm _ _ g3
    replace l1 := sm _ _ l1
    replace l2 := sm _ _ l2
    replace m1 := sm _ _ m1
    refine ⟨.list (PS.map fun p => .str (frText p.1 p.2)), .list [.str "5/6", .str "2/3", .str "-2/3", .str "2", .str "-3/2", .str "1/27", .str "1", .str "-343/27"], .lst (SqL.of (sm _ _ hDc)) (strs_dp PS), .lst (SqL.of upd_same) (.cons (.str _) (.cons (.str _) (.cons (.str _) (.cons (.str _) (.cons (.str _) (.cons (.str _) (.cons (.str _) (.cons (.str _) .nil)))))))), hsh, by decide +kernel, ?_⟩
    rw [hde]
    refine ⟨_, rfl, iteF ?_⟩
    clear hall hde hsh lg hxl hDc
    generalize upd J1 Lb _ = N1 at *
    refine ⟨_, rfl, .ref x3, -7, 3, 1, rfl, .inl ⟨x3, rfl, h3⟩, ⟨⟨by decide, by decide +kernel⟩, by decide +kernel, by decide +kernel, by decide, by decide +kernel⟩, fun y11 G11 f11 sm => ?_⟩
    replace h1 := h1.same sm
    replace h2 := h2.same sm
    replace h3 := h3.same sm
    replace g1 := sm _ _ g1
    replace g2 := sm _ _ g2
    replace g3 := sm _ _ g3
    replace f11 : FrAt C G11 y11 (-3) 1 := f11.to (by decide +kernel) (by decide +kernel)
    refine ⟨_, rfl, .ref x3, -7, 3, 1, rfl, .inl ⟨x3, rfl, h3⟩, ⟨⟨by decide, by decide +kernel⟩, by decide +kernel, by decide +kernel, by decide, by decide +kernel⟩, fun y12 G12 f12 sm => ?_⟩
    replace h1 := h1.same sm
    replace h2 := h2.same sm
    replace h3 := h3.same sm
    replace g1 := sm _ _ g1
    replace g2 := sm _ _ g2
    replace g3 := sm _ _ g3
    replace f11 := f11.same sm
    replace f12 : FrAt C G12 y12 (-2) 1 := f12.to (by decide +kernel) (by decide +kernel)
    refine ⟨_, rfl, .ref x3, -7, 3, 2, rfl, .inl ⟨x3, rfl, h3⟩, ⟨⟨by decide, by decide +kernel⟩, by decide +kernel, by decide +kernel, by decide, by decide +kernel⟩, fun y13 G13 f13 sm => ?_⟩
    replace h1 := h1.same sm
    replace h2 := h2.same sm
    replace h3 := h3.same sm
    replace g1 := sm _ _ g1
    replace g2 := sm _ _ g2
    replace g3 := sm _ _ g3
    replace f11 := f11.same sm
    replace f12 := f12.same sm
    replace f13 : FrAt C G13 y13 (-5) 2 := f13.to (by decide +kernel) (by decide +kernel)
    refine ⟨_, rfl, .ref x3, -7, 3, 2, rfl, .inl ⟨x3, rfl, h3⟩, ⟨⟨by decide, by decide +kernel⟩, by decide +kernel, by decide +kernel, by decide, by decide +kernel⟩, fun y14 G14 f14 sm => ?_⟩
    replace h1 := h1.same sm
    replace h2 := h2.same sm
    replace h3 := h3.same sm
    replace g1 := sm _ _ g1
    replace g2 := sm _ _ g2
    replace g3 := sm _ _ g3
    replace f11 := f11.same sm
    replace f12 := f12.same sm
    replace f13 := f13.same sm
    replace f14 : FrAt C G14 y14 (-2) 1 := f14.to (by decide +kernel) (by decide +kernel)
    refine ⟨.int 3, 3, 1, 5, rfl, .inr ⟨rfl, rfl⟩, ⟨⟨by decide, by decide +kernel⟩, by decide +kernel, by decide +kernel, by decide, by decide +kernel⟩, fun y15 G15 f15 sm => ?_⟩
    replace h1 := h1.same sm
    replace h2 := h2.same sm
    replace h3 := h3.same sm
    replace g1 := sm _ _ g1
    replace g2 := sm _ _ g2
    replace g3 := sm _ _ g3
    replace f11 := f11.same sm
    replace f12 := f12.same sm
    replace f13 := f13.same sm
    replace f14 := f14.same sm
    replace f15 : FrAt C G15 y15 3 1 := f15.to (by decide +kernel) (by decide +kernel)
    refine ⟨small1000 (by show 4 ≤ 1000; decide), fun L4 hL4 => ?_⟩
    have sm := same_new (o := (.lst [V.ref y11, V.ref y12, V.ref y13, V.ref y14, V.ref y15])) hL4
    replace h1 := h1.same sm
    replace h2 := h2.same sm
    replace h3 := h3.same sm
    replace g1 := sm _ _ g1
    replace g2 := sm _ _ g2
    replace g3 := sm _ _ g3
    replace f11 := f11.same sm
    replace f12 := f12.same sm
    replace f13 := f13.same sm
    replace f14 := f14.same sm
    replace f15 := f15.same sm
    have m2 : upd G15 L4 (.lst [V.ref y11, V.ref y12, V.ref y13, V.ref y14, V.ref y15]) L4 = some (.lst [V.ref y11, V.ref y12, V.ref y13, V.ref y14, V.ref y15]) := upd_same
    generalize upd G15 L4 _ = K4 at *
    have hall : FRs C K4 [V.ref y11, V.ref y12, V.ref y13, V.ref y14, V.ref y15] [((-3, 1) : PI), ((-2, 1) : PI), ((-5, 2) : PI), ((-2, 1) : PI), ((3, 1) : PI)] := A2.cons ⟨y11, rfl, f11⟩ (A2.cons ⟨y12, rfl, f12⟩ (A2.cons ⟨y13, rfl, f13⟩ (A2.cons ⟨y14, rfl, f14⟩ (A2.cons ⟨y15, rfl, f15⟩ A2.nil))))
    clear f11 f12 f13 f14 f15
    have lg : ∀ p ∈ [((-3, 1) : PI), ((-2, 1) : PI), ((-5, 2) : PI), ((-2, 1) : PI), ((3, 1) : PI)], logP p := by decide +kernel
    have hde : (!PyData.eqv (.list ([((-3, 1) : PI), ((-2, 1) : PI), ((-5, 2) : PI), ((-2, 1) : PI), ((3, 1) : PI)].map fun p => .str (frText p.1 p.2))) (.list [.str "-3", .str "-2", .str "-5/2", .str "-2", .str "3"])) = false := by decide +kernel
    have hsh : SeqAt.shaped (.list ([((-3, 1) : PI), ((-2, 1) : PI), ((-5, 2) : PI), ((-2, 1) : PI), ((3, 1) : PI)].map fun p => .str (frText p.1 p.2))) = true := by decide +kernel
    have hxl : [V.ref y11, V.ref y12, V.ref y13, V.ref y14, V.ref y15].length = 5 := rfl
    generalize [((-3, 1) : PI), ((-2, 1) : PI), ((-5, 2) : PI), ((-2, 1) : PI), ((3, 1) : PI)] = PS at *
    generalize [V.ref y11, V.ref y12, V.ref y13, V.ref y14, V.ref y15] = xs at *
    refine ⟨_, rfl, L4, rfl, ⟨_, SqL.of m2⟩, fun D hD => ?_⟩
    refine lc_list (xs := xs) (fun i Hc => Same K4 Hc ∧ Hc D = some (.lst ((PS.take i).map fun p => V.str (frText p.1 p.2)))) ⟨same_new hD, upd_same⟩ (fun i Hc _ p => SqL.of (p.1 _ _ m2)) ?_ ?_
    · rintro i v Hc hv ⟨sm, hDc⟩
      obtain ⟨p, hp, y, rfl, hy⟩ := (hall.same sm).2 i v hv
      have hi : i < PS.length := (List.getElem?_eq_some_iff.mp hp).1
      obtain ⟨dy, hyi⟩ := id hy
      obtain ⟨z1, z2⟩ := lg p (List.mem_of_getElem? hp)
      refine ⟨rfl, _, rfl, y, dy, _, rfl, hyi, y, p.1, p.2, rfl, hy, z1, z2, ⟨_, rfl⟩, ?_⟩
      refine ⟨_, hDc, small1000 (by rw [List.length_map, List.length_take]; have := hall.1; omega), same_grow hD sm, ?_⟩
      rw [take_snoc hp, List.map_append]
      exact upd_same
    rintro J2 ⟨sm, hDc⟩
    replace h1 := h1.same sm
    replace h2 := h2.same sm
    replace h3 := h3.same sm
    replace g1 := sm _ _ g1
    replace g2 := sm _ _ g2
    replace g3 := sm _ _ g3
    replace m2 := sm _ _ m2
    rw [take_all hall.1] at hDc
    refine ⟨small1000 (by show 4 ≤ 1000; decide), fun Lb hLb => ?_⟩
    have sm := same_new (o := .lst [.str "-3", .str "-2", .str "-5/2", .str "-2", .str "3"]) hLb
    replace h1 := h1.same sm
    replace h2 := h2.same sm
    replace h3 := h3.same sm
    replace g1 := sm _ _ g1
    replace g2 := sm _ _ g2
    replace g3 := sm _ _ g3
    replace m2 := sm _ _ m2
    refine ⟨.list (PS.map fun p => .str (frText p.1 p.2)), .list [.str "-3", .str "-2", .str "-5/2", .str "-2", .str "3"], .lst (SqL.of (sm _ _ hDc)) (strs_dp PS), .lst (SqL.of upd_same) (.cons (.str _) (.cons (.str _) (.cons (.str _) (.cons (.str _) (.cons (.str _) .nil))))), hsh, by decide +kernel, ?_⟩
    rw [hde]
    refine ⟨_, rfl, iteF ?_⟩
    clear hall hde hsh lg hxl hDc
    generalize upd J2 Lb _ = N2 at *
    refine ⟨_, rfl, _, rfl, small1000 (by show 2 ≤ 1000; decide), fun tp21 htp21 => ?_⟩
    have sm := same_new (o := .tup [V.ref x1, .ref x3, .int 0]) htp21
    replace h1 := h1.same sm
    replace h2 := h2.same sm
    replace h3 := h3.same sm
    replace g1 := sm _ _ g1
    replace g2 := sm _ _ g2
    replace g3 := sm _ _ g3
    refine ⟨tp21, (1, 2), [(-7, 3), (0, 1)], rfl, ⟨⟨[V.ref x1, .ref x3, .int 0], upd_same, (A2.cons (.inl ⟨x1, rfl, h1⟩) (A2.cons (.inl ⟨x3, rfl, h3⟩) (A2.cons (.inr ⟨rfl, rfl⟩) A2.nil)))⟩, by decide, (all_c ⟨by decide, by decide +kernel⟩ (all_c ⟨by decide, by decide +kernel⟩ (all_c ⟨by decide, by decide +kernel⟩ all_n))), (all_c ⟨by decide +kernel, by decide +kernel⟩ (all_c ⟨by decide +kernel, by decide +kernel⟩ (all_c ⟨by decide +kernel, by decide +kernel⟩ all_n)))⟩, fun y21 G21 f21 sm => ?_⟩
    replace h1 := h1.same sm
    replace h2 := h2.same sm
    replace h3 := h3.same sm
    replace g1 := sm _ _ g1
    replace g2 := sm _ _ g2
    replace g3 := sm _ _ g3
    replace f21 : FrAt C G21 y21 (-7) 3 := f21.to (by decide +kernel) (by decide +kernel)
    refine ⟨_, rfl, _, rfl, small1000 (by show 1 ≤ 1000; decide), fun tp22 htp22 => ?_⟩
    have sm := same_new (o := .tup [V.int (-1), .ref x3]) htp22
    replace h1 := h1.same sm
    replace h2 := h2.same sm
    replace h3 := h3.same sm
    replace g1 := sm _ _ g1
    replace g2 := sm _ _ g2
    replace g3 := sm _ _ g3
    replace f21 := f21.same sm
    refine ⟨tp22, (-1, 1), [(-7, 3)], rfl, ⟨⟨[V.int (-1), .ref x3], upd_same, (A2.cons (.inr ⟨rfl, rfl⟩) (A2.cons (.inl ⟨x3, rfl, h3⟩) A2.nil))⟩, by decide, (all_c ⟨by decide, by decide +kernel⟩ (all_c ⟨by decide, by decide +kernel⟩ all_n)), (all_c ⟨by decide +kernel, by decide +kernel⟩ (all_c ⟨by decide +kernel, by decide +kernel⟩ all_n))⟩, fun y22 G22 f22 sm => ?_⟩
    replace h1 := h1.same sm
    replace h2 := h2.same sm
    replace h3 := h3.same sm
    replace g1 := sm _ _ g1
    replace g2 := sm _ _ g2
    replace g3 := sm _ _ g3
    replace f21 := f21.same sm
    replace f22 : FrAt C G22 y22 (-1) 1 := f22.to (by decide +kernel) (by decide +kernel)
    refine ⟨_, rfl, _, rfl, small1000 (by show 2 ≤ 1000; decide), fun tp23 htp23 => ?_⟩
    have sm := same_new (o := .tup [V.ref x1, .int 2, .ref x2]) htp23
    replace h1 := h1.same sm
    replace h2 := h2.same sm
    replace h3 := h3.same sm
    replace g1 := sm _ _ g1
    replace g2 := sm _ _ g2
    replace g3 := sm _ _ g3
    replace f21 := f21.same sm
    replace f22 := f22.same sm
    refine ⟨tp23, [(1, 2), (2, 1), (1, 3)], rfl, ⟨⟨[V.ref x1, .int 2, .ref x2], upd_same, (A2.cons (.inl ⟨x1, rfl, h1⟩) (A2.cons (.inr ⟨rfl, rfl⟩) (A2.cons (.inl ⟨x2, rfl, h2⟩) A2.nil)))⟩, by decide, (all_c ⟨by decide, by decide +kernel⟩ (all_c ⟨by decide, by decide +kernel⟩ (all_c ⟨by decide, by decide +kernel⟩ all_n))), (all_c ⟨by decide +kernel, by decide +kernel⟩ (all_c ⟨by decide +kernel, by decide +kernel⟩ (all_c ⟨by decide +kernel, by decide +kernel⟩ all_n)))⟩, fun y23 G23 f23 sm => ?_⟩
    replace h1 := h1.same sm
    replace h2 := h2.same sm
    replace h3 := h3.same sm
    replace g1 := sm _ _ g1
    replace g2 := sm _ _ g2
    replace g3 := sm _ _ g3
    replace f21 := f21.same sm
    replace f22 := f22.same sm
    replace f23 : FrAt C G23 y23 17 6 := f23.to (by decide +kernel) (by decide +kernel)
    refine ⟨_, rfl, x1, e1, _, rfl, g1, x1, 1, 2, rfl, h1, z12, fun y24 G24 f24 sm _ => ?_⟩
    replace h1 := h1.same sm
    replace h2 := h2.same sm
    replace h3 := h3.same sm
    replace g1 := sm _ _ g1
    replace g2 := sm _ _ g2
    replace g3 := sm _ _ g3
    replace f21 := f21.same sm
    replace f22 := f22.same sm
    replace f23 := f23.same sm
    replace f24 : FrAt C G24 y24 (-1) 2 := f24.to (by decide +kernel) (by decide +kernel)
    refine ⟨_, rfl, x3, e3, _, rfl, g3, x3, -7, 3, rfl, h3, z73, fun y25 G25 f25 sm _ => ?_⟩
    replace h1 := h1.same sm
    replace h2 := h2.same sm
    replace h3 := h3.same sm
    replace g1 := sm _ _ g1
    replace g2 := sm _ _ g2
    replace g3 := sm _ _ g3
    replace f21 := f21.same sm
    replace f22 := f22.same sm
    replace f23 := f23.same sm
    replace f24 := f24.same sm
    replace f25 : FrAt C G25 y25 7 3 := f25.to (by decide +kernel) (by decide +kernel)
    refine ⟨_, rfl, x3, e3, _, rfl, g3, x3, -7, 3, rfl, h3, z73, fun y26 G26 f26 sm _ => ?_⟩
    replace h1 := h1.same sm
    replace h2 := h2.same sm
    replace h3 := h3.same sm
    replace g1 := sm _ _ g1
    replace g2 := sm _ _ g2
    replace g3 := sm _ _ g3
    replace f21 := f21.same sm
    replace f22 := f22.same sm
    replace f23 := f23.same sm
    replace f24 := f24.same sm
    replace f25 := f25.same sm
    replace f26 : FrAt C G26 y26 7 3 := f26.to (by decide +kernel) (by decide +kernel)
    refine ⟨small1000 (by show 5 ≤ 1000; decide), fun L5 hL5 => ?_⟩
    have sm := same_new (o := (.lst [V.ref y21, V.ref y22, V.ref y23, V.ref y24, V.ref y25, V.ref y26])) hL5
    replace h1 := h1.same sm
    replace h2 := h2.same sm
    replace h3 := h3.same sm
    replace g1 := sm _ _ g1
    replace g2 := sm _ _ g2
    replace g3 := sm _ _ g3
    replace f21 := f21.same sm
    replace f22 := f22.same sm
    replace f23 := f23.same sm
    replace f24 := f24.same sm
    replace f25 := f25.same sm
    replace f26 := f26.same sm
    have m3 : upd G26 L5 (.lst [V.ref y21, V.ref y22, V.ref y23, V.ref y24, V.ref y25, V.ref y26]) L5 = some (.lst [V.ref y21, V.ref y22, V.ref y23, V.ref y24, V.ref y25, V.ref y26]) := upd_same
    generalize upd G26 L5 _ = K5 at *
    have hall : FRs C K5 [V.ref y21, V.ref y22, V.ref y23, V.ref y24, V.ref y25, V.ref y26] [((-7, 3) : PI), ((-1, 1) : PI), ((17, 6) : PI), ((-1, 2) : PI), ((7, 3) : PI), ((7, 3) : PI)] := A2.cons ⟨y21, rfl, f21⟩ (A2.cons ⟨y22, rfl, f22⟩ (A2.cons ⟨y23, rfl, f23⟩ (A2.cons ⟨y24, rfl, f24⟩ (A2.cons ⟨y25, rfl, f25⟩ (A2.cons ⟨y26, rfl, f26⟩ A2.nil)))))
    clear f21 f22 f23 f24 f25 f26
    have lg : ∀ p ∈ [((-7, 3) : PI), ((-1, 1) : PI), ((17, 6) : PI), ((-1, 2) : PI), ((7, 3) : PI), ((7, 3) : PI)], logP p := by decide +kernel
    have hde : (!PyData.eqv (.list ([((-7, 3) : PI), ((-1, 1) : PI), ((17, 6) : PI), ((-1, 2) : PI), ((7, 3) : PI), ((7, 3) : PI)].map fun p => .str (frText p.1 p.2))) (.list [.str "-7/3", .str "-1", .str "17/6", .str "-1/2", .str "7/3", .str "7/3"])) = false := by decide +kernel
    have hsh : SeqAt.shaped (.list ([((-7, 3) : PI), ((-1, 1) : PI), ((17, 6) : PI), ((-1, 2) : PI), ((7, 3) : PI), ((7, 3) : PI)].map fun p => .str (frText p.1 p.2))) = true := by decide +kernel
    have hxl : [V.ref y21, V.ref y22, V.ref y23, V.ref y24, V.ref y25, V.ref y26].length = 6 := rfl
    generalize [((-7, 3) : PI), ((-1, 1) : PI), ((17, 6) : PI), ((-1, 2) : PI), ((7, 3) : PI), ((7, 3) : PI)] = PS at *
    generalize [V.ref y21, V.ref y22, V.ref y23, V.ref y24, V.ref y25, V.ref y26] = xs at *
    refine ⟨_, rfl, L5, rfl, ⟨_, SqL.of m3⟩, fun D hD => ?_⟩
    refine lc_list (xs := xs) (fun i Hc => Same K5 Hc ∧ Hc D = some (.lst ((PS.take i).map fun p => V.str (frText p.1 p.2)))) ⟨same_new hD, upd_same⟩ (fun i Hc _ p => SqL.of (p.1 _ _ m3)) ?_ ?_
    · rintro i v Hc hv ⟨sm, hDc⟩
      obtain ⟨p, hp, y, rfl, hy⟩ := (hall.same sm).2 i v hv
      have hi : i < PS.length := (List.getElem?_eq_some_iff.mp hp).1
      obtain ⟨dy, hyi⟩ := id hy
      obtain ⟨z1, z2⟩ := lg p (List.mem_of_getElem? hp)
      refine ⟨rfl, _, rfl, y, dy, _, rfl, hyi, y, p.1, p.2, rfl, hy, z1, z2, ⟨_, rfl⟩, ?_⟩
      refine ⟨_, hDc, small1000 (by rw [List.length_map, List.length_take]; have := hall.1; omega), same_grow hD sm, ?_⟩
      rw [take_snoc hp, List.map_append]
      exact upd_same
    rintro J3 ⟨sm, hDc⟩
    replace h1 := h1.same sm
    replace h2 := h2.same sm
    replace h3 := h3.same sm
    replace g1 := sm _ _ g1
    replace g2 := sm _ _ g2
    replace g3 := sm _ _ g3
    replace m3 := sm _ _ m3
    rw [take_all hall.1] at hDc
    refine ⟨small1000 (by show 5 ≤ 1000; decide), fun Lb hLb => ?_⟩
    have sm := same_new (o := .lst [.str "-7/3", .str "-1", .str "17/6", .str "-1/2", .str "7/3", .str "7/3"]) hLb
    replace h1 := h1.same sm
    replace h2 := h2.same sm
    replace h3 := h3.same sm
    replace g1 := sm _ _ g1
    replace g2 := sm _ _ g2
    replace g3 := sm _ _ g3
    replace m3 := sm _ _ m3
    refine ⟨.list (PS.map fun p => .str (frText p.1 p.2)), .list [.str "-7/3", .str "-1", .str "17/6", .str "-1/2", .str "7/3", .str "7/3"], .lst (SqL.of (sm _ _ hDc)) (strs_dp PS), .lst (SqL.of upd_same) (.cons (.str _) (.cons (.str _) (.cons (.str _) (.cons (.str _) (.cons (.str _) (.cons (.str _) .nil)))))), hsh, by decide +kernel, ?_⟩
    rw [hde]
    refine ⟨_, rfl, iteF ?_⟩
    clear hall hde hsh lg hxl hDc
    generalize upd J3 Lb _ = N3 at *
    refine ⟨_, _, rfl, rfl, pow9, _, _, rfl, rfl, _, _, rfl, rfl, pow9, _, _, rfl, rfl, fun x6 dx6 nx6 nd6 ne6 => ⟨x6, dx6, T9, B9, rfl, upd_same, lf9.ne, dv8 lf9.ne (by decide +kernel), fun H6 h6 hs6 => ⟨rfl, ?_⟩⟩⟩
    rw [lf9.nT, lf9.nB] at h6
    obtain ⟨e6, g6⟩ := id h6
    have lp := lf_pow lf9 64
    have dv1 : (dv (T9 ^ 64) (B9 ^ 64)).natAbs < 2 ^ 8000 := by
      rw [lp.dv1]
      decide +kernel
    refine ⟨x6, e6, _, rfl, g6, fl_no _ _ (by decide) (by decide), x6, 64, T9, B9, rfl, by decide, h6, lf9.ne, by decide +kernel, by decide +kernel, dv1, fun y9 G9 f9 sm _ => ?_⟩
    rw [lp.nT, lp.nB] at f9
    obtain ⟨e9, g9⟩ := id f9
    refine ⟨_, rfl, y9, e9, _, rfl, g9, y9, e9, _, _, rfl, g9, fl_top _ _, _, rfl, y9, e9, _, rfl, g9, y9, e9, _, _, rfl, g9, fl_bot _ _, small1000 (by show 1 ≤ 1000; decide), fun ta hta => ?_⟩
    refine ⟨_, _, rfl, rfl, pow9, _, _, rfl, rfl, _, _, rfl, rfl, p64T, _, _, rfl, rfl, pow9, _, _, rfl, rfl, _, _, rfl, rfl, p64B, small1000 (by show 1 ≤ 1000; decide), fun tb htb => ?_⟩
    refine ⟨tupD (T9 ^ 64, B9 ^ 64), tupD (T9 ^ 64, B9 ^ 64), .tup (SqT.of (same_new htb _ _ upd_same)) (.cons (.int _) (.cons (.int _) .nil)), .tup (SqT.of upd_same) (.cons (.int _) (.cons (.int _) .nil)), rfl, rfl, ?_⟩
    show Q (.bl (PyData.eqv _ _)) _
    rw [Bool.not_eq_eq_eq_not.mp (eqv_tup _)]
    exact q _
end
end FR
set_option Elab.async false
set_option linter.all false
set_option maxRecDepth 100000
set_option maxHeartbeats 4000000
namespace FR
open PySem PySem.Spec PyProof.Rows L2 LD
/-! ### what the written part says of the class, by computation -/
def refOr (o : Option (Option Value)) : Bool := match o with
  | some none => true
  | some (some (.ref _)) => true
  | _ => false
theorem refOr_of {o : Option (Option Value)} (h : refOr o = true) : ∃ rc, o = some rc ∧ (rc = none ∨ ∃ g : Addr, rc = some (.ref g)) := by
  unfold refOr at h
  split at h
  · exact ⟨_, rfl, .inl rfl⟩
  · exact ⟨_, rfl, .inr ⟨_, rfl⟩⟩
  · cases h
theorem isSome_of {α : Type} {o : Option α} (h : o.isSome = true) : ∃ x, o = some x := Option.isSome_iff_exists.mp h
def oddB (K : PySem.W.Frag) (C : Addr) (T : String) : Bool := (PySem.W.kitOne K (.type T) (.ref C) == some false) && ((PySem.W.subIn K (.ref C) (.type T) == some false) && PySem.W.notFirst K C (.type T))
theorem odd_of {K : PySem.W.Frag} {C : Addr} {T : String} (h : oddB K C T = true) : OddC K C T := by
  simp only [oddB, Bool.and_eq_true, beq_iff_eq] at h
  exact ⟨h.1, h.2.1, h.2.2⟩
def clsB (K : PySem.W.Frag) (C : Addr) : Bool := PySem.W.plainGet K C Str.empty && (PySem.W.hasDictIn K C && (PySem.W.plainOver K C && (PySem.W.findIn K (.ref C) "__setattr__" == some (some (.builtin "object.__setattr__")))))
theorem cls_of {K : PySem.W.Frag} {C : Addr} (h : clsB K C = true) : Cls K C := by
  simp only [clsB, Bool.and_eq_true, beq_iff_eq] at h
  exact ⟨h.1, h.2.1, h.2.2.1, h.2.2.2⟩
def rowB (K : PySem.W.Frag) (C : Addr) : Bool :=
  (PySem.W.findIn K (.ref C) "_top" == some none) && ((PySem.W.findIn K (.ref C) "_bottom" == some none) && ((PySem.W.findIn K (.ref C) "__class__" == some (some (.builtin "object.__class__"))) &&
  ((PySem.W.specialIn K (.builtin "object.__class__") "__get__" == some (some (.builtin "getset_descriptor.__get__"))) && ((PySem.W.takesIn K (.builtin "object.__class__") == some true) && ((PySem.W.mroIn K C (.type "object") == some true) &&
  ((PySem.W.findIn K (.ref C) "__ne__" == some (some (.builtin "object.__ne__"))) && ((PySem.W.subIn K (.ref C) (.type "object") == some true) && (PySem.W.makesIn K C && (PySem.W.keepIn K (.ref C) && (PySem.W.selfFirst K C && (PySem.W.subIn K (.type "int") (.ref C) == some false)))))))))))
def opB (K : PySem.W.Frag) (C : Addr) (nm : String) : Bool := refOr (PySem.W.findIn K (.ref C) (dunderR nm)) && ((PySem.W.findIn K (.type "int") (PySem.dunder nm)).isSome && ((PySem.W.findIn K (.type "int") (dunderR nm)).isSome && (PySem.W.subIn K (.type "int") (.ref C) == some false)))
theorem op_of {K : PySem.W.Frag} {C : Addr} {nm : String} (h : opB K C nm = true) : IntOp K C nm := by
  simp only [opB, Bool.and_eq_true, beq_iff_eq] at h
  exact ⟨refOr_of h.1, isSome_of h.2.1, isSome_of h.2.2.1, h.2.2.2⟩
theorem all_mk {l : PySem.W.OpenLaw} {w : World} {K : PySem.W.Frag} {h : Heap} {mg : Str → Option Value} {fa C : Addr} (X : K.In h) (G : h.Ns mainGlobals mg) (hfa : mg "law" = some (.ref fa))
    (aC : PySem.W.nsIn K mainGlobals "Fraction" = some (some (.ref C)))
    (agcd : PySem.W.nsIn K mainGlobals "gcd" = some (some (.builtin "math.gcd")))
    (alcm : PySem.W.nsIn K mainGlobals "lcm" = some (some (.builtin "math.lcm")))
    {tkM : Tok}
    (aM : PySem.W.nsIn K mainGlobals "MAX_POWER" = some (some (.int 64 tkM)))
    {f_plain : Addr} {oc_plain kV_plain dc_plain pm_plain cd_plain ct_plain : Value} {od_plain an_plain : Option Addr} {sl_plain : Array (Option Value)}
    (n_plain : PySem.W.nsIn K mainGlobals "is_plain_integer" = some (some (.ref f_plain)))
    (l_plain : K.lookup f_plain = some ⟨oc_plain, od_plain, .func (PySem.W.fnOf "is_plain_integer" "is_plain_integer" (defArgs sPlain) (defBody sPlain) (defScope sPlain) .none kV_plain dc_plain pm_plain an_plain cd_plain ct_plain), sl_plain⟩)
    (d_plain : PySem.W.codeIn K cd_plain "is_plain_integer" = true)
    (k_plain : PySem.W.keepIn K (.ref f_plain) = true)
    {f_atl : Addr} {oc_atl kV_atl dc_atl pm_atl cd_atl ct_atl : Value} {od_atl an_atl : Option Addr} {sl_atl : Array (Option Value)}
    (n_atl : PySem.W.nsIn K mainGlobals "is_at_least" = some (some (.ref f_atl)))
    (l_atl : K.lookup f_atl = some ⟨oc_atl, od_atl, .func (PySem.W.fnOf "is_at_least" "is_at_least" (defArgs sAtl) (defBody sAtl) (defScope sAtl) .none kV_atl dc_atl pm_atl an_atl cd_atl ct_atl), sl_atl⟩)
    (d_atl : PySem.W.codeIn K cd_atl "is_at_least" = true)
    (k_atl : PySem.W.keepIn K (.ref f_atl) = true)
    {f_bet : Addr} {oc_bet kV_bet dc_bet pm_bet cd_bet ct_bet : Value} {od_bet an_bet : Option Addr} {sl_bet : Array (Option Value)}
    (n_bet : PySem.W.nsIn K mainGlobals "is_between" = some (some (.ref f_bet)))
    (l_bet : K.lookup f_bet = some ⟨oc_bet, od_bet, .func (PySem.W.fnOf "is_between" "is_between" (defArgs sBet) (defBody sBet) (defScope sBet) .none kV_bet dc_bet pm_bet an_bet cd_bet ct_bet), sl_bet⟩)
    (d_bet : PySem.W.codeIn K cd_bet "is_between" = true)
    (k_bet : PySem.W.keepIn K (.ref f_bet) = true)
    {f_isf : Addr} {oc_isf kV_isf dc_isf pm_isf cd_isf ct_isf : Value} {od_isf an_isf : Option Addr} {sl_isf : Array (Option Value)}
    (n_isf : PySem.W.nsIn K mainGlobals "is_fraction" = some (some (.ref f_isf)))
    (l_isf : K.lookup f_isf = some ⟨oc_isf, od_isf, .func (PySem.W.fnOf "is_fraction" "is_fraction" (defArgs sIsF) (defBody sIsF) (defScope sIsF) .none kV_isf dc_isf pm_isf an_isf cd_isf ct_isf), sl_isf⟩)
    (d_isf : PySem.W.codeIn K cd_isf "is_fraction" = true)
    (k_isf : PySem.W.keepIn K (.ref f_isf) = true)
    {f_asf : Addr} {oc_asf kV_asf dc_asf pm_asf cd_asf ct_asf : Value} {od_asf an_asf : Option Addr} {sl_asf : Array (Option Value)}
    (n_asf : PySem.W.nsIn K mainGlobals "as_fraction" = some (some (.ref f_asf)))
    (l_asf : K.lookup f_asf = some ⟨oc_asf, od_asf, .func (PySem.W.fnOf "as_fraction" "as_fraction" (defArgs sAs) (defBody sAs) (defScope sAs) .none kV_asf dc_asf pm_asf an_asf cd_asf ct_asf), sl_asf⟩)
    (d_asf : PySem.W.codeIn K cd_asf "as_fraction" = true)
    (k_asf : PySem.W.keepIn K (.ref f_asf) = true)
    {f_fs : Addr} {oc_fs kV_fs dc_fs pm_fs cd_fs ct_fs : Value} {od_fs an_fs : Option Addr} {sl_fs : Array (Option Value)}
    (n_fs : PySem.W.nsIn K mainGlobals "is_fractions" = some (some (.ref f_fs)))
    (l_fs : K.lookup f_fs = some ⟨oc_fs, od_fs, .func (PySem.W.fnOf "is_fractions" "is_fractions" (defArgs sFs) (defBody sFs) (defScope sFs) .none kV_fs dc_fs pm_fs an_fs cd_fs ct_fs), sl_fs⟩)
    (d_fs : PySem.W.codeIn K cd_fs "is_fractions" = true)
    (k_fs : PySem.W.keepIn K (.ref f_fs) = true)
    {f_over : Addr} {oc_over kV_over dc_over pm_over cd_over ct_over : Value} {od_over an_over : Option Addr} {sl_over : Array (Option Value)}
    (n_over : PySem.W.nsIn K mainGlobals "over_one_bottom" = some (some (.ref f_over)))
    (l_over : K.lookup f_over = some ⟨oc_over, od_over, .func (PySem.W.fnOf "over_one_bottom" "over_one_bottom" (defArgs sOver) (defBody sOver) (defScope sOver) .none kV_over dc_over pm_over an_over cd_over ct_over), sl_over⟩)
    (d_over : PySem.W.codeIn K cd_over "over_one_bottom" = true)
    (k_over : PySem.W.keepIn K (.ref f_over) = true)
    {f_least : Addr} {oc_least kV_least dc_least pm_least cd_least ct_least : Value} {od_least an_least : Option Addr} {sl_least : Array (Option Value)}
    (n_least : PySem.W.nsIn K mainGlobals "least_of" = some (some (.ref f_least)))
    (l_least : K.lookup f_least = some ⟨oc_least, od_least, .func (PySem.W.fnOf "least_of" "least_of" (defArgs sLeast) (defBody sLeast) (defScope sLeast) .none kV_least dc_least pm_least an_least cd_least ct_least), sl_least⟩)
    (d_least : PySem.W.codeIn K cd_least "least_of" = true)
    (k_least : PySem.W.keepIn K (.ref f_least) = true)
    {f_most : Addr} {oc_most kV_most dc_most pm_most cd_most ct_most : Value} {od_most an_most : Option Addr} {sl_most : Array (Option Value)}
    (n_most : PySem.W.nsIn K mainGlobals "greatest_of" = some (some (.ref f_most)))
    (l_most : K.lookup f_most = some ⟨oc_most, od_most, .func (PySem.W.fnOf "greatest_of" "greatest_of" (defArgs sMost) (defBody sMost) (defScope sMost) .none kV_most dc_most pm_most an_most cd_most ct_most), sl_most⟩)
    (d_most : PySem.W.codeIn K cd_most "greatest_of" = true)
    (k_most : PySem.W.keepIn K (.ref f_most) = true)
    {f_total : Addr} {oc_total kV_total dc_total pm_total cd_total ct_total : Value} {od_total an_total : Option Addr} {sl_total : Array (Option Value)}
    (n_total : PySem.W.nsIn K mainGlobals "total_of" = some (some (.ref f_total)))
    (l_total : K.lookup f_total = some ⟨oc_total, od_total, .func (PySem.W.fnOf "total_of" "total_of" (defArgs sTotal) (defBody sTotal) (defScope sTotal) .none kV_total dc_total pm_total an_total cd_total ct_total), sl_total⟩)
    (d_total : PySem.W.codeIn K cd_total "total_of" = true)
    (k_total : PySem.W.keepIn K (.ref f_total) = true)
    {f_some : Addr} {oc_some kV_some dc_some pm_some cd_some ct_some : Value} {od_some an_some : Option Addr} {sl_some : Array (Option Value)}
    (n_some : PySem.W.nsIn K mainGlobals "_some_fractions" = some (some (.ref f_some)))
    (l_some : K.lookup f_some = some ⟨oc_some, od_some, .func (PySem.W.fnOf "_some_fractions" "_some_fractions" (defArgs sSome) (defBody sSome) (defScope sSome) .none kV_some dc_some pm_some an_some cd_some ct_some), sl_some⟩)
    (d_some : PySem.W.codeIn K cd_some "_some_fractions" = true)
    (k_some : PySem.W.keepIn K (.ref f_some) = true)
    {f_down : Addr} {oc_down kV_down dc_down pm_down cd_down ct_down : Value} {od_down an_down : Option Addr} {sl_down : Array (Option Value)}
    (n_down : PySem.W.nsIn K mainGlobals "rounded_down" = some (some (.ref f_down)))
    (l_down : K.lookup f_down = some ⟨oc_down, od_down, .func (PySem.W.fnOf "rounded_down" "rounded_down" (defArgs sDown) (defBody sDown) (defScope sDown) .none kV_down dc_down pm_down an_down cd_down ct_down), sl_down⟩)
    (d_down : PySem.W.codeIn K cd_down "rounded_down" = true)
    (k_down : PySem.W.keepIn K (.ref f_down) = true)
    {f_up : Addr} {oc_up kV_up dc_up pm_up cd_up ct_up : Value} {od_up an_up : Option Addr} {sl_up : Array (Option Value)}
    (n_up : PySem.W.nsIn K mainGlobals "rounded_up" = some (some (.ref f_up)))
    (l_up : K.lookup f_up = some ⟨oc_up, od_up, .func (PySem.W.fnOf "rounded_up" "rounded_up" (defArgs sUp) (defBody sUp) (defScope sUp) .none kV_up dc_up pm_up an_up cd_up ct_up), sl_up⟩)
    (d_up : PySem.W.codeIn K cd_up "rounded_up" = true)
    (k_up : PySem.W.keepIn K (.ref f_up) = true)
    {f_tob : Addr} {oc_tob kV_tob dc_tob pm_tob cd_tob ct_tob : Value} {od_tob an_tob : Option Addr} {sl_tob : Array (Option Value)}
    (n_tob : PySem.W.nsIn K mainGlobals "_to_be_rounded" = some (some (.ref f_tob)))
    (l_tob : K.lookup f_tob = some ⟨oc_tob, od_tob, .func (PySem.W.fnOf "_to_be_rounded" "_to_be_rounded" (defArgs sToB) (defBody sToB) (defScope sToB) .none kV_tob dc_tob pm_tob an_tob cd_tob ct_tob), sl_tob⟩)
    (d_tob : PySem.W.codeIn K cd_tob "_to_be_rounded" = true)
    (k_tob : PySem.W.keepIn K (.ref f_tob) = true)
    {f_dice : Addr} {oc_dice kV_dice dc_dice pm_dice cd_dice ct_dice : Value} {od_dice an_dice : Option Addr} {sl_dice : Array (Option Value)}
    (n_dice : PySem.W.nsIn K mainGlobals "_law_dice" = some (some (.ref f_dice)))
    (l_dice : K.lookup f_dice = some ⟨oc_dice, od_dice, .func (PySem.W.fnOf "_law_dice" "_law_dice" (defArgs LD.sDice) (defBody LD.sDice) (defScope LD.sDice) .none kV_dice dc_dice pm_dice an_dice cd_dice ct_dice), sl_dice⟩)
    (d_dice : PySem.W.codeIn K cd_dice "_law_dice" = true)
    (k_dice : PySem.W.keepIn K (.ref f_dice) = true)
    {f_roll : Addr} {oc_roll kV_roll dc_roll pm_roll cd_roll ct_roll : Value} {od_roll an_roll : Option Addr} {sl_roll : Array (Option Value)}
    (n_roll : PySem.W.nsIn K mainGlobals "_law_roll" = some (some (.ref f_roll)))
    (l_roll : K.lookup f_roll = some ⟨oc_roll, od_roll, .func (PySem.W.fnOf "_law_roll" "_law_roll" (defArgs LD.sRoll) (defBody LD.sRoll) (defScope LD.sRoll) .none kV_roll dc_roll pm_roll an_roll cd_roll ct_roll), sl_roll⟩)
    (d_roll : PySem.W.codeIn K cd_roll "_law_roll" = true)
    (k_roll : PySem.W.keepIn K (.ref f_roll) = true)
    {f_one : Addr} {oc_one kV_one dc_one pm_one cd_one ct_one : Value} {od_one an_one : Option Addr} {sl_one : Array (Option Value)}
    (n_one : PySem.W.nsIn K mainGlobals "_law_one_of" = some (some (.ref f_one)))
    (l_one : K.lookup f_one = some ⟨oc_one, od_one, .func (PySem.W.fnOf "_law_one_of" "_law_one_of" (defArgs LD.sOneOf) (defBody LD.sOneOf) (defScope LD.sOneOf) .none kV_one dc_one pm_one an_one cd_one ct_one), sl_one⟩)
    (d_one : PySem.W.codeIn K cd_one "_law_one_of" = true)
    (k_one : PySem.W.keepIn K (.ref f_one) = true)
    {f_gcd : Addr} {oc_gcd kV_gcd dc_gcd pm_gcd cd_gcd ct_gcd : Value} {od_gcd an_gcd : Option Addr} {sl_gcd : Array (Option Value)}
    (n_gcd : PySem.W.nsIn K mainGlobals "_law_gcd" = some (some (.ref f_gcd)))
    (l_gcd : K.lookup f_gcd = some ⟨oc_gcd, od_gcd, .func (PySem.W.fnOf "_law_gcd" "_law_gcd" (defArgs sGcd) (defBody sGcd) (defScope sGcd) .none kV_gcd dc_gcd pm_gcd an_gcd cd_gcd ct_gcd), sl_gcd⟩)
    (d_gcd : PySem.W.codeIn K cd_gcd "_law_gcd" = true)
    (k_gcd : PySem.W.keepIn K (.ref f_gcd) = true)
    {f_rat : Addr} {oc_rat kV_rat dc_rat pm_rat cd_rat ct_rat : Value} {od_rat an_rat : Option Addr} {sl_rat : Array (Option Value)}
    (n_rat : PySem.W.nsIn K mainGlobals "_law_ratio" = some (some (.ref f_rat)))
    (l_rat : K.lookup f_rat = some ⟨oc_rat, od_rat, .func (PySem.W.fnOf "_law_ratio" "_law_ratio" (defArgs sRat) (defBody sRat) (defScope sRat) .none kV_rat dc_rat pm_rat an_rat cd_rat ct_rat), sl_rat⟩)
    (d_rat : PySem.W.codeIn K cd_rat "_law_ratio" = true)
    (k_rat : PySem.W.keepIn K (.ref f_rat) = true)
    {f_plus : Addr} {oc_plus kV_plus dc_plus pm_plus cd_plus ct_plus : Value} {od_plus an_plus : Option Addr} {sl_plus : Array (Option Value)}
    (n_plus : PySem.W.nsIn K mainGlobals "_law_plus" = some (some (.ref f_plus)))
    (l_plus : K.lookup f_plus = some ⟨oc_plus, od_plus, .func (PySem.W.fnOf "_law_plus" "_law_plus" (defArgs sPlus) (defBody sPlus) (defScope sPlus) .none kV_plus dc_plus pm_plus an_plus cd_plus ct_plus), sl_plus⟩)
    (d_plus : PySem.W.codeIn K cd_plus "_law_plus" = true)
    (k_plus : PySem.W.keepIn K (.ref f_plus) = true)
    {f_lby : Addr} {oc_lby kV_lby dc_lby pm_lby cd_lby ct_lby : Value} {od_lby an_lby : Option Addr} {sl_lby : Array (Option Value)}
    (n_lby : PySem.W.nsIn K mainGlobals "_law_by" = some (some (.ref f_lby)))
    (l_lby : K.lookup f_lby = some ⟨oc_lby, od_lby, .func (PySem.W.fnOf "_law_by" "_law_by" (defArgs sLby) (defBody sLby) (defScope sLby) .none kV_lby dc_lby pm_lby an_lby cd_lby ct_lby), sl_lby⟩)
    (d_lby : PySem.W.codeIn K cd_lby "_law_by" = true)
    (k_lby : PySem.W.keepIn K (.ref f_lby) = true)
    {f_lle : Addr} {oc_lle kV_lle dc_lle pm_lle cd_lle ct_lle : Value} {od_lle an_lle : Option Addr} {sl_lle : Array (Option Value)}
    (n_lle : PySem.W.nsIn K mainGlobals "_law_is_less" = some (some (.ref f_lle)))
    (l_lle : K.lookup f_lle = some ⟨oc_lle, od_lle, .func (PySem.W.fnOf "_law_is_less" "_law_is_less" (defArgs sLle) (defBody sLle) (defScope sLle) .none kV_lle dc_lle pm_lle an_lle cd_lle ct_lle), sl_lle⟩)
    (d_lle : PySem.W.codeIn K cd_lle "_law_is_less" = true)
    (k_lle : PySem.W.keepIn K (.ref f_lle) = true)
    {f_int : Addr} {oc_int kV_int dc_int pm_int cd_int ct_int : Value} {od_int an_int : Option Addr} {sl_int : Array (Option Value)}
    (n_int : PySem.W.nsIn K mainGlobals "_law_integer" = some (some (.ref f_int)))
    (l_int : K.lookup f_int = some ⟨oc_int, od_int, .func (PySem.W.fnOf "_law_integer" "_law_integer" (defArgs sInt) (defBody sInt) (defScope sInt) .none kV_int dc_int pm_int an_int cd_int ct_int), sl_int⟩)
    (d_int : PySem.W.codeIn K cd_int "_law_integer" = true)
    (k_int : PySem.W.keepIn K (.ref f_int) = true)
    {f_cou : Addr} {oc_cou kV_cou dc_cou pm_cou cd_cou ct_cou : Value} {od_cou an_cou : Option Addr} {sl_cou : Array (Option Value)}
    (n_cou : PySem.W.nsIn K mainGlobals "_law_couple" = some (some (.ref f_cou)))
    (l_cou : K.lookup f_cou = some ⟨oc_cou, od_cou, .func (PySem.W.fnOf "_law_couple" "_law_couple" (defArgs sCou) (defBody sCou) (defScope sCou) .none kV_cou dc_cou pm_cou an_cou cd_cou ct_cou), sl_cou⟩)
    (d_cou : PySem.W.codeIn K cd_cou "_law_couple" = true)
    (k_cou : PySem.W.keepIn K (.ref f_cou) = true)
    {f_pair : Addr} {oc_pair kV_pair dc_pair pm_pair cd_pair ct_pair : Value} {od_pair an_pair : Option Addr} {sl_pair : Array (Option Value)}
    (n_pair : PySem.W.nsIn K mainGlobals "_law_pair" = some (some (.ref f_pair)))
    (l_pair : K.lookup f_pair = some ⟨oc_pair, od_pair, .func (PySem.W.fnOf "_law_pair" "_law_pair" (defArgs sPair) (defBody sPair) (defScope sPair) .none kV_pair dc_pair pm_pair an_pair cd_pair ct_pair), sl_pair⟩)
    (d_pair : PySem.W.codeIn K cd_pair "_law_pair" = true)
    (k_pair : PySem.W.keepIn K (.ref f_pair) = true)
    {f_told : Addr} {oc_told kV_told dc_told pm_told cd_told ct_told : Value} {od_told an_told : Option Addr} {sl_told : Array (Option Value)}
    (n_told : PySem.W.nsIn K mainGlobals "_law_told" = some (some (.ref f_told)))
    (l_told : K.lookup f_told = some ⟨oc_told, od_told, .func (PySem.W.fnOf "_law_told" "_law_told" (defArgs sTold) (defBody sTold) (defScope sTold) .none kV_told dc_told pm_told an_told cd_told ct_told), sl_told⟩)
    (d_told : PySem.W.codeIn K cd_told "_law_told" = true)
    (k_told : PySem.W.keepIn K (.ref f_told) = true)
    {f_lpw : Addr} {oc_lpw kV_lpw dc_lpw pm_lpw cd_lpw ct_lpw : Value} {od_lpw an_lpw : Option Addr} {sl_lpw : Array (Option Value)}
    (n_lpw : PySem.W.nsIn K mainGlobals "_law_power" = some (some (.ref f_lpw)))
    (l_lpw : K.lookup f_lpw = some ⟨oc_lpw, od_lpw, .func (PySem.W.fnOf "_law_power" "_law_power" (defArgs sLpw) (defBody sLpw) (defScope sLpw) .none kV_lpw dc_lpw pm_lpw an_lpw cd_lpw ct_lpw), sl_lpw⟩)
    (d_lpw : PySem.W.codeIn K cd_lpw "_law_power" = true)
    (k_lpw : PySem.W.keepIn K (.ref f_lpw) = true)
    {f_two : Addr} {oc_two kV_two dc_two pm_two cd_two ct_two : Value} {od_two an_two : Option Addr} {sl_two : Array (Option Value)}
    (n_two : PySem.W.nsIn K mainGlobals "_law_two_right" = some (some (.ref f_two)))
    (l_two : K.lookup f_two = some ⟨oc_two, od_two, .func (PySem.W.fnOf "_law_two_right" "_law_two_right" (defArgs sTwo) (defBody sTwo) (defScope sTwo) .none kV_two dc_two pm_two an_two cd_two ct_two), sl_two⟩)
    (d_two : PySem.W.codeIn K cd_two "_law_two_right" = true)
    (k_two : PySem.W.keepIn K (.ref f_two) = true)
    {f_mix : Addr} {oc_mix kV_mix dc_mix pm_mix cd_mix ct_mix : Value} {od_mix an_mix : Option Addr} {sl_mix : Array (Option Value)}
    (n_mix : PySem.W.nsIn K mainGlobals "_law_mixed_right" = some (some (.ref f_mix)))
    (l_mix : K.lookup f_mix = some ⟨oc_mix, od_mix, .func (PySem.W.fnOf "_law_mixed_right" "_law_mixed_right" (defArgs sMix) (defBody sMix) (defScope sMix) .none kV_mix dc_mix pm_mix an_mix cd_mix ct_mix), sl_mix⟩)
    (d_mix : PySem.W.codeIn K cd_mix "_law_mixed_right" = true)
    (k_mix : PySem.W.keepIn K (.ref f_mix) = true)
    {f_tupr : Addr} {oc_tupr kV_tupr dc_tupr pm_tupr cd_tupr ct_tupr : Value} {od_tupr an_tupr : Option Addr} {sl_tupr : Array (Option Value)}
    (n_tupr : PySem.W.nsIn K mainGlobals "_law_tuple_right" = some (some (.ref f_tupr)))
    (l_tupr : K.lookup f_tupr = some ⟨oc_tupr, od_tupr, .func (PySem.W.fnOf "_law_tuple_right" "_law_tuple_right" (defArgs sTup) (defBody sTup) (defScope sTup) .none kV_tupr dc_tupr pm_tupr an_tupr cd_tupr ct_tupr), sl_tupr⟩)
    (d_tupr : PySem.W.codeIn K cd_tupr "_law_tuple_right" = true)
    (k_tupr : PySem.W.keepIn K (.ref f_tupr) = true)
    {f_rr : Addr} {oc_rr kV_rr dc_rr pm_rr cd_rr ct_rr : Value} {od_rr an_rr : Option Addr} {sl_rr : Array (Option Value)}
    (n_rr : PySem.W.nsIn K mainGlobals "_law_rounded_right" = some (some (.ref f_rr)))
    (l_rr : K.lookup f_rr = some ⟨oc_rr, od_rr, .func (PySem.W.fnOf "_law_rounded_right" "_law_rounded_right" (defArgs sRr) (defBody sRr) (defScope sRr) .none kV_rr dc_rr pm_rr an_rr cd_rr ct_rr), sl_rr⟩)
    (d_rr : PySem.W.codeIn K cd_rr "_law_rounded_right" = true)
    (k_rr : PySem.W.keepIn K (.ref f_rr) = true)
    {f_rig : Addr} {oc_rig kV_rig dc_rig pm_rig cd_rig ct_rig : Value} {od_rig an_rig : Option Addr} {sl_rig : Array (Option Value)}
    (n_rig : PySem.W.nsIn K mainGlobals "_law_right" = some (some (.ref f_rig)))
    (l_rig : K.lookup f_rig = some ⟨oc_rig, od_rig, .func (PySem.W.fnOf "_law_right" "_law_right" (defArgs sRig) (defBody sRig) (defScope sRig) .none kV_rig dc_rig pm_rig an_rig cd_rig ct_rig), sl_rig⟩)
    (d_rig : PySem.W.codeIn K cd_rig "_law_right" = true)
    (k_rig : PySem.W.keepIn K (.ref f_rig) = true)
    {f_law : Addr} {oc_law kV_law dc_law pm_law cd_law ct_law : Value} {od_law an_law : Option Addr} {sl_law : Array (Option Value)}
    (n_law : PySem.W.nsIn K mainGlobals "law" = some (some (.ref f_law)))
    (l_law : K.lookup f_law = some ⟨oc_law, od_law, .func (PySem.W.fnOf "law" "law" (defArgs sLaw) (defBody sLaw) (defScope sLaw) .none kV_law dc_law pm_law an_law cd_law ct_law), sl_law⟩)
    (d_law : PySem.W.codeIn K cd_law "law" = true)
    (k_law : PySem.W.keepIn K (.ref f_law) = true)
    {f_add : Addr} {oc_add kV_add dc_add pm_add cd_add ct_add : Value} {od_add an_add : Option Addr} {sl_add : Array (Option Value)}
    (n_add : PySem.W.findIn K (.ref C) "__add__" = some (some (.ref f_add)))
    (l_add : K.lookup f_add = some ⟨oc_add, od_add, .func (PySem.W.fnOf "__add__" "Fraction.__add__" (defArgs sAdd) (defBody sAdd) (defScope sAdd) .none kV_add dc_add pm_add an_add cd_add ct_add), sl_add⟩)
    (d_add : PySem.W.codeIn K cd_add "Fraction.__add__" = true)
    (k_add : PySem.W.keepIn K (.ref f_add) = true)
    (i_add : PySem.W.isFn K (.ref f_add) = true)
    {f_radd : Addr} {oc_radd kV_radd dc_radd pm_radd cd_radd ct_radd : Value} {od_radd an_radd : Option Addr} {sl_radd : Array (Option Value)}
    (n_radd : PySem.W.findIn K (.ref C) "__radd__" = some (some (.ref f_radd)))
    (l_radd : K.lookup f_radd = some ⟨oc_radd, od_radd, .func (PySem.W.fnOf "__radd__" "Fraction.__radd__" (defArgs sRadd) (defBody sRadd) (defScope sRadd) .none kV_radd dc_radd pm_radd an_radd cd_radd ct_radd), sl_radd⟩)
    (d_radd : PySem.W.codeIn K cd_radd "Fraction.__radd__" = true)
    (k_radd : PySem.W.keepIn K (.ref f_radd) = true)
    (i_radd : PySem.W.isFn K (.ref f_radd) = true)
    {f_sub : Addr} {oc_sub kV_sub dc_sub pm_sub cd_sub ct_sub : Value} {od_sub an_sub : Option Addr} {sl_sub : Array (Option Value)}
    (n_sub : PySem.W.findIn K (.ref C) "__sub__" = some (some (.ref f_sub)))
    (l_sub : K.lookup f_sub = some ⟨oc_sub, od_sub, .func (PySem.W.fnOf "__sub__" "Fraction.__sub__" (defArgs sSub) (defBody sSub) (defScope sSub) .none kV_sub dc_sub pm_sub an_sub cd_sub ct_sub), sl_sub⟩)
    (d_sub : PySem.W.codeIn K cd_sub "Fraction.__sub__" = true)
    (k_sub : PySem.W.keepIn K (.ref f_sub) = true)
    (i_sub : PySem.W.isFn K (.ref f_sub) = true)
    {f_rsub : Addr} {oc_rsub kV_rsub dc_rsub pm_rsub cd_rsub ct_rsub : Value} {od_rsub an_rsub : Option Addr} {sl_rsub : Array (Option Value)}
    (n_rsub : PySem.W.findIn K (.ref C) "__rsub__" = some (some (.ref f_rsub)))
    (l_rsub : K.lookup f_rsub = some ⟨oc_rsub, od_rsub, .func (PySem.W.fnOf "__rsub__" "Fraction.__rsub__" (defArgs sRsub) (defBody sRsub) (defScope sRsub) .none kV_rsub dc_rsub pm_rsub an_rsub cd_rsub ct_rsub), sl_rsub⟩)
    (d_rsub : PySem.W.codeIn K cd_rsub "Fraction.__rsub__" = true)
    (k_rsub : PySem.W.keepIn K (.ref f_rsub) = true)
    (i_rsub : PySem.W.isFn K (.ref f_rsub) = true)
    {f_mul : Addr} {oc_mul kV_mul dc_mul pm_mul cd_mul ct_mul : Value} {od_mul an_mul : Option Addr} {sl_mul : Array (Option Value)}
    (n_mul : PySem.W.findIn K (.ref C) "__mul__" = some (some (.ref f_mul)))
    (l_mul : K.lookup f_mul = some ⟨oc_mul, od_mul, .func (PySem.W.fnOf "__mul__" "Fraction.__mul__" (defArgs sMul) (defBody sMul) (defScope sMul) .none kV_mul dc_mul pm_mul an_mul cd_mul ct_mul), sl_mul⟩)
    (d_mul : PySem.W.codeIn K cd_mul "Fraction.__mul__" = true)
    (k_mul : PySem.W.keepIn K (.ref f_mul) = true)
    (i_mul : PySem.W.isFn K (.ref f_mul) = true)
    {f_rmul : Addr} {oc_rmul kV_rmul dc_rmul pm_rmul cd_rmul ct_rmul : Value} {od_rmul an_rmul : Option Addr} {sl_rmul : Array (Option Value)}
    (n_rmul : PySem.W.findIn K (.ref C) "__rmul__" = some (some (.ref f_rmul)))
    (l_rmul : K.lookup f_rmul = some ⟨oc_rmul, od_rmul, .func (PySem.W.fnOf "__rmul__" "Fraction.__rmul__" (defArgs sRmul) (defBody sRmul) (defScope sRmul) .none kV_rmul dc_rmul pm_rmul an_rmul cd_rmul ct_rmul), sl_rmul⟩)
    (d_rmul : PySem.W.codeIn K cd_rmul "Fraction.__rmul__" = true)
    (k_rmul : PySem.W.keepIn K (.ref f_rmul) = true)
    (i_rmul : PySem.W.isFn K (.ref f_rmul) = true)
    {f_neg : Addr} {oc_neg kV_neg dc_neg pm_neg cd_neg ct_neg : Value} {od_neg an_neg : Option Addr} {sl_neg : Array (Option Value)}
    (n_neg : PySem.W.findIn K (.ref C) "__neg__" = some (some (.ref f_neg)))
    (l_neg : K.lookup f_neg = some ⟨oc_neg, od_neg, .func (PySem.W.fnOf "__neg__" "Fraction.__neg__" (defArgs sNeg) (defBody sNeg) (defScope sNeg) .none kV_neg dc_neg pm_neg an_neg cd_neg ct_neg), sl_neg⟩)
    (d_neg : PySem.W.codeIn K cd_neg "Fraction.__neg__" = true)
    (k_neg : PySem.W.keepIn K (.ref f_neg) = true)
    (i_neg : PySem.W.isFn K (.ref f_neg) = true)
    {f_ab : Addr} {oc_ab kV_ab dc_ab pm_ab cd_ab ct_ab : Value} {od_ab an_ab : Option Addr} {sl_ab : Array (Option Value)}
    (n_ab : PySem.W.findIn K (.ref C) "__abs__" = some (some (.ref f_ab)))
    (l_ab : K.lookup f_ab = some ⟨oc_ab, od_ab, .func (PySem.W.fnOf "__abs__" "Fraction.__abs__" (defArgs sAbs) (defBody sAbs) (defScope sAbs) .none kV_ab dc_ab pm_ab an_ab cd_ab ct_ab), sl_ab⟩)
    (d_ab : PySem.W.codeIn K cd_ab "Fraction.__abs__" = true)
    (k_ab : PySem.W.keepIn K (.ref f_ab) = true)
    (i_ab : PySem.W.isFn K (.ref f_ab) = true)
    {f_st : Addr} {oc_st kV_st dc_st pm_st cd_st ct_st : Value} {od_st an_st : Option Addr} {sl_st : Array (Option Value)}
    (n_st : PySem.W.findIn K (.ref C) "__str__" = some (some (.ref f_st)))
    (l_st : K.lookup f_st = some ⟨oc_st, od_st, .func (PySem.W.fnOf "__str__" "Fraction.__str__" (defArgs sStr) (defBody sStr) (defScope sStr) .none kV_st dc_st pm_st an_st cd_st ct_st), sl_st⟩)
    (d_st : PySem.W.codeIn K cd_st "Fraction.__str__" = true)
    (k_st : PySem.W.keepIn K (.ref f_st) = true)
    (i_st : PySem.W.isFn K (.ref f_st) = true)
    {f_by : Addr} {oc_by kV_by dc_by pm_by cd_by ct_by : Value} {od_by an_by : Option Addr} {sl_by : Array (Option Value)}
    (n_by : PySem.W.findIn K (.ref C) "by" = some (some (.ref f_by)))
    (l_by : K.lookup f_by = some ⟨oc_by, od_by, .func (PySem.W.fnOf "by" "Fraction.by" (defArgs sBy) (defBody sBy) (defScope sBy) .none kV_by dc_by pm_by an_by cd_by ct_by), sl_by⟩)
    (d_by : PySem.W.codeIn K cd_by "Fraction.by" = true)
    (k_by : PySem.W.keepIn K (.ref f_by) = true)
    (i_by : PySem.W.isFn K (.ref f_by) = true)
    {f_less : Addr} {oc_less kV_less dc_less pm_less cd_less ct_less : Value} {od_less an_less : Option Addr} {sl_less : Array (Option Value)}
    (n_less : PySem.W.findIn K (.ref C) "is_less" = some (some (.ref f_less)))
    (l_less : K.lookup f_less = some ⟨oc_less, od_less, .func (PySem.W.fnOf "is_less" "Fraction.is_less" (defArgs sLess) (defBody sLess) (defScope sLess) .none kV_less dc_less pm_less an_less cd_less ct_less), sl_less⟩)
    (d_less : PySem.W.codeIn K cd_less "Fraction.is_less" = true)
    (k_less : PySem.W.keepIn K (.ref f_less) = true)
    (i_less : PySem.W.isFn K (.ref f_less) = true)
    {f_pow : Addr} {oc_pow kV_pow dc_pow pm_pow cd_pow ct_pow : Value} {od_pow an_pow : Option Addr} {sl_pow : Array (Option Value)}
    (n_pow : PySem.W.findIn K (.ref C) "power" = some (some (.ref f_pow)))
    (l_pow : K.lookup f_pow = some ⟨oc_pow, od_pow, .func (PySem.W.fnOf "power" "Fraction.power" (defArgs sPow) (defBody sPow) (defScope sPow) .none kV_pow dc_pow pm_pow an_pow cd_pow ct_pow), sl_pow⟩)
    (d_pow : PySem.W.codeIn K cd_pow "Fraction.power" = true)
    (k_pow : PySem.W.keepIn K (.ref f_pow) = true)
    (i_pow : PySem.W.isFn K (.ref f_pow) = true)
    {f_top : Addr} {oc_top kV_top dc_top pm_top cd_top ct_top : Value} {od_top an_top : Option Addr} {sl_top : Array (Option Value)}
    {p_top : Addr} {r_top : List Value}
    (n_top : PySem.W.findIn K (.ref C) "top" = some (some (.ref p_top)))
    (g_top : PySem.W.specialIn K (.ref p_top) "__get__" = some (some (.builtin "property.__get__")))
    (t_top : PySem.W.takesIn K (.ref p_top) = some true)
    (r_topx : PySem.W.recIn K p_top "property" = some (.ref f_top :: r_top))
    (l_top : K.lookup f_top = some ⟨oc_top, od_top, .func (PySem.W.fnOf "top" "Fraction.top" (defArgs sTop) (defBody sTop) (defScope sTop) .none kV_top dc_top pm_top an_top cd_top ct_top), sl_top⟩)
    (d_top : PySem.W.codeIn K cd_top "Fraction.top" = true)
    (k_top : PySem.W.keepIn K (.ref f_top) = true)
    {f_bot : Addr} {oc_bot kV_bot dc_bot pm_bot cd_bot ct_bot : Value} {od_bot an_bot : Option Addr} {sl_bot : Array (Option Value)}
    {p_bot : Addr} {r_bot : List Value}
    (n_bot : PySem.W.findIn K (.ref C) "bottom" = some (some (.ref p_bot)))
    (g_bot : PySem.W.specialIn K (.ref p_bot) "__get__" = some (some (.builtin "property.__get__")))
    (t_bot : PySem.W.takesIn K (.ref p_bot) = some true)
    (r_botx : PySem.W.recIn K p_bot "property" = some (.ref f_bot :: r_bot))
    (l_bot : K.lookup f_bot = some ⟨oc_bot, od_bot, .func (PySem.W.fnOf "bottom" "Fraction.bottom" (defArgs sBot) (defBody sBot) (defScope sBot) .none kV_bot dc_bot pm_bot an_bot cd_bot ct_bot), sl_bot⟩)
    (d_bot : PySem.W.codeIn K cd_bot "Fraction.bottom" = true)
    (k_bot : PySem.W.keepIn K (.ref f_bot) = true)
    {f_ini : Addr} {oc_ini kV_ini dc_ini pm_ini cd_ini ct_ini : Value} {od_ini an_ini : Option Addr} {sl_ini : Array (Option Value)}
    {T_ini : Addr} {tc_ini : Value} {td_ini : Option Addr} {ti_ini : Array Value} {tn_ini : Nat} {ts_ini : Array (Option Value)} {tk_ini : Tok}
    (n_ini : PySem.W.findIn K (.ref C) "__init__" = some (some (.ref f_ini)))
    (l_ini : K.lookup f_ini = some ⟨oc_ini, od_ini, .func (PySem.W.fnOf "__init__" "Fraction.__init__" (defArgs sInit) (defBody sInit) (defScope sInit) (.ref T_ini) kV_ini dc_ini pm_ini an_ini cd_ini ct_ini), sl_ini⟩)
    (d_ini : PySem.W.codeIn K cd_ini "Fraction.__init__" = true)
    (k_ini : PySem.W.keepIn K (.ref f_ini) = true)
    (i_ini : PySem.W.isFn K (.ref f_ini) = true)
    (T_inix : K.lookup T_ini = some ⟨tc_ini, td_ini, .seq ti_ini tn_ini, ts_ini⟩)
    (v_ini : ti_ini = [Value.int 1 tk_ini].toArray)
    (z_int : PySem.W.nsIn K mainGlobals "int" = some none)
    (z_len : PySem.W.nsIn K mainGlobals "len" = some none)
    (z_abs : PySem.W.nsIn K mainGlobals "abs" = some none)
    (z_max : PySem.W.nsIn K mainGlobals "max" = some none)
    (z_min : PySem.W.nsIn K mainGlobals "min" = some none)
    (z_isinstance : PySem.W.nsIn K mainGlobals "isinstance" = some none)
    (z_range : PySem.W.nsIn K mainGlobals "range" = some none)
    (z_repr : PySem.W.nsIn K mainGlobals "repr" = some none)
    (z_str : PySem.W.nsIn K mainGlobals "str" = some none)
    (z_bool : PySem.W.nsIn K mainGlobals "bool" = some none)
    (z_tuple : PySem.W.nsIn K mainGlobals "tuple" = some none)
    (z_all : PySem.W.nsIn K mainGlobals "all" = some none)
    (z_sum : PySem.W.nsIn K mainGlobals "sum" = some none)
    (rcls : clsB K C = true)
    (rrow : rowB K C = true)
    (rop_add : opB K C "add" = true)
    (rop_sub : opB K C "sub" = true)
    (rop_mul : opB K C "mul" = true)
    (o_NoneType : oddB K C "NoneType" = true)
    (o_bool : oddB K C "bool" = true)
    (o_int : oddB K C "int" = true)
    (o_str : oddB K C "str" = true)
    (o_list : oddB K C "list" = true)
    (o_tuple : oddB K C "tuple" = true)
    (o_dict : oddB K C "dict" = true) :
    ∃ fd : FuncData, (∀ (s : Shared) (v : Value), BindsTo s fd ⟨[v], []⟩ [("_law_script", v)]) ∧ ∀ base : Heap, K.In base → base.Ns mainGlobals mg → FnG l.prog w K mg base CX0 9 fa fd ["_law_script"] (spLaw K) := by
  have e := hfa.symm.trans (PySem.W.mg_of X G n_law)
  cases e
  have no : ∀ {x : Str}, PySem.W.nsIn K mainGlobals x = some none → mg x = none := fun z => PySem.W.mg_none_of X G z
  have at_ : ∀ {x : Str} {v : Value}, PySem.W.nsIn K mainGlobals x = some (some v) → mg x = some v := fun z => PySem.W.mg_of X G z
  have F_plain := fun_mk (st := sPlain) l_plain d_plain k_plain
  have b_plain := F_plain.binds (ps := ["value"]) fun _ _ _ _ _ _ us hl => match us, hl with | [_], _ => rfl
  have F_atl := fun_mk (st := sAtl) l_atl d_atl k_atl
  have b_atl := F_atl.binds (ps := ["value", "least"]) fun _ _ _ _ _ _ us hl => match us, hl with | [_, _], _ => rfl
  have F_bet := fun_mk (st := sBet) l_bet d_bet k_bet
  have b_bet := F_bet.binds (ps := ["value", "least", "greatest"]) fun _ _ _ _ _ _ us hl => match us, hl with | [_, _, _], _ => rfl
  have F_isf := fun_mk (st := sIsF) l_isf d_isf k_isf
  have b_isf := F_isf.binds (ps := ["value"]) fun _ _ _ _ _ _ us hl => match us, hl with | [_], _ => rfl
  have F_asf := fun_mk (st := sAs) l_asf d_asf k_asf
  have b_asf := F_asf.binds (ps := ["value"]) fun _ _ _ _ _ _ us hl => match us, hl with | [_], _ => rfl
  have F_fs := fun_mk (st := sFs) l_fs d_fs k_fs
  have b_fs := F_fs.binds (ps := ["value"]) fun _ _ _ _ _ _ us hl => match us, hl with | [_], _ => rfl
  have F_over := fun_mk (st := sOver) l_over d_over k_over
  have b_over := F_over.binds (ps := ["fractions"]) fun _ _ _ _ _ _ us hl => match us, hl with | [_], _ => rfl
  have F_least := fun_mk (st := sLeast) l_least d_least k_least
  have b_least := F_least.binds (ps := ["fractions"]) fun _ _ _ _ _ _ us hl => match us, hl with | [_], _ => rfl
  have F_most := fun_mk (st := sMost) l_most d_most k_most
  have b_most := F_most.binds (ps := ["fractions"]) fun _ _ _ _ _ _ us hl => match us, hl with | [_], _ => rfl
  have F_total := fun_mk (st := sTotal) l_total d_total k_total
  have b_total := F_total.binds (ps := ["fractions"]) fun _ _ _ _ _ _ us hl => match us, hl with | [_], _ => rfl
  have F_some := fun_mk (st := sSome) l_some d_some k_some
  have b_some := F_some.binds (ps := ["fractions"]) fun _ _ _ _ _ _ us hl => match us, hl with | [_], _ => rfl
  have F_down := fun_mk (st := sDown) l_down d_down k_down
  have b_down := F_down.binds (ps := ["fraction", "bottom"]) fun _ _ _ _ _ _ us hl => match us, hl with | [_, _], _ => rfl
  have F_up := fun_mk (st := sUp) l_up d_up k_up
  have b_up := F_up.binds (ps := ["fraction", "bottom"]) fun _ _ _ _ _ _ us hl => match us, hl with | [_, _], _ => rfl
  have F_tob := fun_mk (st := sToB) l_tob d_tob k_tob
  have b_tob := F_tob.binds (ps := ["fraction", "bottom"]) fun _ _ _ _ _ _ us hl => match us, hl with | [_, _], _ => rfl
  have F_dice := fun_mk (st := LD.sDice) l_dice d_dice k_dice
  have b_dice := F_dice.binds (ps := ["_law_script", "_law_at"]) fun _ _ _ _ _ _ us hl => match us, hl with | [_, _], _ => rfl
  have F_roll := fun_mk (st := LD.sRoll) l_roll d_roll k_roll
  have b_roll := F_roll.binds (ps := ["_law_dice_here", "_law_total"]) fun _ _ _ _ _ _ us hl => match us, hl with | [_, _], _ => rfl
  have F_one := fun_mk (st := LD.sOneOf) l_one d_one k_one
  have b_one := F_one.binds (ps := ["_law_dice_here", "_law_items"]) fun _ _ _ _ _ _ us hl => match us, hl with | [_, _], _ => rfl
  have F_gcd := fun_mk (st := sGcd) l_gcd d_gcd k_gcd
  have b_gcd := F_gcd.binds (ps := ["_law_one", "_law_two"]) fun _ _ _ _ _ _ us hl => match us, hl with | [_, _], _ => rfl
  have F_rat := fun_mk (st := sRat) l_rat d_rat k_rat
  have b_rat := F_rat.binds (ps := ["_law_top", "_law_bottom"]) fun _ _ _ _ _ _ us hl => match us, hl with | [_, _], _ => rfl
  have F_plus := fun_mk (st := sPlus) l_plus d_plus k_plus
  have b_plus := F_plus.binds (ps := ["_law_one", "_law_two"]) fun _ _ _ _ _ _ us hl => match us, hl with | [_, _], _ => rfl
  have F_lby := fun_mk (st := sLby) l_lby d_lby k_lby
  have b_lby := F_lby.binds (ps := ["_law_one", "_law_two"]) fun _ _ _ _ _ _ us hl => match us, hl with | [_, _], _ => rfl
  have F_lle := fun_mk (st := sLle) l_lle d_lle k_lle
  have b_lle := F_lle.binds (ps := ["_law_one", "_law_two"]) fun _ _ _ _ _ _ us hl => match us, hl with | [_, _], _ => rfl
  have F_int := fun_mk (st := sInt) l_int d_int k_int
  have b_int := F_int.binds (ps := ["_law_dice_here"]) fun _ _ _ _ _ _ us hl => match us, hl with | [_], _ => rfl
  have F_cou := fun_mk (st := sCou) l_cou d_cou k_cou
  have b_cou := F_cou.binds (ps := ["_law_dice_here"]) fun _ _ _ _ _ _ us hl => match us, hl with | [_], _ => rfl
  have F_pair := fun_mk (st := sPair) l_pair d_pair k_pair
  have b_pair := F_pair.binds (ps := ["_law_top", "_law_bottom"]) fun _ _ _ _ _ _ us hl => match us, hl with | [_, _], _ => rfl
  have F_told := fun_mk (st := sTold) l_told d_told k_told
  have b_told := F_told.binds (ps := ["_law_thing"]) fun _ _ _ _ _ _ us hl => match us, hl with | [_], _ => rfl
  have F_lpw := fun_mk (st := sLpw) l_lpw d_lpw k_lpw
  have b_lpw := F_lpw.binds (ps := ["_law_pair_here", "_law_many"]) fun _ _ _ _ _ _ us hl => match us, hl with | [_, _], _ => rfl
  have F_two := fun_mk (st := sTwo) l_two d_two k_two
  have b_two := F_two.binds (ps := ["_law_first", "_law_second"]) fun _ _ _ _ _ _ us hl => match us, hl with | [_, _], _ => rfl
  have F_mix := fun_mk (st := sMix) l_mix d_mix k_mix
  have b_mix := F_mix.binds (ps := ["_law_first", "_law_number"]) fun _ _ _ _ _ _ us hl => match us, hl with | [_, _], _ => rfl
  have F_tupr := fun_mk (st := sTup) l_tupr d_tupr k_tupr
  have b_tupr := F_tupr.binds (ps := ["_law_dice_here", "_law_pairs"]) fun _ _ _ _ _ _ us hl => match us, hl with | [_, _], _ => rfl
  have F_rr := fun_mk (st := sRr) l_rr d_rr k_rr
  have b_rr := F_rr.binds (ps := ["_law_dice_here", "_law_first"]) fun _ _ _ _ _ _ us hl => match us, hl with | [_, _], _ => rfl
  have F_rig := fun_mk (st := sRig) l_rig d_rig k_rig
  have b_rig := F_rig.binds (ps := ["_law_dice_here"]) fun _ _ _ _ _ _ us hl => match us, hl with | [_], _ => rfl
  have F_law := fun_mk (st := sLaw) l_law d_law k_law
  have b_law := F_law.binds (ps := ["_law_script"]) fun _ _ _ _ _ _ us hl => match us, hl with | [_], _ => rfl
  have F_add := fun_mk (st := sAdd) l_add d_add k_add
  have b_add := F_add.binds (ps := ["self", "other"]) fun _ _ _ _ _ _ us hl => match us, hl with | [_, _], _ => rfl
  have F_radd := fun_mk (st := sRadd) l_radd d_radd k_radd
  have b_radd := F_radd.binds (ps := ["self", "other"]) fun _ _ _ _ _ _ us hl => match us, hl with | [_, _], _ => rfl
  have F_sub := fun_mk (st := sSub) l_sub d_sub k_sub
  have b_sub := F_sub.binds (ps := ["self", "other"]) fun _ _ _ _ _ _ us hl => match us, hl with | [_, _], _ => rfl
  have F_rsub := fun_mk (st := sRsub) l_rsub d_rsub k_rsub
  have b_rsub := F_rsub.binds (ps := ["self", "other"]) fun _ _ _ _ _ _ us hl => match us, hl with | [_, _], _ => rfl
  have F_mul := fun_mk (st := sMul) l_mul d_mul k_mul
  have b_mul := F_mul.binds (ps := ["self", "other"]) fun _ _ _ _ _ _ us hl => match us, hl with | [_, _], _ => rfl
  have F_rmul := fun_mk (st := sRmul) l_rmul d_rmul k_rmul
  have b_rmul := F_rmul.binds (ps := ["self", "other"]) fun _ _ _ _ _ _ us hl => match us, hl with | [_, _], _ => rfl
  have F_neg := fun_mk (st := sNeg) l_neg d_neg k_neg
  have b_neg := F_neg.binds (ps := ["self"]) fun _ _ _ _ _ _ us hl => match us, hl with | [_], _ => rfl
  have F_ab := fun_mk (st := sAbs) l_ab d_ab k_ab
  have b_ab := F_ab.binds (ps := ["self"]) fun _ _ _ _ _ _ us hl => match us, hl with | [_], _ => rfl
  have F_st := fun_mk (st := sStr) l_st d_st k_st
  have b_st := F_st.binds (ps := ["self"]) fun _ _ _ _ _ _ us hl => match us, hl with | [_], _ => rfl
  have F_by := fun_mk (st := sBy) l_by d_by k_by
  have b_by := F_by.binds (ps := ["self", "other"]) fun _ _ _ _ _ _ us hl => match us, hl with | [_, _], _ => rfl
  have F_less := fun_mk (st := sLess) l_less d_less k_less
  have b_less := F_less.binds (ps := ["self", "other"]) fun _ _ _ _ _ _ us hl => match us, hl with | [_, _], _ => rfl
  have F_pow := fun_mk (st := sPow) l_pow d_pow k_pow
  have b_pow := F_pow.binds (ps := ["self", "many"]) fun _ _ _ _ _ _ us hl => match us, hl with | [_, _], _ => rfl
  have F_top := fun_mk (st := sTop) l_top d_top k_top
  have b_top := F_top.binds (ps := ["self"]) fun _ _ _ _ _ _ us hl => match us, hl with | [_], _ => rfl
  have F_bot := fun_mk (st := sBot) l_bot d_bot k_bot
  have b_bot := F_bot.binds (ps := ["self"]) fun _ _ _ _ _ _ us hl => match us, hl with | [_], _ => rfl
  have cC := cls_of rcls
  simp only [rowB, Bool.and_eq_true, beq_iff_eq] at rrow
  obtain ⟨w1, w2, w3, w4, w5, w6, w7, w8, w9, w10, w11, w12⟩ := rrow
  have OD : OddsC K C := ⟨odd_of o_NoneType, odd_of o_bool, odd_of o_int, odd_of o_str, odd_of o_list, odd_of o_tuple, odd_of o_dict⟩
  have TF : TxtF K mg C := ⟨cC, w1, w2, at_ aC, at_ agcd⟩
  have TD : TxtD mg := ⟨no z_int, no z_len, no z_abs, no z_max⟩
  have TM : TxtM K mg C := ⟨no z_repr, no z_str, no z_abs, no z_range, no z_tuple, w11, op_of rop_add, op_of rop_sub, op_of rop_mul, OD.int.s⟩
  have TL : TxtL mg := ⟨no z_range, no z_max, no z_min, no z_len⟩
  subst v_ini
  have FI : FunD K "__init__" "Fraction.__init__" (defArgs sInit) (defBody sInit) (defScope sInit) [V.int 1] [] f_ini _ := ⟨⟨oc_ini, od_ini, .ref T_ini, kV_ini, dc_ini, pm_ini, an_ini, cd_ini, ct_ini, sl_ini, rfl, l_ini, d_ini, .inr ⟨by decide, T_ini, _, [.int 1 tk_ini], tn_ini, rfl, T_inix, rfl, .cons ⟨tk_ini, rfl⟩ .nil⟩, .inl rfl⟩, k_ini⟩
  obtain ⟨bI1, bI2⟩ := init_binds FI
  refine ⟨PySem.W.fnOf "law" "law" (defArgs sLaw) (defBody sLaw) (defScope sLaw) .none kV_law dc_law pm_law an_law cd_law ct_law, fun s v => .of_eq rfl, fun base _ _ => ?_⟩
  have GP : FnOk l.prog w K mg base CX0 1 f_plain _ ["value"] (spPlain K) := ok_plain F_plain (no z_isinstance) (no z_int) (no z_bool)
  have GI := ok_init (P := l.prog) (w := w) (base := base) FI TF GP (at_ n_plain) k_plain b_plain
  have GTo : FnOk l.prog w K mg base CX0 1 f_top _ ["self"] (getSp C "_top") := fn_getter (N := ["self"]) l_top d_top ⟨rfl, rfl, rfl, by decide +kernel, rfl, by decide +kernel, by decide +kernel⟩ rfl rfl cC w1
  have GBo : FnOk l.prog w K mg base CX0 1 f_bot _ ["self"] (getSp C "_bottom") := fn_getter (N := ["self"]) l_bot d_bot ⟨rfl, rfl, rfl, by decide +kernel, rfl, by decide +kernel, by decide +kernel⟩ rfl rfl cC w2
  have k : FrK l.prog w K mg base C f_ini p_top f_top p_bot f_bot _ _ _ := ⟨TF, ⟨w9, n_ini, i_ini, w10⟩, GI, bI1, bI2, ⟨n_top, g_top, t_top, _, r_topx⟩, GTo, b_top, ⟨n_bot, g_bot, t_bot, _, r_botx⟩, GBo, b_bot, no z_isinstance, w3, w4, w5, w6, OD.int.k⟩
  have GA := ok_as F_asf k
  have gA : Glo l.prog w K mg base "as_fraction" 4 ["value"] (spAs C) := ⟨_, _, GA, at_ n_asf, k_asf, b_asf⟩
  have GAdd := ok_add F_add k GA (at_ n_asf) k_asf b_asf
  have GSub := ok_sub F_sub k GA (at_ n_asf) k_asf b_asf
  have GMul := ok_mul F_mul k GA (at_ n_asf) k_asf b_asf
  have GRs := ok_rsub F_rsub k GA (at_ n_asf) k_asf b_asf w11 ⟨n_sub, i_sub⟩ GSub b_sub
  have GRa := ok_radd F_radd GA (at_ n_asf) k_asf b_asf w11 ⟨n_add, i_add⟩ GAdd b_add
  have GRm := ok_rmul F_rmul GA (at_ n_asf) k_asf b_asf w11 ⟨n_mul, i_mul⟩ GMul b_mul
  have GIsF := ok_isF F_isf k OD GP (at_ n_plain) k_plain b_plain
  have GAtl := ok_atl (P := l.prog) (w := w) (base := base) F_atl GP (at_ n_plain) k_plain b_plain
  have GBet := ok_bet (P := l.prog) (w := w) (base := base) F_bet GP (at_ n_plain) k_plain b_plain
  have mAdd : Met l.prog w K mg base C "__add__" 5 ["self", "other"] (spOp C fAdd) := ⟨_, _, ⟨n_add, i_add⟩, k_add, GAdd, b_add⟩
  have mSub : Met l.prog w K mg base C "__sub__" 5 ["self", "other"] (spOp C fSub) := ⟨_, _, ⟨n_sub, i_sub⟩, k_sub, GSub, b_sub⟩
  have mMul : Met l.prog w K mg base C "__mul__" 5 ["self", "other"] (spOp C fMul) := ⟨_, _, ⟨n_mul, i_mul⟩, k_mul, GMul, b_mul⟩
  have mRsub : Met l.prog w K mg base C "__rsub__" 6 ["self", "other"] (spRsub C) := ⟨_, _, ⟨n_rsub, i_rsub⟩, k_rsub, GRs, b_rsub⟩
  have mRadd : Met l.prog w K mg base C "__radd__" 6 ["self", "other"] (spRop C fAdd) := ⟨_, _, ⟨n_radd, i_radd⟩, k_radd, GRa, b_radd⟩
  have mRmul : Met l.prog w K mg base C "__rmul__" 6 ["self", "other"] (spRop C fMul) := ⟨_, _, ⟨n_rmul, i_rmul⟩, k_rmul, GRm, b_rmul⟩
  have mNeg : Met l.prog w K mg base C "__neg__" 4 ["self"] (spNeg C) := ⟨_, _, ⟨n_neg, i_neg⟩, k_neg, ok_neg F_neg k, b_neg⟩
  have mAbs : Met l.prog w K mg base C "__abs__" 4 ["self"] (spAbs C) := ⟨_, _, ⟨n_ab, i_ab⟩, k_ab, ok_abs F_ab k (no z_abs), b_ab⟩
  have mBy : Met l.prog w K mg base C "by" 5 ["self", "other"] (spBy C) := ⟨_, _, ⟨n_by, i_by⟩, k_by, ok_by F_by k GA (at_ n_asf) k_asf b_asf, b_by⟩
  have mLess : Met l.prog w K mg base C "is_less" 5 ["self", "other"] (spLess C) := ⟨_, _, ⟨n_less, i_less⟩, k_less, ok_less F_less k GA (at_ n_asf) k_asf b_asf, b_less⟩
  have mPow : Met l.prog w K mg base C "power" 4 ["self", "many"] (spPow C) := ⟨_, _, ⟨n_pow, i_pow⟩, k_pow, ok_pow F_pow k GBet (at_ n_bet) k_bet b_bet (at_ aM) (no z_range), b_pow⟩
  have mStr : Met l.prog w K mg base C "__str__" 3 ["self"] (spStr C) := ⟨_, _, ⟨n_st, i_st⟩, k_st, ok_str F_st k (no z_str), b_st⟩
  have gFs : Glo l.prog w K mg base "is_fractions" 3 ["value"] (spFs C) := ⟨_, _, ok_fs F_fs GIsF (at_ n_isf) k_isf b_isf (no z_isinstance) (no z_tuple) (no z_all), at_ n_fs, k_fs, b_fs⟩
  have gOv : Glo l.prog w K mg base "over_one_bottom" 5 ["fractions"] (spOver C) := ⟨_, _, ok_over F_over k GA (at_ n_asf) k_asf b_asf (at_ alcm), at_ n_over, k_over, b_over⟩
  have gSo : Glo l.prog w K mg base "_some_fractions" 5 ["fractions"] (spSome C) := ⟨_, _, ok_some F_some gFs gA (no z_len), at_ n_some, k_some, b_some⟩
  have gLe : Glo l.prog w K mg base "least_of" 6 ["fractions"] (spPick C leastP) := ⟨_, _, ok_least F_least cC gSo mLess, at_ n_least, k_least, b_least⟩
  have gMo : Glo l.prog w K mg base "greatest_of" 6 ["fractions"] (spPick C mostP) := ⟨_, _, ok_most F_most cC gSo mLess, at_ n_most, k_most, b_most⟩
  have gTo : Glo l.prog w K mg base "total_of" 6 ["fractions"] (spTotal C) := ⟨_, _, ok_total F_total k gFs gOv (no z_sum), at_ n_total, k_total, b_total⟩
  have gTb : Glo l.prog w K mg base "_to_be_rounded" 5 ["fraction", "bottom"] (spToB C) := ⟨_, _, ok_tob F_tob gA ⟨_, _, GAtl, at_ n_atl, k_atl, b_atl⟩, at_ n_tob, k_tob, b_tob⟩
  have gDn : Glo l.prog w K mg base "rounded_down" 6 ["fraction", "bottom"] (spRnd C fDown) := ⟨_, _, ok_down F_down k gTb, at_ n_down, k_down, b_down⟩
  have gUp : Glo l.prog w K mg base "rounded_up" 6 ["fraction", "bottom"] (spRnd C fUp) := ⟨_, _, ok_up F_up k gTb, at_ n_up, k_up, b_up⟩
  have GR : FnOk l.prog w K mg base CX0 1 f_roll _ ["_law_dice_here", "_law_total"] spRoll := ok_roll F_roll TD.mI
  have GO : FnOk l.prog w K mg base CX0 2 f_one _ ["_law_dice_here", "_law_items"] spOneOf := ok_oneOf F_one TD F_roll (at_ n_roll) k_roll b_roll
  have GG : FnOk l.prog w K mg base CX0 1 f_gcd _ ["_law_one", "_law_two"] spGcd := ok_gcd F_gcd (no z_int)
  have GRat := ok_rat F_rat GG (at_ n_gcd) k_gcd b_gcd (no z_abs)
  have GPair := ok_pair F_pair GRat (at_ n_rat) k_rat b_rat
  have GInt := ok_int F_int GR (at_ n_roll) k_roll b_roll GO (at_ n_one) k_one b_one
  have GCou := ok_cou F_cou GInt (at_ n_int) k_int b_int GO (at_ n_one) k_one b_one
  have gRa : Glo l.prog w K mg base "_law_ratio" 2 ["_law_top", "_law_bottom"] spRat := ⟨_, _, GRat, at_ n_rat, k_rat, b_rat⟩
  have gI : Glo l.prog w K mg base "_law_integer" 3 ["_law_dice_here"] spInt := ⟨_, _, GInt, at_ n_int, k_int, b_int⟩
  have gC : Glo l.prog w K mg base "_law_couple" 4 ["_law_dice_here"] spCou := ⟨_, _, GCou, at_ n_cou, k_cou, b_cou⟩
  have gPa : Glo l.prog w K mg base "_law_pair" 3 ["_law_top", "_law_bottom"] spPair := ⟨_, _, GPair, at_ n_pair, k_pair, b_pair⟩
  have gT : Glo l.prog w K mg base "_law_told" 3 ["_law_thing"] (spTold C) := ⟨_, _, ok_told F_told k, at_ n_told, k_told, b_told⟩
  have gR : Glo l.prog w K mg base "_law_roll" 1 ["_law_dice_here", "_law_total"] spRoll := ⟨_, _, GR, at_ n_roll, k_roll, b_roll⟩
  have gO : Glo l.prog w K mg base "_law_one_of" 2 ["_law_dice_here", "_law_items"] spOneOf := ⟨_, _, GO, at_ n_one, k_one, b_one⟩
  have gD : Glo l.prog w K mg base "_law_dice" 1 ["_law_script", "_law_at"] (spDice K) := ⟨_, _, ok_dice F_dice TD, at_ n_dice, k_dice, b_dice⟩
  have gP : Glo l.prog w K mg base "_law_plus" 3 N12 (spLP plusP) := ⟨_, _, ok_plus F_plus gRa, at_ n_plus, k_plus, b_plus⟩
  have gB' : Glo l.prog w K mg base "_law_by" 3 N12 (spLP byP) := ⟨_, _, ok_lby F_lby gRa, at_ n_lby, k_lby, b_lby⟩
  have gL : Glo l.prog w K mg base "_law_is_less" 1 N12 spLle := ⟨_, _, ok_lle F_lle, at_ n_lle, k_lle, b_lle⟩
  have gPw : Glo l.prog w K mg base "_law_power" 1 ["_law_pair_here", "_law_many"] spLpw := ⟨_, _, ok_lpw F_lpw (no z_range), at_ n_lpw, k_lpw, b_lpw⟩
  have g2 : GloG l.prog w K mg base "_law_two_right" 7 ["_law_first", "_law_second"] spTwo := ⟨_, _, ok_two F_two k TM gP gB' gL gT gPa mAdd mSub mMul mRsub mNeg mAbs mBy mLess, at_ n_two, k_two, b_two⟩
  have gX : GloG l.prog w K mg base "_law_mixed_right" 7 ["_law_first", "_law_number"] spMix := ⟨_, _, ok_mix F_mix k TM gP gB' gL gT gPa mAdd mSub mMul mRsub mRadd mRmul mBy mLess, at_ n_mix, k_mix, b_mix⟩
  have gTu : GloG l.prog w K mg base "_law_tuple_right" 7 ["_law_dice_here", "_law_pairs"] spTup := ⟨_, _, ok_tup F_tupr k TM gP gL gT gR gLe gMo gTo, at_ n_tupr, k_tupr, b_tupr⟩
  have gRr : GloG l.prog w K mg base "_law_rounded_right" 7 ["_law_dice_here", "_law_first"] spRr := ⟨_, _, ok_rr F_rr k TM gO gR gRa gT gDn gUp, at_ n_rr, k_rr, b_rr⟩
  have gG : GloG l.prog w K mg base "_law_right" 8 ["_law_dice_here"] spRig := ⟨_, _, ok_rig F_rig k TM gC gPa gO gR gT gPw gI mPow g2 gX gTu gRr, at_ n_rig, k_rig, b_rig⟩
  exact ok_law F_law k TM TL gD gG gDn gUp gLe gMo gTo mAdd mSub mMul mRsub mNeg mAbs mBy mPow mStr
end FR
open PySem PySem.W PyProof.Rows
set_option Elab.async false
set_option maxRecDepth 100000 in
set_option maxHeartbeats 0 in
theorem PySem.Challenge.cw_surelyends_k02_sums_products_and_others_holds : PySem.Challenge.rw_surelyends_k02_sums_products_and_others.Holds := by
  w_on; o_law; k_head; (case hw => w_witness2)
  k_fill
  refine L2.walkG (l := PySem.Challenge.rw_surelyends_k02_sums_products_and_others) (n := 63) (k := 9) (x := "_law_script") (CX := fun _ => L2.CX0) (sp := fun w => FR.spLaw _) rfl (by decide) rfl ⟨rfl, by decide, by decide⟩ (fun w h Y => PySem.W.kIn_of Y) ?F (fun _ _ a ns hl _ hS => ⟨a, ns, rfl, hS, fun _ => rfl⟩) fun _ _ _ _ _ z => z
  case F =>
    intro w mg fa h KX G hmg
    refine' FR.all_mk KX G hmg ?aC ?agcd ?alcm ?aM ?n_plain ?l_plain ?d_plain ?k_plain ?n_atl ?l_atl ?d_atl ?k_atl ?n_bet ?l_bet ?d_bet ?k_bet ?n_isf ?l_isf ?d_isf ?k_isf ?n_asf ?l_asf ?d_asf ?k_asf ?n_fs ?l_fs ?d_fs ?k_fs ?n_over ?l_over ?d_over ?k_over ?n_least ?l_least ?d_least ?k_least ?n_most ?l_most ?d_most ?k_most ?n_total ?l_total ?d_total ?k_total ?n_some ?l_some ?d_some ?k_some ?n_down ?l_down ?d_down ?k_down ?n_up ?l_up ?d_up ?k_up ?n_tob ?l_tob ?d_tob ?k_tob ?n_dice ?l_dice ?d_dice ?k_dice ?n_roll ?l_roll ?d_roll ?k_roll ?n_one ?l_one ?d_one ?k_one ?n_gcd ?l_gcd ?d_gcd ?k_gcd ?n_rat ?l_rat ?d_rat ?k_rat ?n_plus ?l_plus ?d_plus ?k_plus ?n_lby ?l_lby ?d_lby ?k_lby ?n_lle ?l_lle ?d_lle ?k_lle ?n_int ?l_int ?d_int ?k_int ?n_cou ?l_cou ?d_cou ?k_cou ?n_pair ?l_pair ?d_pair ?k_pair ?n_told ?l_told ?d_told ?k_told ?n_lpw ?l_lpw ?d_lpw ?k_lpw ?n_two ?l_two ?d_two ?k_two ?n_mix ?l_mix ?d_mix ?k_mix ?n_tupr ?l_tupr ?d_tupr ?k_tupr ?n_rr ?l_rr ?d_rr ?k_rr ?n_rig ?l_rig ?d_rig ?k_rig ?n_law ?l_law ?d_law ?k_law ?n_add ?l_add ?d_add ?k_add ?i_add ?n_radd ?l_radd ?d_radd ?k_radd ?i_radd ?n_sub ?l_sub ?d_sub ?k_sub ?i_sub ?n_rsub ?l_rsub ?d_rsub ?k_rsub ?i_rsub ?n_mul ?l_mul ?d_mul ?k_mul ?i_mul ?n_rmul ?l_rmul ?d_rmul ?k_rmul ?i_rmul ?n_neg ?l_neg ?d_neg ?k_neg ?i_neg ?n_ab ?l_ab ?d_ab ?k_ab ?i_ab ?n_st ?l_st ?d_st ?k_st ?i_st ?n_by ?l_by ?d_by ?k_by ?i_by ?n_less ?l_less ?d_less ?k_less ?i_less ?n_pow ?l_pow ?d_pow ?k_pow ?i_pow ?n_top ?g_top ?t_top ?r_topx ?l_top ?d_top ?k_top ?n_bot ?g_bot ?t_bot ?r_botx ?l_bot ?d_bot ?k_bot ?n_ini ?l_ini ?d_ini ?k_ini ?i_ini ?T_inix ?v_ini ?z_int ?z_len ?z_abs ?z_max ?z_min ?z_isinstance ?z_range ?z_repr ?z_str ?z_bool ?z_tuple ?z_all ?z_sum ?rcls ?rrow ?rop_add ?rop_sub ?rop_mul ?o_NoneType ?o_bool ?o_int ?o_str ?o_list ?o_tuple ?o_dict
    (case aC => k_is)
    (case agcd => k_is)
    (case alcm => k_is)
    (case aM => k_is)
    (case n_plain => k_is)
    (case l_plain => k_is)
    (case d_plain => k_is)
    (case k_plain => k_is)
    (case n_atl => k_is)
    (case l_atl => k_is)
    (case d_atl => k_is)
    (case k_atl => k_is)
    (case n_bet => k_is)
    (case l_bet => k_is)
    (case d_bet => k_is)
    (case k_bet => k_is)
    (case n_isf => k_is)
    (case l_isf => k_is)
    (case d_isf => k_is)
    (case k_isf => k_is)
    (case n_asf => k_is)
    (case l_asf => k_is)
    (case d_asf => k_is)
    (case k_asf => k_is)
    (case n_fs => k_is)
    (case l_fs => k_is)
    (case d_fs => k_is)
    (case k_fs => k_is)
    (case n_over => k_is)
    (case l_over => k_is)
    (case d_over => k_is)
    (case k_over => k_is)
    (case n_least => k_is)
    (case l_least => k_is)
    (case d_least => k_is)
    (case k_least => k_is)
    (case n_most => k_is)
    (case l_most => k_is)
    (case d_most => k_is)
    (case k_most => k_is)
    (case n_total => k_is)
    (case l_total => k_is)
    (case d_total => k_is)
    (case k_total => k_is)
    (case n_some => k_is)
    (case l_some => k_is)
    (case d_some => k_is)
    (case k_some => k_is)
    (case n_down => k_is)
    (case l_down => k_is)
    (case d_down => k_is)
    (case k_down => k_is)
    (case n_up => k_is)
    (case l_up => k_is)
    (case d_up => k_is)
    (case k_up => k_is)
    (case n_tob => k_is)
    (case l_tob => k_is)
    (case d_tob => k_is)
    (case k_tob => k_is)
    (case n_dice => k_is)
    (case l_dice => k_is)
    (case d_dice => k_is)
    (case k_dice => k_is)
    (case n_roll => k_is)
    (case l_roll => k_is)
    (case d_roll => k_is)
    (case k_roll => k_is)
    (case n_one => k_is)
    (case l_one => k_is)
    (case d_one => k_is)
    (case k_one => k_is)
    (case n_gcd => k_is)
    (case l_gcd => k_is)
    (case d_gcd => k_is)
    (case k_gcd => k_is)
    (case n_rat => k_is)
    (case l_rat => k_is)
    (case d_rat => k_is)
    (case k_rat => k_is)
    (case n_plus => k_is)
    (case l_plus => k_is)
    (case d_plus => k_is)
    (case k_plus => k_is)
    (case n_lby => k_is)
    (case l_lby => k_is)
    (case d_lby => k_is)
    (case k_lby => k_is)
    (case n_lle => k_is)
    (case l_lle => k_is)
    (case d_lle => k_is)
    (case k_lle => k_is)
    (case n_int => k_is)
    (case l_int => k_is)
    (case d_int => k_is)
    (case k_int => k_is)
    (case n_cou => k_is)
    (case l_cou => k_is)
    (case d_cou => k_is)
    (case k_cou => k_is)
    (case n_pair => k_is)
    (case l_pair => k_is)
    (case d_pair => k_is)
    (case k_pair => k_is)
    (case n_told => k_is)
    (case l_told => k_is)
    (case d_told => k_is)
    (case k_told => k_is)
    (case n_lpw => k_is)
    (case l_lpw => k_is)
    (case d_lpw => k_is)
    (case k_lpw => k_is)
    (case n_two => k_is)
    (case l_two => k_is)
    (case d_two => k_is)
    (case k_two => k_is)
    (case n_mix => k_is)
    (case l_mix => k_is)
    (case d_mix => k_is)
    (case k_mix => k_is)
    (case n_tupr => k_is)
    (case l_tupr => k_is)
    (case d_tupr => k_is)
    (case k_tupr => k_is)
    (case n_rr => k_is)
    (case l_rr => k_is)
    (case d_rr => k_is)
    (case k_rr => k_is)
    (case n_rig => k_is)
    (case l_rig => k_is)
    (case d_rig => k_is)
    (case k_rig => k_is)
    (case n_law => k_is)
    (case l_law => k_is)
    (case d_law => k_is)
    (case k_law => k_is)
    (case n_add => k_is)
    (case l_add => k_is)
    (case d_add => k_is)
    (case k_add => k_is)
    (case i_add => k_is)
    (case n_radd => k_is)
    (case l_radd => k_is)
    (case d_radd => k_is)
    (case k_radd => k_is)
    (case i_radd => k_is)
    (case n_sub => k_is)
    (case l_sub => k_is)
    (case d_sub => k_is)
    (case k_sub => k_is)
    (case i_sub => k_is)
    (case n_rsub => k_is)
    (case l_rsub => k_is)
    (case d_rsub => k_is)
    (case k_rsub => k_is)
    (case i_rsub => k_is)
    (case n_mul => k_is)
    (case l_mul => k_is)
    (case d_mul => k_is)
    (case k_mul => k_is)
    (case i_mul => k_is)
    (case n_rmul => k_is)
    (case l_rmul => k_is)
    (case d_rmul => k_is)
    (case k_rmul => k_is)
    (case i_rmul => k_is)
    (case n_neg => k_is)
    (case l_neg => k_is)
    (case d_neg => k_is)
    (case k_neg => k_is)
    (case i_neg => k_is)
    (case n_ab => k_is)
    (case l_ab => k_is)
    (case d_ab => k_is)
    (case k_ab => k_is)
    (case i_ab => k_is)
    (case n_st => k_is)
    (case l_st => k_is)
    (case d_st => k_is)
    (case k_st => k_is)
    (case i_st => k_is)
    (case n_by => k_is)
    (case l_by => k_is)
    (case d_by => k_is)
    (case k_by => k_is)
    (case i_by => k_is)
    (case n_less => k_is)
    (case l_less => k_is)
    (case d_less => k_is)
    (case k_less => k_is)
    (case i_less => k_is)
    (case n_pow => k_is)
    (case l_pow => k_is)
    (case d_pow => k_is)
    (case k_pow => k_is)
    (case i_pow => k_is)
    (case n_top => k_is)
    (case g_top => k_is)
    (case t_top => k_is)
    (case r_topx => k_is)
    (case l_top => k_is)
    (case d_top => k_is)
    (case k_top => k_is)
    (case n_bot => k_is)
    (case g_bot => k_is)
    (case t_bot => k_is)
    (case r_botx => k_is)
    (case l_bot => k_is)
    (case d_bot => k_is)
    (case k_bot => k_is)
    (case n_ini => k_is)
    (case l_ini => k_is)
    (case d_ini => k_is)
    (case k_ini => k_is)
    (case i_ini => k_is)
    (case T_inix => k_is)
    (case v_ini => rfl)
    (case z_int => k_is)
    (case z_len => k_is)
    (case z_abs => k_is)
    (case z_max => k_is)
    (case z_min => k_is)
    (case z_isinstance => k_is)
    (case z_range => k_is)
    (case z_repr => k_is)
    (case z_str => k_is)
    (case z_bool => k_is)
    (case z_tuple => k_is)
    (case z_all => k_is)
    (case z_sum => k_is)
    (case rcls => kernel_rfl)
    (case rrow => kernel_rfl)
    (case rop_add => kernel_rfl)
    (case rop_sub => kernel_rfl)
    (case rop_mul => kernel_rfl)
    (case o_NoneType => kernel_rfl)
    (case o_bool => kernel_rfl)
    (case o_int => kernel_rfl)
    (case o_str => kernel_rfl)
    (case o_list => kernel_rfl)
    (case o_tuple => kernel_rfl)
    (case o_dict => kernel_rfl)
