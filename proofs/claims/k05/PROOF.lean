import PyProof.Rows.All
import Wide.All
import OpenK.AllK
import Wide.FinOn
import HandS.ForMost
import HandS.Wide
import HandS.Gcd
import HandS.Property
import HandS.IsInst
import HandS.Flow
import HandS.Defaults
import KE.KOpsOwn
import KE.KCallOwn
import HandS.OwnEq
import KE.KEqDict
import KE.KMathG
import HandS.Zip
import HandS.Walk
import HandS.DictComp
import HandS.More
import HandS.Deep
import PyProof.P3In
import PyProof.CollectIter
import PyProof.Walks
import KE.GoesEnum
import HandS.Star
import HandS.TupAny
import HandS.TupLe
import HandS.RaiseMore
import HandS.Conv
import HandS.TupMul
import PySem.Challenge.RW_surelyends_k05_solutions_or_none
set_option Elab.async false
set_option linter.all false
set_option maxRecDepth 100000
set_option maxHeartbeats 4000000
/-! Fractions: what the class does -/
namespace FR
open PySem PySem.Spec PyProof.Rows L2
def top (i : Nat) : Stmt := PySem.Challenge.pw_surelyends_k05_solutions_or_none.main.body.getD i (.Pass ⟨0, 0, 0, 0⟩)
abbrev sPlain : Stmt := top 11
abbrev sFrac : Stmt := top 14
abbrev sInit : Stmt := inClass sFrac 0
abbrev sTop : Stmt := inClass sFrac 1
abbrev sBot : Stmt := inClass sFrac 2
abbrev sAs : Stmt := top 16
/-! ### the mathematics of the least form -/
/-- what both are divided by -/
def dv (t b : Int) : Int := if b < 0 then -((Nat.gcd t.natAbs b.natAbs : Nat) : Int) else ((Nat.gcd t.natAbs b.natAbs : Nat) : Int)
def nT (t b : Int) : Int := t.fdiv (dv t b)
def nB (t b : Int) : Int := b.fdiv (dv t b)
theorem dv_ne {t b : Int} (h : b ≠ 0) : dv t b ≠ 0 := by
  have z : 0 < Nat.gcd t.natAbs b.natAbs := Nat.gcd_pos_of_pos_right _ (by omega)
  unfold dv
  split <;> omega
theorem dv_le {t b : Int} (h : b ≠ 0) : (dv t b).natAbs ≤ b.natAbs := by
  have z : Nat.gcd t.natAbs b.natAbs ≤ b.natAbs := Nat.gcd_le_right _ (by omega)
  unfold dv
  split <;> omega
/-! ### divisions by great numbers of both signs -/
def CDivX (_ j : Int) : Prop := j ≠ 0 ∧ j.natAbs.log2 < 9000
theorem op_fdivX {X : Cx} : OpR X (binaryOp .FloorDiv) (rI CDivX fun i j => .int (i.fdiv j)) := opI fun i j _ _ _ _ _ hc q => floordiv_int hc.1 q (.inl (PyProof.noPylong_of_log2 hc.2))
theorem dv8 {t b : Int} (h : b ≠ 0) (hb : b.natAbs < 2 ^ 8000) : (dv t b).natAbs < 2 ^ 8000 := Nat.lt_of_le_of_lt (dv_le h) hb
theorem div_ok {i j : Int} {n : Nat} (h : j ≠ 0) (hb : j.natAbs < 2 ^ n) (h0 : 0 < n) (h9 : n ≤ 9000) : CDivX i j := ⟨h, Nat.lt_of_lt_of_le (PySem.Flt.log2_lt_of h0 hb) h9⟩
/-! ### what is an integer -/
def spPlain (K : PySem.W.Frag) : Sp := fun vs H Q _ => ∃ (v : V) (t : Value) (b1 b2 : Bool), vs = [v] ∧ TyX K H v t ∧ PySem.W.kitOne K t (.type "int") = some b1 ∧ PySem.W.kitOne K t (.type "bool") = some b2 ∧ Q (.bl (b1 && !b2)) H
section
variable {P : Program} {w : World} {K : PySem.W.Frag} {mg : Str → Option Value} {base : Heap}
theorem scP : FnScope ["value"] ["value"] (defScope sPlain) := ⟨rfl, rfl, rfl, by decide +kernel, rfl, by decide +kernel, by decide +kernel⟩
theorem ok_plain {f : Addr} {fd : FuncData} (F : Fun K "is_plain_integer" "is_plain_integer" sPlain f fd) (m1 : mg "isinstance" = none) (m2 : mg "int" = none) (m3 : mg "bool" = none) : FnOk P w K mg base CX0 1 f fd ["value"] (spPlain K) := by
  refine F.ok scP (fun vs H Q E h => ?_) (fun cdv A outer s H vs Q E hr h => ?_)
  · obtain ⟨v, _, _, _, rfl, _⟩ := h
    rfl
  · obtain ⟨v, t, b1, b2, rfl, ht, h1, h2, k⟩ := h
    refine ⟨_, pss_one (ps_ret (pe_and (pe_callB call_isi (by rfl) m1 PyProof.Rows.boot_isinstance (pa_cons (pv 0) (pa_cons (pe_bltn (v := .ty "int") (by rfl) m2 (by decide +kernel) rfl) pa_nil)))
      (pe_one (pe_not (pe_callB call_isi (by rfl) m1 PyProof.Rows.boot_isinstance (pa_cons (pv 0) (pa_cons (pe_bltn (v := .ty "bool") (by rfl) m3 (by decide +kernel) rfl) pa_nil))))))), ?_⟩
    refine ⟨_, rfl, v, _, t, _, b1, rfl, .ty _, ht, h1, _, rfl, ?_⟩
    cases b1 with
    | false => exact k
    | true => exact ⟨_, rfl, v, _, t, _, b2, rfl, .ty _, ht, h2, _, rfl, k⟩
theorem kI1 : PySem.W.kitOne K (.type "int") (.type "int") = some true := kit_ty (by decide +kernel)
theorem kI2 : PySem.W.kitOne K (.type "int") (.type "bool") = some false := kit_ty (by decide +kernel)
/-! ### a Fraction -/
def fl (t b : Int) : List (Str × V) := putF "_bottom" (.int b) (putF "_top" (.int t) [])
theorem nTB : ¬ (("_top" : Str) = "_bottom") := by decide +kernel
theorem fl_top (t b : Int) : (fl t b).lookup ("_top" : Str) = some (.int t) := by
  unfold fl
  rw [lookup_putF, if_neg nTB, lookup_putF, if_pos rfl]
theorem fl_bot (t b : Int) : (fl t b).lookup ("_bottom" : Str) = some (.int b) := by
  unfold fl
  rw [lookup_putF, if_pos rfl]
theorem fl_no (t b : Int) {m : Str} (h1 : ¬ m = "_bottom") (h2 : ¬ m = "_top") : (fl t b).lookup m = none := by
  unfold fl
  rw [lookup_putF, if_neg h1, lookup_putF, if_neg h2]
  all_goals rfl
/-- a Fraction with this top and bottom stands at p -/
def FrAt (C : Addr) (H : Hp) (p : Addr) (t b : Int) : Prop := ∃ dx, H p = some (.ins C dx (fl t b))
structure TxtF (K : PySem.W.Frag) (mg : Str → Option Value) (C : Addr) : Prop where
  cl : Cls K C
  nT : NoAttr K C "_top"
  nB : NoAttr K C "_bottom"
  mC : mg "Fraction" = some (.ref C)
  gcd : mg "gcd" = some (.builtin "math.gcd")
def spInit (C : Addr) : Sp := fun vs H Q _ => ∃ (p dx : Addr) (t b : Int), vs = [.ref p, .int t, .int b] ∧ H p = some (.ins C dx []) ∧ b ≠ 0 ∧ (dv t b).natAbs < 2 ^ 8000 ∧
  ∀ H', FrAt C H' p (nT t b) (nB t b) → (∀ q o, q ≠ p → H q = some o → H' q = some o) → Q .non H'
theorem scI : FnScope ["self", "top", "bottom", "shared"] ["self", "top", "bottom"] (defScope sInit) := ⟨rfl, rfl, rfl, by decide +kernel, rfl, by decide +kernel, by decide +kernel⟩
theorem ok_init {f fP C : Addr} {fd fdP : FuncData} (F : FunD K "__init__" "Fraction.__init__" (defArgs sInit) (defBody sInit) (defScope sInit) [V.int 1] [] f fd) (T : TxtF K mg C) (GP : FnOk P w K mg base CX0 1 fP fdP ["value"] (spPlain K)) (mP : mg "is_plain_integer" = some (.ref fP)) (kP : PySem.W.keepIn K (.ref fP) = true)
    (bP : Binds K fdP ["value"] []) : FnOk P w K mg base CX0 2 f fd ["self", "top", "bottom"] (spInit C) := by
  refine F.ok scI (fun vs H Q E h => ?_) (fun cdv A outer s H vs Q E hr h => ?_)
  · obtain ⟨p, dx, t, b, rfl, _⟩ := h
    rfl
  · obtain ⟨p, dx, t, b, rfl, hp, hb, hz, k⟩ := h
    refine ⟨_, pss_cons (ps_if (PW.pt (pw_or (pt_not (pt_val (pe_call GP hr (by rfl) mP kP bP .nil pass0 (pa_cons (pv 1) pa_nil)))) (pw_or (pt_not (pt_val (pe_call GP hr (by rfl) mP kP bP .nil pass0 (pa_cons (pv 2) pa_nil))))
        (pw_or1 (pt_cmpR op_eq (pv 2) pe_int (nomark _)))))) pss_never pss_nil)
      (pss_cons (ps_set (i := 3) scI.nd rfl (Or.inl rfl) (pe_callBfun cr_gcd (by rfl) T.gcd (pa_cons (pv 1) (pa_cons (pv 2) pa_nil))))
      (pss_cons (ps_if (pt_cmpR op_lt (pv 2) pe_int (nomark _)) (pss_one (ps_set (i := 3) scI.nd rfl (Or.inl rfl) (pe_un un_neg (pv 3)))) pss_nil)
      (pss_cons (ps_fld (pv 0) (pe_op op_fdivX (pv 1) (pv 3)) rfl)
      (pss_one (ps_fld (pv 0) (pe_op op_fdivX (pv 2) (pv 3)) rfl))))), ?_⟩
    refine ⟨_, rfl, _, _, true, false, rfl, .base (.int t), kI1, kI2, _, rfl, iteF ?_⟩
    refine ⟨_, rfl, _, _, true, false, rfl, .base (.int b), kI1, kI2, _, rfl, iteF ?_⟩
    refine ⟨_, rfl, rfl, _, rfl, ite2 (fun z => (hb (V.int.inj (of_decide_eq_true z))).elim) (fun _ => ?_)⟩
    refine ⟨_, rfl, _, rfl, t, b, rfl, ?_⟩
    refine ⟨_, rfl, _, _, rfl, rfl, _, rfl, ite2 (fun hn => ?_) (fun hn => ?_)⟩
    · have hn := of_decide_eq_true hn
      have ed : dv t b = -((Nat.gcd t.natAbs b.natAbs : Nat) : Int) := if_pos hn
      have dz : ∀ i : Int, CDivX i (-((Nat.gcd t.natAbs b.natAbs : Nat) : Int)) := fun i => by
        rw [← ed]
        exact div_ok (dv_ne hb) hz (by decide) (by decide)
      refine ⟨_, rfl, _, rfl, ?_⟩
      refine ⟨_, rfl, _, rfl, _, _, rfl, rfl, dz _, _, rfl, p, C, dx, _, rfl, hp, T.cl, T.nT, (by show 0 < 1000; decide), ?_⟩
      refine ⟨_, rfl, _, rfl, _, _, rfl, rfl, dz _, _, rfl, p, C, dx, _, rfl, upd_same, T.cl, T.nB, (by show 1 < 1000; decide), ?_⟩
      refine k _ ⟨dx, ?_⟩ fun q o hq e => by rw [upd_ne hq, upd_ne hq]; exact e
      unfold nT nB
      rw [ed]
      exact upd_same
    · have hn : ¬ b < 0 := fun z => hn (decide_eq_true z)
      have ed : dv t b = ((Nat.gcd t.natAbs b.natAbs : Nat) : Int) := if_neg hn
      have dz : ∀ i : Int, CDivX i ((Nat.gcd t.natAbs b.natAbs : Nat) : Int) := fun i => by
        rw [← ed]
        exact div_ok (dv_ne hb) hz (by decide) (by decide)
      refine ⟨_, rfl, _, rfl, _, _, rfl, rfl, dz _, _, rfl, p, C, dx, _, rfl, hp, T.cl, T.nT, (by show 0 < 1000; decide), ?_⟩
      refine ⟨_, rfl, _, rfl, _, _, rfl, rfl, dz _, _, rfl, p, C, dx, _, rfl, upd_same, T.cl, T.nB, (by show 1 < 1000; decide), ?_⟩
      refine k _ ⟨dx, ?_⟩ fun q o hq e => by rw [upd_ne hq, upd_ne hq]; exact e
      unfold nT nB
      rw [ed]
      exact upd_same
end
end FR
set_option Elab.async false
set_option linter.all false
set_option maxRecDepth 100000
set_option maxHeartbeats 4000000
namespace FR
open PySem PySem.Spec PyProof.Rows L2
section
variable {P : Program} {w : World} {K : PySem.W.Frag} {mg : Str → Option Value} {base : Heap}
/-- how Fraction(t) binds, and Fraction(t, b) -/
theorem init_binds {f : Addr} {fd : FuncData} (F : FunD K "__init__" "Fraction.__init__" (defArgs sInit) (defBody sInit) (defScope sInit) [V.int 1] [] f fd) :
    (∃ ds, Vals [V.int 1] ds ∧ Binds K fd ["self", "top", "bottom"] ds) ∧ Binds K fd ["self", "top", "bottom"] [] := by
  have b1 := F.binds1 (ps := ["self", "top", "bottom"]) 2 0 (by simp) rfl fun T kV doc pm an cdv ct us its hu hi => match us, its, hu, hi with | [_, _], [_], _, _ => ⟨_, rfl, rfl⟩
  have b2 := F.binds1 (ps := ["self", "top", "bottom"]) 3 1 (by simp) rfl fun T kV doc pm an cdv ct us its hu hi => match us, its, hu, hi with | [_, _, _], [_], _, _ => ⟨_, rfl, rfl⟩
  obtain ⟨ds, v, b⟩ := b2
  cases v
  exact ⟨b1, b⟩
/-! ### what the other defs lean on -/
theorem dv_one (t : Int) : dv t 1 = 1 := by
  unfold dv
  rw [if_neg (by decide)]
  have z : Nat.gcd t.natAbs (1 : Int).natAbs = 1 := Nat.gcd_one_right _
  rw [z]
  rfl
theorem nT_one (t : Int) : nT t 1 = t := by
  unfold nT
  rw [dv_one, Int.fdiv_one]
theorem nB_one (t : Int) : nB t 1 = 1 := by
  unfold nB
  rw [dv_one, Int.fdiv_one]
/-- a Fraction, or an integer, and what it stands for -/
def FV (C : Addr) (H : Hp) (v : V) (t b : Int) : Prop := (∃ p, v = .ref p ∧ FrAt C H p t b) ∨ (v = .int t ∧ b = 1)
theorem FrAt.same {C : Addr} {H H' : Hp} {p : Addr} {t b : Int} (h : FrAt C H p t b) (s : Same H H') : FrAt C H' p t b := by
  obtain ⟨dx, e⟩ := h
  exact ⟨dx, s _ _ e⟩
theorem FV.same {C : Addr} {H H' : Hp} {v : V} {t b : Int} (h : FV C H v t b) (s : Same H H') : FV C H' v t b := by
  rcases h with ⟨p, e, z⟩ | z
  · exact .inl ⟨p, e, z.same s⟩
  · exact .inr z
structure FrK (P : Program) (w : World) (K : PySem.W.Frag) (mg : Str → Option Value) (base : Heap) (C fI pT gT pB gB : Addr) (fdI fdT fdB : FuncData) : Prop where
  T : TxtF K mg C
  M : Mk K C fI
  GI : FnOk P w K mg base CX0 2 fI fdI ["self", "top", "bottom"] (spInit C)
  b1 : ∃ ds, Vals [V.int 1] ds ∧ Binds K fdI ["self", "top", "bottom"] ds
  b2 : Binds K fdI ["self", "top", "bottom"] []
  oT : PropOf K C "top" pT gT
  GT : FnOk P w K mg base CX0 1 gT fdT ["self"] (getSp C "_top")
  bT : Binds K fdT ["self"] []
  oB : PropOf K C "bottom" pB gB
  GB : FnOk P w K mg base CX0 1 gB fdB ["self"] (getSp C "_bottom")
  bB : Binds K fdB ["self"] []
  is : mg "isinstance" = none
  ha : PySem.W.findIn K (.ref C) "__class__" = some (some (.builtin "object.__class__"))
  hn : PySem.W.specialIn K (.builtin "object.__class__") "__get__" = some (some (.builtin "getset_descriptor.__get__"))
  tk : PySem.W.takesIn K (.builtin "object.__class__") = some true
  hm : PySem.W.mroIn K C (.type "object") = some true
  iC : PySem.W.kitOne K (.type "int") (.ref C) = some false
theorem kit_self (K : PySem.W.Frag) (C : Addr) : PySem.W.kitOne K (.ref C) (.ref C) = some true := if_pos (by simp)
def spAs (C : Addr) : Sp := fun vs H Q _ => ∃ (v : V) (t b : Int), vs = [v] ∧ FV C H v t b ∧ ∀ p H', FrAt C H' p t b → Same H H' → Q (.ref p) H'
theorem scA : FnScope ["value"] ["value"] (defScope sAs) := ⟨rfl, rfl, rfl, by decide +kernel, rfl, by decide +kernel, by decide +kernel⟩
theorem same_make {H H' : Hp} {x dx : Addr} (nx : H x = none) (nd : H dx = none) (s : ∀ q o, q ≠ x → upd (upd H dx (.own x)) x (.ins C dx []) q = some o → H' q = some o) : Same H H' := fun q o e => by
  have h1 : q ≠ x := ne_of_none e nx
  refine s q o h1 ?_
  rw [upd_ne h1, upd_ne (ne_of_none e nd)]
  exact e
variable {C fI pT gT pB gB : Addr} {fdI fdT fdB : FuncData}
theorem ok_as {f : Addr} {fd : FuncData} (F : Fun K "as_fraction" "as_fraction" sAs f fd) (k : FrK P w K mg base C fI pT gT pB gB fdI fdT fdB) : FnOk P w K mg base CX0 4 f fd ["value"] (spAs C) := by
  obtain ⟨ds, vds, bds⟩ := k.b1
  refine F.ok scA (fun vs H Q E h => ?_) (fun cdv A outer s H vs Q E hr h => ?_)
  · obtain ⟨v, t, b, rfl, _⟩ := h
    rfl
  · obtain ⟨v, t, b, rfl, hv, q⟩ := h
    refine ⟨_, pss_one (ps_ret (pe_ifExp (pt_val (pe_callB call_isi (by rfl) k.is PyProof.Rows.boot_isinstance (pa_cons (pv 0) (pa_cons (pe_glob (v := .ref C) (by rfl) k.T.mC rfl) pa_nil)))) (pv 0)
      (pe_make k.M k.GI hr (by rfl) k.T.mC bds vds pass0 (pa_cons (pv 0) pa_nil)))), ?_⟩
    rcases hv with ⟨p, rfl, dx, hp⟩ | ⟨rfl, rfl⟩
    · refine ⟨_, rfl, _, _, _, _, true, rfl, .own _, .base (.ins hp k.T.cl k.ha k.hn k.tk k.hm), kit_self K C, _, rfl, ?_⟩
      exact ⟨_, rfl, q p H ⟨dx, hp⟩ (Same.refl H)⟩
    · refine ⟨_, rfl, _, _, _, _, false, rfl, .own _, .base (.int t), k.iC, _, rfl, ?_⟩
      refine ⟨_, rfl, fun x dx nx nd ne => ?_⟩
      refine ⟨x, dx, t, 1, rfl, upd_same, by decide, dv8 (by decide) (by decide), fun H' hf hs => ⟨rfl, ?_⟩⟩
      rw [nT_one, nB_one] at hf
      exact q x H' hf (same_make (C := C) nx nd hs)
/-- a bound for what stands in a Fraction -/
def Sz (t b : Int) : Prop := t.natAbs < 2 ^ 3000 ∧ b.natAbs < 2 ^ 3000 ∧ b ≠ 0
theorem Sz.mul {t b t' b' : Int} (h : Sz t b) (h' : Sz t' b') : CMulW t t' ∧ CMulW t b' ∧ CMulW t' b ∧ CMulW b b' ∧ (b * b').natAbs < 2 ^ 8000 ∧ b * b' ≠ 0 := by
  obtain ⟨h1, h2, h3⟩ := h
  obtain ⟨g1, g2, g3⟩ := h'
  refine ⟨wide_mul h1 g1 (by decide) (by decide) (by decide), wide_mul h1 g2 (by decide) (by decide) (by decide), wide_mul g1 h2 (by decide) (by decide) (by decide), wide_mul h2 g2 (by decide) (by decide) (by decide), ?_, Int.mul_ne_zero h3 g3⟩
  exact Nat.lt_of_lt_of_le (wide_lt h2 g2) (Nat.pow_le_pow_right (by decide) (by decide))
end
end FR
set_option Elab.async false
set_option linter.all false
set_option maxRecDepth 100000
set_option maxHeartbeats 4000000
/-! Operators between instances of an own class and other values -/
namespace OW
open PySem PySem.Spec PySem.W PySem.Calls PyProof.Rows
section
variable {prog : Program} {w : World} {A : Around} {E : Value → Shared → Prop} {s : Shared} {K : Frag} {x C L f g : Addr} {h₀ : Heap} {m : Str → Option Value} {ox : Obj} {od : Option Obj} {T idl : String}
/-- a built-in value in front, which declines: the reflected method -/
theorem binop_right {op : Operator} {b : Value} {Q : Value → Shared → Prop} (X : K.In s.heap) (I : InstAt s.heap x ox C od) (hb : typeOf b = pure (.type T)) (hT : s.TypeIs b T) (hc : selfFirst K C = true)
    (h0 : findIn K (.ref C) (PySem.dunder op.info.2) = some (some (.ref g))) (hs : findIn K (.ref C) (dunderR op.info.2) = some (some (.ref f))) (hf : isFn K (.ref f) = true)
    (hfT : fillsNumberSlot (.type T) op.info.2 = pure true) (hsub : subIn K (.ref C) (.type T) = some false) (hl : Slot T (PySem.dunder op.info.2) idl)
    (hd : ∀ Q' : Value → Shared → Prop, Q' .notImplemented s → wpAny (model prog w) A (call (.builtin idl) [b, .ref x]) Q' E s)
    (h : wpAny (model prog w) A (call (.ref f) [.ref x, b]) (PySem.W.CmpBack Q) E s) : wpAny (model prog w) A (binaryOp op b (.ref x)) Q E s := by
  obtain ⟨cd, rest, hcd, hm⟩ := ksp_first hc
  rcases hi : op.info with ⟨sym, nm'⟩
  rw [hi] at h0 hs hfT hl
  dsimp only at h0 hs hfT hl
  have one := ksp_try X I hs hf h
  have L1 : Looks (model prog w) s.heap (typeOf (.ref x)) (.ref C) := I.type
  have L2 : Looks (model prog w) s.heap (typeOf b) (.type T) := Looks.of_pure hb
  have L3 : Looks (model prog w) s.heap (fillsNumberSlot (.ref C) nm') true := fills_K X hcd hm h0
  have L4 : Looks (model prog w) s.heap (fillsNumberSlot (.type T) nm') true := Looks.of_pure hfT
  have L5 : Looks (model prog w) s.heap (isSubtype (.ref C) (.type T)) false := looks_subIn X hsub
  have hpy : numberSlotInPython (.type T) nm' = pure false := rfl
  have hne : (Value.type T == Value.ref C) = false := Bool.eq_false_iff.mpr fun q => by cases beq_iff_eq.mp q
  simp only [binaryOp, hi]
  refine wpAny_holding (wpAny_bind ?_)
  unfold binaryOp1
  refine wpAny_bind (L2.here (wpAny_bind (L1.here (wpAny_bind (L4.here ?_)))))
  simp only [hne, Bool.false_eq_true, if_false]
  refine wpAny_bind (L3.here ?_)
  simp only [Bool.and_self, if_true]
  refine wpAny_bind (L5.here ?_)
  simp only [Bool.false_eq_true, if_false, pure_bind, Bool.not_false, Bool.and_self, if_true, hpy]
  refine wpAny_bind (m := tryMethod b _ (.ref x)) (wpAny_tryMethod_declines hT hl (hd _ ⟨rfl, ?_⟩))
  refine wpAny_bind (m := tryMethod (.ref x) _ b) (wpAny_mono one (fun r s' hr' => ?_) fun _ _ e => e)
  obtain ⟨v, rfl, hq⟩ := hr'
  exact wpAny_bind (wpAny_rule (wpAny_pure (wpAny_pure hq)))
/-! ### == and != -/
theorem try_eq {b : Value} {Q : Value → Shared → Prop} (X : K.In s.heap) (I : InstAt s.heap x ox C od) (hs : findIn K (.ref C) "__eq__" = some (some (.ref f))) (hf : isFn K (.ref f) = true)
    (h : wpAny (model prog w) A (call (.ref f) [.ref x, b]) (PySem.W.CmpBack Q) E s) : wpAny (model prog w) A (tryCompare (.ref x) "__eq__" b) (fun r s' => ∃ v, r = some v ∧ Q v s') E s := by
  unfold tryCompare
  refine wpAny_bind (ifBound_K X I hs hf (wpAny_mono h (fun v s' hv => ?_) fun _ _ e => e))
  cases v <;> first | exact hv.elim | exact wpAny_pure ⟨_, rfl, hv⟩
theorem run_ne {b : Value} {Q : Value → Shared → Prop} (hu : A.units < cLine) (X : K.In s.heap) (I : InstAt s.heap x ox C od) (hs : findIn K (.ref C) "__eq__" = some (some (.ref f))) (hf : isFn K (.ref f) = true)
    (h : wpAny (model prog w) A (call (.ref f) [.ref x, b]) (fun v s' => ∃ r, v = .bool r ∧ Q (.bool (!r)) s') E s) :
    wpAny (model prog w) A (Builtin.«object.__ne__» ⟨[.ref x, b], []⟩) (fun fin s' => ∃ v, fin = .done (.ret v) ∧ Q v s') E s := by
  unfold Builtin.«object.__ne__»
  repeat (first
    | with_reducible refine wpAny_cRoomFor hu ?_
    | (refine wpAny_bind (m := callSpecialIfBound? (.ref x) (Str.ofString "__eq__") [b]) (ifBound_K X I hs hf (wpAny_mono h (fun v s' hv => by
        obtain ⟨r, rfl, q⟩ := hv
        repeat (first | exact ⟨_, rfl, q⟩ | exact wpAny_pure ⟨_, rfl, q⟩ | (refine wpAny_bind (m := truthy (.bool _)) (wpAny_truthy_bool ?_)) | wp_step)) fun _ _ e => e)))
    | wp_step)
theorem try_ne {b : Value} {Q : Value → Shared → Prop} (hu : A.units + 1 < cLine) (X : K.In s.heap) (I : InstAt s.heap x ox C od) (hs : findIn K (.ref C) "__eq__" = some (some (.ref f))) (hf : isFn K (.ref f) = true)
    (hn : findIn K (.ref C) "__ne__" = some (some (.builtin "object.__ne__"))) (ho : subIn K (.ref C) (.type "object") = some true)
    (h : wpAny (model prog w) A.in1 (call (.ref f) [.ref x, b]) (fun v s' => ∃ r, v = .bool r ∧ Q (.bool (!r)) s') E s) :
    wpAny (model prog w) A (tryCompare (.ref x) "__ne__" b) (fun r s' => ∃ v, r = some v ∧ Q v s' ∧ ∃ z, v = .bool z) E s := by
  have L1 : Looks (model prog w) s.heap (typeOf (.ref x)) (.ref C) := I.type
  have c : wpAny (model prog w) A (call (.builtin "object.__ne__") [.ref x, b]) (fun v s' => Q v s' ∧ ∃ z, v = .bool z) E s := by
    refine wpAny_call (codeAny_call_builtin F.cmp_object.ne.plain F.cmpEntry_ne (check_slot F.cmpKind_ne F.cmpSplit_ne (L1.andThen (looks_subIn X ho)) (F.cmpArgs_ne _ _) ?_))
    refine wpAny_mono (run_ne (A := A.in1) (Q := fun v s' => Q v s' ∧ ∃ z, v = .bool z) hu X I hs hf (wpAny_mono h (fun v s' hv => ?_) fun _ _ e => e)) (fun fin s' hv => ?_) fun _ _ z => z
    · obtain ⟨r, rfl, q⟩ := hv
      exact ⟨r, rfl, q, _, rfl⟩
    · obtain ⟨v, rfl, q⟩ := hv
      exact q
  unfold tryCompare
  refine wpAny_bind ?_
  simp only [callSpecialIfBound?, bindSpecialIfBound?]
  refine wpAny_holding (wpAny_bind (wpAny_bind (wpAny_bind (I.type.here ((looks_findIn X hn).here ?_)))))
  have fin : wpAny (model prog w) A (call (.builtin "object.__ne__") ([.ref x] ++ [b]) >>= fun v => pure (some v)) (fun r s' => ∃ v, r = some v ∧ Q v s' ∧ ∃ z, v = .bool z) E s :=
    wpAny_bind (wpAny_mono c (fun v s' h' => wpAny_pure ⟨v, rfl, h'⟩) fun _ _ h' => h')
  have hb := F.cmp_object.ne.bind (.ref x)
  refine wpAny_bind (wpAny_askSetting (wpAny_ite ?_))
  have fin2 := wpAny_mono (Q' := fun r s' => wpAny (model prog w) A (match r with | some .notImplemented => pure none | none => pure none | some v => pure (some v)) (fun r s' => ∃ v, r = some v ∧ Q v s' ∧ ∃ z, v = .bool z) E s') fin (fun r s' h' => by
    obtain ⟨v, rfl, q, z, rfl⟩ := h'
    exact wpAny_pure ⟨_, rfl, q, _, rfl⟩) fun _ _ e => e
  split
  · rw [hb]
    exact wpAny_bind (wpAny_pure (wpAny_pure fin2))
  · rw [hb]
    exact wpAny_tryCatch (wpAny_bind (wpAny_pure (wpAny_pure fin2)))
end
end OW
set_option Elab.async false
set_option linter.all false
set_option maxRecDepth 100000
set_option maxHeartbeats 4000000
namespace OW
open PySem PySem.Spec PySem.W PySem.Calls PyProof.Rows
section
variable {prog : Program} {w : World} {A : Around} {E : Value → Shared → Prop} {s : Shared} {K : Frag} {x C L f g : Addr} {h₀ : Heap} {m : Str → Option Value} {ox : Obj} {od : Option Obj} {T idl : String}
theorem ne_left {b tb : Value} {Q : Value → Shared → Prop} (hu : A.units + 1 < cLine) (X : K.In s.heap) (I : InstAt s.heap x ox C od) (hb : Looks (model prog w) s.heap (typeOf b) tb) (hnf : notFirst K C tb = true)
    (hs : findIn K (.ref C) "__eq__" = some (some (.ref f))) (hf : isFn K (.ref f) = true) (hn : findIn K (.ref C) "__ne__" = some (some (.builtin "object.__ne__"))) (ho : subIn K (.ref C) (.type "object") = some true)
    (h : wpAny (model prog w) A.in1 (call (.ref f) [.ref x, b]) (fun v s' => ∃ r, v = .bool r ∧ Q (.bool (!r)) s') E s) : wpAny (model prog w) A (richCompare .NotEq (.ref x) b) Q E s := by
  have one := try_ne hu X I hs hf hn ho h
  unfold richCompare
  simp only [oneThing_ref]
  refine wpAny_holding (wpAny_bind (wpAny_cRoomFor (Nat.lt_of_succ_lt hu) ?_))
  refine wpAny_bind (I.type.here (wpAny_bind (hb.here ?_)))
  split
  · rename_i q
    have e : subIn K tb (.ref C) = some false := by
      rcases Bool.or_eq_true_iff.mp hnf with e | e
      · rw [beq_iff_eq.mp e] at q; simp at q
      · exact beq_iff_eq.mp e
    refine wpAny_bind ((looks_subIn X e).here ?_)
    simp only [Bool.false_eq_true, if_false]
    refine wpAny_bind (wpAny_mono one (fun r s' z => ?_) fun _ _ e => e)
    obtain ⟨v, rfl, hq, _⟩ := z
    exact wpAny_pure hq
  · refine wpAny_bind (wpAny_pure ?_)
    simp only [Bool.false_eq_true, if_false]
    refine wpAny_bind (wpAny_mono one (fun r s' z => ?_) fun _ _ e => e)
    obtain ⟨v, rfl, hq, _⟩ := z
    exact wpAny_pure hq
theorem eq_right {b : Value} {Q : Value → Shared → Prop} (hu : A.units < cLine) (X : K.In s.heap) (I : InstAt s.heap x ox C od) (hT : s.TypeIs b T) (hsub : subIn K (.ref C) (.type T) = some false) (hl : Slot T "__eq__" idl)
    (hd : ∀ Q' : Value → Shared → Prop, Q' .notImplemented s → wpAny (model prog w) A (call (.builtin idl) [b, .ref x]) Q' E s)
    (hs : findIn K (.ref C) "__eq__" = some (some (.ref f))) (hf : isFn K (.ref f) = true)
    (h : wpAny (model prog w) A (call (.ref f) [.ref x, b]) (PySem.W.CmpBack Q) E s) : wpAny (model prog w) A (richCompare .Eq b (.ref x)) Q E s := by
  have one := try_eq X I hs hf h
  have hne : (Value.type T != Value.ref C) = true := by simp
  unfold richCompare
  simp only [hT.oneThing_none]
  refine wpAny_holding (wpAny_bind (wpAny_cRoomFor hu ?_))
  refine wpAny_bind (wpAny_typeOf hT (wpAny_bind (I.type.here ?_)))
  simp only [hne, if_true]
  refine wpAny_bind ((looks_subIn X hsub).here ?_)
  simp only [Bool.false_eq_true, if_false, Bool.not_false, if_true]
  refine wpAny_bind (m := tryCompare b _ (.ref x)) (wpAny_tryCompare_declines hT hl (hd _ ⟨rfl, ?_⟩))
  refine wpAny_bind (m := tryCompare (.ref x) _ b) (wpAny_mono one (fun r s' z => ?_) fun _ _ e => e)
  obtain ⟨v, rfl, hq⟩ := z
  exact wpAny_pure hq
theorem ne_right {b : Value} {Q : Value → Shared → Prop} (hu : A.units + 1 < cLine) (X : K.In s.heap) (I : InstAt s.heap x ox C od) (hT : s.TypeIs b T) (hsub : subIn K (.ref C) (.type T) = some false) (hl : Slot T "__ne__" idl)
    (hd : ∀ Q' : Value → Shared → Prop, Q' .notImplemented s → wpAny (model prog w) A (call (.builtin idl) [b, .ref x]) Q' E s)
    (hs : findIn K (.ref C) "__eq__" = some (some (.ref f))) (hf : isFn K (.ref f) = true) (hn : findIn K (.ref C) "__ne__" = some (some (.builtin "object.__ne__"))) (ho : subIn K (.ref C) (.type "object") = some true)
    (h : wpAny (model prog w) A.in1 (call (.ref f) [.ref x, b]) (fun v s' => ∃ r, v = .bool r ∧ Q (.bool (!r)) s') E s) : wpAny (model prog w) A (richCompare .NotEq b (.ref x)) Q E s := by
  have one := try_ne hu X I hs hf hn ho h
  have hne : (Value.type T != Value.ref C) = true := by simp
  unfold richCompare
  simp only [hT.oneThing_none]
  refine wpAny_holding (wpAny_bind (wpAny_cRoomFor (Nat.lt_of_succ_lt hu) ?_))
  refine wpAny_bind (wpAny_typeOf hT (wpAny_bind (I.type.here ?_)))
  simp only [hne, if_true]
  refine wpAny_bind ((looks_subIn X hsub).here ?_)
  simp only [Bool.false_eq_true, if_false, Bool.not_false, if_true]
  refine wpAny_bind (m := tryCompare b _ (.ref x)) (wpAny_tryCompare_declines hT hl (hd _ ⟨rfl, ?_⟩))
  refine wpAny_bind (m := tryCompare (.ref x) _ b) (wpAny_mono one (fun r s' z => ?_) fun _ _ e => e)
  obtain ⟨v, rfl, hq, _⟩ := z
  exact wpAny_pure hq
end
/-! ### the built-in types decline -/
section
variable {C l dx : Addr}
theorem int_eq_no (b : Int) (u : Tok) : Meets (Builtin.«int.__eq__» ⟨[.int b u, .ref l], []⟩) (fun _ R s => s.heap.get? l = some (instObj C dx) ∧ R (.ok (.ret .notImplemented)) s) :=
  .of_wp fun prog w A R s h => by obtain ⟨hp, g, d, tk, os⟩ := s; obtain ⟨hl, h⟩ := h; wp_walk using wpAny_loadPart' hl, wpAny_load hl; exact ⟨_, rfl, h⟩
theorem int_ne_no (b : Int) (u : Tok) : Meets (Builtin.«int.__ne__» ⟨[.int b u, .ref l], []⟩) (fun _ R s => s.heap.get? l = some (instObj C dx) ∧ R (.ok (.ret .notImplemented)) s) :=
  .of_wp fun prog w A R s h => by obtain ⟨hp, g, d, tk, os⟩ := s; obtain ⟨hl, h⟩ := h; wp_walk using wpAny_loadPart' hl, wpAny_load hl; exact ⟨_, rfl, h⟩
theorem int_add_no (b : Int) (u : Tok) : Meets (Builtin.«int.__add__» ⟨[.int b u, .ref l], []⟩) (fun _ R s => s.heap.get? l = some (instObj C dx) ∧ R (.ok (.ret .notImplemented)) s) :=
  .of_wp fun prog w A R s h => by obtain ⟨hp, g, d, tk, os⟩ := s; obtain ⟨hl, h⟩ := h; wp_walk using wpAny_loadPart' hl, wpAny_load hl; exact ⟨_, rfl, h⟩
theorem int_sub_no (b : Int) (u : Tok) : Meets (Builtin.«int.__sub__» ⟨[.int b u, .ref l], []⟩) (fun _ R s => s.heap.get? l = some (instObj C dx) ∧ R (.ok (.ret .notImplemented)) s) :=
  .of_wp fun prog w A R s h => by obtain ⟨hp, g, d, tk, os⟩ := s; obtain ⟨hl, h⟩ := h; wp_walk using wpAny_loadPart' hl, wpAny_load hl; exact ⟨_, rfl, h⟩
theorem int_mul_no (b : Int) (u : Tok) : Meets (Builtin.«int.__mul__» ⟨[.int b u, .ref l], []⟩) (fun _ R s => s.heap.get? l = some (instObj C dx) ∧ R (.ok (.ret .notImplemented)) s) :=
  .of_wp fun prog w A R s h => by obtain ⟨hp, g, d, tk, os⟩ := s; obtain ⟨hl, h⟩ := h; wp_walk using wpAny_loadPart' hl, wpAny_load hl; exact ⟨_, rfl, h⟩
theorem bool_eq_no (b : Bool) : Meets (Builtin.«int.__eq__» ⟨[.bool b, .ref l], []⟩) (fun _ R s => s.heap.get? l = some (instObj C dx) ∧ R (.ok (.ret .notImplemented)) s) :=
  .of_wp fun prog w A R s h => by obtain ⟨hp, g, d, tk, os⟩ := s; obtain ⟨hl, h⟩ := h; wp_walk using wpAny_loadPart' hl, wpAny_load hl; exact ⟨_, rfl, h⟩
theorem str_eq_no (b : Str) (u : Tok) : Meets (Builtin.«str.__eq__» ⟨[.str b u, .ref l], []⟩) (fun _ R s => s.heap.get? l = some (instObj C dx) ∧ R (.ok (.ret .notImplemented)) s) :=
  .of_wp fun prog w A R s h => by obtain ⟨hp, g, d, tk, os⟩ := s; obtain ⟨hl, h⟩ := h; wp_walk using wpAny_loadPart' hl, wpAny_load hl; exact ⟨_, rfl, h⟩
end
end OW
set_option Elab.async false
set_option linter.all false
set_option maxRecDepth 100000
set_option maxHeartbeats 4000000
namespace OW
open PySem PySem.Spec PySem.W PySem.Calls PyProof.Rows
open AutoSeq1 (wpAny_loadPart')
section
variable {C x l dx : Addr} {K : Frag} {od : Option Obj}
theorem list_eq_no (hs : subIn K (.ref C) (.type "list") = some false) (items : Array Value) (n : Nat) (dd : Option Addr) (sl : Array (Option Value)) : Meets (Builtin.«list.__eq__» ⟨[.ref l, .ref x], []⟩)
    (fun _ R s => s.heap.get? l = some { cls := .type "list", dict := dd, data := .seq items n, slots := sl } ∧ K.In s.heap ∧ s.heap.get? x = some (instObj C dx) ∧ R (.ok (.ret .notImplemented)) s) :=
  .of_wp fun prog w A R s h => by
    obtain ⟨hl, X, hx, h⟩ := h
    have L : Looks (model prog w) s.heap (isSubtype (.ref C) (.type "list")) false := looks_subIn X hs
    obtain ⟨hp, g, d, tk, os⟩ := s
    wp_walk using wpAny_loadPart' hl, wpAny_loadPart' hx, L.here
    exact ⟨_, rfl, h⟩
theorem tuple_eq_no (hs : subIn K (.ref C) (.type "tuple") = some false) (items : Array Value) (n : Nat) (dd : Option Addr) (sl : Array (Option Value)) : Meets (Builtin.«tuple.__eq__» ⟨[.ref l, .ref x], []⟩)
    (fun _ R s => s.heap.get? l = some { cls := .type "tuple", dict := dd, data := .seq items n, slots := sl } ∧ K.In s.heap ∧ s.heap.get? x = some (instObj C dx) ∧ R (.ok (.ret .notImplemented)) s) :=
  .of_wp fun prog w A R s h => by
    obtain ⟨hl, X, hx, h⟩ := h
    have L : Looks (model prog w) s.heap (isSubtype (.ref C) (.type "tuple")) false := looks_subIn X hs
    obtain ⟨hp, g, d, tk, os⟩ := s
    wp_walk using wpAny_loadPart' hl, wpAny_loadPart' hx, L.here
    exact ⟨_, rfl, h⟩
end
section
variable {prog : Program} {w : World} {A : Around} {E : Value → Shared → Prop} {s : Shared} {K : Frag} {x C a : Addr} {ox : Obj} {od : Option Obj}
theorem dict_eq_no {Q : Value → Shared → Prop} (hT : s.TypeIs (.ref a) "dict") (X : K.In s.heap) (I : InstAt s.heap x ox C od) (hs : subIn K (.ref C) (.type "dict") = some false) (h : Q .notImplemented s) :
    wpAny (model prog w) A (call (.builtin "dict.__eq__") [.ref a, .ref x]) Q E s := by
  have L1 : Looks (model prog w) s.heap (typeOf (.ref x)) (.ref C) := I.type
  have L : Looks (model prog w) s.heap (isInstance (.ref x) (.type "dict")) false := L1.andThen (looks_subIn X hs)
  refine wpAny_call_entry PySem.F.slot_dict_eq hT PySem.F.entry_dict_eq ?_ (PySem.F.args_dict_eq_2 _ _)
  show wpAny _ _ (Builtin.Dict.dictSlotArgs "__eq__" ⟨[.ref a, .ref x], []⟩ >>= _) _ _ s
  refine wpAny_bind ?_
  unfold Builtin.Dict.dictSlotArgs
  refine wpAny_bind (wpAny_notOrdered_dict hT ?_)
  show wpAny _ _ (pure (Value.ref a, Value.ref x)) _ _ s
  refine wpAny_pure ?_
  refine wpAny_bind (L.here ?_)
  wp_walk
  exact ⟨_, rfl, h⟩
end
end OW
set_option Elab.async false
set_option linter.all false
set_option maxRecDepth 100000
set_option maxHeartbeats 4000000
namespace L2
open PySem PySem.Spec PyProof.Rows PySem.Calls
theorem rRef (a : Addr) : RelV (.ref a) (.ref a) := rfl
theorem rInt (i : Int) (t : Tok) : RelV (.int i) (.int i t) := ⟨t, rfl⟩
/-- the class at C has this name as the def at f -/
structure Dun (K : PySem.W.Frag) (C : Addr) (nm : Str) (f : Addr) : Prop where
  at_ : PySem.W.findIn K (.ref C) nm = some (some (.ref f))
  fn : PySem.W.isFn K (.ref f) = true
section
variable {X : Cx} {CX : CXT} {k : Nat} {f C C' a : Addr} {fd : FuncData} {ps : List Str} {sp : Sp} {E : XK} {pins : List (Addr × Obj)} {σ : St} {H : Hp} {s : Shared} {Q : VK}
theorem run_sub {A : Around} {us : List Value} {vs : List V} (sb : Sub X k A) (F : FnOk X.prog X.w X.K X.mg X.base CX k f fd ps sp) (hb : Binds X.K fd ps []) (hx : Passes CX X E)
    (I : Inv X pins σ H s) (r : Vals vs us) (h : sp vs H Q E) : wpAny (model X.prog X.w) A (call (.ref f) us) (EP X pins σ Q) X.xe s := by
  have e0 : Env0 X.prog X.w X.K X.mg X.base A X.stack s H := by
    have e := I.env0
    exact ⟨by rw [sb.fr]; exact e.frames, e.mod, e.bs, e.bsz, e.funs, e.frf, e.hok, e.bare⟩
  have hl := F.len _ _ _ _ h
  refine wpAny_call (codeAny_mono (F.run A X.stack s H ⟨us, []⟩ us vs Q E sb.room e0 (by
    have := hb s us I.kIn (by rw [List.append_nil, ← r.length]; exact hl)
    rw [List.append_nil] at this
    exact this) r h) fun r s' hq => ?_)
  cases r with
  | error e => exact hx pins σ H s e s' I hq
  | ok fl =>
    cases fl with
    | ret w =>
      obtain ⟨z, H', I', rz, q⟩ := I.after hq
      exact ⟨z, H', I', rz, q⟩
    | next => exact False.elim hq
    | brk => exact False.elim hq
    | cont => exact False.elim hq
theorem back_rel {v : V} {u : Value} {s' : Shared} {R : Value → Shared → Prop} (r : RelV v u) (q : R u s') : PySem.W.CmpBack R u s' := by
  cases u
  case notImplemented =>
    cases v with
    | non => exact nomatch (show Value.notImplemented = Value.none from r)
    | bl b => exact nomatch (show Value.notImplemented = Value.bool b from r)
    | int i => obtain ⟨t, e⟩ := (show ∃ t, Value.notImplemented = Value.int i t from r); exact nomatch e
    | str x => obtain ⟨t, e⟩ := (show ∃ t, Value.notImplemented = Value.str x t from r); exact nomatch e
    | byt b => obtain ⟨t, e⟩ := (show ∃ t, Value.notImplemented = Value.bytes b t from r); exact nomatch e
    | flt b => obtain ⟨t, e⟩ := (show ∃ t, Value.notImplemented = Value.float b t from r); exact nomatch e
    | ref a => exact nomatch (show Value.notImplemented = Value.ref a from r)
    | ty n => exact nomatch (show Value.notImplemented = Value.type n from r)
  all_goals exact q
theorem ins_at {dx : Addr} {fs : List (Str × V)} (I : Inv X pins σ H s) (e : H a = some (.ins C dx fs)) : ∃ od, PySem.W.InstAt s.heap a (PySem.W.instObj C dx) C (some od) ∧ s.heap.get? a = some (PySem.W.instObj C dx) := by
  obtain ⟨mA, O, _⟩ := ins_get I.hok e
  obtain ⟨od, J, _⟩ := O.look
  exact ⟨od, J, O.obj⟩
/-- x op y, x an instance whose class has the method, y one of the same class -/
def rOw2 (C : Addr) (sp : Sp) (E : XK) : R2 := fun x y H Q => ∃ a b dx dy fs gs, x = .ref a ∧ y = .ref b ∧ H a = some (.ins C dx fs) ∧ H b = some (.ins C dy gs) ∧ sp [.ref a, .ref b] H Q E
theorem op_own2 {op : Operator} (D : Dun X.K C (PySem.dunder op.info.2) f) (hc : PySem.W.selfFirst X.K C = true) (F : FnOk X.prog X.w X.K X.mg X.base CX k f fd ps sp) (hr : Room k X.A) (hb : Binds X.K fd ps []) (hx : Passes CX X E) :
    OpR X (binaryOp op) (rOw2 C sp E) := by
  intro pins s σ H x y v u Q I rx ry ⟨a, b, dx, dy, fs, gs, ex, ey, ea, eb, h⟩
  subst ex ey
  cases (show v = .ref a from rx)
  cases (show u = .ref b from ry)
  obtain ⟨od, J, _⟩ := ins_at I ea
  obtain ⟨od', J', _⟩ := ins_at I eb
  obtain ⟨m, hF⟩ := I.fr
  exact PySem.W.binop_K hF I.ok.mod.kin J J'.type hc D.at_ D.fn (wpAny_mono (run_sub ⟨hr, rfl⟩ F hb hx I (.cons (rRef a) (.cons (rRef b) .nil)) h) (fun w' s' ⟨z, H', I', rz, q⟩ => back_rel rz ⟨z, H', I', rz, q⟩) fun _ _ e => e)
/-- x op y, y an integer -/
def rOwI (C : Addr) (sp : Sp) (E : XK) : R2 := fun x y H Q => ∃ a i dx fs, x = .ref a ∧ y = .int i ∧ H a = some (.ins C dx fs) ∧ sp [.ref a, .int i] H Q E
theorem op_ownI {op : Operator} {fo ro rc : Option Value} (D : Dun X.K C (PySem.dunder op.info.2) f) (hc : PySem.W.selfFirst X.K C = true) (hR : PySem.W.findIn X.K (.ref C) (dunderR op.info.2) = some rc) (hp : rc = none ∨ ∃ g : Addr, rc = some (.ref g))
    (h1 : PySem.W.findIn X.K (.type "int") (PySem.dunder op.info.2) = some fo) (h2 : PySem.W.findIn X.K (.type "int") (dunderR op.info.2) = some ro) (hs : PySem.W.subIn X.K (.type "int") (.ref C) = some false)
    (F : FnOk X.prog X.w X.K X.mg X.base CX k f fd ps sp) (hr : Room k X.A) (hb : Binds X.K fd ps []) (hx : Passes CX X E) : OpR X (binaryOp op) (rOwI C sp E) := by
  intro pins s σ H x y v u Q I rx ry ⟨a, i, dx, fs, ex, ey, ea, h⟩
  subst ex ey
  cases (show v = .ref a from rx)
  obtain ⟨t, rfl⟩ := (show ∃ t, u = Value.int i t from ry)
  obtain ⟨od, J, _⟩ := ins_at I ea
  obtain ⟨m, hF⟩ := I.fr
  exact PySem.W.ksp_binT hF I.ok.mod.kin J rfl hc D.at_ D.fn hR hp h1 h2 hs (wpAny_mono (run_sub ⟨hr, rfl⟩ F hb hx I (.cons (rRef a) (.cons (rInt i t) .nil)) h) (fun w' s' ⟨z, H', I', rz, q⟩ => back_rel rz ⟨z, H', I', rz, q⟩) fun _ _ e => e)
/-- i op x, i an integer: the reflected method -/
def rIOw (C : Addr) (sp : Sp) (E : XK) : R2 := fun x y H Q => ∃ a i dx fs, x = .int i ∧ y = .ref a ∧ H a = some (.ins C dx fs) ∧ sp [.ref a, .int i] H Q E
theorem op_Iown {op : Operator} {g : Addr} {idl : String} {B : Builtin} (D0 : Dun X.K C (PySem.dunder op.info.2) g) (D : Dun X.K C (dunderR op.info.2) f) (hc : PySem.W.selfFirst X.K C = true)
    (hfT : fillsNumberSlot (.type "int") op.info.2 = pure true) (hl : Slot "int" (PySem.dunder op.info.2) idl) (en : entryFor table idl = some B) (ar : ∀ x y, argsOk idl ⟨[x, y], []⟩)
    (no : ∀ (i : Int) (t : Tok) (l dx : Addr), Meets (B ⟨[.int i t, .ref l], []⟩) (fun _ R s => s.heap.get? l = some (PySem.W.instObj C dx) ∧ R (.ok (.ret .notImplemented)) s)) (hs : PySem.W.subIn X.K (.ref C) (.type "int") = some false)
    (F : FnOk X.prog X.w X.K X.mg X.base CX k f fd ps sp) (hr : Room k X.A) (hb : Binds X.K fd ps []) (hx : Passes CX X E) : OpR X (binaryOp op) (rIOw C sp E) := by
  intro pins s σ H x y v u Q I rx ry ⟨a, i, dx, fs, ex, ey, ea, h⟩
  subst ex ey
  cases (show u = .ref a from ry)
  obtain ⟨t, rfl⟩ := (show ∃ t, v = Value.int i t from rx)
  obtain ⟨od, J, O⟩ := ins_at I ea
  refine OW.binop_right I.kIn J rfl (typeIs_int s i t) hc D0.at_ D.at_ D.fn hfT hs hl (fun Q' q' => call_meets hl (typeIs_int s i t) en (ar _ _) (no i t a dx) ⟨O, q'⟩) ?_
  exact wpAny_mono (run_sub ⟨hr, rfl⟩ F hb hx I (.cons (rRef a) (.cons (rInt i t) .nil)) h) (fun w' s' ⟨z, H', I', rz, q⟩ => back_rel rz ⟨z, H', I', rz, q⟩) fun _ _ e => e
/-- -x -/
def rNeg (C : Addr) (sp : Sp) (E : XK) : V → Hp → VK → Prop := fun x H Q => ∃ a dx fs, x = .ref a ∧ H a = some (.ins C dx fs) ∧ sp [.ref a] H Q E
theorem un_own (D : Dun X.K C "__neg__" f) (F : FnOk X.prog X.w X.K X.mg X.base CX k f fd ps sp) (hr : Room k X.A) (hb : Binds X.K fd ps []) (hx : Passes CX X E) : UnR X (unaryOp .USub) (rNeg C sp E) := by
  intro pins s σ H x v Q I rx ⟨a, dx, fs, ex, ea, h⟩
  subst ex
  cases (show v = .ref a from rx)
  obtain ⟨od, J, _⟩ := ins_at I ea
  obtain ⟨m, hF⟩ := I.fr
  exact PySem.W.ksp_neg hF I.ok.mod.kin J D.at_ D.fn (run_sub ⟨hr, rfl⟩ F hb hx I (.cons (rRef a) .nil) h)
/-- abs(x) -/
def rAbs (C : Addr) (sp : Sp) (E : XK) : List V → Hp → VK → Prop := fun xs H Q => ∃ a dx fs, xs = [.ref a] ∧ H a = some (.ins C dx fs) ∧ sp [.ref a] H Q E
theorem call_absOwn (D : Dun X.K C "__abs__" f) (F : FnOk X.prog X.w X.K X.mg X.base CX k f fd ps sp) (hr : Room (k + 1) X.A) (hb : Binds X.K fd ps []) (hx : Passes CX X E) : CallR X (.builtin "abs") (rAbs C sp E) := by
  intro pins s σ H xs us Q I r ⟨a, dx, fs, ex, ea, h⟩
  subst ex
  obtain ⟨u, rfl, ru⟩ := vals1 r
  cases (show u = .ref a from ru)
  obtain ⟨od, J, _⟩ := ins_at I ea
  refine call_function_entry kind_abs plain_abs entry_abs (args_abs _) ?_
  unfold Builtin.«abs»
  refine wpAny_bind (m := oneArg "abs" _) (wpAny_pure ?_)
  refine wpAny_bind (m := callSpecial? (.ref a) (Str.ofString "__abs__")) (PySem.W.special_fn I.kIn J D.at_ (beq_iff_eq.mp D.fn) (wpAny_mono (run_sub ⟨hr.in1, rfl⟩ F hb hx I (.cons (rRef a) .nil) h) (fun w' s' z => ?_) fun _ _ e => e))
  exact wpAny_pure ⟨_, rfl, z⟩
/-- str(x) -/
def rStr (C : Addr) (sp : Sp) (E : XK) : List V → Hp → VK → Prop := fun xs H Q => ∃ a dx fs, xs = [.ref a] ∧ H a = some (.ins C dx fs) ∧ sp [.ref a] H (fun z H' => (∃ t, z = .str t) ∧ Q z H') E
theorem call_strOwn (D : Dun X.K C "__str__" f) (F : FnOk X.prog X.w X.K X.mg X.base CX k f fd ps sp) (hr : Room (k + 2) X.A) (hb : Binds X.K fd ps []) (hx : Passes CX X E) : CallR X (.type "str") (rStr C sp E) := by
  intro pins s σ H xs us Q I r ⟨a, dx, fs, ex, ea, h⟩
  subst ex
  obtain ⟨u, rfl, ru⟩ := vals1 r
  cases (show u = .ref a from ru)
  obtain ⟨od, J, _⟩ := ins_at I ea
  refine PySem.W.kso_call hr.in1.in1.units0 I.kIn J D.at_ D.fn (wpAny_mono (run_sub ⟨hr.in1.in1, rfl⟩ F hb hx I (.cons (rRef a) .nil) h) (fun w' s' ⟨z, H', I', rz, ⟨t, ez⟩, q⟩ => ?_) fun _ _ e => e)
  subst ez
  obtain ⟨tk, rfl⟩ := (show ∃ tk, w' = Value.str t tk from rz)
  exact ⟨_, H', I', rz, q⟩
end
end L2
set_option Elab.async false
set_option linter.all false
set_option maxRecDepth 100000
set_option maxHeartbeats 4000000
namespace L2
open PySem PySem.Spec PyProof.Rows PySem.Calls
section
variable {X : Cx} {CX : CXT} {k : Nat} {f C a : Addr} {fd : FuncData} {ps : List Str} {sp : Sp} {E : XK} {pins : List (Addr × Obj)} {σ : St} {H : Hp} {s : Shared} {Q : VK}
/-- x == y, x an instance whose class has __eq__ -/
def rEqL (K : PySem.W.Frag) (C : Addr) (sp : Sp) (E : XK) : R2 := fun x y H Q => ∃ a dx fs t, x = .ref a ∧ H a = some (.ins C dx fs) ∧ TyX K H y t ∧ PySem.W.notFirst K C t = true ∧ sp [.ref a, y] H Q E
theorem op_eqL (D : Dun X.K C "__eq__" f) (F : FnOk X.prog X.w X.K X.mg X.base CX k f fd ps sp) (hr : Room k X.A) (hb : Binds X.K fd ps []) (hx : Passes CX X E) : OpR X (compareOp .Eq) (rEqL X.K C sp E) := by
  intro pins s σ H x y v u Q I rx ry ⟨a, dx, fs, t, ex, ea, ty, hn, h⟩
  subst ex
  cases (show v = .ref a from rx)
  obtain ⟨od, J, _⟩ := ins_at I ea
  obtain ⟨m, hF⟩ := I.fr
  obtain ⟨P, Z, p, _⟩ := kit_of I ry ty
  exact PySem.W.cmp_K (op := .Eq) (tb := t) hr.units0 hF I.ok.mod.kin J (Z.ty _ _ I.kIn p) hn D.at_ D.fn (wpAny_mono (run_sub ⟨hr, rfl⟩ F hb hx I (.cons (rRef a) (.cons ry .nil)) h) (fun w' s' ⟨z, H', I', rz, q⟩ => back_rel rz ⟨z, H', I', rz, q⟩) fun _ _ e => e)
/-- x != y, by the class's __eq__ -/
def rNeL (K : PySem.W.Frag) (C : Addr) (sp : Sp) (E : XK) : R2 := fun x y H Q => ∃ a dx fs t, x = .ref a ∧ H a = some (.ins C dx fs) ∧ TyX K H y t ∧ PySem.W.notFirst K C t = true ∧ sp [.ref a, y] H (fun z H' => ∃ r, z = .bl r ∧ Q (.bl (!r)) H') E
structure NeOf (K : PySem.W.Frag) (C : Addr) : Prop where
  ne : PySem.W.findIn K (.ref C) "__ne__" = some (some (.builtin "object.__ne__"))
  ob : PySem.W.subIn K (.ref C) (.type "object") = some true
theorem op_neL (D : Dun X.K C "__eq__" f) (N : NeOf X.K C) (F : FnOk X.prog X.w X.K X.mg X.base CX k f fd ps sp) (hr : Room (k + 1) X.A) (hb : Binds X.K fd ps []) (hx : Passes CX X E) : OpR X (compareOp .NotEq) (rNeL X.K C sp E) := by
  intro pins s σ H x y v u Q I rx ry ⟨a, dx, fs, t, ex, ea, ty, hn, h⟩
  subst ex
  cases (show v = .ref a from rx)
  obtain ⟨od, J, _⟩ := ins_at I ea
  obtain ⟨P, Z, p, _⟩ := kit_of I ry ty
  refine OW.ne_left (by have := hr.un; omega) I.kIn J (Z.ty _ _ I.kIn p) hn D.at_ D.fn N.ne N.ob (wpAny_mono (run_sub ⟨hr.in1, rfl⟩ F hb hx I (.cons (rRef a) (.cons ry .nil)) h) (fun w' s' ⟨z, H', I', rz, r, ez, q⟩ => ?_) fun _ _ e => e)
  subst ez
  cases (show w' = .bool r from rz)
  exact ⟨r, rfl, .bl (!r), H', I', rfl, q⟩
/-- a value of a built-in type, which declines when it is compared with an instance -/
inductive Odd (K : PySem.W.Frag) (H : Hp) : V → String → Prop where
  | non : Odd K H .non "NoneType"
  | bl (b : Bool) : Odd K H (.bl b) "bool"
  | int (i : Int) : Odd K H (.int i) "int"
  | str (x : Str) : Odd K H (.str x) "str"
  | lst {a : Addr} {xs : List V} (e : H a = some (.lst xs)) : Odd K H (.ref a) "list"
  | tup {a : Addr} {xs : List V} (e : H a = some (.tup xs)) : Odd K H (.ref a) "tuple"
  | dK {a : Addr} {kvs : List (Key × V)} (e : H a = some (.dK kvs)) : Odd K H (.ref a) "dict"
theorem Odd.ty {K : PySem.W.Frag} {x : V} {T : String} (o : Odd K H x T) : TyX K H x (.type T) := by
  cases o with
  | non => exact .base .non
  | bl b => exact .base (.bl b)
  | int i => exact .base (.int i)
  | str y => exact .base (.str y)
  | lst e => exact .base (.lst e)
  | tup e => exact .base (.tup e)
  | dK e => exact .base (.dK e)
/-- y == x, y such a value -/
def rEqR (K : PySem.W.Frag) (C : Addr) (sp : Sp) (E : XK) : R2 := fun x y H Q => ∃ a dx fs T, y = .ref a ∧ H a = some (.ins C dx fs) ∧ Odd K H x T ∧ PySem.W.subIn K (.ref C) (.type T) = some false ∧ sp [.ref a, x] H Q E
theorem op_eqR (D : Dun X.K C "__eq__" f) (F : FnOk X.prog X.w X.K X.mg X.base CX k f fd ps sp) (hr : Room k X.A) (hb : Binds X.K fd ps []) (hx : Passes CX X E) : OpR X (compareOp .Eq) (rEqR X.K C sp E) := by
  intro pins s σ H x y v u Q I rx ry ⟨a, dx, fs, T, ey, ea, od', hs, h⟩
  subst ey
  cases (show u = .ref a from ry)
  obtain ⟨od, J, O⟩ := ins_at I ea
  have fin : wpAny (model X.prog X.w) X.A (call (.ref f) [.ref a, v]) (PySem.W.CmpBack (EP X pins σ Q)) X.xe s :=
    wpAny_mono (run_sub ⟨hr, rfl⟩ F hb hx I (.cons (rRef a) (.cons rx .nil)) h) (fun w' s' ⟨z, H', I', rz, q⟩ => back_rel rz ⟨z, H', I', rz, q⟩) fun _ _ e => e
  show wpAny (model X.prog X.w) X.A (richCompare .Eq v (.ref a)) (EP X pins σ Q) X.xe s
  cases od' with
  | non =>
    cases (show v = .none from rx)
    exact OW.eq_right hr.units0 I.kIn J rfl hs PySem.F.slot_NoneType_eq (fun Q' q' => call_gives PySem.F.slot_NoneType_eq rfl PySem.F.entry_NoneType_eq (PySem.F.args_NoneType_eq_2 _ _) (PySem.SeqAt.NoneType___eq___none_ref_0 a) q') D.at_ D.fn fin
  | bl b =>
    cases (show v = .bool b from rx)
    exact OW.eq_right hr.units0 I.kIn J rfl hs PySem.F.slot_bool_eq (fun Q' q' => call_meets PySem.F.slot_bool_eq rfl PySem.F.entry_int_eq (PySem.F.args_int_eq_2 _ _) (OW.bool_eq_no (C := C) (dx := dx) b) ⟨O, q'⟩) D.at_ D.fn fin
  | int i =>
    obtain ⟨t, rfl⟩ := (show ∃ t, v = Value.int i t from rx)
    exact OW.eq_right hr.units0 I.kIn J (typeIs_int s i t) hs PySem.F.slot_int_eq (fun Q' q' => call_meets PySem.F.slot_int_eq (typeIs_int s i t) PySem.F.entry_int_eq (PySem.F.args_int_eq_2 _ _) (OW.int_eq_no (C := C) (dx := dx) i t) ⟨O, q'⟩) D.at_ D.fn fin
  | str z =>
    obtain ⟨t, rfl⟩ := (show ∃ t, v = Value.str z t from rx)
    exact OW.eq_right hr.units0 I.kIn J (typeIs_str s z t) hs PySem.F.slot_str_eq (fun Q' q' => call_meets PySem.F.slot_str_eq (typeIs_str s z t) PySem.F.entry_str_eq (PySem.F.args_str_eq_2 _ _) (OW.str_eq_no (C := C) (dx := dx) z t) ⟨O, q'⟩) D.at_ D.fn fin
  | @lst l xs e =>
    cases (show v = .ref l from rx)
    obtain ⟨z, its, n, r, e1⟩ := I.hok l _ e
    exact OW.eq_right hr.units0 I.kIn J ⟨_, e1, rfl⟩ hs PySem.F.slot_list_eq (fun Q' q' => call_meets PySem.F.slot_list_eq ⟨_, e1, rfl⟩ PySem.F.entry_list_eq (PySem.F.args_list_eq_2 _ _) (OW.list_eq_no hs _ _ _ _) ⟨e1, I.kIn, O, q'⟩) D.at_ D.fn fin
  | @tup l xs e =>
    cases (show v = .ref l from rx)
    obtain ⟨_, its, _, o, h1, h2, n, h3⟩ := (show ObjOk X.prog X.w H s.heap l (.tup xs) from I.hok l _ e)
    obtain ⟨cls, dd, data, sl⟩ := o
    simp only at h2 h3
    subst h2 h3
    exact OW.eq_right hr.units0 I.kIn J ⟨_, h1, rfl⟩ hs PySem.F.slot_tuple_eq (fun Q' q' => call_meets PySem.F.slot_tuple_eq ⟨_, h1, rfl⟩ PySem.F.entry_tuple_eq (PySem.F.args_tuple_eq_2 _ _) (OW.tuple_eq_no hs _ _ _ _) ⟨h1, I.kIn, O, q'⟩) D.at_ D.fn fin
  | @dK l kvs e =>
    cases (show v = .ref l from rx)
    obtain ⟨_, _, vs, _, o, es, ep, h1, h2, _⟩ := (show ObjOk X.prog X.w H s.heap l (.dK kvs) from I.hok l _ e)
    have hT : s.TypeIs (.ref l) "dict" := ⟨_, h1, h2.1⟩
    exact OW.eq_right hr.units0 I.kIn J hT hs PySem.F.slot_dict_eq (fun Q' q' => OW.dict_eq_no hT I.kIn J hs q') D.at_ D.fn fin
/-- i != x, i an integer -/
def rNeR (C : Addr) (sp : Sp) (E : XK) : R2 := fun x y H Q => ∃ a dx fs i, y = .ref a ∧ H a = some (.ins C dx fs) ∧ x = .int i ∧ sp [.ref a, .int i] H (fun z H' => ∃ r, z = .bl r ∧ Q (.bl (!r)) H') E
theorem op_neR (D : Dun X.K C "__eq__" f) (N : NeOf X.K C) (hs : PySem.W.subIn X.K (.ref C) (.type "int") = some false) (F : FnOk X.prog X.w X.K X.mg X.base CX k f fd ps sp) (hr : Room (k + 1) X.A) (hb : Binds X.K fd ps []) (hx : Passes CX X E) :
    OpR X (compareOp .NotEq) (rNeR C sp E) := by
  intro pins s σ H x y v u Q I rx ry ⟨a, dx, fs, i, ey, ea, ex, h⟩
  subst ex ey
  cases (show u = .ref a from ry)
  obtain ⟨t, rfl⟩ := (show ∃ t, v = Value.int i t from rx)
  obtain ⟨od, J, O⟩ := ins_at I ea
  refine OW.ne_right (by have := hr.un; omega) I.kIn J (typeIs_int s i t) hs PySem.F.slot_int_ne (fun Q' q' => call_meets PySem.F.slot_int_ne (typeIs_int s i t) PySem.F.entry_int_ne (PySem.F.args_int_ne_2 _ _) (OW.int_ne_no (C := C) (dx := dx) i t) ⟨O, q'⟩) D.at_ D.fn N.ne N.ob
    (wpAny_mono (run_sub ⟨hr.in1, rfl⟩ F hb hx I (.cons (rRef a) (.cons (rInt i t) .nil)) h) (fun w' s' ⟨z, H', I', rz, r, ez, q⟩ => ?_) fun _ _ e => e)
  subst ez
  cases (show w' = .bool r from rz)
  exact ⟨r, rfl, .bl (!r), H', I', rfl, q⟩
theorem op_neLK {K : PySem.W.Frag} (hK : X.K = K) (D : Dun K C "__eq__" f) (N : NeOf K C) (F : FnOk X.prog X.w K X.mg X.base CX k f fd ps sp) (hr : Room (k + 1) X.A) (hb : Binds K fd ps []) (hx : Passes CX X E) : OpR X (compareOp .NotEq) (rNeL K C sp E) := by
  subst hK
  exact op_neL D N F hr hb hx
theorem op_eqLK {K : PySem.W.Frag} (hK : X.K = K) (D : Dun K C "__eq__" f) (F : FnOk X.prog X.w K X.mg X.base CX k f fd ps sp) (hr : Room k X.A) (hb : Binds K fd ps []) (hx : Passes CX X E) : OpR X (compareOp .Eq) (rEqL K C sp E) := by
  subst hK
  exact op_eqL D F hr hb hx
theorem op_eqRK {K : PySem.W.Frag} (hK : X.K = K) (D : Dun K C "__eq__" f) (F : FnOk X.prog X.w K X.mg X.base CX k f fd ps sp) (hr : Room k X.A) (hb : Binds K fd ps []) (hx : Passes CX X E) : OpR X (compareOp .Eq) (rEqR K C sp E) := by
  subst hK
  exact op_eqR D F hr hb hx
end
end L2
set_option Elab.async false
set_option linter.all false
set_option maxRecDepth 100000
set_option maxHeartbeats 4000000
namespace FR
open PySem PySem.Spec PyProof.Rows L2
section
variable {P : Program} {w : World} {K : PySem.W.Frag} {mg : Str → Option Value} {base : Heap} {C fI pT gT pB gB : Addr} {fdI fdT fdB : FuncData}
/-- what the text says of a built-in type beside the class -/
structure OddC (K : PySem.W.Frag) (C : Addr) (T : String) : Prop where
  k : PySem.W.kitOne K (.type T) (.ref C) = some false
  s : PySem.W.subIn K (.ref C) (.type T) = some false
  n : PySem.W.notFirst K C (.type T) = true
structure OddsC (K : PySem.W.Frag) (C : Addr) : Prop where
  non : OddC K C "NoneType"
  bl : OddC K C "bool"
  int : OddC K C "int"
  str : OddC K C "str"
  lst : OddC K C "list"
  tup : OddC K C "tuple"
  dK : OddC K C "dict"
theorem OddsC.of {H : Hp} (o : OddsC K C) {x : V} {T : String} (h : Odd K H x T) : OddC K C T := by
  cases h with
  | non => exact o.non
  | bl b => exact o.bl
  | int i => exact o.int
  | str y => exact o.str
  | lst e => exact o.lst
  | tup e => exact o.tup
  | dK e => exact o.dK
/-- a fraction, or a value of a built-in type; and whether a fraction t / b is equal to it -/
def Oth (K : PySem.W.Frag) (C : Addr) (H : Hp) (v : V) (t b : Int) (r : Bool) : Prop :=
  (∃ q t' b', v = .ref q ∧ FrAt C H q t' b' ∧ r = decide (t = t' ∧ b = b')) ∨ (∃ i, v = .int i ∧ r = decide (b = 1 ∧ t = i)) ∨ (∃ T, Odd K H v T ∧ T ≠ "int" ∧ r = false)
def spEq (K : PySem.W.Frag) (C : Addr) : Sp := fun vs H Q _ => ∃ (p : Addr) (v : V) (t b : Int) (r : Bool), vs = [.ref p, v] ∧ FrAt C H p t b ∧ Oth K C H v t b r ∧ Q (.bl r) H
abbrev sEq : Stmt := inClass sFrac 11
theorem scEq : FnScope ["self", "other"] ["self", "other"] (defScope sEq) := ⟨rfl, rfl, rfl, by decide +kernel, rfl, by decide +kernel, by decide +kernel⟩
theorem odd_plain {H : Hp} {v : V} {T : String} (o : Odd K H v T) (hT : T ≠ "int") : ∃ b1 b2, PySem.W.kitOne K (.type T) (.type "int") = some b1 ∧ PySem.W.kitOne K (.type T) (.type "bool") = some b2 ∧ (b1 && !b2) = false := by
  cases o with
  | non => exact ⟨false, false, kit_ty (by decide +kernel), kit_ty (by decide +kernel), rfl⟩
  | bl b => exact ⟨true, true, kit_ty (by decide +kernel), kit_ty (by decide +kernel), rfl⟩
  | int i => exact absurd rfl hT
  | str y => exact ⟨false, false, kit_ty (by decide +kernel), kit_ty (by decide +kernel), rfl⟩
  | lst e => exact ⟨false, false, kit_ty (by decide +kernel), kit_ty (by decide +kernel), rfl⟩
  | tup e => exact ⟨false, false, kit_ty (by decide +kernel), kit_ty (by decide +kernel), rfl⟩
  | dK e => exact ⟨false, false, kit_ty (by decide +kernel), kit_ty (by decide +kernel), rfl⟩
theorem dec_and {p q : Prop} [Decidable p] [Decidable q] : decide (p ∧ q) = (decide p && decide q) := by
  by_cases h : p <;> by_cases g : q <;> simp [h, g]
theorem dec_int (i j : Int) : decide (V.int i = V.int j) = decide (i = j) := by
  by_cases h : i = j
  · subst h; simp
  · rw [decide_eq_false h, decide_eq_false fun z => h (V.int.inj z)]
theorem ok_eq {f fP : Addr} {fd fdP : FuncData} (F : Fun K "__eq__" "Fraction.__eq__" sEq f fd) (k : FrK P w K mg base C fI pT gT pB gB fdI fdT fdB) (o : OddsC K C) (GP : FnOk P w K mg base CX0 1 fP fdP ["value"] (spPlain K)) (mP : mg "is_plain_integer" = some (.ref fP))
    (kP : PySem.W.keepIn K (.ref fP) = true) (bP : Binds K fdP ["value"] []) : FnOk P w K mg base CX0 3 f fd ["self", "other"] (spEq K C) := by
  refine F.ok scEq (fun vs H Q E h => ?_) (fun cdv A outer s H vs Q E hr h => ?_)
  · obtain ⟨p, v, t, b, r, rfl, _⟩ := h
    rfl
  · obtain ⟨p, v, t, b, r, rfl, ⟨dp, hp⟩, hv, q⟩ := h
    refine ⟨_, pss_cons (ps_if (pt_val (pe_callB call_isi (by rfl) k.is PyProof.Rows.boot_isinstance (pa_cons (pv 1) (pa_cons (pe_glob (v := .ref C) (by rfl) k.T.mC rfl) pa_nil))))
        (pss_one (ps_ret (pe_and (pe_cmpR op_eq (pe_prop (pv 0) k.T.cl k.oT k.GT (hr.mono (by decide)) k.bT .nil pass0 rfl) (pe_prop (pv 1) k.T.cl k.oT k.GT (hr.mono (by decide)) k.bT .nil pass0 rfl) (nomark _))
          (pe_one (pe_cmpR op_eq (pe_prop (pv 0) k.T.cl k.oB k.GB (hr.mono (by decide)) k.bB .nil pass0 rfl) (pe_prop (pv 1) k.T.cl k.oB k.GB (hr.mono (by decide)) k.bB .nil pass0 rfl) (nomark _)))))) pss_nil)
      (pss_one (ps_ret (pe_and (pe_call GP (hr.mono (by decide)) (by rfl) mP kP bP .nil pass0 (pa_cons (pv 1) pa_nil)) (pe_and (pe_cmpR op_eq (pe_prop (pv 0) k.T.cl k.oB k.GB (hr.mono (by decide)) k.bB .nil pass0 rfl) pe_int (nomark _))
          (pe_one (pe_cmpR op_eq (pe_prop (pv 0) k.T.cl k.oT k.GT (hr.mono (by decide)) k.bT .nil pass0 rfl) (pv 1) (nomark _))))))), ?_⟩
    rcases hv with ⟨q', t', b', rfl, ⟨dq, hq⟩, rfl⟩ | ⟨i, rfl, rfl⟩ | ⟨T, od, hT, rfl⟩
    · refine ⟨_, rfl, _, _, _, _, true, rfl, .own _, .base (.ins hq k.T.cl k.ha k.hn k.tk k.hm), kit_self K C, _, rfl, ?_⟩
      refine ⟨_, rfl, p, dp, _, rfl, hp, p, dp, _, _, rfl, hp, fl_top _ _, _, rfl, q', dq, _, rfl, hq, q', dq, _, _, rfl, hq, fl_top _ _, rfl, _, rfl, ?_⟩
      rw [dec_and] at q
      refine ite2 (fun z => ?_) (fun z => ?_)
      · rw [dec_int] at z
        rw [z, Bool.true_and] at q
        refine ⟨_, rfl, p, dp, _, rfl, hp, p, dp, _, _, rfl, hp, fl_bot _ _, _, rfl, q', dq, _, rfl, hq, q', dq, _, _, rfl, hq, fl_bot _ _, rfl, ?_⟩
        rw [dec_int]
        exact q
      · rw [dec_int] at z
        rw [Bool.eq_false_iff.mpr z, Bool.false_and] at q
        exact q
    · refine ⟨_, rfl, _, _, _, _, false, rfl, .own _, .base (.int i), o.int.k, _, rfl, iteF ?_⟩
      refine ⟨_, rfl, _, _, true, false, rfl, .base (.int i), kI1, kI2, _, rfl, ?_⟩
      refine ⟨_, rfl, p, dp, _, rfl, hp, p, dp, _, _, rfl, hp, fl_bot _ _, rfl, _, rfl, ?_⟩
      rw [dec_and] at q
      refine ite2 (fun z => ?_) (fun z => ?_)
      · rw [dec_int] at z
        rw [z, Bool.true_and] at q
        refine ⟨_, rfl, p, dp, _, rfl, hp, p, dp, _, _, rfl, hp, fl_top _ _, _, rfl, rfl, ?_⟩
        rw [dec_int]
        exact q
      · rw [dec_int] at z
        rw [Bool.eq_false_iff.mpr z, Bool.false_and] at q
        exact q
    · obtain ⟨b1, b2, e1, e2, e3⟩ := odd_plain (K := K) od hT
      refine ⟨_, rfl, _, _, _, _, false, rfl, .own _, od.ty, (o.of od).k, _, rfl, iteF ?_⟩
      refine ⟨_, rfl, _, _, b1, b2, rfl, od.ty, e1, e2, _, rfl, ?_⟩
      rw [e3]
      exact q
end
end FR
set_option Elab.async false
set_option linter.all false
set_option maxRecDepth 100000
set_option maxHeartbeats 4000000
namespace FR
open PySem PySem.Spec PyProof.Rows L2
section
variable {P : Program} {w : World} {K : PySem.W.Frag} {mg : Str → Option Value} {base : Heap} {C fI pT gT pB gB : Addr} {fdI fdT fdB : FuncData}
/-! ### is_fraction -/
abbrev sIsF : Stmt := top 15
theorem scIsF : FnScope ["value"] ["value"] (defScope sIsF) := ⟨rfl, rfl, rfl, by decide +kernel, rfl, by decide +kernel, by decide +kernel⟩
/-- whether it is a fraction -/
def IsFr (K : PySem.W.Frag) (C : Addr) (H : Hp) (v : V) (r : Bool) : Prop := (∃ q t b, v = .ref q ∧ FrAt C H q t b ∧ r = true) ∨ (∃ i, v = .int i ∧ r = true) ∨ (∃ T, Odd K H v T ∧ T ≠ "int" ∧ r = false)
def spIsF (K : PySem.W.Frag) (C : Addr) : Sp := fun vs H Q _ => ∃ v r, vs = [v] ∧ IsFr K C H v r ∧ Q (.bl r) H
theorem ok_isF {f fP : Addr} {fd fdP : FuncData} (F : Fun K "is_fraction" "is_fraction" sIsF f fd) (k : FrK P w K mg base C fI pT gT pB gB fdI fdT fdB) (o : OddsC K C) (GP : FnOk P w K mg base CX0 1 fP fdP ["value"] (spPlain K)) (mP : mg "is_plain_integer" = some (.ref fP))
    (kP : PySem.W.keepIn K (.ref fP) = true) (bP : Binds K fdP ["value"] []) : FnOk P w K mg base CX0 2 f fd ["value"] (spIsF K C) := by
  refine F.ok scIsF (fun vs H Q E h => ?_) (fun cdv A outer s H vs Q E hr h => ?_)
  · obtain ⟨v, r, rfl, _⟩ := h
    rfl
  · obtain ⟨v, r, rfl, hv, q⟩ := h
    refine ⟨_, pss_one (ps_ret (pe_or (pe_callB call_isi (by rfl) k.is PyProof.Rows.boot_isinstance (pa_cons (pv 0) (pa_cons (pe_glob (v := .ref C) (by rfl) k.T.mC rfl) pa_nil)))
      (pe_one (pe_call GP hr (by rfl) mP kP bP .nil pass0 (pa_cons (pv 0) pa_nil))))), ?_⟩
    rcases hv with ⟨p, t, b, rfl, ⟨dx, hp⟩, rfl⟩ | ⟨i, rfl, rfl⟩ | ⟨T, od, hT, rfl⟩
    · exact ⟨_, rfl, _, _, _, _, true, rfl, .own _, .base (.ins hp k.T.cl k.ha k.hn k.tk k.hm), kit_self K C, _, rfl, q⟩
    · exact ⟨_, rfl, _, _, _, _, false, rfl, .own _, .base (.int i), o.int.k, _, rfl, _, rfl, _, _, true, false, rfl, .base (.int i), kI1, kI2, q⟩
    · obtain ⟨b1, b2, e1, e2, e3⟩ := odd_plain (K := K) od hT
      refine ⟨_, rfl, _, _, _, _, false, rfl, .own _, od.ty, (o.of od).k, _, rfl, _, rfl, _, _, b1, b2, rfl, od.ty, e1, e2, ?_⟩
      rw [e3]
      exact q
end
end FR
set_option Elab.async false
set_option linter.all false
namespace FR
/-! ### the least form, as mathematics -/
theorem dv_dvd_t {t b : Int} (h : b ≠ 0) : dv t b ∣ t := by
  have z : ((Nat.gcd t.natAbs b.natAbs : Nat) : Int) ∣ t := Int.ofNat_dvd_left.mpr (Nat.gcd_dvd_left _ _)
  unfold dv
  split
  · exact Int.neg_dvd.mpr z
  · exact z
theorem dv_dvd_b {t b : Int} (h : b ≠ 0) : dv t b ∣ b := by
  have z : ((Nat.gcd t.natAbs b.natAbs : Nat) : Int) ∣ b := Int.ofNat_dvd_left.mpr (Nat.gcd_dvd_right _ _)
  unfold dv
  split
  · exact Int.neg_dvd.mpr z
  · exact z
theorem nT_mul {t b : Int} (h : b ≠ 0) : nT t b * dv t b = t := Int.fdiv_mul_cancel (dv_dvd_t h)
theorem nB_mul {t b : Int} (h : b ≠ 0) : nB t b * dv t b = b := Int.fdiv_mul_cancel (dv_dvd_b h)
theorem dv_sign {t b : Int} (h : b ≠ 0) : (0 < b → 0 < dv t b) ∧ (b < 0 → dv t b < 0) := by
  have z : 0 < Nat.gcd t.natAbs b.natAbs := Nat.gcd_pos_of_pos_right _ (by omega)
  unfold dv
  constructor
  · intro q
    rw [if_neg (by omega)]
    omega
  · intro q
    rw [if_pos q]
    omega
theorem nB_pos {t b : Int} (h : b ≠ 0) : 0 < nB t b := by
  have e := nB_mul (t := t) h
  obtain ⟨s1, s2⟩ := dv_sign (t := t) h
  rcases Int.lt_or_gt_of_ne h with q | q
  · have d := s2 q
    refine Int.not_le.mp fun c => ?_
    have := Int.mul_nonneg_of_nonpos_of_nonpos c (Int.le_of_lt d)
    omega
  · have d := s1 q
    refine Int.not_le.mp fun c => ?_
    have := Int.mul_nonpos_of_nonpos_of_nonneg c (Int.le_of_lt d)
    omega
/-- two forms of a fraction with bottoms above 0 and no common divisor are the same -/
theorem nT_le {t b : Int} (h : b ≠ 0) : (nT t b).natAbs ≤ t.natAbs := by
  have e := congrArg Int.natAbs (nT_mul (t := t) h)
  rw [Int.natAbs_mul] at e
  have z : 0 < (dv t b).natAbs := Int.natAbs_pos.mpr (dv_ne h)
  rw [← e]
  exact Nat.le_mul_of_pos_right _ z
theorem nB_le {t b : Int} (h : b ≠ 0) : (nB t b).natAbs ≤ b.natAbs := by
  have e := congrArg Int.natAbs (nB_mul (t := t) h)
  rw [Int.natAbs_mul] at e
  have z : 0 < (dv t b).natAbs := Int.natAbs_pos.mpr (dv_ne h)
  rw [← e]
  exact Nat.le_mul_of_pos_right _ z
theorem dv_scale {t b k : Int} (hk : 0 < k) : dv (k * t) (k * b) = k * dv t b := by
  have g : Nat.gcd (k * t).natAbs (k * b).natAbs = k.natAbs * Nat.gcd t.natAbs b.natAbs := by
    rw [Int.natAbs_mul, Int.natAbs_mul, Nat.gcd_mul_left]
  have kk : ((k.natAbs : Nat) : Int) = k := by omega
  have hb : k * b < 0 ↔ b < 0 := by
    constructor
    · intro q
      refine Int.not_le.mp fun c => ?_
      have := Int.mul_nonneg (Int.le_of_lt hk) c
      omega
    · intro q
      exact Int.mul_neg_of_pos_of_neg hk q
  unfold dv
  rw [g, Int.natCast_mul, kk]
  by_cases q : b < 0
  · rw [if_pos q, if_pos (hb.mpr q), Int.mul_neg]
  · rw [if_neg q, if_neg fun z => q (hb.mp z)]
theorem nT_scale {t b k : Int} (hk : 0 < k) : nT (k * t) (k * b) = nT t b := by
  unfold nT
  rw [dv_scale hk]
  exact Int.mul_fdiv_mul_of_pos _ _ hk
theorem nB_scale {t b k : Int} (hk : 0 < k) : nB (k * t) (k * b) = nB t b := by
  unfold nB
  rw [dv_scale hk]
  exact Int.mul_fdiv_mul_of_pos _ _ hk
theorem dv_neg {t b : Int} (h : b ≠ 0) : dv (-t) (-b) = -dv t b := by
  unfold dv
  rw [Int.natAbs_neg, Int.natAbs_neg]
  by_cases q : b < 0
  · rw [if_pos q, if_neg (by omega), Int.neg_neg]
  · rw [if_neg q, if_pos (by omega)]
theorem nT_neg {t b : Int} (h : b ≠ 0) : nT (-t) (-b) = nT t b := by
  unfold nT
  rw [dv_neg h, Int.neg_fdiv_neg]
theorem nB_neg {t b : Int} (h : b ≠ 0) : nB (-t) (-b) = nB t b := by
  unfold nB
  rw [dv_neg h, Int.neg_fdiv_neg]
theorem n_gcd {t b : Int} (h : b ≠ 0) : Nat.gcd (nT t b).natAbs (nB t b).natAbs = 1 := by
  have e1 := congrArg Int.natAbs (nT_mul (t := t) h)
  have e2 := congrArg Int.natAbs (nB_mul (t := t) h)
  rw [Int.natAbs_mul] at e1 e2
  have ed : (dv t b).natAbs = Nat.gcd t.natAbs b.natAbs := by
    unfold dv
    split <;> omega
  have g : Nat.gcd t.natAbs b.natAbs = Nat.gcd (nT t b).natAbs (nB t b).natAbs * (dv t b).natAbs := by
    rw [← Nat.gcd_mul_right, e1, e2]
  have z : 0 < (dv t b).natAbs := Int.natAbs_pos.mpr (dv_ne h)
  rw [ed] at g z
  exact Nat.eq_of_mul_eq_mul_right z (by rw [Nat.one_mul]; exact g.symm)
theorem dv_n {t b : Int} (h : b ≠ 0) : dv (nT t b) (nB t b) = 1 := by
  have p := nB_pos (t := t) h
  unfold dv
  rw [if_neg (by omega), n_gcd h]
  rfl
theorem nT_n {t b : Int} (h : b ≠ 0) : nT (nT t b) (nB t b) = nT t b := by
  show (nT t b).fdiv (dv (nT t b) (nB t b)) = _
  rw [dv_n h, Int.fdiv_one]
theorem nB_n {t b : Int} (h : b ≠ 0) : nB (nT t b) (nB t b) = nB t b := by
  show (nB t b).fdiv (dv (nT t b) (nB t b)) = _
  rw [dv_n h, Int.fdiv_one]
theorem n_int {t b n : Int} (h : b ≠ 0) : (nB t b = 1 ∧ nT t b = n) ↔ n * b = t := by
  constructor
  · rintro ⟨e1, e2⟩
    have m1 := nT_mul (t := t) h
    have m2 := nB_mul (t := t) h
    rw [e2] at m1
    rw [e1, Int.one_mul] at m2
    rw [m2] at m1
    exact m1
  · intro e
    have d : dv t b = b := by
      have hn : Nat.gcd t.natAbs b.natAbs = b.natAbs := by
        rw [← e, Int.natAbs_mul]
        exact Nat.gcd_mul_left_left _ _
      unfold dv
      rw [hn]
      split <;> omega
    unfold nB nT
    rw [d]
    refine ⟨Int.fdiv_self h, ?_⟩
    rw [← e, Int.mul_fdiv_cancel _ h]
end FR
set_option Elab.async false
set_option linter.all false
namespace FR
/-! ### pairs in least form -/
def Lf (t b : Int) : Prop := 0 < b ∧ Nat.gcd t.natAbs b.natAbs = 1
theorem Lf.dv1 {t b : Int} (h : Lf t b) : dv t b = 1 := by
  unfold dv
  rw [if_neg (by have := h.1; omega), h.2]
  rfl
theorem Lf.nT {t b : Int} (h : Lf t b) : nT t b = t := by
  unfold FR.nT
  rw [h.dv1, Int.fdiv_one]
theorem Lf.nB {t b : Int} (h : Lf t b) : nB t b = b := by
  unfold FR.nB
  rw [h.dv1, Int.fdiv_one]
theorem Lf.ne {t b : Int} (h : Lf t b) : b ≠ 0 := by have := h.1; omega
theorem lf_n {t b : Int} (h : b ≠ 0) : Lf (nT t b) (nB t b) := ⟨nB_pos h, n_gcd h⟩
theorem Lf.neg {t b : Int} (h : Lf t b) : Lf (-t) b := ⟨h.1, by rw [Int.natAbs_neg]; exact h.2⟩
theorem Lf.one (t : Int) : Lf t 1 := ⟨by decide, Nat.gcd_one_right _⟩
/-- forms of one fraction have one least form -/
theorem n_mul {t b k : Int} (hb : b ≠ 0) (hk : k ≠ 0) : nT (k * t) (k * b) = nT t b ∧ nB (k * t) (k * b) = nB t b := by
  rcases Int.lt_or_gt_of_ne hk with q | q
  · have e1 : k * t = -((-k) * t) := by rw [Int.neg_mul, Int.neg_neg]
    have e2 : k * b = -((-k) * b) := by rw [Int.neg_mul, Int.neg_neg]
    have n0 : -k * b ≠ 0 := Int.mul_ne_zero (by omega) hb
    rw [e1, e2, nT_neg n0, nB_neg n0, nT_scale (by omega), nB_scale (by omega)]
    exact ⟨rfl, rfl⟩
  · rw [nT_scale q, nB_scale q]
    exact ⟨rfl, rfl⟩
theorem n_cross {t b t' b' : Int} (hb : b ≠ 0) (hb' : b' ≠ 0) (h : t * b' = t' * b) : nT t b = nT t' b' ∧ nB t b = nB t' b' := by
  obtain ⟨a1, a2⟩ := n_mul (t := t) hb hb'
  obtain ⟨c1, c2⟩ := n_mul (t := t') hb' hb
  have e1 : b' * t = b * t' := by rw [Int.mul_comm, h, Int.mul_comm]
  have e2 : b' * b = b * b' := Int.mul_comm _ _
  rw [e1, e2] at a1 a2
  exact ⟨a1.symm.trans c1, a2.symm.trans c2⟩
/-- the least form, by its cross -/
theorem n_back {t b : Int} (hb : b ≠ 0) : nT t b * b = t * nB t b := by
  have e1 := nT_mul (t := t) hb
  have e2 := nB_mul (t := t) hb
  generalize nT t b = x at *
  generalize nB t b = y at *
  generalize dv t b = d at *
  subst e1
  rw [← e2, Int.mul_comm y d, ← Int.mul_assoc]
abbrev PI := Int × Int
def plusP (a c : PI) : PI := (nT (a.1 * c.2 + c.1 * a.2) (a.2 * c.2), nB (a.1 * c.2 + c.1 * a.2) (a.2 * c.2))
def sumP (ps : List PI) : PI := ps.foldl plusP (0, 1)
def lc (a b : Int) : Int := ((Nat.lcm a.natAbs b.natAbs : Nat) : Int)
def lcmP (ps : List PI) : Int := ps.foldl (fun a p => lc a p.2) 1
def topsP (ps : List PI) (m : Int) : List Int := ps.map fun p => p.1 * m.fdiv p.2
def AllLf (ps : List PI) : Prop := ∀ p ∈ ps, Lf p.1 p.2
theorem take_snoc {α : Type} {l : List α} {i : Nat} {x : α} (h : l[i]? = some x) : l.take (i + 1) = l.take i ++ [x] := by
  rw [List.take_add_one, h]
  rfl
theorem lc_dvd (a b : Int) : a ∣ lc a b ∧ b ∣ lc a b := ⟨Int.natAbs_dvd.mp (Int.ofNat_dvd.mpr (Nat.dvd_lcm_left _ _)), Int.natAbs_dvd.mp (Int.ofNat_dvd.mpr (Nat.dvd_lcm_right _ _))⟩
theorem lc_pos {a b : Int} (h : 0 < a) (g : 0 < b) : 0 < lc a b := by
  have z : 0 < Nat.lcm a.natAbs b.natAbs := Nat.lcm_pos (by omega) (by omega)
  unfold lc
  omega
theorem lc_le {a b : Int} {n m : Nat} (h : 0 < a) (g : 0 < b) (ha : a.natAbs < 2 ^ n) (hb : b.natAbs < 2 ^ m) : (lc a b).natAbs < 2 ^ (n + m) := by
  show Nat.lcm _ _ < _
  rw [Nat.pow_add]
  refine Nat.lt_of_le_of_lt (Nat.le_of_dvd (Nat.mul_pos (by omega) (by omega)) (Nat.lcm_dvd_mul _ _)) (Nat.mul_lt_mul'' ha hb)
theorem lcmP_snoc (ps : List PI) (p : PI) : lcmP (ps ++ [p]) = lc (lcmP ps) p.2 := by
  unfold lcmP
  rw [List.foldl_append]
  rfl
theorem sumP_snoc (ps : List PI) (p : PI) : sumP (ps ++ [p]) = plusP (sumP ps) p := by
  unfold sumP
  rw [List.foldl_append]
  rfl
theorem snoc_ind {α : Type} {Q : List α → Prop} (h0 : Q []) (h : ∀ l x, Q l → Q (l ++ [x])) (l : List α) : Q l := by
  have z : ∀ n (l : List α), l.length = n → Q l := by
    intro n
    induction n with
    | zero =>
      intro l e
      rw [List.length_eq_zero_iff.mp e]
      exact h0
    | succ n ih =>
      intro l e
      have e1 : l ≠ [] := by rintro rfl; exact absurd e (by simp)
      rw [← List.dropLast_concat_getLast e1]
      exact h _ _ (ih _ (by rw [List.length_dropLast, e]; rfl))
  exact z _ l rfl
theorem AllLf.init {ps : List PI} {p : PI} (h : AllLf (ps ++ [p])) : AllLf ps ∧ Lf p.1 p.2 :=
  ⟨fun q m => h q (List.mem_append_left _ m), h p (List.mem_append_right _ (List.mem_singleton.mpr rfl))⟩
theorem lcmP_pos {ps : List PI} (h : AllLf ps) : 0 < lcmP ps := by
  induction ps using snoc_ind with
  | h0 => decide
  | h l x ih =>
    rw [lcmP_snoc]
    exact lc_pos (ih h.init.1) h.init.2.1
theorem lcmP_dvd (ps : List PI) : ∀ p ∈ ps, p.2 ∣ lcmP ps := by
  induction ps using snoc_ind with
  | h0 => exact fun p m => absurd m (by simp)
  | h l x ih =>
    intro p m
    rw [lcmP_snoc]
    rcases List.mem_append.mp m with m | m
    · exact Int.dvd_trans (ih p m) (lc_dvd _ _).1
    · rw [List.mem_singleton.mp m]
      exact (lc_dvd _ _).2
theorem fdiv_mul {m b : Int} (h : b ∣ m) : m.fdiv b * b = m := Int.fdiv_mul_cancel h
theorem fdiv_le {m b : Int} (h : b ∣ m) (hb : 0 < b) : (m.fdiv b).natAbs ≤ m.natAbs := by
  have e := congrArg Int.natAbs (fdiv_mul h)
  rw [Int.natAbs_mul] at e
  rw [← e]
  exact Nat.le_mul_of_pos_right _ (by omega)
theorem sumP_lf {ps : List PI} (h : AllLf ps) : Lf (sumP ps).1 (sumP ps).2 := by
  induction ps using snoc_ind with
  | h0 => exact Lf.one 0
  | h l x ih =>
    rw [sumP_snoc]
    exact lf_n (Int.mul_ne_zero (ih h.init.1).ne h.init.2.ne)
/-- the sum of the tops over any bottom that serves, against the sum of the pairs -/
theorem sum_cross {ps : List PI} (h : AllLf ps) {m : Int} (hm : ∀ p ∈ ps, p.2 ∣ m) : (topsP ps m).sum * (sumP ps).2 = (sumP ps).1 * m := by
  induction ps using snoc_ind with
  | h0 => simp [topsP, sumP]
  | h l x ih =>
    have i1 := ih h.init.1 fun p k => hm p (List.mem_append_left _ k)
    have l0 := sumP_lf h.init.1
    have lx := h.init.2
    have dx := fdiv_mul (hm x (List.mem_append_right _ (List.mem_singleton.mpr rfl)))
    have nb := n_back (t := (sumP l).1 * x.2 + x.1 * (sumP l).2) (Int.mul_ne_zero l0.ne lx.ne)
    have hb := Int.mul_ne_zero l0.ne lx.ne
    have e1 : (topsP (l ++ [x]) m).sum = (topsP l m).sum + x.1 * m.fdiv x.2 := by
      unfold topsP
      rw [List.map_append, List.sum_append]
      simp
    rw [sumP_snoc, e1]
    show (_ + _) * nB _ _ = nT _ _ * m
    refine Int.eq_of_mul_eq_mul_right hb ?_
    generalize nT ((sumP l).1 * x.2 + x.1 * (sumP l).2) ((sumP l).2 * x.2) = N at *
    generalize nB ((sumP l).1 * x.2 + x.1 * (sumP l).2) ((sumP l).2 * x.2) = B at *
    generalize (sumP l).1 = s at *
    generalize (sumP l).2 = u at *
    generalize x.1 = p at *
    generalize x.2 = q at *
    generalize m.fdiv q = d at *
    generalize (topsP l m).sum = T at *
    have a1 : N * m * (u * q) = N * (u * q) * m := by ac_rfl
    have a2 : (T + p * d) * B * (u * q) = ((T * u) * q + (p * u) * (d * q)) * B := by
      rw [Int.add_mul, Int.add_mul, Int.add_mul]
      ac_rfl
    rw [a1, a2, nb, i1, dx]
    rw [Int.add_mul, Int.add_mul, Int.add_mul]
    ac_rfl
theorem total_is {ps : List PI} (h : AllLf ps) : nT (topsP ps (lcmP ps)).sum (lcmP ps) = (sumP ps).1 ∧ nB (topsP ps (lcmP ps)).sum (lcmP ps) = (sumP ps).2 := by
  have l := sumP_lf h
  have c := n_cross (t := (topsP ps (lcmP ps)).sum) (b := lcmP ps) (t' := (sumP ps).1) (b' := (sumP ps).2) (by have := lcmP_pos h; omega) l.ne (sum_cross h (lcmP_dvd ps))
  rw [l.nT, l.nB] at c
  exact c
/-! ### the least and the greatest one -/
def lessP (a c : PI) : Bool := decide (a.1 * c.2 < c.1 * a.2)
def leastP (a c : PI) : PI := if lessP c a then c else a
def mostP (a c : PI) : PI := if lessP a c then c else a
def fDown (t b n : Int) : Int := (t * n).fdiv b
def fUp (t b n : Int) : Int := if fDown t b n * b = t * n then fDown t b n else fDown t b n + 1
theorem up_is {t b n : Int} (hb : 0 < b) : -((-t * n).fdiv b) = fUp t b n := by
  have e : -t * n = -(t * n) := Int.neg_mul _ _
  unfold fUp fDown
  rw [e]
  generalize t * n = x
  rw [Int.fdiv_eq_ediv_of_nonneg _ (Int.le_of_lt hb), Int.fdiv_eq_ediv_of_nonneg _ (Int.le_of_lt hb)]
  have d := Int.mul_ediv_add_emod x b
  have m0 := Int.emod_nonneg x (by omega : b ≠ 0)
  have m1 := Int.emod_lt_of_pos x hb
  rw [Int.mul_comm] at d
  generalize x / b = q at *
  by_cases z : q * b = x
  · rw [if_pos z, ← z, ← Int.neg_mul, Int.mul_ediv_cancel _ (by omega), Int.neg_neg]
  · rw [if_neg z]
    have s : -x = (b - x % b) + (-(q + 1)) * b := by
      rw [Int.neg_mul, Int.add_mul, Int.one_mul]
      omega
    rw [s, Int.add_mul_ediv_right _ _ (by omega), Int.ediv_eq_zero_of_lt (by omega) (by omega)]
    omega
end FR
set_option Elab.async false
set_option linter.all false
set_option maxRecDepth 100000
set_option maxHeartbeats 4000000
namespace FR
open PySem PySem.Spec PyProof.Rows L2
/-! ### math.lcm -/
def rLcm : List V → Hp → VK → Prop := fun vs H Q => ∃ a b : Int, vs = [.int a, .int b] ∧ 0 < a ∧ 0 < b ∧ a.natAbs < 2 ^ 3000 ∧ b.natAbs < 2 ^ 3000 ∧ Q (.int (lc a b)) H
theorem cr_lcm {X : Cx} : CallR X (.builtin "math.lcm") rLcm := by
  intro pins s σ H vs us Q I r h
  obtain ⟨a, b, rfl, pa, pb, za, zb, q⟩ := h
  obtain ⟨t, u, rfl⟩ := Vals.int2 r
  have h1 : (max 1 a.natAbs).log2 < 3000 := PySem.Flt.log2_lt_of (by decide) (Nat.max_lt.mpr ⟨by decide +kernel, za⟩)
  have h2 : (max a.natAbs b.natAbs).log2 < 3000 := PySem.Flt.log2_lt_of (by decide) (Nat.max_lt.mpr ⟨za, zb⟩)
  have e : (Nat.lcm 1 a.natAbs).lcm b.natAbs = Nat.lcm a.natAbs b.natAbs := by rw [Nat.lcm_one_left]
  have g := PySem.W.mg_run_lcm a t b u (by omega) (by omega) (by
    rw [e]
    have : (lc a b).natAbs.log2 < 6000 := PySem.Flt.log2_lt_of (by decide) (lc_le pa pb za zb)
    show (lc a b).natAbs.log2 < bitsLine
    rw [bitsLine_eq]
    omega)
  rw [e] at g
  exact call_function_meets PySem.W.MGF.kind_lcm PySem.W.MGF.plain_lcm PySem.W.MGF.entry_lcm (PySem.W.MGF.args_lcm _ _) g.meets ⟨.int _, H, I.tok _, ⟨_, rfl⟩, q⟩
/-! ### lists of values that stand for pairs -/
def A2 (R : V → PI → Prop) (vs : List V) (ps : List PI) : Prop := vs.length = ps.length ∧ ∀ (i : Nat) (v : V), vs[i]? = some v → ∃ p : PI, ps[i]? = some p ∧ R v p
theorem A2.nil {R : V → PI → Prop} : A2 R [] [] := ⟨rfl, fun i v h => by simp at h⟩
theorem A2.cons {R : V → PI → Prop} {v : V} {p : PI} {vs : List V} {ps : List PI} (r : R v p) (h : A2 R vs ps) : A2 R (v :: vs) (p :: ps) := by
  refine ⟨by simp [h.1], fun i x hx => ?_⟩
  cases i with
  | zero => exact ⟨p, rfl, by cases hx; exact r⟩
  | succ i => exact h.2 i x hx
theorem A2.uncons {R : V → PI → Prop} {v : V} {p : PI} {vs : List V} {ps : List PI} (h : A2 R (v :: vs) (p :: ps)) : R v p ∧ A2 R vs ps := by
  refine ⟨?_, by simpa using h.1, fun i x hx => h.2 (i + 1) x hx⟩
  obtain ⟨q, e, r⟩ := h.2 0 v rfl
  cases e
  exact r
theorem A2.snoc {R : V → PI → Prop} {v : V} {p : PI} : ∀ {vs : List V} {ps : List PI}, A2 R vs ps → R v p → A2 R (vs ++ [v]) (ps ++ [p])
  | [], [], _, r => A2.cons r A2.nil
  | _ :: _, _ :: _, h, r => A2.cons h.uncons.1 (A2.snoc h.uncons.2 r)
  | [], _ :: _, h, _ => absurd h.1 (by simp)
  | _ :: _, [], h, _ => absurd h.1 (by simp)
theorem A2.imp {R R' : V → PI → Prop} {vs : List V} {ps : List PI} (h : A2 R vs ps) (f : ∀ v p, R v p → R' v p) : A2 R' vs ps := ⟨h.1, fun i v e => by
  obtain ⟨p, e', r⟩ := h.2 i v e
  exact ⟨p, e', f v p r⟩⟩
/-- a fraction, as an object -/
def FR1 (C : Addr) (H : Hp) (v : V) (p : PI) : Prop := ∃ q, v = .ref q ∧ FrAt C H q p.1 p.2
/-- a pair of integers, as a tuple -/
def TP1 (H : Hp) (v : V) (p : PI) : Prop := ∃ q, v = .ref q ∧ H q = some (.tup [.int p.1, .int p.2])
abbrev FVs (C : Addr) (H : Hp) (vs : List V) (ps : List PI) : Prop := A2 (fun v p => FV C H v p.1 p.2) vs ps
abbrev FRs (C : Addr) (H : Hp) (vs : List V) (ps : List PI) : Prop := A2 (FR1 C H) vs ps
abbrev TPs (H : Hp) (vs : List V) (ps : List PI) : Prop := A2 (TP1 H) vs ps
theorem FrAt.updl {C : Addr} {H : Hp} {p D : Addr} {t b : Int} {xs : List V} {o : HO} (h : FrAt C H p t b) (hD : H D = some (.lst xs)) : FrAt C (upd H D o) p t b := by
  obtain ⟨dx, e⟩ := h
  exact ⟨dx, by rw [upd_ne fun z => by rw [z, hD] at e; cases e]; exact e⟩
theorem tup_updl {H : Hp} {p D : Addr} {ys xs : List V} {o : HO} (h : H p = some (.tup ys)) (hD : H D = some (.lst xs)) : upd H D o p = some (.tup ys) := by
  rw [upd_ne fun z => by rw [z, hD] at h; cases h]
  exact h
theorem FRs.updl {C : Addr} {H : Hp} {D : Addr} {xs : List V} {o : HO} {vs : List V} {ps : List PI} (h : FRs C H vs ps) (hD : H D = some (.lst xs)) : FRs C (upd H D o) vs ps :=
  A2.imp h fun _ _ ⟨q, e, f⟩ => ⟨q, e, f.updl hD⟩
theorem TPs.updl {H : Hp} {D : Addr} {xs : List V} {o : HO} {vs : List V} {ps : List PI} (h : TPs H vs ps) (hD : H D = some (.lst xs)) : TPs (upd H D o) vs ps :=
  A2.imp h fun _ _ ⟨q, e, f⟩ => ⟨q, e, tup_updl f hD⟩
theorem FRs.same {C : Addr} {H H' : Hp} {vs : List V} {ps : List PI} (h : FRs C H vs ps) (s : Same H H') : FRs C H' vs ps := A2.imp h fun _ _ ⟨q, e, f⟩ => ⟨q, e, f.same s⟩
theorem FVs.same {C : Addr} {H H' : Hp} {vs : List V} {ps : List PI} (h : FVs C H vs ps) (s : Same H H') : FVs C H' vs ps := A2.imp h fun _ _ f => f.same s
theorem TPs.same {H H' : Hp} {vs : List V} {ps : List PI} (h : TPs H vs ps) (s : Same H H') : TPs H' vs ps := A2.imp h fun _ _ ⟨q, e, f⟩ => ⟨q, e, s _ _ f⟩
theorem same_grow {H H' : Hp} {D : Addr} {o : HO} (hD : H D = none) (s : Same H H') : Same H (upd H' D o) := fun q o' e => by
  rw [upd_ne (ne_of_none e hD)]
  exact s _ _ e
theorem same_new {H : Hp} {p : Addr} {o : HO} (h : H p = none) : Same H (upd H p o) := fun q o' e => by rw [upd_ne (ne_of_none e h)]; exact e
/-! ### is_at_least, is_fractions -/
section
variable {P : Program} {w : World} {K : PySem.W.Frag} {mg : Str → Option Value} {base : Heap} {C fI pT gT pB gB : Addr} {fdI fdT fdB : FuncData}
abbrev sFs : Stmt := top 17
abbrev NFs : List Str := ["value", "one"]
theorem scFs : FnScope NFs ["value"] (defScope sFs) := ⟨rfl, rfl, rfl, by decide +kernel, rfl, by decide +kernel, by decide +kernel⟩
/-- short, and so is the least bottom that all can have -/
def Shr (ps : List PI) : Prop := (lcmP ps).natAbs < 2 ^ 2401 ∧ ∀ p ∈ ps, p.1.natAbs < 2 ^ 2400 ∧ p.2.natAbs < 2 ^ 2400
/-- a tuple of fractions, few and short -/
structure Tf (C : Addr) (H : Hp) (tp : Addr) (ps : List PI) : Prop where
  at_ : ∃ xs, H tp = some (.tup xs) ∧ FVs C H xs ps
  few : ps.length ≤ 80
  lf : AllLf ps
  sz : Shr ps
theorem Tf.same {H H' : Hp} {tp : Addr} {ps : List PI} (t : Tf C H tp ps) (s : Same H H') : Tf C H' tp ps := by
  obtain ⟨⟨xs, h, f⟩, a, b, c⟩ := t
  exact ⟨⟨xs, s _ _ h, f.same s⟩, a, b, c⟩
def spFs (C : Addr) : Sp := fun vs H Q _ => ∃ (tp : Addr) (ps : List PI), vs = [.ref tp] ∧ Tf C H tp ps ∧ ∀ H', Same H H' → Q (.bl true) H'
theorem ok_fs {f fF : Addr} {fd fdF : FuncData} (F : Fun K "is_fractions" "is_fractions" sFs f fd) (GF : FnOk P w K mg base CX0 2 fF fdF ["value"] (spIsF K C)) (mF : mg "is_fraction" = some (.ref fF))
    (kF : PySem.W.keepIn K (.ref fF) = true) (bF : Binds K fdF ["value"] []) (m1 : mg "isinstance" = none) (m2 : mg "tuple" = none) (m3 : mg "all" = none) : FnOk P w K mg base CX0 3 f fd ["value"] (spFs C) := by
  refine F.ok scFs (fun vs H Q E h => ?_) (fun cdv A outer s H vs Q E hr h => ?_)
  · obtain ⟨tp, ps, rfl, _⟩ := h
    rfl
  · obtain ⟨tp, ps, rfl, ⟨⟨xs, hx, hf⟩, hn, _, _⟩, q⟩ := h
    refine ⟨_, pss_one (ps_ret (pe_and (pe_callB call_isi (by rfl) m1 PyProof.Rows.boot_isinstance (pa_cons (pv 0) (pa_cons (pe_bltn (v := .ty "tuple") (by rfl) m2 (by decide +kernel) rfl) pa_nil)))
      (pe_one (pe_callB (cr_all rfl) (by rfl) m3 (by decide +kernel) (pa_cons (pe_lc (own := [("one", 1)]) (g := gName 1) (tt := tYes) rfl scFs.nd (pi_tup (pv 0)) (blkOk_by (N := NFs) (sc := defScope sFs) (by decide +kernel))
        (fun _ _ _ _ _ => pg_name (i := 1) scFs.nd rfl (.inl rfl)) (fun _ _ _ _ _ => pts_nil) (fun _ _ _ _ _ => pe_call GF hr (by rfl) mF kF bF .nil pass0 (pa_cons (pv 1) pa_nil))) pa_nil))))), ?_⟩
    refine ⟨_, rfl, _, _, _, _, true, rfl, .ty _, .base (.tup hx), kit_ty (by decide +kernel), _, rfl, ?_⟩
    refine ⟨_, rfl, tp, rfl, ⟨_, SqT.of hx⟩, fun D hD => ?_⟩
    refine lc_tup (xs := xs) (fun i Hc => Same H Hc ∧ Hc D = some (.lst ((List.replicate i true).map V.bl))) ⟨same_new hD, upd_same⟩ (fun i Hc _ p => SqT.of (p.1 _ _ hx)) ?_ ?_
    · rintro i v Hc hv ⟨sm, hDc⟩
      obtain ⟨p, hp, fv⟩ := hf.2 i v hv
      have hi : i < ps.length := (List.getElem?_eq_some_iff.mp hp).1
      have isf : IsFr K C Hc v true := by
        rcases fv.same sm with ⟨q', e, z⟩ | ⟨e, _⟩
        · exact .inl ⟨q', _, _, e, z, rfl⟩
        · exact .inr (.inl ⟨_, e, rfl⟩)
      refine ⟨rfl, _, rfl, v, true, rfl, isf, _, hDc, small1000 (by rw [List.length_map, List.length_replicate]; omega), same_grow hD sm, ?_⟩
      rw [List.replicate_succ', List.map_append]
      exact upd_same
    · rintro Hc ⟨sm, hDc⟩
      refine ⟨D, _, rfl, SqL.of hDc, ?_⟩
      have e : (List.replicate xs.length true).all id = true := by simp
      rw [e]
      exact q _ sm
end
end FR
set_option Elab.async false
set_option linter.all false
set_option maxRecDepth 100000
set_option maxHeartbeats 4000000
namespace FR
open PySem PySem.Spec PyProof.Rows L2
section
variable {P : Program} {w : World} {K : PySem.W.Frag} {mg : Str → Option Value} {base : Heap} {C fI pT gT pB gB : Addr} {fdI fdT fdB : FuncData}
/-! ### over_one_bottom -/
theorem pow_up {x : Int} {n m : Nat} (h : x.natAbs < 2 ^ n) (g : n ≤ m) : x.natAbs < 2 ^ m := Nat.lt_of_lt_of_le h (Nat.pow_le_pow_right (by decide) g)
theorem lcmP_sz {ps : List PI} (h : AllLf ps) (hs : ∀ p ∈ ps, p.1.natAbs < 2 ^ 30 ∧ p.2.natAbs < 2 ^ 30) : (lcmP ps).natAbs < 2 ^ (30 * ps.length + 1) := by
  induction ps using snoc_ind with
  | h0 => decide
  | h l x ih =>
    rw [lcmP_snoc]
    have i1 := ih h.init.1 fun p m => hs p (List.mem_append_left _ m)
    have z := lc_le (lcmP_pos h.init.1) h.init.2.1 i1 (hs x (List.mem_append_right _ (List.mem_singleton.mpr rfl))).2
    refine pow_up z ?_
    rw [List.length_append, List.length_singleton]
    omega
theorem lcm_step : ∀ (r : List PI) (a : Int), a ∣ r.foldl (fun a p => lc a p.2) a
  | [], a => Int.dvd_refl a
  | p :: r, a => Int.dvd_trans (lc_dvd a p.2).1 (lcm_step r (lc a p.2))
theorem lcm_take {ps : List PI} (h : AllLf ps) (i : Nat) : (lcmP (ps.take i)).natAbs ≤ (lcmP ps).natAbs := by
  have e : lcmP ps = (ps.drop i).foldl (fun a p => lc a p.2) (lcmP (ps.take i)) := by
    unfold lcmP
    rw [← List.foldl_append, List.take_append_drop]
  have d : lcmP (ps.take i) ∣ lcmP ps := by
    rw [e]
    exact lcm_step _ _
  have p := lcmP_pos h
  exact Nat.le_of_dvd (by omega) (Int.natAbs_dvd_natAbs.mpr d)
theorem Shr.of {ps : List PI} (h : AllLf ps) (few : ps.length ≤ 80) (hs : ∀ p ∈ ps, p.1.natAbs < 2 ^ 30 ∧ p.2.natAbs < 2 ^ 30) : Shr ps :=
  ⟨pow_up (lcmP_sz h hs) (by omega), fun p m => ⟨pow_up (hs p m).1 (by decide), pow_up (hs p m).2 (by decide)⟩⟩
theorem take_all {α : Type} {ps : List α} {n : Nat} (h : n = ps.length) : ps.take n = ps := by rw [h, List.take_length]
abbrev sOver : Stmt := top 18
abbrev NOv : List Str := ["fractions", "parts", "bottom", "part", "one"]
theorem scOv : FnScope NOv ["fractions"] (defScope sOver) := ⟨rfl, rfl, rfl, by decide +kernel, rfl, by decide +kernel, by decide +kernel⟩
def spOver (C : Addr) : Sp := fun vs H Q _ => ∃ (tp : Addr) (ps : List PI), vs = [.ref tp] ∧ Tf C H tp ps ∧
  ∀ a b H', H' a = some (.lst ((topsP ps (lcmP ps)).map V.int)) → H' b = some (.tup [.ref a, .int (lcmP ps)]) → Same H H' → Q (.ref b) H'
theorem ok_over {f fA : Addr} {fd fdA : FuncData} (F : Fun K "over_one_bottom" "over_one_bottom" sOver f fd) (k : FrK P w K mg base C fI pT gT pB gB fdI fdT fdB) (GA : FnOk P w K mg base CX0 4 fA fdA ["value"] (spAs C)) (mA : mg "as_fraction" = some (.ref fA))
    (kA : PySem.W.keepIn K (.ref fA) = true) (bA : Binds K fdA ["value"] []) (mL : mg "lcm" = some (.builtin "math.lcm")) : FnOk P w K mg base CX0 5 f fd ["fractions"] (spOver C) := by
  refine F.ok scOv (fun vs H Q E h => ?_) (fun cdv A outer s H vs Q E hr h => ?_)
  · obtain ⟨tp, ps, rfl, _⟩ := h
    rfl
  · obtain ⟨tp, ps, rfl, ⟨⟨xs, hx, hf⟩, hn, hl, hz⟩, q⟩ := h
    have hr4 := hr.mono (j := 4) (by decide)
    have hr2 := hr.mono (j := 2) (by decide)
    refine ⟨_, pss_cons (ps_setLc (i := 1) (own := [("one", 4)]) (g := gName 4) (tt := tYes) rfl scOv.nd rfl rfl (sw_true rfl rfl rfl (by decide +kernel)) (pi_tup (pv 0)) (blkOk_by (N := NOv) (sc := defScope sOver) (by decide +kernel))
        (fun _ _ _ _ _ => pg_name (i := 4) scOv.nd rfl (.inl rfl)) (fun _ _ _ _ _ => pts_nil) (fun _ _ _ _ _ => pe_call GA hr4 (by rfl) mA kA bA .nil pass0 (pa_cons (pv 4) pa_nil)))
      (pss_cons (ps_set (i := 2) scOv.nd rfl (Or.inr rfl) pe_int)
      (pss_cons (ps_for PassesOwn.never rfl (pi_list (pv 1)) (pg_name (i := 3) scOv.nd rfl (.inl rfl))
        (pss_one (ps_set (i := 2) scOv.nd rfl (Or.inr rfl) (pe_callBfun cr_lcm (by rfl) mL (pa_cons (pv 2) (pa_cons (pe_prop (pv 3) k.T.cl k.oB k.GB hr2 k.bB .nil pass0 rfl) pa_nil))))))
      (pss_one (ps_ret (pe_tup (pa_cons (pe_lc (own := [("part", 3)]) (g := gName 3) (tt := tYes) rfl scOv.nd (pi_list (pv 1)) (blkOk_by (N := NOv) (sc := defScope sOver) (by decide +kernel))
          (fun _ _ _ _ _ => pg_name (i := 3) scOv.nd rfl (.inl rfl)) (fun _ _ _ _ _ => pts_nil)
          (fun _ _ _ _ _ => pe_op op_mulW (pe_prop (pv 3) k.T.cl k.oT k.GT hr2 k.bT .nil pass0 rfl) (pe_op op_fdivX (pv 2) (pe_prop (pv 3) k.T.cl k.oB k.GB hr2 k.bB .nil pass0 rfl)))) (pa_cons (pv 2) pa_nil))))))), ?_⟩
    refine ⟨_, rfl, tp, rfl, ⟨_, SqT.of hx⟩, fun D hD => ?_⟩
    refine lc_tup (xs := xs) (fun i Hc => Same H Hc ∧ ∃ vs, Hc D = some (.lst vs) ∧ FRs C Hc vs (ps.take i)) ⟨same_new hD, [], upd_same, A2.nil⟩ (fun i Hc _ p => SqT.of (p.1 _ _ hx)) ?_ ?_
    · rintro i v Hc hv ⟨sm, vs, hDc, hr'⟩
      obtain ⟨p, hp, fv⟩ := hf.2 i v hv
      have hi : i < ps.length := (List.getElem?_eq_some_iff.mp hp).1
      refine ⟨rfl, _, rfl, v, p.1, p.2, rfl, fv.same sm, fun y H2 hy s2 => ?_⟩
      refine ⟨vs, s2 _ _ hDc, small1000 (by rw [hr'.1, List.length_take]; omega), same_grow hD (sm.trans s2), vs ++ [.ref y], upd_same, ?_⟩
      rw [take_snoc hp]
      exact A2.snoc ((hr'.same s2).updl (s2 _ _ hDc)) ⟨y, rfl, hy.updl (s2 _ _ hDc)⟩
    rintro H1 ⟨s1, vs, hD1, hv⟩
    rw [hf.1, List.take_length] at hv
    refine ⟨_, rfl, D, rfl, ⟨_, SqL.of hD1⟩, ?_⟩
    have few : vs.length ≤ 80 := by rw [hv.1]; exact hn
    refine for_list (xs := vs) (fun i σ Hc => Hc = H1 ∧ ∃ x3 : Option V, σ = [some (.ref tp), some (.ref D), some (.int (lcmP (ps.take i))), x3, none]) ⟨rfl, none, rfl⟩ (fun i σ Hc _ p => by rw [p.1]; exact SqL.of hD1) ?_ ?_
    · rintro i v σ Hc hvi ⟨rfl, x3, rfl⟩
      obtain ⟨p, hp, y, rfl, hy⟩ := hv.2 i v hvi
      obtain ⟨dy, hyi⟩ := id hy
      have mp : p ∈ ps := List.mem_of_getElem? hp
      have sub : ∀ q ∈ ps.take i, q ∈ ps := fun q hq => List.mem_of_mem_take hq
      have l1 : AllLf (ps.take i) := fun q hq => hl q (sub q hq)
      have z1 := Nat.lt_of_le_of_lt (lcm_take hl i) hz.1
      have i5 : (ps.take i).length ≤ 80 := by rw [List.length_take]; omega
      refine ⟨_, rfl, _, rfl, y, dy, _, rfl, hyi, y, dy, _, _, rfl, hyi, fl_bot _ _, _, _, rfl, lcmP_pos l1, (hl p mp).1, pow_up z1 (by decide), pow_up (hz.2 p mp).2 (by decide), rfl, some (.ref y), ?_⟩
      rw [take_snoc hp, lcmP_snoc]
      rfl
    rintro σ Hc ⟨rfl, x3, rfl⟩
    rw [take_all hv.1]
    refine ⟨_, rfl, D, rfl, ⟨_, SqL.of hD1⟩, fun D2 hD2 => ?_⟩
    have mz := hz.1
    refine lc_list (xs := vs) (fun i Hx => Same Hc Hx ∧ Hx D2 = some (.lst ((topsP (ps.take i) (lcmP ps)).map V.int))) ⟨same_new hD2, upd_same⟩ (fun i Hx _ p => SqL.of (p.1 _ _ hD1)) ?_ ?_
    · rintro i v Hx hvi ⟨sm, hDx⟩
      obtain ⟨p, hp, y, rfl, hy⟩ := (hv.same sm).2 i v hvi
      obtain ⟨dy, hyi⟩ := id hy
      have mp : p ∈ ps := List.mem_of_getElem? hp
      have hi : i < ps.length := (List.getElem?_eq_some_iff.mp hp).1
      have dz := fdiv_le (lcmP_dvd ps p mp) (hl p mp).1
      refine ⟨rfl, _, rfl, y, dy, _, rfl, hyi, y, dy, _, _, rfl, hyi, fl_top _ _, ?_⟩
      refine ⟨_, rfl, _, rfl, y, dy, _, rfl, hyi, y, dy, _, _, rfl, hyi, fl_bot _ _, _, _, rfl, rfl, div_ok (hl p mp).ne (hz.2 p mp).2 (by decide) (by decide), _, _, rfl, rfl, wide_mul (hz.2 p mp).1 (Nat.lt_of_le_of_lt dz mz) (by decide) (by decide) (by decide), ?_⟩
      refine ⟨_, hDx, small1000 (by unfold topsP; rw [List.length_map, List.length_map, List.length_take]; omega), same_grow hD2 sm, ?_⟩
      unfold topsP
      rw [take_snoc hp, List.map_append, List.map_append]
      exact upd_same
    rintro Hx ⟨sm, hDx⟩
    rw [take_all hv.1] at hDx
    refine ⟨_, rfl, small1000 (by show 1 ≤ 1000; decide), fun b hb => ?_⟩
    exact q D2 b _ (same_new hb _ _ hDx) upd_same ((s1.trans sm).trans (same_new hb))
end
end FR
/-! cleared forms over the rational numbers: made step by step, unique -/
set_option linter.all false
namespace RF
abbrev Vec := Nat → Rat
/-- the sum of f 0 .. f (k - 1) -/
def S (k : Nat) (f : Nat → Rat) : Rat := match k with
  | 0 => 0
  | k + 1 => S k f + f k
theorem S_congr {k : Nat} {f g : Nat → Rat} (h : ∀ i, i < k → f i = g i) : S k f = S k g := by
  induction k with
  | zero => rfl
  | succ k ih => simp only [S]; rw [ih fun i hi => h i (Nat.lt_succ_of_lt hi), h k (Nat.lt_succ_self k)]
theorem S_zero {k : Nat} {f : Nat → Rat} (h : ∀ i, i < k → f i = 0) : S k f = 0 := by
  induction k with
  | zero => rfl
  | succ k ih => simp only [S]; rw [ih fun i hi => h i (Nat.lt_succ_of_lt hi), h k (Nat.lt_succ_self k)]; grind
theorem S_add {k : Nat} {f g : Nat → Rat} : S k (fun i => f i + g i) = S k f + S k g := by
  induction k with
  | zero => simp only [S]; grind
  | succ k ih => simp only [S]; rw [ih]; grind
theorem S_mul {k : Nat} {f : Nat → Rat} {c : Rat} : S k (fun i => c * f i) = c * S k f := by
  induction k with
  | zero => simp only [S]; grind
  | succ k ih => simp only [S]; rw [ih]; grind
theorem S_one {k : Nat} {f : Nat → Rat} {m : Nat} (hm : m < k) (h : ∀ i, i < k → i ≠ m → f i = 0) : S k f = f m := by
  induction k with
  | zero => omega
  | succ k ih =>
    simp only [S]
    by_cases e : m = k
    · subst e
      rw [S_zero fun i hi => h i (by omega) (by omega)]; grind
    · rw [ih (by omega) fun i hi hn => h i (by omega) hn, h k (by omega) (by omega)]; grind
theorem S_ne {k : Nat} {f : Nat → Rat} (h : S k f ≠ 0) : ∃ i, i < k ∧ f i ≠ 0 := by
  by_cases z : ∃ i, i < k ∧ f i ≠ 0
  · exact z
  · exact (h (S_zero fun i hi => Classical.byContradiction fun q => z ⟨i, hi, q⟩)).elim
/-! ### spans -/
inductive Sp (L : List Vec) : Vec → Prop
  | zero : Sp L (fun _ => 0)
  | mem {v : Vec} : v ∈ L → Sp L v
  | add {v u : Vec} : Sp L v → Sp L u → Sp L (fun j => v j + u j)
  | smul {v : Vec} (c : Rat) : Sp L v → Sp L (fun j => c * v j)
theorem Sp.of_eq {L : List Vec} {v u : Vec} (h : Sp L v) (e : ∀ j, u j = v j) : Sp L u := by
  have : u = v := funext e
  rw [this]; exact h
theorem Sp.mono {L L' : List Vec} {v : Vec} (h : Sp L v) (s : ∀ x, x ∈ L → Sp L' x) : Sp L' v := by
  induction h with
  | zero => exact .zero
  | mem m => exact s _ m
  | add _ _ a b => exact .add a b
  | smul c _ a => exact .smul c a
theorem Sp.sub {L : List Vec} {v u : Vec} (c : Rat) (h : Sp L v) (g : Sp L u) : Sp L (fun j => v j - c * u j) :=
  (Sp.add h (Sp.smul (-c) g)).of_eq fun j => by grind
theorem Sp.sum {L : List Vec} {k : Nat} {c : Nat → Rat} {R : Nat → Vec} (h : ∀ i, i < k → Sp L (R i)) : Sp L (fun j => S k fun i => c i * R i j) := by
  induction k with
  | zero => exact .zero
  | succ k ih => exact .add (ih fun i hi => h i (by omega)) (.smul (c k) (h k (by omega)))
/-! ### the form -/
structure Form (n k : Nat) (R : Nat → Vec) (P : Nat → Nat) (L : List Vec) : Prop where
  pn : ∀ i, i < k → P i < n
  piv : ∀ i m, i < k → m < k → R i (P m) = if i = m then 1 else 0
  lead : ∀ i j, i < k → j < P i → R i j = 0
  spn : ∀ i, i < k → Sp L (R i)
  phi : ∀ x, x ∈ L → ∀ j, j < n → x j = S k fun i => x (P i) * R i j
theorem Form.phi_sp {n k : Nat} {R : Nat → Vec} {P : Nat → Nat} {L : List Vec} (F : Form n k R P L) {x : Vec} (h : Sp L x) : ∀ j, j < n → x j = S k fun i => x (P i) * R i j := by
  induction h with
  | zero => intro j hj; exact (S_zero fun i hi => by grind).symm
  | mem m => exact F.phi _ m
  | add _ _ a b =>
    intro j hj
    show _ + _ = _
    rw [a j hj, b j hj, ← S_add]
    exact S_congr fun i hi => by grind
  | smul c _ a =>
    intro j hj
    show c * _ = _
    rw [a j hj, ← S_mul]
    exact S_congr fun i hi => by grind
theorem Form.inj {n k : Nat} {R : Nat → Vec} {P : Nat → Nat} {L : List Vec} (F : Form n k R P L) {i m : Nat} (hi : i < k) (hm : m < k) (e : P i = P m) : i = m := by
  have a := F.piv i i hi hi
  have b := F.piv i m hi hm
  rw [← e, a, if_pos rfl] at b
  by_cases z : i = m
  · exact z
  · rw [if_neg z] at b; exact absurd b (by decide)
theorem Form.place {n k k' : Nat} {R R' : Nat → Vec} {P P' : Nat → Nat} {L : List Vec} (F : Form n k R P L) (G : Form n k' R' P' L) {i : Nat} (hi : i < k) : ∃ m, m < k' ∧ P i = P' m := by
  have e := G.phi_sp (F.spn i hi) (P i) (F.pn i hi)
  rw [F.piv i i hi hi, if_pos rfl] at e
  obtain ⟨m, hm, hne⟩ := S_ne (k := k') (f := fun m => R i (P' m) * R' m (P i)) (by rw [← e]; decide)
  refine ⟨m, hm, ?_⟩
  have h1 : R i (P' m) ≠ 0 := fun z => hne (by rw [z]; grind)
  have h2 : R' m (P i) ≠ 0 := fun z => hne (by rw [z]; grind)
  have a : ¬ P' m < P i := fun z => h1 (F.lead i _ hi z)
  have b : ¬ P i < P' m := fun z => h2 (G.lead m _ hm z)
  omega
theorem Form.uniq {n k k' : Nat} {R R' : Nat → Vec} {P P' : Nat → Nat} {L : List Vec} (F : Form n k R P L) (G : Form n k' R' P' L) {i : Nat} (hi : i < k) : ∃ m, m < k' ∧ P i = P' m ∧ ∀ j, j < n → R i j = R' m j := by
  obtain ⟨m, hm, e⟩ := F.place G hi
  refine ⟨m, hm, e, fun j hj => ?_⟩
  rw [G.phi_sp (F.spn i hi) j hj, S_one hm]
  · rw [← e, F.piv i i hi hi, if_pos rfl]; grind
  · intro m' hm' ne
    obtain ⟨i', hi', e'⟩ := G.place F hm'
    have : i ≠ i' := fun z => ne (G.inj hm' hm (by rw [e', ← z, e]))
    rw [e', F.piv i i' hi hi', if_neg this]; grind
/-- one line more that hangs on the others -/
theorem Form.hang {n k : Nat} {R : Nat → Vec} {P : Nat → Nat} {L : List Vec} (F : Form n k R P L) {x : Vec} (h : ∀ j, j < n → x j = S k fun i => x (P i) * R i j) : Form n k R P (L ++ [x]) :=
  ⟨F.pn, F.piv, F.lead, fun i hi => (F.spn i hi).mono fun y hy => .mem (List.mem_append_left _ hy), fun y hy => by
    rcases List.mem_append.mp hy with z | z
    · exact F.phi y z
    · rw [List.mem_singleton.mp z]; exact h⟩
/-- what is left of a line -/
def rest (k : Nat) (R : Nat → Vec) (P : Nat → Nat) (x : Vec) : Vec := fun j => x j - S k fun i => x (P i) * R i j
def newR (k : Nat) (R : Nat → Vec) (u : Vec) (q : Nat) : Nat → Vec := fun i j => if i < k then R i j - R i q * (u j / u q) else u j / u q
def newP (k : Nat) (P : Nat → Nat) (q : Nat) : Nat → Nat := fun i => if i < k then P i else q
theorem rest_piv {n k : Nat} {R : Nat → Vec} {P : Nat → Nat} {L : List Vec} (F : Form n k R P L) {x : Vec} {m : Nat} (hm : m < k) : rest k R P x (P m) = 0 := by
  unfold rest
  rw [S_one hm, F.piv m m hm hm, if_pos rfl]
  · grind
  · intro i hi ne
    rw [F.piv i m hi hm, if_neg ne]; grind
theorem Form.take {n k : Nat} {R : Nat → Vec} {P : Nat → Nat} {L : List Vec} (F : Form n k R P L) {x : Vec} {q : Nat} (hq : q < n) (h0 : ∀ j, j < q → rest k R P x j = 0) (h1 : rest k R P x q ≠ 0) :
    Form n (k + 1) (newR k R (rest k R P x) q) (newP k P q) (L ++ [x]) := by
  have ru := fun m hm => rest_piv F (x := x) (m := m) hm
  have spu : Sp (L ++ [x]) (rest k R P x) := by
    have a : Sp (L ++ [x]) x := .mem (List.mem_append_right _ (List.mem_singleton.mpr rfl))
    have b : Sp (L ++ [x]) (fun j => S k fun i => x (P i) * R i j) := Sp.sum fun i hi => (F.spn i hi).mono fun y hy => .mem (List.mem_append_left _ hy)
    exact (a.sub 1 b).of_eq fun j => by show _ - _ = _; grind
  have hx : ∀ j, x j = rest k R P x j + S k fun i => x (P i) * R i j := fun j => by show _ = (_ - _) + _; grind
  generalize rest k R P x = u at *
  have ne : ∀ m, m < k → P m ≠ q := fun m hm z => h1 (by rw [← z]; exact ru m hm)
  have spn' : ∀ i, i < k + 1 → Sp (L ++ [x]) (newR k R u q i) := fun i hi => by
    have b : Sp (L ++ [x]) (fun j => u j / u q) := (Sp.smul (1 / u q) spu).of_eq fun j => by grind
    by_cases z : i < k
    · have a := (F.spn i z).mono (L' := L ++ [x]) fun y hy => .mem (List.mem_append_left _ hy)
      exact (a.sub (R i q) b).of_eq fun j => by show (if i < k then _ else _) = _; rw [if_pos z]
    · exact b.of_eq fun j => by show (if i < k then _ else _) = _; rw [if_neg z]
  refine ⟨fun i hi => ?_, fun i m hi hm => ?_, fun i j hi hj => ?_, spn', fun y hy j hj => ?_⟩
  · show (if i < k then P i else q) < n
    split
    · exact F.pn i ‹_›
    · exact hq
  · show newR k R u q i (if m < k then P m else q) = _
    by_cases z : m < k
    · rw [if_pos z]
      show (if i < k then R i (P m) - R i q * (u (P m) / u q) else u (P m) / u q) = _
      rw [ru m z]
      by_cases y : i < k
      · rw [if_pos y, F.piv i m y z]; split <;> grind
      · rw [if_neg y, if_neg (by omega)]; grind
    · rw [if_neg z]
      show (if i < k then R i q - R i q * (u q / u q) else u q / u q) = _
      have one : u q / u q = 1 := by grind
      rw [one]
      by_cases y : i < k
      · rw [if_pos y, if_neg (by omega)]; grind
      · rw [if_neg y, if_pos (by omega)]
  · have hj' : j < (if i < k then P i else q) := hj
    show (if i < k then R i j - R i q * (u j / u q) else u j / u q) = 0
    by_cases y : i < k
    · rw [if_pos y] at hj' ⊢
      rw [F.lead i j y hj']
      by_cases g : j < q
      · rw [h0 j g]; grind
      · have : R i q = 0 := F.lead i q y (by omega)
        rw [this]; grind
    · rw [if_neg y] at hj' ⊢
      rw [h0 j hj']; grind
  · have old : ∀ z : Vec, (∀ j, j < n → z j = S k fun i => z (P i) * R i j) → z j = S (k + 1) fun i => z (newP k P q i) * newR k R u q i j := fun z hz => by
      simp only [S]
      have e1 : S k (fun i => z (newP k P q i) * newR k R u q i j) = S k fun i => z (P i) * R i j + (-(u j / u q)) * (z (P i) * R i q) := S_congr fun i hi => by
        show z (if i < k then P i else q) * (if i < k then R i j - R i q * (u j / u q) else u j / u q) = _
        rw [if_pos hi, if_pos hi]; grind
      have e2 : z (newP k P q k) * newR k R u q k j = z q * (u j / u q) := by
        show z (if k < k then P k else q) * (if k < k then R k j - R k q * (u j / u q) else u j / u q) = _
        rw [if_neg (by omega), if_neg (by omega)]
      rw [e1, e2, S_add, S_mul, ← hz j hj, ← hz q hq]; grind
    rcases List.mem_append.mp hy with z | z
    · exact old y (F.phi y z)
    · rw [List.mem_singleton.mp z]
      simp only [S]
      have e1 : S k (fun i => x (newP k P q i) * newR k R u q i j) = S k fun i => x (P i) * R i j + (-(u j / u q)) * (x (P i) * R i q) := S_congr fun i hi => by
        show x (if i < k then P i else q) * (if i < k then R i j - R i q * (u j / u q) else u j / u q) = _
        rw [if_pos hi, if_pos hi]; grind
      have e2 : x (newP k P q k) * newR k R u q k j = x q * (u j / u q) := by
        show x (if k < k then P k else q) * (if k < k then R k j - R k q * (u j / u q) else u j / u q) = _
        rw [if_neg (by omega), if_neg (by omega)]
      rw [e1, e2, S_add, S_mul]
      have a := hx j
      have b := hx q
      generalize S k (fun i => x (P i) * R i j) = sj at *
      generalize S k (fun i => x (P i) * R i q) = sq at *
      rw [a, b]; grind
theorem Form.start {n : Nat} {R : Nat → Vec} {P : Nat → Nat} : Form n 0 R P [] :=
  ⟨fun i h => by omega, fun i m h => by omega, fun i j h => by omega, fun i h => by omega, fun x h => by cases h⟩
end RF
set_option linter.all false
/-! the cleared form made column by column -/
namespace RF
structure PForm (c k : Nat) (R : Nat → Vec) (P : Nat → Nat) (Lf L : List Vec) : Prop where
  pc : ∀ i, i < k → P i < c
  up : ∀ i m, i < m → m < k → P i < P m
  piv : ∀ i m, i < k → m < k → R i (P m) = if i = m then 1 else 0
  lead : ∀ i j, i < k → j < P i → R i j = 0
  spn : ∀ i, i < k → Sp L (R i)
  lz : ∀ w, w ∈ Lf → ∀ j, j < c → w j = 0
  ls : ∀ w, w ∈ Lf → Sp L w
  phi : ∀ x, x ∈ L → Sp Lf (fun j => x j - S k fun i => x (P i) * R i j)
theorem PForm.start {R : Nat → Vec} {P : Nat → Nat} {L : List Vec} : PForm 0 0 R P L L :=
  ⟨fun i h => by omega, fun i m h g => by omega, fun i m h => by omega, fun i j h => by omega, fun i h => by omega, fun w h j g => by omega, fun w h => .mem h, fun x h => (Sp.mem h).of_eq fun j => by simp only [S]; grind⟩
theorem PForm.skip {c k : Nat} {R : Nat → Vec} {P : Nat → Nat} {Lf L : List Vec} (F : PForm c k R P Lf L) (h : ∀ w, w ∈ Lf → w c = 0) : PForm (c + 1) k R P Lf L :=
  ⟨fun i hi => Nat.lt_succ_of_lt (F.pc i hi), F.up, F.piv, F.lead, F.spn, fun w hw j hj => by
    by_cases e : j = c
    · rw [e]; exact h w hw
    · exact F.lz w hw j (by omega), F.ls, F.phi⟩
theorem sp_zero {Lf : List Vec} {v : Vec} (h : Sp Lf v) {j : Nat} (z : ∀ w, w ∈ Lf → w j = 0) : v j = 0 := by
  induction h with
  | zero => rfl
  | mem m => exact z _ m
  | add _ _ a b => show _ + _ = _; rw [a, b]; grind
  | smul c _ a => show c * _ = _; rw [a]; grind
theorem PForm.done {n k : Nat} {R : Nat → Vec} {P : Nat → Nat} {Lf L : List Vec} (F : PForm n k R P Lf L) : Form n k R P L :=
  ⟨F.pc, F.piv, F.lead, F.spn, fun x hx j hj => by
    have z := sp_zero (F.phi x hx) (j := j) fun w hw => F.lz w hw j hj
    have z : x j - (S k fun i => x (P i) * R i j) = 0 := z
    grind⟩
/-- a row less so many times the line a that it has 0 at c -/
def wo (a : Vec) (c : Nat) (w : Vec) : Vec := fun j => w j - w c * (a j / a c)
theorem sp_wo {Lf L' : List Vec} {a v : Vec} {c : Nat} (h : Sp Lf v) (m : ∀ w, w ∈ Lf → Sp L' (wo a c w)) : Sp L' (wo a c v) := by
  induction h with
  | zero => exact Sp.zero.of_eq fun j => by show (0 : Rat) - 0 * _ = 0; grind
  | mem z => exact m _ z
  | add _ _ x y => exact (Sp.add x y).of_eq fun j => by unfold wo; grind
  | smul c _ x => exact (Sp.smul c x).of_eq fun j => by unfold wo; grind
theorem PForm.step {c k : Nat} {R : Nat → Vec} {P : Nat → Nat} {Lf Lf' L : List Vec} {a : Vec} (F : PForm c k R P Lf L) (ha : a ∈ Lf) (h : a c ≠ 0)
    (s1 : ∀ y, y ∈ Lf' → ∃ w, w ∈ Lf ∧ y = wo a c w) (s2 : ∀ w, w ∈ Lf → wo a c w ∈ Lf' ∨ w = a) :
    PForm (c + 1) (k + 1) (newR k R a c) (newP k P c) Lf' L := by
  have one : a c / a c = 1 := by grind
  have az : ∀ j, j < c → a j = 0 := F.lz a ha
  have spa : Sp L (fun j => a j / a c) := (Sp.smul (1 / a c) (F.ls a ha)).of_eq fun j => by grind
  have ne : ∀ i, i < k → P i ≠ c := fun i hi => Nat.ne_of_lt (F.pc i hi)
  refine ⟨fun i hi => ?_, fun i m hi hm => ?_, fun i m hi hm => ?_, fun i j hi hj => ?_, fun i hi => ?_, fun y hy j hj => ?_, fun y hy => ?_, fun x hx => ?_⟩
  · show (if i < k then P i else c) < c + 1
    split
    · exact Nat.lt_succ_of_lt (F.pc i ‹_›)
    · omega
  · show (if i < k then P i else c) < (if m < k then P m else c)
    by_cases z : m < k
    · rw [if_pos z, if_pos (by omega)]; exact F.up i m hi z
    · rw [if_neg z, if_pos (by omega)]; exact F.pc i (by omega)
  · show (if i < k then R i (if m < k then P m else c) - R i c * (a (if m < k then P m else c) / a c) else a (if m < k then P m else c) / a c) = _
    by_cases z : m < k
    · rw [if_pos z, az _ (F.pc m z)]
      by_cases y : i < k
      · rw [if_pos y, F.piv i m y z]; split <;> grind
      · rw [if_neg y, if_neg (by omega)]; grind
    · rw [if_neg z, one]
      by_cases y : i < k
      · rw [if_pos y, if_neg (by omega)]; grind
      · rw [if_neg y, if_pos (by omega)]
  · have hj' : j < (if i < k then P i else c) := hj
    show (if i < k then R i j - R i c * (a j / a c) else a j / a c) = 0
    by_cases y : i < k
    · rw [if_pos y] at hj' ⊢
      rw [F.lead i j y hj', az j (Nat.lt_trans hj' (F.pc i y))]; grind
    · rw [if_neg y] at hj' ⊢
      rw [az j hj']; grind
  · by_cases y : i < k
    · exact ((F.spn i y).sub (R i c) spa).of_eq fun j => by show (if i < k then _ else _) = _; rw [if_pos y]
    · exact spa.of_eq fun j => by show (if i < k then _ else _) = _; rw [if_neg y]
  · obtain ⟨w, hw, rfl⟩ := s1 y hy
    unfold wo
    by_cases e : j = c
    · subst e; rw [one]; grind
    · rw [az j (by omega), F.lz w hw j (by omega)]; grind
  · obtain ⟨w, hw, rfl⟩ := s1 y hy
    exact ((F.ls w hw).sub (w c) spa).of_eq fun j => rfl
  · have t := sp_wo (a := a) (c := c) (L' := Lf') (F.phi x hx) fun w hw => by
      rcases s2 w hw with z | z
      · exact .mem z
      · subst z
        exact Sp.zero.of_eq fun j => by unfold wo; grind
    refine t.of_eq fun j => ?_
    show x j - (S k (fun i => x (newP k P c i) * newR k R a c i j) + x (newP k P c k) * newR k R a c k j) = (x j - S k fun i => x (P i) * R i j) - (x c - S k fun i => x (P i) * R i c) * (a j / a c)
    have e1 : S k (fun i => x (newP k P c i) * newR k R a c i j) = S k fun i => x (P i) * R i j + (-(a j / a c)) * (x (P i) * R i c) := S_congr fun i hi => by
      show x (if i < k then P i else c) * (if i < k then R i j - R i c * (a j / a c) else a j / a c) = _
      rw [if_pos hi, if_pos hi]; grind
    have e2 : x (newP k P c k) * newR k R a c k j = x c * (a j / a c) := by
      show x (if k < k then P k else c) * (if k < k then R k j - R k c * (a j / a c) else a j / a c) = _
      rw [if_neg (by omega), if_neg (by omega)]
    rw [e1, e2, S_add, S_mul]; grind
end RF
set_option linter.all false
/-! rows of integers over one divisor -/
namespace RF
def ent (l : List Int) (j : Nat) : Int := l.getD j 0
theorem ent_none {l : List Int} {j : Nat} (h : l.length ≤ j) : ent l j = 0 := by unfold ent; rw [List.getD_eq_getElem?_getD, List.getElem?_eq_none h]; rfl
theorem ent_some {l : List Int} {j : Nat} {x : Int} (h : l[j]? = some x) : ent l j = x := by unfold ent; rw [List.getD_eq_getElem?_getD, h]; rfl
theorem get_ent {l : List Int} {j : Nat} (h : j < l.length) : l[j]? = some (ent l j) := by rw [List.getElem?_eq_getElem h, ent_some (List.getElem?_eq_getElem h)]
theorem ent_zip {f : Int → Int → Int} (f0 : f 0 0 = 0) {l m : List Int} (hl : l.length = m.length) (j : Nat) : ent (List.zipWith f l m) j = f (ent l j) (ent m j) := by
  by_cases h : j < l.length
  · refine ent_some ?_
    rw [List.getElem?_zipWith, get_ent h, get_ent (by omega)]
  · rw [ent_none (by rw [List.length_zipWith]; omega), ent_none (by omega), ent_none (by omega), f0]
theorem ent_map {f : Int → Int} (f0 : f 0 = 0) {l : List Int} (j : Nat) : ent (l.map f) j = f (ent l j) := by
  by_cases h : j < l.length
  · refine ent_some ?_
    rw [List.getElem?_map, get_ent h]; rfl
  · rw [ent_none (by rw [List.length_map]; omega), ent_none (by omega), f0]
theorem ext_ent {l m : List Int} (hl : l.length = m.length) (h : ∀ j, j < l.length → ent l j = ent m j) : l = m := by
  refine List.ext_getElem? fun j => ?_
  by_cases z : j < l.length
  · rw [get_ent z, get_ent (by omega), h j z]
  · rw [List.getElem?_eq_none (by omega), List.getElem?_eq_none (by omega)]
def vec (l : List Int) : Vec := fun j => (ent l j : Rat)
/-! ### what is left -/
def restStep (line r : List Int) (rp : List Int × Nat) : List Int := if ent line rp.2 ≠ 0 then List.zipWith (fun e o => e - ent line rp.2 * o) r rp.1 else r
def restL (d : Int) (prs : List (List Int × Nat)) (line : List Int) : List Int := prs.foldl (restStep line) (line.map (d * ·))
theorem restStep_len {line r : List Int} {rp : List Int × Nat} (h : r.length = rp.1.length) : (restStep line r rp).length = r.length := by
  unfold restStep
  split
  · rw [List.length_zipWith]; omega
  · rfl
theorem restStep_ent {line r : List Int} {rp : List Int × Nat} (h : r.length = rp.1.length) (j : Nat) : ent (restStep line r rp) j = ent r j - ent line rp.2 * ent rp.1 j := by
  unfold restStep
  split
  · rw [ent_zip (by simp) h]
  · next z =>
    have z : ent line rp.2 = 0 := Classical.byContradiction z
    rw [z]; simp
theorem rest_len {d : Int} {line : List Int} {n : Nat} (hn : line.length = n) : ∀ {prs : List (List Int × Nat)}, (∀ p, p ∈ prs → p.1.length = n) → (restL d prs line).length = n := by
  have go : ∀ (prs : List (List Int × Nat)) (r : List Int), r.length = n → (∀ p, p ∈ prs → p.1.length = n) → (prs.foldl (restStep line) r).length = n := by
    intro prs
    induction prs with
    | nil => intro r h _; exact h
    | cons p ps ih =>
      intro r h hp
      refine ih _ ?_ fun q hq => hp q (List.mem_cons_of_mem _ hq)
      rw [restStep_len (by rw [h, hp p List.mem_cons_self])]; exact h
  intro prs hp
  exact go prs _ (by rw [List.length_map, hn]) hp
/-- a linear form of the rest -/
theorem rest_lin {d : Int} {line : List Int} {n : Nat} (hn : line.length = n) {prs : List (List Int × Nat)} (hp : ∀ p, p ∈ prs → p.1.length = n) {A : List Int → Prop} (h0 : A (line.map (d * ·))) (h1 : ∀ r p, p ∈ prs → r.length = n → A r → A (restStep line r p)) : A (restL d prs line) := by
  have go : ∀ (qs : List (List Int × Nat)) (r : List Int), r.length = n → A r → (∀ p, p ∈ qs → p ∈ prs) → A (qs.foldl (restStep line) r) := by
    intro qs
    induction qs with
    | nil => intro r _ h _; exact h
    | cons p ps ih =>
      intro r h a hq
      have m := hq p List.mem_cons_self
      refine ih _ ?_ (h1 r p m h a) fun q hh => hq q (List.mem_cons_of_mem _ hh)
      rw [restStep_len (by rw [h, hp p m])]; exact h
  exact go prs _ (by rw [List.length_map, hn]) h0 fun p h => h
theorem rest_ent {d : Int} {line : List Int} {n : Nat} (hn : line.length = n) {rows : List (List Int)} {places : List Nat} (hl : rows.length = places.length) (hr : ∀ r, r ∈ rows → r.length = n) (j : Nat) :
    (ent (restL d (rows.zip places) line) j : Rat) = d * ent line j - S rows.length fun i => (ent line (places.getD i 0) : Rat) * ent (rows.getD i []) j := by
  have go : ∀ (k : Nat), k ≤ rows.length → (((rows.zip places).take k).foldl (restStep line) (line.map (d * ·))).length = n ∧ (ent (((rows.zip places).take k).foldl (restStep line) (line.map (d * ·))) j : Rat) = d * ent line j - S k fun i => (ent line (places.getD i 0) : Rat) * ent (rows.getD i []) j := by
    intro k
    induction k with
    | zero =>
      intro _
      refine ⟨by rw [List.take_zero]; show (line.map _).length = n; rw [List.length_map, hn], ?_⟩
      rw [List.take_zero]
      show (ent (line.map (d * ·)) j : Rat) = _
      rw [ent_map (by simp)]
      simp only [S]
      rw [Rat.intCast_mul]; grind
    | succ k ih =>
      intro hk
      obtain ⟨i1, i2⟩ := ih (by omega)
      have g1 : rows[k]? = some rows[k] := List.getElem?_eq_getElem (by omega)
      have g2 : places[k]? = some places[k] := List.getElem?_eq_getElem (by omega)
      have e : (rows.zip places)[k]? = some (rows[k], places[k]) := by rw [List.getElem?_zip_eq_some]; exact ⟨g1, g2⟩
      have rk := hr rows[k] (List.getElem_mem _)
      have e2 : (rows.zip places).take (k + 1) = (rows.zip places).take k ++ [(rows[k], places[k])] := by rw [List.take_succ, e]; rfl
      rw [e2, List.foldl_append]
      show (restStep line (((rows.zip places).take k).foldl (restStep line) (line.map (d * ·))) (rows[k], places[k])).length = n ∧ (ent (restStep line (((rows.zip places).take k).foldl (restStep line) (line.map (d * ·))) (rows[k], places[k])) j : Rat) = _
      rw [restStep_len (by rw [i1, rk]), restStep_ent (by rw [i1, rk])]
      refine ⟨i1, ?_⟩
      simp only [S]
      rw [Rat.intCast_sub, i2, Rat.intCast_mul]
      have a : rows.getD k [] = rows[k] := by rw [List.getD_eq_getElem?_getD, g1]; rfl
      have b : places.getD k 0 = places[k] := by rw [List.getD_eq_getElem?_getD, g2]; rfl
      rw [a, b]; grind
  have z := (go rows.length (Nat.le_refl _)).2
  rw [List.take_of_length_le (by rw [List.length_zip]; omega)] at z
  exact z
/-! ### a line more -/
def clearedBy (rows : List (List Int)) (line : List Int) (q : Nat) (d : Int) : List (List Int) := rows.map fun row => List.zipWith (fun e o => (e * ent line q - ent row q * o).fdiv d) row line
structure EI (n : Nat) (rows : List (List Int)) (places : List Nat) (d : Int) (L : List Vec) : Prop where
  ln : rows.length = places.length
  wd : ∀ r, r ∈ rows → r.length = n
  d0 : d ≠ 0
  fm : Form n rows.length (fun i j => (ent (rows.getD i []) j : Rat) / d) (fun i => places.getD i 0) L
  m2 : rows.length ≤ 3 → ∀ r, r ∈ rows → ∀ s, s ∈ rows → ∀ j l, d ∣ ent r j * ent s l - ent r l * ent s j
theorem EI.start {n : Nat} : EI n [] [] 1 [] := ⟨rfl, fun r h => (by cases h), by decide, Form.start, fun _ r h => (by cases h)⟩
theorem EI.rest {n : Nat} {rows : List (List Int)} {places : List Nat} {d : Int} {L : List Vec} (I : EI n rows places d L) {line : List Int} (hn : line.length = n) (j : Nat) :
    (ent (restL d (rows.zip places) line) j : Rat) = d * RF.rest rows.length (fun i j => (ent (rows.getD i []) j : Rat) / d) (fun i => places.getD i 0) (vec line) j := by
  rw [rest_ent hn I.ln I.wd j]
  unfold RF.rest vec
  have d0 : (d : Rat) ≠ 0 := fun z => I.d0 (Rat.intCast_inj.mp z)
  have e : (d : Rat) * S rows.length (fun i => (ent line (places.getD i 0) : Rat) * ((ent (rows.getD i []) j : Rat) / d)) = S rows.length fun i => (ent line (places.getD i 0) : Rat) * ent (rows.getD i []) j := by
    rw [← S_mul]
    exact S_congr fun i hi => by grind
  rw [← e]; grind
theorem EI.hang {n : Nat} {rows : List (List Int)} {places : List Nat} {d : Int} {L : List Vec} (I : EI n rows places d L) {line : List Int} (hn : line.length = n) (h : ∀ j, j < n → ent (restL d (rows.zip places) line) j = 0) : EI n rows places d (L ++ [vec line]) :=
  ⟨I.ln, I.wd, I.d0, I.fm.hang fun j hj => by
    have e := I.rest hn j
    rw [h j hj] at e
    have d0 : (d : Rat) ≠ 0 := fun z => I.d0 (Rat.intCast_inj.mp z)
    have z : RF.rest rows.length (fun i j => (ent (rows.getD i []) j : Rat) / d) (fun i => places.getD i 0) (vec line) j = 0 := by grind
    unfold RF.rest at z
    grind, I.m2⟩
theorem mem_two {α : Type} {l : List α} (h : l.length ≤ 2) {x y z : α} (hx : x ∈ l) (hy : y ∈ l) (hz : z ∈ l) : x = y ∨ z = x ∨ z = y := by
  match l, h with
  | [], _ => cases hx
  | [a], _ => simp at hx hy; exact .inl (hx.trans hy.symm)
  | [a, b], _ =>
    simp at hx hy hz
    rcases hx with rfl | rfl <;> rcases hy with rfl | rfl <;> rcases hz with rfl | rfl <;> simp
/-- the minor of three rows -/
def m3 (x y z : List Int) (j l q : Nat) : Int := ent z q * (ent x j * ent y l - ent x l * ent y j) - ent y q * (ent x j * ent z l - ent x l * ent z j) + ent x q * (ent y j * ent z l - ent y l * ent z j)
theorem rest_minor {n : Nat} {rows : List (List Int)} {places : List Nat} {d : Int} {line : List Int} (hn : line.length = n) (hl : rows.length = places.length) (hr : ∀ r, r ∈ rows → r.length = n)
    (m2 : ∀ r, r ∈ rows → ∀ s, s ∈ rows → ∀ j l, d ∣ ent r j * ent s l - ent r l * ent s j) {r : List Int} (h : r ∈ rows) (j l : Nat) : d ∣ ent r j * ent (restL d (rows.zip places) line) l - ent r l * ent (restL d (rows.zip places) line) j := by
  have mem : ∀ p, p ∈ rows.zip places → p.1 ∈ rows := fun p hp => (List.of_mem_zip (show (p.1, p.2) ∈ _ from hp)).1
  refine rest_lin (A := fun s => d ∣ ent r j * ent s l - ent r l * ent s j) hn (fun p hp => hr _ (mem p hp)) ?_ fun s p hp hs a => ?_
  · rw [ent_map (by simp), ent_map (by simp)]
    exact ⟨ent r j * ent line l - ent r l * ent line j, by grind⟩
  · have e := hr _ (mem p hp)
    rw [restStep_ent (by rw [hs, e]), restStep_ent (by rw [hs, e])]
    obtain ⟨u, hu⟩ := a
    obtain ⟨v, hv⟩ := m2 r h p.1 (mem p hp) j l
    exact ⟨u - ent line p.2 * v, by grind⟩
theorem rest_minor3 {n : Nat} {rows : List (List Int)} {places : List Nat} {d : Int} {line : List Int} (hn : line.length = n) (hl : rows.length = places.length) (hr : ∀ r, r ∈ rows → r.length = n) (few : rows.length ≤ 2)
    (m2 : ∀ r, r ∈ rows → ∀ s, s ∈ rows → ∀ j l, d ∣ ent r j * ent s l - ent r l * ent s j) {x y : List Int} (hx : x ∈ rows) (hy : y ∈ rows) (j l q : Nat) : d * d ∣ m3 x y (restL d (rows.zip places) line) j l q := by
  have mem : ∀ p, p ∈ rows.zip places → p.1 ∈ rows := fun p hp => (List.of_mem_zip (show (p.1, p.2) ∈ _ from hp)).1
  refine rest_lin (A := fun s => d * d ∣ m3 x y s j l q) hn (fun p hp => hr _ (mem p hp)) ?_ fun s p hp hs a => ?_
  · unfold m3
    rw [ent_map (by simp), ent_map (by simp), ent_map (by simp)]
    obtain ⟨u, hu⟩ := m2 x hx y hy j l
    obtain ⟨v, hv⟩ := m2 x hx y hy l q
    obtain ⟨w, hw⟩ := m2 x hx y hy j q
    exact ⟨ent line q * u + ent line j * v - ent line l * w, by grind⟩
  · have e := hr _ (mem p hp)
    unfold m3 at a ⊢
    rw [restStep_ent (by rw [hs, e]), restStep_ent (by rw [hs, e]), restStep_ent (by rw [hs, e])]
    obtain ⟨u, hu⟩ := a
    refine ⟨u, ?_⟩
    rcases mem_two few hx hy (mem p hp) with z | z | z
    · subst z; grind
    · rw [z]; grind
    · rw [z]; grind
theorem cleared_ent {n : Nat} {rows : List (List Int)} {r row : List Int} {q : Nat} {d : Int} (h : row.length = r.length) (d1 : ∀ j, d ∣ ent row j * ent r q - ent row q * ent r j) (j : Nat) :
    d * ent (List.zipWith (fun e o => (e * ent r q - ent row q * o).fdiv d) row r) j = ent row j * ent r q - ent row q * ent r j := by
  rw [ent_zip (by simp) h]
  exact Int.mul_fdiv_cancel' (d1 j)
theorem EI.take {n : Nat} {rows : List (List Int)} {places : List Nat} {d : Int} {L : List Vec} (I : EI n rows places d L) (few : rows.length ≤ 3) {line : List Int} (hn : line.length = n) {q : Nat} (hq : q < n)
    (h0 : ∀ j, j < q → ent (restL d (rows.zip places) line) j = 0) (h1 : ent (restL d (rows.zip places) line) q ≠ 0) :
    EI n (clearedBy rows (restL d (rows.zip places) line) q d ++ [restL d (rows.zip places) line]) (places ++ [q]) (ent (restL d (rows.zip places) line) q) (L ++ [vec line]) := by
  have d0 : (d : Rat) ≠ 0 := fun z => I.d0 (Rat.intCast_inj.mp z)
  have mem : ∀ p, p ∈ rows.zip places → p.1 ∈ rows := fun p hp => (List.of_mem_zip (show (p.1, p.2) ∈ _ from hp)).1
  have rl : (restL d (rows.zip places) line).length = n := rest_len hn fun p hp => I.wd _ (mem p hp)
  have mr := fun r (h : r ∈ rows) j l => rest_minor hn I.ln I.wd (I.m2 few) (line := line) h j l
  have m3' := fun (f2 : rows.length ≤ 2) x (hx : x ∈ rows) y (hy : y ∈ rows) j l q => rest_minor3 hn I.ln I.wd f2 (I.m2 few) (line := line) hx hy j l q
  have re := fun j => I.rest hn (line := line) j
  have rq0 : ∀ j, RF.rest rows.length (fun i j => (ent (rows.getD i []) j : Rat) / d) (fun i => places.getD i 0) (vec line) j = (ent (restL d (rows.zip places) line) j : Rat) / d := fun j => by rw [re j]; grind
  have ft := I.fm.take (x := vec line) (q := q) hq (fun j hj => by rw [rq0, h0 j hj]; grind) (by
    rw [rq0]
    intro z
    have : (ent (restL d (rows.zip places) line) q : Rat) = 0 := by grind
    exact h1 (Rat.intCast_inj.mp this))
  generalize restL d (rows.zip places) line = r at *
  have rr0 : (ent r q : Rat) ≠ 0 := fun z => h1 (Rat.intCast_inj.mp z)
  have ce : ∀ row, row ∈ rows → ∀ j, d * ent (List.zipWith (fun e o => (e * ent r q - ent row q * o).fdiv d) row r) j = ent row j * ent r q - ent row q * ent r j := fun row hrow j =>
    cleared_ent (n := n) (rows := rows) ((I.wd row hrow).trans rl.symm) (fun j => mr row hrow j q) j
  have newlen : (clearedBy rows r q d).length = rows.length := by unfold clearedBy; rw [List.length_map]
  have at_ : ∀ i, i < rows.length → (clearedBy rows r q d ++ [r]).getD i [] = List.zipWith (fun e o => (e * ent r q - ent (rows.getD i []) q * o).fdiv d) (rows.getD i []) r := fun i hi => by
    have g : rows[i]? = some rows[i] := List.getElem?_eq_getElem hi
    rw [List.getD_eq_getElem?_getD, List.getElem?_append_left (by rw [newlen]; exact hi), List.getD_eq_getElem?_getD, g]
    unfold clearedBy
    rw [List.getElem?_map, g]; rfl
  have at_k : (clearedBy rows r q d ++ [r]).getD rows.length [] = r := by
    rw [List.getD_eq_getElem?_getD, List.getElem?_append_right (by rw [newlen]; exact Nat.le_refl _), newlen, Nat.sub_self]; rfl
  have rmem : ∀ i, i < rows.length → rows.getD i [] ∈ rows := fun i hi => by
    rw [List.getD_eq_getElem?_getD, List.getElem?_eq_getElem hi]; exact List.getElem_mem _
  refine ⟨by rw [List.length_append, List.length_append, newlen, I.ln]; rfl, fun x hx => ?_, h1, ?_, fun few' x hx y hy j l => ?_⟩
  · rcases List.mem_append.mp hx with z | z
    · obtain ⟨row, hrow, rfl⟩ := List.mem_map.mp z
      rw [List.length_zipWith, I.wd row hrow, rl]; omega
    · rw [List.mem_singleton.mp z]; exact rl
  · have e1 : (clearedBy rows r q d ++ [r]).length = rows.length + 1 := by rw [List.length_append, newlen]; rfl
    rw [e1]
    refine ⟨fun i hi => ?_, fun i m hi hm => ?_, fun i j hi hj => ?_, fun i hi => ?_, fun x hx j hj => ?_⟩
    all_goals
      have R' : ∀ i, i < rows.length + 1 → ∀ j, (ent ((clearedBy rows r q d ++ [r]).getD i []) j : Rat) / (ent r q : Rat) = newR rows.length (fun i j => (ent (rows.getD i []) j : Rat) / d) (RF.rest rows.length (fun i j => (ent (rows.getD i []) j : Rat) / d) (fun i => places.getD i 0) (vec line)) q i j := fun i hi j => by
        unfold newR
        by_cases z : i < rows.length
        · simp only [if_pos z]
          have g := ce _ (rmem i z) j
          rw [at_ i z, rq0, rq0]
          have g2 : (d : Rat) * (ent (List.zipWith (fun e o => (e * ent r q - ent (rows.getD i []) q * o).fdiv d) (rows.getD i []) r) j : Rat) = (ent (rows.getD i []) j : Rat) * ent r q - (ent (rows.getD i []) q : Rat) * ent r j := by
            rw [← Rat.intCast_mul, g, Rat.intCast_sub, Rat.intCast_mul, Rat.intCast_mul]
          generalize (ent (List.zipWith (fun e o => (e * ent r q - ent (rows.getD i []) q * o).fdiv d) (rows.getD i []) r) j : Rat) = X at *
          grind
        · have : i = rows.length := by omega
          subst this
          simp only [if_neg z]
          rw [at_k, rq0, rq0]; grind
      have P' : ∀ i, i < rows.length + 1 → (places ++ [q]).getD i 0 = newP rows.length (fun i => places.getD i 0) q i := fun i hi => by
        unfold newP
        by_cases z : i < rows.length
        · rw [if_pos z, List.getD_eq_getElem?_getD, List.getElem?_append_left (by rw [← I.ln]; exact z)]
          show _ = places.getD i 0
          rw [List.getD_eq_getElem?_getD]
        · have : i = rows.length := by omega
          rw [if_neg z, this, I.ln, List.getD_eq_getElem?_getD, List.getElem?_append_right (Nat.le_refl _), Nat.sub_self]; rfl
    · rw [P' i hi]; exact ft.pn i hi
    · rw [P' m hm, R' i hi]; exact ft.piv i m hi hm
    · rw [P' i hi] at hj; rw [R' i hi]; exact ft.lead i j hi hj
    · exact (ft.spn i hi).of_eq fun j => R' i hi j
    · rw [ft.phi x hx j hj]
      exact S_congr fun i hi => by rw [P' i hi, R' i hi]
  · rw [List.length_append, newlen] at few'
    have f2 : rows.length ≤ 2 := by have : [r].length = 1 := rfl; omega
    rcases List.mem_append.mp hx with zx | zx <;> rcases List.mem_append.mp hy with zy | zy
    · obtain ⟨a, ha, rfl⟩ := List.mem_map.mp zx
      obtain ⟨b, hb, rfl⟩ := List.mem_map.mp zy
      have a1 := ce a ha j
      have a2 := ce a ha l
      have b1 := ce b hb j
      have b2 := ce b hb l
      obtain ⟨t, ht⟩ := m3' f2 a ha b hb j l q
      unfold m3 at ht
      generalize ent (List.zipWith (fun e o => (e * ent r q - ent a q * o).fdiv d) a r) j = A1 at *
      generalize ent (List.zipWith (fun e o => (e * ent r q - ent a q * o).fdiv d) a r) l = A2 at *
      generalize ent (List.zipWith (fun e o => (e * ent r q - ent b q * o).fdiv d) b r) j = B1 at *
      generalize ent (List.zipWith (fun e o => (e * ent r q - ent b q * o).fdiv d) b r) l = B2 at *
      refine ⟨t, ?_⟩
      have dd : d * d ≠ 0 := Int.mul_ne_zero I.d0 I.d0
      refine Int.eq_of_mul_eq_mul_left dd ?_
      have : d * d * (A1 * B2 - A2 * B1) = (d * A1) * (d * B2) - (d * A2) * (d * B1) := by grind
      rw [this, a1, a2, b1, b2]
      grind
    · obtain ⟨a, ha, rfl⟩ := List.mem_map.mp zx
      rw [List.mem_singleton.mp zy]
      have a1 := ce a ha j
      have a2 := ce a ha l
      obtain ⟨t, ht⟩ := mr a ha j l
      generalize ent (List.zipWith (fun e o => (e * ent r q - ent a q * o).fdiv d) a r) j = A1 at *
      generalize ent (List.zipWith (fun e o => (e * ent r q - ent a q * o).fdiv d) a r) l = A2 at *
      refine ⟨t, Int.eq_of_mul_eq_mul_left I.d0 ?_⟩
      have : d * (A1 * ent r l - A2 * ent r j) = (d * A1) * ent r l - (d * A2) * ent r j := by grind
      rw [this, a1, a2]; grind
    · obtain ⟨a, ha, rfl⟩ := List.mem_map.mp zy
      rw [List.mem_singleton.mp zx]
      have a1 := ce a ha j
      have a2 := ce a ha l
      obtain ⟨t, ht⟩ := mr a ha j l
      generalize ent (List.zipWith (fun e o => (e * ent r q - ent a q * o).fdiv d) a r) j = A1 at *
      generalize ent (List.zipWith (fun e o => (e * ent r q - ent a q * o).fdiv d) a r) l = A2 at *
      refine ⟨-t, Int.eq_of_mul_eq_mul_left I.d0 ?_⟩
      have : d * (ent r j * A2 - ent r l * A1) = (d * A2) * ent r j - (d * A1) * ent r l := by grind
      rw [this, a1, a2]; grind
    · rw [List.mem_singleton.mp zx, List.mem_singleton.mp zy]
      exact ⟨0, by grind⟩
end RF
set_option Elab.async false
set_option linter.all false
set_option maxRecDepth 100000
set_option maxHeartbeats 4000000
/-! lists of integers, lists of such lists; walks over two lists -/
namespace FR
open PySem PySem.Spec PyProof.Rows L2 RF
def retE : Stmt → Expr
  | .Return (some e) _ => e
  | _ => .Constant .none 0 ⟨0, 0, 0, 0⟩
/-- a block's scope within a def -/
def relS (sc fs : Scope) : Scope := { sc with names := sc.names.map fun (n, k) => if (k == .free && fs.kind == .function && fs.names.lookup n == some .cell) then (n, .cell) else (n, k) }
def lcEl : Expr → Expr
  | .ListComp e _ _ _ => e
  | e => e
def lcSc : Expr → Scope
  | .ListComp _ _ sc _ => sc
  | _ => defScope (.Pass ⟨0, 0, 0, 0⟩)
/-! rules whose reading names K apart, for blocks within blocks -/
theorem pi_zipK {X : Cx} {K : PySem.W.Frag} {e e2 : Expr} {ta : TA} {p pos tpos : Pos} {elts : List Expr} {kk : Nat} (hK : X.K = K) (hg : Gl X "zip") (hm : X.mg "zip" = none) (ha : PA X [e, e2] ta)
    (hs : starEach [e, e2] X.env = (false, eval e X.env) :: starEach [e2] X.env := by rfl) (hpl : (backTo pos (starEach [e2] X.env)).any (·.1) = false := by rfl) :
    L2.PI X (.Tuple elts kk tpos) (.Call (.Name "zip" p) [e, e2] [] pos) (iZip K ta) := by
  subst hK
  exact pi_zip hg hm ha hs hpl
theorem ix_listK {X : Cx} {K : PySem.W.Frag} (hK : X.K = K) : IxR X (rIxL K) := by
  subst hK
  exact ix_list
theorem pg_tupK {X : Cx} {K : PySem.W.Frag} {es : List Expr} {k : Nat} {pos : Pos} {t : TGs} {n : Nat} (hK : X.K = K) (hc : X.calm = true) (h : PGs X es t)
    (hn : (assignEach es X.env).length = n := by rfl) (hst : (assignEach es X.env).findIdx? (·.1) = none := by rfl) : PG X (.Tuple es k pos) (gTup K n t) := by
  subst hK
  exact pg_tup hc h hn hst
/-- a list of integers -/
def IL (H : Hp) (v : V) (r : List Int) : Prop := ∃ q, v = .ref q ∧ H q = some (.lst (r.map V.int))
theorem IL.same {H H' : Hp} {v : V} {r : List Int} (h : IL H v r) (s : Same H H') : IL H' v r := by
  obtain ⟨q, e, z⟩ := h
  exact ⟨q, e, s _ _ z⟩
/-- item by item -/
def AG {α : Type} (R : V → α → Prop) (vs : List V) (as : List α) : Prop := vs.length = as.length ∧ ∀ (i : Nat) (v : V), vs[i]? = some v → ∃ p : α, as[i]? = some p ∧ R v p
theorem AG.nil {α : Type} {R : V → α → Prop} : AG R [] [] := ⟨rfl, fun i v h => by simp at h⟩
theorem AG.snoc {α : Type} {R : V → α → Prop} {v : V} {p : α} {vs : List V} {ps : List α} (h : AG R vs ps) (r : R v p) : AG R (vs ++ [v]) (ps ++ [p]) := by
  refine ⟨by rw [List.length_append, List.length_append, h.1]; rfl, fun i w e => ?_⟩
  by_cases z : i < vs.length
  · rw [List.getElem?_append_left z] at e
    obtain ⟨q, hq, hr⟩ := h.2 i w e
    exact ⟨q, by rw [List.getElem?_append_left (by rw [← h.1]; exact z)]; exact hq, hr⟩
  · rw [List.getElem?_append_right (by omega)] at e
    have e0 : i = vs.length := by
      have := (List.getElem?_eq_some_iff.mp e).1
      rw [List.length_singleton] at this
      omega
    subst e0
    rw [Nat.sub_self] at e
    cases e
    refine ⟨p, by rw [List.getElem?_append_right (by rw [h.1]; exact Nat.le_refl _), h.1, Nat.sub_self]; rfl, r⟩
theorem AG.imp {α : Type} {R R' : V → α → Prop} {vs : List V} {ps : List α} (h : AG R vs ps) (f : ∀ v p, R v p → R' v p) : AG R' vs ps := ⟨h.1, fun i v e => by
  obtain ⟨p, hp, r⟩ := h.2 i v e
  exact ⟨p, hp, f v p r⟩⟩
theorem AG.take {α : Type} {R : V → α → Prop} {vs : List V} {ps : List α} (h : AG R vs ps) (n : Nat) : AG R (vs.take n) (ps.take n) := ⟨by rw [List.length_take, List.length_take, h.1], fun i v e => by
  rw [List.getElem?_take] at e ⊢
  split at e
  · next z => rw [if_pos z]; exact h.2 i v e
  · cases e⟩
/-- a list of lists of integers at a -/
def LM (H : Hp) (a : Addr) (rows : List (List Int)) : Prop := ∃ vs, H a = some (.lst vs) ∧ AG (IL H) vs rows
theorem LM.same {H H' : Hp} {a : Addr} {rows : List (List Int)} (h : LM H a rows) (s : Same H H') : LM H' a rows := by
  obtain ⟨vs, e, z⟩ := h
  exact ⟨vs, s _ _ e, z.imp fun _ _ x => x.same s⟩
theorem IL.updl {H : Hp} {D : Addr} {xs : List V} {o : HO} {v : V} {r : List Int} (h : IL H v r) (hD : ∀ q, v = .ref q → q ≠ D) : IL (upd H D o) v r := by
  obtain ⟨q, e, z⟩ := h
  exact ⟨q, e, by rw [upd_ne (hD q e)]; exact z⟩
/-- one that is not at D -/
def ILx (D : Addr) (H : Hp) (v : V) (r : List Int) : Prop := ∃ q, v = .ref q ∧ q ≠ D ∧ H q = some (.lst (r.map V.int))
theorem ILx.same {D : Addr} {H H' : Hp} {v : V} {r : List Int} (h : ILx D H v r) (s : Same H H') : ILx D H' v r := by
  obtain ⟨q, e, n, z⟩ := h
  exact ⟨q, e, n, s _ _ z⟩
theorem ILx.upd {D : Addr} {H : Hp} {o : HO} {v : V} {r : List Int} (h : ILx D H v r) : ILx D (upd H D o) v r := by
  obtain ⟨q, e, n, z⟩ := h
  exact ⟨q, e, n, by rw [upd_ne n]; exact z⟩
theorem ILx.il {D : Addr} {H : Hp} {v : V} {r : List Int} (h : ILx D H v r) : IL H v r := by
  obtain ⟨q, e, _, z⟩ := h
  exact ⟨q, e, z⟩
theorem same_upd {H0 H : Hp} {D : Addr} {o : HO} (hD : H0 D = none) (s : Same H0 H) : Same H0 (upd H D o) := same_grow hD s
theorem il_at {xs : List Int} {i : Nat} {v : V} (h : (xs.map V.int)[i]? = some v) : ∃ x, xs[i]? = some x ∧ v = .int x := by
  rw [List.getElem?_map] at h
  cases e : xs[i]? with
  | none => rw [e] at h; cases h
  | some x => rw [e] at h; exact ⟨x, rfl, (Option.some.inj h).symm⟩
theorem take_zw {f : Int → Int → Int} {xs ys : List Int} {i : Nat} {x y : Int} (hx : xs[i]? = some x) (hy : ys[i]? = some y) : (List.zipWith f xs ys).take (i + 1) = (List.zipWith f xs ys).take i ++ [f x y] := by
  refine take_snoc ?_
  rw [List.getElem?_zipWith, hx, hy]
/-- [e for a, b in zip(xs, ys)], integers of integers, where e leaves the heap -/
theorem lz_ints {K : PySem.W.Frag} {a b D : Addr} {xs ys : List Int} (hl : xs.length = ys.length) (hk : xs.length ≤ 900) {vs : List Nat} {σ : L2.St} {H1 : Hp} {Qd : Hp → Prop} {i1 i2 : Nat} {te : TE} (f : Int → Int → Int) (hD : H1 D = none)
    (ha : H1 a = some (.lst (xs.map V.int))) (hb : H1 b = some (.lst (ys.map V.int))) (wp : ∀ v w : V, wipe (((wipe σ vs).set i1 (some v)).set i2 (some w)) vs = wipe σ vs)
    (he : ∀ (i : Nat) (x y : Int) (H : Hp) (Q : VK), xs[i]? = some x → ys[i]? = some y → Same H1 H → Q (.int (f x y)) H → te (((wipe σ vs).set i1 (some (.int x))).set i2 (some (.int y))) H Q)
    (hd : ∀ H, Same H1 H → H D = some (.lst ((List.zipWith f xs ys).map V.int)) → Qd H) :
    ∃ Wk : Nat → Nat → Hp → Prop, (∃ m0, Wk 0 m0 (upd H1 D (.lst []))) ∧ ∀ (i0 m0 : Nat) (h0 : Hp), Wk i0 m0 h0 →
      ((Itz K a b).stop i0 h0 ∧ Qd h0) ∨ ((Itz K a b).go i0 h0 ∧ ∃ Nk : Hp → Prop, (∀ h1, Nk h1 → ∃ m1, m1 < m0 ∧ Wk (i0 + 1) m1 h1) ∧ ∀ x h2, (Itz K a b).yld i0 h0 x h2 → gTup K 2 (gCons (gName i1) (gCons (gName i2) gNil)) x (wipe σ vs) h2 fun σ2 H2 => wipe σ2 vs = wipe σ vs ∧ tYes σ2 H2 fun b H3 =>
        if b = true then te σ2 H3 fun y H4 => ∃ got, H4 D = some (.lst got) ∧ got.length < sizeLine ∧ Nk (upd H4 D (.lst (got ++ [y]))) else Nk H3) := by
  have len : (List.zipWith f xs ys).length = xs.length := by rw [List.length_zipWith]; omega
  refine lc_it (walk_zip (xs := xs.map V.int) (ys := ys.map V.int) (n := xs.length) (by rw [List.length_map, List.length_map]; omega)) (fun i H => Same H1 H ∧ H D = some (.lst (((List.zipWith f xs ys).take i).map V.int)))
    ⟨same_new hD, upd_same⟩ (fun i H _ p => ⟨SqL.of (p.1 _ _ ha), SqL.of (p.1 _ _ hb)⟩) ?_ fun H p => ?_
  · rintro i v H H' hi ⟨sm, hDc⟩ ⟨T, x, y, rfl, nT, rfl, hx, hy⟩
    obtain ⟨x, hx2, rfl⟩ := il_at hx
    obtain ⟨y, hy2, rfl⟩ := il_at hy
    clear hx hy
    have hx := hx2
    have hy := hy2
    have hDc' : upd H T (.tup [.int x, .int y]) D = some (.lst (((List.zipWith f xs ys).take i).map V.int)) := by rw [upd_ne (ne_of_none hDc nT)]; exact hDc
    have sm' : Same H1 (upd H T (.tup [.int x, .int y])) := sm.trans (same_new nT)
    refine ⟨T, _, rfl, SqT.of upd_same, rfl, _, _, rfl, _, _, rfl, rfl, wp _ _, ?_⟩
    refine he i x y _ _ hx hy sm' ⟨_, hDc', small1000 (by rw [List.length_map, List.length_take]; omega), same_upd hD sm', ?_⟩
    rw [take_zw hx hy, List.map_append]
    exact upd_same
  · obtain ⟨sm, hDc⟩ := p
    rw [List.take_of_length_le (by omega)] at hDc
    exact hd H sm hDc
/-- [e for a in xs], integers of integers, where e leaves the heap -/
theorem ll_ints {K : PySem.W.Frag} {a D : Addr} {xs : List Int} (hk : xs.length ≤ 900) {vs : List Nat} {σ : L2.St} {H1 : Hp} {Qd : Hp → Prop} {i1 : Nat} {te : TE} (f : Int → Int) (hD : H1 D = none)
    (ha : H1 a = some (.lst (xs.map V.int))) (wp : ∀ v : V, wipe ((wipe σ vs).set i1 (some v)) vs = wipe σ vs)
    (he : ∀ (i : Nat) (x : Int) (H : Hp) (Q : VK), xs[i]? = some x → Same H1 H → Q (.int (f x)) H → te ((wipe σ vs).set i1 (some (.int x))) H Q)
    (hd : ∀ H, Same H1 H → H D = some (.lst ((xs.map f).map V.int)) → Qd H) :
    ∃ Wk : Nat → Nat → Hp → Prop, (∃ m0, Wk 0 m0 (upd H1 D (.lst []))) ∧ ∀ (i0 m0 : Nat) (h0 : Hp), Wk i0 m0 h0 →
      ((Itl K a).stop i0 h0 ∧ Qd h0) ∨ ((Itl K a).go i0 h0 ∧ ∃ Nk : Hp → Prop, (∀ h1, Nk h1 → ∃ m1, m1 < m0 ∧ Wk (i0 + 1) m1 h1) ∧ ∀ x h2, (Itl K a).yld i0 h0 x h2 → gName i1 x (wipe σ vs) h2 fun σ2 H2 => wipe σ2 vs = wipe σ vs ∧ tYes σ2 H2 fun b H3 =>
        if b = true then te σ2 H3 fun y H4 => ∃ got, H4 D = some (.lst got) ∧ got.length < sizeLine ∧ Nk (upd H4 D (.lst (got ++ [y]))) else Nk H3) := by
  refine lc_list (xs := xs.map V.int) (fun i H => Same H1 H ∧ H D = some (.lst (((xs.map f).take i).map V.int)))
    ⟨same_new hD, upd_same⟩ (fun i H _ p => SqL.of (p.1 _ _ ha)) ?_ fun H p => ?_
  · rintro i v H hx ⟨sm, hDc⟩
    obtain ⟨x, hx2, rfl⟩ := il_at hx
    clear hx
    have hx := hx2
    have hi := (List.getElem?_eq_some_iff.mp hx).1
    refine ⟨wp _, ?_⟩
    refine he i x _ _ hx sm ⟨_, hDc, small1000 (by rw [List.length_map, List.length_take, List.length_map]; omega), same_upd hD sm, ?_⟩
    rw [take_snoc (x := f x) (by rw [List.getElem?_map, hx]; rfl), List.map_append]
    exact upd_same
  · obtain ⟨sm, hDc⟩ := p
    rw [List.take_of_length_le (by rw [List.length_map, List.length_map]; omega)] at hDc
    exact hd H sm hDc
section
variable {P : Program} {w : World} {K : PySem.W.Frag} {mg : Str → Option Value} {base : Heap} {C : Addr}
/-! ### cleared_by -/
theorem atI_ent {l : List Int} {q : Nat} (h : q < l.length) : atI (l.map V.int) (q : Int) = some (.int (ent l q)) := by
  exact atI_nat (by rw [List.getElem?_map, get_ent h]; rfl)
abbrev sClr : Stmt := top 8
abbrev NCl : List Str := ["rows", "line", "at", "divisor", "lead", "row", "entry", "other"]
abbrev lcClr : Scope := lcSc (retE ((defBody sClr).getD 1 (.Pass ⟨0, 0, 0, 0⟩)))
theorem scCl : FnScope NCl ["rows", "line", "at", "divisor"] (defScope sClr) := ⟨rfl, rfl, rfl, by decide +kernel, rfl, by decide +kernel, by decide +kernel⟩
/-- entries of a list are short -/
def Sh (l : List Int) (s : Nat) : Prop := ∀ j, (ent l j).natAbs < 2 ^ s
theorem Sh.get {l : List Int} {s i : Nat} {x : Int} (h : Sh l s) (e : l[i]? = some x) : x.natAbs < 2 ^ s := by
  have := h i
  rw [ent_some e] at this
  exact this
def spClr : Sp := fun vs H Q _ => ∃ (a l : Addr) (rows : List (List Int)) (line : List Int) (q : Nat) (d : Int) (n m t : Nat), vs = [.ref a, .ref l, .int q, .int d] ∧ LM H a rows ∧ H l = some (.lst (line.map V.int)) ∧ rows.length ≤ 90 ∧ (∀ r ∈ rows, r.length = n ∧ Sh r m) ∧ line.length = n ∧ Sh line t ∧ n ≤ 90 ∧ q < n ∧
  d ≠ 0 ∧ d.natAbs < 2 ^ m ∧ m ≤ 8000 ∧ t ≤ 8000 ∧ 0 < m ∧ 0 < t ∧ ∀ x H', LM H' x (clearedBy rows line q d) → Same H H' → Q (.ref x) H'
theorem ok_clr {f : Addr} {fd : FuncData} (F : Fun K "cleared_by" "cleared_by" sClr f fd) (mZ : mg "zip" = none) : FnOk P w K mg base CX0 1 f fd ["rows", "line", "at", "divisor"] spClr := by
  refine F.ok scCl (fun vs H Q E h => ?_) (fun cdv A outer s H vs Q E hr h => ?_)
  · obtain ⟨a, l, rows, line, q, d, n, m, t, rfl, _⟩ := h
    rfl
  · obtain ⟨a, l, rows, line, q, d, n, m, t, rfl, ⟨vs, ha, hv⟩, hl, few, hrow, hn, hsl, n90, hq, d0, dz, s8, t8, s0, t0, Qx⟩ := h
    refine ⟨_, pss_cons (ps_set (i := 4) scCl.nd rfl (Or.inr rfl) (pe_ix ix_list (pv 1) (pv 2) (fun _ _ => rfl)))
      (pss_one (ps_ret (pe_lc (X := (cxOf CX0 P w K mg base NCl "cleared_by" (defScope sClr) f cdv A outer s H E).nox) (own := [("row", 5)]) (g := gName 5) (tt := tYes) rfl scCl.nd (pi_list (pv 0)) (blkOk_by (N := NCl) (sc := defScope sClr) (by decide +kernel))
        (fun _ _ _ _ _ => pg_name (i := 5) scCl.nd rfl (.inr rfl)) (fun _ _ _ _ _ => pts_nil)
        (fun s0 H0 C0 cl0 fp0 => pe_lc (X := ((cxOf CX0 P w K mg base NCl "cleared_by" (defScope sClr) f cdv A outer s H E).nox).blk s0 H0 lcClr (compEnvC lcClr cl0 C0 ((cxOf CX0 P w K mg base NCl "cleared_by" (defScope sClr) f cdv A outer s H E).nox).env) fp0) (own := [("entry", 6), ("other", 7)]) (g := gTup _ 2 (gCons (gName 6) (gCons (gName 7) gNil))) (tt := tYes) rfl scCl.nd (pi_zipK (K := K) rfl (by rfl) mZ (pa_cons (pv 5) (pa_cons (pv 1) pa_nil))) (blkOk_by (N := NCl) (sc := relS lcClr (defScope sClr)) (by decide +kernel))
          (fun _ _ _ _ _ => pg_tupK (K := K) rfl rfl (pgs_cons (pg_name (i := 6) scCl.nd rfl (.inl rfl)) (pgs_cons (pg_name (i := 7) scCl.nd rfl (.inl rfl)) pgs_nil))) (fun _ _ _ _ _ => pts_nil)
          (fun _ _ _ _ _ => pe_op op_fdivX (pe_op op_sub (pe_op op_mulW (pv 6) (pv 4)) (pe_op op_mulW (pe_ix (ix_listK (K := K) rfl) (pv 5) (pv 2) (fun _ _ => rfl)) (pv 7))) (pv 3)))))), ?_⟩
    refine ⟨_, rfl, _, rfl, l, _, _, _, rfl, rfl, SqL.of hl, atI_ent (by rw [hn]; exact hq), ?_⟩
    refine ⟨_, rfl, a, rfl, ⟨_, SqL.of ha⟩, fun D hD => ?_⟩
    refine lc_list (xs := vs) (fun i Hc => Same H Hc ∧ ∃ us, Hc D = some (.lst us) ∧ AG (ILx D Hc) us ((clearedBy rows line q d).take i)) ⟨same_new hD, [], upd_same, AG.nil⟩ (fun i Hc _ p => SqL.of (p.1 _ _ ha)) ?_ ?_
    · rintro i v Hc hvi ⟨sm, us, hDc, hu⟩
      obtain ⟨r, hri, p, rfl, hp⟩ := hv.2 i v hvi
      have hi := (List.getElem?_eq_some_iff.mp hri).1
      obtain ⟨rn, rs⟩ := hrow r (List.mem_of_getElem? hri)
      have hp := sm _ _ hp
      have hl' := sm _ _ hl
      refine ⟨rfl, _, rfl, _, rfl, p, l, _, _, rfl, SqL.of hp, SqL.of hl', fun D2 hD2 => ?_⟩
      refine lz_ints (xs := r) (ys := line) (by omega) (by omega) (fun e o => (e * ent line q - ent r q * o).fdiv d) hD2 hp hl' (fun _ _ => rfl) ?_ ?_
      · intro i2 x y H2 Q2 hx hy s2 q2
        refine ⟨_, rfl, _, rfl, _, _, rfl, rfl, wide_mul (rs.get hx) (hsl q) (by omega) (by omega) (by omega), ?_⟩
        refine ⟨_, rfl, _, rfl, p, _, _, _, rfl, rfl, SqL.of (s2 _ _ hp), atI_ent (by omega), _, rfl, _, _, rfl, rfl, wide_mul (rs q) (hsl.get hy) (by omega) (by omega) (by omega), ?_⟩
        exact ⟨_, _, rfl, rfl, _, rfl, _, _, rfl, rfl, div_ok d0 dz (by omega) (by omega), q2⟩
      · intro H2 s2 hD3
        have e1 := s2 _ _ hDc
        have ne : D2 ≠ D := fun z => by rw [z, hDc] at hD2; cases hD2
        refine ⟨us, e1, small1000 (by rw [hu.1, List.length_take]; have := few; unfold clearedBy; rw [List.length_map]; omega), same_upd hD (sm.trans s2), us ++ [.ref D2], upd_same, ?_⟩
        rw [take_snoc (x := List.zipWith (fun e o => (e * ent line q - ent r q * o).fdiv d) r line) (by unfold clearedBy; rw [List.getElem?_map, hri]; rfl)]
        exact AG.snoc (hu.imp fun _ _ z => (z.same s2).upd) ⟨D2, rfl, ne, by rw [upd_ne ne]; exact hD3⟩
    · rintro Hc ⟨sm, us, hDc, hu⟩
      rw [List.take_of_length_le (by unfold clearedBy; rw [List.length_map, hv.1]; exact Nat.le_refl _)] at hu
      exact Qx D Hc ⟨us, hDc, hu.imp fun _ _ z => z.il⟩ sm
end
end FR
set_option Elab.async false
set_option linter.all false
set_option maxRecDepth 100000
set_option maxHeartbeats 4000000
/-! the class Echelon -/
namespace FR
open PySem PySem.Spec PyProof.Rows L2 RF
abbrev sEch : Stmt := top 9
abbrev sEi : Stmt := inClass sEch 0
abbrev sEr : Stmt := inClass sEch 1
abbrev sEp : Stmt := inClass sEch 2
abbrev sEt : Stmt := inClass sEch 3
structure TxtE (K : PySem.W.Frag) (mg : Str → Option Value) (D : Addr) : Prop where
  cl : Cls K D
  nW : NoAttr K D "width"
  nR : NoAttr K D "rows"
  nP : NoAttr K D "places"
  nD : NoAttr K D "divisor"
  zip : mg "zip" = none
  range : mg "range" = none
/-- what an Echelon holds -/
structure EcF (fs : List (Str × V)) (n : Nat) (a b : Addr) (d : Int) : Prop where
  w : fs.lookup ("width" : Str) = some (.int n)
  r : fs.lookup ("rows" : Str) = some (.ref a)
  p : fs.lookup ("places" : Str) = some (.ref b)
  d : fs.lookup ("divisor" : Str) = some (.int d)
  few : fs.length ≤ 900
  no : ∀ m : Str, ¬ m = "width" → ¬ m = "rows" → ¬ m = "places" → ¬ m = "divisor" → fs.lookup m = none
def Ec (D : Addr) (H : Hp) (x : Addr) (n : Nat) (rows : List (List Int)) (places : List Nat) (d : Int) : Prop :=
  ∃ dx fs a b, H x = some (.ins D dx fs) ∧ EcF fs n a b d ∧ LM H a rows ∧ H b = some (.lst (places.map fun i => V.int (i : Nat)))
theorem Ec.same {D : Addr} {H H' : Hp} {x : Addr} {n : Nat} {rows : List (List Int)} {places : List Nat} {d : Int} (h : Ec D H x n rows places d) (s : Same H H') : Ec D H' x n rows places d := by
  obtain ⟨dx, fs, a, b, h1, h2, h3, h4⟩ := h
  exact ⟨dx, fs, a, b, s _ _ h1, h2, h3.same s, s _ _ h4⟩
section
variable {P : Program} {w : World} {K : PySem.W.Frag} {mg : Str → Option Value} {base : Heap} {D : Addr}
def spEi (D : Addr) : Sp := fun vs H Q _ => ∃ (x dx : Addr) (n : Nat), vs = [.ref x, .int n] ∧ H x = some (.ins D dx []) ∧ ∀ H', Ec D H' x n [] [] 1 → (∀ q o, q ≠ x → H q = some o → H' q = some o) → Q .non H'
theorem scEi : FnScope ["self", "width"] ["self", "width"] (defScope sEi) := ⟨rfl, rfl, rfl, by decide +kernel, rfl, by decide +kernel, by decide +kernel⟩
theorem pe_fldK {X : Cx} {K : PySem.W.Frag} {e : Expr} {ta : TE} {f : Str} {pos : Pos} (hK : X.K = K) (he : PE X e ta) (hb : attributeBase e f X.env (eval e X.env) = eval e X.env) : PE X (.Attribute e f pos) (tFld K ta f) := by
  subst hK
  exact pe_fld he hb
theorem neq_of {i j : Int} (z : (!decide (V.int i = V.int j)) = true) : i ≠ j := fun e => by
  subst e
  simp at z
theorem neq_to {i j : Int} (z : i ≠ j) : (!decide (V.int i = V.int j)) = true := by
  simp
  exact z
theorem ne_fld {a b : Str} (h : ¬ a = b := by decide +kernel) : ¬ a = b := h
theorem ok_ei {f : Addr} {fd : FuncData} (F : Fun K "__init__" "Echelon.__init__" sEi f fd) (T : TxtE K mg D) : FnOk P w K mg base CX0 1 f fd ["self", "width"] (spEi D) := by
  refine F.ok scEi (fun vs H Q E h => ?_) (fun cdv A outer s H vs Q E hr h => ?_)
  · obtain ⟨x, dx, n, rfl, _⟩ := h
    rfl
  · obtain ⟨x, dx, n, rfl, hx, q⟩ := h
    refine ⟨_, pss_cons (ps_fld (pv 0) (pv 1) rfl) (pss_cons (ps_fld (pv 0) (pe_lst pa_nil) rfl) (pss_cons (ps_fld (pv 0) (pe_lst pa_nil) rfl) (pss_one (ps_fld (pv 0) pe_int rfl)))), ?_⟩
    refine ⟨_, rfl, _, rfl, x, D, dx, _, rfl, hx, T.cl, T.nW, (by show 0 < 1000; decide), ?_⟩
    refine ⟨Nat.zero_le _, fun a ha => ?_⟩
    have xa : x ≠ a := fun z => by rw [← z, upd_same] at ha; cases ha
    refine ⟨_, rfl, x, D, dx, _, rfl, by rw [upd_ne xa, upd_same], T.cl, T.nR, (by show 1 < 1000; decide), ?_⟩
    refine ⟨Nat.zero_le _, fun b hb => ?_⟩
    have xb : x ≠ b := fun z => by rw [← z, upd_same] at hb; cases hb
    have ab : a ≠ b := fun z => by rw [← z, upd_ne (Ne.symm xa), upd_same] at hb; cases hb
    refine ⟨_, rfl, x, D, dx, _, rfl, by rw [upd_ne xb, upd_same], T.cl, T.nP, (by show 2 < 1000; decide), ?_⟩
    refine ⟨_, rfl, x, D, dx, _, rfl, upd_same, T.cl, T.nD, (by show 3 < 1000; decide), ?_⟩
    refine q _ ⟨dx, _, a, b, upd_same, ⟨?_, ?_, ?_, ?_, by show 4 ≤ 900; decide, fun m h1 h2 h3 h4 => by rw [lookup_putF, if_neg h4, lookup_putF, if_neg h3, lookup_putF, if_neg h2, lookup_putF, if_neg h1]; rfl⟩, ⟨[], ?_, AG.nil⟩, ?_⟩ ?_
    · rw [lookup_putF, if_neg ne_fld, lookup_putF, if_neg ne_fld, lookup_putF, if_neg ne_fld, lookup_putF, if_pos rfl]
    · rw [lookup_putF, if_neg ne_fld, lookup_putF, if_neg ne_fld, lookup_putF, if_pos rfl]
    · rw [lookup_putF, if_neg ne_fld, lookup_putF, if_pos rfl]
    · rw [lookup_putF, if_pos rfl]
    · rw [upd_ne (Ne.symm xa), upd_ne (Ne.symm xa), upd_ne ab, upd_ne (Ne.symm xa), upd_same]
    · rw [upd_ne (Ne.symm xb), upd_ne (Ne.symm xb), upd_same]; rfl
    · intro z o hz e
      have za : z ≠ a := fun y => by rw [← y, upd_ne hz, e] at ha; cases ha
      have zb : z ≠ b := fun y => by rw [← y, upd_ne hz, upd_ne za, upd_ne hz, e] at hb; cases hb
      rw [upd_ne hz, upd_ne hz, upd_ne zb, upd_ne hz, upd_ne za, upd_ne hz]; exact e
/-! ### rest_of -/
abbrev NEr : List Str := ["self", "line", "rest", "row", "place", "factor", "entry", "other"]
theorem scEr : FnScope NEr ["self", "line"] (defScope sEr) := ⟨rfl, rfl, rfl, by decide +kernel, rfl, by decide +kernel, by decide +kernel⟩
/-- rows and places that belong together -/
structure Rws (rows : List (List Int)) (places : List Nat) (d : Int) (n m : Nat) : Prop where
  ln : rows.length = places.length
  few : rows.length ≤ 90
  row : ∀ r ∈ rows, r.length = n ∧ Sh r m
  pl : ∀ i ∈ places, i < n
  dz : d.natAbs < 2 ^ m
def spEr (D : Addr) : Sp := fun vs H Q _ => ∃ (x l : Addr) (w0 n m t : Nat) (rows : List (List Int)) (places : List Nat) (d : Int) (line : List Int), vs = [.ref x, .ref l] ∧ Ec D H x w0 rows places d ∧ H l = some (.lst (line.map V.int)) ∧ Rws rows places d n m ∧ line.length = n ∧ Sh line t ∧ n ≤ 90 ∧
  m ≤ 8000 ∧ t ≤ 8000 ∧ 0 < m ∧ 0 < t ∧ ∀ y H', H' y = some (.lst ((restL d (rows.zip places) line).map V.int)) → Same H H' → Q (.ref y) H'
theorem ok_er {f : Addr} {fd : FuncData} (F : Fun K "rest_of" "Echelon.rest_of" sEr f fd) (T : TxtE K mg D) : FnOk P w K mg base CX0 1 f fd ["self", "line"] (spEr D) := by
  refine F.ok scEr (fun vs H Q E h => ?_) (fun cdv A outer s H vs Q E hr h => ?_)
  · obtain ⟨x, l, w0, n, m, t, rows, places, d, line, rfl, _⟩ := h
    rfl
  · obtain ⟨x, l, w0, n, m, t, rows, places, d, line, rfl, ⟨dx, fs, a, b, hx, ef, ⟨vs, ha, hv⟩, hb⟩, hl, rw_, hn, hsl, n90, m8, t8, m0, t0, q⟩ := h
    refine ⟨_, pss_cons (ps_setLc (i := 2) (own := [("entry", 6)]) (g := gName 6) (tt := tYes) rfl scEr.nd rfl rfl (sw_true rfl rfl rfl (by decide +kernel)) (pi_list (pv 1)) (blkOk_by (N := NEr) (sc := defScope sEr) (by decide +kernel))
        (fun _ _ _ _ _ => pg_name (i := 6) scEr.nd rfl (.inl rfl)) (fun _ _ _ _ _ => pts_nil) (fun _ _ _ _ _ => pe_op op_mulW (pe_fldK (K := K) rfl (pv 0) rfl) (pv 6)))
      (pss_cons (ps_for PassesOwn.never rfl (pi_zip (by rfl) T.zip (pa_cons (pe_fld (pv 0) rfl) (pa_cons (pe_fld (pv 0) rfl) pa_nil))) (pg_tup rfl (pgs_cons (pg_name (i := 3) scEr.nd rfl (.inl rfl)) (pgs_cons (pg_name (i := 4) scEr.nd rfl (.inl rfl)) pgs_nil)))
        (pss_cons (ps_set (i := 5) scEr.nd rfl (Or.inr rfl) (pe_ix ix_list (pv 1) (pv 4) (fun _ _ => rfl)))
        (pss_one (ps_if (pt_cmpR op_ne (pv 5) pe_int (nomark _)) (pss_one (ps_setLc (i := 2) (own := [("entry", 6), ("other", 7)]) (g := gTup K 2 (gCons (gName 6) (gCons (gName 7) gNil))) (tt := tYes) rfl scEr.nd rfl rfl (sw_true rfl rfl rfl (by decide +kernel)) (pi_zip (by rfl) T.zip (pa_cons (pv 2) (pa_cons (pv 3) pa_nil))) (blkOk_by (N := NEr) (sc := defScope sEr) (by decide +kernel))
          (fun _ _ _ _ _ => pg_tupK (K := K) rfl rfl (pgs_cons (pg_name (i := 6) scEr.nd rfl (.inl rfl)) (pgs_cons (pg_name (i := 7) scEr.nd rfl (.inl rfl)) pgs_nil))) (fun _ _ _ _ _ => pts_nil)
          (fun _ _ _ _ _ => pe_op op_sub (pv 6) (pe_op op_mulW (pv 5) (pv 7))))) pss_nil))))
      (pss_one (ps_ret (pv 2)))), ?_⟩
    refine ⟨_, rfl, l, rfl, ⟨_, SqL.of hl⟩, fun R0 hR0 => ?_⟩
    refine ll_ints (xs := line) (by omega) (d * ·) hR0 hl (fun _ => rfl) ?_ ?_
    · intro i y H2 Q2 hy s2 q2
      exact ⟨_, rfl, x, D, dx, _, _, rfl, s2 _ _ hx, T.cl, T.nD, ef.d, _, rfl, _, _, rfl, rfl, wide_mul rw_.dz (hsl.get hy) (by omega) (by omega) (by omega), q2⟩
    intro H1 s1 hR1
    refine ⟨_, rfl, x, D, dx, _, _, rfl, s1 _ _ hx, T.cl, T.nR, ef.r, _, rfl, x, D, dx, _, _, rfl, s1 _ _ hx, T.cl, T.nP, ef.p, a, b, _, _, rfl, SqL.of (s1 _ _ ha), SqL.of (s1 _ _ hb), ?_⟩
    have wd : ∀ p, p ∈ rows.zip places → p.1.length = n := fun p hp => (rw_.row _ (List.of_mem_zip (show (p.1, p.2) ∈ _ from hp)).1).1
    refine for_it (walk_zip (xs := vs) (ys := places.map fun i => V.int (i : Nat)) (n := rows.length) (by rw [List.length_map, hv.1, rw_.ln]; omega))
      (fun i σ Hc => Same H Hc ∧ ∃ (y : Addr) (x3 x4 x5 : Option V), σ = [some (.ref x), some (.ref l), some (.ref y), x3, x4, x5, none, none] ∧ Hc y = some (.lst ((restL d ((rows.zip places).take i) line).map V.int)))
      ⟨s1, R0, _, _, _, rfl, hR1⟩ (fun i σ Hc _ p => ⟨SqL.of (p.1 _ _ ha), SqL.of (p.1 _ _ hb)⟩) ?_ ?_
    · rintro i v σ Hc H' hi ⟨sm, y, x3, x4, x5, rfl, hy⟩ ⟨T0, u1, u2, rfl, nT, rfl, h1, h2⟩
      obtain ⟨r, hri, p, rfl, hp⟩ := hv.2 i u1 h1
      obtain ⟨pc, g2⟩ : ∃ pc, places[i]? = some pc := ⟨_, List.getElem?_eq_getElem (by rw [← rw_.ln]; exact hi)⟩
      have e2 : u2 = .int (pc : Nat) := by
        have h2' : (places.map fun i => V.int (i : Nat))[i]? = some u2 := h2
        rw [List.getElem?_map, g2] at h2'
        exact (Option.some.inj h2').symm
      subst e2
      obtain ⟨rn, rs⟩ := rw_.row r (List.mem_of_getElem? hri)
      have pl := rw_.pl pc (List.mem_of_getElem? g2)
      have sm' : Same H (upd Hc T0 (.tup [.ref p, .int (pc : Nat)])) := sm.trans (same_new nT)
      have hy' := same_new (o := .tup [.ref p, .int (pc : Nat)]) nT _ _ hy
      have tk : (rows.zip places).take (i + 1) = (rows.zip places).take i ++ [(r, pc)] := take_snoc (by rw [List.getElem?_zip_eq_some]; exact ⟨hri, g2⟩)
      have rl : (restL d ((rows.zip places).take i) line).length = n := rest_len hn fun p hp => wd p (List.mem_of_mem_take hp)
      have step : restL d ((rows.zip places).take (i + 1)) line = restStep line (restL d ((rows.zip places).take i) line) (r, pc) := by
        unfold restL
        rw [tk, List.foldl_append]
        rfl
      have tt : upd Hc T0 (.tup [.ref p, .int (pc : Nat)]) T0 = some (.tup [.ref p, .int (pc : Nat)]) := upd_same
      generalize upd Hc T0 _ = Hn at sm' hy' tt ⊢
      generalize restL d ((rows.zip places).take i) line = cur at *
      refine ⟨T0, _, rfl, SqT.of tt, rfl, _, _, rfl, _, _, rfl, rfl, ?_⟩
      refine ⟨_, rfl, _, rfl, l, _, _, _, rfl, rfl, SqL.of (sm' _ _ hl), atI_ent (by omega), ?_⟩
      refine ⟨_, rfl, rfl, _, rfl, ite2 (fun z => ?_) (fun z => ?_)⟩
      · have z : ent line pc ≠ 0 := neq_of z
        refine ⟨_, rfl, _, rfl, y, p, _, _, rfl, SqL.of hy', SqL.of (sm' _ _ hp), fun R2 hR2 => ?_⟩
        refine lz_ints (xs := cur) (ys := r) (by omega) (by omega) (fun e o => e - ent line pc * o) hR2 hy' (sm' _ _ hp) (fun _ _ => rfl) ?_ ?_
        · intro i2 u v2 H2 Q2 hu hv2 s2 q2
          exact ⟨_, rfl, _, rfl, _, rfl, _, _, rfl, rfl, wide_mul (hsl pc) (rs.get hv2) (by omega) (by omega) (by omega), _, _, rfl, rfl, q2⟩
        · intro H2 s2 hR3
          refine ⟨sm'.trans s2, R2, _, _, _, rfl, ?_⟩
          rw [step]
          unfold restStep
          rw [if_pos z]
          exact hR3
      · have z : ¬ ent line pc ≠ 0 := fun y => z (neq_to y)
        refine ⟨sm', y, _, _, _, rfl, ?_⟩
        rw [step]
        unfold restStep
        rw [if_neg z]
        exact hy'
    · rintro σ Hc ⟨sm, y, x3, x4, x5, rfl, hy⟩
      rw [List.take_of_length_le (by rw [List.length_zip]; omega)] at hy
      exact ⟨_, rfl, q y Hc hy sm⟩
end
end FR
set_option Elab.async false
set_option linter.all false
set_option maxRecDepth 100000
set_option maxHeartbeats 4000000
namespace FR
open PySem PySem.Spec PyProof.Rows L2 RF
/-- a def of the top, with its promise -/
structure Glo (P : Program) (w : World) (K : PySem.W.Frag) (mg : Str → Option Value) (base : Heap) (nm : Str) (n : Nat) (ps : List Str) (sp : Sp) where
  f : Addr
  fd : FuncData
  G : FnOk P w K mg base CX0 n f fd ps sp
  m : mg nm = some (.ref f)
  k : PySem.W.keepIn K (.ref f) = true
  b : Binds K fd ps []
/-- a method -/
structure Met (P : Program) (w : World) (K : PySem.W.Frag) (mg : Str → Option Value) (base : Heap) (C : Addr) (nm : Str) (n : Nat) (ps : List Str) (sp : Sp) where
  f : Addr
  fd : FuncData
  D : Dun K C nm f
  kp : PySem.W.keepIn K (.ref f) = true
  G : FnOk P w K mg base CX0 n f fd ps sp
  b : Binds K fd ps []
section
variable {P : Program} {w : World} {K : PySem.W.Frag} {mg : Str → Option Value} {base : Heap} {D : Addr}
def spEp (D : Addr) : Sp := fun vs H Q _ => ∃ (x r : Addr) (n : Nat) (rows : List (List Int)) (places : List Nat) (d : Int) (rest : List Int), vs = [.ref x, .ref r] ∧ Ec D H x n rows places d ∧ H r = some (.lst (rest.map V.int)) ∧ n ≤ rest.length ∧ n ≤ 90 ∧
  (∀ q, q < n → (∀ j, j < q → ent rest j = 0) → ent rest q ≠ 0 → Q (.int (q : Nat)) H) ∧ ((∀ j, j < n → ent rest j = 0) → Q .non H)
abbrev NEp : List Str := ["self", "rest", "place"]
theorem scEp : FnScope NEp ["self", "rest"] (defScope sEp) := ⟨rfl, rfl, rfl, by decide +kernel, rfl, by decide +kernel, by decide +kernel⟩
theorem ok_ep {f : Addr} {fd : FuncData} (F : Fun K "place_in" "Echelon.place_in" sEp f fd) (T : TxtE K mg D) : FnOk P w K mg base CX0 1 f fd ["self", "rest"] (spEp D) := by
  refine F.ok scEp (fun vs H Q E h => ?_) (fun cdv A outer s H vs Q E hr h => ?_)
  · obtain ⟨x, r, n, rows, places, d, rest, rfl, _⟩ := h
    rfl
  · obtain ⟨x, r, n, rows, places, d, rest, rfl, ⟨dx, fs, a, b, hx, ef, _, _⟩, hl, hn, n90, q1, q2⟩ := h
    refine ⟨_, pss_cons (ps_for PassesOwn.never rfl (pi_range1 (by rfl) T.range (pa_cons (pe_fld (pv 0) rfl) pa_nil)) (pg_name (i := 2) scEp.nd rfl (.inl rfl))
        (pss_one (ps_if (pt_cmpR op_ne (pe_ix ix_list (pv 1) (pv 2) (fun _ _ => rfl)) pe_int (nomark _)) (pss_one (ps_ret (pv 2))) pss_nil)))
      (pss_one (ps_ret pe_non)), ?_⟩
    refine ⟨_, rfl, x, D, dx, _, _, rfl, hx, T.cl, T.nW, ef.w, (n : Int), rfl, by omega, by omega, ?_⟩
    refine for_range (fun i σ Hc => Hc = H ∧ (∀ j, j < i → ent rest j = 0) ∧ ∃ x2 : Option V, σ = [some (.ref x), some (.ref r), x2]) ⟨rfl, fun j hj => by omega, _, rfl⟩ ?_ ?_
    · rintro i σ Hc hi ⟨rfl, h0, x2, rfl⟩
      have hi : i < n := by omega
      have e : (0 : Int) + (i : Nat) = (i : Nat) := by omega
      rw [e]
      refine ⟨_, rfl, _, rfl, r, _, _, _, rfl, rfl, SqL.of hl, atI_ent (by omega), rfl, _, rfl, ite2 (fun z => ?_) (fun z => ?_)⟩
      · exact ⟨_, rfl, q1 i hi h0 (neq_of z)⟩
      · have z : ent rest i = 0 := Classical.byContradiction fun y => z (neq_to y)
        refine ⟨rfl, fun j hj => ?_, _, rfl⟩
        by_cases y : j = i
        · rw [y]; exact z
        · exact h0 j (by omega)
    · rintro σ Hc ⟨rfl, h0, x2, rfl⟩
      exact q2 fun j hj => h0 j (by omega)
theorem putF_len {f : Str} {u v : V} : ∀ {fs : List (Str × V)}, fs.lookup f = some u → (putF f v fs).length = fs.length
  | [], h => by simp at h
  | (g, y) :: r, h => by
    show (if g = f then (g, v) :: r else (g, y) :: putF f v r).length = _
    by_cases e : g = f
    · rw [if_pos e]; rfl
    · rw [if_neg e]
      have h' : r.lookup f = some u := by
        rw [List.lookup_cons] at h
        have : (f == g) = false := by
          cases z : (f == g) with
          | false => rfl
          | true => exact absurd (eq_of_beq z).symm e
        rw [this] at h
        exact h
      show (putF f v r).length + 1 = r.length + 1
      rw [putF_len h']
def spEt (D : Addr) : Sp := fun vs H Q _ => ∃ (x r : Addr) (q w0 n m t : Nat) (rows : List (List Int)) (places : List Nat) (d : Int) (rest : List Int), vs = [.ref x, .ref r, .int (q : Nat)] ∧ Ec D H x w0 rows places d ∧ H r = some (.lst (rest.map V.int)) ∧ Rws rows places d n m ∧ rest.length = n ∧ Sh rest t ∧ n ≤ 90 ∧ q < n ∧ d ≠ 0 ∧
  m ≤ 8000 ∧ t ≤ 8000 ∧ 0 < m ∧ 0 < t ∧ ∀ H', Ec D H' x w0 (clearedBy rows rest q d ++ [rest]) (places ++ [q]) (ent rest q) → (∀ z o, z ≠ x → H z = some o → H' z = some o) → Q .non H'
abbrev NEt : List Str := ["self", "rest", "place"]
theorem scEt : FnScope NEt ["self", "rest", "place"] (defScope sEt) := ⟨rfl, rfl, rfl, by decide +kernel, rfl, by decide +kernel, by decide +kernel⟩
theorem ok_et {f : Addr} {fd : FuncData} (F : Fun K "take" "Echelon.take" sEt f fd) (T : TxtE K mg D) (gC : Glo P w K mg base "cleared_by" 1 ["rows", "line", "at", "divisor"] spClr) : FnOk P w K mg base CX0 2 f fd ["self", "rest", "place"] (spEt D) := by
  refine F.ok scEt (fun vs H Q E h => ?_) (fun cdv A outer s H vs Q E hr h => ?_)
  · obtain ⟨x, r, q, w0, n, m, t, rows, places, d, rest, rfl, _⟩ := h
    rfl
  · obtain ⟨x, r, q, w0, n, m, t, rows, places, d, rest, rfl, ⟨dx, fs, a, b, hx, ef, hm, hb⟩, hl, rw_, hn, hsl, n90, hq, d0, m8, t8, m0, t0, k⟩ := h
    refine ⟨_, pss_cons (ps_fld (pv 0) (pe_op op_cat (pe_call gC.G hr (by rfl) gC.m gC.k gC.b .nil pass0 (pa_cons (pe_fld (pv 0) rfl) (pa_cons (pv 1) (pa_cons (pv 2) (pa_cons (pe_fld (pv 0) rfl) pa_nil))))) (pe_lst (pa_cons (pv 1) pa_nil))) rfl)
      (pss_cons (ps_fld (pv 0) (pe_op op_cat (pe_fld (pv 0) rfl) (pe_lst (pa_cons (pv 2) pa_nil))) rfl)
      (pss_one (ps_fld (pv 0) (pe_ix ix_list (pv 1) (pv 2) (fun _ _ => rfl)) rfl))), ?_⟩
    refine ⟨_, rfl, x, D, dx, _, _, rfl, hx, T.cl, T.nR, ef.r, _, rfl, _, rfl, _, rfl, x, D, dx, _, _, rfl, hx, T.cl, T.nD, ef.d, ?_⟩
    refine ⟨a, r, rows, rest, q, d, n, m, t, rfl, hm, hl, rw_.few, rw_.row, hn, hsl, n90, hq, d0, rw_.dz, m8, t8, m0, t0, fun y H1 hy s1 => ?_⟩
    obtain ⟨us, hy1, hu⟩ := hy
    refine ⟨_, rfl, small1000 (by show 0 ≤ 1000; decide), fun l1 hl1 => ?_⟩
    have s2 : Same H1 (upd H1 l1 (.lst [.ref r])) := same_new hl1
    have hl2 : upd H1 l1 (.lst [.ref r]) l1 = some (.lst [.ref r]) := upd_same
    have e1 := s2 _ _ hy1
    have s12 := s1.trans s2
    have hu2 := hu.imp fun _ _ z => z.same s2
    generalize upd H1 l1 _ = H2 at *
    have ulen : us.length ≤ 90 := by rw [hu.1]; unfold clearedBy; rw [List.length_map]; exact rw_.few
    refine ⟨y, l1, _, _, rfl, rfl, e1, hl2, Nat.le_of_lt (small1000 (by show us.length + 1 ≤ 1000; omega)), fun l2 hl3 => ?_⟩
    have s3 : Same H2 (upd H2 l2 (.lst (us ++ [.ref r]))) := same_new hl3
    have e3 : upd H2 l2 (.lst (us ++ [.ref r])) l2 = some (.lst (us ++ [.ref r])) := upd_same
    have s13 := s12.trans s3
    have hu3 := hu2.imp fun _ _ z => z.same s3
    have hx3 := s13 _ _ hx
    have hr3 := s13 _ _ hl
    have hb3 := s13 _ _ hb
    generalize upd H2 l2 _ = H3 at *
    refine ⟨_, rfl, x, D, dx, _, rfl, hx3, T.cl, T.nR, (by have := ef.few; omega), ?_⟩
    have xr : x ≠ r := fun z => by rw [z, hr3] at hx3; cases hx3
    have xb : x ≠ b := fun z => by rw [z, hb3] at hx3; cases hx3
    have xl2 : x ≠ l2 := fun z => by rw [z, e3] at hx3; cases hx3
    refine ⟨_, rfl, x, D, dx, _, _, rfl, upd_same, T.cl, T.nP, by rw [lookup_putF, if_neg ne_fld]; exact ef.p, _, rfl, small1000 (by show 0 ≤ 1000; decide), fun l3 hl5 => ?_⟩
    have g4 : ∀ z o, z ≠ x → H3 z = some o → upd H3 x (.ins D dx (putF "rows" (.ref l2) fs)) z = some o := fun z o n e => by rw [upd_ne n]; exact e
    have hx4 : upd H3 x (.ins D dx (putF "rows" (.ref l2) fs)) x = some (.ins D dx (putF "rows" (.ref l2) fs)) := upd_same
    generalize upd H3 x _ = H4 at *
    have hb4 := g4 _ _ (Ne.symm xb) hb3
    have hr4 := g4 _ _ (Ne.symm xr) hr3
    have he4 := g4 _ _ (Ne.symm xl2) e3
    have hu4 := hu3.imp (R' := IL H4) fun _ _ ⟨z, ez, hz⟩ => ⟨z, ez, g4 _ _ (fun y => by rw [y, hx3] at hz; cases hz) hz⟩
    have s5 : Same H4 (upd H4 l3 (.lst [.int (q : Nat)])) := same_new hl5
    have hl6 : upd H4 l3 (.lst [.int (q : Nat)]) l3 = some (.lst [.int (q : Nat)]) := upd_same
    have hx5 := s5 _ _ hx4
    have hb5 := s5 _ _ hb4
    have hr5 := s5 _ _ hr4
    have he5 := s5 _ _ he4
    have hu5 := hu4.imp fun _ _ z => IL.same z s5
    generalize upd H4 l3 _ = H5 at *
    refine ⟨b, l3, _, _, rfl, rfl, hb5, hl6, Nat.le_of_lt (small1000 (by rw [List.length_map, ← rw_.ln]; have := rw_.few; show rows.length + 1 ≤ 1000; omega)), fun l4 hl7 => ?_⟩
    have s6 : Same H5 (upd H5 l4 (.lst ((places.map fun i => V.int (i : Nat)) ++ [.int (q : Nat)]))) := same_new hl7
    have hp6 : upd H5 l4 (.lst ((places.map fun i => V.int (i : Nat)) ++ [.int (q : Nat)])) l4 = some (.lst ((places.map fun i => V.int (i : Nat)) ++ [.int (q : Nat)])) := upd_same
    have hx6 := s6 _ _ hx5
    have hr6 := s6 _ _ hr5
    have he6 := s6 _ _ he5
    have hu6 := hu5.imp fun _ _ z => IL.same z s6
    have s46 := s5.trans s6
    generalize upd H5 l4 _ = H6 at *
    have xl4 : x ≠ l4 := fun z => by rw [z, hp6] at hx6; cases hx6
    refine ⟨_, rfl, x, D, dx, _, rfl, hx6, T.cl, T.nP, by rw [putF_len ef.r]; have := ef.few; omega, ?_⟩
    refine ⟨_, rfl, _, rfl, r, _, _, _, rfl, rfl, SqL.of (by rw [upd_ne (Ne.symm xr)]; exact hr6), atI_ent (by omega), ?_⟩
    have lp : (putF "rows" (.ref l2) fs).lookup ("places" : Str) = some (.ref b) := by rw [lookup_putF, if_neg ne_fld]; exact ef.p
    refine ⟨_, rfl, x, D, dx, _, rfl, upd_same, T.cl, T.nD, by rw [putF_len lp, putF_len ef.r]; have := ef.few; omega, ?_⟩
    refine k _ ⟨dx, _, l2, l4, upd_same, ⟨?_, ?_, ?_, ?_, ?_, fun m h1 h2 h3 h4 => by rw [lookup_putF, if_neg h4, lookup_putF, if_neg h3, lookup_putF, if_neg h2]; exact ef.no m h1 h2 h3 h4⟩, ⟨us ++ [.ref r], ?_, ?_⟩, ?_⟩ ?_
    · rw [lookup_putF, if_neg ne_fld, lookup_putF, if_neg ne_fld, lookup_putF, if_neg ne_fld]; exact ef.w
    · rw [lookup_putF, if_neg ne_fld, lookup_putF, if_neg ne_fld, lookup_putF, if_pos rfl]
    · rw [lookup_putF, if_neg ne_fld, lookup_putF, if_pos rfl]
    · rw [lookup_putF, if_pos rfl]
    · have ld : (putF "places" (.ref l4) (putF "rows" (.ref l2) fs)).lookup ("divisor" : Str) = some (.int d) := by rw [lookup_putF, if_neg ne_fld, lookup_putF, if_neg ne_fld]; exact ef.d
      rw [putF_len ld, putF_len lp, putF_len ef.r]; exact ef.few
    · rw [upd_ne (Ne.symm xl2), upd_ne (Ne.symm xl2)]; exact he6
    · refine AG.snoc (hu6.imp fun _ _ ⟨z, ez, hz⟩ => ⟨z, ez, ?_⟩) ⟨r, rfl, by rw [upd_ne (Ne.symm xr), upd_ne (Ne.symm xr)]; exact hr6⟩
      have zx : z ≠ x := fun y => by rw [y, hx6] at hz; cases hz
      rw [upd_ne zx, upd_ne zx]; exact hz
    · rw [upd_ne (Ne.symm xl4), upd_ne (Ne.symm xl4), List.map_append]; exact hp6
    · intro z o n e
      rw [upd_ne n, upd_ne n]
      exact s46 _ _ (g4 _ _ n (s13 _ _ e))
end
end FR
set_option Elab.async false
set_option linter.all false
set_option maxRecDepth 100000
set_option maxHeartbeats 4000000
namespace FR
open PySem PySem.Spec PyProof.Rows L2 RF
section
variable {P : Program} {w : World} {K : PySem.W.Frag} {mg : Str → Option Value} {base : Heap} {C fI pT gT pB gB : Addr} {fdI fdT fdB : FuncData}
abbrev sBet : Stmt := top 12
theorem scBet : FnScope ["value", "least", "greatest"] ["value", "least", "greatest"] (defScope sBet) := ⟨rfl, rfl, rfl, by decide +kernel, rfl, by decide +kernel, by decide +kernel⟩
def spBet : Sp := fun vs H Q _ => ∃ i lo hi : Int, vs = [.int i, .int lo, .int hi] ∧ lo ≤ i ∧ i ≤ hi ∧ Q (.bl true) H
theorem ok_bet {f fP : Addr} {fd fdP : FuncData} (F : Fun K "is_between" "is_between" sBet f fd) (GP : FnOk P w K mg base CX0 1 fP fdP ["value"] (spPlain K)) (mP : mg "is_plain_integer" = some (.ref fP))
    (kP : PySem.W.keepIn K (.ref fP) = true) (bP : Binds K fdP ["value"] []) : FnOk P w K mg base CX0 2 f fd ["value", "least", "greatest"] spBet := by
  refine F.ok scBet (fun vs H Q E h => ?_) (fun cdv A outer s H vs Q E hr h => ?_)
  · obtain ⟨i, lo, hi, rfl, _⟩ := h
    rfl
  · obtain ⟨i, lo, hi, rfl, h1, h2, q⟩ := h
    refine ⟨_, pss_one (ps_ret (pe_and (pe_call GP hr (by rfl) mP kP bP .nil pass0 (pa_cons (pv 0) pa_nil)) (pe_one (pe_chain op_le op_le (pv 1) (pv 0) (pv 2))))), ?_⟩
    refine ⟨_, rfl, _, _, true, false, rfl, .base (.int i), kI1, kI2, _, rfl, ?_⟩
    refine ⟨_, rfl, _, rfl, _, _, rfl, rfl, _, rfl, ?_⟩
    rw [if_pos (decide_eq_true h1)]
    refine ⟨_, rfl, _, _, rfl, rfl, ?_⟩
    show Q (.bl (decide (i ≤ hi))) H
    rw [decide_eq_true h2]
    exact q

/-- a tuple of Fractions -/
def TFr (C : Addr) (H : Hp) (a : Addr) (ps : List PI) : Prop := ∃ xs, H a = some (.tup xs) ∧ FRs C H xs ps
theorem TFr.same {H H' : Hp} {a : Addr} {ps : List PI} (h : TFr C H a ps) (s : Same H H') : TFr C H' a ps := by
  obtain ⟨xs, e, z⟩ := h
  exact ⟨xs, s _ _ e, z.same s⟩
def ovP (tops : List Int) (b : Int) : List PI := tops.map fun t => (nT t b, nB t b)
end
end FR
set_option Elab.async false
set_option linter.all false
set_option maxRecDepth 100000
set_option maxHeartbeats 4000000
namespace FR
open PySem PySem.Spec PyProof.Rows L2 RF
theorem pi_tupK {X : Cx} {K : PySem.W.Frag} {tg l : Expr} {tl : TE} (hK : X.K = K) (hl : PE X l tl) : L2.PI X tg l (iTup K tl) := by
  subst hK
  exact pi_tup hl
theorem pi_listK {X : Cx} {K : PySem.W.Frag} {tg l : Expr} {tl : TE} (hK : X.K = K) (hl : PE X l tl) : L2.PI X tg l (iList K tl) := by
  subst hK
  exact pi_list hl
theorem ix_tupK {X : Cx} {K : PySem.W.Frag} (hK : X.K = K) : IxR X (rIxT K) := by
  subst hK
  exact ix_tup
theorem call_tuple_ofK {X : Cx} {K : PySem.W.Frag} (hK : X.K = K) : CallR X (.type "tuple") (fun xs H Q => ∃ p ys, xs = [.ref p] ∧ ((SqL K H p ys ∧ ∀ l, H l = none → Q (.ref l) (upd H l (.tup ys))) ∨ (SqT K H p ys ∧ Q (.ref p) H))) := by
  subst hK
  exact call_tuple_of
theorem FV.updl {C : Addr} {H : Hp} {D : Addr} {xs : List V} {o : HO} {v : V} {t b : Int} (h : FV C H v t b) (hD : H D = some (.lst xs)) : FV C (upd H D o) v t b := by
  rcases h with ⟨p, e, z⟩ | z
  · exact .inl ⟨p, e, z.updl hD⟩
  · exact .inr z
theorem FVs.updl {C : Addr} {H : Hp} {D : Addr} {xs : List V} {o : HO} {vs : List V} {ps : List PI} (h : FVs C H vs ps) (hD : H D = some (.lst xs)) : FVs C (upd H D o) vs ps := A2.imp h fun _ _ f => f.updl hD
/-- a tuple of tuples of fractions -/
def TMx (C : Addr) (H : Hp) (a : Addr) (pss : List (List PI)) : Prop := ∃ vs, H a = some (.tup vs) ∧ AG (fun v ps => ∃ q, v = .ref q ∧ Tf C H q ps) vs pss
theorem TMx.same {C : Addr} {H H' : Hp} {a : Addr} {pss : List (List PI)} (h : TMx C H a pss) (s : Same H H') : TMx C H' a pss := by
  obtain ⟨vs, e, z⟩ := h
  exact ⟨vs, s _ _ e, z.imp fun _ _ ⟨q, e, t⟩ => ⟨q, e, t.same s⟩⟩
def turnP (pss : List (List PI)) (n : Nat) : List (List PI) := (List.range n).map fun j => pss.map fun ps => ps.getD j (0, 1)
/-- rows: as many as can be, all of one length -/
structure Rs (pss : List (List PI)) (n : Nat) : Prop where
  ne : 0 < pss.length
  few : pss.length ≤ 80
  n1 : 0 < n
  n12 : n ≤ 12
  len : ∀ ps ∈ pss, ps.length = n
  lf : ∀ ps ∈ pss, AllLf ps
  sz : ∀ ps ∈ pss, Shr ps
/-- small entries -/
def Sm (pss : List (List PI)) : Prop := ∀ ps ∈ pss, ∀ p ∈ ps, p.1.natAbs < 2 ^ 30 ∧ p.2.natAbs < 2 ^ 30
section
variable {P : Program} {w : World} {K : PySem.W.Frag} {mg : Str → Option Value} {base : Heap} {C fI pT gT pB gB : Addr} {fdI fdT fdB : FuncData}
abbrev sTrn : Stmt := top 31
abbrev NTn : List Str := ["rows", "at", "row"]
theorem scTn : FnScope NTn ["rows"] (defScope sTrn) := ⟨rfl, rfl, rfl, by decide +kernel, rfl, by decide +kernel, by decide +kernel⟩
def callA : Expr → Expr
  | .Call _ (a :: _) _ _ => a
  | e => e
abbrev lcTn : Scope := lcSc (callA (retE ((defBody sTrn).getD 0 (.Pass ⟨0, 0, 0, 0⟩))))
def spTrn (C : Addr) : Sp := fun vs H Q _ => ∃ (a : Addr) (pss : List (List PI)) (n : Nat), vs = [.ref a] ∧ TMx C H a pss ∧ Rs pss n ∧ Sm pss ∧ ∀ t H', TMx C H' t (turnP pss n) → Same H H' → Q (.ref t) H'
theorem ok_trn {f : Addr} {fd : FuncData} (F : Fun K "_turned" "_turned" sTrn f fd) (mT : mg "tuple" = none) (mR : mg "range" = none) (mL : mg "len" = none) : FnOk P w K mg base CX0 1 f fd ["rows"] (spTrn C) := by
  refine F.ok scTn (fun vs H Q E h => ?_) (fun cdv A outer s H vs Q E hr h => ?_)
  · obtain ⟨a, pss, n, rfl, _⟩ := h
    rfl
  · obtain ⟨a, pss, n, rfl, ⟨vs, ha, hv⟩, R, Z, q⟩ := h
    refine ⟨_, pss_one (ps_ret (pe_callTy call_tuple_of (by rfl) mT (by decide +kernel) (pa_cons (pe_lc (X := (cxOf CX0 P w K mg base NTn "_turned" (defScope sTrn) f cdv A outer s H E).nox) (own := [("at", 1)]) (g := gName 1) (tt := tYes) rfl scTn.nd
        (pi_range1 (by rfl) mR (pa_cons (pe_callB call_len_seq (by rfl) mL PySem.boot_len (pa_cons (pe_ix ix_tup (pv 0) pe_int (fun _ _ => rfl)) pa_nil)) pa_nil)) (blkOk_by (N := NTn) (sc := defScope sTrn) (by decide +kernel))
        (fun _ _ _ _ _ => pg_name (i := 1) scTn.nd rfl (.inr rfl)) (fun _ _ _ _ _ => pts_nil)
        (fun s0 H0 C0 cl0 fp0 => pe_callTy (call_tuple_ofK (K := K) rfl) (by rfl) mT (by decide +kernel) (pa_cons (pe_lc (X := ((cxOf CX0 P w K mg base NTn "_turned" (defScope sTrn) f cdv A outer s H E).nox).blk s0 H0 lcTn (compEnvC lcTn cl0 C0 ((cxOf CX0 P w K mg base NTn "_turned" (defScope sTrn) f cdv A outer s H E).nox).env) fp0)
          (own := [("row", 2)]) (g := gName 2) (tt := tYes) rfl scTn.nd (pi_tupK (K := K) rfl (pv 0)) (blkOk_by (N := NTn) (sc := relS lcTn (defScope sTrn)) (by decide +kernel))
          (fun _ _ _ _ _ => pg_name (i := 2) scTn.nd rfl (.inl rfl)) (fun _ _ _ _ _ => pts_nil) (fun _ _ _ _ _ => pe_ix (ix_tupK (K := K) rfl) (pv 2) (pv 1) (fun _ _ => rfl))) pa_nil))) pa_nil))), ?_⟩
    match pss, vs, hv, R, ha, Z, q with
    | [], _, _, R, _, _, _ => exact absurd R.ne (by decide)
    | p0 :: pr, [], hv, _, _, _, _ => exact absurd hv.1 (by simp)
    | p0 :: pr, v0 :: vr, hv, R, ha, Z, q =>
    obtain ⟨z0, hz0, q0, rfl, tf0⟩ := hv.2 0 v0 rfl
    cases hz0
    obtain ⟨xs0, hx0, hf0⟩ := tf0.at_
    have l0 : xs0.length = n := by rw [hf0.1]; exact R.len p0 List.mem_cons_self
    have n12 := R.n12
    refine ⟨_, rfl, a, _, 0, _, rfl, rfl, SqT.of ha, atI_nat (j := 0) rfl, ?_⟩
    refine ⟨q0, xs0, rfl, .inr (SqT.of hx0), (xs0.length : Int), rfl, by omega, by omega, fun D hD => ?_⟩
    have nat : (xs0.length : Int).toNat = n := by omega
    rw [nat]
    generalize hpss : p0 :: pr = pss at *
    generalize hvs : V.ref q0 :: vr = vs at *
    refine lc_range (lo := 0) (n := n) (fun i Hc => Same H Hc ∧ ∃ us, Hc D = some (.lst us) ∧ AG (fun v ps => ∃ q, v = .ref q ∧ Tf C Hc q ps) us ((turnP pss n).take i)) ⟨same_new hD, [], upd_same, AG.nil⟩ ?_ ?_
    · rintro i Hc hi ⟨sm, us, hDc, hu⟩
      have e : (0 : Int) + (i : Nat) = (i : Nat) := by omega
      rw [e]
      have ha1 := sm _ _ ha
      refine ⟨rfl, _, rfl, a, rfl, ⟨_, SqT.of ha1⟩, fun D2 hD2 => ?_⟩
      refine lc_tup (xs := vs) (fun j Hx => Same Hc Hx ∧ ∃ ws, Hx D2 = some (.lst ws) ∧ FVs C Hx ws ((pss.map fun ps => ps.getD i (0, 1)).take j)) ⟨same_new hD2, [], upd_same, A2.nil⟩ (fun j Hx _ p => SqT.of (p.1 _ _ ha1)) ?_ ?_
      · rintro j v Hx hvj ⟨s2, ws, hD3, hw⟩
        obtain ⟨ps, hps, q1, rfl, tf⟩ := hv.2 j v hvj
        have mp := List.mem_of_getElem? hps
        obtain ⟨xs, hx, hf⟩ := (tf.same (sm.trans s2)).at_
        have lx : i < xs.length := by rw [hf.1, R.len ps mp]; exact hi
        have gx : xs[i]? = some xs[i] := List.getElem?_eq_getElem lx
        obtain ⟨p, hp, fv⟩ := hf.2 i _ gx
        have jl := (List.getElem?_eq_some_iff.mp hps).1
        have f80 := R.few
        refine ⟨rfl, _, rfl, _, rfl, q1, _, _, _, rfl, rfl, SqT.of hx, atI_nat gx, ws, hD3, small1000 (by rw [hw.1, List.length_take]; omega), same_upd hD2 s2, ws ++ [xs[i]], upd_same, ?_⟩
        rw [take_snoc (x := p) (by rw [List.getElem?_map, hps]; show some (ps.getD i (0, 1)) = _; rw [List.getD_eq_getElem?_getD, hp]; rfl)]
        exact A2.snoc (hw.updl hD3) (fv.updl hD3)
      · rintro Hx ⟨s2, ws, hD3, hw⟩
        rw [List.take_of_length_le (by rw [List.length_map, hv.1]; exact Nat.le_refl _)] at hw
        refine ⟨D2, _, rfl, .inl ⟨SqL.of hD3, fun t ht => ?_⟩⟩
        have s3 : Same Hc (upd Hx t (.tup ws)) := s2.trans (same_new ht)
        have e1 := s3 _ _ hDc
        have tT : upd Hx t (.tup ws) t = some (.tup ws) := upd_same
        have hw3 : FVs C (upd Hx t (.tup ws)) ws (pss.map fun ps => ps.getD i (0, 1)) := hw.same (same_new ht)
        generalize upd Hx t _ = Hy at *
        have f80 := R.few
        refine ⟨us, e1, small1000 (by rw [hu.1, List.length_take]; omega), same_upd hD (sm.trans s3), us ++ [.ref t], upd_same, ?_⟩
        have hDy := e1
        rw [take_snoc (x := pss.map fun ps => ps.getD i (0, 1)) (by unfold turnP; rw [List.getElem?_map, List.getElem?_range hi]; rfl)]
        have up : ∀ q ps, Tf C Hy q ps → Tf C (upd Hy D (.lst (us ++ [.ref t]))) q ps := fun q ps ⟨⟨xs, h1, h2⟩, h3, h4, h5⟩ => ⟨⟨xs, tup_updl h1 hDy, h2.updl hDy⟩, h3, h4, h5⟩
        refine AG.snoc (hu.imp fun _ _ ⟨q, e, tf⟩ => ⟨q, e, up _ _ (tf.same s3)⟩) ⟨t, rfl, up _ _ ⟨⟨ws, tT, hw3⟩, by rw [List.length_map]; exact f80, fun p hp => ?_, Shr.of (fun p hp => ?_) (by rw [List.length_map]; exact f80) fun p hp => ?_⟩⟩
        all_goals
          obtain ⟨ps, hps, rfl⟩ := List.mem_map.mp hp
          have g : ps[i]? = some (ps.getD i (0, 1)) := by
            have : i < ps.length := by rw [R.len ps hps]; exact hi
            rw [List.getD_eq_getElem?_getD, List.getElem?_eq_getElem this]; rfl
        · exact R.lf ps hps _ (List.mem_of_getElem? g)
        · exact R.lf ps hps _ (List.mem_of_getElem? g)
        · exact Z ps hps _ (List.mem_of_getElem? g)
    · rintro Hc ⟨sm, us, hDc, hu⟩
      rw [List.take_of_length_le (by unfold turnP; rw [List.length_map, List.length_range]; exact Nat.le_refl _)] at hu
      refine ⟨D, _, rfl, .inl ⟨SqL.of hDc, fun t ht => ?_⟩⟩
      exact q t _ ⟨us, upd_same, hu.imp fun _ _ ⟨q, e, tf⟩ => ⟨q, e, tf.same (same_new ht)⟩⟩ (sm.trans (same_new ht))
end
end FR
set_option Elab.async false
set_option linter.all false
set_option maxRecDepth 100000
set_option maxHeartbeats 4000000
namespace FR
open PySem PySem.Spec PyProof.Rows L2 RF
def dotI (xs ys : List Int) : Int := (List.zipWith (fun a b => a * b) xs ys).sum
def dotP (ps cs : List PI) : PI := (nT (dotI (topsP ps (lcmP ps)) (topsP cs (lcmP cs))) (lcmP ps * lcmP cs), nB (dotI (topsP ps (lcmP ps)) (topsP cs (lcmP cs))) (lcmP ps * lcmP cs))
def timesP (pss : List (List PI)) (cs : List PI) : List PI := pss.map fun ps => dotP ps cs
theorem topsP_get {ps : List PI} {m : Int} {i : Nat} {x : Int} (h : (topsP ps m)[i]? = some x) : ∃ p, p ∈ ps ∧ x = p.1 * m.fdiv p.2 := by
  unfold topsP at h
  rw [List.getElem?_map] at h
  cases e : ps[i]? with
  | none => rw [e] at h; cases h
  | some p => rw [e] at h; exact ⟨p, List.mem_of_getElem? e, (Option.some.inj h).symm⟩
theorem tops_sz {ps : List PI} (hl : AllLf ps) (few : ps.length ≤ 80) (hs : Shr ps) {i : Nat} {x : Int} (h : (topsP ps (lcmP ps))[i]? = some x) : x.natAbs < 2 ^ 4900 := by
  obtain ⟨p, mp, rfl⟩ := topsP_get h
  have dz := fdiv_le (lcmP_dvd ps p mp) (hl p mp).1
  have mz := hs.1
  exact Nat.lt_of_lt_of_le (wide_lt (hs.2 p mp).1 (Nat.lt_of_le_of_lt dz mz)) (Nat.pow_le_pow_right (by decide) (by decide))
section
variable {P : Program} {w : World} {K : PySem.W.Frag} {mg : Str → Option Value} {base : Heap} {C fI pT gT pB gB : Addr} {fdI fdT fdB : FuncData}
abbrev sTms : Stmt := top 33
abbrev NTm : List Str := ["rows", "column", "column_tops", "column_bottom", "found", "row", "tops", "bottom", "top", "one", "other"]
theorem scTm : FnScope NTm ["rows", "column"] (defScope sTms) := ⟨rfl, rfl, rfl, by decide +kernel, rfl, by decide +kernel, by decide +kernel⟩
def spTms (C : Addr) : Sp := fun vs H Q _ => ∃ (a c : Addr) (pss : List (List PI)) (cs : List PI), vs = [.ref a, .ref c] ∧ TMx C H a pss ∧ Tf C H c cs ∧ pss.length ≤ 80 ∧ (∀ ps ∈ pss, ps.length = cs.length) ∧ ∀ t H', TFr C H' t (timesP pss cs) → Same H H' → Q (.ref t) H'
theorem ok_tms {f : Addr} {fd : FuncData} (F : Fun K "_times" "_times" sTms f fd) (k : FrK P w K mg base C fI pT gT pB gB fdI fdT fdB) (gO : Glo P w K mg base "over_one_bottom" 5 ["fractions"] (spOver C)) (mS : mg "sum" = none) (mT : mg "tuple" = none) (mZ : mg "zip" = none) :
    FnOk P w K mg base CX0 6 f fd ["rows", "column"] (spTms C) := by
  refine F.ok scTm (fun vs H Q E h => ?_) (fun cdv A outer s H vs Q E hr h => ?_)
  · obtain ⟨a, c, pss, cs, rfl, _⟩ := h
    rfl
  · obtain ⟨a, c, pss, cs, rfl, ⟨vs, ha, hv⟩, tc, f80, len, q⟩ := h
    refine ⟨_, pss_cons (ps_asg (pe_call gO.G hr (by rfl) gO.m gO.k gO.b .nil pass0 (pa_cons (pv 1) pa_nil)) (pg_tup (by rfl) (pgs_cons (pg_name (i := 2) scTm.nd rfl (.inl rfl)) (pgs_cons (pg_name (i := 3) scTm.nd rfl (.inl rfl)) pgs_nil))))
      (pss_cons (ps_set (i := 4) scTm.nd rfl (Or.inl rfl) (pe_lst pa_nil))
      (pss_cons (ps_for PassesOwn.never rfl (pi_tup (pv 0)) (pg_name (i := 5) scTm.nd rfl (.inl rfl))
        (pss_cons (ps_asg (pe_call gO.G hr (by rfl) gO.m gO.k gO.b .nil pass0 (pa_cons (pv 5) pa_nil)) (pg_tup (by rfl) (pgs_cons (pg_name (i := 6) scTm.nd rfl (.inl rfl)) (pgs_cons (pg_name (i := 7) scTm.nd rfl (.inl rfl)) pgs_nil))))
        (pss_cons (ps_set (i := 8) scTm.nd rfl (Or.inl rfl) (pe_callB (cr_sum rfl) (by rfl) mS (by decide +kernel) (pa_cons (pe_lc (X := (cxOf CX0 P w K mg base NTm "_times" (defScope sTms) f cdv A outer s H E).nox) (own := [("one", 9), ("other", 10)]) (g := gTup K 2 (gCons (gName 9) (gCons (gName 10) gNil))) (tt := tYes) rfl scTm.nd (pi_zip (by rfl) mZ (pa_cons (pv 6) (pa_cons (pv 2) pa_nil))) (blkOk_by (N := NTm) (sc := defScope sTms) (by decide +kernel))
          (fun _ _ _ _ _ => pg_tupK (K := K) rfl rfl (pgs_cons (pg_name (i := 9) scTm.nd rfl (.inl rfl)) (pgs_cons (pg_name (i := 10) scTm.nd rfl (.inl rfl)) pgs_nil))) (fun _ _ _ _ _ => pts_nil) (fun _ _ _ _ _ => pe_op op_mulW (pv 9) (pv 10))) pa_nil)))
        (pss_one (ps_expr (pe_bm PySem.F.plainAttrs_list PySem.F.slot_list_append PySem.F.type_list_append mt_append (pv 4) (pa_cons (pe_make k.M k.GI (hr.mono (by decide)) (by rfl) k.T.mC k.b2 .nil pass0 (pa_cons (pv 8) (pa_cons (pe_op op_mulW (pv 7) (pv 3)) pa_nil))) pa_nil)))))))
      (pss_one (ps_ret (pe_callTy call_tuple_of (by rfl) mT (by decide +kernel) (pa_cons (pv 4) pa_nil)))))), ?_⟩
    refine ⟨_, rfl, c, cs, rfl, tc, fun ca cb H1 hca hcb s1 => ?_⟩
    refine ⟨cb, _, rfl, SqT.of hcb, rfl, _, _, rfl, _, _, rfl, rfl, ?_⟩
    refine ⟨Nat.zero_le _, fun fo hfo => ?_⟩
    have s2 : Same H (upd H1 fo (.lst [])) := s1.trans (same_new hfo)
    refine ⟨_, rfl, a, rfl, ⟨_, SqT.of (s2 _ _ ha)⟩, ?_⟩
    have cf : ca ≠ fo := ne_of_none hca hfo
    have c0 := lcmP_pos tc.lf
    have cz := tc.sz.1
    refine for_tup (xs := vs) (fun i σ Hc => Same H Hc ∧ Hc ca = some (.lst ((topsP cs (lcmP cs)).map V.int)) ∧ ∃ (us : List V) (x5 x6 x7 x8 : Option V), σ = [some (.ref a), some (.ref c), some (.ref ca), some (.int (lcmP cs)), some (.ref fo), x5, x6, x7, x8, none, none] ∧ Hc fo = some (.lst us) ∧ FRs C Hc us ((timesP pss cs).take i) ∧ H fo = none)
      ⟨s2, same_new hfo _ _ hca, [], _, _, _, _, rfl, upd_same, A2.nil, Same.free s1 hfo⟩ (fun i σ Hc _ p => SqT.of (p.1 _ _ ha)) ?_ ?_
    · rintro i v σ Hc hvi ⟨sm, hc3, us, x5, x6, x7, x8, rfl, hfo3, hu, hn⟩
      obtain ⟨ps, hps, q1, rfl, tf⟩ := hv.2 i v hvi
      have mp := List.mem_of_getElem? hps
      have tf := tf.same sm
      have il := (List.getElem?_eq_some_iff.mp hps).1
      refine ⟨_, rfl, q1, ps, rfl, tf, fun ra rb H2 hra hrb s3 => ?_⟩
      refine ⟨rb, _, rfl, SqT.of hrb, rfl, _, _, rfl, _, _, rfl, rfl, ?_⟩
      refine ⟨_, rfl, _, rfl, ra, ca, _, _, rfl, SqL.of hra, SqL.of (s3 _ _ hc3), fun D2 hD2 => ?_⟩
      have tl : (topsP ps (lcmP ps)).length = ps.length := by unfold topsP; rw [List.length_map]
      have cl : (topsP cs (lcmP cs)).length = cs.length := by unfold topsP; rw [List.length_map]
      refine lz_ints (xs := topsP ps (lcmP ps)) (ys := topsP cs (lcmP cs)) (by rw [tl, cl]; exact len ps mp) (by rw [tl]; have := tf.few; omega) (fun e o => e * o) hD2 hra (s3 _ _ hc3) (fun _ _ => rfl) ?_ ?_
      · intro i2 x y H3 Q2 hx hy s4 q2
        exact ⟨_, rfl, _, rfl, _, _, rfl, rfl, wide_mul (tops_sz tf.lf tf.few tf.sz hx) (tops_sz tc.lf tc.few tc.sz hy) (by decide) (by decide) (by decide), q2⟩
      · intro H3 s4 hD3
        have r0 := lcmP_pos tf.lf
        have rz := tf.sz.1
        refine ⟨D2, _, rfl, SqL.of hD3, ?_⟩
        have s34 := s3.trans s4
        refine ⟨_, rfl, .inl ⟨rfl, _, SqL.of (s34 _ _ hfo3)⟩, _, rfl, _, rfl, _, rfl, _, _, rfl, rfl, wide_mul rz cz (by decide) (by decide) (by decide), fun x dx nx nd ne => ?_⟩
        have m0 : lcmP ps * lcmP cs ≠ 0 := Int.mul_ne_zero (by omega) (by omega)
        have mz : (lcmP ps * lcmP cs).natAbs < 2 ^ 8000 := Nat.lt_of_lt_of_le (wide_lt rz cz) (Nat.pow_le_pow_right (by decide) (by decide))
        refine ⟨x, dx, _, _, rfl, upd_same, m0, dv8 m0 mz, fun H' hf hs => ⟨rfl, ?_⟩⟩
        have s5 := s34.trans (same_make (C := C) nx nd hs)
        have e5 := s5 _ _ hfo3
        refine ⟨fo, us, _, rfl, rfl, e5, small1000 (by rw [hu.1, List.length_take]; omega), ?_⟩
        refine ⟨same_upd hn (sm.trans s5), by rw [upd_ne cf]; exact s5 _ _ hc3, us ++ [.ref x], _, _, _, _, rfl, upd_same, ?_, hn⟩
        rw [take_snoc (x := dotP ps cs) (by unfold timesP; rw [List.getElem?_map, hps]; rfl)]
        exact A2.snoc ((hu.same s5).updl e5) ⟨x, rfl, hf.updl e5⟩
    · rintro σ Hc ⟨sm, hc3, us, x5, x6, x7, x8, rfl, hfo3, hu, hn⟩
      rw [List.take_of_length_le (by unfold timesP; rw [List.length_map, hv.1]; exact Nat.le_refl _)] at hu
      refine ⟨_, rfl, fo, _, rfl, .inl ⟨SqL.of hfo3, fun t ht => ?_⟩⟩
      exact q t _ ⟨us, upd_same, hu.same (same_new ht)⟩ (sm.trans (same_new ht))
end
end FR
set_option Elab.async false
set_option linter.all false
set_option maxRecDepth 100000
set_option maxHeartbeats 4000000
namespace FR
open PySem PySem.Spec PyProof.Rows L2 RF
theorem cr_allK {X : Cx} {K : PySem.W.Frag} (hK : X.K = K) (hc : X.calm = true) : CallR X (.builtin "all") (rAll K) := by
  subst hK
  exact cr_all hc
theorem call_len_seqK {X : Cx} {K : PySem.W.Frag} (hK : X.K = K) : CallR X (.builtin "len") (fun xs H Q => ∃ p ys, xs = [.ref p] ∧ (SqL K H p ys ∨ SqT K H p ys) ∧ Q (.int ys.length) H) := by
  subst hK
  exact call_len_seq
section
variable {P : Program} {w : World} {K : PySem.W.Frag} {mg : Str → Option Value} {base : Heap} {C : Addr}
/-! ### is_rows -/
abbrev sIrs : Stmt := top 22
abbrev NIr : List Str := ["value", "width", "row"]
theorem scIr : FnScope NIr ["value"] (defScope sIrs) := ⟨rfl, rfl, rfl, by decide +kernel, rfl, by decide +kernel, by decide +kernel⟩
structure TxtR (mg : Str → Option Value) : Prop where
  isi : mg "isinstance" = none
  tup : mg "tuple" = none
  len : mg "len" = none
  all : mg "all" = none
  mr : ∃ t, mg "MAX_ROWS" = some (.int 80 t)
  mw : ∃ t, mg "MAX_WIDTH" = some (.int 12 t)
def spIrs (C : Addr) : Sp := fun vs H Q _ => ∃ (a : Addr) (pss : List (List PI)) (n : Nat), vs = [.ref a] ∧ TMx C H a pss ∧ Rs pss n ∧ ∀ H', Same H H' → Q (.bl true) H'
theorem ok_irs {f : Addr} {fd : FuncData} (F : Fun K "is_rows" "is_rows" sIrs f fd) (T : TxtR mg) (gB : Glo P w K mg base "is_between" 2 ["value", "least", "greatest"] spBet) (gF : Glo P w K mg base "is_fractions" 3 ["value"] (spFs C)) : FnOk P w K mg base CX0 4 f fd ["value"] (spIrs C) := by
  refine F.ok scIr (fun vs H Q E h => ?_) (fun cdv A outer s H vs Q E hr h => ?_)
  · obtain ⟨a, pss, n, rfl, _⟩ := h
    rfl
  · obtain ⟨a, pss, n, rfl, ⟨vs, ha, hv⟩, R, q⟩ := h
    obtain ⟨t1, m1⟩ := T.mr
    obtain ⟨t2, m2⟩ := T.mw
    refine ⟨_, (pss_cons (ps_if (PW.pt (pw_or (pt_not (pt_val (pe_callB call_isi (by rfl) T.isi PyProof.Rows.boot_isinstance (pa_cons (pv 0) (pa_cons (pe_bltn (v := .ty "tuple") (by rfl) T.tup (by decide +kernel) rfl) pa_nil))))) (pw_or1 (pt_not (pt_val (pe_call gB.G (hr.mono (by decide)) (by rfl) gB.m gB.k gB.b .nil pass0 (pa_cons (pe_callB call_len_seq (by rfl) T.len PySem.boot_len (pa_cons (pv 0) pa_nil)) (pa_cons pe_int (pa_cons (pe_glob (v := .int 80) (by rfl) m1 ⟨t1, rfl⟩) pa_nil))))))))) (pss_one (ps_ret pe_bl)) pss_nil)
      (pss_cons (ps_if (pt_not (pt_val (pe_callB (cr_all rfl) (by rfl) T.all (by decide +kernel) (pa_cons (pe_lc (X := (cxOf CX0 P w K mg base NIr "is_rows" (defScope sIrs) f cdv A outer s H E).nox) (own := [("row", 2)]) (g := (gName 2)) (tt := tYes) rfl scIr.nd (pi_tup (pv 0)) (blkOk_by (N := NIr) (sc := defScope sIrs) (by decide +kernel)) (fun _ _ _ _ _ => (pg_name (i := 2) scIr.nd rfl (.inl rfl))) (fun _ _ _ _ _ => pts_nil) (fun _ _ _ _ _ => (pe_call gF.G hr (by rfl) gF.m gF.k gF.b .nil pass0 (pa_cons (pv 2) pa_nil)))) pa_nil)))) (pss_one (ps_ret pe_bl)) pss_nil)
      (pss_cons (ps_set (i := 1) scIr.nd rfl (Or.inr rfl) (pe_callB call_len_seq (by rfl) T.len PySem.boot_len (pa_cons (pe_ix ix_tup (pv 0) pe_int (fun _ _ => rfl)) pa_nil)))
      (pss_one (ps_ret (pe_and (pe_call gB.G (hr.mono (by decide)) (by rfl) gB.m gB.k gB.b .nil pass0 (pa_cons (pv 1) (pa_cons pe_int (pa_cons (pe_glob (v := .int 12) (by rfl) m2 ⟨t2, rfl⟩) pa_nil)))) (pe_one (pe_callB (cr_all rfl) (by rfl) T.all (by decide +kernel) (pa_cons (pe_lc (X := (cxOf CX0 P w K mg base NIr "is_rows" (defScope sIrs) f cdv A outer s H E).nox) (own := [("row", 2)]) (g := (gName 2)) (tt := tYes) rfl scIr.nd (pi_tup (pv 0)) (blkOk_by (N := NIr) (sc := defScope sIrs) (by decide +kernel)) (fun _ _ _ _ _ => (pg_name (i := 2) scIr.nd rfl (.inl rfl))) (fun _ _ _ _ _ => pts_nil) (fun _ _ _ _ _ => (pe_cmpR op_eq (pe_callB (call_len_seqK (K := K) rfl) (by rfl) T.len PySem.boot_len (pa_cons (pv 2) pa_nil)) (pv 1) (nomark _)))) pa_nil))))))))), ?_⟩
    have f80 := R.few
    have ne := R.ne
    have lv := hv.1
    refine ⟨_, rfl, _, _, _, _, true, rfl, .ty _, .base (.tup ha), kit_ty (by decide +kernel), _, rfl, iteF ?_⟩
    refine ⟨_, rfl, a, _, rfl, .inr (SqT.of ha), _, 1, 80, rfl, by omega, by omega, _, rfl, iteF ?_⟩
    refine ⟨_, rfl, a, rfl, ⟨_, SqT.of ha⟩, fun D hD => ?_⟩
    refine lc_tup (xs := vs) (fun i Hc => Same H Hc ∧ Hc D = some (.lst ((List.replicate i true).map V.bl))) ⟨same_new hD, upd_same⟩ (fun i Hc _ p => SqT.of (p.1 _ _ ha)) ?_ ?_
    · rintro i v Hc hvi ⟨sm, hDc⟩
      obtain ⟨ps, hps, q1, rfl, tf⟩ := hv.2 i v hvi
      have il := (List.getElem?_eq_some_iff.mp hps).1
      refine ⟨rfl, _, rfl, q1, ps, rfl, tf.same sm, fun H2 s2 => ?_⟩
      refine ⟨_, s2 _ _ hDc, small1000 (by rw [List.length_map, List.length_replicate]; omega), same_upd hD (sm.trans s2), ?_⟩
      rw [List.replicate_succ', List.map_append]
      exact upd_same
    rintro H1 ⟨s1, hD1⟩
    refine ⟨D, _, rfl, SqL.of hD1, ?_⟩
    have al : ∀ n : Nat, (List.replicate n true).all id = true := fun n => by simp
    rw [al]
    refine ⟨_, rfl, iteF ?_⟩
    have ha1 := s1 _ _ ha
    match pss, vs, hv, R, ha, ha1, q with
    | [], _, _, R, _, _, _ => exact absurd R.ne (by decide)
    | p0 :: pr, [], hv, _, _, _, _ => exact absurd hv.1 (by simp)
    | p0 :: pr, v0 :: vr, hv, R, ha, ha1, q =>
    obtain ⟨z0, hz0, q0, rfl, tf0⟩ := hv.2 0 v0 rfl
    cases hz0
    obtain ⟨xs0, hx0, hf0⟩ := tf0.at_
    have l0 : xs0.length = n := by rw [hf0.1]; exact R.len p0 List.mem_cons_self
    have n12 := R.n12
    have n1 := R.n1
    have f80 := R.few
    refine ⟨_, rfl, a, _, 0, _, rfl, rfl, SqT.of ha1, atI_nat (j := 0) rfl, ?_⟩
    refine ⟨q0, xs0, rfl, .inr (SqT.of (s1 _ _ hx0)), ?_⟩
    generalize hpss : p0 :: pr = pss at *
    generalize hvs : V.ref q0 :: vr = vs at *
    refine ⟨_, rfl, _, 1, 12, rfl, by omega, by omega, _, rfl, ?_⟩
    refine ⟨_, rfl, a, rfl, ⟨_, SqT.of ha1⟩, fun D2 hD2 => ?_⟩
    refine lc_tup (xs := vs) (fun i Hc => Same H1 Hc ∧ Hc D2 = some (.lst ((List.replicate i true).map V.bl))) ⟨same_new hD2, upd_same⟩ (fun i Hc _ p => SqT.of (p.1 _ _ ha1)) ?_ ?_
    · rintro i v Hc hvi ⟨sm, hDc⟩
      obtain ⟨ps, hps, q1, rfl, tf⟩ := hv.2 i v hvi
      have il := (List.getElem?_eq_some_iff.mp hps).1
      obtain ⟨xs, hx, hf⟩ := (tf.same (s1.trans sm)).at_
      have e : xs.length = xs0.length := by rw [hf.1, R.len ps (List.mem_of_getElem? hps), l0]
      refine ⟨rfl, _, rfl, q1, xs, rfl, .inr (SqT.of hx), _, rfl, rfl, ?_⟩
      rw [e, decide_eq_true rfl]
      refine ⟨_, hDc, small1000 (by rw [List.length_map, List.length_replicate]; omega), same_upd hD2 sm, ?_⟩
      rw [List.replicate_succ', List.map_append]
      exact upd_same
    · rintro H2 ⟨s2, hD3⟩
      refine ⟨D2, _, rfl, SqL.of hD3, ?_⟩
      rw [al]
      exact q H2 (s1.trans s2)
end
end FR
set_option linter.all false
namespace RF
theorem pigeon : ∀ (n k : Nat) (P : Nat → Nat), (∀ i, i < k → P i < n) → (∀ i j, i < k → j < k → P i = P j → i = j) → k ≤ n
  | 0, k, P, h, _ => by
    by_cases z : k = 0
    · omega
    · have := h 0 (by omega); omega
  | n + 1, k, P, h, inj => by
    by_cases z : ∃ i, i < k ∧ P i = n
    · obtain ⟨i, hi, e⟩ := z
      have := pigeon n (k - 1) (fun j => if j = i then P (k - 1) else P j) (fun j hj => by
        show (if j = i then P (k - 1) else P j) < n
        split
        · next y =>
          have a := h (k - 1) (by omega)
          have b : P (k - 1) ≠ n := fun w => by have := inj (k - 1) i (by omega) hi (by rw [w, e]); omega
          omega
        · next y =>
          have a := h j (by omega)
          have b : P j ≠ n := fun w => y (inj j i (by omega) hi (by rw [w, e]))
          omega) (fun a b ha hb w => by
        have w : (if a = i then P (k - 1) else P a) = (if b = i then P (k - 1) else P b) := w
        by_cases ya : a = i
        · by_cases yb : b = i
          · omega
          · rw [if_pos ya, if_neg yb] at w
            have := inj _ _ (by omega) (by omega) w
            omega
        · by_cases yb : b = i
          · rw [if_neg ya, if_pos yb] at w
            have := inj _ _ (by omega) (by omega) w
            omega
          · rw [if_neg ya, if_neg yb] at w
            exact inj _ _ (by omega) (by omega) w)
      omega
    · have := pigeon n k P (fun i hi => by
        have a := h i hi
        have b : P i ≠ n := fun w => z ⟨i, hi, w⟩
        omega) inj
      omega
theorem Form.le {n k : Nat} {R : Nat → Vec} {P : Nat → Nat} {L : List Vec} (F : Form n k R P L) : k ≤ n := pigeon n k P F.pn fun _ _ hi hj e => F.inj hi hj e
theorem EI.room {n : Nat} {rows : List (List Int)} {places : List Nat} {d : Int} {L : List Vec} (I : EI n rows places d L) {line : List Int} (hn : line.length = n) {q : Nat} (hq : q < n)
    (h0 : ∀ j, j < q → ent (restL d (rows.zip places) line) j = 0) (h1 : ent (restL d (rows.zip places) line) q ≠ 0) : rows.length + 1 ≤ n := by
  have d0 : (d : Rat) ≠ 0 := fun z => I.d0 (Rat.intCast_inj.mp z)
  have rq0 : ∀ j, RF.rest rows.length (fun i j => (ent (rows.getD i []) j : Rat) / d) (fun i => places.getD i 0) (vec line) j = (ent (restL d (rows.zip places) line) j : Rat) / d := fun j => by rw [I.rest hn (line := line) j]; grind
  exact (I.fm.take (x := vec line) (q := q) hq (fun j hj => by rw [rq0, h0 j hj]; grind) (by
    rw [rq0]
    intro z
    have : (ent (restL d (rows.zip places) line) q : Rat) = 0 := by grind
    exact h1 (Rat.intCast_inj.mp this))).le
/-! ### sizes -/
theorem add_lt {a b : Int} {x y : Nat} (ha : a.natAbs < x) (hb : b.natAbs < y) : (a - b).natAbs < x + y := by omega
theorem mul_lt {a b : Int} {s t : Nat} (ha : a.natAbs < 2 ^ s) (hb : b.natAbs < 2 ^ t) : (a * b).natAbs < 2 ^ (s + t) := by
  rw [Int.natAbs_mul, Nat.pow_add]
  exact Nat.mul_lt_mul'' ha hb
theorem rest_sz {n : Nat} {rows : List (List Int)} {places : List Nat} {d : Int} {line : List Int} {m t : Nat} (hn : line.length = n) (hl : rows.length = places.length) (few : rows.length ≤ 4) (hr : ∀ r, r ∈ rows → r.length = n) (hs : ∀ r, r ∈ rows → ∀ j, (ent r j).natAbs < 2 ^ m) (hd : d.natAbs < 2 ^ m)
    (ht : ∀ j, (ent line j).natAbs < 2 ^ t) (j : Nat) : (ent (restL d (rows.zip places) line) j).natAbs < 2 ^ (m + t + 3) := by
  have go : ∀ (k : Nat), k ≤ rows.length → (((rows.zip places).take k).foldl (restStep line) (line.map (d * ·))).length = n ∧ (ent (((rows.zip places).take k).foldl (restStep line) (line.map (d * ·))) j).natAbs < 2 ^ (m + t) * (k + 1) := by
    intro k
    induction k with
    | zero =>
      intro _
      refine ⟨by rw [List.take_zero]; show (line.map _).length = n; rw [List.length_map, hn], ?_⟩
      rw [List.take_zero]
      show (ent (line.map (d * ·)) j).natAbs < _
      rw [ent_map (by simp), Nat.zero_add, Nat.mul_one]
      exact mul_lt hd (ht j)
    | succ k ih =>
      intro hk
      obtain ⟨i1, i2⟩ := ih (by omega)
      have g1 : rows[k]? = some rows[k] := List.getElem?_eq_getElem (by omega)
      have g2 : places[k]? = some places[k] := List.getElem?_eq_getElem (by omega)
      have e : (rows.zip places)[k]? = some (rows[k], places[k]) := by rw [List.getElem?_zip_eq_some]; exact ⟨g1, g2⟩
      have mk : rows[k] ∈ rows := List.getElem_mem _
      have rk := hr rows[k] mk
      have e2 : (rows.zip places).take (k + 1) = (rows.zip places).take k ++ [(rows[k], places[k])] := by rw [List.take_succ, e]; rfl
      rw [e2, List.foldl_append]
      show (restStep line (((rows.zip places).take k).foldl (restStep line) (line.map (d * ·))) (rows[k], places[k])).length = n ∧ (ent (restStep line (((rows.zip places).take k).foldl (restStep line) (line.map (d * ·))) (rows[k], places[k])) j).natAbs < _
      rw [restStep_len (by rw [i1, rk]), restStep_ent (by rw [i1, rk])]
      refine ⟨i1, ?_⟩
      have b := mul_lt (ht places[k]) (hs rows[k] mk j)
      rw [Nat.add_comm t m] at b
      have := add_lt i2 b
      show (_ - ent line places[k] * ent rows[k] j).natAbs < _
      have e3 : 2 ^ (m + t) * (k + 1) + 2 ^ (m + t) = 2 ^ (m + t) * (k + 1 + 1) := by rw [Nat.mul_succ (2 ^ (m + t)) (k + 1)]
      omega
  have z := (go rows.length (Nat.le_refl _)).2
  rw [List.take_of_length_le (by rw [List.length_zip]; omega)] at z
  refine Nat.lt_of_lt_of_le z ?_
  rw [Nat.pow_add 2 (m + t) 3]
  exact Nat.mul_le_mul_left _ (by omega)
theorem cleared_sz {rows : List (List Int)} {r : List Int} {q : Nat} {d : Int} {n m t : Nat} (hr : ∀ x, x ∈ rows → x.length = n) (hn : r.length = n) (hs : ∀ x, x ∈ rows → ∀ j, (ent x j).natAbs < 2 ^ m) (ht : ∀ j, (ent r j).natAbs < 2 ^ t) :
    ∀ x, x ∈ clearedBy rows r q d ++ [r] → x.length = n ∧ ∀ j, (ent x j).natAbs < 2 ^ (m + t + 1) := by
  intro x hx
  rcases List.mem_append.mp hx with z | z
  · obtain ⟨row, hrow, rfl⟩ := List.mem_map.mp z
    refine ⟨by rw [List.length_zipWith, hr row hrow, hn]; omega, fun j => ?_⟩
    rw [ent_zip (by simp) (by rw [hr row hrow, hn])]
    refine Nat.lt_of_le_of_lt (Int.natAbs_fdiv_le_natAbs _ _) ?_
    have := add_lt (mul_lt (hs row hrow j) (ht q)) (mul_lt (hs row hrow q) (ht j))
    have e : 2 ^ (m + t) + 2 ^ (m + t) = 2 ^ (m + t + 1) := by rw [Nat.pow_succ]; omega
    omega
  · rw [List.mem_singleton.mp z]
    exact ⟨hn, fun j => Nat.lt_of_lt_of_le (ht j) (Nat.pow_le_pow_right (by decide) (by omega))⟩
def szk (t : Nat) : Nat → Nat
  | 0 => 1
  | k + 1 => 2 * szk t k + t + 15
theorem szk_le {t : Nat} (ht : t ≤ 420) : ∀ {k : Nat}, k ≤ 4 → szk t k ≤ 7000
  | 0, _ => by simp only [szk]; omega
  | 1, _ => by simp only [szk]; omega
  | 2, _ => by simp only [szk]; omega
  | 3, _ => by simp only [szk]; omega
  | 4, _ => by simp only [szk]; omega
  | k + 5, h => by omega
theorem szk_pos (t k : Nat) : 0 < szk t k := by cases k <;> simp only [szk] <;> omega
end RF
set_option Elab.async false
set_option linter.all false
set_option maxRecDepth 100000
set_option maxHeartbeats 4000000
namespace FR
open PySem PySem.Spec PyProof.Rows L2 RF
section
variable {P : Program} {w : World} {K : PySem.W.Frag} {mg : Str → Option Value} {base : Heap} {C fI pT gT pB gB : Addr} {fdI fdT fdB : FuncData}
abbrev sCrs : Stmt := top 27
theorem scCrs : FnScope ["rows"] ["rows"] (defScope sCrs) := ⟨rfl, rfl, rfl, by decide +kernel, rfl, by decide +kernel, by decide +kernel⟩
def spCrs (C : Addr) : Sp := fun vs H Q _ => ∃ (a : Addr) (pss : List (List PI)) (n : Nat), vs = [.ref a] ∧ TMx C H a pss ∧ Rs pss n ∧ ∀ H', Same H H' → Q .non H'
theorem ok_crs {f : Addr} {fd : FuncData} (F : Fun K "_check_rows" "_check_rows" sCrs f fd) (gR : Glo P w K mg base "is_rows" 4 ["value"] (spIrs C)) : FnOk P w K mg base CX0 5 f fd ["rows"] (spCrs C) := by
  refine F.ok scCrs (fun vs H Q E h => ?_) (fun cdv A outer s H vs Q E hr h => ?_)
  · obtain ⟨a, pss, n, rfl, _⟩ := h
    rfl
  · obtain ⟨a, pss, n, rfl, tm, R, q⟩ := h
    refine ⟨_, (pss_one (ps_if (pt_not (pt_val (pe_call gR.G hr (by rfl) gR.m gR.k gR.b .nil pass0 (pa_cons (pv 0) pa_nil)))) pss_never pss_nil)), ?_⟩
    exact ⟨_, rfl, a, pss, n, rfl, tm, R, fun H' s' => ⟨_, rfl, iteF (q H' s')⟩⟩
abbrev sCfs : Stmt := top 28
theorem scCfs : FnScope ["value", "many"] ["value", "many"] (defScope sCfs) := ⟨rfl, rfl, rfl, by decide +kernel, rfl, by decide +kernel, by decide +kernel⟩
def spCfs (C : Addr) : Sp := fun vs H Q _ => ∃ (a : Addr) (ps : List PI), vs = [.ref a, .int (ps.length : Nat)] ∧ Tf C H a ps ∧ ∀ H', Same H H' → Q .non H'
theorem ok_cfs {f : Addr} {fd : FuncData} (F : Fun K "_check_fractions" "_check_fractions" sCfs f fd) (gF : Glo P w K mg base "is_fractions" 3 ["value"] (spFs C)) (mL : mg "len" = none) : FnOk P w K mg base CX0 4 f fd ["value", "many"] (spCfs C) := by
  refine F.ok scCfs (fun vs H Q E h => ?_) (fun cdv A outer s H vs Q E hr h => ?_)
  · obtain ⟨a, ps, rfl, _⟩ := h
    rfl
  · obtain ⟨a, ps, rfl, tf, q⟩ := h
    refine ⟨_, (pss_one (ps_if (PW.pt (pw_or (pt_not (pt_val (pe_call gF.G hr (by rfl) gF.m gF.k gF.b .nil pass0 (pa_cons (pv 0) pa_nil)))) (pw_or1 (pt_cmpR op_ne (pe_callB call_len_seq (by rfl) mL PySem.boot_len (pa_cons (pv 0) pa_nil)) (pv 1) (nomark _))))) pss_never pss_nil)), ?_⟩
    refine ⟨_, rfl, a, ps, rfl, tf, fun H' s' => ⟨_, rfl, iteF ?_⟩⟩
    obtain ⟨⟨xs, hx, hf⟩, _, _, _⟩ := tf.same s'
    refine ⟨_, rfl, a, xs, rfl, .inr (SqT.of hx), _, rfl, rfl, _, rfl, ?_⟩
    rw [hf.1, decide_eq_true rfl]
    exact iteF (q H' s')
end
end FR
set_option Elab.async false
set_option linter.all false
set_option maxRecDepth 100000
set_option maxHeartbeats 4000000
namespace FR
open PySem PySem.Spec PyProof.Rows L2 RF
section
variable {P : Program} {w : World} {K : PySem.W.Frag} {mg : Str → Option Value} {base : Heap}
def lineP (ps : List PI) : List Int := topsP ps (lcmP ps)
/-- the class Echelon, for calls -/
structure EcK (P : Program) (w : World) (K : PySem.W.Frag) (mg : Str → Option Value) (base : Heap) (D fI' : Addr) (fdI' : FuncData) : Prop where
  T : TxtE K mg D
  M : Mk K D fI'
  G : FnOk P w K mg base CX0 1 fI' fdI' ["self", "width"] (spEi D)
  b : Binds K fdI' ["self", "width"] []
  m : mg "Echelon" = some (.ref D)
def outP (rows : List (List Int)) (places : List Nat) (d : Int) (ys : List Nat) : List (List PI) := ys.map fun y => ovP (rows.getD (places.idxOf y) []) d
end
end FR
set_option Elab.async false
set_option linter.all false
set_option maxRecDepth 100000
namespace LD
open PySem PySem.Spec PyProof.Rows L2
/-! ### The text by places -/
def top (i : Nat) : Stmt := PySem.Challenge.pw_surelyends_k05_solutions_or_none.main.body.getD i (.Pass ⟨0, 0, 0, 0⟩)
abbrev sDice : Stmt := top 35
abbrev sRoll : Stmt := top 36
abbrev sOneOf : Stmt := top 37
/-! ### The dice -/
abbrev dxs (a b c : Int) : List V := [V.int a, V.int b, V.int c]
/-- the dice stand at d -/
def DiceAt (H : Hp) (d : Addr) : Prop := ∃ a b c : Int, H d = some (.lst (dxs a b c))
/-- nothing but the dice has changed -/
structure Rolled (H H' : Hp) (d : Addr) : Prop where
  ho : ∃ a b c : Int, H' = upd H d (.lst (dxs a b c))
def spRoll : Sp := fun vs H Q _ => ∃ (d : Addr) (n : Int), vs = [.ref d, .int n] ∧ DiceAt H d ∧ 0 < n ∧ n < 1073741824 ∧
  ∀ (r a b c : Int), 0 ≤ r → r < n → Q (.int r) (upd H d (.lst (dxs a b c)))
section
variable {P : Program} {w : World} {K : PySem.W.Frag} {mg : Str → Option Value} {base : Heap}
theorem scR : FnScope ["_law_dice_here", "_law_total", "_law_found", "_law_one", "_law_two"] ["_law_dice_here", "_law_total"] (defScope sRoll) :=
  ⟨rfl, rfl, rfl, by decide +kernel, rfl, by decide +kernel, by decide +kernel⟩
theorem nz1 : (2305843009213693951 : Int) ≠ 0 := by decide
theorem nz2 : (2305843009213693921 : Int) ≠ 0 := by decide
theorem nz3 : (2305843009213693907 : Int) ≠ 0 := by decide
theorem at0 {a b c : Int} : atI (dxs a b c) (0 : Int) = some (V.int a) := rfl
theorem at1 {a b c : Int} : atI (dxs a b c) (1 : Int) = some (V.int b) := rfl
theorem at2 {a b c : Int} : atI (dxs a b c) (2 : Int) = some (V.int c) := rfl
theorem ok_roll {f : Addr} {fd : FuncData} (F : Fun K "_law_roll" "_law_roll" sRoll f fd) (mI : mg "int" = none) : FnOk P w K mg base CX0 1 f fd ["_law_dice_here", "_law_total"] spRoll := by
  refine F.ok scR (fun vs H Q E h => ?_) (fun cdv A outer s H vs Q E hr h => ?_)
  · obtain ⟨d, n, rfl, _⟩ := h
    rfl
  · obtain ⟨d, n, rfl, ⟨a, b, c, hd⟩, h0, h1, k⟩ := h
    have hu := hu_of hr
    refine ⟨_, pss_cons (ps_if (pt_cmpR op_gt (pe_ix ix_list (pv 0) pe_int (fun _ _ => rfl)) pe_int (nomark _))
        (pss_cons (ps_set (i := 2) scR.nd rfl (Or.inl rfl) (pe_op op_modN (pe_callTy call_int1 (by rfl) mI (by decide +kernel) (pa_cons (pe_ix ix_list (pv 0) pe_int (fun _ _ => rfl)) pa_nil)) (pv 1)))
        (pss_cons (ps_asg (pe_op op_fdivN (pe_ix ix_list (pv 0) pe_int (fun _ _ => rfl)) (pv 1)) (pg_sub (pv 0) pe_int set_list))
        (pss_one (ps_ret (pv 2))))) pss_nil)
      (pss_cons (ps_asg (pe_op op_add (pe_ix ix_list (pv 0) pe_int (fun _ _ => rfl)) pe_int) (pg_sub (pv 0) pe_int set_list))
      (pss_cons (ps_set (i := 3) scR.nd rfl (Or.inl rfl) (pe_op op_modN (pe_callTy call_int1 (by rfl) mI (by decide +kernel) (pa_cons (pe_op op_add (pe_ix ix_list (pv 0) pe_int (fun _ _ => rfl)) (pe_op op_mul pe_int (pe_ix ix_list (pv 0) pe_int (fun _ _ => rfl)))) pa_nil)) pe_int))
      (pss_cons (ps_set (i := 4) scR.nd rfl (Or.inl rfl) (pe_op op_add (pe_op op_mul (pe_op op_modN (pe_callTy call_int1 (by rfl) mI (by decide +kernel) (pa_cons (pe_op op_mul (pv 3) (pv 3)) pa_nil)) pe_int) (pv 3)) (pe_op op_mul pe_int (pe_ix ix_list (pv 0) pe_int (fun _ _ => rfl)))))
      (pss_cons (ps_set (i := 4) scR.nd rfl (Or.inl rfl) (pe_op op_modN (pe_callTy call_int1 (by rfl) mI (by decide +kernel) (pa_cons (pv 4) pa_nil)) pe_int))
      (pss_one (ps_ret (pe_op op_modN (pe_callTy call_int1 (by rfl) mI (by decide +kernel) (pa_cons (pe_op op_fdivN (pv 4) pe_int) pa_nil)) (pv 1)))))))), ?_⟩
    refine ⟨_, rfl, d, _, _, _, rfl, rfl, SqL.of hd, at0, _, _, rfl, rfl, _, rfl, ?_⟩
    have hm : ∀ x : Int, 0 ≤ x.fmod n ∧ x.fmod n < n := fun x => by
      rw [Int.fmod_eq_emod_of_nonneg x (by omega)]
      exact ⟨Int.emod_nonneg x (by omega), Int.emod_lt_of_pos x h0⟩
    refine ite2 (fun ha => ?_) (fun ha => ?_)
    · refine ⟨_, rfl, d, _, _, _, rfl, rfl, SqL.of hd, at0, .inl ⟨_, rfl, ?_⟩⟩
      refine ⟨_, rfl, _, _, rfl, rfl, by omega, ?_⟩
      refine ⟨_, rfl, d, _, _, _, rfl, rfl, SqL.of hd, at0, _, rfl, _, _, rfl, rfl, ⟨by omega, by omega⟩, ?_⟩
      refine ⟨_, rfl, d, _, _, 0, rfl, rfl, hd, rfl, ?_⟩
      refine ⟨_, rfl, ?_⟩
      exact k _ _ _ _ (hm _).1 (hm _).2
    · refine ⟨_, rfl, d, _, _, _, rfl, rfl, SqL.of hd, at2, _, _, rfl, rfl, ?_⟩
      refine ⟨_, rfl, d, _, _, 2, rfl, rfl, hd, rfl, ?_⟩
      have hd2 : upd H d (.lst (dxs a b (c + 1))) d = some (.lst (dxs a b (c + 1))) := upd_same
      refine ⟨_, rfl, d, _, _, _, rfl, rfl, SqL.of hd2, at1, ?_⟩
      refine ⟨_, rfl, d, _, _, _, rfl, rfl, SqL.of hd2, at2, ?_⟩
      refine ⟨_, _, rfl, rfl, .inl ⟨by decide, by decide⟩, ?_⟩
      refine ⟨_, _, rfl, rfl, .inl ⟨_, rfl, ?_⟩⟩
      refine ⟨_, _, rfl, rfl, nz1, ?_⟩
      generalize hone : Int.fmod (b + 1000193 * (c + 1)) 2305843009213693951 = one
      have ho : 0 ≤ one ∧ one < 2305843009213693951 := by
        rw [← hone, Int.fmod_eq_emod_of_nonneg _ (by decide)]
        exact ⟨Int.emod_nonneg _ (by decide), Int.emod_lt_of_pos _ (by decide)⟩
      refine ⟨_, rfl, _, rfl, _, _, rfl, rfl, .inl ⟨by omega, by omega⟩, .inl ⟨_, rfl, ?_⟩⟩
      refine ⟨_, _, rfl, rfl, nz2, ?_⟩
      generalize htwo : Int.fmod (one * one) 2305843009213693921 = two
      refine ⟨_, rfl, _, _, rfl, rfl, .inr ⟨by omega, by omega⟩, ?_⟩
      refine ⟨_, rfl, d, _, _, _, rfl, rfl, SqL.of hd2, at2, ?_⟩
      refine ⟨_, _, rfl, rfl, .inl ⟨by decide, by decide⟩, ?_⟩
      refine ⟨_, _, rfl, rfl, ?_⟩
      generalize two * one + 8221 * (c + 1) = three
      refine ⟨_, rfl, .inl ⟨_, rfl, ?_⟩⟩
      refine ⟨_, _, rfl, rfl, nz3, ?_⟩
      refine ⟨_, rfl, _, _, rfl, rfl, ⟨by decide, by decide⟩, .inl ⟨_, rfl, ?_⟩⟩
      refine ⟨_, rfl, _, _, rfl, rfl, by omega, ?_⟩
      exact k _ _ _ _ (hm _).1 (hm _).2

/-! ### powers of any size within the line -/
def CPowW (i j : Int) : Prop := 0 ≤ j ∧ (Builtin.Int.intBits i : Int) * j ≤ 2 ^ 27
theorem op_powW {X : Cx} : OpR X (binaryOp .Pow) (rI CPowW fun i j => .int (i ^ j.toNat)) := opI fun _ _ _ _ _ _ _ hc q => pow_int hc.1 hc.2 q
theorem pow60 : CPowW 10 60 := ⟨by decide, by decide +kernel⟩
theorem pow600 : CPowW ((10 : Int) ^ (60 : Int).toNat) 10 := ⟨by decide, by decide +kernel⟩
theorem pow18 : CPowW 10 18 := ⟨by decide, by decide +kernel⟩
def big600 : Int := ((10 : Int) ^ (60 : Int).toNat) ^ (10 : Int).toNat
theorem big600_nz : ((10 : Int) ^ (60 : Int).toNat) ^ (10 : Int).toNat ≠ 0 := by decide +kernel
theorem nz4 : (2147483549 : Int) ≠ 0 := by decide
theorem nz5 : (2147483543 : Int) ≠ 0 := by decide
def spDice (K : PySem.W.Frag) : Sp := fun vs H Q _ => ∃ (a : Addr) (ns : List Int) (i : Nat) (j : Int), vs = [.ref a, .int j] ∧ j = (i : Int) ∧ SqL K H a (ns.map V.int) ∧
  ∀ (p : Addr) (x y z : Int), H p = none → Q (.ref p) (upd H p (.lst (dxs x y z)))
structure TxtD (mg : Str → Option Value) : Prop where
  mI : mg "int" = none
  mL : mg "len" = none
  mA : mg "abs" = none
  mM : mg "max" = none
theorem scD : FnScope ["_law_script", "_law_at", "_law_cell", "_law_great", "_law_mixed"] ["_law_script", "_law_at"] (defScope sDice) :=
  ⟨rfl, rfl, rfl, by decide +kernel, rfl, by decide +kernel, by decide +kernel⟩
theorem ok_dice {f : Addr} {fd : FuncData} (F : Fun K "_law_dice" "_law_dice" sDice f fd) (T : TxtD mg) : FnOk P w K mg base CX0 1 f fd ["_law_script", "_law_at"] (spDice K) := by
  refine F.ok scD (fun vs H Q E h => ?_) (fun cdv A outer s H vs Q E hr h => ?_)
  · obtain ⟨a, ns, i, j, rfl, _⟩ := h
    rfl
  · obtain ⟨a, ns, i, j, rfl, rfl, hs, k⟩ := h
    have hu := hu_of hr
    refine ⟨_, pss_cons (ps_set (i := 2) scD.nd rfl (Or.inl rfl) (pe_op op_add (pe_op op_mul pe_int (pv 1)) pe_int))
      (pss_cons (ps_if (pt_cmpR op_lt (pv 1) (pe_callB call_len_seq (by rfl) T.mL PySem.boot_len (pa_cons (pv 0) pa_nil)) (nomark _))
        (pss_one (ps_set (i := 2) scD.nd rfl (Or.inl rfl) (pe_ix ix_list (pv 0) (pv 1) (fun _ _ => rfl)))) pss_nil)
      (pss_cons (ps_set (i := 3) scD.nd rfl (Or.inl rfl) (pe_op op_modN (pe_callTy call_int1 (by rfl) T.mI (by decide +kernel) (pa_cons (pe_callB call_abs (by rfl) T.mA (by decide +kernel) (pa_cons (pv 2) pa_nil)) pa_nil))
          (pe_op op_powW (pe_op op_powW pe_int pe_int) pe_int)))
      (pss_cons (ps_set (i := 4) scD.nd rfl (Or.inl rfl) (pe_op op_add (pe_op op_add (pe_op op_add
          (pe_op op_mul (pe_op op_modN (pe_callTy call_int1 (by rfl) T.mI (by decide +kernel) (pa_cons (pv 3) pa_nil)) pe_int) pe_int)
          (pe_op op_mul pe_int (pv 1)))
          (pe_op op_mul pe_int (pe_callTy call_int1 (by rfl) T.mI (by decide +kernel) (pa_cons (pe_cmpR op_lt (pv 2) pe_int (nomark _)) pa_nil)))) pe_int))
      (pss_one (ps_ret (pe_lst (pa_cons (pe_callB (call_max2 rfl) (by rfl) T.mM (by decide +kernel) (pa_cons pe_int (pa_cons (pe_op op_sub (pv 3) (pe_op op_powW pe_int pe_int)) pa_nil)))
          (pa_cons (pe_op op_modN (pe_callTy call_int1 (by rfl) T.mI (by decide +kernel) (pa_cons (pv 4) pa_nil)) pe_int) (pa_cons pe_int pa_nil))))))))), ?_⟩
    refine ⟨_, rfl, _, _, rfl, rfl, .inl ⟨by decide, by decide⟩, _, _, rfl, rfl, ?_⟩
    refine ⟨_, rfl, _, rfl, a, _, rfl, .inl hs, _, _, rfl, rfl, _, rfl, ?_⟩
    refine ite2 (fun ha => ?_) (fun ha => ?_)
    · have hlt : i < (ns.map V.int).length := by
        have z := of_decide_eq_true ha
        omega
      refine ⟨_, rfl, _, rfl, a, _, _, V.int ((ns.getD i 0)), rfl, rfl, hs, atI_nat (by
        rw [List.length_map] at hlt
        simp [hlt]), ?_⟩
      refine ⟨_, rfl, _, rfl, .inl ⟨_, rfl, ?_⟩⟩
      refine ⟨_, _, rfl, rfl, pow60, _, _, rfl, rfl, pow600, _, _, rfl, rfl, big600_nz, ?_⟩
      refine ⟨_, rfl, .inl ⟨_, rfl, ?_⟩⟩
      refine ⟨_, _, rfl, rfl, nz4, _, _, rfl, rfl, .inr ⟨by decide, by decide⟩, ?_⟩
      refine ⟨_, rfl, _, _, rfl, rfl, .inl ⟨by decide, by decide⟩, _, _, rfl, rfl, ?_⟩
      refine ⟨_, rfl, _, _, rfl, rfl, .inr ⟨_, rfl, ?_⟩⟩
      refine ⟨_, _, rfl, rfl, .inl ⟨by decide, by decide⟩, _, _, rfl, rfl, _, _, rfl, rfl, ?_⟩
      refine ⟨_, rfl, _, _, rfl, rfl, pow18, _, _, rfl, rfl, _, _, rfl, ?_⟩
      refine ⟨_, rfl, .inl ⟨_, rfl, ?_⟩⟩
      refine ⟨_, _, rfl, rfl, nz5, ?_⟩
      refine ⟨by show 3 ≤ sizeLine; decide, fun p hp => ?_⟩
      exact k _ _ _ _ hp
    · refine ⟨_, rfl, _, rfl, .inl ⟨_, rfl, ?_⟩⟩
      refine ⟨_, _, rfl, rfl, pow60, _, _, rfl, rfl, pow600, _, _, rfl, rfl, big600_nz, ?_⟩
      refine ⟨_, rfl, .inl ⟨_, rfl, ?_⟩⟩
      refine ⟨_, _, rfl, rfl, nz4, _, _, rfl, rfl, .inr ⟨by decide, by decide⟩, ?_⟩
      refine ⟨_, rfl, _, _, rfl, rfl, .inl ⟨by decide, by decide⟩, _, _, rfl, rfl, ?_⟩
      refine ⟨_, rfl, _, _, rfl, rfl, .inr ⟨_, rfl, ?_⟩⟩
      refine ⟨_, _, rfl, rfl, .inl ⟨by decide, by decide⟩, _, _, rfl, rfl, _, _, rfl, rfl, ?_⟩
      refine ⟨_, rfl, _, _, rfl, rfl, pow18, _, _, rfl, rfl, _, _, rfl, ?_⟩
      refine ⟨_, rfl, .inl ⟨_, rfl, ?_⟩⟩
      refine ⟨_, _, rfl, rfl, nz5, ?_⟩
      refine ⟨by show 3 ≤ sizeLine; decide, fun p hp => ?_⟩
      exact k _ _ _ _ hp
/-! ### one of a list's items -/
def spOneOf : Sp := fun vs H Q _ => ∃ (d p : Addr) (xs : List V), vs = [.ref d, .ref p] ∧ DiceAt H d ∧ H p = some (.lst xs) ∧ p ≠ d ∧ 0 < xs.length ∧ xs.length < 1000 ∧
  ∀ (k : Nat) (x : V) (a b c : Int), xs[k]? = some x → Q x (upd H d (.lst (dxs a b c)))
theorem scO : FnScope ["_law_dice_here", "_law_items"] ["_law_dice_here", "_law_items"] (defScope sOneOf) :=
  ⟨rfl, rfl, rfl, by decide +kernel, rfl, by decide +kernel, by decide +kernel⟩
theorem ok_oneOf {f fR : Addr} {fd fdR : FuncData} (F : Fun K "_law_one_of" "_law_one_of" sOneOf f fd) (T : TxtD mg) (FR : Fun K "_law_roll" "_law_roll" sRoll fR fdR)
    (mR : mg "_law_roll" = some (.ref fR)) (kR : PySem.W.keepIn K (.ref fR) = true) (bR : Binds K fdR ["_law_dice_here", "_law_total"] []) : FnOk P w K mg base CX0 2 f fd ["_law_dice_here", "_law_items"] spOneOf := by
  have G : FnOk P w K mg base CX0 1 fR fdR ["_law_dice_here", "_law_total"] spRoll := ok_roll FR T.mI
  refine F.ok scO (fun vs H Q E h => ?_) (fun cdv A outer s H vs Q E hr h => ?_)
  · obtain ⟨d, p, xs, rfl, _⟩ := h
    rfl
  · obtain ⟨d, p, xs, rfl, hd, hp, ne, h0, h1, k⟩ := h
    have hu := hu_of hr
    refine ⟨_, pss_one (ps_ret (pe_ix ix_list (pv 1) (pe_call G hr (by rfl) mR kR bR .nil pass0
      (pa_cons (pv 0) (pa_cons (pe_callB call_len_seq (by rfl) T.mL PySem.boot_len (pa_cons (pv 1) pa_nil)) pa_nil))) (fun _ _ => rfl))), ?_⟩
    refine ⟨_, rfl, _, rfl, _, rfl, p, xs, rfl, .inl (SqL.of hp), d, _, rfl, hd, by omega, by omega, fun r a b c hr0 hr1 => ?_⟩
    obtain ⟨k', rfl⟩ : ∃ k' : Nat, r = (k' : Int) := ⟨r.toNat, by omega⟩
    have hk : k' < xs.length := by omega
    refine ⟨p, xs, _, xs[k'], rfl, rfl, SqL.of (by rw [upd_ne ne]; exact hp), atI_nat (List.getElem?_eq_getElem hk), ?_⟩
    exact k k' _ a b c (List.getElem?_eq_getElem hk)
end
end LD
set_option Elab.async false
set_option linter.all false
set_option maxRecDepth 100000
set_option maxHeartbeats 4000000
namespace FR
open PySem PySem.Spec PyProof.Rows L2 LD
section
variable {P : Program} {w : World} {K : PySem.W.Frag} {mg : Str → Option Value} {base : Heap}
/-! ### _law_gcd -/
abbrev sGcd : Stmt := FR.top 38
theorem scGcd : FnScope ["_law_one", "_law_two"] ["_law_one", "_law_two"] (defScope sGcd) := ⟨rfl, rfl, rfl, by decide +kernel, rfl, by decide +kernel, by decide +kernel⟩
def spGcd : Sp := fun vs H Q _ => ∃ a b : Nat, vs = [.int a, .int b] ∧ Q (.int (Nat.gcd a b : Nat)) H
theorem ok_gcd {f : Addr} {fd : FuncData} (F : Fun K "_law_gcd" "_law_gcd" sGcd f fd) (mI : mg "int" = none) : FnOk P w K mg base CX0 1 f fd ["_law_one", "_law_two"] spGcd := by
  refine F.ok scGcd (fun vs H Q E h => ?_) (fun cdv A outer s H vs Q E hr h => ?_)
  · obtain ⟨a, b, rfl, _⟩ := h
    rfl
  · obtain ⟨a, b, rfl, q⟩ := h
    refine ⟨_, pss_cons (ps_while PassesOwn.never (pt_cmpR op_gt (pv 1) pe_int (nomark _)) (pss_one (ps_par (i := 0) (j := 1) (by rfl) scGcd.nd rfl rfl (by decide) rfl rfl (pa_cons (pv 1) (pa_cons (pe_op op_modN (pe_callTy call_int1 (by rfl) mI (by decide +kernel) (pa_cons (pv 0) pa_nil)) (pv 1)) pa_nil)) (by rfl))))
      (pss_one (ps_ret (pv 0))), ?_⟩
    refine while_by (fun σ Hc => Hc = H ∧ ∃ x y : Nat, σ = [some (.int x), some (.int y)] ∧ Nat.gcd x y = Nat.gcd a b) (fun σ _ => match σ with | [_, some (.int y)] => y.toNat | _ => 0) ⟨rfl, a, b, rfl, rfl⟩ ?_ ?_
    · rintro σ Hc ⟨rfl, x, y, rfl, g⟩
      refine ⟨_, rfl, _, _, rfl, rfl, _, rfl, ite2 (fun z => ?_) (fun z => ?_)⟩
      · have hy : 0 < y := by have := of_decide_eq_true z; omega
        have e : (x : Int).fmod (y : Int) = ((x % y : Nat) : Int) := by rw [Int.fmod_eq_emod_of_nonneg _ (by omega)]; rfl
        have hn : (y : Int) ≠ 0 := by omega
        refine ⟨_, rfl, _, rfl, .inl ⟨_, rfl, ?_⟩⟩
        refine ⟨_, rfl, _, _, rfl, rfl, hn, ?_⟩
        refine ⟨_, _, rfl, ?_⟩
        refine ⟨⟨rfl, y, x % y, by rw [← e]; rfl, ?_⟩, ?_⟩
        · rw [← g, Nat.gcd_comm x y, Nat.gcd_rec y x, Nat.gcd_comm]
        · show ((x : Int).fmod (y : Int)).toNat < (y : Int).toNat
          rw [e]
          have := Nat.mod_lt x hy
          omega
      · have hy : y = 0 := by
          have : ¬ (0 : Int) < y := fun c => z (decide_eq_true c)
          omega
        subst hy
        rw [Nat.gcd_zero_right] at g
        refine ⟨_, rfl, ?_⟩
        subst g
        exact q
    · rintro σ Hc R R' im ⟨v, e1, i, j, e2, e3, k, e4, c⟩
      exact ⟨v, e1, i, j, e2, e3, k, e4, im _ _ c⟩
/-! ### _law_ratio, _law_pair, _law_told -/
abbrev sRat : Stmt := FR.top 39
theorem scRat : FnScope ["_law_top", "_law_bottom", "_law_part"] ["_law_top", "_law_bottom"] (defScope sRat) := ⟨rfl, rfl, rfl, by decide +kernel, rfl, by decide +kernel, by decide +kernel⟩
def spRat : Sp := fun vs H Q _ => ∃ t b : Int, vs = [.int t, .int b] ∧ 0 < b ∧ b.natAbs < 2 ^ 8000 ∧ ∀ p, H p = none → Q (.ref p) (upd H p (.tup [.int (nT t b), .int (nB t b)]))
theorem abs_nat (t : Int) : (if t < 0 then -t else t) = ((t.natAbs : Nat) : Int) := by split <;> omega
theorem ok_rat {f fG : Addr} {fd fdG : FuncData} (F : Fun K "_law_ratio" "_law_ratio" sRat f fd) (GG : FnOk P w K mg base CX0 1 fG fdG ["_law_one", "_law_two"] spGcd) (mG : mg "_law_gcd" = some (.ref fG))
    (kG : PySem.W.keepIn K (.ref fG) = true) (bG : Binds K fdG ["_law_one", "_law_two"] []) (ma : mg "abs" = none) : FnOk P w K mg base CX0 2 f fd ["_law_top", "_law_bottom"] spRat := by
  refine F.ok scRat (fun vs H Q E h => ?_) (fun cdv A outer s H vs Q E hr h => ?_)
  · obtain ⟨t, b, rfl, _⟩ := h
    rfl
  · obtain ⟨t, b, rfl, hb, hz, q⟩ := h
    refine ⟨_, pss_cons (ps_set (i := 2) scRat.nd rfl (Or.inl rfl) (pe_call GG hr (by rfl) mG kG bG .nil pass0 (pa_cons (pe_callB call_abs (by rfl) ma (by decide +kernel) (pa_cons (pv 0) pa_nil)) (pa_cons (pv 1) pa_nil))))
      (pss_one (ps_ret (pe_tup (pa_cons (pe_op op_fdivX (pv 0) (pv 2)) (pa_cons (pe_op op_fdivX (pv 1) (pv 2)) pa_nil))))), ?_⟩
    have ed : dv t b = ((Nat.gcd t.natAbs b.natAbs : Nat) : Int) := if_neg (by omega)
    have hb0 : b ≠ 0 := by omega
    have dz : ∀ i : Int, CDivX i ((Nat.gcd t.natAbs b.natAbs : Nat) : Int) := fun i => by
      rw [← ed]
      exact div_ok (dv_ne hb0) (Nat.lt_of_le_of_lt (dv_le hb0) hz) (by decide) (by decide)
    have eb : V.int b = V.int ((b.natAbs : Nat) : Int) := by rw [show ((b.natAbs : Nat) : Int) = b by omega]
    refine ⟨_, rfl, _, rfl, _, rfl, t.natAbs, b.natAbs, by rw [abs_nat, eb]; rfl, ?_⟩
    refine ⟨_, rfl, _, rfl, _, _, rfl, rfl, dz _, _, rfl, _, rfl, _, _, rfl, rfl, dz _, small1000 (by show 1 ≤ 1000; decide), fun p hp => ?_⟩
    have e := q p hp
    unfold nT nB at e
    rw [ed] at e
    exact e
end
end FR
set_option Elab.async false
set_option linter.all false
set_option maxRecDepth 100000
set_option maxHeartbeats 4000000
namespace FR
open PySem PySem.Spec PyProof.Rows L2 LD
/-! ### the law's own sums, products, less, powers -/
/-- a pair of integers stands at a -/
def TA (H : Hp) (a : Addr) (p : PI) : Prop := H a = some (.tup [.int p.1, .int p.2])
/-- short, with a bottom above 0 -/
structure Pp (p : PI) : Prop where
  b0 : 0 < p.2
  tz : p.1.natAbs < 2 ^ 4000
  bz : p.2.natAbs < 2 ^ 4000
theorem Pp.mul {p r : PI} (h : Pp p) (g : Pp r) : CMulW p.1 r.1 ∧ CMulW p.1 r.2 ∧ CMulW r.1 p.2 ∧ CMulW p.2 r.2 ∧ (p.2 * r.2).natAbs < 2 ^ 8000 :=
  ⟨wide_mul h.tz g.tz (by decide) (by decide) (by decide), wide_mul h.tz g.bz (by decide) (by decide) (by decide), wide_mul g.tz h.bz (by decide) (by decide) (by decide), wide_mul h.bz g.bz (by decide) (by decide) (by decide), wide_lt h.bz g.bz⟩
def spLP (g : PI → PI → PI) : Sp := fun vs H Q _ => ∃ (a c : Addr) (p r : PI), vs = [.ref a, .ref c] ∧ TA H a p ∧ TA H c r ∧ Pp p ∧ Pp r ∧ ∀ x, H x = none → Q (.ref x) (upd H x (.tup [.int (g p r).1, .int (g p r).2]))
def byP (a c : PI) : PI := (nT (a.1 * c.1) (a.2 * c.2), nB (a.1 * c.1) (a.2 * c.2))
section
variable {P : Program} {w : World} {K : PySem.W.Frag} {mg : Str → Option Value} {base : Heap} {C fI pT gT pB gB : Addr} {fdI fdT fdB : FuncData}
abbrev sPlus : Stmt := FR.top 40
abbrev N12 : List Str := ["_law_one", "_law_two"]
theorem scPl : FnScope N12 N12 (defScope sPlus) := ⟨rfl, rfl, rfl, by decide +kernel, rfl, by decide +kernel, by decide +kernel⟩
theorem ok_plus {f : Addr} {fd : FuncData} (F : Fun K "_law_plus" "_law_plus" sPlus f fd) (gR : Glo P w K mg base "_law_ratio" 2 ["_law_top", "_law_bottom"] spRat) : FnOk P w K mg base CX0 3 f fd N12 (spLP plusP) := by
  refine F.ok scPl (fun vs H Q E h => ?_) (fun cdv A outer s H vs Q E hr h => ?_)
  · obtain ⟨a, c, p, r, rfl, _⟩ := h
    rfl
  · obtain ⟨a, c, p, r, rfl, ha, hc, z1, z2, q⟩ := h
    obtain ⟨m1, m2, m3, m4, m5⟩ := z1.mul z2
    refine ⟨_, pss_one (ps_ret (pe_call gR.G hr (by rfl) gR.m gR.k gR.b .nil pass0 (pa_cons (pe_op op_add (pe_op op_mulW (pe_ix ix_tup (pv 0) pe_int (fun _ _ => rfl)) (pe_ix ix_tup (pv 1) pe_int (fun _ _ => rfl))) (pe_op op_mulW (pe_ix ix_tup (pv 1) pe_int (fun _ _ => rfl)) (pe_ix ix_tup (pv 0) pe_int (fun _ _ => rfl))))
      (pa_cons (pe_op op_mulW (pe_ix ix_tup (pv 0) pe_int (fun _ _ => rfl)) (pe_ix ix_tup (pv 1) pe_int (fun _ _ => rfl))) pa_nil)))), ?_⟩
    refine ⟨_, rfl, a, _, _, _, rfl, rfl, SqT.of ha, rfl, _, rfl, c, _, _, _, rfl, rfl, SqT.of hc, rfl, _, _, rfl, rfl, m2, ?_⟩
    refine ⟨_, rfl, c, _, _, _, rfl, rfl, SqT.of hc, rfl, _, rfl, a, _, _, _, rfl, rfl, SqT.of ha, rfl, _, _, rfl, rfl, m3, _, _, rfl, rfl, ?_⟩
    refine ⟨_, rfl, a, _, _, _, rfl, rfl, SqT.of ha, rfl, _, rfl, c, _, _, _, rfl, rfl, SqT.of hc, rfl, _, _, rfl, rfl, m4, ?_⟩
    exact ⟨_, _, rfl, Int.mul_pos z1.b0 z2.b0, m5, fun x hx => q x hx⟩
abbrev sLby : Stmt := FR.top 41
theorem scLb : FnScope N12 N12 (defScope sLby) := ⟨rfl, rfl, rfl, by decide +kernel, rfl, by decide +kernel, by decide +kernel⟩
theorem ok_lby {f : Addr} {fd : FuncData} (F : Fun K "_law_by" "_law_by" sLby f fd) (gR : Glo P w K mg base "_law_ratio" 2 ["_law_top", "_law_bottom"] spRat) : FnOk P w K mg base CX0 3 f fd N12 (spLP byP) := by
  refine F.ok scLb (fun vs H Q E h => ?_) (fun cdv A outer s H vs Q E hr h => ?_)
  · obtain ⟨a, c, p, r, rfl, _⟩ := h
    rfl
  · obtain ⟨a, c, p, r, rfl, ha, hc, z1, z2, q⟩ := h
    obtain ⟨m1, m2, m3, m4, m5⟩ := z1.mul z2
    refine ⟨_, pss_one (ps_ret (pe_call gR.G hr (by rfl) gR.m gR.k gR.b .nil pass0 (pa_cons (pe_op op_mulW (pe_ix ix_tup (pv 0) pe_int (fun _ _ => rfl)) (pe_ix ix_tup (pv 1) pe_int (fun _ _ => rfl)))
      (pa_cons (pe_op op_mulW (pe_ix ix_tup (pv 0) pe_int (fun _ _ => rfl)) (pe_ix ix_tup (pv 1) pe_int (fun _ _ => rfl))) pa_nil)))), ?_⟩
    refine ⟨_, rfl, a, _, _, _, rfl, rfl, SqT.of ha, rfl, _, rfl, c, _, _, _, rfl, rfl, SqT.of hc, rfl, _, _, rfl, rfl, m1, ?_⟩
    refine ⟨_, rfl, a, _, _, _, rfl, rfl, SqT.of ha, rfl, _, rfl, c, _, _, _, rfl, rfl, SqT.of hc, rfl, _, _, rfl, rfl, m4, ?_⟩
    exact ⟨_, _, rfl, Int.mul_pos z1.b0 z2.b0, m5, fun x hx => q x hx⟩
abbrev sInv : Stmt := FR.top 51
theorem scInv : FnScope ["_law_pair_here"] ["_law_pair_here"] (defScope sInv) := ⟨rfl, rfl, rfl, by decide +kernel, rfl, by decide +kernel, by decide +kernel⟩
def invP (p : PI) : PI := if 0 < p.1 then (p.2, p.1) else (0 - p.2, 0 - p.1)
def spInv : Sp := fun vs H Q _ => ∃ (a : Addr) (p : PI), vs = [.ref a] ∧ TA H a p ∧ ∀ x, H x = none → Q (.ref x) (upd H x (.tup [.int (invP p).1, .int (invP p).2]))
theorem ok_inv {f : Addr} {fd : FuncData} (F : Fun K "_law_inverse" "_law_inverse" sInv f fd) : FnOk P w K mg base CX0 1 f fd ["_law_pair_here"] spInv := by
  refine F.ok scInv (fun vs H Q E h => ?_) (fun cdv A outer s H vs Q E hr h => ?_)
  · obtain ⟨a, p, rfl, _⟩ := h
    rfl
  · obtain ⟨a, p, rfl, ha, q⟩ := h
    refine ⟨_, (pss_one (ps_ret (pe_ifExp (pt_cmpR op_gt (pe_ix ix_tup (pv 0) pe_int (fun _ _ => rfl)) pe_int (nomark _)) (pe_tup (pa_cons (pe_ix ix_tup (pv 0) pe_int (fun _ _ => rfl)) (pa_cons (pe_ix ix_tup (pv 0) pe_int (fun _ _ => rfl)) pa_nil))) (pe_tup (pa_cons (pe_op op_sub pe_int (pe_ix ix_tup (pv 0) pe_int (fun _ _ => rfl))) (pa_cons (pe_op op_sub pe_int (pe_ix ix_tup (pv 0) pe_int (fun _ _ => rfl))) pa_nil)))))), ?_⟩
    refine ⟨_, rfl, a, _, _, _, rfl, rfl, SqT.of ha, rfl, _, _, rfl, rfl, _, rfl, ite2 (fun z => ?_) (fun z => ?_)⟩
    · have z := of_decide_eq_true z
      unfold invP at q
      rw [if_pos z] at q
      exact ⟨_, rfl, a, _, _, _, rfl, rfl, SqT.of ha, rfl, _, rfl, a, _, _, _, rfl, rfl, SqT.of ha, rfl, small1000 (by show 1 ≤ 1000; decide), fun x hx => q x hx⟩
    · have z : ¬ 0 < p.1 := fun y => z (decide_eq_true y)
      unfold invP at q
      rw [if_neg z] at q
      exact ⟨_, rfl, a, _, _, _, rfl, rfl, SqT.of ha, rfl, _, _, rfl, rfl, _, rfl, a, _, _, _, rfl, rfl, SqT.of ha, rfl, _, _, rfl, rfl, small1000 (by show 1 ≤ 1000; decide), fun x hx => q x hx⟩
end
end FR
set_option Elab.async false
set_option linter.all false
set_option maxRecDepth 100000
set_option maxHeartbeats 4000000
namespace FR
open PySem PySem.Spec PyProof.Rows L2 LD
def Rl (d : Addr) (H H' : Hp) : Prop := DiceAt H' d ∧ ∀ q o, q ≠ d → H q = some o → H' q = some o
theorem Rl.refl {d : Addr} {H : Hp} (h : DiceAt H d) : Rl d H H := ⟨h, fun _ _ _ e => e⟩
theorem Rl.trans {d : Addr} {H H1 H2 : Hp} (a : Rl d H H1) (b : Rl d H1 H2) : Rl d H H2 := ⟨b.1, fun q o n e => b.2 q o n (a.2 q o n e)⟩
theorem Rl.roll {d : Addr} {H H1 : Hp} {a b c : Int} (r : Rl d H H1) : Rl d H (upd H1 d (.lst (dxs a b c))) := ⟨⟨a, b, c, upd_same⟩, fun q o n e => by rw [upd_ne n]; exact r.2 q o n e⟩
theorem Rl.new {d p : Addr} {H H1 : Hp} {o : HO} (r : Rl d H H1) (hp : H1 p = none) : Rl d H (upd H1 p o) := by
  obtain ⟨a, b, c, e⟩ := r.1
  exact ⟨⟨a, b, c, by rw [upd_ne (ne_of_none e hp)]; exact e⟩, fun q o' n e' => by
    have := r.2 q o' n e'
    rw [upd_ne (ne_of_none this hp)]
    exact this⟩
theorem Rl.free {d p : Addr} {H H1 : Hp} (r : Rl d H H1) (hd : DiceAt H d) (hp : H1 p = none) : H p = none := by
  cases e : H p with
  | none => rfl
  | some o =>
    by_cases q : p = d
    · subst q
      obtain ⟨a, b, c, e'⟩ := r.1
      rw [hp] at e'
      cases e'
    · have := r.2 p o q e
      rw [hp] at this
      cases this
theorem Rl.same {d : Addr} {H H1 H2 : Hp} (r : Rl d H H1) (s : Same H1 H2) : Rl d H H2 := by
  obtain ⟨a, b, c, e⟩ := r.1
  exact ⟨⟨a, b, c, s _ _ e⟩, fun q o n e => s _ _ (r.2 q o n e)⟩

theorem FrAt.rl {C d : Addr} {H H' : Hp} {p : Addr} {t b : Int} (h : FrAt C H p t b) (hd : DiceAt H d) (r : Rl d H H') : FrAt C H' p t b := by
  obtain ⟨dx, e⟩ := h
  obtain ⟨x, y, z, hz⟩ := hd
  exact ⟨dx, r.2 _ _ (fun w => by rw [w, hz] at e; cases e) e⟩
theorem FV.rl {C d : Addr} {H H' : Hp} {v : V} {t b : Int} (h : FV C H v t b) (hd : DiceAt H d) (r : Rl d H H') : FV C H' v t b := by
  rcases h with ⟨p, e, z⟩ | z
  · exact .inl ⟨p, e, z.rl hd r⟩
  · exact .inr z
theorem FVs.rl {C d : Addr} {H H' : Hp} {vs : List V} {ps : List PI} (h : FVs C H vs ps) (hd : DiceAt H d) (r : Rl d H H') : FVs C H' vs ps := A2.imp h fun _ _ f => f.rl hd r
theorem TP1.rl {d : Addr} {H H' : Hp} {v : V} {p : PI} (h : TP1 H v p) (hd : DiceAt H d) (r : Rl d H H') : TP1 H' v p := by
  obtain ⟨q, e, z⟩ := h
  obtain ⟨x, y, w, hz⟩ := hd
  exact ⟨q, e, r.2 _ _ (fun u => by rw [u, hz] at z; cases z) z⟩
/-- a list of pairs at a -/
def PL (H : Hp) (a : Addr) (ps : List PI) : Prop := ∃ us, H a = some (.lst us) ∧ TPs H us ps
theorem PL.same {H H' : Hp} {a : Addr} {ps : List PI} (h : PL H a ps) (s : Same H H') : PL H' a ps := by
  obtain ⟨us, e, z⟩ := h
  exact ⟨us, s _ _ e, z.same s⟩
theorem PL.rl {d : Addr} {H H' : Hp} {a : Addr} {ps : List PI} (h : PL H a ps) (n : a ≠ d) (hd : DiceAt H d) (r : Rl d H H') : PL H' a ps := by
  obtain ⟨us, e, z⟩ := h
  exact ⟨us, r.2 _ _ n e, A2.imp z fun _ _ y => y.rl hd r⟩
/-- a tuple of fractions -/
def TV (C : Addr) (H : Hp) (a : Addr) (ps : List PI) : Prop := ∃ xs, H a = some (.tup xs) ∧ FVs C H xs ps
theorem TV.same {C : Addr} {H H' : Hp} {a : Addr} {ps : List PI} (h : TV C H a ps) (s : Same H H') : TV C H' a ps := by
  obtain ⟨us, e, z⟩ := h
  exact ⟨us, s _ _ e, z.same s⟩
theorem TFr.tv {C : Addr} {H : Hp} {a : Addr} {ps : List PI} (h : TFr C H a ps) : TV C H a ps := by
  obtain ⟨us, e, z⟩ := h
  exact ⟨us, e, A2.imp z fun _ _ ⟨q, e, f⟩ => .inl ⟨q, e, f⟩⟩
section
variable {P : Program} {w : World} {K : PySem.W.Frag} {mg : Str → Option Value} {base : Heap} {C fI pT gT pB gB : Addr} {fdI fdT fdB : FuncData}
abbrev sPr : Stmt := FR.top 42
theorem scPr : FnScope ["_law_number_here"] ["_law_number_here"] (defScope sPr) := ⟨rfl, rfl, rfl, by decide +kernel, rfl, by decide +kernel, by decide +kernel⟩
def spPr (C : Addr) : Sp := fun vs H Q _ => ∃ (v : V) (t b : Int), vs = [v] ∧ FV C H v t b ∧ ∀ p, H p = none → Q (.ref p) (upd H p (.tup [.int t, .int b]))
theorem ok_pr {f : Addr} {fd : FuncData} (F : Fun K "_law_pair" "_law_pair" sPr f fd) (k : FrK P w K mg base C fI pT gT pB gB fdI fdT fdB) (kCI : PySem.W.kitOne K (.ref C) (.type "int") = some false) (mI : mg "isinstance" = none) (mInt : mg "int" = none) : FnOk P w K mg base CX0 3 f fd ["_law_number_here"] (spPr C) := by
  refine F.ok scPr (fun vs H Q E h => ?_) (fun cdv A outer s H vs Q E hr h => ?_)
  · obtain ⟨v, t, b, rfl, _⟩ := h
    rfl
  · obtain ⟨v, t, b, rfl, hv, q⟩ := h
    refine ⟨_, (pss_one (ps_ret (pe_ifExp (pt_val (pe_callB call_isi (by rfl) mI PyProof.Rows.boot_isinstance (pa_cons (pv 0) (pa_cons (pe_bltn (v := .ty "int") (by rfl) mInt (by decide +kernel) rfl) pa_nil)))) (pe_tup (pa_cons (pv 0) (pa_cons pe_int pa_nil))) (pe_tup (pa_cons (pe_prop (pv 0) k.T.cl k.oT k.GT (hr.mono (by decide)) k.bT .nil pass0 rfl) (pa_cons (pe_prop (pv 0) k.T.cl k.oB k.GB (hr.mono (by decide)) k.bB .nil pass0 rfl) pa_nil)))))), ?_⟩
    rcases hv with ⟨p, rfl, dx, hp⟩ | ⟨rfl, rfl⟩
    · refine ⟨_, rfl, _, _, _, _, false, rfl, .ty _, .base (.ins hp k.T.cl k.ha k.hn k.tk k.hm), kCI, _, rfl, ?_⟩
      exact ⟨_, rfl, p, dx, _, rfl, hp, p, dx, _, _, rfl, hp, fl_top _ _, _, rfl, p, dx, _, rfl, hp, p, dx, _, _, rfl, hp, fl_bot _ _, small1000 (by show 1 ≤ 1000; decide), fun x hx => q x hx⟩
    · refine ⟨_, rfl, _, _, _, _, true, rfl, .ty _, .base (.int _), kI1, _, rfl, ?_⟩
      exact ⟨_, rfl, small1000 (by show 1 ≤ 1000; decide), fun x hx => q x hx⟩
abbrev sPs : Stmt := FR.top 43
abbrev NPs : List Str := ["_law_row", "_law_number_here"]
theorem scPs : FnScope NPs ["_law_row"] (defScope sPs) := ⟨rfl, rfl, rfl, by decide +kernel, rfl, by decide +kernel, by decide +kernel⟩
def spPs (C : Addr) : Sp := fun vs H Q _ => ∃ (a : Addr) (ps : List PI), vs = [.ref a] ∧ TV C H a ps ∧ ps.length ≤ 90 ∧ ∀ l H', PL H' l ps → Same H H' → H l = none → Q (.ref l) H'
theorem ok_ps {f : Addr} {fd : FuncData} (F : Fun K "_law_pairs" "_law_pairs" sPs f fd) (gP : Glo P w K mg base "_law_pair" 3 ["_law_number_here"] (spPr C)) : FnOk P w K mg base CX0 4 f fd ["_law_row"] (spPs C) := by
  refine F.ok scPs (fun vs H Q E h => ?_) (fun cdv A outer s H vs Q E hr h => ?_)
  · obtain ⟨a, ps, rfl, _⟩ := h
    rfl
  · obtain ⟨a, ps, rfl, ⟨xs, hx, hf⟩, l90, q⟩ := h
    refine ⟨_, (pss_one (ps_ret (pe_lc (X := (cxOf CX0 P w K mg base NPs "_law_pairs" (defScope sPs) f cdv A outer s H E).nox) (own := [("_law_number_here", 1)]) (g := (gName 1)) (tt := tYes) rfl scPs.nd (pi_tup (pv 0)) (blkOk_by (N := NPs) (sc := defScope sPs) (by decide +kernel)) (fun _ _ _ _ _ => (pg_name (i := 1) scPs.nd rfl (.inl rfl))) (fun _ _ _ _ _ => pts_nil) (fun _ _ _ _ _ => (pe_call gP.G hr (by rfl) gP.m gP.k gP.b .nil pass0 (pa_cons (pv 1) pa_nil)))))), ?_⟩
    refine ⟨_, rfl, a, rfl, ⟨_, SqT.of hx⟩, fun D hD => ?_⟩
    refine lc_tup (xs := xs) (fun i Hc => Same H Hc ∧ ∃ us, Hc D = some (.lst us) ∧ TPs Hc us (ps.take i)) ⟨same_new hD, [], upd_same, A2.nil⟩ (fun i Hc _ p => SqT.of (p.1 _ _ hx)) ?_ ?_
    · rintro i v Hc hvi ⟨sm, us, hDc, hu⟩
      obtain ⟨p, hp, fv⟩ := hf.2 i v hvi
      refine ⟨rfl, _, rfl, v, p.1, p.2, rfl, fv.same sm, fun x hx' => ?_⟩
      have s2 : Same Hc (upd Hc x (.tup [.int p.1, .int p.2])) := same_new hx'
      have e := s2 _ _ hDc
      have il := (List.getElem?_eq_some_iff.mp hp).1
      refine ⟨us, e, small1000 (by rw [hu.1, List.length_take]; omega), same_upd hD (sm.trans s2), us ++ [.ref x], upd_same, ?_⟩
      rw [take_snoc hp]
      exact A2.snoc ((hu.same s2).updl e) ⟨x, rfl, tup_updl upd_same e⟩
    · rintro Hc ⟨sm, us, hDc, hu⟩
      rw [List.take_of_length_le (by rw [hf.1]; exact Nat.le_refl _)] at hu
      exact q D Hc ⟨us, hDc, hu⟩ sm hD
abbrev sSh : Stmt := FR.top 44
abbrev NSh : List Str := ["_law_dice_here", "_law_pair_here"]
theorem scSh : FnScope NSh NSh (defScope sSh) := ⟨rfl, rfl, rfl, by decide +kernel, rfl, by decide +kernel, by decide +kernel⟩
def spSh (C : Addr) : Sp := fun vs H Q _ => ∃ (d a : Addr) (p : PI), vs = [.ref d, .ref a] ∧ DiceAt H d ∧ TA H a p ∧ Lf p.1 p.2 ∧ p.2.natAbs < 2 ^ 8000 ∧ ∀ v H', FV C H' v p.1 p.2 → Rl d H H' → Q v H'
theorem ok_sh {f : Addr} {fd : FuncData} (F : Fun K "_law_shown" "_law_shown" sSh f fd) (k : FrK P w K mg base C fI pT gT pB gB fdI fdT fdB) (gR : Glo P w K mg base "_law_roll" 1 ["_law_dice_here", "_law_total"] spRoll) : FnOk P w K mg base CX0 4 f fd NSh (spSh C) := by
  refine F.ok scSh (fun vs H Q E h => ?_) (fun cdv A outer s H vs Q E hr h => ?_)
  · obtain ⟨d, a, p, rfl, _⟩ := h
    rfl
  · obtain ⟨d, a, p, rfl, hd, ha, lf, bz, q⟩ := h
    refine ⟨_, (pss_cons (ps_if (PW.pt (pw_and (pt_cmpR op_eq (pe_ix ix_tup (pv 1) pe_int (fun _ _ => rfl)) pe_int (nomark _)) (pw_and1 (pt_cmpR op_eq (pe_call gR.G (hr.mono (by decide)) (by rfl) gR.m gR.k gR.b .nil pass0 (pa_cons (pv 0) (pa_cons pe_int pa_nil))) pe_int (nomark _))))) (pss_one (ps_ret (pe_ix ix_tup (pv 1) pe_int (fun _ _ => rfl)))) pss_nil)
      (pss_one (ps_ret (pe_make k.M k.GI (hr.mono (by decide)) (by rfl) k.T.mC k.b2 .nil pass0 (pa_cons (pe_ix ix_tup (pv 1) pe_int (fun _ _ => rfl)) (pa_cons (pe_ix ix_tup (pv 1) pe_int (fun _ _ => rfl)) pa_nil)))))), ?_⟩
    have made : ∀ H1, TA H1 a p → Rl d H H1 → ∀ x dx, H1 x = none → H1 dx = none → dx ≠ x → spInit C [.ref x, .int p.1, .int p.2] (upd (upd H1 dx (.own x)) x (.ins C dx [])) (fun v H' => v = .non ∧ Q (.ref x) H') E := fun H1 h1 r x dx nx nd ne => by
      refine ⟨x, dx, _, _, rfl, upd_same, lf.ne, dv8 lf.ne bz, fun H' hf hs => ⟨rfl, ?_⟩⟩
      rw [lf.nT, lf.nB] at hf
      exact q _ H' (.inl ⟨x, rfl, hf⟩) (r.same (same_make (C := C) nx nd hs))
    refine ⟨_, rfl, a, _, _, _, rfl, rfl, SqT.of ha, rfl, rfl, _, rfl, ite2 (fun z => ?_) (fun _ => ?_)⟩
    · rw [dec_int] at z
      have z := of_decide_eq_true z
      refine ⟨_, rfl, d, 2, rfl, hd, by decide, by decide, fun r x y u h0 h2 => ?_⟩
      have ad : a ≠ d := fun w => by
        obtain ⟨_, _, _, hd⟩ := hd
        rw [w] at ha
        have ha : H d = _ := ha
        rw [hd] at ha; cases ha
      have ha2 : TA (upd H d (.lst (dxs x y u))) a p := by
        show upd H d _ a = _
        rw [upd_ne ad]; exact ha
      have r2 : Rl d H (upd H d (.lst (dxs x y u))) := (Rl.refl hd).roll
      refine ⟨rfl, _, rfl, ite2 (fun _ => ?_) (fun _ => ?_)⟩
      · exact ⟨_, rfl, a, _, _, _, rfl, rfl, SqT.of ha2, rfl, q _ _ (.inr ⟨rfl, z⟩) r2⟩
      · exact ⟨_, rfl, a, _, _, _, rfl, rfl, SqT.of ha2, rfl, _, rfl, a, _, _, _, rfl, rfl, SqT.of ha2, rfl, fun x dx nx nd ne => made _ ha2 r2 x dx nx nd ne⟩
    · exact ⟨_, rfl, a, _, _, _, rfl, rfl, SqT.of ha, rfl, _, rfl, a, _, _, _, rfl, rfl, SqT.of ha, rfl, fun x dx nx nd ne => made _ ha (Rl.refl hd) x dx nx nd ne⟩
end
end FR
set_option Elab.async false
set_option linter.all false
set_option maxRecDepth 100000
set_option maxHeartbeats 4000000
namespace FR
open PySem PySem.Spec PyProof.Rows L2 LD RF
/-- in least form and short -/
structure Pz (s : Nat) (p : PI) : Prop where
  lf : Lf p.1 p.2
  tz : p.1.natAbs < 2 ^ s
  bz : p.2.natAbs < 2 ^ s
theorem Pz.up {s t : Nat} {p : PI} (h : Pz s p) (g : s ≤ t) : Pz t p := ⟨h.lf, pow_up h.tz g, pow_up h.bz g⟩
theorem Pz.pp {s : Nat} {p : PI} (h : Pz s p) (g : s ≤ 4000) : Pp p := ⟨h.lf.1, pow_up h.tz g, pow_up h.bz g⟩
theorem Pz.by_ {s t : Nat} {p r : PI} (h : Pz s p) (g : Pz t r) : Pz (s + t) (byP p r) := by
  have n : p.2 * r.2 ≠ 0 := Int.mul_ne_zero h.lf.ne g.lf.ne
  exact ⟨lf_n n, Nat.lt_of_le_of_lt (nT_le n) (RF.mul_lt h.tz g.tz), Nat.lt_of_le_of_lt (nB_le n) (RF.mul_lt h.bz g.bz)⟩
theorem Pz.plus {s t : Nat} {p r : PI} (h : Pz s p) (g : Pz t r) : Pz (s + t + 1) (plusP p r) := by
  have n : p.2 * r.2 ≠ 0 := Int.mul_ne_zero h.lf.ne g.lf.ne
  refine ⟨lf_n n, Nat.lt_of_le_of_lt (nT_le n) ?_, Nat.lt_of_le_of_lt (nB_le n) (pow_up (RF.mul_lt h.bz g.bz) (by omega))⟩
  have a := RF.mul_lt h.tz g.bz
  have b := RF.mul_lt g.tz h.bz
  rw [Nat.add_comm t s] at b
  have e : 2 ^ (s + t) + 2 ^ (s + t) = 2 ^ (s + t + 1) := by rw [Nat.pow_succ]; omega
  generalize p.1 * r.2 = x at *
  generalize r.1 * p.2 = y at *
  omega
theorem Rl.grow {d D : Addr} {H H1 : Hp} {o : HO} (hD : H D = none) (n : D ≠ d) (r : Rl d H H1) : Rl d H (upd H1 D o) := by
  obtain ⟨⟨a, b, c, e⟩, k⟩ := r
  exact ⟨⟨a, b, c, by rw [upd_ne (Ne.symm n)]; exact e⟩, fun q u hq hu => by rw [upd_ne (ne_of_none hu hD)]; exact k q u hq hu⟩
theorem dice_ne {d D : Addr} {H : Hp} (hd : DiceAt H d) (hD : H D = none) : D ≠ d := fun z => by
  obtain ⟨a, b, c, e⟩ := hd
  rw [z, e] at hD
  cases hD
section
variable {P : Program} {w : World} {K : PySem.W.Frag} {mg : Str → Option Value} {base : Heap} {C fI pT gT pB gB : Addr} {fdI fdT fdB : FuncData}
abbrev sSr : Stmt := FR.top 45
abbrev NSr : List Str := ["_law_dice_here", "_law_pairs_here", "_law_pair_here"]
theorem scSr : FnScope NSr ["_law_dice_here", "_law_pairs_here"] (defScope sSr) := ⟨rfl, rfl, rfl, by decide +kernel, rfl, by decide +kernel, by decide +kernel⟩
def spSr (C : Addr) : Sp := fun vs H Q _ => ∃ (d a : Addr) (ps : List PI), vs = [.ref d, .ref a] ∧ DiceAt H d ∧ PL H a ps ∧ a ≠ d ∧ ps.length ≤ 90 ∧ (∀ p ∈ ps, Pz 4000 p) ∧ ∀ t H', TV C H' t ps → Rl d H H' → H t = none → Q (.ref t) H'
theorem ok_sr {f : Addr} {fd : FuncData} (F : Fun K "_law_shown_row" "_law_shown_row" sSr f fd) (gS : Glo P w K mg base "_law_shown" 4 NSh (spSh C)) (mT : mg "tuple" = none) : FnOk P w K mg base CX0 5 f fd ["_law_dice_here", "_law_pairs_here"] (spSr C) := by
  refine F.ok scSr (fun vs H Q E h => ?_) (fun cdv A outer s H vs Q E hr h => ?_)
  · obtain ⟨d, a, ps, rfl, _⟩ := h
    rfl
  · obtain ⟨d, a, ps, rfl, hd, ⟨us, ha, hu⟩, ad, l90, hz, q⟩ := h
    refine ⟨_, (pss_one (ps_ret (pe_callTy call_tuple_of (by rfl) mT (by decide +kernel) (pa_cons (pe_lc (X := (cxOf CX0 P w K mg base NSr "_law_shown_row" (defScope sSr) f cdv A outer s H E).nox) (own := [("_law_pair_here", 2)]) (g := (gName 2)) (tt := tYes) rfl scSr.nd (pi_list (pv 1)) (blkOk_by (N := NSr) (sc := defScope sSr) (by decide +kernel)) (fun _ _ _ _ _ => (pg_name (i := 2) scSr.nd rfl (.inl rfl))) (fun _ _ _ _ _ => pts_nil) (fun _ _ _ _ _ => (pe_call gS.G hr (by rfl) gS.m gS.k gS.b .nil pass0 (pa_cons (pv 0) (pa_cons (pv 2) pa_nil))))) pa_nil)))), ?_⟩
    refine ⟨_, rfl, a, rfl, ⟨_, SqL.of ha⟩, fun D hD => ?_⟩
    have Dd := dice_ne hd hD
    refine lc_list (xs := us) (fun i Hc => Rl d H Hc ∧ ∃ ws, Hc D = some (.lst ws) ∧ FVs C Hc ws (ps.take i)) ⟨(Rl.refl hd).grow hD Dd, [], upd_same, A2.nil⟩ (fun i Hc _ p => SqL.of (p.1.2 _ _ ad ha)) ?_ ?_
    · rintro i v Hc hvi ⟨r, ws, hDc, hw⟩
      obtain ⟨p, hp, x, rfl, hx⟩ := hu.2 i v hvi
      have mp := List.mem_of_getElem? hp
      have il := (List.getElem?_eq_some_iff.mp hp).1
      have xd : x ≠ d := fun z => by
        obtain ⟨_, _, _, e⟩ := hd
        rw [z, e] at hx; cases hx
      refine ⟨rfl, _, rfl, _, rfl, d, x, p, rfl, r.1, r.2 _ _ xd hx, (hz p mp).lf, pow_up (hz p mp).bz (by decide), fun v' H2 fv r2 => ?_⟩
      have e := r2.2 _ _ Dd hDc
      refine ⟨ws, e, small1000 (by rw [hw.1, List.length_take]; omega), (r.trans r2).grow hD Dd, ws ++ [v'], upd_same, ?_⟩
      rw [take_snoc hp]
      exact A2.snoc ((hw.rl r.1 r2).updl e) (fv.updl e)
    · rintro Hc ⟨r, ws, hDc, hw⟩
      rw [List.take_of_length_le (by rw [hu.1]; exact Nat.le_refl _)] at hw
      refine ⟨D, _, rfl, .inl ⟨SqL.of hDc, fun t ht => ?_⟩⟩
      exact q t _ ⟨ws, upd_same, hw.same (same_new ht)⟩ (r.new ht) (r.free hd ht)
/-- an integer within bounds -/
def inR (lo hi : Int) (v : V) : Prop := ∃ i : Int, v = .int i ∧ lo ≤ i ∧ i ≤ hi
theorem inR_nil {lo hi : Int} : ∀ v ∈ ([] : List V), inR lo hi v := fun v h => nomatch h
theorem inR_cons {lo hi i : Int} {xs : List V} (h : lo ≤ i ∧ i ≤ hi) (r : ∀ v ∈ xs, inR lo hi v) : ∀ v ∈ V.int i :: xs, inR lo hi v := fun v hv => by
  rcases List.mem_cons.mp hv with e | e
  · exact ⟨i, e, h⟩
  · exact r v e
abbrev sNu : Stmt := FR.top 46
theorem scNu : FnScope ["_law_dice_here"] ["_law_dice_here"] (defScope sNu) := ⟨rfl, rfl, rfl, by decide +kernel, rfl, by decide +kernel, by decide +kernel⟩
def spNu : Sp := fun vs H Q _ => ∃ (d : Addr), vs = [.ref d] ∧ DiceAt H d ∧ ∀ (t b : Int) (x : Addr) H', -7 ≤ t → t ≤ 5 → 1 ≤ b → b ≤ 4 → Rl d H H' → H' x = none → Q (.ref x) (upd H' x (.tup [.int (nT t b), .int (nB t b)]))
theorem ok_nu {f : Addr} {fd : FuncData} (F : Fun K "_law_number" "_law_number" sNu f fd) (gO : Glo P w K mg base "_law_one_of" 2 ["_law_dice_here", "_law_items"] spOneOf) (gR : Glo P w K mg base "_law_ratio" 2 ["_law_top", "_law_bottom"] spRat) : FnOk P w K mg base CX0 3 f fd ["_law_dice_here"] spNu := by
  refine F.ok scNu (fun vs H Q E h => ?_) (fun cdv A outer s H vs Q E hr h => ?_)
  · obtain ⟨d, rfl, _⟩ := h
    rfl
  · obtain ⟨d, rfl, hd, q⟩ := h
    refine ⟨_, (pss_one (ps_ret (pe_call gR.G hr (by rfl) gR.m gR.k gR.b .nil pass0 (pa_cons (pe_call gO.G hr (by rfl) gO.m gO.k gO.b .nil pass0 (pa_cons (pv 0) (pa_cons (pe_lst (pa_cons pe_int (pa_cons pe_int (pa_cons pe_int (pa_cons pe_int (pa_cons pe_int (pa_cons pe_int (pa_cons pe_int (pa_cons (pe_un un_neg pe_int) (pa_cons (pe_un un_neg pe_int) (pa_cons (pe_un un_neg pe_int) (pa_cons (pe_un un_neg pe_int) pa_nil)))))))))))) pa_nil))) (pa_cons (pe_call gO.G hr (by rfl) gO.m gO.k gO.b .nil pass0 (pa_cons (pv 0) (pa_cons (pe_lst (pa_cons pe_int (pa_cons pe_int (pa_cons pe_int (pa_cons pe_int (pa_cons pe_int (pa_cons pe_int pa_nil))))))) pa_nil))) pa_nil))))), ?_⟩
    refine ⟨_, rfl, _, rfl, _, rfl, _, rfl, _, rfl, small1000 (by show 10 ≤ 1000; decide), fun l hl => ?_⟩
    have ld := dice_ne hd hl
    have hd1 : DiceAt (upd H l (.lst [V.int 0, V.int 0, V.int 1, V.int 1, V.int 2, V.int 3, V.int 5, V.int (-1), V.int (-1), V.int (-2), V.int (-7)])) d := ((Rl.refl hd).grow hl ld).1
    refine ⟨d, l, _, rfl, hd1, upd_same, ld, by show 0 < 11; decide, by show 11 < 1000; decide, fun k x a b c hx => ?_⟩
    obtain ⟨t, rfl, t1, t2⟩ : inR (-7) 5 x := inR_cons (by decide) (inR_cons (by decide) (inR_cons (by decide) (inR_cons (by decide) (inR_cons (by decide) (inR_cons (by decide) (inR_cons (by decide) (inR_cons (by decide) (inR_cons (by decide) (inR_cons (by decide) (inR_cons (by decide) inR_nil)))))))))) x (List.mem_of_getElem? hx)
    have r1 : Rl d H (upd (upd H l (.lst [V.int 0, V.int 0, V.int 1, V.int 1, V.int 2, V.int 3, V.int 5, V.int (-1), V.int (-1), V.int (-2), V.int (-7)])) d (.lst (dxs a b c))) := ((Rl.refl hd).grow hl ld).roll
    generalize upd (upd H l _) d _ = H1 at *
    refine ⟨_, rfl, small1000 (by show 5 ≤ 1000; decide), fun l2 hl2 => ?_⟩
    have ld2 := dice_ne r1.1 hl2
    have r2 : Rl d H1 (upd H1 l2 (.lst [V.int 1, V.int 1, V.int 1, V.int 2, V.int 3, V.int 4])) := (Rl.refl r1.1).grow hl2 ld2
    refine ⟨d, l2, _, rfl, r2.1, upd_same, ld2, by show 0 < 6; decide, by show 6 < 1000; decide, fun k2 x2 a2 b2 c2 hx2 => ?_⟩
    obtain ⟨b', rfl, b1, b3⟩ : inR 1 4 x2 := inR_cons (by decide) (inR_cons (by decide) (inR_cons (by decide) (inR_cons (by decide) (inR_cons (by decide) (inR_cons (by decide) inR_nil))))) x2 (List.mem_of_getElem? hx2)
    refine ⟨t, b', rfl, by omega, Nat.lt_of_lt_of_le (show b'.natAbs < 2 ^ 3 by omega) (Nat.pow_le_pow_right (by decide) (by decide)), fun p hp => ?_⟩
    exact q t b' p _ t1 t2 b1 b3 (r1.trans r2.roll) hp
end
end FR
set_option Elab.async false
set_option linter.all false
set_option maxRecDepth 100000
set_option maxHeartbeats 4000000
/-! pairs as rational numbers; pairs over one bottom -/
namespace FR
open RF L2
def val (p : PI) : Rat := (p.1 : Rat) / p.2
def valV (ps : List PI) : Vec := fun j => val (ps.getD j (0, 1))
theorem cast_ne {b : Int} (h : b ≠ 0) : (b : Rat) ≠ 0 := fun z => h (Rat.intCast_inj.mp z)
theorem val_n {t b : Int} (h : b ≠ 0) : val (nT t b, nB t b) = (t : Rat) / b := by
  have e := n_back (t := t) h
  have e2 : (nT t b : Rat) * b = t * (nB t b : Rat) := by rw [← Rat.intCast_mul, e, Rat.intCast_mul]
  have h1 := cast_ne h
  have h2 : (nB t b : Rat) ≠ 0 := cast_ne (by have := nB_pos (t := t) h; omega)
  show (nT t b : Rat) / (nB t b : Rat) = _
  grind
theorem val_plus {p r : PI} (h : Lf p.1 p.2) (g : Lf r.1 r.2) : val (plusP p r) = val p + val r := by
  have h1 := cast_ne h.ne
  have h2 := cast_ne g.ne
  show val (nT _ _, nB _ _) = _
  rw [val_n (Int.mul_ne_zero h.ne g.ne), Rat.intCast_add, Rat.intCast_mul, Rat.intCast_mul, Rat.intCast_mul]
  unfold val
  grind
theorem val_by {p r : PI} (h : Lf p.1 p.2) (g : Lf r.1 r.2) : val (byP p r) = val p * val r := by
  have h1 := cast_ne h.ne
  have h2 := cast_ne g.ne
  show val (nT _ _, nB _ _) = _
  rw [val_n (Int.mul_ne_zero h.ne g.ne), Rat.intCast_mul, Rat.intCast_mul]
  unfold val
  grind
theorem val_zero {p : PI} (h : Lf p.1 p.2) : val p = 0 ↔ p.1 = 0 := by
  have h1 := cast_ne h.ne
  unfold val
  constructor
  · intro e
    have : (p.1 : Rat) = 0 := by grind
    exact Rat.intCast_inj.mp this
  · intro e
    rw [e]; grind
theorem val_inj {p r : PI} (h : Lf p.1 p.2) (g : Lf r.1 r.2) (e : val p = val r) : p = r := by
  have h1 := cast_ne h.ne
  have h2 := cast_ne g.ne
  have e2 : ((p.1 * r.2 : Int) : Rat) = ((r.1 * p.2 : Int) : Rat) := by
    rw [Rat.intCast_mul, Rat.intCast_mul]
    unfold val at e
    grind
  obtain ⟨a, b⟩ := n_cross h.ne g.ne (Rat.intCast_inj.mp e2)
  rw [h.nT, g.nT] at a
  rw [h.nB, g.nB] at b
  exact Prod.ext a b
theorem valV_get {ps : List PI} {j : Nat} {p : PI} (h : ps[j]? = some p) : valV ps j = val p := by
  unfold valV
  rw [List.getD_eq_getElem?_getD, h]; rfl
theorem valV_out {ps : List PI} {j : Nat} (h : ps.length ≤ j) : valV ps j = 0 := by
  unfold valV
  rw [List.getD_eq_getElem?_getD, List.getElem?_eq_none h]
  show ((0 : Int) : Rat) / ((1 : Int) : Rat) = 0
  grind
theorem getD_mem {ps : List PI} {q : Nat} (h : q < ps.length) : ps.getD q (0, 1) ∈ ps := by
  rw [List.getD_eq_getElem?_getD, List.getElem?_eq_getElem h]; exact List.getElem_mem _
theorem ov_get {r : List Int} {d : Int} {p : PI} (h : p ∈ ovP r d) : ∃ x, x ∈ r ∧ p = (nT x d, nB x d) := by
  unfold ovP at h
  obtain ⟨x, m, e⟩ := List.mem_map.mp h
  exact ⟨x, m, e.symm⟩
theorem ov_lcm {d : Int} (hd : d ≠ 0) : ∀ ps : List PI, (∀ p ∈ ps, ∃ x, p = (nT x d, nB x d)) → lcmP ps ∣ d := by
  intro ps
  induction ps using snoc_ind with
  | h0 => intro _; exact ⟨d, by show d = 1 * d; omega⟩
  | h l x ih =>
    intro h
    rw [lcmP_snoc]
    have i1 := ih fun p m => h p (List.mem_append_left _ m)
    obtain ⟨y, hy⟩ := h x (List.mem_append_right _ (List.mem_singleton.mpr rfl))
    have i2 : x.2 ∣ d := by
      rw [hy]
      exact ⟨dv y d, (nB_mul hd).symm⟩
    unfold lc
    exact Int.natAbs_dvd_natAbs.mp (by
      rw [Int.natAbs_natCast]
      exact Nat.lcm_dvd (Int.natAbs_dvd_natAbs.mpr i1) (Int.natAbs_dvd_natAbs.mpr i2))
theorem ov_lf {r : List Int} {d : Int} (hd : d ≠ 0) : AllLf (ovP r d) := fun p h => by
  obtain ⟨x, _, e⟩ := ov_get h
  rw [e]
  exact lf_n hd
/-- pairs over one bottom, all short -/
def Cd (s : Nat) (ps : List PI) : Prop := ∃ e : Int, e ≠ 0 ∧ e.natAbs < 2 ^ s ∧ ∀ p ∈ ps, ∃ x : Int, x.natAbs < 2 ^ s ∧ p = (nT x e, nB x e)
theorem Cd.up {s t : Nat} {ps : List PI} (h : Cd s ps) (g : s ≤ t) : Cd t ps := by
  obtain ⟨e, h1, h2, h3⟩ := h
  exact ⟨e, h1, pow_up h2 g, fun p m => (h3 p m).imp fun x ⟨a, b⟩ => ⟨pow_up a g, b⟩⟩
theorem Cd.pz {s : Nat} {ps : List PI} (h : Cd s ps) : ∀ p ∈ ps, Pz s p := by
  obtain ⟨e, h1, h2, h3⟩ := h
  intro p m
  obtain ⟨x, hx, rfl⟩ := h3 p m
  exact ⟨lf_n h1, Nat.lt_of_le_of_lt (nT_le h1) hx, Nat.lt_of_le_of_lt (nB_le h1) h2⟩
theorem Cd.lf {s : Nat} {ps : List PI} (h : Cd s ps) : AllLf ps := fun p m => (h.pz p m).lf
theorem Cd.lcm {s : Nat} {ps : List PI} (h : Cd s ps) : (lcmP ps).natAbs < 2 ^ s := by
  obtain ⟨e, h1, h2, h3⟩ := h
  exact Nat.lt_of_le_of_lt (Nat.le_of_dvd (by omega) (Int.natAbs_dvd_natAbs.mpr (ov_lcm h1 ps fun p m => (h3 p m).imp fun x z => z.2))) h2
theorem Cd.shr {s : Nat} {ps : List PI} (h : Cd s ps) (g : s ≤ 2400) : Shr ps := ⟨pow_up h.lcm (by omega), fun p m => ⟨pow_up (h.pz p m).tz g, pow_up (h.pz p m).bz g⟩⟩
theorem Cd.sub {s : Nat} {ps qs : List PI} (h : Cd s ps) (g : ∀ p ∈ qs, p ∈ ps) : Cd s qs := by
  obtain ⟨e, h1, h2, h3⟩ := h
  exact ⟨e, h1, h2, fun p m => h3 p (g p m)⟩
theorem Cd.ov {s : Nat} {u : List Int} {e : Int} (h1 : e ≠ 0) (h2 : e.natAbs < 2 ^ s) (h : ∀ x ∈ u, x.natAbs < 2 ^ s) : Cd s (ovP u e) := ⟨e, h1, h2, fun p m => by
  obtain ⟨x, mx, ex⟩ := ov_get m
  exact ⟨x, h x mx, ex⟩⟩
theorem n_eq {t b : Int} {p : PI} (hb : b ≠ 0) (h : Lf p.1 p.2) (e : p.1 * b = t * p.2) : p = (nT t b, nB t b) := by
  obtain ⟨a, c⟩ := n_cross h.ne hb e
  rw [h.nT] at a
  rw [h.nB] at c
  exact Prod.ext a c
/-- of any pairs, by their least bottom -/
theorem Cd.of {s : Nat} {ps : List PI} (h : AllLf ps) (h1 : (lcmP ps).natAbs < 2 ^ s) (h2 : ∀ x ∈ topsP ps (lcmP ps), x.natAbs < 2 ^ s) : Cd s ps := by
  have l0 := lcmP_pos h
  refine ⟨lcmP ps, by omega, h1, fun p m => ⟨p.1 * (lcmP ps).fdiv p.2, h2 _ (List.mem_map.mpr ⟨p, m, rfl⟩), n_eq (by omega) (h p m) ?_⟩⟩
  have e := Int.fdiv_mul_cancel (lcmP_dvd ps p m)
  generalize (lcmP ps).fdiv p.2 = k at *
  rw [← e]
  grind
/-- the other bottom, where one bottom is a multiple of it -/
theorem Cd.line {s : Nat} {ps : List PI} (h : Cd s ps) : ∀ x ∈ topsP ps (lcmP ps), x.natAbs < 2 ^ s := by
  intro x hx
  have al := h.lf
  obtain ⟨e, h1, h2, h3⟩ := h
  obtain ⟨p, m, rfl⟩ := List.mem_map.mp hx
  obtain ⟨y, hy, ep⟩ := h3 p m
  have ld := lcmP_dvd ps p m
  obtain ⟨k, hk⟩ := ov_lcm h1 ps fun p m => (h3 p m).imp fun x z => z.2
  have f := Int.fdiv_mul_cancel ld
  generalize (lcmP ps).fdiv p.2 = q at *
  have n1 := nT_mul (t := y) h1
  have n2 := nB_mul (t := y) h1
  have e2 : p.1 = nT y e := by rw [ep]
  have e3 : p.2 = nB y e := by rw [ep]
  have b0 : nB y e ≠ 0 := by have := nB_pos (t := y) h1; omega
  have c : dv y e = q * k := by
    have : nB y e * dv y e = nB y e * (q * k) := by
      rw [n2, hk, ← f, e3]
      grind
    exact Int.eq_of_mul_eq_mul_left b0 this
  have z : y = (p.1 * q) * k := by rw [← n1, c, e2]; grind
  have k0 : k ≠ 0 := fun w => by
    rw [w] at hk
    exact h1 (by rw [hk]; simp)
  have : (p.1 * q).natAbs ≤ y.natAbs := by
    have w : y.natAbs = (p.1 * q).natAbs * k.natAbs := by rw [z, Int.natAbs_mul (p.1 * q) k]
    rw [w]
    exact Nat.le_mul_of_pos_right _ (Int.natAbs_pos.mpr k0)
  exact Nat.lt_of_le_of_lt this hy
end FR
set_option Elab.async false
set_option linter.all false
set_option maxRecDepth 100000
set_option maxHeartbeats 4000000
namespace FR
open PySem PySem.Spec PyProof.Rows L2 LD RF
theorem PL.sp {H : Hp} {a : Addr} {ps : List PI} {us : List V} (h : TPs H us ps) {i : Nat} {v : V} (hv : us[i]? = some v) : ∃ p x, ps[i]? = some p ∧ v = .ref x ∧ TA H x p := by
  obtain ⟨p, hp, x, e, z⟩ := h.2 i v hv
  exact ⟨p, x, hp, e, z⟩
theorem TA.same {H H' : Hp} {x : Addr} {p : PI} (h : TA H x p) (s : Same H H') : TA H' x p := s _ _ h
/-- [e for a, b in zip(xs, ys)] of two lists of pairs: new pairs -/
theorem lz_pl {K : PySem.W.Frag} {a b D : Addr} {ps rs : List PI} {us ws : List V} (hl : ps.length = rs.length) (hk : ps.length ≤ 900) {vs : List Nat} {σ : L2.St} {H1 : Hp} {Qd : Hp → Prop} {i1 i2 : Nat} {te : TE} (f : PI → PI → PI) (hD : H1 D = none)
    (ha : H1 a = some (.lst us)) (hu : TPs H1 us ps) (hb : H1 b = some (.lst ws)) (hw : TPs H1 ws rs) (wp : ∀ v w : V, wipe (((wipe σ vs).set i1 (some v)).set i2 (some w)) vs = wipe σ vs)
    (he : ∀ (i : Nat) (p r : PI) (x y : Addr) (H : Hp) (Q : VK), ps[i]? = some p → rs[i]? = some r → TA H x p → TA H y r → Same H1 H → (∀ z H', TA H' z (f p r) → Same H H' → Q (.ref z) H') → te (((wipe σ vs).set i1 (some (.ref x))).set i2 (some (.ref y))) H Q)
    (hd : ∀ H, Same H1 H → PL H D (List.zipWith f ps rs) → Qd H) :
    ∃ Wk : Nat → Nat → Hp → Prop, (∃ m0, Wk 0 m0 (upd H1 D (.lst []))) ∧ ∀ (i0 m0 : Nat) (h0 : Hp), Wk i0 m0 h0 →
      ((Itz K a b).stop i0 h0 ∧ Qd h0) ∨ ((Itz K a b).go i0 h0 ∧ ∃ Nk : Hp → Prop, (∀ h1, Nk h1 → ∃ m1, m1 < m0 ∧ Wk (i0 + 1) m1 h1) ∧ ∀ x h2, (Itz K a b).yld i0 h0 x h2 → gTup K 2 (gCons (gName i1) (gCons (gName i2) gNil)) x (wipe σ vs) h2 fun σ2 H2 => wipe σ2 vs = wipe σ vs ∧ tYes σ2 H2 fun b H3 =>
        if b = true then te σ2 H3 fun y H4 => ∃ got, H4 D = some (.lst got) ∧ got.length < sizeLine ∧ Nk (upd H4 D (.lst (got ++ [y]))) else Nk H3) := by
  have len : (List.zipWith f ps rs).length = ps.length := by rw [List.length_zipWith]; omega
  refine lc_it (walk_zip (xs := us) (ys := ws) (n := ps.length) (by rw [hu.1, hw.1]; omega)) (fun i H => Same H1 H ∧ ∃ zs, H D = some (.lst zs) ∧ TPs H zs ((List.zipWith f ps rs).take i))
    ⟨same_new hD, [], upd_same, A2.nil⟩ (fun i H _ p => ⟨SqL.of (p.1 _ _ ha), SqL.of (p.1 _ _ hb)⟩) ?_ fun H p => ?_
  · rintro i v H H' hi ⟨sm, zs, hDc, hz⟩ ⟨T, u1, u2, rfl, nT, rfl, hx, hy⟩
    have hx : us[i]? = some u1 := hx
    have hy : ws[i]? = some u2 := hy
    obtain ⟨p, hp, x, rfl, tx⟩ := hu.2 i u1 hx
    obtain ⟨r, hr, y, rfl, ty⟩ := hw.2 i u2 hy
    have sT : Same H (upd H T (.tup [.ref x, .ref y])) := same_new nT
    have sm' := sm.trans sT
    refine ⟨T, _, rfl, SqT.of upd_same, rfl, _, _, rfl, _, _, rfl, rfl, wp _ _, ?_⟩
    refine he i p r x y _ _ hp hr (sm' _ _ tx) (sm' _ _ ty) sm' fun z H' tz s' => ?_
    have e := s' _ _ (sT _ _ hDc)
    refine ⟨zs, e, small1000 (by rw [hz.1, List.length_take]; omega), same_upd hD (sm'.trans s'), zs ++ [.ref z], upd_same, ?_⟩
    rw [take_snoc (x := f p r) (by rw [List.getElem?_zipWith, hp, hr])]
    exact A2.snoc ((hz.same (sT.trans s')).updl e) ⟨z, rfl, tup_updl tz e⟩
  · obtain ⟨sm, zs, hDc, hz⟩ := p
    rw [List.take_of_length_le (by omega)] at hz
    exact hd H sm ⟨zs, hDc, hz⟩
/-- [e for a in xs] of a list of pairs: new pairs -/
theorem ll_pl {K : PySem.W.Frag} {a D : Addr} {ps : List PI} {us : List V} (hk : ps.length ≤ 900) {vs : List Nat} {σ : L2.St} {H1 : Hp} {Qd : Hp → Prop} {i1 : Nat} {te : TE} (f : PI → PI) (hD : H1 D = none)
    (ha : H1 a = some (.lst us)) (hu : TPs H1 us ps) (wp : ∀ v : V, wipe ((wipe σ vs).set i1 (some v)) vs = wipe σ vs)
    (he : ∀ (i : Nat) (p : PI) (x : Addr) (H : Hp) (Q : VK), ps[i]? = some p → TA H x p → Same H1 H → (∀ z H', TA H' z (f p) → Same H H' → Q (.ref z) H') → te ((wipe σ vs).set i1 (some (.ref x))) H Q)
    (hd : ∀ H, Same H1 H → PL H D (ps.map f) → Qd H) :
    ∃ Wk : Nat → Nat → Hp → Prop, (∃ m0, Wk 0 m0 (upd H1 D (.lst []))) ∧ ∀ (i0 m0 : Nat) (h0 : Hp), Wk i0 m0 h0 →
      ((Itl K a).stop i0 h0 ∧ Qd h0) ∨ ((Itl K a).go i0 h0 ∧ ∃ Nk : Hp → Prop, (∀ h1, Nk h1 → ∃ m1, m1 < m0 ∧ Wk (i0 + 1) m1 h1) ∧ ∀ x h2, (Itl K a).yld i0 h0 x h2 → gName i1 x (wipe σ vs) h2 fun σ2 H2 => wipe σ2 vs = wipe σ vs ∧ tYes σ2 H2 fun b H3 =>
        if b = true then te σ2 H3 fun y H4 => ∃ got, H4 D = some (.lst got) ∧ got.length < sizeLine ∧ Nk (upd H4 D (.lst (got ++ [y]))) else Nk H3) := by
  refine lc_list (xs := us) (fun i H => Same H1 H ∧ ∃ zs, H D = some (.lst zs) ∧ TPs H zs ((ps.map f).take i))
    ⟨same_new hD, [], upd_same, A2.nil⟩ (fun i H _ p => SqL.of (p.1 _ _ ha)) ?_ fun H p => ?_
  · rintro i v H hx ⟨sm, zs, hDc, hz⟩
    obtain ⟨p, hp, x, rfl, tx⟩ := hu.2 i v hx
    have hi := (List.getElem?_eq_some_iff.mp hp).1
    refine ⟨wp _, ?_⟩
    refine he i p x _ _ hp (sm _ _ tx) sm fun z H' tz s' => ?_
    have e := s' _ _ hDc
    refine ⟨zs, e, small1000 (by rw [hz.1, List.length_take, List.length_map]; omega), same_upd hD (sm.trans s'), zs ++ [.ref z], upd_same, ?_⟩
    rw [take_snoc (x := f p) (by rw [List.getElem?_map, hp]; rfl)]
    exact A2.snoc ((hz.same s').updl e) ⟨z, rfl, tup_updl tz e⟩
  · obtain ⟨sm, zs, hDc, hz⟩ := p
    rw [List.take_of_length_le (by rw [List.length_map, hu.1]; exact Nat.le_refl _)] at hz
    exact hd H sm ⟨zs, hDc, hz⟩
section
variable {P : Program} {w : World} {K : PySem.W.Frag} {mg : Str → Option Value} {base : Heap} {C fI pT gT pB gB : Addr} {fdI fdT fdB : FuncData}
abbrev sPd : Stmt := FR.top 47
abbrev NPd : List Str := ["_law_row", "_law_column", "_law_found", "_law_one", "_law_other"]
theorem scPd : FnScope NPd ["_law_row", "_law_column"] (defScope sPd) := ⟨rfl, rfl, rfl, by decide +kernel, rfl, by decide +kernel, by decide +kernel⟩
def prodP (ps cs : List PI) : PI := (ps.zip cs).foldl (fun acc pr => plusP acc (byP pr.1 pr.2)) (0, 1)
def spPd : Sp := fun vs H Q _ => ∃ (a c : Addr) (ps cs : List PI) (s1 s2 : Nat), vs = [.ref a, .ref c] ∧ PL H a ps ∧ PL H c cs ∧ ps.length = cs.length ∧ ps.length ≤ 13 ∧ Cd s1 ps ∧ Cd s2 cs ∧ s1 + s2 ≤ 3980 ∧ ∀ x H', TA H' x (prodP ps cs) → Same H H' → Q (.ref x) H'
theorem pd_start {M : Int} (h : M ≠ 0) : ((0, 1) : PI) = (nT 0 M, nB 0 M) := n_eq h (Lf.one 0) (by show (0 : Int) * M = 0 * 1; omega)
theorem pd_step {X x y e1 e2 : Int} (h1 : e1 ≠ 0) (h2 : e2 ≠ 0) : plusP (nT X (e1 * e2), nB X (e1 * e2)) (byP (nT x e1, nB x e1) (nT y e2, nB y e2)) = (nT (X + x * y) (e1 * e2), nB (X + x * y) (e1 * e2)) := by
  have m0 : e1 * e2 ≠ 0 := Int.mul_ne_zero h1 h2
  have l1 : Lf (nT X (e1 * e2)) (nB X (e1 * e2)) := lf_n m0
  have l2 : Lf (nT x e1) (nB x e1) := lf_n h1
  have l3 : Lf (nT y e2) (nB y e2) := lf_n h2
  have l4 : Lf (byP (nT x e1, nB x e1) (nT y e2, nB y e2)).1 (byP (nT x e1, nB x e1) (nT y e2, nB y e2)).2 := lf_n (Int.mul_ne_zero l2.ne l3.ne)
  refine val_inj (lf_n (Int.mul_ne_zero l1.ne l4.ne)) (lf_n m0) ?_
  rw [val_plus l1 l4, val_by l2 l3, val_n m0, val_n h1, val_n h2, val_n m0, Rat.intCast_add, Rat.intCast_mul, Rat.intCast_mul]
  have z1 := cast_ne h1
  have z2 := cast_ne h2
  grind
theorem ok_pd {f : Addr} {fd : FuncData} (F : Fun K "_law_product" "_law_product" sPd f fd) (gA : Glo P w K mg base "_law_plus" 3 N12 (spLP plusP)) (gB : Glo P w K mg base "_law_by" 3 N12 (spLP byP)) (mZ : mg "zip" = none) : FnOk P w K mg base CX0 4 f fd ["_law_row", "_law_column"] spPd := by
  refine F.ok scPd (fun vs H Q E h => ?_) (fun cdv A outer s H vs Q E hr h => ?_)
  · obtain ⟨a, c, ps, cs, s1, s2, rfl, _⟩ := h
    rfl
  · obtain ⟨a, c, ps, cs, sz1, sz2, rfl, ⟨us, ha, hu⟩, ⟨ws, hc, hw⟩, len, l5, cd1, cd2, st, q⟩ := h
    have z1 := cd1.pz
    have z2 := cd2.pz
    obtain ⟨e1, e10, e1z, g1⟩ := id cd1
    obtain ⟨e2, e20, e2z, g2⟩ := id cd2
    have m0 : e1 * e2 ≠ 0 := Int.mul_ne_zero e10 e20
    refine ⟨_, (pss_cons (ps_set (i := 2) scPd.nd rfl (Or.inl rfl) (pe_tup (pa_cons pe_int (pa_cons pe_int pa_nil))))
      (pss_cons (ps_for PassesOwn.never rfl (pi_zip (by rfl) mZ (pa_cons (pv 0) (pa_cons (pv 1) pa_nil))) (pg_tup (by rfl) (pgs_cons (pg_name (i := 3) scPd.nd rfl (.inl rfl)) (pgs_cons (pg_name (i := 4) scPd.nd rfl (.inl rfl)) pgs_nil)))
        (pss_one (ps_set (i := 2) scPd.nd rfl (Or.inl rfl) (pe_call gA.G hr (by rfl) gA.m gA.k gA.b .nil pass0 (pa_cons (pv 2) (pa_cons (pe_call gB.G hr (by rfl) gB.m gB.k gB.b .nil pass0 (pa_cons (pv 3) (pa_cons (pv 4) pa_nil))) pa_nil))))))
      (pss_one (ps_ret (pv 2))))), ?_⟩
    refine ⟨small1000 (by show 1 ≤ 1000; decide), fun f0 hf0 => ?_⟩
    have s0 : Same H (upd H f0 (.tup [.int 0, .int 1])) := same_new hf0
    refine ⟨_, rfl, _, rfl, a, c, us, ws, rfl, SqL.of (s0 _ _ ha), SqL.of (s0 _ _ hc), ?_⟩
    refine for_it (walk_zip (xs := us) (ys := ws) (n := ps.length) (by rw [hu.1, hw.1]; omega))
      (fun i σ Hc => Same H Hc ∧ ∃ (y : Addr) (x3 x4 : Option V) (acc : PI), σ = [some (.ref a), some (.ref c), some (.ref y), x3, x4] ∧ TA Hc y acc ∧ acc = ((ps.zip cs).take i).foldl (fun acc pr => plusP acc (byP pr.1 pr.2)) (0, 1) ∧ ∃ X : Int, X.natAbs ≤ i * 2 ^ (sz1 + sz2) ∧ acc = (nT X (e1 * e2), nB X (e1 * e2)))
      ⟨s0, f0, _, _, (0, 1), rfl, upd_same, rfl, 0, Nat.zero_le _, pd_start m0⟩ (fun i σ Hc _ p => ⟨SqL.of (p.1 _ _ ha), SqL.of (p.1 _ _ hc)⟩) ?_ ?_
    · rintro i v σ Hc H' hi ⟨sm, y, x3, x4, acc, rfl, ty, ea, X, hX, eX⟩ ⟨T0, u1, u2, rfl, nT, rfl, h1, h2⟩
      have h1 : us[i]? = some u1 := h1
      have h2 : ws[i]? = some u2 := h2
      obtain ⟨p, hp, x, rfl, tx⟩ := hu.2 i u1 h1
      obtain ⟨r, hr', z, rfl, tz⟩ := hw.2 i u2 h2
      have pz := z1 p (List.mem_of_getElem? hp)
      have rz := z2 r (List.mem_of_getElem? hr')
      obtain ⟨xx, hxx, exx⟩ := g1 p (List.mem_of_getElem? hp)
      obtain ⟨yy, hyy, eyy⟩ := g2 r (List.mem_of_getElem? hr')
      have p16 : 13 * 2 ^ (sz1 + sz2) < 2 ^ (sz1 + sz2 + 4) := by rw [Nat.pow_add 2 (sz1 + sz2) 4]; have : 0 < 2 ^ (sz1 + sz2) := Nat.pow_pos (by decide); omega
      have i13 : i * 2 ^ (sz1 + sz2) ≤ 13 * 2 ^ (sz1 + sz2) := Nat.mul_le_mul_right _ (by omega)
      have za : Pz (sz1 + sz2 + 4) acc := by
        rw [eX]
        exact ⟨lf_n m0, Nat.lt_of_le_of_lt (nT_le m0) (by omega), Nat.lt_of_le_of_lt (nB_le m0) (pow_up (RF.mul_lt e1z e2z) (by omega))⟩
      have sT : Same Hc (upd Hc T0 (.tup [.ref x, .ref z])) := same_new nT
      have sm' := sm.trans sT
      have ty' := sT _ _ ty
      have tt : upd Hc T0 (.tup [.ref x, .ref z]) T0 = some (.tup [.ref x, .ref z]) := upd_same
      generalize upd Hc T0 _ = Hn at *
      refine ⟨T0, _, rfl, SqT.of tt, rfl, _, _, rfl, _, _, rfl, rfl, ?_⟩
      refine ⟨_, rfl, _, rfl, _, rfl, x, z, p, r, rfl, sm' _ _ tx, sm' _ _ tz, pz.pp (by omega), rz.pp (by omega), fun b hb => ?_⟩
      have s2 : Same Hn (upd Hn b (.tup [.int (byP p r).1, .int (byP p r).2])) := same_new hb
      have bz := pz.by_ rz
      refine ⟨y, b, acc, byP p r, rfl, s2 _ _ ty', upd_same, za.pp (by omega), bz.pp (by omega), fun b2 hb2 => ?_⟩
      refine ⟨(sm'.trans s2).trans (same_new hb2), b2, _, _, plusP acc (byP p r), rfl, upd_same, ?_, X + xx * yy, ?_, by rw [eX, exx, eyy]; exact pd_step e10 e20⟩
      rotate_left
      · have := RF.mul_lt hxx hyy
        rw [Nat.succ_mul]
        omega
      rw [take_snoc (x := (p, r)) (by rw [List.getElem?_zip_eq_some]; exact ⟨hp, hr'⟩), List.foldl_append, ← ea]
      rfl
    · rintro σ Hc ⟨sm, y, x3, x4, acc, rfl, ty, ea, _⟩
      rw [List.take_of_length_le (by rw [List.length_zip]; omega)] at ea
      subst ea
      exact ⟨_, rfl, q y Hc ty sm⟩
abbrev sWo : Stmt := FR.top 52
abbrev NWo : List Str := ["_law_row", "_law_line", "_law_place", "_law_turn", "_law_one", "_law_other"]
theorem scWo : FnScope NWo ["_law_row", "_law_line", "_law_place"] (defScope sWo) := ⟨rfl, rfl, rfl, by decide +kernel, rfl, by decide +kernel, by decide +kernel⟩
def negQ (p : PI) : PI := (0 - p.1, p.2)
def woP (ps ls : List PI) (q : Nat) : List PI := List.zipWith (fun p r => plusP p (byP (negQ (ps.getD q (0, 1))) r)) ps ls
theorem Pz.negQ {s : Nat} {p : PI} (h : Pz s p) : Pz s (negQ p) := by
  have e : (FR.negQ p).1 = -p.1 := by show 0 - p.1 = _; omega
  refine ⟨?_, ?_, h.bz⟩
  · rw [e]; exact h.lf.neg
  · rw [e, Int.natAbs_neg]; exact h.tz
def spWo : Sp := fun vs H Q _ => ∃ (a c : Addr) (ps ls : List PI) (j s t : Nat), vs = [.ref a, .ref c, .int (j : Nat)] ∧ PL H a ps ∧ PL H c ls ∧ ps.length = ls.length ∧ ps.length ≤ 90 ∧ j < ps.length ∧ (∀ p ∈ ps, Pz s p) ∧ (∀ p ∈ ls, Pz t p) ∧ s + t ≤ 4000 ∧ ∀ x H', PL H' x (woP ps ls j) → Same H H' → H x = none → Q (.ref x) H'
theorem ok_wo {f : Addr} {fd : FuncData} (F : Fun K "_law_without" "_law_without" sWo f fd) (gA : Glo P w K mg base "_law_plus" 3 N12 (spLP plusP)) (gB : Glo P w K mg base "_law_by" 3 N12 (spLP byP)) (mZ : mg "zip" = none) : FnOk P w K mg base CX0 4 f fd ["_law_row", "_law_line", "_law_place"] spWo := by
  refine F.ok scWo (fun vs H Q E h => ?_) (fun cdv A outer s H vs Q E hr h => ?_)
  · obtain ⟨a, c, ps, ls, j, sz, t, rfl, _⟩ := h
    rfl
  · obtain ⟨a, c, ps, ls, j, sz, t, rfl, ⟨us, ha, hu⟩, ⟨ws, hc, hw⟩, len, l90, hj, z1, z2, st, q⟩ := h
    refine ⟨_, (pss_cons (ps_set (i := 3) scWo.nd rfl (Or.inr rfl) (pe_tup (pa_cons (pe_op op_sub pe_int (pe_ix ix_tup (pe_ix ix_list (pv 0) (pv 2) (fun _ _ => rfl)) pe_int (fun _ _ => rfl))) (pa_cons (pe_ix ix_tup (pe_ix ix_list (pv 0) (pv 2) (fun _ _ => rfl)) pe_int (fun _ _ => rfl)) pa_nil))))
      (pss_one (ps_ret (pe_lc (X := (cxOf CX0 P w K mg base NWo "_law_without" (defScope sWo) f cdv A outer s H E).nox) (own := [("_law_one", 4), ("_law_other", 5)]) (g := (gTup K 2 (gCons (gName 4) (gCons (gName 5) gNil)))) (tt := tYes) rfl scWo.nd (pi_zip (by rfl) mZ (pa_cons (pv 0) (pa_cons (pv 1) pa_nil))) (blkOk_by (N := NWo) (sc := defScope sWo) (by decide +kernel)) (fun _ _ _ _ _ => (pg_tupK (K := K) rfl rfl (pgs_cons (pg_name (i := 4) scWo.nd rfl (.inl rfl)) (pgs_cons (pg_name (i := 5) scWo.nd rfl (.inl rfl)) pgs_nil)))) (fun _ _ _ _ _ => pts_nil) (fun _ _ _ _ _ => (pe_call gA.G hr (by rfl) gA.m gA.k gA.b .nil pass0 (pa_cons (pv 4) (pa_cons (pe_call gB.G hr (by rfl) gB.m gB.k gB.b .nil pass0 (pa_cons (pv 3) (pa_cons (pv 5) pa_nil))) pa_nil)))))))), ?_⟩
    obtain ⟨v, hv⟩ : ∃ v, us[j]? = some v := ⟨_, List.getElem?_eq_getElem (by rw [hu.1]; exact hj)⟩
    obtain ⟨p0, hp0, x0, rfl, t0⟩ := hu.2 j v hv
    have t0 : TA H x0 p0 := t0
    have gj : ps.getD j (0, 1) = p0 := by rw [List.getD_eq_getElem?_getD, hp0]; rfl
    have p0z := z1 p0 (List.mem_of_getElem? hp0)
    refine ⟨_, rfl, _, rfl, a, _, _, _, rfl, rfl, SqL.of ha, atI_nat hv, x0, _, _, _, rfl, rfl, SqT.of t0, rfl, _, _, rfl, rfl, _, rfl, _, rfl, a, _, _, _, rfl, rfl, SqL.of ha, atI_nat hv, x0, _, _, _, rfl, rfl, SqT.of t0, rfl, small1000 (by show 1 ≤ 1000; decide), fun tn htn => ?_⟩
    have s1 : Same H (upd H tn (.tup [.int (0 - p0.1), .int p0.2])) := same_new htn
    have tt : TA (upd H tn (.tup [.int (0 - p0.1), .int p0.2])) tn (negQ p0) := upd_same
    generalize upd H tn _ = H1 at *
    refine ⟨_, rfl, _, rfl, a, c, us, ws, rfl, SqL.of (s1 _ _ ha), SqL.of (s1 _ _ hc), fun D hD => ?_⟩
    refine lz_pl (ps := ps) (rs := ls) len (by omega) (fun p r => plusP p (byP (negQ p0) r)) hD (s1 _ _ ha) (hu.same s1) (s1 _ _ hc) (hw.same s1) (fun _ _ => rfl) ?_ ?_
    · intro i p r x y H2 Q2 hp hr' tx ty s2 k
      have pz := z1 p (List.mem_of_getElem? hp)
      have rz := z2 r (List.mem_of_getElem? hr')
      have bz := p0z.negQ.by_ rz
      refine ⟨_, rfl, _, rfl, _, rfl, tn, y, negQ p0, r, rfl, s2 _ _ tt, ty, p0z.negQ.pp (by omega), rz.pp (by omega), fun b hb => ?_⟩
      have s3 : Same H2 (upd H2 b (.tup [.int (byP (negQ p0) r).1, .int (byP (negQ p0) r).2])) := same_new hb
      refine ⟨x, b, p, byP (negQ p0) r, rfl, s3 _ _ tx, upd_same, pz.pp (by omega), bz.pp (by omega), fun b2 hb2 => ?_⟩
      exact k b2 _ upd_same (s3.trans (same_new hb2))
    · intro H2 s2 pl
      refine q D H2 ?_ (s1.trans s2) (Same.free s1 hD)
      unfold woP
      rw [gj]
      exact pl
end
end FR
set_option Elab.async false
set_option linter.all false
set_option maxRecDepth 100000
set_option maxHeartbeats 4000000
namespace FR
open PySem PySem.Spec PyProof.Rows L2 LD RF
/-- a list of lists of pairs -/
def LL (H : Hp) (a : Addr) (pss : List (List PI)) : Prop := ∃ vs, H a = some (.lst vs) ∧ AG (fun v ps => ∃ q, v = .ref q ∧ PL H q ps) vs pss
theorem LL.same {H H' : Hp} {a : Addr} {pss : List (List PI)} (h : LL H a pss) (s : Same H H') : LL H' a pss := by
  obtain ⟨vs, e, z⟩ := h
  exact ⟨vs, s _ _ e, z.imp fun _ _ ⟨q, e, t⟩ => ⟨q, e, t.same s⟩⟩
theorem PL.ne {d : Addr} {H : Hp} {a : Addr} {ps : List PI} (h : PL H a ps) (hd : DiceAt H d) : a ≠ d := fun z => by
  obtain ⟨us, e, f⟩ := h
  obtain ⟨x, y, w, hd⟩ := hd
  rw [z, hd] at e
  cases e
  obtain ⟨p, _, q, e, _⟩ := f.2 0 _ rfl
  cases e
theorem LL.ne {d : Addr} {H : Hp} {a : Addr} {pss : List (List PI)} (h : LL H a pss) (hd : DiceAt H d) : a ≠ d := fun z => by
  obtain ⟨us, e, f⟩ := h
  obtain ⟨x, y, w, hd⟩ := hd
  rw [z, hd] at e
  cases e
  obtain ⟨p, _, q, e, _⟩ := f.2 0 _ rfl
  cases e
theorem LL.rl {d : Addr} {H H' : Hp} {a : Addr} {pss : List (List PI)} (h : LL H a pss) (hd : DiceAt H d) (r : Rl d H H') : LL H' a pss := by
  have n := h.ne hd
  obtain ⟨us, e, z⟩ := h
  exact ⟨us, r.2 _ _ n e, z.imp fun _ _ ⟨q, e, t⟩ => ⟨q, e, t.rl (t.ne hd) hd r⟩⟩
/-- a tuple of tuples of fractions, of any size -/
def TT (C : Addr) (H : Hp) (a : Addr) (pss : List (List PI)) : Prop := ∃ vs, H a = some (.tup vs) ∧ AG (fun v ps => ∃ q, v = .ref q ∧ TV C H q ps) vs pss
theorem TT.same {C : Addr} {H H' : Hp} {a : Addr} {pss : List (List PI)} (h : TT C H a pss) (s : Same H H') : TT C H' a pss := by
  obtain ⟨vs, e, z⟩ := h
  exact ⟨vs, s _ _ e, z.imp fun _ _ ⟨q, e, t⟩ => ⟨q, e, t.same s⟩⟩
theorem TV.rl {C d : Addr} {H H' : Hp} {a : Addr} {ps : List PI} (h : TV C H a ps) (hd : DiceAt H d) (r : Rl d H H') : TV C H' a ps := by
  obtain ⟨xs, e, z⟩ := h
  have n : a ≠ d := fun w => by
    obtain ⟨_, _, _, hd⟩ := hd
    rw [w, hd] at e; cases e
  exact ⟨xs, r.2 _ _ n e, z.rl hd r⟩
section
variable {P : Program} {w : World} {K : PySem.W.Frag} {mg : Str → Option Value} {base : Heap} {C fI pT gT pB gB : Addr} {fdI fdT fdB : FuncData}
abbrev sMx : Stmt := FR.top 48
abbrev NMx : List Str := ["_law_lines_here", "_law_factors", "_law_place", "_law_row"]
theorem scMx : FnScope NMx ["_law_lines_here", "_law_factors"] (defScope sMx) := ⟨rfl, rfl, rfl, by decide +kernel, rfl, by decide +kernel, by decide +kernel⟩
abbrev lcMx : Scope := lcSc (retE ((defBody sMx).getD 0 (.Pass ⟨0, 0, 0, 0⟩)))
def mixL (pss : List (List PI)) (cs : List PI) (n : Nat) : List PI := (List.range n).map fun j => prodP (pss.map fun ps => ps.getD j (0, 1)) cs
def spMx : Sp := fun vs H Q _ => ∃ (a c : Addr) (pss : List (List PI)) (cs : List PI) (n s1 s2 : Nat), vs = [.ref a, .ref c] ∧ LL H a pss ∧ PL H c cs ∧ pss.length = cs.length ∧ 0 < pss.length ∧ pss.length ≤ 13 ∧ n ≤ 90 ∧ (∀ ps ∈ pss, ps.length = n) ∧ (∀ j, j < n → Cd s1 (pss.map fun ps => ps.getD j (0, 1))) ∧ Cd s2 cs ∧ s1 + s2 ≤ 3980 ∧ ∀ x H', PL H' x (mixL pss cs n) → Same H H' → Q (.ref x) H'
theorem ok_mx {f : Addr} {fd : FuncData} (F : Fun K "_law_mix" "_law_mix" sMx f fd) (gP : Glo P w K mg base "_law_product" 4 ["_law_row", "_law_column"] spPd) (mR : mg "range" = none) (mL : mg "len" = none) : FnOk P w K mg base CX0 5 f fd ["_law_lines_here", "_law_factors"] spMx := by
  refine F.ok scMx (fun vs H Q E h => ?_) (fun cdv A outer s H vs Q E hr h => ?_)
  · obtain ⟨a, c, pss, cs, n, s1, s2, rfl, _⟩ := h
    rfl
  · obtain ⟨a, c, pss, cs, n, sz1, sz2, rfl, ⟨vs, ha, hv⟩, pc, len, pos, l5, n90, ln, z1, z2, st, q⟩ := h
    refine ⟨_, (pss_one (ps_ret (pe_lc (X := (cxOf CX0 P w K mg base NMx "_law_mix" (defScope sMx) f cdv A outer s H E).nox) (own := [("_law_place", 2)]) (g := (gName 2)) (tt := tYes) rfl scMx.nd (pi_range1 (by rfl) mR (pa_cons (pe_callB call_len_seq (by rfl) mL PySem.boot_len (pa_cons (pe_ix ix_list (pv 0) pe_int (fun _ _ => rfl)) pa_nil)) pa_nil)) (blkOk_by (N := NMx) (sc := defScope sMx) (by decide +kernel)) (fun _ _ _ _ _ => (pg_name (i := 2) scMx.nd rfl (.inr rfl))) (fun _ _ _ _ _ => pts_nil) (fun s0 H0 C0 cl0 fp0 => (pe_call gP.G hr (by rfl) gP.m gP.k gP.b .nil pass0 (pa_cons (pe_lc (X := (((cxOf CX0 P w K mg base NMx "_law_mix" (defScope sMx) f cdv A outer s H E).nox).blk s0 H0 lcMx (compEnvC lcMx cl0 C0 ((cxOf CX0 P w K mg base NMx "_law_mix" (defScope sMx) f cdv A outer s H E).nox).env) fp0)) (own := [("_law_row", 3)]) (g := (gName 3)) (tt := tYes) rfl scMx.nd (pi_listK (K := K) rfl (pv 0)) (blkOk_by (N := NMx) (sc := relS lcMx (defScope sMx)) (by decide +kernel)) (fun _ _ _ _ _ => (pg_name (i := 3) scMx.nd rfl (.inl rfl))) (fun _ _ _ _ _ => pts_nil) (fun _ _ _ _ _ => (pe_ix (ix_listK (K := K) rfl) (pv 3) (pv 2) (fun _ _ => rfl)))) (pa_cons (pv 1) pa_nil))))))), ?_⟩
    obtain ⟨q0, us0, hq0, hx0, l0⟩ : ∃ q0 us0, vs[0]? = some (.ref q0) ∧ H q0 = some (.lst us0) ∧ us0.length = n := by
      obtain ⟨v0, h0⟩ : ∃ v0, vs[0]? = some v0 := ⟨_, List.getElem?_eq_getElem (by rw [hv.1]; exact pos)⟩
      obtain ⟨p0, hp0, q0, rfl, us0, e0, f0⟩ := hv.2 0 v0 h0
      exact ⟨q0, us0, h0, e0, by rw [f0.1]; exact ln p0 (List.mem_of_getElem? hp0)⟩
    refine ⟨_, rfl, a, _, 0, _, rfl, rfl, SqL.of ha, atI_nat (j := 0) hq0, q0, us0, rfl, .inl (SqL.of hx0), (us0.length : Int), rfl, by omega, by omega, fun D hD => ?_⟩
    have nat : (us0.length : Int).toNat = n := by omega
    rw [nat]
    refine lc_range (lo := 0) (n := n) (fun i Hc => Same H Hc ∧ ∃ zs, Hc D = some (.lst zs) ∧ TPs Hc zs ((mixL pss cs n).take i)) ⟨same_new hD, [], upd_same, A2.nil⟩ ?_ ?_
    · rintro i Hc hi ⟨sm, zs, hDc, hz⟩
      have e : (0 : Int) + (i : Nat) = (i : Nat) := by omega
      rw [e]
      have ha1 := sm _ _ ha
      refine ⟨rfl, _, rfl, a, rfl, ⟨_, SqL.of ha1⟩, fun D2 hD2 => ?_⟩
      refine lc_list (xs := vs) (fun j Hx => Same Hc Hx ∧ ∃ ws, Hx D2 = some (.lst ws) ∧ TPs Hx ws ((pss.map fun ps => ps.getD i (0, 1)).take j)) ⟨same_new hD2, [], upd_same, A2.nil⟩ (fun j Hx _ p => SqL.of (p.1 _ _ ha1)) ?_ ?_
      · rintro j v Hx hvj ⟨s2, ws, hD3, hw⟩
        obtain ⟨ps, hps, q1, rfl, pl⟩ := hv.2 j v hvj
        have mp := List.mem_of_getElem? hps
        obtain ⟨xs, hx, hf⟩ := pl.same (sm.trans s2)
        have lx : i < xs.length := by rw [hf.1, ln ps mp]; exact hi
        have gx : xs[i]? = some xs[i] := List.getElem?_eq_getElem lx
        obtain ⟨p, hp, x, ex, tx⟩ := hf.2 i _ gx
        have jl := (List.getElem?_eq_some_iff.mp hps).1
        refine ⟨rfl, _, rfl, _, rfl, q1, _, _, _, rfl, rfl, SqL.of hx, atI_nat gx, ws, hD3, small1000 (by rw [hw.1, List.length_take]; omega), same_upd hD2 s2, ws ++ [xs[i]], upd_same, ?_⟩
        rw [take_snoc (x := p) (by rw [List.getElem?_map, hps]; show some (ps.getD i (0, 1)) = _; rw [List.getD_eq_getElem?_getD, hp]; rfl)]
        exact A2.snoc (hw.updl hD3) ⟨x, ex, tup_updl tx hD3⟩
      · rintro Hx ⟨s2, ws, hD3, hw⟩
        rw [List.take_of_length_le (by rw [List.length_map, hv.1]; exact Nat.le_refl _)] at hw
        have pl : PL Hx D2 (pss.map fun ps => ps.getD i (0, 1)) := ⟨ws, hD3, hw⟩
        refine ⟨_, rfl, D2, c, _, cs, sz1, sz2, rfl, pl, pc.same (sm.trans s2), by rw [List.length_map]; exact len, by rw [List.length_map]; exact l5, z1 i hi, z2, st, fun x H2 tx s3 => ?_⟩
        · have s23 := s2.trans s3
          have e := s23 _ _ hDc
          refine ⟨zs, e, small1000 (by rw [hz.1, List.length_take]; omega), same_upd hD (sm.trans s23), zs ++ [.ref x], upd_same, ?_⟩
          rw [take_snoc (x := prodP (pss.map fun ps => ps.getD i (0, 1)) cs) (by unfold mixL; rw [List.getElem?_map, List.getElem?_range hi]; rfl)]
          exact A2.snoc ((hz.same s23).updl e) ⟨x, rfl, tup_updl tx e⟩
    · rintro Hc ⟨sm, zs, hDc, hz⟩
      rw [List.take_of_length_le (by unfold mixL; rw [List.length_map, List.length_range]; exact Nat.le_refl _)] at hz
      exact q D Hc ⟨zs, hDc, hz⟩ sm
abbrev sSl : Stmt := FR.top 50
abbrev NSl : List Str := ["_law_dice_here", "_law_lines_here", "_law_row"]
theorem scSl : FnScope NSl ["_law_dice_here", "_law_lines_here"] (defScope sSl) := ⟨rfl, rfl, rfl, by decide +kernel, rfl, by decide +kernel, by decide +kernel⟩
def spSl (C : Addr) : Sp := fun vs H Q _ => ∃ (d a : Addr) (pss : List (List PI)), vs = [.ref d, .ref a] ∧ DiceAt H d ∧ LL H a pss ∧ pss.length ≤ 90 ∧ (∀ ps ∈ pss, ps.length ≤ 90 ∧ ∀ p ∈ ps, Pz 4000 p) ∧ ∀ t H', TT C H' t pss → Rl d H H' → Q (.ref t) H'
theorem ok_sl {f : Addr} {fd : FuncData} (F : Fun K "_law_shown_lines" "_law_shown_lines" sSl f fd) (gS : Glo P w K mg base "_law_shown_row" 5 ["_law_dice_here", "_law_pairs_here"] (spSr C)) (mT : mg "tuple" = none) : FnOk P w K mg base CX0 6 f fd ["_law_dice_here", "_law_lines_here"] (spSl C) := by
  refine F.ok scSl (fun vs H Q E h => ?_) (fun cdv A outer s H vs Q E hr h => ?_)
  · obtain ⟨d, a, pss, rfl, _⟩ := h
    rfl
  · obtain ⟨d, a, pss, rfl, hd, ll, l90, hz, q⟩ := h
    have ad := ll.ne hd
    obtain ⟨vs, ha, hv⟩ := ll
    refine ⟨_, (pss_one (ps_ret (pe_callTy call_tuple_of (by rfl) mT (by decide +kernel) (pa_cons (pe_lc (X := (cxOf CX0 P w K mg base NSl "_law_shown_lines" (defScope sSl) f cdv A outer s H E).nox) (own := [("_law_row", 2)]) (g := (gName 2)) (tt := tYes) rfl scSl.nd (pi_list (pv 1)) (blkOk_by (N := NSl) (sc := defScope sSl) (by decide +kernel)) (fun _ _ _ _ _ => (pg_name (i := 2) scSl.nd rfl (.inl rfl))) (fun _ _ _ _ _ => pts_nil) (fun _ _ _ _ _ => (pe_call gS.G hr (by rfl) gS.m gS.k gS.b .nil pass0 (pa_cons (pv 0) (pa_cons (pv 2) pa_nil))))) pa_nil)))), ?_⟩
    refine ⟨_, rfl, a, rfl, ⟨_, SqL.of ha⟩, fun D hD => ?_⟩
    have Dd := dice_ne hd hD
    refine lc_list (xs := vs) (fun i Hc => Rl d H Hc ∧ ∃ ws, Hc D = some (.lst ws) ∧ AG (fun v ps => ∃ q, v = .ref q ∧ TV C Hc q ps) ws (pss.take i)) ⟨(Rl.refl hd).grow hD Dd, [], upd_same, AG.nil⟩ (fun i Hc _ p => SqL.of (p.1.2 _ _ ad ha)) ?_ ?_
    · rintro i v Hc hvi ⟨r, ws, hDc, hw⟩
      obtain ⟨ps, hp, x, rfl, px⟩ := hv.2 i v hvi
      have mp := List.mem_of_getElem? hp
      have il := (List.getElem?_eq_some_iff.mp hp).1
      have xd := px.ne hd
      have px2 := px.rl xd hd r
      refine ⟨rfl, _, rfl, _, rfl, d, x, ps, rfl, r.1, px2, xd, (hz ps mp).1, (hz ps mp).2, fun t H2 tv r2 nt => ?_⟩
      have e := r2.2 _ _ Dd hDc
      have up : ∀ q ps, TV C H2 q ps → TV C (upd H2 D (.lst (ws ++ [.ref t]))) q ps := fun q ps ⟨xs, h1, h2⟩ => ⟨xs, tup_updl h1 e, h2.updl e⟩
      refine ⟨ws, e, small1000 (by rw [hw.1, List.length_take]; omega), (r.trans r2).grow hD Dd, ws ++ [.ref t], upd_same, ?_⟩
      rw [take_snoc hp]
      exact AG.snoc (hw.imp fun _ _ ⟨q, e', tq⟩ => ⟨q, e', up _ _ (tq.rl r.1 r2)⟩) ⟨t, rfl, up _ _ tv⟩
    · rintro Hc ⟨r, ws, hDc, hw⟩
      rw [List.take_of_length_le (by rw [hv.1]; exact Nat.le_refl _)] at hw
      refine ⟨D, _, rfl, .inl ⟨SqL.of hDc, fun t ht => ?_⟩⟩
      exact q t _ ⟨ws, upd_same, hw.imp fun _ _ ⟨q, e, tq⟩ => ⟨q, e, tq.same (same_new ht)⟩⟩ (r.new ht)
abbrev sAt : Stmt := FR.top 56
abbrev NAt : List Str := ["_law_numbers", "_law_one"]
theorem scAt : FnScope NAt ["_law_numbers"] (defScope sAt) := ⟨rfl, rfl, rfl, by decide +kernel, rfl, by decide +kernel, by decide +kernel⟩
theorem call_isiK {X : Cx} {K : PySem.W.Frag} (hK : X.K = K) : CallR X (.builtin "isinstance") (rIsi K) := by
  subst hK
  exact call_isi
def spAt (C : Addr) : Sp := fun vs H Q _ => ∃ (a : Addr) (ps : List PI), vs = [.ref a] ∧ TFr C H a ps ∧ ∀ H', Same H H' → Q (.bl true) H'
theorem ok_at {f : Addr} {fd : FuncData} (F : Fun K "_law_are_told" "_law_are_told" sAt f fd) (k : FrK P w K mg base C fI pT gT pB gB fdI fdT fdB) (mI : mg "isinstance" = none) : FnOk P w K mg base CX0 1 f fd ["_law_numbers"] (spAt C) := by
  refine F.ok scAt (fun vs H Q E h => ?_) (fun cdv A outer s H vs Q E hr h => ?_)
  · obtain ⟨a, ps, rfl, _⟩ := h
    rfl
  · obtain ⟨a, ps, rfl, ⟨xs, hx, hf⟩, q⟩ := h
    refine ⟨_, (pss_one (ps_ret (pe_cmpR (op_eqD hr.units) (pe_lc (X := (cxOf CX0 P w K mg base NAt "_law_are_told" (defScope sAt) f cdv A outer s H E).nox) (own := [("_law_one", 1)]) (g := (gName 1)) rfl scAt.nd (pi_tup (pv 0)) (blkOk_by (N := NAt) (sc := defScope sAt) (by decide +kernel)) (fun _ _ _ _ _ => (pg_name (i := 1) scAt.nd rfl (.inl rfl))) (fun _ _ _ _ _ => (pts_one (pt_not (pt_val (pe_callB (call_isiK (K := K) rfl) (by rfl) mI PyProof.Rows.boot_isinstance (pa_cons (pv 1) (pa_cons (pe_glob (v := .ref C) (by rfl) k.T.mC rfl) pa_nil))))))) (fun _ _ _ _ _ => pe_int)) (pe_lst pa_nil) (nomark _)))), ?_⟩
    refine ⟨_, rfl, a, rfl, ⟨_, SqT.of hx⟩, fun D hD => ?_⟩
    refine lc_tup (xs := xs) (fun i Hc => Same H Hc ∧ Hc D = some (.lst [])) ⟨same_new hD, upd_same⟩ (fun i Hc _ p => SqT.of (p.1 _ _ hx)) ?_ ?_
    · rintro i v Hc hvi ⟨sm, hDc⟩
      obtain ⟨p, hp, x, rfl, dx, fx⟩ := hf.2 i v hvi
      have fx := sm _ _ fx
      refine ⟨rfl, _, rfl, _, _, _, _, true, rfl, .own _, .base (.ins fx k.T.cl k.ha k.hn k.tk k.hm), kit_self K C, _, rfl, ?_⟩
      exact ⟨sm, hDc⟩
    · rintro Hc ⟨sm, hDc⟩
      refine ⟨Nat.zero_le _, fun l hl => ?_⟩
      refine ⟨.list [], .list [], Dp.lst (SqL.of (same_new hl _ _ hDc)) .nil, Dp.lst (SqL.of upd_same) .nil, rfl, rfl, ?_⟩
      have e : PyData.eqv (.list []) (.list []) = true := by decide +kernel
      rw [e]
      exact q _ (sm.trans (same_new hl))
end
end FR
set_option Elab.async false
set_option linter.all false
set_option maxRecDepth 100000
set_option maxHeartbeats 4000000
/-! pairs as rational numbers -/
namespace FR
open RF
theorem val_neg {p : PI} : val (negQ p) = - val p := by
  show ((0 - p.1 : Int) : Rat) / p.2 = _
  rw [Rat.intCast_sub]
  unfold val
  grind
theorem val_inv {p : PI} (h : p.1 ≠ 0) : val (invP p) = 1 / val p := by
  have h1 := cast_ne h
  unfold invP
  split
  · unfold val; grind
  · show ((0 - p.2 : Int) : Rat) / ((0 - p.1 : Int) : Rat) = _
    rw [Rat.intCast_sub, Rat.intCast_sub]
    unfold val; grind
theorem Pz.inv {s : Nat} {p : PI} (h : Pz s p) (n : p.1 ≠ 0) : Pz s (invP p) := by
  have g : Nat.gcd p.2.natAbs p.1.natAbs = 1 := by rw [Nat.gcd_comm]; exact h.lf.2
  have b := h.lf.1
  unfold invP
  split
  · next z => exact ⟨⟨z, g⟩, h.bz, h.tz⟩
  · next z =>
    have e1 : (0 - p.2).natAbs = p.2.natAbs := by omega
    have e2 : (0 - p.1).natAbs = p.1.natAbs := by omega
    refine ⟨⟨by show 0 < 0 - p.1; omega, ?_⟩, ?_, ?_⟩
    · show Nat.gcd (0 - p.2).natAbs (0 - p.1).natAbs = 1
      rw [e1, e2]; exact g
    · show (0 - p.2).natAbs < _
      rw [e1]; exact h.bz
    · show (0 - p.1).natAbs < _
      rw [e2]; exact h.tz
theorem valV_wo {ps ls : List PI} {q s t : Nat} (hl : ps.length = ls.length) (hq : q < ps.length) (h1 : ∀ p ∈ ps, Pz s p) (h2 : ∀ p ∈ ls, Pz t p) (j : Nat) : valV (woP ps ls q) j = valV ps j - valV ps q * valV ls j := by
  have lq := h1 _ (getD_mem hq)
  by_cases hj : j < ps.length
  · obtain ⟨p, hp⟩ : ∃ p, ps[j]? = some p := ⟨_, List.getElem?_eq_getElem hj⟩
    obtain ⟨r, hr⟩ : ∃ r, ls[j]? = some r := ⟨_, List.getElem?_eq_getElem (by omega)⟩
    have zp := h1 p (List.mem_of_getElem? hp)
    have zr := h2 r (List.mem_of_getElem? hr)
    rw [valV_get (p := plusP p (byP (negQ (ps.getD q (0, 1))) r)) (by unfold woP; rw [List.getElem?_zipWith, hp, hr]), valV_get hp, valV_get hr, val_plus zp.lf (lq.negQ.by_ zr).lf, val_by lq.negQ.lf zr.lf, val_neg]
    show _ = _ - val (ps.getD q (0, 1)) * _
    grind
  · rw [valV_out (by unfold woP; rw [List.length_zipWith]; omega), valV_out (by omega), valV_out (ps := ls) (by omega)]; grind
/-- the two cleared forms are alike, row by row -/
def lsP (a : List PI) (c : Nat) : List PI := a.map (byP (invP (a.getD c (0, 1))))
theorem valV_ls {a : List PI} {c s : Nat} (hc : c < a.length) (h : ∀ p ∈ a, Pz s p) (n : (a.getD c (0, 1)).1 ≠ 0) (j : Nat) : valV (lsP a c) j = valV a j / valV a c := by
  have z := h _ (getD_mem hc)
  have vc : valV a c = val (a.getD c (0, 1)) := rfl
  have v0 : val (a.getD c (0, 1)) ≠ 0 := fun e => n ((val_zero z.lf).mp e)
  by_cases hj : j < a.length
  · obtain ⟨p, hp⟩ : ∃ p, a[j]? = some p := ⟨_, List.getElem?_eq_getElem hj⟩
    have zp := h p (List.mem_of_getElem? hp)
    rw [valV_get (p := byP (invP (a.getD c (0, 1))) p) (by unfold lsP; rw [List.getElem?_map, hp]; rfl), valV_get hp, vc, val_by (z.inv n).lf zp.lf, val_inv n]
    grind
  · rw [valV_out (by unfold lsP; rw [List.length_map]; omega), valV_out (by omega)]; grind
def clk : Nat → Nat
  | 0 => 20
  | k + 1 => 2 * clk k + 1
theorem Cd.ls {s c : Nat} {a : List PI} (h : Cd s a) (hc : c < a.length) (n : (a.getD c (0, 1)).1 ≠ 0) : Cd s (lsP a c) := by
  have z := h.pz
  obtain ⟨e, e0, ez, g⟩ := h
  obtain ⟨xc, hxc, exc⟩ := g _ (getD_mem hc)
  have n2 : nT xc e ≠ 0 := by rw [exc] at n; exact n
  have xc0 : xc ≠ 0 := fun w => n2 (by have := nT_le (t := xc) e0; rw [w] at this ⊢; simpa using this)
  refine ⟨xc, xc0, hxc, fun p m => ?_⟩
  unfold lsP at m
  obtain ⟨q, mq, rfl⟩ := List.mem_map.mp m
  obtain ⟨x, hx, ex⟩ := g q mq
  refine ⟨x, hx, ?_⟩
  have zi := (z _ (getD_mem hc)).inv n
  have l2 := (z q mq).lf
  have l3 : Lf (byP (invP (a.getD c (0, 1))) q).1 (byP (invP (a.getD c (0, 1))) q).2 := lf_n (Int.mul_ne_zero zi.lf.ne l2.ne)
  refine val_inj l3 (lf_n xc0) ?_
  rw [val_by zi.lf l2, val_inv n, val_n xc0, exc, ex, val_n e0, val_n e0]
  have h1 := cast_ne e0
  have h2 := cast_ne xc0
  grind
theorem Cd.wo {s t q : Nat} {ps ls : List PI} (h : Cd s ps) (g : Cd t ls) (hq : q < ps.length) : Cd (s + t + 1) (woP ps ls q) := by
  have z1 := h.pz
  have z2 := g.pz
  obtain ⟨e, e0, ez, h3⟩ := h
  obtain ⟨f, f0, fz, g3⟩ := g
  refine ⟨e * f, Int.mul_ne_zero e0 f0, pow_up (RF.mul_lt ez fz) (by omega), fun p m => ?_⟩
  obtain ⟨i, hi⟩ := List.mem_iff_getElem?.mp m
  unfold woP at hi
  rw [List.getElem?_zipWith] at hi
  cases e1 : ps[i]? with
  | none => rw [e1] at hi; cases hi
  | some u =>
    cases e2 : ls[i]? with
    | none => rw [e1, e2] at hi; cases hi
    | some v =>
      rw [e1, e2] at hi
      rw [← Option.some.inj hi]
      have mu := List.mem_of_getElem? e1
      have mv := List.mem_of_getElem? e2
      obtain ⟨x, hx, ex⟩ := h3 u mu
      obtain ⟨y, hy, ey⟩ := g3 v mv
      obtain ⟨w, hw, ew⟩ := h3 _ (getD_mem hq)
      have lu := (z1 u mu).lf
      have lv := (z2 v mv).lf
      have lw := (z1 _ (getD_mem hq)).negQ.lf
      refine ⟨x * f - w * y, ?_, ?_⟩
      · have a := RF.mul_lt hx fz
        have b := RF.mul_lt hw hy
        have c := RF.add_lt a b
        have d : 2 ^ (s + t) + 2 ^ (s + t) = 2 ^ (s + t + 1) := by rw [Nat.pow_succ]; omega
        omega
      · have lb : Lf (byP (negQ (ps.getD q (0, 1))) v).1 (byP (negQ (ps.getD q (0, 1))) v).2 := lf_n (Int.mul_ne_zero lw.ne lv.ne)
        refine val_inj (lf_n (Int.mul_ne_zero lu.ne lb.ne)) (lf_n (Int.mul_ne_zero e0 f0)) ?_
        rw [val_plus lu lb, val_by lw lv, val_neg, val_n (Int.mul_ne_zero e0 f0), ew, ex, ey, val_n e0, val_n e0, val_n f0, Rat.intCast_sub, Rat.intCast_mul, Rat.intCast_mul, Rat.intCast_mul]
        have h1 := cast_ne e0
        have h2 := cast_ne f0
        grind
/-- one state of the law's own clearing -/
structure CS (n c : Nat) (left found : List (List PI)) (pl : List Nat) (L : List Vec) : Prop where
  ln : found.length = pl.length
  lz : ∀ ps ∈ left, ps.length = n ∧ Cd (clk found.length) ps
  fz : ∀ ps ∈ found, ps.length = n ∧ Cd (clk found.length) ps
  pf : PForm c found.length (fun i => valV (found.getD i [])) (fun i => pl.getD i 0) (left.map valV) L
theorem CS.lzp {n c : Nat} {left found : List (List PI)} {pl : List Nat} {L : List Vec} (X : CS n c left found pl L) : ∀ ps ∈ left, ps.length = n ∧ ∀ p ∈ ps, Pz (clk found.length) p := fun ps m => ⟨(X.lz ps m).1, (X.lz ps m).2.pz⟩
theorem CS.fzp {n c : Nat} {left found : List (List PI)} {pl : List Nat} {L : List Vec} (X : CS n c left found pl L) : ∀ ps ∈ found, ps.length = n ∧ ∀ p ∈ ps, Pz (clk found.length) p := fun ps m => ⟨(X.fz ps m).1, (X.fz ps m).2.pz⟩
theorem pf_cg {c k : Nat} {R R' : Nat → Vec} {P P' : Nat → Nat} {Lf L : List Vec} (F : PForm c k R P Lf L) (hR : ∀ i, i < k → ∀ j, R' i j = R i j) (hP : ∀ i, i < k → P' i = P i) : PForm c k R' P' Lf L := by
  refine ⟨fun i hi => by rw [hP i hi]; exact F.pc i hi, fun i m h g => by rw [hP i (by omega), hP m g]; exact F.up i m h g, fun i m h g => by rw [hP m g, hR i h]; exact F.piv i m h g, fun i j h g => by rw [hR i h]; rw [hP i h] at g; exact F.lead i j h g, fun i hi => (F.spn i hi).of_eq (hR i hi), F.lz, F.ls, fun x hx => (F.phi x hx).of_eq fun j => ?_⟩
  rw [S_congr fun i hi => by rw [hP i hi, hR i hi]]
theorem CS.skip {n c : Nat} {left found : List (List PI)} {pl : List Nat} {L : List Vec} (X : CS n c left found pl L) (h : ∀ ps ∈ left, (ps.getD c (0, 1)).1 = 0) (hc : c < n) : CS n (c + 1) left found pl L := by
  refine ⟨X.ln, X.lz, X.fz, X.pf.skip fun w hw => ?_⟩
  obtain ⟨ps, m, rfl⟩ := List.mem_map.mp hw
  show val (ps.getD c (0, 1)) = 0
  exact (val_zero ((X.lzp ps m).2 _ (getD_mem (by rw [(X.lz ps m).1]; exact hc))).lf).mpr (h ps m)
theorem CS.step {n c k0 : Nat} {left found : List (List PI)} {pl : List Nat} {L : List Vec} (X : CS n c left found pl L) {a : List PI} (ha : left[k0]? = some a) (n0 : (a.getD c (0, 1)).1 ≠ 0) (hc : c < n) :
    CS n (c + 1) ((left.eraseIdx k0).map fun ps => woP ps (lsP a c) c) ((found.map fun ps => woP ps (lsP a c) c) ++ [lsP a c]) (pl ++ [c]) L := by
  have ma := List.mem_of_getElem? ha
  obtain ⟨al, ac⟩ := X.lz a ma
  have az := ac.pz
  have ca : c < a.length := by rw [al]; exact hc
  have zc := az _ (getD_mem ca)
  have lsl : (lsP a c).length = n := by unfold lsP; rw [List.length_map, al]
  have lsc := ac.ls ca n0
  have lsz := lsc.pz
  have va0 : valV a c ≠ 0 := fun e => n0 ((val_zero zc.lf).mp e)
  have fl0 : ((found.map fun ps => woP ps (lsP a c) c) ++ [lsP a c]).length = found.length + 1 := by rw [List.length_append, List.length_map]; rfl
  have woz : ∀ ps, (ps.length = n ∧ Cd (clk found.length) ps) → (woP ps (lsP a c) c).length = n ∧ Cd (clk (found.length + 1)) (woP ps (lsP a c) c) := fun ps ⟨h1, h2⟩ =>
    ⟨by unfold woP; rw [List.length_zipWith, h1, lsl]; omega, (h2.wo lsc (by rw [h1]; exact hc)).up (by simp only [clk]; omega)⟩
  have vw : ∀ ps, (ps.length = n ∧ Cd (clk found.length) ps) → ∀ j, valV (woP ps (lsP a c) c) j = wo (valV a) c (valV ps) j := fun ps ⟨h1, h2⟩ j => by
    rw [valV_wo (by rw [h1, lsl]) (by rw [h1]; exact hc) h2.pz lsz, valV_ls ca az n0]
    rfl
  refine ⟨by rw [List.length_append, List.length_append, List.length_map, X.ln]; rfl, fun ps hp => ?_, fun ps hp => ?_, ?_⟩
  · rw [fl0]
    obtain ⟨r, hr, rfl⟩ := List.mem_map.mp hp
    exact woz r (X.lz r (List.mem_of_mem_eraseIdx hr))
  · rw [fl0]
    rcases List.mem_append.mp hp with z | z
    · obtain ⟨r, hr, rfl⟩ := List.mem_map.mp z
      exact woz r (X.fz r hr)
    · rw [List.mem_singleton.mp z]
      exact ⟨lsl, lsc.up (by simp only [clk]; omega)⟩
  · have fl : ((found.map fun ps => woP ps (lsP a c) c) ++ [lsP a c]).length = found.length + 1 := by rw [List.length_append, List.length_map]; rfl
    rw [fl]
    have st := X.pf.step (a := valV a) (Lf' := ((left.eraseIdx k0).map fun ps => woP ps (lsP a c) c).map valV) (List.mem_map.mpr ⟨a, ma, rfl⟩) va0 (fun y hy => by
        obtain ⟨r, hr, rfl⟩ := List.mem_map.mp hy
        obtain ⟨ps, hps, rfl⟩ := List.mem_map.mp hr
        have m := List.mem_of_mem_eraseIdx hps
        exact ⟨valV ps, List.mem_map.mpr ⟨ps, m, rfl⟩, funext (vw ps (X.lz ps m))⟩) (fun w hw => by
        obtain ⟨ps, m, rfl⟩ := List.mem_map.mp hw
        obtain ⟨i, hi⟩ := List.mem_iff_getElem?.mp m
        by_cases e : i = k0
        · subst e
          rw [ha] at hi
          cases hi
          exact .inr rfl
        · refine .inl (List.mem_map.mpr ⟨woP ps (lsP a c) c, List.mem_map.mpr ⟨ps, List.mem_eraseIdx_iff_getElem?.mpr ⟨i, e, hi⟩, rfl⟩, funext (vw ps (X.lz ps m))⟩))
    refine pf_cg st (fun i hi j => ?_) fun i hi => ?_
    · show valV (((found.map fun ps => woP ps (lsP a c) c) ++ [lsP a c]).getD i []) j = newR found.length _ (valV a) c i j
      unfold newR
      by_cases z : i < found.length
      · simp only [if_pos z]
        obtain ⟨f0, hf0⟩ : ∃ f0, found[i]? = some f0 := ⟨_, List.getElem?_eq_getElem z⟩
        have g1 : ((found.map fun ps => woP ps (lsP a c) c) ++ [lsP a c]).getD i [] = woP f0 (lsP a c) c := by
          rw [List.getD_eq_getElem?_getD, List.getElem?_append_left (by rw [List.length_map]; exact z), List.getElem?_map, hf0]; rfl
        have g2 : found.getD i [] = f0 := by rw [List.getD_eq_getElem?_getD, hf0]; rfl
        rw [g1, g2, vw f0 (X.fz f0 (List.mem_of_getElem? hf0))]
        rfl
      · have : i = found.length := by omega
        simp only [if_neg z]
        have g1 : ((found.map fun ps => woP ps (lsP a c) c) ++ [lsP a c]).getD i [] = lsP a c := by
          rw [List.getD_eq_getElem?_getD, List.getElem?_append_right (by rw [List.length_map]; omega), List.length_map, this, Nat.sub_self]; rfl
        rw [g1, valV_ls ca az n0]
    · show (pl ++ [c]).getD i 0 = newP found.length (fun i => pl.getD i 0) c i
      unfold newP
      by_cases z : i < found.length
      · rw [if_pos z, List.getD_eq_getElem?_getD, List.getElem?_append_left (by rw [← X.ln]; exact z)]
        show _ = pl.getD i 0
        rw [List.getD_eq_getElem?_getD]
      · have : i = pl.length := by rw [← X.ln]; omega
        rw [if_neg z, this, List.getD_eq_getElem?_getD, List.getElem?_append_right (Nat.le_refl _), Nat.sub_self]; rfl
end FR
set_option Elab.async false
set_option linter.all false
set_option maxRecDepth 100000
set_option maxHeartbeats 4000000
namespace FR
open PySem PySem.Spec PyProof.Rows L2 LD RF
theorem call_list_ofK {X : Cx} {K : PySem.W.Frag} (hK : X.K = K) : CallR X (.type "list") (fun xs H Q => ∃ p ys, xs = [.ref p] ∧ (SqL K H p ys ∨ SqT K H p ys) ∧ ∀ l, H l = none → Q (.ref l) (upd H l (.lst ys))) := by
  subst hK
  exact call_list_of
theorem pi_enumK {X : Cx} {K : PySem.W.Frag} {e : Expr} {ta : L2.TA} {p pos tpos : Pos} {elts : List Expr} {kk : Nat} (hK : X.K = K) (hg : Gl X "enumerate") (hm : X.mg "enumerate" = none) (ha : PA X [e] ta) (hs : starEach [e] X.env = [(false, eval e X.env)] := by rfl) :
    L2.PI X (.Tuple elts kk tpos) (.Call (.Name "enumerate" p) [e] [] pos) (iEnum K ta) := by
  subst hK
  exact pi_enum hg hm ha hs
/-- lists of pairs in a list at la, none of them at la or fo -/
def LX (H : Hp) (la fo : Addr) (pss : List (List PI)) : Prop := ∃ vs, H la = some (.lst vs) ∧ AG (fun v ps => ∃ q, v = .ref q ∧ q ≠ la ∧ q ≠ fo ∧ PL H q ps) vs pss
theorem LX.same {H H' : Hp} {la fo : Addr} {pss : List (List PI)} (h : LX H la fo pss) (s : Same H H') : LX H' la fo pss := by
  obtain ⟨vs, e, z⟩ := h
  exact ⟨vs, s _ _ e, z.imp fun _ _ ⟨q, e, n, m, t⟩ => ⟨q, e, n, m, t.same s⟩⟩
/-! data of integers, pairs, lists of pairs -/
def inD (S : List Nat) : PyData := .list (S.map fun k => .int (k : Nat))
theorem inD_lay : ∀ S : List Nat, PyData.canLayAll0 (S.map fun k => .int (k : Nat)) = true
  | [] => by simp [PyData.canLayAll0]
  | z :: zs => by simp [PyData.canLayAll0, PyData.canLay0, inD_lay zs]
theorem inD_depth : ∀ S : List Nat, PyData.depthAll (S.map fun k => .int (k : Nat)) ≤ 2
  | [] => by simp [PyData.depthAll]
  | z :: zs => by
    have h1 := inD_depth zs
    simp only [List.map_cons, PyData.depthAll, PyData.depth]
    omega
theorem inD_shaped (S : List Nat) : SeqAt.shaped (inD S) = true := by
  have h1 := inD_depth S
  have h2 : PyData.depth (inD S) ≤ 64 := by
    simp only [inD, PyData.depth]
    omega
  show (PyData.canLay0 (inD S) && decide (PyData.depth (inD S) ≤ 64)) = true
  rw [Bool.and_eq_true]
  exact ⟨by simp only [inD, PyData.canLay0]; exact inD_lay S, decide_eq_true h2⟩
theorem inD_dp {K : PySem.W.Frag} {H : Hp} : ∀ S : List Nat, DpAll K H (S.map fun k => V.int (k : Nat)) (S.map fun k => PyData.int (k : Nat))
  | [] => .nil
  | k :: ks => .cons (.int _) (inD_dp ks)
theorem ll_ll {K : PySem.W.Frag} {a D : Addr} {pss : List (List PI)} {us : List V} (hk : pss.length ≤ 900) {vs : List Nat} {σ : L2.St} {H1 : Hp} {Qd : Hp → Prop} {i1 : Nat} {te : TE} (f : List PI → List PI) (hD : H1 D = none)
    (ha : H1 a = some (.lst us)) (hu : AG (fun v ps => ∃ q, v = .ref q ∧ PL H1 q ps) us pss) (wp : ∀ v : V, wipe ((wipe σ vs).set i1 (some v)) vs = wipe σ vs)
    (he : ∀ (i : Nat) (ps : List PI) (x : Addr) (H : Hp) (Q : VK), pss[i]? = some ps → PL H x ps → Same H1 H → (∀ z H', PL H' z (f ps) → Same H H' → H z = none → Q (.ref z) H') → te ((wipe σ vs).set i1 (some (.ref x))) H Q)
    (hd : ∀ H, Same H1 H → (∃ zs, H D = some (.lst zs) ∧ AG (fun v ps => ∃ q, v = .ref q ∧ q ≠ D ∧ H1 q = none ∧ PL H q ps) zs (pss.map f)) → Qd H) :
    ∃ Wk : Nat → Nat → Hp → Prop, (∃ m0, Wk 0 m0 (upd H1 D (.lst []))) ∧ ∀ (i0 m0 : Nat) (h0 : Hp), Wk i0 m0 h0 →
      ((Itl K a).stop i0 h0 ∧ Qd h0) ∨ ((Itl K a).go i0 h0 ∧ ∃ Nk : Hp → Prop, (∀ h1, Nk h1 → ∃ m1, m1 < m0 ∧ Wk (i0 + 1) m1 h1) ∧ ∀ x h2, (Itl K a).yld i0 h0 x h2 → gName i1 x (wipe σ vs) h2 fun σ2 H2 => wipe σ2 vs = wipe σ vs ∧ tYes σ2 H2 fun b H3 =>
        if b = true then te σ2 H3 fun y H4 => ∃ got, H4 D = some (.lst got) ∧ got.length < sizeLine ∧ Nk (upd H4 D (.lst (got ++ [y]))) else Nk H3) := by
  refine lc_list (xs := us) (fun i H => Same H1 H ∧ ∃ zs, H D = some (.lst zs) ∧ AG (fun v ps => ∃ q, v = .ref q ∧ q ≠ D ∧ H1 q = none ∧ PL H q ps) zs ((pss.map f).take i))
    ⟨same_new hD, [], upd_same, AG.nil⟩ (fun i H _ p => SqL.of (p.1 _ _ ha)) ?_ fun H p => ?_
  · rintro i v H hx ⟨sm, zs, hDc, hz⟩
    obtain ⟨ps, hp, x, rfl, px⟩ := hu.2 i v hx
    have hi := (List.getElem?_eq_some_iff.mp hp).1
    refine ⟨wp _, ?_⟩
    refine he i ps x _ _ hp (px.same sm) sm fun z H' pz s' nz => ?_
    have e := s' _ _ hDc
    have zD : z ≠ D := fun y => by rw [y, hDc] at nz; cases nz
    have up : ∀ q ps, q ≠ D → PL H' q ps → PL (upd H' D (.lst (zs ++ [.ref z]))) q ps := fun q ps n ⟨ys, h1, h2⟩ => ⟨ys, by rw [upd_ne n]; exact h1, h2.updl e⟩
    refine ⟨zs, e, small1000 (by rw [hz.1, List.length_take, List.length_map]; omega), same_upd hD (sm.trans s'), zs ++ [.ref z], upd_same, ?_⟩
    rw [take_snoc (x := f ps) (by rw [List.getElem?_map, hp]; rfl)]
    exact AG.snoc (hz.imp fun _ _ ⟨q, e', n, m, t⟩ => ⟨q, e', n, m, up _ _ n (t.same s')⟩) ⟨z, rfl, zD, Same.free sm nz, up _ _ zD pz⟩
  · obtain ⟨sm, zs, hDc, hz⟩ := p
    rw [List.take_of_length_le (by rw [List.length_map, hu.1]; exact Nat.le_refl _)] at hz
    exact hd H sm ⟨zs, hDc, hz⟩
theorem clk_le : ∀ {c : Nat}, c ≤ 4 → clk c ≤ 335
  | 0, _ => by decide
  | 1, _ => by decide
  | 2, _ => by decide
  | 3, _ => by decide
  | 4, _ => by decide
  | c + 5, h => by omega
theorem AG.erase {α : Type} {R : V → α → Prop} {vs : List V} {as : List α} (h : AG R vs as) (k : Nat) : AG R (vs.eraseIdx k) (as.eraseIdx k) := by
  refine ⟨by rw [List.length_eraseIdx, List.length_eraseIdx, h.1], fun i v e => ?_⟩
  rw [List.getElem?_eraseIdx] at e ⊢
  split at e
  · next z => rw [if_pos z]; exact h.2 i v e
  · next z => rw [if_neg z]; exact h.2 _ v e
theorem seq_nat {k n : Nat} (h : k < n) : seqIndex? (k : Int) n = some k := by
  first | (unfold seqIndex?; simp; omega) | (unfold seqIndex?; simp [h]) | (unfold seqIndex?; split <;> simp <;> omega)
section
variable {P : Program} {w : World} {K : PySem.W.Frag} {mg : Str → Option Value} {base : Heap} {C fI pT gT pB gB : Addr} {fdI fdT fdB : FuncData}
abbrev sLc : Stmt := FR.top 53
abbrev NLc : List Str := ["_law_lines_here", "_law_left", "_law_found", "_law_place", "_law_some", "_law_line", "_law_turn", "_law_row", "_law_at", "_law_one"]
theorem scLc : FnScope NLc ["_law_lines_here"] (defScope sLc) := ⟨rfl, rfl, rfl, by decide +kernel, rfl, by decide +kernel, by decide +kernel⟩
structure TxtC (mg : Str → Option Value) : Prop where
  range : mg "range" = none
  len : mg "len" = none
  enum : mg "enumerate" = none
  list : mg "list" = none
def spLc : Sp := fun vs H Q _ => ∃ (a : Addr) (pss : List (List PI)) (n : Nat), vs = [.ref a] ∧ LL H a pss ∧ 0 < pss.length ∧ pss.length ≤ 90 ∧ n ≤ 5 ∧ (∀ ps ∈ pss, ps.length = n ∧ Cd 20 ps) ∧
  ∀ (left found : List (List PI)) (pl : List Nat) x H', CS n n left found pl (pss.map valV) → LL H' x found → Same H H' → Q (.ref x) H'
theorem ok_lc {f : Addr} {fd : FuncData} (F : Fun K "_law_cleared" "_law_cleared" sLc f fd) (T : TxtC mg) (gI : Glo P w K mg base "_law_inverse" 1 ["_law_pair_here"] spInv) (gB : Glo P w K mg base "_law_by" 3 N12 (spLP byP)) (gW : Glo P w K mg base "_law_without" 4 ["_law_row", "_law_line", "_law_place"] spWo) : FnOk P w K mg base CX0 5 f fd ["_law_lines_here"] spLc := by
  refine F.ok scLc (fun vs H Q E h => ?_) (fun cdv A outer s H vs Q E hr h => ?_)
  · obtain ⟨a, pss, n, rfl, _⟩ := h
    rfl
  · obtain ⟨a, pss, n, rfl, ⟨vs, ha, hv⟩, pos, l90, n4, hz, q⟩ := h
    refine ⟨_, (pss_cons (ps_par (i := 1) (j := 2) (by rfl) scLc.nd rfl rfl (by decide) rfl rfl (pa_cons (pe_lc (X := (cxOf CX0 P w K mg base NLc "_law_cleared" (defScope sLc) f cdv A outer s H E).nox) (own := [("_law_row", 7)]) (g := (gName 7)) (tt := tYes) rfl scLc.nd (pi_list (pv 0)) (blkOk_by (N := NLc) (sc := defScope sLc) (by decide +kernel)) (fun _ _ _ _ _ => (pg_name (i := 7) scLc.nd rfl (.inl rfl))) (fun _ _ _ _ _ => pts_nil) (fun _ _ _ _ _ => (pe_callTy (call_list_ofK (K := K) rfl) (by rfl) T.list (by decide +kernel) (pa_cons (pv 7) pa_nil)))) (pa_cons (pe_lst pa_nil) pa_nil)) (by rfl))
      (pss_cons (ps_for PassesOwn.never rfl (pi_range1 (by rfl) T.range (pa_cons (pe_callB call_len_seq (by rfl) T.len PySem.boot_len (pa_cons (pe_ix ix_list (pv 0) pe_int (fun _ _ => rfl)) pa_nil)) pa_nil)) (pg_name (i := 3) scLc.nd rfl (.inr rfl))
        (pss_cons (ps_setLc (i := 4) (X := (cxOf CX0 P w K mg base NLc "_law_cleared" (defScope sLc) f cdv A outer s H E).nox) (own := [("_law_at", 8), ("_law_row", 7)]) (g := (gTup K 2 (gCons (gName 8) (gCons (gName 7) gNil)))) rfl scLc.nd rfl rfl (sw_true rfl rfl rfl (by decide +kernel)) (pi_enum (by rfl) T.enum (pa_cons (pv 1) pa_nil)) (blkOk_by (N := NLc) (sc := defScope sLc) (by decide +kernel)) (fun _ _ _ _ _ => (pg_tupK (K := K) rfl rfl (pgs_cons (pg_name (i := 8) scLc.nd rfl (.inl rfl)) (pgs_cons (pg_name (i := 7) scLc.nd rfl (.inl rfl)) pgs_nil)))) (fun _ _ _ _ _ => (pts_one (pt_cmpR op_ne (pe_ix (ix_tupK (K := K) rfl) (pe_ix (ix_listK (K := K) rfl) (pv 7) (pv 3) (fun _ _ => rfl)) pe_int (fun _ _ => rfl)) pe_int (nomark _)))) (fun _ _ _ _ _ => (pv 8)))
      (pss_one (ps_if (pt_cmpR (op_neD hr.units) (pv 4) (pe_lst pa_nil) (nomark _)) (pss_cons (ps_set (i := 5) scLc.nd rfl (Or.inr rfl) (pe_bm PySem.F.plainAttrs_list PySem.F.slot_list_pop PySem.F.type_list_pop mt_popAt (pv 1) (pa_cons (pe_ix ix_list (pv 4) pe_int (fun _ _ => rfl)) pa_nil)))
      (pss_cons (ps_set (i := 6) scLc.nd rfl (Or.inr rfl) (pe_call gI.G (hr.mono (by decide)) (by rfl) gI.m gI.k gI.b .nil pass0 (pa_cons (pe_ix ix_list (pv 5) (pv 3) (fun _ _ => rfl)) pa_nil)))
      (pss_cons (ps_set (i := 5) scLc.nd rfl (Or.inr rfl) (pe_lc (X := (cxOf CX0 P w K mg base NLc "_law_cleared" (defScope sLc) f cdv A outer s H E).nox) (own := [("_law_one", 9)]) (g := (gName 9)) (tt := tYes) rfl scLc.nd (pi_list (pv 5)) (blkOk_by (N := NLc) (sc := defScope sLc) (by decide +kernel)) (fun _ _ _ _ _ => (pg_name (i := 9) scLc.nd rfl (.inl rfl))) (fun _ _ _ _ _ => pts_nil) (fun _ _ _ _ _ => (pe_call gB.G (hr.mono (by decide)) (by rfl) gB.m gB.k gB.b .nil pass0 (pa_cons (pv 6) (pa_cons (pv 9) pa_nil))))))
      (pss_cons (ps_setLc (i := 1) (X := (cxOf CX0 P w K mg base NLc "_law_cleared" (defScope sLc) f cdv A outer s H E).nox) (own := [("_law_row", 7)]) (g := (gName 7)) (tt := tYes) rfl scLc.nd rfl rfl (sw_true rfl rfl rfl (by decide +kernel)) (pi_list (pv 1)) (blkOk_by (N := NLc) (sc := defScope sLc) (by decide +kernel)) (fun _ _ _ _ _ => (pg_name (i := 7) scLc.nd rfl (.inl rfl))) (fun _ _ _ _ _ => pts_nil) (fun _ _ _ _ _ => (pe_call gW.G hr (by rfl) gW.m gW.k gW.b .nil pass0 (pa_cons (pv 7) (pa_cons (pv 5) (pa_cons (pv 3) pa_nil))))))
      (pss_one (ps_set (i := 2) scLc.nd rfl (Or.inl rfl) (pe_op op_cat (pe_lc (X := (cxOf CX0 P w K mg base NLc "_law_cleared" (defScope sLc) f cdv A outer s H E).nox) (own := [("_law_row", 7)]) (g := (gName 7)) (tt := tYes) rfl scLc.nd (pi_list (pv 2)) (blkOk_by (N := NLc) (sc := defScope sLc) (by decide +kernel)) (fun _ _ _ _ _ => (pg_name (i := 7) scLc.nd rfl (.inl rfl))) (fun _ _ _ _ _ => pts_nil) (fun _ _ _ _ _ => (pe_call gW.G hr (by rfl) gW.m gW.k gW.b .nil pass0 (pa_cons (pv 7) (pa_cons (pv 5) (pa_cons (pv 3) pa_nil)))))) (pe_lst (pa_cons (pv 5) pa_nil))))))))) pss_nil))))
      (pss_one (ps_ret (pv 2))))), ?_⟩
    obtain ⟨q0, us0, hq0, hx0, l0⟩ : ∃ q0 us0, vs[0]? = some (.ref q0) ∧ H q0 = some (.lst us0) ∧ us0.length = n := by
      obtain ⟨v0, h0⟩ : ∃ v0, vs[0]? = some v0 := ⟨_, List.getElem?_eq_getElem (by rw [hv.1]; exact pos)⟩
      obtain ⟨p0, hp0, q0, rfl, us0, e0, f0⟩ := hv.2 0 v0 h0
      exact ⟨q0, us0, h0, e0, by rw [f0.1]; exact (hz p0 (List.mem_of_getElem? hp0)).1⟩
    refine ⟨_, rfl, a, rfl, ⟨_, SqL.of ha⟩, fun D hD => ?_⟩
    refine lc_list (xs := vs) (fun i Hc => Same H Hc ∧ ∃ us, Hc D = some (.lst us) ∧ AG (fun v ps => ∃ q, v = .ref q ∧ q ≠ D ∧ PL Hc q ps) us (pss.take i)) ⟨same_new hD, [], upd_same, AG.nil⟩ (fun i Hc _ p => SqL.of (p.1 _ _ ha)) ?_ ?_
    · rintro i v Hc hvi ⟨sm, us, hDc, hu⟩
      obtain ⟨ps, hp, x, rfl, px⟩ := hv.2 i v hvi
      obtain ⟨xs, hx, hf⟩ := px.same sm
      have il := (List.getElem?_eq_some_iff.mp hp).1
      refine ⟨rfl, _, rfl, x, xs, rfl, .inl (SqL.of hx), fun l hl => ?_⟩
      have s2 : Same Hc (upd Hc l (.lst xs)) := same_new hl
      have e := s2 _ _ hDc
      have lD : l ≠ D := fun z => by rw [z, hDc] at hl; cases hl
      have up : ∀ q ps, q ≠ D → PL (upd Hc l (.lst xs)) q ps → PL (upd (upd Hc l (.lst xs)) D (.lst (us ++ [.ref l]))) q ps := fun q ps n ⟨ys, h1, h2⟩ => ⟨ys, by rw [upd_ne n]; exact h1, h2.updl e⟩
      refine ⟨us, e, small1000 (by rw [hu.1, List.length_take]; omega), same_upd hD (sm.trans s2), us ++ [.ref l], upd_same, ?_⟩
      rw [take_snoc hp]
      exact AG.snoc (hu.imp fun _ _ ⟨q, e', n, t⟩ => ⟨q, e', n, up _ _ n (t.same s2)⟩) ⟨l, rfl, lD, up _ _ lD ⟨xs, upd_same, hf.same s2⟩⟩
    rintro H1 ⟨s1, us, hD1, hu⟩
    rw [List.take_of_length_le (by rw [hv.1]; exact Nat.le_refl _)] at hu
    refine ⟨Nat.zero_le _, fun fo hfo => ?_⟩
    have s2 : Same H1 (upd H1 fo (.lst [])) := same_new hfo
    have fD : fo ≠ D := fun z => by rw [z, hD1] at hfo; cases hfo
    refine ⟨_, _, rfl, ?_⟩
    refine ⟨_, rfl, a, _, 0, _, rfl, rfl, SqL.of ((s1.trans s2) _ _ ha), atI_nat (j := 0) hq0, q0, us0, rfl, .inl (SqL.of ((s1.trans s2) _ _ hx0)), (us0.length : Int), rfl, by omega, by omega, ?_⟩
    have nat : (us0.length : Int).toNat = n := by omega
    rw [nat]
    have hu1 : AG (fun v ps => ∃ q, v = .ref q ∧ q ≠ D ∧ PL H1 q ps) us pss := hu
    have st0 : LX (upd H1 fo (.lst [])) D fo pss := ⟨us, s2 _ _ hD1, hu1.imp fun _ _ ⟨q, e, nq, t⟩ => ⟨q, e, nq, (fun z => by
      obtain ⟨ys, h1, _⟩ := t
      rw [z, hfo] at h1
      cases h1), t.same s2⟩⟩
    refine for_range (fun c σ Hc => Same H Hc ∧ ∃ (la fo : Addr) (left found : List (List PI)) (pl : List Nat) (x3 x4 x5 x6 : Option V), σ = [some (.ref a), some (.ref la), some (.ref fo), x3, x4, x5, x6, none, none, none] ∧ LX Hc la fo left ∧ LX Hc fo la found ∧ la ≠ fo ∧ H la = none ∧ CS n c left found pl (pss.map valV) ∧ left.length ≤ 90 ∧ found.length ≤ c)
      ⟨s1.trans s2, D, fo, pss, [], [], _, _, _, _, rfl, st0, ⟨[], upd_same, AG.nil⟩, Ne.symm fD, hD, ⟨rfl, hz, fun ps m => (by cases m), PForm.start⟩, l90, Nat.le_refl _⟩ ?_ ?_
    · rintro c σ Hc hc ⟨sm, la, fo, left, found, pl, x3, x4, x5, x6, rfl, ll, lf, lne, nla, X, ll90, fc⟩
      have hc : c < n := by omega
      have e0 : (0 : Int) + (c : Nat) = (c : Nat) := by omega
      rw [e0]
      obtain ⟨us, hla, hu⟩ := id ll
      refine ⟨_, rfl, la, us, rfl, SqL.of hla, fun D2 hD2 => ?_⟩
      let NZ : Nat → Prop := fun k => ∃ ps, left[k]? = some ps ∧ (ps.getD c (0, 1)).1 ≠ 0
      refine lc_it (walk_enum (xs := us)) (fun i Hx => Same Hc Hx ∧ ∃ S : List Nat, Hx D2 = some (.lst (S.map fun k => V.int (k : Nat))) ∧ (∀ k ∈ S, k < i ∧ NZ k) ∧ (∀ k, k < i → NZ k → k ∈ S) ∧ S.length ≤ i)
        ⟨same_new hD2, [], upd_same, fun k hk => (by cases hk), fun k hk _ => by omega, Nat.le_refl _⟩ (fun i Hx _ p => SqL.of (p.1 _ _ hla)) ?_ ?_
      · rintro i v Hx H' hi ⟨s3, S, hS, g1, g2, g3⟩ ⟨T0, u1, u2, rfl, nT, rfl, h1, h2⟩
        have h1 : some (V.int (i : Nat)) = some u1 := h1
        cases h1
        have h2 : us[i]? = some u2 := h2
        obtain ⟨ps, hps, x, rfl, _, _, px⟩ := hu.2 i u2 h2
        have il := (List.getElem?_eq_some_iff.mp hps).1
        have sT : Same Hx (upd Hx T0 (.tup [.int (i : Nat), .ref x])) := same_new nT
        obtain ⟨xs, hx, hf⟩ := px.same (s3.trans sT)
        have hS' := sT _ _ hS
        have s3' := s3.trans sT
        have tt : upd Hx T0 (.tup [.int (i : Nat), .ref x]) T0 = some (.tup [.int (i : Nat), .ref x]) := upd_same
        generalize upd Hx T0 _ = Hn at *
        have pl_ := (X.lzp ps (List.mem_of_getElem? hps)).1
        have lx : c < xs.length := by rw [hf.1, pl_]; exact hc
        obtain ⟨w0, gx⟩ : ∃ w0, xs[c]? = some w0 := ⟨_, List.getElem?_eq_getElem lx⟩
        obtain ⟨p, hp, y, rfl, ty⟩ := hf.2 c w0 gx
        have gp : ps.getD c (0, 1) = p := by rw [List.getD_eq_getElem?_getD, hp]; rfl
        refine ⟨T0, _, rfl, SqT.of tt, rfl, _, _, rfl, _, _, rfl, rfl, rfl, ?_⟩
        refine ⟨_, rfl, _, rfl, x, _, _, _, rfl, rfl, SqL.of hx, atI_nat gx, y, _, _, _, rfl, rfl, SqT.of ty, rfl, rfl, _, rfl, ite2 (fun z => ?_) (fun z => ?_)⟩
        · have z := neq_of z
          refine ⟨_, rfl, _, hS', small1000 (by rw [List.length_map]; omega), same_upd hD2 s3', S ++ [i], ?_, ?_, ?_, ?_⟩
          · rw [List.map_append]; exact upd_same
          · intro k hk
            rcases List.mem_append.mp hk with h | h
            · exact ⟨by have := (g1 k h).1; omega, (g1 k h).2⟩
            · rw [List.mem_singleton.mp h]; exact ⟨by omega, ps, hps, by rw [gp]; exact z⟩
          · intro k hk nz
            by_cases e : k = i
            · exact List.mem_append_right _ (List.mem_singleton.mpr e)
            · exact List.mem_append_left _ (g2 k (by omega) nz)
          · rw [List.length_append]; show S.length + 1 ≤ i + 1; omega
        · refine ⟨s3', S, hS', fun k hk => ⟨by have := (g1 k hk).1; omega, (g1 k hk).2⟩, fun k hk nz => ?_, by omega⟩
          by_cases e : k = i
          · subst e
            obtain ⟨ps', h', n'⟩ := nz
            rw [hps] at h'
            cases h'
            rw [gp] at n'
            exact absurd (neq_to n') z
          · exact g2 k (by omega) nz
      rintro H2 ⟨s3, S, hS, g1, g2, g3⟩
      refine ⟨_, rfl, Nat.zero_le _, fun l0 hl0 => ?_⟩
      have s4 : Same H2 (upd H2 l0 (.lst [])) := same_new hl0
      have hS4 := s4 _ _ hS
      have hl4 : upd H2 l0 (.lst []) l0 = some (.lst []) := upd_same
      have s34 := s3.trans s4
      generalize upd H2 l0 _ = H3 at *
      refine ⟨inD S, .list [], Dp.lst (SqL.of hS4) (inD_dp S), Dp.lst (SqL.of hl4) .nil, inD_shaped S, rfl, _, rfl, ?_⟩
      match S, hS4, g1, g2, g3 with
      | [], hS4, g1, g2, g3 =>
        have ev : (!PyData.eqv (inD []) (.list [])) = false := by decide +kernel
        rw [ev]
        have sm3 := sm.trans s34
        refine ⟨sm3, la, fo, left, found, pl, _, _, _, _, rfl, ll.same s34, lf.same s34, lne, nla, X.skip (fun ps m => Classical.byContradiction fun nz => ?_) hc, ll90, by omega⟩
        obtain ⟨k, hk⟩ := List.mem_iff_getElem?.mp m
        have := g2 k (by rw [hu.1]; exact (List.getElem?_eq_some_iff.mp hk).1) ⟨ps, hk, nz⟩
        cases this
      | k0 :: S', hS4, g1, g2, g3 =>
        have ev : (!PyData.eqv (inD (k0 :: S')) (.list [])) = true := by
          show (!PyData.eqv (.list (_ :: _)) (.list [])) = true
          simp only [PyData.eqv, PyData.eqvAll]
          rfl
        rw [ev]
        obtain ⟨k0l, ak, hak, an⟩ := g1 k0 List.mem_cons_self
        have k0l2 : k0 < us.length := k0l
        obtain ⟨v0, hv0⟩ : ∃ v0, us[k0]? = some v0 := ⟨_, List.getElem?_eq_getElem k0l2⟩
        obtain ⟨ak', hak', qa, rfl, qa1, qa2, pa⟩ := hu.2 k0 v0 hv0
        rw [hak] at hak'
        cases hak'
        have hla3 := s34 _ _ hla
        have lf3 := lf.same s34
        have hu3 := hu.imp fun _ _ ⟨q, e, n1, n2, t⟩ => (⟨q, e, n1, n2, t.same s34⟩ : ∃ q, _ = V.ref q ∧ q ≠ la ∧ q ≠ fo ∧ PL H3 q _)
        have pa3 := pa.same s34
        have ul90 : us.length ≤ 90 := by rw [hu.1]; exact ll90
        have sm3 := sm.trans s34
        refine iteT ?_
        refine ⟨_, rfl, .inl ⟨rfl, _, SqL.of hla3⟩, _, rfl, D2, _, _, _, rfl, rfl, SqL.of hS4, atI_nat (j := 0) rfl, ?_⟩
        refine ⟨la, us, (k0 : Int), k0, .ref qa, rfl, rfl, hla3, by omega, by omega, seq_nat k0l2, hv0, ?_⟩
        have g4 : ∀ z o, z ≠ la → H3 z = some o → upd H3 la (.lst (us.eraseIdx k0)) z = some o := fun z o nz e => by rw [upd_ne nz]; exact e
        have hla4 : upd H3 la (.lst (us.eraseIdx k0)) la = some (.lst (us.eraseIdx k0)) := upd_same
        generalize upd H3 la _ = H4 at *
        have sm4 : Same H H4 := fun z o e => g4 z o (ne_of_none e nla) (sm3 z o e)
        have keepP : ∀ q ps, q ≠ la → PL H3 q ps → PL H4 q ps := fun q ps nq ⟨ys, h1, h2⟩ => ⟨ys, g4 _ _ nq h1, A2.imp h2 fun _ _ ⟨t, et, ht⟩ => ⟨t, et, g4 _ _ (fun y => by rw [y, hla3] at ht; cases ht) ht⟩⟩
        have hu4 : AG (fun v ps => ∃ q, v = .ref q ∧ q ≠ la ∧ q ≠ fo ∧ PL H4 q ps) us left := hu3.imp fun _ _ ⟨q, e, n1, n2, t⟩ => ⟨q, e, n1, n2, keepP _ _ n1 t⟩
        have lf4 : LX H4 fo la found := by
          obtain ⟨ws, e, z⟩ := lf3
          exact ⟨ws, g4 _ _ (Ne.symm lne) e, z.imp fun _ _ ⟨q, e, n1, n2, t⟩ => ⟨q, e, n1, n2, keepP _ _ n2 t⟩⟩
        have pa4 := keepP _ _ qa1 pa3
        have hul := hu4.erase k0
        obtain ⟨al, az⟩ := X.lzp ak (List.mem_of_getElem? hak)
        have ca : c < ak.length := by rw [al]; exact hc
        have zc := az _ (getD_mem ca)
        obtain ⟨xa, hxa, hfa⟩ := id pa4
        obtain ⟨w0, gx⟩ : ∃ w0, xa[c]? = some w0 := ⟨_, List.getElem?_eq_getElem (by rw [hfa.1]; exact ca)⟩
        obtain ⟨p0, hp0, y0, rfl, t0⟩ := hfa.2 c w0 gx
        have t0 : TA H4 y0 p0 := t0
        have gp : ak.getD c (0, 1) = p0 := by rw [List.getD_eq_getElem?_getD, hp0]; rfl
        rw [gp] at zc an
        have ck : clk found.length ≤ 335 := clk_le (by omega)
        refine ⟨_, rfl, _, rfl, qa, _, _, _, rfl, rfl, SqL.of hxa, atI_nat gx, y0, p0, rfl, t0, fun tn htn => ?_⟩
        have s5 : Same H4 (upd H4 tn (.tup [.int (invP p0).1, .int (invP p0).2])) := same_new htn
        have tt : TA (upd H4 tn (.tup [.int (invP p0).1, .int (invP p0).2])) tn (invP p0) := upd_same
        generalize upd H4 tn _ = H5 at *
        have zi := zc.inv an
        refine ⟨_, rfl, qa, rfl, ⟨_, SqL.of (s5 _ _ hxa)⟩, fun DL hDL => ?_⟩
        refine ll_pl (ps := ak) (by omega) (byP (invP p0)) hDL (s5 _ _ hxa) (hfa.same s5) (fun _ => rfl) ?_ ?_
        · intro i2 p x H6 Q6 hp tx s6 kk
          have pz := az p (List.mem_of_getElem? hp)
          exact ⟨_, rfl, _, rfl, tn, x, invP p0, p, rfl, s6 _ _ tt, tx, zi.pp (by omega), pz.pp (by omega), fun b hb => kk b _ upd_same (same_new hb)⟩
        intro H6 s6 pL
        have pL : PL H6 DL (lsP ak c) := by
          unfold lsP
          rw [gp]; exact pL
        have s56 := s5.trans s6
        have lsl : (lsP ak c).length = n := by unfold lsP; rw [List.length_map, al]
        have lsz : ∀ p ∈ lsP ak c, Pz (clk found.length) p := ((X.lz ak (List.mem_of_getElem? hak)).2.ls ca (by rw [gp]; exact an)).pz
        refine ⟨_, rfl, la, rfl, ⟨_, SqL.of (s56 _ _ hla4)⟩, fun D3 hD3 => ?_⟩
        have e90 : (left.eraseIdx k0).length ≤ 90 := by rw [List.length_eraseIdx]; split <;> omega
        refine ll_ll (pss := left.eraseIdx k0) (by omega) (fun ps => woP ps (lsP ak c) c) hD3 (s56 _ _ hla4) (hul.imp fun _ _ ⟨q, e, _, _, t⟩ => ⟨q, e, t.same s56⟩) (fun _ => rfl) ?_ ?_
        · intro i2 ps x H7 Q7 hp px s7 kk
          obtain ⟨pl1, pz1⟩ := X.lzp ps (List.mem_of_mem_eraseIdx (List.mem_of_getElem? hp))
          exact ⟨_, rfl, _, rfl, _, rfl, x, DL, ps, lsP ak c, c, clk found.length, clk found.length, rfl, px, pL.same s7, by rw [pl1, lsl], by omega, by rw [pl1]; exact hc, pz1, lsz, by omega, kk⟩
        rintro H7 s7 ⟨zs, hz1, hz2⟩
        have s67 := s56.trans s7
        obtain ⟨ws, hw1, hw2⟩ := id lf4
        refine ⟨_, rfl, fo, rfl, ⟨_, SqL.of (s67 _ _ hw1)⟩, fun D4 hD4 => ?_⟩
        refine ll_ll (pss := found) (by omega) (fun ps => woP ps (lsP ak c) c) hD4 (s67 _ _ hw1) (hw2.imp fun _ _ ⟨q, e, _, _, t⟩ => ⟨q, e, t.same s67⟩) (fun _ => rfl) ?_ ?_
        · intro i2 ps x H8 Q8 hp px s8 kk
          obtain ⟨pl1, pz1⟩ := X.fzp ps (List.mem_of_getElem? hp)
          exact ⟨_, rfl, _, rfl, _, rfl, x, DL, ps, lsP ak c, c, clk found.length, clk found.length, rfl, px, pL.same (s7.trans s8), by rw [pl1, lsl], by omega, by rw [pl1]; exact hc, pz1, lsz, by omega, kk⟩
        rintro H8 s8 ⟨ys, hy1, hy2⟩
        refine ⟨_, rfl, small1000 (by show 0 ≤ 1000; decide), fun l1 hl1 => ?_⟩
        have s9 : Same H8 (upd H8 l1 (.lst [.ref DL])) := same_new hl1
        have hl9 : upd H8 l1 (.lst [.ref DL]) l1 = some (.lst [.ref DL]) := upd_same
        generalize upd H8 l1 _ = H9 at *
        have yl : ys.length ≤ 90 := by rw [hy2.1, List.length_map]; omega
        refine ⟨D4, l1, _, _, rfl, rfl, s9 _ _ hy1, hl9, Nat.le_of_lt (small1000 (by show ys.length + 1 ≤ 1000; omega)), fun l2 hl2 => ?_⟩
        have sA : Same H9 (upd H9 l2 (.lst (ys ++ [.ref DL]))) := same_new hl2
        have hlA : upd H9 l2 (.lst (ys ++ [.ref DL])) l2 = some (.lst (ys ++ [.ref DL])) := upd_same
        have ex9 : ∀ q ps, PL H9 q ps → q ≠ l2 := fun q ps ⟨ys, h1, _⟩ z => by rw [z, hl2] at h1; cases h1
        have D3l : D3 ≠ l2 := fun z => by
          have := s9 _ _ (s8 _ _ hz1)
          rw [z, hl2] at this; cases this
        generalize upd H9 l2 _ = HA at *
        have s7A := (s8.trans s9).trans sA
        have pL9 : PL H9 DL (lsP ak c) := ((pL.same s7).same s8).same s9
        have DLD3 : DL ≠ D3 := fun z => by
          obtain ⟨_, h1, _⟩ := pL
          rw [z, hD3] at h1; cases h1
        refine ⟨(sm4.trans s67).trans s7A, D3, l2, _, _, pl ++ [c], _, _, _, _, rfl, ⟨zs, s7A _ _ hz1, hz2.imp fun _ _ ⟨q, e, n1, _, t⟩ => ⟨q, e, n1, ex9 _ _ ((t.same s8).same s9), t.same s7A⟩⟩, ⟨_, hlA, AG.snoc (hy2.imp fun _ _ ⟨q, e, n1, n2, t⟩ => ⟨q, e, ex9 _ _ (t.same s9), (fun z => by rw [z, hz1] at n2; cases n2), t.same (s9.trans sA)⟩) ⟨DL, rfl, ex9 _ _ pL9, DLD3, pL9.same sA⟩⟩, D3l, Same.free (sm4.trans s56) hD3, X.step hak (by rw [gp]; exact an) hc, by rw [List.length_map]; exact e90, by rw [List.length_append, List.length_map]; show found.length + 1 ≤ c + 1; omega⟩
    · rintro σ Hc ⟨sm, la, fo, left, found, pl, x3, x4, x5, x6, rfl, ll, lf, lne, nla, X, ll90, fc⟩
      obtain ⟨ws, e, z⟩ := lf
      exact ⟨_, rfl, q left found pl fo Hc X ⟨ws, e, z.imp fun _ _ ⟨q, e, _, _, t⟩ => ⟨q, e, t⟩⟩ sm⟩
end
end FR
set_option Elab.async false
set_option linter.all false
set_option maxRecDepth 100000
set_option maxHeartbeats 4000000
namespace FR
open PySem PySem.Spec PyProof.Rows L2 LD RF
/-! ### entries with a bottom that divides 12 -/
structure Q12 (M : Nat) (p : PI) : Prop where
  lf : Lf p.1 p.2
  dv : p.2 ∣ 12
  le : p.1.natAbs ≤ M * p.2.natAbs
theorem Q12.up {M N : Nat} {p : PI} (h : Q12 M p) (g : M ≤ N) : Q12 N p := ⟨h.lf, h.dv, Nat.le_trans h.le (Nat.mul_le_mul_right _ g)⟩
theorem q12_n {M : Nat} {t b : Int} (hb : b ≠ 0) (d : b ∣ 12) (h : t.natAbs ≤ M * b.natAbs) : Q12 M (nT t b, nB t b) := by
  have e1 := nT_mul (t := t) hb
  have e2 := nB_mul (t := t) hb
  have k := dv_ne (t := t) hb
  refine ⟨lf_n hb, Int.dvd_trans ⟨dv t b, e2.symm⟩ d, ?_⟩
  show (nT t b).natAbs ≤ M * (nB t b).natAbs
  have z : 0 < (dv t b).natAbs := by omega
  refine Nat.le_of_mul_le_mul_right ?_ z
  rw [← Int.natAbs_mul, e1, Nat.mul_assoc, ← Int.natAbs_mul, e2]
  exact h
theorem Q12.plus {M N : Nat} {p r : PI} (h : Q12 M p) (g : Q12 N r) : Q12 (M + N) (plusP p r) := by
  obtain ⟨u, hu⟩ := h.dv
  obtain ⟨v, hv⟩ := g.dv
  have n : p.2 * r.2 ≠ 0 := Int.mul_ne_zero h.lf.ne g.lf.ne
  have u0 : u ≠ 0 := fun z => by rw [z] at hu; simp at hu
  have v0 : v ≠ 0 := fun z => by rw [z] at hv; simp at hv
  have c : (p.1 * r.2 + r.1 * p.2) * 12 = (p.1 * u + r.1 * v) * (p.2 * r.2) := by
    have : (12 : Int) * 12 = (p.2 * u) * (r.2 * v) := by rw [← hu, ← hv]
    have e1 : p.1 * r.2 * 12 = p.1 * r.2 * (p.2 * u) := by rw [← hu]
    have e2 : r.1 * p.2 * 12 = r.1 * p.2 * (r.2 * v) := by rw [← hv]
    grind
  obtain ⟨a, b⟩ := n_cross n (show (12 : Int) ≠ 0 by decide) c
  have e : plusP p r = (nT (p.1 * u + r.1 * v) 12, nB (p.1 * u + r.1 * v) 12) := Prod.ext a b
  rw [e]
  refine q12_n (by decide) ⟨1, by decide⟩ ?_
  have x1 : (p.1 * u).natAbs ≤ M * 12 := by
    rw [Int.natAbs_mul]
    have y : p.2.natAbs * u.natAbs = 12 := by rw [← Int.natAbs_mul, ← hu]; rfl
    have := Nat.mul_le_mul_right u.natAbs h.le
    rw [Nat.mul_assoc, y] at this
    exact this
  have x2 : (r.1 * v).natAbs ≤ N * 12 := by
    rw [Int.natAbs_mul]
    have y : r.2.natAbs * v.natAbs = 12 := by rw [← Int.natAbs_mul, ← hv]; rfl
    have := Nat.mul_le_mul_right v.natAbs g.le
    rw [Nat.mul_assoc, y] at this
    exact this
  show _ ≤ (M + N) * 12
  omega
theorem Q12.twice {M : Nat} {p : PI} (h : Q12 M p) : Q12 (2 * M) (byP (2, 1) p) := by
  show Q12 (2 * M) (nT (2 * p.1) (1 * p.2), nB (2 * p.1) (1 * p.2))
  have e : (1 : Int) * p.2 = p.2 := Int.one_mul _
  rw [e]
  refine q12_n h.lf.ne h.dv ?_
  rw [Int.natAbs_mul, Nat.mul_assoc]
  exact Nat.mul_le_mul_left _ h.le
theorem Q12.zero : Q12 0 (0, 1) := ⟨Lf.one 0, ⟨12, by decide⟩, by decide⟩
theorem q12_num {t b : Int} (h1 : -7 ≤ t) (h2 : t ≤ 5) (h3 : 1 ≤ b) (h4 : b ≤ 4) : Q12 7 (nT t b, nB t b) := by
  refine q12_n (by omega) ?_ (by omega)
  have : b = 1 ∨ b = 2 ∨ b = 3 ∨ b = 4 := by omega
  rcases this with e | e | e | e <;> subst e
  · exact ⟨12, by decide⟩
  · exact ⟨6, by decide⟩
  · exact ⟨4, by decide⟩
  · exact ⟨3, by decide⟩
theorem Q12.b12 {M : Nat} {p : PI} (h : Q12 M p) : p.2.natAbs ≤ 12 := Nat.le_of_dvd (by decide) (Int.natAbs_dvd_natAbs.mpr h.dv)
theorem Q12.pz {M : Nat} {p : PI} (h : Q12 M p) (m : M ≤ 112) : Pz 11 p := by
  have b := h.b12
  have l := h.le
  have : M * p.2.natAbs ≤ 112 * 12 := Nat.mul_le_mul m b
  exact ⟨h.lf, by omega, by omega⟩
theorem lc12 {ps : List PI} {M : Nat} (h : ∀ p ∈ ps, Q12 M p) : lcmP ps ∣ 12 := by
  induction ps using snoc_ind with
  | h0 => exact ⟨12, by decide⟩
  | h l x ih =>
    rw [lcmP_snoc]
    have i1 := ih fun p m => h p (List.mem_append_left _ m)
    have i2 := (h x (List.mem_append_right _ (List.mem_singleton.mpr rfl))).dv
    unfold lc
    exact Int.natAbs_dvd_natAbs.mp (by
      rw [Int.natAbs_natCast]
      exact Nat.lcm_dvd (Int.natAbs_dvd_natAbs.mpr i1) (Int.natAbs_dvd_natAbs.mpr i2))
theorem line_q12 {ps : List PI} {M : Nat} (h : ∀ p ∈ ps, Q12 M p) (m : M ≤ 112) : Sh (lineP ps) 11 := by
  intro j
  by_cases hj : j < (lineP ps).length
  · obtain ⟨p, m1, e1⟩ := topsP_get (get_ent hj)
    show (ent (topsP ps (lcmP ps)) j).natAbs < _
    rw [e1]
    obtain ⟨k, hk⟩ := lc12 h
    have q := h p m1
    have al : AllLf ps := fun p m => (h p m).lf
    have d := lcmP_dvd ps p m1
    have e := Int.fdiv_mul_cancel d
    have c : p.2.natAbs * ((lcmP ps).fdiv p.2).natAbs ≤ 12 := by
      rw [← Int.natAbs_mul, Int.mul_comm, e]
      exact Nat.le_of_dvd (by decide) (Int.natAbs_dvd_natAbs.mpr ⟨k, hk⟩)
    rw [Int.natAbs_mul]
    have x := Nat.mul_le_mul_right ((lcmP ps).fdiv p.2).natAbs q.le
    rw [Nat.mul_assoc] at x
    have y : M * (p.2.natAbs * ((lcmP ps).fdiv p.2).natAbs) ≤ 112 * 12 := Nat.mul_le_mul m c
    omega
  · rw [ent_none (by omega)]
    exact Nat.pow_pos (by decide)
/-! ### lists of lists of pairs as data -/
def tupD (p : PI) : PyData := .tuple [.int p.1, .int p.2]
def plD (ps : List PI) : PyData := .list (ps.map tupD)
def llD (pss : List (List PI)) : PyData := .list (pss.map plD)
theorem tupD_lay (p : PI) : (tupD p).canLay0 = true := by simp [tupD, PyData.canLay0, PyData.canLayAll0]
theorem tupD_depth (p : PI) : (tupD p).depth ≤ 1 := by simp [tupD, PyData.depth, PyData.depthAll]
theorem plA_lay : ∀ ps : List PI, PyData.canLayAll0 (ps.map tupD) = true
  | [] => by simp [PyData.canLayAll0]
  | z :: zs => by simp [PyData.canLayAll0, tupD_lay z, plA_lay zs]
theorem plA_depth : ∀ ps : List PI, PyData.depthAll (ps.map tupD) ≤ 1
  | [] => by simp [PyData.depthAll]
  | z :: zs => by
    have h1 := plA_depth zs
    have h2 := tupD_depth z
    simp only [List.map_cons, PyData.depthAll]
    omega
theorem plD_lay (ps : List PI) : (plD ps).canLay0 = true := by simp only [plD, PyData.canLay0]; exact plA_lay ps
theorem plD_depth (ps : List PI) : (plD ps).depth ≤ 2 := by
  have := plA_depth ps
  simp only [plD, PyData.depth]
  omega
theorem llA_lay : ∀ pss : List (List PI), PyData.canLayAll0 (pss.map plD) = true
  | [] => by simp [PyData.canLayAll0]
  | z :: zs => by simp [PyData.canLayAll0, plD_lay z, llA_lay zs]
theorem llA_depth : ∀ pss : List (List PI), PyData.depthAll (pss.map plD) ≤ 2
  | [] => by simp [PyData.depthAll]
  | z :: zs => by
    have h1 := llA_depth zs
    have h2 := plD_depth z
    simp only [List.map_cons, PyData.depthAll]
    omega
theorem plD_shaped (ps : List PI) : SeqAt.shaped (plD ps) = true := by
  have h := plD_depth ps
  show ((plD ps).canLay0 && decide ((plD ps).depth ≤ 64)) = true
  rw [Bool.and_eq_true]
  exact ⟨plD_lay ps, decide_eq_true (by omega)⟩
theorem llD_shaped (pss : List (List PI)) : SeqAt.shaped (llD pss) = true := by
  have h := llA_depth pss
  have h2 : PyData.depth (llD pss) ≤ 64 := by
    simp only [llD, PyData.depth]
    omega
  show (PyData.canLay0 (llD pss) && decide (PyData.depth (llD pss) ≤ 64)) = true
  rw [Bool.and_eq_true]
  exact ⟨by simp only [llD, PyData.canLay0]; exact llA_lay pss, decide_eq_true h2⟩
theorem TPs.dp {K : PySem.W.Frag} {H : Hp} : ∀ {vs : List V} {ps : List PI}, TPs H vs ps → DpAll K H vs (ps.map tupD)
  | [], [], _ => .nil
  | [], _ :: _, h => by have := h.1; simp at this
  | _ :: _, [], h => by have := h.1; simp at this
  | v :: vs, p :: ps, h => by
    obtain ⟨⟨q, e, z⟩, r⟩ := h.uncons
    subst e
    exact .cons (.tup (SqT.of z) (.cons (.int _) (.cons (.int _) .nil))) (TPs.dp r)
theorem PL.dp {K : PySem.W.Frag} {H : Hp} {a : Addr} {ps : List PI} (h : PL H a ps) : Dp K H (.ref a) (plD ps) := by
  obtain ⟨us, e, z⟩ := h
  exact .lst (SqL.of e) (TPs.dp z)
theorem AG.uncons {α : Type} {R : V → α → Prop} {v : V} {p : α} {vs : List V} {ps : List α} (h : AG R (v :: vs) (p :: ps)) : R v p ∧ AG R vs ps := by
  obtain ⟨q, hq, r⟩ := h.2 0 v rfl
  cases hq
  exact ⟨r, by have := h.1; simpa using this, fun i w e => h.2 (i + 1) w e⟩
theorem LL.dpA {K : PySem.W.Frag} {H : Hp} : ∀ {vs : List V} {pss : List (List PI)}, AG (fun v ps => ∃ q, v = .ref q ∧ PL H q ps) vs pss → DpAll K H vs (pss.map plD)
  | [], [], _ => .nil
  | [], _ :: _, h => by have := h.1; simp at this
  | _ :: _, [], h => by have := h.1; simp at this
  | v :: vs, p :: ps, h => by
    obtain ⟨⟨q, e, z⟩, r⟩ := h.uncons
    subst e
    exact .cons z.dp (LL.dpA r)
theorem LL.dp {K : PySem.W.Frag} {H : Hp} {a : Addr} {pss : List (List PI)} (h : LL H a pss) : Dp K H (.ref a) (llD pss) := by
  obtain ⟨us, e, z⟩ := h
  exact .lst (SqL.of e) (LL.dpA z)
theorem eqv_same {d : PyData} (h : SeqAt.shaped d = true) : PyData.eqv d d = true := SeqAt.eqv_refl _ (SeqAt.canLay_of_shaped h)
theorem llD_nil (pss : List (List PI)) : (!PyData.eqv (llD pss) (.list [])) = !pss.isEmpty := by
  cases pss with
  | nil => simp only [llD, List.map_nil, PyData.eqv, PyData.eqvAll]; rfl
  | cons a r => simp only [llD, List.map_cons, PyData.eqv, PyData.eqvAll]; rfl
end FR
set_option Elab.async false
set_option linter.all false
set_option maxRecDepth 100000
set_option maxHeartbeats 4000000
namespace FR
open PySem PySem.Spec PyProof.Rows L2 LD RF
/-- lists of pairs in a list at fo, none of them at fo -/
def LY (H : Hp) (fo : Addr) (pss : List (List PI)) : Prop := ∃ vs, H fo = some (.lst vs) ∧ AG (fun v ps => ∃ q, v = .ref q ∧ q ≠ fo ∧ PL H q ps) vs pss
theorem LY.ll {H : Hp} {fo : Addr} {pss : List (List PI)} (h : LY H fo pss) : LL H fo pss := by
  obtain ⟨vs, e, z⟩ := h
  exact ⟨vs, e, z.imp fun _ _ ⟨q, e, _, t⟩ => ⟨q, e, t⟩⟩
theorem LY.same {H H' : Hp} {fo : Addr} {pss : List (List PI)} (h : LY H fo pss) (s : Same H H') : LY H' fo pss := by
  obtain ⟨vs, e, z⟩ := h
  exact ⟨vs, s _ _ e, z.imp fun _ _ ⟨q, e, n, t⟩ => ⟨q, e, n, t.same s⟩⟩
theorem LY.rl {d : Addr} {H H' : Hp} {a : Addr} {pss : List (List PI)} (h : LY H a pss) (n : a ≠ d) (hd : DiceAt H d) (r : Rl d H H') : LY H' a pss := by
  obtain ⟨us, e, z⟩ := h
  exact ⟨us, r.2 _ _ n e, z.imp fun _ _ ⟨q, e, m, t⟩ => ⟨q, e, m, t.rl (t.ne hd) hd r⟩⟩
theorem at_last {α : Type} (xs : List α) (h : xs ≠ []) : atI xs (-1) = some (xs.getLast h) := by
  have e := List.dropLast_concat_getLast h
  have z := atI_last xs.dropLast (xs.getLast h)
  rw [e] at z
  exact z
theorem flat_rep {α : Type} (x : α) : ∀ n : Nat, (List.replicate n [x]).flatten = List.replicate n x
  | 0 => rfl
  | n + 1 => by rw [List.replicate_succ, List.flatten_cons, flat_rep x n, List.replicate_succ]; rfl
theorem rep_tps {H : Hp} {t : Addr} (ht : TA H t (0, 1)) (n : Nat) : TPs H (List.replicate n (V.ref t)) (List.replicate n ((0, 1) : PI)) := by
  refine ⟨by rw [List.length_replicate, List.length_replicate], fun i v hv => ?_⟩
  rw [List.getElem?_replicate] at hv ⊢
  split at hv
  · next z =>
    rw [if_pos z]
    cases hv
    exact ⟨_, rfl, t, rfl, ht⟩
  · cases hv
theorem seq_join {a r : TS} {D : Ends} {σ : L2.St} {H : Hp} {Fx : Hp → Addr → Prop} (σf : Addr → L2.St) (hrest : ∀ Hx fr, Fx Hx fr → r D (σf fr) Hx) (hgo : ∀ N : L2.St → Hp → Prop, (∀ Hx fr, Fx Hx fr → N (σf fr) Hx) → a { D with nx := N } σ H) : tSeq a r D σ H := hgo _ hrest
section
variable {P : Program} {w : World} {K : PySem.W.Frag} {mg : Str → Option Value} {base : Heap}
abbrev sLn : Stmt := FR.top 49
abbrev NLn : List Str := ["_law_dice_here", "_law_most", "_law_wide", "_law_size", "_law_found", "_law_turn", "_law_way", "_law_fresh", "_law_place", "_law_one", "_law_other"]
theorem scLn : FnScope NLn ["_law_dice_here", "_law_most", "_law_wide"] (defScope sLn) := ⟨rfl, rfl, rfl, by decide +kernel, rfl, by decide +kernel, by decide +kernel⟩
def spLn : Sp := fun vs H Q _ => ∃ (d : Addr), vs = [.ref d, .int 5, .int 4] ∧ DiceAt H d ∧ ∀ (fo : Addr) (pss : List (List PI)) (n : Nat) H', 1 ≤ n → n ≤ 4 → 1 ≤ pss.length → pss.length ≤ 5 → (∀ ps ∈ pss, ps.length = n ∧ ∀ p ∈ ps, Q12 112 p) → LL H' fo pss → Rl d H H' → Q (.ref fo) H'
theorem ok_ln {f : Addr} {fd : FuncData} (F : Fun K "_law_lines" "_law_lines" sLn f fd) (T : TxtC mg) (mZ : mg "zip" = none) (gR : Glo P w K mg base "_law_roll" 1 ["_law_dice_here", "_law_total"] spRoll) (gO : Glo P w K mg base "_law_one_of" 2 ["_law_dice_here", "_law_items"] spOneOf) (gN : Glo P w K mg base "_law_number" 3 ["_law_dice_here"] spNu) (gB : Glo P w K mg base "_law_by" 3 N12 (spLP byP)) (gA : Glo P w K mg base "_law_plus" 3 N12 (spLP plusP)) : FnOk P w K mg base CX0 4 f fd ["_law_dice_here", "_law_most", "_law_wide"] spLn := by
  refine F.ok scLn (fun vs H Q E h => ?_) (fun cdv A outer s H vs Q E hr h => ?_)
  · obtain ⟨d, rfl, _⟩ := h
    rfl
  · obtain ⟨d, rfl, hd, q⟩ := h
    refine ⟨_, (pss_cons (ps_par (i := 3) (j := 4) (by rfl) scLn.nd rfl rfl (by decide) rfl rfl (pa_cons (pe_op op_add pe_int (pe_call gR.G (hr.mono (by decide)) (by rfl) gR.m gR.k gR.b .nil pass0 (pa_cons (pv 0) (pa_cons (pv 2) pa_nil)))) (pa_cons (pe_lst pa_nil) pa_nil)) (by rfl))
      (pss_cons (ps_for PassesOwn.never rfl (pi_range1 (by rfl) T.range (pa_cons (pe_op op_add pe_int (pe_call gR.G (hr.mono (by decide)) (by rfl) gR.m gR.k gR.b .nil pass0 (pa_cons (pv 0) (pa_cons (pv 1) pa_nil)))) pa_nil)) (pg_name (i := 5) scLn.nd rfl (.inl rfl))
        (pss_cons (ps_par (i := 6) (j := 7) (by rfl) scLn.nd rfl rfl (by decide) rfl rfl (pa_cons (pe_call gR.G (hr.mono (by decide)) (by rfl) gR.m gR.k gR.b .nil pass0 (pa_cons (pv 0) (pa_cons pe_int pa_nil))) (pa_cons (pe_lc (X := (cxOf CX0 P w K mg base NLn "_law_lines" (defScope sLn) f cdv A outer s H E).nox) (own := [("_law_place", 8)]) (g := (gName 8)) (tt := tYes) rfl scLn.nd (pi_range1 (by rfl) T.range (pa_cons (pv 3) pa_nil)) (blkOk_by (N := NLn) (sc := defScope sLn) (by decide +kernel)) (fun _ _ _ _ _ => (pg_name (i := 8) scLn.nd rfl (.inl rfl))) (fun _ _ _ _ _ => pts_nil) (fun _ _ _ _ _ => (pe_call gN.G hr (by rfl) gN.m gN.k gN.b .nil pass0 (pa_cons (pv 0) pa_nil)))) pa_nil)) (by rfl))
      (pss_cons (ps_if (PW.pt (pw_and (pt_cmpR op_eq (pv 6) pe_int (nomark _)) (pw_and1 (pt_cmpR (op_neD hr.units) (pv 4) (pe_lst pa_nil) (nomark _))))) (pss_one (ps_setLc (i := 7) (X := (cxOf CX0 P w K mg base NLn "_law_lines" (defScope sLn) f cdv A outer s H E).nox) (own := [("_law_one", 9)]) (g := (gName 9)) (tt := tYes) rfl scLn.nd rfl rfl (sw_true rfl rfl rfl (by decide +kernel)) (pi_list (pe_call gO.G (hr.mono (by decide)) (by rfl) gO.m gO.k gO.b .nil pass0 (pa_cons (pv 0) (pa_cons (pv 4) pa_nil)))) (blkOk_by (N := NLn) (sc := defScope sLn) (by decide +kernel)) (fun _ _ _ _ _ => (pg_name (i := 9) scLn.nd rfl (.inl rfl))) (fun _ _ _ _ _ => pts_nil) (fun _ _ _ _ _ => (pe_call gB.G hr (by rfl) gB.m gB.k gB.b .nil pass0 (pa_cons (pe_tup (pa_cons pe_int (pa_cons pe_int pa_nil))) (pa_cons (pv 9) pa_nil)))))) pss_nil)
      (pss_cons (ps_if (PW.pt (pw_and (pt_cmpR op_eq (pv 6) pe_int (nomark _)) (pw_and1 (pt_cmpR op_gt (pe_callB call_len_seq (by rfl) T.len PySem.boot_len (pa_cons (pv 4) pa_nil)) pe_int (nomark _))))) (pss_one (ps_setLc (i := 7) (X := (cxOf CX0 P w K mg base NLn "_law_lines" (defScope sLn) f cdv A outer s H E).nox) (own := [("_law_one", 9), ("_law_other", 10)]) (g := (gTup K 2 (gCons (gName 9) (gCons (gName 10) gNil)))) (tt := tYes) rfl scLn.nd rfl rfl (sw_true rfl rfl rfl (by decide +kernel)) (pi_zip (by rfl) mZ (pa_cons (pe_ix ix_list (pv 4) pe_int (fun _ _ => rfl)) (pa_cons (pe_ix ix_list (pv 4) (pe_un un_neg pe_int) (fun _ _ => rfl)) pa_nil))) (blkOk_by (N := NLn) (sc := defScope sLn) (by decide +kernel)) (fun _ _ _ _ _ => (pg_tupK (K := K) rfl rfl (pgs_cons (pg_name (i := 9) scLn.nd rfl (.inl rfl)) (pgs_cons (pg_name (i := 10) scLn.nd rfl (.inl rfl)) pgs_nil)))) (fun _ _ _ _ _ => pts_nil) (fun _ _ _ _ _ => (pe_call gA.G hr (by rfl) gA.m gA.k gA.b .nil pass0 (pa_cons (pv 9) (pa_cons (pv 10) pa_nil)))))) pss_nil)
      (pss_cons (ps_if (pt_cmpR op_eq (pv 6) pe_int (nomark _)) (pss_one (ps_set (i := 7) scLn.nd rfl (Or.inl rfl) (pe_op op_rep (pe_lst (pa_cons (pe_tup (pa_cons pe_int (pa_cons pe_int pa_nil))) pa_nil)) (pv 3)))) pss_nil)
      (pss_one (ps_expr (pe_bm PySem.F.plainAttrs_list PySem.F.slot_list_append PySem.F.type_list_append mt_append (pv 4) (pa_cons (pv 7) pa_nil)))))))))
      (pss_one (ps_ret (pv 4))))), ?_⟩
    refine ⟨_, rfl, _, rfl, d, 4, rfl, hd, by decide, by decide, fun r x y u r0 r4 => ?_⟩
    have R1 : Rl d H (upd H d (.lst (dxs x y u))) := (Rl.refl hd).roll
    generalize upd H d _ = H1 at R1 ⊢
    refine ⟨_, _, rfl, rfl, Nat.zero_le _, fun fo hfo => ?_⟩
    have fd' := dice_ne R1.1 hfo
    have R2 : Rl d H (upd H1 fo (.lst [])) := R1.new hfo
    have nfo : H fo = none := R1.free hd hfo
    have hfo2 : upd H1 fo (.lst []) fo = some (.lst []) := upd_same
    generalize upd H1 fo _ = H2 at *
    refine ⟨_, _, rfl, ?_⟩
    refine ⟨_, rfl, _, rfl, d, 5, rfl, R2.1, by decide, by decide, fun r2 x2 y2 u2 r20 r25 => ?_⟩
    have R3 : Rl d H (upd H2 d (.lst (dxs x2 y2 u2))) := R2.roll
    have hfo3 : upd H2 d (.lst (dxs x2 y2 u2)) fo = some (.lst []) := by rw [upd_ne fd']; exact hfo2
    generalize upd H2 d _ = H3 at *
    obtain ⟨n, hn, n1, n4⟩ : ∃ n : Nat, (1 : Int) + r = (n : Int) ∧ 1 ≤ n ∧ n ≤ 4 := ⟨(1 + r).toNat, by omega, by omega, by omega⟩
    have he : (fun i j : Int => V.int (i + j)) 1 r = V.int (n : Int) := by show V.int (1 + r) = _; rw [hn]
    rw [he]
    refine ⟨_, _, rfl, rfl, 1 + r2, rfl, by omega, by omega, ?_⟩
    refine for_range (n := (1 + r2).toNat) (fun i σ Hc => Rl d H Hc ∧ ∃ (pss : List (List PI)) (x5 x6 x7 : Option V), σ = [some (.ref d), some (.int 5), some (.int 4), some (.int (n : Nat)), some (.ref fo), x5, x6, x7, none, none, none] ∧ LY Hc fo pss ∧ pss.length = i ∧ (∀ ps ∈ pss, ps.length = n ∧ ∀ p ∈ ps, Q12 (7 * 2 ^ i / 2) p))
      ⟨R3, [], _, _, _, rfl, ⟨[], hfo3, AG.nil⟩, rfl, fun ps m => (by cases m)⟩ ?_ ?_
    · rintro i σ Hc hi ⟨Rc, pss, x5, x6, x7, rfl, ly, pl, hz⟩
      have i5 : i < 5 := by omega
      have pw : 2 ^ (i + 1) = 2 * 2 ^ i := by rw [Nat.pow_succ]; omega
      have p1 : 1 ≤ 2 ^ i := Nat.pow_pos (by decide)
      refine ⟨_, rfl, d, 6, rfl, Rc.1, by decide, by decide, fun w0 x3 y3 u3 w00 w06 => ?_⟩
      have R4 : Rl d Hc (upd Hc d (.lst (dxs x3 y3 u3))) := (Rl.refl Rc.1).roll
      have ly4 := ly.rl fd' Rc.1 R4
      have Rc4 := Rc.trans R4
      generalize upd Hc d _ = H4 at *
      refine ⟨_, rfl, (n : Int), rfl, by omega, by omega, fun D hD => ?_⟩
      have natn : ((n : Int)).toNat = n := by omega
      rw [natn]
      have Dd := dice_ne Rc4.1 hD
      refine lc_range (lo := 0) (n := n) (fun j Hx => Rl d H4 Hx ∧ ∃ us ps, Hx D = some (.lst us) ∧ TPs Hx us ps ∧ ps.length = j ∧ ∀ p ∈ ps, Q12 7 p) ⟨(Rl.refl Rc4.1).grow hD Dd, [], [], upd_same, A2.nil, rfl, fun p m => (by cases m)⟩ ?_ ?_
      · rintro j Hx hj ⟨rx, us, ps, hDx, hu, lj, hq⟩
        refine ⟨rfl, _, rfl, d, rfl, rx.1, fun t b x H' t1 t2 b1 b2 r2 nx => ?_⟩
        have sx : Same H' (upd H' x (.tup [.int (nT t b), .int (nB t b)])) := same_new nx
        have e := sx _ _ (r2.2 _ _ Dd hDx)
        have hu2 : TPs (upd H' x (.tup [.int (nT t b), .int (nB t b)])) us ps := A2.imp hu fun _ _ z => by
          obtain ⟨q, e1, e2⟩ := z.rl rx.1 r2
          exact ⟨q, e1, sx _ _ e2⟩
        refine ⟨us, e, small1000 (by rw [hu.1]; omega), ((rx.trans r2).same sx).grow hD Dd, us ++ [.ref x], ps ++ [(nT t b, nB t b)], upd_same, ?_, by rw [List.length_append, lj]; rfl, fun p m => ?_⟩
        · exact A2.snoc (hu2.updl e) ⟨x, rfl, tup_updl upd_same e⟩
        · rcases List.mem_append.mp m with z | z
          · exact hq p z
          · rw [List.mem_singleton.mp z]; exact q12_num t1 t2 b1 b2
      rintro H5 ⟨r5, us, ps, hD5, hu5, l5, q5⟩
      have ly5 := ly4.rl fd' Rc4.1 r5
      have Rc5 := Rc4.trans r5
      have Dfo : D ≠ fo := fun z => by
        obtain ⟨_, e, _⟩ := ly4
        rw [z, e] at hD; cases hD
      refine ⟨_, _, rfl, ?_⟩
      let Fx : Hp → Addr → Prop := fun Hx fr => Rl d H Hx ∧ LY Hx fo pss ∧ fr ≠ fo ∧ ∃ ps, PL Hx fr ps ∧ ps.length = n ∧ ∀ p ∈ ps, Q12 (7 * 2 ^ (i + 1) / 2) p
      have F0 : Fx H5 D := ⟨Rc5, ly5, Dfo, ps, ⟨us, hD5, hu5⟩, l5, fun p m => (q5 p m).up (by omega)⟩
      have fsame : ∀ Hx Hy fr, Fx Hx fr → Same Hx Hy → Fx Hy fr := fun Hx Hy fr ⟨h1, h2, h3, ps, h4, h5⟩ s => ⟨h1.same s, h2.same s, h3, ps, h4.same s, h5⟩
      dsimp only
      refine seq_join (Fx := Fx) (fun fr => [some (.ref d), some (.int 5), some (.int 4), some (.int (n : Nat)), some (.ref fo), some (.int (0 + (i : Nat))), some (.int w0), some (.ref fr), none, none, none]) ?R fun N R => ?_
      rotate_left
      refine ⟨_, rfl, rfl, _, rfl, ite2 (fun z => ?a) (fun z => iteF (R H5 D F0))⟩
      case a =>
        obtain ⟨_, hl5⟩ := id ly5
        refine ⟨_, rfl, Nat.zero_le _, fun l0 hl0 => ?_⟩
        have s6 : Same H5 (upd H5 l0 (.lst [])) := same_new hl0
        have hl6 : upd H5 l0 (.lst []) l0 = some (.lst []) := upd_same
        have F6 := fsame _ _ _ F0 s6
        have ly6 := ly5.same s6
        have Rc6 := Rc5.same s6
        generalize upd H5 l0 _ = H6 at *
        refine ⟨llD pss, .list [], ly6.ll.dp, Dp.lst (SqL.of hl6) .nil, llD_shaped pss, rfl, _, rfl, ?_⟩
        rw [llD_nil]
        by_cases hnil : pss = []
        · have en : (!pss.isEmpty) = false := by rw [hnil]; rfl
          rw [en]
          exact iteF (R _ _ F6)
        · have en : (!pss.isEmpty) = true := by
            cases pss with
            | nil => exact absurd rfl hnil
            | cons _ _ => rfl
          have lpos : 0 < pss.length := List.length_pos_iff.mpr hnil
          rw [en]
          refine iteT ?_
          obtain ⟨vs, hv1, hv2⟩ := id ly6
          have vl : vs.length = i := by rw [hv2.1]; exact pl
          refine ⟨_, rfl, _, rfl, d, fo, vs, rfl, Rc6.1, hv1, fd', by rw [hv2.1]; exact lpos, by omega, fun kk xx x7 y7 u7 hk => ?_⟩
          have R7 : Rl d H6 (upd H6 d (.lst (dxs x7 y7 u7))) := (Rl.refl Rc6.1).roll
          have ly7 := ly6.rl fd' Rc6.1 R7
          have Rc7 := Rc6.trans R7
          generalize upd H6 d _ = H7 at *
          obtain ⟨vs7, hv7, hw7⟩ := id ly7
          obtain ⟨pk, hpk, qk, rfl, _, _⟩ := hv2.2 kk xx hk
          have hk7 : ∃ q7, vs7[kk]? = some (.ref q7) ∧ PL H7 q7 pk ∧ q7 = qk := by
            have e := R7.2 _ _ fd' hv1
            rw [hv7] at e
            have e2 : vs7 = vs := by injection e with e; injection e
            obtain ⟨pk2, h1, q7, h2, _, h3⟩ := hw7.2 kk (.ref qk) (by rw [e2]; exact hk)
            rw [hpk] at h1
            cases h1
            cases h2
            exact ⟨qk, by rw [e2]; exact hk, h3, rfl⟩
          obtain ⟨q7, _, pk7, rfl⟩ := hk7
          obtain ⟨us7, hu7, ht7⟩ := id pk7
          obtain ⟨lk, zk⟩ := hz pk (List.mem_of_getElem? hpk)
          refine ⟨q7, rfl, ⟨_, SqL.of hu7⟩, fun D8 hD8 => ?_⟩
          refine ll_pl (ps := pk) (by omega) (byP (2, 1)) hD8 hu7 ht7 (fun _ => rfl) ?_ ?_
          · intro i2 p x H9 Q9 hp tx s9 k9
            refine ⟨small1000 (by show 1 ≤ 1000; decide), fun tn htn => ?_⟩
            have sT : Same H9 (upd H9 tn (.tup [.int 2, .int 1])) := same_new htn
            exact ⟨_, rfl, tn, x, (2, 1), p, rfl, upd_same, sT _ _ tx, ⟨by decide, by show (2 : Int).natAbs < _; exact Nat.lt_of_lt_of_le (show 2 < 2 ^ 2 by decide) (Nat.pow_le_pow_right (by decide) (by decide)), by show (1 : Int).natAbs < _; exact Nat.lt_of_lt_of_le (show 1 < 2 ^ 2 by decide) (Nat.pow_le_pow_right (by decide) (by decide))⟩, ((zk p (List.mem_of_getElem? hp)).pz (by have : 2 ^ i ≤ 2 ^ 4 := Nat.pow_le_pow_right (by decide) (by omega); omega)).pp (by decide), fun b hb => k9 b _ upd_same (sT.trans (same_new hb))⟩
          · intro H9 s9 pL9
            refine R H9 D8 ⟨Rc7.same s9, ly7.same s9, (fun z => by rw [z, hv7] at hD8; cases hD8), pk.map (byP (2, 1)), pL9, by rw [List.length_map]; exact lk, fun p hp => ?_⟩
            obtain ⟨r, hr', rfl⟩ := List.mem_map.mp hp
            exact (zk r hr').twice.up (by omega)
      case R =>
        intro H6 fr6 F6
        refine seq_join (Fx := Fx) (fun fr => [some (.ref d), some (.int 5), some (.int 4), some (.int (n : Nat)), some (.ref fo), some (.int (0 + (i : Nat))), some (.int w0), some (.ref fr), none, none, none]) ?R2 fun N R => ?_
        rotate_left
        · obtain ⟨Rc6, ly6, nf6, ps6, pl6, l6, q6⟩ := id F6
          obtain ⟨vs, hv1, hv2⟩ := id ly6
          refine ⟨_, rfl, rfl, _, rfl, ite2 (fun z => ?_) (fun z => iteF (R H6 fr6 F6))⟩
          refine ⟨_, rfl, fo, vs, rfl, .inl (SqL.of hv1), _, _, rfl, rfl, _, rfl, ite2 (fun z2 => ?_) (fun z2 => R H6 fr6 F6)⟩
          have z2 : (1 : Int) < (vs.length : Nat) := of_decide_eq_true z2
          have vne : vs ≠ [] := fun e => by rw [e] at z2; simp at z2
          obtain ⟨v0, h0⟩ : ∃ v0, vs[0]? = some v0 := ⟨_, List.getElem?_eq_getElem (by omega)⟩
          have hL : vs[vs.length - 1]? = some (vs.getLast vne) := by rw [List.getLast_eq_getElem]; exact List.getElem?_eq_getElem (by omega)
          obtain ⟨p0, hp0, q0, e0, _, pq0⟩ := hv2.2 0 v0 h0
          obtain ⟨pL, hpL, qL, eL, _, pqL⟩ := hv2.2 _ _ hL
          subst e0
          obtain ⟨us0, hu0, ht0⟩ := id pq0
          obtain ⟨usL, huL, htL⟩ := id pqL
          obtain ⟨l0, z0⟩ := hz p0 (List.mem_of_getElem? hp0)
          obtain ⟨lL, zL⟩ := hz pL (List.mem_of_getElem? hpL)
          refine ⟨_, rfl, fo, _, 0, _, rfl, rfl, SqL.of hv1, atI_nat (j := 0) h0, _, rfl, _, rfl, fo, _, -1, _, rfl, rfl, SqL.of hv1, at_last vs vne, q0, qL, us0, usL, by rw [eL], SqL.of hu0, SqL.of huL, fun D8 hD8 => ?_⟩
          have m4 : 7 * 2 ^ i / 2 ≤ 112 := by have : 2 ^ i ≤ 2 ^ 4 := Nat.pow_le_pow_right (by decide) (by omega); omega
          refine lz_pl (ps := p0) (rs := pL) (by rw [l0, lL]) (by omega) plusP hD8 hu0 ht0 huL htL (fun _ _ => rfl) ?_ ?_
          · intro i2 p r x y H9 Q9 hp hr' tx ty s9 k9
            exact ⟨_, rfl, _, rfl, x, y, p, r, rfl, tx, ty, ((z0 p (List.mem_of_getElem? hp)).pz m4).pp (by decide), ((zL r (List.mem_of_getElem? hr')).pz m4).pp (by decide), fun b hb => k9 b _ upd_same (same_new hb)⟩
          · intro H9 s9 pL9
            refine R H9 D8 ⟨Rc6.same s9, ly6.same s9, (fun z => by rw [z, hv1] at hD8; cases hD8), List.zipWith plusP p0 pL, pL9, by rw [List.length_zipWith, l0, lL]; omega, fun p hp => ?_⟩
            obtain ⟨j, hj⟩ := List.mem_iff_getElem?.mp hp
            rw [List.getElem?_zipWith] at hj
            cases e1 : p0[j]? with
            | none => rw [e1] at hj; cases hj
            | some x =>
              cases e2 : pL[j]? with
              | none => rw [e1, e2] at hj; cases hj
              | some y =>
                rw [e1, e2] at hj
                have := Option.some.inj hj
                rw [← this]
                exact ((z0 x (List.mem_of_getElem? e1)).plus (zL y (List.mem_of_getElem? e2))).up (by omega)
        clear F6
        intro H6 fr6 F6
        refine seq_join (Fx := Fx) (fun fr => [some (.ref d), some (.int 5), some (.int 4), some (.int (n : Nat)), some (.ref fo), some (.int (0 + (i : Nat))), some (.int w0), some (.ref fr), none, none, none]) ?R3 fun N R => ?_
        rotate_left
        · obtain ⟨Rc6, ly6, nf6, ps6, pl6, l6, q6⟩ := id F6
          refine ⟨_, rfl, rfl, _, rfl, ite2 (fun z => ?_) (fun z => R H6 fr6 F6)⟩
          refine ⟨small1000 (by show 1 ≤ 1000; decide), fun t ht => ?_⟩
          have s7 : Same H6 (upd H6 t (.tup [.int 0, .int 1])) := same_new ht
          have tt : TA (upd H6 t (.tup [.int 0, .int 1])) t (0, 1) := upd_same
          generalize upd H6 t _ = H7 at *
          refine ⟨small1000 (by show 0 ≤ 1000; decide), fun l hl => ?_⟩
          have s8 : Same H7 (upd H7 l (.lst [.ref t])) := same_new hl
          have hl8 : upd H7 l (.lst [.ref t]) l = some (.lst [.ref t]) := upd_same
          generalize upd H7 l _ = H8 at *
          refine ⟨_, rfl, l, (n : Int), _, rfl, rfl, hl8, by omega, by omega, Nat.le_of_lt (small1000 (by show 1 * (n : Int).toNat ≤ 1000; omega)), fun p hp => ?_⟩
          have en : (List.replicate (n : Int).toNat [V.ref t]).flatten = List.replicate n (V.ref t) := by rw [flat_rep]; rfl
          rw [en]
          have s9 : Same H8 (upd H8 p (.lst (List.replicate n (V.ref t)))) := same_new hp
          have s69 := s7.trans (s8.trans s9)
          refine R _ p ⟨Rc6.same s69, ly6.same s69, (fun z => by
            obtain ⟨_, e, _⟩ := ly6
            have := (s7.trans s8) _ _ e
            rw [z, this] at hp; cases hp), List.replicate n (0, 1), ⟨_, upd_same, rep_tps ((s8.trans s9) _ _ tt) n⟩, List.length_replicate, fun p hp => ?_⟩
          rw [List.eq_of_mem_replicate hp]
          exact Q12.zero.up (Nat.zero_le _)
        clear F6
        rintro H6 fr6 ⟨Rc6, ly6, nf6, ps6, pl6, l6, q6⟩
        obtain ⟨vs, hv1, hv2⟩ := id ly6
        have vl : vs.length = i := by rw [hv2.1]; exact pl
        refine ⟨_, rfl, .inl ⟨rfl, _, SqL.of hv1⟩, _, rfl, fo, vs, _, rfl, rfl, hv1, small1000 (by omega), ?_⟩
        have up : ∀ q ps, q ≠ fo → PL H6 q ps → PL (upd H6 fo (.lst (vs ++ [.ref fr6]))) q ps := fun q ps nq ⟨ys, h1, h2⟩ => ⟨ys, by rw [upd_ne nq]; exact h1, h2.updl hv1⟩
        refine ⟨Rc6.grow nfo fd', pss ++ [ps6], _, _, _, rfl, ⟨_, upd_same, AG.snoc (hv2.imp fun _ _ ⟨q, e, nq, t⟩ => ⟨q, e, nq, up _ _ nq t⟩) ⟨fr6, rfl, nf6, up _ _ nf6 pl6⟩⟩, by rw [List.length_append, pl]; rfl, fun ps hps => ?_⟩
        rcases List.mem_append.mp hps with z | z
        · exact ⟨(hz ps z).1, fun p hp => ((hz ps z).2 p hp).up (by omega)⟩
        · rw [List.mem_singleton.mp z]; exact ⟨l6, q6⟩
    · rintro σ Hc ⟨Rc, pss, x5, x6, x7, rfl, ly, pl, hz⟩
      have e : 2 ^ (1 + r2).toNat ≤ 2 ^ 5 := Nat.pow_le_pow_right (by decide) (by omega)
      exact ⟨_, rfl, q fo pss n Hc n1 n4 (by omega) (by omega) (fun ps m => ⟨(hz ps m).1, fun p hp => ((hz ps m).2 p hp).up (by omega)⟩) ly.ll Rc⟩
end
end FR
set_option Elab.async false
set_option linter.all false
set_option maxRecDepth 100000
set_option maxHeartbeats 4000000
/-! tuples that are equal, asked by != -/
namespace GQ
open PySem PySem.SeqAt
open AutoSeq1 (wpAny_loadPart')
open MeetsSeq MeetsSeq2 MeetsSeq3 SeqRoads2
section
variable {prog : Program} {w : World} {A : Around} {R : Result → Shared → Prop}
theorem tuple_neG (p q : Addr) (xs ys : Array Value) (n m : Nat) (d1 d2 : Option Addr) (z1 z2 : Array (Option Value)) (len : xs.size = ys.size) (J : Nat → Shared → Prop)
    (each : ∀ k (k1 : k < xs.size) (k2 : k < ys.size) s, J k s → wpAny (model prog w) A.in1 (eqBool xs[k] ys[k]) (fun r s' => r = true ∧ J (k + 1) s') (fun e s' => R (.error e) s') s)
    (done : ∀ s, J xs.size s → R (.ok (.ret (.bool false))) s) {s : Shared} (hp : s.heap.get? p = some { cls := .type "tuple", dict := d1, data := .seq xs n, slots := z1 }) (hq : s.heap.get? q = some { cls := .type "tuple", dict := d2, data := .seq ys m, slots := z2 })
    (start : J 0 s) : wpAny (model prog w) A.in1 (Builtin.«tuple.__ne__» ⟨[.ref p, .ref q], []⟩) (FinOf prog w A R) (fun e s' => R (.error e) s') s := by
  have sub := AutoSeq1.sub_tuple_tuple
  have zl : (xs.toList.zip ys.toList).length = xs.size := by simp [len]
  have st := start
  obtain ⟨hp0, gens0, dr0, tk0, os0⟩ := s
  wp_walk using wpAny_loadPart' hp, wpAny_loadPart' hq, wpAny_forIn_list _ (fun left c s' => c.1 = none ∧ ∃ k, left = (xs.toList.zip ys.toList).drop k ∧ k ≤ xs.size ∧ J k s') _
  case turn =>
    rintro ⟨u, v⟩ left c s' ⟨c0, k, zk, hk, hJ⟩
    have lt : k < (xs.toList.zip ys.toList).length := Nat.lt_of_not_le fun ge => by
      rw [List.drop_of_length_le ge] at zk
      cases zk
    have k1 : k < xs.size := by omega
    have k2 : k < ys.size := by omega
    rw [List.drop_eq_getElem_cons lt] at zk
    injection zk with eh et
    have eu : u = xs[k] := by have e := congrArg Prod.fst eh; simpa using e
    have ev : v = ys[k] := by have e := congrArg Prod.snd eh; simpa using e
    subst eu ev
    refine wpAny_bind (wpAny_mono (each k k1 k2 s' hJ) (fun r s2 ⟨er, hJ2⟩ => ?_) fun _ _ y => y)
    subst er
    wp_walk
    exact ⟨rfl, k + 1, et, k1, hJ2⟩
  case fin =>
    rintro ⟨c1, c2⟩ s' ⟨c0, k, zk, hk, hJ⟩
    simp only at c0
    subst c0
    have ke : k = xs.size := by
      rcases Nat.lt_or_ge k (xs.toList.zip ys.toList).length with lt | ge
      · rw [List.drop_eq_getElem_cons lt] at zk
        cases zk
      · omega
    have fin := done s' (ke ▸ hJ)
    wp_walk
    simpa [Builtin.Tuple.tupleCompareSizes, len] using fin
  case h =>
    exact ⟨rfl, 0, rfl, Nat.zero_le _, st⟩
end
section
variable {prog : Program} {w : World} {A : Around} {E : Value → Shared → Prop} {s : Shared}
theorem rc_tupNe {p q : Addr} {xs ys : Array Value} {Q : Value → Shared → Prop} (len : xs.size = ys.size) (hu : A.units < cLine) (J : Nat → Shared → Prop)
    (hp : s.heap.IsTuple p xs) (hq : s.heap.IsTuple q ys)
    (each : ∀ k (k1 : k < xs.size) (k2 : k < ys.size) s, J k s → wpAny (model prog w) A.in1 (eqBool xs[k] ys[k]) (fun r s' => r = true ∧ J (k + 1) s') E s)
    (done : ∀ s, J xs.size s → Q (.bool false) s) (start : J 0 s) : wpAny (model prog w) A (richCompare .NotEq (.ref p) (.ref q)) Q E s := by
  obtain ⟨⟨c1, d1, t1, z1⟩, h1, e1, n, g1⟩ := id hp
  obtain ⟨⟨c2, d2, t2, z2⟩, h2, e2, m, g2⟩ := id hq
  simp only at e1 g1 e2 g2
  subst e1 g1 e2 g2
  refine wpAny_richCompare_same_room (op := .NotEq) ⟨_, h1, rfl⟩ ⟨_, h2, rfl⟩ F.slot_tuple_ne (call_here F.slot_tuple_ne ⟨_, h1, rfl⟩ F.entry_tuple_ne (F.args_tuple_ne_2 _ _) ?_) hu
  exact tuple_neG (R := wants (fun v s' => v ≠ .notImplemented ∧ Q v s') E) p q xs ys n m d1 d2 z1 z2 len J each (fun s' y => ⟨(fun z => nomatch z), done s' y⟩) h1 h2 start
end
end GQ
set_option Elab.async false
set_option linter.all false
set_option maxRecDepth 100000
set_option maxHeartbeats 4000000
namespace L2
open PySem PySem.Spec PyProof.Rows
/-- two tuples whose items are equal, under != -/
theorem op_neTup {X : Cx} {n : Nat} {D : Eqv} (mono : Mon D) (items : EqG X n D) (hr : Room (n + 1) X.A) : OpR X (compareOp .NotEq) (fun x y H Q => DTup X.K D x y H ∧ ∀ H', Ext H H' → Q (.bl false) H') := by
  intro pins s σ H x y v u Q I rx ry ⟨d, q⟩
  obtain ⟨a, b, xs, ys, rfl, rfl, ha, hb, pr⟩ := d
  cases rx
  cases ry
  obtain ⟨i1, r1, e1, _⟩ := I.tuple ha
  obtain ⟨i2, r2, e2, _⟩ := I.tuple hb
  have sub : Sub X (n + 1) X.A := ⟨hr, rfl⟩
  have len : i1.toArray.size = i2.toArray.size := by
    have := pr.1
    have l1 := r1.length
    have l2 := r2.length
    simp only [List.size_toArray]
    omega
  show wpAny (model X.prog X.w) X.A (richCompare .NotEq (.ref a) (.ref b)) (EP X pins σ Q) X.xe s
  exact GQ.rc_tupNe len hr.units0 (fun _ s' => LoopI X pins σ H s') e1 e2 (fun k k1 k2 s' l => turnG mono items sub pr r1 r2 k k1 k2 s' l) (fun s' ⟨H', J, ex⟩ => ⟨.bl false, H', J, rfl, q H' ex⟩) ⟨H, I, Ext.rfl'⟩
theorem fn_weaken {P : Program} {w : World} {K : PySem.W.Frag} {mg : Str → Option Value} {base : Heap} {CX : CXT} {k : Nat} {f : Addr} {fd : FuncData} {ps : List Str} {sp sp' : Sp} (F : FnOk P w K mg base CX k f fd ps sp) (g : ∀ vs H Q E, sp' vs H Q E → sp vs H Q E) : FnOk P w K mg base CX k f fd ps sp' :=
  ⟨fun vs H Q E h => F.len vs H Q E (g vs H Q E h), fun A o s H ar us vs Q E hr e0 b r h => F.run A o s H ar us vs Q E hr e0 b r (g vs H Q E h)⟩
end L2
set_option Elab.async false
set_option linter.all false
set_option maxRecDepth 100000
set_option maxHeartbeats 4000000
namespace GQ
open PySem PySem.SeqAt
open AutoSeq1 (wpAny_loadPart')
open MeetsSeq MeetsSeq2 MeetsSeq3 SeqRoads2
section
variable {prog : Program} {w : World} {A : Around} {R : Result → Shared → Prop}
/-- a tuple that isn't empty beside an empty one -/
theorem tuple_neE (p q : Addr) (xs ys : Array Value) (n m : Nat) (d1 d2 : Option Addr) (z1 z2 : Array (Option Value)) (some_ : 0 < xs.size) (none_ : ys.size = 0) {s : Shared}
    (done : R (.ok (.ret (.bool true))) s) (hp : s.heap.get? p = some { cls := .type "tuple", dict := d1, data := .seq xs n, slots := z1 }) (hq : s.heap.get? q = some { cls := .type "tuple", dict := d2, data := .seq ys m, slots := z2 }) :
    wpAny (model prog w) A.in1 (Builtin.«tuple.__ne__» ⟨[.ref p, .ref q], []⟩) (FinOf prog w A R) (fun e s' => R (.error e) s') s := by
  have sub := AutoSeq1.sub_tuple_tuple
  have ye : ys = #[] := Array.size_eq_zero_iff.mp none_
  subst ye
  have zl : (xs.toList.zip (#[] : Array Value).toList) = [] := by simp
  have dd := done
  obtain ⟨hp0, gens0, dr0, tk0, os0⟩ := s
  wp_walk using wpAny_loadPart' hp, wpAny_loadPart' hq, wpAny_forIn_list _ (fun left c s' => c.1 = none ∧ left = [] ∧ R (.ok (.ret (.bool true))) s') _
  case turn =>
    rintro ⟨u, v⟩ left c s' ⟨c0, zk, hJ⟩
    cases zk
  case fin =>
    rintro ⟨c1, c2⟩ s' ⟨c0, zk, hJ⟩
    simp only at c0
    subst c0
    wp_walk
    have ne : (xs.size != 0) = true := bne_iff_ne.mpr (Nat.pos_iff_ne_zero.mp some_)
    simp only [Builtin.Tuple.tupleCompareSizes]
    first
      | (show R (.ok (.ret (.bool (xs.size != 0)))) s'; rw [ne]; exact hJ)
      | (show R (.ok (.ret (.bool (xs.size != (#[] : Array Value).size)))) s'; simpa [ne] using hJ)
  case h =>
    exact ⟨rfl, zl, dd⟩
end
section
variable {prog : Program} {w : World} {A : Around} {E : Value → Shared → Prop} {s : Shared}
theorem rc_tupNeE {p q : Addr} {xs ys : Array Value} {Q : Value → Shared → Prop} (some_ : 0 < xs.size) (none_ : ys.size = 0) (hu : A.units < cLine) (hp : s.heap.IsTuple p xs) (hq : s.heap.IsTuple q ys) (done : Q (.bool true) s) :
    wpAny (model prog w) A (richCompare .NotEq (.ref p) (.ref q)) Q E s := by
  obtain ⟨⟨c1, d1, t1, z1⟩, h1, e1, n, g1⟩ := id hp
  obtain ⟨⟨c2, d2, t2, z2⟩, h2, e2, m, g2⟩ := id hq
  simp only at e1 g1 e2 g2
  subst e1 g1 e2 g2
  refine wpAny_richCompare_same_room (op := .NotEq) ⟨_, h1, rfl⟩ ⟨_, h2, rfl⟩ F.slot_tuple_ne (call_here F.slot_tuple_ne ⟨_, h1, rfl⟩ F.entry_tuple_ne (F.args_tuple_ne_2 _ _) ?_) hu
  exact tuple_neE (R := wants (fun v s' => v ≠ .notImplemented ∧ Q v s') E) p q xs ys n m d1 d2 z1 z2 some_ none_ ⟨(fun z => nomatch z), done⟩ h1 h2
end
end GQ
namespace L2
open PySem PySem.Spec PyProof.Rows
/-- a tuple beside an empty one, under != -/
theorem op_neTupE {X : Cx} (hu : X.A.units < cLine) : OpR X (compareOp .NotEq) (fun x y H Q => ∃ a b xs, x = .ref a ∧ y = .ref b ∧ SqT X.K H a xs ∧ SqT X.K H b [] ∧ 0 < xs.length ∧ Q (.bl true) H) := by
  intro pins s σ H x y v u Q I rx ry ⟨a, b, xs, ex, ey, ha, hb, pos, q⟩
  subst ex ey
  cases rx
  cases ry
  obtain ⟨i1, r1, e1, _⟩ := I.tuple ha
  obtain ⟨i2, r2, e2, _⟩ := I.tuple hb
  have l1 := r1.length
  have l2 := r2.length
  show wpAny (model X.prog X.w) X.A (richCompare .NotEq (.ref a) (.ref b)) (EP X pins σ Q) X.xe s
  exact GQ.rc_tupNeE (by simp only [List.size_toArray]; omega) (by simp only [List.size_toArray]; rw [← l2]; rfl) hu e1 e2 ⟨.bl true, H, I, rfl, q⟩
end L2
set_option Elab.async false
set_option linter.all false
set_option maxRecDepth 100000
set_option maxHeartbeats 4000000
/-! an instance beside an integer, within tuples -/
namespace GQ
open PySem PySem.SeqAt
section
variable {prog : Program} {w : World} {A : Around} {E : Value → Shared → Prop} {s : Shared}
theorem eqBool_refI {l : Addr} {i : Int} {t : Tok} {Q : Bool → Shared → Prop} (h : wpAny (model prog w) A (richCompare .Eq (.ref l) (.int i t)) (fun v s' => ∃ r, v = .bool r ∧ Q r s') E s) : wpAny (model prog w) A (eqBool (.ref l) (.int i t)) Q E s := by
  unfold eqBool
  refine wpAny_holding ?_
  refine wpAny_ite_split (fun hab => absurd (eq_of_beq hab) (fun z => nomatch z)) (fun _ => ?_)
  refine wpAny_bind (wpAny_mono h (fun v s' hv => ?_) fun _ _ x => x)
  obtain ⟨r, rfl, q⟩ := hv
  exact wpAny_truthy_bool q
end
end GQ
namespace L2
open PySem PySem.Spec PyProof.Rows PySem.Calls
section
variable {X : Cx} {CX : CXT} {n : Nat} {f C : Addr} {fd : FuncData} {ps : List Str} {sp : Sp} {E : XK}
/-- an instance of the class at C beside an integer: what R says of the two -/
def DOwnI (C : Addr) (R : Addr → Int → Hp → Prop) : Eqv := fun x y H => ∃ a dx fs i, x = .ref a ∧ y = .int i ∧ H a = some (.ins C dx fs) ∧ R a i H
theorem mon_ownI {C : Addr} {R : Addr → Int → Hp → Prop} (hR : ∀ a i H H', Ext H H' → R a i H → R a i H') : Mon (DOwnI C R) := fun x y H H' e d => by
  obtain ⟨a, dx, fs, i, hx, hy, h1, r⟩ := d
  exact ⟨a, dx, fs, i, hx, hy, e _ _ h1, hR a i H H' e r⟩
theorem eqG_ownI {R : Addr → Int → Hp → Prop} (D : Dun X.K C "__eq__" f) (F : FnOk X.prog X.w X.K X.mg X.base CX n f fd ps sp) (hb : Binds X.K fd ps []) (hx : Passes CX X E) (nf : PySem.W.notFirst X.K C (.type "int") = true)
    (g : ∀ a i H, R a i H → sp [.ref a, .int i] H (fun v H' => v = .bl true ∧ Ext H H') E) : EqG X n (DOwnI C R) := by
  intro A pins s σ H x y u v sb I rx ry d
  obtain ⟨a, dx, fs, i, rfl, rfl, ha, hr⟩ := d
  cases rx
  obtain ⟨t, rfl⟩ := (show ∃ t, v = Value.int i t from ry)
  refine GQ.eqBool_refI ?_
  obtain ⟨od, J, _⟩ := ins_at I ha
  obtain ⟨m, hF⟩ := I.fr
  obtain ⟨P, Z, p, _⟩ := kit_of I (rInt i t) (.base (.int i))
  refine PySem.W.cmp_K (op := .Eq) (tb := .type "int") sb.room.units0 hF I.ok.mod.kin J (Z.ty _ _ I.kIn p) nf D.at_ D.fn (wpAny_mono (run_sub sb F hb hx I (.cons (rRef a) (.cons (rInt i t) .nil)) (g a i H hr)) (fun w' s' q => ?_) fun _ _ e => e)
  obtain ⟨z, H', I', rz, ez, ex⟩ := q
  subst ez
  cases rz
  exact ⟨true, rfl, rfl, H', I', ex⟩
end
end L2
set_option Elab.async false
set_option linter.all false
set_option maxRecDepth 100000
set_option maxHeartbeats 4000000
/-! tuples of one length under ==, whatever comes out; a value in a tuple, by data -/
namespace GQ
open PySem PySem.SeqAt
open AutoSeq1 (wpAny_loadPart')
open MeetsSeq MeetsSeq2 MeetsSeq3 SeqRoads2
section
variable {prog : Program} {w : World} {A : Around} {R : Result → Shared → Prop}
theorem tuple_eqW (p q : Addr) (xs ys : Array Value) (n m : Nat) (d1 d2 : Option Addr) (z1 z2 : Array (Option Value)) (len : xs.size = ys.size) (bs : Nat → Bool) (J : Nat → Shared → Prop)
    (each : ∀ k (k1 : k < xs.size) (k2 : k < ys.size) s, J k s → wpAny (model prog w) A.in1 (eqBool xs[k] ys[k]) (fun r s' => r = bs k ∧ J (k + 1) s') (fun e s' => R (.error e) s') s)
    (all_ : ∀ s, (∀ k, k < xs.size → bs k = true) → J xs.size s → R (.ok (.ret (.bool true))) s) (some_ : ∀ s k, k < xs.size → bs k = false → J (k + 1) s → R (.ok (.ret (.bool false))) s)
    {s : Shared} (hp : s.heap.get? p = some { cls := .type "tuple", dict := d1, data := .seq xs n, slots := z1 }) (hq : s.heap.get? q = some { cls := .type "tuple", dict := d2, data := .seq ys m, slots := z2 })
    (start : J 0 s) : wpAny (model prog w) A.in1 (Builtin.«tuple.__eq__» ⟨[.ref p, .ref q], []⟩) (FinOf prog w A R) (fun e s' => R (.error e) s') s := by
  have sub := AutoSeq1.sub_tuple_tuple
  have zl : (xs.toList.zip ys.toList).length = xs.size := by simp [len]
  have st := start
  obtain ⟨hp0, gens0, dr0, tk0, os0⟩ := s
  wp_walk using wpAny_loadPart' hp, wpAny_loadPart' hq, wpAny_forIn_list _ (fun left c s' => c.1 = none ∧ ∃ k, left = (xs.toList.zip ys.toList).drop k ∧ k ≤ xs.size ∧ (∀ i, i < k → bs i = true) ∧ J k s') _
  case turn =>
    rintro ⟨u, v⟩ left c s' ⟨c0, k, zk, hk, hb, hJ⟩
    have lt : k < (xs.toList.zip ys.toList).length := Nat.lt_of_not_le fun ge => by
      rw [List.drop_of_length_le ge] at zk
      cases zk
    have k1 : k < xs.size := by omega
    have k2 : k < ys.size := by omega
    rw [List.drop_eq_getElem_cons lt] at zk
    injection zk with eh et
    have eu : u = xs[k] := by have e := congrArg Prod.fst eh; simpa using e
    have ev : v = ys[k] := by have e := congrArg Prod.snd eh; simpa using e
    subst eu ev
    refine wpAny_bind (wpAny_mono (each k k1 k2 s' hJ) (fun r s2 ⟨er, hJ2⟩ => ?_) fun _ _ y => y)
    subst er
    cases eb : bs k with
    | true =>
      wp_walk
      exact ⟨rfl, k + 1, et, k1, fun i hi => by
        by_cases z : i = k
        · rw [z]; exact eb
        · exact hb i (by omega), hJ2⟩
    | false =>
      have fin := some_ s2 k k1 eb hJ2
      wp_walk
      first
        | exact fin
        | simpa using fin

  case fin =>
    rintro ⟨c1, c2⟩ s' ⟨c0, k, zk, hk, hb, hJ⟩
    simp only at c0
    subst c0
    have ke : k = xs.size := by
      rcases Nat.lt_or_ge k (xs.toList.zip ys.toList).length with lt | ge
      · rw [List.drop_eq_getElem_cons lt] at zk
        cases zk
      · omega
    have fin := all_ s' (fun i hi => hb i (by omega)) (ke ▸ hJ)
    wp_walk
    simpa [Builtin.Tuple.tupleCompareSizes, len] using fin
  case h =>
    exact ⟨rfl, 0, rfl, Nat.zero_le _, fun i hi => by omega, st⟩
end

section
variable {prog : Program} {w : World} {A : Around} {E : Value → Shared → Prop} {s : Shared}
theorem rc_tupW {p q : Addr} {xs ys : Array Value} {Q : Value → Shared → Prop} (len : xs.size = ys.size) (bs : Nat → Bool) (hu : A.units < cLine) (J : Nat → Shared → Prop)
    (hp : s.heap.IsTuple p xs) (hq : s.heap.IsTuple q ys)
    (each : ∀ k (k1 : k < xs.size) (k2 : k < ys.size) s, J k s → wpAny (model prog w) A.in1 (eqBool xs[k] ys[k]) (fun r s' => r = bs k ∧ J (k + 1) s') E s)
    (all_ : ∀ s, (∀ k, k < xs.size → bs k = true) → J xs.size s → Q (.bool true) s) (some_ : ∀ s k, k < xs.size → bs k = false → J (k + 1) s → Q (.bool false) s) (start : J 0 s) : wpAny (model prog w) A (richCompare .Eq (.ref p) (.ref q)) Q E s := by
  obtain ⟨⟨c1, d1, t1, z1⟩, h1, e1, n, g1⟩ := id hp
  obtain ⟨⟨c2, d2, t2, z2⟩, h2, e2, m, g2⟩ := id hq
  simp only at e1 g1 e2 g2
  subst e1 g1 e2 g2
  refine wpAny_richCompare_same_room (op := .Eq) ⟨_, h1, rfl⟩ ⟨_, h2, rfl⟩ F.slot_tuple_eq (call_here F.slot_tuple_eq ⟨_, h1, rfl⟩ F.entry_tuple_eq (F.args_tuple_eq_2 _ _) ?_) hu
  exact tuple_eqW (R := wants (fun v s' => v ≠ .notImplemented ∧ Q v s') E) p q xs ys n m d1 d2 z1 z2 len bs J each (fun s' a y => ⟨(fun z => nomatch z), all_ s' a y⟩) (fun s' k a b y => ⟨(fun z => nomatch z), some_ s' k a b y⟩) h1 h2 start
end
end GQ
namespace L2
open PySem PySem.Spec PyProof.Rows PySem.Calls
/-- how two values are compared, and what comes out -/
abbrev EqvB := V → V → Bool → Hp → Prop
def MonB (D : EqvB) : Prop := ∀ x y b H H', Ext H H' → D x y b H → D x y b H'
def EqB (X : Cx) (n : Nat) (D : EqvB) : Prop :=
  ∀ (A : Around) (pins : List (Addr × Obj)) (s : Shared) (σ : St) (H : Hp) (x y : V) (u v : Value) (b : Bool), Sub X n A → Inv X pins σ H s → RelV x u → RelV y v → D x y b H →
    wpAny (model X.prog X.w) A (eqBool u v) (fun r s' => r = b ∧ ∃ H', Inv X pins σ H' s' ∧ Ext H H') X.xe s
/-- tuples of one length, item by item -/
def PrsB (D : EqvB) (xs ys : List V) (bs : List Bool) (H : Hp) : Prop := xs.length = ys.length ∧ xs.length = bs.length ∧ ∀ (i : Nat) x y b, xs[i]? = some x → ys[i]? = some y → bs[i]? = some b → D x y b H
theorem op_eqTW {X : Cx} {n : Nat} {D : EqvB} (mono : MonB D) (items : EqB X n D) (hr : Room (n + 1) X.A) : OpR X (compareOp .Eq) (fun x y H Q => ∃ a b xs ys bs, x = .ref a ∧ y = .ref b ∧ SqT X.K H a xs ∧ SqT X.K H b ys ∧ PrsB D xs ys bs H ∧ ∀ H', Ext H H' → Q (.bl (bs.all id)) H') := by
  intro pins s σ H x y v u Q I rx ry ⟨a, b, xs, ys, bs, ex, ey, ha, hb, ⟨l1, l2, pr⟩, q⟩
  subst ex ey
  cases rx
  cases ry
  obtain ⟨i1, r1, e1, _⟩ := I.tuple ha
  obtain ⟨i2, r2, e2, _⟩ := I.tuple hb
  have sub : Sub X (n + 1) X.A := ⟨hr, rfl⟩
  have k1 := r1.length
  have k2 := r2.length
  have gb : ∀ k, k < i1.toArray.size → bs[k]? = some (bs.getD k true) := fun k hk => by
    have : k < bs.length := by simp only [List.size_toArray] at hk; omega
    rw [List.getD_eq_getElem?_getD, List.getElem?_eq_getElem this]; rfl
  show wpAny (model X.prog X.w) X.A (richCompare .Eq (.ref a) (.ref b)) (EP X pins σ Q) X.xe s
  refine GQ.rc_tupW (by simp only [List.size_toArray]; omega) (fun k => bs.getD k true) hr.units0 (fun _ s' => LoopI X pins σ H s') e1 e2 (fun k h1 h2 s' l => ?_) (fun s' al ⟨H', J, ex⟩ => ⟨.bl true, H', J, rfl, ?_⟩) (fun s' k hk bk ⟨H', J, ex⟩ => ⟨.bl false, H', J, rfl, ?_⟩) ⟨H, I, Ext.rfl'⟩
  · obtain ⟨H1, I1, ex⟩ := l
    have g1 : i1[k]? = some i1.toArray[k] := by
      have h1' : k < i1.length := by simpa using h1
      rw [List.getElem?_eq_getElem h1'] <;> simp
    have g2 : i2[k]? = some i2.toArray[k] := by
      have h2' : k < i2.length := by simpa using h2
      rw [List.getElem?_eq_getElem h2'] <;> simp
    have m1 : k < xs.length := by rw [k1]; simpa using h1
    have m2 : k < ys.length := by rw [k2]; simpa using h2
    obtain ⟨u', hu', ru⟩ := r1.get (List.getElem?_eq_getElem m1)
    obtain ⟨v', hv', rv⟩ := r2.get (List.getElem?_eq_getElem m2)
    rw [g1] at hu'
    rw [g2] at hv'
    rw [Option.some.inj hu', Option.some.inj hv']
    refine wpAny_mono (items X.A.in1 pins s' σ H1 _ _ u' v' _ sub.in1 I1 ru rv (mono _ _ _ _ _ ex (pr k _ _ _ (List.getElem?_eq_getElem m1) (List.getElem?_eq_getElem m2) (gb k h1)))) (fun r s2 z => ?_) fun _ _ z => z
    obtain ⟨hr', H2, I2, ex2⟩ := z
    exact ⟨hr', H2, I2, ex.trans ex2⟩
  · have e : bs.all id = true := List.all_eq_true.mpr fun z hz => by
      obtain ⟨k, hk⟩ := List.mem_iff_getElem?.mp hz
      have kl := (List.getElem?_eq_some_iff.mp hk).1
      have h1 : k < i1.toArray.size := by simp only [List.size_toArray]; omega
      have := al k h1
      have g := gb k h1
      rw [hk] at g
      rw [← Option.some.inj g] at this
      exact this
    rw [← e]
    exact q _ ex
  · have e : bs.all id = false := Bool.eq_false_iff.mpr fun z => by
      have := List.all_eq_true.mp z _ (List.mem_of_getElem? (gb k hk))
      have bk : bs.getD k true = false := bk
      rw [bk] at this
      cases this
    rw [← e]
    exact q _ ex
/-- x not in t, t a tuple, both by data -/
theorem op_notInDT {X : Cx} (hu : X.A.units + 65 < cLine) : OpR X (compareOp .NotIn) (fun x y H Q => ∃ d ds, Dp X.K H x d ∧ Dp X.K H y (.tuple ds) ∧ SeqAt.shaped d = true ∧ SeqAt.shaped (.tuple ds) = true ∧ Q (.bl (!ds.any fun z => PyData.eqv z d)) H) := by
  intro pins s σ H x y v u Q I rx ry h
  obtain ⟨d, ds, hd, he, sd, se, q⟩ := h
  obtain ⟨as, r1⟩ := Dp.reads I d x v hd rx
  obtain ⟨bs, r2⟩ := Dp.reads I (.tuple ds) y u he ry
  exact SeqAt.notIn_tuple_reads r2 r1 (SeqAt.canLay_of_shaped se) (SeqAt.canLay_of_shaped sd) (room_in_shaped sd hu) ⟨.bl _, H, I, rfl, q⟩
end L2
namespace FR
open PySem PySem.Spec PyProof.Rows L2 LD RF PySem.Calls
/-- a Fraction beside a fraction -/
def DFrB (C : Addr) : EqvB := fun x y b H => ∃ (p r : PI), FR1 C H x p ∧ FV C H y r.1 r.2 ∧ b = decide (p = r)
theorem mon_frb (C : Addr) : MonB (DFrB C) := fun x y b H H' e ⟨p, r, ⟨q, e1, f⟩, fv, eb⟩ => ⟨p, r, ⟨q, e1, f.same e⟩, fv.same e, eb⟩
theorem dec_pair (p r : PI) : decide (p.1 = r.1 ∧ p.2 = r.2) = decide (p = r) := by
  by_cases h : p = r
  · rw [decide_eq_true h, decide_eq_true (by rw [h]; exact ⟨rfl, rfl⟩)]
  · rw [decide_eq_false h, decide_eq_false fun z => h (Prod.ext z.1 z.2)]
section
variable {X : Cx} {CX : CXT} {C f : Addr} {fd : FuncData} {E : XK}
theorem eqB_fr (D : Dun X.K C "__eq__" f) (F : FnOk X.prog X.w X.K X.mg X.base CX 3 f fd ["self", "other"] (FR.spEq X.K C)) (hb : Binds X.K fd ["self", "other"] []) (hx : Passes CX X E) (cl : PySem.W.notFirst X.K C (.type "int") = true) : EqB X 3 (DFrB C) := by
  intro A pins s σ H x y u v b sb I rx ry ⟨p, r, ⟨q, e1, f1⟩, fv, eb⟩
  subst e1
  cases rx
  obtain ⟨dx, f1⟩ := f1
  obtain ⟨od, J, _⟩ := ins_at I f1
  obtain ⟨m, hF⟩ := I.fr
  rcases fv with ⟨q2, e2, dy, f2⟩ | ⟨e2, e3⟩
  · subst e2
    cases ry
    by_cases hab : q = q2
    · subst hab
      rw [f1] at f2
      have e4 : p = r := by
        injection f2 with f3
        injection f3 with _ _ f4
        injection f4 with f5 f6
        injection f5 with _ f7
        injection f7 with f8
        injection f6 with f9 _
        injection f9 with _ f10
        injection f10 with f11
        exact Prod.ext f8 f11
      have e5 : b = true := by rw [eb, decide_eq_true e4]
      subst e5
      exact SeqAt.EqAt.same (A := A) (s := s) (.ref q) X.prog X.w X.xe _ ⟨rfl, H, I, Ext.rfl'⟩
    · refine GQ.eqBool_refG hab ?_
      obtain ⟨od2, J2, _⟩ := ins_at I f2
      refine PySem.W.cmp_K (op := .Eq) (tb := .ref C) sb.room.units0 hF I.ok.mod.kin J J2.type (by simp [PySem.W.notFirst]) D.at_ D.fn (wpAny_mono (run_sub (sp := FR.spEq X.K C) (vs := [.ref q, .ref q2]) (Q := fun v H' => v = .bl b ∧ Ext H H') sb F hb hx I (.cons (rRef q) (.cons (rRef q2) .nil)) ⟨q, .ref q2, p.1, p.2, b, rfl, ⟨dx, f1⟩, .inl ⟨q2, r.1, r.2, rfl, ⟨dy, f2⟩, by rw [eb]; exact (dec_pair p r).symm⟩, rfl, Ext.rfl'⟩) (fun w' s' z => ?_) fun _ _ e => e)
      obtain ⟨z, H', I', rz, ez, ex⟩ := z
      subst ez
      cases rz
      exact ⟨b, rfl, rfl, H', I', ex⟩
  · subst e2
    obtain ⟨t, rfl⟩ := (show ∃ t, v = Value.int r.1 t from ry)
    refine GQ.eqBool_refI ?_
    obtain ⟨P, Z, p', _⟩ := kit_of I (rInt r.1 t) (.base (.int r.1))
    refine PySem.W.cmp_K (op := .Eq) (tb := .type "int") sb.room.units0 hF I.ok.mod.kin J (Z.ty _ _ I.kIn p') cl D.at_ D.fn (wpAny_mono (run_sub (sp := FR.spEq X.K C) (vs := [.ref q, .int r.1]) (Q := fun v H' => v = .bl b ∧ Ext H H') sb F hb hx I (.cons (rRef q) (.cons (rInt r.1 t) .nil)) ⟨q, .int r.1, p.1, p.2, b, rfl, ⟨dx, f1⟩, .inr (.inl ⟨r.1, rfl, by
      rw [eb, ← dec_pair]
      have : (p.1 = r.1 ∧ p.2 = r.2) ↔ (p.2 = 1 ∧ p.1 = r.1) := by rw [e3]; exact ⟨fun z => ⟨z.2, z.1⟩, fun z => ⟨z.2, z.1⟩⟩
      simp only [this]⟩), rfl, Ext.rfl'⟩) (fun w' s' z => ?_) fun _ _ e => e)
    obtain ⟨z, H', I', rz, ez, ex⟩ := z
    subst ez
    cases rz
    exact ⟨b, rfl, rfl, H', I', ex⟩
end
end FR
set_option Elab.async false
set_option linter.all false
set_option maxRecDepth 100000
set_option maxHeartbeats 4000000
/-! is_fractions of any value; _is_told -/
namespace FR
open PySem PySem.Spec PyProof.Rows L2 LD RF
theorem odd_tup {K : PySem.W.Frag} {H : Hp} {v : V} {T : String} (o : Odd K H v T) (hT : T ≠ "tuple") : PySem.W.kitOne K (.type T) (.type "tuple") = some false := by
  cases o with
  | tup e => exact absurd rfl hT
  | _ => exact kit_ty (by decide +kernel)
theorem odd_str {K : PySem.W.Frag} {H : Hp} {v : V} {T : String} (o : Odd K H v T) (hT : T ≠ "str") : PySem.W.kitOne K (.type T) (.type "str") = some false := by
  cases o with
  | str e => exact absurd rfl hT
  | _ => exact kit_ty (by decide +kernel)
/-- whether a value is a tuple of fractions -/
def NumsR (K : PySem.W.Frag) (C : Addr) (H : Hp) (v : V) (r : Bool) : Prop :=
  (∃ T, Odd K H v T ∧ T ≠ "tuple" ∧ r = false) ∨ (∃ (b : Addr) (ys : List V) (rs : List Bool), v = .ref b ∧ H b = some (.tup ys) ∧ ys.length ≤ 90 ∧ ys.length = rs.length ∧ (∀ (i : Nat) z, ys[i]? = some z → ∃ q, rs[i]? = some q ∧ IsFr K C H z q) ∧ r = rs.all id)
theorem odd_same {K : PySem.W.Frag} {H H' : Hp} {v : V} {T : String} (o : Odd K H v T) (s : Same H H') : Odd K H' v T := by
  cases o with
  | non => exact .non
  | bl b => exact .bl b
  | int i => exact .int i
  | str x => exact .str x
  | lst e => exact .lst (s _ _ e)
  | tup e => exact .tup (s _ _ e)
  | dK e => exact .dK (s _ _ e)
theorem IsFr.same {K : PySem.W.Frag} {C : Addr} {H H' : Hp} {v : V} {r : Bool} (h : IsFr K C H v r) (s : Same H H') : IsFr K C H' v r := by
  rcases h with ⟨q, t, b, e, f, er⟩ | h | ⟨T, o, hT, er⟩
  · exact .inl ⟨q, t, b, e, f.same s, er⟩
  · exact .inr (.inl h)
  · exact .inr (.inr ⟨T, odd_same o s, hT, er⟩)
theorem NumsR.same {K : PySem.W.Frag} {C : Addr} {H H' : Hp} {v : V} {r : Bool} (h : NumsR K C H v r) (s : Same H H') : NumsR K C H' v r := by
  rcases h with ⟨T, o, hT, er⟩ | ⟨b, ys, rs, e, hb, l9, l, z, er⟩
  · exact .inl ⟨T, odd_same o s, hT, er⟩
  · exact .inr ⟨b, ys, rs, e, s _ _ hb, l9, l, fun i z' hz => (z i z' hz).imp fun q ⟨a, b⟩ => ⟨a, b.same s⟩, er⟩
section
variable {P : Program} {w : World} {K : PySem.W.Frag} {mg : Str → Option Value} {base : Heap} {C : Addr}
def spFsB (K : PySem.W.Frag) (C : Addr) : Sp := fun vs H Q _ => ∃ v r, vs = [v] ∧ NumsR K C H v r ∧ ∀ H', Same H H' → Q (.bl r) H'
theorem ok_fsB {f : Addr} {fd : FuncData} (F : Fun K "is_fractions" "is_fractions" sFs f fd) (gI : Glo P w K mg base "is_fraction" 2 ["value"] (spIsF K C)) (mI : mg "isinstance" = none) (mT : mg "tuple" = none) (mA : mg "all" = none) : FnOk P w K mg base CX0 3 f fd ["value"] (spFsB K C) := by
  refine F.ok scFs (fun vs H Q E h => ?_) (fun cdv A outer s H vs Q E hr h => ?_)
  · obtain ⟨v, r, rfl, _⟩ := h
    rfl
  · obtain ⟨v, r, rfl, hn, q⟩ := h
    refine ⟨_, (pss_one (ps_ret (pe_and (pe_callB call_isi (by rfl) mI PyProof.Rows.boot_isinstance (pa_cons (pv 0) (pa_cons (pe_bltn (v := .ty "tuple") (by rfl) mT (by decide +kernel) rfl) pa_nil))) (pe_one (pe_callB (cr_all rfl) (by rfl) mA (by decide +kernel) (pa_cons (pe_lc (own := [("one", 1)]) (g := gName 1) (tt := tYes) rfl scFs.nd (pi_tup (pv 0)) (blkOk_by (N := NFs) (sc := defScope sFs) (by decide +kernel)) (fun _ _ _ _ _ => pg_name (i := 1) scFs.nd rfl (.inl rfl)) (fun _ _ _ _ _ => pts_nil) (fun _ _ _ _ _ => pe_call gI.G hr (by rfl) gI.m gI.k gI.b .nil pass0 (pa_cons (pv 1) pa_nil))) pa_nil)))))), ?_⟩
    rcases hn with ⟨T, o, hT, er⟩ | ⟨b, ys, rs, e, hb, l9, l, z, er⟩
    · subst er
      exact ⟨_, rfl, _, _, _, _, false, rfl, .ty _, o.ty, odd_tup o hT, _, rfl, q H (Same.refl H)⟩
    · subst e
      refine ⟨_, rfl, _, _, _, _, true, rfl, .ty _, .base (.tup hb), kit_ty (by decide +kernel), _, rfl, ?_⟩
      refine ⟨_, rfl, b, rfl, ⟨_, SqT.of hb⟩, fun D hD => ?_⟩
      refine lc_tup (xs := ys) (fun i Hc => Same H Hc ∧ Hc D = some (.lst ((rs.take i).map V.bl))) ⟨same_new hD, upd_same⟩ (fun i Hc _ p => SqT.of (p.1 _ _ hb)) ?_ ?_
      · rintro i x Hc hi ⟨sm, hDc⟩
        obtain ⟨q1, hq1, isf⟩ := z i x hi
        have il := (List.getElem?_eq_some_iff.mp hi).1
        refine ⟨rfl, _, rfl, x, q1, rfl, isf.same sm, _, hDc, small1000 (by rw [List.length_map, List.length_take]; omega), same_upd hD sm, ?_⟩
        rw [take_snoc hq1, List.map_append]
        exact upd_same
      · rintro Hc ⟨sm, hDc⟩
        rw [List.take_of_length_le (by omega)] at hDc
        refine ⟨D, _, rfl, SqL.of hDc, ?_⟩
        subst er
        exact q _ sm
/-! ### _is_told -/
abbrev sTd : Stmt := top 30
theorem scTd : FnScope ["value", "word", "many"] ["value", "word", "many"] (defScope sTd) := ⟨rfl, rfl, rfl, by decide +kernel, rfl, by decide +kernel, by decide +kernel⟩
/-- whether a value is a pair of this word and so many fractions -/
def ToldR (K : PySem.W.Frag) (C : Addr) (H : Hp) (v : V) (z : Str) (m : Nat) (r : Bool) : Prop :=
  (∃ T, Odd K H v T ∧ T ≠ "tuple" ∧ r = false) ∨ (∃ (a : Addr) (xs : List V), v = .ref a ∧ H a = some (.tup xs) ∧ xs.length ≠ 2 ∧ r = false) ∨
  (∃ a x y T, v = .ref a ∧ H a = some (.tup [x, y]) ∧ Odd K H x T ∧ T ≠ "str" ∧ r = false) ∨ (∃ a z' y, v = .ref a ∧ H a = some (.tup [.str z', y]) ∧ z' ≠ z ∧ r = false) ∨
  (∃ a y, v = .ref a ∧ H a = some (.tup [.str z, y]) ∧ NumsR K C H y false ∧ r = false) ∨ (∃ (a b : Addr) (ys : List V), v = .ref a ∧ H a = some (.tup [.str z, .ref b]) ∧ H b = some (.tup ys) ∧ NumsR K C H (.ref b) true ∧ r = decide (ys.length = m))
def spTd (K : PySem.W.Frag) (C : Addr) : Sp := fun vs H Q _ => ∃ v z m r, vs = [v, .str z, .int (m : Nat)] ∧ ToldR K C H v z m r ∧ ∀ H', Same H H' → Q (.bl r) H'
theorem str_dec (x y : Str) : decide (V.str x = V.str y) = decide (x = y) := by
  by_cases h : x = y
  · rw [h, decide_eq_true rfl, decide_eq_true rfl]
  · rw [decide_eq_false h, decide_eq_false fun z => h (V.str.inj z)]
theorem int_dec (x y : Nat) : decide (V.int (x : Nat) = V.int (y : Nat)) = decide (x = y) := by
  by_cases h : x = y
  · rw [h, decide_eq_true rfl, decide_eq_true rfl]
  · rw [decide_eq_false h, decide_eq_false fun z => h (by have := V.int.inj z; omega)]
theorem ok_td {f : Addr} {fd : FuncData} (F : Fun K "_is_told" "_is_told" sTd f fd) (gF : Glo P w K mg base "is_fractions" 3 ["value"] (spFsB K C)) (mI : mg "isinstance" = none) (mT : mg "tuple" = none) (mS : mg "str" = none) (mL : mg "len" = none) : FnOk P w K mg base CX0 4 f fd ["value", "word", "many"] (spTd K C) := by
  refine F.ok scTd (fun vs H Q E h => ?_) (fun cdv A outer s H vs Q E hr h => ?_)
  · obtain ⟨v, z, m, r, rfl, _⟩ := h
    rfl
  · obtain ⟨v, z, m, r, rfl, hn, q⟩ := h
    refine ⟨_, (pss_cons (ps_if (PW.pt (pw_or (pt_not (pt_val (pe_callB call_isi (by rfl) mI PyProof.Rows.boot_isinstance (pa_cons (pv 0) (pa_cons (pe_bltn (v := .ty "tuple") (by rfl) mT (by decide +kernel) rfl) pa_nil))))) (pw_or1 (pt_cmpR op_ne (pe_callB call_len_seq (by rfl) mL PySem.boot_len (pa_cons (pv 0) pa_nil)) pe_int (nomark _))))) (pss_one (ps_ret pe_bl)) pss_nil)
      (pss_one (ps_ret (pe_and (pe_callB call_isi (by rfl) mI PyProof.Rows.boot_isinstance (pa_cons (pe_ix ix_tup (pv 0) pe_int (fun _ _ => rfl)) (pa_cons (pe_bltn (v := .ty "str") (by rfl) mS (by decide +kernel) rfl) pa_nil))) (pe_and (pe_cmpR op_eq (pe_ix ix_tup (pv 0) pe_int (fun _ _ => rfl)) (pv 1) (nomark _)) (pe_and (pe_call gF.G hr (by rfl) gF.m gF.k gF.b .nil pass0 (pa_cons (pe_ix ix_tup (pv 0) pe_int (fun _ _ => rfl)) pa_nil)) (pe_one (pe_cmpR op_eq (pe_callB call_len_seq (by rfl) mL PySem.boot_len (pa_cons (pe_ix ix_tup (pv 0) pe_int (fun _ _ => rfl)) pa_nil)) (pv 2) (nomark _))))))))), ?_⟩
    rcases hn with ⟨T, o, hT, er⟩ | ⟨a, xs, e, ha, l2, er⟩ | ⟨a, x, y, T, e, ha, o, hT, er⟩ | ⟨a, z', y, e, ha, nz, er⟩ | ⟨a, y, e, ha, ny, er⟩ | ⟨a, b, ys, e, ha, hb, ny, er⟩
    · subst er
      exact ⟨_, rfl, _, _, _, _, false, rfl, .ty _, o.ty, odd_tup o hT, _, rfl, iteT (q H (Same.refl H))⟩
    · subst e er
      refine ⟨_, rfl, _, _, _, _, true, rfl, .ty _, .base (.tup ha), kit_ty (by decide +kernel), _, rfl, iteF ?_⟩
      refine ⟨_, rfl, a, _, rfl, .inr (SqT.of ha), rfl, _, rfl, ?_⟩
      have e2 : (!decide (V.int (xs.length : Nat) = V.int (2 : Nat))) = true := by rw [int_dec, decide_eq_false l2]; rfl
      have e3 : (!decide (V.int (xs.length : Nat) = V.int 2)) = true := e2
      rw [e3]
      exact iteT (q H (Same.refl H))
    · subst e er
      refine ⟨_, rfl, _, _, _, _, true, rfl, .ty _, .base (.tup ha), kit_ty (by decide +kernel), _, rfl, iteF ?_⟩
      refine ⟨_, rfl, a, _, rfl, .inr (SqT.of ha), rfl, _, rfl, iteF ?_⟩
      refine ⟨_, rfl, a, _, 0, _, rfl, rfl, SqT.of ha, atI_nat (j := 0) rfl, _, _, _, _, false, rfl, .ty _, o.ty, odd_str o hT, _, rfl, q H (Same.refl H)⟩
    · subst e er
      refine ⟨_, rfl, _, _, _, _, true, rfl, .ty _, .base (.tup ha), kit_ty (by decide +kernel), _, rfl, iteF ?_⟩
      refine ⟨_, rfl, a, _, rfl, .inr (SqT.of ha), rfl, _, rfl, iteF ?_⟩
      refine ⟨_, rfl, a, _, 0, _, rfl, rfl, SqT.of ha, atI_nat (j := 0) rfl, _, _, _, _, true, rfl, .ty _, .base (.str z'), kit_ty (by decide +kernel), _, rfl, ?_⟩
      refine ⟨_, rfl, a, _, 0, _, rfl, rfl, SqT.of ha, atI_nat (j := 0) rfl, _, rfl, rfl, _, rfl, ?_⟩
      rw [str_dec, decide_eq_false nz]
      exact q H (Same.refl H)
    · subst e er
      refine ⟨_, rfl, _, _, _, _, true, rfl, .ty _, .base (.tup ha), kit_ty (by decide +kernel), _, rfl, iteF ?_⟩
      refine ⟨_, rfl, a, _, rfl, .inr (SqT.of ha), rfl, _, rfl, iteF ?_⟩
      refine ⟨_, rfl, a, _, 0, _, rfl, rfl, SqT.of ha, atI_nat (j := 0) rfl, _, _, _, _, true, rfl, .ty _, .base (.str z), kit_ty (by decide +kernel), _, rfl, ?_⟩
      refine ⟨_, rfl, a, _, 0, _, rfl, rfl, SqT.of ha, atI_nat (j := 0) rfl, _, rfl, rfl, _, rfl, ?_⟩
      rw [str_dec, decide_eq_true rfl]
      refine ⟨_, rfl, a, _, 1, _, rfl, rfl, SqT.of ha, atI_nat (j := 1) rfl, y, false, rfl, ny, fun H' s' => ⟨_, rfl, q H' s'⟩⟩
    · subst e er
      refine ⟨_, rfl, _, _, _, _, true, rfl, .ty _, .base (.tup ha), kit_ty (by decide +kernel), _, rfl, iteF ?_⟩
      refine ⟨_, rfl, a, _, rfl, .inr (SqT.of ha), rfl, _, rfl, iteF ?_⟩
      refine ⟨_, rfl, a, _, 0, _, rfl, rfl, SqT.of ha, atI_nat (j := 0) rfl, _, _, _, _, true, rfl, .ty _, .base (.str z), kit_ty (by decide +kernel), _, rfl, ?_⟩
      refine ⟨_, rfl, a, _, 0, _, rfl, rfl, SqT.of ha, atI_nat (j := 0) rfl, _, rfl, rfl, _, rfl, ?_⟩
      rw [str_dec, decide_eq_true rfl]
      refine ⟨_, rfl, a, _, 1, _, rfl, rfl, SqT.of ha, atI_nat (j := 1) rfl, .ref b, true, rfl, ny, fun H' s' => ⟨_, rfl, ?_⟩⟩
      refine ⟨_, rfl, a, _, 1, _, rfl, rfl, SqT.of (s' _ _ ha), atI_nat (j := 1) rfl, b, ys, rfl, .inr (SqT.of (s' _ _ hb)), _, rfl, rfl, ?_⟩
      rw [int_dec]
      exact q H' s'
end
end FR
set_option Elab.async false
set_option linter.all false
set_option maxRecDepth 100000
set_option maxHeartbeats 4000000
/-! a, *b = a list -/
namespace SU
open PySem PySem.Spec PyProof.Rows
theorem tail {prog : Program} {w : World} {A : Around} (hh : A.handled = none) (I ax : Addr) (hne : ax ≠ I) (items : Array Value) :
    Walks prog w A I [I, ax] [I] (items.size - 1) (fun i v => items[i + 1]? = some v) (fun i h => h.IsListIter I ax (i + 1) ∧ h.IsList ax items) where
  sub := fun b hb => by simp at hb; simp [hb]
  frame := fun _ _ _ st hk => ⟨st.1.at fun o e => hk I (by simp) o e, st.2.at fun o e => hk ax (by simp) o e⟩
  item := fun i s Q E hi st hQ => by
    have lt : i + 1 < items.size := by omega
    refine wpAny_pyNext_list_item st.1 st.2 (x := items[i + 1]) (by simp [lt]) fun h' hit' hs' => ?_
    exact hQ _ h' s.toks (by simp [lt]) ⟨hit', st.2.extBut hs'.extBut hne⟩ fun b o hb e => hs'.extBut b o (fun h => hb (by simp [h])) e
  done := fun s Q E st hQ => wpAny_pyNext_list_end hh st.1 st.2 (by simp; omega) fun h' he' => hQ h' s.toks fun b o hb e => he' b o (fun h => hb (by simp [h])) e
  self := fun _ _ _ _ st hQ => wpAny_pyIter_listiter st.1 hQ
section
variable {prog : Program} {w : World} {A : Around} {E : Value → Shared → Prop} {s : Shared}
theorem unpackItems_star {l : Addr} {items : Array Value} {Q : List Value → Shared → Prop} (hh : A.handled = none) (hl : s.heap.IsList l items) (h0 : 0 < items.size) (hz : items.size ≤ sizeLine)
    (hQ : ∀ (h' : Heap) (tk : Nat), (∀ b o, s.heap.get? b = some o → h'.get? b = some o) → s.toks ≤ tk → Q [items[0], .ref h'.objs.size] { s with heap := h'.push { cls := .type "list", data := .seq (items.toList.drop 1).toArray }, toks := tk }) :
    wpAny (model prog w) A (unpackItems (.ref l) 2 (some 1)) Q E s := by
  have hlt : l ≠ s.heap.objs.size := by obtain ⟨o, ho, _⟩ := hl; exact Nat.ne_of_lt (Heap.lt_size ho)
  unfold unpackItems
  refine wpAny_bind ?_
  unfold notIterableAtAll
  refine wpAny_bind (wpAny_specialOf hl.typeIs slot_list_iter.lookup ?_)
  refine wpAny_pure ?_
  simp only [Bool.false_eq_true, if_false]
  refine wpAny_bind (wpAny_holding (wpAny_pyIter_list hl ?_))
  have hl1 : (s.heap.push { cls := .type "list_iterator", data := .fields #[.ref l, .int 0 0] }).IsList l items := hl.push _
  have hit0 : (s.heap.push { cls := .type "list_iterator", data := .fields #[.ref l, .int 0 0] }).IsListIter s.heap.objs.size l 0 := ⟨_, Heap.get?_push_size _ rfl, rfl, rfl⟩
  refine wpAny_bind (wpAny_holding ?_)
  show wpAny _ _ (pyNext (.ref s.heap.objs.size) >>= _) _ _ _
  refine wpAny_bind (wpAny_pyNext_list_item hit0 hl1 (x := items[0]) (by simp [h0]) fun h1 hit1 hs1 => ?_)
  refine wpAny_bind (wpAny_holding (wpAny_pure (wpAny_pure ?_)))
  show wpAny _ _ (if ([items[0]] : List Value).length < 1 then _ else _) _ _ _
  rw [if_neg (by simp)]
  have hl2 : h1.IsList l items := hl1.extBut hs1.extBut hlt
  have isz : s.heap.objs.size < h1.objs.size := by obtain ⟨o, ho, _⟩ := hit1; exact Heap.lt_size ho
  have lsz : l < h1.objs.size := by obtain ⟨o, ho, _⟩ := hl2; exact Heap.lt_size ho
  refine wpAny_bind (wpAny_holding (wpAny_collect_iter (T := "list_iterator") (.inr (.inr (.inl rfl))) (tail (A := A.in1) hh s.heap.objs.size l hlt items).toS (fun i s' st => st.1.typeIs) ⟨hit1, hl2⟩ (fun b hb => ?_) (by simp) (fun s' acc hm hacc => ?_) (by omega)))
  · simp only [List.mem_cons, List.mem_nil_iff, or_false] at hb
    rcases hb with e | e
    · rw [e]; exact isz
    · rw [e]; exact lsz
  have ea : acc.toList = items.toList.drop 1 := by
    refine List.ext_getElem? fun j => ?_
    rw [List.getElem?_drop]
    by_cases hj : j < acc.size
    · have h2 := hacc.2 j acc[j] (by simp [hj])
      have e1 : acc.toList[j]? = some acc[j] := by simp [hj]
      rw [e1]
      have : items.toList[1 + j]? = items[j + 1]? := by rw [Nat.add_comm 1 j]; simp
      rw [this, h2]
    · have hs := hacc.1
      rw [List.getElem?_eq_none (by simpa using hj), List.getElem?_eq_none (by simp; omega)]
  rw [ea]
  show wpAny _ _ (if (items.toList.drop 1).length < 0 then _ else _) _ _ _
  rw [if_neg (by omega)]
  have tk : (items.toList.drop 1).take (items.toList.drop 1).length = items.toList.drop 1 := List.take_length
  have dr : (items.toList.drop 1).drop (items.toList.drop 1).length = [] := List.drop_length
  show wpAny _ _ (newList ((items.toList.drop 1).take (items.toList.drop 1).length) >>= fun a => pure ([items[0]] ++ [a] ++ (items.toList.drop 1).drop (items.toList.drop 1).length)) _ _ _
  rw [tk, dr]
  refine wpAny_bind (wpAny_newObj_type (wpAny_pure ?_) (by show (List.drop 1 items.toList).toArray.size ≤ sizeLine; rw [List.size_toArray, List.length_drop]; have : items.toList.length = items.size := by simp
                                                           omega))
  obtain ⟨hp, g, d, tks, os⟩ := s'
  have e1 : g = _ := hm.gens
  have e2 : d = _ := hm.drawn
  have e3 : os = _ := hm.os
  subst e1 e2 e3
  refine hQ hp tks (fun b o e => ?_) hm.toks
  have nb : b ≠ s.heap.objs.size := Nat.ne_of_lt (Heap.lt_size e)
  exact hm.heap b o (by simp [nb]) (hs1.extBut b o nb (Heap.get?_push_of_some _ e))
theorem assign_star {l : Addr} {items : Array Value} {env : Env} {t1 t2 : Expr} {p2 pos : Pos} {k} {Q : Unit → Shared → Prop} (hh : A.handled = none) (hl : s.heap.IsList l items) (h0 : 0 < items.size) (hz : items.size ≤ sizeLine)
    (hs : assignEach [t1, .Starred t2 p2] env = [(false, assign t1 env), (true, assign t2 env)])
    (hQ : ∀ (h' : Heap) (tk : Nat), (∀ b o, s.heap.get? b = some o → h'.get? b = some o) → s.toks ≤ tk → wpAny (model prog w) A (assignInOrder [assign t1 env, assign t2 env] [items[0], .ref h'.objs.size]) Q E { s with heap := h'.push { cls := .type "list", data := .seq (items.toList.drop 1).toArray }, toks := tk }) :
    wpAny (model prog w) A (assign (.Tuple [t1, .Starred t2 p2] k pos) env (.ref l)) Q E s := by
  rw [assign_Tuple, hs]
  refine wpAny_bind (wpAny_standAt ?_)
  unfold unpack
  exact wpAny_bind (wpAny_holding (unpackItems_star hh hl h0 hz hQ))
end
end SU
namespace L2
open PySem PySem.Spec PyProof.Rows
/-- a, *b = a list that isn't empty -/
def gStar (K : PySem.W.Frag) (g1 g2 : TG) : TG := fun v σ H Q => ∃ a y ys, v = .ref a ∧ SqL K H a (y :: ys) ∧ ys.length ≤ 1000 ∧ ∀ l, H l = none → g1 y σ (upd H l (.lst ys)) fun σ1 H1 => g2 (.ref l) σ1 H1 Q
theorem pg_star {X : Cx} {t1 t2 : Expr} {p2 pos : Pos} {k : Nat} {g1 g2 : TG} (hc : X.calm = true) (h1 : PG X t1 g1) (h2 : PG X t2 g2) (hs : assignEach [t1, .Starred t2 p2] X.env = [(false, assign t1 X.env), (true, assign t2 X.env)] := by rfl) : PG X (.Tuple [t1, .Starred t2 p2] k pos) (gStar X.K g1 g2) := by
  refine ⟨fun pins s σ H v u Q I r hw => ?_⟩
  obtain ⟨a, y, ys, e1, hq, hl, hw⟩ := hw
  subst e1
  cases r
  obtain ⟨its, rv, pl, hz⟩ := I.list hq
  cases rv with
  | cons ry rys =>
    rename_i uy uys
    refine SU.assign_star (I.ok.hd hc) pl.isList (by simp) (by have e := rys.length; simp only [List.size_toArray, List.length_cons]; have hz : (y :: ys).length ≤ sizeLine := hz; rw [List.length_cons, e] at hz; exact hz) hs fun h' tk kk _ => ?_
    have I1 : Inv X pins σ H { s with heap := h', toks := tk } := I.kept kk
    have hf : H h'.objs.size = none := I1.hok.fresh (Nat.le_refl _)
    have I2 : Inv X pins σ (upd H h'.objs.size (.lst ys)) { s with heap := h'.push { cls := .type "list", data := .seq ((uy :: uys).toArray.toList.drop 1).toArray }, toks := tk } := I1.laid (t' := tk) (fun b u e => Heap.get?_push_of_some _ e) (Nat.le_refl _) (by
      refine ⟨?_, uys, 0, rys, Heap.get?_push_size _ rfl⟩
      exact Nat.le_of_lt (small1000 hl))
    have run := hw h'.objs.size hf
    refine assignInOrder_cons (thn (h1.run pins _ σ _ y _ _ I2 ry run) fun _ s1 ⟨σ1, H1, I3, q1⟩ => ?_)
    refine assignInOrder_cons (thn (h2.run pins s1 σ1 H1 (.ref h'.objs.size) _ _ I3 rfl q1) fun _ s2 ⟨σ2, H2, I4, q2⟩ => ?_)
    exact assignInOrder_nil ⟨σ2, H2, I4, q2⟩
end L2
set_option Elab.async false
set_option linter.all false
set_option maxRecDepth 100000
set_option maxHeartbeats 4000000
/-! enumerate of a tuple -/
namespace SU
open PySem PySem.Spec PyProof.Rows
open AutoSeq1 (wpAny_loadPart')
set_option maxHeartbeats 1000000 in
theorem meets_enum1 {v : Value} {o : Obj} {H : Heap → Prop} (B : Begins v o H) :
    Meets (Builtin.«enumerate.__new__» ⟨[.type "enumerate", v], []⟩) (fun _ R s => H s.heap ∧
      R (.ok (.ret (.ref (s.heap.push o).objs.size))) { s with heap := (s.heap.push o).push { cls := .type "enumerate", data := .fields #[.none, .bool false, .ref s.heap.objs.size, rawInt 0, .none, .none] } }) :=
  .of_wp fun prog w A R s h => by
    obtain ⟨hp, g, d, tk, os⟩ := s; obtain ⟨h1, h⟩ := h
    have hsub := sub_enumerate
    have q1 : ∀ {A' : Around} {E : Value → Shared → Prop} {Q : Value → Shared → Prop}, Q (.ref hp.objs.size) ⟨hp.push o, g, d, tk, os⟩ → wpAny (model prog w) A' (pyIter v) Q E ⟨hp, g, d, tk, os⟩ :=
      fun q => B.iter prog w _ _ ⟨hp, g, d, tk, os⟩ _ h1 q
    wp_walk using q1
    refine wpAny_stack_any fun st => wpAny_pure ?_
    split
    · rename_i c _ _ _ _ _
      cases (c == Value.type "enumerate")
      · wp_walk using q1
        exact ⟨_, rfl, h⟩
      · wp_walk using q1
        exact ⟨_, rfl, h⟩
    · wp_walk using q1
      exact ⟨_, rfl, h⟩
section
variable {prog : Program} {w : World} {A : Around} {E : Value → Shared → Prop} {s : Shared}
theorem enum_begins1 {v : Value} {o : Obj} {H : Heap → Prop} {Q : Value → Shared → Prop} (B : Begins v o H) (h1 : H s.heap)
    (h : ∀ h', IsEnum h' (s.heap.objs.size + 1) s.heap.objs.size 0 .none → h'.get? s.heap.objs.size = some o → h'.objs.size = s.heap.objs.size + 2 →
      (∀ b o, s.heap.get? b = some o → h'.get? b = some o) → Q (.ref (s.heap.objs.size + 1)) { s with heap := h' }) :
    wpAny (model prog w) A (call (.type "enumerate") [v]) Q E s := by
  refine callType_new F.called_enumerate (by decide) (F.typeCall_enumerate_1 _) (F.newCall_enumerate_1 _) (fun obj => F.args_object_init_2 obj _) F.entry_enumerate_new
    (meets_enum1 B) ⟨h1, ?_⟩
  have hz : (s.heap.push o).objs.size = s.heap.objs.size + 1 := Heap.size_push ..
  show _ ∧ _
  rw [hz]
  have he : IsEnum ((s.heap.push o).push { cls := .type "enumerate", data := .fields #[.none, .bool false, .ref s.heap.objs.size, rawInt 0, .none, .none] }) (s.heap.objs.size + 1) s.heap.objs.size 0 .none := by
    have := Heap.get?_push_size (s.heap.push o) (o := { cls := .type "enumerate", data := .fields #[.none, .bool false, .ref s.heap.objs.size, rawInt 0, .none, .none] }) rfl
    rw [hz] at this; exact this
  refine ⟨⟨_, he, rfl⟩, h _ he (Heap.get?_push_of_some _ (Heap.get?_push_size _ B.free)) (by rw [Heap.size_push, hz]) fun b o x => Heap.get?_push_of_some _ (Heap.get?_push_of_some _ x)⟩
end
end SU
namespace L2
open PySem PySem.Spec PyProof.Rows
/-- the tuple at a, each item in a new pair -/
def IteT (K : PySem.W.Frag) (a : Addr) : It :=
  ⟨fun i H => ∃ (xs : List V) (x : V), SqT K H a xs ∧ xs[i]? = some x, fun i H v H' => ∃ T x, v = .ref T ∧ H T = none ∧ H' = upd H T (.tup [.int (i : Nat), x]) ∧ ∀ xs, SqT K H a xs → xs[i]? = some x, fun i H => ∃ xs : List V, SqT K H a xs ∧ xs.length ≤ i⟩
theorem turn_enumT {P : Program} {w : World} {K : PySem.W.Frag} {elts : List Expr} {kk : Nat} {tpos : Pos} (a e it : Addr) :
    Turn P w K (.Tuple elts kk tpos) (IteT K a) [e, it] e (fun i h => (∃ old, IsEnum h e it ((i : Nat) : Int) old) ∧ h.IsTupleIter it a i ∧ e ≠ it) where
  mem := by simp
  obj := fun i h st b hb => by
    obtain ⟨⟨old, he⟩, ⟨o, ho, hc, hd⟩, _⟩ := st
    have e' : b = e ∨ b = it := by simpa using hb
    rcases e' with z | z
    · rw [z]; exact ⟨_, he, fun v q => nomatch q⟩
    · rw [z]; exact ⟨o, ho, fun v q => by rw [hd] at q; cases q⟩
  keep := fun i h h' st k => let ⟨⟨old, he⟩, hi, hne⟩ := st; ⟨⟨old, k e (by simp) _ he⟩, hi.at fun o q => k it (by simp) o q, hne⟩
  item := by
    intro X hP hw hK hc i pins s σ H E I hf st hg
    subst hP hw hK
    obtain ⟨⟨old, he⟩, hit, hne⟩ := st
    obtain ⟨xs, x, hq, hx⟩ := hg
    obtain ⟨its, rv, p, hz⟩ := I.tuple hq
    obtain ⟨u, hu, ru⟩ := rv.get hx
    have hel : e < s.heap.objs.size := Heap.lt_size he
    have hil : it < s.heap.objs.size := by obtain ⟨_, q, _⟩ := hit; exact Heap.lt_size q
    have pt : s.heap.IsTuple a its.toArray := p
    have tit : a ≠ it := fun z => by
      obtain ⟨o1, h1, c1, _⟩ := hit
      obtain ⟨o2, h2, c2, _⟩ := pt
      rw [z, h1] at h2
      cases h2
      rw [c1] at c2
      exact absurd c2 (by decide)
    have te : e ∉ [it, a] := fun m => by
      simp only [List.mem_cons, List.mem_nil_iff, or_false] at m
      rcases m with z | z
      · exact hne z
      · obtain ⟨o2, h2, c2, _⟩ := pt
        have he' : s.heap.get? e = _ := he
        rw [z, h2] at he'
        cases he'
        have c2 : Value.type "enumerate" = Value.type "tuple" := c2
        exact absurd c2 (by decide)
    have lt : i < its.toArray.size := by
      have h1 := (List.getElem?_eq_some_iff.mp hu).1
      simpa using h1
    refine wpAny_pyNext_enum_itemD (Draws.tuple (A := X.A.in1) (I.ok.hd hc) it a tit its.toArray) he ⟨hit, pt⟩ lt hne te fun x' h' tk hx' ho hst' hT hsz hk => ?_
    have ex : x' = u := by
      have : its.toArray[i]? = some u := by simpa using hu
      rw [this] at hx'
      exact (Option.some.inj hx').symm
    subst ex
    obtain ⟨hit', _⟩ := hst'
    refine ⟨_, rfl, wpAny_letOwnedTupleGo_enum (s := { s with heap := h', toks := tk + 1 }) ho fun h'' he' sb => ?_⟩
    have hT2 : h''.get? s.heap.objs.size = some { cls := .type "tuple", data := .seq #[.int i tk, x'] } := (sb.2 _ (Nat.ne_of_gt hel)).trans hT
    have new : ObjOk X.prog X.w (upd H s.heap.objs.size (.tup [.int (i : Nat), x])) h'' s.heap.objs.size (.tup [.int (i : Nat), x]) :=
      ⟨by show 2 ≤ sizeLine; decide, [.int i tk, x'], .cons ⟨_, rfl⟩ (.cons ru .nil), ⟨_, hT2, rfl, _, rfl⟩⟩
    have I1 : Inv X pins σ (upd H s.heap.objs.size (.tup [.int (i : Nat), x])) { s with heap := h'', toks := tk + 1 } :=
      I.turnedNew (ch := [e, it]) (fun b ob hb q => (sb.2 b (fun z => hb (by simp [z]))).trans (hk b ob (fun z => hb (by simp [z])) (fun z => hb (by simp [z])) q)) hf (Nat.le_refl _) new
    refine ⟨.ref s.heap.objs.size, _, I1, rfl, ⟨_, x, rfl, I.hok.fresh (Nat.le_refl _), rfl, fun ys hy => by rw [I.tuple_inj hy hq]; exact hx⟩, ⟨⟨x', ?_⟩, hit'.at fun o q => (sb.2 it (Ne.symm hne)).trans q, hne⟩, fun b hb => ?_⟩
    · have e1 : ((i + 1 : Nat) : Int) = (i : Int) + 1 := by omega
      rw [e1]; exact he'
    · have hb' : b < s.heap.objs.size := by
        have e' : b = e ∨ b = it := by simpa using hb
        rcases e' with z | z
        · rw [z]; exact hel
        · rw [z]; exact hil
      rw [upd_ne (Nat.ne_of_lt hb')]
      exact (hf b hb).1
  done := by
    intro X hP hw hK hc i pins s σ H E I hf st hg
    subst hP hw hK
    obtain ⟨⟨old, he⟩, hit, hne⟩ := st
    obtain ⟨xs, hq, hx⟩ := hg
    obtain ⟨its, rv, p, hz⟩ := I.tuple hq
    obtain ⟨f0, f1, f2, f3, f4, f5⟩ := hf it (by simp)
    have hl := rv.length
    have hT : s.TypeIs (.ref e) "enumerate" := ⟨_, he, rfl⟩
    unfold pyNext
    refine wpAny_bind (wpAny_attempt (wpAny_callSpecial?_slot (name := Str.ofString "__next__") hT F.slot_enumerate_next
      (wpAny_call_entry F.slot_enumerate_next hT F.entry_enumerate_next ?_ (F.args_enumerate_next_1 _))))
    show wpAny _ _ (field (.ref e) 2 >>= _) _ _ _
    refine wpAny_bind (wpAny_field he rfl (x := .ref it) rfl ?_)
    refine wpAny_bind (wpAny_nextOf_tuple_end (I.ok.hd hc) hit (show s.heap.IsTuple a its.toArray from p) (by simp; omega) fun h' x he' hx' => ?_)
    obtain ⟨o, ho, hc'⟩ := hx'
    refine wpAny_bind (wpAny_isInstance (T := "StopIteration") (b := true) ⟨o, ho, hc'⟩ isSubtype_stop ?_)
    exact wpAny_pure ⟨rfl, I.turned (t' := s.toks) (fun b o hb q => he' b o hb q) f0 f1 f3 f4 f5⟩
  self := fun A i s Q E st h => let ⟨⟨_, he⟩, _⟩ := st; wpAny_pyIter_enum he h
def iEnumT (K : PySem.W.Frag) (ta : TA) : TI := fun σ H R => ta σ H fun vs H1 => ∃ a xs, vs = [.ref a] ∧ SqT K H1 a xs ∧ R (IteT K a) H1
theorem pi_enumT {X : Cx} {e : Expr} {ta : TA} {p pos tpos : Pos} {elts : List Expr} {kk : Nat} (hg : Gl X "enumerate") (hm : X.mg "enumerate" = none) (ha : PA X [e] ta) (hs : starEach [e] X.env = [(false, eval e X.env)] := by rfl) :
    PI X (.Tuple elts kk tpos) (.Call (.Name "enumerate" p) [e] [] pos) (iEnumT X.K ta) := by
  refine ⟨fun pins s σ H R I h => ?_⟩
  refine Call_ (ld_blt I hg hm boot_enumerate (PyProof.Rows.callWith_type1 (thn (ha.run pos pins s σ H _ I h) fun us s1 ⟨vs, H1, I1, r1, q1⟩ => ?_) hs rfl))
  obtain ⟨a, xs, ex, hq, q⟩ := q1
  subst ex
  cases r1 with
  | cons r rr =>
    cases rr
    cases r
    obtain ⟨its, rv, p', hz⟩ := I1.tuple hq
    refine SU.enum_begins1 (begins_tuple a its.toArray) (show s1.heap.IsTuple a its.toArray from p') fun h' he hit hsz hk => wpAny_pyIter_enum he ?_
    have I2 : Inv X pins σ H1 { s1 with heap := h' } := I1.kept (t' := s1.toks) hk
    refine ⟨s1.heap.objs.size + 1, [s1.heap.objs.size + 1, s1.heap.objs.size], _, _, H1, rfl, I2, turn_enumT a (s1.heap.objs.size + 1) s1.heap.objs.size, ⟨⟨.none, he⟩, ⟨_, hit, rfl, rfl⟩, Nat.succ_ne_self _⟩, fun b hb => ?_, q⟩
    have e' : b = s1.heap.objs.size + 1 ∨ b = s1.heap.objs.size := by simpa using hb
    have hle : s1.heap.objs.size ≤ b := by
      rcases e' with z | z
      · rw [z]; exact Nat.le_add_right _ _
      · rw [z]; exact Nat.le_refl _
    exact I1.fpOk hle (I1.hok.fresh hle)
theorem walk_enumT {K : PySem.W.Frag} {a : Addr} {xs : List V} : Walk (IteT K a) xs.length (fun H => SqT K H a xs) (YPair (fun i => some (.int (i : Nat))) (fun i => xs[i]?)) := by
  refine ⟨fun i _ hi q => ⟨xs, xs[i], q, by simp [hi]⟩, fun _ q => ⟨xs, q, Nat.le_refl _⟩, fun i H v H' _ q y => ?_⟩
  obtain ⟨T, x, h1, h2, h3, h4⟩ := y
  exact ⟨T, .int (i : Nat), x, h1, h2, h3, rfl, h4 xs q⟩
end L2
set_option Elab.async false
set_option linter.all false
set_option maxRecDepth 100000
set_option maxHeartbeats 4000000
/-! _mark, _row_times, _check_rows_and_totals, _factors_of -/
namespace FR
open PySem PySem.Spec PyProof.Rows L2 LD RF
theorem A2.set {R : V → PI → Prop} {v : V} {p : PI} {vs : List V} {ps : List PI} (h : A2 R vs ps) (r : R v p) (j : Nat) : A2 R (vs.set j v) (ps.set j p) := by
  refine ⟨by rw [List.length_set, List.length_set, h.1], fun i x hx => ?_⟩
  rw [List.getElem?_set] at hx ⊢
  by_cases z : j = i
  · rw [if_pos z] at hx ⊢
    split at hx
    · next g =>
      rw [if_pos (by rw [← h.1]; exact g)]
      cases hx
      exact ⟨p, rfl, r⟩
    · cases hx
  · rw [if_neg z] at hx ⊢
    exact h.2 i x hx
theorem frs_rep {C : Addr} {H : Hp} {q : Addr} {p : PI} (h : FrAt C H q p.1 p.2) (n : Nat) : FRs C H (List.replicate n (.ref q)) (List.replicate n p) := by
  refine ⟨by rw [List.length_replicate, List.length_replicate], fun i v hv => ?_⟩
  rw [List.getElem?_replicate] at hv ⊢
  split at hv
  · next z =>
    rw [if_pos z]
    cases hv
    exact ⟨_, rfl, q, rfl, h⟩
  · cases hv
/-! ### the model -/
def markL (k many : Nat) : List Int := (List.range many).map fun n => if n = k then 1 else 0
abbrev TK : Type := List (Nat × Int)
def factP (tk : TK) (rs : List Int) (many : Nat) : List PI := (tk.zip (rs.drop 1)).foldl (fun fs z => fs.set z.1.1 (nT (z.2 * z.1.2) (ent rs 0), nB (z.2 * z.1.2) (ent rs 0))) (List.replicate many (0, 1))
/-- pairs of a place and an integer, in a list -/
def TkL (H : Hp) (a : Addr) (tk : TK) : Prop := ∃ vs, H a = some (.lst vs) ∧ AG (fun v (p : Nat × Int) => ∃ q, v = .ref q ∧ H q = some (.tup [.int (p.1 : Nat), .int p.2])) vs tk
theorem TkL.same {H H' : Hp} {a : Addr} {tk : TK} (h : TkL H a tk) (s : Same H H') : TkL H' a tk := by
  obtain ⟨vs, e, z⟩ := h
  exact ⟨vs, s _ _ e, z.imp fun _ _ ⟨q, e1, t⟩ => ⟨q, e1, s _ _ t⟩⟩
section
variable {P : Program} {w : World} {K : PySem.W.Frag} {mg : Str → Option Value} {base : Heap} {C fI pT gT0 pB gB0 : Addr} {fdI fdT fdB : FuncData}
abbrev sMk : Stmt := top 24
abbrev NMk : List Str := ["at", "many", "number"]
theorem scMk : FnScope NMk ["at", "many"] (defScope sMk) := ⟨rfl, rfl, rfl, by decide +kernel, rfl, by decide +kernel, by decide +kernel⟩
def spMk : Sp := fun vs H Q _ => ∃ (k many : Nat), vs = [.int (k : Nat), .int (many : Nat)] ∧ many ≤ 900 ∧ ∀ l H', H' l = some (.lst ((markL k many).map V.int)) → Same H H' → H l = none → Q (.ref l) H'
theorem ok_mk {f : Addr} {fd : FuncData} (F : Fun K "_mark" "_mark" sMk f fd) (mR : mg "range" = none) : FnOk P w K mg base CX0 1 f fd ["at", "many"] spMk := by
  refine F.ok scMk (fun vs H Q E h => ?_) (fun cdv A outer s H vs Q E hr h => ?_)
  · obtain ⟨k, many, rfl, _⟩ := h
    rfl
  · obtain ⟨k, many, rfl, m9, q⟩ := h
    refine ⟨_, (pss_one (ps_ret (pe_lc (X := (cxOf CX0 P w K mg base NMk "_mark" (defScope sMk) f cdv A outer s H E).nox) (own := [("number", 2)]) (g := (gName 2)) (tt := tYes) rfl scMk.nd (pi_range1 (by rfl) mR (pa_cons (pv 1) pa_nil)) (blkOk_by (N := NMk) (sc := (defScope sMk)) (by decide +kernel)) (fun _ _ _ _ _ => (pg_name (i := 2) scMk.nd rfl (.inl rfl))) (fun _ _ _ _ _ => pts_nil) (fun _ _ _ _ _ => (pe_ifExp (pt_cmpR op_eq (pv 2) (pv 0) (nomark _)) pe_int pe_int))))), ?_⟩
    refine ⟨_, rfl, (many : Int), rfl, by omega, by omega, fun D hD => ?_⟩
    have nat : ((many : Int)).toNat = many := by omega
    rw [nat]
    refine lc_range (lo := 0) (n := many) (fun i Hc => Same H Hc ∧ Hc D = some (.lst (((markL k many).take i).map V.int))) ⟨same_new hD, upd_same⟩ ?_ ?_
    · rintro i Hc hi ⟨sm, hDc⟩
      have e0 : (0 : Int) + (i : Nat) = (i : Nat) := by omega
      rw [e0]
      refine ⟨rfl, _, rfl, _, rfl, rfl, _, rfl, ?_⟩
      have key : ∀ (x : Int), x = (if i = k then 1 else 0) → ∃ acc, Hc D = some (.lst acc) ∧ acc.length < sizeLine ∧ Same H (upd Hc D (.lst (acc ++ [V.int x]))) ∧ upd Hc D (.lst (acc ++ [V.int x])) D = some (.lst (((markL k many).take (i + 1)).map V.int)) := fun x ex => by
        refine ⟨_, hDc, small1000 (by rw [List.length_map, List.length_take]; omega), same_upd hD sm, ?_⟩
        rw [take_snoc (x := x) (by unfold markL; rw [List.getElem?_map, List.getElem?_range hi, ex]; rfl), List.map_append]
        exact upd_same
      by_cases z : i = k
      · have e1 : decide (V.int (i : Nat) = V.int (k : Nat)) = true := by rw [z]; exact decide_eq_true rfl
        show if decide (V.int (i : Nat) = V.int (k : Nat)) = true then _ else _
        rw [if_pos e1]
        exact key 1 (by rw [if_pos z])
      · have e1 : ¬ decide (V.int (i : Nat) = V.int (k : Nat)) = true := by rw [int_dec, decide_eq_false z]; decide
        show if decide (V.int (i : Nat) = V.int (k : Nat)) = true then _ else _
        rw [if_neg e1]
        exact key 0 (by rw [if_neg z])
    · rintro Hc ⟨sm, hDc⟩
      rw [List.take_of_length_le (by unfold markL; rw [List.length_map, List.length_range]; exact Nat.le_refl _)] at hDc
      exact q D Hc hDc sm hD
/-! ### _row_times -/
abbrev sRx : Stmt := top 32
theorem scRx : FnScope ["row", "column"] ["row", "column"] (defScope sRx) := ⟨rfl, rfl, rfl, by decide +kernel, rfl, by decide +kernel, by decide +kernel⟩
def spRx (C : Addr) : Sp := fun vs H Q _ => ∃ (r c : Addr) (ps cs : List PI), vs = [.ref r, .ref c] ∧ Tf C H r ps ∧ Tf C H c cs ∧ ps.length = cs.length ∧ ∀ q H', FrAt C H' q (dotP ps cs).1 (dotP ps cs).2 → Same H H' → Q (.ref q) H'
theorem ok_rx {f : Addr} {fd : FuncData} (F : Fun K "_row_times" "_row_times" sRx f fd) (gT : Glo P w K mg base "_times" 6 ["rows", "column"] (spTms C)) : FnOk P w K mg base CX0 7 f fd ["row", "column"] (spRx C) := by
  refine F.ok scRx (fun vs H Q E h => ?_) (fun cdv A outer s H vs Q E hr h => ?_)
  · obtain ⟨r, c, ps, cs, rfl, _⟩ := h
    rfl
  · obtain ⟨r, c, ps, cs, rfl, t1, t2, len, q⟩ := h
    refine ⟨_, (pss_one (ps_ret (pe_ix ix_tup (pe_call gT.G hr (by rfl) gT.m gT.k gT.b .nil pass0 (pa_cons (pe_tup (pa_cons (pv 0) pa_nil)) (pa_cons (pv 1) pa_nil))) pe_int (fun _ _ => rfl)))), ?_⟩
    refine ⟨_, rfl, small1000 (by show 0 ≤ 1000; decide), fun t ht => ?_⟩
    have s1 : Same H (upd H t (.tup [.ref r])) := same_new ht
    refine ⟨_, rfl, t, c, [ps], cs, rfl, ⟨_, upd_same, AG.snoc AG.nil ⟨r, rfl, t1.same s1⟩⟩, t2.same s1, by show 1 ≤ 80; decide, fun x m => by rw [List.mem_singleton.mp m]; exact len, fun y H' hy s2 => ?_⟩
    obtain ⟨xs, hx, hf⟩ := hy
    match xs, hf with
    | [], hf => exact absurd hf.1 (by simp [timesP])
    | x0 :: xr, hf =>
      obtain ⟨p, hp, z, rfl, fz⟩ := hf.2 0 x0 rfl
      have ep : p = dotP ps cs := by have : some (dotP ps cs) = some p := hp; exact (Option.some.inj this).symm
      rw [ep] at fz
      exact ⟨y, _, 0, _, rfl, rfl, SqT.of hx, atI_nat (j := 0) rfl, q z H' fz (s1.trans s2)⟩
/-! ### _check_rows_and_totals -/
abbrev sCt : Stmt := top 29
theorem scCt : FnScope ["rows", "totals"] ["rows", "totals"] (defScope sCt) := ⟨rfl, rfl, rfl, by decide +kernel, rfl, by decide +kernel, by decide +kernel⟩
def spCt (C : Addr) : Sp := fun vs H Q _ => ∃ (a c : Addr) (pss : List (List PI)) (n : Nat) (ts : List PI), vs = [.ref a, .ref c] ∧ TMx C H a pss ∧ Rs pss n ∧ Tf C H c ts ∧ ts.length = pss.length ∧ ∀ H', Same H H' → Q .non H'
theorem ok_ct {f : Addr} {fd : FuncData} (F : Fun K "_check_rows_and_totals" "_check_rows_and_totals" sCt f fd) (gR : Glo P w K mg base "_check_rows" 5 ["rows"] (spCrs C)) (gF : Glo P w K mg base "_check_fractions" 4 ["value", "many"] (spCfs C)) (mL : mg "len" = none) : FnOk P w K mg base CX0 6 f fd ["rows", "totals"] (spCt C) := by
  refine F.ok scCt (fun vs H Q E h => ?_) (fun cdv A outer s H vs Q E hr h => ?_)
  · obtain ⟨a, c, pss, n, ts, rfl, _⟩ := h
    rfl
  · obtain ⟨a, c, pss, n, ts, rfl, tm, R, tt, len, q⟩ := h
    refine ⟨_, (pss_cons (ps_expr (pe_call gR.G hr (by rfl) gR.m gR.k gR.b .nil pass0 (pa_cons (pv 0) pa_nil)))
      (pss_one (ps_expr (pe_call gF.G (hr.mono (by decide)) (by rfl) gF.m gF.k gF.b .nil pass0 (pa_cons (pv 1) (pa_cons (pe_callB call_len_seq (by rfl) mL PySem.boot_len (pa_cons (pv 0) pa_nil)) pa_nil)))))), ?_⟩
    refine ⟨_, rfl, a, pss, n, rfl, tm, R, fun H1 s1 => ?_⟩
    obtain ⟨vs, ha, hv⟩ := tm.same s1
    refine ⟨_, rfl, _, rfl, a, vs, rfl, .inr (SqT.of ha), c, ts, by rw [hv.1, ← len]; rfl, tt.same s1, fun H2 s2 => q H2 (s1.trans s2)⟩
/-! ### _factors_of -/
abbrev sFa : Stmt := top 25
abbrev NFa : List Str := ["taken", "rest", "many", "total", "marks", "factors", "number", "bottom", "mark"]
theorem scFa : FnScope NFa ["taken", "rest", "many"] (defScope sFa) := ⟨rfl, rfl, rfl, by decide +kernel, rfl, by decide +kernel, by decide +kernel⟩
def spFa (C : Addr) : Sp := fun vs H Q _ => ∃ (a r : Addr) (tk : TK) (rs : List Int) (many : Nat), vs = [.ref a, .ref r, .int (many : Nat)] ∧ TkL H a tk ∧ H r = some (.lst (rs.map V.int)) ∧ 0 < rs.length ∧ rs.length ≤ 90 ∧ many ≤ 90 ∧ ent rs 0 ≠ 0 ∧ (∀ x ∈ rs, x.natAbs < 2 ^ 8000) ∧ (∀ p ∈ tk, p.1 < many ∧ p.2.natAbs < 2 ^ 2401) ∧ tk.length ≤ 90 ∧
  ∀ t H', TFr C H' t (factP tk rs many) → Same H H' → Q (.ref t) H'
theorem ok_fa {f : Addr} {fd : FuncData} (F : Fun K "_factors_of" "_factors_of" sFa f fd) (k : FrK P w K mg base C fI pT gT0 pB gB0 fdI fdT fdB) (mZ : mg "zip" = none) (mT : mg "tuple" = none) : FnOk P w K mg base CX0 4 f fd ["taken", "rest", "many"] (spFa C) := by
  obtain ⟨ds, vds, bds⟩ := k.b1
  refine F.ok scFa (fun vs H Q E h => ?_) (fun cdv A outer s H vs Q E hr h => ?_)
  · obtain ⟨a, r, tk, rs, many, rfl, _⟩ := h
    rfl
  · obtain ⟨a, r, tk, rs, many, rfl, ⟨vs, ha, hv⟩, hrs, r0, r9, m9, t0, rz, tz, k9, q⟩ := h
    refine ⟨_, (pss_cons (ps_asg (pv 1) (pg_star rfl (pg_name (i := 3) scFa.nd rfl (.inl rfl)) (pg_name (i := 4) scFa.nd rfl (.inl rfl))))
      (pss_cons (ps_set (i := 5) scFa.nd rfl (Or.inl rfl) (pe_op op_rep (pe_lst (pa_cons (pe_make k.M k.GI (hr.mono (by decide)) (by rfl) k.T.mC bds vds pass0 (pa_cons pe_int pa_nil)) pa_nil)) (pv 2)))
      (pss_cons (ps_for PassesOwn.never rfl (pi_zip (by rfl) mZ (pa_cons (pv 0) (pa_cons (pv 4) pa_nil))) (pg_tup (by rfl) (pgs_cons (pg_tup (by rfl) (pgs_cons (pg_name (i := 6) scFa.nd rfl (.inl rfl)) (pgs_cons (pg_name (i := 7) scFa.nd rfl (.inl rfl)) pgs_nil))) (pgs_cons (pg_name (i := 8) scFa.nd rfl (.inl rfl)) pgs_nil)))
        (pss_one (ps_asg (pe_make k.M k.GI (hr.mono (by decide)) (by rfl) k.T.mC k.b2 .nil pass0 (pa_cons (pe_op op_mulW (pv 8) (pv 7)) (pa_cons (pv 3) pa_nil))) (pg_sub (pv 5) (pv 6) set_list))))
      (pss_one (ps_ret (pe_callTy call_tuple_of (by rfl) mT (by decide +kernel) (pa_cons (pv 5) pa_nil))))))), ?_⟩
    match rs, hrs, r0, r9, t0, rz, q with
    | [], _, r0, _, _, _, _ => exact absurd r0 (by simp)
    | x0 :: xr, hrs, r0, r9, t0, rz, q =>
    have t0' : x0 ≠ 0 := t0
    have x0z := rz x0 List.mem_cons_self
    refine ⟨_, rfl, r, _, _, rfl, SqL.of hrs, by rw [List.length_map]; simp only [List.length_cons] at r9; omega, fun ml hml => ?_⟩
    have s1 : Same H (upd H ml (.lst (xr.map V.int))) := same_new hml
    have hm1 : upd H ml (.lst (xr.map V.int)) ml = some (.lst (xr.map V.int)) := upd_same
    generalize upd H ml _ = H1 at *
    refine fun x dx nx nd ne => ⟨x, dx, 0, 1, rfl, upd_same, by decide, dv8 (by decide) (by decide), fun H2 hf hs => ⟨rfl, small1000 (by show 0 ≤ 1000; decide), fun p hp => ?_⟩⟩
    have s2 := same_make (C := C) nx nd hs
    have e0 : ((nT 0 1, nB 0 1) : PI) = (0, 1) := by decide +kernel
    have f0 : FrAt C H2 x ((0, 1) : PI).1 ((0, 1) : PI).2 := by
      have a1 : nT 0 1 = 0 := congrArg Prod.fst e0
      have a2 : nB 0 1 = 1 := congrArg Prod.snd e0
      rw [a1, a2] at hf
      exact hf
    have s3 : Same H2 (upd H2 p (.lst [.ref x])) := same_new hp
    have hp3 : upd H2 p (.lst [.ref x]) p = some (.lst [.ref x]) := upd_same
    have f3 := f0.same s3
    have hm3 := s3 _ _ (s2 _ _ hm1)
    have s13 := s1.trans (s2.trans s3)
    generalize upd H2 p _ = H3 at *
    refine ⟨_, rfl, p, (many : Int), [.ref x], rfl, rfl, hp3, by omega, by omega, Nat.le_of_lt (small1000 (by show 1 * (many : Int).toNat ≤ 1000; omega)), fun fl hfl => ?_⟩
    have nat : ((many : Int)).toNat = many := by omega
    have s4 : Same H3 (upd H3 fl (.lst (List.replicate ((many : Int).toNat) [V.ref x]).flatten)) := same_new hfl
    have hfl4 : upd H3 fl (.lst (List.replicate ((many : Int).toNat) [V.ref x]).flatten) fl = some (.lst (List.replicate many (V.ref x))) := by rw [upd_same, nat, flat_rep]
    have f4 := f3.same s4
    have hm4 := s4 _ _ hm3
    have s14 := s13.trans s4
    have flf : H fl = none := Same.free s13 hfl
    have mfl : ml ≠ fl := fun z => by rw [z, hfl] at hm3; cases hm3
    generalize upd H3 fl _ = H4 at *
    refine ⟨_, rfl, _, rfl, a, ml, _, _, rfl, SqL.of (s14 _ _ ha), SqL.of hm4, ?_⟩
    refine for_it (walk_zip (xs := vs) (ys := xr.map V.int) (n := (tk.zip xr).length) (by rw [List.length_map, List.length_zip, hv.1]))
      (fun i σ Hc => Same H Hc ∧ Hc ml = some (.lst (xr.map V.int)) ∧ ∃ (us : List V) (x6 x7 x8 : Option V), σ = [some (.ref a), some (.ref r), some (.int (many : Nat)), some (.int x0), some (.ref ml), some (.ref fl), x6, x7, x8] ∧ Hc fl = some (.lst us) ∧
        FRs C Hc us (((tk.zip xr).take i).foldl (fun fs z => fs.set z.1.1 (nT (z.2 * z.1.2) x0, nB (z.2 * z.1.2) x0)) (List.replicate many (0, 1))) ∧ us.length = many)
      ⟨s14, hm4, _, _, _, _, rfl, hfl4, frs_rep f4 many, List.length_replicate⟩ (fun i σ Hc _ p => ⟨SqL.of (p.1 _ _ ha), SqL.of p.2.1⟩) ?_ ?_
    · rintro i v σ Hc H' hi ⟨sm, hmc, us, x6, x7, x8, rfl, hflc, hu, ul⟩ ⟨T0, u1, u2, rfl, nT0, rfl, h1, h2⟩
      have h1 : vs[i]? = some u1 := h1
      have h2 : (xr.map V.int)[i]? = some u2 := h2
      obtain ⟨⟨num, bot⟩, htk, t, rfl, ht⟩ := hv.2 i u1 h1
      obtain ⟨mk, hmk, rfl⟩ := il_at h2
      obtain ⟨tz1, tz2⟩ := tz _ (List.mem_of_getElem? htk)
      have tz1 : num < many := tz1
      have mz := rz mk (List.mem_cons_of_mem _ (List.mem_of_getElem? hmk))
      have sT : Same Hc (upd Hc T0 (.tup [.ref t, .int mk])) := same_new nT0
      have ht' := sT _ _ (sm _ _ ht)
      have tt : upd Hc T0 (.tup [.ref t, .int mk]) T0 = some (.tup [.ref t, .int mk]) := upd_same
      have hfl' := sT _ _ hflc
      have hmc' := sT _ _ hmc
      have hu' := hu.same sT
      have sm' := sm.trans sT
      generalize upd Hc T0 _ = Hn at *
      refine ⟨T0, _, rfl, SqT.of tt, rfl, _, _, rfl, t, _, rfl, SqT.of ht', rfl, _, _, rfl, _, _, rfl, rfl, _, _, rfl, rfl, ?_⟩
      refine ⟨_, rfl, _, rfl, _, _, rfl, rfl, wide_mul mz tz2 (by decide) (by decide) (by decide), _, rfl, fun y dy ny ndy ney => ⟨y, dy, mk * bot, x0, rfl, upd_same, t0', dv8 t0' x0z, fun H' hf hs => ⟨rfl, ?_⟩⟩⟩
      have s5 := same_make (C := C) ny ndy hs
      have e5 := s5 _ _ hfl'
      refine ⟨_, rfl, _, rfl, fl, us, (num : Int), num, rfl, rfl, e5, ?_, ?_⟩
      · unfold ixN
        rw [if_pos (by omega), if_pos (by omega)]
        exact congrArg some (by omega)
      · refine ⟨same_upd flf (sm'.trans s5), by rw [upd_ne mfl]; exact s5 _ _ hmc', us.set num (.ref y), _, _, _, rfl, upd_same, ?_, by rw [List.length_set]; exact ul⟩
        rw [take_snoc (x := ((num, bot), mk)) (by rw [List.getElem?_zip_eq_some]; exact ⟨htk, hmk⟩), List.foldl_append]
        exact A2.set ((hu'.same s5).updl e5) ⟨y, rfl, hf.updl e5⟩ num
    · rintro σ Hc ⟨sm, hmc, us, x6, x7, x8, rfl, hflc, hu, ul⟩
      rw [List.take_of_length_le (Nat.le_refl _)] at hu
      refine ⟨_, rfl, fl, _, rfl, .inl ⟨SqL.of hflc, fun t ht => ?_⟩⟩
      exact q t _ ⟨us, upd_same, hu.same (same_new ht)⟩ (sm.trans (same_new ht))
end
end FR
set_option Elab.async false
set_option linter.all false
set_option maxRecDepth 100000
set_option maxHeartbeats 4000000
/-! the model of solution; an Echelon beside another list -/
namespace FR
open PySem PySem.Spec PyProof.Rows L2 LD RF
structure SE where
  rows : List (List Int)
  places : List Nat
  d : Int
  tk : TK
def exL (w : Nat) (ps : List PI) (k : Nat) : List Int := lineP ps ++ markL k (w + 1)
def restE (w : Nat) (ps : List PI) (st : SE) : List Int := restL st.d (st.rows.zip st.places) (exL w ps st.tk.length)
def placeE (w : Nat) (rest : List Int) : Option Nat := (List.range w).find? fun j => decide (ent rest j ≠ 0)
abbrev RE : Type := SE ⊕ (TK × List Int)
def stepE (w i : Nat) (ps : List PI) (st : SE) : RE :=
  match placeE w (restE w ps st) with
  | some q => .inl ⟨clearedBy st.rows (restE w ps st) q st.d ++ [restE w ps st], st.places ++ [q], ent (restE w ps st) q, st.tk ++ [(i, lcmP ps)]⟩
  | none => if ent (restE w ps st) w ≠ 0 then .inr (st.tk ++ [(i, lcmP ps)], (restE w ps st).drop w) else .inl st
def runE (w : Nat) (pss : List (List PI)) : Nat → RE
  | 0 => .inl ⟨[], [], 1, []⟩
  | i + 1 => match runE w pss i with
    | .inr x => .inr x
    | .inl st => stepE w i (pss.getD i []) st
def foundE (w : Nat) (st : SE) : List PI := (st.places.zip st.rows).foldl (fun fs z => fs.set z.1 (nT (ent z.2 w) st.d, nB (ent z.2 w) st.d)) (List.replicate w (0, 1))
/-- what must stand at each turn -/
structure FitS (w i : Nat) (st : SE) : Prop where
  rws : ∃ m, 0 < m ∧ m ≤ 8000 ∧ Rws st.rows st.places st.d (2 * w + 2) m
  d0 : st.d ≠ 0
  pl : ∀ p ∈ st.places, p < w
  ln : st.tk.length = st.rows.length
  tk : ∀ p ∈ st.tk, p.1 < i ∧ p.2.natAbs < 2 ^ 2401
  sm : st.rows.length ≤ 80
structure FitE (w : Nat) (pss : List (List PI)) : Prop where
  st : ∀ i, i ≤ pss.length → ∀ s, runE w pss i = .inl s → FitS w i s
  li : ∀ i, i < pss.length → ∀ s, runE w pss i = .inl s → ∃ t, 0 < t ∧ t ≤ 8000 ∧ Sh (exL w (pss.getD i []) s.tk.length) t ∧ Sh (restE w (pss.getD i []) s) 8000
theorem markL_len (k m : Nat) : (markL k m).length = m := by unfold markL; rw [List.length_map, List.length_range]
theorem exL_len {w : Nat} {ps : List PI} {k : Nat} (h : ps.length = w + 1) : (exL w ps k).length = 2 * w + 2 := by
  unfold exL lineP topsP
  rw [List.length_append, List.length_map, markL_len, h]; omega
theorem restE_len {w : Nat} {ps : List PI} {st : SE} {m : Nat} (h : ps.length = w + 1) (r : Rws st.rows st.places st.d (2 * w + 2) m) : (restE w ps st).length = 2 * w + 2 :=
  rest_len (exL_len h) fun p hp => (r.row _ (List.of_mem_zip (show (p.1, p.2) ∈ _ from hp)).1).1
theorem runE_inl {w : Nat} {pss : List (List PI)} {i : Nat} {s : SE} (h : runE w pss i = .inl s) : runE w pss (i + 1) = stepE w i (pss.getD i []) s := by
  show (match runE w pss i with | .inr x => Sum.inr x | .inl st => stepE w i (pss.getD i []) st) = _
  rw [h]
theorem runE_inr {w : Nat} {pss : List (List PI)} {i : Nat} {x : TK × List Int} (h : runE w pss i = .inr x) : ∀ j, runE w pss (i + j) = .inr x
  | 0 => h
  | j + 1 => by
    show (match runE w pss (i + j) with | .inr x => Sum.inr x | .inl st => stepE w (i + j) (pss.getD (i + j) []) st) = _
    rw [runE_inr h j]
/-! an Echelon whose lists are not the list at tl -/
def Ecx (D tl : Addr) (H : Hp) (x : Addr) (n : Nat) (rows : List (List Int)) (places : List Nat) (d : Int) : Prop :=
  ∃ dx fs a b, H x = some (.ins D dx fs) ∧ EcF fs n a b d ∧ LM H a rows ∧ H b = some (.lst (places.map fun i => V.int (i : Nat))) ∧ a ≠ tl ∧ b ≠ tl
theorem Ecx.ec {D tl : Addr} {H : Hp} {x : Addr} {n : Nat} {rows : List (List Int)} {places : List Nat} {d : Int} (h : Ecx D tl H x n rows places d) : Ec D H x n rows places d := by
  obtain ⟨dx, fs, a, b, h1, h2, h3, h4, _, _⟩ := h
  exact ⟨dx, fs, a, b, h1, h2, h3, h4⟩
theorem Ecx.same {D tl : Addr} {H H' : Hp} {x : Addr} {n : Nat} {rows : List (List Int)} {places : List Nat} {d : Int} (h : Ecx D tl H x n rows places d) (s : Same H H') : Ecx D tl H' x n rows places d := by
  obtain ⟨dx, fs, a, b, h1, h2, h3, h4, h5, h6⟩ := h
  exact ⟨dx, fs, a, b, s _ _ h1, h2, h3.same s, s _ _ h4, h5, h6⟩
theorem Ec.new {D tl : Addr} {H : Hp} {x : Addr} {n : Nat} {rows : List (List Int)} {places : List Nat} {d : Int} (h : Ec D H x n rows places d) (f : H tl = none) : Ecx D tl H x n rows places d := by
  obtain ⟨dx, fs, a, b, h1, h2, ⟨vs, h3, h4⟩, h5⟩ := h
  exact ⟨dx, fs, a, b, h1, h2, ⟨vs, h3, h4⟩, h5, fun z => (by rw [z, f] at h3; cases h3), fun z => (by rw [z, f] at h5; cases h5)⟩
def NoInts (us : List V) : Prop := ∀ r : List Int, 0 < r.length → us ≠ r.map V.int
theorem noInts_nil : NoInts [] := fun r h e => by
  cases r with
  | nil => simp at h
  | cons _ _ => cases e
theorem noInts_ref {a : Addr} {us : List V} : NoInts (.ref a :: us) := fun r h e => by
  cases r with
  | nil => simp at h
  | cons _ _ => cases e
theorem TkL.ni {H : Hp} {vs : List V} {tk : TK} (z : AG (fun v (p : Nat × Int) => ∃ q, v = .ref q ∧ H q = some (.tup [.int (p.1 : Nat), .int p.2])) vs tk) : NoInts vs := by
  cases vs with
  | nil => exact noInts_nil
  | cons v vr =>
    obtain ⟨p, _, q, e, _⟩ := z.2 0 v rfl
    rw [e]
    exact noInts_ref
theorem Ecx.upd {D tl : Addr} {H : Hp} {x : Addr} {n : Nat} {rows : List (List Int)} {places : List Nat} {d : Int} {us : List V} {o : HO} (h : Ecx D tl H x n rows places d) (ht : H tl = some (.lst us)) (ni : NoInts us) (hr : ∀ r ∈ rows, 0 < r.length) : Ecx D tl (L2.upd H tl o) x n rows places d := by
  obtain ⟨dx, fs, a, b, h1, h2, ⟨vs, h3, h4⟩, h5, h6, h7⟩ := h
  refine ⟨dx, fs, a, b, by rw [upd_ne fun z => by rw [z, ht] at h1; cases h1]; exact h1, h2, ⟨vs, by rw [upd_ne h6]; exact h3, ⟨h4.1, fun i v hv => ?_⟩⟩, by rw [upd_ne h7]; exact h5, h6, h7⟩
  obtain ⟨r, hr', q, e, hq⟩ := h4.2 i v hv
  exact ⟨r, hr', q, e, by rw [upd_ne fun z => by rw [z, ht] at hq; injection hq with hq; injection hq with hq; exact ni r (hr r (List.mem_of_getElem? hr')) hq]; exact hq⟩
/-- behind a take the lists hold something, so they are told from a list of pairs -/
theorem Ec.x {D tl : Addr} {H : Hp} {x : Addr} {n : Nat} {rows : List (List Int)} {places : List Nat} {d : Int} {tk : TK} (h : Ec D H x n rows places d) (ht : TkL H tl tk) (hk : tk ≠ []) (hr : rows ≠ []) (hp : places ≠ []) : Ecx D tl H x n rows places d := by
  obtain ⟨dx, fs, a, b, h1, h2, ⟨vs, h3, h4⟩, h5⟩ := h
  obtain ⟨us, hu, hz⟩ := ht
  obtain ⟨u0, ur, eu⟩ : ∃ u0 ur, us = u0 :: ur := by
    cases us with
    | nil => exact absurd (List.length_eq_zero_iff.mp (by rw [← hz.1]; rfl)) hk
    | cons a b => exact ⟨a, b, rfl⟩
  subst eu
  obtain ⟨p0, _, q0, e0, t0⟩ := hz.2 0 u0 rfl
  subst e0
  refine ⟨dx, fs, a, b, h1, h2, ⟨vs, h3, h4⟩, h5, fun z => ?_, fun z => ?_⟩
  · rw [z, hu] at h3
    injection h3 with h3
    injection h3 with h3
    subst h3
    obtain ⟨r, _, q, e, hq⟩ := h4.2 0 (.ref q0) rfl
    cases e
    rw [t0] at hq
    cases hq
  · rw [z, hu] at h5
    injection h5 with h5
    injection h5 with h5
    cases places with
    | nil => exact hp rfl
    | cons y yr => cases h5
end FR
set_option Elab.async false
set_option linter.all false
set_option maxRecDepth 100000
set_option maxHeartbeats 4000000
/-! solution -/
namespace FR
open PySem PySem.Spec PyProof.Rows L2 LD RF
def augP (pss : List (List PI)) (ts : List PI) : List (List PI) := List.zipWith (fun ps t => ps ++ [t]) pss ts
/-- the pair that is returned -/
def SolAt (C : Addr) (H : Hp) (t : Addr) (z : Str) (ps : List PI) : Prop := ∃ b, H t = some (.tup [.str z, .ref b]) ∧ TFr C H b ps
def resE (w m : Nat) : RE → Str × List PI
  | .inl st => ("solution", foundE w st)
  | .inr x => ("none", factP x.1 x.2 m)
theorem place_some {w q : Nat} {rest : List Int} (hq : q < w) (h0 : ∀ j, j < q → ent rest j = 0) (h1 : ent rest q ≠ 0) : placeE w rest = some q := by
  unfold placeE
  rw [List.find?_range_eq_some]
  exact ⟨decide_eq_true h1, List.mem_range.mpr hq, fun j hj => by rw [h0 j hj]; rfl⟩
theorem place_none {w : Nat} {rest : List Int} (h0 : ∀ j, j < w → ent rest j = 0) : placeE w rest = none := by
  unfold placeE
  rw [List.find?_eq_none]
  intro j hj
  rw [h0 j (List.mem_range.mp hj)]
  decide
theorem cut_drop {xs : List V} {n : Nat} (h : n ≤ xs.length) : cutV xs (some (n : Int)) none = xs.drop n := by
  unfold cutV
  rw [HT.sIx_nat, HT.sIx_none, Nat.min_eq_left h]
  exact List.take_of_length_le (by rw [List.length_drop]; exact Nat.le_refl _)
section
variable {P : Program} {w : World} {K : PySem.W.Frag} {mg : Str → Option Value} {base : Heap} {C fI pT gT0 pB gB0 D : Addr} {fdI fdT fdB : FuncData}
abbrev sSo : Stmt := top 23
abbrev NSo : List Str := ["rows", "totals", "width", "echelon", "taken", "number", "row", "tops", "bottom", "rest", "place", "found"]
theorem scSo : FnScope NSo ["rows", "totals"] (defScope sSo) := ⟨rfl, rfl, rfl, by decide +kernel, rfl, by decide +kernel, by decide +kernel⟩
def spSo (C : Addr) : Sp := fun vs H Q _ => ∃ (a c : Addr) (pss : List (List PI)) (n : Nat) (ts : List PI), vs = [.ref a, .ref c] ∧ TMx C H a pss ∧ Rs pss n ∧ Tf C H c ts ∧ ts.length = pss.length ∧ (∀ ps ∈ augP pss ts, AllLf ps ∧ Shr ps) ∧ FitE n (augP pss ts) ∧
  ∀ t H', SolAt C H' t (resE n pss.length (runE n (augP pss ts) pss.length)).1 (resE n pss.length (runE n (augP pss ts) pss.length)).2 → Same H H' → Q (.ref t) H'
theorem ok_so {f fI' : Addr} {fd fdI' : FuncData} (F : Fun K "solution" "solution" sSo f fd) (k : FrK P w K mg base C fI pT gT0 pB gB0 fdI fdT fdB) (ek : EcK P w K mg base D fI' fdI') (mR : Met P w K mg base D "rest_of" 1 ["self", "line"] (spEr D)) (mP : Met P w K mg base D "place_in" 1 ["self", "rest"] (spEp D)) (mT : Met P w K mg base D "take" 2 ["self", "rest", "place"] (spEt D))
    (gC : Glo P w K mg base "_check_rows_and_totals" 6 ["rows", "totals"] (spCt C)) (gO : Glo P w K mg base "over_one_bottom" 5 ["fractions"] (spOver C)) (gM : Glo P w K mg base "_mark" 1 ["at", "many"] spMk) (gA : Glo P w K mg base "_factors_of" 4 ["taken", "rest", "many"] (spFa C))
    (mL : mg "len" = none) (mZ : mg "zip" = none) (mEn : mg "enumerate" = none) (mTu : mg "tuple" = none) : FnOk P w K mg base CX0 7 f fd ["rows", "totals"] (spSo C) := by
  obtain ⟨ds, vds, bds⟩ := k.b1
  refine F.ok scSo (fun vs H Q E h => ?_) (fun cdv A outer s H vs Q E hr h => ?_)
  · obtain ⟨a, c, pss, n, ts, rfl, _⟩ := h
    rfl
  · obtain ⟨a, c, pss, n, ts, rfl, tm, R, tt, tl_, alf, fit, q⟩ := h
    refine ⟨_, (pss_cons (ps_expr (pe_call gC.G hr (by rfl) gC.m gC.k gC.b .nil pass0 (pa_cons (pv 0) (pa_cons (pv 1) pa_nil))))
      (pss_cons (ps_set (i := 2) scSo.nd rfl (Or.inl rfl) (pe_callB call_len_seq (by rfl) mL PySem.boot_len (pa_cons (pe_ix ix_tup (pv 0) pe_int (fun _ _ => rfl)) pa_nil)))
      (pss_cons (ps_set (i := 3) scSo.nd rfl (Or.inl rfl) (pe_make ek.M ek.G (hr.mono (by decide)) (by rfl) ek.m ek.b .nil pass0 (pa_cons (pv 2) pa_nil)))
      (pss_cons (ps_set (i := 4) scSo.nd rfl (Or.inl rfl) (pe_lst pa_nil))
      (pss_cons (ps_for PassesOwn.never rfl (pi_enumT (by rfl) mEn (pa_cons (pv 0) pa_nil)) (pg_tup (by rfl) (pgs_cons (pg_name (i := 5) scSo.nd rfl (.inl rfl)) (pgs_cons (pg_name (i := 6) scSo.nd rfl (.inl rfl)) pgs_nil)))
        (pss_cons (ps_asg (pe_call gO.G (hr.mono (by decide)) (by rfl) gO.m gO.k gO.b .nil pass0 (pa_cons (pe_tup (StX.pa_star (pv 6) (pa_cons (pe_ix ix_tup (pv 1) (pv 5) (fun _ _ => rfl)) pa_nil))) pa_nil)) (pg_tup (by rfl) (pgs_cons (pg_name (i := 7) scSo.nd rfl (.inl rfl)) (pgs_cons (pg_name (i := 8) scSo.nd rfl (.inl rfl)) pgs_nil))))
      (pss_cons (ps_set (i := 9) scSo.nd rfl (Or.inl rfl) (pe_meth (pv 3) ek.T.cl ⟨mR.D.at_, mR.D.fn, mR.kp⟩ mR.G (hr.mono (by decide)) mR.b .nil pass0 (pa_cons (pe_op op_cat (pv 7) (pe_call gM.G (hr.mono (by decide)) (by rfl) gM.m gM.k gM.b .nil pass0 (pa_cons (pe_callB call_len_seq (by rfl) mL PySem.boot_len (pa_cons (pv 4) pa_nil)) (pa_cons (pe_op op_add (pv 2) pe_int) pa_nil)))) pa_nil)))
      (pss_cons (ps_set (i := 10) scSo.nd rfl (Or.inl rfl) (pe_meth (pv 3) ek.T.cl ⟨mP.D.at_, mP.D.fn, mP.kp⟩ mP.G (hr.mono (by decide)) mP.b .nil pass0 (pa_cons (pv 9) pa_nil)))
      (pss_cons (ps_expr (pe_bm PySem.F.plainAttrs_list PySem.F.slot_list_append PySem.F.type_list_append mt_append (pv 4) (pa_cons (pe_tup (pa_cons (pv 5) (pa_cons (pv 8) pa_nil))) pa_nil)))
      (pss_one (ps_if (pt_cmpR op_notN (pv 10) pe_non (nomark _)) (pss_one (ps_expr (pe_meth (pv 3) ek.T.cl ⟨mT.D.at_, mT.D.fn, mT.kp⟩ mT.G (hr.mono (by decide)) mT.b .nil pass0 (pa_cons (pv 9) (pa_cons (pv 10) pa_nil))))) (pss_one (ps_if (pt_cmpR op_ne (pe_ix ix_list (pv 9) (pv 2) (fun _ _ => rfl)) pe_int (nomark _)) (pss_one (ps_ret (pe_tup (pa_cons pe_str (pa_cons (pe_call gA.G (hr.mono (by decide)) (by rfl) gA.m gA.k gA.b .nil pass0 (pa_cons (pv 4) (pa_cons (pe_slice sl_list (pv 9) (po_some (pv 2)) po_none) (pa_cons (pe_callB call_len_seq (by rfl) mL PySem.boot_len (pa_cons (pv 0) pa_nil)) pa_nil)))) pa_nil))))) (pss_one (ps_expr (pe_bm0 PySem.F.plainAttrs_list PySem.F.slot_list_pop PySem.F.type_list_pop mt_pop (pv 4)))))))))))))
      (pss_cons (ps_set (i := 11) scSo.nd rfl (Or.inl rfl) (pe_op op_rep (pe_lst (pa_cons (pe_make k.M k.GI (hr.mono (by decide)) (by rfl) k.T.mC bds vds pass0 (pa_cons pe_int pa_nil)) pa_nil)) (pv 2)))
      (pss_cons (ps_for PassesOwn.never rfl (pi_zip (by rfl) mZ (pa_cons (pe_fld (pv 3) rfl) (pa_cons (pe_fld (pv 3) rfl) pa_nil))) (pg_tup (by rfl) (pgs_cons (pg_name (i := 10) scSo.nd rfl (.inl rfl)) (pgs_cons (pg_name (i := 6) scSo.nd rfl (.inl rfl)) pgs_nil)))
        (pss_one (ps_asg (pe_make k.M k.GI (hr.mono (by decide)) (by rfl) k.T.mC k.b2 .nil pass0 (pa_cons (pe_ix ix_list (pv 6) (pv 2) (fun _ _ => rfl)) (pa_cons (pe_fld (pv 3) rfl) pa_nil))) (pg_sub (pv 11) (pv 10) set_list))))
      (pss_one (ps_ret (pe_tup (pa_cons pe_str (pa_cons (pe_callTy call_tuple_of (by rfl) mTu (by decide +kernel) (pa_cons (pv 11) pa_nil)) pa_nil)))))))))))), ?_⟩
    refine ⟨_, rfl, _, rfl, a, c, pss, n, ts, rfl, tm, R, tt, tl_, fun H1 s1 => ?_⟩
    obtain ⟨vs, haH, hvH⟩ := id tm
    have ha := s1 _ _ haH
    obtain ⟨q0, xs0, hq0, hx0, l0⟩ : ∃ q0 xs0, vs[0]? = some (.ref q0) ∧ H1 q0 = some (.tup xs0) ∧ xs0.length = n := by
      obtain ⟨v0, h0⟩ : ∃ v0, vs[0]? = some v0 := ⟨_, List.getElem?_eq_getElem (by rw [hvH.1]; exact R.ne)⟩
      obtain ⟨p0, hp0, q0, rfl, tf0⟩ := hvH.2 0 v0 h0
      obtain ⟨xs0, hx0, hf0⟩ := (tf0.same s1).at_
      exact ⟨q0, xs0, h0, hx0, by rw [hf0.1]; exact R.len p0 (List.mem_of_getElem? hp0)⟩
    refine ⟨_, rfl, a, _, 0, _, rfl, rfl, SqT.of ha, atI_nat (j := 0) hq0, ?_⟩
    refine ⟨q0, xs0, rfl, .inr (SqT.of hx0), ?_⟩
    rw [l0]
    refine ⟨_, rfl, fun e dx ne_ nd_ nn_ => ⟨e, dx, n, rfl, upd_same, fun H2 he hs => ⟨rfl, ?_⟩⟩⟩
    have s2 : Same H1 H2 := same_make (C := D) ne_ nd_ hs
    have s12 := s1.trans s2
    have e0 : H e = none := Same.free s1 ne_
    refine ⟨Nat.zero_le _, fun tl htl => ?_⟩
    have s3 : Same H2 (upd H2 tl (.lst [])) := same_new htl
    have tl0 : H tl = none := Same.free s12 htl
    have ex3 : Ecx D tl (upd H2 tl (.lst [])) e n [] [] 1 := (he.new htl).same s3
    have tk3 : TkL (upd H2 tl (.lst [])) tl [] := ⟨[], upd_same, AG.nil⟩
    have s13 := s12.trans s3
    generalize upd H2 tl _ = H3 at *
    refine ⟨_, rfl, a, vs, rfl, SqT.of (s13 _ _ haH), ?_⟩
    have alen : (augP pss ts).length = pss.length := by unfold augP; rw [List.length_zipWith, tl_]; omega
    have vlen : vs.length = pss.length := hvH.1
    have f80 := R.few
    have n12 := R.n12
    have n1 := R.n1
    obtain ⟨cxs, hcx, hcf⟩ := tt.at_
    refine for_it (walk_enumT (xs := vs)) (fun i σ Hc => Same H Hc ∧ ∃ (st : SE) (x5 x6 x7 x8 x9 x10 : Option V), σ = [some (.ref a), some (.ref c), some (.int (n : Nat)), some (.ref e), some (.ref tl), x5, x6, x7, x8, x9, x10, none] ∧ runE n (augP pss ts) i = .inl st ∧ Ecx D tl Hc e n st.rows st.places st.d ∧ TkL Hc tl st.tk)
      ⟨s13, ⟨[], [], 1, []⟩, _, _, _, _, _, _, rfl, rfl, ex3, tk3⟩ (fun i σ Hc _ p => SqT.of (p.1 _ _ haH)) ?_ ?_
    · rintro i v σ Hc H' hi ⟨sm, st, x5, x6, x7, x8, x9, x10, rfl, hrun, ec, tk⟩ ⟨T0, u1, u2, rfl, nT, rfl, h1, h2⟩
      have h1 : some (V.int (i : Nat)) = some u1 := h1
      cases h1
      have h2 : vs[i]? = some u2 := h2
      obtain ⟨ps, hps, qr, rfl, tfr⟩ := hvH.2 i u2 h2
      have ip : i < pss.length := by omega
      obtain ⟨t0, ht0⟩ : ∃ t0, ts[i]? = some t0 := ⟨_, List.getElem?_eq_getElem (by omega)⟩
      have haug : (augP pss ts)[i]? = some (ps ++ [t0]) := by unfold augP; rw [List.getElem?_zipWith, hps, ht0]
      have gaug : (augP pss ts).getD i [] = ps ++ [t0] := by rw [List.getD_eq_getElem?_getD, haug]; rfl
      have pn : ps.length = n := R.len ps (List.mem_of_getElem? hps)
      have al1 : (ps ++ [t0]).length = n + 1 := by rw [List.length_append, pn]; rfl
      obtain ⟨lf1, shr1⟩ := alf _ (List.mem_of_getElem? haug)
      obtain ⟨⟨m, m0, m8, rw_⟩, d0, hpl, hln, htk, hsm⟩ := fit.st i (by omega) st hrun
      obtain ⟨t, tp, t8, sh1, sh2⟩ := fit.li i (by omega) st hrun
      rw [gaug] at sh1 sh2
      have sT : Same Hc (upd Hc T0 (.tup [.int (i : Nat), .ref qr])) := same_new nT
      have tt0 : upd Hc T0 (.tup [.int (i : Nat), .ref qr]) T0 = some (.tup [.int (i : Nat), .ref qr]) := upd_same
      have smT := sm.trans sT
      have ecT := ec.same sT
      have tkT := tk.same sT
      generalize upd Hc T0 _ = HA at *
      refine ⟨T0, _, rfl, SqT.of tt0, rfl, _, _, rfl, _, _, rfl, rfl, ?_⟩
      -- over_one_bottom
      obtain ⟨xs, hxs, hfx⟩ := (tfr.same smT).at_
      obtain ⟨wt, hwt⟩ : ∃ wt, cxs[i]? = some wt := ⟨_, List.getElem?_eq_getElem (by rw [hcf.1]; omega)⟩
      obtain ⟨t0', ht0', fvt⟩ := hcf.2 i wt hwt
      rw [ht0] at ht0'
      cases ht0'
      refine ⟨_, rfl, qr, xs, rfl, .inl (SqT.of hxs), _, rfl, _, rfl, c, _, (i : Nat), wt, rfl, rfl, SqT.of (smT _ _ hcx), atI_nat hwt, ?_⟩
      refine ⟨Nat.le_of_lt (small1000 (by simp only [List.length_append, List.length_cons, List.length_nil, hfx.1, pn]; omega)), fun tpp htp => ?_⟩
      have sP : Same HA (upd HA tpp (.tup (xs ++ [wt]))) := same_new htp
      have tp1 : upd HA tpp (.tup (xs ++ [wt])) tpp = some (.tup (xs ++ [wt])) := upd_same
      have smP := smT.trans sP
      have ecP := ecT.same sP
      have tkP := tkT.same sP
      have hfxP := hfx.same sP
      have fvP := fvt.same smP
      generalize upd HA tpp _ = HB0 at *
      refine ⟨tpp, ps ++ [t0], rfl, ⟨⟨_, tp1, A2.snoc hfxP fvP⟩, by rw [al1]; omega, lf1, shr1⟩, fun ca cb HB hca hcb sB => ?_⟩
      refine ⟨cb, _, rfl, SqT.of hcb, rfl, _, _, rfl, _, _, rfl, rfl, ?_⟩
      have smB := smP.trans sB
      have ecB := ecP.same sB
      have tkB := tkP.same sB
      -- rest_of
      obtain ⟨dxB, fsB, aB, bB, gB1, gB2, gB3, gB4, gB5, gB6⟩ := id ecB
      obtain ⟨usB, husB, hzB⟩ := id tkB
      have uln : usB.length = st.tk.length := hzB.1
      have tkf : st.tk.length ≤ 90 := by rw [hln]; exact rw_.few
      refine ⟨_, rfl, e, dxB, _, rfl, gB1, gB2.no _ (by decide) (by decide) (by decide) (by decide), _, rfl, _, rfl, tl, usB, rfl, .inl (SqL.of husB), _, rfl, _, _, rfl, rfl, st.tk.length, n + 1, by rw [uln]; rfl, by omega, fun ml HC hml sC _ => ?_⟩
      refine ⟨ca, ml, _, _, rfl, rfl, sC _ _ hca, hml, Nat.le_of_lt (small1000 (by rw [List.length_map, List.length_map, markL_len]; unfold topsP; rw [List.length_map, al1]; omega)), fun lx hlx => ?_⟩
      have sX : Same HC (upd HC lx (.lst ((topsP (ps ++ [t0]) (lcmP (ps ++ [t0]))).map V.int ++ (markL st.tk.length (n + 1)).map V.int))) := same_new hlx
      have lx1 : upd HC lx (.lst ((topsP (ps ++ [t0]) (lcmP (ps ++ [t0]))).map V.int ++ (markL st.tk.length (n + 1)).map V.int)) lx = some (.lst ((exL n (ps ++ [t0]) st.tk.length).map V.int)) := by
        unfold exL lineP
        rw [List.map_append]
        exact upd_same
      have sBX := sC.trans sX
      generalize upd HC lx _ = HX at *
      have ecX := ecB.same sBX
      refine ⟨e, lx, n, 2 * n + 2, m, t, st.rows, st.places, st.d, exL n (ps ++ [t0]) st.tk.length, rfl, ecX.ec, lx1, rw_, exL_len al1, sh1, by omega, m8, t8, m0, tp, fun y HD hy sD => ?_⟩
      have hy : HD y = some (.lst ((restE n (ps ++ [t0]) st).map V.int)) := hy
      have sBD := sBX.trans sD
      have smD := smB.trans sBD
      have ecD := ecB.same sBD
      have tkD := tkB.same sBD
      have rlen : (restE n (ps ++ [t0]) st).length = 2 * n + 2 := restE_len al1 rw_
      obtain ⟨dxD, fsD, aD, bD, gD1, gD2, gD3, gD4, gD5, gD6⟩ := id ecD
      refine ⟨_, rfl, e, dxD, _, rfl, gD1, gD2.no _ (by decide) (by decide) (by decide) (by decide), _, rfl, e, y, n, st.rows, st.places, st.d, restE n (ps ++ [t0]) st, rfl, ecD.ec, hy, by omega, by omega, fun qq hq h0 h1 => ?_, fun h0 => ?_⟩
      · -- a place
        obtain ⟨us, hus, hzz⟩ := id tkD
        refine ⟨_, rfl, .inl ⟨rfl, _, SqL.of hus⟩, _, rfl, _, rfl, small1000 (by show 1 ≤ 1000; decide), fun tq htq => ?_⟩
        have sQ : Same HD (upd HD tq (.tup [.int (i : Nat), .int (lcmP (ps ++ [t0]))])) := same_new htq
        have tq1 : upd HD tq (.tup [.int (i : Nat), .int (lcmP (ps ++ [t0]))]) tq = some (.tup [.int (i : Nat), .int (lcmP (ps ++ [t0]))]) := upd_same
        have husE := sQ _ _ hus
        have ecE := ecD.same sQ
        have hyE := sQ _ _ hy
        have smE := smD.trans sQ
        have hzE := hzz.imp fun _ _ ⟨q1, e1, t1⟩ => (⟨q1, e1, sQ _ _ t1⟩ : ∃ q, _ = V.ref q ∧ _ = some _)
        generalize upd HD tq _ = HE at *
        have ni := TkL.ni hzE
        refine ⟨tl, us, _, rfl, rfl, husE, small1000 (by rw [hzz.1]; have := rw_.few; omega), ?_⟩
        have ecF := ecE.upd (o := .lst (us ++ [.ref tq])) husE ni (fun r mr => by rw [(rw_.row r mr).1]; omega)
        have tup_ : ∀ z xs, HE z = some (.tup xs) → upd HE tl (.lst (us ++ [.ref tq])) z = some (.tup xs) := fun z xs hz => tup_updl hz husE
        have tkF : TkL (upd HE tl (.lst (us ++ [.ref tq]))) tl (st.tk ++ [(i, lcmP (ps ++ [t0]))]) := ⟨_, upd_same, AG.snoc (hzE.imp fun _ _ ⟨q1, e1, t1⟩ => ⟨q1, e1, tup_ _ _ t1⟩) ⟨tq, rfl, tup_ _ _ tq1⟩⟩
        have ytl : y ≠ tl := fun z => by
          rw [z, husE] at hyE
          injection hyE with hyE
          injection hyE with hyE
          exact ni _ (by rw [rlen]; omega) hyE
        have hyF : upd HE tl (.lst (us ++ [.ref tq])) y = some (.lst ((restE n (ps ++ [t0]) st).map V.int)) := by rw [upd_ne ytl]; exact hyE
        have smF : Same H (upd HE tl (.lst (us ++ [.ref tq]))) := same_upd tl0 smE
        have htlF : upd HE tl (.lst (us ++ [.ref tq])) tl = some (.lst (us ++ [.ref tq])) := upd_same
        refine ⟨_, rfl, rfl, _, rfl, iteT ?_⟩
        obtain ⟨dxF, fsF, aF, bF, gF1, gF2, gF3, gF4, gF5, gF6⟩ := id ecF
        refine ⟨_, rfl, e, dxF, _, rfl, gF1, gF2.no _ (by decide) (by decide) (by decide) (by decide), _, rfl, _, rfl, e, y, qq, n, 2 * n + 2, m, 8000, st.rows, st.places, st.d, restE n (ps ++ [t0]) st, rfl, ecF.ec, hyF, rw_, rlen, sh2, by omega, by omega, d0, m8, by omega, m0, by omega, fun HG he5 hs5 => ?_⟩
        have etl : tl ≠ e := fun z => by
          have g := gF1
          rw [← z, htlF] at g
          cases g
        have tkG : TkL HG tl (st.tk ++ [(i, lcmP (ps ++ [t0]))]) := by
          obtain ⟨vs1, h1', h2'⟩ := tkF
          exact ⟨vs1, hs5 _ _ etl h1', h2'.imp fun _ _ ⟨q1, e1, t1⟩ => ⟨q1, e1, hs5 _ _ (fun z => by
            have g := gF1
            rw [← z, t1] at g
            cases g) t1⟩⟩
        have step : runE n (augP pss ts) (i + 1) = .inl ⟨clearedBy st.rows (restE n (ps ++ [t0]) st) qq st.d ++ [restE n (ps ++ [t0]) st], st.places ++ [qq], ent (restE n (ps ++ [t0]) st) qq, st.tk ++ [(i, lcmP (ps ++ [t0]))]⟩ := by
          rw [runE_inl hrun, gaug]
          unfold stepE
          rw [place_some hq h0 h1]
        exact ⟨fun z o hz => hs5 z o (ne_of_none hz e0) (smF z o hz), _, _, _, _, _, _, _, rfl, step, Ec.x he5 tkG (by simp) (by simp) (by simp), tkG⟩
      · -- none
        obtain ⟨us, hus, hzz⟩ := id tkD
        refine ⟨_, rfl, .inl ⟨rfl, _, SqL.of hus⟩, _, rfl, _, rfl, small1000 (by show 1 ≤ 1000; decide), fun tq htq => ?_⟩
        have sQ : Same HD (upd HD tq (.tup [.int (i : Nat), .int (lcmP (ps ++ [t0]))])) := same_new htq
        have tq1 : upd HD tq (.tup [.int (i : Nat), .int (lcmP (ps ++ [t0]))]) tq = some (.tup [.int (i : Nat), .int (lcmP (ps ++ [t0]))]) := upd_same
        have husE := sQ _ _ hus
        have ecE := ecD.same sQ
        have hyE := sQ _ _ hy
        have smE := smD.trans sQ
        have hzE := hzz.imp fun _ _ ⟨q1, e1, t1⟩ => (⟨q1, e1, sQ _ _ t1⟩ : ∃ q, _ = V.ref q ∧ _ = some _)
        generalize upd HD tq _ = HE at *
        have ni := TkL.ni hzE
        refine ⟨tl, us, _, rfl, rfl, husE, small1000 (by rw [hzz.1]; have := rw_.few; omega), ?_⟩
        have ecF := ecE.upd (o := .lst (us ++ [.ref tq])) husE ni (fun r mr => by rw [(rw_.row r mr).1]; omega)
        have tup_ : ∀ z xs, HE z = some (.tup xs) → upd HE tl (.lst (us ++ [.ref tq])) z = some (.tup xs) := fun z xs hz => tup_updl hz husE
        have tkF : TkL (upd HE tl (.lst (us ++ [.ref tq]))) tl (st.tk ++ [(i, lcmP (ps ++ [t0]))]) := ⟨_, upd_same, AG.snoc (hzE.imp fun _ _ ⟨q1, e1, t1⟩ => ⟨q1, e1, tup_ _ _ t1⟩) ⟨tq, rfl, tup_ _ _ tq1⟩⟩
        have ytl : y ≠ tl := fun z => by
          rw [z, husE] at hyE
          injection hyE with hyE
          injection hyE with hyE
          exact ni _ (by rw [rlen]; omega) hyE
        have hyF : upd HE tl (.lst (us ++ [.ref tq])) y = some (.lst ((restE n (ps ++ [t0]) st).map V.int)) := by rw [upd_ne ytl]; exact hyE
        have smF : Same H (upd HE tl (.lst (us ++ [.ref tq]))) := same_upd tl0 smE
        have htlF : upd HE tl (.lst (us ++ [.ref tq])) tl = some (.lst (us ++ [.ref tq])) := upd_same
        have pn0 : placeE n (restE n (ps ++ [t0]) st) = none := place_none h0
        refine ⟨_, rfl, rfl, _, rfl, iteF ?_⟩
        refine ⟨_, rfl, _, rfl, y, _, _, _, rfl, rfl, SqL.of hyF, atI_ent (by omega), rfl, _, rfl, ite2 (fun z => ?_) (fun z => ?_)⟩
        · have z := neq_of z
          have hyl : ((restE n (ps ++ [t0]) st).map V.int).length = 2 * n + 2 := by rw [List.length_map, rlen]
          refine ⟨_, rfl, _, rfl, _, rfl, _, rfl, y, _, rfl, SqL.of hyF, fun sl hsl => ?_⟩
          have cd : cutV ((restE n (ps ++ [t0]) st).map V.int) (some (n : Int)) none = ((restE n (ps ++ [t0]) st).drop n).map V.int := by rw [cut_drop (by omega), List.map_drop]
          rw [cd]
          have sS : Same (upd HE tl (.lst (us ++ [.ref tq]))) (upd (upd HE tl (.lst (us ++ [.ref tq]))) sl (.lst (((restE n (ps ++ [t0]) st).drop n).map V.int))) := same_new hsl
          have sl1 : upd (upd HE tl (.lst (us ++ [.ref tq]))) sl (.lst (((restE n (ps ++ [t0]) st).drop n).map V.int)) sl = some (.lst (((restE n (ps ++ [t0]) st).drop n).map V.int)) := upd_same
          have smS := smF.trans sS
          have tkS := tkF.same sS
          generalize upd (upd HE tl _) sl _ = HS at *
          have e0' : ent ((restE n (ps ++ [t0]) st).drop n) 0 = ent (restE n (ps ++ [t0]) st) n := by unfold ent; rw [List.getD_eq_getElem?_getD, List.getD_eq_getElem?_getD, List.getElem?_drop]; rfl
          refine ⟨_, rfl, a, vs, rfl, .inr (SqT.of (smS _ _ haH)), ?_⟩
          refine ⟨tl, sl, st.tk ++ [(i, lcmP (ps ++ [t0]))], (restE n (ps ++ [t0]) st).drop n, pss.length, by rw [vlen]; rfl, tkS, sl1, by rw [List.length_drop]; omega, by rw [List.length_drop]; omega, by omega, by rw [e0']; exact z, fun x mx => ?_, fun p mp => ?_, by rw [List.length_append, hln]; simp only [List.length_cons, List.length_nil]; omega, fun tr HR htr sR => ?_⟩
          · obtain ⟨j, hj⟩ := List.mem_iff_getElem?.mp (List.mem_of_mem_drop mx)
            have := sh2 j
            rw [ent_some hj] at this
            exact this
          · rcases List.mem_append.mp mp with w1 | w1
            · obtain ⟨g1, g2⟩ := htk p w1
              exact ⟨by omega, g2⟩
            · rw [List.mem_singleton.mp w1]
              exact ⟨ip, shr1.1⟩
          · refine ⟨small1000 (by show 1 ≤ 1000; decide), fun tz htz => ?_⟩
            have sZ : Same HR (upd HR tz (.tup [.str "none", .ref tr])) := same_new htz
            have step : runE n (augP pss ts) (i + 1) = .inr (st.tk ++ [(i, lcmP (ps ++ [t0]))], (restE n (ps ++ [t0]) st).drop n) := by
              rw [runE_inl hrun, gaug]
              unfold stepE
              rw [pn0]
              show (if ent (restE n (ps ++ [t0]) st) n ≠ 0 then _ else _) = _
              rw [if_pos z]
            have all : runE n (augP pss ts) pss.length = .inr (st.tk ++ [(i, lcmP (ps ++ [t0]))], (restE n (ps ++ [t0]) st).drop n) := by
              have := runE_inr step (pss.length - (i + 1))
              rw [show i + 1 + (pss.length - (i + 1)) = pss.length by omega] at this
              exact this
            refine q tz _ ?_ ((smS.trans sR).trans sZ)
            rw [all]
            exact ⟨tr, upd_same, htr.same sZ⟩
        · have z0 : ¬ ent (restE n (ps ++ [t0]) st) n ≠ 0 := fun w => z (neq_to w)
          have lst : (us ++ [V.ref tq])[(us ++ [V.ref tq]).length - 1]? = some (.ref tq) := by rw [List.length_append]; simp
          refine ⟨_, rfl, .inl ⟨rfl, _, SqL.of htlF⟩, tl, us ++ [.ref tq], .ref tq, rfl, rfl, htlF, lst, ?_⟩
          rw [List.dropLast_concat]
          have ni2 : NoInts (us ++ [V.ref tq]) := by
            cases us with
            | nil => exact noInts_ref
            | cons v vr =>
              obtain ⟨p1, _, q1, e1, _⟩ := hzE.2 0 v rfl
              rw [e1]
              exact noInts_ref
          have ecG := ecF.upd (o := .lst us) htlF ni2 (fun r mr => by rw [(rw_.row r mr).1]; omega)
          have tkG : TkL (upd (upd HE tl (.lst (us ++ [.ref tq]))) tl (.lst us)) tl st.tk := ⟨us, upd_same, hzE.imp fun _ _ ⟨q1, e1, t1⟩ => ⟨q1, e1, tup_updl (tup_ _ _ t1) htlF⟩⟩
          have step : runE n (augP pss ts) (i + 1) = .inl st := by
            rw [runE_inl hrun, gaug]
            unfold stepE
            rw [pn0]
            show (if ent (restE n (ps ++ [t0]) st) n ≠ 0 then _ else _) = _
            rw [if_neg z0]
          exact ⟨same_upd tl0 smF, st, _, _, _, _, _, _, rfl, step, ecG, tkG⟩
    · rintro σ Hc ⟨sm, st, x5, x6, x7, x8, x9, x10, rfl, hrun, ec, tk⟩
      rw [vlen] at hrun
      obtain ⟨⟨m, m0, m8, rw_⟩, d0, hpl, hln, htk, hsm⟩ := fit.st pss.length (by omega) st hrun
      refine fun x dx nx nd ne => ⟨x, dx, 0, 1, rfl, upd_same, by decide, dv8 (by decide) (by decide), fun HA hf hs => ⟨rfl, small1000 (by show 0 ≤ 1000; decide), fun p hp => ?_⟩⟩
      have sA := same_make (C := C) nx nd hs
      have f0 : FrAt C HA x ((0, 1) : PI).1 ((0, 1) : PI).2 := by
        have e0 : ((nT 0 1, nB 0 1) : PI) = (0, 1) := by decide +kernel
        have a1 : nT 0 1 = 0 := congrArg Prod.fst e0
        have a2 : nB 0 1 = 1 := congrArg Prod.snd e0
        rw [a1, a2] at hf
        exact hf
      have sP : Same HA (upd HA p (.lst [.ref x])) := same_new hp
      have hp3 : upd HA p (.lst [.ref x]) p = some (.lst [.ref x]) := upd_same
      have f3 := f0.same sP
      have smP := (sm.trans sA).trans sP
      have ecP := (ec.ec.same sA).same sP
      generalize upd HA p _ = HP at *
      have nat : ((n : Int)).toNat = n := by omega
      refine ⟨_, rfl, p, (n : Int), [.ref x], rfl, rfl, hp3, by omega, by omega, Nat.le_of_lt (small1000 (by show 1 * (n : Int).toNat ≤ 1000; omega)), fun fl hfl => ?_⟩
      have sF : Same HP (upd HP fl (.lst (List.replicate ((n : Int).toNat) [V.ref x]).flatten)) := same_new hfl
      have hfl4 : upd HP fl (.lst (List.replicate ((n : Int).toNat) [V.ref x]).flatten) fl = some (.lst (List.replicate n (V.ref x))) := by rw [upd_same, nat, flat_rep]
      have f4 := f3.same sF
      have smF := smP.trans sF
      have ecF := ecP.same sF
      have fl0 : H fl = none := Same.free smP hfl
      obtain ⟨dx1, fs1, a1, b1, g1, ef1, ⟨us1, g2, hu1⟩, g3⟩ := id ecP
      have f1 : e ≠ fl := fun z => by rw [z, hfl] at g1; cases g1
      have f2 : a1 ≠ fl := fun z => by rw [z, hfl] at g2; cases g2
      have f3' : b1 ≠ fl := fun z => by rw [z, hfl] at g3; cases g3
      have fr : ∀ q1 o, HP q1 = some o → q1 ≠ fl := fun q1 o h z => by rw [z, hfl] at h; cases h
      have h1 := sF _ _ g1
      have h2 := sF _ _ g2
      have h3 := sF _ _ g3
      have hu2 : AG (fun v r => ∃ q, v = .ref q ∧ q ≠ fl ∧ upd HP fl (.lst (List.replicate ((n : Int).toNat) [V.ref x]).flatten) q = some (.lst (r.map V.int))) us1 st.rows := hu1.imp fun _ _ ⟨q1, e1, t1⟩ => ⟨q1, e1, fr _ _ t1, sF _ _ t1⟩
      generalize upd HP fl _ = HF at *
      refine ⟨_, rfl, e, D, dx1, _, _, rfl, h1, ek.T.cl, ek.T.nP, ef1.p, _, rfl, e, D, dx1, _, _, rfl, h1, ek.T.cl, ek.T.nR, ef1.r, b1, a1, _, _, rfl, SqL.of h3, SqL.of h2, ?_⟩
      have pul : st.places.length = us1.length := by rw [hu1.1, rw_.ln]
      refine for_it (walk_zip (xs := st.places.map fun i => V.int (i : Nat)) (ys := us1) (n := (st.places.zip st.rows).length) (by rw [List.length_map, List.length_zip, hu1.1]))
        (fun i σ Hc => Same H Hc ∧ Hc e = some (.ins D dx1 fs1) ∧ Hc a1 = some (.lst us1) ∧ Hc b1 = some (.lst (st.places.map fun i => V.int (i : Nat))) ∧ AG (fun v r => ∃ q, v = .ref q ∧ q ≠ fl ∧ Hc q = some (.lst (r.map V.int))) us1 st.rows ∧
          ∃ (us : List V) (x5 x6 x7 x8 x9 x10 : Option V), σ = [some (.ref a), some (.ref c), some (.int (n : Nat)), some (.ref e), some (.ref tl), x5, x6, x7, x8, x9, x10, some (.ref fl)] ∧ Hc fl = some (.lst us) ∧
          FRs C Hc us (((st.places.zip st.rows).take i).foldl (fun fs z => fs.set z.1 (nT (ent z.2 n) st.d, nB (ent z.2 n) st.d)) (List.replicate n (0, 1))) ∧ us.length = n)
        ⟨smF, h1, h2, h3, hu2, _, _, _, _, _, _, _, rfl, hfl4, frs_rep f4 n, List.length_replicate⟩ (fun i σ Hc _ p => ⟨SqL.of p.2.2.2.1, SqL.of p.2.2.1⟩) ?_ ?_
      · rintro i v σ Hc H' hi ⟨sm, k1, k2, k3, k4, us, x5, x6, x7, x8, x9, x10, rfl, hflc, hu, ul⟩ ⟨T0, u1, u2, rfl, nT0, rfl, y1, y2⟩
        have y1 : (st.places.map fun i => V.int (i : Nat))[i]? = some u1 := y1
        have y2 : us1[i]? = some u2 := y2
        obtain ⟨pc, gp⟩ : ∃ pc, st.places[i]? = some pc := ⟨_, List.getElem?_eq_getElem (by rw [List.length_zip] at hi; omega)⟩
        have e1 : u1 = .int (pc : Nat) := by
          rw [List.getElem?_map, gp] at y1
          exact (Option.some.inj y1).symm
        subst e1
        obtain ⟨r, hr1, ra, rfl, nra, hra⟩ := k4.2 i u2 y2
        have pcn := hpl pc (List.mem_of_getElem? gp)
        obtain ⟨rn, rs⟩ := rw_.row r (List.mem_of_getElem? hr1)
        have sT : Same Hc (upd Hc T0 (.tup [.int (pc : Nat), .ref ra])) := same_new nT0
        have tt1 : upd Hc T0 (.tup [.int (pc : Nat), .ref ra]) T0 = some (.tup [.int (pc : Nat), .ref ra]) := upd_same
        have k1' := sT _ _ k1
        have k2' := sT _ _ k2
        have k3' := sT _ _ k3
        have k4' := k4.imp fun _ _ ⟨q1, e1, n1, t1⟩ => (⟨q1, e1, n1, sT _ _ t1⟩ : ∃ q, _ = V.ref q ∧ q ≠ fl ∧ _ = some _)
        have hra' := sT _ _ hra
        have hfl' := sT _ _ hflc
        have hu' := hu.same sT
        have sm' := sm.trans sT
        generalize upd Hc T0 _ = Hn at *
        refine ⟨T0, _, rfl, SqT.of tt1, rfl, _, _, rfl, _, _, rfl, rfl, ?_⟩
        refine ⟨_, rfl, _, rfl, ra, _, _, _, rfl, rfl, SqL.of hra', atI_ent (by omega), _, rfl, e, D, dx1, _, _, rfl, k1', ek.T.cl, ek.T.nD, ef1.d, fun y dy ny ndy ney => ⟨y, dy, ent r n, st.d, rfl, upd_same, d0, dv8 d0 (pow_up rw_.dz (by omega)), fun H' hf hs => ⟨rfl, ?_⟩⟩⟩
        have s5 := same_make (C := C) ny ndy hs
        have e5 := s5 _ _ hfl'
        refine ⟨_, rfl, _, rfl, fl, us, (pc : Int), pc, rfl, rfl, e5, ?_, ?_⟩
        · unfold ixN
          rw [if_pos (by omega), if_pos (by omega)]
          exact congrArg some (by omega)
        · refine ⟨same_upd fl0 (sm'.trans s5), by rw [upd_ne f1]; exact s5 _ _ k1', by rw [upd_ne f2]; exact s5 _ _ k2', by rw [upd_ne f3']; exact s5 _ _ k3', k4'.imp fun _ _ ⟨q1, e1, n1, t1⟩ => ⟨q1, e1, n1, by rw [upd_ne n1]; exact s5 _ _ t1⟩, us.set pc (.ref y), _, _, _, _, _, _, rfl, upd_same, ?_, by rw [List.length_set]; exact ul⟩
          rw [take_snoc (x := (pc, r)) (by rw [List.getElem?_zip_eq_some]; exact ⟨gp, hr1⟩), List.foldl_append]
          exact A2.set ((hu'.same s5).updl e5) ⟨y, rfl, hf.updl e5⟩ pc
      · rintro σ Hc ⟨sm, k1, k2, k3, k4, us, x5, x6, x7, x8, x9, x10, rfl, hflc, hu, ul⟩
        rw [List.take_of_length_le (Nat.le_refl _)] at hu
        refine ⟨_, rfl, fl, _, rfl, .inl ⟨SqL.of hflc, fun t ht => ?_⟩⟩
        have sT : Same Hc (upd Hc t (.tup us)) := same_new ht
        have t1 : upd Hc t (.tup us) t = some (.tup us) := upd_same
        have hu' := hu.same sT
        have smT := sm.trans sT
        generalize upd Hc t _ = HT at *
        refine ⟨small1000 (by show 1 ≤ 1000; decide), fun tz htz => ?_⟩
        have sZ : Same HT (upd HT tz (.tup [.str "solution", .ref t])) := same_new htz
        refine q tz _ ?_ (smT.trans sZ)
        rw [hrun]
        exact ⟨t, upd_same, us, sZ _ _ t1, hu'.same sZ⟩
end
end FR
set_option Elab.async false
set_option linter.all false
set_option maxRecDepth 100000
set_option maxHeartbeats 4000000
/-! is_solution -/
namespace SU
open PySem PySem.SeqAt
open AutoSeq1 (wpAny_loadPart')
open MeetsSeq MeetsSeq2 MeetsSeq3 SeqRoads2
theorem str_no_dict (b : Str) (u : Tok) (l : Addr) (c : Value) (es : Array DictEntry) (ep : Nat) (dd : Option Addr) (sl : Array (Option Value)) :
    Meets (Builtin.«str.__eq__» ⟨[.str b u, .ref l], []⟩) (fun _ R s => s.heap.get? l = some { cls := c, dict := dd, data := .dict es ep, slots := sl } ∧ R (.ok (.ret .notImplemented)) s) :=
  .of_wp fun prog w A R s h => by obtain ⟨hp, g, d, tk, os⟩ := s; obtain ⟨hl, h⟩ := h; wp_walk using wpAny_load hl; exact ⟨_, rfl, h⟩
section
variable {prog : Program} {w : World} {A : Around} {E : Value → Shared → Prop} {s : Shared}
theorem dict_no_str {Q : Value → Shared → Prop} {a : Addr} (b : Str) (u : Tok) (hT : s.TypeIs (.ref a) "dict") (h : Q .notImplemented s) :
    wpAny (model prog w) A (call (.builtin "dict.__eq__") [.ref a, .str b u]) Q E s := by
  refine wpAny_call_entry PySem.F.slot_dict_eq hT PySem.F.entry_dict_eq ?_ (PySem.F.args_dict_eq_2 _ _)
  show wpAny _ _ (Builtin.Dict.dictSlotArgs "__eq__" ⟨[.ref a, .str b u], []⟩ >>= _) _ _ s
  refine wpAny_bind ?_
  unfold Builtin.Dict.dictSlotArgs
  refine wpAny_bind (wpAny_notOrdered_dict hT ?_)
  show wpAny _ _ (pure (Value.ref a, Value.str b u)) _ _ s
  refine wpAny_pure ?_
  refine wpAny_bind (wpAny_isInstance (T := "str") (b := false) (typeIs_str s b u) PySem.F.sub_str_dict ?_)
  wp_walk
  exact ⟨_, rfl, h⟩
end
theorem eqAt_str_dict {A : Around} {s : Shared} {l : Addr} {o : Obj} {es : Array DictEntry} {ep : Nat} (b : Str) (u : Tok) (ho : s.heap.get? l = some o) (hc : o.cls = .type "dict") (hd : o.data = .dict es ep) (hu : A.units < cLine) : EqAt A s (.str b u) (.ref l) false := fun prog w E Q h => by
  obtain ⟨cls, dd, data, sl⟩ := o
  simp only at hc hd
  subst hc hd
  unfold eqBool
  refine wpAny_holding ?_
  refine wpAny_ite_split (fun hab => absurd (eq_of_beq hab) nofun) (fun _ => ?_)
  refine wpAny_bind ?_
  exact rc_eq_decline_or (k := false) (typeIs_str s b u) ⟨_, ho, rfl⟩ (by decide) F.sub_dict_str F.slot_str_eq F.slot_dict_eq_refl
    (fun _ hq => call_meets F.slot_str_eq (typeIs_str s b u) F.entry_str_eq (F.args_str_eq_2 _ _) (str_no_dict b u l (.type "dict") es ep dd sl) ⟨ho, hq⟩)
    (fun _ hq => dict_no_str b u ⟨_, ho, rfl⟩ hq)
    (fun _ hq => wpAny_of_eq (rfl : isSame (.str b u) (.ref l) = pure false) hq) (.inr hu) (wpAny_truthy_bool h)
end SU
namespace FR
open PySem PySem.Spec PyProof.Rows L2 LD RF
abbrev JD : Type := Option (Str × List PI)
def wSol : Str := "solution"
def wNone : Str := "none"
/-- what stands first in a pair, where it is no text -/
def Fst1 (H : Hp) (x : V) : Prop := (∃ i, x = .int i) ∨ (∃ q, x = .ref q ∧ H q = some (.lst [])) ∨ (∃ q, x = .ref q ∧ H q = some (.dK [])) ∨ (∃ q s, x = .ref q ∧ H q = some (.tup [.str s]) ∧ PyData.strOk s = true)
theorem Fst1.odd {K : PySem.W.Frag} {H : Hp} {x : V} (h : Fst1 H x) : ∃ T, Odd K H x T ∧ T ≠ "str" := by
  rcases h with ⟨i, e⟩ | ⟨q, e, h⟩ | ⟨q, e, h⟩ | ⟨q, s, e, h, _⟩ <;> subst e
  · exact ⟨_, .int i, by decide⟩
  · exact ⟨_, .lst h, by decide⟩
  · exact ⟨_, .dK h, by decide⟩
  · exact ⟨_, .tup h, by decide⟩
theorem Fst1.same {H H' : Hp} {x : V} (h : Fst1 H x) (s : Same H H') : Fst1 H' x := by
  rcases h with ⟨i, e⟩ | ⟨q, e, h⟩ | ⟨q, e, h⟩ | ⟨q, z, e, h, so⟩
  · exact .inl ⟨i, e⟩
  · exact .inr (.inl ⟨q, e, s _ _ h⟩)
  · exact .inr (.inr (.inl ⟨q, e, s _ _ h⟩))
  · exact .inr (.inr (.inr ⟨q, z, e, s _ _ h, so⟩))
/-- what stands first is in no tuple of texts -/
theorem op_notInF {X : Cx} (hu : X.A.units + 65 < cLine) : OpR X (compareOp .NotIn) (fun x y H Q => ∃ (b : Addr) (z1 z2 : Str), y = .ref b ∧ SqT X.K H b [.str z1, .str z2] ∧ PyData.strOk z1 = true ∧ PyData.strOk z2 = true ∧ ((Fst1 H x ∧ Q (.bl true) H) ∨ (∃ z, x = .str z ∧ PyData.strOk z = true ∧ Q (.bl (!(decide (z1 = z) || decide (z2 = z)))) H))) := by
  intro pins s σ H x y v u Q I rx ry ⟨b, z1, z2, ey, hb, k1, k2, h⟩
  subst ey
  have dy : Dp X.K H (.ref b) (.tuple [.str z1, .str z2]) := .tup hb (.cons (.str z1) (.cons (.str z2) .nil))
  obtain ⟨bs, r2⟩ := Dp.reads I _ _ u dy ry
  have hxs : PyData.canLayAll0 [.str z1, .str z2] = true := by simp [PyData.canLayAll0, PyData.canLay0, k1, k2]
  have hd0 : PyData.depthAll [.str z1, .str z2] ≤ 1 := by simp [PyData.depthAll, PyData.depth]
  have fin : ∀ (d : PyData) (as : List Addr) (r : Bool), Reads s.heap v d as → d.canLay0 = true → (!(PyData.eqv (.str z1) d || (PyData.eqv (.str z2) d || false))) = r → Q (.bl r) H → wpAny (model X.prog X.w) X.A (compareOp .NotIn v u) (EP X pins σ Q) X.xe s := fun d as r r1 cl er q => by
    refine SeqAt.notIn_tuple_reads r2 r1 hxs cl (by omega) ⟨.bl _, H, I, rfl, ?_⟩
    have e : ([PyData.str z1, PyData.str z2].any fun y => PyData.eqv y d) = (PyData.eqv (.str z1) d || (PyData.eqv (.str z2) d || false)) := rfl
    rw [e, er]
    exact q
  rcases h with ⟨f, q⟩ | ⟨z, e, kz, q⟩
  · rcases f with ⟨i, e⟩ | ⟨p, e, hp⟩ | ⟨p, e, hp⟩ | ⟨p, z, e, hp, kz⟩ <;> subst e
    · obtain ⟨as, r1⟩ := Dp.reads I _ _ v (Dp.int (K := X.K) i) rx
      exact fin _ as true r1 (by simp [PyData.canLay0]) (by simp [PyData.eqv]) q
    · obtain ⟨as, r1⟩ := Dp.reads I _ _ v (Dp.lst (K := X.K) (SqL.of hp) .nil) rx
      exact fin _ as true r1 (by simp [PyData.canLay0, PyData.canLayAll0]) (by simp [PyData.eqv]) q
    · cases (show v = .ref p from rx)
      obtain ⟨_, _, vs, kv, o, es, ep, h1, h2, h3, _, h5, _⟩ := (show ObjOk X.prog X.w H s.heap p (.dK []) from I.hok p _ hp)
      have ev : vs = [] := by cases kv; rfl
      subst ev
      obtain ⟨its, rv, pl, hz⟩ := I.tuple hb
      cases (show u = .ref b from ry)
      refine SeqAt.notIn_tupleAt (fun _ => false) pl (fun y hy => ?_) ⟨.bl _, H, I, rfl, ?_⟩
      · cases rv with
        | cons ra rva =>
          cases rva with
          | cons rb rvb =>
            cases rvb
            obtain ⟨ta, ea⟩ := ra
            obtain ⟨tb, eb⟩ := rb
            subst ea eb
            have hy' : y = Value.str z1 ta ∨ y = Value.str z2 tb := by simpa using hy
            rcases hy' with e | e <;> subst e
            · exact SU.eqAt_str_dict z1 ta h1 h2.1 h3 (show X.A.in1.units < cLine by have : X.A.in1.units ≤ X.A.units + 1 := by { first | exact Nat.le_refl _ | exact Nat.le_succ _ | (simp [Around.in1]) }; omega)
            · exact SU.eqAt_str_dict z2 tb h1 h2.1 h3 (show X.A.in1.units < cLine by have : X.A.in1.units ≤ X.A.units + 1 := by { first | exact Nat.le_refl _ | exact Nat.le_succ _ | (simp [Around.in1]) }; omega)
      · have e : (!(its.toArray.any fun _ => false)) = true := by simp
        rw [e]
        exact q
    · obtain ⟨as, r1⟩ := Dp.reads I _ _ v (Dp.tup (K := X.K) (SqT.of hp) (.cons (.str z) .nil)) rx
      exact fin _ as true r1 (by simp [PyData.canLay0, PyData.canLayAll0, kz]) (by simp [PyData.eqv]) q
  · subst e
    obtain ⟨as, r1⟩ := Dp.reads I _ _ v (Dp.str (K := X.K) z) rx
    exact fin _ as _ r1 (by simp [PyData.canLay0, kz]) (by simp only [PyData.eqv, Bool.or_false]; rfl) q
/-- what a value is: a pair of one of the two words and fractions, or nothing of that kind -/
def JR (K : PySem.W.Frag) (C : Addr) (H : Hp) (v : V) : JD → Prop
  | none => (∃ T, Odd K H v T ∧ T ≠ "tuple") ∨ (∃ (a : Addr) (xs : List V), v = .ref a ∧ H a = some (.tup xs) ∧ xs.length ≠ 2) ∨ (∃ a x y, v = .ref a ∧ H a = some (.tup [x, y]) ∧ Fst1 H x) ∨
      (∃ a z y, v = .ref a ∧ H a = some (.tup [.str z, y]) ∧ z ≠ wSol ∧ z ≠ wNone ∧ PyData.strOk z = true) ∨ (∃ a z y, v = .ref a ∧ H a = some (.tup [.str z, y]) ∧ (z = wSol ∨ z = wNone) ∧ NumsR K C H y false)
  | some (z, ps) => ∃ a b, v = .ref a ∧ H a = some (.tup [.str z, .ref b]) ∧ (z = wSol ∨ z = wNone) ∧ Tf C H b ps
theorem nums_fv {K : PySem.W.Frag} {C : Addr} {H : Hp} {b : Addr} {ys : List V} {ps : List PI} (h : H b = some (.tup ys)) (f : FVs C H ys ps) (l : ys.length ≤ 90) : NumsR K C H (.ref b) true := by
  refine .inr ⟨b, ys, List.replicate ys.length true, rfl, h, l, by rw [List.length_replicate], fun i z hz => ?_, by simp⟩
  obtain ⟨p, _, fv⟩ := f.2 i z hz
  have il := (List.getElem?_eq_some_iff.mp hz).1
  refine ⟨true, by rw [List.getElem?_replicate, if_pos il], ?_⟩
  rcases fv with ⟨q, e, f⟩ | ⟨e, _⟩
  · exact .inl ⟨q, _, _, e, f, rfl⟩
  · exact .inr (.inl ⟨_, e, rfl⟩)
theorem JR.told0 {K : PySem.W.Frag} {C : Addr} {H : Hp} {v : V} (h : JR K C H v none) {w : Str} (hw : w = wSol ∨ w = wNone) (m : Nat) : ToldR K C H v w m false := by
  rcases h with ⟨T, o, hT⟩ | ⟨a, xs, e, ha, l⟩ | ⟨a, x, y, e, ha, f1⟩ | ⟨a, z, y, e, ha, n1, n2, so⟩ | ⟨a, z, y, e, ha, hz, ny⟩
  · exact .inl ⟨T, o, hT, rfl⟩
  · exact .inr (.inl ⟨a, xs, e, ha, l, rfl⟩)
  · obtain ⟨T, o, hT⟩ := f1.odd (K := K)
    exact .inr (.inr (.inl ⟨a, x, y, T, e, ha, o, hT, rfl⟩))
  · refine .inr (.inr (.inr (.inl ⟨a, z, y, e, ha, ?_, rfl⟩)))
    rcases hw with e | e <;> rw [e] <;> assumption
  · by_cases q : z = w
    · subst q
      exact .inr (.inr (.inr (.inr (.inl ⟨a, y, e, ha, ny, rfl⟩))))
    · exact .inr (.inr (.inr (.inl ⟨a, z, y, e, ha, q, rfl⟩)))
theorem JR.told1 {K : PySem.W.Frag} {C : Addr} {H : Hp} {v : V} {z : Str} {ps : List PI} (h : JR K C H v (some (z, ps))) (w : Str) (m : Nat) : ToldR K C H v w m (decide (z = w) && decide (ps.length = m)) := by
  obtain ⟨a, b, e, ha, hz, ⟨⟨ys, hb, hf⟩, few, _, _⟩⟩ := h
  by_cases q : z = w
  · subst q
    rw [decide_eq_true rfl, Bool.true_and]
    exact .inr (.inr (.inr (.inr (.inr ⟨a, b, ys, e, ha, hb, nums_fv hb hf (by rw [hf.1]; omega), by rw [hf.1]⟩))))
  · rw [decide_eq_false q, Bool.false_and]
    exact .inr (.inr (.inr (.inl ⟨a, z, _, e, ha, q, rfl⟩)))
theorem JR.same {K : PySem.W.Frag} {C : Addr} {H H' : Hp} {v : V} {j : JD} (h : JR K C H v j) (s : Same H H') : JR K C H' v j := by
  match j, h with
  | none, h =>
    rcases h with ⟨T, o, hT⟩ | ⟨a, xs, e, ha, l⟩ | ⟨a, x, y, e, ha, f1⟩ | ⟨a, z, y, e, ha, n1, n2, so⟩ | ⟨a, z, y, e, ha, hz, ny⟩
    · exact .inl ⟨T, odd_same o s, hT⟩
    · exact .inr (.inl ⟨a, xs, e, s _ _ ha, l⟩)
    · exact .inr (.inr (.inl ⟨a, x, y, e, s _ _ ha, f1.same s⟩))
    · exact .inr (.inr (.inr (.inl ⟨a, z, y, e, s _ _ ha, n1, n2, so⟩)))
    · exact .inr (.inr (.inr (.inr ⟨a, z, y, e, s _ _ ha, hz, ny.same s⟩)))
  | some (z, ps), h =>
    obtain ⟨a, b, e, ha, hz, t⟩ := h
    exact ⟨a, b, e, s _ _ ha, hz, t.same s⟩
/-- the program's own judgement -/
def judge2 (pss : List (List PI)) (ts : List PI) (n : Nat) (z : Str) (ps : List PI) : Bool := if z = wSol then decide (ps.length = n) && decide (timesP pss ps = ts) else decide (ps.length = pss.length) && ((timesP (turnP pss n) ps).all (fun p => decide (p.2 = 1 ∧ p.1 = 0)) && decide ((dotP ts ps).2 = 1 ∧ (dotP ts ps).1 = 1))
def judgeP (pss : List (List PI)) (ts : List PI) (n : Nat) : JD → Bool
  | none => false
  | some (z, ps) => judge2 pss ts n z ps
theorem judge_sol {pss : List (List PI)} {ts : List PI} {n : Nat} {ps : List PI} : judgeP pss ts n (some (wSol, ps)) = (decide (ps.length = n) && decide (timesP pss ps = ts)) := by
  show judge2 pss ts n wSol ps = _
  unfold judge2
  rw [if_pos rfl]
theorem judge_none {pss : List (List PI)} {ts : List PI} {n : Nat} {ps : List PI} : judgeP pss ts n (some (wNone, ps)) = (decide (ps.length = pss.length) && ((timesP (turnP pss n) ps).all (fun p => decide (p.2 = 1 ∧ p.1 = 0)) && decide ((dotP ts ps).2 = 1 ∧ (dotP ts ps).1 = 1))) := by
  show judge2 pss ts n wNone ps = _
  unfold judge2
  rw [if_neg (show ¬ wNone = wSol by decide +kernel)]
theorem prsB_of {C : Addr} {H : Hp} {xs ys : List V} {ps qs : List PI} (h : FRs C H xs ps) (g : FVs C H ys qs) (l : ps.length = qs.length) : PrsB (DFrB C) xs ys (List.zipWith (fun p q => decide (p = q)) ps qs) H := by
  refine ⟨by rw [h.1, g.1, l], by rw [List.length_zipWith, h.1, l, Nat.min_self], fun i x y b hx hy hb => ?_⟩
  obtain ⟨p, hp, fx⟩ := h.2 i x hx
  obtain ⟨q, hq, fy⟩ := g.2 i y hy
  rw [List.getElem?_zipWith, hp, hq] at hb
  exact ⟨p, q, fx, fy, (Option.some.inj hb).symm⟩
theorem all_eq : ∀ {ps qs : List PI}, ps.length = qs.length → (List.zipWith (fun p q => decide (p = q)) ps qs).all id = decide (ps = qs)
  | [], [], _ => by simp
  | [], _ :: _, h => by simp at h
  | _ :: _, [], h => by simp at h
  | p :: ps, q :: qs, h => by
    have ih := all_eq (ps := ps) (qs := qs) (by simpa using h)
    show (decide (p = q) && (List.zipWith (fun p q => decide (p = q)) ps qs).all id) = _
    rw [ih]
    by_cases e : p = q
    · by_cases f : ps = qs
      · rw [decide_eq_true e, decide_eq_true f, decide_eq_true (by rw [e, f])]; rfl
      · rw [decide_eq_false f, decide_eq_false fun z => f (List.cons.inj z).2, Bool.and_false]
    · rw [decide_eq_false e, decide_eq_false fun z => e (List.cons.inj z).1, Bool.false_and]
section
variable {P : Program} {w : World} {K : PySem.W.Frag} {mg : Str → Option Value} {base : Heap} {C : Addr}
abbrev sIs : Stmt := top 26
abbrev NIs : List Str := ["rows", "totals", "value", "mix", "one"]
theorem scIs : FnScope NIs ["rows", "totals", "value"] (defScope sIs) := ⟨rfl, rfl, rfl, by decide +kernel, rfl, by decide +kernel, by decide +kernel⟩
def spIs (K : PySem.W.Frag) (C : Addr) : Sp := fun vs H Q _ => ∃ (a c : Addr) (v : V) (pss : List (List PI)) (n : Nat) (ts : List PI) (j : JD), vs = [.ref a, .ref c, v] ∧ TMx C H a pss ∧ Rs pss n ∧ Sm pss ∧ Tf C H c ts ∧ ts.length = pss.length ∧ JR K C H v j ∧ ∀ H', Same H H' → Q (.bl (judgeP pss ts n j)) H'
theorem ok_is {f : Addr} {fd : FuncData} (F : Fun K "is_solution" "is_solution" sIs f fd) (gC : Glo P w K mg base "_check_rows_and_totals" 6 ["rows", "totals"] (spCt C)) (gT : Glo P w K mg base "_is_told" 4 ["value", "word", "many"] (spTd K C)) (gTm : Glo P w K mg base "_times" 6 ["rows", "column"] (spTms C)) (gTu : Glo P w K mg base "_turned" 1 ["rows"] (spTrn C))
    (gR : Glo P w K mg base "_row_times" 7 ["row", "column"] (spRx C)) (mE : Met P w K mg base C "__eq__" 3 ["self", "other"] (FR.spEq K C)) (OD : OddsC K C) (mL : mg "len" = none) (mA : mg "all" = none) : FnOk P w K mg base CX0 8 f fd ["rows", "totals", "value"] (spIs K C) := by
  refine F.ok scIs (fun vs H Q E h => ?_) (fun cdv A outer s H vs Q E hr h => ?_)
  · obtain ⟨a, c, v, pss, n, ts, j, rfl, _⟩ := h
    rfl
  · obtain ⟨a, c, v, pss, n, ts, j, rfl, tm, R, Z, tt, tl_, jr, q⟩ := h
    have eqF : EqB ((cxOf CX0 P w K mg base NIs "is_solution" (defScope sIs) f cdv A outer s H E).nox) 3 (DFrB C) := eqB_fr (E := E) mE.D mE.G mE.b pass0 OD.int.n
    refine ⟨_, (pss_cons (ps_expr (pe_call gC.G (hr.mono (by decide)) (by rfl) gC.m gC.k gC.b .nil pass0 (pa_cons (pv 0) (pa_cons (pv 1) pa_nil))))
      (pss_cons (ps_if (pt_val (pe_call gT.G (hr.mono (by decide)) (by rfl) gT.m gT.k gT.b .nil pass0 (pa_cons (pv 2) (pa_cons pe_str (pa_cons (pe_callB call_len_seq (by rfl) mL PySem.boot_len (pa_cons (pe_ix ix_tup (pv 0) pe_int (fun _ _ => rfl)) pa_nil)) pa_nil))))) (pss_one (ps_ret (pe_cmpR (op_eqTW (mon_frb C) eqF (hr.mono (by decide))) (pe_call gTm.G (hr.mono (by decide)) (by rfl) gTm.m gTm.k gTm.b .nil pass0 (pa_cons (pv 0) (pa_cons (pe_ix ix_tup (pv 2) pe_int (fun _ _ => rfl)) pa_nil))) (pv 1) (nomark _)))) pss_nil)
      (pss_cons (ps_if (pt_not (pt_val (pe_call gT.G (hr.mono (by decide)) (by rfl) gT.m gT.k gT.b .nil pass0 (pa_cons (pv 2) (pa_cons pe_str (pa_cons (pe_callB call_len_seq (by rfl) mL PySem.boot_len (pa_cons (pv 0) pa_nil)) pa_nil)))))) (pss_one (ps_ret pe_bl)) pss_nil)
      (pss_cons (ps_set (i := 3) scIs.nd rfl (Or.inl rfl) (pe_call gTm.G (hr.mono (by decide)) (by rfl) gTm.m gTm.k gTm.b .nil pass0 (pa_cons (pe_call gTu.G (hr.mono (by decide)) (by rfl) gTu.m gTu.k gTu.b .nil pass0 (pa_cons (pv 0) pa_nil)) (pa_cons (pe_ix ix_tup (pv 2) pe_int (fun _ _ => rfl)) pa_nil))))
      (pss_one (ps_ret (pe_and (pe_callB (cr_all rfl) (by rfl) mA (by decide +kernel) (pa_cons (pe_lc (X := (cxOf CX0 P w K mg base NIs "is_solution" (defScope sIs) f cdv A outer s H E).nox) (own := [("one", 4)]) (g := (gName 4)) (tt := tYes) rfl scIs.nd (pi_tup (pv 3)) (blkOk_by (N := NIs) (sc := (defScope sIs)) (by decide +kernel)) (fun _ _ _ _ _ => (pg_name (i := 4) scIs.nd rfl (.inl rfl))) (fun _ _ _ _ _ => pts_nil) (fun _ _ _ _ _ => (pe_cmpR (op_eqLK (K := K) rfl mE.D mE.G (hr.mono (by decide)) mE.b pass0) (pv 4) pe_int (nomark _)))) pa_nil)) (pe_one (pe_cmpR (op_eqLK (K := K) rfl mE.D mE.G (hr.mono (by decide)) mE.b pass0) (pe_call gR.G hr (by rfl) gR.m gR.k gR.b .nil pass0 (pa_cons (pv 1) (pa_cons (pe_ix ix_tup (pv 2) pe_int (fun _ _ => rfl)) pa_nil))) pe_int (nomark _)))))))))), ?_⟩
    refine ⟨_, rfl, _, rfl, a, c, pss, n, ts, rfl, tm, R, tt, tl_, fun H1 s1 => ?_⟩
    obtain ⟨vs, haH, hvH⟩ := id tm
    have ha := s1 _ _ haH
    have vlen : vs.length = pss.length := hvH.1
    obtain ⟨q0, xs0, hq0, hx0, l0⟩ : ∃ q0 xs0, vs[0]? = some (.ref q0) ∧ H1 q0 = some (.tup xs0) ∧ xs0.length = n := by
      obtain ⟨v0, h0⟩ : ∃ v0, vs[0]? = some v0 := ⟨_, List.getElem?_eq_getElem (by rw [hvH.1]; exact R.ne)⟩
      obtain ⟨p0, hp0, q0, rfl, tf0⟩ := hvH.2 0 v0 h0
      obtain ⟨xs0, hx0, hf0⟩ := (tf0.same s1).at_
      exact ⟨q0, xs0, h0, hx0, by rw [hf0.1]; exact R.len p0 (List.mem_of_getElem? hp0)⟩
    refine ⟨_, rfl, _, rfl, a, _, 0, _, rfl, rfl, SqT.of ha, atI_nat (j := 0) hq0, ?_⟩
    refine ⟨q0, xs0, rfl, .inr (SqT.of hx0), ?_⟩
    rw [l0]
    have wne : ¬ wSol = wNone := by decide +kernel
    have wne2 : ¬ wNone = wSol := by decide +kernel
    match j, jr, q with
    | none, jr, q =>
      refine ⟨v, wSol, n, false, rfl, (jr.same s1).told0 (.inl rfl) n, fun H2 s2 => ⟨_, rfl, iteF ?_⟩⟩
      have s12 := s1.trans s2
      refine ⟨_, rfl, _, rfl, a, vs, rfl, .inr (SqT.of (s12 _ _ haH)), v, wNone, pss.length, false, by rw [vlen]; rfl, (jr.same s12).told0 (.inr rfl) _, fun H3 s3 => ⟨_, rfl, iteT ?_⟩⟩
      exact q H3 (s12.trans s3)
    | some (z, ps), jr, q =>
      refine ⟨v, wSol, n, _, rfl, (jr.same s1).told1 wSol n, fun H2 s2 => ?_⟩
      have s12 := s1.trans s2
      obtain ⟨va, b, ev, hva, hzw, tfb⟩ := id jr
      subst ev
      by_cases hz : z = wSol
      · subst hz
        by_cases hl : ps.length = n
        · rw [decide_eq_true rfl, decide_eq_true hl]
          refine ⟨_, rfl, iteT ?_⟩
          refine ⟨_, rfl, _, rfl, va, _, 1, _, rfl, rfl, SqT.of (s12 _ _ hva), atI_nat (j := 1) rfl, a, b, pss, ps, rfl, tm.same s12, tfb.same s12, R.few, fun x m => by rw [R.len x m, hl], fun t H3 htf s3 => ?_⟩
          have s13 := s12.trans s3
          obtain ⟨xs, hx, hf⟩ := htf
          obtain ⟨ys, hy, hg⟩ := (tt.same s13).at_
          have tl2 : (timesP pss ps).length = ts.length := by unfold timesP; rw [List.length_map, tl_]
          refine ⟨_, rfl, t, c, xs, ys, _, rfl, rfl, SqT.of hx, SqT.of hy, prsB_of hf hg tl2, fun H4 s4 => ?_⟩
          rw [all_eq tl2]
          have e : judgeP pss ts n (some (wSol, ps)) = decide (timesP pss ps = ts) := by
            rw [judge_sol, decide_eq_true hl, Bool.true_and]
          rw [← e]
          exact q H4 (s13.trans s4)
        · rw [decide_eq_false hl, Bool.and_false]
          refine ⟨_, rfl, iteF ?_⟩
          refine ⟨_, rfl, _, rfl, a, vs, rfl, .inr (SqT.of (s12 _ _ haH)), .ref va, wNone, pss.length, _, by rw [vlen]; rfl, (jr.same s12).told1 wNone pss.length, fun H3 s3 => ?_⟩
          rw [decide_eq_false wne, Bool.false_and]
          refine ⟨_, rfl, iteT ?_⟩
          have e : judgeP pss ts n (some (wSol, ps)) = false := by
            rw [judge_sol, decide_eq_false hl, Bool.false_and]
          rw [← e]
          exact q H3 (s12.trans s3)
      · have hzn : z = wNone := hzw.resolve_left hz
        subst hzn
        rw [decide_eq_false hz, Bool.false_and]
        refine ⟨_, rfl, iteF ?_⟩
        refine ⟨_, rfl, _, rfl, a, vs, rfl, .inr (SqT.of (s12 _ _ haH)), .ref va, wNone, pss.length, _, by rw [vlen]; rfl, (jr.same s12).told1 wNone pss.length, fun H3 s3 => ?_⟩
        have s13 := s12.trans s3
        by_cases hl : ps.length = pss.length
        · rw [decide_eq_true rfl, decide_eq_true hl]
          refine ⟨_, rfl, iteF ?_⟩
          refine ⟨_, rfl, a, pss, n, rfl, tm.same s13, R, Z, fun tu H4 tmu s4 => ?_⟩
          have s14 := s13.trans s4
          refine ⟨_, rfl, va, _, 1, _, rfl, rfl, SqT.of (s14 _ _ hva), atI_nat (j := 1) rfl, tu, b, turnP pss n, ps, rfl, tmu, tfb.same s14, by unfold turnP; rw [List.length_map, List.length_range]; have := R.n12; omega, fun x m => ?_, fun t H5 htf s5 => ?_⟩
          · unfold turnP at m
            obtain ⟨j, _, rfl⟩ := List.mem_map.mp m
            rw [List.length_map, hl]
          have s15 := s14.trans s5
          obtain ⟨xs, hx, hf⟩ := htf
          have xl : xs.length = n := by rw [hf.1]; unfold timesP turnP; rw [List.length_map, List.length_map, List.length_range]
          have n12 := R.n12
          refine ⟨_, rfl, t, rfl, ⟨_, SqT.of hx⟩, fun DD hD => ?_⟩
          let bs : List Bool := (timesP (turnP pss n) ps).map fun p => decide (p.2 = 1 ∧ p.1 = 0)
          refine lc_tup (xs := xs) (fun i Hc => Same H5 Hc ∧ Hc DD = some (.lst ((bs.take i).map V.bl))) ⟨same_new hD, upd_same⟩ (fun i Hc _ p => SqT.of (p.1 _ _ hx)) ?_ ?_
          · rintro i w0 Hc hi ⟨sm, hDc⟩
            obtain ⟨p, hp, x, rfl, dx, fx⟩ := hf.2 i w0 hi
            have fx := sm _ _ fx
            have il := (List.getElem?_eq_some_iff.mp hi).1
            have bi : bs[i]? = some (decide (p.2 = 1 ∧ p.1 = 0)) := by show ((timesP (turnP pss n) ps).map _)[i]? = _; rw [List.getElem?_map, hp]; rfl
            refine ⟨rfl, _, rfl, x, dx, _, _, rfl, fx, .base (.int 0), OD.int.n, x, .int 0, p.1, p.2, decide (p.2 = 1 ∧ p.1 = 0), rfl, ⟨dx, fx⟩, .inr (.inl ⟨0, rfl, rfl⟩), ?_⟩
            refine ⟨_, hDc, small1000 (by rw [List.length_map, List.length_take]; omega), same_upd hD sm, ?_⟩
            rw [take_snoc bi, List.map_append]
            exact upd_same
          rintro H6 ⟨s6, hD6⟩
          have bl : bs.length = xs.length := by show ((timesP (turnP pss n) ps).map _).length = _; rw [List.length_map, hf.1]
          rw [List.take_of_length_le (by omega)] at hD6
          refine ⟨DD, bs, rfl, SqL.of hD6, ?_⟩
          have s16 := s15.trans s6
          have eb : bs.all id = (timesP (turnP pss n) ps).all fun p => decide (p.2 = 1 ∧ p.1 = 0) := by
            show ((timesP (turnP pss n) ps).map _).all id = _
            rw [List.all_map]; rfl
          have ej : judgeP pss ts n (some (wNone, ps)) = (bs.all id && decide ((dotP ts ps).2 = 1 ∧ (dotP ts ps).1 = 1)) := by
            rw [judge_none, decide_eq_true hl, Bool.true_and, eb]
          refine ⟨_, rfl, ite2 (fun zt => ?_) (fun zf => ?_)⟩
          · refine ⟨_, rfl, _, rfl, va, _, 1, _, rfl, rfl, SqT.of (s16 _ _ hva), atI_nat (j := 1) rfl, c, b, ts, ps, rfl, tt.same s16, tfb.same s16, by rw [tl_, hl], fun y H7 fy s7 => ?_⟩
            obtain ⟨dy, fy⟩ := fy
            refine ⟨y, dy, _, _, rfl, fy, .base (.int 1), OD.int.n, y, .int 1, _, _, decide ((dotP ts ps).2 = 1 ∧ (dotP ts ps).1 = 1), rfl, ⟨dy, fy⟩, .inr (.inl ⟨1, rfl, rfl⟩), ?_⟩
            have e : judgeP pss ts n (some (wNone, ps)) = decide ((dotP ts ps).2 = 1 ∧ (dotP ts ps).1 = 1) := by rw [ej, zt, Bool.true_and]
            rw [← e]
            exact q H7 (s16.trans s7)
          · have e : judgeP pss ts n (some (wNone, ps)) = false := by rw [ej, Bool.eq_false_iff.mpr zf, Bool.false_and]
            have e2 : bs.all id = false := Bool.eq_false_iff.mpr zf
            first
              | (rw [e2, ← e]; exact q H6 s16)
              | (rw [← e]; exact q H6 s16)
        · rw [decide_eq_false hl, Bool.and_false]
          refine ⟨_, rfl, iteT ?_⟩
          have e : judgeP pss ts n (some (wNone, ps)) = false := by
            rw [judge_none, decide_eq_false hl, Bool.false_and]
          rw [← e]
          exact q H3 s13
end
end FR
set_option Elab.async false
set_option linter.all false
set_option maxRecDepth 100000
set_option maxHeartbeats 4000000
/-! the law's own judge -/
namespace FR
open PySem PySem.Spec PyProof.Rows L2 LD RF
theorem eqv_tup (p q : PI) : PyData.eqv (tupD p) (tupD q) = decide (p = q) := by
  have e : PyData.eqv (tupD p) (tupD q) = (decide (p.1 = q.1) && decide (p.2 = q.2)) := by
    simp [tupD, PyData.eqv, PyData.eqvAll]
    rfl
  rw [e]
  by_cases a : p.1 = q.1
  · by_cases b : p.2 = q.2
    · rw [decide_eq_true a, decide_eq_true b, decide_eq_true (Prod.ext a b)]; rfl
    · rw [decide_eq_false b, decide_eq_false fun z => b (congrArg Prod.snd z), Bool.and_false]
  · rw [decide_eq_false a, decide_eq_false fun z => a (congrArg Prod.fst z), Bool.false_and]
theorem eqv_pls : ∀ ps qs : List PI, PyData.eqvAll (ps.map tupD) (qs.map tupD) = decide (ps = qs)
  | [], [] => by simp [PyData.eqvAll]
  | [], _ :: _ => by simp [PyData.eqvAll]
  | _ :: _, [] => by simp [PyData.eqvAll]
  | p :: ps, q :: qs => by
    show PyData.eqvAll (tupD p :: ps.map tupD) (tupD q :: qs.map tupD) = _
    rw [PyData.eqvAll, eqv_tup, eqv_pls ps qs]
    by_cases a : p = q
    · by_cases b : ps = qs
      · rw [decide_eq_true a, decide_eq_true b, decide_eq_true (by rw [a, b])]; rfl
      · rw [decide_eq_false b, decide_eq_false fun z => b (List.cons.inj z).2, Bool.and_false]
    · rw [decide_eq_false a, decide_eq_false fun z => a (List.cons.inj z).1, Bool.false_and]
theorem eqv_pl (ps qs : List PI) : PyData.eqv (plD ps) (plD qs) = decide (ps = qs) := by
  show PyData.eqv (.list (ps.map tupD)) (.list (qs.map tupD)) = _
  rw [PyData.eqv, eqv_pls]
def judgeL2 (pss : List (List PI)) (ts : List PI) (n : Nat) (z : Str) (ps : List PI) : Bool := if z = wSol then decide (ps.length = n) && decide ((pss.map fun r => prodP r ps) = ts) else decide (ps.length = pss.length) && (decide (mixL pss ps n = List.replicate n (0, 1)) && decide (prodP ps ts = (1, 1)))
def judgeL (pss : List (List PI)) (ts : List PI) (n : Nat) : JD → Bool
  | none => false
  | some (z, ps) => judgeL2 pss ts n z ps
theorem judgeL_sol {pss : List (List PI)} {ts : List PI} {n : Nat} {ps : List PI} : judgeL pss ts n (some (wSol, ps)) = (decide (ps.length = n) && decide ((pss.map fun r => prodP r ps) = ts)) := by
  show judgeL2 pss ts n wSol ps = _
  unfold judgeL2
  rw [if_pos rfl]
theorem judgeL_none {pss : List (List PI)} {ts : List PI} {n : Nat} {ps : List PI} : judgeL pss ts n (some (wNone, ps)) = (decide (ps.length = pss.length) && (decide (mixL pss ps n = List.replicate n (0, 1)) && decide (prodP ps ts = (1, 1)))) := by
  show judgeL2 pss ts n wNone ps = _
  unfold judgeL2
  rw [if_neg (show ¬ wNone = wSol by decide +kernel)]
section
variable {P : Program} {w : World} {K : PySem.W.Frag} {mg : Str → Option Value} {base : Heap} {C fI pT gT0 pB gB0 : Addr} {fdI fdT fdB : FuncData}
abbrev sLn1 : Stmt := top 55
theorem scLn1 : FnScope ["_law_value"] ["_law_value"] (defScope sLn1) := ⟨rfl, rfl, rfl, by decide +kernel, rfl, by decide +kernel, by decide +kernel⟩
theorem ok_ln1 {f : Addr} {fd : FuncData} (F : Fun K "_law_is_number" "_law_is_number" sLn1 f fd) (k : FrK P w K mg base C fI pT gT0 pB gB0 fdI fdT fdB) (o : OddsC K C) (mI : mg "isinstance" = none) (m_int : mg "int" = none) (m_bool : mg "bool" = none) : FnOk P w K mg base CX0 1 f fd ["_law_value"] (spIsF K C) := by
  refine F.ok scLn1 (fun vs H Q E h => ?_) (fun cdv A outer s H vs Q E hr h => ?_)
  · obtain ⟨v, r, rfl, _⟩ := h
    rfl
  · obtain ⟨v, r, rfl, hv, q⟩ := h
    refine ⟨_, (pss_cons (ps_if (pt_val (pe_callB call_isi (by rfl) mI PyProof.Rows.boot_isinstance (pa_cons (pv 0) (pa_cons (pe_glob (v := .ref C) (by rfl) k.T.mC rfl) pa_nil)))) (pss_one (ps_ret pe_bl)) pss_nil)
      (pss_one (ps_ret (pe_and (pe_callB call_isi (by rfl) mI PyProof.Rows.boot_isinstance (pa_cons (pv 0) (pa_cons (pe_bltn (v := .ty "int") (by rfl) m_int (by decide +kernel) rfl) pa_nil))) (pe_one (pe_not (pe_callB call_isi (by rfl) mI PyProof.Rows.boot_isinstance (pa_cons (pv 0) (pa_cons (pe_bltn (v := .ty "bool") (by rfl) m_bool (by decide +kernel) rfl) pa_nil))))))))), ?_⟩
    rcases hv with ⟨p, t, b, rfl, ⟨dx, hp⟩, rfl⟩ | ⟨i, rfl, rfl⟩ | ⟨T, od, hT, rfl⟩
    · exact ⟨_, rfl, _, _, _, _, true, rfl, .own _, .base (.ins hp k.T.cl k.ha k.hn k.tk k.hm), kit_self K C, _, rfl, iteT q⟩
    · exact ⟨_, rfl, _, _, _, _, false, rfl, .own _, .base (.int i), o.int.k, _, rfl, iteF ⟨_, rfl, _, _, _, _, true, rfl, .ty _, .base (.int i), kI1, _, rfl, _, rfl, _, _, _, _, false, rfl, .ty _, .base (.int i), kI2, _, rfl, q⟩⟩
    · obtain ⟨b1, b2, e1, e2, e3⟩ := odd_plain (K := K) od hT
      refine ⟨_, rfl, _, _, _, _, false, rfl, .own _, od.ty, (o.of od).k, _, rfl, iteF ?_⟩
      refine ⟨_, rfl, _, _, _, _, b1, rfl, .ty _, od.ty, e1, _, rfl, ?_⟩
      cases b1 with
      | false => exact q
      | true =>
        have : b2 = true := by cases b2 with
          | true => rfl
          | false => cases e3
        subst this
        exact ⟨_, rfl, _, _, _, _, true, rfl, .ty _, od.ty, e2, _, rfl, q⟩
abbrev sAn : Stmt := top 54
abbrev NAn : List Str := ["_law_value", "_law_size", "_law_one"]
theorem scAn : FnScope NAn ["_law_value", "_law_size"] (defScope sAn) := ⟨rfl, rfl, rfl, by decide +kernel, rfl, by decide +kernel, by decide +kernel⟩
def spAn (K : PySem.W.Frag) (C : Addr) : Sp := fun vs H Q _ => ∃ v m r, vs = [v, .int (m : Nat)] ∧ ((NumsR K C H v false ∧ r = false) ∨ (∃ (b : Addr) (ys : List V), v = .ref b ∧ H b = some (.tup ys) ∧ NumsR K C H (.ref b) true ∧ r = decide (ys.length = m))) ∧ ∀ H', Same H H' → Q (.bl r) H'
theorem ok_an {f : Addr} {fd : FuncData} (F : Fun K "_law_are_numbers" "_law_are_numbers" sAn f fd) (gN : Glo P w K mg base "_law_is_number" 1 ["_law_value"] (spIsF K C)) (mI : mg "isinstance" = none) (m_tuple : mg "tuple" = none) (mL : mg "len" = none) : FnOk P w K mg base CX0 2 f fd ["_law_value", "_law_size"] (spAn K C) := by
  refine F.ok scAn (fun vs H Q E h => ?_) (fun cdv A outer s H vs Q E hr h => ?_)
  · obtain ⟨v, m, r, rfl, _⟩ := h
    rfl
  · obtain ⟨v, m, r, rfl, hv, q⟩ := h
    refine ⟨_, (pss_cons (ps_if (PW.pt (pw_or (pt_not (pt_val (pe_callB call_isi (by rfl) mI PyProof.Rows.boot_isinstance (pa_cons (pv 0) (pa_cons (pe_bltn (v := .ty "tuple") (by rfl) m_tuple (by decide +kernel) rfl) pa_nil))))) (pw_or1 (pt_cmpR op_ne (pe_callB call_len_seq (by rfl) mL PySem.boot_len (pa_cons (pv 0) pa_nil)) (pv 1) (nomark _))))) (pss_one (ps_ret pe_bl)) pss_nil)
      (pss_one (ps_ret (pe_cmpR (op_eqD hr.units) (pe_lc (X := (cxOf CX0 P w K mg base NAn "_law_are_numbers" (defScope sAn) f cdv A outer s H E).nox) (own := [("_law_one", 2)]) (g := (gName 2)) rfl scAn.nd (pi_tup (pv 0)) (blkOk_by (N := NAn) (sc := (defScope sAn)) (by decide +kernel)) (fun _ _ _ _ _ => (pg_name (i := 2) scAn.nd rfl (.inl rfl))) (fun _ _ _ _ _ => (pts_one (pt_not (pt_val (pe_call gN.G hr (by rfl) gN.m gN.k gN.b .nil pass0 (pa_cons (pv 2) pa_nil)))))) (fun _ _ _ _ _ => pe_int)) (pe_lst pa_nil) (nomark _))))), ?_⟩
    have hv' : (∃ T, Odd K H v T ∧ T ≠ "tuple" ∧ r = false) ∨ (∃ (b : Addr) (ys : List V) (rs : List Bool), v = .ref b ∧ H b = some (.tup ys) ∧ ys.length ≤ 90 ∧ ys.length = rs.length ∧ (∀ (i : Nat) z, ys[i]? = some z → ∃ q, rs[i]? = some q ∧ IsFr K C H z q) ∧ (decide (ys.length = m) && rs.all id) = r) := by
      rcases hv with ⟨hn, er⟩ | ⟨b, ys, e, hb, hn, er⟩
      · rcases hn with ⟨T, o, hT, _⟩ | ⟨b, ys, rs, e, hb, l9, l, z, ea⟩
        · exact .inl ⟨T, o, hT, er⟩
        · exact .inr ⟨b, ys, rs, e, hb, l9, l, z, by rw [← ea, Bool.and_false, er]⟩
      · rcases hn with ⟨T, o, hT, ea⟩ | ⟨b', ys', rs, e', hb', l9, l, z, ea⟩
        · cases ea
        · cases e'
          rw [hb] at hb'
          injection hb' with hb'
          injection hb' with hb'
          subst hb'
          exact .inr ⟨b, ys, rs, e, hb, l9, l, z, by rw [← ea, Bool.and_true, er]⟩
    rcases hv' with ⟨T, o, hT, er⟩ | ⟨b, ys, rs, e, hb, l9, l, z, er⟩
    · subst er
      exact ⟨_, rfl, _, _, _, _, false, rfl, .ty _, o.ty, odd_tup o hT, _, rfl, iteT (q H (Same.refl H))⟩
    · clear hv
      subst e
      refine ⟨_, rfl, _, _, _, _, true, rfl, .ty _, .base (.tup hb), kit_ty (by decide +kernel), _, rfl, iteF ?_⟩
      refine ⟨_, rfl, b, ys, rfl, .inr (SqT.of hb), _, rfl, rfl, _, rfl, ?_⟩
      rw [int_dec]
      by_cases hm : ys.length = m
      · rw [decide_eq_true hm] at er ⊢
        refine iteF ?_
        refine ⟨_, rfl, b, rfl, ⟨_, SqT.of hb⟩, fun D hD => ?_⟩
        refine lc_tup (xs := ys) (fun i Hc => Same H Hc ∧ ∃ k : Nat, k ≤ i ∧ Hc D = some (.lst (List.replicate k (V.int 1))) ∧ decide (k = 0) = (rs.take i).all id) ⟨same_new hD, 0, Nat.le_refl _, upd_same, rfl⟩ (fun i Hc _ p => SqT.of (p.1 _ _ hb)) ?_ ?_
        · rintro i x Hc hi ⟨sm, c, hc, hDc, ec⟩
          obtain ⟨q1, hq1, isf⟩ := z i x hi
          have il := (List.getElem?_eq_some_iff.mp hi).1
          have ea : (rs.take (i + 1)).all id = ((rs.take i).all id && q1) := by rw [take_snoc hq1, List.all_append]; simp
          refine ⟨rfl, _, rfl, x, q1, rfl, isf.same sm, _, rfl, ?_⟩
          cases q1 with
          | true =>
            refine ⟨sm, c, by omega, hDc, ?_⟩
            rw [ea, ec, Bool.and_true]
          | false =>
            refine ⟨_, hDc, small1000 (by rw [List.length_replicate]; omega), same_upd hD sm, c + 1, by omega, ?_, ?_⟩
            · rw [List.replicate_succ']
              exact upd_same
            · rw [ea, Bool.and_false]
              exact decide_eq_false (by omega)
        · rintro Hc ⟨sm, c, hc, hDc, ec⟩
          rw [List.take_of_length_le (by omega)] at ec
          refine ⟨Nat.zero_le _, fun l hl => ?_⟩
          have s1 : Same Hc (upd Hc l (.lst [])) := same_new hl
          have dA : ∀ k, DpAll K (upd Hc l (.lst [])) (List.replicate k (V.int 1)) (List.replicate k (.int 1)) := fun k => by
            induction k with
            | zero => exact .nil
            | succ k ih => rw [List.replicate_succ, List.replicate_succ]; exact .cons (.int 1) ih
          have sh : SeqAt.shaped (.list (List.replicate c (.int 1))) = true := by
            have a1 : ∀ k, PyData.canLayAll0 (List.replicate k (.int 1)) = true := fun k => by
              induction k with
              | zero => rfl
              | succ k ih => rw [List.replicate_succ]; simp [PyData.canLayAll0, PyData.canLay0, ih]
            have a2 : ∀ k, PyData.depthAll (List.replicate k (.int 1)) ≤ 1 := fun k => by
              induction k with
              | zero => exact Nat.zero_le _
              | succ k ih => rw [List.replicate_succ]; simp only [PyData.depthAll, PyData.depth]; omega
            show ((PyData.list (List.replicate c (.int 1))).canLay0 && decide ((PyData.list (List.replicate c (.int 1))).depth ≤ 64)) = true
            rw [Bool.and_eq_true]
            refine ⟨by simp only [PyData.canLay0]; exact a1 c, decide_eq_true ?_⟩
            have := a2 c
            simp only [PyData.depth]
            omega
          refine ⟨.list (List.replicate c (.int 1)), .list [], Dp.lst (SqL.of (s1 _ _ hDc)) (dA c), Dp.lst (SqL.of upd_same) .nil, sh, rfl, ?_⟩
          have ee : PyData.eqv (.list (List.replicate c (.int 1))) (.list []) = decide (c = 0) := by
            cases c with
            | zero => simp [PyData.eqv, PyData.eqvAll]
            | succ c => rw [List.replicate_succ]; simp [PyData.eqv, PyData.eqvAll]
          rw [ee, ec]
          have : rs.all id = r := by rw [← er, Bool.true_and]
          rw [this]
          exact q _ (sm.trans s1)
      · rw [decide_eq_false hm] at er ⊢
        rw [← er, Bool.false_and] at q
        exact iteT (q H (Same.refl H))
end
end FR
set_option Elab.async false
set_option linter.all false
set_option maxRecDepth 100000
set_option maxHeartbeats 4000000
set_option pp.maxSteps 300
/-! _law_is_solution -/
namespace FR
open PySem PySem.Spec PyProof.Rows L2 LD RF
theorem rep_dp {K : PySem.W.Frag} {H : Hp} {t : Addr} {p : PI} (h : TA H t p) (n : Nat) : DpAll K H (List.replicate n (V.ref t)) ((List.replicate n p).map tupD) := by
  induction n with
  | zero => exact .nil
  | succ n ih =>
    rw [List.replicate_succ, List.replicate_succ]
    exact .cons (.tup (SqT.of h) (.cons (.int _) (.cons (.int _) .nil))) ih
section
variable {P : Program} {w : World} {K : PySem.W.Frag} {mg : Str → Option Value} {base : Heap} {C : Addr}
abbrev sLi : Stmt := top 57
abbrev NLi : List Str := ["_law_lines_here", "_law_totals", "_law_value", "_law_some", "_law_line"]
theorem scLi : FnScope NLi ["_law_lines_here", "_law_totals", "_law_value"] (defScope sLi) := ⟨rfl, rfl, rfl, by decide +kernel, rfl, by decide +kernel, by decide +kernel⟩
def spLi (K : PySem.W.Frag) (C : Addr) : Sp := fun vs H Q _ => ∃ (a c : Addr) (v : V) (pss : List (List PI)) (n : Nat) (ts : List PI) (j : JD) (s1 s2 s3 : Nat), vs = [.ref a, .ref c, v] ∧ LL H a pss ∧ PL H c ts ∧ 0 < pss.length ∧ pss.length ≤ 13 ∧ n ≤ 13 ∧ (∀ ps ∈ pss, ps.length = n ∧ Cd s1 ps) ∧ (∀ k, k < n → Cd s1 (pss.map fun ps => ps.getD k (0, 1))) ∧
  ts.length = pss.length ∧ Cd s2 ts ∧ JR K C H v j ∧ (∀ z ps, j = some (z, ps) → Cd s3 ps) ∧ s1 + s3 ≤ 3980 ∧ s2 + s3 ≤ 3980 ∧ ∀ H', Same H H' → Q (.bl (judgeL pss ts n j)) H'
theorem ok_li {f : Addr} {fd : FuncData} (F : Fun K "_law_is_solution" "_law_is_solution" sLi f fd) (gAn : Glo P w K mg base "_law_are_numbers" 2 ["_law_value", "_law_size"] (spAn K C)) (gPs : Glo P w K mg base "_law_pairs" 4 ["_law_row"] (spPs C)) (gPd : Glo P w K mg base "_law_product" 4 ["_law_row", "_law_column"] spPd)
    (gMx : Glo P w K mg base "_law_mix" 5 ["_law_lines_here", "_law_factors"] spMx) (mI : mg "isinstance" = none) (m_tuple : mg "tuple" = none) (mL : mg "len" = none) : FnOk P w K mg base CX0 6 f fd ["_law_lines_here", "_law_totals", "_law_value"] (spLi K C) := by
  refine F.ok scLi (fun vs H Q E h => ?_) (fun cdv A outer s H vs Q E hr h => ?_)
  · obtain ⟨a, c, v, pss, n, ts, j, s1, s2, s3, rfl, _⟩ := h
    rfl
  · obtain ⟨a, c, v, pss, n, ts, j, sz1, sz2, sz3, rfl, hl, ht, pos, l13, n13, hrow, hcol, tl_, cdt, jr, cdj, zz1, zz2, q⟩ := h
    have hu65 : (A.deeper (envOfC "_law_is_solution" (defScope sLi) s.heap.objs.size f cdv)).units + 65 < cLine := by
      have := hr.mono (j := 1) (by decide)
      have := this.in1.units
      exact this
    refine ⟨_, (pss_cons (ps_if (PW.pt (pw_or (pt_not (pt_val (pe_callB call_isi (by rfl) mI PyProof.Rows.boot_isinstance (pa_cons (pv 2) (pa_cons (pe_bltn (v := .ty "tuple") (by rfl) m_tuple (by decide +kernel) rfl) pa_nil))))) (pw_or (pt_cmpR op_ne (pe_callB call_len_seq (by rfl) mL PySem.boot_len (pa_cons (pv 2) pa_nil)) pe_int (nomark _)) (pw_or1 (pt_cmpR (op_notInF hu65) (pe_ix ix_tup (pv 2) pe_int (fun _ _ => rfl)) (pe_tup (pa_cons pe_str (pa_cons pe_str pa_nil))) (by rfl)))))) (pss_one (ps_ret pe_bl)) pss_nil)
      (pss_cons (ps_if (pt_not (pt_val (pe_call gAn.G (hr.mono (by decide)) (by rfl) gAn.m gAn.k gAn.b .nil pass0 (pa_cons (pe_ix ix_tup (pv 2) pe_int (fun _ _ => rfl)) (pa_cons (pe_ifExp (pt_cmpR op_eq (pe_ix ix_tup (pv 2) pe_int (fun _ _ => rfl)) pe_str (nomark _)) (pe_callB call_len_seq (by rfl) mL PySem.boot_len (pa_cons (pe_ix ix_list (pv 0) pe_int (fun _ _ => rfl)) pa_nil)) (pe_callB call_len_seq (by rfl) mL PySem.boot_len (pa_cons (pv 0) pa_nil))) pa_nil))))) (pss_one (ps_ret pe_bl)) pss_nil)
      (pss_cons (ps_set (i := 3) scLi.nd rfl (Or.inr rfl) (pe_call gPs.G (hr.mono (by decide)) (by rfl) gPs.m gPs.k gPs.b .nil pass0 (pa_cons (pe_ix ix_tup (pv 2) pe_int (fun _ _ => rfl)) pa_nil)))
      (pss_cons (ps_if (pt_cmpR op_eq (pe_ix ix_tup (pv 2) pe_int (fun _ _ => rfl)) pe_str (nomark _)) (pss_one (ps_ret (pe_cmpR (op_eqD hr.units) (pe_lc (X := (cxOf CX0 P w K mg base NLi "_law_is_solution" (defScope sLi) f cdv A outer s H E).nox) (own := [("_law_line", 4)]) (g := (gName 4)) (tt := tYes) rfl scLi.nd (pi_list (pv 0)) (blkOk_by (N := NLi) (sc := (defScope sLi)) (by decide +kernel)) (fun _ _ _ _ _ => (pg_name (i := 4) scLi.nd rfl (.inl rfl))) (fun _ _ _ _ _ => pts_nil) (fun _ _ _ _ _ => (pe_call gPd.G (hr.mono (by decide)) (by rfl) gPd.m gPd.k gPd.b .nil pass0 (pa_cons (pv 4) (pa_cons (pv 3) pa_nil))))) (pv 1) (nomark _)))) pss_nil)
      (pss_one (ps_ret (pe_and (pe_cmpR (op_eqD hr.units) (pe_call gMx.G hr (by rfl) gMx.m gMx.k gMx.b .nil pass0 (pa_cons (pv 0) (pa_cons (pv 3) pa_nil))) (pe_op op_rep (pe_lst (pa_cons (pe_tup (pa_cons pe_int (pa_cons pe_int pa_nil))) pa_nil)) (pe_callB call_len_seq (by rfl) mL PySem.boot_len (pa_cons (pe_ix ix_list (pv 0) pe_int (fun _ _ => rfl)) pa_nil))) (nomark _)) (pe_one (pe_cmpR (op_eqD hr.units) (pe_call gPd.G (hr.mono (by decide)) (by rfl) gPd.m gPd.k gPd.b .nil pass0 (pa_cons (pv 3) (pa_cons (pv 1) pa_nil))) (pe_tup (pa_cons pe_int (pa_cons pe_int pa_nil))) (nomark _)))))))))), ?_⟩
    have r0 := Same.refl H
    obtain ⟨lvs, hla, hlv⟩ := id hl
    obtain ⟨q0, us0, hq0, hx0, l0⟩ : ∃ q0 us0, lvs[0]? = some (.ref q0) ∧ H q0 = some (.lst us0) ∧ us0.length = n := by
      obtain ⟨v0, h0⟩ : ∃ v0, lvs[0]? = some v0 := ⟨_, List.getElem?_eq_getElem (by rw [hlv.1]; exact pos)⟩
      obtain ⟨p0, hp0, q0, rfl, us0, e0, f0⟩ := hlv.2 0 v0 h0
      exact ⟨q0, us0, h0, e0, by rw [f0.1]; exact (hrow p0 (List.mem_of_getElem? hp0)).1⟩
    have cmpS : decide (V.str wSol = V.str (Str.ofString "solution")) = true := decide_eq_true rfl
    have cmpN : decide (V.str wNone = V.str (Str.ofString "solution")) = false := decide_eq_false fun e => (show ¬ wNone = wSol by decide +kernel) (by injection e)
    have wne : ¬ wSol = wNone := by decide +kernel
    have wne2 : ¬ wNone = wSol := by decide +kernel
    have ok1 : PyData.strOk wSol = true := by decide +kernel
    have ok2 : PyData.strOk wNone = true := by decide +kernel
    match j, jr, cdj, q with
    | none, jr, cdj, q =>
      rcases jr with ⟨T, o, hT⟩ | ⟨a', xs, e, ha', l⟩ | ⟨a', x, y, e, ha', f1⟩ | ⟨a', z, y, e, ha', n1, n2, so⟩ | ⟨a', z, y, e, ha', hz, ny⟩
      · exact ⟨_, rfl, _, _, _, _, false, rfl, .ty _, o.ty, odd_tup o hT, _, rfl, iteT (q H r0)⟩
      · subst e
        refine ⟨_, rfl, _, _, _, _, true, rfl, .ty _, .base (.tup ha'), kit_ty (by decide +kernel), _, rfl, iteF ?_⟩
        refine ⟨_, rfl, a', xs, rfl, .inr (SqT.of ha'), rfl, _, rfl, ?_⟩
        have e2 : (!decide (V.int (xs.length : Nat) = V.int (2 : Nat))) = true := by rw [int_dec, decide_eq_false l]; rfl
        have e3 : (!decide (V.int (xs.length : Nat) = V.int 2)) = true := e2
        rw [e3]
        exact iteT (q H r0)
      · subst e
        refine ⟨_, rfl, _, _, _, _, true, rfl, .ty _, .base (.tup ha'), kit_ty (by decide +kernel), _, rfl, iteF ?_⟩
        refine ⟨_, rfl, a', _, rfl, .inr (SqT.of ha'), rfl, _, rfl, iteF ?_⟩
        refine ⟨_, rfl, a', _, 0, _, rfl, rfl, SqT.of ha', atI_nat (j := 0) rfl, small1000 (by decide), fun b hb => ?_⟩
        have sm : Same H (upd H b (.tup [.str (Str.ofString "solution"), .str (Str.ofString "none")])) := same_new hb
        exact ⟨b, _, _, rfl, SqT.of upd_same, ok1, ok2, .inl ⟨f1.same sm, _, rfl, iteT (q _ sm)⟩⟩
      · subst e
        refine ⟨_, rfl, _, _, _, _, true, rfl, .ty _, .base (.tup ha'), kit_ty (by decide +kernel), _, rfl, iteF ?_⟩
        refine ⟨_, rfl, a', _, rfl, .inr (SqT.of ha'), rfl, _, rfl, iteF ?_⟩
        refine ⟨_, rfl, a', _, 0, _, rfl, rfl, SqT.of ha', atI_nat (j := 0) rfl, small1000 (by decide), fun b hb => ?_⟩
        have sm : Same H (upd H b (.tup [.str (Str.ofString "solution"), .str (Str.ofString "none")])) := same_new hb
        refine ⟨b, wSol, wNone, rfl, SqT.of upd_same, ok1, ok2, .inr ⟨z, rfl, so, _, rfl, ?_⟩⟩
        have e2 : (!(decide (wSol = z) || decide (wNone = z))) = true := by rw [decide_eq_false fun e => n1 e.symm, decide_eq_false fun e => n2 e.symm]; rfl
        rw [e2]
        exact iteT (q _ sm)
      · subst e
        refine ⟨_, rfl, _, _, _, _, true, rfl, .ty _, .base (.tup ha'), kit_ty (by decide +kernel), _, rfl, iteF ?_⟩
        refine ⟨_, rfl, a', _, rfl, .inr (SqT.of ha'), rfl, _, rfl, iteF ?_⟩
        refine ⟨_, rfl, a', _, 0, _, rfl, rfl, SqT.of ha', atI_nat (j := 0) rfl, small1000 (by decide), fun b hb => ?_⟩
        have sm : Same H (upd H b (.tup [.str (Str.ofString "solution"), .str (Str.ofString "none")])) := same_new hb
        rcases hz with hz | hz
        · subst hz
          refine ⟨b, wSol, wNone, rfl, SqT.of upd_same, ok1, ok2, .inr ⟨wSol, rfl, ok1, _, rfl, ?_⟩⟩
          have e2 : (!(decide (wSol = wSol) || decide (wNone = wSol))) = false := by rw [decide_eq_true rfl]; rfl
          rw [e2]
          refine iteF ?_
          generalize upd H b _ = H1 at sm ⊢
          refine ⟨_, rfl, a', _, 1, _, rfl, rfl, SqT.of (sm _ _ ha'), atI_nat (j := 1) rfl, ?_⟩
          refine ⟨_, rfl, a', _, 0, _, rfl, rfl, SqT.of (sm _ _ ha'), atI_nat (j := 0) rfl, rfl, _, rfl, ?_⟩
          rw [cmpS]
          refine iteT ?_
          refine ⟨_, rfl, a, lvs, 0, _, rfl, rfl, SqL.of (sm _ _ hla), atI_nat (j := 0) hq0, q0, us0, rfl, .inl (SqL.of (sm _ _ hx0)), ?_⟩
          rw [l0]
          refine ⟨y, n, false, rfl, .inl ⟨ny.same sm, rfl⟩, fun H' s' => ⟨_, rfl, iteT (q H' (sm.trans s'))⟩⟩
        · subst hz
          refine ⟨b, wSol, wNone, rfl, SqT.of upd_same, ok1, ok2, .inr ⟨wNone, rfl, ok2, _, rfl, ?_⟩⟩
          have e2 : (!(decide (wSol = wNone) || decide (wNone = wNone))) = false := by rw [decide_eq_true (rfl : wNone = wNone), Bool.or_true]; rfl
          rw [e2]
          refine iteF ?_
          generalize upd H b _ = H1 at sm ⊢
          refine ⟨_, rfl, a', _, 1, _, rfl, rfl, SqT.of (sm _ _ ha'), atI_nat (j := 1) rfl, ?_⟩
          refine ⟨_, rfl, a', _, 0, _, rfl, rfl, SqT.of (sm _ _ ha'), atI_nat (j := 0) rfl, rfl, _, rfl, ?_⟩
          rw [cmpN]
          refine iteF ?_
          refine ⟨_, rfl, a, lvs, rfl, .inl (SqL.of (sm _ _ hla)), ?_⟩
          rw [hlv.1]
          refine ⟨y, pss.length, false, rfl, .inl ⟨ny.same sm, rfl⟩, fun H' s' => ⟨_, rfl, iteT (q H' (sm.trans s'))⟩⟩
    | some (z, ps), jr, cdj, q =>
      obtain ⟨a', c', e, ha', hz, tfb⟩ := jr
      subst e
      obtain ⟨ys, hy, hf⟩ := tfb.at_
      have nm := nums_fv (K := K) hy hf (by rw [hf.1]; have := tfb.few; omega)
      refine ⟨_, rfl, _, _, _, _, true, rfl, .ty _, .base (.tup ha'), kit_ty (by decide +kernel), _, rfl, iteF ?_⟩
      refine ⟨_, rfl, a', _, rfl, .inr (SqT.of ha'), rfl, _, rfl, iteF ?_⟩
      refine ⟨_, rfl, a', _, 0, _, rfl, rfl, SqT.of ha', atI_nat (j := 0) rfl, small1000 (by decide), fun b hb => ?_⟩
      have sm : Same H (upd H b (.tup [.str (Str.ofString "solution"), .str (Str.ofString "none")])) := same_new hb
      rcases hz with hz | hz
      · subst hz
        refine ⟨b, wSol, wNone, rfl, SqT.of upd_same, ok1, ok2, .inr ⟨wSol, rfl, ok1, _, rfl, ?_⟩⟩
        have e2 : (!(decide (wSol = wSol) || decide (wNone = wSol))) = false := by rw [decide_eq_true rfl]; rfl
        rw [e2]
        refine iteF ?_
        generalize upd H b _ = H1 at sm ⊢
        refine ⟨_, rfl, a', _, 1, _, rfl, rfl, SqT.of (sm _ _ ha'), atI_nat (j := 1) rfl, ?_⟩
        refine ⟨_, rfl, a', _, 0, _, rfl, rfl, SqT.of (sm _ _ ha'), atI_nat (j := 0) rfl, rfl, _, rfl, ?_⟩
        rw [cmpS]
        refine iteT ?_
        refine ⟨_, rfl, a, lvs, 0, _, rfl, rfl, SqL.of (sm _ _ hla), atI_nat (j := 0) hq0, q0, us0, rfl, .inl (SqL.of (sm _ _ hx0)), ?_⟩
        rw [l0]
        refine ⟨.ref c', n, _, rfl, .inr ⟨c', ys, rfl, sm _ _ hy, nm.same sm, rfl⟩, fun H2 s2 => ⟨_, rfl, ?_⟩⟩
        have yl : ys.length = ps.length := hf.1
        by_cases hln : ps.length = n
        · rw [decide_eq_true (yl.trans hln)]
          refine iteF ?_
          have s12 := sm.trans s2
          refine ⟨_, rfl, a', _, 1, _, rfl, rfl, SqT.of (s12 _ _ ha'), atI_nat (j := 1) rfl, c', ps, rfl, ⟨ys, s12 _ _ hy, hf.same s12⟩, by omega, fun l H3 pl s3 hl0 => ?_⟩
          have s13 := s12.trans s3
          refine ⟨_, rfl, a', _, 0, _, rfl, rfl, SqT.of (s13 _ _ ha'), atI_nat (j := 0) rfl, rfl, _, rfl, ?_⟩
          rw [cmpS]
          refine iteT ?_
          refine ⟨_, rfl, a, rfl, ⟨_, SqL.of (s13 _ _ hla)⟩, fun D hD => ?_⟩
          refine lc_list (xs := lvs) (fun j Hx => Same H3 Hx ∧ ∃ ws, Hx D = some (.lst ws) ∧ TPs Hx ws ((pss.map fun r => prodP r ps).take j)) ⟨same_new hD, [], upd_same, A2.nil⟩ (fun j Hx _ p => SqL.of ((s13.trans p.1) _ _ hla)) ?_ ?_
          · rintro j v Hx hvj ⟨s4, ws, hD3, hw⟩
            obtain ⟨qs, hqs, q1, rfl, pq⟩ := hlv.2 j v hvj
            have mq := List.mem_of_getElem? hqs
            have jl := (List.getElem?_eq_some_iff.mp hqs).1
            refine ⟨rfl, _, rfl, _, rfl, q1, l, qs, ps, sz1, sz3, rfl, pq.same (s13.trans s4), pl.same s4, by rw [(hrow qs mq).1, hln], by rw [(hrow qs mq).1]; exact n13, (hrow qs mq).2, cdj _ _ rfl, zz1, fun x H5 tx s5 => ?_⟩
            have e := s5 _ _ hD3
            refine ⟨ws, e, small1000 (by rw [hw.1, List.length_take]; omega), same_upd hD (s4.trans s5), ws ++ [.ref x], upd_same, ?_⟩
            rw [take_snoc (x := prodP qs ps) (by rw [List.getElem?_map, hqs]; rfl)]
            exact A2.snoc ((hw.same s5).updl e) ⟨x, rfl, tup_updl tx e⟩
          · rintro Hx ⟨s4, ws, hD3, hw⟩
            rw [List.take_of_length_le (by rw [List.length_map, hlv.1]; exact Nat.le_refl _)] at hw
            have pl4 : PL Hx D (pss.map fun r => prodP r ps) := ⟨ws, hD3, hw⟩
            have s14 := s13.trans s4
            refine ⟨_, rfl, plD _, plD _, pl4.dp, (ht.same s14).dp, plD_shaped _, plD_shaped _, ?_⟩
            rw [eqv_pl]
            have e : judgeL pss ts n (some (wSol, ps)) = decide ((pss.map fun r => prodP r ps) = ts) := by
              rw [judgeL_sol, decide_eq_true hln, Bool.true_and]
            rw [← e]
            exact q Hx s14
        · rw [decide_eq_false fun e => hln (yl.symm.trans e)]
          have e : judgeL pss ts n (some (wSol, ps)) = false := by rw [judgeL_sol, decide_eq_false hln, Bool.false_and]
          rw [e] at q
          exact iteT (q H2 (sm.trans s2))
      · subst hz
        refine ⟨b, wSol, wNone, rfl, SqT.of upd_same, ok1, ok2, .inr ⟨wNone, rfl, ok2, _, rfl, ?_⟩⟩
        have e2 : (!(decide (wSol = wNone) || decide (wNone = wNone))) = false := by rw [decide_eq_true (rfl : wNone = wNone), Bool.or_true]; rfl
        rw [e2]
        refine iteF ?_
        generalize upd H b _ = H1 at sm ⊢
        refine ⟨_, rfl, a', _, 1, _, rfl, rfl, SqT.of (sm _ _ ha'), atI_nat (j := 1) rfl, ?_⟩
        refine ⟨_, rfl, a', _, 0, _, rfl, rfl, SqT.of (sm _ _ ha'), atI_nat (j := 0) rfl, rfl, _, rfl, ?_⟩
        rw [cmpN]
        refine iteF ?_
        refine ⟨_, rfl, a, lvs, rfl, .inl (SqL.of (sm _ _ hla)), ?_⟩
        rw [hlv.1]
        refine ⟨.ref c', pss.length, _, rfl, .inr ⟨c', ys, rfl, sm _ _ hy, nm.same sm, rfl⟩, fun H2 s2 => ⟨_, rfl, ?_⟩⟩
        have yl : ys.length = ps.length := hf.1
        by_cases hln : ps.length = pss.length
        · rw [decide_eq_true (yl.trans hln)]
          refine iteF ?_
          have s12 := sm.trans s2
          refine ⟨_, rfl, a', _, 1, _, rfl, rfl, SqT.of (s12 _ _ ha'), atI_nat (j := 1) rfl, c', ps, rfl, ⟨ys, s12 _ _ hy, hf.same s12⟩, by omega, fun l H3 pl s3 hl0 => ?_⟩
          have s13 := s12.trans s3
          refine ⟨_, rfl, a', _, 0, _, rfl, rfl, SqT.of (s13 _ _ ha'), atI_nat (j := 0) rfl, rfl, _, rfl, ?_⟩
          rw [cmpN]
          refine iteF ?_
          have ej : judgeL pss ts n (some (wNone, ps)) = (decide (mixL pss ps n = List.replicate n (0, 1)) && decide (prodP ps ts = (1, 1))) := by
            rw [judgeL_none, decide_eq_true hln, Bool.true_and]
          refine ⟨_, rfl, _, rfl, a, l, pss, ps, n, sz1, sz3, rfl, hl.same s13, pl, hln.symm, pos, l13, by omega, fun x m => (hrow x m).1, hcol, cdj _ _ rfl, zz1, fun x H4 px s4 => ?_⟩
          have s14 := s13.trans s4
          refine ⟨small1000 (by decide), fun t1 ht1 => ⟨small1000 (by decide), fun t2 ht2 => ?_⟩⟩
          have s5 : Same H4 (upd (upd H4 t1 (.tup [.int 0, .int 1])) t2 (.lst [.ref t1])) := (same_new ht1).trans (same_new ht2)
          have hT : TA (upd (upd H4 t1 (.tup [.int 0, .int 1])) t2 (.lst [.ref t1])) t1 (0, 1) := same_new ht2 _ _ upd_same
          have hL : (upd (upd H4 t1 (.tup [.int 0, .int 1])) t2 (.lst [.ref t1])) t2 = some (.lst [.ref t1]) := upd_same
          generalize upd (upd H4 t1 _) t2 _ = H5 at s5 hT hL ⊢
          have s15 := s14.trans s5
          refine ⟨_, rfl, a, lvs, 0, _, rfl, rfl, SqL.of (s15 _ _ hla), atI_nat (j := 0) hq0, q0, us0, rfl, .inl (SqL.of (s15 _ _ hx0)), ?_⟩
          rw [l0]
          refine ⟨t2, _, _, rfl, rfl, hL, by omega, by omega, Nat.le_of_lt (small1000 (by show 1 * Int.toNat (n : Int) ≤ 1000; omega)), fun r hr0 => ?_⟩
          rw [flat_rep]
          have nat : (n : Int).toNat = n := by omega
          rw [nat]
          have s6 := same_new (o := .lst (List.replicate n (V.ref t1))) hr0
          refine ⟨plD _, plD (List.replicate n (0, 1)), (px.same (s5.trans s6)).dp, Dp.lst (SqL.of upd_same) (rep_dp (by exact s6 _ _ hT) n), plD_shaped _, plD_shaped _, ?_⟩
          rw [eqv_pl]
          have s16 := s15.trans s6
          generalize upd H5 r _ = H6 at s6 s16 ⊢
          refine ⟨_, rfl, ite2 (fun zt => ?_) (fun zf => ?_)⟩
          · refine ⟨_, rfl, _, rfl, l, c, ps, ts, sz3, sz2, rfl, pl.same ((s4.trans s5).trans s6), ht.same s16, by rw [tl_, hln], by omega, cdj _ _ rfl, cdt, by omega, fun x H7 tx s7 => ?_⟩
            refine ⟨small1000 (by decide), fun t3 ht3 => ?_⟩
            have s8 := same_new (o := .tup [.int 1, .int 1]) ht3
            refine ⟨tupD _, tupD (1, 1), .tup (SqT.of (s8 _ _ tx)) (.cons (.int _) (.cons (.int _) .nil)), .tup (SqT.of upd_same) (.cons (.int _) (.cons (.int _) .nil)), ?_, ?_, ?_⟩
            · show ((tupD _).canLay0 && decide ((tupD _).depth ≤ 64)) = true
              rw [tupD_lay, Bool.true_and]
              exact decide_eq_true (by have := tupD_depth (prodP ps ts); omega)
            · show ((tupD _).canLay0 && decide ((tupD _).depth ≤ 64)) = true
              rw [tupD_lay, Bool.true_and]
              exact decide_eq_true (by have := tupD_depth (1, 1); omega)
            · rw [eqv_tup]
              have e : judgeL pss ts n (some (wNone, ps)) = decide (prodP ps ts = (1, 1)) := by rw [ej, zt, Bool.true_and]
              rw [← e]
              exact q _ (s16.trans (s7.trans s8))
          · have e2 : decide (mixL pss ps n = List.replicate n (0, 1)) = false := Bool.eq_false_iff.mpr zf
            have e : judgeL pss ts n (some (wNone, ps)) = false := by rw [ej, e2, Bool.false_and]
            rw [← e]
            exact q H6 s16
        · rw [decide_eq_false fun e => hln (yl.symm.trans e)]
          have e : judgeL pss ts n (some (wNone, ps)) = false := by rw [judgeL_none, decide_eq_false hln, Bool.false_and]
          rw [e] at q
          exact iteT (q H2 (sm.trans s2))
end
end FR
set_option Elab.async false
set_option linter.all false
set_option maxRecDepth 100000
set_option maxHeartbeats 4000000
set_option pp.maxSteps 300
/-! sums and products of fractions -/
namespace L2
open PySem PySem.Spec PyProof.Rows
theorem opr_or {X : Cx} {op : Value → Value → Sem Value} {r1 r2 : R2} (h1 : OpR X op r1) (h2 : OpR X op r2) : OpR X op (fun x y H Q => r1 x y H Q ∨ r2 x y H Q) := by
  intro pins s σ H x y v u Q I rx ry h
  rcases h with h | h
  · exact h1 pins s σ H x y v u Q I rx ry h
  · exact h2 pins s σ H x y v u Q I rx ry h
end L2
namespace FR
open PySem PySem.Spec PyProof.Rows L2 LD RF
/-- what the text says of an operator's names in int -/
structure IntOp (K : PySem.W.Frag) (C : Addr) (nm : String) : Prop where
  r : ∃ rc, PySem.W.findIn K (.ref C) (dunderR nm) = some rc ∧ (rc = none ∨ ∃ g : Addr, rc = some (.ref g))
  i : ∃ fo, PySem.W.findIn K (.type "int") (PySem.dunder nm) = some fo
  j : ∃ ro, PySem.W.findIn K (.type "int") (dunderR nm) = some ro
  s : PySem.W.subIn K (.type "int") (.ref C) = some false
section
variable {P : Program} {w : World} {K : PySem.W.Frag} {mg : Str → Option Value} {base : Heap} {C fI pT gT pB gB : Addr} {fdI fdT fdB : FuncData}
def spOp (C : Addr) (f : Int → Int → Int → Int → Int) : Sp := fun vs H Q _ => ∃ (p : Addr) (v : V) (t b t' b' : Int), vs = [.ref p, v] ∧ FrAt C H p t b ∧ FV C H v t' b' ∧ Sz t b ∧ Sz t' b' ∧
  ∀ q H', FrAt C H' q (nT (f t b t' b') (b * b')) (nB (f t b t' b') (b * b')) → Same H H' → H q = none → Q (.ref q) H'
def fAdd (t b t' b' : Int) : Int := t * b' + t' * b
def fSub (t b t' b' : Int) : Int := t * b' - t' * b
def fMul (t _ t' _ : Int) : Int := t * t'
abbrev sAdd : Stmt := inClass sFrac 3
theorem scAdd : FnScope ["self", "other", "more"] ["self", "other"] (defScope sAdd) := ⟨rfl, rfl, rfl, by decide +kernel, rfl, by decide +kernel, by decide +kernel⟩
theorem ok_add {f fA : Addr} {fd fdA : FuncData} (F : Fun K "__add__" "Fraction.__add__" sAdd f fd) (k : FrK P w K mg base C fI pT gT pB gB fdI fdT fdB) (GA : FnOk P w K mg base CX0 4 fA fdA ["value"] (spAs C)) (mA : mg "as_fraction" = some (.ref fA))
    (kA : PySem.W.keepIn K (.ref fA) = true) (bA : Binds K fdA ["value"] []) : FnOk P w K mg base CX0 5 f fd ["self", "other"] (spOp C fAdd) := by
  refine F.ok scAdd (fun vs H Q E h => ?_) (fun cdv A outer s H vs Q E hr h => ?_)
  · obtain ⟨p, v, t, b, t', b', rfl, _⟩ := h
    rfl
  · obtain ⟨p, v, t, b, t', b', rfl, ⟨dp, hp⟩, hv, z1, z2, q⟩ := h
    obtain ⟨m1, m2, m3, m4, m5, m6⟩ := z1.mul z2
    refine ⟨_, pss_cons (ps_set (i := 2) scAdd.nd rfl (Or.inl rfl) (pe_call GA hr (by rfl) mA kA bA .nil pass0 (pa_cons (pv 1) pa_nil)))
      (pss_one (ps_ret (pe_make k.M k.GI (hr.mono (by decide)) (by rfl) k.T.mC k.b2 .nil pass0 (pa_cons (pe_op op_add (pe_op op_mulW (pe_prop (pv 0) k.T.cl k.oT k.GT (hr.mono (by decide)) k.bT .nil pass0 rfl) (pe_prop (pv 2) k.T.cl k.oB k.GB (hr.mono (by decide)) k.bB .nil pass0 rfl)) (pe_op op_mulW (pe_prop (pv 2) k.T.cl k.oT k.GT (hr.mono (by decide)) k.bT .nil pass0 rfl) (pe_prop (pv 0) k.T.cl k.oB k.GB (hr.mono (by decide)) k.bB .nil pass0 rfl))) (pa_cons (pe_op op_mulW (pe_prop (pv 0) k.T.cl k.oB k.GB (hr.mono (by decide)) k.bB .nil pass0 rfl) (pe_prop (pv 2) k.T.cl k.oB k.GB (hr.mono (by decide)) k.bB .nil pass0 rfl)) pa_nil))))), ?_⟩
    refine ⟨_, rfl, v, t', b', rfl, hv, fun m H1 ⟨dm, hm⟩ sm => ?_⟩
    have hp := sm _ _ hp
    refine ⟨_, rfl, p, dp, _, rfl, hp, p, dp, _, _, rfl, hp, fl_top _ _, _, rfl, m, dm, _, rfl, hm, m, dm, _, _, rfl, hm, fl_bot _ _, _, _, rfl, rfl, m2, _, rfl, m, dm, _, rfl, hm, m, dm, _, _, rfl, hm, fl_top _ _, _, rfl, p, dp, _, rfl, hp, p, dp, _, _, rfl, hp, fl_bot _ _, _, _, rfl, rfl, m3, _, _, rfl, rfl, _, rfl, p, dp, _, rfl, hp, p, dp, _, _, rfl, hp, fl_bot _ _, _, rfl, m, dm, _, rfl, hm, m, dm, _, _, rfl, hm, fl_bot _ _, _, _, rfl, rfl, m4, fun x dx nx nd ne => ?_⟩
    refine ⟨x, dx, _, _, rfl, upd_same, m6, dv8 m6 m5, fun H' hf hs => ⟨rfl, ?_⟩⟩
    exact q x H' hf (sm.trans (same_make (C := C) nx nd hs)) (Same.free sm nx)
abbrev sMul : Stmt := inClass sFrac 7
theorem scMul : FnScope ["self", "other", "factor"] ["self", "other"] (defScope sMul) := ⟨rfl, rfl, rfl, by decide +kernel, rfl, by decide +kernel, by decide +kernel⟩
theorem ok_mul {f fA : Addr} {fd fdA : FuncData} (F : Fun K "__mul__" "Fraction.__mul__" sMul f fd) (k : FrK P w K mg base C fI pT gT pB gB fdI fdT fdB) (GA : FnOk P w K mg base CX0 4 fA fdA ["value"] (spAs C)) (mA : mg "as_fraction" = some (.ref fA))
    (kA : PySem.W.keepIn K (.ref fA) = true) (bA : Binds K fdA ["value"] []) : FnOk P w K mg base CX0 5 f fd ["self", "other"] (spOp C fMul) := by
  refine F.ok scMul (fun vs H Q E h => ?_) (fun cdv A outer s H vs Q E hr h => ?_)
  · obtain ⟨p, v, t, b, t', b', rfl, _⟩ := h
    rfl
  · obtain ⟨p, v, t, b, t', b', rfl, ⟨dp, hp⟩, hv, z1, z2, q⟩ := h
    obtain ⟨m1, m2, m3, m4, m5, m6⟩ := z1.mul z2
    refine ⟨_, pss_cons (ps_set (i := 2) scMul.nd rfl (Or.inl rfl) (pe_call GA hr (by rfl) mA kA bA .nil pass0 (pa_cons (pv 1) pa_nil)))
      (pss_one (ps_ret (pe_make k.M k.GI (hr.mono (by decide)) (by rfl) k.T.mC k.b2 .nil pass0 (pa_cons (pe_op op_mulW (pe_prop (pv 0) k.T.cl k.oT k.GT (hr.mono (by decide)) k.bT .nil pass0 rfl) (pe_prop (pv 2) k.T.cl k.oT k.GT (hr.mono (by decide)) k.bT .nil pass0 rfl)) (pa_cons (pe_op op_mulW (pe_prop (pv 0) k.T.cl k.oB k.GB (hr.mono (by decide)) k.bB .nil pass0 rfl) (pe_prop (pv 2) k.T.cl k.oB k.GB (hr.mono (by decide)) k.bB .nil pass0 rfl)) pa_nil))))), ?_⟩
    refine ⟨_, rfl, v, t', b', rfl, hv, fun m H1 ⟨dm, hm⟩ sm => ?_⟩
    have hp := sm _ _ hp
    refine ⟨_, rfl, p, dp, _, rfl, hp, p, dp, _, _, rfl, hp, fl_top _ _, _, rfl, m, dm, _, rfl, hm, m, dm, _, _, rfl, hm, fl_top _ _, _, _, rfl, rfl, m1, _, rfl, p, dp, _, rfl, hp, p, dp, _, _, rfl, hp, fl_bot _ _, _, rfl, m, dm, _, rfl, hm, m, dm, _, _, rfl, hm, fl_bot _ _, _, _, rfl, rfl, m4, fun x dx nx nd ne => ?_⟩
    refine ⟨x, dx, _, _, rfl, upd_same, m6, dv8 m6 m5, fun H' hf hs => ⟨rfl, ?_⟩⟩
    exact q x H' hf (sm.trans (same_make (C := C) nx nd hs)) (Same.free sm nx)
/-- an instance with a fraction or an integer -/
def rFop (C : Addr) (f : Int → Int → Int → Int → Int) : R2 := fun x y H Q => ∃ (p : Addr) (t b t' b' : Int), x = .ref p ∧ FrAt C H p t b ∧ FV C H y t' b' ∧ Sz t b ∧ Sz t' b' ∧ ∀ q H', FrAt C H' q (nT (f t b t' b') (b * b')) (nB (f t b t' b') (b * b')) → Same H H' → Q (.ref q) H'
theorem op_fr {X : Cx} {K : PySem.W.Frag} {nm : String} {fn : Int → Int → Int → Int → Int} {op : Operator} {f : Addr} {fd : FuncData} {E : XK} (hK : X.K = K) (hn : op.info.2 = nm) (D : Dun K C (PySem.dunder nm) f) (F : FnOk X.prog X.w K X.mg X.base CX0 5 f fd ["self", "other"] (spOp C fn)) (hr : Room 5 X.A) (hb : Binds K fd ["self", "other"] []) (hx : Passes CX0 X E) (sf : PySem.W.selfFirst K C = true) (io : IntOp K C nm) : OpR X (binaryOp op) (rFop C fn) := by
  subst hK hn
  intro pins s σ H x y v u Q I rx ry ⟨p, t, b, t', b', ex, ⟨dx, hp⟩, hv, z1, z2, q⟩
  obtain ⟨rc, r1, r2⟩ := io.r
  obtain ⟨fo, i1⟩ := io.i
  obtain ⟨ro, j1⟩ := io.j
  rcases hv with ⟨p', e, d', h'⟩ | ⟨e, eb⟩
  · exact op_own2 D sf F hr hb hx pins s σ H x y v u Q I rx ry ⟨p, p', dx, d', _, _, ex, e, hp, h', p, .ref p', t, b, t', b', rfl, ⟨dx, hp⟩, .inl ⟨p', rfl, d', h'⟩, z1, z2, fun q' H' f' s' _ => q q' H' f' s'⟩
  · exact op_ownI D sf r1 r2 i1 j1 io.s F hr hb hx pins s σ H x y v u Q I rx ry ⟨p, t', dx, _, ex, e, hp, p, .int t', t, b, t', b', rfl, ⟨dx, hp⟩, .inr ⟨rfl, eb⟩, z1, z2, fun q' H' f' s' _ => q q' H' f' s'⟩
end
end FR
set_option Elab.async false
set_option linter.all false
set_option maxRecDepth 100000
set_option maxHeartbeats 4000000
set_option pp.maxSteps 400
set_option exponentiation.threshold 5000
/-! _law_near -/
namespace FR
open PySem PySem.Spec PyProof.Rows L2 LD RF
/-! ### sizes -/
theorem nn_scale {x e c : Int} (he : e ≠ 0) (hc : c ≠ 0) : ((nT x e, nB x e) : PI) = (nT (c * x) (c * e), nB (c * x) (c * e)) := by
  have h1 : Lf (nT x e) (nB x e) := lf_n he
  refine n_eq (Int.mul_ne_zero hc he) h1 ?_
  have a := nT_mul (t := x) he
  have b := nB_mul (t := x) he
  show nT x e * (c * e) = c * x * nB x e
  calc nT x e * (c * e) = c * (nT x e * (nB x e * dv x e)) := by rw [b]; grind
    _ = c * (nT x e * dv x e) * nB x e := by grind
    _ = c * x * nB x e := by rw [a]
theorem cd_ent {s : Nat} {e x : Int} {p : PI} (he : e ≠ 0) (h : p = (nT x e, nB x e)) : val p = (x : Rat) / e := by rw [h]; exact val_n he
theorem cd_add {s : Nat} {ps : List PI} {k : Nat} {p : PI} {t' b' : Int} (h : Cd s ps) (hk : ps[k]? = some p) (ht : t'.natAbs ≤ 1) (hb : b' = 1 ∨ b' = 3) : Cd (s + 3) (ps.set k (nT (fAdd p.1 p.2 t' b') (p.2 * b'), nB (fAdd p.1 p.2 t' b') (p.2 * b'))) := by
  obtain ⟨e, e0, es, he⟩ := h
  have two : 2 ^ (s + 3) = 8 * 2 ^ s := by rw [Nat.pow_add]; omega
  have en : (3 * e).natAbs = 3 * e.natAbs := by omega
  refine ⟨3 * e, by omega, by omega, fun q m => ?_⟩
  obtain ⟨i, hi⟩ := List.mem_iff_getElem?.mp m
  rw [List.getElem?_set] at hi
  split at hi
  · next ki =>
    split at hi
    · cases hi
      obtain ⟨x, xs, ex⟩ := he p (List.mem_of_getElem? hk)
      have lp : Lf p.1 p.2 := by rw [ex]; exact lf_n e0
      have hv : val p = (x : Rat) / e := cd_ent (s := 0) e0 ex
      have hv : (p.1 : Rat) / p.2 = (x : Rat) / e := hv
      have p0 := cast_ne lp.ne
      have e0' := cast_ne e0
      have b0 : b' ≠ 0 := by omega
      have b0' := cast_ne b0
      obtain ⟨c, hc, cs⟩ : ∃ c : Int, c * b' = 3 ∧ c.natAbs ≤ 3 := by
        rcases hb with z | z <;> subst z
        · exact ⟨3, by decide, by decide⟩
        · exact ⟨1, by decide, by decide⟩
      have z1 : (t' * c * e).natAbs ≤ 3 * e.natAbs := by
        rw [Int.natAbs_mul, Int.natAbs_mul]
        exact Nat.mul_le_mul (Nat.le_trans (Nat.mul_le_mul ht cs) (by omega)) (Nat.le_refl _)
      refine ⟨3 * x + t' * c * e, by omega, ?_⟩
      have n1 : p.2 * b' ≠ 0 := Int.mul_ne_zero lp.ne b0
      have n2 : 3 * e ≠ 0 := by omega
      refine val_inj (lf_n n1) (lf_n n2) ?_
      rw [val_n n1, val_n n2]
      have hc' : (c : Rat) * b' = 3 := by rw [← Rat.intCast_mul, hc]; rfl
      unfold fAdd
      simp only [Rat.intCast_mul, Rat.intCast_add]
      have three : ((3 : Int) : Rat) = 3 := rfl
      rw [three]
      grind
    · cases hi
  · next ki =>
    obtain ⟨x, xs, ex⟩ := he q (List.mem_of_getElem? hi)
    have xn : (3 * x).natAbs = 3 * x.natAbs := by omega
    exact ⟨3 * x, by omega, by rw [ex]; exact nn_scale e0 (by decide)⟩
theorem cd_two {s : Nat} {ps : List PI} (h : Cd s ps) : Cd (s + 3) (ps.map fun p => (nT (fMul p.1 p.2 2 1) (p.2 * 1), nB (fMul p.1 p.2 2 1) (p.2 * 1))) := by
  obtain ⟨e, e0, es, he⟩ := h
  have two : 2 ^ (s + 3) = 8 * 2 ^ s := by rw [Nat.pow_add]; omega
  refine ⟨e, e0, by omega, fun q m => ?_⟩
  obtain ⟨p, mp, rfl⟩ := List.mem_map.mp m
  obtain ⟨x, xs, ex⟩ := he p mp
  have lp : Lf p.1 p.2 := by rw [ex]; exact lf_n e0
  have hv : (p.1 : Rat) / p.2 = (x : Rat) / e := cd_ent (s := 0) e0 ex
  have p0 := cast_ne lp.ne
  have e0' := cast_ne e0
  have xn : (2 * x).natAbs = 2 * x.natAbs := by omega
  refine ⟨2 * x, by omega, ?_⟩
  have n1 : p.2 * 1 ≠ 0 := by have := lp.ne; omega
  refine val_inj (lf_n n1) (lf_n e0) ?_
  rw [val_n n1, val_n e0]
  unfold fMul
  simp only [Rat.intCast_mul]
  have two' : ((2 : Int) : Rat) = 2 := rfl
  have one' : ((1 : Int) : Rat) = 1 := rfl
  rw [two', one']
  grind
theorem cd_zero {s : Nat} {ps : List PI} (h : Cd s ps) : Cd s (ps ++ [(0, 1)]) := by
  obtain ⟨e, e0, es, he⟩ := h
  refine ⟨e, e0, es, fun p m => ?_⟩
  rcases List.mem_append.mp m with m | m
  · exact he p m
  · rw [List.mem_singleton] at m
    exact ⟨0, Nat.pow_pos (by decide), by rw [m]; exact n_eq e0 (Lf.one 0) (by show (0 : Int) * e = 0 * 1; omega)⟩
/-! ### slices and sums of tuples -/
theorem catA_any {K : PySem.W.Frag} {H : Hp} {a b : Addr} {xs ys : List V} {Q : VK} (h1 : H a = some (.tup xs)) (h2 : H b = some (.tup ys)) (hz : xs.length + ys.length < 1000) (q : ∀ p H', Same H H' → H' p = some (.tup (xs ++ ys)) → Q (.ref p) H') : rCatA K (.ref a) (.ref b) H Q := by
  refine ⟨a, b, xs, ys, rfl, rfl, SqT.of h1, SqT.of h2, Nat.le_of_lt (small1000 (by omega)), fun e => ?_, fun _ e => ?_, fun _ _ p hp => q p _ (same_new hp) upd_same⟩
  · exact q b H (Same.refl H) (by rw [e]; exact h2)
  · exact q a H (Same.refl H) (by rw [e, List.append_nil]; exact h1)
theorem slA_any {K : PySem.W.Frag} {H : Hp} {a : Addr} {xs : List V} {lo hi : Option Int} {Q : VK} (h1 : H a = some (.tup xs)) (q : ∀ p H', Same H H' → H' p = some (.tup (cutV xs lo hi)) → Q (.ref p) H') : rSlA K (.ref a) lo hi H Q := by
  refine ⟨a, xs, rfl, SqT.of h1, fun w => ?_, fun _ p hp => q p _ (same_new hp) upd_same⟩
  refine q a H (Same.refl H) ?_
  unfold cutV
  rw [w.1, w.2, List.drop_zero, Nat.sub_zero, List.take_length]
  exact h1
theorem cut_take {xs : List V} {n : Nat} (h : n ≤ xs.length) : cutV xs none (some (n : Int)) = xs.take n := by
  unfold cutV
  rw [HT.sIx_nat, HT.sIx_none, Nat.min_eq_left h, List.drop_zero, Nat.sub_zero]
theorem cut_last {xs : List V} (h : 0 < xs.length) : cutV xs none (some (-1)) = xs.take (xs.length - 1) := by
  unfold cutV
  have e : HT.sIx xs.length xs.length (some (-1)) = xs.length - 1 := by
    show (if (-1 : Int) < 0 then ((-1 : Int) + (xs.length : Int)).toNat else min (-1 : Int).toNat xs.length) = _
    rw [if_pos (by decide)]
    omega
  rw [e, HT.sIx_none, List.drop_zero, Nat.sub_zero]
theorem mid_ev {K : PySem.W.Frag} {te : TE} {σ : L2.St} {H : Hp} {Q : VK} {b : Addr} {xs : List V} {n : Nat} {v : V} (h3 : σ[3]? = some (some (.ref b))) (h5 : σ[5]? = some (some (.int (n : Nat)))) (hx : H b = some (.tup xs)) (nl : n < xs.length) (x900 : xs.length ≤ 900) (hte : ∀ H' Q', Q' v H' → te σ H' Q')
    (q : ∀ p H', Same H H' → H' p = some (.tup (xs.set n v)) → Q (.ref p) H') :
    tOp (rCatA K) (tOp (rCatA K) (tSl (rSlA K) (tVar 3) tNoPart (tPart (tVar 5))) (tTup (tCons te tNil))) (tSl (rSlA K) (tVar 3) (tPart (tOp (rI0 fun i j => .int (i + j)) (tVar 5) (tC (.int 1)))) tNoPart) σ H Q := by
  refine ⟨_, h3, _, h5, _, rfl, slA_any hx fun p1 H1 s1 e1 => ?_⟩
  rw [cut_take (by omega)] at e1
  refine hte _ _ ⟨small1000 (by decide), fun p2 hp2 => ?_⟩
  have s2 := s1.trans (same_new (o := .tup [v]) hp2)
  refine catA_any (same_new hp2 _ _ e1) upd_same (by rw [List.length_take]; show _ + 1 < _; omega) fun p3 H3 s3 e3 => ?_
  have s13 := s2.trans s3
  refine ⟨_, h3, _, h5, _, _, rfl, rfl, _, rfl, ?_⟩
  dsimp only [tNoPart]
  refine slA_any (s13 _ _ hx) fun p4 H4 s4 e4 => ?_
  have en : ((n : Int) + 1) = ((n + 1 : Nat) : Int) := by omega
  rw [en, cut_drop (by omega)] at e4
  refine catA_any (s4 _ _ e3) e4 (by rw [List.length_append, List.length_take, List.length_drop]; show _ + 1 + _ < _; omega) fun p5 H5 s5 e5 => ?_
  refine q p5 H5 ((s13.trans s4).trans s5) ?_
  rw [e5, List.set_eq_take_append_cons_drop, if_pos nl, List.append_assoc]
  rfl
/-! ### what the odd values are -/
theorem rl_ne {d p : Addr} {H : Hp} {o : HO} (hd : DiceAt H d) (h : H p = some o) (n : ∀ a b c, o ≠ .lst (dxs a b c)) : p ≠ d := fun e => by
  obtain ⟨a, b, c, hd⟩ := hd
  subst e
  rw [hd] at h
  cases h
  exact n _ _ _ rfl
theorem odd_rl {K : PySem.W.Frag} {d : Addr} {H H' : Hp} {v : V} {T : String} (o : Odd K H v T) (hd : DiceAt H d) (r : Rl d H H') : Odd K H' v T := by
  cases o with
  | non => exact .non
  | bl b => exact .bl b
  | int i => exact .int i
  | str x => exact .str x
  | lst e =>
    next a xs =>
    by_cases z : a = d
    · subst z
      obtain ⟨p, q, t, e'⟩ := r.1
      exact .lst e'
    · exact .lst (r.2 _ _ z e)
  | tup e => exact .tup (r.2 _ _ (rl_ne hd e fun _ _ _ z => by cases z) e)
  | dK e => exact .dK (r.2 _ _ (rl_ne hd e fun _ _ _ z => by cases z) e)
theorem frat_rl {C d p : Addr} {H H' : Hp} {t b : Int} (h : FrAt C H p t b) (hd : DiceAt H d) (r : Rl d H H') : FrAt C H' p t b := by
  obtain ⟨dx, e⟩ := h
  exact ⟨dx, r.2 _ _ (rl_ne hd e fun _ _ _ z => by cases z) e⟩
theorem isfr_rl {K : PySem.W.Frag} {C d : Addr} {H H' : Hp} {v : V} {r : Bool} (h : IsFr K C H v r) (hd : DiceAt H d) (s : Rl d H H') : IsFr K C H' v r := by
  rcases h with ⟨q, t, b, e, f, er⟩ | h | ⟨T, o, hT, er⟩
  · exact .inl ⟨q, t, b, e, frat_rl f hd s, er⟩
  · exact .inr (.inl h)
  · exact .inr (.inr ⟨T, odd_rl o hd s, hT, er⟩)
theorem nums_rl {K : PySem.W.Frag} {C d : Addr} {H H' : Hp} {v : V} {r : Bool} (h : NumsR K C H v r) (hd : DiceAt H d) (s : Rl d H H') : NumsR K C H' v r := by
  rcases h with ⟨T, o, hT, er⟩ | ⟨b, ys, rs, e, hb, l9, l, z, er⟩
  · exact .inl ⟨T, odd_rl o hd s, hT, er⟩
  · exact .inr ⟨b, ys, rs, e, s.2 _ _ (rl_ne hd hb fun _ _ _ z => by cases z) hb, l9, l, fun i z' hz => (z i z' hz).imp fun q ⟨a, b⟩ => ⟨a, isfr_rl b hd s⟩, er⟩
theorem fst_rl {d : Addr} {H H' : Hp} {x : V} (h : Fst1 H x) (hd : DiceAt H d) (s : Rl d H H') : Fst1 H' x := by
  rcases h with ⟨i, e⟩ | ⟨q, e, h⟩ | ⟨q, e, h⟩ | ⟨q, z, e, h, so⟩
  · exact .inl ⟨i, e⟩
  · exact .inr (.inl ⟨q, e, s.2 _ _ (rl_ne hd h fun _ _ _ z => by cases z) h⟩)
  · exact .inr (.inr (.inl ⟨q, e, s.2 _ _ (rl_ne hd h fun _ _ _ z => by cases z) h⟩))
  · exact .inr (.inr (.inr ⟨q, z, e, s.2 _ _ (rl_ne hd h fun _ _ _ z => by cases z) h, so⟩))
theorem fvs_rl {C d : Addr} {H H' : Hp} {vs : List V} {ps : List PI} (h : FVs C H vs ps) (hd : DiceAt H d) (s : Rl d H H') : FVs C H' vs ps :=
  ⟨h.1, fun i v hv => (h.2 i v hv).imp fun p ⟨e, f⟩ => ⟨e, f.elim (fun ⟨q, e, f⟩ => .inl ⟨q, e, frat_rl f hd s⟩) .inr⟩⟩
theorem frs_rl {C d : Addr} {H H' : Hp} {vs : List V} {ps : List PI} (h : FRs C H vs ps) (hd : DiceAt H d) (s : Rl d H H') : FRs C H' vs ps :=
  ⟨h.1, fun i v hv => (h.2 i v hv).imp fun p ⟨e, q, eq, f⟩ => ⟨e, q, eq, frat_rl f hd s⟩⟩
theorem tf_rl {C d : Addr} {H H' : Hp} {a : Addr} {ps : List PI} (h : Tf C H a ps) (hd : DiceAt H d) (s : Rl d H H') : Tf C H' a ps := by
  obtain ⟨⟨xs, e, f⟩, few, lf, sz⟩ := h
  exact ⟨⟨xs, s.2 _ _ (rl_ne hd e fun _ _ _ z => by cases z) e, fvs_rl f hd s⟩, few, lf, sz⟩
theorem JR.rl {K : PySem.W.Frag} {C d : Addr} {H H' : Hp} {v : V} {j : JD} (h : JR K C H v j) (hd : DiceAt H d) (s : Rl d H H') : JR K C H' v j := by
  have tp : ∀ {a : Addr} {xs : List V}, H a = some (.tup xs) → H' a = some (.tup xs) := fun e => s.2 _ _ (rl_ne hd e fun _ _ _ z => by cases z) e
  match j, h with
  | none, h =>
    rcases h with ⟨T, o, hT⟩ | ⟨a, xs, e, ha, l⟩ | ⟨a, x, y, e, ha, f1⟩ | ⟨a, z, y, e, ha, n1, n2, so⟩ | ⟨a, z, y, e, ha, hz, ny⟩
    · exact .inl ⟨T, odd_rl o hd s, hT⟩
    · exact .inr (.inl ⟨a, xs, e, tp ha, l⟩)
    · exact .inr (.inr (.inl ⟨a, x, y, e, tp ha, fst_rl f1 hd s⟩))
    · exact .inr (.inr (.inr (.inl ⟨a, z, y, e, tp ha, n1, n2, so⟩)))
    · exact .inr (.inr (.inr (.inr ⟨a, z, y, e, tp ha, hz, nums_rl ny hd s⟩)))
  | some (z, ps), h =>
    obtain ⟨a, b, e, ha, hz, t⟩ := h
    exact ⟨a, b, e, tp ha, hz, tf_rl t hd s⟩
def JO (K : PySem.W.Frag) (C : Addr) (t : Nat) (H : Hp) (v : V) : Prop := ∃ j, JR K C H v j ∧ ∀ z qs, j = some (z, qs) → Cd t qs
theorem JO.same {K : PySem.W.Frag} {C : Addr} {t : Nat} {H H' : Hp} {v : V} (h : JO K C t H v) (s : Same H H') : JO K C t H' v := by
  obtain ⟨j, a, b⟩ := h
  exact ⟨j, a.same s, b⟩
theorem JO.rl {K : PySem.W.Frag} {C d : Addr} {t : Nat} {H H' : Hp} {v : V} (h : JO K C t H v) (hd : DiceAt H d) (s : Rl d H H') : JO K C t H' v := by
  obtain ⟨j, a, b⟩ := h
  exact ⟨j, a.rl hd s, b⟩
theorem JO.no {K : PySem.W.Frag} {C : Addr} {t : Nat} {H : Hp} {v : V} (h : JR K C H v none) : JO K C t H v := ⟨none, h, fun _ _ e => by cases e⟩
theorem JO.yes {K : PySem.W.Frag} {C : Addr} {t : Nat} {H : Hp} {m q : Addr} {z : Str} {ys : List V} {qs : List PI} (hm : H m = some (.tup [.str z, .ref q])) (hz : z = wSol ∨ z = wNone) (hq : H q = some (.tup ys)) (f : FVs C H ys qs) (c : Cd t qs) (t24 : t ≤ 2400) (l : qs.length ≤ 80) : JO K C t H (.ref m) :=
  ⟨some (z, qs), ⟨m, q, rfl, hm, hz, ⟨ys, hq, f⟩, l, c.lf, c.shr t24⟩, fun z' qs' e => by cases e; exact c⟩
/-! ### elements of lists -/
def EvJ (K : PySem.W.Frag) (C : Addr) (t : Nat) (Fx : Hp → Prop) (te : TE) (σ : L2.St) : Prop := ∀ H Q, Fx H → (∀ v H', Same H H' → JO K C t H' v → Q v H') → te σ H Q
def EvA (K : PySem.W.Frag) (C : Addr) (t : Nat) (Fx : Hp → Prop) (ta : L2.TA) (n : Nat) (σ : L2.St) : Prop := ∀ (H : Hp) (Q : List V → Hp → Prop), Fx H → (∀ vs H', Same H H' → vs.length = n → (∀ v ∈ vs, JO K C t H' v) → Q vs H') → ta σ H Q
section
variable {K : PySem.W.Frag} {C : Addr} {t : Nat} {Fx : Hp → Prop} {σ : L2.St}
theorem evA_nil : EvA K C t Fx tNil 0 σ := fun H Q _ q => q [] H (Same.refl H) rfl (fun _ m => by cases m)
theorem evA_cons {te : TE} {ta : L2.TA} {n : Nat} (fs : ∀ H H', Fx H → Same H H' → Fx H') (h : EvJ K C t Fx te σ) (g : EvA K C t Fx ta n σ) : EvA K C t Fx (tCons te ta) (n + 1) σ := fun H Q fx q =>
  h H _ fx fun v H1 s1 j1 => g H1 _ (fs _ _ fx s1) fun vs H2 s2 l aj => q (v :: vs) H2 (s1.trans s2) (by rw [List.length_cons, l]) fun x m => by
    rcases List.mem_cons.mp m with e | m
    · rw [e]; exact j1.same s2
    · exact aj x m
theorem ev_lst {ta : L2.TA} {n : Nat} {H : Hp} {Q : VK} (g : EvA K C t Fx ta n σ) (hn : n < 1000) (fx : Fx H) (q : ∀ l vs H', Same H H' → H' l = some (.lst vs) → vs.length = n → (∀ v ∈ vs, JO K C t H' v) → Q (.ref l) H') : tLst ta σ H Q :=
  g H _ fx fun vs H1 s1 ln aj => ⟨Nat.le_of_lt (small1000 (by omega)), fun l hl => q l vs _ (s1.trans (same_new hl)) upd_same ln fun v m => (aj v m).same (same_new hl)⟩
end
section
variable {P : Program} {w : World} {K : PySem.W.Frag} {mg : Str → Option Value} {base : Heap} {C fI pT gT0 pB gB0 : Addr} {fdI fdT fdB : FuncData}
abbrev sNe : Stmt := top 58
abbrev NNe : List Str := ["_law_dice_here", "_law_value", "_law_word", "_law_some", "_law_way", "_law_at", "_law_more_here", "_law_one", "_law_odd"]
theorem scNe : FnScope NNe ["_law_dice_here", "_law_value"] (defScope sNe) := ⟨rfl, rfl, rfl, by decide +kernel, rfl, by decide +kernel, by decide +kernel⟩
def spNe (K : PySem.W.Frag) (C : Addr) : Sp := fun vs H Q _ => ∃ (d a b : Addr) (z : Str) (ps : List PI) (s : Nat), vs = [.ref d, .ref a] ∧ DiceAt H d ∧ H a = some (.tup [.str z, .ref b]) ∧ (z = wSol ∨ z = wNone) ∧ TFr C H b ps ∧ Cd s ps ∧ s + 3 ≤ 2400 ∧ 0 < ps.length ∧ ps.length ≤ 13 ∧ ∀ v H', JO K C (s + 3) H' v → Rl d H H' → Q v H'
theorem ok_ne {f : Addr} {fd : FuncData} (F : Fun K "_law_near" "_law_near" sNe f fd) (k : FrK P w K mg base C fI pT gT0 pB gB0 fdI fdT fdB) (gR : Glo P w K mg base "_law_roll" 1 ["_law_dice_here", "_law_total"] spRoll) (gO : Glo P w K mg base "_law_one_of" 2 ["_law_dice_here", "_law_items"] spOneOf)
    (mA : Met P w K mg base C "__add__" 5 ["self", "other"] (spOp C fAdd)) (mM : Met P w K mg base C "__mul__" 5 ["self", "other"] (spOp C fMul)) (sf : PySem.W.selfFirst K C = true) (oA : IntOp K C "add") (oM : IntOp K C "mul") (mT : mg "tuple" = none) (mL : mg "len" = none) (mLi : mg "list" = none) : FnOk P w K mg base CX0 6 f fd ["_law_dice_here", "_law_value"] (spNe K C) := by
  refine F.ok scNe (fun vs H Q E h => ?_) (fun cdv A outer s H vs Q E hr h => ?_)
  · obtain ⟨d, a, b, z, ps, sz, rfl, _⟩ := h
    rfl
  · obtain ⟨d, a, b, z, ps, sz, rfl, hd, ha, hz, ⟨xs, hx, hf⟩, cd, s24, pos, l13, q⟩ := h
    refine ⟨_, (pss_cons (ps_asg (pv 1) (pg_tupK (K := K) rfl rfl (pgs_cons (pg_name (i := 2) scNe.nd rfl (.inl rfl)) (pgs_cons (pg_name (i := 3) scNe.nd rfl (.inl rfl)) pgs_nil))))
      (pss_cons (ps_par (i := 4) (j := 5) (by rfl) scNe.nd rfl rfl (by decide) rfl rfl (pa_cons (pe_call gR.G (hr.mono (by decide)) (by rfl) gR.m gR.k gR.b .nil pass0 (pa_cons (pv 0) (pa_cons pe_int pa_nil))) (pa_cons (pe_call gR.G (hr.mono (by decide)) (by rfl) gR.m gR.k gR.b .nil pass0 (pa_cons (pv 0) (pa_cons (pe_callB call_len_seq (by rfl) mL PySem.boot_len (pa_cons (pv 3) pa_nil)) pa_nil))) pa_nil)) (by rfl))
      (pss_cons (ps_if (pt_cmpR op_lt (pv 4) pe_int (nomark _)) (pss_cons (ps_set (i := 6) scNe.nd rfl (Or.inl rfl) (pe_op (op_fr (op := .Add) (K := K) rfl rfl mA.D mA.G hr mA.b pass0 sf oA) (pe_ix ix_tup (pv 3) (pv 5) (fun _ _ => rfl)) (pe_call gO.G (hr.mono (by decide)) (by rfl) gO.m gO.k gO.b .nil pass0 (pa_cons (pv 0) (pa_cons (pe_lst (pa_cons pe_int (pa_cons (pe_un un_neg pe_int) (pa_cons (pe_make k.M k.GI (hr.mono (by decide)) (by rfl) k.T.mC k.b2 .nil pass0 (pa_cons pe_int (pa_cons pe_int pa_nil))) pa_nil)))) pa_nil)))))
      (pss_one (ps_ret (pe_tup (pa_cons (pv 2) (pa_cons (pe_op op_catA (pe_op op_catA (pe_slice sl_tupA (pv 3) po_none (po_some (pv 5))) (pe_tup (pa_cons (pv 6) pa_nil))) (pe_slice sl_tupA (pv 3) (po_some (pe_op op_add (pv 5) pe_int)) po_none)) pa_nil)))))) pss_nil)
      (pss_cons (ps_if (pt_cmpR op_eq (pv 4) pe_int (nomark _)) (pss_one (ps_ret (pe_tup (pa_cons (pv 2) (pa_cons (pe_callTy call_tuple_of (by rfl) mT (by decide +kernel) (pa_cons (pe_lc (X := (cxOf CX0 P w K mg base NNe "_law_near" (defScope sNe) f cdv A outer s H E).nox) (own := [("_law_one", 7)]) (g := (gName 7)) (tt := tYes) rfl scNe.nd (pi_tup (pv 3)) (blkOk_by (N := NNe) (sc := (defScope sNe)) (by decide +kernel)) (fun _ _ _ _ _ => (pg_name (i := 7) scNe.nd rfl (.inl rfl))) (fun _ _ _ _ _ => pts_nil) (fun _ _ _ _ _ => (pe_op (op_fr (op := .Mult) (K := K) rfl rfl mM.D mM.G hr mM.b pass0 sf oM) (pv 7) pe_int))) pa_nil)) pa_nil))))) pss_nil)
      (pss_cons (ps_set (i := 8) scNe.nd rfl (Or.inl rfl) (pe_lst (pa_cons (pe_callTy call_list_of (by rfl) mLi (by decide +kernel) (pa_cons (pv 1) pa_nil)) (pa_cons (pe_tup (pa_cons (pv 2) pa_nil)) (pa_cons (pe_tup (pa_cons (pv 2) (pa_cons (pe_callTy call_list_of (by rfl) mLi (by decide +kernel) (pa_cons (pv 3) pa_nil)) pa_nil))) (pa_cons (pe_tup (pa_cons (pv 2) (pa_cons (pe_slice sl_tupA (pv 3) po_none (po_some (pe_un un_neg pe_int))) pa_nil))) (pa_cons (pe_tup (pa_cons (pv 2) (pa_cons (pe_op op_catA (pv 3) (pe_tup (pa_cons pe_int pa_nil))) pa_nil))) (pa_cons (pe_op op_catA (pv 1) (pe_tup (pa_cons pe_int pa_nil))) (pa_cons pe_non (pa_cons (pv 2) pa_nil))))))))))
      (pss_cons (ps_set (i := 8) scNe.nd rfl (Or.inl rfl) (pe_op op_cat (pv 8) (pe_lst (pa_cons (pe_tup (pa_cons (pe_ifExp (pt_cmpR op_eq (pv 2) pe_str (nomark _)) pe_str pe_str) (pa_cons (pv 3) pa_nil))) (pa_cons (pe_tup (pa_cons pe_str (pa_cons (pv 3) pa_nil))) (pa_cons (pe_tup (pa_cons (pv 2) (pa_cons pe_non pa_nil))) (pa_cons (pe_tup (pa_cons pe_int (pa_cons (pv 3) pa_nil))) (pa_cons (pe_tup pa_nil) (pa_cons pe_dnewK pa_nil)))))))))
      (pss_cons (ps_set (i := 8) scNe.nd rfl (Or.inl rfl) (pe_op op_cat (pv 8) (pe_lst (pa_cons (pe_tup (pa_cons (pe_lst pa_nil) (pa_cons (pv 3) pa_nil))) (pa_cons (pe_tup (pa_cons pe_dnewK (pa_cons (pv 3) pa_nil))) (pa_cons (pe_tup (pa_cons (pe_tup (pa_cons (pv 2) pa_nil)) (pa_cons (pv 3) pa_nil))) pa_nil))))))
      (pss_cons (ps_set (i := 8) scNe.nd rfl (Or.inl rfl) (pe_op op_cat (pv 8) (pe_lst (pa_cons (pe_tup (pa_cons (pv 2) (pa_cons (pe_op op_catA (pe_op op_catA (pe_slice sl_tupA (pv 3) po_none (po_some (pv 5))) (pe_tup (pa_cons pe_non pa_nil))) (pe_slice sl_tupA (pv 3) (po_some (pe_op op_add (pv 5) pe_int)) po_none)) pa_nil))) (pa_cons (pe_tup (pa_cons (pv 2) (pa_cons (pe_op op_catA (pe_op op_catA (pe_slice sl_tupA (pv 3) po_none (po_some (pv 5))) (pe_tup (pa_cons pe_bl pa_nil))) (pe_slice sl_tupA (pv 3) (po_some (pe_op op_add (pv 5) pe_int)) po_none)) pa_nil))) pa_nil)))))
      (pss_one (ps_ret (pe_call gO.G (hr.mono (by decide)) (by rfl) gO.m gO.k gO.b .nil pass0 (pa_cons (pv 0) (pa_cons (pv 8) pa_nil))))))))))))), ?_⟩
    have xl : xs.length = ps.length := hf.1
    refine ⟨_, rfl, a, _, rfl, SqT.of ha, rfl, _, _, rfl, _, _, rfl, rfl, ?_⟩
    refine ⟨_, rfl, d, 9, rfl, hd, by decide, by decide, fun r1 p1 p2 p3 r10 r19 => ?_⟩
    have R1 : Rl d H (upd H d (.lst (dxs p1 p2 p3))) := (Rl.refl hd).roll
    have ha1 := R1.2 _ _ (rl_ne hd ha fun _ _ _ z => by cases z) ha
    have hx1 := R1.2 _ _ (rl_ne hd hx fun _ _ _ z => by cases z) hx
    have hf1 := frs_rl hf hd R1
    generalize upd H d _ = H1 at R1 ha1 hx1 hf1 ⊢
    refine ⟨_, rfl, _, rfl, b, xs, rfl, .inr (SqT.of hx1), d, _, rfl, R1.1, by omega, by omega, fun r2 q1 q2 q3 r20 r2l => ?_⟩
    have R2 : Rl d H1 (upd H1 d (.lst (dxs q1 q2 q3))) := (Rl.refl R1.1).roll
    have ha2 := R2.2 _ _ (rl_ne R1.1 ha1 fun _ _ _ z => by cases z) ha1
    have hx2 := R2.2 _ _ (rl_ne R1.1 hx1 fun _ _ _ z => by cases z) hx1
    have hf2 := frs_rl hf1 R1.1 R2
    have R2 := R1.trans R2
    generalize upd H1 d _ = H2 at R2 ha2 hx2 hf2 ⊢
    obtain ⟨n, rfl⟩ : ∃ n : Nat, r2 = (n : Int) := ⟨r2.toNat, by omega⟩
    have nl : n < xs.length := by omega
    refine ⟨_, _, rfl, ?_⟩
    let Fx : Hp → Prop := fun Hx => Hx a = some (.tup [.str z, .ref b]) ∧ Hx b = some (.tup xs) ∧ FRs C Hx xs ps
    have fs : ∀ H H', Fx H → Same H H' → Fx H' := fun _ _ ⟨h1, h2, h3⟩ s => ⟨s _ _ h1, s _ _ h2, h3.same s⟩
    have fx2 : Fx H2 := ⟨ha2, hx2, hf2⟩
    have q' : ∀ v H', JO K C (sz + 3) H' v → Rl d H2 H' → Q v H' := fun v H' j r => q v H' j (R2.trans r)
    clear q
    have hd2 := R2.1
    clear R1 R2 ha hx hf ha1 hx1 hf1 ha2 hx2 hf2 hd
    -- t[:n] + (v,) + t[n + 1:]
    have fvs : ∀ {Hx : Hp}, FRs C Hx xs ps → FVs C Hx xs ps := fun h => ⟨h.1, fun i v hv => (h.2 i v hv).imp fun p ⟨e, q, eq, f⟩ => ⟨e, .inl ⟨q, eq, f⟩⟩⟩
    have fvs2 : ∀ {Hx : Hp} {ys : List V} {qs : List PI}, FRs C Hx ys qs → FVs C Hx ys qs := fun h => ⟨h.1, fun i v hv => (h.2 i v hv).imp fun p ⟨e, q, eq, f⟩ => ⟨e, .inl ⟨q, eq, f⟩⟩⟩
    refine ⟨_, rfl, _, _, rfl, rfl, _, rfl, ite2 (fun z3 => ?_) (fun z3 => ?_)⟩
    · obtain ⟨hxa, hxb, hxf⟩ := id fx2
      obtain ⟨p, hp, r, er, fr⟩ := hxf.2 n _ (List.getElem?_eq_getElem nl)
      have zp := cd.pz p (List.mem_of_getElem? hp)
      have zs : Sz p.1 p.2 := ⟨pow_up zp.tz (by omega), pow_up zp.bz (by omega), zp.lf.ne⟩
      refine ⟨_, rfl, _, rfl, b, xs, n, _, rfl, rfl, SqT.of hxb, atI_nat (List.getElem?_eq_getElem nl), ?_⟩
      rw [er]
      refine ⟨_, rfl, 1, rfl, fun x dx nx nd ne => ⟨x, dx, _, _, rfl, upd_same, by decide, dv8 (by decide) (Nat.lt_of_lt_of_le (show 3 < 2 ^ 2 by decide) (Nat.pow_le_pow_right (by decide) (by decide))), fun H3 hf3 hs3 => ⟨rfl, small1000 (Nat.le_of_ble_eq_true rfl), fun l hl => ?_⟩⟩⟩
      have s3 : Same H2 H3 := same_make (C := C) nx nd hs3
      have s4 := s3.trans (same_new (o := .lst [.int 1, .int (-1), .ref x]) hl)
      have f4 : FrAt C (upd H3 l (.lst [.int 1, .int (-1), .ref x])) x 1 3 := FrAt.same (C := C) (p := x) (t := 1) (b := 3) hf3 (same_new hl)
      have hl4 : upd H3 l (.lst [.int 1, .int (-1), .ref x]) l = some (.lst [.int 1, .int (-1), .ref x]) := upd_same
      have R4 : Rl d H2 (upd H3 l (.lst [.int 1, .int (-1), .ref x])) := (Rl.refl hd2).same s4
      have ld := dice_ne ((Rl.refl hd2).same s3).1 hl
      generalize upd H3 l _ = H4 at s4 f4 hl4 R4 ⊢
      refine ⟨d, l, _, rfl, R4.1, hl4, ld, Nat.le_of_ble_eq_true rfl, Nat.le_of_ble_eq_true rfl, fun i y c1 c2 c3 hy => ?_⟩
      have R5 : Rl d H4 (upd H4 d (.lst (dxs c1 c2 c3))) := (Rl.refl R4.1).roll
      obtain ⟨t', b', fv, ht, hb⟩ : ∃ t' b', FV C H4 y t' b' ∧ t'.natAbs ≤ 1 ∧ (b' = 1 ∨ b' = 3) := by
        match i, hy with
        | 0, hy => cases hy; exact ⟨1, 1, .inr ⟨rfl, rfl⟩, by decide, .inl rfl⟩
        | 1, hy => cases hy; exact ⟨-1, 1, .inr ⟨rfl, rfl⟩, by decide, .inl rfl⟩
        | 2, hy => cases hy; exact ⟨1, 3, .inl ⟨x, rfl, f4⟩, by decide, .inr rfl⟩
      have fv5 : FV C (upd H4 d (.lst (dxs c1 c2 c3))) y t' b' := fv.elim (fun ⟨q, e, f⟩ => .inl ⟨q, e, frat_rl f R4.1 R5⟩) .inr
      have fr5 := frat_rl (fr.same s4) R4.1 R5
      have fx5 : Fx (upd H4 d (.lst (dxs c1 c2 c3))) := ⟨R5.2 _ _ (rl_ne R4.1 (s4 _ _ hxa) fun _ _ _ z => by cases z) (s4 _ _ hxa), R5.2 _ _ (rl_ne R4.1 (s4 _ _ hxb) fun _ _ _ z => by cases z) (s4 _ _ hxb), frs_rl (hxf.same s4) R4.1 R5⟩
      have R5 := R4.trans R5
      generalize upd H4 d _ = H5 at fv5 fr5 fx5 R5 ⊢
      have z1 : Sz t' b' := ⟨Nat.lt_of_lt_of_le (show t'.natAbs < 2 ^ 2 by omega) (Nat.pow_le_pow_right (by decide) (by decide)), Nat.lt_of_lt_of_le (show b'.natAbs < 2 ^ 2 by omega) (Nat.pow_le_pow_right (by decide) (by decide)), by omega⟩
      refine ⟨r, _, _, t', b', rfl, fr5, fv5, zs, z1, fun g H6 f6 s6 => ?_⟩
      have fx6 := fs _ _ fx5 s6
      refine ⟨_, rfl, mid_ev (b := b) (xs := xs) (n := n) (v := .ref g) rfl rfl fx6.2.1 nl (by omega) (fun H' Q' h => ⟨_, rfl, h⟩) fun w0 H7 s7 e7 => ⟨small1000 (Nat.le_of_ble_eq_true rfl), fun m hm => ?_⟩⟩
      have s68 := s7.trans (same_new (o := .tup [.str z, .ref w0]) hm)
      have fx8 := fs _ _ fx6 s68
      refine q' _ _ (JO.yes upd_same hz (same_new hm _ _ e7) (A2.set (p := (nT (fAdd p.1 p.2 t' b') (p.2 * b'), nB (fAdd p.1 p.2 t' b') (p.2 * b'))) (fvs fx8.2.2) (.inl ⟨g, rfl, f6.same s68⟩) n) (cd_add cd hp ht hb) s24 (by rw [List.length_set]; omega)) (R5.same (s6.trans s68))
    refine ⟨_, rfl, rfl, _, rfl, ite2 (fun z4 => ?_) (fun z4 => ?_)⟩
    · obtain ⟨hxa, hxb, hxf⟩ := id fx2
      refine ⟨_, rfl, _, rfl, b, rfl, ⟨_, SqT.of hxb⟩, fun D hD => ?_⟩
      refine lc_tup (xs := xs) (fun i Hc => Same H2 Hc ∧ ∃ ws, Hc D = some (.lst ws) ∧ FRs C Hc ws ((ps.map fun p => (nT (fMul p.1 p.2 2 1) (p.2 * 1), nB (fMul p.1 p.2 2 1) (p.2 * 1))).take i)) ⟨same_new hD, [], upd_same, A2.nil⟩ (fun i Hc _ p => SqT.of (p.1 _ _ hxb)) ?_ ?_
      · rintro i v Hc hi ⟨sm, ws, hDc, hw⟩
        obtain ⟨p, hp, r, er, fr⟩ := hxf.2 i v hi
        have zp := cd.pz p (List.mem_of_getElem? hp)
        have zs : Sz p.1 p.2 := ⟨pow_up zp.tz (by omega), pow_up zp.bz (by omega), zp.lf.ne⟩
        have il := (List.getElem?_eq_some_iff.mp hi).1
        subst er
        refine ⟨rfl, _, rfl, r, p.1, p.2, 2, 1, rfl, fr.same sm, .inr ⟨rfl, rfl⟩, zs, ⟨Nat.lt_of_lt_of_le (show 2 < 2 ^ 2 by decide) (Nat.pow_le_pow_right (by decide) (by decide)), Nat.lt_of_lt_of_le (show 1 < 2 ^ 2 by decide) (Nat.pow_le_pow_right (by decide) (by decide)), by decide⟩, fun g H3 f3 s3 => ?_⟩
        have e := s3 _ _ hDc
        refine ⟨ws, e, small1000 (by rw [hw.1, List.length_take]; omega), same_upd hD (sm.trans s3), ws ++ [.ref g], upd_same, ?_⟩
        rw [take_snoc (x := (nT (fMul p.1 p.2 2 1) (p.2 * 1), nB (fMul p.1 p.2 2 1) (p.2 * 1))) (by rw [List.getElem?_map, hp]; rfl)]
        exact A2.snoc (A2.imp (hw.same s3) fun _ _ ⟨q, eq, f⟩ => ⟨q, eq, f.updl e⟩) ⟨g, rfl, f3.updl e⟩
      · rintro Hc ⟨sm, ws, hDc, hw⟩
        rw [List.take_of_length_le (by rw [List.length_map, xl]; exact Nat.le_refl _)] at hw
        refine ⟨D, ws, rfl, .inl ⟨SqL.of hDc, fun l hl => ⟨small1000 (Nat.le_of_ble_eq_true rfl), fun m hm => ?_⟩⟩⟩
        have s3 := same_new (o := .tup ws) hl
        have s4 := same_new (o := .tup [.str z, .ref l]) hm
        refine q' _ _ (JO.yes upd_same hz (s4 _ _ upd_same) (fvs2 ((hw.same s3).same s4)) (cd_two cd) s24 (by rw [List.length_map]; omega)) ((Rl.refl hd2).same ((sm.trans s3).trans s4))
    -- the odd ones
    have tw : ∀ {Hx : Hp} {m : Addr} {y : V}, Hx m = some (.tup [.str z, y]) → NumsR K C Hx y false → JO K C (sz + 3) Hx (.ref m) := fun hm ny => JO.no (.inr (.inr (.inr (.inr ⟨_, z, _, rfl, hm, hz, ny⟩))))
    have tf : ∀ {Hx : Hp} {m : Addr} {x y : V}, Hx m = some (.tup [x, y]) → Fst1 Hx x → JO K C (sz + 3) Hx (.ref m) := fun hm f => JO.no (.inr (.inr (.inl ⟨_, _, _, rfl, hm, f⟩)))
    have zok : PyData.strOk z = true := by rcases hz with e | e <;> rw [e] <;> decide +kernel
    have set1 : ∀ {Hx : Hp} {v : V} {p : Addr}, Fx Hx → Hx p = some (.tup (xs.set n v)) → (∃ T, Odd K Hx v T ∧ T ≠ "int") → NumsR K C Hx (.ref p) false := fun fx hp o => by
      obtain ⟨T, o, hT⟩ := o
      refine .inr ⟨_, _, (List.range xs.length).map (fun i => decide (i ≠ n)), rfl, hp, by rw [List.length_set]; omega, by rw [List.length_set, List.length_map, List.length_range], fun i y hy => ?_, ?_⟩
      · rw [List.getElem?_set] at hy
        have il : i < xs.length := by
          split at hy
          · next e => omega
          · exact (List.getElem?_eq_some_iff.mp hy).1
        refine ⟨decide (i ≠ n), by rw [List.getElem?_map, List.getElem?_range il]; rfl, ?_⟩
        split at hy
        · next e =>
          cases hy
          exact .inr (.inr ⟨T, o, hT, decide_eq_false fun c => c e.symm⟩)
        · next e =>
          obtain ⟨p, _, q, eq, f⟩ := fx.2.2.2 i y hy
          exact .inl ⟨q, _, _, eq, f, decide_eq_true fun c => e c.symm⟩
      · refine (Bool.eq_false_iff.mpr fun al => ?_).symm
        have := List.all_eq_true.mp al (decide (n ≠ n)) (List.mem_map.mpr ⟨n, List.mem_range.mpr nl, rfl⟩)
        simp at this
    dsimp only [tNext, tSeq, tAsg]
    refine ev_lst (K := K) (C := C) (t := sz + 3) (Fx := Fx) (evA_cons fs ?e1 (evA_cons fs ?e2 (evA_cons fs ?e3 (evA_cons fs ?e4 (evA_cons fs ?e5 (evA_cons fs ?e6 (evA_cons fs ?e7 (evA_cons fs ?e8 evA_nil)))))))) (by decide) fx2 fun l1 vs1 H3 s3 hl1 ln1 aj1 => ?_
    case e1 => exact fun H Q fx q => ⟨_, rfl, a, _, rfl, .inr (SqT.of fx.1), fun l hl => q _ _ (same_new hl) (JO.no (.inl ⟨_, .lst upd_same, by decide⟩))⟩
    case e2 => exact fun H Q fx q => ⟨_, rfl, small1000 (Nat.le_of_ble_eq_true rfl), fun l hl => q _ _ (same_new hl) (JO.no (.inr (.inl ⟨l, _, rfl, upd_same, fun e => (by cases e)⟩)))⟩
    case e3 => exact fun H Q fx q => ⟨_, rfl, _, rfl, b, _, rfl, .inr (SqT.of fx.2.1), fun l hl => ⟨small1000 (Nat.le_of_ble_eq_true rfl), fun m hm => q _ _ ((same_new hl).trans (same_new hm)) (tw upd_same (.inl ⟨_, .lst (same_new hm _ _ upd_same), by decide, rfl⟩))⟩⟩
    case e4 =>
      intro H Q fx q
      refine ⟨_, rfl, _, rfl, 1, rfl, _, rfl, slA_any fx.2.1 fun p H4 s4 e4 => ⟨small1000 (Nat.le_of_ble_eq_true rfl), fun m hm => ?_⟩⟩
      have e4 : H4 p = some (.tup (cutV xs none (some (-1)))) := e4
      rw [cut_last (by omega)] at e4
      have s5 := s4.trans (same_new (o := .tup [.str z, .ref p]) hm)
      have fx5 := fs _ _ fx s5
      refine q _ _ s5 (JO.yes upd_same hz (same_new hm _ _ e4) (qs := ps.take (xs.length - 1)) ⟨by rw [List.length_take, List.length_take, xl], fun i v hv => ?_⟩ ((cd.sub fun p m => List.mem_of_mem_take m).up (by omega)) s24 (by rw [List.length_take]; omega))
      rw [List.getElem?_take] at hv ⊢
      split at hv
      · next c =>
        rw [if_pos c]
        exact (fvs fx5.2.2).2 i v hv
      · cases hv
    case e5 =>
      intro H Q fx q
      refine ⟨_, rfl, _, rfl, small1000 (Nat.le_of_ble_eq_true rfl), fun l hl => ?_⟩
      refine catA_any (same_new hl _ _ fx.2.1) upd_same (by show _ + 1 < _; omega) fun p H4 s4 e4 => ⟨small1000 (Nat.le_of_ble_eq_true rfl), fun m hm => ?_⟩
      have s5 := ((same_new (o := .tup [.int 0]) hl).trans s4).trans (same_new (o := .tup [.str z, .ref p]) hm)
      have fx5 := fs _ _ fx s5
      exact q _ _ s5 (JO.yes upd_same hz (same_new hm _ _ e4) (A2.snoc (p := (0, 1)) (fvs fx5.2.2) (.inr ⟨rfl, rfl⟩)) ((cd_zero cd).up (by omega)) s24 (by rw [List.length_append]; show _ + 1 ≤ _; omega))
    case e6 =>
      intro H Q fx q
      refine ⟨_, rfl, small1000 (Nat.le_of_ble_eq_true rfl), fun l hl => ?_⟩
      refine catA_any (same_new hl _ _ fx.1) upd_same (Nat.le_of_ble_eq_true rfl) fun p H4 s4 e4 => ?_
      exact q _ _ ((same_new hl).trans s4) (JO.no (.inr (.inl ⟨p, _, rfl, e4, fun e => (by cases e)⟩)))
    case e7 => exact fun H Q fx q => q _ _ (Same.refl H) (JO.no (.inl ⟨_, .non, by decide⟩))
    case e8 => exact fun H Q fx q => ⟨_, rfl, q _ _ (Same.refl H) (JO.no (.inl ⟨_, .str z, by decide⟩))⟩
    have fx3 := fs _ _ fx2 s3
    have R3 := (Rl.refl hd2).same s3
    refine ⟨_, rfl, ?_⟩
    refine ev_lst (K := K) (C := C) (t := sz + 3) (Fx := Fx) (evA_cons fs ?f1 (evA_cons fs ?f2 (evA_cons fs ?f3 (evA_cons fs ?f4 (evA_cons fs ?f5 (evA_cons fs ?f6 evA_nil)))))) (by decide) fx3 fun l2 vs2 H4 s4 hl2 ln2 aj2 => ?_
    case f1 =>
      intro H Q fx q
      refine ⟨_, rfl, rfl, _, rfl, ite2 (fun e => ?_) (fun e => ?_)⟩
      · exact ⟨_, rfl, small1000 (Nat.le_of_ble_eq_true rfl), fun m hm => q _ _ (same_new hm) (JO.yes (z := wNone) upd_same (.inr rfl) (same_new hm _ _ fx.2.1) (fvs (fs _ _ fx (same_new hm)).2.2) (cd.up (by omega)) s24 (by omega))⟩
      · exact ⟨_, rfl, small1000 (Nat.le_of_ble_eq_true rfl), fun m hm => q _ _ (same_new hm) (JO.yes (z := wSol) upd_same (.inl rfl) (same_new hm _ _ fx.2.1) (fvs (fs _ _ fx (same_new hm)).2.2) (cd.up (by omega)) s24 (by omega))⟩
    case f2 => exact fun H Q fx q => ⟨_, rfl, small1000 (Nat.le_of_ble_eq_true rfl), fun m hm => q _ _ (same_new hm) (JO.no (.inr (.inr (.inr (.inl ⟨m, "fit", _, rfl, upd_same, by decide +kernel, by decide +kernel, by decide +kernel⟩)))))⟩
    case f3 => exact fun H Q fx q => ⟨_, rfl, small1000 (Nat.le_of_ble_eq_true rfl), fun m hm => q _ _ (same_new hm) (tw upd_same (.inl ⟨_, .non, by decide, rfl⟩))⟩
    case f4 => exact fun H Q fx q => ⟨_, rfl, small1000 (Nat.le_of_ble_eq_true rfl), fun m hm => q _ _ (same_new hm) (tf upd_same (.inl ⟨1, rfl⟩))⟩
    case f5 => exact fun H Q fx q => ⟨Nat.zero_le _, fun m hm => q _ _ (same_new hm) (JO.no (.inr (.inl ⟨m, _, rfl, upd_same, fun e => (by cases e)⟩)))⟩
    case f6 => exact fun H Q fx q => fun m hm => q _ _ (same_new hm) (JO.no (.inl ⟨_, .dK upd_same, by decide⟩))
    have hl1 := s4 _ _ hl1
    refine ⟨l1, l2, vs1, vs2, rfl, rfl, hl1, hl2, Nat.le_of_lt (small1000 (by omega)), fun l3 hl3 => ?_⟩
    have s5 := s4.trans (same_new (o := .lst (vs1 ++ vs2)) hl3)
    have e5 : (upd H4 l3 (.lst (vs1 ++ vs2))) l3 = some (.lst (vs1 ++ vs2)) := upd_same
    have aj5 : ∀ v ∈ vs1 ++ vs2, JO K C (sz + 3) (upd H4 l3 (.lst (vs1 ++ vs2))) v := fun v m => by
      rcases List.mem_append.mp m with m | m
      · exact (aj1 v m).same s5
      · exact (aj2 v m).same (same_new hl3)
    have ln5 : (vs1 ++ vs2).length = 14 := by rw [List.length_append]; omega
    have fx5 := fs _ _ fx3 s5
    have R5 := R3.same s5
    generalize upd H4 l3 _ = H5 at e5 aj5 fx5 R5 ⊢
    generalize vs1 ++ vs2 = vs3 at e5 aj5 ln5 ⊢
    refine ⟨_, rfl, ?_⟩
    refine ev_lst (K := K) (C := C) (t := sz + 3) (Fx := Fx) (evA_cons fs ?g1 (evA_cons fs ?g2 (evA_cons fs ?g3 evA_nil))) (by decide) fx5 fun l4 vs4 H6 s6 hl4 ln4 aj4 => ?_
    case g1 => exact fun H Q fx q => ⟨Nat.zero_le _, fun l hl => ⟨_, rfl, small1000 (Nat.le_of_ble_eq_true rfl), fun m hm => q _ _ ((same_new hl).trans (same_new hm)) (tf upd_same (.inr (.inl ⟨l, rfl, same_new hm _ _ upd_same⟩)))⟩⟩
    case g2 => exact fun H Q fx q => fun l hl => ⟨_, rfl, small1000 (Nat.le_of_ble_eq_true rfl), fun m hm => q _ _ ((same_new hl).trans (same_new hm)) (tf upd_same (.inr (.inr (.inl ⟨l, rfl, same_new hm _ _ upd_same⟩))))⟩
    case g3 => exact fun H Q fx q => ⟨_, rfl, small1000 (Nat.le_of_ble_eq_true rfl), fun l hl => ⟨_, rfl, small1000 (Nat.le_of_ble_eq_true rfl), fun m hm => q _ _ ((same_new hl).trans (same_new hm)) (tf upd_same (.inr (.inr (.inr ⟨l, z, rfl, same_new hm _ _ upd_same, zok⟩))))⟩⟩
    have e5 := s6 _ _ e5
    refine ⟨l3, l4, vs3, vs4, rfl, rfl, e5, hl4, Nat.le_of_lt (small1000 (by omega)), fun l5 hl5 => ?_⟩
    have s7 := s6.trans (same_new (o := .lst (vs3 ++ vs4)) hl5)
    have e7 : (upd H6 l5 (.lst (vs3 ++ vs4))) l5 = some (.lst (vs3 ++ vs4)) := upd_same
    have aj7 : ∀ v ∈ vs3 ++ vs4, JO K C (sz + 3) (upd H6 l5 (.lst (vs3 ++ vs4))) v := fun v m => by
      rcases List.mem_append.mp m with m | m
      · exact (aj5 v m).same s7
      · exact (aj4 v m).same (same_new hl5)
    have ln7 : (vs3 ++ vs4).length = 17 := by rw [List.length_append]; omega
    have fx7 := fs _ _ fx5 s7
    have R7 := R5.same s7
    generalize upd H6 l5 _ = H7 at e7 aj7 fx7 R7 ⊢
    generalize vs3 ++ vs4 = vs5 at e7 aj7 ln7 ⊢
    refine ⟨_, rfl, ?_⟩
    refine ev_lst (K := K) (C := C) (t := sz + 3) (Fx := Fx) (evA_cons fs ?h1 (evA_cons fs ?h2 evA_nil)) (by decide) fx7 fun l6 vs6 H8 s8 hl6 ln6 aj6 => ?_
    case h1 =>
      intro H Q fx q
      refine ⟨_, rfl, mid_ev (b := b) (xs := xs) (n := n) (v := .non) rfl rfl fx.2.1 nl (by omega) (fun H' Q' h => h) fun w0 H7 s7 e7 => ⟨small1000 (Nat.le_of_ble_eq_true rfl), fun m hm => ?_⟩⟩
      have s9 := s7.trans (same_new (o := .tup [.str z, .ref w0]) hm)
      exact q _ _ s9 (tw upd_same (set1 (fs _ _ fx s9) (same_new hm _ _ e7) ⟨_, .non, by decide⟩))
    case h2 =>
      intro H Q fx q
      refine ⟨_, rfl, mid_ev (b := b) (xs := xs) (n := n) (v := .bl true) rfl rfl fx.2.1 nl (by omega) (fun H' Q' h => h) fun w0 H7 s7 e7 => ⟨small1000 (Nat.le_of_ble_eq_true rfl), fun m hm => ?_⟩⟩
      have s9 := s7.trans (same_new (o := .tup [.str z, .ref w0]) hm)
      exact q _ _ s9 (tw upd_same (set1 (fs _ _ fx s9) (same_new hm _ _ e7) ⟨_, .bl true, by decide⟩))
    have e7 := s8 _ _ e7
    refine ⟨l5, l6, vs5, vs6, rfl, rfl, e7, hl6, Nat.le_of_lt (small1000 (by omega)), fun l7 hl7 => ?_⟩
    have s9 := s8.trans (same_new (o := .lst (vs5 ++ vs6)) hl7)
    have e9 : (upd H8 l7 (.lst (vs5 ++ vs6))) l7 = some (.lst (vs5 ++ vs6)) := upd_same
    have aj9 : ∀ v ∈ vs5 ++ vs6, JO K C (sz + 3) (upd H8 l7 (.lst (vs5 ++ vs6))) v := fun v m => by
      rcases List.mem_append.mp m with m | m
      · exact (aj7 v m).same s9
      · exact (aj6 v m).same (same_new hl7)
    have ln9 : (vs5 ++ vs6).length = 19 := by rw [List.length_append]; omega
    have R9 := R7.same s9
    have ld9 := dice_ne (R7.same s8).1 hl7
    generalize upd H8 l7 _ = H9 at e9 aj9 R9 ⊢
    refine ⟨_, rfl, _, rfl, d, l7, _, rfl, R9.1, e9, ld9, by omega, by omega, fun i y c1 c2 c3 hy => ?_⟩
    exact q' _ _ ((aj9 y (List.mem_of_getElem? hy)).rl R9.1 ((Rl.refl R9.1).roll)) (R9.trans ((Rl.refl R9.1).roll))
end
end FR
set_option Elab.async false
set_option linter.all false
set_option maxRecDepth 100000
set_option maxHeartbeats 4000000
/-! sums of products of fractions -/
namespace FR
open RF
def dotQ : List PI → List PI → Rat
  | p :: ps, c :: cs => val p * val c + dotQ ps cs
  | _, _ => 0
theorem top_val {p : PI} {m : Int} (h : Lf p.1 p.2) (d : p.2 ∣ m) : ((p.1 * m.fdiv p.2 : Int) : Rat) = (m : Rat) * val p := by
  have e := Int.fdiv_mul_cancel d
  have b := cast_ne h.ne
  have e2 : (m.fdiv p.2 : Rat) * p.2 = m := by rw [← Rat.intCast_mul, e]
  rw [Rat.intCast_mul]
  unfold val
  grind
theorem dot_tops {m1 m2 : Int} : ∀ {ps cs : List PI}, AllLf ps → AllLf cs → (∀ p ∈ ps, p.2 ∣ m1) → (∀ p ∈ cs, p.2 ∣ m2) → (dotI (topsP ps m1) (topsP cs m2) : Rat) = (m1 : Rat) * m2 * dotQ ps cs
  | [], [], _, _, _, _ => by show ((0 : Int) : Rat) = _ * (0 : Rat); grind
  | [], _ :: _, _, _, _, _ => by show ((0 : Int) : Rat) = _ * (0 : Rat); grind
  | _ :: _, [], _, _, _, _ => by show ((0 : Int) : Rat) = _ * (0 : Rat); grind
  | p :: ps, c :: cs, h1, h2, d1, d2 => by
    have ih := dot_tops (ps := ps) (cs := cs) (fun q hq => h1 q (List.mem_cons_of_mem _ hq)) (fun q hq => h2 q (List.mem_cons_of_mem _ hq)) (fun q hq => d1 q (List.mem_cons_of_mem _ hq)) (fun q hq => d2 q (List.mem_cons_of_mem _ hq))
    have a := top_val (h1 p List.mem_cons_self) (d1 p List.mem_cons_self)
    have b := top_val (h2 c List.mem_cons_self) (d2 c List.mem_cons_self)
    have e : dotI (topsP (p :: ps) m1) (topsP (c :: cs) m2) = (p.1 * m1.fdiv p.2) * (c.1 * m2.fdiv c.2) + dotI (topsP ps m1) (topsP cs m2) := by
      unfold dotI topsP
      simp only [List.map_cons, List.zipWith_cons_cons, List.sum_cons]
    rw [e, Rat.intCast_add, Rat.intCast_mul, ih, a, b]
    show _ = _ * (val p * val c + dotQ ps cs)
    grind
theorem dotP_val {ps cs : List PI} (h1 : AllLf ps) (h2 : AllLf cs) : Lf (dotP ps cs).1 (dotP ps cs).2 ∧ val (dotP ps cs) = dotQ ps cs := by
  have a := lcmP_pos h1
  have b := lcmP_pos h2
  have n : lcmP ps * lcmP cs ≠ 0 := Int.mul_ne_zero (by omega) (by omega)
  refine ⟨lf_n n, ?_⟩
  show val (nT _ _, nB _ _) = _
  rw [val_n n, dot_tops h1 h2 (lcmP_dvd ps) (lcmP_dvd cs), Rat.intCast_mul]
  have a' := cast_ne (show lcmP ps ≠ 0 by omega)
  have b' := cast_ne (show lcmP cs ≠ 0 by omega)
  grind
theorem prodP_val {ps cs : List PI} (h1 : AllLf ps) (h2 : AllLf cs) : Lf (prodP ps cs).1 (prodP ps cs).2 ∧ val (prodP ps cs) = dotQ ps cs := by
  have go : ∀ (ps cs : List PI) (acc : PI), AllLf ps → AllLf cs → Lf acc.1 acc.2 → Lf ((ps.zip cs).foldl (fun acc pr => plusP acc (byP pr.1 pr.2)) acc).1 ((ps.zip cs).foldl (fun acc pr => plusP acc (byP pr.1 pr.2)) acc).2 ∧ val ((ps.zip cs).foldl (fun acc pr => plusP acc (byP pr.1 pr.2)) acc) = val acc + dotQ ps cs := by
    intro ps
    induction ps with
    | nil => intro cs acc _ _ h; exact ⟨h, by show val acc = val acc + 0; grind⟩
    | cons p ps ih =>
      intro cs acc a1 a2 h
      cases cs with
      | nil => exact ⟨h, by show val acc = val acc + 0; grind⟩
      | cons c cs =>
        have lp := a1 p List.mem_cons_self
        have lc' := a2 c List.mem_cons_self
        have lb : Lf (byP p c).1 (byP p c).2 := lf_n (Int.mul_ne_zero lp.ne lc'.ne)
        have la : Lf (plusP acc (byP p c)).1 (plusP acc (byP p c)).2 := lf_n (Int.mul_ne_zero h.ne lb.ne)
        obtain ⟨i1, i2⟩ := ih cs (plusP acc (byP p c)) (fun q hq => a1 q (List.mem_cons_of_mem _ hq)) (fun q hq => a2 q (List.mem_cons_of_mem _ hq)) la
        refine ⟨i1, ?_⟩
        show val ((ps.zip cs).foldl _ (plusP acc (byP p c))) = _
        rw [i2, val_plus h lb, val_by lp lc']
        show _ = _ + (val p * val c + dotQ ps cs)
        grind
  obtain ⟨a, b⟩ := go ps cs (0, 1) h1 h2 (Lf.one 0)
  refine ⟨a, ?_⟩
  show val ((ps.zip cs).foldl _ (0, 1)) = _
  rw [b]
  have : val (0, 1) = 0 := (val_zero (p := (0, 1)) (Lf.one 0)).mpr rfl
  rw [this]; grind
theorem dot_prod {ps cs : List PI} (h1 : AllLf ps) (h2 : AllLf cs) : dotP ps cs = prodP ps cs := by
  obtain ⟨a, b⟩ := dotP_val h1 h2
  obtain ⟨c, d⟩ := prodP_val h1 h2
  exact val_inj a c (by rw [b, d])
/-! ### the cleared forms -/
theorem line_val {ps : List PI} (h : AllLf ps) (j : Nat) : vec (lineP ps) j = (lcmP ps : Rat) * valV ps j := by
  by_cases hj : j < ps.length
  · obtain ⟨p, hp⟩ : ∃ p, ps[j]? = some p := ⟨_, List.getElem?_eq_getElem hj⟩
    have m := List.mem_of_getElem? hp
    have e : (lineP ps)[j]? = some (p.1 * (lcmP ps).fdiv p.2) := by
      unfold lineP topsP
      rw [List.getElem?_map, hp]; rfl
    show ((ent (lineP ps) j : Int) : Rat) = _
    rw [ent_some e, valV_get hp]
    exact top_val (h p m) (lcmP_dvd ps p m)
  · have e : (lineP ps).length ≤ j := by unfold lineP topsP; rw [List.length_map]; omega
    show ((ent (lineP ps) j : Int) : Rat) = _
    rw [ent_none e, valV_out (by omega)]
    show ((0 : Int) : Rat) = _
    grind
theorem val01 : val (0, 1) = 0 := (val_zero (p := (0, 1)) (Lf.one 0)).mpr rfl
theorem S_one_add {k : Nat} {f : Nat → Rat} : S (k + 1) f = f 0 + S k (fun i => f (i + 1)) := by
  induction k with
  | zero => simp only [S]; grind
  | succ k ih =>
    show S (k + 1) f + f (k + 1) = _
    rw [ih]
    simp only [S]
    grind
theorem valV_nil (i : Nat) : valV [] i = 0 := valV_out (Nat.zero_le _)
theorem dotQ_S : ∀ {n : Nat} {ps cs : List PI}, ps.length ≤ n → dotQ ps cs = S n (fun i => valV ps i * valV cs i)
  | n, [], [], _ => (S_zero fun i _ => by show valV [] i * _ = 0; rw [valV_nil]; grind).symm
  | n, [], _ :: _, _ => (S_zero fun i _ => by show valV [] i * _ = 0; rw [valV_nil]; grind).symm
  | n, _ :: _, [], _ => (S_zero fun i _ => by show _ * valV [] i = 0; rw [valV_nil]; grind).symm
  | 0, p :: ps, c :: cs, h => by simp at h
  | n + 1, p :: ps, c :: cs, h => by
    have ih := dotQ_S (n := n) (ps := ps) (cs := cs) (by simpa using h)
    show val p * val c + dotQ ps cs = _
    rw [S_one_add, ih]
    rfl
theorem dotQ_comm : ∀ (ps cs : List PI), dotQ ps cs = dotQ cs ps
  | [], [] => rfl
  | [], _ :: _ => rfl
  | _ :: _, [] => rfl
  | p :: ps, c :: cs => by
    show val p * val c + dotQ ps cs = val c * val p + dotQ cs ps
    rw [dotQ_comm ps cs]; grind
def setP (fs : List PI) (z : Nat × PI) : List PI := fs.set z.1 z.2
theorem valV_set {fs : List PI} {i : Nat} {p : PI} (h : i < fs.length) (j : Nat) : valV (fs.set i p) j = if i = j then val p else valV fs j := by
  unfold valV
  rw [List.getD_eq_getElem?_getD, List.getElem?_set]
  by_cases e : i = j
  · subst e
    rw [if_pos rfl, if_pos h, if_pos rfl]; rfl
  · rw [if_neg e, if_neg e, List.getD_eq_getElem?_getD]
theorem valV_rep (n j : Nat) : valV (List.replicate n (0, 1)) j = 0 := by
  unfold valV
  rw [List.getD_eq_getElem?_getD, List.getElem?_replicate]
  split
  · exact val01
  · exact val01
theorem S_set {m : Nat} {a : Nat → Rat} {fs : List PI} {i0 : Nat} {p : PI} (hm : i0 < m) (hl : fs.length = m) : S m (fun i => a i * valV (fs.set i0 p) i) = S m (fun i => a i * valV fs i) + a i0 * (val p - valV fs i0) := by
  have e : S m (fun i => if i0 = i then a i0 * (val p - valV fs i0) else 0) = a i0 * (val p - valV fs i0) := by
    rw [S_one hm]
    · rw [if_pos rfl]
    · intro i _ ne
      rw [if_neg (Ne.symm ne)]
  rw [← e, ← S_add]
  refine S_congr fun i hi => ?_
  rw [valV_set (by omega)]
  by_cases z : i0 = i
  · subst z
    rw [if_pos rfl, if_pos rfl]; grind
  · rw [if_neg z, if_neg z]; grind
theorem fold_sum (a : Nat → Rat) {m : Nat} : ∀ (zs : List (Nat × PI)) (fs : List PI), fs.length = m → (zs.map (·.1)).Nodup → (∀ z ∈ zs, z.1 < m) → (∀ z ∈ zs, valV fs z.1 = 0) →
    S m (fun i => a i * valV (zs.foldl setP fs) i) = S m (fun i => a i * valV fs i) + S zs.length (fun k => a (zs.getD k (0, (0, 1))).1 * val (zs.getD k (0, (0, 1))).2)
  | [], fs, _, _, _, _ => by
    show S m (fun i => a i * valV fs i) = _ + (0 : Rat)
    grind
  | z :: zs, fs, hl, nd, hm, h0 => by
    rw [List.map_cons, List.nodup_cons] at nd
    have hz := hm z List.mem_cons_self
    have ih := fold_sum a (m := m) zs (setP fs z) (by unfold setP; rw [List.length_set]; exact hl) nd.2 (fun y my => hm y (List.mem_cons_of_mem _ my)) (fun y my => by
      unfold setP
      have ne : ¬ z.1 = y.1 := fun e => nd.1 (by rw [e]; exact List.mem_map.mpr ⟨y, my, rfl⟩)
      rw [valV_set (by omega), if_neg ne]
      exact h0 y (List.mem_cons_of_mem _ my))
    show S m (fun i => a i * valV (zs.foldl setP (setP fs z)) i) = _ + S (zs.length + 1) _
    rw [ih, S_one_add]
    unfold setP
    rw [S_set hz hl, h0 z List.mem_cons_self]
    show _ = _ + (a z.1 * val z.2 + S zs.length (fun k => a (zs.getD k (0, (0, 1))).1 * val (zs.getD k (0, (0, 1))).2))
    grind
theorem fold_len : ∀ (zs : List (Nat × PI)) (fs : List PI), (zs.foldl setP fs).length = fs.length
  | [], _ => rfl
  | z :: zs, fs => by
    show (zs.foldl setP (setP fs z)).length = _
    rw [fold_len zs]
    unfold setP
    rw [List.length_set]
theorem fold_mem : ∀ (zs : List (Nat × PI)) (fs : List PI) (p : PI), p ∈ zs.foldl setP fs → p ∈ fs ∨ ∃ z ∈ zs, p = z.2
  | [], _, _, h => .inl h
  | z :: zs, fs, p, h => by
    rcases fold_mem zs (setP fs z) p h with e | ⟨y, my, e⟩
    · unfold setP at e
      rcases List.mem_or_eq_of_mem_set e with e | e
      · exact .inl e
      · exact .inr ⟨z, List.mem_cons_self, e⟩
    · exact .inr ⟨y, List.mem_cons_of_mem _ my, e⟩
theorem S_zz {n : Nat} {a : Nat → Rat} {k : Nat} : S n (fun i => a i * valV (List.replicate k (0, 1)) i) = 0 := S_zero fun i _ => by rw [valV_rep]; grind
end FR
set_option Elab.async false
set_option linter.all false
set_option maxRecDepth 100000
set_option maxHeartbeats 4000000
/-! the run of solution -/
namespace FR
open RF
structure Good (w : Nat) (pss : List (List PI)) : Prop where
  w4 : w ≤ 4
  ln : ∀ ps ∈ pss, ps.length = w + 1
  cd : ∀ ps ∈ pss, Cd 20 ps
theorem pss_mem {pss : List (List PI)} {i : Nat} (h : i < pss.length) : pss.getD i [] ∈ pss := by
  rw [List.getD_eq_getElem?_getD, List.getElem?_eq_getElem h]; exact List.getElem_mem _
theorem lineP_len (ps : List PI) : (lineP ps).length = ps.length := by unfold lineP topsP; rw [List.length_map]
theorem sh_of {l : List Int} {s : Nat} (h : ∀ x ∈ l, x.natAbs < 2 ^ s) : Sh l s := fun j => by
  by_cases hj : j < l.length
  · have g := get_ent hj
    exact h _ (List.mem_of_getElem? g)
  · rw [ent_none (by omega)]
    exact Nat.pow_pos (by decide)
theorem ent_left {a b : List Int} {j : Nat} (h : j < a.length) : ent (a ++ b) j = ent a j := by
  unfold ent
  rw [List.getD_eq_getElem?_getD, List.getD_eq_getElem?_getD, List.getElem?_append_left h]
theorem ent_right {a b : List Int} (j : Nat) : ent (a ++ b) (a.length + j) = ent b j := by
  unfold ent
  rw [List.getD_eq_getElem?_getD, List.getD_eq_getElem?_getD, List.getElem?_append_right (Nat.le_add_right _ _), Nat.add_sub_cancel_left]
theorem ex_lo {w k j : Nat} {ps : List PI} (h : ps.length = w + 1) (hj : j ≤ w) : ent (exL w ps k) j = ent (lineP ps) j := by
  unfold exL
  exact ent_left (by rw [lineP_len, h]; omega)
theorem ex_hi {w k j : Nat} {ps : List PI} (h : ps.length = w + 1) (hj : j ≤ w) : ent (exL w ps k) (w + 1 + j) = if j = k then 1 else 0 := by
  unfold exL
  have e := ent_right (a := lineP ps) (b := markL k (w + 1)) j
  rw [lineP_len, h] at e
  rw [e]
  refine ent_some ?_
  unfold markL
  rw [List.getElem?_map, List.getElem?_range (by omega)]
  rfl
theorem ex_sz {w k : Nat} {ps : List PI} (h : Cd 20 ps) : Sh (exL w ps k) 20 := sh_of fun x mx => by
  unfold exL at mx
  rcases List.mem_append.mp mx with m | m
  · exact h.line x m
  · unfold markL at m
    obtain ⟨n, _, e⟩ := List.mem_map.mp m
    rw [← e]
    split <;> decide
def Lt (w : Nat) (pss : List (List PI)) (tk : TK) : List Vec := (List.range tk.length).map fun k => vec (exL w (pss.getD (tk.getD k (0, 0)).1 []) k)
theorem Lt_snoc {w : Nat} {pss : List (List PI)} {tk : TK} {z : Nat × Int} : Lt w pss (tk ++ [z]) = Lt w pss tk ++ [vec (exL w (pss.getD z.1 []) tk.length)] := by
  unfold Lt
  have e : (tk ++ [z]).length = tk.length + 1 := by rw [List.length_append]; rfl
  rw [e, List.range_succ, List.map_append]
  congr 1
  · refine List.map_congr_left fun k hk => ?_
    have hk := List.mem_range.mp hk
    have e : (tk ++ [z]).getD k (0, 0) = tk.getD k (0, 0) := by rw [List.getD_eq_getElem?_getD, List.getElem?_append_left hk, List.getD_eq_getElem?_getD]
    rw [e]
  · have e : (tk ++ [z]).getD tk.length (0, 0) = z := by rw [List.getD_eq_getElem?_getD, List.getElem?_append_right (Nat.le_refl _), Nat.sub_self]; rfl
    rw [List.map_singleton, e]
theorem place_get {w q : Nat} {rest : List Int} (h : placeE w rest = some q) : q < w ∧ (∀ j, j < q → ent rest j = 0) ∧ ent rest q ≠ 0 := by
  unfold placeE at h
  rw [List.find?_range_eq_some] at h
  obtain ⟨a, b, c⟩ := h
  refine ⟨List.mem_range.mp b, fun j hj => ?_, of_decide_eq_true a⟩
  have := c j hj
  by_cases z : ent rest j = 0
  · exact z
  · rw [decide_eq_true z] at this; cases this
theorem place_not {w : Nat} {rest : List Int} (h : placeE w rest = none) : ∀ j, j < w → ent rest j = 0 := fun j hj => by
  unfold placeE at h
  rw [List.find?_eq_none] at h
  have := h j (List.mem_range.mpr hj)
  by_cases z : ent rest j = 0
  · exact z
  · exact absurd (decide_eq_true z) this
structure RI (w i : Nat) (pss : List (List PI)) (st : SE) : Prop where
  ei : EI (2 * w + 2) st.rows st.places st.d (Lt w pss st.tk)
  pl : ∀ p ∈ st.places, p < w
  ln : st.tk.length = st.rows.length
  tk : ∀ z ∈ st.tk, z.1 < i ∧ z.2 = lcmP (pss.getD z.1 [])
  nd : (st.tk.map (·.1)).Nodup
  rep : ∀ j, j < i → ∃ v, Sp (Lt w pss st.tk) v ∧ ∀ c, c ≤ w → v c = vec (lineP (pss.getD j [])) c
  sz : ∀ r ∈ st.rows, Sh r (szk 20 st.rows.length)
  dz : st.d.natAbs < 2 ^ szk 20 st.rows.length
  few : st.rows.length ≤ w
theorem RI.start {w : Nat} {pss : List (List PI)} : RI w 0 pss ⟨[], [], 1, []⟩ :=
  ⟨EI.start, fun p h => (by cases h), rfl, fun z h => (by cases h), List.nodup_nil, fun j h => absurd h (by omega), fun r h => (by cases h), by decide, Nat.zero_le _⟩
theorem RI.rq {w i k : Nat} {pss : List (List PI)} {st : SE} (I : RI w i pss st) {ps : List PI} (hp : ps.length = w + 1) (hk : k = st.tk.length) (j : Nat) :
    RF.rest st.rows.length (fun i j => (ent (st.rows.getD i []) j : Rat) / st.d) (fun i => st.places.getD i 0) (vec (exL w ps k)) j = (ent (restE w ps st) j : Rat) / st.d := by
  subst hk
  have e := I.ei.rest (exL_len (k := st.tk.length) hp) j
  have d0 := cast_ne I.ei.d0
  unfold restE
  rw [e]
  grind
theorem RI.room {w i : Nat} {pss : List (List PI)} {st : SE} (I : RI w i pss st) {ps : List PI} (hp : ps.length = w + 1) {q : Nat} (hq : q < w) (h0 : ∀ j, j < q → ent (restE w ps st) j = 0) (h1 : ent (restE w ps st) q ≠ 0) : st.rows.length + 1 ≤ w := by
  have d0 := cast_ne I.ei.d0
  have F := I.ei.fm.take (x := vec (exL w ps st.tk.length)) (q := q) (by omega) (fun j hj => by rw [I.rq hp rfl, h0 j hj]; grind) (by
    rw [I.rq hp rfl]
    intro z
    have : (ent (restE w ps st) q : Rat) = 0 := by grind
    exact h1 (Rat.intCast_inj.mp this))
  refine pigeon w _ (newP st.rows.length (fun i => st.places.getD i 0) q) (fun m hm => ?_) fun a b ha hb e => F.inj ha hb e
  unfold newP
  split
  · next z =>
    refine I.pl _ ?_
    show st.places.getD m 0 ∈ _
    rw [List.getD_eq_getElem?_getD, List.getElem?_eq_getElem (by rw [← I.ei.ln]; exact z)]
    exact List.getElem_mem _
  · exact hq
theorem RI.take {w i : Nat} {pss : List (List PI)} {st : SE} (I : RI w i pss st) (w4 : w ≤ 4) (hp : (pss.getD i []).length = w + 1) (hc : Cd 20 (pss.getD i [])) {q : Nat} (hq : q < w) (h0 : ∀ j, j < q → ent (restE w (pss.getD i []) st) j = 0) (h1 : ent (restE w (pss.getD i []) st) q ≠ 0) :
    RI w (i + 1) pss ⟨clearedBy st.rows (restE w (pss.getD i []) st) q st.d ++ [restE w (pss.getD i []) st], st.places ++ [q], ent (restE w (pss.getD i []) st) q, st.tk ++ [(i, lcmP (pss.getD i []))]⟩ := by
  have room := I.room hp hq h0 h1
  have el := exL_len (k := st.tk.length) hp
  have es : Sh (exL w (pss.getD i []) st.tk.length) 20 := ex_sz hc
  have rz := rest_sz (m := szk 20 st.rows.length) (t := 20) el I.ei.ln (by omega) I.ei.wd I.sz I.dz es
  have rl : (restE w (pss.getD i []) st).length = 2 * w + 2 := rest_len el fun p hp => I.ei.wd _ (List.of_mem_zip (show (p.1, p.2) ∈ _ from hp)).1
  have ez := I.ei.take (by omega) el (q := q) (by omega) h0 h1
  have nl : (clearedBy st.rows (restE w (pss.getD i []) st) q st.d ++ [restE w (pss.getD i []) st]).length = st.rows.length + 1 := by rw [List.length_append]; unfold clearedBy; rw [List.length_map]; rfl
  have cz := cleared_sz (q := q) (d := st.d) I.ei.wd rl I.sz rz
  have sk : szk 20 (st.rows.length + 1) = 2 * szk 20 st.rows.length + 35 := rfl
  refine ⟨?_, fun p hp => ?_, ?_, fun z hz => ?_, ?_, fun j hj => ?_, fun r hr => ?_, ?_, ?_⟩
  · show EI _ _ _ _ (Lt w pss (st.tk ++ [(i, lcmP (pss.getD i []))]))
    rw [Lt_snoc]
    exact ez
  · rcases List.mem_append.mp hp with m | m
    · exact I.pl p m
    · rw [List.mem_singleton.mp m]; exact hq
  · show (st.tk ++ [(i, lcmP (pss.getD i []))]).length = _
    rw [nl, List.length_append, I.ln]; rfl
  · rcases List.mem_append.mp hz with m | m
    · exact ⟨by have := (I.tk z m).1; omega, (I.tk z m).2⟩
    · rw [List.mem_singleton.mp m]; exact ⟨by show i < i + 1; omega, rfl⟩
  · show ((st.tk ++ [(i, lcmP (pss.getD i []))]).map (·.1)).Nodup
    rw [List.map_append, List.nodup_append]
    refine ⟨I.nd, by simp, fun a ha b hb e => ?_⟩
    obtain ⟨z, mz, rfl⟩ := List.mem_map.mp ha
    have := (I.tk z mz).1
    have hb : b = i := by simpa using hb
    omega
  · show ∃ v, Sp (Lt w pss (st.tk ++ [(i, lcmP (pss.getD i []))])) v ∧ _
    rw [Lt_snoc]
    by_cases e : j < i
    · obtain ⟨v, s, g⟩ := I.rep j e
      exact ⟨v, s.mono fun x hx => .mem (List.mem_append_left _ hx), g⟩
    · have e : j = i := by omega
      subst e
      refine ⟨_, .mem (List.mem_append_right _ (List.mem_singleton.mpr rfl)), fun c hc => ?_⟩
      show ((ent _ c : Int) : Rat) = _
      rw [ex_lo hp hc]; rfl
  · show Sh r (szk 20 (clearedBy st.rows (restE w (pss.getD i []) st) q st.d ++ [restE w (pss.getD i []) st]).length)
    rw [nl, sk]
    intro j
    exact pow_up ((cz r hr).2 j) (by omega)
  · show _ < 2 ^ szk 20 (clearedBy st.rows (restE w (pss.getD i []) st) q st.d ++ [restE w (pss.getD i []) st]).length
    rw [nl, sk]
    exact pow_up (rz q) (by omega)
  · show (clearedBy st.rows (restE w (pss.getD i []) st) q st.d ++ [restE w (pss.getD i []) st]).length ≤ w
    rw [nl]; exact room
theorem RI.hang {w i : Nat} {pss : List (List PI)} {st : SE} (I : RI w i pss st) (hp : (pss.getD i []).length = w + 1) (h0 : ∀ j, j ≤ w → ent (restE w (pss.getD i []) st) j = 0) : RI w (i + 1) pss st := by
  refine ⟨I.ei, I.pl, I.ln, fun z hz => ⟨by have := (I.tk z hz).1; omega, (I.tk z hz).2⟩, I.nd, fun j hj => ?_, I.sz, I.dz, I.few⟩
  by_cases e : j < i
  · exact I.rep j e
  · have e : j = i := by omega
    subst e
    refine ⟨_, Sp.sum (c := fun m => vec (exL w (pss.getD j []) st.tk.length) (st.places.getD m 0)) fun m hm => I.ei.fm.spn m hm, fun c hc => ?_⟩
    have r := I.rq hp rfl c
    rw [h0 c hc] at r
    unfold RF.rest at r
    have x : vec (exL w (pss.getD j []) st.tk.length) c = vec (lineP (pss.getD j [])) c := by
      show ((ent _ c : Int) : Rat) = _
      rw [ex_lo hp hc]; rfl
    have z : ((0 : Int) : Rat) / st.d = 0 := by grind
    rw [z, x] at r
    grind
theorem marks {w : Nat} {pss : List (List PI)} {tk : TK} (hk : tk.length ≤ w + 1) (hp : ∀ z ∈ tk, (pss.getD z.1 []).length = w + 1) {v : Vec} (h : Sp (Lt w pss tk) v) : ∀ j, j ≤ w → v j = S tk.length fun k => v (w + 1 + k) * vec (lineP (pss.getD (tk.getD k (0, 0)).1 [])) j := by
  have pl : ∀ k, k < tk.length → (pss.getD (tk.getD k (0, 0)).1 []).length = w + 1 := fun k hk => hp _ (by rw [List.getD_eq_getElem?_getD, List.getElem?_eq_getElem hk]; exact List.getElem_mem _)
  induction h with
  | zero => intro j _; exact (S_zero fun k _ => by show (0 : Rat) * _ = 0; grind).symm
  | mem m =>
    intro j hj
    unfold Lt at m
    obtain ⟨k, hk', e⟩ := List.mem_map.mp m
    have hk' := List.mem_range.mp hk'
    rw [← e, S_one hk']
    · show ((ent _ j : Int) : Rat) = ((ent _ (w + 1 + k) : Int) : Rat) * _
      rw [ex_lo (pl k hk') hj, ex_hi (pl k hk') (by omega), if_pos rfl]
      show vec _ j = ((1 : Int) : Rat) * _
      grind
    · intro k2 hk2 ne
      show ((ent _ (w + 1 + k2) : Int) : Rat) * _ = 0
      rw [ex_hi (pl k hk') (by omega), if_neg ne]
      show ((0 : Int) : Rat) * _ = 0
      grind
  | add _ _ a b =>
    intro j hj
    show _ + _ = _
    rw [a j hj, b j hj, ← S_add]
    exact S_congr fun k _ => by grind
  | smul c _ a =>
    intro j hj
    show c * _ = _
    rw [a j hj, ← S_mul]
    exact S_congr fun k _ => by grind
theorem RI.bar {w i : Nat} {pss : List (List PI)} {st : SE} (I : RI w i pss st) (g : Good w pss) (hi : i < pss.length) (b : Int) : ∀ j, j ≤ w → (ent (restE w (pss.getD i []) st) j : Rat) = S (st.tk.length + 1) fun k => (ent (restE w (pss.getD i []) st) (w + 1 + k) : Rat) * vec (lineP (pss.getD ((st.tk ++ [(i, b)]).getD k (0, 0)).1 [])) j := by
  have hp := g.ln _ (pss_mem hi)
  have nl : (st.tk ++ [(i, b)]).length = st.tk.length + 1 := by rw [List.length_append]; rfl
  have d0 := cast_ne I.ei.d0
  have s : Sp (Lt w pss (st.tk ++ [(i, b)])) fun j => (ent (restE w (pss.getD i []) st) j : Rat) := by
    rw [Lt_snoc]
    have a : Sp (Lt w pss st.tk ++ [vec (exL w (pss.getD i []) st.tk.length)]) (vec (exL w (pss.getD i []) st.tk.length)) := .mem (List.mem_append_right _ (List.mem_singleton.mpr rfl))
    have c := Sp.sum (c := fun m => vec (exL w (pss.getD i []) st.tk.length) (st.places.getD m 0)) fun m hm => (I.ei.fm.spn m hm).mono fun y hy => Sp.mem (L := Lt w pss st.tk ++ [vec (exL w (pss.getD i []) st.tk.length)]) (List.mem_append_left _ hy)
    refine (Sp.smul (st.d : Rat) (a.sub 1 c)).of_eq fun j => ?_
    have r := I.rq hp rfl j
    unfold RF.rest at r
    grind
  have z := marks (w := w) (pss := pss) (tk := st.tk ++ [(i, b)]) (by rw [nl, I.ln]; have := I.few; omega) (fun z mz => by
    rcases List.mem_append.mp mz with m | m
    · exact g.ln _ (pss_mem (by have := (I.tk z m).1; omega))
    · rw [List.mem_singleton.mp m]; exact hp) s
  intro j hj
  have y := z j hj
  rw [nl] at y
  exact y
theorem run_ri {w : Nat} {pss : List (List PI)} (g : Good w pss) : ∀ i, i ≤ pss.length → (∃ s, runE w pss i = .inl s ∧ RI w i pss s) ∨
    (∃ i0 s, i0 < i ∧ RI w i0 pss s ∧ placeE w (restE w (pss.getD i0 []) s) = none ∧ ent (restE w (pss.getD i0 []) s) w ≠ 0 ∧ runE w pss i = .inr (s.tk ++ [(i0, lcmP (pss.getD i0 []))], (restE w (pss.getD i0 []) s).drop w))
  | 0, _ => .inl ⟨_, rfl, RI.start⟩
  | i + 1, h => by
    rcases run_ri g i (by omega) with ⟨s, e, I⟩ | ⟨i0, s, hi, I, a, b, c⟩
    · have m := pss_mem (i := i) (pss := pss) (by omega)
      have hp := g.ln _ m
      have hc := g.cd _ m
      cases pe : placeE w (restE w (pss.getD i []) s) with
      | some q =>
        obtain ⟨p1, p2, p3⟩ := place_get pe
        refine .inl ⟨_, ?_, I.take g.w4 hp hc p1 p2 p3⟩
        rw [runE_inl e]
        unfold stepE
        rw [pe]
      | none =>
        have p0 := place_not pe
        by_cases z : ent (restE w (pss.getD i []) s) w ≠ 0
        · refine .inr ⟨i, s, by omega, I, pe, z, ?_⟩
          rw [runE_inl e]
          unfold stepE
          rw [pe]
          show (if ent (restE w (pss.getD i []) s) w ≠ 0 then _ else _) = _
          rw [if_pos z]
        · refine .inl ⟨s, ?_, I.hang hp fun j hj => ?_⟩
          · rw [runE_inl e]
            unfold stepE
            rw [pe]
            show (if ent (restE w (pss.getD i []) s) w ≠ 0 then _ else _) = _
            rw [if_neg z]
          · by_cases y : j < w
            · exact p0 j y
            · have : j = w := by omega
              rw [this]
              exact Classical.not_not.mp z
    · exact .inr ⟨i0, s, by omega, I, a, b, by
        show (match runE w pss i with | .inr x => Sum.inr x | .inl st => stepE w i (pss.getD i []) st) = _
        rw [c]⟩
theorem run_st {w i : Nat} {pss : List (List PI)} {s : SE} (g : Good w pss) (hi : i ≤ pss.length) (h : runE w pss i = .inl s) : RI w i pss s := by
  rcases run_ri g i hi with ⟨s2, e, I⟩ | ⟨i0, s2, _, _, _, _, c⟩
  · rw [h] at e
    cases e
    exact I
  · rw [h] at c
    cases c
theorem szk20 {k : Nat} (h : k ≤ 4) : szk 20 k ≤ 541 := by
  have : k = 0 ∨ k = 1 ∨ k = 2 ∨ k = 3 ∨ k = 4 := by omega
  rcases this with e | e | e | e | e <;> subst e <;> decide
theorem RI.rz {w i : Nat} {pss : List (List PI)} {st : SE} (I : RI w i pss st) (g : Good w pss) (hi : i < pss.length) : Sh (restE w (pss.getD i []) st) 564 := by
  have m := pss_mem hi
  have hp := g.ln _ m
  have hc := g.cd _ m
  have w4 := g.w4
  have few := I.few
  intro j
  have z := rest_sz (m := szk 20 st.rows.length) (t := 20) (exL_len (k := st.tk.length) hp) I.ei.ln (by omega) I.ei.wd I.sz I.dz (ex_sz hc) j
  have := szk20 (k := st.rows.length) (by omega)
  exact pow_up z (by omega)
theorem fitE {w : Nat} {pss : List (List PI)} (g : Good w pss) : FitE w pss := by
  have w4 := g.w4
  refine ⟨fun i hi s h => ?_, fun i hi s h => ?_⟩
  · have I := run_st g hi h
    have few := I.few
    have k4 := szk20 (k := s.rows.length) (by omega)
    refine ⟨⟨szk 20 s.rows.length, szk_pos _ _, by omega, I.ei.ln, by omega, fun r hr => ⟨I.ei.wd r hr, I.sz r hr⟩, fun p hp => by have := I.pl p hp; omega, I.dz⟩, I.ei.d0, I.pl, I.ln, fun p hp => ?_, by omega⟩
    obtain ⟨a, b⟩ := I.tk p hp
    refine ⟨a, ?_⟩
    rw [b]
    exact pow_up (g.cd _ (pss_mem (by omega))).lcm (by omega)
  · have I := run_st g (by omega) h
    exact ⟨20, by omega, by omega, ex_sz (g.cd _ (pss_mem hi)), fun j => pow_up (I.rz g hi j) (by omega)⟩
end FR
set_option Elab.async false
set_option linter.all false
set_option maxRecDepth 100000
set_option maxHeartbeats 4000000
/-! what solution returns is right -/
namespace FR
open RF
theorem aug_at {pss : List (List PI)} {ts : List PI} {i : Nat} (l : ts.length = pss.length) (h : i < pss.length) : (augP pss ts).getD i [] = pss.getD i [] ++ [ts.getD i (0, 1)] := by
  obtain ⟨ps, hp⟩ : ∃ p, pss[i]? = some p := ⟨_, List.getElem?_eq_getElem h⟩
  obtain ⟨t, ht⟩ : ∃ t, ts[i]? = some t := ⟨_, List.getElem?_eq_getElem (by omega)⟩
  unfold augP
  rw [List.getD_eq_getElem?_getD, List.getElem?_zipWith, hp, ht, List.getD_eq_getElem?_getD, hp, List.getD_eq_getElem?_getD, ht]
  rfl
theorem aug_len {pss : List (List PI)} {ts : List PI} (l : ts.length = pss.length) : (augP pss ts).length = pss.length := by
  unfold augP
  rw [List.length_zipWith]; omega
theorem valV_left {a b : List PI} {j : Nat} (h : j < a.length) : valV (a ++ b) j = valV a j := by
  unfold valV
  rw [List.getD_eq_getElem?_getD, List.getElem?_append_left h, List.getD_eq_getElem?_getD]
theorem valV_last {a : List PI} {p : PI} {n : Nat} (h : a.length = n) : valV (a ++ [p]) n = val p := by
  unfold valV
  rw [List.getD_eq_getElem?_getD, List.getElem?_append_right (by omega), h, Nat.sub_self]; rfl
/-- rows and totals that one asks about -/
structure Sys (n : Nat) (pss : List (List PI)) (ts : List PI) : Prop where
  g : Good n (augP pss ts)
  l : ts.length = pss.length
  ln : ∀ ps ∈ pss, ps.length = n
theorem Sys.lo {n i j : Nat} {pss : List (List PI)} {ts : List PI} (Y : Sys n pss ts) (h : i < pss.length) (hj : j < n) : valV ((augP pss ts).getD i []) j = valV (pss.getD i []) j := by
  rw [aug_at Y.l h]
  exact valV_left (by rw [Y.ln _ (pss_mem h)]; exact hj)
theorem Sys.hi {n i : Nat} {pss : List (List PI)} {ts : List PI} (Y : Sys n pss ts) (h : i < pss.length) : valV ((augP pss ts).getD i []) n = valV ts i := by
  rw [aug_at Y.l h]
  exact valV_last (Y.ln _ (pss_mem h))
theorem Sys.mem {n i : Nat} {pss : List (List PI)} {ts : List PI} (Y : Sys n pss ts) (h : i < pss.length) : (augP pss ts).getD i [] ∈ augP pss ts := pss_mem (by rw [aug_len Y.l]; exact h)
theorem Sys.line {n i : Nat} {pss : List (List PI)} {ts : List PI} (Y : Sys n pss ts) (h : i < pss.length) (j : Nat) : vec (lineP ((augP pss ts).getD i [])) j = (lcmP ((augP pss ts).getD i []) : Rat) * valV ((augP pss ts).getD i []) j := line_val (Y.g.cd _ (Y.mem h)).lf j
theorem Sys.l0 {n i : Nat} {pss : List (List PI)} {ts : List PI} (Y : Sys n pss ts) (h : i < pss.length) : ((lcmP ((augP pss ts).getD i []) : Int) : Rat) ≠ 0 := cast_ne (by have := lcmP_pos (Y.g.cd _ (Y.mem h)).lf; omega)
def Solves (n : Nat) (pss : List (List PI)) (ts : List PI) (X : Vec) : Prop := ∀ i, i < pss.length → S n (fun j => valV (pss.getD i []) j * X j) = valV ts i
def Bars (n : Nat) (pss : List (List PI)) (ts : List PI) (Q : Vec) : Prop := (∀ j, j < n → S pss.length (fun i => valV (pss.getD i []) j * Q i) = 0) ∧ S pss.length (fun i => valV ts i * Q i) = 1
def zsE (w : Nat) (st : SE) : List (Nat × PI) := (st.places.zip st.rows).map fun z => (z.1, (nT (ent z.2 w) st.d, nB (ent z.2 w) st.d))
theorem found_eq {w : Nat} {st : SE} : foundE w st = (zsE w st).foldl setP (List.replicate w (0, 1)) := by
  unfold foundE zsE
  rw [List.foldl_map]
  rfl
def zsF (tk : TK) (rs : List Int) : List (Nat × PI) := (tk.zip (rs.drop 1)).map fun z => (z.1.1, (nT (z.2 * z.1.2) (ent rs 0), nB (z.2 * z.1.2) (ent rs 0)))
theorem fact_eq {tk : TK} {rs : List Int} {m : Nat} : factP tk rs m = (zsF tk rs).foldl setP (List.replicate m (0, 1)) := by
  unfold factP zsF
  rw [List.foldl_map]
  rfl
theorem cd_fold {s m : Nat} {zs : List (Nat × PI)} {e : Int} (e0 : e ≠ 0) (ez : e.natAbs < 2 ^ s) (h : ∀ z ∈ zs, ∃ x : Int, x.natAbs < 2 ^ s ∧ z.2 = (nT x e, nB x e)) : Cd s (zs.foldl setP (List.replicate m (0, 1))) := by
  refine ⟨e, e0, ez, fun p mp => ?_⟩
  rcases fold_mem zs _ p mp with y | ⟨z, mz, rfl⟩
  · rw [List.eq_of_mem_replicate y]
    exact ⟨0, Nat.pow_pos (by decide), n_eq e0 (Lf.one 0) (by show 0 * e = 0 * 1; simp)⟩
  · exact h z mz
theorem zip_get {α β : Type} {xs : List α} {ys : List β} {k : Nat} {x : α} {y : β} (hx : xs[k]? = some x) (hy : ys[k]? = some y) : (xs.zip ys)[k]? = some (x, y) := by
  rw [List.getElem?_zip_eq_some]; exact ⟨hx, hy⟩
theorem getD_some {α : Type} {xs : List α} {k : Nat} {x d : α} (h : xs[k]? = some x) : xs.getD k d = x := by
  rw [List.getD_eq_getElem?_getD, h]; rfl
theorem zip_fst {α β : Type} : ∀ {xs : List α} {ys : List β}, xs.length ≤ ys.length → (xs.zip ys).map (·.1) = xs
  | [], _, _ => rfl
  | x :: xs, [], h => by simp at h
  | x :: xs, y :: ys, h => by
    rw [List.zip_cons_cons, List.map_cons, zip_fst (by simpa using h)]
/-- a functional of what was found -/
theorem RI.sol {w i : Nat} {pss : List (List PI)} {st : SE} (I : RI w i pss st) {v : Vec} (h : Sp (Lt w pss st.tk) v) : S w (fun j => v j * valV (foundE w st) j) = v w := by
  have ln := I.ei.ln
  have zl : (zsE w st).length = st.rows.length := by unfold zsE; rw [List.length_map, List.length_zip]; omega
  have zg : ∀ k, k < st.rows.length → (zsE w st).getD k (0, (0, 1)) = (st.places.getD k 0, (nT (ent (st.rows.getD k []) w) st.d, nB (ent (st.rows.getD k []) w) st.d)) := fun k hk => by
    obtain ⟨r, hr⟩ : ∃ r, st.rows[k]? = some r := ⟨_, List.getElem?_eq_getElem hk⟩
    obtain ⟨p, hp⟩ : ∃ p, st.places[k]? = some p := ⟨_, List.getElem?_eq_getElem (by omega)⟩
    rw [getD_some hr, getD_some hp]
    refine getD_some ?_
    unfold zsE
    rw [List.getElem?_map, zip_get hp hr]; rfl
  have pnd : st.places.Nodup := by
    rw [List.nodup_iff_pairwise_ne, List.pairwise_iff_getElem]
    intro a b ha hb lt e
    have g : ∀ k (hk : k < st.places.length), st.places.getD k 0 = st.places[k] := fun k hk => getD_some (List.getElem?_eq_getElem hk)
    have := I.ei.fm.inj (i := a) (m := b) (by omega) (by omega) (by show st.places.getD a 0 = st.places.getD b 0; rw [g a ha, g b hb, e])
    omega
  have z1 : (zsE w st).map (·.1) = st.places := by
    unfold zsE
    rw [List.map_map]
    exact zip_fst (by omega)
  rw [found_eq, fold_sum v (m := w) _ _ List.length_replicate (by rw [z1]; exact pnd) (fun z mz => I.pl _ (by rw [← z1]; exact List.mem_map.mpr ⟨z, mz, rfl⟩)) (fun z _ => valV_rep _ _), S_zz, zl]
  have f := I.ei.fm.phi_sp h w (by omega)
  rw [f]
  have e : S st.rows.length (fun k => v ((zsE w st).getD k (0, (0, 1))).1 * val ((zsE w st).getD k (0, (0, 1))).2) = S st.rows.length fun k => v (st.places.getD k 0) * ((ent (st.rows.getD k []) w : Rat) / st.d) := S_congr fun k hk => by
    rw [zg k hk]
    show v (st.places.getD k 0) * val (nT _ _, nB _ _) = _
    rw [val_n I.ei.d0]
  rw [e]
  grind
theorem sol_ok {n : Nat} {pss : List (List PI)} {ts : List PI} {st : SE} (Y : Sys n pss ts) (h : runE n (augP pss ts) pss.length = .inl st) : Solves n pss ts (valV (foundE n st)) ∧ (foundE n st).length = n ∧ Cd 541 (foundE n st) := by
  have al := aug_len Y.l
  have I := run_st Y.g (i := pss.length) (by omega) h
  have few := I.few
  have w4 := Y.g.w4
  refine ⟨fun i hi => ?_, ?_, ?_⟩
  · obtain ⟨v, sp, ev⟩ := I.rep i hi
    have s := I.sol sp
    have l0 := Y.l0 hi
    rw [ev n (Nat.le_refl _), Y.line hi, Y.hi hi] at s
    have e : S n (fun j => v j * valV (foundE n st) j) = (lcmP ((augP pss ts).getD i []) : Rat) * S n fun j => valV (pss.getD i []) j * valV (foundE n st) j := by
      rw [← S_mul]
      refine S_congr fun j hj => ?_
      rw [ev j (by omega), Y.line hi, Y.lo hi hj]
      grind
    rw [e] at s
    grind
  · rw [found_eq, fold_len, List.length_replicate]
  · rw [found_eq]
    have k4 := szk20 (k := st.rows.length) (by omega)
    refine cd_fold I.ei.d0 (pow_up I.dz k4) fun z mz => ?_
    unfold zsE at mz
    obtain ⟨y, my, e⟩ := List.mem_map.mp mz
    have mr := (List.of_mem_zip (show (y.1, y.2) ∈ _ from my)).2
    exact ⟨ent y.2 n, pow_up (I.sz _ mr n) k4, by rw [← e]⟩
end FR
set_option Elab.async false
set_option linter.all false
set_option maxRecDepth 100000
set_option maxHeartbeats 4000000
/-! where there is no solution -/
namespace FR
open RF
theorem ent_drop {l : List Int} {n j : Nat} : ent (l.drop n) j = ent l (n + j) := by
  unfold ent
  rw [List.getD_eq_getElem?_getD, List.getD_eq_getElem?_getD, List.getElem?_drop]
theorem bar_ok {n i0 : Nat} {pss : List (List PI)} {ts : List PI} {st : SE} (Y : Sys n pss ts) (hi : i0 < pss.length) (I : RI n i0 (augP pss ts) st) (pn : placeE n (restE n ((augP pss ts).getD i0 []) st) = none) (r0 : ent (restE n ((augP pss ts).getD i0 []) st) n ≠ 0) :
    Bars n pss ts (valV (factP (st.tk ++ [(i0, lcmP ((augP pss ts).getD i0 []))]) ((restE n ((augP pss ts).getD i0 []) st).drop n) pss.length)) ∧ (factP (st.tk ++ [(i0, lcmP ((augP pss ts).getD i0 []))]) ((restE n ((augP pss ts).getD i0 []) st).drop n) pss.length).length = pss.length ∧ Cd 584 (factP (st.tk ++ [(i0, lcmP ((augP pss ts).getD i0 []))]) ((restE n ((augP pss ts).getD i0 []) st).drop n) pss.length) := by
  have al := aug_len Y.l
  have ip : i0 < (augP pss ts).length := by omega
  have hb := I.bar Y.g ip (lcmP ((augP pss ts).getD i0 []))
  have rz := I.rz Y.g ip
  have rl : (restE n ((augP pss ts).getD i0 []) st).length = 2 * n + 2 := restE_len (m := szk 20 st.rows.length) (Y.g.ln _ (pss_mem ip)) ⟨I.ei.ln, by have := I.few; have := Y.g.w4; omega, fun r hr => ⟨I.ei.wd r hr, I.sz r hr⟩, fun p hp => by have := I.pl p hp; omega, I.dz⟩
  have p0 := place_not pn
  have few := I.few
  have w4 := Y.g.w4
  have tkf : ∀ z ∈ st.tk ++ [(i0, lcmP ((augP pss ts).getD i0 []))], z.1 < pss.length ∧ z.2 = lcmP ((augP pss ts).getD z.1 []) := fun z mz => by
    rcases List.mem_append.mp mz with m | m
    · obtain ⟨a, b⟩ := I.tk z m
      exact ⟨by omega, b⟩
    · rw [List.mem_singleton.mp m]; exact ⟨hi, rfl⟩
  have tnd : ((st.tk ++ [(i0, lcmP ((augP pss ts).getD i0 []))]).map (·.1)).Nodup := by
    rw [List.map_append, List.nodup_append]
    refine ⟨I.nd, by simp, fun a ha b hb e => ?_⟩
    obtain ⟨z, mz, rfl⟩ := List.mem_map.mp ha
    have := (I.tk z mz).1
    have hb : b = i0 := by simpa using hb
    omega
  have tl : (st.tk ++ [(i0, lcmP ((augP pss ts).getD i0 []))]).length = st.tk.length + 1 := by rw [List.length_append]; rfl
  have ln := I.ln
  generalize restE n ((augP pss ts).getD i0 []) st = r at *
  generalize st.tk ++ [(i0, lcmP ((augP pss ts).getD i0 []))] = tk at *
  have dl : ((r.drop n).drop 1).length = n + 1 := by rw [List.length_drop, List.length_drop, rl]; omega
  have e0 : ent (r.drop n) 0 = ent r n := ent_drop
  have c0 := cast_ne r0
  have zl : (zsF tk (r.drop n)).length = st.tk.length + 1 := by unfold zsF; rw [List.length_map, List.length_zip, tl, dl]; omega
  have zg : ∀ k, k < st.tk.length + 1 → (zsF tk (r.drop n)).getD k (0, (0, 1)) = ((tk.getD k (0, 0)).1, (nT (ent r (n + 1 + k) * (tk.getD k (0, 0)).2) (ent r n), nB (ent r (n + 1 + k) * (tk.getD k (0, 0)).2) (ent r n))) := fun k hk => by
    obtain ⟨z, hz⟩ : ∃ z, tk[k]? = some z := ⟨_, List.getElem?_eq_getElem (by omega)⟩
    have hx : ((r.drop n).drop 1)[k]? = some (ent r (n + 1 + k)) := by
      rw [get_ent (by rw [dl]; omega), ent_drop, ent_drop]
      congr 2
      omega
    rw [getD_some hz]
    refine getD_some ?_
    unfold zsF
    rw [List.getElem?_map, zip_get hz hx, e0]; rfl
  have z1 : (zsF tk (r.drop n)).map (·.1) = tk.map (·.1) := by
    unfold zsF
    rw [List.map_map]
    have : ((fun z : Nat × PI => z.1) ∘ fun z : (Nat × Int) × Int => (z.1.1, (nT (z.2 * z.1.2) (ent (r.drop n) 0), nB (z.2 * z.1.2) (ent (r.drop n) 0)))) = (fun z : Nat × Int => z.1) ∘ (fun z : (Nat × Int) × Int => z.1) := rfl
    rw [this, ← List.map_map, zip_fst (by rw [tl, dl]; omega)]
  have val_ : ∀ j, j ≤ n → S pss.length (fun i => valV ((augP pss ts).getD i []) j * valV (factP tk (r.drop n) pss.length) i) = (ent r j : Rat) / ent r n := fun j hj => by
    rw [fact_eq, fold_sum (fun i => valV ((augP pss ts).getD i []) j) (m := pss.length) _ _ List.length_replicate (by rw [z1]; exact tnd) (fun z mz => ?_) (fun z _ => valV_rep _ _), S_zz, zl, hb j hj]
    · have e : S (st.tk.length + 1) (fun k => valV ((augP pss ts).getD ((zsF tk (r.drop n)).getD k (0, (0, 1))).1 []) j * val ((zsF tk (r.drop n)).getD k (0, (0, 1))).2) = (1 / (ent r n : Rat)) * S (st.tk.length + 1) fun k => (ent r (n + 1 + k) : Rat) * vec (lineP ((augP pss ts).getD (tk.getD k (0, 0)).1 [])) j := by
        rw [← S_mul]
        refine S_congr fun k hk => ?_
        have mk : tk.getD k (0, 0) ∈ tk := by rw [List.getD_eq_getElem?_getD, List.getElem?_eq_getElem (by omega)]; exact List.getElem_mem _
        obtain ⟨t1, t2⟩ := tkf _ mk
        rw [zg k hk]
        show valV ((augP pss ts).getD (tk.getD k (0, 0)).1 []) j * val (nT _ _, nB _ _) = _
        rw [val_n r0, Rat.intCast_mul, Y.line t1, t2]
        grind
      rw [e]
      grind
    · obtain ⟨y, my, ey⟩ := List.mem_map.mp (show z.1 ∈ tk.map (·.1) by rw [← z1]; exact List.mem_map.mpr ⟨z, mz, rfl⟩)
      rw [← ey]
      exact (tkf y my).1
  refine ⟨⟨fun j hj => ?_, ?_⟩, ?_, ?_⟩
  · have v := val_ j (by omega)
    rw [p0 j hj] at v
    have e : S pss.length (fun i => valV (pss.getD i []) j * valV (factP tk (r.drop n) pss.length) i) = S pss.length (fun i => valV ((augP pss ts).getD i []) j * valV (factP tk (r.drop n) pss.length) i) := S_congr fun i hi => by rw [Y.lo hi hj]
    rw [e, v]
    show ((0 : Int) : Rat) / _ = 0
    grind
  · have v := val_ n (Nat.le_refl _)
    have e : S pss.length (fun i => valV ts i * valV (factP tk (r.drop n) pss.length) i) = S pss.length (fun i => valV ((augP pss ts).getD i []) n * valV (factP tk (r.drop n) pss.length) i) := S_congr fun i hi => by rw [Y.hi hi]
    rw [e, v]
    grind
  · rw [fact_eq, fold_len, List.length_replicate]
  · rw [fact_eq]
    refine cd_fold (e := ent r n) r0 (pow_up (rz n) (by omega)) fun z mz => ?_
    unfold zsF at mz
    obtain ⟨y, my, e⟩ := List.mem_map.mp mz
    obtain ⟨m1, m2⟩ := List.of_mem_zip (show (y.1, y.2) ∈ _ from my)
    refine ⟨y.2 * y.1.2, ?_, by rw [← e, e0]⟩
    have a : y.2.natAbs < 2 ^ 564 := by
      obtain ⟨k, hk⟩ := List.mem_iff_getElem?.mp (List.mem_of_mem_drop (List.mem_of_mem_drop m2))
      have := rz k
      rw [ent_some hk] at this
      exact this
    have b : y.1.2.natAbs < 2 ^ 20 := by
      obtain ⟨t1, t2⟩ := tkf _ m1
      rw [t2]
      exact (Y.g.cd _ (pss_mem (by omega))).lcm
    exact RF.mul_lt a b
end FR
set_option Elab.async false
set_option linter.all false
set_option maxRecDepth 100000
set_option maxHeartbeats 4000000
/-! which of both is due; both judges judge alike -/
namespace FR
open RF
theorem lead_row {n : Nat} {ps : List PI} (hl : ps.length = n + 1) (lf : AllLf ps) (h0 : ∀ j, j < n → valV ps j = 0) (h1 : valV ps n = 1) : ps = List.replicate n (0, 1) ++ [(1, 1)] := by
  refine List.ext_getElem? fun j => ?_
  by_cases hj : j < n + 1
  · obtain ⟨p, hp⟩ : ∃ p, ps[j]? = some p := ⟨_, List.getElem?_eq_getElem (by omega)⟩
    have lp := lf p (List.mem_of_getElem? hp)
    rw [hp]
    by_cases e : j < n
    · rw [List.getElem?_append_left (by rw [List.length_replicate]; exact e), List.getElem?_replicate, if_pos e]
      congr 1
      refine val_inj lp (Lf.one 0) ?_
      rw [← valV_get hp, h0 j e]
      exact val01.symm
    · have e : j = n := by omega
      subst e
      rw [List.getElem?_append_right (by rw [List.length_replicate]; exact Nat.le_refl _), List.length_replicate, Nat.sub_self]
      show some p = some (1, 1)
      congr 1
      refine val_inj lp (Lf.one 1) ?_
      rw [← valV_get hp, h1]
      show (1 : Rat) = ((1 : Int) : Rat) / ((1 : Int) : Rat)
      grind
  · rw [List.getElem?_eq_none (by omega), List.getElem?_eq_none (by rw [List.length_append, List.length_replicate]; simp only [List.length_singleton]; omega)]
theorem row_vals (n : Nat) : (∀ j, j < n → valV (List.replicate n (0, 1) ++ [(1, 1)]) j = 0) ∧ valV (List.replicate n (0, 1) ++ [(1, 1)]) n = 1 := by
  refine ⟨fun j hj => ?_, ?_⟩
  · rw [valV_left (by rw [List.length_replicate]; exact hj), valV_rep]
  · rw [valV_last (by rw [List.length_replicate])]
    show ((1 : Int) : Rat) / ((1 : Int) : Rat) = 1
    grind
theorem S_lin {k : Nat} {f g : Nat → Rat} {c : Rat} : S k (fun i => f i + c * g i) = S k f + c * S k g := by rw [S_add, S_mul]
theorem due_sol {n : Nat} {pss left found : List (List PI)} {ts : List PI} {pl : List Nat} (Y : Sys n pss ts) (F : CS (n + 1) (n + 1) left found pl ((augP pss ts).map valV)) {X : Vec} (h : Solves n pss ts X) : List.replicate n (0, 1) ++ [(1, 1)] ∉ found := fun m => by
  obtain ⟨i, hi⟩ := List.mem_iff_getElem?.mp m
  have il := (List.getElem?_eq_some_iff.mp hi).1
  have sp := F.pf.done.spn i il
  have e : found.getD i [] = List.replicate n (0, 1) ++ [(1, 1)] := getD_some hi
  have sp : Sp ((augP pss ts).map valV) (valV (List.replicate n (0, 1) ++ [(1, 1)])) := by rw [← e]; exact sp
  have z : ∀ v, Sp ((augP pss ts).map valV) v → S n (fun j => v j * X j) = v n := by
    intro v s
    induction s with
    | zero => exact S_zero fun j _ => by show (0 : Rat) * _ = 0; grind
    | mem mm =>
      obtain ⟨ps, mp, rfl⟩ := List.mem_map.mp mm
      obtain ⟨k, hk⟩ := List.mem_iff_getElem?.mp mp
      have kl := (List.getElem?_eq_some_iff.mp hk).1
      rw [aug_len Y.l] at kl
      have g : (augP pss ts).getD k [] = ps := getD_some hk
      rw [← g, Y.hi kl, ← h k kl]
      exact S_congr fun j hj => by rw [Y.lo kl hj]
    | add _ _ a b =>
      show _ = _ + _
      rw [← a, ← b, ← S_add]
      exact S_congr fun j _ => by grind
    | smul c _ a =>
      show _ = c * _
      rw [← a, ← S_mul]
      exact S_congr fun j _ => by grind
  have r := row_vals n
  have y := z _ sp
  rw [r.2, S_zero fun j hj => by rw [r.1 j hj]; grind] at y
  exact absurd y (by decide)
theorem due_none {n : Nat} {pss left found : List (List PI)} {ts : List PI} {pl : List Nat} (Y : Sys n pss ts) (F : CS (n + 1) (n + 1) left found pl ((augP pss ts).map valV)) {Q : Vec} (h : Bars n pss ts Q) : List.replicate n (0, 1) ++ [(1, 1)] ∈ found := by
  have s : Sp ((augP pss ts).map valV) fun j => S pss.length fun i => Q i * valV ((augP pss ts).getD i []) j := Sp.sum fun i hi => .mem (List.mem_map.mpr ⟨_, Y.mem hi, rfl⟩)
  have u0 : ∀ j, j < n → S pss.length (fun i => Q i * valV ((augP pss ts).getD i []) j) = 0 := fun j hj => by
    rw [← h.1 j hj]
    exact S_congr fun i hi => by rw [Y.lo hi hj]; grind
  have u1 : S pss.length (fun i => Q i * valV ((augP pss ts).getD i []) n) = 1 := by
    rw [← h.2]
    exact S_congr fun i hi => by rw [Y.hi hi]; grind
  have G := F.pf.done
  have p := G.phi_sp s n (by omega)
  have p : S pss.length (fun i => Q i * valV ((augP pss ts).getD i []) n) = _ := p
  rw [u1] at p
  obtain ⟨i, hi, ne⟩ := S_ne (by rw [← p]; decide)
  have pi : pl.getD i 0 = n := by
    have a := G.pn i hi
    by_cases z : pl.getD i 0 < n
    · exact absurd (by rw [u0 _ z]; grind) ne
    · have a : pl.getD i 0 < n + 1 := a
      omega
  obtain ⟨f, hf⟩ : ∃ f, found[i]? = some f := ⟨_, List.getElem?_eq_getElem hi⟩
  have g : found.getD i [] = f := getD_some hf
  have mf := List.mem_of_getElem? hf
  obtain ⟨fl, fc⟩ := F.fz f mf
  have e := lead_row fl fc.lf (fun j hj => by
    have := G.lead i j hi (by show j < pl.getD i 0; omega)
    rw [← g]; exact this) (by
    have := G.piv i i hi hi
    rw [if_pos rfl] at this
    have this : valV (found.getD i []) (pl.getD i 0) = 1 := this
    rw [pi, g] at this
    exact this)
  rw [← e]
  exact mf
/-! ### the judges -/
theorem rep_all {n : Nat} : ∀ {l : List PI}, l.length = n → (l.all fun p => decide (p.2 = 1 ∧ p.1 = 0)) = decide (l = List.replicate n (0, 1)) := by
  intro l h
  by_cases z : l = List.replicate n (0, 1)
  · rw [decide_eq_true z, z]
    rw [List.all_eq_true]
    intro p mp
    rw [List.eq_of_mem_replicate mp]
    rfl
  · rw [decide_eq_false z]
    refine Bool.eq_false_iff.mpr fun a => z ?_
    rw [List.all_eq_true] at a
    refine List.eq_replicate_iff.mpr ⟨h, fun p mp => ?_⟩
    obtain ⟨b, c⟩ := of_decide_eq_true (a p mp)
    exact Prod.ext c b
theorem one_dec (p : PI) : decide (p.2 = 1 ∧ p.1 = 1) = decide (p = (1, 1)) := by
  by_cases z : p = (1, 1)
  · rw [decide_eq_true z, z]; rfl
  · rw [decide_eq_false z, decide_eq_false fun ⟨a, b⟩ => z (Prod.ext b a)]
theorem col_lf {pss : List (List PI)} {j : Nat} (h : ∀ ps ∈ pss, AllLf ps) : AllLf (pss.map fun ps => ps.getD j (0, 1)) := fun p mp => by
  obtain ⟨ps, m, rfl⟩ := List.mem_map.mp mp
  by_cases hj : j < ps.length
  · exact h ps m _ (getD_mem hj)
  · have : ps.getD j (0, 1) = (0, 1) := by rw [List.getD_eq_getElem?_getD, List.getElem?_eq_none (by omega)]; rfl
    rw [this]; exact Lf.one 0
theorem dot_turn {ps cs : List PI} (h1 : AllLf ps) (h2 : AllLf cs) : dotP ps cs = prodP cs ps := by
  obtain ⟨a, b⟩ := dotP_val h1 h2
  obtain ⟨c, d⟩ := prodP_val h2 h1
  exact val_inj a c (by rw [b, d, dotQ_comm])
theorem times_prod {pss : List (List PI)} {cs : List PI} (h : ∀ ps ∈ pss, AllLf ps) (g : AllLf cs) : timesP pss cs = pss.map fun r => prodP r cs := by
  unfold timesP
  exact List.map_congr_left fun ps m => dot_prod (h ps m) g
theorem turn_lf {pss : List (List PI)} {n : Nat} (h : ∀ ps ∈ pss, AllLf ps) : ∀ ps ∈ turnP pss n, AllLf ps := fun ps m => by
  unfold turnP at m
  obtain ⟨j, _, rfl⟩ := List.mem_map.mp m
  exact col_lf h
theorem turn_mix {pss : List (List PI)} {cs : List PI} {n : Nat} (h : ∀ ps ∈ pss, AllLf ps) (g : AllLf cs) : timesP (turnP pss n) cs = mixL pss cs n := by
  rw [times_prod (turn_lf h) g]
  unfold turnP mixL
  rw [List.map_map]
  rfl
theorem judge_eq {pss : List (List PI)} {ts : List PI} {n : Nat} {j : JD} (h : ∀ ps ∈ pss, AllLf ps) (ht : AllLf ts) (g : ∀ z ps, j = some (z, ps) → AllLf ps) : judgeP pss ts n j = judgeL pss ts n j := by
  match j, g with
  | none, _ => rfl
  | some (z, ps), g =>
    have g := g z ps rfl
    show judge2 pss ts n z ps = judgeL2 pss ts n z ps
    unfold judge2 judgeL2
    rw [times_prod h g, turn_mix h g, one_dec, dot_turn ht g, rep_all (n := n) (l := mixL pss ps n) (by unfold mixL; rw [List.length_map, List.length_range])]
theorem col_val {pss : List (List PI)} {j i : Nat} (h : i < pss.length) : valV (pss.map fun ps => ps.getD j (0, 1)) i = valV (pss.getD i []) j := by
  obtain ⟨ps, hp⟩ : ∃ ps, pss[i]? = some ps := ⟨_, List.getElem?_eq_getElem h⟩
  rw [getD_some hp, valV_get (p := ps.getD j (0, 1)) (by rw [List.getElem?_map, hp]; rfl)]
  rfl
def Right (n : Nat) (pss : List (List PI)) (ts : List PI) (z : PySem.Str) (ps : List PI) : Prop := (z = wSol ∧ Solves n pss ts (valV ps) ∧ ps.length = n) ∨ (z = wNone ∧ Bars n pss ts (valV ps) ∧ ps.length = pss.length)
theorem judge_right {n : Nat} {pss : List (List PI)} {ts : List PI} (hl : ∀ ps ∈ pss, ps.length = n) (h : ∀ ps ∈ pss, AllLf ps) (ht : AllLf ts) (tl : ts.length = pss.length) {z : PySem.Str} {ps : List PI} (g : AllLf ps) (r : Right n pss ts z ps) : judgeP pss ts n (some (z, ps)) = true := by
  rcases r with ⟨rfl, so, l⟩ | ⟨rfl, ⟨b0, b1⟩, l⟩
  · rw [judge_sol, decide_eq_true l, Bool.true_and]
    refine decide_eq_true (List.ext_getElem? fun i => ?_)
    unfold timesP
    rw [List.getElem?_map]
    by_cases hi : i < pss.length
    · obtain ⟨qs, hq⟩ : ∃ qs, pss[i]? = some qs := ⟨_, List.getElem?_eq_getElem hi⟩
      obtain ⟨t, h2⟩ : ∃ t, ts[i]? = some t := ⟨_, List.getElem?_eq_getElem (by omega)⟩
      have mq := List.mem_of_getElem? hq
      rw [hq, h2]
      show some (dotP qs ps) = some t
      congr 1
      obtain ⟨a, b⟩ := dotP_val (h qs mq) g
      refine val_inj a (ht t (List.mem_of_getElem? h2)) ?_
      have s := so i hi
      rw [getD_some hq, valV_get h2] at s
      rw [b, dotQ_S (n := n) (by rw [hl qs mq]; exact Nat.le_refl _), s]
    · rw [List.getElem?_eq_none (by omega), List.getElem?_eq_none (by omega)]; rfl
  · rw [judge_none, decide_eq_true l, Bool.true_and, turn_mix h g, rep_all (n := n) (l := mixL pss ps n) (by unfold mixL; rw [List.length_map, List.length_range]), one_dec, Bool.and_eq_true]
    constructor
    · refine decide_eq_true (List.eq_replicate_iff.mpr ⟨by unfold mixL; rw [List.length_map, List.length_range], fun p mp => ?_⟩)
      unfold mixL at mp
      obtain ⟨j, hj, rfl⟩ := List.mem_map.mp mp
      have hj := List.mem_range.mp hj
      obtain ⟨a, b⟩ := prodP_val (col_lf (j := j) h) g
      refine val_inj a (Lf.one 0) ?_
      rw [b, dotQ_S (n := pss.length) (by rw [List.length_map]; exact Nat.le_refl _), val01, ← b0 j hj]
      exact S_congr fun i hi => by rw [col_val hi]
    · refine decide_eq_true ?_
      obtain ⟨a, b⟩ := dotP_val ht g
      refine val_inj a (Lf.one 1) ?_
      rw [b, dotQ_S (n := pss.length) (by omega), b1]
      show (1 : Rat) = ((1 : Int) : Rat) / ((1 : Int) : Rat)
      grind
/-- what solution returns -/
theorem resE_right {n : Nat} {pss : List (List PI)} {ts : List PI} (Y : Sys n pss ts) : Right n pss ts (resE n pss.length (runE n (augP pss ts) pss.length)).1 (resE n pss.length (runE n (augP pss ts) pss.length)).2 ∧ Cd 584 (resE n pss.length (runE n (augP pss ts) pss.length)).2 := by
  have al := aug_len Y.l
  rcases run_ri Y.g pss.length (by omega) with ⟨s, e, I⟩ | ⟨i0, s, hi, I, pn, r0, e⟩
  · obtain ⟨a, b, c⟩ := sol_ok Y e
    rw [e]
    exact ⟨.inl ⟨rfl, a, b⟩, c.up (by omega)⟩
  · obtain ⟨a, b, c⟩ := bar_ok Y hi I pn r0
    rw [e]
    exact ⟨.inr ⟨rfl, a, b⟩, c⟩
/-- the word that is due -/
theorem due_ok {n : Nat} {pss left found : List (List PI)} {ts : List PI} {pl : List Nat} (Y : Sys n pss ts) (F : CS (n + 1) (n + 1) left found pl ((augP pss ts).map valV)) {z : PySem.Str} {ps : List PI} (r : Right n pss ts z ps) : z = if List.replicate n (0, 1) ++ [(1, 1)] ∈ found then wNone else wSol := by
  rcases r with ⟨rfl, so, _⟩ | ⟨rfl, b, _⟩
  · rw [if_neg (due_sol Y F so)]
  · rw [if_pos (due_none Y F b)]
end FR
set_option Elab.async false
set_option linter.all false
set_option maxRecDepth 100000
set_option maxHeartbeats 4000000
/-! what changes no row -/
namespace FR
open RF
def addZ (at_ : Nat) (f : PI) (pl : List Nat) (found : List (List PI)) : List (Nat × PI) := (at_, f) :: (pl.zip found).map fun z => (z.1, byP (negQ (z.2.getD at_ (0, 1))) f)
def addP (N at_ : Nat) (f : PI) (pl : List Nat) (found : List (List PI)) : List PI := (addZ at_ f pl found).foldl setP (List.replicate N (0, 1))
theorem CS.pn {N : Nat} {left found : List (List PI)} {pl : List Nat} {L : List Vec} (F : CS N N left found pl L) : ∀ p ∈ pl, p < N := fun p m => by
  obtain ⟨i, hi⟩ := List.mem_iff_getElem?.mp m
  have il := (List.getElem?_eq_some_iff.mp hi).1
  have := F.pf.pc i (by rw [F.ln]; exact il)
  have this : pl.getD i 0 < N := this
  rw [getD_some hi] at this
  exact this
theorem CS.nd {N : Nat} {left found : List (List PI)} {pl : List Nat} {L : List Vec} (F : CS N N left found pl L) : pl.Nodup := by
  rw [List.nodup_iff_pairwise_ne, List.pairwise_iff_getElem]
  intro i j hi hj lt e
  have := F.pf.up i j lt (by rw [F.ln]; exact hj)
  have g : ∀ k (hk : k < pl.length), pl.getD k 0 = pl[k] := fun k hk => getD_some (List.getElem?_eq_getElem hk)
  have this : pl.getD i 0 < pl.getD j 0 := this
  rw [g i hi, g j hj] at this
  omega
theorem add_ker {N at_ : Nat} {f : PI} {left found : List (List PI)} {pl : List Nat} {L : List Vec} (F : CS N N left found pl L) (hat : at_ < N) (hn : at_ ∉ pl) (lf : Lf f.1 f.2) {v : Vec} (s : Sp L v) : S N (fun j => v j * valV (addP N at_ f pl found) j) = 0 := by
  have ln := F.ln
  have ml : ((pl.zip found).map fun z => (z.1, byP (negQ (z.2.getD at_ (0, 1))) f)).length = found.length := by rw [List.length_map, List.length_zip]; omega
  have m1 : (((pl.zip found).map fun z => (z.1, byP (negQ (z.2.getD at_ (0, 1))) f)).map (·.1)) = pl := by
    rw [List.map_map]
    exact zip_fst (by omega)
  unfold addP
  rw [fold_sum v (m := N) _ _ List.length_replicate (by
      unfold addZ
      rw [List.map_cons, m1, List.nodup_cons]
      exact ⟨hn, F.nd⟩) (fun z mz => by
      unfold addZ at mz
      rcases List.mem_cons.mp mz with e | m
      · rw [e]; exact hat
      · exact F.pn _ (by rw [← m1]; exact List.mem_map.mpr ⟨z, m, rfl⟩)) (fun z _ => valV_rep _ _), S_zz]
  unfold addZ
  rw [List.length_cons, ml, S_one_add]
  have e : S found.length (fun k => v ((((at_, f) :: (pl.zip found).map fun z => (z.1, byP (negQ (z.2.getD at_ (0, 1))) f))).getD (k + 1) (0, (0, 1))).1 * val ((((at_, f) :: (pl.zip found).map fun z => (z.1, byP (negQ (z.2.getD at_ (0, 1))) f))).getD (k + 1) (0, (0, 1))).2) = (- val f) * S found.length fun k => v (pl.getD k 0) * valV (found.getD k []) at_ := by
    rw [← S_mul]
    refine S_congr fun k hk => ?_
    obtain ⟨r, hr⟩ : ∃ r, found[k]? = some r := ⟨_, List.getElem?_eq_getElem hk⟩
    obtain ⟨p, hp⟩ : ∃ p, pl[k]? = some p := ⟨_, List.getElem?_eq_getElem (by omega)⟩
    have g : (((at_, f) :: (pl.zip found).map fun z => (z.1, byP (negQ (z.2.getD at_ (0, 1))) f))).getD (k + 1) (0, (0, 1)) = (p, byP (negQ (r.getD at_ (0, 1))) f) := by
      refine getD_some ?_
      rw [List.getElem?_cons_succ, List.getElem?_map, zip_get hp hr]; rfl
    obtain ⟨rl, rz⟩ := F.fzp r (List.mem_of_getElem? hr)
    have z := rz _ (getD_mem (by rw [rl]; exact hat))
    rw [g, getD_some hp, getD_some hr]
    show v p * val (byP (negQ (r.getD at_ (0, 1))) f) = _
    rw [val_by z.negQ.lf lf, val_neg]
    show _ = - val f * (v p * val (r.getD at_ (0, 1)))
    grind
  have p := F.pf.done.phi_sp s at_ hat
  rw [e]
  show (0 : Rat) + (v at_ * val f + - val f * S found.length fun k => v (pl.getD k 0) * valV (found.getD k []) at_) = 0
  rw [← p]
  grind
theorem add_len {N at_ : Nat} {f : PI} {pl : List Nat} {found : List (List PI)} : (addP N at_ f pl found).length = N := by unfold addP; rw [fold_len, List.length_replicate]
theorem n_mulR {t b k : Int} (hb : b ≠ 0) (hk : k ≠ 0) : ((nT (t * k) (b * k), nB (t * k) (b * k)) : PI) = (nT t b, nB t b) := by
  obtain ⟨a, c⟩ := n_mul (t := t) hb hk
  rw [Int.mul_comm t k, Int.mul_comm b k]
  exact Prod.ext a c
theorem cd_col {at_ t : Nat} : ∀ {found : List (List PI)}, (∀ ps ∈ found, at_ < ps.length ∧ Cd t ps) → ∃ e : Int, e ≠ 0 ∧ e.natAbs < 2 ^ (t * found.length + 1) ∧ ∀ ps ∈ found, ∃ x : Int, x.natAbs < 2 ^ (t * found.length + 1) ∧ ps.getD at_ (0, 1) = (nT x e, nB x e)
  | [], _ => ⟨1, by decide, by show 1 < 2 ^ (t * 0 + 1); rw [Nat.mul_zero]; decide, fun _ h => by cases h⟩
  | p :: ps, h => by
    obtain ⟨e, e0, ez, he⟩ := cd_col (found := ps) fun q m => h q (List.mem_cons_of_mem _ m)
    obtain ⟨pl, e2, e20, e2z, h2⟩ := h p List.mem_cons_self
    have ln : t * (p :: ps).length + 1 = t + (t * ps.length + 1) := by rw [List.length_cons, Nat.mul_succ]; omega
    rw [ln]
    refine ⟨e2 * e, Int.mul_ne_zero e20 e0, RF.mul_lt e2z ez, fun q m => ?_⟩
    rcases List.mem_cons.mp m with y | y
    · subst y
      obtain ⟨x, hx, ex⟩ := h2 _ (getD_mem pl)
      exact ⟨x * e, RF.mul_lt hx ez, by rw [ex, n_mulR e20 e0]⟩
    · obtain ⟨x, hx, ex⟩ := he q y
      refine ⟨x * e2, by rw [Nat.add_comm]; exact RF.mul_lt hx e2z, ?_⟩
      rw [ex, Int.mul_comm e2 e, n_mulR e0 e20]
theorem clk_mono {a b : Nat} (h : a ≤ b) : clk a ≤ clk b := by
  induction h with
  | refl => exact Nat.le_refl _
  | step h ih => simp only [clk]; omega
theorem add_cd {N at_ : Nat} {f : PI} {left found : List (List PI)} {pl : List Nat} {L : List Vec} (F : CS N N left found pl L) (hat : at_ < N) (k4 : found.length ≤ 4) (fz : Pz 11 f) : Cd 1352 (addP N at_ f pl found) := by
  have c4 : clk found.length ≤ 335 := clk_mono (b := 4) k4
  obtain ⟨e, e0, ez, he⟩ := cd_col (at_ := at_) (t := 335) (found := found) fun ps m => ⟨by rw [(F.fz ps m).1]; exact hat, (F.fz ps m).2.up c4⟩
  have b41 : 335 * found.length + 1 ≤ 1341 := by omega
  have f2 : f.2 ≠ 0 := fz.lf.ne
  unfold addP
  refine cd_fold (e := e * f.2) (Int.mul_ne_zero e0 f2) (pow_up (RF.mul_lt ez fz.bz) (by omega)) fun z mz => ?_
  unfold addZ at mz
  rcases List.mem_cons.mp mz with y | y
  · refine ⟨f.1 * e, by rw [Int.mul_comm]; exact pow_up (RF.mul_lt ez fz.tz) (by omega), ?_⟩
    rw [y]
    refine n_eq (Int.mul_ne_zero e0 f2) fz.lf ?_
    show f.1 * (e * f.2) = f.1 * e * f.2
    rw [Int.mul_assoc]
  · obtain ⟨y', my, ey⟩ := List.mem_map.mp y
    obtain ⟨m1, m2⟩ := List.of_mem_zip (show (y'.1, y'.2) ∈ _ from my)
    obtain ⟨x, hx, ex⟩ := he _ m2
    have g := (F.fzp _ m2).2 _ (getD_mem (by rw [(F.fzp _ m2).1]; exact hat))
    have nl := g.negQ.lf
    have lb : Lf (byP (negQ (y'.2.getD at_ (0, 1))) f).1 (byP (negQ (y'.2.getD at_ (0, 1))) f).2 := lf_n (Int.mul_ne_zero nl.ne f2)
    refine ⟨(0 - x) * f.1, pow_up (RF.mul_lt (s := 335 * found.length + 1) (by omega) fz.tz) (by omega), ?_⟩
    rw [← ey]
    refine val_inj lb (lf_n (Int.mul_ne_zero e0 f2)) ?_
    show val (byP (negQ (y'.2.getD at_ (0, 1))) f) = _
    rw [val_by nl fz.lf, val_neg, ex, val_n e0, val_n (Int.mul_ne_zero e0 f2), Rat.intCast_mul, Rat.intCast_mul, Rat.intCast_sub]
    have h1 := cast_ne e0
    have h2 := cast_ne f2
    unfold val
    grind
theorem Cd.plus {s t : Nat} {ps qs : List PI} (h : Cd s ps) (g : Cd t qs) : Cd (s + t + 1) (List.zipWith plusP ps qs) := by
  have z1 := h.pz
  have z2 := g.pz
  obtain ⟨e, e0, ez, h3⟩ := h
  obtain ⟨f, f0, fz, g3⟩ := g
  refine ⟨e * f, Int.mul_ne_zero e0 f0, pow_up (RF.mul_lt ez fz) (by omega), fun p m => ?_⟩
  obtain ⟨i, hi⟩ := List.mem_iff_getElem?.mp m
  rw [List.getElem?_zipWith] at hi
  cases e1 : ps[i]? with
  | none => rw [e1] at hi; cases hi
  | some u =>
    cases e2 : qs[i]? with
    | none => rw [e1, e2] at hi; cases hi
    | some v =>
      rw [e1, e2] at hi
      rw [← Option.some.inj hi]
      have mu := List.mem_of_getElem? e1
      have mv := List.mem_of_getElem? e2
      obtain ⟨x, hx, ex⟩ := h3 u mu
      obtain ⟨y, hy, ey⟩ := g3 v mv
      have lu := (z1 u mu).lf
      have lv := (z2 v mv).lf
      refine ⟨x * f + y * e, ?_, ?_⟩
      · have a := RF.mul_lt hx fz
        have b := RF.mul_lt hy ez
        rw [Nat.add_comm t s] at b
        have d : 2 ^ (s + t) + 2 ^ (s + t) = 2 ^ (s + t + 1) := by rw [Nat.pow_succ]; omega
        omega
      · refine val_inj (lf_n (Int.mul_ne_zero lu.ne lv.ne)) (lf_n (Int.mul_ne_zero e0 f0)) ?_
        rw [val_plus lu lv, val_n (Int.mul_ne_zero e0 f0), ex, ey, val_n e0, val_n f0, Rat.intCast_add, Rat.intCast_mul, Rat.intCast_mul, Rat.intCast_mul]
        have h1 := cast_ne e0
        have h2 := cast_ne f0
        grind
theorem valV_plus {ps qs : List PI} (hl : ps.length = qs.length) (h : AllLf ps) (g : AllLf qs) (j : Nat) : valV (List.zipWith plusP ps qs) j = valV ps j + valV qs j := by
  by_cases hj : j < ps.length
  · obtain ⟨p, hp⟩ : ∃ p, ps[j]? = some p := ⟨_, List.getElem?_eq_getElem hj⟩
    obtain ⟨r, hr⟩ : ∃ r, qs[j]? = some r := ⟨_, List.getElem?_eq_getElem (by omega)⟩
    rw [valV_get (p := plusP p r) (by rw [List.getElem?_zipWith, hp, hr]), valV_get hp, valV_get hr, val_plus (h p (List.mem_of_getElem? hp)) (g r (List.mem_of_getElem? hr))]
  · rw [valV_out (by rw [List.length_zipWith]; omega), valV_out (by omega), valV_out (ps := qs) (by omega)]; grind
/-- what is faced -/
def facP (n : Nat) (pss : List (List PI)) (ts : List PI) (z : PySem.Str) : List (List PI) := if z = wSol then pss else turnP pss n ++ [ts]
theorem turn_mem {n j : Nat} {pss : List (List PI)} (h : j < n) : (pss.map fun ps => ps.getD j (0, 1)) ∈ turnP pss n := by
  unfold turnP
  exact List.mem_map.mpr ⟨j, List.mem_range.mpr h, rfl⟩
/-- another one of the same side -/
theorem more_right {n at_ : Nat} {pss left found : List (List PI)} {ts : List PI} {pl : List Nat} {z : PySem.Str} {ps : List PI} {f : PI} (tl : ts.length = pss.length) (r : Right n pss ts z ps) (F : CS ps.length ps.length left found pl ((facP n pss ts z).map valV)) (hat : at_ < ps.length) (hn : at_ ∉ pl) (k4 : found.length ≤ 4) (fz : Pz 11 f) {s : Nat} (c : Cd s ps) :
    Right n pss ts z (List.zipWith plusP ps (addP ps.length at_ f pl found)) ∧ Cd (s + 1352 + 1) (List.zipWith plusP ps (addP ps.length at_ f pl found)) := by
  have ac := add_cd F hat k4 fz
  have al := add_len (N := ps.length) (at_ := at_) (f := f) (pl := pl) (found := found)
  refine ⟨?_, c.plus ac⟩
  have zl : (List.zipWith plusP ps (addP ps.length at_ f pl found)).length = ps.length := by rw [List.length_zipWith, al, Nat.min_self]
  have ker := fun (x : List PI) (m : x ∈ facP n pss ts z) => add_ker F hat hn fz.lf (.mem (List.mem_map.mpr ⟨x, m, rfl⟩))
  have vp := valV_plus al.symm c.lf ac.lf
  generalize addP ps.length at_ f pl found = A at *
  generalize List.zipWith plusP ps A = B at *
  rcases r with ⟨rfl, so, l⟩ | ⟨rfl, ⟨b0, b1⟩, l⟩
  · refine .inl ⟨rfl, fun i hi => ?_, by rw [zl, l]⟩
    have k := ker (pss.getD i []) (by unfold facP; rw [if_pos rfl]; exact pss_mem hi)
    rw [l] at k
    rw [← so i hi]
    have e : S n (fun j => valV (pss.getD i []) j * valV B j) = S n fun j => valV (pss.getD i []) j * valV ps j + valV (pss.getD i []) j * valV A j := S_congr fun j _ => by rw [vp]; grind
    rw [e, S_add, k]; grind
  · have nw : ¬ wNone = wSol := by decide +kernel
    have fm : facP n pss ts wNone = turnP pss n ++ [ts] := by unfold facP; rw [if_neg nw]
    refine .inr ⟨rfl, ⟨fun j hj => ?_, ?_⟩, by rw [zl, l]⟩
    · have k := ker _ (by rw [fm]; exact List.mem_append_left _ (turn_mem (pss := pss) hj))
      rw [l] at k
      rw [← b0 j hj]
      have e : S pss.length (fun i => valV (pss.getD i []) j * valV B i) = S pss.length fun i => valV (pss.getD i []) j * valV ps i + valV (pss.map fun ps => ps.getD j (0, 1)) i * valV A i := S_congr fun i hi => by rw [vp, col_val hi]; grind
      rw [e, S_add, k]; grind
    · have k := ker ts (by rw [fm]; exact List.mem_append_right _ (List.mem_singleton.mpr rfl))
      rw [l] at k
      rw [← b1]
      have e : S pss.length (fun i => valV ts i * valV B i) = S pss.length fun i => valV ts i * valV ps i + valV ts i * valV A i := S_congr fun i hi => by rw [vp]; grind
      rw [e, S_add, k]; grind
/-- the first place of a row of a cleared form -/
theorem CS.first {N i : Nat} {left found : List (List PI)} {pl : List Nat} {L : List Vec} (F : CS N N left found pl L) {r : List PI} {p : Nat} (hr : found[i]? = some r) (hp : pl[i]? = some p) : (∃ q, r[p]? = some q ∧ q ≠ (0, 1)) ∧ ∀ j q, j < p → r[j]? = some q → q = (0, 1) := by
  have il := (List.getElem?_eq_some_iff.mp hr).1
  have m := List.mem_of_getElem? hr
  obtain ⟨rl, rz⟩ := F.fzp r m
  have pn := F.pn p (List.mem_of_getElem? hp)
  have g : found.getD i [] = r := getD_some hr
  have e : pl.getD i 0 = p := getD_some hp
  refine ⟨?_, fun j q hj hq => ?_⟩
  · obtain ⟨q, hq⟩ : ∃ q, r[p]? = some q := ⟨_, List.getElem?_eq_getElem (by omega)⟩
    refine ⟨q, hq, fun z => ?_⟩
    have v := F.pf.piv i i il il
    rw [if_pos rfl] at v
    have v : valV (found.getD i []) (pl.getD i 0) = 1 := v
    rw [g, e, valV_get hq, z, val01] at v
    exact absurd v (by decide)
  · have v := F.pf.lead i j il (by show j < pl.getD i 0; omega)
    have v : valV (found.getD i []) j = 0 := v
    rw [g, valV_get hq] at v
    exact val_inj (rz q (List.mem_of_getElem? hq)).lf (Lf.one 0) (by rw [v, val01])
end FR
set_option Elab.async false
set_option linter.all false
set_option maxRecDepth 100000
set_option maxHeartbeats 4000000
set_option pp.maxSteps 400
set_option exponentiation.threshold 5000
/-! _law_more -/
namespace FR
open PySem PySem.Spec PyProof.Rows L2 LD RF
theorem op_neDK {X : Cx} {K : PySem.W.Frag} (hK : X.K = K) (hu : X.A.units + 64 < cLine) : OpR X (compareOp .NotEq) (rNeD K) := by
  subst hK
  exact op_neD hu
theorem mt_indexK {X : Cx} {K : PySem.W.Frag} (hK : X.K = K) : MtR X "list.index" (rIndex K) := by
  subst hK
  exact mt_index
theorem op_notIn_seqK {X : Cx} {K : PySem.W.Frag} (hK : X.K = K) : OpR X (compareOp .NotIn) (rIn K true) := by
  subst hK
  exact op_notIn_seq
theorem pe_bmK {X : Cx} {K : PySem.W.Frag} {T : String} {name : Str} {id : String} {r : V → List V → Hp → VK → Prop} {o e : Expr} {es : List Expr} {to : TE} {t : L2.TA} {apos cpos : Pos} (hK : X.K = K) (pa : PlainAttrs T) (slot : Slot T name id) (hty : typeOf (.builtin id) = pure (.type "method_descriptor")) (hm : MtR X id r) (ho : PE X o to) (ha : PA X (e :: es) t)
    (hbase : attributeBase o name X.env (eval o X.env) = eval o X.env := by rfl)
    (hfew : ((backTo cpos (starEach (e :: es) X.env)).all (fun x => !x.1) && (backToKw cpos (keywordEach [] X.env)).all (fun x => x.1.isSome)
      && decide ((e :: es).length + ([] : List Keyword).length + (if ([] : List Keyword).isEmpty then 0 else 1) < 30)) = true := by rfl)
    (hline : (apos.endLine == cpos.line) = true := by rfl) (hs : starEach (e :: es) X.env = (false, eval e X.env) :: starEach es X.env := by rfl) (hplain : (backTo cpos (starEach es X.env)).any (·.1) = false := by rfl) :
    PE X (.Call (.Attribute o name apos) (e :: es) [] cpos) (tBM K T r to t) := by
  subst hK
  exact pe_bm pa slot hty hm ho ha hbase hfew hline hs hplain
def asgE : Stmt → Expr
  | .Assign _ e _ => e
  | _ => .Constant .none 0 ⟨0, 0, 0, 0⟩
def ifB : Stmt → Stmt
  | .If _ (s :: _) _ _ => s
  | s => s
def binL : Expr → Expr
  | .BinOp a _ _ _ => a
  | e => e
/-! ### entries over 144 -/
def E144 (p : PI) : Prop := ∃ x : Int, x.natAbs < 2 ^ 20 ∧ p = (nT x 144, nB x 144)
theorem cd_e {ps : List PI} (h : ∀ p ∈ ps, E144 p) : Cd 20 ps := ⟨144, by decide, by decide, h⟩
theorem q12_x {M : Nat} {p : PI} (h : Q12 M p) : ∃ x : Int, x.natAbs ≤ M * 12 ∧ val p = (x : Rat) / 12 := by
  obtain ⟨u, hu⟩ := h.dv
  have u0 : u ≠ 0 := fun z => by rw [z] at hu; simp at hu
  refine ⟨p.1 * u, ?_, ?_⟩
  · rw [Int.natAbs_mul]
    have y : p.2.natAbs * u.natAbs = 12 := by rw [← Int.natAbs_mul, ← hu]; rfl
    have := Nat.mul_le_mul_right u.natAbs h.le
    rw [Nat.mul_assoc, y] at this
    exact this
  · have a := cast_ne h.lf.ne
    have b := cast_ne u0
    have e : (12 : Rat) = p.2 * u := by rw [← Rat.intCast_mul, ← hu]; rfl
    rw [Rat.intCast_mul, e]
    unfold val
    grind
theorem q12_e {M : Nat} {p : PI} (h : Q12 M p) (m : M ≤ 112) : E144 p := by
  obtain ⟨x, hx, ex⟩ := q12_x h
  have hx2 : x.natAbs ≤ 112 * 12 := Nat.le_trans hx (Nat.mul_le_mul_right _ m)
  refine ⟨x * 12, by omega, val_inj h.lf (lf_n (by decide)) ?_⟩
  rw [val_n (by decide), ex, Rat.intCast_mul]
  have e1 : ((12 : Int) : Rat) = 12 := rfl
  have e2 : ((144 : Int) : Rat) = 144 := rfl
  rw [e1, e2]
  grind
theorem dot_x {M N : Nat} : ∀ {ps cs : List PI}, (∀ p ∈ ps, Q12 M p) → (∀ p ∈ cs, Q12 N p) → ∃ x : Int, x.natAbs ≤ ps.length * (M * 12 * (N * 12)) ∧ dotQ ps cs = (x : Rat) / 144
  | [], [], _, _ => ⟨0, by simp, by show (0 : Rat) = ((0 : Int) : Rat) / 144; grind⟩
  | [], _ :: _, _, _ => ⟨0, by simp, by show (0 : Rat) = ((0 : Int) : Rat) / 144; grind⟩
  | _ :: _, [], _, _ => ⟨0, by simp, by show (0 : Rat) = ((0 : Int) : Rat) / 144; grind⟩
  | p :: ps, c :: cs, h, g => by
    obtain ⟨x, hx, ex⟩ := dot_x (ps := ps) (cs := cs) (fun q m => h q (List.mem_cons_of_mem _ m)) (fun q m => g q (List.mem_cons_of_mem _ m))
    obtain ⟨y, hy, ey⟩ := q12_x (h p List.mem_cons_self)
    obtain ⟨w, hw, ew⟩ := q12_x (g c List.mem_cons_self)
    refine ⟨y * w + x, ?_, ?_⟩
    · have a : (y * w).natAbs ≤ M * 12 * (N * 12) := by rw [Int.natAbs_mul]; exact Nat.mul_le_mul hy hw
      have b : (p :: ps).length * (M * 12 * (N * 12)) = ps.length * (M * 12 * (N * 12)) + M * 12 * (N * 12) := by rw [List.length_cons, Nat.succ_mul]
      rw [b]
      generalize M * 12 * (N * 12) = T at *
      omega
    · show val p * val c + dotQ ps cs = _
      rw [ex, ey, ew, Rat.intCast_add, Rat.intCast_mul]
      grind
theorem prod_e {ps cs : List PI} (h : ∀ p ∈ ps, Q12 112 p) (g : ∀ p ∈ cs, Q12 7 p) (l : ps.length ≤ 4) : E144 (prodP ps cs) := by
  obtain ⟨x, hx, ex⟩ := dot_x h g
  have b : ps.length * (112 * 12 * (7 * 12)) ≤ 4 * (112 * 12 * (7 * 12)) := Nat.mul_le_mul_right _ l
  obtain ⟨c, d⟩ := prodP_val (fun p m => (h p m).lf) (fun p m => (g p m).lf)
  refine ⟨x, by omega, val_inj c (lf_n (by decide)) ?_⟩
  rw [d, ex, val_n (by decide)]
  rfl
section
variable {P : Program} {w : World} {K : PySem.W.Frag} {mg : Str → Option Value} {base : Heap} {C fI pT gT0 pB gB0 : Addr} {fdI fdT fdB : FuncData}
abbrev sMo : Stmt := top 59
abbrev NMo : List Str := ["_law_dice_here", "_law_lines_here", "_law_totals", "_law_value", "_law_facing", "_law_place", "_law_row", "_law_least", "_law_some", "_law_firsts", "_law_one", "_law_free", "_law_at", "_law_factor", "_law_added", "_law_sums", "_law_old", "_law_new"]
abbrev lcFa : Scope := lcSc (binL (asgE (ifB ((defBody sMo).getD 1 (.Pass ⟨0, 0, 0, 0⟩)))))
abbrev lcFi : Scope := lcSc (asgE ((defBody sMo).getD 3 (.Pass ⟨0, 0, 0, 0⟩)))
theorem scMo : FnScope NMo ["_law_dice_here", "_law_lines_here", "_law_totals", "_law_value"] (defScope sMo) := ⟨rfl, rfl, rfl, by decide +kernel, rfl, by decide +kernel, by decide +kernel⟩
/-- the sizes of what is asked -/
structure Ask (n : Nat) (pss : List (List PI)) (ts : List PI) : Prop where
  n0 : 0 < n
  n4 : n ≤ 4
  m0 : 0 < pss.length
  m5 : pss.length ≤ 5
  ln : ∀ ps ∈ pss, ps.length = n
  tl : ts.length = pss.length
  cd : ∀ ps ∈ pss, ∀ p ∈ ps, E144 p
  ct : ∀ p ∈ ts, E144 p
theorem fac_ok {n : Nat} {pss : List (List PI)} {ts : List PI} {z : PySem.Str} {ps : List PI} (ak : Ask n pss ts) (r : Right n pss ts z ps) : 0 < (facP n pss ts z).length ∧ (facP n pss ts z).length ≤ 90 ∧ (∀ x ∈ facP n pss ts z, x.length = ps.length ∧ Cd 20 x) ∧ 0 < ps.length ∧ ps.length ≤ 5 := by
  obtain ⟨n0, n4, m0, m5, hln, tl_, hcd, hct⟩ := ak
  unfold facP
  rcases r with ⟨e, _, l⟩ | ⟨e, _, l⟩
  · rw [if_pos e]
    exact ⟨m0, by omega, fun x m => ⟨by rw [hln x m, l], cd_e (hcd x m)⟩, by omega, by omega⟩
  · rw [if_neg (by rw [e]; decide +kernel)]
    have tln : (turnP pss n).length = n := by unfold turnP; rw [List.length_map, List.length_range]
    have ln : (turnP pss n ++ [ts]).length = n + 1 := by rw [List.length_append, tln]; rfl
    refine ⟨by omega, by omega, fun x m => ?_, by omega, by omega⟩
    rcases List.mem_append.mp m with y | y
    · unfold turnP at y
      obtain ⟨j, hj, rfl⟩ := List.mem_map.mp y
      have hj := List.mem_range.mp hj
      refine ⟨by rw [List.length_map, l], cd_e fun p mp => ?_⟩
      obtain ⟨qs, mq, rfl⟩ := List.mem_map.mp mp
      exact hcd qs mq _ (getD_mem (by rw [hln qs mq]; exact hj))
    · rw [List.mem_singleton.mp y]
      exact ⟨by rw [tl_, l], cd_e hct⟩
theorem tupD_shaped (p : PI) : SeqAt.shaped (tupD p) = true := by
  have h := tupD_depth p
  show ((tupD p).canLay0 && decide ((tupD p).depth ≤ 64)) = true
  rw [Bool.and_eq_true]
  exact ⟨tupD_lay p, decide_eq_true (by omega)⟩
theorem tps_rep {H : Hp} {t : Addr} {p : PI} (h : TA H t p) (n : Nat) : TPs H (List.replicate n (V.ref t)) (List.replicate n p) := by
  refine ⟨by rw [List.length_replicate, List.length_replicate], fun i v hv => ?_⟩
  rw [List.getElem?_replicate] at hv ⊢
  split at hv
  · next z =>
    rw [if_pos z]
    cases hv
    exact ⟨_, rfl, t, rfl, h⟩
  · cases hv
theorem few_found {N at_ : Nat} {left found : List (List PI)} {pl : List Nat} {L : List Vec} (F : CS N N left found pl L) (hat : at_ < N) (hn : at_ ∉ pl) : found.length + 1 ≤ N := by
  have ln := F.ln
  refine pigeon N (found.length + 1) (fun i => (at_ :: pl).getD i 0) (fun i hi => ?_) fun i j hi hj e => ?_
  · have : (at_ :: pl).getD i 0 ∈ at_ :: pl := by rw [List.getD_eq_getElem?_getD, List.getElem?_eq_getElem (by simp only [List.length_cons]; omega)]; exact List.getElem_mem _
    rcases List.mem_cons.mp this with y | y
    · show (at_ :: pl).getD i 0 < N
      rw [y]; exact hat
    · exact F.pn _ y
  · have nd : (at_ :: pl).Nodup := by rw [List.nodup_cons]; exact ⟨hn, F.nd⟩
    have li : i < (at_ :: pl).length := by simp only [List.length_cons]; omega
    have lj : j < (at_ :: pl).length := by simp only [List.length_cons]; omega
    have e : (at_ :: pl).getD i 0 = (at_ :: pl).getD j 0 := e
    rw [getD_some (List.getElem?_eq_getElem li), getD_some (List.getElem?_eq_getElem lj)] at e
    have a := nd.idxOf_getElem i li
    rw [e, nd.idxOf_getElem j lj] at a
    exact a.symm
def insV (S : List Nat) : List V := S.map fun k => V.int (k : Nat)
theorem ins_flat (S : List Nat) : (insV S).all flatV = true := by
  unfold insV
  rw [List.all_map]
  exact List.all_eq_true.mpr fun _ _ => rfl
theorem ins_in (i : Nat) (S : List Nat) : (!inV (V.int (i : Nat)) (insV S)) = decide (i ∉ S) := by
  have e : inV (V.int (i : Nat)) (insV S) = decide (i ∈ S) := by
    unfold inV insV
    rw [List.any_map]
    by_cases m : i ∈ S
    · rw [decide_eq_true m]
      exact List.any_eq_true.mpr ⟨i, m, by show ((i : Int) == (i : Int)) = true; exact beq_self_eq_true _⟩
    · rw [decide_eq_false m]
      refine Bool.eq_false_iff.mpr fun a => ?_
      obtain ⟨k, mk, ek⟩ := List.any_eq_true.mp a
      have ek : ((k : Int) == (i : Int)) = true := ek
      have := eq_of_beq ek
      exact m (by rw [show i = k by omega]; exact mk)
  rw [e]
  by_cases m : i ∈ S
  · rw [decide_eq_true m, decide_eq_false fun h => h m]; rfl
  · rw [decide_eq_false m, decide_eq_true m]; rfl
def freeL (N : Nat) (pl : List Nat) : List Nat := (List.range N).filter fun k => decide (k ∉ pl)
theorem free_succ (i : Nat) (pl : List Nat) : freeL (i + 1) pl = if i ∉ pl then freeL i pl ++ [i] else freeL i pl := by
  unfold freeL
  rw [List.range_succ, List.filter_append]
  by_cases m : i ∉ pl
  · rw [if_pos m]
    simp [m]
  · rw [if_neg m]
    have m : i ∈ pl := Classical.not_not.mp m
    simp [m]
theorem free_mem {N k : Nat} {pl : List Nat} (h : k ∈ freeL N pl) : k < N ∧ k ∉ pl := by
  unfold freeL at h
  rw [List.mem_filter] at h
  exact ⟨List.mem_range.mp h.1, of_decide_eq_true h.2⟩
theorem free_few {N : Nat} {pl : List Nat} : (freeL N pl).length ≤ N := by
  unfold freeL
  exact Nat.le_trans (List.length_filter_le _ _) (by rw [List.length_range]; exact Nat.le_refl _)
def spMo (C : Addr) : Sp := fun vs H Q _ => ∃ (d a c v b : Addr) (pss : List (List PI)) (n : Nat) (ts : List PI) (z : Str) (ps : List PI) (s : Nat), vs = [.ref d, .ref a, .ref c, .ref v] ∧ DiceAt H d ∧ LL H a pss ∧ PL H c ts ∧ H v = some (.tup [.str z, .ref b]) ∧ TFr C H b ps ∧ Ask n pss ts ∧ Right n pss ts z ps ∧ Cd s ps ∧ s ≤ 600 ∧
  ∀ v' b' ps' H', H' v' = some (.tup [.str z, .ref b']) → TFr C H' b' ps' → Right n pss ts z ps' → Cd (s + 1353) ps' → Rl d H H' → Q (.ref v') H'
theorem ok_mo {f : Addr} {fd : FuncData} (F : Fun K "_law_more" "_law_more" sMo f fd) (k : FrK P w K mg base C fI pT gT0 pB gB0 fdI fdT fdB) (gLc : Glo P w K mg base "_law_cleared" 5 ["_law_lines_here"] spLc) (gPs : Glo P w K mg base "_law_pairs" 4 ["_law_row"] (spPs C)) (gO : Glo P w K mg base "_law_one_of" 2 ["_law_dice_here", "_law_items"] spOneOf) (gN : Glo P w K mg base "_law_number" 3 ["_law_dice_here"] spNu) (gB : Glo P w K mg base "_law_by" 3 N12 (spLP byP)) (gA : Glo P w K mg base "_law_plus" 3 N12 (spLP plusP))
    (mR : mg "range" = none) (mL : mg "len" = none) (mZ : mg "zip" = none) (mT : mg "tuple" = none) : FnOk P w K mg base CX0 6 f fd ["_law_dice_here", "_law_lines_here", "_law_totals", "_law_value"] (spMo C) := by
  refine F.ok scMo (fun vs H Q E h => ?_) (fun cdv A outer s H vs Q E hr h => ?_)
  · obtain ⟨d, a, c, v, b, pss, n, ts, z, ps, sz, rfl, _⟩ := h
    rfl
  · obtain ⟨d, a, c, v, b, pss, n, ts, z, ps, sz, rfl, hd, hl, ht, hv, hb, ak, rt, cd, s6, q⟩ := h
    refine ⟨_, (pss_cons (ps_set (i := 4) scMo.nd rfl (Or.inl rfl) (pv 1))
      (pss_cons (ps_if (pt_cmpR op_ne (pe_ix ix_tup (pv 3) pe_int (fun _ _ => rfl)) pe_str (nomark _)) (pss_one (ps_set (i := 4) scMo.nd rfl (Or.inl rfl) (pe_op op_cat (pe_lc (X := (cxOf CX0 P w K mg base NMo "_law_more" (defScope sMo) f cdv A outer s H E).nox) (own := [("_law_place", 5)]) (g := (gName 5)) (tt := tYes) rfl scMo.nd (pi_range1 (by rfl) mR (pa_cons (pe_callB call_len_seq (by rfl) mL PySem.boot_len (pa_cons (pe_ix ix_list (pv 1) pe_int (fun _ _ => rfl)) pa_nil)) pa_nil)) (blkOk_by (N := NMo) (sc := (defScope sMo)) (by decide +kernel)) (fun _ _ _ _ _ => (pg_name (i := 5) scMo.nd rfl (.inr rfl))) (fun _ _ _ _ _ => pts_nil) (fun s0 H0 C0 cl0 fp0 => (pe_lc (X := (((cxOf CX0 P w K mg base NMo "_law_more" (defScope sMo) f cdv A outer s H E).nox).blk s0 H0 lcFa (compEnvC lcFa cl0 C0 ((cxOf CX0 P w K mg base NMo "_law_more" (defScope sMo) f cdv A outer s H E).nox).env) fp0)) (own := [("_law_row", 6)]) (g := (gName 6)) (tt := tYes) rfl scMo.nd (pi_listK (K := K) rfl (pv 1)) (blkOk_by (N := NMo) (sc := (relS lcFa (defScope sMo))) (by decide +kernel)) (fun _ _ _ _ _ => (pg_name (i := 6) scMo.nd rfl (.inl rfl))) (fun _ _ _ _ _ => pts_nil) (fun _ _ _ _ _ => (pe_ix (ix_listK (K := K) rfl) (pv 6) (pv 5) (fun _ _ => rfl)))))) (pe_lst (pa_cons (pv 2) pa_nil))))) pss_nil)
      (pss_cons (ps_par (i := 7) (j := 8) (by rfl) scMo.nd rfl rfl (by decide) rfl rfl (pa_cons (pe_call gLc.G (hr.mono (by decide)) (by rfl) gLc.m gLc.k gLc.b .nil pass0 (pa_cons (pv 4) pa_nil)) (pa_cons (pe_call gPs.G (hr.mono (by decide)) (by rfl) gPs.m gPs.k gPs.b .nil pass0 (pa_cons (pe_ix ix_tup (pv 3) pe_int (fun _ _ => rfl)) pa_nil)) pa_nil)) (by rfl))
      (pss_cons (ps_set (i := 9) scMo.nd rfl (Or.inr rfl) (pe_lc (X := (cxOf CX0 P w K mg base NMo "_law_more" (defScope sMo) f cdv A outer s H E).nox) (own := [("_law_row", 6)]) (g := (gName 6)) (tt := tYes) rfl scMo.nd (pi_list (pv 7)) (blkOk_by (N := NMo) (sc := (defScope sMo)) (by decide +kernel)) (fun _ _ _ _ _ => (pg_name (i := 6) scMo.nd rfl (.inl rfl))) (fun _ _ _ _ _ => pts_nil) (fun s0 H0 C0 cl0 fp0 => (pe_bmK (K := K) rfl PySem.F.plainAttrs_list PySem.F.slot_list_index PySem.F.type_list_index (mt_indexK (K := K) rfl) (pe_lc (X := (((cxOf CX0 P w K mg base NMo "_law_more" (defScope sMo) f cdv A outer s H E).nox).blk s0 H0 lcFi (compEnvC lcFi cl0 C0 ((cxOf CX0 P w K mg base NMo "_law_more" (defScope sMo) f cdv A outer s H E).nox).env) fp0)) (own := [("_law_one", 10)]) (g := (gName 10)) (tt := tYes) rfl scMo.nd (pi_listK (K := K) rfl (pv 6)) (blkOk_by (N := NMo) (sc := (relS lcFi (defScope sMo))) (by decide +kernel)) (fun _ _ _ _ _ => (pg_name (i := 10) scMo.nd rfl (.inl rfl))) (fun _ _ _ _ _ => pts_nil) (fun _ _ _ _ _ => (pe_cmpR (op_neDK (K := K) rfl hr.units) (pv 10) (pe_tup (pa_cons pe_int (pa_cons pe_int pa_nil))) (nomark _)))) (pa_cons pe_bl pa_nil)))))
      (pss_cons (ps_setLc (i := 11) (X := (cxOf CX0 P w K mg base NMo "_law_more" (defScope sMo) f cdv A outer s H E).nox) (own := [("_law_at", 12)]) (g := (gName 12)) rfl scMo.nd rfl rfl (sw_true rfl rfl rfl (by decide +kernel)) (pi_range1 (by rfl) mR (pa_cons (pe_callB call_len_seq (by rfl) mL PySem.boot_len (pa_cons (pv 8) pa_nil)) pa_nil)) (blkOk_by (N := NMo) (sc := (defScope sMo)) (by decide +kernel)) (fun _ _ _ _ _ => (pg_name (i := 12) scMo.nd rfl (.inl rfl))) (fun _ _ _ _ _ => (pts_one (pt_cmpR (op_notIn_seqK (K := K) rfl) (pv 12) (pv 9) (by rfl)))) (fun _ _ _ _ _ => (pv 12)))
      (pss_cons (ps_if (pt_cmpR (op_eqD hr.units) (pv 11) (pe_lst pa_nil) (nomark _)) (pss_one (ps_ret (pv 3))) pss_nil)
      (pss_cons (ps_par (i := 12) (j := 13) (by rfl) scMo.nd rfl rfl (by decide) rfl rfl (pa_cons (pe_call gO.G (hr.mono (by decide)) (by rfl) gO.m gO.k gO.b .nil pass0 (pa_cons (pv 0) (pa_cons (pv 11) pa_nil))) (pa_cons (pe_call gN.G (hr.mono (by decide)) (by rfl) gN.m gN.k gN.b .nil pass0 (pa_cons (pv 0) pa_nil)) pa_nil)) (by rfl))
      (pss_cons (ps_set (i := 14) scMo.nd rfl (Or.inl rfl) (pe_op op_rep (pe_lst (pa_cons (pe_tup (pa_cons pe_int (pa_cons pe_int pa_nil))) pa_nil)) (pe_callB call_len_seq (by rfl) mL PySem.boot_len (pa_cons (pv 8) pa_nil))))
      (pss_cons (ps_asg (pv 13) (pg_sub (pv 14) (pv 12) set_list))
      (pss_cons (ps_for PassesOwn.never rfl (pi_zip (by rfl) mZ (pa_cons (pv 9) (pa_cons (pv 7) pa_nil))) (pg_tup (by rfl) (pgs_cons (pg_name (i := 5) scMo.nd rfl (.inl rfl)) (pgs_cons (pg_name (i := 6) scMo.nd rfl (.inl rfl)) pgs_nil)))
        (pss_one (ps_asg (pe_call gB.G (hr.mono (by decide)) (by rfl) gB.m gB.k gB.b .nil pass0 (pa_cons (pe_tup (pa_cons (pe_op op_sub pe_int (pe_ix ix_tup (pe_ix ix_list (pv 6) (pv 12) (fun _ _ => rfl)) pe_int (fun _ _ => rfl))) (pa_cons (pe_ix ix_tup (pe_ix ix_list (pv 6) (pv 12) (fun _ _ => rfl)) pe_int (fun _ _ => rfl)) pa_nil))) (pa_cons (pv 13) pa_nil))) (pg_sub (pv 14) (pv 5) set_list))))
      (pss_cons (ps_setLc (i := 15) (X := (cxOf CX0 P w K mg base NMo "_law_more" (defScope sMo) f cdv A outer s H E).nox) (own := [("_law_old", 16), ("_law_new", 17)]) (g := (gTup K 2 (gCons (gName 16) (gCons (gName 17) gNil)))) (tt := tYes) rfl scMo.nd rfl rfl (sw_true rfl rfl rfl (by decide +kernel)) (pi_zip (by rfl) mZ (pa_cons (pv 8) (pa_cons (pv 14) pa_nil))) (blkOk_by (N := NMo) (sc := (defScope sMo)) (by decide +kernel)) (fun _ _ _ _ _ => (pg_tupK (K := K) rfl rfl (pgs_cons (pg_name (i := 16) scMo.nd rfl (.inl rfl)) (pgs_cons (pg_name (i := 17) scMo.nd rfl (.inl rfl)) pgs_nil)))) (fun _ _ _ _ _ => pts_nil) (fun _ _ _ _ _ => (pe_call gA.G (hr.mono (by decide)) (by rfl) gA.m gA.k gA.b .nil pass0 (pa_cons (pv 16) (pa_cons (pv 17) pa_nil)))))
      (pss_one (ps_ret (pe_tup (pa_cons (pe_ix ix_tup (pv 3) pe_int (fun _ _ => rfl)) (pa_cons (pe_callTy call_tuple_of (by rfl) mT (by decide +kernel) (pa_cons (pe_lc (X := (cxOf CX0 P w K mg base NMo "_law_more" (defScope sMo) f cdv A outer s H E).nox) (own := [("_law_one", 10)]) (g := (gName 10)) (tt := tYes) rfl scMo.nd (pi_list (pv 15)) (blkOk_by (N := NMo) (sc := (defScope sMo)) (by decide +kernel)) (fun _ _ _ _ _ => (pg_name (i := 10) scMo.nd rfl (.inl rfl))) (fun _ _ _ _ _ => pts_nil) (fun _ _ _ _ _ => (pe_make k.M k.GI (hr.mono (by decide)) (by rfl) k.T.mC k.b2 .nil pass0 (pa_cons (pe_ix (ix_tupK (K := K) rfl) (pv 10) pe_int (fun _ _ => rfl)) (pa_cons (pe_ix (ix_tupK (K := K) rfl) (pv 10) pe_int (fun _ _ => rfl)) pa_nil))))) pa_nil)) pa_nil)))))))))))))))), ?_⟩
    obtain ⟨n0, n4, m0, m5, hln, tl_, hcd, hct⟩ := id ak
    have w5 : ∀ ps ∈ pss, ps.length = n ∧ Cd 20 ps := fun x m => ⟨hln x m, cd_e (hcd x m)⟩
    obtain ⟨lvs, hla, hlv⟩ := id hl
    refine ⟨_, rfl, ?_⟩
    refine ⟨_, rfl, v, _, _, _, rfl, rfl, SqT.of hv, rfl, rfl, _, rfl, ?_⟩
    refine (fun (R : (∀ (fa : Addr) (H1 : Hp), LL H1 fa (facP n pss ts z) → Same H H1 → (?T : Addr → Hp → Prop) fa H1)) => ite2 (fun zz => ?a) (fun zz => ?b)) ?R
    case a =>
      have zn : ¬ z = wSol := fun e => by
        rw [e] at zz
        exact absurd zz (by decide +kernel)
      have fe : facP n pss ts z = turnP pss n ++ [ts] := by unfold facP; rw [if_neg zn]
      rw [fe] at R
      obtain ⟨q0, us0, hq0, hx0, l0⟩ : ∃ q0 us0, lvs[0]? = some (.ref q0) ∧ H q0 = some (.lst us0) ∧ us0.length = n := by
        obtain ⟨v0, h0⟩ : ∃ v0, lvs[0]? = some v0 := ⟨_, List.getElem?_eq_getElem (by rw [hlv.1]; exact m0)⟩
        obtain ⟨p0, hp0, q0, rfl, us0, e0, f0⟩ := hlv.2 0 v0 h0
        exact ⟨q0, us0, h0, e0, by rw [f0.1]; exact hln p0 (List.mem_of_getElem? hp0)⟩
      refine ⟨_, rfl, a, _, 0, _, rfl, rfl, SqL.of hla, atI_nat (j := 0) hq0, q0, us0, rfl, .inl (SqL.of hx0), (us0.length : Int), rfl, by omega, by omega, fun D hD => ?_⟩
      have nat : (us0.length : Int).toNat = n := by omega
      rw [nat]
      refine lc_range (lo := 0) (n := n) (fun i Hc => Same H Hc ∧ ∃ zs, Hc D = some (.lst zs) ∧ AG (fun v ps => ∃ q, v = .ref q ∧ q ≠ D ∧ PL Hc q ps) zs ((turnP pss n).take i)) ⟨same_new hD, [], upd_same, AG.nil⟩ ?_ ?_
      · rintro i Hc hi ⟨sm, zs, hDc, hz⟩
        have e : (0 : Int) + (i : Nat) = (i : Nat) := by omega
        rw [e]
        have ha1 := sm _ _ hla
        refine ⟨rfl, _, rfl, a, rfl, ⟨_, SqL.of ha1⟩, fun D2 hD2 => ?_⟩
        have D2D : D2 ≠ D := fun z => by rw [z, hDc] at hD2; cases hD2
        refine lc_list (xs := lvs) (fun j Hx => Same Hc Hx ∧ ∃ ws, Hx D2 = some (.lst ws) ∧ TPs Hx ws ((pss.map fun ps => ps.getD i (0, 1)).take j)) ⟨same_new hD2, [], upd_same, A2.nil⟩ (fun j Hx _ p => SqL.of (p.1 _ _ ha1)) ?_ ?_
        · rintro j v Hx hvj ⟨s2, ws, hD3, hw⟩
          obtain ⟨ps, hps, q1, rfl, pl⟩ := hlv.2 j v hvj
          have mp := List.mem_of_getElem? hps
          obtain ⟨xs, hx, hf⟩ := pl.same (sm.trans s2)
          have lx : i < xs.length := by rw [hf.1, hln ps mp]; exact hi
          have gx : xs[i]? = some xs[i] := List.getElem?_eq_getElem lx
          obtain ⟨p, hp, x, ex, tx⟩ := hf.2 i _ gx
          have jl := (List.getElem?_eq_some_iff.mp hps).1
          refine ⟨rfl, _, rfl, _, rfl, q1, _, _, _, rfl, rfl, SqL.of hx, atI_nat gx, ws, hD3, small1000 (by rw [hw.1, List.length_take]; omega), same_upd hD2 s2, ws ++ [xs[i]], upd_same, ?_⟩
          rw [take_snoc (x := p) (by rw [List.getElem?_map, hps]; show some (ps.getD i (0, 1)) = _; rw [getD_some hp])]
          exact A2.snoc (hw.updl hD3) ⟨x, ex, tup_updl tx hD3⟩
        · rintro Hx ⟨s2, ws, hD3, hw⟩
          rw [List.take_of_length_le (by rw [List.length_map, hlv.1]; exact Nat.le_refl _)] at hw
          have e := s2 _ _ hDc
          have up : ∀ q ps, q ≠ D → PL Hx q ps → PL (upd Hx D (.lst (zs ++ [.ref D2]))) q ps := fun q ps n ⟨ys, h1, h2⟩ => ⟨ys, by rw [upd_ne n]; exact h1, h2.updl e⟩
          refine ⟨zs, e, small1000 (by rw [hz.1, List.length_take]; omega), same_upd hD (sm.trans s2), zs ++ [.ref D2], upd_same, ?_⟩
          rw [take_snoc (x := pss.map fun ps => ps.getD i (0, 1)) (by unfold turnP; rw [List.getElem?_map, List.getElem?_range hi]; rfl)]
          exact AG.snoc (hz.imp fun _ _ ⟨q, e', n, t⟩ => ⟨q, e', n, up _ _ n (t.same s2)⟩) ⟨D2, rfl, D2D, up _ _ D2D ⟨ws, hD3, hw⟩⟩
      · rintro Hc ⟨sm, zs, hDc, hz⟩
        have tln : (turnP pss n).length = n := by unfold turnP; rw [List.length_map, List.length_range]
        rw [List.take_of_length_le (by omega)] at hz
        refine ⟨_, rfl, small1000 (Nat.le_of_ble_eq_true rfl), fun l1 hl1 => ?_⟩
        have s1 : Same Hc (upd Hc l1 (.lst [.ref c])) := same_new hl1
        have hl2 : upd Hc l1 (.lst [.ref c]) l1 = some (.lst [.ref c]) := upd_same
        generalize upd Hc l1 _ = H2 at s1 hl2 ⊢
        refine ⟨D, l1, _, _, rfl, rfl, s1 _ _ hDc, hl2, Nat.le_of_lt (small1000 (by rw [hz.1]; show (turnP pss n).length + 1 ≤ 1000; omega)), fun l3 hl3 => ?_⟩
        have s3 : Same H2 (upd H2 l3 (.lst (zs ++ [.ref c]))) := same_new hl3
        have hl4 : upd H2 l3 (.lst (zs ++ [.ref c])) l3 = some (.lst (zs ++ [.ref c])) := upd_same
        generalize upd H2 l3 _ = H3 at s3 hl4 ⊢
        have s13 := s1.trans s3
        exact R l3 H3 ⟨_, hl4, AG.snoc (hz.imp fun _ _ ⟨q, e', _, t⟩ => ⟨q, e', t.same s13⟩) ⟨c, rfl, ht.same (sm.trans s13)⟩⟩ (sm.trans s13)
    case b =>
      have zs : z = wSol := by
        have : decide (V.str z = V.str (Str.ofString "solution")) = true := by
          cases e : decide (V.str z = V.str (Str.ofString "solution")) with
          | true => rfl
          | false => rw [e] at zz; exact absurd rfl zz
        have := of_decide_eq_true this
        injection this
      have fe : facP n pss ts z = pss := by unfold facP; rw [if_pos zs]
      rw [fe] at R
      exact R a H hl (Same.refl H)
    case R =>
      intro fa H1 lf s1
      obtain ⟨f0, f90, fw, N0, N5⟩ := fac_ok ak rt
      have hv1 := s1 _ _ hv
      obtain ⟨xs, hxs, hxf⟩ := hb.same s1
      refine ⟨_, rfl, fa, facP n pss ts z, ps.length, rfl, lf, f0, f90, N5, fw, fun left found pl x H2 F lx s2 => ?_⟩
      refine ⟨_, rfl, v, _, _, _, rfl, rfl, SqT.of (s2 _ _ hv1), rfl, b, ps, rfl, ⟨xs, s2 _ _ hxs, ⟨hxf.1, fun i u hu => (hxf.2 i u hu).imp fun p ⟨e, q, eq, f⟩ => ⟨e, .inl ⟨q, eq, f.same s2⟩⟩⟩⟩, by omega, fun lo H3 po s3 _ => ?_⟩
      refine ⟨_, _, rfl, ?_⟩
      have lx3 := lx.same s3
      have s13 := (s1.trans s2).trans s3
      have hv3 := s13 _ _ hv
      have hb3 := hb.same s13
      have hd3 := (Rl.refl hd).same s13
      clear lx lf hl ht hla hlv hxs hxf hv1
      clear s1 s2 s3
      obtain ⟨fvs, hx3, hfv⟩ := id lx3
      have kN : found.length ≤ ps.length := F.pf.done.le
      -- the first places
      refine ⟨_, rfl, x, rfl, ⟨_, SqL.of hx3⟩, fun D hD => ?_⟩
      refine lc_list (xs := fvs) (fun i Hc => Same H3 Hc ∧ Hc D = some (.lst (insV (pl.take i)))) ⟨same_new hD, upd_same⟩ (fun i Hc _ p => SqL.of (p.1 _ _ hx3)) ?_ ?_
      · rintro i w Hc hvi ⟨sm, hDc⟩
        obtain ⟨r, hr, q1, rfl, plr⟩ := hfv.2 i w hvi
        obtain ⟨us, hus, hu⟩ := plr.same sm
        have il := (List.getElem?_eq_some_iff.mp hr).1
        obtain ⟨pc, hp⟩ : ∃ p, pl[i]? = some p := ⟨_, List.getElem?_eq_getElem (by rw [← F.ln]; exact il)⟩
        obtain ⟨⟨p1, hp1, p1n⟩, bef⟩ := F.first hr hp
        obtain ⟨rl, rz⟩ := F.fzp r (List.mem_of_getElem? hr)
        refine ⟨rfl, _, rfl, q1, rfl, ⟨_, SqL.of hus⟩, fun D2 hD2 => ?_⟩
        refine lc_list (xs := us) (fun j Hx => Same Hc Hx ∧ Hx D2 = some (.lst ((r.map fun p => V.bl (!decide (p = (0, 1)))).take j))) ⟨same_new hD2, upd_same⟩ (fun j Hx _ p => SqL.of (p.1 _ _ hus)) ?_ ?_
        · rintro j w Hx hvj ⟨s2, hD3⟩
          obtain ⟨p, hp2, x2, rfl, tx⟩ := hu.2 j w hvj
          have jl := (List.getElem?_eq_some_iff.mp hp2).1
          refine ⟨rfl, _, rfl, small1000 (Nat.le_of_ble_eq_true rfl), fun t0 ht0 => ?_⟩
          have s4 : Same Hx (upd Hx t0 (.tup [.int 0, .int 1])) := same_new ht0
          have t1 : upd Hx t0 (.tup [.int 0, .int 1]) t0 = some (.tup [.int 0, .int 1]) := upd_same
          have e := s4 _ _ hD3
          have tx2 := (s2.trans s4) _ _ tx
          generalize upd Hx t0 _ = Hy at s4 t1 e tx2 ⊢
          refine ⟨tupD p, tupD (0, 1), Dp.tup (SqT.of tx2) (.cons (.int _) (.cons (.int _) .nil)), Dp.tup (SqT.of t1) (.cons (.int _) (.cons (.int _) .nil)), ?_, ?_, ?_⟩
          · exact tupD_shaped p
          · exact tupD_shaped (0, 1)
          rw [eqv_tup]
          refine ⟨_, e, small1000 (by rw [List.length_take, List.length_map]; omega), same_upd hD2 (s2.trans s4), ?_⟩
          rw [take_snoc (x := V.bl (!decide (p = (0, 1)))) (by rw [List.getElem?_map, hp2]; rfl)]
          exact upd_same
        · rintro Hx ⟨s2, hD3⟩
          rw [List.take_of_length_le (by rw [List.length_map, hu.1]; exact Nat.le_refl _)] at hD3
          have e := s2 _ _ hDc
          refine ⟨.inl ⟨rfl, _, SqL.of hD3⟩, D2, _, .bl true, pc, .bl (!decide (p1 = (0, 1))), rfl, rfl, SqL.of hD3, rfl, ?_, ?_, ?_, fun m z' hm hz' => ?_, ?_⟩
          · rw [List.all_map]; exact List.all_eq_true.mpr fun _ _ => rfl
          · rw [List.getElem?_map, hp1]; rfl
          · rw [decide_eq_false p1n]; rfl
          · rw [List.getElem?_map] at hz'
            cases hm2 : r[m]? with
            | none => rw [hm2] at hz'; cases hz'
            | some q =>
              rw [hm2] at hz'
              rw [← Option.some.inj hz', bef m q hm hm2]
              rfl
          · refine ⟨_, e, small1000 (by unfold insV; rw [List.length_map, List.length_take]; have := F.ln; omega), same_upd hD (sm.trans s2), ?_⟩
            rw [take_snoc hp]
            unfold insV
            rw [List.map_append]
            exact upd_same
      rintro H4 ⟨s4, hD4⟩
      rw [List.take_of_length_le (by rw [hfv.1, F.ln]; exact Nat.le_refl _)] at hD4
      obtain ⟨ous, hlo, hou⟩ := id po
      have oul : ous.length = ps.length := hou.1
      refine ⟨_, rfl, lo, ous, rfl, .inl (SqL.of (s4 _ _ hlo)), (ous.length : Int), rfl, by omega, by omega, fun D2 hD2 => ?_⟩
      have natN : (ous.length : Int).toNat = ps.length := by rw [hou.1]; omega
      rw [natN]
      have D2d : D2 ≠ d := dice_ne (hd3.same s4).1 hD2
      refine lc_range (lo := 0) (n := ps.length) (fun i Hc => Same H4 Hc ∧ Hc D2 = some (.lst (insV (freeL i pl)))) ⟨same_new hD2, upd_same⟩ ?_ ?_
      · rintro i Hc hi ⟨sm, hDc⟩
        have e : (0 : Int) + (i : Nat) = (i : Nat) := by omega
        rw [e]
        refine ⟨rfl, _, rfl, _, rfl, D, _, rfl, .inl (SqL.of (sm _ _ hD4)), rfl, ins_flat pl, _, rfl, ?_⟩
        show (if (!inV (V.int (i : Nat)) (insV pl)) = true then _ else _)
        rw [ins_in]
        by_cases m : i ∉ pl
        · rw [if_pos (decide_eq_true m)]
          refine ⟨_, rfl, _, hDc, small1000 (by unfold insV; rw [List.length_map]; have := free_few (N := i) (pl := pl); omega), same_upd hD2 sm, ?_⟩
          rw [free_succ, if_pos m]
          unfold insV
          rw [List.map_append]
          exact upd_same
        · rw [if_neg (by rw [decide_eq_false m]; exact Bool.false_ne_true)]
          refine ⟨sm, ?_⟩
          rw [free_succ, if_neg m]
          exact hDc
      rintro H5 ⟨s5, hD5⟩
      refine ⟨_, rfl, Nat.zero_le _, fun l0 hl0 => ?_⟩
      have s6 : Same H5 (upd H5 l0 (.lst [])) := same_new hl0
      have hS := s6 _ _ hD5
      have hl6 : upd H5 l0 (.lst []) l0 = some (.lst []) := upd_same
      generalize upd H5 l0 _ = H6 at s6 hS hl6 ⊢
      have s46 := (s4.trans s5).trans s6
      refine ⟨inD (freeL ps.length pl), .list [], Dp.lst (SqL.of hS) (inD_dp _), Dp.lst (SqL.of hl6) .nil, inD_shaped _, rfl, _, rfl, ite2 (fun zz => ?_) (fun zz => ?_)⟩
      · exact ⟨_, rfl, q v b ps _ (s46 _ _ hv3) (hb3.same s46) rt (cd.up (by omega)) ((Rl.refl hd).same (s13.trans s46))⟩
      have fpos : 0 < (freeL ps.length pl).length := by
        cases e : freeL ps.length pl with
        | nil => rw [e] at zz; exact absurd zz (by decide +kernel)
        | cons _ _ => exact Nat.succ_pos _
      -- the draws
      have hfew := free_few (N := ps.length) (pl := pl)
      have il : (insV (freeL ps.length pl)).length = (freeL ps.length pl).length := by unfold insV; rw [List.length_map]
      have hd6 := (hd3.same s46).1
      refine ⟨_, rfl, _, rfl, d, D2, _, rfl, hd6, hS, D2d, by omega, by omega, fun kk y a1 a2 a3 hy => ?_⟩
      obtain ⟨at0, hat, rfl⟩ : ∃ at0, (freeL ps.length pl)[kk]? = some at0 ∧ y = V.int (at0 : Nat) := by
        unfold insV at hy
        rw [List.getElem?_map] at hy
        cases e : (freeL ps.length pl)[kk]? with
        | none => rw [e] at hy; cases hy
        | some w => rw [e] at hy; exact ⟨w, rfl, (Option.some.inj hy).symm⟩
      obtain ⟨atN, atn⟩ := free_mem (List.mem_of_getElem? hat)
      have R7 : Rl d H6 (upd H6 d (.lst (dxs a1 a2 a3))) := (Rl.refl hd6).roll
      have Dd : D ≠ d := dice_ne hd3.1 hD
      have lod : lo ≠ d := rl_ne hd3.1 hlo fun a b c e => by
        injection e with e
        have l := hou.1
        rw [e] at l
        obtain ⟨p, _, x, ex, _⟩ := hou.2 0 (V.int a) (by rw [e]; rfl)
        cases ex
      have hv7 := R7.2 _ _ (rl_ne hd6 (s46 _ _ hv3) fun _ _ _ z => by cases z) (s46 _ _ hv3)
      have lx7 := (lx3.same s46).rl hd6 R7
      have po7 := (po.same s46).rl lod hd6 R7
      have hD7 := R7.2 _ _ Dd ((s5.trans s6) _ _ hD4)
      have R7 := (hd3.same s46).trans R7
      clear hl6 hS hD5 hl0 hD2 hlo hou
      generalize upd H6 d _ = H7 at R7 hv7 lx7 po7 hD7 ⊢
      refine ⟨_, rfl, d, rfl, R7.1, fun t b' x2 H8 t1 t2 b1 b2 r8 hx8 => ?_⟩
      have fq : Q12 7 (nT t b', nB t b') := q12_num t1 t2 b1 b2
      have hv8 := r8.2 _ _ (rl_ne R7.1 hv7 fun _ _ _ z => by cases z) hv7
      have lx8 := lx7.rl R7.1 r8
      have po8 := po7.rl lod R7.1 r8
      have hD8 := r8.2 _ _ Dd hD7
      have R8 := R7.trans r8
      have s9 : Same H8 (upd H8 x2 (.tup [.int (nT t b'), .int (nB t b')])) := same_new hx8
      have tx9 : TA (upd H8 x2 (.tup [.int (nT t b'), .int (nB t b')])) x2 (nT t b', nB t b') := upd_same
      have hv9 := s9 _ _ hv8
      have lx9 := lx8.same s9
      have po9 := po8.same s9
      have hD9 := s9 _ _ hD8
      have R9 := R8.same s9
      clear hv7 hv8 lx7 lx8 po7 po8 hD7 hD8 R7 R8 r8 s9
      generalize upd H8 x2 _ = H9 at tx9 hv9 lx9 po9 hD9 R9 ⊢
      generalize (nT t b', nB t b') = fc at fq tx9
      refine ⟨_, _, rfl, ?_⟩
      -- what is added
      have hd9 := R9.1
      refine ⟨small1000 (Nat.le_of_ble_eq_true rfl), fun t0 ht0 => ⟨small1000 (Nat.le_of_ble_eq_true rfl), fun pb hpb => ?_⟩⟩
      have sA : Same H9 (upd H9 t0 (.tup [.int 0, .int 1])) := same_new ht0
      have tA : TA (upd H9 t0 (.tup [.int 0, .int 1])) t0 (0, 1) := upd_same
      generalize upd H9 t0 _ = HA at sA tA hpb ⊢
      have sB : Same HA (upd HA pb (.lst [.ref t0])) := same_new hpb
      have hB : upd HA pb (.lst [.ref t0]) pb = some (.lst [.ref t0]) := upd_same
      have tB : TA (upd HA pb (.lst [.ref t0])) t0 (0, 1) := sB _ _ tA
      have s9B := sA.trans sB
      generalize upd HA pb _ = HB at sB tB hB s9B ⊢
      obtain ⟨ouB, hloB, houB⟩ := id (po9.same s9B)
      have ouBl : ouB.length = ps.length := houB.1
      refine ⟨_, rfl, lo, ouB, rfl, .inl (SqL.of hloB), pb, (ouB.length : Int), [.ref t0], rfl, rfl, hB, by omega, by omega, Nat.le_of_lt (small1000 (by show 1 * (ouB.length : Int).toNat ≤ 1000; omega)), fun fl hfl => ?_⟩
      have natB : (ouB.length : Int).toNat = ps.length := by omega
      have sC : Same HB (upd HB fl (.lst (List.replicate ((ouB.length : Int).toNat) [V.ref t0]).flatten)) := same_new hfl
      have hC : upd HB fl (.lst (List.replicate ((ouB.length : Int).toNat) [V.ref t0]).flatten) fl = some (.lst (List.replicate ps.length (V.ref t0))) := by rw [upd_same, natB, flat_rep]
      have tC := tps_rep (sC _ _ tB) ps.length
      have fl9 : H9 fl = none := Same.free s9B hfl
      have s9C := s9B.trans sC
      generalize upd HB fl _ = HC at sC hC tC s9C ⊢
      have fc2 : TA HC x2 fc := s9C _ _ tx9
      refine ⟨_, rfl, _, rfl, _, rfl, fl, _, (at0 : Int), at0, rfl, rfl, hC, ?_, ?_⟩
      · unfold ixN
        rw [List.length_replicate, if_pos (by omega), if_pos (by omega)]
        exact congrArg some (by omega)
      have tD : TPs (upd HC fl (.lst ((List.replicate ps.length (V.ref t0)).set at0 (.ref x2)))) ((List.replicate ps.length (V.ref t0)).set at0 (.ref x2)) (setP (List.replicate ps.length (0, 1)) (at0, fc)) := A2.set (tC.updl hC) ⟨x2, rfl, tup_updl fc2 hC⟩ at0
      have hDd : upd HC fl (.lst ((List.replicate ps.length (V.ref t0)).set at0 (.ref x2))) fl = some (.lst ((List.replicate ps.length (V.ref t0)).set at0 (.ref x2))) := upd_same
      have sD : Same H9 (upd HC fl (.lst ((List.replicate ps.length (V.ref t0)).set at0 (.ref x2)))) := same_upd fl9 s9C
      generalize upd HC fl _ = HD at tD hDd sD ⊢
      obtain ⟨fv9, hx9, hf9⟩ := id lx9
      have fpl : found.length = pl.length := F.ln
      have f5 : fv9.length = found.length := hf9.1
      refine ⟨_, rfl, _, rfl, D, x, _, _, rfl, SqL.of (sD _ _ hD9), SqL.of (sD _ _ hx9), ?_⟩
      have fcz := fq.pz (by omega)
      refine for_it (walk_zip (xs := insV pl) (ys := fv9) (n := (pl.zip found).length) (by unfold insV; rw [List.length_map, List.length_zip, f5]))
        (fun i σ Hc => Same H9 Hc ∧ ∃ (us : List V) (x5 x6 : Option V), σ = [some (.ref d), some (.ref a), some (.ref c), some (.ref v), some (.ref fa), x5, x6, some (.ref x), some (.ref lo), some (.ref D), none, some (.ref D2), some (.int (at0 : Nat)), some (.ref x2), some (.ref fl), none, none, none] ∧ Hc fl = some (.lst us) ∧ TPs Hc us (((addZ at0 fc pl found).take (i + 1)).foldl setP (List.replicate ps.length (0, 1))))
        ⟨sD, _, _, _, rfl, hDd, tD⟩ (fun i σ Hc _ p => ⟨SqL.of (p.1 _ _ hD9), SqL.of (p.1 _ _ hx9)⟩) ?_ ?_
      · rintro i w σ Hc H' hi ⟨sm, us, x5, x6, rfl, hflc, hu⟩ ⟨T0, u1, u2, rfl, nT0, rfl, y1, y2⟩
        have y1 : (insV pl)[i]? = some u1 := y1
        have y2 : fv9[i]? = some u2 := y2
        obtain ⟨pc, gp⟩ : ∃ pc, pl[i]? = some pc := ⟨_, List.getElem?_eq_getElem (by rw [List.length_zip] at hi; omega)⟩
        have e1 : u1 = .int (pc : Nat) := by
          unfold insV at y1
          rw [List.getElem?_map, gp] at y1
          exact (Option.some.inj y1).symm
        subst e1
        obtain ⟨r, hr1, ra, rfl, plr⟩ := hf9.2 i u2 y2
        have pcn := F.pn pc (List.mem_of_getElem? gp)
        obtain ⟨rl, rz⟩ := F.fzp r (List.mem_of_getElem? hr1)
        have sT : Same Hc (upd Hc T0 (.tup [.int (pc : Nat), .ref ra])) := same_new nT0
        have tt1 : upd Hc T0 (.tup [.int (pc : Nat), .ref ra]) T0 = some (.tup [.int (pc : Nat), .ref ra]) := upd_same
        have hfl' := sT _ _ hflc
        have hu' := hu.same sT
        have sm' := sm.trans sT
        generalize upd Hc T0 _ = Hn at tt1 hfl' hu' sm' ⊢
        obtain ⟨rus, hra, hru⟩ := plr.same sm'
        obtain ⟨v0, hv0⟩ : ∃ v0, rus[at0]? = some v0 := ⟨_, List.getElem?_eq_getElem (by rw [hru.1, rl]; exact atN)⟩
        obtain ⟨p0, hp0, x0, rfl, tx0⟩ := hru.2 at0 v0 hv0
        have tx0 : TA Hn x0 p0 := tx0
        have p0z := rz p0 (List.mem_of_getElem? hp0)
        have gp0 : r.getD at0 (0, 1) = p0 := getD_some hp0
        refine ⟨T0, _, rfl, SqT.of tt1, rfl, _, _, rfl, _, _, rfl, rfl, ?_⟩
        have ck5 : clk found.length ≤ 671 := clk_mono (b := 5) (by omega)
        refine ⟨_, rfl, _, rfl, ra, _, _, _, rfl, rfl, SqL.of hra, atI_nat hv0, x0, _, _, _, rfl, rfl, SqT.of tx0, rfl, _, _, rfl, rfl, _, rfl, _, rfl, ra, _, _, _, rfl, rfl, SqL.of hra, atI_nat hv0, x0, _, _, _, rfl, rfl, SqT.of tx0, rfl, small1000 (Nat.le_of_ble_eq_true rfl), fun tn htn => ?_⟩
        have s5 : Same Hn (upd Hn tn (.tup [.int (0 - p0.1), .int p0.2])) := same_new htn
        have tn5 : TA (upd Hn tn (.tup [.int (0 - p0.1), .int p0.2])) tn (negQ p0) := upd_same
        generalize upd Hn tn _ = Ho at s5 tn5 ⊢
        have tf5 : TA Ho x2 fc := (sm'.trans s5) _ _ tx9
        refine ⟨_, rfl, tn, x2, negQ p0, fc, rfl, tn5, tf5, p0z.negQ.pp (by omega), fcz.pp (by omega), fun bx hbx => ?_⟩
        have s6 := s5.trans (same_new (o := .tup [.int (byP (negQ p0) fc).1, .int (byP (negQ p0) fc).2]) hbx)
        have tb6 : TA (upd Ho bx (.tup [.int (byP (negQ p0) fc).1, .int (byP (negQ p0) fc).2])) bx (byP (negQ p0) fc) := upd_same
        generalize upd Ho bx _ = Hp' at s6 tb6 ⊢
        have e5 := s6 _ _ hfl'
        have hu6 := hu'.same s6
        have usl : us.length = ps.length := by rw [hu.1, fold_len, List.length_replicate]
        refine ⟨_, rfl, _, rfl, fl, us, (pc : Int), pc, rfl, rfl, e5, ?_, ?_⟩
        · unfold ixN
          rw [if_pos (by omega), if_pos (by omega)]
          exact congrArg some (by omega)
        · refine ⟨same_upd fl9 (sm'.trans s6), us.set pc (.ref bx), _, _, rfl, upd_same, ?_⟩
          have za : (addZ at0 fc pl found)[i + 1]? = some (pc, byP (negQ p0) fc) := by
            unfold addZ
            rw [List.getElem?_cons_succ, List.getElem?_map, zip_get gp hr1, ← gp0]; rfl
          rw [take_snoc za, List.foldl_append]
          exact A2.set (hu6.updl e5) ⟨bx, rfl, tup_updl tb6 e5⟩ pc
      rintro σ HE ⟨sE, us, x5, x6, rfl, hfl5, hu5⟩
      have zl : (addZ at0 fc pl found).length = (pl.zip found).length + 1 := by unfold addZ; rw [List.length_cons, List.length_map]
      rw [List.take_of_length_le (by omega)] at hu5
      -- the sums
      have ac := add_cd F atN (by have := few_found F atN atn; omega) fcz
      have al := add_len (N := ps.length) (at_ := at0) (f := fc) (pl := pl) (found := found)
      have hu5 : TPs HE us (addP ps.length at0 fc pl found) := hu5
      obtain ⟨ou9, hlo9, hou9⟩ := id (po9.same sE)
      obtain ⟨mr, mc⟩ := more_right tl_ rt F atN atn (by have := few_found F atN atn; omega) fcz cd
      generalize addP ps.length at0 fc pl found = A0 at ac al hu5 mr mc
      refine ⟨_, rfl, _, rfl, lo, fl, ou9, us, rfl, SqL.of hlo9, SqL.of hfl5, fun D5 hD5 => ?_⟩
      refine lz_pl (ps := ps) (rs := A0) al.symm (by omega) plusP hD5 hlo9 hou9 hfl5 hu5 (fun _ _ => rfl) ?_ ?_
      · intro i p r x7 y7 H2 Q2 hp hr' tx ty s7 kk
        have pz := cd.pz p (List.mem_of_getElem? hp)
        have rz := ac.pz r (List.mem_of_getElem? hr')
        exact ⟨_, rfl, _, rfl, x7, y7, p, r, rfl, tx, ty, pz.pp (by omega), rz.pp (by omega), fun b2 hb2 => kk b2 _ upd_same (same_new hb2)⟩
      intro HF sF plF
      obtain ⟨zl5, hz5, hzs⟩ := id plF
      have s9F := sE.trans sF
      generalize List.zipWith plusP ps A0 = B at mr mc plF hzs
      have Bl : B.length ≤ 80 := by
        rcases mr with ⟨_, _, l⟩ | ⟨_, _, l⟩ <;> omega
      have cz := mc.pz
      -- the pair
      refine ⟨_, rfl, v, _, _, _, rfl, rfl, SqT.of (s9F _ _ hv9), rfl, _, rfl, D5, rfl, ⟨_, SqL.of hz5⟩, fun D6 hD6 => ?_⟩
      refine lc_list (xs := zl5) (fun i Hc => Same HF Hc ∧ ∃ ws, Hc D6 = some (.lst ws) ∧ FRs C Hc ws (B.take i)) ⟨same_new hD6, [], upd_same, A2.nil⟩ (fun i Hc _ p => SqL.of (p.1 _ _ hz5)) ?_ ?_
      · rintro i w Hc hi ⟨sm, ws, hDc, hw⟩
        obtain ⟨p, hp, y, rfl, ty⟩ := hzs.2 i w hi
        have ty := sm _ _ ty
        have il := (List.getElem?_eq_some_iff.mp hp).1
        have zp := cz p (List.mem_of_getElem? hp)
        refine ⟨rfl, _, rfl, y, _, _, _, rfl, rfl, SqT.of ty, rfl, _, rfl, y, _, _, _, rfl, rfl, SqT.of ty, rfl, fun g dx ng nd ne => ⟨g, dx, p.1, p.2, rfl, upd_same, zp.lf.ne, dv8 zp.lf.ne (pow_up zp.bz (by omega)), fun H3 hf3 hs3 => ?_⟩⟩
        have s3 := same_make (C := C) ng nd hs3
        rw [zp.lf.nT, zp.lf.nB] at hf3
        have e := s3 _ _ hDc
        refine ⟨rfl, ws, e, small1000 (by rw [hw.1, List.length_take]; omega), same_upd hD6 (sm.trans s3), ws ++ [.ref g], upd_same, ?_⟩
        rw [take_snoc hp]
        exact A2.snoc (A2.imp (hw.same s3) fun _ _ ⟨q, eq, f⟩ => ⟨q, eq, f.updl e⟩) ⟨g, rfl, hf3.updl e⟩
      rintro HG ⟨sG, ws, hDG, hw⟩
      rw [List.take_of_length_le (by rw [hzs.1]; exact Nat.le_refl _)] at hw
      refine ⟨D6, ws, rfl, .inl ⟨SqL.of hDG, fun l hl => ⟨small1000 (Nat.le_of_ble_eq_true rfl), fun m hm => ?_⟩⟩⟩
      have s3 := same_new (o := .tup ws) hl
      have s4 := same_new (o := .tup [.str z, .ref l]) hm
      have s9m := (s9F.trans sG).trans (s3.trans s4)
      exact q m l B _ upd_same ⟨ws, s4 _ _ upd_same, (hw.same s3).same s4⟩ mr mc (R9.same s9m)
end
end FR
set_option Elab.async false
set_option linter.all false
set_option maxRecDepth 100000
set_option maxHeartbeats 4000000
set_option exponentiation.threshold 5000
/-! values while a list grows that none of them is -/
namespace FR
open PySem PySem.Spec PyProof.Rows L2 LD RF
/-- all but what is locked is kept -/
def Kp (H H' : Hp) : Prop := ∀ q o, H q = some o → (∀ od u, o ≠ .frz od u) → H' q = some o
def msk (D : Addr) (H : Hp) : Hp := fun q => if q = D then none else H q
theorem msk_upd {D : Addr} {H : Hp} {o : HO} : msk D (L2.upd H D o) = msk D H := by
  funext q
  unfold msk
  by_cases z : q = D
  · rw [if_pos z, if_pos z]
  · rw [if_neg z, if_neg z, upd_ne z]
theorem msk_same {D : Addr} {H : Hp} : Same (msk D H) H := fun q o e => by
  unfold msk at e
  by_cases z : q = D
  · rw [if_pos z] at e; cases e
  · rw [if_neg z] at e; exact e
theorem msk_kp {D : Addr} {H : Hp} {od : Obj} {u : HO} (h : H D = some (.frz od u)) : Kp H (msk D H) := fun q o e n => by
  unfold msk
  rw [if_neg fun z => by
    rw [z, h] at e
    exact n od u (Option.some.inj e).symm]
  exact e
theorem msk_rl {D d : Addr} {H H' : Hp} (n : D ≠ d) (r : Rl d H H') : Rl d (msk D H) (msk D H') := by
  obtain ⟨⟨a, b, c, e⟩, k⟩ := r
  refine ⟨⟨a, b, c, by unfold msk; rw [if_neg (Ne.symm n)]; exact e⟩, fun q o nq hq => ?_⟩
  unfold msk at hq ⊢
  by_cases z : q = D
  · rw [if_pos z] at hq; cases hq
  · rw [if_neg z] at hq ⊢
    exact k q o nq hq
theorem msk_dice {D d : Addr} {H : Hp} (n : D ≠ d) (h : DiceAt H d) : DiceAt (msk D H) d := by
  obtain ⟨a, b, c, e⟩ := h
  exact ⟨a, b, c, by unfold msk; rw [if_neg (Ne.symm n)]; exact e⟩
section
variable {K : PySem.W.Frag} {C : Addr} {H H' : Hp} (s : Kp H H')
include s
theorem kp_tup {p : Addr} {xs : List V} (h : H p = some (.tup xs)) : H' p = some (.tup xs) := s _ _ h fun _ _ z => by cases z
theorem odd_kp {v : V} {T : String} (o : Odd K H v T) : Odd K H' v T := by
  cases o with
  | non => exact .non
  | bl b => exact .bl b
  | int i => exact .int i
  | str x => exact .str x
  | lst e => exact .lst (s _ _ e fun _ _ z => by cases z)
  | tup e => exact .tup (kp_tup s e)
  | dK e => exact .dK (s _ _ e fun _ _ z => by cases z)
theorem frat_kp {p : Addr} {t b : Int} (h : FrAt C H p t b) : FrAt C H' p t b := by
  obtain ⟨dx, e⟩ := h
  exact ⟨dx, s _ _ e fun _ _ z => by cases z⟩
theorem isfr_kp {v : V} {r : Bool} (h : IsFr K C H v r) : IsFr K C H' v r := by
  rcases h with ⟨q, t, b, e, f, er⟩ | h | ⟨T, o, hT, er⟩
  · exact .inl ⟨q, t, b, e, frat_kp s f, er⟩
  · exact .inr (.inl h)
  · exact .inr (.inr ⟨T, odd_kp s o, hT, er⟩)
theorem nums_kp {v : V} {r : Bool} (h : NumsR K C H v r) : NumsR K C H' v r := by
  rcases h with ⟨T, o, hT, er⟩ | ⟨b, ys, rs, e, hb, l9, l, z, er⟩
  · exact .inl ⟨T, odd_kp s o, hT, er⟩
  · exact .inr ⟨b, ys, rs, e, kp_tup s hb, l9, l, fun i z' hz => (z i z' hz).imp fun q ⟨a, b⟩ => ⟨a, isfr_kp s b⟩, er⟩
theorem fst_kp {x : V} (h : Fst1 H x) : Fst1 H' x := by
  rcases h with ⟨i, e⟩ | ⟨q, e, h⟩ | ⟨q, e, h⟩ | ⟨q, z, e, h, so⟩
  · exact .inl ⟨i, e⟩
  · exact .inr (.inl ⟨q, e, s _ _ h fun _ _ z => by cases z⟩)
  · exact .inr (.inr (.inl ⟨q, e, s _ _ h fun _ _ z => by cases z⟩))
  · exact .inr (.inr (.inr ⟨q, z, e, kp_tup s h, so⟩))
theorem fvs_kp {vs : List V} {ps : List PI} (h : FVs C H vs ps) : FVs C H' vs ps :=
  ⟨h.1, fun i v hv => (h.2 i v hv).imp fun p ⟨e, f⟩ => ⟨e, f.elim (fun ⟨q, e, f⟩ => .inl ⟨q, e, frat_kp s f⟩) .inr⟩⟩
theorem JO.kp {t : Nat} {v : V} (h : JO K C t H v) : JO K C t H' v := by
  obtain ⟨j, jr, c⟩ := h
  refine ⟨j, ?_, c⟩
  match j, jr with
  | none, h =>
    rcases h with ⟨T, o, hT⟩ | ⟨a, xs, e, ha, l⟩ | ⟨a, x, y, e, ha, f1⟩ | ⟨a, z, y, e, ha, n1, n2, so⟩ | ⟨a, z, y, e, ha, hz, ny⟩
    · exact .inl ⟨T, odd_kp s o, hT⟩
    · exact .inr (.inl ⟨a, xs, e, kp_tup s ha, l⟩)
    · exact .inr (.inr (.inl ⟨a, x, y, e, kp_tup s ha, fst_kp s f1⟩))
    · exact .inr (.inr (.inr (.inl ⟨a, z, y, e, kp_tup s ha, n1, n2, so⟩)))
    · exact .inr (.inr (.inr (.inr ⟨a, z, y, e, kp_tup s ha, hz, nums_kp s ny⟩)))
  | some (z, ps), h =>
    obtain ⟨a, b, e, ha, hz, ⟨⟨xs, e2, f⟩, few, lf, sz⟩⟩ := h
    exact ⟨a, b, e, kp_tup s ha, hz, ⟨xs, kp_tup s e2, fvs_kp s f⟩, few, lf, sz⟩
end
end FR
set_option Elab.async false
set_option linter.all false
set_option maxRecDepth 100000
set_option maxHeartbeats 4000000
set_option pp.maxSteps 400
set_option exponentiation.threshold 5000
/-! _law_right -/
namespace FR
open PySem PySem.Spec PyProof.Rows L2 LD RF
theorem TT.rl {C d : Addr} {H H' : Hp} {a : Addr} {pss : List (List PI)} (h : TT C H a pss) (hd : DiceAt H d) (r : Rl d H H') : TT C H' a pss := by
  obtain ⟨vs, e, z⟩ := h
  have n : a ≠ d := fun w => by
    obtain ⟨_, _, _, hd⟩ := hd
    rw [w, hd] at e; cases e
  exact ⟨vs, r.2 _ _ n e, z.imp fun _ _ ⟨q, e, t⟩ => ⟨q, e, t.rl hd r⟩⟩
theorem TT.mx {C : Addr} {H : Hp} {a : Addr} {pss : List (List PI)} (h : TT C H a pss) (g : ∀ ps ∈ pss, ps.length ≤ 80 ∧ AllLf ps ∧ Shr ps) : TMx C H a pss := by
  obtain ⟨vs, e, l, z⟩ := h
  refine ⟨vs, e, l, fun i v hv => ?_⟩
  obtain ⟨ps, hp, q, e1, xs, h1, h2⟩ := z i v hv
  obtain ⟨g1, g2, g3⟩ := g ps (List.mem_of_getElem? hp)
  exact ⟨ps, hp, q, e1, ⟨xs, h1, h2⟩, g1, g2, g3⟩
/-- a list of drawn numbers, one for each item of a list -/
theorem lc_nums {K : PySem.W.Frag} {a D d : Addr} {us : List V} (hk : us.length ≤ 900) {vs : List Nat} {σ : L2.St} {H1 : Hp} {Qd : Hp → Prop} {i1 : Nat} {te : TE} (hD : H1 D = none) (hd : DiceAt H1 d)
    (ha : H1 a = some (.lst us)) (na : a ≠ d) (wp : ∀ v : V, wipe ((wipe σ vs).set i1 (some v)) vs = wipe σ vs)
    (he : ∀ (x : V) (H : Hp) (Q : VK), DiceAt H d → (∀ (t b : Int) (y : Addr) H', -7 ≤ t → t ≤ 5 → 1 ≤ b → b ≤ 4 → Rl d H H' → H' y = none → Q (.ref y) (upd H' y (.tup [.int (nT t b), .int (nB t b)]))) → te ((wipe σ vs).set i1 (some x)) H Q)
    (hq : ∀ H ps, Rl d H1 H → PL H D ps → ps.length = us.length → (∀ p ∈ ps, Q12 7 p) → Qd H) :
    ∃ Wk : Nat → Nat → Hp → Prop, (∃ m0, Wk 0 m0 (upd H1 D (.lst []))) ∧ ∀ (i0 m0 : Nat) (h0 : Hp), Wk i0 m0 h0 →
      ((Itl K a).stop i0 h0 ∧ Qd h0) ∨ ((Itl K a).go i0 h0 ∧ ∃ Nk : Hp → Prop, (∀ h1, Nk h1 → ∃ m1, m1 < m0 ∧ Wk (i0 + 1) m1 h1) ∧ ∀ x h2, (Itl K a).yld i0 h0 x h2 → gName i1 x (wipe σ vs) h2 fun σ2 H2 => wipe σ2 vs = wipe σ vs ∧ tYes σ2 H2 fun b H3 =>
        if b = true then te σ2 H3 fun y H4 => ∃ got, H4 D = some (.lst got) ∧ got.length < sizeLine ∧ Nk (upd H4 D (.lst (got ++ [y]))) else Nk H3) := by
  have Dd := dice_ne hd hD
  refine lc_list (xs := us) (fun i H => Rl d H1 H ∧ ∃ ws ps, H D = some (.lst ws) ∧ TPs H ws ps ∧ ps.length = i ∧ ∀ p ∈ ps, Q12 7 p)
    ⟨(Rl.refl hd).grow hD Dd, [], [], upd_same, A2.nil, rfl, fun p m => (by cases m)⟩ (fun i H _ p => SqL.of (p.1.2 _ _ na ha)) ?_ fun H p => ?_
  · rintro i v Hx hx ⟨rx, ws, ps, hDx, hu, lj, hq'⟩
    have hi := (List.getElem?_eq_some_iff.mp hx).1
    refine ⟨wp _, ?_⟩
    refine he v Hx _ rx.1 fun t b x H' t1 t2 b1 b2 r2 nx => ?_
    have sx : Same H' (upd H' x (.tup [.int (nT t b), .int (nB t b)])) := same_new nx
    have e := sx _ _ (r2.2 _ _ Dd hDx)
    have hu2 : TPs (upd H' x (.tup [.int (nT t b), .int (nB t b)])) ws ps := A2.imp hu fun _ _ z => by
      obtain ⟨q, e1, e2⟩ := z.rl rx.1 r2
      exact ⟨q, e1, sx _ _ e2⟩
    refine ⟨ws, e, small1000 (by rw [hu.1]; omega), ((rx.trans r2).same sx).grow hD Dd, ws ++ [.ref x], ps ++ [(nT t b, nB t b)], upd_same, ?_, by rw [List.length_append, lj]; rfl, fun p m => ?_⟩
    · exact A2.snoc (hu2.updl e) ⟨x, rfl, tup_updl upd_same e⟩
    · rcases List.mem_append.mp m with z | z
      · exact hq' p z
      · rw [List.mem_singleton.mp z]; exact q12_num t1 t2 b1 b2
  · obtain ⟨rx, ws, ps, hDx, hu, lj, hq'⟩ := p
    exact hq H ps rx ⟨ws, hDx, hu⟩ lj hq'
/-- the pairs of the rows of a tuple of rows -/
def txB (b : Bool) : Str := if b then "True" else "False"
def rReprB : List V → Hp → VK → Prop := fun xs H Q => ∃ b, xs = [.bl b] ∧ Q (.str (txB b)) H
theorem call_reprB {X : Cx} : CallR X (.builtin "repr") rReprB := by
  intro pins s σ H xs us Q I r h
  obtain ⟨b, rfl, q⟩ := h
  obtain ⟨u, rfl, r1⟩ := vals1 r
  cases (show u = Value.bool b from r1)
  exact PySem.P.repr_of_bool ⟨.str _, H, I.tok _, ⟨_, rfl⟩, q⟩

theorem lc_prods {K : PySem.W.Frag} {a D : Addr} {pss : List (List PI)} {cs : List PI} {us : List V} (hk : pss.length ≤ 900) {vs : List Nat} {σ : L2.St} {H1 : Hp} {Qd : Hp → Prop} {i1 : Nat} {te : TE} (hD : H1 D = none)
    (ha : H1 a = some (.lst us)) (hu : AG (fun v ps => ∃ q, v = .ref q ∧ PL H1 q ps) us pss) (wp : ∀ v : V, wipe ((wipe σ vs).set i1 (some v)) vs = wipe σ vs)
    (he : ∀ (i : Nat) (ps : List PI) (x : Addr) (H : Hp) (Q : VK), pss[i]? = some ps → PL H x ps → Same H1 H → (∀ z H', TA H' z (prodP ps cs) → Same H H' → Q (.ref z) H') → te ((wipe σ vs).set i1 (some (.ref x))) H Q)
    (hd : ∀ H, Same H1 H → PL H D (pss.map fun ps => prodP ps cs) → Qd H) :
    ∃ Wk : Nat → Nat → Hp → Prop, (∃ m0, Wk 0 m0 (upd H1 D (.lst []))) ∧ ∀ (i0 m0 : Nat) (h0 : Hp), Wk i0 m0 h0 →
      ((Itl K a).stop i0 h0 ∧ Qd h0) ∨ ((Itl K a).go i0 h0 ∧ ∃ Nk : Hp → Prop, (∀ h1, Nk h1 → ∃ m1, m1 < m0 ∧ Wk (i0 + 1) m1 h1) ∧ ∀ x h2, (Itl K a).yld i0 h0 x h2 → gName i1 x (wipe σ vs) h2 fun σ2 H2 => wipe σ2 vs = wipe σ vs ∧ tYes σ2 H2 fun b H3 =>
        if b = true then te σ2 H3 fun y H4 => ∃ got, H4 D = some (.lst got) ∧ got.length < sizeLine ∧ Nk (upd H4 D (.lst (got ++ [y]))) else Nk H3) := by
  refine lc_list (xs := us) (fun i H => Same H1 H ∧ ∃ zs, H D = some (.lst zs) ∧ TPs H zs ((pss.map fun ps => prodP ps cs).take i))
    ⟨same_new hD, [], upd_same, A2.nil⟩ (fun i H _ p => SqL.of (p.1 _ _ ha)) ?_ fun H p => ?_
  · rintro i v H hx ⟨sm, zs, hDc, hz⟩
    obtain ⟨ps, hp, x, rfl, px⟩ := hu.2 i v hx
    have hi := (List.getElem?_eq_some_iff.mp hp).1
    refine ⟨wp _, ?_⟩
    refine he i ps x _ _ hp (px.same sm) sm fun z H' tz s' => ?_
    have e := s' _ _ hDc
    refine ⟨zs, e, small1000 (by rw [hz.1, List.length_take, List.length_map]; omega), same_upd hD (sm.trans s'), zs ++ [.ref z], upd_same, ?_⟩
    rw [take_snoc (x := prodP ps cs) (by rw [List.getElem?_map, hp]; rfl)]
    exact A2.snoc ((hz.same s').updl e) ⟨z, rfl, tup_updl tz e⟩
  · obtain ⟨sm, zs, hDc, hz⟩ := p
    rw [List.take_of_length_le (by rw [List.length_map, hu.1]; exact Nat.le_refl _)] at hz
    exact hd H sm ⟨zs, hDc, hz⟩
/-! ### what the sizes give -/
section
variable {n : Nat} {pss : List (List PI)} {ts : List PI}
theorem Ask.row (ak : Ask n pss ts) : ∀ ps ∈ pss, ps.length = n ∧ Cd 20 ps := fun x m => ⟨ak.ln x m, cd_e (ak.cd x m)⟩
theorem Ask.ts_cd (ak : Ask n pss ts) : Cd 20 ts := cd_e ak.ct
theorem Ask.col (ak : Ask n pss ts) : ∀ k, k < n → Cd 20 (pss.map fun ps => ps.getD k (0, 1)) := fun k hk => cd_e fun p mp => by
  obtain ⟨qs, mq, rfl⟩ := List.mem_map.mp mp
  exact ak.cd qs mq _ (getD_mem (by rw [ak.ln qs mq]; exact hk))
theorem Ask.rs (ak : Ask n pss ts) : Rs pss n := ⟨ak.m0, by have := ak.m5; omega, ak.n0, by have := ak.n4; omega, ak.ln, fun x m => (ak.row x m).2.lf, fun x m => (ak.row x m).2.shr (by omega)⟩
theorem Ask.sm (ak : Ask n pss ts) : Sm pss := fun x m p hp => ⟨pow_up ((ak.row x m).2.pz p hp).tz (by omega), pow_up ((ak.row x m).2.pz p hp).bz (by omega)⟩
theorem Ask.aug (ak : Ask n pss ts) : ∀ ps ∈ augP pss ts, ps.length = n + 1 ∧ Cd 20 ps := fun x m => by
  obtain ⟨i, hi⟩ := List.mem_iff_getElem?.mp m
  have il := (List.getElem?_eq_some_iff.mp hi).1
  rw [aug_len ak.tl] at il
  have e : (augP pss ts).getD i [] = x := getD_some hi
  rw [aug_at ak.tl il] at e
  have mp := pss_mem il
  have mt : ts.getD i (0, 1) ∈ ts := getD_mem (by rw [ak.tl]; exact il)
  rw [← e]
  refine ⟨by rw [List.length_append, ak.ln _ mp]; rfl, cd_e fun p hp => ?_⟩
  rcases List.mem_append.mp hp with y | y
  · exact ak.cd _ mp p y
  · rw [List.mem_singleton.mp y]; exact ak.ct _ mt
theorem Ask.sys (ak : Ask n pss ts) : Sys n pss ts := ⟨⟨ak.n4, fun x m => (ak.aug x m).1, fun x m => (ak.aug x m).2⟩, ak.tl, ak.ln⟩
end
section
variable {P : Program} {w : World} {K : PySem.W.Frag} {mg : Str → Option Value} {base : Heap} {C fI pT gT0 pB gB0 : Addr} {fdI fdT fdB : FuncData}
abbrev sRt : Stmt := top 60
abbrev NRt : List Str := ["_law_dice_here", "_law_lines_here", "_law_totals", "_law_line", "_law_column", "_law_one", "_law_rows", "_law_shown_here", "_law_both", "_law_total", "_law_due", "_law_found", "_law_values", "_law_turn", "_law_value"]
theorem scRt : FnScope NRt ["_law_dice_here"] (defScope sRt) := ⟨rfl, rfl, rfl, by decide +kernel, rfl, by decide +kernel, by decide +kernel⟩
def spRt : Sp := fun vs H Q _ => ∃ (d : Addr), vs = [.ref d] ∧ DiceAt H d ∧ ∀ H', Rl d H H' → Q (.bl true) H'
theorem ok_rt {f : Addr} {fd : FuncData} (F : Fun K "_law_right" "_law_right" sRt f fd) (gLn : Glo P w K mg base "_law_lines" 4 ["_law_dice_here", "_law_most", "_law_wide"] spLn) (gN : Glo P w K mg base "_law_number" 3 ["_law_dice_here"] spNu) (gR : Glo P w K mg base "_law_roll" 1 ["_law_dice_here", "_law_total"] spRoll)
    (gPd : Glo P w K mg base "_law_product" 4 ["_law_row", "_law_column"] spPd) (gSl : Glo P w K mg base "_law_shown_lines" 6 ["_law_dice_here", "_law_lines_here"] (spSl C)) (gSr : Glo P w K mg base "_law_shown_row" 5 ["_law_dice_here", "_law_pairs_here"] (spSr C)) (gLc : Glo P w K mg base "_law_cleared" 5 ["_law_lines_here"] spLc)
    (gSo : Glo P w K mg base "solution" 7 ["rows", "totals"] (spSo C)) (gLi : Glo P w K mg base "_law_is_solution" 6 ["_law_lines_here", "_law_totals", "_law_value"] (spLi K C)) (gAt : Glo P w K mg base "_law_are_told" 1 ["_law_numbers"] (spAt C)) (gMo : Glo P w K mg base "_law_more" 6 ["_law_dice_here", "_law_lines_here", "_law_totals", "_law_value"] (spMo C))
    (gNe : Glo P w K mg base "_law_near" 6 ["_law_dice_here", "_law_value"] (spNe K C)) (gIs : Glo P w K mg base "is_solution" 8 ["rows", "totals", "value"] (spIs K C)) (mR : mg "range" = none) (mL : mg "len" = none) (mZ : mg "zip" = none) (mRe : mg "repr" = none) : FnOk P w K mg base CX0 9 f fd ["_law_dice_here"] spRt := by
  refine F.ok scRt (fun vs H Q E h => ?_) (fun cdv A outer s H vs Q E hr h => ?_)
  · obtain ⟨d, rfl, _⟩ := h
    rfl
  · obtain ⟨d, rfl, hd, q⟩ := h
    have hu65 : (A.deeper (envOfC "_law_right" (defScope sRt) s.heap.objs.size f cdv)).units + 65 < cLine := by
      have := hr.mono (j := 1) (by decide)
      have := this.in1.units
      exact this
    refine ⟨_, (pss_cons (ps_set (i := 1) scRt.nd rfl (Or.inl rfl) (pe_call gLn.G (hr.mono (by decide)) (by rfl) gLn.m gLn.k gLn.b .nil pass0 (pa_cons (pv 0) (pa_cons pe_int (pa_cons pe_int pa_nil)))))
      (pss_cons (ps_setLc (i := 2) (X := (cxOf CX0 P w K mg base NRt "_law_right" (defScope sRt) f cdv A outer s H E).nox) (own := [("_law_line", 3)]) (g := (gName 3)) (tt := tYes) rfl scRt.nd rfl rfl (sw_true rfl rfl rfl (by decide +kernel)) (pi_list (pv 1)) (blkOk_by (N := NRt) (sc := (defScope sRt)) (by decide +kernel)) (fun _ _ _ _ _ => (pg_name (i := 3) scRt.nd rfl (.inl rfl))) (fun _ _ _ _ _ => pts_nil) (fun _ _ _ _ _ => (pe_call gN.G (hr.mono (by decide)) (by rfl) gN.m gN.k gN.b .nil pass0 (pa_cons (pv 0) pa_nil))))
      (pss_cons (ps_if (pt_cmpR op_eq (pe_call gR.G (hr.mono (by decide)) (by rfl) gR.m gR.k gR.b .nil pass0 (pa_cons (pv 0) (pa_cons pe_int pa_nil))) pe_int (nomark _)) (pss_cons (ps_set (i := 4) scRt.nd rfl (Or.inr rfl) (pe_lc (X := (cxOf CX0 P w K mg base NRt "_law_right" (defScope sRt) f cdv A outer s H E).nox) (own := [("_law_one", 5)]) (g := (gName 5)) (tt := tYes) rfl scRt.nd (pi_list (pe_ix ix_list (pv 1) pe_int (fun _ _ => rfl))) (blkOk_by (N := NRt) (sc := (defScope sRt)) (by decide +kernel)) (fun _ _ _ _ _ => (pg_name (i := 5) scRt.nd rfl (.inl rfl))) (fun _ _ _ _ _ => pts_nil) (fun _ _ _ _ _ => (pe_call gN.G (hr.mono (by decide)) (by rfl) gN.m gN.k gN.b .nil pass0 (pa_cons (pv 0) pa_nil)))))
      (pss_one (ps_setLc (i := 2) (X := (cxOf CX0 P w K mg base NRt "_law_right" (defScope sRt) f cdv A outer s H E).nox) (own := [("_law_line", 3)]) (g := (gName 3)) (tt := tYes) rfl scRt.nd rfl rfl (sw_true rfl rfl rfl (by decide +kernel)) (pi_list (pv 1)) (blkOk_by (N := NRt) (sc := (defScope sRt)) (by decide +kernel)) (fun _ _ _ _ _ => (pg_name (i := 3) scRt.nd rfl (.inl rfl))) (fun _ _ _ _ _ => pts_nil) (fun _ _ _ _ _ => (pe_call gPd.G (hr.mono (by decide)) (by rfl) gPd.m gPd.k gPd.b .nil pass0 (pa_cons (pv 3) (pa_cons (pv 4) pa_nil))))))) pss_nil)
      (pss_cons (ps_par (i := 6) (j := 7) (by rfl) scRt.nd rfl rfl (by decide) rfl rfl (pa_cons (pe_call gSl.G (hr.mono (by decide)) (by rfl) gSl.m gSl.k gSl.b .nil pass0 (pa_cons (pv 0) (pa_cons (pv 1) pa_nil))) (pa_cons (pe_call gSr.G (hr.mono (by decide)) (by rfl) gSr.m gSr.k gSr.b .nil pass0 (pa_cons (pv 0) (pa_cons (pv 2) pa_nil))) pa_nil)) (by rfl))
      (pss_cons (ps_set (i := 8) scRt.nd rfl (Or.inl rfl) (pe_call gLc.G (hr.mono (by decide)) (by rfl) gLc.m gLc.k gLc.b .nil pass0 (pa_cons (pe_lc (X := (cxOf CX0 P w K mg base NRt "_law_right" (defScope sRt) f cdv A outer s H E).nox) (own := [("_law_line", 3), ("_law_total", 9)]) (g := (gTup K 2 (gCons (gName 3) (gCons (gName 9) gNil)))) (tt := tYes) rfl scRt.nd (pi_zip (by rfl) mZ (pa_cons (pv 1) (pa_cons (pv 2) pa_nil))) (blkOk_by (N := NRt) (sc := (defScope sRt)) (by decide +kernel)) (fun _ _ _ _ _ => (pg_tupK (K := K) rfl rfl (pgs_cons (pg_name (i := 3) scRt.nd rfl (.inl rfl)) (pgs_cons (pg_name (i := 9) scRt.nd rfl (.inl rfl)) pgs_nil)))) (fun _ _ _ _ _ => pts_nil) (fun _ _ _ _ _ => (pe_op op_cat (pv 3) (pe_lst (pa_cons (pv 9) pa_nil))))) pa_nil)))
      (pss_cons (ps_set (i := 10) scRt.nd rfl (Or.inl rfl) (pe_ifExp (pt_cmpR (op_inD hu65) (pe_op op_cat (pe_op op_rep (pe_lst (pa_cons (pe_tup (pa_cons pe_int (pa_cons pe_int pa_nil))) pa_nil)) (pe_callB call_len_seq (by rfl) mL PySem.boot_len (pa_cons (pe_ix ix_list (pv 1) pe_int (fun _ _ => rfl)) pa_nil))) (pe_lst (pa_cons (pe_tup (pa_cons pe_int (pa_cons pe_int pa_nil))) pa_nil))) (pv 8) (by rfl)) pe_str pe_str))
      (pss_cons (ps_set (i := 11) scRt.nd rfl (Or.inl rfl) (pe_call gSo.G (hr.mono (by decide)) (by rfl) gSo.m gSo.k gSo.b .nil pass0 (pa_cons (pv 6) (pa_cons (pv 7) pa_nil))))
      (pss_cons (ps_if (PW.pt (pw_or (pt_cmpR op_ne (pe_ix ix_tup (pv 11) pe_int (fun _ _ => rfl)) (pv 10) (nomark _)) (pw_or (pt_not (pt_val (pe_call gLi.G (hr.mono (by decide)) (by rfl) gLi.m gLi.k gLi.b .nil pass0 (pa_cons (pv 1) (pa_cons (pv 2) (pa_cons (pv 11) pa_nil)))))) (pw_or1 (pt_not (pt_val (pe_call gAt.G (hr.mono (by decide)) (by rfl) gAt.m gAt.k gAt.b .nil pass0 (pa_cons (pe_ix ix_tup (pv 11) pe_int (fun _ _ => rfl)) pa_nil)))))))) (pss_one (ps_ret pe_bl)) pss_nil)
      (pss_cons (ps_set (i := 12) scRt.nd rfl (Or.inr rfl) (pe_lst (pa_cons (pv 11) (pa_cons (pe_call gMo.G (hr.mono (by decide)) (by rfl) gMo.m gMo.k gMo.b .nil pass0 (pa_cons (pv 0) (pa_cons (pv 1) (pa_cons (pv 2) (pa_cons (pv 11) pa_nil))))) pa_nil))))
      (pss_cons (ps_set (i := 12) scRt.nd rfl (Or.inr rfl) (pe_op op_cat (pv 12) (pe_lc (X := (cxOf CX0 P w K mg base NRt "_law_right" (defScope sRt) f cdv A outer s H E).nox) (own := [("_law_turn", 13)]) (g := (gName 13)) (tt := tYes) rfl scRt.nd (pi_range1 (by rfl) mR (pa_cons pe_int pa_nil)) (blkOk_by (N := NRt) (sc := (defScope sRt)) (by decide +kernel)) (fun _ _ _ _ _ => (pg_name (i := 13) scRt.nd rfl (.inl rfl))) (fun _ _ _ _ _ => pts_nil) (fun _ _ _ _ _ => (pe_lock (pe_call gNe.G (hr.mono (by decide)) (by rfl) gNe.m gNe.k gNe.b .nil pass0 (pa_cons (pv 0) (pa_cons (pe_ix (ix_listK (K := K) rfl) (pv 12) (pe_call gR.G (hr.mono (by decide)) (by rfl) gR.m gR.k gR.b .nil pass0 (pa_cons (pv 0) (pa_cons pe_int pa_nil))) (fun _ _ => rfl)) pa_nil))))))))
      (pss_cons (ps_for PassesOwn.never rfl (pi_list (pv 12)) (pg_name (i := 14) scRt.nd rfl (.inl rfl))
        (pss_one (ps_if (pt_cmpR op_ne (pe_callB call_reprB (by rfl) mRe boot_repr (pa_cons (pe_call gIs.G hr (by rfl) gIs.m gIs.k gIs.b .nil pass0 (pa_cons (pv 6) (pa_cons (pv 7) (pa_cons (pv 14) pa_nil)))) pa_nil)) (pe_callB call_reprB (by rfl) mRe boot_repr (pa_cons (pe_call gLi.G (hr.mono (by decide)) (by rfl) gLi.m gLi.k gLi.b .nil pass0 (pa_cons (pv 1) (pa_cons (pv 2) (pa_cons (pv 14) pa_nil)))) pa_nil)) (nomark _)) (pss_one (ps_ret pe_bl)) pss_nil)))
      (pss_one (ps_ret (pe_cmpR op_is_bl (pe_call gIs.G hr (by rfl) gIs.m gIs.k gIs.b .nil pass0 (pa_cons (pv 6) (pa_cons (pv 7) (pa_cons (pe_ix ix_list (pv 12) pe_int (fun _ _ => rfl)) pa_nil)))) pe_bl (nomark _))))))))))))))), ?_⟩
    -- the rows and the totals
    refine ⟨_, rfl, d, rfl, hd, fun fo pss n H1 n1 n4 l1 l5 hz hl r1 => ?_⟩
    have d1 := r1.1
    have lz : ∀ ps ∈ pss, ps.length = n := fun ps m => (hz ps m).1
    have llne : ∀ {Hx : Hp} {lvs : List V}, DiceAt Hx d → Hx fo = some (.lst lvs) → AG (fun v ps => ∃ q, v = .ref q ∧ PL Hx q ps) lvs pss → fo ≠ d := fun dx hx ax => rl_ne dx hx fun a b c e => by
      injection e with e
      obtain ⟨p, _, q, ex, _⟩ := ax.2 0 (.int a) (by rw [e]; rfl)
      cases ex
    obtain ⟨lvs, hlv1, hlv2⟩ := id hl
    have lvl : lvs.length = pss.length := hlv2.1
    have fod : fo ≠ d := llne d1 hlv1 hlv2
    refine ⟨_, rfl, fo, rfl, ⟨_, SqL.of hlv1⟩, fun D1 hD1 => ?_⟩
    refine lc_nums (d := d) (by omega) hD1 d1 hlv1 fod (fun _ => rfl) (fun x Hx Qx dx qx => ⟨_, rfl, d, rfl, dx, qx⟩) ?_
    intro H2 ts0 r2 pt0 lt0 qt0
    have D1d : D1 ≠ d := dice_ne d1 hD1
    have hl2 := hl.rl d1 r2
    have R2 := r1.trans r2
    refine ⟨_, rfl, d, 2, rfl, R2.1, by decide, by decide, fun rr p1 p2 p3 g0 g2 => ?_⟩
    have R3 : Rl d H2 (upd H2 d (.lst (dxs p1 p2 p3))) := (Rl.refl R2.1).roll
    have hl3 := hl2.rl R2.1 R3
    have pt3 := pt0.rl D1d R2.1 R3
    have R3 := R2.trans R3
    generalize upd H2 d _ = H3 at hl3 pt3 R3 ⊢
    refine ⟨rfl, _, rfl, ?_⟩
    refine (fun (R : (∀ (t0 : Addr) (x4 : Option V) (Hx : Hp) (ts : List PI), PL Hx t0 ts → ts.length = pss.length → (∀ p ∈ ts, E144 p) → Rl d H Hx → LL Hx fo pss → t0 ≠ d → (?T : Addr → Option V → Hp → Prop) t0 x4 Hx)) => ite2 (fun zz => ?a) (fun zz => ?b)) ?R
    case a =>
      obtain ⟨lv3, h31, h32⟩ := id hl3
      obtain ⟨q0, us0, hq0, hx0, l0, q0d⟩ : ∃ q0 us0, lv3[0]? = some (.ref q0) ∧ H3 q0 = some (.lst us0) ∧ us0.length = n ∧ q0 ≠ d := by
        obtain ⟨v0, h0⟩ : ∃ v0, lv3[0]? = some v0 := ⟨_, List.getElem?_eq_getElem (by rw [h32.1]; exact l1)⟩
        obtain ⟨p0, hp0, q0, rfl, pl0⟩ := h32.2 0 v0 h0
        obtain ⟨us0, e0, f0⟩ := id pl0
        exact ⟨q0, us0, h0, e0, by rw [f0.1]; exact lz p0 (List.mem_of_getElem? hp0), pl0.ne R3.1⟩
      refine ⟨_, rfl, fo, _, 0, _, rfl, rfl, SqL.of h31, atI_nat (j := 0) hq0, q0, rfl, ⟨_, SqL.of hx0⟩, fun D4 hD4 => ?_⟩
      refine lc_nums (d := d) (by omega) hD4 R3.1 hx0 q0d (fun _ => rfl) (fun x Hx Qx dx qx => ⟨_, rfl, d, rfl, dx, qx⟩) ?_
      intro H4 cs r4 pc lc qc
      have hl4 := hl3.rl R3.1 r4
      have R4 := R3.trans r4
      obtain ⟨lv4, h41, h42⟩ := id hl4
      refine ⟨_, rfl, fo, rfl, ⟨_, SqL.of h41⟩, fun D5 hD5 => ?_⟩
      have cc : Cd 20 cs := cd_e fun p m => q12_e ((qc p m).up (by omega : 7 ≤ 112)) (by omega)
      refine lc_prods (pss := pss) (cs := cs) (by omega) hD5 h41 h42 (fun _ => rfl) ?_ ?_
      · intro i ps x Hx Qx hp px sx kk
        have mp := List.mem_of_getElem? hp
        exact ⟨_, rfl, _, rfl, x, D4, ps, cs, 20, 20, rfl, px, pc.same sx, by rw [lz ps mp, lc, l0], by rw [lz ps mp]; omega, cd_e fun p m => q12_e ((hz ps mp).2 p m) (by omega), cc, by omega, kk⟩
      intro H5 s5 pt5
      generalize (some (V.ref D4) : Option V) = x4
      refine R D5 x4 H5 _ pt5 (by rw [List.length_map]) (fun p m => ?_) (R4.same s5) (hl4.same s5) (dice_ne R4.1 hD5)
      obtain ⟨ps, mp, rfl⟩ := List.mem_map.mp m
      exact prod_e (hz ps mp).2 qc (by rw [lz ps mp]; exact n4)
    case b =>
      exact R D1 none H3 ts0 pt3 (by rw [lt0, lvl]) (fun p m => q12_e ((qt0 p m).up (by omega : 7 ≤ 112)) (by omega)) R3 hl3 D1d
    case R =>
      intro t0 x4 H5 ts pt tl_ te R5 hl5 t0d
      have ak : Ask n pss ts := ⟨by omega, n4, l1, l5, lz, tl_, fun ps m p hp => q12_e ((hz ps m).2 p hp) (by omega), te⟩
      clear hl3 pt3 hl2 pt0 hlv1 hlv2 hl qt0 R3 R2
      have rc := fun ps m => (ak.row ps m).2
      refine ⟨_, rfl, _, rfl, d, fo, pss, rfl, R5.1, hl5, by omega, (fun ps m => ⟨by have := lz ps m; omega, fun p hp => ((rc ps m).pz p hp).up (by omega)⟩), fun tr H6 htt r6 => ?_⟩
      have hl6 := hl5.rl R5.1 r6
      have pt6 := pt.rl t0d R5.1 r6
      have R6 := R5.trans r6
      refine ⟨_, rfl, _, rfl, d, t0, ts, rfl, R6.1, pt6, t0d, by omega, (fun p hp => (ak.ts_cd.pz p hp).up (by omega)), fun ty H7 hty r7 ht7 => ?_⟩
      have hl7 := hl6.rl R6.1 r7
      have pt7 := pt6.rl t0d R6.1 r7
      have htt7 := (htt.rl R6.1 r7).mx fun ps m => ⟨by have := lz ps m; omega, (rc ps m).lf, (rc ps m).shr (by omega)⟩
      have htf7 : Tf C H7 ty ts := ⟨hty, by omega, ak.ts_cd.lf, ak.ts_cd.shr (by omega)⟩
      have R7 := R6.trans r7
      refine ⟨_, _, rfl, ?_⟩
      clear htt hty hl5 hl6 pt pt6 R5 R6 r6 r7
      obtain ⟨lv7, h71, h72⟩ := id hl7
      obtain ⟨tu7, h73, h74⟩ := id pt7
      have lv7l : lv7.length = pss.length := h72.1
      have tu7l : tu7.length = ts.length := h74.1
      refine ⟨_, rfl, _, rfl, fo, t0, lv7, tu7, rfl, SqL.of h71, SqL.of h73, fun D8 hD8 => ?_⟩
      refine lc_it (walk_zip (xs := lv7) (ys := tu7) (n := pss.length) (by omega)) (fun i Hc => Same H7 Hc ∧ ∃ us, Hc D8 = some (.lst us) ∧ AG (fun v ps => ∃ q, v = .ref q ∧ q ≠ D8 ∧ PL Hc q ps) us ((augP pss ts).take i))
        ⟨same_new hD8, [], upd_same, AG.nil⟩ (fun i Hc _ p => ⟨SqL.of (p.1 _ _ h71), SqL.of (p.1 _ _ h73)⟩) ?_ ?_
      · rintro i v Hc H' hi ⟨sm, us, hDc, hu⟩ ⟨T, x, y, rfl, nT, rfl, hx, hy⟩
        have hx : lv7[i]? = some x := hx
        have hy : tu7[i]? = some y := hy
        obtain ⟨ps, hps, q1, rfl, pl⟩ := h72.2 i x hx
        obtain ⟨p, hp, y1, rfl, tp⟩ := h74.2 i y hy
        have sT : Same Hc (upd Hc T (.tup [.ref q1, .ref y1])) := same_new nT
        have tt1 : upd Hc T (.tup [.ref q1, .ref y1]) T = some (.tup [.ref q1, .ref y1]) := upd_same
        have hDT := sT _ _ hDc
        have sm' := sm.trans sT
        generalize upd Hc T _ = Hn at sT tt1 hDT sm' ⊢
        refine ⟨T, _, rfl, SqT.of tt1, rfl, _, _, rfl, _, _, rfl, rfl, rfl, ?_⟩
        obtain ⟨xs, hxs, hxf⟩ := pl.same sm'
        have tp' := sm' _ _ tp
        refine ⟨_, rfl, _, rfl, small1000 (Nat.le_of_ble_eq_true rfl), fun m1 hm1 => ?_⟩
        have s1 : Same Hn (upd Hn m1 (.lst [.ref y1])) := same_new hm1
        have hm2 : upd Hn m1 (.lst [.ref y1]) m1 = some (.lst [.ref y1]) := upd_same
        generalize upd Hn m1 _ = Ho at s1 hm2 ⊢
        have xsl : xs.length = n := by rw [hxf.1, lz ps (List.mem_of_getElem? hps)]
        refine ⟨q1, m1, _, _, rfl, rfl, s1 _ _ hxs, hm2, Nat.le_of_lt (small1000 (by show xs.length + 1 ≤ 1000; omega)), fun m3 hm3 => ?_⟩
        have s2 : Same Ho (upd Ho m3 (.lst (xs ++ [.ref y1]))) := same_new hm3
        have hm4 : upd Ho m3 (.lst (xs ++ [.ref y1])) m3 = some (.lst (xs ++ [.ref y1])) := upd_same
        have m3D : m3 ≠ D8 := fun z => by
          have := s1 _ _ hDT
          rw [z, this] at hm3; cases hm3
        generalize upd Ho m3 _ = Hq at s2 hm4 ⊢
        have s12 := s1.trans s2
        have e := s12 _ _ hDT
        have up : ∀ q ps, q ≠ D8 → PL Hq q ps → PL (upd Hq D8 (.lst (us ++ [.ref m3]))) q ps := fun q ps n ⟨ys, h1, h2⟩ => ⟨ys, by rw [upd_ne n]; exact h1, h2.updl e⟩
        have usl : us.length ≤ i := by rw [hu.1, List.length_take]; omega
        refine ⟨us, e, small1000 (by omega), same_upd hD8 (sm'.trans s12), us ++ [.ref m3], upd_same, ?_⟩
        rw [take_snoc (x := ps ++ [p]) (by unfold augP; rw [List.getElem?_zipWith, hps, hp])]
        have sall := sT.trans s12
        exact AG.snoc (hu.imp fun _ _ ⟨q, e', n, t⟩ => ⟨q, e', n, up _ _ n (t.same sall)⟩) ⟨m3, rfl, m3D, up _ _ m3D ⟨_, hm4, A2.snoc (hxf.same s12) ⟨y1, rfl, s12 _ _ tp'⟩⟩⟩
      rintro H8 ⟨s8, us8, h81, h82⟩
      have aul := aug_len tl_
      rw [List.take_of_length_le (by omega)] at h82
      have hl8 : LL H8 D8 (augP pss ts) := ⟨us8, h81, h82.imp fun _ _ ⟨q, e, _, t⟩ => ⟨q, e, t⟩⟩
      refine ⟨D8, augP pss ts, n + 1, rfl, hl8, by omega, by omega, by omega, ak.aug, fun left found pl bo H9 F bo9 s9 => ?_⟩
      have s79 := s8.trans s9
      have hl9 := hl7.same s79
      have pt9 := pt7.same s79
      have htt9 := htt7.same s79
      have htf9 := htf7.same s79
      have R9 := R7.same s79
      clear hl8 h81 h82 s8 s9 hl7 pt7 htt7 htf7 R7 h71 h72 h73 h74 hD8 s79
      -- which is due
      obtain ⟨lv9, h91, h92⟩ := id hl9
      obtain ⟨q0, us0, hq0, hx0, l0⟩ : ∃ q0 us0, lv9[0]? = some (.ref q0) ∧ H9 q0 = some (.lst us0) ∧ us0.length = n := by
        obtain ⟨v0, h0⟩ : ∃ v0, lv9[0]? = some v0 := ⟨_, List.getElem?_eq_getElem (by rw [h92.1]; exact l1)⟩
        obtain ⟨p0, hp0, q0, rfl, us0, e0, f0⟩ := h92.2 0 v0 h0
        exact ⟨q0, us0, h0, e0, by rw [f0.1]; exact lz p0 (List.mem_of_getElem? hp0)⟩
      refine ⟨small1000 (Nat.le_of_ble_eq_true rfl), fun k1 hk1 => ⟨small1000 (Nat.le_of_ble_eq_true rfl), fun k2 hk2 => ?_⟩⟩
      have sA : Same H9 (upd H9 k1 (.tup [.int 0, .int 1])) := same_new hk1
      have tA : TA (upd H9 k1 (.tup [.int 0, .int 1])) k1 (0, 1) := upd_same
      generalize upd H9 k1 _ = HA at sA tA hk2 ⊢
      have sB : Same HA (upd HA k2 (.lst [.ref k1])) := same_new hk2
      have hB : upd HA k2 (.lst [.ref k1]) k2 = some (.lst [.ref k1]) := upd_same
      generalize upd HA k2 _ = HB at sB hB ⊢
      have s9B := sA.trans sB
      refine ⟨_, rfl, fo, _, 0, _, rfl, rfl, SqL.of (s9B _ _ h91), atI_nat (j := 0) hq0, q0, us0, rfl, .inl (SqL.of (s9B _ _ hx0)), k2, (us0.length : Int), [.ref k1], rfl, rfl, hB, by omega, by omega, Nat.le_of_lt (small1000 (by show 1 * (us0.length : Int).toNat ≤ 1000; omega)), fun k3 hk3 => ?_⟩
      have nat : (us0.length : Int).toNat = n := by omega
      have sC : Same HB (upd HB k3 (.lst (List.replicate ((us0.length : Int).toNat) [V.ref k1]).flatten)) := same_new hk3
      have hC : upd HB k3 (.lst (List.replicate ((us0.length : Int).toNat) [V.ref k1]).flatten) k3 = some (.lst (List.replicate n (V.ref k1))) := by rw [upd_same, nat, flat_rep]
      generalize upd HB k3 _ = HC at sC hC ⊢
      refine ⟨small1000 (Nat.le_of_ble_eq_true rfl), fun k4 hk4 => ⟨small1000 (Nat.le_of_ble_eq_true rfl), fun k5 hk5 => ?_⟩⟩
      have sD : Same HC (upd HC k4 (.tup [.int 1, .int 1])) := same_new hk4
      have tD : TA (upd HC k4 (.tup [.int 1, .int 1])) k4 (1, 1) := upd_same
      generalize upd HC k4 _ = HD at sD tD hk5 ⊢
      have sE : Same HD (upd HD k5 (.lst [.ref k4])) := same_new hk5
      have hE : upd HD k5 (.lst [.ref k4]) k5 = some (.lst [.ref k4]) := upd_same
      generalize upd HD k5 _ = HE at sE hE ⊢
      have sDE := sD.trans sE
      refine ⟨k3, k5, _, _, rfl, rfl, sDE _ _ hC, hE, Nat.le_of_lt (small1000 (by rw [List.length_replicate]; show n + 1 ≤ 1000; omega)), fun k6 hk6 => ?_⟩
      have sF : Same HE (upd HE k6 (.lst (List.replicate n (V.ref k1) ++ [V.ref k4]))) := same_new hk6
      have hF : upd HE k6 (.lst (List.replicate n (V.ref k1) ++ [V.ref k4])) k6 = some (.lst (List.replicate n (V.ref k1) ++ [V.ref k4])) := upd_same
      generalize upd HE k6 _ = HF at sF hF ⊢
      have sBF := (sC.trans sDE).trans sF
      have s9F := s9B.trans sBF
      have pk : PL HF k6 (List.replicate n (0, 1) ++ [(1, 1)]) := ⟨_, hF, A2.snoc (tps_rep ((sB.trans sBF) _ _ tA) n) ⟨k4, rfl, (sE.trans sF) _ _ tD⟩⟩
      have boF := bo9.same s9F
      have hlF := hl9.same s9F
      have ptF := pt9.same s9F
      have httF := htt9.same s9F
      have htfF := htf9.same s9F
      have RF := R9.same s9F
      clear hl9 pt9 htt9 htf9 R9 h91 h92 hx0 hk1 hk2 hk3 hk4 hk5 hk6 sA sB sC sD sE sF hB hC hE hF tA tD s9B sDE sBF s9F
      refine ⟨_, rfl, plD (List.replicate n (0, 1) ++ [(1, 1)]), found.map plD, pk.dp, boF.dp, plD_shaped _, llD_shaped found, _, rfl, ?_⟩
      have ev : ((found.map plD).any fun z => PyData.eqv z (plD (List.replicate n (0, 1) ++ [(1, 1)]))) = decide (List.replicate n (0, 1) ++ [(1, 1)] ∈ found) := by
        rw [List.any_map]
        by_cases m : List.replicate n (0, 1) ++ [(1, 1)] ∈ found
        · rw [decide_eq_true m]
          exact List.any_eq_true.mpr ⟨_, m, by show PyData.eqv (plD _) (plD _) = true; rw [eqv_pl, decide_eq_true rfl]⟩
        · rw [decide_eq_false m]
          refine Bool.eq_false_iff.mpr fun a => ?_
          obtain ⟨f', mf, ef⟩ := List.any_eq_true.mp a
          have ef : PyData.eqv (plD f') (plD (List.replicate n (0, 1) ++ [(1, 1)])) = true := ef
          rw [eqv_pl] at ef
          exact m (by rw [← of_decide_eq_true ef]; exact mf)
      rw [ev]
      refine (fun (R : (∀ (wd : Str), wd = (if List.replicate n (0, 1) ++ [(1, 1)] ∈ found then wNone else wSol) → (?U : Str → Prop) wd)) => ite2 (fun zz => ?a2) (fun zz => ?b2)) ?R2
      case a2 =>
        have m := of_decide_eq_true zz
        generalize hw : (Str.ofString "none") = wd
        exact R wd (by rw [if_pos m, ← hw]; rfl)
      case b2 =>
        have m : ¬ List.replicate n (0, 1) ++ [(1, 1)] ∈ found := fun m => zz (decide_eq_true m)
        exact R _ (by rw [if_neg m]; rfl)
      case R2 =>
        intro wd hwd
        obtain ⟨rt, cdr⟩ := resE_right ak.sys
        have due := due_ok ak.sys F rt
        refine ⟨_, rfl, _, rfl, tr, ty, pss, n, ts, rfl, httF, ak.rs, htfF, tl_, (fun x m => ⟨(ak.aug x m).2.lf, (ak.aug x m).2.shr (by omega)⟩), fitE ak.sys.g, fun tt HG so sG => ?_⟩
        generalize resE n pss.length (runE n (augP pss ts) pss.length) = res at rt cdr due so
        obtain ⟨z, ps⟩ := res
        have rt : Right n pss ts z ps := rt
        have cdr : Cd 584 ps := cdr
        have due : z = _ := due
        rw [← hwd] at due
        subst due
        obtain ⟨bb, htt, hbb⟩ : ∃ b, HG tt = some (.tup [.str z, .ref b]) ∧ TFr C HG b ps := so
        clear hwd
        have zw : z = wSol ∨ z = wNone := by
          rcases rt with ⟨e, _⟩ | ⟨e, _⟩
          · exact .inl e
          · exact .inr e
        have pl13 : 0 < ps.length ∧ ps.length ≤ 13 := by
          rcases rt with ⟨_, _, l⟩ | ⟨_, _, l⟩ <;> omega
        have hlG := hlF.same sG
        have ptG := ptF.same sG
        have httG := httF.same sG
        have htfG := htfF.same sG
        have RG := RF.same sG
        clear hlF ptF httF htfF RF sG pk boF bo9
        -- both judges
        have alf := fun ps m => (ak.row ps m).2.lf
        have jtrue : ∀ {qs : List PI}, AllLf qs → Right n pss ts z qs → judgeP pss ts n (some (z, qs)) = true := fun g r => judge_right ak.ln alf ak.ts_cd.lf tl_ g r
        have jeq : ∀ {j : JD}, (∀ z ps, j = some (z, ps) → AllLf ps) → judgeP pss ts n j = judgeL pss ts n j := fun g => judge_eq alf ak.ts_cd.lf g
        have fvs : ∀ {Hx : Hp} {ys : List V} {qs : List PI}, FRs C Hx ys qs → FVs C Hx ys qs := fun h => ⟨h.1, fun i v hv => (h.2 i v hv).imp fun p ⟨e, q, eq, f⟩ => ⟨e, .inl ⟨q, eq, f⟩⟩⟩
        have jo : ∀ {Hx : Hp} {v b : Addr} {qs : List PI} {t : Nat}, Hx v = some (.tup [.str z, .ref b]) → TFr C Hx b qs → Cd t qs → t ≤ 2400 → qs.length ≤ 80 → JR K C Hx (.ref v) (some (z, qs)) := fun hv ⟨ys, hb, hf⟩ c t24 l => ⟨_, _, rfl, hv, zw, ⟨ys, hb, fvs hf⟩, l, c.lf, c.shr t24⟩
        have j0 := jo htt hbb cdr (by omega) (by omega)
        refine ⟨_, rfl, tt, _, _, _, rfl, rfl, SqT.of htt, rfl, _, rfl, rfl, _, rfl, ?_⟩
        have ne0 : (!decide (V.str z = V.str z)) = false := by rw [decide_eq_true rfl]; rfl
        rw [ne0]
        refine iteF ?_
        refine ⟨_, rfl, _, rfl, _, rfl, fo, t0, .ref tt, pss, n, ts, some (z, ps), 20, 20, 584, rfl, hlG, ptG, l1, by omega, by omega, ak.row, ak.col, tl_, ak.ts_cd, j0, (fun z' qs e => by cases e; exact cdr), by omega, by omega, fun HH sH => ?_⟩
        rw [← jeq (fun z' qs e => by cases e; exact cdr.lf), jtrue cdr.lf rt]
        refine ⟨_, rfl, iteF ?_⟩
        have httH := sH _ _ htt
        have hbbH := hbb.same sH
        refine ⟨_, rfl, tt, _, _, _, rfl, rfl, SqT.of httH, rfl, bb, ps, rfl, hbbH, fun HI sI => ⟨_, rfl, iteF ?_⟩⟩
        have sGI := sH.trans sI
        have RI := RG.same sGI
        have hlI := hlG.same sGI
        have ptI := ptG.same sGI
        have httI := httG.same sGI
        have htfI := htfG.same sGI
        have hvI := sGI _ _ htt
        have hbI := hbb.same sGI
        clear htt hbb hlG ptG httG htfG RG j0 httH hbbH sH sI sGI
        -- another one
        refine ⟨_, rfl, _, rfl, _, rfl, _, rfl, _, rfl, d, fo, t0, tt, bb, pss, n, ts, z, ps, 584, rfl, RI.1, hlI, ptI, hvI, hbI, ak, rt, cdr, by omega, fun v2 b2 ps2 HJ hv2 hb2 rt2 cd2 rJ => ?_⟩
        have pl2 : 0 < ps2.length ∧ ps2.length ≤ 13 := by
          rcases rt2 with ⟨_, _, l⟩ | ⟨_, _, l⟩ <;> omega
        have hlJ := hlI.rl RI.1 rJ
        have ptJ := ptI.rl t0d RI.1 rJ
        have tup_rl : ∀ {Hx Hy : Hp} {p : Addr} {xs : List V}, Rl d Hx Hy → DiceAt Hx d → Hx p = some (.tup xs) → Hy p = some (.tup xs) := fun r dx h => r.2 _ _ (rl_ne dx h fun _ _ _ z => by cases z) h
        have tf_rl2 : ∀ {Hx Hy : Hp} {p : Addr} {qs : List PI}, Rl d Hx Hy → DiceAt Hx d → TFr C Hx p qs → TFr C Hy p qs := fun r dx ⟨ys, h1, h2⟩ => ⟨ys, tup_rl r dx h1, frs_rl h2 dx r⟩
        have mx_rl : ∀ {Hx Hy : Hp} {p : Addr}, Rl d Hx Hy → DiceAt Hx d → TMx C Hx p pss → TMx C Hy p pss := fun r dx ⟨ys, h1, h2⟩ => ⟨ys, tup_rl r dx h1, h2.imp fun _ _ ⟨q, e, t⟩ => ⟨q, e, tf_rl t dx r⟩⟩
        have httJ := mx_rl rJ RI.1 httI
        have htfJ := tf_rl htfI RI.1 rJ
        have hvJ := tup_rl rJ RI.1 hvI
        have hbJ := tf_rl2 rJ RI.1 hbI
        have RJ := RI.trans rJ
        clear hlI ptI httI htfI hvI hbI RI rJ
        refine ⟨small1000 (Nat.le_of_ble_eq_true rfl), fun lv hlv => ?_⟩
        have sK : Same HJ (upd HJ lv (.lst [.ref tt, .ref v2])) := same_new hlv
        have hlK : upd HJ lv (.lst [.ref tt, .ref v2]) lv = some (.lst [.ref tt, .ref v2]) := upd_same
        have lvd : lv ≠ d := dice_ne RJ.1 hlv
        generalize upd HJ lv _ = HK at sK hlK ⊢
        have hlK2 := hlJ.same sK
        have ptK := ptJ.same sK
        have httK := httJ.same sK
        have htfK := htfJ.same sK
        have hvK := sK _ _ hvJ
        have hbK := hbJ.same sK
        have hv2K := sK _ _ hv2
        have hb2K := hb2.same sK
        have RK := RJ.same sK
        clear hlJ ptJ httJ htfJ hvJ hbJ RJ sK hv2 hb2 hlv
        -- values near them
        refine ⟨_, rfl, 8, rfl, by omega, by omega, fun D9 hD9 => ?_⟩
        have D9d : D9 ≠ d := dice_ne RK.1 hD9
        have n8 : (8 : Int).toNat = 8 := rfl
        rw [n8]
        refine lc_range (lo := 0) (n := 8) (fun i Hc => Rl d HK Hc ∧ ∃ ws, Hc D9 = some (.lst ws) ∧ ws.length = i ∧ ∀ v ∈ ws, JO K C 1940 (msk D9 Hc) v) ⟨(Rl.refl RK.1).grow hD9 D9d, [], upd_same, rfl, fun v m => by cases m⟩ ?_ ?_
        · rintro i Hc hi ⟨rc, ws, hDc, wl, jw⟩
          refine ⟨rfl, D9, .lst ws, hDc, trivial, fun od => ?_⟩
          have rl1 : Rl d HK (upd Hc D9 (.frz od (.lst ws))) := rc.grow hD9 D9d
          have hl1 : upd Hc D9 (.frz od (.lst ws)) D9 = some (.frz od (.lst ws)) := upd_same
          have jw1 : ∀ v ∈ ws, JO K C 1940 (msk D9 (upd Hc D9 (.frz od (.lst ws)))) v := by rw [msk_upd]; exact jw
          generalize upd Hc D9 _ = Hl at rl1 hl1 jw1 ⊢
          refine ⟨_, rfl, _, rfl, _, rfl, d, 2, rfl, rl1.1, by decide, by decide, fun rr a1 a2 a3 g0 g2 => ?_⟩
          have r2 : Rl d Hl (upd Hl d (.lst (dxs a1 a2 a3))) := (Rl.refl rl1.1).roll
          have hl2 := r2.2 _ _ D9d hl1
          have jw2 : ∀ v ∈ ws, JO K C 1940 (msk D9 (upd Hl d (.lst (dxs a1 a2 a3)))) v := fun v m => (jw1 v m).rl (msk_dice D9d rl1.1) (msk_rl D9d r2)
          have rl2 := rl1.trans r2
          generalize upd Hl d _ = Hm at rl2 hl2 jw2 ⊢
          obtain ⟨kk, rfl⟩ : ∃ k : Nat, rr = (k : Int) := ⟨rr.toNat, by omega⟩
          obtain ⟨av, bv, qs, hav, hm1, hm2, c2, ql⟩ : ∃ av bv qs, ([V.ref tt, V.ref v2])[kk]? = some (V.ref av) ∧ Hm av = some (.tup [.str z, .ref bv]) ∧ TFr C Hm bv qs ∧ Cd 1937 qs ∧ 0 < qs.length ∧ qs.length ≤ 13 := by
            have : kk = 0 ∨ kk = 1 := by omega
            rcases this with e | e
            · subst e
              exact ⟨tt, bb, ps, rfl, tup_rl rl2 RK.1 hvK, tf_rl2 rl2 RK.1 hbK, cdr.up (by omega), pl13⟩
            · subst e
              exact ⟨v2, b2, ps2, rfl, tup_rl rl2 RK.1 hv2K, tf_rl2 rl2 RK.1 hb2K, cd2, pl2⟩
          refine ⟨lv, _, _, _, rfl, rfl, SqL.of (rl2.2 _ _ lvd hlK), atI_nat hav, d, av, bv, z, qs, 1937, rfl, rl2.1, hm1, zw, hm2, c2, by omega, ql.1, ql.2, fun v H' jv rv => ?_⟩
          have hl3 := rv.2 _ _ D9d hl2
          refine ⟨hl3, ws, upd_same, small1000 (by omega), ((rl2.trans rv).grow hD9 D9d).grow hD9 D9d, ws ++ [v], upd_same, by rw [List.length_append, wl]; rfl, fun x m => ?_⟩
          rw [msk_upd, msk_upd]
          rcases List.mem_append.mp m with y | y
          · exact (jw2 x y).rl (msk_dice D9d rl2.1) (msk_rl D9d rv)
          · rw [List.mem_singleton.mp y]
            exact jv.kp (msk_kp hl3)
        rintro HL ⟨rL, ws, hDL, wl, jw⟩
        have jwL : ∀ v ∈ ws, JO K C 1940 HL v := fun v m => (jw v m).same msk_same
        have hlvL := rL.2 _ _ lvd hlK
        refine ⟨lv, D9, _, _, rfl, rfl, hlvL, hDL, Nat.le_of_lt (small1000 (by show 2 + ws.length ≤ 1000; omega)), fun l2 hl2 => ?_⟩
        have sM : Same HL (upd HL l2 (.lst ([.ref tt, .ref v2] ++ ws))) := same_new hl2
        have hM : upd HL l2 (.lst ([.ref tt, .ref v2] ++ ws)) l2 = some (.lst ([.ref tt, .ref v2] ++ ws)) := upd_same
        generalize upd HL l2 _ = HM at sM hM ⊢
        have rM := rL.same sM
        have hlM := hlK2.rl RK.1 rM
        have ptM := ptK.rl t0d RK.1 rM
        have httM := mx_rl rM RK.1 httK
        have htfM := tf_rl htfK RK.1 rM
        have hvM := tup_rl rM RK.1 hvK
        have hbM := tf_rl2 rM RK.1 hbK
        have hv2M := tup_rl rM RK.1 hv2K
        have hb2M := tf_rl2 rM RK.1 hb2K
        have RM := RK.trans rM
        have j2M := jo hv2M hb2M cd2 (by omega) (by omega)
        have jM : ∀ (i : Nat) v, ([V.ref tt, V.ref v2] ++ ws)[i]? = some v → JO K C 1940 HM v := fun i v hv => by
          have m := List.mem_of_getElem? hv
          rcases List.mem_append.mp m with y | y
          · have y : v = .ref tt ∨ v = .ref v2 := by simpa using y
            rcases y with e | e
            · rw [e]
              exact ⟨_, jo hvM hbM cdr (by omega) (by omega), fun z' qs e => by cases e; exact cdr.up (by omega)⟩
            · rw [e]
              exact ⟨_, j2M, fun z' qs e => by cases e; exact cd2.up (by omega)⟩
          · exact (jwL v y).same sM
        clear hlK2 ptK httK htfK hvK hbK hv2K hb2K RK rL rM jw jwL hDL hlvL hlK sM
        -- the judges, one by one
        refine ⟨_, rfl, l2, rfl, ⟨_, SqL.of hM⟩, ?_⟩
        refine for_list (xs := [V.ref tt, V.ref v2] ++ ws) (fun i σ Hc => Same HM Hc ∧ ∃ x14 : Option V, σ = [some (.ref d), some (.ref fo), some (.ref t0), none, x4, none, some (.ref tr), some (.ref ty), some (.ref bo), none, some (.str z), some (.ref tt), some (.ref l2), none, x14]) ⟨Same.refl HM, none, rfl⟩ (fun i σ Hc _ p => SqL.of (p.1 _ _ hM)) ?_ ?_
        · rintro i v σ Hc hvi ⟨sm, x14, rfl⟩
          obtain ⟨j, jr, cj⟩ := jM i v hvi
          refine ⟨_, rfl, _, rfl, _, rfl, tr, ty, v, pss, n, ts, j, rfl, httM.same sm, ak.rs, ak.sm, htfM.same sm, tl_, jr.same sm, fun H2 s2 => ⟨_, rfl, ?_⟩⟩
          have sm2 := sm.trans s2
          refine ⟨_, rfl, _, rfl, _, rfl, fo, t0, v, pss, n, ts, j, 20, 20, 1940, rfl, hlM.same sm2, ptM.same sm2, l1, by omega, by omega, ak.row, ak.col, tl_, ak.ts_cd, jr.same sm2, cj, by omega, by omega, fun H3 s3 => ⟨_, rfl, ?_⟩⟩
          rw [jeq fun z' qs e => (cj z' qs e).lf]
          refine ⟨rfl, _, rfl, ?_⟩
          have ne1 : (!decide (V.str (txB (judgeL pss ts n j)) = V.str (txB (judgeL pss ts n j)))) = false := by rw [decide_eq_true rfl]; rfl
          rw [ne1]
          exact iteF ⟨sm2.trans s3, _, rfl⟩
        rintro σ HN ⟨sN, x14, rfl⟩
        refine ⟨_, rfl, _, rfl, _, rfl, l2, _, 1, _, rfl, rfl, SqL.of (sN _ _ hM), atI_nat (j := 1) rfl, tr, ty, .ref v2, pss, n, ts, _, rfl, httM.same sN, ak.rs, ak.sm, htfM.same sN, tl_, j2M.same sN, fun HO sO => ?_⟩
        rw [jtrue cd2.lf rt2]
        exact ⟨_, _, rfl, rfl, q HO (RM.same (sN.trans sO))⟩
end
end FR
set_option Elab.async false
set_option linter.all false
set_option maxRecDepth 100000
set_option maxHeartbeats 4000000
set_option exponentiation.threshold 9000
/-! rows that are written: what is asked of them, by evaluation -/
namespace FR
open RF L2
def tfB (ps : List PI) : Bool := decide ((lcmP ps).natAbs < 2 ^ 2401) && ps.all fun p => decide (0 < p.2) && decide (Nat.gcd p.1.natAbs p.2.natAbs = 1) && decide (p.1.natAbs < 2 ^ 19) && decide (p.2.natAbs < 2 ^ 19)
def rsB (pss : List (List PI)) (n : Nat) : Bool := decide (0 < pss.length) && decide (pss.length ≤ 80) && decide (0 < n) && decide (n ≤ 12) && pss.all fun ps => decide (ps.length = n) && tfB ps
theorem tf_of {ps : List PI} (h : tfB ps = true) : AllLf ps ∧ Shr ps ∧ (∀ p ∈ ps, Pz 19 p) := by
  unfold tfB at h
  rw [Bool.and_eq_true] at h
  obtain ⟨h1, h2⟩ := h
  rw [List.all_eq_true] at h2
  have g : ∀ p ∈ ps, Pz 19 p := fun p m => by
    have z := h2 p m
    rw [Bool.and_eq_true, Bool.and_eq_true, Bool.and_eq_true] at z
    exact ⟨⟨of_decide_eq_true z.1.1.1, of_decide_eq_true z.1.1.2⟩, of_decide_eq_true z.1.2, of_decide_eq_true z.2⟩
  exact ⟨fun p m => (g p m).lf, ⟨of_decide_eq_true h1, fun p m => ⟨pow_up (g p m).tz (by decide), pow_up (g p m).bz (by decide)⟩⟩, g⟩
theorem rs_of {pss : List (List PI)} {n : Nat} (h : rsB pss n = true) : Rs pss n ∧ Sm pss ∧ ∀ ps ∈ pss, ps.length = n ∧ ∀ p ∈ ps, Pz 19 p := by
  unfold rsB at h
  rw [Bool.and_eq_true, Bool.and_eq_true, Bool.and_eq_true, Bool.and_eq_true] at h
  obtain ⟨⟨⟨⟨h1, h2⟩, h3⟩, h4⟩, h5⟩ := h
  rw [List.all_eq_true] at h5
  have g : ∀ ps ∈ pss, ps.length = n ∧ tfB ps = true := fun ps m => by
    have z := h5 ps m
    rw [Bool.and_eq_true] at z
    exact ⟨of_decide_eq_true z.1, z.2⟩
  exact ⟨⟨of_decide_eq_true h1, of_decide_eq_true h2, of_decide_eq_true h3, of_decide_eq_true h4, fun ps m => (g ps m).1, fun ps m => (tf_of (g ps m).2).1, fun ps m => (tf_of (g ps m).2).2.1⟩, fun ps m p hp => ⟨pow_up ((tf_of (g ps m).2).2.2 p hp).tz (by decide), pow_up ((tf_of (g ps m).2).2.2 p hp).bz (by decide)⟩, fun ps m => ⟨(g ps m).1, (tf_of (g ps m).2).2.2⟩⟩

def fitSB (w i : Nat) (s : SE) : Bool := decide (s.rows.length = s.places.length) && decide (s.rows.length ≤ 80) && (s.rows.all fun r => decide (r.length = 2 * w + 2) && r.all fun x => decide (x.natAbs < 2 ^ 40)) && (s.places.all fun p => decide (p < w)) && decide (s.d.natAbs < 2 ^ 40) && decide (s.d ≠ 0) && decide (s.tk.length = s.rows.length) && (s.tk.all fun p => decide (p.1 < i) && decide (p.2.natAbs < 2 ^ 40))
def allB (l : List Int) : Bool := l.all fun x => decide (x.natAbs < 2 ^ 40)
def fitLB (w : Nat) (ps : List PI) (s : SE) : Bool := allB (exL w ps s.tk.length) && allB (restE w ps s)
def onE (r : RE) (f : SE → Bool) : Bool := match r with
  | .inl s => f s
  | .inr _ => true
def fitB (w : Nat) (pss : List (List PI)) : Bool := ((List.range (pss.length + 1)).all fun i => onE (runE w pss i) (fitSB w i)) && ((List.range pss.length).all fun i => onE (runE w pss i) (fitLB w (pss.getD i [])))
theorem sh40 {l : List Int} (h : allB l = true) : Sh l 40 := sh_of fun x mx => by
  unfold allB at h
  rw [List.all_eq_true] at h
  exact of_decide_eq_true (h x mx)
theorem fit_of {w : Nat} {pss : List (List PI)} (w90 : w ≤ 12) (h : fitB w pss = true) : FitE w pss := by
  unfold fitB at h
  rw [Bool.and_eq_true] at h
  obtain ⟨h1, h2⟩ := h
  rw [List.all_eq_true] at h1 h2
  refine ⟨fun i hi s e => ?_, fun i hi s e => ?_⟩
  · have z := h1 i (List.mem_range.mpr (by omega))
    rw [e] at z
    have z : fitSB w i s = true := z
    unfold fitSB at z
    simp only [Bool.and_eq_true] at z
    obtain ⟨⟨⟨⟨⟨⟨⟨a1, a2⟩, a3⟩, a4⟩, a5⟩, a6⟩, a7⟩, a8⟩ := z
    rw [List.all_eq_true] at a3 a4 a8
    have a2 := of_decide_eq_true a2
    have pl : ∀ p ∈ s.places, p < w := fun p m => of_decide_eq_true (a4 p m)
    refine ⟨⟨8000, by omega, by omega, of_decide_eq_true a1, by omega, fun r m => ?_, fun p m => by have := pl p m; omega, pow_up (of_decide_eq_true a5) (by omega)⟩, of_decide_eq_true a6, pl, of_decide_eq_true a7, fun p m => ?_, a2⟩
    · have z := a3 r m
      rw [Bool.and_eq_true] at z
      exact ⟨of_decide_eq_true z.1, fun j => pow_up (sh40 z.2 j) (by omega)⟩
    · have z := a8 p m
      rw [Bool.and_eq_true] at z
      exact ⟨of_decide_eq_true z.1, pow_up (of_decide_eq_true z.2) (by omega)⟩
  · have z := h2 i (List.mem_range.mpr hi)
    rw [e] at z
    have z : fitLB w (pss.getD i []) s = true := z
    unfold fitLB at z
    rw [Bool.and_eq_true] at z
    exact ⟨40, by omega, by omega, sh40 z.1, fun j => pow_up (sh40 z.2 j) (by omega)⟩
def halfB (p : PI) : Bool := decide ((p.1 * (2 : Int).fdiv p.2).natAbs < 2 ^ 20) && decide (p = (nT (p.1 * (2 : Int).fdiv p.2) 2, nB (p.1 * (2 : Int).fdiv p.2) 2))
def goodB (w : Nat) (pss : List (List PI)) : Bool := decide (w ≤ 4) && pss.all fun ps => decide (ps.length = w + 1) && ps.all halfB
theorem good_of {w : Nat} {pss : List (List PI)} (h : goodB w pss = true) : Good w pss := by
  unfold goodB at h
  rw [Bool.and_eq_true] at h
  obtain ⟨h1, h2⟩ := h
  rw [List.all_eq_true] at h2
  refine ⟨of_decide_eq_true h1, fun ps m => ?_, fun ps m => ?_⟩
  · have z := h2 ps m
    rw [Bool.and_eq_true] at z
    exact of_decide_eq_true z.1
  · have z := h2 ps m
    rw [Bool.and_eq_true, List.all_eq_true] at z
    refine ⟨2, by decide, by decide, fun p mp => ?_⟩
    have y := z.2 p mp
    unfold halfB at y
    rw [Bool.and_eq_true] at y
    exact ⟨_, of_decide_eq_true y.1, of_decide_eq_true y.2⟩
/-- all that solution asks of rows and totals that are written -/
def sysB (n : Nat) (pss : List (List PI)) (ts : List PI) : Bool := rsB pss n && tfB ts && decide (ts.length = pss.length) && (augP pss ts).all tfB
structure SysW (n : Nat) (pss : List (List PI)) (ts : List PI) : Prop where
  rs : Rs pss n
  sm : Sm pss
  lf : AllLf ts
  sz : Shr ts
  tl : ts.length = pss.length
  au : ∀ ps ∈ augP pss ts, AllLf ps ∧ Shr ps
  mx : ∀ ps ∈ pss, ps.length ≤ 80 ∧ AllLf ps ∧ Shr ps
theorem sys_of {n : Nat} {pss : List (List PI)} {ts : List PI} (h : sysB n pss ts = true) : SysW n pss ts := by
  unfold sysB at h
  simp only [Bool.and_eq_true] at h
  obtain ⟨⟨⟨h1, h2⟩, h3⟩, h4⟩ := h
  rw [List.all_eq_true] at h4
  obtain ⟨R, S, _⟩ := rs_of h1
  exact ⟨R, S, (tf_of h2).1, (tf_of h2).2.1, of_decide_eq_true h3, fun ps m => ⟨(tf_of (h4 ps m)).1, (tf_of (h4 ps m)).2.1⟩, fun ps m => ⟨by have := R.len ps m; have := R.n12; omega, R.lf ps m, R.sz ps m⟩⟩
def ip (i : Int) : PI := (i, 1)
def rI : List (List Int) := (List.range 12).map fun (a : Nat) => (List.range 12).map fun (b : Nat) => 1 + (if ((b : Nat) : Int) < ((a : Nat) : Int) then ((b : Nat) : Int) else ((a : Nat) : Int))
def tI : List Int := rI.map fun r => ((List.range 12).map fun (s : Nat) => r.getD s 0 * (((s : Nat) : Int) + 1)).sum
def cI : List Int := (List.range 12).map fun (s : Nat) => (rI.map fun r => r.getD s 0).sum
def many : List (List PI) := (List.range 80).map fun i => [(1, 1), ((i : Nat), 1)]
def tmany : List PI := (List.range 80).map fun i => (((i : Nat) : Int), 1)
def tone : List PI := List.replicate 79 (0, 1) ++ [(1, 1)]
def rP : List (List PI) := rI.map fun r => r.map ip
def rP2 : List (List PI) := (rI ++ [cI]).map fun r => r.map ip
def tP : List PI := tI.map ip
def tP2 : List PI := (tI ++ [tI.sum + 1]).map ip
def p1 : List (List PI) := [[(1, 1), (2, 1)], [(2, 1), (4, 1)]]
def q1 : List PI := [(1, 1), (3, 1)]
def p2 : List (List PI) := [[(0, 1)]]
def q2 : List PI := [(5, 1)]
def q3 : List PI := [(0, 1)]
def q4 : List PI := [(-5, 1)]
def p5 : List (List PI) := [[(2, 1)], [(3, 1)]]
def q5 : List PI := [(1, 1), (3, 2)]
def p6 : List (List PI) := [[(1, 1), (1, 1)]]
def q6 : List PI := [(2, 1)]
theorem sy1 : sysB 2 p1 q1 = true := by decide +kernel
theorem sy2 : sysB 1 p2 q2 = true := by decide +kernel
theorem sy3 : sysB 1 p2 q3 = true := by decide +kernel
theorem sy4 : sysB 1 p2 q4 = true := by decide +kernel
theorem sy5 : sysB 1 p5 q5 = true := by decide +kernel
theorem sy6 : sysB 2 p6 q6 = true := by decide +kernel
theorem sy7 : sysB 2 many tmany = true := by decide +kernel
theorem sy8 : sysB 2 many tone = true := by decide +kernel
theorem sy9 : sysB 12 rP tP = true := by decide +kernel
theorem sy10 : sysB 12 rP2 tP2 = true := by decide +kernel
theorem fi1 : FitE 2 (augP p1 q1) := fitE (good_of (by decide +kernel))
theorem fi2 : FitE 1 (augP p2 q2) := fitE (good_of (by decide +kernel))
theorem fi3 : FitE 1 (augP p2 q3) := fitE (good_of (by decide +kernel))
theorem fi4 : FitE 1 (augP p2 q4) := fitE (good_of (by decide +kernel))
theorem fi5 : FitE 1 (augP p5 q5) := fitE (good_of (by decide +kernel))
theorem fi7 : FitE 2 (augP many tmany) := fitE (good_of (by decide +kernel))
theorem fi8 : FitE 2 (augP many tone) := fitE (good_of (by decide +kernel))
theorem fi9 : FitE 12 (augP rP tP) := fit_of (by omega) (by decide +kernel)
theorem fi10 : FitE 12 (augP rP2 tP2) := fit_of (by omega) (by decide +kernel)
abbrev ansE (n : Nat) (pss : List (List PI)) (ts : List PI) : PySem.Str × List PI := resE n pss.length (runE n (augP pss ts) pss.length)
theorem re1 : ansE 2 p1 q1 = (wNone, [(-2, 1), (1, 1)]) := by decide +kernel
theorem re2 : ansE 1 p2 q2 = (wNone, [(1, 5)]) := by decide +kernel
theorem re3 : ansE 1 p2 q3 = (wSol, [(0, 1)]) := by decide +kernel
theorem re4 : ansE 1 p2 q4 = (wNone, [(-1, 5)]) := by decide +kernel
theorem re5 : ansE 1 p5 q5 = (wSol, [(1, 2)]) := by decide +kernel
theorem re7 : ansE 2 many tmany = (wSol, [(0, 1), (1, 1)]) := by decide +kernel
theorem re8 : (ansE 2 many tone).1 = wNone := by decide +kernel
theorem re9 : ansE 12 rP tP = (wSol, (List.range 12).map fun i => ((1 : Int) + (i : Nat), 1)) := by decide +kernel
theorem re10 : ansE 12 rP2 tP2 = (wNone, List.replicate 12 (-1, 1) ++ [(1, 1)]) := by decide +kernel
theorem ju6 : judgeP p6 q6 2 (some (wSol, [(-5, 1), (7, 1)])) = true := by decide +kernel
theorem ju2 : judgeP p2 q2 1 (some (wNone, [(1, 1)])) = false := by decide +kernel
theorem cf1 : tfB [(1, 1)] = true := by decide +kernel
theorem cf2 : tfB [(-5, 1), (7, 1)] = true := by decide +kernel
end FR
set_option Elab.async false
set_option linter.all false
set_option maxRecDepth 100000
set_option maxHeartbeats 4000000
set_option exponentiation.threshold 9000
set_option pp.maxSteps 400
namespace L2
open PySem PySem.Spec PyProof.Rows
/-- two equal texts -/
def DStr : Eqv := fun x y _ => ∃ z : Str, x = .str z ∧ y = .str z
theorem mon_str : Mon DStr := fun _ _ _ _ _ d => d
theorem eqG_str {X : Cx} {n : Nat} : EqG X n DStr := by
  intro A pins s σ H x y u v sb I rx ry ⟨z, ex, ey⟩
  subst ex ey
  refine eqAt_V (A := A) (s := s) rx ry rfl rfl _ _ _ _ ⟨?_, H, I, Ext.rfl'⟩
  exact beq_self_eq_true z
theorem cr_sumK {X : Cx} {K : PySem.W.Frag} (hK : X.K = K) (hc : X.calm = true) : CallR X (.builtin "sum") (rSum K) := by
  subst hK
  exact cr_sum hc
theorem pi_enumTK {X : Cx} {K : PySem.W.Frag} {e : Expr} {ta : TA} {p pos tpos : Pos} {elts : List Expr} {kk : Nat} (hK : X.K = K) (hg : Gl X "enumerate") (hm : X.mg "enumerate" = none) (ha : PA X [e] ta) (hs : starEach [e] X.env = [(false, eval e X.env)] := by rfl) :
    PI X (.Tuple elts kk tpos) (.Call (.Name "enumerate" p) [e] [] pos) (iEnumT K ta) := by
  subst hK
  exact pi_enumT hg hm ha hs
end L2
namespace FR
open PySem PySem.Spec PyProof.Rows L2 LD RF
/-- two fractions that are one by their parts -/
def REq (C : Addr) (a b : Addr) (H : Hp) : Prop := ∃ t u, FrAt C H a t u ∧ FrAt C H b t u
theorem mon_req (C : Addr) : ∀ a b H H', Ext H H' → REq C a b H → REq C a b H' := fun _ _ _ _ e ⟨t, u, h1, h2⟩ => ⟨t, u, h1.same e, h2.same e⟩
theorem FrAt.to {C : Addr} {H : Hp} {p : Addr} {t b t' b' : Int} (h : FrAt C H p t b) (e1 : t = t') (e2 : b = b') : FrAt C H p t' b' := by
  subst e1 e2
  exact h
theorem tv_i {C : Addr} {H : Hp} {a : Addr} : ∀ {is : List Int}, H a = some (.tup (is.map V.int)) → TV C H a (is.map fun i => (i, 1)) := fun {is} h => ⟨_, h, by
  refine ⟨by rw [List.length_map, List.length_map], fun i v hv => ?_⟩
  rw [List.getElem?_map] at hv ⊢
  cases e : is[i]? with
  | none => rw [e] at hv; cases hv
  | some x =>
    rw [e] at hv
    cases hv
    exact ⟨_, rfl, .inr ⟨rfl, rfl⟩⟩⟩
theorem tt1 {C : Addr} {H : Hp} {a q1 : Addr} {p1 : List PI} (h : H a = some (.tup [.ref q1])) (h1 : TV C H q1 p1) : TT C H a [p1] := ⟨_, h, AG.snoc AG.nil ⟨q1, rfl, h1⟩⟩
theorem tt2 {C : Addr} {H : Hp} {a q1 q2 : Addr} {p1 p2 : List PI} (h : H a = some (.tup [.ref q1, .ref q2])) (h1 : TV C H q1 p1) (h2 : TV C H q2 p2) : TT C H a [p1, p2] := ⟨_, h, AG.snoc (AG.snoc AG.nil ⟨q1, rfl, h1⟩) ⟨q2, rfl, h2⟩⟩
def REI (C : Addr) (a : Addr) (i : Int) (H : Hp) : Prop := FrAt C H a i 1
/-- a fraction beside an integer or a fraction -/
def DEl (C : Addr) : Eqv := fun x y H => DOwnI C (REI C) x y H ∨ DIns C (REq C) x y H
theorem mon_el (C : Addr) : Mon (DEl C) := (mon_ownI (C := C) (R := REI C) fun _ _ _ _ e h => h.same e).or (mon_ins (mon_req C))
theorem prs_one {C : Addr} {H : Hp} {xs ys : List V} {ps : List PI} (h : FRs C H xs ps) (g : FVs C H ys ps) : Prs (DEl C) xs ys H := by
  refine ⟨by rw [h.1, g.1], fun i x y hx hy => ?_⟩
  obtain ⟨p, hp, a, rfl, dx, fx⟩ := h.2 i x hx
  obtain ⟨p', hp', fv⟩ := g.2 i y hy
  rw [hp] at hp'
  cases hp'
  rcases fv with ⟨b, rfl, dy, fy⟩ | ⟨rfl, e⟩
  · exact .inr ⟨a, b, dx, dy, _, _, rfl, rfl, fx, fy, _, _, ⟨dx, fx⟩, ⟨dy, fy⟩⟩
  · rw [e] at fx
    exact .inl ⟨a, dx, _, p.1, rfl, rfl, fx, dx, fx⟩
theorem dt_one {K : PySem.W.Frag} {C : Addr} {H : Hp} {a b : Addr} {ps : List PI} (h : TFr C H a ps) (g : TV C H b ps) : DTup K (DEl C) (.ref a) (.ref b) H := by
  obtain ⟨xs, h1, h2⟩ := h
  obtain ⟨ys, h3, h4⟩ := g
  exact ⟨a, b, xs, ys, rfl, rfl, SqT.of h1, SqT.of h3, prs_one h2 h4⟩
def BLs (H : Hp) (a : Addr) (n : Nat) : Prop := H a = some (.lst (List.replicate n (V.bl true)))
theorem BLs.same {H H' : Hp} {a : Addr} {n : Nat} (h : BLs H a n) (s : Same H H') : BLs H' a n := s _ _ h
def bD (n : Nat) : PyData := .list (List.replicate n (.bool true))
theorem bls_all {K : PySem.W.Frag} {H : Hp} : ∀ n : Nat, DpAll K H (List.replicate n (V.bl true)) (List.replicate n (.bool true))
  | 0 => .nil
  | n + 1 => by rw [List.replicate_succ, List.replicate_succ]; exact .cons (.bl _) (bls_all n)
theorem BLs.dp {K : PySem.W.Frag} {H : Hp} {a : Addr} {n : Nat} (h : BLs H a n) : Dp K H (.ref a) (bD n) := .lst (SqL.of h) (bls_all n)

theorem TT.mxS {C : Addr} {H : Hp} {a : Addr} {pss : List (List PI)} {n : Nat} {ts : List PI} (h : TT C H a pss) (r : SysW n pss ts) : TMx C H a pss := h.mx r.mx
theorem TV.tfS {C : Addr} {H : Hp} {a : Addr} {pss : List (List PI)} {n : Nat} {ts : List PI} (h : TV C H a ts) (r : SysW n pss ts) : Tf C H a ts := by
  obtain ⟨xs, h1, h2⟩ := h
  exact ⟨⟨xs, h1, h2⟩, by have := r.tl; have := r.rs.few; omega, r.lf, r.sz⟩
theorem TV.tfB {C : Addr} {H : Hp} {a : Addr} {ps : List PI} (h : TV C H a ps) (l : ps.length ≤ 80) (r : FR.tfB ps = true) : Tf C H a ps := by
  obtain ⟨xs, h1, h2⟩ := h
  exact ⟨⟨xs, h1, h2⟩, l, (tf_of r).1, (tf_of r).2.1⟩
/-- a text and a tuple of fractions, beside such a pair -/
def DRes (K : PySem.W.Frag) (C : Addr) : Eqv := fun x y H => DStr x y H ∨ DTup K (DEl C) x y H
theorem mon_res (K : PySem.W.Frag) (C : Addr) : Mon (DRes K C) := mon_str.or (mon_tup (mon_el C))
theorem sol_to {C : Addr} {H : Hp} {t : Addr} {x : Str × List PI} {z : Str} {ps : List PI} (e : x = (z, ps)) (h : SolAt C H t x.1 x.2) : SolAt C H t z ps := by
  rw [e] at h
  exact h
theorem sol_word {C : Addr} {H : Hp} {t : Addr} {x : Str × List PI} {z : Str} (e : x.1 = z) (h : SolAt C H t x.1 x.2) : SolAt C H t z x.2 := by
  rw [e] at h
  exact h
theorem SolAt.same {C : Addr} {H H' : Hp} {t : Addr} {z : Str} {ps : List PI} (h : SolAt C H t z ps) (s : Same H H') : SolAt C H' t z ps := by
  obtain ⟨b, e, f⟩ := h
  exact ⟨b, s _ _ e, f.same s⟩
theorem dt_res {K : PySem.W.Frag} {C : Addr} {H : Hp} {t t2 b2 : Addr} {z : Str} {ps : List PI} (h : SolAt C H t z ps) (e : H t2 = some (.tup [.str z, .ref b2])) (g : TV C H b2 ps) : DTup K (DRes K C) (.ref t) (.ref t2) H := by
  obtain ⟨b, h1, h2⟩ := h
  refine ⟨t, t2, _, _, rfl, rfl, SqT.of h1, SqT.of e, rfl, fun i x y hx hy => ?_⟩
  match i, hx, hy with
  | 0, hx, hy =>
    cases hx
    cases hy
    exact .inl ⟨z, rfl, rfl⟩
  | 1, hx, hy =>
    cases hx
    cases hy
    exact .inr (dt_one h2 g)
def LZ (H : Hp) (a : Addr) : Prop := H a = some (.lst [])
theorem LZ.same {H H' : Hp} {a : Addr} (h : LZ H a) (s : Same H H') : LZ H' a := s _ _ h
/-- rows of integers, as tuples, in a list -/
def RowsL (H : Hp) (us : List V) (rs : List (List Int)) : Prop := AG (fun v r => ∃ q, v = .ref q ∧ H q = some (.tup (r.map V.int))) us rs
theorem RowsL.same {H H' : Hp} {us : List V} {rs : List (List Int)} (h : RowsL H us rs) (s : Same H H') : RowsL H' us rs := h.imp fun _ _ ⟨q, e, t⟩ => ⟨q, e, s _ _ t⟩
theorem RowsL.tt {C : Addr} {H : Hp} {a : Addr} {us : List V} {rs : List (List Int)} (h : RowsL H us rs) (e : H a = some (.tup us)) : TT C H a (rs.map fun r => r.map ip) := by
  refine ⟨us, e, by rw [h.1, List.length_map], fun i v hv => ?_⟩
  obtain ⟨r, hr, q, e1, t⟩ := h.2 i v hv
  exact ⟨r.map ip, by rw [List.getElem?_map, hr]; rfl, q, e1, tv_i t⟩
theorem tv_one {C : Addr} {H : Hp} {a : Addr} {n : Nat} {x y : Int} (h : H a = some (.tup ((List.replicate n [V.int x]).flatten ++ [V.int y]))) : TV C H a (List.replicate n (x, 1) ++ [(y, 1)]) := by
  rw [flat_rep] at h
  have e : List.replicate n (V.int x) ++ [V.int y] = (List.replicate n x ++ [y]).map V.int := by rw [List.map_append, List.map_replicate]; rfl
  rw [e] at h
  have z := tv_i (C := C) h
  rw [List.map_append, List.map_replicate] at z
  exact z
theorem tv_r80 {C : Addr} {H : Hp} {a : Addr} (h : H a = some (.tup (rgV 0 80))) : TV C H a tmany := by
  have e : rgV 0 80 = ((List.range 80).map fun i : Nat => (i : Int)).map V.int := by rfl
  rw [e] at h
  have := tv_i (C := C) h
  rw [List.map_map] at this
  exact this
theorem tv_r13 {C : Addr} {H : Hp} {a : Addr} (h : H a = some (.tup (rgV 1 13))) : TV C H a ((List.range 12).map fun i => ((1 : Int) + (i : Nat), 1)) := by
  have e : rgV 1 13 = ((List.range 12).map fun i : Nat => (1 : Int) + (i : Nat)).map V.int := by rfl
  rw [e] at h
  have := tv_i (C := C) h
  rw [List.map_map] at this
  exact this
def rowI (a : Nat) : List Int := (List.range 12).map fun (b : Nat) => 1 + (if ((b : Nat) : Int) < ((a : Nat) : Int) then ((b : Nat) : Int) else ((a : Nat) : Int))
theorem rI_get {i : Nat} (h : i < 12) : rI[i]? = some (rowI i) := by unfold rI rowI; rw [List.getElem?_map, List.getElem?_range h]; rfl
theorem rI_len : rI.length = 12 := by decide +kernel
theorem rI_row : ∀ r ∈ rI, r.length = 12 := by decide +kernel
theorem rI_sm : ∀ r ∈ rI, ∀ x ∈ r, x.natAbs < 2 ^ 10 := by decide +kernel
def totI (r : List Int) : List Int := (List.range 12).map fun (s : Nat) => r.getD s 0 * (((s : Nat) : Int) + 1)
theorem tI_len : tI.length = 12 := by decide +kernel
theorem tI_get {i : Nat} {r : List Int} (h : rI[i]? = some r) : tI[i]? = some (totI r).sum := by unfold tI totI; rw [List.getElem?_map, h]; rfl
theorem cI_len : cI.length = 12 := by decide +kernel
theorem cI_get {i : Nat} (h : i < 12) : cI[i]? = some (rI.map fun r => r.getD i 0).sum := by unfold cI; rw [List.getElem?_map, List.getElem?_range h]; rfl
theorem rows_snoc {H : Hp} {us : List V} {rs : List (List Int)} {q : Addr} {r : List Int} (h : RowsL H us rs) (e : H q = some (.tup (r.map V.int))) : RowsL H (us ++ [.ref q]) (rs ++ [r]) := AG.snoc h ⟨q, rfl, e⟩
theorem RowsL.updl {H : Hp} {us : List V} {rs : List (List Int)} {D : Addr} {xs : List V} {o : HO} (h : RowsL H us rs) (hD : H D = some (.lst xs)) : RowsL (L2.upd H D o) us rs := h.imp fun _ _ ⟨q, e, t⟩ => ⟨q, e, tup_updl t hD⟩
theorem BLs.updl {H : Hp} {a D : Addr} {n : Nat} {o : HO} (h : BLs H a n) (n0 : a ≠ D) : BLs (L2.upd H D o) a n := by
  show L2.upd H D o a = _
  rw [upd_ne n0]
  exact h
def RT (H : Hp) (a : Addr) (n : Nat) (x : Int) : Prop := H a = some (.tup (List.replicate n [V.int x]).flatten)
theorem RT.same {H H' : Hp} {a : Addr} {n : Nat} {x : Int} (h : RT H a n x) (s : Same H H') : RT H' a n x := s _ _ h
theorem rt_ne {n : Nat} {x : V} (h : 0 < n) : (List.replicate n [x]).flatten ≠ [] := fun z => by
  rw [flat_rep] at z
  have := congrArg List.length z
  rw [List.length_replicate] at this
  simp at this
  omega
/-- integers in a list -/
def ILs (H : Hp) (a : Addr) (is : List Int) : Prop := H a = some (.lst (is.map V.int))
theorem ILs.same {H H' : Hp} {a : Addr} {is : List Int} (h : ILs H a is) (s : Same H H') : ILs H' a is := s _ _ h
theorem ILs.updl {H : Hp} {a D : Addr} {is : List Int} {o : HO} (h : ILs H a is) (n0 : a ≠ D) : ILs (L2.upd H D o) a is := by
  show L2.upd H D o a = _
  rw [upd_ne n0]
  exact h
/-- values in a list -/
def VLs (H : Hp) (a : Addr) (us : List V) : Prop := H a = some (.lst us)
theorem VLs.same {H H' : Hp} {a : Addr} {us : List V} (h : VLs H a us) (s : Same H H') : VLs H' a us := s _ _ h
theorem VLs.updl {H : Hp} {a D : Addr} {us : List V} {o : HO} (h : VLs H a us) (n0 : a ≠ D) : VLs (L2.upd H D o) a us := by
  show L2.upd H D o a = _
  rw [upd_ne n0]
  exact h
theorem TT.updl {C : Addr} {H : Hp} {a D : Addr} {pss : List (List PI)} {xs : List V} {o : HO} (h : TT C H a pss) (hD : H D = some (.lst xs)) : TT C (L2.upd H D o) a pss := by
  obtain ⟨us, e, z⟩ := h
  exact ⟨us, tup_updl e hD, z.imp fun _ _ ⟨q, e1, ys, h1, h2⟩ => ⟨q, e1, ys, tup_updl h1 hD, h2.updl hD⟩⟩
section
variable {P : Program} {w : World} {K : PySem.W.Frag} {mg : Str → Option Value} {base : Heap} {C fI pT gT0 pB gB0 : Addr} {fdI fdT fdB : FuncData}
abbrev sLaw : Stmt := FR.top 61
abbrev NL : List Str := ["_law_script", "_law_at", "_law_dice_here", "_law_turn", "_law_half", "_law_told", "_law_many", "_law_rows", "_law_one", "_law_totals", "_law_number_here", "_law_spot", "_law_row"]
def exprA : Stmt → Expr
  | .Expr e _ => e
  | _ => .Constant .none 0 ⟨0, 0, 0, 0⟩
abbrev lcR : Scope := lcSc (asgE ((defBody sLaw).getD 11 (.Pass ⟨0, 0, 0, 0⟩)))
abbrev lcT : Scope := lcSc (asgE ((defBody sLaw).getD 12 (.Pass ⟨0, 0, 0, 0⟩)))
abbrev lcC : Scope := lcSc (callA (callA (exprA ((defBody sLaw).getD 14 (.Pass ⟨0, 0, 0, 0⟩)))))
theorem scL : FnScope NL ["_law_script"] (defScope sLaw) := ⟨rfl, rfl, rfl, by decide +kernel, rfl, by decide +kernel, by decide +kernel⟩
def spLaw (K : PySem.W.Frag) : Sp := fun vs H Q _ => ∃ (a : Addr) (ns : List Int), vs = [.ref a] ∧ SqL K H a (ns.map V.int) ∧ ∀ H', Q (.bl true) H'
structure TxtL (mg : Str → Option Value) : Prop where
  ra : mg "range" = none
  ma : mg "max" = none
  mi : mg "min" = none
  le : mg "len" = none
  tu : mg "tuple" = none
  su : mg "sum" = none
  en : mg "enumerate" = none
theorem ok_law {f : Addr} {fd : FuncData} (F : Fun K "law" "law" sLaw f fd) (k : FrK P w K mg base C fI pT gT0 pB gB0 fdI fdT fdB) (TL : TxtL mg) (OD : OddsC K C)
    (gD : Glo P w K mg base "_law_dice" 1 ["_law_script", "_law_at"] (spDice K)) (gG : Glo P w K mg base "_law_right" 9 ["_law_dice_here"] spRt) (gSo : Glo P w K mg base "solution" 7 ["rows", "totals"] (spSo C)) (gIs : Glo P w K mg base "is_solution" 8 ["rows", "totals", "value"] (spIs K C))
    (mA : Met P w K mg base C "__add__" 5 ["self", "other"] (spOp C fAdd)) (sf : PySem.W.selfFirst K C = true) (oA : IntOp K C "add") (mE : Met P w K mg base C "__eq__" 3 ["self", "other"] (FR.spEq K C)) : FnOk P w K mg base CX0 10 f fd ["_law_script"] (spLaw K) := by
  refine F.ok scL (fun vs H Q E h => ?_) (fun cdv A outer s H vs Q E hr h => ?_)
  · obtain ⟨a, ns, rfl, _⟩ := h
    rfl
  · obtain ⟨a, ns, rfl, hs, q⟩ := h
    have eqE : EqG ((cxOf CX0 P w K mg base NL "law" (defScope sLaw) f cdv A outer s H E).nox) 3 (DEl C) :=
      (eqG_ownI (E := E) (R := REI C) mE.D mE.G mE.b pass0 OD.int.n fun a i H h => ⟨a, .int i, i, 1, true, rfl, h, .inr (.inl ⟨i, rfl, by simp⟩), rfl, Ext.rfl'⟩).or
      (eqG_ins (E := E) (fn_weaken mE.G fun vs H Q E ⟨a, b, e, ⟨t, u, h1, h2⟩, q⟩ => ⟨a, .ref b, t, u, true, e, h1, .inl ⟨b, t, u, rfl, h2, by simp⟩, q H Ext.rfl'⟩) mE.D.at_ mE.D.fn mE.b pass0)
    have eqR : EqG ((cxOf CX0 P w K mg base NL "law" (defScope sLaw) f cdv A outer s H E).nox) 4 (DRes K C) := eqG_str.or (eqG_tup (mon_el C) eqE)
    refine ⟨_, (pss_cons (ps_for PassesOwn.never rfl (pi_range1 (by rfl) TL.ra (pa_cons (pe_callB (call_max2 rfl) (by rfl) TL.ma (by decide +kernel) (pa_cons pe_int (pa_cons (pe_callB (call_min2 rfl) (by rfl) TL.mi (by decide +kernel) (pa_cons pe_int (pa_cons (pe_callB call_len_seq (by rfl) TL.le PySem.boot_len (pa_cons (pv 0) pa_nil)) pa_nil))) pa_nil))) pa_nil)) (pg_name (i := 1) scL.nd rfl (.inl rfl))
        (pss_cons (ps_set (i := 2) scL.nd rfl (Or.inl rfl) (pe_call gD.G (hr.mono (by decide)) (by rfl) gD.m gD.k gD.b .nil pass0 (pa_cons (pv 0) (pa_cons (pv 1) pa_nil))))
      (pss_one (ps_for PassesOwn.never rfl (pi_range1 (by rfl) TL.ra (pa_cons pe_int pa_nil)) (pg_name (i := 3) scL.nd rfl (.inl rfl)) (pss_one (ps_if (pt_not (pt_val (pe_call gG.G hr (by rfl) gG.m gG.k gG.b .nil pass0 (pa_cons (pv 2) pa_nil)))) (pss_one (ps_ret pe_bl)) pss_nil))))))
      (pss_cons (ps_set (i := 4) scL.nd rfl (Or.inl rfl) (pe_make k.M k.GI (hr.mono (by decide)) (by rfl) k.T.mC k.b2 .nil pass0 (pa_cons pe_int (pa_cons pe_int pa_nil))))
      (pss_cons (ps_set (i := 5) scL.nd rfl (Or.inl rfl) (pe_lst (pa_cons (pe_cmpR (op_eqG (rcG_tup (mon_res K C) eqR) (hr.mono (by decide))) (pe_call gSo.G (hr.mono (by decide)) (by rfl) gSo.m gSo.k gSo.b .nil pass0 (pa_cons (pe_tup (pa_cons (pe_tup (pa_cons pe_int (pa_cons pe_int pa_nil))) (pa_cons (pe_tup (pa_cons pe_int (pa_cons pe_int pa_nil))) pa_nil))) (pa_cons (pe_tup (pa_cons pe_int (pa_cons pe_int pa_nil))) pa_nil))) (pe_tup (pa_cons pe_str (pa_cons (pe_tup (pa_cons (pe_un un_neg pe_int) (pa_cons pe_int pa_nil))) pa_nil))) (nomark _)) pa_nil)))
      (pss_cons (ps_set (i := 5) scL.nd rfl (Or.inl rfl) (pe_op op_cat (pv 5) (pe_lst (pa_cons (pe_cmpR (op_eqG (rcG_tup (mon_res K C) eqR) (hr.mono (by decide))) (pe_call gSo.G (hr.mono (by decide)) (by rfl) gSo.m gSo.k gSo.b .nil pass0 (pa_cons (pe_tup (pa_cons (pe_tup (pa_cons pe_int pa_nil)) pa_nil)) (pa_cons (pe_tup (pa_cons pe_int pa_nil)) pa_nil))) (pe_tup (pa_cons pe_str (pa_cons (pe_tup (pa_cons (pe_make k.M k.GI (hr.mono (by decide)) (by rfl) k.T.mC k.b2 .nil pass0 (pa_cons pe_int (pa_cons pe_int pa_nil))) pa_nil)) pa_nil))) (nomark _)) (pa_cons (pe_cmpR op_eq (pe_ix ix_tup (pe_call gSo.G (hr.mono (by decide)) (by rfl) gSo.m gSo.k gSo.b .nil pass0 (pa_cons (pe_tup (pa_cons (pe_tup (pa_cons pe_int pa_nil)) pa_nil)) (pa_cons (pe_tup (pa_cons pe_int pa_nil)) pa_nil))) pe_int (fun _ _ => rfl)) pe_str (nomark _)) pa_nil)))))
      (pss_cons (ps_set (i := 5) scL.nd rfl (Or.inl rfl) (pe_op op_cat (pv 5) (pe_lst (pa_cons (pe_cmpR (op_eqG (rcG_tup (mon_res K C) eqR) (hr.mono (by decide))) (pe_call gSo.G (hr.mono (by decide)) (by rfl) gSo.m gSo.k gSo.b .nil pass0 (pa_cons (pe_tup (pa_cons (pe_tup (pa_cons pe_int pa_nil)) pa_nil)) (pa_cons (pe_tup (pa_cons (pe_un un_neg pe_int) pa_nil)) pa_nil))) (pe_tup (pa_cons pe_str (pa_cons (pe_tup (pa_cons (pe_make k.M k.GI (hr.mono (by decide)) (by rfl) k.T.mC k.b2 .nil pass0 (pa_cons (pe_un un_neg pe_int) (pa_cons pe_int pa_nil))) pa_nil)) pa_nil))) (nomark _)) pa_nil))))
      (pss_cons (ps_expr (pe_bm PySem.F.plainAttrs_list PySem.F.slot_list_append PySem.F.type_list_append mt_append (pv 5) (pa_cons (pe_and (pe_not (pe_call gIs.G (hr.mono (by decide)) (by rfl) gIs.m gIs.k gIs.b .nil pass0 (pa_cons (pe_tup (pa_cons (pe_tup (pa_cons pe_int pa_nil)) pa_nil)) (pa_cons (pe_tup (pa_cons pe_int pa_nil)) (pa_cons (pe_tup (pa_cons pe_str (pa_cons (pe_tup (pa_cons pe_int pa_nil)) pa_nil))) pa_nil))))) (pe_one (pe_not (pe_call gIs.G (hr.mono (by decide)) (by rfl) gIs.m gIs.k gIs.b .nil pass0 (pa_cons (pe_tup (pa_cons (pe_tup (pa_cons pe_int pa_nil)) pa_nil)) (pa_cons (pe_tup (pa_cons pe_int pa_nil)) (pa_cons (pe_tup (pa_cons (pe_lst pa_nil) (pa_cons (pe_tup (pa_cons pe_int pa_nil)) pa_nil))) pa_nil))))))) pa_nil)))
      (pss_cons (ps_expr (pe_bm PySem.F.plainAttrs_list PySem.F.slot_list_append PySem.F.type_list_append mt_append (pv 5) (pa_cons (pe_cmpR (op_eqG (rcG_tup (mon_res K C) eqR) (hr.mono (by decide))) (pe_call gSo.G (hr.mono (by decide)) (by rfl) gSo.m gSo.k gSo.b .nil pass0 (pa_cons (pe_tup (pa_cons (pe_tup (pa_cons pe_int pa_nil)) (pa_cons (pe_tup (pa_cons pe_int pa_nil)) pa_nil))) (pa_cons (pe_tup (pa_cons pe_int (pa_cons (pe_op (op_fr (op := .Add) (K := K) rfl rfl mA.D mA.G (hr.mono (by decide)) mA.b pass0 sf oA) (pv 4) pe_int) pa_nil))) pa_nil))) (pe_tup (pa_cons pe_str (pa_cons (pe_tup (pa_cons (pv 4) pa_nil)) pa_nil))) (nomark _)) pa_nil)))
      (pss_cons (ps_set (i := 5) scL.nd rfl (Or.inl rfl) (pe_op op_cat (pv 5) (pe_lst (pa_cons (pe_call gIs.G (hr.mono (by decide)) (by rfl) gIs.m gIs.k gIs.b .nil pass0 (pa_cons (pe_tup (pa_cons (pe_tup (pa_cons pe_int (pa_cons pe_int pa_nil))) pa_nil)) (pa_cons (pe_tup (pa_cons pe_int pa_nil)) (pa_cons (pe_tup (pa_cons pe_str (pa_cons (pe_tup (pa_cons (pe_un un_neg pe_int) (pa_cons pe_int pa_nil))) pa_nil))) pa_nil)))) pa_nil))))
      (pss_cons (ps_set (i := 6) scL.nd rfl (Or.inl rfl) (pe_callTy call_tuple_of (by rfl) TL.tu (by decide +kernel) (pa_cons (pe_lc (X := (cxOf CX0 P w K mg base NL "law" (defScope sLaw) f cdv A outer s H E).nox) (own := [("_law_at", 1)]) (g := (gName 1)) (tt := tYes) rfl scL.nd (pi_range1 (by rfl) TL.ra (pa_cons pe_int pa_nil)) (blkOk_by (N := NL) (sc := (defScope sLaw)) (by decide +kernel)) (fun _ _ _ _ _ => (pg_name (i := 1) scL.nd rfl (.inl rfl))) (fun _ _ _ _ _ => pts_nil) (fun _ _ _ _ _ => (pe_tup (pa_cons pe_int (pa_cons (pv 1) pa_nil))))) pa_nil)))
      (pss_cons (ps_expr (pe_bm PySem.F.plainAttrs_list PySem.F.slot_list_append PySem.F.type_list_append mt_append (pv 5) (pa_cons (pe_cmpR (op_eqG (rcG_tup (mon_res K C) eqR) (hr.mono (by decide))) (pe_call gSo.G (hr.mono (by decide)) (by rfl) gSo.m gSo.k gSo.b .nil pass0 (pa_cons (pv 6) (pa_cons (pe_tupRg rfl (by rfl) TL.tu (prg_1 (by rfl) TL.ra pe_int)) pa_nil))) (pe_tup (pa_cons pe_str (pa_cons (pe_tup (pa_cons pe_int (pa_cons pe_int pa_nil))) pa_nil))) (nomark _)) pa_nil)))
      (pss_cons (ps_expr (pe_bm PySem.F.plainAttrs_list PySem.F.slot_list_append PySem.F.type_list_append mt_append (pv 5) (pa_cons (pe_cmpR op_eq (pe_ix ix_tup (pe_call gSo.G (hr.mono (by decide)) (by rfl) gSo.m gSo.k gSo.b .nil pass0 (pa_cons (pv 6) (pa_cons (pe_op op_catA (pe_op op_repT (pe_tup (pa_cons pe_int pa_nil)) pe_int) (pe_tup (pa_cons pe_int pa_nil))) pa_nil))) pe_int (fun _ _ => rfl)) pe_str (nomark _)) pa_nil)))
      (pss_cons (ps_set (i := 7) scL.nd rfl (Or.inr rfl) (pe_lc (X := (cxOf CX0 P w K mg base NL "law" (defScope sLaw) f cdv A outer s H E).nox) (own := [("_law_at", 1)]) (g := (gName 1)) (tt := tYes) rfl scL.nd (pi_range1 (by rfl) TL.ra (pa_cons pe_int pa_nil)) (blkOk_by (N := NL) (sc := (defScope sLaw)) (by decide +kernel)) (fun _ _ _ _ _ => (pg_name (i := 1) scL.nd rfl (.inr rfl))) (fun _ _ _ _ _ => pts_nil) (fun s0 H0 C0 cl0 fp0 => (pe_callTy (call_tuple_ofK (K := K) rfl) (by rfl) TL.tu (by decide +kernel) (pa_cons (pe_lc (X := (((cxOf CX0 P w K mg base NL "law" (defScope sLaw) f cdv A outer s H E).nox).blk s0 H0 lcR (compEnvC lcR cl0 C0 ((cxOf CX0 P w K mg base NL "law" (defScope sLaw) f cdv A outer s H E).nox).env) fp0)) (own := [("_law_one", 8)]) (g := (gName 8)) (tt := tYes) rfl scL.nd (pi_range1 (by rfl) TL.ra (pa_cons pe_int pa_nil)) (blkOk_by (N := NL) (sc := (relS lcR (defScope sLaw))) (by decide +kernel)) (fun _ _ _ _ _ => (pg_name (i := 8) scL.nd rfl (.inl rfl))) (fun _ _ _ _ _ => pts_nil) (fun _ _ _ _ _ => (pe_op op_add pe_int (pe_callB (call_min2 rfl) (by rfl) TL.mi (by decide +kernel) (pa_cons (pv 1) (pa_cons (pv 8) pa_nil)))))) pa_nil)))))
      (pss_cons (ps_setLc (i := 9) (X := (cxOf CX0 P w K mg base NL "law" (defScope sLaw) f cdv A outer s H E).nox) (own := [("_law_row", 12)]) (g := (gName 12)) (tt := tYes) rfl scL.nd rfl rfl (sw_true rfl rfl rfl (by decide +kernel)) (pi_list (pv 7)) (blkOk_by (N := NL) (sc := (defScope sLaw)) (by decide +kernel)) (fun _ _ _ _ _ => (pg_name (i := 12) scL.nd rfl (.inl rfl))) (fun _ _ _ _ _ => pts_nil) (fun s0 H0 C0 cl0 fp0 => (pe_callB (cr_sumK (K := K) rfl rfl) (by rfl) TL.su (by decide +kernel) (pa_cons (pe_lc (X := (((cxOf CX0 P w K mg base NL "law" (defScope sLaw) f cdv A outer s H E).nox).blk s0 H0 lcT (compEnvC lcT cl0 C0 ((cxOf CX0 P w K mg base NL "law" (defScope sLaw) f cdv A outer s H E).nox).env) fp0)) (own := [("_law_spot", 11), ("_law_number_here", 10)]) (g := (gTup K 2 (gCons (gName 11) (gCons (gName 10) gNil)))) (tt := tYes) rfl scL.nd (pi_enumTK (K := K) rfl (by rfl) TL.en (pa_cons (pv 12) pa_nil)) (blkOk_by (N := NL) (sc := (relS lcT (defScope sLaw))) (by decide +kernel)) (fun _ _ _ _ _ => (pg_tupK (K := K) rfl rfl (pgs_cons (pg_name (i := 11) scL.nd rfl (.inl rfl)) (pgs_cons (pg_name (i := 10) scL.nd rfl (.inl rfl)) pgs_nil)))) (fun _ _ _ _ _ => pts_nil) (fun _ _ _ _ _ => (pe_op op_mulW (pv 10) (pe_op op_add (pv 11) pe_int)))) pa_nil))))
      (pss_cons (ps_expr (pe_bm PySem.F.plainAttrs_list PySem.F.slot_list_append PySem.F.type_list_append mt_append (pv 5) (pa_cons (pe_cmpR (op_eqG (rcG_tup (mon_res K C) eqR) (hr.mono (by decide))) (pe_call gSo.G (hr.mono (by decide)) (by rfl) gSo.m gSo.k gSo.b .nil pass0 (pa_cons (pe_callTy call_tuple_of (by rfl) TL.tu (by decide +kernel) (pa_cons (pv 7) pa_nil)) (pa_cons (pe_callTy call_tuple_of (by rfl) TL.tu (by decide +kernel) (pa_cons (pv 9) pa_nil)) pa_nil))) (pe_tup (pa_cons pe_str (pa_cons (pe_tupRg rfl (by rfl) TL.tu (prg_2 (by rfl) TL.ra pe_int pe_int)) pa_nil))) (nomark _)) pa_nil)))
      (pss_cons (ps_expr (pe_bm PySem.F.plainAttrs_list PySem.F.slot_list_append PySem.F.type_list_append mt_append (pv 7) (pa_cons (pe_callTy call_tuple_of (by rfl) TL.tu (by decide +kernel) (pa_cons (pe_lc (X := (cxOf CX0 P w K mg base NL "law" (defScope sLaw) f cdv A outer s H E).nox) (own := [("_law_spot", 11)]) (g := (gName 11)) (tt := tYes) rfl scL.nd (pi_range1 (by rfl) TL.ra (pa_cons pe_int pa_nil)) (blkOk_by (N := NL) (sc := (defScope sLaw)) (by decide +kernel)) (fun _ _ _ _ _ => (pg_name (i := 11) scL.nd rfl (.inr rfl))) (fun _ _ _ _ _ => pts_nil) (fun s0 H0 C0 cl0 fp0 => (pe_callB (cr_sumK (K := K) rfl rfl) (by rfl) TL.su (by decide +kernel) (pa_cons (pe_lc (X := (((cxOf CX0 P w K mg base NL "law" (defScope sLaw) f cdv A outer s H E).nox).blk s0 H0 lcC (compEnvC lcC cl0 C0 ((cxOf CX0 P w K mg base NL "law" (defScope sLaw) f cdv A outer s H E).nox).env) fp0)) (own := [("_law_row", 12)]) (g := (gName 12)) (tt := tYes) rfl scL.nd (pi_listK (K := K) rfl (pv 7)) (blkOk_by (N := NL) (sc := (relS lcC (defScope sLaw))) (by decide +kernel)) (fun _ _ _ _ _ => (pg_name (i := 12) scL.nd rfl (.inl rfl))) (fun _ _ _ _ _ => pts_nil) (fun _ _ _ _ _ => (pe_ix (ix_tupK (K := K) rfl) (pv 12) (pv 11) (fun _ _ => rfl)))) pa_nil)))) pa_nil)) pa_nil)))
      (pss_cons (ps_expr (pe_bm PySem.F.plainAttrs_list PySem.F.slot_list_append PySem.F.type_list_append mt_append (pv 9) (pa_cons (pe_op op_add (pe_callB (cr_sum rfl) (by rfl) TL.su (by decide +kernel) (pa_cons (pv 9) pa_nil)) pe_int) pa_nil)))
      (pss_cons (ps_expr (pe_bm PySem.F.plainAttrs_list PySem.F.slot_list_append PySem.F.type_list_append mt_append (pv 5) (pa_cons (pe_cmpR (op_eqG (rcG_tup (mon_res K C) eqR) (hr.mono (by decide))) (pe_call gSo.G (hr.mono (by decide)) (by rfl) gSo.m gSo.k gSo.b .nil pass0 (pa_cons (pe_callTy call_tuple_of (by rfl) TL.tu (by decide +kernel) (pa_cons (pv 7) pa_nil)) (pa_cons (pe_callTy call_tuple_of (by rfl) TL.tu (by decide +kernel) (pa_cons (pv 9) pa_nil)) pa_nil))) (pe_tup (pa_cons pe_str (pa_cons (pe_op op_catA (pe_op op_repT (pe_tup (pa_cons (pe_un un_neg pe_int) pa_nil)) pe_int) (pe_tup (pa_cons pe_int pa_nil))) pa_nil))) (nomark _)) pa_nil)))
      (pss_one (ps_ret (pe_cmpR (op_eqD hr.units) (pv 5) (pe_op op_rep (pe_lst (pa_cons pe_bl pa_nil)) pe_int) (nomark _))))))))))))))))))))), ?_⟩
    refine ⟨_, rfl, a, _, rfl, .inl hs, _, _, rfl, _, _, rfl, _, rfl, by split <;> (try split) <;> omega, by split <;> (try split) <;> omega, ?_⟩
    refine for_range (fun i σ Hc => (∃ x1 x2 x3 : Option V, σ = [some (.ref a), x1, x2, x3, none, none, none, none, none, none, none, none, none]) ∧ Same H Hc) ⟨⟨_, _, _, rfl⟩, Same.refl H⟩ ?_ ?_
    · rintro i σ Hc hi ⟨⟨x1, x2, x3, rfl⟩, sm⟩
      refine ⟨_, rfl, _, rfl, a, ns, i, _, rfl, by omega, sm.seq hs, fun d x y z nd => ?_⟩
      have r0 : Rl d (upd Hc d (.lst (dxs x y z))) (upd Hc d (.lst (dxs x y z))) := Rl.refl ⟨_, _, _, upd_same⟩
      refine ⟨6, rfl, by decide, by decide, ?_⟩
      refine for_range (n := 6) (fun j σ Hd => (∃ x3 : Option V, σ = [some (.ref a), some (.int (0 + (i : Int))), some (.ref d), x3, none, none, none, none, none, none, none, none, none]) ∧ Rl d (upd Hc d (.lst (dxs x y z))) Hd) ⟨⟨_, rfl⟩, r0⟩ ?_ ?_
      · rintro j σ Hd hj ⟨⟨x3, rfl⟩, r⟩
        refine ⟨_, rfl, d, rfl, r.1, fun H1 r1 => ?_⟩
        exact ⟨_, rfl, ⟨_, rfl⟩, r.trans r1⟩
      · rintro σ Hd ⟨⟨x3, rfl⟩, r⟩
        refine ⟨⟨_, _, _, rfl⟩, fun b o e => ?_⟩
        have hd0 : H d = none := Same.free sm nd
        exact r.2 b o (ne_of_none e hd0) (same_new nd _ _ (sm _ _ e))
    rintro σ H00 ⟨⟨x1, x2, x3, rfl⟩, sm0⟩
    clear sm0 hs
    refine fun hf dxf nxf ndf nef => ⟨hf, dxf, 1, 2, rfl, upd_same, by decide, dv8 (by decide) (by decide +kernel), fun H0 hh hsf => ⟨rfl, ?_⟩⟩
    replace hh : FrAt C H0 hf 1 2 := hh.to (by decide +kernel) (by decide +kernel)
    refine ⟨small1000 (Nat.le_of_ble_eq_true rfl), fun t1 ht1 => ?_⟩
    have s3 : Same H0 (upd H0 t1 (.tup [.int 1, .int 2])) := same_new ht1
    have e4 : upd H0 t1 (.tup [.int 1, .int 2]) t1 = some (.tup [.int 1, .int 2]) := upd_same
    generalize hg4 : upd H0 t1 (.tup [.int 1, .int 2]) = H2 at s3 e4 ⊢
    clear hg4 ht1
    replace hh := hh.same s3
    have v5 : TV C H2 t1 [(1, 1), (2, 1)] := tv_i (is := [1, 2]) e4
    refine ⟨small1000 (Nat.le_of_ble_eq_true rfl), fun t6 ht6 => ?_⟩
    have s8 : Same H2 (upd H2 t6 (.tup [.int 2, .int 4])) := same_new ht6
    have e9 : upd H2 t6 (.tup [.int 2, .int 4]) t6 = some (.tup [.int 2, .int 4]) := upd_same
    generalize hg9 : upd H2 t6 (.tup [.int 2, .int 4]) = H7 at s8 e9 ⊢
    clear hg9 ht6
    replace hh := hh.same s8
    replace v5 := v5.same s8
    have v10 : TV C H7 t6 [(2, 1), (4, 1)] := tv_i (is := [2, 4]) e9
    refine ⟨small1000 (Nat.le_of_ble_eq_true rfl), fun t11 ht11 => ?_⟩
    have s13 : Same H7 (upd H7 t11 (.tup [.ref t1, .ref t6])) := same_new ht11
    have e14 : upd H7 t11 (.tup [.ref t1, .ref t6]) t11 = some (.tup [.ref t1, .ref t6]) := upd_same
    generalize hg14 : upd H7 t11 (.tup [.ref t1, .ref t6]) = H12 at s13 e14 ⊢
    clear hg14 ht11
    replace hh := hh.same s13
    replace v5 := v5.same s13
    replace v10 := v10.same s13
    have m15 := tt2 e14 v5 v10
    refine ⟨small1000 (Nat.le_of_ble_eq_true rfl), fun t16 ht16 => ?_⟩
    have s18 : Same H12 (upd H12 t16 (.tup [.int 1, .int 3])) := same_new ht16
    have e19 : upd H12 t16 (.tup [.int 1, .int 3]) t16 = some (.tup [.int 1, .int 3]) := upd_same
    generalize hg19 : upd H12 t16 (.tup [.int 1, .int 3]) = H17 at s18 e19 ⊢
    clear hg19 ht16
    replace hh := hh.same s18
    replace v5 := v5.same s18
    replace v10 := v10.same s18
    replace m15 := m15.same s18
    have v20 : TV C H17 t16 [(1, 1), (3, 1)] := tv_i (is := [1, 3]) e19
    refine ⟨t11, t16, p1, 2, q1, rfl, m15.mxS (sys_of sy1), (sys_of sy1).rs, v20.tfS (sys_of sy1), (sys_of sy1).tl, (sys_of sy1).au, fi1, fun t21 H22 r24 s23 => ?_⟩
    replace r24 := sol_to re1 r24
    replace hh := hh.same s23
    replace v5 := v5.same s23
    replace v10 := v10.same s23
    replace m15 := m15.same s23
    replace v20 := v20.same s23
    refine ⟨_, rfl, ?_⟩
    refine ⟨small1000 (Nat.le_of_ble_eq_true rfl), fun t25 ht25 => ?_⟩
    have s27 : Same H22 (upd H22 t25 (.tup [.int (-2), .int 1])) := same_new ht25
    have e28 : upd H22 t25 (.tup [.int (-2), .int 1]) t25 = some (.tup [.int (-2), .int 1]) := upd_same
    generalize hg28 : upd H22 t25 (.tup [.int (-2), .int 1]) = H26 at s27 e28 ⊢
    clear hg28 ht25
    replace hh := hh.same s27
    replace v5 := v5.same s27
    replace v10 := v10.same s27
    replace m15 := m15.same s27
    replace v20 := v20.same s27
    replace r24 := r24.same s27
    have v29 : TV C H26 t25 [(-2, 1), (1, 1)] := tv_i (is := [-2, 1]) e28
    refine ⟨small1000 (Nat.le_of_ble_eq_true rfl), fun t30 ht30 => ?_⟩
    have s32 : Same H26 (upd H26 t30 (.tup [.str "none", .ref t25])) := same_new ht30
    have e33 : upd H26 t30 (.tup [.str "none", .ref t25]) t30 = some (.tup [.str "none", .ref t25]) := upd_same
    generalize hg33 : upd H26 t30 (.tup [.str "none", .ref t25]) = H31 at s32 e33 ⊢
    clear hg33 ht30
    replace hh := hh.same s32
    replace v5 := v5.same s32
    replace v10 := v10.same s32
    replace m15 := m15.same s32
    replace v20 := v20.same s32
    replace r24 := r24.same s32
    replace v29 := v29.same s32
    refine ⟨dt_res r24 e33 v29, fun H34 s35 => ?_⟩
    replace s35 : Same H31 H34 := s35
    replace hh := hh.same s35
    replace v5 := v5.same s35
    replace v10 := v10.same s35
    replace m15 := m15.same s35
    replace v20 := v20.same s35
    replace r24 := r24.same s35
    replace v29 := v29.same s35
    clear v5
    clear v10
    clear m15
    clear v20
    clear r24
    clear v29
    refine ⟨small1000 (Nat.le_of_ble_eq_true rfl), fun l36 hl36 => ?_⟩
    have s38 : Same H34 (upd H34 l36 (.lst [.bl true])) := same_new hl36
    have e39 : upd H34 l36 (.lst [.bl true]) l36 = some (.lst [.bl true]) := upd_same
    generalize hg39 : upd H34 l36 (.lst [.bl true]) = H37 at s38 e39 ⊢
    clear hg39 hl36
    replace hh := hh.same s38
    have b40 : BLs H37 l36 1 := e39
    refine ⟨_, rfl, ?_⟩
    refine ⟨small1000 (Nat.le_of_ble_eq_true rfl), fun t41 ht41 => ?_⟩
    have s43 : Same H37 (upd H37 t41 (.tup [.int 0])) := same_new ht41
    have e44 : upd H37 t41 (.tup [.int 0]) t41 = some (.tup [.int 0]) := upd_same
    generalize hg44 : upd H37 t41 (.tup [.int 0]) = H42 at s43 e44 ⊢
    clear hg44 ht41
    replace hh := hh.same s43
    replace b40 := b40.same s43
    have v45 : TV C H42 t41 [(0, 1)] := tv_i (is := [0]) e44
    refine ⟨small1000 (Nat.le_of_ble_eq_true rfl), fun t46 ht46 => ?_⟩
    have s48 : Same H42 (upd H42 t46 (.tup [.ref t41])) := same_new ht46
    have e49 : upd H42 t46 (.tup [.ref t41]) t46 = some (.tup [.ref t41]) := upd_same
    generalize hg49 : upd H42 t46 (.tup [.ref t41]) = H47 at s48 e49 ⊢
    clear hg49 ht46
    replace hh := hh.same s48
    replace b40 := b40.same s48
    replace v45 := v45.same s48
    have m50 := tt1 e49 v45
    refine ⟨small1000 (Nat.le_of_ble_eq_true rfl), fun t51 ht51 => ?_⟩
    have s53 : Same H47 (upd H47 t51 (.tup [.int 5])) := same_new ht51
    have e54 : upd H47 t51 (.tup [.int 5]) t51 = some (.tup [.int 5]) := upd_same
    generalize hg54 : upd H47 t51 (.tup [.int 5]) = H52 at s53 e54 ⊢
    clear hg54 ht51
    replace hh := hh.same s53
    replace b40 := b40.same s53
    replace v45 := v45.same s53
    replace m50 := m50.same s53
    have v55 : TV C H52 t51 [(5, 1)] := tv_i (is := [5]) e54
    refine ⟨t46, t51, p2, 1, q2, rfl, m50.mxS (sys_of sy2), (sys_of sy2).rs, v55.tfS (sys_of sy2), (sys_of sy2).tl, (sys_of sy2).au, fi2, fun t56 H57 r59 s58 => ?_⟩
    replace r59 := sol_to re2 r59
    replace hh := hh.same s58
    replace b40 := b40.same s58
    replace v45 := v45.same s58
    replace m50 := m50.same s58
    replace v55 := v55.same s58
    refine fun x60 d61 nx60 nd61 nex60 => ⟨x60, d61, 1, 5, rfl, upd_same, by decide, dv8 (by decide) (by decide +kernel), fun H62 h63 s64 => ⟨rfl, ?_⟩⟩
    replace s64 := same_make (C := C) nx60 nd61 s64
    replace hh := hh.same s64
    replace b40 := b40.same s64
    replace v45 := v45.same s64
    replace m50 := m50.same s64
    replace v55 := v55.same s64
    replace r59 := r59.same s64
    replace h63 : FrAt C H62 x60 (1) 5 := h63.to (by decide +kernel) (by decide +kernel)
    refine ⟨small1000 (Nat.le_of_ble_eq_true rfl), fun t65 ht65 => ?_⟩
    have s67 : Same H62 (upd H62 t65 (.tup [.ref x60])) := same_new ht65
    have e68 : upd H62 t65 (.tup [.ref x60]) t65 = some (.tup [.ref x60]) := upd_same
    generalize hg68 : upd H62 t65 (.tup [.ref x60]) = H66 at s67 e68 ⊢
    clear hg68 ht65
    replace hh := hh.same s67
    replace b40 := b40.same s67
    replace v45 := v45.same s67
    replace m50 := m50.same s67
    replace v55 := v55.same s67
    replace r59 := r59.same s67
    replace h63 := h63.same s67
    have v69 : TV C H66 t65 [(1, 5)] := ⟨_, e68, A2.cons (.inl ⟨x60, rfl, h63⟩) A2.nil⟩
    refine ⟨small1000 (Nat.le_of_ble_eq_true rfl), fun t70 ht70 => ?_⟩
    have s72 : Same H66 (upd H66 t70 (.tup [.str "none", .ref t65])) := same_new ht70
    have e73 : upd H66 t70 (.tup [.str "none", .ref t65]) t70 = some (.tup [.str "none", .ref t65]) := upd_same
    generalize hg73 : upd H66 t70 (.tup [.str "none", .ref t65]) = H71 at s72 e73 ⊢
    clear hg73 ht70
    replace hh := hh.same s72
    replace b40 := b40.same s72
    replace v45 := v45.same s72
    replace m50 := m50.same s72
    replace v55 := v55.same s72
    replace r59 := r59.same s72
    replace h63 := h63.same s72
    replace v69 := v69.same s72
    refine ⟨dt_res r59 e73 v69, fun H74 s75 => ?_⟩
    replace s75 : Same H71 H74 := s75
    replace hh := hh.same s75
    replace b40 := b40.same s75
    replace v45 := v45.same s75
    replace m50 := m50.same s75
    replace v55 := v55.same s75
    replace r59 := r59.same s75
    replace h63 := h63.same s75
    replace v69 := v69.same s75
    clear v45
    clear m50
    clear v55
    clear r59
    clear h63
    clear v69
    refine ⟨small1000 (Nat.le_of_ble_eq_true rfl), fun t76 ht76 => ?_⟩
    have s78 : Same H74 (upd H74 t76 (.tup [.int 0])) := same_new ht76
    have e79 : upd H74 t76 (.tup [.int 0]) t76 = some (.tup [.int 0]) := upd_same
    generalize hg79 : upd H74 t76 (.tup [.int 0]) = H77 at s78 e79 ⊢
    clear hg79 ht76
    replace hh := hh.same s78
    replace b40 := b40.same s78
    have v80 : TV C H77 t76 [(0, 1)] := tv_i (is := [0]) e79
    refine ⟨small1000 (Nat.le_of_ble_eq_true rfl), fun t81 ht81 => ?_⟩
    have s83 : Same H77 (upd H77 t81 (.tup [.ref t76])) := same_new ht81
    have e84 : upd H77 t81 (.tup [.ref t76]) t81 = some (.tup [.ref t76]) := upd_same
    generalize hg84 : upd H77 t81 (.tup [.ref t76]) = H82 at s83 e84 ⊢
    clear hg84 ht81
    replace hh := hh.same s83
    replace b40 := b40.same s83
    replace v80 := v80.same s83
    have m85 := tt1 e84 v80
    refine ⟨small1000 (Nat.le_of_ble_eq_true rfl), fun t86 ht86 => ?_⟩
    have s88 : Same H82 (upd H82 t86 (.tup [.int 0])) := same_new ht86
    have e89 : upd H82 t86 (.tup [.int 0]) t86 = some (.tup [.int 0]) := upd_same
    generalize hg89 : upd H82 t86 (.tup [.int 0]) = H87 at s88 e89 ⊢
    clear hg89 ht86
    replace hh := hh.same s88
    replace b40 := b40.same s88
    replace v80 := v80.same s88
    replace m85 := m85.same s88
    have v90 : TV C H87 t86 [(0, 1)] := tv_i (is := [0]) e89
    refine ⟨t81, t86, p2, 1, q3, rfl, m85.mxS (sys_of sy3), (sys_of sy3).rs, v90.tfS (sys_of sy3), (sys_of sy3).tl, (sys_of sy3).au, fi3, fun t91 H92 r94 s93 => ?_⟩
    replace r94 := sol_to re3 r94
    replace hh := hh.same s93
    replace b40 := b40.same s93
    replace v80 := v80.same s93
    replace m85 := m85.same s93
    replace v90 := v90.same s93
    obtain ⟨w95, ew95, _⟩ := id r94
    refine ⟨_, _, _, _, rfl, rfl, SqT.of ew95, rfl, rfl, ?_⟩
    rw [show decide (V.str wSol = V.str (Str.ofString "solution")) = true from decide_eq_true rfl]
    clear v80
    clear m85
    clear v90
    clear r94
    refine ⟨small1000 (Nat.le_of_ble_eq_true rfl), fun l96 hl96 => ?_⟩
    have s98 : Same H92 (upd H92 l96 (.lst [.bl true, .bl true])) := same_new hl96
    have e99 : upd H92 l96 (.lst [.bl true, .bl true]) l96 = some (.lst [.bl true, .bl true]) := upd_same
    generalize hg99 : upd H92 l96 (.lst [.bl true, .bl true]) = H97 at s98 e99 ⊢
    clear hg99 hl96
    replace hh := hh.same s98
    replace b40 := b40.same s98
    have b100 : BLs H97 l96 2 := e99
    refine ⟨l36, l96, _, _, rfl, rfl, b40, b100, Nat.le_of_lt (small1000 (by show 3 ≤ 1000; decide)), fun l101 hl101 => ?_⟩
    have s103 : Same H97 (upd H97 l101 (.lst (List.replicate 1 (V.bl true) ++ List.replicate 2 (V.bl true)))) := same_new hl101
    have e104 : upd H97 l101 (.lst (List.replicate 1 (V.bl true) ++ List.replicate 2 (V.bl true))) l101 = some (.lst (List.replicate 1 (V.bl true) ++ List.replicate 2 (V.bl true))) := upd_same
    generalize hg104 : upd H97 l101 (.lst (List.replicate 1 (V.bl true) ++ List.replicate 2 (V.bl true))) = H102 at s103 e104 ⊢
    clear hg104 hl101
    replace hh := hh.same s103
    replace b40 := b40.same s103
    have b105 : BLs H102 l101 3 := e104
    refine ⟨_, rfl, ?_⟩
    refine ⟨small1000 (Nat.le_of_ble_eq_true rfl), fun t106 ht106 => ?_⟩
    have s108 : Same H102 (upd H102 t106 (.tup [.int 0])) := same_new ht106
    have e109 : upd H102 t106 (.tup [.int 0]) t106 = some (.tup [.int 0]) := upd_same
    generalize hg109 : upd H102 t106 (.tup [.int 0]) = H107 at s108 e109 ⊢
    clear hg109 ht106
    replace hh := hh.same s108
    replace b105 := b105.same s108
    have v110 : TV C H107 t106 [(0, 1)] := tv_i (is := [0]) e109
    refine ⟨small1000 (Nat.le_of_ble_eq_true rfl), fun t111 ht111 => ?_⟩
    have s113 : Same H107 (upd H107 t111 (.tup [.ref t106])) := same_new ht111
    have e114 : upd H107 t111 (.tup [.ref t106]) t111 = some (.tup [.ref t106]) := upd_same
    generalize hg114 : upd H107 t111 (.tup [.ref t106]) = H112 at s113 e114 ⊢
    clear hg114 ht111
    replace hh := hh.same s113
    replace b105 := b105.same s113
    replace v110 := v110.same s113
    have m115 := tt1 e114 v110
    refine ⟨_, rfl, ?_⟩
    refine ⟨small1000 (Nat.le_of_ble_eq_true rfl), fun t116 ht116 => ?_⟩
    have s118 : Same H112 (upd H112 t116 (.tup [.int (-5)])) := same_new ht116
    have e119 : upd H112 t116 (.tup [.int (-5)]) t116 = some (.tup [.int (-5)]) := upd_same
    generalize hg119 : upd H112 t116 (.tup [.int (-5)]) = H117 at s118 e119 ⊢
    clear hg119 ht116
    replace hh := hh.same s118
    replace b105 := b105.same s118
    replace v110 := v110.same s118
    replace m115 := m115.same s118
    have v120 : TV C H117 t116 [(-5, 1)] := tv_i (is := [-5]) e119
    refine ⟨t111, t116, p2, 1, q4, rfl, m115.mxS (sys_of sy4), (sys_of sy4).rs, v120.tfS (sys_of sy4), (sys_of sy4).tl, (sys_of sy4).au, fi4, fun t121 H122 r124 s123 => ?_⟩
    replace r124 := sol_to re4 r124
    replace hh := hh.same s123
    replace b105 := b105.same s123
    replace v110 := v110.same s123
    replace m115 := m115.same s123
    replace v120 := v120.same s123
    refine ⟨_, rfl, ?_⟩
    refine fun x125 d126 nx125 nd126 nex125 => ⟨x125, d126, (-1), 5, rfl, upd_same, by decide, dv8 (by decide) (by decide +kernel), fun H127 h128 s129 => ⟨rfl, ?_⟩⟩
    replace s129 := same_make (C := C) nx125 nd126 s129
    replace hh := hh.same s129
    replace b105 := b105.same s129
    replace v110 := v110.same s129
    replace m115 := m115.same s129
    replace v120 := v120.same s129
    replace r124 := r124.same s129
    replace h128 : FrAt C H127 x125 (-1) 5 := h128.to (by decide +kernel) (by decide +kernel)
    refine ⟨small1000 (Nat.le_of_ble_eq_true rfl), fun t130 ht130 => ?_⟩
    have s132 : Same H127 (upd H127 t130 (.tup [.ref x125])) := same_new ht130
    have e133 : upd H127 t130 (.tup [.ref x125]) t130 = some (.tup [.ref x125]) := upd_same
    generalize hg133 : upd H127 t130 (.tup [.ref x125]) = H131 at s132 e133 ⊢
    clear hg133 ht130
    replace hh := hh.same s132
    replace b105 := b105.same s132
    replace v110 := v110.same s132
    replace m115 := m115.same s132
    replace v120 := v120.same s132
    replace r124 := r124.same s132
    replace h128 := h128.same s132
    have v134 : TV C H131 t130 [(-1, 5)] := ⟨_, e133, A2.cons (.inl ⟨x125, rfl, h128⟩) A2.nil⟩
    refine ⟨small1000 (Nat.le_of_ble_eq_true rfl), fun t135 ht135 => ?_⟩
    have s137 : Same H131 (upd H131 t135 (.tup [.str "none", .ref t130])) := same_new ht135
    have e138 : upd H131 t135 (.tup [.str "none", .ref t130]) t135 = some (.tup [.str "none", .ref t130]) := upd_same
    generalize hg138 : upd H131 t135 (.tup [.str "none", .ref t130]) = H136 at s137 e138 ⊢
    clear hg138 ht135
    replace hh := hh.same s137
    replace b105 := b105.same s137
    replace v110 := v110.same s137
    replace m115 := m115.same s137
    replace v120 := v120.same s137
    replace r124 := r124.same s137
    replace h128 := h128.same s137
    replace v134 := v134.same s137
    refine ⟨dt_res r124 e138 v134, fun H139 s140 => ?_⟩
    replace s140 : Same H136 H139 := s140
    replace hh := hh.same s140
    replace b105 := b105.same s140
    replace v110 := v110.same s140
    replace m115 := m115.same s140
    replace v120 := v120.same s140
    replace r124 := r124.same s140
    replace h128 := h128.same s140
    replace v134 := v134.same s140
    clear v110
    clear m115
    clear v120
    clear r124
    clear h128
    clear v134
    refine ⟨small1000 (Nat.le_of_ble_eq_true rfl), fun l141 hl141 => ?_⟩
    have s143 : Same H139 (upd H139 l141 (.lst [.bl true])) := same_new hl141
    have e144 : upd H139 l141 (.lst [.bl true]) l141 = some (.lst [.bl true]) := upd_same
    generalize hg144 : upd H139 l141 (.lst [.bl true]) = H142 at s143 e144 ⊢
    clear hg144 hl141
    replace hh := hh.same s143
    replace b105 := b105.same s143
    have b145 : BLs H142 l141 1 := e144
    refine ⟨l101, l141, _, _, rfl, rfl, b105, b145, Nat.le_of_lt (small1000 (by show 4 ≤ 1000; decide)), fun l146 hl146 => ?_⟩
    have s148 : Same H142 (upd H142 l146 (.lst (List.replicate 3 (V.bl true) ++ List.replicate 1 (V.bl true)))) := same_new hl146
    have e149 : upd H142 l146 (.lst (List.replicate 3 (V.bl true) ++ List.replicate 1 (V.bl true))) l146 = some (.lst (List.replicate 3 (V.bl true) ++ List.replicate 1 (V.bl true))) := upd_same
    generalize hg149 : upd H142 l146 (.lst (List.replicate 3 (V.bl true) ++ List.replicate 1 (V.bl true))) = H147 at s148 e149 ⊢
    clear hg149 hl146
    replace hh := hh.same s148
    replace b105 := b105.same s148
    have b150 : BLs H147 l146 4 := e149
    refine ⟨_, rfl, .inl ⟨rfl, _, SqL.of b150⟩, ?_⟩
    refine ⟨small1000 (Nat.le_of_ble_eq_true rfl), fun t151 ht151 => ?_⟩
    have s153 : Same H147 (upd H147 t151 (.tup [.int 0])) := same_new ht151
    have e154 : upd H147 t151 (.tup [.int 0]) t151 = some (.tup [.int 0]) := upd_same
    generalize hg154 : upd H147 t151 (.tup [.int 0]) = H152 at s153 e154 ⊢
    clear hg154 ht151
    replace hh := hh.same s153
    replace b150 := b150.same s153
    have v155 : TV C H152 t151 [(0, 1)] := tv_i (is := [0]) e154
    refine ⟨small1000 (Nat.le_of_ble_eq_true rfl), fun t156 ht156 => ?_⟩
    have s158 : Same H152 (upd H152 t156 (.tup [.ref t151])) := same_new ht156
    have e159 : upd H152 t156 (.tup [.ref t151]) t156 = some (.tup [.ref t151]) := upd_same
    generalize hg159 : upd H152 t156 (.tup [.ref t151]) = H157 at s158 e159 ⊢
    clear hg159 ht156
    replace hh := hh.same s158
    replace b150 := b150.same s158
    replace v155 := v155.same s158
    have m160 := tt1 e159 v155
    refine ⟨small1000 (Nat.le_of_ble_eq_true rfl), fun t161 ht161 => ?_⟩
    have s163 : Same H157 (upd H157 t161 (.tup [.int 5])) := same_new ht161
    have e164 : upd H157 t161 (.tup [.int 5]) t161 = some (.tup [.int 5]) := upd_same
    generalize hg164 : upd H157 t161 (.tup [.int 5]) = H162 at s163 e164 ⊢
    clear hg164 ht161
    replace hh := hh.same s163
    replace b150 := b150.same s163
    replace v155 := v155.same s163
    replace m160 := m160.same s163
    have v165 : TV C H162 t161 [(5, 1)] := tv_i (is := [5]) e164
    refine ⟨small1000 (Nat.le_of_ble_eq_true rfl), fun t166 ht166 => ?_⟩
    have s168 : Same H162 (upd H162 t166 (.tup [.int 1])) := same_new ht166
    have e169 : upd H162 t166 (.tup [.int 1]) t166 = some (.tup [.int 1]) := upd_same
    generalize hg169 : upd H162 t166 (.tup [.int 1]) = H167 at s168 e169 ⊢
    clear hg169 ht166
    replace hh := hh.same s168
    replace b150 := b150.same s168
    replace v155 := v155.same s168
    replace m160 := m160.same s168
    replace v165 := v165.same s168
    have v170 : TV C H167 t166 [(1, 1)] := tv_i (is := [1]) e169
    refine ⟨small1000 (Nat.le_of_ble_eq_true rfl), fun t171 ht171 => ?_⟩
    have s173 : Same H167 (upd H167 t171 (.tup [.str "none", .ref t166])) := same_new ht171
    have e174 : upd H167 t171 (.tup [.str "none", .ref t166]) t171 = some (.tup [.str "none", .ref t166]) := upd_same
    generalize hg174 : upd H167 t171 (.tup [.str "none", .ref t166]) = H172 at s173 e174 ⊢
    clear hg174 ht171
    replace hh := hh.same s173
    replace b150 := b150.same s173
    replace v155 := v155.same s173
    replace m160 := m160.same s173
    replace v165 := v165.same s173
    replace v170 := v170.same s173
    refine ⟨t156, t161, .ref t171, p2, 1, q2, some (wNone, [(1, 1)]), rfl, m160.mxS (sys_of sy2), (sys_of sy2).rs, (sys_of sy2).sm, v165.tfS (sys_of sy2), (sys_of sy2).tl, ⟨t171, t166, rfl, e174, .inr rfl, v170.tfB (by decide) cf1⟩, fun H175 s176 => ?_⟩
    replace hh := hh.same s176
    replace b150 := b150.same s176
    replace v155 := v155.same s176
    replace m160 := m160.same s176
    replace v165 := v165.same s176
    replace v170 := v170.same s176
    rw [ju2]
    refine ⟨_, rfl, _, rfl, ?_⟩
    clear v155
    clear m160
    clear v165
    clear v170
    refine ⟨small1000 (Nat.le_of_ble_eq_true rfl), fun t177 ht177 => ?_⟩
    have s179 : Same H175 (upd H175 t177 (.tup [.int 0])) := same_new ht177
    have e180 : upd H175 t177 (.tup [.int 0]) t177 = some (.tup [.int 0]) := upd_same
    generalize hg180 : upd H175 t177 (.tup [.int 0]) = H178 at s179 e180 ⊢
    clear hg180 ht177
    replace hh := hh.same s179
    replace b150 := b150.same s179
    have v181 : TV C H178 t177 [(0, 1)] := tv_i (is := [0]) e180
    refine ⟨small1000 (Nat.le_of_ble_eq_true rfl), fun t182 ht182 => ?_⟩
    have s184 : Same H178 (upd H178 t182 (.tup [.ref t177])) := same_new ht182
    have e185 : upd H178 t182 (.tup [.ref t177]) t182 = some (.tup [.ref t177]) := upd_same
    generalize hg185 : upd H178 t182 (.tup [.ref t177]) = H183 at s184 e185 ⊢
    clear hg185 ht182
    replace hh := hh.same s184
    replace b150 := b150.same s184
    replace v181 := v181.same s184
    have m186 := tt1 e185 v181
    refine ⟨small1000 (Nat.le_of_ble_eq_true rfl), fun t187 ht187 => ?_⟩
    have s189 : Same H183 (upd H183 t187 (.tup [.int 0])) := same_new ht187
    have e190 : upd H183 t187 (.tup [.int 0]) t187 = some (.tup [.int 0]) := upd_same
    generalize hg190 : upd H183 t187 (.tup [.int 0]) = H188 at s189 e190 ⊢
    clear hg190 ht187
    replace hh := hh.same s189
    replace b150 := b150.same s189
    replace v181 := v181.same s189
    replace m186 := m186.same s189
    have v191 : TV C H188 t187 [(0, 1)] := tv_i (is := [0]) e190
    refine ⟨Nat.zero_le _, fun l192 hl192 => ?_⟩
    have s194 : Same H188 (upd H188 l192 (.lst [])) := same_new hl192
    have e195 : upd H188 l192 (.lst []) l192 = some (.lst []) := upd_same
    generalize hg195 : upd H188 l192 (.lst []) = H193 at s194 e195 ⊢
    clear hg195 hl192
    replace hh := hh.same s194
    replace b150 := b150.same s194
    replace v181 := v181.same s194
    replace m186 := m186.same s194
    replace v191 := v191.same s194
    have lz : LZ H193 l192 := e195
    refine ⟨small1000 (Nat.le_of_ble_eq_true rfl), fun t196 ht196 => ?_⟩
    have s198 : Same H193 (upd H193 t196 (.tup [.int 0])) := same_new ht196
    have e199 : upd H193 t196 (.tup [.int 0]) t196 = some (.tup [.int 0]) := upd_same
    generalize hg199 : upd H193 t196 (.tup [.int 0]) = H197 at s198 e199 ⊢
    clear hg199 ht196
    replace hh := hh.same s198
    replace b150 := b150.same s198
    replace v181 := v181.same s198
    replace m186 := m186.same s198
    replace v191 := v191.same s198
    replace lz := lz.same s198
    have v200 : TV C H197 t196 [(0, 1)] := tv_i (is := [0]) e199
    refine ⟨small1000 (Nat.le_of_ble_eq_true rfl), fun t201 ht201 => ?_⟩
    have s203 : Same H197 (upd H197 t201 (.tup [.ref l192, .ref t196])) := same_new ht201
    have e204 : upd H197 t201 (.tup [.ref l192, .ref t196]) t201 = some (.tup [.ref l192, .ref t196]) := upd_same
    generalize hg204 : upd H197 t201 (.tup [.ref l192, .ref t196]) = H202 at s203 e204 ⊢
    clear hg204 ht201
    replace hh := hh.same s203
    replace b150 := b150.same s203
    replace v181 := v181.same s203
    replace m186 := m186.same s203
    replace v191 := v191.same s203
    replace lz := lz.same s203
    replace v200 := v200.same s203
    refine ⟨t182, t187, .ref t201, p2, 1, q3, none, rfl, m186.mxS (sys_of sy3), (sys_of sy3).rs, (sys_of sy3).sm, v191.tfS (sys_of sy3), (sys_of sy3).tl, .inr (.inr (.inl ⟨t201, _, _, rfl, e204, .inr (.inl ⟨l192, rfl, lz⟩)⟩)), fun H205 s206 => ?_⟩
    replace hh := hh.same s206
    replace b150 := b150.same s206
    replace v181 := v181.same s206
    replace m186 := m186.same s206
    replace v191 := v191.same s206
    replace lz := lz.same s206
    replace v200 := v200.same s206
    rw [show judgeP p2 q3 1 none = false from rfl]
    refine ⟨_, rfl, ?_⟩
    rw [Bool.not_false]
    clear v181
    clear m186
    clear v191
    clear lz
    clear v200
    refine ⟨l146, _, _, rfl, rfl, b150, small1000 (by show 4 ≤ 1000; decide), ?_⟩
    have e208 : BLs (upd H205 l146 (.lst (List.replicate 4 (V.bl true) ++ [V.bl true]))) l146 5 := upd_same
    replace hh := hh.updl (o := .lst (List.replicate 4 (V.bl true) ++ [V.bl true])) b150
    generalize hg208 : upd H205 l146 _ = H207 at e208 hh ⊢
    clear hg208
    refine ⟨_, rfl, .inl ⟨rfl, _, SqL.of e208⟩, ?_⟩
    refine ⟨small1000 (Nat.le_of_ble_eq_true rfl), fun t209 ht209 => ?_⟩
    have s211 : Same H207 (upd H207 t209 (.tup [.int 2])) := same_new ht209
    have e212 : upd H207 t209 (.tup [.int 2]) t209 = some (.tup [.int 2]) := upd_same
    generalize hg212 : upd H207 t209 (.tup [.int 2]) = H210 at s211 e212 ⊢
    clear hg212 ht209
    replace hh := hh.same s211
    replace e208 := e208.same s211
    have v213 : TV C H210 t209 [(2, 1)] := tv_i (is := [2]) e212
    refine ⟨small1000 (Nat.le_of_ble_eq_true rfl), fun t214 ht214 => ?_⟩
    have s216 : Same H210 (upd H210 t214 (.tup [.int 3])) := same_new ht214
    have e217 : upd H210 t214 (.tup [.int 3]) t214 = some (.tup [.int 3]) := upd_same
    generalize hg217 : upd H210 t214 (.tup [.int 3]) = H215 at s216 e217 ⊢
    clear hg217 ht214
    replace hh := hh.same s216
    replace e208 := e208.same s216
    replace v213 := v213.same s216
    have v218 : TV C H215 t214 [(3, 1)] := tv_i (is := [3]) e217
    refine ⟨small1000 (Nat.le_of_ble_eq_true rfl), fun t219 ht219 => ?_⟩
    have s221 : Same H215 (upd H215 t219 (.tup [.ref t209, .ref t214])) := same_new ht219
    have e222 : upd H215 t219 (.tup [.ref t209, .ref t214]) t219 = some (.tup [.ref t209, .ref t214]) := upd_same
    generalize hg222 : upd H215 t219 (.tup [.ref t209, .ref t214]) = H220 at s221 e222 ⊢
    clear hg222 ht219
    replace hh := hh.same s221
    replace e208 := e208.same s221
    replace v213 := v213.same s221
    replace v218 := v218.same s221
    have m223 := tt2 e222 v213 v218
    refine ⟨_, rfl, hf, 1, 2, 1, 1, rfl, hh, .inr ⟨rfl, rfl⟩, ⟨by decide +kernel, by decide +kernel, by decide⟩, ⟨by decide +kernel, by decide +kernel, by decide⟩, fun x224 H225 h226 s227 => ?_⟩
    replace hh := hh.same s227
    replace e208 := e208.same s227
    replace v213 := v213.same s227
    replace v218 := v218.same s227
    replace m223 := m223.same s227
    replace h226 : FrAt C H225 x224 3 2 := h226.to (by decide +kernel) (by decide +kernel)
    refine ⟨small1000 (Nat.le_of_ble_eq_true rfl), fun t228 ht228 => ?_⟩
    have s230 : Same H225 (upd H225 t228 (.tup [.int 1, .ref x224])) := same_new ht228
    have e231 : upd H225 t228 (.tup [.int 1, .ref x224]) t228 = some (.tup [.int 1, .ref x224]) := upd_same
    generalize hg231 : upd H225 t228 (.tup [.int 1, .ref x224]) = H229 at s230 e231 ⊢
    clear hg231 ht228
    replace hh := hh.same s230
    replace e208 := e208.same s230
    replace v213 := v213.same s230
    replace v218 := v218.same s230
    replace m223 := m223.same s230
    replace h226 := h226.same s230
    have v232 : TV C H229 t228 [(1, 1), (3, 2)] := ⟨_, e231, A2.cons (.inr ⟨rfl, rfl⟩) (A2.cons (.inl ⟨x224, rfl, h226⟩) A2.nil)⟩
    refine ⟨t219, t228, p5, 1, q5, rfl, m223.mxS (sys_of sy5), (sys_of sy5).rs, v232.tfS (sys_of sy5), (sys_of sy5).tl, (sys_of sy5).au, fi5, fun t233 H234 r236 s235 => ?_⟩
    replace r236 := sol_to re5 r236
    replace hh := hh.same s235
    replace e208 := e208.same s235
    replace v213 := v213.same s235
    replace v218 := v218.same s235
    replace m223 := m223.same s235
    replace h226 := h226.same s235
    replace v232 := v232.same s235
    refine ⟨_, rfl, ?_⟩
    refine ⟨small1000 (Nat.le_of_ble_eq_true rfl), fun t237 ht237 => ?_⟩
    have s239 : Same H234 (upd H234 t237 (.tup [.ref hf])) := same_new ht237
    have e240 : upd H234 t237 (.tup [.ref hf]) t237 = some (.tup [.ref hf]) := upd_same
    generalize hg240 : upd H234 t237 (.tup [.ref hf]) = H238 at s239 e240 ⊢
    clear hg240 ht237
    replace hh := hh.same s239
    replace e208 := e208.same s239
    replace v213 := v213.same s239
    replace v218 := v218.same s239
    replace m223 := m223.same s239
    replace h226 := h226.same s239
    replace v232 := v232.same s239
    replace r236 := r236.same s239
    have v241 : TV C H238 t237 [(1, 2)] := ⟨_, e240, A2.cons (.inl ⟨hf, rfl, hh⟩) A2.nil⟩
    refine ⟨small1000 (Nat.le_of_ble_eq_true rfl), fun t242 ht242 => ?_⟩
    have s244 : Same H238 (upd H238 t242 (.tup [.str "solution", .ref t237])) := same_new ht242
    have e245 : upd H238 t242 (.tup [.str "solution", .ref t237]) t242 = some (.tup [.str "solution", .ref t237]) := upd_same
    generalize hg245 : upd H238 t242 (.tup [.str "solution", .ref t237]) = H243 at s244 e245 ⊢
    clear hg245 ht242
    replace hh := hh.same s244
    replace e208 := e208.same s244
    replace v213 := v213.same s244
    replace v218 := v218.same s244
    replace m223 := m223.same s244
    replace h226 := h226.same s244
    replace v232 := v232.same s244
    replace r236 := r236.same s244
    replace v241 := v241.same s244
    refine ⟨dt_res r236 e245 v241, fun H246 s247 => ?_⟩
    replace s247 : Same H243 H246 := s247
    replace hh := hh.same s247
    replace e208 := e208.same s247
    replace v213 := v213.same s247
    replace v218 := v218.same s247
    replace m223 := m223.same s247
    replace h226 := h226.same s247
    replace v232 := v232.same s247
    replace r236 := r236.same s247
    replace v241 := v241.same s247
    clear v213
    clear v218
    clear m223
    clear h226
    clear v232
    clear r236
    clear v241
    refine ⟨l146, _, _, rfl, rfl, e208, small1000 (by show 5 ≤ 1000; decide), ?_⟩
    have e249 : BLs (upd H246 l146 (.lst (List.replicate 5 (V.bl true) ++ [V.bl true]))) l146 6 := upd_same
    replace hh := hh.updl (o := .lst (List.replicate 5 (V.bl true) ++ [V.bl true])) e208
    generalize hg249 : upd H246 l146 _ = H248 at e249 hh ⊢
    clear hg249
    clear hh
    refine ⟨_, rfl, ?_⟩
    refine ⟨small1000 (Nat.le_of_ble_eq_true rfl), fun t250 ht250 => ?_⟩
    have s252 : Same H248 (upd H248 t250 (.tup [.int 1, .int 1])) := same_new ht250
    have e253 : upd H248 t250 (.tup [.int 1, .int 1]) t250 = some (.tup [.int 1, .int 1]) := upd_same
    generalize hg253 : upd H248 t250 (.tup [.int 1, .int 1]) = H251 at s252 e253 ⊢
    clear hg253 ht250
    replace e249 := e249.same s252
    have v254 : TV C H251 t250 [(1, 1), (1, 1)] := tv_i (is := [1, 1]) e253
    refine ⟨small1000 (Nat.le_of_ble_eq_true rfl), fun t255 ht255 => ?_⟩
    have s257 : Same H251 (upd H251 t255 (.tup [.ref t250])) := same_new ht255
    have e258 : upd H251 t255 (.tup [.ref t250]) t255 = some (.tup [.ref t250]) := upd_same
    generalize hg258 : upd H251 t255 (.tup [.ref t250]) = H256 at s257 e258 ⊢
    clear hg258 ht255
    replace e249 := e249.same s257
    replace v254 := v254.same s257
    have m259 := tt1 e258 v254
    refine ⟨small1000 (Nat.le_of_ble_eq_true rfl), fun t260 ht260 => ?_⟩
    have s262 : Same H256 (upd H256 t260 (.tup [.int 2])) := same_new ht260
    have e263 : upd H256 t260 (.tup [.int 2]) t260 = some (.tup [.int 2]) := upd_same
    generalize hg263 : upd H256 t260 (.tup [.int 2]) = H261 at s262 e263 ⊢
    clear hg263 ht260
    replace e249 := e249.same s262
    replace v254 := v254.same s262
    replace m259 := m259.same s262
    have v264 : TV C H261 t260 [(2, 1)] := tv_i (is := [2]) e263
    refine ⟨_, rfl, ?_⟩
    refine ⟨small1000 (Nat.le_of_ble_eq_true rfl), fun t265 ht265 => ?_⟩
    have s267 : Same H261 (upd H261 t265 (.tup [.int (-5), .int 7])) := same_new ht265
    have e268 : upd H261 t265 (.tup [.int (-5), .int 7]) t265 = some (.tup [.int (-5), .int 7]) := upd_same
    generalize hg268 : upd H261 t265 (.tup [.int (-5), .int 7]) = H266 at s267 e268 ⊢
    clear hg268 ht265
    replace e249 := e249.same s267
    replace v254 := v254.same s267
    replace m259 := m259.same s267
    replace v264 := v264.same s267
    have v269 : TV C H266 t265 [(-5, 1), (7, 1)] := tv_i (is := [-5, 7]) e268
    refine ⟨small1000 (Nat.le_of_ble_eq_true rfl), fun t270 ht270 => ?_⟩
    have s272 : Same H266 (upd H266 t270 (.tup [.str "solution", .ref t265])) := same_new ht270
    have e273 : upd H266 t270 (.tup [.str "solution", .ref t265]) t270 = some (.tup [.str "solution", .ref t265]) := upd_same
    generalize hg273 : upd H266 t270 (.tup [.str "solution", .ref t265]) = H271 at s272 e273 ⊢
    clear hg273 ht270
    replace e249 := e249.same s272
    replace v254 := v254.same s272
    replace m259 := m259.same s272
    replace v264 := v264.same s272
    replace v269 := v269.same s272
    refine ⟨t255, t260, .ref t270, p6, 2, q6, some (wSol, [(-5, 1), (7, 1)]), rfl, m259.mxS (sys_of sy6), (sys_of sy6).rs, (sys_of sy6).sm, v264.tfS (sys_of sy6), (sys_of sy6).tl, ⟨t270, t265, rfl, e273, .inl rfl, v269.tfB (by decide) cf2⟩, fun H274 s275 => ?_⟩
    replace e249 := e249.same s275
    replace v254 := v254.same s275
    replace m259 := m259.same s275
    replace v264 := v264.same s275
    replace v269 := v269.same s275
    rw [ju6]
    clear v254
    clear m259
    clear v264
    clear v269
    refine ⟨small1000 (Nat.le_of_ble_eq_true rfl), fun l276 hl276 => ?_⟩
    have s278 : Same H274 (upd H274 l276 (.lst [.bl true])) := same_new hl276
    have e279 : upd H274 l276 (.lst [.bl true]) l276 = some (.lst [.bl true]) := upd_same
    generalize hg279 : upd H274 l276 (.lst [.bl true]) = H277 at s278 e279 ⊢
    clear hg279 hl276
    replace e249 := e249.same s278
    have b280 : BLs H277 l276 1 := e279
    refine ⟨l146, l276, _, _, rfl, rfl, e249, b280, Nat.le_of_lt (small1000 (by show 7 ≤ 1000; decide)), fun l281 hl281 => ?_⟩
    have s283 : Same H277 (upd H277 l281 (.lst (List.replicate 6 (V.bl true) ++ List.replicate 1 (V.bl true)))) := same_new hl281
    have e284 : upd H277 l281 (.lst (List.replicate 6 (V.bl true) ++ List.replicate 1 (V.bl true))) l281 = some (.lst (List.replicate 6 (V.bl true) ++ List.replicate 1 (V.bl true))) := upd_same
    generalize hg284 : upd H277 l281 (.lst (List.replicate 6 (V.bl true) ++ List.replicate 1 (V.bl true))) = H282 at s283 e284 ⊢
    clear hg284 hl281
    replace e249 := e249.same s283
    have b285 : BLs H282 l281 7 := e284
    refine ⟨_, rfl, by decide, by decide, fun DH hDH => ?_⟩
    refine lc_range (lo := 0) (n := 80) (fun i Hc => Same H282 Hc ∧ ∃ us, Hc DH = some (.lst us) ∧ AG (fun v ps => ∃ q, v = .ref q ∧ TV C Hc q ps) us (many.take i)) ⟨same_new hDH, [], upd_same, AG.nil⟩ ?_ ?_
    · rintro i Hc hi ⟨sm, us, hDc, hu⟩
      have e0 : (0 : Int) + (i : Nat) = (i : Nat) := by omega
      rw [e0]
      refine ⟨rfl, _, rfl, small1000 (Nat.le_of_ble_eq_true rfl), fun tq htq => ?_⟩
      have s2 : Same Hc (upd Hc tq (.tup [.int 1, .int (i : Nat)])) := same_new htq
      have e := s2 _ _ hDc
      refine ⟨us, e, small1000 (by rw [hu.1, List.length_take]; omega), same_upd hDH (sm.trans s2), us ++ [.ref tq], upd_same, ?_⟩
      rw [take_snoc (x := ([(1, 1), (((i : Nat) : Int), 1)] : List PI)) (by unfold many; rw [List.getElem?_map, List.getElem?_range hi]; rfl)]
      have up : ∀ q ps, TV C (upd Hc tq (.tup [.int 1, .int (i : Nat)])) q ps → TV C (upd (upd Hc tq (.tup [.int 1, .int (i : Nat)])) DH (.lst (us ++ [.ref tq]))) q ps := fun q ps ⟨xs, h1, h2⟩ => ⟨xs, tup_updl h1 e, h2.updl e⟩
      exact AG.snoc (hu.imp fun _ _ ⟨q, e1, tv⟩ => ⟨q, e1, up _ _ (tv.same s2)⟩) ⟨tq, rfl, up _ _ ⟨_, upd_same, A2.cons (.inr ⟨rfl, rfl⟩) (A2.cons (.inr ⟨rfl, rfl⟩) A2.nil)⟩⟩
    rintro H286 ⟨s287, us, hDH1, hus⟩
    rw [List.take_of_length_le (by unfold many; rw [List.length_map, List.length_range]; exact Nat.le_refl _)] at hus
    replace b285 := b285.same s287
    refine ⟨DH, us, rfl, .inl ⟨SqL.of hDH1, fun t288 ht288 => ?_⟩⟩
    have s290 : Same H286 (upd H286 t288 (.tup us)) := same_new ht288
    have e291 : upd H286 t288 (.tup us) t288 = some (.tup us) := upd_same
    generalize hg291 : upd H286 t288 (.tup us) = H289 at s290 e291 ⊢
    clear hg291 ht288
    replace b285 := b285.same s290
    have hm : TT C H289 t288 many := ⟨us, e291, hus.imp fun _ _ ⟨q, e, t⟩ => ⟨q, e, t.same s290⟩⟩
    clear hus hDH1
    refine ⟨_, rfl, .inl ⟨rfl, _, SqL.of b285⟩, ?_⟩
    refine ⟨_, rfl, ?_⟩
    refine ⟨_, rfl, RgOk.of_le (by decide) (by decide) (by decide) (by decide), fun t292 ht292 => ?_⟩
    have s294 : Same H289 (upd H289 t292 (.tup (rgV 0 80))) := same_new ht292
    have e295 : upd H289 t292 (.tup (rgV 0 80)) t292 = some (.tup (rgV 0 80)) := upd_same
    generalize hg295 : upd H289 t292 (.tup (rgV 0 80)) = H293 at s294 e295 ⊢
    clear hg295 ht292
    replace b285 := b285.same s294
    replace hm := hm.same s294
    have v296 := tv_r80 (C := C) e295
    refine ⟨t288, t292, many, 2, tmany, rfl, hm.mxS (sys_of sy7), (sys_of sy7).rs, v296.tfS (sys_of sy7), (sys_of sy7).tl, (sys_of sy7).au, fi7, fun t297 H298 r300 s299 => ?_⟩
    replace r300 := sol_to re7 r300
    replace b285 := b285.same s299
    replace hm := hm.same s299
    replace v296 := v296.same s299
    refine ⟨small1000 (Nat.le_of_ble_eq_true rfl), fun t301 ht301 => ?_⟩
    have s303 : Same H298 (upd H298 t301 (.tup [.int 0, .int 1])) := same_new ht301
    have e304 : upd H298 t301 (.tup [.int 0, .int 1]) t301 = some (.tup [.int 0, .int 1]) := upd_same
    generalize hg304 : upd H298 t301 (.tup [.int 0, .int 1]) = H302 at s303 e304 ⊢
    clear hg304 ht301
    replace b285 := b285.same s303
    replace hm := hm.same s303
    replace v296 := v296.same s303
    replace r300 := r300.same s303
    have v305 : TV C H302 t301 [(0, 1), (1, 1)] := tv_i (is := [0, 1]) e304
    refine ⟨small1000 (Nat.le_of_ble_eq_true rfl), fun t306 ht306 => ?_⟩
    have s308 : Same H302 (upd H302 t306 (.tup [.str "solution", .ref t301])) := same_new ht306
    have e309 : upd H302 t306 (.tup [.str "solution", .ref t301]) t306 = some (.tup [.str "solution", .ref t301]) := upd_same
    generalize hg309 : upd H302 t306 (.tup [.str "solution", .ref t301]) = H307 at s308 e309 ⊢
    clear hg309 ht306
    replace b285 := b285.same s308
    replace hm := hm.same s308
    replace v296 := v296.same s308
    replace r300 := r300.same s308
    replace v305 := v305.same s308
    refine ⟨dt_res r300 e309 v305, fun H310 s311 => ?_⟩
    replace s311 : Same H307 H310 := s311
    replace b285 := b285.same s311
    replace hm := hm.same s311
    replace v296 := v296.same s311
    replace r300 := r300.same s311
    replace v305 := v305.same s311
    clear v296
    clear r300
    clear v305
    refine ⟨l281, _, _, rfl, rfl, b285, small1000 (by show 7 ≤ 1000; decide), ?_⟩
    have e313 : BLs (upd H310 l281 (.lst (List.replicate 7 (V.bl true) ++ [V.bl true]))) l281 8 := upd_same
    replace hm := hm.updl (o := .lst (List.replicate 7 (V.bl true) ++ [V.bl true])) b285
    generalize hg313 : upd H310 l281 _ = H312 at e313 hm ⊢
    clear hg313
    refine ⟨_, rfl, .inl ⟨rfl, _, SqL.of e313⟩, ?_⟩
    refine ⟨_, rfl, ?_⟩
    refine ⟨small1000 (Nat.le_of_ble_eq_true rfl), fun t314 ht314 => ?_⟩
    have s316 : Same H312 (upd H312 t314 (.tup [.int 0])) := same_new ht314
    have e317 : upd H312 t314 (.tup [.int 0]) t314 = some (.tup [.int 0]) := upd_same
    generalize hg317 : upd H312 t314 (.tup [.int 0]) = H315 at s316 e317 ⊢
    clear hg317 ht314
    replace e313 := e313.same s316
    replace hm := hm.same s316
    refine ⟨t314, 79, [(V.int (0))], rfl, rfl, SqT.of e317, by decide, by decide, by decide, by decide, fun t318 ht318 => ?_⟩
    have s320 : Same H315 (upd H315 t318 (.tup (List.replicate ((79 : Int).toNat) [(V.int (0))]).flatten)) := same_new ht318
    have e321 : upd H315 t318 (.tup (List.replicate ((79 : Int).toNat) [(V.int (0))]).flatten) t318 = some (.tup (List.replicate ((79 : Int).toNat) [(V.int (0))]).flatten) := upd_same
    generalize hg321 : upd H315 t318 (.tup (List.replicate ((79 : Int).toNat) [(V.int (0))]).flatten) = H319 at s320 e321 ⊢
    clear hg321 ht318
    replace e313 := e313.same s320
    replace hm := hm.same s320
    have rtt318 : RT H319 t318 79 (0) := e321
    refine ⟨small1000 (Nat.le_of_ble_eq_true rfl), fun t322 ht322 => ?_⟩
    have s324 : Same H319 (upd H319 t322 (.tup [.int 1])) := same_new ht322
    have e325 : upd H319 t322 (.tup [.int 1]) t322 = some (.tup [.int 1]) := upd_same
    generalize hg325 : upd H319 t322 (.tup [.int 1]) = H323 at s324 e325 ⊢
    clear hg325 ht322
    replace e313 := e313.same s324
    replace hm := hm.same s324
    replace rtt318 := rtt318.same s324
    refine ⟨t318, t322, _, _, rfl, rfl, SqT.of rtt318, SqT.of e325, Nat.le_of_lt (small1000 (by rw [flat_rep, List.length_replicate]; decide)), (fun z => absurd z (rt_ne (by decide))), (fun _ z => by cases z), fun _ _ t326 ht326 => ?_⟩
    have s328 : Same H323 (upd H323 t326 (.tup ((List.replicate 79 [(V.int (0))]).flatten ++ [V.int 1]))) := same_new ht326
    have e329 : upd H323 t326 (.tup ((List.replicate 79 [(V.int (0))]).flatten ++ [V.int 1])) t326 = some (.tup ((List.replicate 79 [(V.int (0))]).flatten ++ [V.int 1])) := upd_same
    generalize hg329 : upd H323 t326 (.tup ((List.replicate 79 [(V.int (0))]).flatten ++ [V.int 1])) = H327 at s328 e329 ⊢
    clear hg329 ht326
    replace e313 := e313.same s328
    replace hm := hm.same s328
    replace rtt318 := rtt318.same s328
    have v330 := tv_one (C := C) e329
    refine ⟨t288, t326, many, 2, tone, rfl, hm.mxS (sys_of sy8), (sys_of sy8).rs, v330.tfS (sys_of sy8), (sys_of sy8).tl, (sys_of sy8).au, fi8, fun t331 H332 r334 s333 => ?_⟩
    replace r334 := sol_word re8 r334
    replace e313 := e313.same s333
    replace hm := hm.same s333
    replace rtt318 := rtt318.same s333
    replace v330 := v330.same s333
    obtain ⟨w335, ew335, _⟩ := id r334
    refine ⟨_, _, _, _, rfl, rfl, SqT.of ew335, rfl, rfl, ?_⟩
    rw [show decide (V.str wNone = V.str (Str.ofString "none")) = true from decide_eq_true rfl]
    clear hm
    clear rtt318
    clear v330
    clear r334
    refine ⟨l281, _, _, rfl, rfl, e313, small1000 (by show 8 ≤ 1000; decide), ?_⟩
    have e337 : BLs (upd H332 l281 (.lst (List.replicate 8 (V.bl true) ++ [V.bl true]))) l281 9 := upd_same
    generalize hg337 : upd H332 l281 _ = H336 at e337  ⊢
    clear hg337
    refine ⟨_, rfl, by decide, by decide, fun DR hDR => ?_⟩
    have DRtl : DR ≠ l281 := fun z => by rw [z, show H336 l281 = _ from e337] at hDR; cases hDR
    refine lc_range (lo := 0) (n := 12) (fun i Hc => Same H336 Hc ∧ ∃ us, Hc DR = some (.lst us) ∧ RowsL Hc us (rI.take i)) ⟨same_new hDR, [], upd_same, AG.nil⟩ ?_ ?_
    · rintro i Hc hi ⟨sm, us, hDc, hu⟩
      have e0 : (0 : Int) + (i : Nat) = (i : Nat) := by omega
      rw [e0]
      refine ⟨rfl, _, rfl, by decide, by decide, fun D2 hD2 => ?_⟩
      refine lc_range (lo := 0) (n := 12) (fun j Hx => Same Hc Hx ∧ Hx D2 = some (.lst (((rowI i).take j).map V.int))) ⟨same_new hD2, upd_same⟩ ?_ ?_
      · rintro j Hx hj ⟨s2, hD3⟩
        have e1 : (0 : Int) + (j : Nat) = (j : Nat) := by omega
        rw [e1]
        refine ⟨rfl, _, rfl, _, rfl, _, _, rfl, _, _, rfl, rfl, _, hD3, small1000 (by rw [List.length_map, List.length_take]; omega), same_upd hD2 s2, ?_⟩
        rw [take_snoc (x := 1 + (if ((j : Nat) : Int) < ((i : Nat) : Int) then ((j : Nat) : Int) else ((i : Nat) : Int))) (by unfold rowI; rw [List.getElem?_map, List.getElem?_range hj]; rfl), List.map_append]
        exact upd_same
      rintro Hx ⟨s2, hD3⟩
      rw [List.take_of_length_le (by unfold rowI; rw [List.length_map, List.length_range]; exact Nat.le_refl _)] at hD3
      refine ⟨D2, _, rfl, .inl ⟨SqL.of hD3, fun tq htq => ?_⟩⟩
      have s3 := s2.trans (same_new (o := .tup ((rowI i).map V.int)) htq)
      have e := s3 _ _ hDc
      have t3 : upd Hx tq (.tup ((rowI i).map V.int)) tq = some (.tup ((rowI i).map V.int)) := upd_same
      generalize upd Hx tq _ = Hy at s3 e t3 ⊢
      refine ⟨us, e, small1000 (by rw [hu.1, List.length_take]; omega), same_upd hDR (sm.trans s3), us ++ [.ref tq], upd_same, ?_⟩
      rw [take_snoc (rI_get hi)]
      exact rows_snoc ((hu.same s3).updl e) (tup_updl t3 e)
    rintro H338 ⟨s339, us, hdr, hus⟩
    rw [List.take_of_length_le (by rw [rI_len]; exact Nat.le_refl _)] at hus
    replace e337 := e337.same s339
    have hdr : VLs H338 DR us := hdr
    have usl : us.length = 12 := by rw [hus.1, rI_len]
    refine ⟨_, rfl, DR, rfl, ⟨_, SqL.of hdr⟩, fun DT hDT => ?_⟩
    have DTtl : DT ≠ l281 := fun z => by rw [z, show H338 l281 = _ from e337] at hDT; cases hDT
    have DTDR : DT ≠ DR := fun z => by rw [z, show H338 DR = _ from hdr] at hDT; cases hDT
    refine lc_list (xs := us) (fun i Hc => Same H338 Hc ∧ Hc DT = some (.lst ((tI.take i).map V.int))) ⟨same_new hDT, upd_same⟩ (fun i Hc _ p => SqL.of (p.1 _ _ hdr)) ?_ ?_
    · rintro i v Hc hvi ⟨sm, hDc⟩
      obtain ⟨r, hr, q, rfl, hq⟩ := hus.2 i v hvi
      have il := (List.getElem?_eq_some_iff.mp hvi).1
      have mr := List.mem_of_getElem? hr
      have rl := rI_row r mr
      have hq := sm _ _ hq
      refine ⟨rfl, _, rfl, q, _, rfl, SqT.of hq, fun D2 hD2 => ?_⟩
      refine lc_it (walk_enumT (xs := r.map V.int)) (fun j Hx => Same Hc Hx ∧ Hx D2 = some (.lst (((totI r).take j).map V.int))) ⟨same_new hD2, upd_same⟩ (fun j Hx _ p => SqT.of (p.1 _ _ hq)) ?_ ?_
      · rintro j v Hx H' hj ⟨s2, hD3⟩ ⟨T0, u1, u2, rfl, nT0, rfl, y1, y2⟩
        have y1 : some (V.int (j : Nat)) = some u1 := y1
        have y2 : (r.map V.int)[j]? = some u2 := y2
        cases y1
        obtain ⟨x, hx, rfl⟩ := il_at y2
        have jl : j < 12 := by rw [List.length_map, rl] at hj; exact hj
        have sT : Same Hx (upd Hx T0 (.tup [.int (j : Nat), .int x])) := same_new nT0
        have tt1 : upd Hx T0 (.tup [.int (j : Nat), .int x]) T0 = some (.tup [.int (j : Nat), .int x]) := upd_same
        have hDT2 := sT _ _ hD3
        have s3 := s2.trans sT
        generalize upd Hx T0 _ = Hn at tt1 hDT2 s3 ⊢
        have xs := rI_sm r mr x (List.mem_of_getElem? hx)
        refine ⟨T0, _, rfl, SqT.of tt1, rfl, _, _, rfl, _, _, rfl, rfl, rfl, ?_⟩
        refine ⟨_, rfl, _, rfl, _, _, rfl, rfl, _, _, rfl, rfl, wide_mul (a := 10) (b := 10) xs (by omega) (by decide) (by decide) (by decide), _, hDT2, small1000 (by rw [List.length_map, List.length_take]; omega), same_upd hD2 s3, ?_⟩
        rw [take_snoc (x := x * (((j : Nat) : Int) + 1)) (by unfold totI; rw [List.getElem?_map, List.getElem?_range jl]; show some (r.getD j 0 * _) = _; rw [getD_some hx]), List.map_append]
        exact upd_same
      rintro Hx ⟨s2, hD3⟩
      rw [List.take_of_length_le (by unfold totI; rw [List.length_map, List.length_range, List.length_map, rl]; exact Nat.le_refl _)] at hD3
      refine ⟨D2, totI r, rfl, SqL.of hD3, _, s2 _ _ hDc, small1000 (by rw [List.length_map, List.length_take, tI_len]; omega), same_upd hDT (sm.trans s2), ?_⟩
      rw [take_snoc (tI_get hr), List.map_append]
      exact upd_same
    rintro H340 ⟨s341, hdt⟩
    rw [List.take_of_length_le (by rw [tI_len, usl]; exact Nat.le_refl _)] at hdt
    replace e337 := e337.same s341
    replace hdr := hdr.same s341
    replace hus := hus.same s341
    have hdt : ILs H340 DT tI := hdt
    refine ⟨_, rfl, .inl ⟨rfl, _, SqL.of e337⟩, ?_⟩
    refine ⟨_, rfl, DR, _, rfl, .inl ⟨SqL.of hdr, fun t342 ht342 => ?_⟩⟩
    have s344 : Same H340 (upd H340 t342 (.tup us)) := same_new ht342
    have e345 : upd H340 t342 (.tup us) t342 = some (.tup us) := upd_same
    generalize hg345 : upd H340 t342 (.tup us) = H343 at s344 e345 ⊢
    clear hg345 ht342
    replace e337 := e337.same s344
    replace hdr := hdr.same s344
    replace hus := hus.same s344
    replace hdt := hdt.same s344
    have m10 : TT C H343 t342 rP := hus.tt e345
    refine ⟨_, rfl, DT, _, rfl, .inl ⟨SqL.of hdt, fun t346 ht346 => ?_⟩⟩
    have s348 : Same H343 (upd H343 t346 (.tup (tI.map V.int))) := same_new ht346
    have e349 : upd H343 t346 (.tup (tI.map V.int)) t346 = some (.tup (tI.map V.int)) := upd_same
    generalize hg349 : upd H343 t346 (.tup (tI.map V.int)) = H347 at s348 e349 ⊢
    clear hg349 ht346
    replace e337 := e337.same s348
    replace hdr := hdr.same s348
    replace hus := hus.same s348
    replace hdt := hdt.same s348
    replace m10 := m10.same s348
    have v10 : TV C H347 t346 tP := tv_i e349
    refine ⟨t342, t346, rP, 12, tP, rfl, m10.mxS (sys_of sy9), (sys_of sy9).rs, v10.tfS (sys_of sy9), (sys_of sy9).tl, (sys_of sy9).au, fi9, fun t350 H351 r353 s352 => ?_⟩
    replace r353 := sol_to re9 r353
    replace e337 := e337.same s352
    replace hdr := hdr.same s352
    replace hus := hus.same s352
    replace hdt := hdt.same s352
    replace m10 := m10.same s352
    replace v10 := v10.same s352
    refine ⟨_, _, rfl, rfl, RgOk.of_le (by decide) (by decide) (by decide) (by decide), fun t354 ht354 => ?_⟩
    have s356 : Same H351 (upd H351 t354 (.tup (rgV 1 13))) := same_new ht354
    have e357 : upd H351 t354 (.tup (rgV 1 13)) t354 = some (.tup (rgV 1 13)) := upd_same
    generalize hg357 : upd H351 t354 (.tup (rgV 1 13)) = H355 at s356 e357 ⊢
    clear hg357 ht354
    replace e337 := e337.same s356
    replace hdr := hdr.same s356
    replace hus := hus.same s356
    replace hdt := hdt.same s356
    replace m10 := m10.same s356
    replace v10 := v10.same s356
    replace r353 := r353.same s356
    have v358 := tv_r13 (C := C) e357
    refine ⟨small1000 (Nat.le_of_ble_eq_true rfl), fun t359 ht359 => ?_⟩
    have s361 : Same H355 (upd H355 t359 (.tup [.str "solution", .ref t354])) := same_new ht359
    have e362 : upd H355 t359 (.tup [.str "solution", .ref t354]) t359 = some (.tup [.str "solution", .ref t354]) := upd_same
    generalize hg362 : upd H355 t359 (.tup [.str "solution", .ref t354]) = H360 at s361 e362 ⊢
    clear hg362 ht359
    replace e337 := e337.same s361
    replace hdr := hdr.same s361
    replace hus := hus.same s361
    replace hdt := hdt.same s361
    replace m10 := m10.same s361
    replace v10 := v10.same s361
    replace r353 := r353.same s361
    replace v358 := v358.same s361
    refine ⟨dt_res r353 e362 v358, fun H363 s364 => ?_⟩
    replace s364 : Same H360 H363 := s364
    replace e337 := e337.same s364
    replace hdr := hdr.same s364
    replace hus := hus.same s364
    replace hdt := hdt.same s364
    replace m10 := m10.same s364
    replace v10 := v10.same s364
    replace r353 := r353.same s364
    replace v358 := v358.same s364
    clear m10
    clear v10
    clear r353
    clear v358
    refine ⟨l281, _, _, rfl, rfl, e337, small1000 (by show 9 ≤ 1000; decide), ?_⟩
    have e366 : BLs (upd H363 l281 (.lst (List.replicate 9 (V.bl true) ++ [V.bl true]))) l281 10 := upd_same
    replace hdr := hdr.updl (o := .lst (List.replicate 9 (V.bl true) ++ [V.bl true])) DRtl
    replace hus := hus.updl (o := .lst (List.replicate 9 (V.bl true) ++ [V.bl true])) e337
    replace hdt := hdt.updl (o := .lst (List.replicate 9 (V.bl true) ++ [V.bl true])) DTtl
    generalize hg366 : upd H363 l281 _ = H365 at e366 hdr hus hdt ⊢
    clear hg366
    refine ⟨_, rfl, .inl ⟨rfl, _, SqL.of hdr⟩, _, rfl, by decide, by decide, fun DC hDC => ?_⟩
    refine lc_range (lo := 0) (n := 12) (fun i Hc => Same H365 Hc ∧ Hc DC = some (.lst ((cI.take i).map V.int))) ⟨same_new hDC, upd_same⟩ ?_ ?_
    · rintro i Hc hi ⟨sm, hDc⟩
      have e0 : (0 : Int) + (i : Nat) = (i : Nat) := by omega
      rw [e0]
      have hr2 := sm _ _ hdr
      refine ⟨rfl, _, rfl, DR, rfl, ⟨_, SqL.of hr2⟩, fun D2 hD2 => ?_⟩
      refine lc_list (xs := us) (fun j Hx => Same Hc Hx ∧ Hx D2 = some (.lst (((rI.map fun r => r.getD i 0).take j).map V.int))) ⟨same_new hD2, upd_same⟩ (fun j Hx _ p => SqL.of (p.1 _ _ hr2)) ?_ ?_
      · rintro j v Hx hvj ⟨s2, hD3⟩
        obtain ⟨r, hr, q, rfl, hq⟩ := hus.2 j v hvj
        have jl := (List.getElem?_eq_some_iff.mp hvj).1
        have rl := rI_row r (List.mem_of_getElem? hr)
        have hq := (sm.trans s2) _ _ hq
        obtain ⟨x, hx⟩ : ∃ x, r[i]? = some x := ⟨_, List.getElem?_eq_getElem (by omega)⟩
        have gx : (r.map V.int)[i]? = some (V.int x) := by rw [List.getElem?_map, hx]; rfl
        refine ⟨rfl, _, rfl, _, rfl, q, _, _, _, rfl, rfl, SqT.of hq, atI_nat gx, _, hD3, small1000 (by rw [List.length_map, List.length_take]; omega), same_upd hD2 s2, ?_⟩
        rw [take_snoc (x := x) (by rw [List.getElem?_map, hr]; show some (r.getD i 0) = _; rw [getD_some hx]), List.map_append]
        exact upd_same
      rintro Hx ⟨s2, hD3⟩
      rw [List.take_of_length_le (by rw [List.length_map, rI_len, usl]; exact Nat.le_refl _)] at hD3
      refine ⟨D2, _, rfl, SqL.of hD3, _, s2 _ _ hDc, small1000 (by rw [List.length_map, List.length_take, cI_len]; omega), same_upd hDC (sm.trans s2), ?_⟩
      rw [take_snoc (cI_get hi), List.map_append]
      exact upd_same
    rintro H367 ⟨s368, hdc⟩
    rw [List.take_of_length_le (by rw [cI_len]; exact Nat.le_refl _)] at hdc
    replace e366 := e366.same s368
    replace hdr := hdr.same s368
    replace hus := hus.same s368
    replace hdt := hdt.same s368
    refine ⟨DC, _, rfl, .inl ⟨SqL.of hdc, fun t369 ht369 => ?_⟩⟩
    have s371 : Same H367 (upd H367 t369 (.tup (cI.map V.int))) := same_new ht369
    have e372 : upd H367 t369 (.tup (cI.map V.int)) t369 = some (.tup (cI.map V.int)) := upd_same
    generalize hg372 : upd H367 t369 (.tup (cI.map V.int)) = H370 at s371 e372 ⊢
    clear hg372 ht369
    replace e366 := e366.same s371
    replace hdr := hdr.same s371
    replace hus := hus.same s371
    replace hdt := hdt.same s371
    clear hdc
    have hus2 := rows_snoc hus e372
    refine ⟨DR, us, _, rfl, rfl, hdr, small1000 (by omega), ?_⟩
    replace hus2 := hus2.updl (o := .lst (us ++ [.ref t369])) hdr
    replace hdt := hdt.updl (o := .lst (us ++ [.ref t369])) DTDR
    replace e366 := e366.updl (o := .lst (us ++ [.ref t369])) (Ne.symm DRtl)
    have hdr2 : VLs (upd H370 DR (.lst (us ++ [.ref t369]))) DR (us ++ [.ref t369]) := upd_same
    clear hdr hus e372
    generalize hgr : upd H370 DR _ = H373 at hus2 hdt e366 hdr2 ⊢
    clear hgr
    refine ⟨_, rfl, .inl ⟨rfl, _, SqL.of hdt⟩, _, rfl, DT, tI, rfl, SqL.of hdt, _, _, rfl, rfl, DT, _, _, rfl, rfl, hdt, small1000 (by rw [List.length_map, tI_len]; decide), ?_⟩
    have hdt2 : ILs (upd H373 DT (.lst (tI.map V.int ++ [.int (tI.sum + 1)]))) DT (tI ++ [tI.sum + 1]) := by show upd _ _ _ _ = _; rw [upd_same, List.map_append]; rfl
    replace hus2 := hus2.updl (o := .lst (tI.map V.int ++ [.int (tI.sum + 1)])) hdt
    replace hdr2 := hdr2.updl (o := .lst (tI.map V.int ++ [.int (tI.sum + 1)])) (Ne.symm DTDR)
    replace e366 := e366.updl (o := .lst (tI.map V.int ++ [.int (tI.sum + 1)])) (Ne.symm DTtl)
    clear hdt
    generalize hgt : upd H373 DT _ = H374 at hus2 hdr2 e366 hdt2 ⊢
    clear hgt
    refine ⟨_, rfl, .inl ⟨rfl, _, SqL.of e366⟩, ?_⟩
    refine ⟨_, rfl, DR, _, rfl, .inl ⟨SqL.of hdr2, fun t375 ht375 => ?_⟩⟩
    have s377 : Same H374 (upd H374 t375 (.tup (us ++ [.ref t369]))) := same_new ht375
    have e378 : upd H374 t375 (.tup (us ++ [.ref t369])) t375 = some (.tup (us ++ [.ref t369])) := upd_same
    generalize hg378 : upd H374 t375 (.tup (us ++ [.ref t369])) = H376 at s377 e378 ⊢
    clear hg378 ht375
    replace e366 := e366.same s377
    replace hdt2 := hdt2.same s377
    replace hdr2 := hdr2.same s377
    replace hus2 := hus2.same s377
    have m11 : TT C H376 t375 rP2 := hus2.tt e378
    refine ⟨_, rfl, DT, _, rfl, .inl ⟨SqL.of hdt2, fun t379 ht379 => ?_⟩⟩
    have s381 : Same H376 (upd H376 t379 (.tup ((tI ++ [tI.sum + 1]).map V.int))) := same_new ht379
    have e382 : upd H376 t379 (.tup ((tI ++ [tI.sum + 1]).map V.int)) t379 = some (.tup ((tI ++ [tI.sum + 1]).map V.int)) := upd_same
    generalize hg382 : upd H376 t379 (.tup ((tI ++ [tI.sum + 1]).map V.int)) = H380 at s381 e382 ⊢
    clear hg382 ht379
    replace e366 := e366.same s381
    replace hdt2 := hdt2.same s381
    replace hdr2 := hdr2.same s381
    replace hus2 := hus2.same s381
    replace m11 := m11.same s381
    have v11 : TV C H380 t379 tP2 := tv_i e382
    refine ⟨t375, t379, rP2, 12, tP2, rfl, m11.mxS (sys_of sy10), (sys_of sy10).rs, v11.tfS (sys_of sy10), (sys_of sy10).tl, (sys_of sy10).au, fi10, fun t383 H384 r386 s385 => ?_⟩
    replace r386 := sol_to re10 r386
    replace e366 := e366.same s385
    replace hdt2 := hdt2.same s385
    replace hdr2 := hdr2.same s385
    replace hus2 := hus2.same s385
    replace m11 := m11.same s385
    replace v11 := v11.same s385
    refine ⟨_, rfl, ?_⟩
    refine ⟨small1000 (Nat.le_of_ble_eq_true rfl), fun t387 ht387 => ?_⟩
    have s389 : Same H384 (upd H384 t387 (.tup [.int (-1)])) := same_new ht387
    have e390 : upd H384 t387 (.tup [.int (-1)]) t387 = some (.tup [.int (-1)]) := upd_same
    generalize hg390 : upd H384 t387 (.tup [.int (-1)]) = H388 at s389 e390 ⊢
    clear hg390 ht387
    replace e366 := e366.same s389
    replace hdt2 := hdt2.same s389
    replace hdr2 := hdr2.same s389
    replace hus2 := hus2.same s389
    replace m11 := m11.same s389
    replace v11 := v11.same s389
    replace r386 := r386.same s389
    refine ⟨t387, 12, [(V.int (-1))], rfl, rfl, SqT.of e390, by decide, by decide, by decide, by decide, fun t391 ht391 => ?_⟩
    have s393 : Same H388 (upd H388 t391 (.tup (List.replicate ((12 : Int).toNat) [(V.int (-1))]).flatten)) := same_new ht391
    have e394 : upd H388 t391 (.tup (List.replicate ((12 : Int).toNat) [(V.int (-1))]).flatten) t391 = some (.tup (List.replicate ((12 : Int).toNat) [(V.int (-1))]).flatten) := upd_same
    generalize hg394 : upd H388 t391 (.tup (List.replicate ((12 : Int).toNat) [(V.int (-1))]).flatten) = H392 at s393 e394 ⊢
    clear hg394 ht391
    replace e366 := e366.same s393
    replace hdt2 := hdt2.same s393
    replace hdr2 := hdr2.same s393
    replace hus2 := hus2.same s393
    replace m11 := m11.same s393
    replace v11 := v11.same s393
    replace r386 := r386.same s393
    have rtt391 : RT H392 t391 12 (-1) := e394
    refine ⟨small1000 (Nat.le_of_ble_eq_true rfl), fun t395 ht395 => ?_⟩
    have s397 : Same H392 (upd H392 t395 (.tup [.int 1])) := same_new ht395
    have e398 : upd H392 t395 (.tup [.int 1]) t395 = some (.tup [.int 1]) := upd_same
    generalize hg398 : upd H392 t395 (.tup [.int 1]) = H396 at s397 e398 ⊢
    clear hg398 ht395
    replace e366 := e366.same s397
    replace hdt2 := hdt2.same s397
    replace hdr2 := hdr2.same s397
    replace hus2 := hus2.same s397
    replace m11 := m11.same s397
    replace v11 := v11.same s397
    replace r386 := r386.same s397
    replace rtt391 := rtt391.same s397
    refine ⟨t391, t395, _, _, rfl, rfl, SqT.of rtt391, SqT.of e398, Nat.le_of_lt (small1000 (by rw [flat_rep, List.length_replicate]; decide)), (fun z => absurd z (rt_ne (by decide))), (fun _ z => by cases z), fun _ _ t399 ht399 => ?_⟩
    have s401 : Same H396 (upd H396 t399 (.tup ((List.replicate 12 [(V.int (-1))]).flatten ++ [V.int 1]))) := same_new ht399
    have e402 : upd H396 t399 (.tup ((List.replicate 12 [(V.int (-1))]).flatten ++ [V.int 1])) t399 = some (.tup ((List.replicate 12 [(V.int (-1))]).flatten ++ [V.int 1])) := upd_same
    generalize hg402 : upd H396 t399 (.tup ((List.replicate 12 [(V.int (-1))]).flatten ++ [V.int 1])) = H400 at s401 e402 ⊢
    clear hg402 ht399
    replace e366 := e366.same s401
    replace hdt2 := hdt2.same s401
    replace hdr2 := hdr2.same s401
    replace hus2 := hus2.same s401
    replace m11 := m11.same s401
    replace v11 := v11.same s401
    replace r386 := r386.same s401
    replace rtt391 := rtt391.same s401
    have v403 := tv_one (C := C) e402
    refine ⟨small1000 (Nat.le_of_ble_eq_true rfl), fun t404 ht404 => ?_⟩
    have s406 : Same H400 (upd H400 t404 (.tup [.str "none", .ref t399])) := same_new ht404
    have e407 : upd H400 t404 (.tup [.str "none", .ref t399]) t404 = some (.tup [.str "none", .ref t399]) := upd_same
    generalize hg407 : upd H400 t404 (.tup [.str "none", .ref t399]) = H405 at s406 e407 ⊢
    clear hg407 ht404
    replace e366 := e366.same s406
    replace hdt2 := hdt2.same s406
    replace hdr2 := hdr2.same s406
    replace hus2 := hus2.same s406
    replace m11 := m11.same s406
    replace v11 := v11.same s406
    replace r386 := r386.same s406
    replace rtt391 := rtt391.same s406
    replace v403 := v403.same s406
    refine ⟨dt_res r386 e407 v403, fun H408 s409 => ?_⟩
    replace s409 : Same H405 H408 := s409
    replace e366 := e366.same s409
    replace hdt2 := hdt2.same s409
    replace hdr2 := hdr2.same s409
    replace hus2 := hus2.same s409
    replace m11 := m11.same s409
    replace v11 := v11.same s409
    replace r386 := r386.same s409
    replace rtt391 := rtt391.same s409
    replace v403 := v403.same s409
    clear hdt2
    clear hdr2
    clear hus2
    clear m11
    clear v11
    clear r386
    clear rtt391
    clear v403
    refine ⟨l281, _, _, rfl, rfl, e366, small1000 (by show 10 ≤ 1000; decide), ?_⟩
    have e411 : BLs (upd H408 l281 (.lst (List.replicate 10 (V.bl true) ++ [V.bl true]))) l281 11 := upd_same
    generalize hg411 : upd H408 l281 _ = H410 at e411  ⊢
    clear hg411
    refine ⟨_, rfl, ?_⟩
    refine ⟨small1000 (Nat.le_of_ble_eq_true rfl), fun l412 hl412 => ?_⟩
    have s414 : Same H410 (upd H410 l412 (.lst [.bl true])) := same_new hl412
    have e415 : upd H410 l412 (.lst [.bl true]) l412 = some (.lst [.bl true]) := upd_same
    generalize hg415 : upd H410 l412 (.lst [.bl true]) = H413 at s414 e415 ⊢
    clear hg415 hl412
    replace e411 := e411.same s414
    have b416 : BLs H413 l412 1 := e415
    refine ⟨l412, 11, _, rfl, rfl, b416, by decide, by decide, Nat.le_of_lt (small1000 (by decide)), fun l417 hl417 => ?_⟩
    have s419 : Same H413 (upd H413 l417 (.lst (List.replicate ((11 : Int).toNat) (List.replicate 1 (V.bl true))).flatten)) := same_new hl417
    have e420 : upd H413 l417 (.lst (List.replicate ((11 : Int).toNat) (List.replicate 1 (V.bl true))).flatten) l417 = some (.lst (List.replicate ((11 : Int).toNat) (List.replicate 1 (V.bl true))).flatten) := upd_same
    generalize hg420 : upd H413 l417 (.lst (List.replicate ((11 : Int).toNat) (List.replicate 1 (V.bl true))).flatten) = H418 at s419 e420 ⊢
    clear hg420 hl417
    replace e411 := e411.same s419
    have fin : BLs H418 l417 11 := e420
    refine ⟨bD 11, bD 11, e411.dp, fin.dp, by decide +kernel, by decide +kernel, ?_⟩
    have ev : PyData.eqv (bD 11) (bD 11) = true := by decide +kernel
    rw [ev]
    exact q _
end
end FR
set_option Elab.async false
set_option linter.all false
set_option maxRecDepth 100000
set_option maxHeartbeats 2000000
/-! defs that write values as texts (repr): their promise knows that no repr is running around the call -/
namespace L2
open PySem PySem.Spec PyProof.Rows
/-- as FnOk, where no repr is running around -/
structure FnG (P : Program) (w : World) (K : PySem.W.Frag) (mg : Str → Option Value) (base : Heap) (CX : CXT) (k : Nat) (f : Addr) (fd : FuncData) (ps : List Str) (sp : Sp) : Prop where
  len : ∀ vs H Q E, sp vs H Q E → vs.length = ps.length
  run : ∀ (A : Around) (outer : List Env) (s : Shared) (H : Hp) (ar : Args) (us : List Value) (vs : List V) (Q : VK) (E : XK), Room k A → A.guards = some [] → Env0 P w K mg base A outer s H → BindsTo s fd ar (ps.zip us) → Vals vs us →
    sp vs H Q E → codeAny (model P w) A (.call (.ref f) ar) (CR CX outer P w H s Q E) s
theorem guards_deeper {A : Around} {env : Env} (h : A.guards = some []) : (A.deeper env).guards = some [] := by
  first | exact h | (show pushGuards _ A.guards = some []; rw [h]; rfl) | (simp [Around.deeper, h])
section
variable {P : Program} {w : World} {K : PySem.W.Frag} {mg : Str → Option Value} {base : Heap}
theorem FnOk.g {CX : CXT} {k : Nat} {f : Addr} {fd : FuncData} {ps : List Str} {sp : Sp} (F : FnOk P w K mg base CX k f fd ps sp) : FnG P w K mg base CX k f fd ps sp :=
  ⟨F.len, fun A o s H ar us vs Q E hr _ he hb hv hs => F.run A o s H ar us vs Q E hr he hb hv hs⟩
theorem Fun.okG {x qual : Str} {st : Stmt} {f : Addr} {fd : FuncData} {N ps : List Str} {k : Nat} {sp : Sp} (F : Fun K x qual st f fd) (S : FnScope N ps (defScope st)) (len : ∀ vs H Q E, sp vs H Q E → vs.length = ps.length)
    (hbody : ∀ (cdv : Value) (A : Around) (outer : List Env) (s : Shared) (H : Hp) (vs : List V) (Q : VK) (E : XK), Room k (A.deeper (envOfC qual (defScope st) s.heap.objs.size f cdv)) → A.guards = some [] → sp vs H Q E →
      ∃ t, PSs (cxOf CX0 P w K mg base N qual (defScope st) f cdv A outer s H E).nox (defBody st) t ∧ t { nx := fun _ H' => Q .non H', rt := Q } (start N vs) H) : FnG P w K mg base CX0 (k + 1) f fd ps sp := by
  obtain ⟨oc, od, kV, doc, pm, an, cdv, ct, osl, rfl, lk, hcd⟩ := F.ex
  constructor
  · exact len
  intro A outer s H ar us vs Q E hr hg e0 hb r hsp
  have bk : ∀ b o, base.get? b = some o → s.heap.get? b = some o := fun b o e => (e0.bs b o e).1
  have KX : K.In s.heap := e0.mod.kin.keeps bk
  have hkind : ∀ y ∈ ps.zip us, (defScope st).names.lookup y.1 = some .local ∨ ((defScope st).names.lookup y.1 = some .cell ∧ ((cellsFrom (s.heap.objs.size + 1) (defScope st).names []).lookup y.1).isSome = true) := by
    rintro ⟨n, v⟩ hy
    exact (S.par n (List.of_mem_zip hy).1).imp id fun q => ⟨q, PySem.W.cellsFrom_some _ _ _ (.inl q)⟩
  refine codeAny_call_function hr.depth (KX _ _ lk) rfl S.co S.gen rfl (PySem.W.codeRec_of KX hcd) (hb _ _ _ _ (wpAny_newFunctionEnv_cells S.kind hkind fun env he s1 x => ?_))
  subst he
  refine ⟨(e0.mod.nolimit.keeps bk).keeps x.toInCall.keep, codeAny_func ?_⟩
  obtain ⟨t, ht, hq⟩ := hbody cdv A outer s H vs Q E (hr.deeper _) hg hsp
  have I : Inv (cxOf CX0 P w K mg base N qual (defScope st) f cdv A outer s H E) [] (start N vs) H s1 := inv_start S hr.hd e0 (len _ _ _ _ hsp) r x
  refine wpAny_mono (ht.nox.run [] s1 (start N vs) H _ I hq) ?_ fun e s' hs => hs
  intro fl s' hs
  cases fl with
  | ret u => obtain ⟨v, σ', H', J, rv, q⟩ := hs; exact ⟨v, H', J.os, J.bare, J.base, J.hok, rv, q⟩
  | next => obtain ⟨σ', H', J, q⟩ := hs; exact ⟨V.non, H', J.os, J.bare, J.base, J.hok, rfl, q⟩
  | brk => obtain ⟨_, _, _, z⟩ := hs; exact z.elim
  | cont => obtain ⟨_, _, _, z⟩ := hs; exact z.elim
end
section
variable {X : Cx} {CX : CXT} {k : Nat} {f : Addr} {fd : FuncData} {ps : List Str} {sp : Sp} {ds : List Value} {dvs : List V} {E : XK} {x : Str} {p pos : Pos} {e : Expr} {es : List Expr} {t : TA}
theorem pe_callG (F : FnG X.prog X.w X.K X.mg X.base CX k f fd ps sp) (hr : Room k X.A) (hgd : X.A.guards = some []) (hg : Gl X x) (hm : X.mg x = some (.ref f)) (hk : PySem.W.keepIn X.K (.ref f) = true) (hb : Binds X.K fd ps ds) (hd : Vals dvs ds) (hx : Passes CX X E)
    (ha : PA X (e :: es) t) (hdb : (x == ("__debug__" : Str)) = false := by decide) (he : starEach (e :: es) X.env = (false, eval e X.env) :: starEach es X.env := by rfl) (hpl : (backTo pos (starEach es X.env)).any (·.1) = false := by rfl) :
    PE X (.Call (.Name x p) (e :: es) [] pos) (tCall sp dvs E t) := by
  refine ⟨fun pins s σ H Q I h => wpAny_Call_Name_kw (ld_glob I hg hm ?_ hdb)⟩
  refine PySem.W.callWith_K (h₀ := X.base) I.ok.mod.kin hk ?_ he hpl
  refine thn (ha.run pos pins s σ H _ I h) ?_
  rintro us s1 ⟨vs, H1, I1, r, q⟩
  refine ⟨I1.kIn, ?_⟩
  have r2 : Vals (vs ++ dvs) (us ++ ds) := r.append hd
  have hl : (us ++ ds).length = ps.length := r2.length.symm.trans (F.len _ _ _ _ q)
  refine wpAny_call (codeAny_mono (F.run X.A X.stack s1 H1 ⟨us, []⟩ (us ++ ds) (vs ++ dvs) Q E hr hgd I1.env0 (hb s1 us I1.kIn hl) r2 q) ?_)
  intro rr s' hq
  rcases rr with er | fl
  · exact hx pins σ H1 s1 er s' I1 hq
  · cases fl <;> first | exact I1.after hq | exact hq.elim
/-- repr of data -/
def rRepr (K : PySem.W.Frag) : List V → Hp → VK → Prop := fun xs H Q => ∃ (a : Addr) (d : PyData), xs = [.ref a] ∧ Dp K H (.ref a) d ∧ d.showable = true ∧ d.hasDict = false ∧ d.depth ≤ 20 ∧ d.shown.length ≤ sizeLine ∧ Q (.str d.shown) H
theorem call_repr (hg : X.A.guards = some []) (hu : X.A.units + 64 < cLine) : CallR X (.builtin "repr") (rRepr X.K) := by
  intro pins s σ H xs us Q I r h
  obtain ⟨a, d, rfl, hd, hs, hn, hz, hl, q⟩ := h
  obtain ⟨u, rfl, r1⟩ := vals1 r
  cases r1
  obtain ⟨as, R⟩ := Dp.reads I d _ _ hd rfl
  exact repr_of_reads' R hs (fun z => by rw [hn] at z; cases z) hg (by omega) (fun _ _ z => z) (fun h' u tk kk => ⟨.str _, H, I.kept (t' := tk) kk, ⟨_, rfl⟩, q⟩) hl
end

/-! ### the law's own end, for a promise of this kind -/
theorem lawG {P : Program} {w : World} {K : PySem.W.Frag} {mg mb : Str → Option Value} {CX : CXT} {k : Nat} {fa a : Addr} {fd : FuncData} {x : Str} {sp : Sp} {s₁ : Shared} {vs : List Value} {ns : List Int}
    (KX : K.In s₁.heap) (hns : s₁.heap.Ns mainGlobals mg) (hb : s₁.heap.Ns builtinsNs mb) (hbb : ∀ x : Str, x ≠ "__name__" → mb x = bootBuiltins x) (hlim : s₁.heap.NoLimit) (hg : s₁.gens = #[])
    (ha : s₁.heap.get? a = some { cls := .type "list", data := .seq vs.toArray }) (hi : IntsAre vs ns) (hl : ns.length ≤ sizeLine) (hr : Room k callerA)
    (F : ∀ base : Heap, K.In base → base.Ns mainGlobals mg → FnG P w K mg base CX k fa fd [x] sp) (hbind : ∀ (s : Shared) (u : Value), BindsTo s fd ⟨[u], []⟩ [(x, u)])
    (hsp : ∀ H : Hp, Only H → SqL K H a (ns.map V.int) → sp [.ref a] H (fun v _ => v = .bl true) fun _ _ _ => False) (hCX : ∀ H e s', CX [] H s₁ (fun _ _ _ => False) e s' → False) :
    codeAny (model P w) callerA (.call (.ref fa) ⟨[.ref a], []⟩) (fun r s' => r = .ok (.ret (.bool true)) ∧ OldK s₁.heap s'.heap ∧ s'.os = s₁.os ∧ AllBare s'.gens) s₁ := by
  have rv := vals_ints hi
  have nil0 : ∀ b : Addr, b ∉ ([] : List Addr) := fun b z => nomatch z
  have run : ∀ H : Hp, Only H → SqL K H a (ns.map V.int) → HOk P w H s₁.heap → (∀ b, H b ≠ none → b = a) → (H a ≠ none → K.lookup a = none) →
      codeAny (model P w) callerA (.call (.ref fa) ⟨[.ref a], []⟩) (fun r s' => r = .ok (.ret (.bool true)) ∧ OldK s₁.heap s'.heap ∧ s'.os = s₁.os ∧ AllBare s'.gens) s₁ := by
    intro H hO hS hok hA hK
    have noH : ∀ b, b ≠ a → H b = none := fun b hb => by
      cases q : H b with
      | none => rfl
      | some u => exact (hb (hA b (by rw [q]; exact fun z => nomatch z))).elim
    have noD : ∀ {b : Addr} {o : Obj} {es : Array DictEntry} {ep : Nat}, s₁.heap.get? b = some o → o.data = .dict es ep → H b = none := fun {b o es ep} e d => noH b fun z => by
      subst z
      have y := Option.some.inj (ha.symm.trans e)
      rw [← y] at d
      cases d
    have nsK : ∀ {b : Addr} {m : Str → Option Value}, s₁.heap.Ns b m → (hidT s₁.heap H).Ns b m := by
      rintro b m ⟨o, es, ep, e, d, r⟩
      exact ⟨o, es, ep, hidT_get e (noD e d), d, r⟩
    have hKb : K.In (hidT s₁.heap H) := fun b o e => hidT_get (KX b o e) (by
      by_cases hb : b = a
      · cases q : H b with
        | none => rfl
        | some u =>
          subst hb
          have y := hK (by rw [q]; exact fun z => nomatch z)
          rw [y] at e
          cases e
      · exact noH b hb)
    obtain ⟨mc, l1, l2⟩ := hlim
    have e0 : Env0 P w K mg (hidT s₁.heap H) callerA [] s₁ H :=
      ⟨rfl, ⟨hKb, nsK hns, ⟨mb, nsK hb, hbb⟩, ⟨mc, nsK l1, l2⟩⟩, fun b o e => of_hidT e, Nat.le_of_eq (hidT_size _ _), trivial, fun b hb => (nil0 b hb).elim, hok, .of_eq hg⟩
    have R := (F _ hKb (nsK hns)).run callerA [] s₁ H ⟨[.ref a], []⟩ [.ref a] [.ref a] _ _ hr rfl e0 (hbind s₁ (.ref a)) (.cons rfl .nil) (hsp H hO hS)
    refine codeAny_mono R ?_
    intro r s' h
    rcases r with e | fl
    · exact (hCX H e s' h).elim
    cases fl with
    | next => exact h.elim
    | brk => exact h.elim
    | cont => exact h.elim
    | ret u =>
      obtain ⟨v, H', os, bare, un, hok', r', q⟩ := h
      have qv : v = .bl true := q
      subst qv
      cases r'
      refine ⟨rfl, OldK.of_keep ?_, os, bare⟩
      intro b o e
      rcases hO b with z | ⟨ob, xs, z⟩
      · exact un.keep b o e z (nil0 b) (nil0 b)
      · have y1 := (hok b _ z).1
        have y2 := (hok' b _ (un.frzs b ob _ z)).1
        rw [y2, ← y1, e]
  cases hk : K.lookup a with
  | some o =>
    have e := Option.some.inj ((KX a o hk).symm.trans ha)
    subst e
    refine run (fun _ => none) (fun _ => .inl rfl) ?_ (fun b u z => nomatch z) (fun b z => (z rfl).elim) fun z => (z rfl).elim
    exact .inr ⟨_, vs.toArray, _, hk, rfl, rfl, rfl, by rw [List.size_toArray, hi.length]; exact hl, by simpa using rv⟩
  | none =>
    let o : Obj := { cls := .type "list", data := .seq vs.toArray }
    have hat : (fun b => if b = a then some (HO.frz o (.lst (ns.map V.int))) else none : Hp) a = some (HO.frz o (.lst (ns.map V.int))) := if_pos rfl
    refine run (fun b => if b = a then some (HO.frz o (.lst (ns.map V.int))) else none) (fun b => ?_) (.inl (.inr ⟨o, hat⟩)) (fun b u z => ?_) (fun b z => ?_) fun _ => hk
    · by_cases q : b = a
      · exact .inr ⟨o, _, if_pos q⟩
      · exact .inl (if_neg q)
    · by_cases q : b = a
      · have y := (if_pos q).symm.trans z
        cases y
        rw [q]
        exact ⟨ha, by rw [List.length_map]; exact hl, vs, _, rv, ha⟩
      · have y := (if_neg q).symm.trans z
        cases y
    · by_cases q : b = a
      · exact q
      · exact (z (if_neg q)).elim
theorem walkG {l : PySem.W.OpenLaw} {n k : Nat} {q : Program} {loose : List Str} {XP : (Str → Option Value) → Heap → Prop} {YP : World → Heap → Prop} {d : DefRec} {K : Params → PySem.W.Frag} {CX : World → CXT} {sp : World → Sp} {x : Str}
    (hn : l.most = some n) (hn2 : n ≤ sizeLine) (hdf : d.params.defaults = []) (hr : Room k callerA) (hY : ∀ (w : World) (h : Heap), YP w h → (K w.params).In h)
    (F : ∀ (w : World) (mg : Str → Option Value) (fa : Addr) (h : Heap), (K w.params).In h → h.Ns mainGlobals mg → mg d.name = some (.ref fa) →
      ∃ fd : FuncData, (∀ (s : Shared) (u : Value), BindsTo s fd ⟨[u], []⟩ [(x, u)]) ∧ ∀ base : Heap, (K w.params).In base → base.Ns mainGlobals mg → FnG l.prog w (K w.params) mg base (CX w) k fa fd [x] (sp w))
    (hsp : ∀ (w : World) (H : Hp) (a : Addr) (ns : List Int), ns.length ≤ n → Only H → SqL (K w.params) H a (ns.map V.int) → sp w [.ref a] H (fun v _ => v = .bl true) fun _ _ _ => False)
    (hCX : ∀ (w : World) (H : Hp) (s : Shared) (e : Value) (s' : Shared), CX w [] H s (fun _ _ _ => False) e s' → False) :
    PySem.W.WalkO q loose XP YP l.row.toRowW d [] (fun f vs => PySem.call f vs) := by
  refine Att.attach_call hn hdf ?_
  intro w s₀ s₁ mg mb fa o pm cd doc a vs ns G Y ho hd hcd hmg hobj hints hlen hg
  obtain ⟨fd, hb, hF⟩ := F w mg fa _ (hY w _ Y) G.T.g hmg
  exact lawG (hY w _ Y) G.T.g G.T.b G.T.builtins G.T.nolimit hg hobj hints (Nat.le_trans hlen hn2) hr hF hb (fun H hO hS => hsp w H a ns hlen hO hS) fun H e s' => hCX w H s₁ e s'
end L2
set_option Elab.async false
set_option linter.all false
set_option maxRecDepth 100000
set_option maxHeartbeats 4000000
namespace FR
open PySem PySem.Spec PyProof.Rows L2 LD RF
/-! ### what the written part says of the classes, by computation -/
def oddB (K : PySem.W.Frag) (C : Addr) (T : String) : Bool := (PySem.W.kitOne K (.type T) (.ref C) == some false) && ((PySem.W.subIn K (.ref C) (.type T) == some false) && PySem.W.notFirst K C (.type T))
theorem odd_of {K : PySem.W.Frag} {C : Addr} {T : String} (h : oddB K C T = true) : OddC K C T := by
  simp only [oddB, Bool.and_eq_true, beq_iff_eq] at h
  exact ⟨h.1, h.2.1, h.2.2⟩
def clsB (K : PySem.W.Frag) (C : Addr) : Bool := PySem.W.plainGet K C Str.empty && (PySem.W.hasDictIn K C && (PySem.W.plainOver K C && (PySem.W.findIn K (.ref C) "__setattr__" == some (some (.builtin "object.__setattr__")))))
theorem cls_of {K : PySem.W.Frag} {C : Addr} (h : clsB K C = true) : Cls K C := by
  simp only [clsB, Bool.and_eq_true, beq_iff_eq] at h
  exact ⟨h.1, h.2.1, h.2.2.1, h.2.2.2⟩
def refOr : Option (Option Value) → Bool
  | some none => true
  | some (some (.ref _)) => true
  | _ => false
theorem refOr_of {x : Option (Option Value)} (h : refOr x = true) : ∃ rc, x = some rc ∧ (rc = none ∨ ∃ g : Addr, rc = some (.ref g)) := by
  match x, h with
  | some none, _ => exact ⟨_, rfl, .inl rfl⟩
  | some (some (.ref g)), _ => exact ⟨_, rfl, .inr ⟨g, rfl⟩⟩
theorem isSome_of {α : Type} {x : Option α} (h : x.isSome = true) : ∃ y, x = some y := Option.isSome_iff_exists.mp h
def opB (K : PySem.W.Frag) (C : Addr) (nm : String) : Bool := refOr (PySem.W.findIn K (.ref C) (dunderR nm)) && ((PySem.W.findIn K (.type "int") (PySem.dunder nm)).isSome && ((PySem.W.findIn K (.type "int") (dunderR nm)).isSome && (PySem.W.subIn K (.type "int") (.ref C) == some false)))
theorem op_of {K : PySem.W.Frag} {C : Addr} {nm : String} (h : opB K C nm = true) : IntOp K C nm := by
  simp only [opB, Bool.and_eq_true, beq_iff_eq] at h
  exact ⟨refOr_of h.1, isSome_of h.2.1, isSome_of h.2.2.1, h.2.2.2⟩
def rowB (K : PySem.W.Frag) (C : Addr) : Bool :=
  (PySem.W.findIn K (.ref C) "_top" == some none) && ((PySem.W.findIn K (.ref C) "_bottom" == some none) && ((PySem.W.findIn K (.ref C) "__class__" == some (some (.builtin "object.__class__"))) &&
  ((PySem.W.specialIn K (.builtin "object.__class__") "__get__" == some (some (.builtin "getset_descriptor.__get__"))) && ((PySem.W.takesIn K (.builtin "object.__class__") == some true) && ((PySem.W.mroIn K C (.type "object") == some true) &&
  ((PySem.W.makesIn K C) && (PySem.W.keepIn K (.ref C) && ((PySem.W.kitOne K (.ref C) (.type "int") == some false) && PySem.W.selfFirst K C))))))))
def echB (K : PySem.W.Frag) (C : Addr) : Bool :=
  (PySem.W.findIn K (.ref C) "width" == some none) && ((PySem.W.findIn K (.ref C) "rows" == some none) && ((PySem.W.findIn K (.ref C) "places" == some none) && ((PySem.W.findIn K (.ref C) "divisor" == some none) && (PySem.W.makesIn K C && PySem.W.keepIn K (.ref C)))))
theorem all_mk {l : PySem.W.OpenLaw} {w : World} {K : PySem.W.Frag} {h : Heap} {mg : Str → Option Value} {fa C D : Addr} (X : K.In h) (G : h.Ns mainGlobals mg) (hfa : mg "law" = some (.ref fa))
    (aC : PySem.W.nsIn K mainGlobals "Fraction" = some (some (.ref C)))
    (aD : PySem.W.nsIn K mainGlobals "Echelon" = some (some (.ref D)))
    (agcd : PySem.W.nsIn K mainGlobals "gcd" = some (some (.builtin "math.gcd")))
    (alcm : PySem.W.nsIn K mainGlobals "lcm" = some (some (.builtin "math.lcm")))
    {tkR tkW : Tok}
    (aMR : PySem.W.nsIn K mainGlobals "MAX_ROWS" = some (some (.int 80 tkR)))
    (aMW : PySem.W.nsIn K mainGlobals "MAX_WIDTH" = some (some (.int 12 tkW)))
    {f_clr : Addr} {oc_clr kV_clr dc_clr pm_clr cd_clr ct_clr : Value} {od_clr an_clr : Option Addr} {sl_clr : Array (Option Value)}
    (n_clr : PySem.W.nsIn K mainGlobals "cleared_by" = some (some (.ref f_clr)))
    (l_clr : K.lookup f_clr = some ⟨oc_clr, od_clr, .func (PySem.W.fnOf "cleared_by" "cleared_by" (defArgs sClr) (defBody sClr) (defScope sClr) .none kV_clr dc_clr pm_clr an_clr cd_clr ct_clr), sl_clr⟩)
    (d_clr : PySem.W.codeIn K cd_clr "cleared_by" = true)
    (k_clr : PySem.W.keepIn K (.ref f_clr) = true)
    {f_plain : Addr} {oc_plain kV_plain dc_plain pm_plain cd_plain ct_plain : Value} {od_plain an_plain : Option Addr} {sl_plain : Array (Option Value)}
    (n_plain : PySem.W.nsIn K mainGlobals "is_plain_integer" = some (some (.ref f_plain)))
    (l_plain : K.lookup f_plain = some ⟨oc_plain, od_plain, .func (PySem.W.fnOf "is_plain_integer" "is_plain_integer" (defArgs sPlain) (defBody sPlain) (defScope sPlain) .none kV_plain dc_plain pm_plain an_plain cd_plain ct_plain), sl_plain⟩)
    (d_plain : PySem.W.codeIn K cd_plain "is_plain_integer" = true)
    (k_plain : PySem.W.keepIn K (.ref f_plain) = true)
    {f_bet : Addr} {oc_bet kV_bet dc_bet pm_bet cd_bet ct_bet : Value} {od_bet an_bet : Option Addr} {sl_bet : Array (Option Value)}
    (n_bet : PySem.W.nsIn K mainGlobals "is_between" = some (some (.ref f_bet)))
    (l_bet : K.lookup f_bet = some ⟨oc_bet, od_bet, .func (PySem.W.fnOf "is_between" "is_between" (defArgs sBet) (defBody sBet) (defScope sBet) .none kV_bet dc_bet pm_bet an_bet cd_bet ct_bet), sl_bet⟩)
    (d_bet : PySem.W.codeIn K cd_bet "is_between" = true)
    (k_bet : PySem.W.keepIn K (.ref f_bet) = true)
    {f_isf : Addr} {oc_isf kV_isf dc_isf pm_isf cd_isf ct_isf : Value} {od_isf an_isf : Option Addr} {sl_isf : Array (Option Value)}
    (n_isf : PySem.W.nsIn K mainGlobals "is_fraction" = some (some (.ref f_isf)))
    (l_isf : K.lookup f_isf = some ⟨oc_isf, od_isf, .func (PySem.W.fnOf "is_fraction" "is_fraction" (defArgs sIsF) (defBody sIsF) (defScope sIsF) .none kV_isf dc_isf pm_isf an_isf cd_isf ct_isf), sl_isf⟩)
    (d_isf : PySem.W.codeIn K cd_isf "is_fraction" = true)
    (k_isf : PySem.W.keepIn K (.ref f_isf) = true)
    {f_asf : Addr} {oc_asf kV_asf dc_asf pm_asf cd_asf ct_asf : Value} {od_asf an_asf : Option Addr} {sl_asf : Array (Option Value)}
    (n_asf : PySem.W.nsIn K mainGlobals "as_fraction" = some (some (.ref f_asf)))
    (l_asf : K.lookup f_asf = some ⟨oc_asf, od_asf, .func (PySem.W.fnOf "as_fraction" "as_fraction" (defArgs sAs) (defBody sAs) (defScope sAs) .none kV_asf dc_asf pm_asf an_asf cd_asf ct_asf), sl_asf⟩)
    (d_asf : PySem.W.codeIn K cd_asf "as_fraction" = true)
    (k_asf : PySem.W.keepIn K (.ref f_asf) = true)
    {f_fs : Addr} {oc_fs kV_fs dc_fs pm_fs cd_fs ct_fs : Value} {od_fs an_fs : Option Addr} {sl_fs : Array (Option Value)}
    (n_fs : PySem.W.nsIn K mainGlobals "is_fractions" = some (some (.ref f_fs)))
    (l_fs : K.lookup f_fs = some ⟨oc_fs, od_fs, .func (PySem.W.fnOf "is_fractions" "is_fractions" (defArgs sFs) (defBody sFs) (defScope sFs) .none kV_fs dc_fs pm_fs an_fs cd_fs ct_fs), sl_fs⟩)
    (d_fs : PySem.W.codeIn K cd_fs "is_fractions" = true)
    (k_fs : PySem.W.keepIn K (.ref f_fs) = true)
    {f_over : Addr} {oc_over kV_over dc_over pm_over cd_over ct_over : Value} {od_over an_over : Option Addr} {sl_over : Array (Option Value)}
    (n_over : PySem.W.nsIn K mainGlobals "over_one_bottom" = some (some (.ref f_over)))
    (l_over : K.lookup f_over = some ⟨oc_over, od_over, .func (PySem.W.fnOf "over_one_bottom" "over_one_bottom" (defArgs sOver) (defBody sOver) (defScope sOver) .none kV_over dc_over pm_over an_over cd_over ct_over), sl_over⟩)
    (d_over : PySem.W.codeIn K cd_over "over_one_bottom" = true)
    (k_over : PySem.W.keepIn K (.ref f_over) = true)
    {f_irs : Addr} {oc_irs kV_irs dc_irs pm_irs cd_irs ct_irs : Value} {od_irs an_irs : Option Addr} {sl_irs : Array (Option Value)}
    (n_irs : PySem.W.nsIn K mainGlobals "is_rows" = some (some (.ref f_irs)))
    (l_irs : K.lookup f_irs = some ⟨oc_irs, od_irs, .func (PySem.W.fnOf "is_rows" "is_rows" (defArgs sIrs) (defBody sIrs) (defScope sIrs) .none kV_irs dc_irs pm_irs an_irs cd_irs ct_irs), sl_irs⟩)
    (d_irs : PySem.W.codeIn K cd_irs "is_rows" = true)
    (k_irs : PySem.W.keepIn K (.ref f_irs) = true)
    {f_so : Addr} {oc_so kV_so dc_so pm_so cd_so ct_so : Value} {od_so an_so : Option Addr} {sl_so : Array (Option Value)}
    (n_so : PySem.W.nsIn K mainGlobals "solution" = some (some (.ref f_so)))
    (l_so : K.lookup f_so = some ⟨oc_so, od_so, .func (PySem.W.fnOf "solution" "solution" (defArgs sSo) (defBody sSo) (defScope sSo) .none kV_so dc_so pm_so an_so cd_so ct_so), sl_so⟩)
    (d_so : PySem.W.codeIn K cd_so "solution" = true)
    (k_so : PySem.W.keepIn K (.ref f_so) = true)
    {f_mk : Addr} {oc_mk kV_mk dc_mk pm_mk cd_mk ct_mk : Value} {od_mk an_mk : Option Addr} {sl_mk : Array (Option Value)}
    (n_mk : PySem.W.nsIn K mainGlobals "_mark" = some (some (.ref f_mk)))
    (l_mk : K.lookup f_mk = some ⟨oc_mk, od_mk, .func (PySem.W.fnOf "_mark" "_mark" (defArgs sMk) (defBody sMk) (defScope sMk) .none kV_mk dc_mk pm_mk an_mk cd_mk ct_mk), sl_mk⟩)
    (d_mk : PySem.W.codeIn K cd_mk "_mark" = true)
    (k_mk : PySem.W.keepIn K (.ref f_mk) = true)
    {f_fa : Addr} {oc_fa kV_fa dc_fa pm_fa cd_fa ct_fa : Value} {od_fa an_fa : Option Addr} {sl_fa : Array (Option Value)}
    (n_fa : PySem.W.nsIn K mainGlobals "_factors_of" = some (some (.ref f_fa)))
    (l_fa : K.lookup f_fa = some ⟨oc_fa, od_fa, .func (PySem.W.fnOf "_factors_of" "_factors_of" (defArgs sFa) (defBody sFa) (defScope sFa) .none kV_fa dc_fa pm_fa an_fa cd_fa ct_fa), sl_fa⟩)
    (d_fa : PySem.W.codeIn K cd_fa "_factors_of" = true)
    (k_fa : PySem.W.keepIn K (.ref f_fa) = true)
    {f_is : Addr} {oc_is kV_is dc_is pm_is cd_is ct_is : Value} {od_is an_is : Option Addr} {sl_is : Array (Option Value)}
    (n_is : PySem.W.nsIn K mainGlobals "is_solution" = some (some (.ref f_is)))
    (l_is : K.lookup f_is = some ⟨oc_is, od_is, .func (PySem.W.fnOf "is_solution" "is_solution" (defArgs sIs) (defBody sIs) (defScope sIs) .none kV_is dc_is pm_is an_is cd_is ct_is), sl_is⟩)
    (d_is : PySem.W.codeIn K cd_is "is_solution" = true)
    (k_is : PySem.W.keepIn K (.ref f_is) = true)
    {f_crs : Addr} {oc_crs kV_crs dc_crs pm_crs cd_crs ct_crs : Value} {od_crs an_crs : Option Addr} {sl_crs : Array (Option Value)}
    (n_crs : PySem.W.nsIn K mainGlobals "_check_rows" = some (some (.ref f_crs)))
    (l_crs : K.lookup f_crs = some ⟨oc_crs, od_crs, .func (PySem.W.fnOf "_check_rows" "_check_rows" (defArgs sCrs) (defBody sCrs) (defScope sCrs) .none kV_crs dc_crs pm_crs an_crs cd_crs ct_crs), sl_crs⟩)
    (d_crs : PySem.W.codeIn K cd_crs "_check_rows" = true)
    (k_crs : PySem.W.keepIn K (.ref f_crs) = true)
    {f_cfs : Addr} {oc_cfs kV_cfs dc_cfs pm_cfs cd_cfs ct_cfs : Value} {od_cfs an_cfs : Option Addr} {sl_cfs : Array (Option Value)}
    (n_cfs : PySem.W.nsIn K mainGlobals "_check_fractions" = some (some (.ref f_cfs)))
    (l_cfs : K.lookup f_cfs = some ⟨oc_cfs, od_cfs, .func (PySem.W.fnOf "_check_fractions" "_check_fractions" (defArgs sCfs) (defBody sCfs) (defScope sCfs) .none kV_cfs dc_cfs pm_cfs an_cfs cd_cfs ct_cfs), sl_cfs⟩)
    (d_cfs : PySem.W.codeIn K cd_cfs "_check_fractions" = true)
    (k_cfs : PySem.W.keepIn K (.ref f_cfs) = true)
    {f_ct : Addr} {oc_ct kV_ct dc_ct pm_ct cd_ct ct_ct : Value} {od_ct an_ct : Option Addr} {sl_ct : Array (Option Value)}
    (n_ct : PySem.W.nsIn K mainGlobals "_check_rows_and_totals" = some (some (.ref f_ct)))
    (l_ct : K.lookup f_ct = some ⟨oc_ct, od_ct, .func (PySem.W.fnOf "_check_rows_and_totals" "_check_rows_and_totals" (defArgs sCt) (defBody sCt) (defScope sCt) .none kV_ct dc_ct pm_ct an_ct cd_ct ct_ct), sl_ct⟩)
    (d_ct : PySem.W.codeIn K cd_ct "_check_rows_and_totals" = true)
    (k_ct : PySem.W.keepIn K (.ref f_ct) = true)
    {f_td : Addr} {oc_td kV_td dc_td pm_td cd_td ct_td : Value} {od_td an_td : Option Addr} {sl_td : Array (Option Value)}
    (n_td : PySem.W.nsIn K mainGlobals "_is_told" = some (some (.ref f_td)))
    (l_td : K.lookup f_td = some ⟨oc_td, od_td, .func (PySem.W.fnOf "_is_told" "_is_told" (defArgs sTd) (defBody sTd) (defScope sTd) .none kV_td dc_td pm_td an_td cd_td ct_td), sl_td⟩)
    (d_td : PySem.W.codeIn K cd_td "_is_told" = true)
    (k_td : PySem.W.keepIn K (.ref f_td) = true)
    {f_trn : Addr} {oc_trn kV_trn dc_trn pm_trn cd_trn ct_trn : Value} {od_trn an_trn : Option Addr} {sl_trn : Array (Option Value)}
    (n_trn : PySem.W.nsIn K mainGlobals "_turned" = some (some (.ref f_trn)))
    (l_trn : K.lookup f_trn = some ⟨oc_trn, od_trn, .func (PySem.W.fnOf "_turned" "_turned" (defArgs sTrn) (defBody sTrn) (defScope sTrn) .none kV_trn dc_trn pm_trn an_trn cd_trn ct_trn), sl_trn⟩)
    (d_trn : PySem.W.codeIn K cd_trn "_turned" = true)
    (k_trn : PySem.W.keepIn K (.ref f_trn) = true)
    {f_rx : Addr} {oc_rx kV_rx dc_rx pm_rx cd_rx ct_rx : Value} {od_rx an_rx : Option Addr} {sl_rx : Array (Option Value)}
    (n_rx : PySem.W.nsIn K mainGlobals "_row_times" = some (some (.ref f_rx)))
    (l_rx : K.lookup f_rx = some ⟨oc_rx, od_rx, .func (PySem.W.fnOf "_row_times" "_row_times" (defArgs sRx) (defBody sRx) (defScope sRx) .none kV_rx dc_rx pm_rx an_rx cd_rx ct_rx), sl_rx⟩)
    (d_rx : PySem.W.codeIn K cd_rx "_row_times" = true)
    (k_rx : PySem.W.keepIn K (.ref f_rx) = true)
    {f_tms : Addr} {oc_tms kV_tms dc_tms pm_tms cd_tms ct_tms : Value} {od_tms an_tms : Option Addr} {sl_tms : Array (Option Value)}
    (n_tms : PySem.W.nsIn K mainGlobals "_times" = some (some (.ref f_tms)))
    (l_tms : K.lookup f_tms = some ⟨oc_tms, od_tms, .func (PySem.W.fnOf "_times" "_times" (defArgs sTms) (defBody sTms) (defScope sTms) .none kV_tms dc_tms pm_tms an_tms cd_tms ct_tms), sl_tms⟩)
    (d_tms : PySem.W.codeIn K cd_tms "_times" = true)
    (k_tms : PySem.W.keepIn K (.ref f_tms) = true)
    {f_dice : Addr} {oc_dice kV_dice dc_dice pm_dice cd_dice ct_dice : Value} {od_dice an_dice : Option Addr} {sl_dice : Array (Option Value)}
    (n_dice : PySem.W.nsIn K mainGlobals "_law_dice" = some (some (.ref f_dice)))
    (l_dice : K.lookup f_dice = some ⟨oc_dice, od_dice, .func (PySem.W.fnOf "_law_dice" "_law_dice" (defArgs LD.sDice) (defBody LD.sDice) (defScope LD.sDice) .none kV_dice dc_dice pm_dice an_dice cd_dice ct_dice), sl_dice⟩)
    (d_dice : PySem.W.codeIn K cd_dice "_law_dice" = true)
    (k_dice : PySem.W.keepIn K (.ref f_dice) = true)
    {f_roll : Addr} {oc_roll kV_roll dc_roll pm_roll cd_roll ct_roll : Value} {od_roll an_roll : Option Addr} {sl_roll : Array (Option Value)}
    (n_roll : PySem.W.nsIn K mainGlobals "_law_roll" = some (some (.ref f_roll)))
    (l_roll : K.lookup f_roll = some ⟨oc_roll, od_roll, .func (PySem.W.fnOf "_law_roll" "_law_roll" (defArgs LD.sRoll) (defBody LD.sRoll) (defScope LD.sRoll) .none kV_roll dc_roll pm_roll an_roll cd_roll ct_roll), sl_roll⟩)
    (d_roll : PySem.W.codeIn K cd_roll "_law_roll" = true)
    (k_roll : PySem.W.keepIn K (.ref f_roll) = true)
    {f_one : Addr} {oc_one kV_one dc_one pm_one cd_one ct_one : Value} {od_one an_one : Option Addr} {sl_one : Array (Option Value)}
    (n_one : PySem.W.nsIn K mainGlobals "_law_one_of" = some (some (.ref f_one)))
    (l_one : K.lookup f_one = some ⟨oc_one, od_one, .func (PySem.W.fnOf "_law_one_of" "_law_one_of" (defArgs LD.sOneOf) (defBody LD.sOneOf) (defScope LD.sOneOf) .none kV_one dc_one pm_one an_one cd_one ct_one), sl_one⟩)
    (d_one : PySem.W.codeIn K cd_one "_law_one_of" = true)
    (k_one : PySem.W.keepIn K (.ref f_one) = true)
    {f_gcd : Addr} {oc_gcd kV_gcd dc_gcd pm_gcd cd_gcd ct_gcd : Value} {od_gcd an_gcd : Option Addr} {sl_gcd : Array (Option Value)}
    (n_gcd : PySem.W.nsIn K mainGlobals "_law_gcd" = some (some (.ref f_gcd)))
    (l_gcd : K.lookup f_gcd = some ⟨oc_gcd, od_gcd, .func (PySem.W.fnOf "_law_gcd" "_law_gcd" (defArgs sGcd) (defBody sGcd) (defScope sGcd) .none kV_gcd dc_gcd pm_gcd an_gcd cd_gcd ct_gcd), sl_gcd⟩)
    (d_gcd : PySem.W.codeIn K cd_gcd "_law_gcd" = true)
    (k_gcd : PySem.W.keepIn K (.ref f_gcd) = true)
    {f_rat : Addr} {oc_rat kV_rat dc_rat pm_rat cd_rat ct_rat : Value} {od_rat an_rat : Option Addr} {sl_rat : Array (Option Value)}
    (n_rat : PySem.W.nsIn K mainGlobals "_law_ratio" = some (some (.ref f_rat)))
    (l_rat : K.lookup f_rat = some ⟨oc_rat, od_rat, .func (PySem.W.fnOf "_law_ratio" "_law_ratio" (defArgs sRat) (defBody sRat) (defScope sRat) .none kV_rat dc_rat pm_rat an_rat cd_rat ct_rat), sl_rat⟩)
    (d_rat : PySem.W.codeIn K cd_rat "_law_ratio" = true)
    (k_rat : PySem.W.keepIn K (.ref f_rat) = true)
    {f_plus : Addr} {oc_plus kV_plus dc_plus pm_plus cd_plus ct_plus : Value} {od_plus an_plus : Option Addr} {sl_plus : Array (Option Value)}
    (n_plus : PySem.W.nsIn K mainGlobals "_law_plus" = some (some (.ref f_plus)))
    (l_plus : K.lookup f_plus = some ⟨oc_plus, od_plus, .func (PySem.W.fnOf "_law_plus" "_law_plus" (defArgs sPlus) (defBody sPlus) (defScope sPlus) .none kV_plus dc_plus pm_plus an_plus cd_plus ct_plus), sl_plus⟩)
    (d_plus : PySem.W.codeIn K cd_plus "_law_plus" = true)
    (k_plus : PySem.W.keepIn K (.ref f_plus) = true)
    {f_lby : Addr} {oc_lby kV_lby dc_lby pm_lby cd_lby ct_lby : Value} {od_lby an_lby : Option Addr} {sl_lby : Array (Option Value)}
    (n_lby : PySem.W.nsIn K mainGlobals "_law_by" = some (some (.ref f_lby)))
    (l_lby : K.lookup f_lby = some ⟨oc_lby, od_lby, .func (PySem.W.fnOf "_law_by" "_law_by" (defArgs sLby) (defBody sLby) (defScope sLby) .none kV_lby dc_lby pm_lby an_lby cd_lby ct_lby), sl_lby⟩)
    (d_lby : PySem.W.codeIn K cd_lby "_law_by" = true)
    (k_lby : PySem.W.keepIn K (.ref f_lby) = true)
    {f_pair : Addr} {oc_pair kV_pair dc_pair pm_pair cd_pair ct_pair : Value} {od_pair an_pair : Option Addr} {sl_pair : Array (Option Value)}
    (n_pair : PySem.W.nsIn K mainGlobals "_law_pair" = some (some (.ref f_pair)))
    (l_pair : K.lookup f_pair = some ⟨oc_pair, od_pair, .func (PySem.W.fnOf "_law_pair" "_law_pair" (defArgs sPr) (defBody sPr) (defScope sPr) .none kV_pair dc_pair pm_pair an_pair cd_pair ct_pair), sl_pair⟩)
    (d_pair : PySem.W.codeIn K cd_pair "_law_pair" = true)
    (k_pair : PySem.W.keepIn K (.ref f_pair) = true)
    {f_pairs : Addr} {oc_pairs kV_pairs dc_pairs pm_pairs cd_pairs ct_pairs : Value} {od_pairs an_pairs : Option Addr} {sl_pairs : Array (Option Value)}
    (n_pairs : PySem.W.nsIn K mainGlobals "_law_pairs" = some (some (.ref f_pairs)))
    (l_pairs : K.lookup f_pairs = some ⟨oc_pairs, od_pairs, .func (PySem.W.fnOf "_law_pairs" "_law_pairs" (defArgs sPs) (defBody sPs) (defScope sPs) .none kV_pairs dc_pairs pm_pairs an_pairs cd_pairs ct_pairs), sl_pairs⟩)
    (d_pairs : PySem.W.codeIn K cd_pairs "_law_pairs" = true)
    (k_pairs : PySem.W.keepIn K (.ref f_pairs) = true)
    {f_shw : Addr} {oc_shw kV_shw dc_shw pm_shw cd_shw ct_shw : Value} {od_shw an_shw : Option Addr} {sl_shw : Array (Option Value)}
    (n_shw : PySem.W.nsIn K mainGlobals "_law_shown" = some (some (.ref f_shw)))
    (l_shw : K.lookup f_shw = some ⟨oc_shw, od_shw, .func (PySem.W.fnOf "_law_shown" "_law_shown" (defArgs sSh) (defBody sSh) (defScope sSh) .none kV_shw dc_shw pm_shw an_shw cd_shw ct_shw), sl_shw⟩)
    (d_shw : PySem.W.codeIn K cd_shw "_law_shown" = true)
    (k_shw : PySem.W.keepIn K (.ref f_shw) = true)
    {f_shr : Addr} {oc_shr kV_shr dc_shr pm_shr cd_shr ct_shr : Value} {od_shr an_shr : Option Addr} {sl_shr : Array (Option Value)}
    (n_shr : PySem.W.nsIn K mainGlobals "_law_shown_row" = some (some (.ref f_shr)))
    (l_shr : K.lookup f_shr = some ⟨oc_shr, od_shr, .func (PySem.W.fnOf "_law_shown_row" "_law_shown_row" (defArgs sSr) (defBody sSr) (defScope sSr) .none kV_shr dc_shr pm_shr an_shr cd_shr ct_shr), sl_shr⟩)
    (d_shr : PySem.W.codeIn K cd_shr "_law_shown_row" = true)
    (k_shr : PySem.W.keepIn K (.ref f_shr) = true)
    {f_num : Addr} {oc_num kV_num dc_num pm_num cd_num ct_num : Value} {od_num an_num : Option Addr} {sl_num : Array (Option Value)}
    (n_num : PySem.W.nsIn K mainGlobals "_law_number" = some (some (.ref f_num)))
    (l_num : K.lookup f_num = some ⟨oc_num, od_num, .func (PySem.W.fnOf "_law_number" "_law_number" (defArgs sNu) (defBody sNu) (defScope sNu) .none kV_num dc_num pm_num an_num cd_num ct_num), sl_num⟩)
    (d_num : PySem.W.codeIn K cd_num "_law_number" = true)
    (k_num : PySem.W.keepIn K (.ref f_num) = true)
    {f_prd : Addr} {oc_prd kV_prd dc_prd pm_prd cd_prd ct_prd : Value} {od_prd an_prd : Option Addr} {sl_prd : Array (Option Value)}
    (n_prd : PySem.W.nsIn K mainGlobals "_law_product" = some (some (.ref f_prd)))
    (l_prd : K.lookup f_prd = some ⟨oc_prd, od_prd, .func (PySem.W.fnOf "_law_product" "_law_product" (defArgs sPd) (defBody sPd) (defScope sPd) .none kV_prd dc_prd pm_prd an_prd cd_prd ct_prd), sl_prd⟩)
    (d_prd : PySem.W.codeIn K cd_prd "_law_product" = true)
    (k_prd : PySem.W.keepIn K (.ref f_prd) = true)
    {f_mixl : Addr} {oc_mixl kV_mixl dc_mixl pm_mixl cd_mixl ct_mixl : Value} {od_mixl an_mixl : Option Addr} {sl_mixl : Array (Option Value)}
    (n_mixl : PySem.W.nsIn K mainGlobals "_law_mix" = some (some (.ref f_mixl)))
    (l_mixl : K.lookup f_mixl = some ⟨oc_mixl, od_mixl, .func (PySem.W.fnOf "_law_mix" "_law_mix" (defArgs sMx) (defBody sMx) (defScope sMx) .none kV_mixl dc_mixl pm_mixl an_mixl cd_mixl ct_mixl), sl_mixl⟩)
    (d_mixl : PySem.W.codeIn K cd_mixl "_law_mix" = true)
    (k_mixl : PySem.W.keepIn K (.ref f_mixl) = true)
    {f_lns : Addr} {oc_lns kV_lns dc_lns pm_lns cd_lns ct_lns : Value} {od_lns an_lns : Option Addr} {sl_lns : Array (Option Value)}
    (n_lns : PySem.W.nsIn K mainGlobals "_law_lines" = some (some (.ref f_lns)))
    (l_lns : K.lookup f_lns = some ⟨oc_lns, od_lns, .func (PySem.W.fnOf "_law_lines" "_law_lines" (defArgs sLn) (defBody sLn) (defScope sLn) .none kV_lns dc_lns pm_lns an_lns cd_lns ct_lns), sl_lns⟩)
    (d_lns : PySem.W.codeIn K cd_lns "_law_lines" = true)
    (k_lns : PySem.W.keepIn K (.ref f_lns) = true)
    {f_shl : Addr} {oc_shl kV_shl dc_shl pm_shl cd_shl ct_shl : Value} {od_shl an_shl : Option Addr} {sl_shl : Array (Option Value)}
    (n_shl : PySem.W.nsIn K mainGlobals "_law_shown_lines" = some (some (.ref f_shl)))
    (l_shl : K.lookup f_shl = some ⟨oc_shl, od_shl, .func (PySem.W.fnOf "_law_shown_lines" "_law_shown_lines" (defArgs sSl) (defBody sSl) (defScope sSl) .none kV_shl dc_shl pm_shl an_shl cd_shl ct_shl), sl_shl⟩)
    (d_shl : PySem.W.codeIn K cd_shl "_law_shown_lines" = true)
    (k_shl : PySem.W.keepIn K (.ref f_shl) = true)
    {f_inv : Addr} {oc_inv kV_inv dc_inv pm_inv cd_inv ct_inv : Value} {od_inv an_inv : Option Addr} {sl_inv : Array (Option Value)}
    (n_inv : PySem.W.nsIn K mainGlobals "_law_inverse" = some (some (.ref f_inv)))
    (l_inv : K.lookup f_inv = some ⟨oc_inv, od_inv, .func (PySem.W.fnOf "_law_inverse" "_law_inverse" (defArgs sInv) (defBody sInv) (defScope sInv) .none kV_inv dc_inv pm_inv an_inv cd_inv ct_inv), sl_inv⟩)
    (d_inv : PySem.W.codeIn K cd_inv "_law_inverse" = true)
    (k_inv : PySem.W.keepIn K (.ref f_inv) = true)
    {f_wo : Addr} {oc_wo kV_wo dc_wo pm_wo cd_wo ct_wo : Value} {od_wo an_wo : Option Addr} {sl_wo : Array (Option Value)}
    (n_wo : PySem.W.nsIn K mainGlobals "_law_without" = some (some (.ref f_wo)))
    (l_wo : K.lookup f_wo = some ⟨oc_wo, od_wo, .func (PySem.W.fnOf "_law_without" "_law_without" (defArgs sWo) (defBody sWo) (defScope sWo) .none kV_wo dc_wo pm_wo an_wo cd_wo ct_wo), sl_wo⟩)
    (d_wo : PySem.W.codeIn K cd_wo "_law_without" = true)
    (k_wo : PySem.W.keepIn K (.ref f_wo) = true)
    {f_lcl : Addr} {oc_lcl kV_lcl dc_lcl pm_lcl cd_lcl ct_lcl : Value} {od_lcl an_lcl : Option Addr} {sl_lcl : Array (Option Value)}
    (n_lcl : PySem.W.nsIn K mainGlobals "_law_cleared" = some (some (.ref f_lcl)))
    (l_lcl : K.lookup f_lcl = some ⟨oc_lcl, od_lcl, .func (PySem.W.fnOf "_law_cleared" "_law_cleared" (defArgs sLc) (defBody sLc) (defScope sLc) .none kV_lcl dc_lcl pm_lcl an_lcl cd_lcl ct_lcl), sl_lcl⟩)
    (d_lcl : PySem.W.codeIn K cd_lcl "_law_cleared" = true)
    (k_lcl : PySem.W.keepIn K (.ref f_lcl) = true)
    {f_an : Addr} {oc_an kV_an dc_an pm_an cd_an ct_an : Value} {od_an an_an : Option Addr} {sl_an : Array (Option Value)}
    (n_an : PySem.W.nsIn K mainGlobals "_law_are_numbers" = some (some (.ref f_an)))
    (l_an : K.lookup f_an = some ⟨oc_an, od_an, .func (PySem.W.fnOf "_law_are_numbers" "_law_are_numbers" (defArgs sAn) (defBody sAn) (defScope sAn) .none kV_an dc_an pm_an an_an cd_an ct_an), sl_an⟩)
    (d_an : PySem.W.codeIn K cd_an "_law_are_numbers" = true)
    (k_an : PySem.W.keepIn K (.ref f_an) = true)
    {f_ln1 : Addr} {oc_ln1 kV_ln1 dc_ln1 pm_ln1 cd_ln1 ct_ln1 : Value} {od_ln1 an_ln1 : Option Addr} {sl_ln1 : Array (Option Value)}
    (n_ln1 : PySem.W.nsIn K mainGlobals "_law_is_number" = some (some (.ref f_ln1)))
    (l_ln1 : K.lookup f_ln1 = some ⟨oc_ln1, od_ln1, .func (PySem.W.fnOf "_law_is_number" "_law_is_number" (defArgs sLn1) (defBody sLn1) (defScope sLn1) .none kV_ln1 dc_ln1 pm_ln1 an_ln1 cd_ln1 ct_ln1), sl_ln1⟩)
    (d_ln1 : PySem.W.codeIn K cd_ln1 "_law_is_number" = true)
    (k_ln1 : PySem.W.keepIn K (.ref f_ln1) = true)
    {f_told : Addr} {oc_told kV_told dc_told pm_told cd_told ct_told : Value} {od_told an_told : Option Addr} {sl_told : Array (Option Value)}
    (n_told : PySem.W.nsIn K mainGlobals "_law_are_told" = some (some (.ref f_told)))
    (l_told : K.lookup f_told = some ⟨oc_told, od_told, .func (PySem.W.fnOf "_law_are_told" "_law_are_told" (defArgs sAt) (defBody sAt) (defScope sAt) .none kV_told dc_told pm_told an_told cd_told ct_told), sl_told⟩)
    (d_told : PySem.W.codeIn K cd_told "_law_are_told" = true)
    (k_told : PySem.W.keepIn K (.ref f_told) = true)
    {f_li : Addr} {oc_li kV_li dc_li pm_li cd_li ct_li : Value} {od_li an_li : Option Addr} {sl_li : Array (Option Value)}
    (n_li : PySem.W.nsIn K mainGlobals "_law_is_solution" = some (some (.ref f_li)))
    (l_li : K.lookup f_li = some ⟨oc_li, od_li, .func (PySem.W.fnOf "_law_is_solution" "_law_is_solution" (defArgs sLi) (defBody sLi) (defScope sLi) .none kV_li dc_li pm_li an_li cd_li ct_li), sl_li⟩)
    (d_li : PySem.W.codeIn K cd_li "_law_is_solution" = true)
    (k_li : PySem.W.keepIn K (.ref f_li) = true)
    {f_ne : Addr} {oc_ne kV_ne dc_ne pm_ne cd_ne ct_ne : Value} {od_ne an_ne : Option Addr} {sl_ne : Array (Option Value)}
    (n_ne : PySem.W.nsIn K mainGlobals "_law_near" = some (some (.ref f_ne)))
    (l_ne : K.lookup f_ne = some ⟨oc_ne, od_ne, .func (PySem.W.fnOf "_law_near" "_law_near" (defArgs sNe) (defBody sNe) (defScope sNe) .none kV_ne dc_ne pm_ne an_ne cd_ne ct_ne), sl_ne⟩)
    (d_ne : PySem.W.codeIn K cd_ne "_law_near" = true)
    (k_ne : PySem.W.keepIn K (.ref f_ne) = true)
    {f_mo : Addr} {oc_mo kV_mo dc_mo pm_mo cd_mo ct_mo : Value} {od_mo an_mo : Option Addr} {sl_mo : Array (Option Value)}
    (n_mo : PySem.W.nsIn K mainGlobals "_law_more" = some (some (.ref f_mo)))
    (l_mo : K.lookup f_mo = some ⟨oc_mo, od_mo, .func (PySem.W.fnOf "_law_more" "_law_more" (defArgs sMo) (defBody sMo) (defScope sMo) .none kV_mo dc_mo pm_mo an_mo cd_mo ct_mo), sl_mo⟩)
    (d_mo : PySem.W.codeIn K cd_mo "_law_more" = true)
    (k_mo : PySem.W.keepIn K (.ref f_mo) = true)
    {f_rig : Addr} {oc_rig kV_rig dc_rig pm_rig cd_rig ct_rig : Value} {od_rig an_rig : Option Addr} {sl_rig : Array (Option Value)}
    (n_rig : PySem.W.nsIn K mainGlobals "_law_right" = some (some (.ref f_rig)))
    (l_rig : K.lookup f_rig = some ⟨oc_rig, od_rig, .func (PySem.W.fnOf "_law_right" "_law_right" (defArgs sRt) (defBody sRt) (defScope sRt) .none kV_rig dc_rig pm_rig an_rig cd_rig ct_rig), sl_rig⟩)
    (d_rig : PySem.W.codeIn K cd_rig "_law_right" = true)
    (k_rig : PySem.W.keepIn K (.ref f_rig) = true)
    {f_law : Addr} {oc_law kV_law dc_law pm_law cd_law ct_law : Value} {od_law an_law : Option Addr} {sl_law : Array (Option Value)}
    (n_law : PySem.W.nsIn K mainGlobals "law" = some (some (.ref f_law)))
    (l_law : K.lookup f_law = some ⟨oc_law, od_law, .func (PySem.W.fnOf "law" "law" (defArgs sLaw) (defBody sLaw) (defScope sLaw) .none kV_law dc_law pm_law an_law cd_law ct_law), sl_law⟩)
    (d_law : PySem.W.codeIn K cd_law "law" = true)
    (k_law : PySem.W.keepIn K (.ref f_law) = true)
    {f_eq : Addr} {oc_eq kV_eq dc_eq pm_eq cd_eq ct_eq : Value} {od_eq an_eq : Option Addr} {sl_eq : Array (Option Value)}
    (n_eq : PySem.W.findIn K (.ref C) "__eq__" = some (some (.ref f_eq)))
    (l_eq : K.lookup f_eq = some ⟨oc_eq, od_eq, .func (PySem.W.fnOf "__eq__" "Fraction.__eq__" (defArgs sEq) (defBody sEq) (defScope sEq) .none kV_eq dc_eq pm_eq an_eq cd_eq ct_eq), sl_eq⟩)
    (d_eq : PySem.W.codeIn K cd_eq "Fraction.__eq__" = true)
    (k_eq : PySem.W.keepIn K (.ref f_eq) = true)
    (i_eq : PySem.W.isFn K (.ref f_eq) = true)
    {f_add : Addr} {oc_add kV_add dc_add pm_add cd_add ct_add : Value} {od_add an_add : Option Addr} {sl_add : Array (Option Value)}
    (n_add : PySem.W.findIn K (.ref C) "__add__" = some (some (.ref f_add)))
    (l_add : K.lookup f_add = some ⟨oc_add, od_add, .func (PySem.W.fnOf "__add__" "Fraction.__add__" (defArgs sAdd) (defBody sAdd) (defScope sAdd) .none kV_add dc_add pm_add an_add cd_add ct_add), sl_add⟩)
    (d_add : PySem.W.codeIn K cd_add "Fraction.__add__" = true)
    (k_add : PySem.W.keepIn K (.ref f_add) = true)
    (i_add : PySem.W.isFn K (.ref f_add) = true)
    {f_mul : Addr} {oc_mul kV_mul dc_mul pm_mul cd_mul ct_mul : Value} {od_mul an_mul : Option Addr} {sl_mul : Array (Option Value)}
    (n_mul : PySem.W.findIn K (.ref C) "__mul__" = some (some (.ref f_mul)))
    (l_mul : K.lookup f_mul = some ⟨oc_mul, od_mul, .func (PySem.W.fnOf "__mul__" "Fraction.__mul__" (defArgs sMul) (defBody sMul) (defScope sMul) .none kV_mul dc_mul pm_mul an_mul cd_mul ct_mul), sl_mul⟩)
    (d_mul : PySem.W.codeIn K cd_mul "Fraction.__mul__" = true)
    (k_mul : PySem.W.keepIn K (.ref f_mul) = true)
    (i_mul : PySem.W.isFn K (.ref f_mul) = true)
    {f_ei : Addr} {oc_ei kV_ei dc_ei pm_ei cd_ei ct_ei : Value} {od_ei an_ei : Option Addr} {sl_ei : Array (Option Value)}
    (n_ei : PySem.W.findIn K (.ref D) "__init__" = some (some (.ref f_ei)))
    (l_ei : K.lookup f_ei = some ⟨oc_ei, od_ei, .func (PySem.W.fnOf "__init__" "Echelon.__init__" (defArgs sEi) (defBody sEi) (defScope sEi) .none kV_ei dc_ei pm_ei an_ei cd_ei ct_ei), sl_ei⟩)
    (d_ei : PySem.W.codeIn K cd_ei "Echelon.__init__" = true)
    (k_ei : PySem.W.keepIn K (.ref f_ei) = true)
    (i_ei : PySem.W.isFn K (.ref f_ei) = true)
    {f_er : Addr} {oc_er kV_er dc_er pm_er cd_er ct_er : Value} {od_er an_er : Option Addr} {sl_er : Array (Option Value)}
    (n_er : PySem.W.findIn K (.ref D) "rest_of" = some (some (.ref f_er)))
    (l_er : K.lookup f_er = some ⟨oc_er, od_er, .func (PySem.W.fnOf "rest_of" "Echelon.rest_of" (defArgs sEr) (defBody sEr) (defScope sEr) .none kV_er dc_er pm_er an_er cd_er ct_er), sl_er⟩)
    (d_er : PySem.W.codeIn K cd_er "Echelon.rest_of" = true)
    (k_er : PySem.W.keepIn K (.ref f_er) = true)
    (i_er : PySem.W.isFn K (.ref f_er) = true)
    {f_ep : Addr} {oc_ep kV_ep dc_ep pm_ep cd_ep ct_ep : Value} {od_ep an_ep : Option Addr} {sl_ep : Array (Option Value)}
    (n_ep : PySem.W.findIn K (.ref D) "place_in" = some (some (.ref f_ep)))
    (l_ep : K.lookup f_ep = some ⟨oc_ep, od_ep, .func (PySem.W.fnOf "place_in" "Echelon.place_in" (defArgs sEp) (defBody sEp) (defScope sEp) .none kV_ep dc_ep pm_ep an_ep cd_ep ct_ep), sl_ep⟩)
    (d_ep : PySem.W.codeIn K cd_ep "Echelon.place_in" = true)
    (k_ep : PySem.W.keepIn K (.ref f_ep) = true)
    (i_ep : PySem.W.isFn K (.ref f_ep) = true)
    {f_et : Addr} {oc_et kV_et dc_et pm_et cd_et ct_et : Value} {od_et an_et : Option Addr} {sl_et : Array (Option Value)}
    (n_et : PySem.W.findIn K (.ref D) "take" = some (some (.ref f_et)))
    (l_et : K.lookup f_et = some ⟨oc_et, od_et, .func (PySem.W.fnOf "take" "Echelon.take" (defArgs sEt) (defBody sEt) (defScope sEt) .none kV_et dc_et pm_et an_et cd_et ct_et), sl_et⟩)
    (d_et : PySem.W.codeIn K cd_et "Echelon.take" = true)
    (k_et : PySem.W.keepIn K (.ref f_et) = true)
    (i_et : PySem.W.isFn K (.ref f_et) = true)
    {f_top : Addr} {oc_top kV_top dc_top pm_top cd_top ct_top : Value} {od_top an_top : Option Addr} {sl_top : Array (Option Value)}
    {p_top : Addr} {r_top : List Value}
    (n_top : PySem.W.findIn K (.ref C) "top" = some (some (.ref p_top)))
    (g_top : PySem.W.specialIn K (.ref p_top) "__get__" = some (some (.builtin "property.__get__")))
    (t_top : PySem.W.takesIn K (.ref p_top) = some true)
    (r_topx : PySem.W.recIn K p_top "property" = some (.ref f_top :: r_top))
    (l_top : K.lookup f_top = some ⟨oc_top, od_top, .func (PySem.W.fnOf "top" "Fraction.top" (defArgs sTop) (defBody sTop) (defScope sTop) .none kV_top dc_top pm_top an_top cd_top ct_top), sl_top⟩)
    (d_top : PySem.W.codeIn K cd_top "Fraction.top" = true)
    (k_top : PySem.W.keepIn K (.ref f_top) = true)
    {f_bot : Addr} {oc_bot kV_bot dc_bot pm_bot cd_bot ct_bot : Value} {od_bot an_bot : Option Addr} {sl_bot : Array (Option Value)}
    {p_bot : Addr} {r_bot : List Value}
    (n_bot : PySem.W.findIn K (.ref C) "bottom" = some (some (.ref p_bot)))
    (g_bot : PySem.W.specialIn K (.ref p_bot) "__get__" = some (some (.builtin "property.__get__")))
    (t_bot : PySem.W.takesIn K (.ref p_bot) = some true)
    (r_botx : PySem.W.recIn K p_bot "property" = some (.ref f_bot :: r_bot))
    (l_bot : K.lookup f_bot = some ⟨oc_bot, od_bot, .func (PySem.W.fnOf "bottom" "Fraction.bottom" (defArgs sBot) (defBody sBot) (defScope sBot) .none kV_bot dc_bot pm_bot an_bot cd_bot ct_bot), sl_bot⟩)
    (d_bot : PySem.W.codeIn K cd_bot "Fraction.bottom" = true)
    (k_bot : PySem.W.keepIn K (.ref f_bot) = true)
    {f_ini : Addr} {oc_ini kV_ini dc_ini pm_ini cd_ini ct_ini : Value} {od_ini an_ini : Option Addr} {sl_ini : Array (Option Value)}
    {T_ini : Addr} {tc_ini : Value} {td_ini : Option Addr} {ti_ini : Array Value} {tn_ini : Nat} {ts_ini : Array (Option Value)} {tk_ini : Tok}
    (n_ini : PySem.W.findIn K (.ref C) "__init__" = some (some (.ref f_ini)))
    (l_ini : K.lookup f_ini = some ⟨oc_ini, od_ini, .func (PySem.W.fnOf "__init__" "Fraction.__init__" (defArgs sInit) (defBody sInit) (defScope sInit) (.ref T_ini) kV_ini dc_ini pm_ini an_ini cd_ini ct_ini), sl_ini⟩)
    (d_ini : PySem.W.codeIn K cd_ini "Fraction.__init__" = true)
    (k_ini : PySem.W.keepIn K (.ref f_ini) = true)
    (i_ini : PySem.W.isFn K (.ref f_ini) = true)
    (T_inix : K.lookup T_ini = some ⟨tc_ini, td_ini, .seq ti_ini tn_ini, ts_ini⟩)
    (v_ini : ti_ini = [Value.int 1 tk_ini].toArray)
    (z_int : PySem.W.nsIn K mainGlobals "int" = some none)
    (z_len : PySem.W.nsIn K mainGlobals "len" = some none)
    (z_abs : PySem.W.nsIn K mainGlobals "abs" = some none)
    (z_max : PySem.W.nsIn K mainGlobals "max" = some none)
    (z_min : PySem.W.nsIn K mainGlobals "min" = some none)
    (z_isinstance : PySem.W.nsIn K mainGlobals "isinstance" = some none)
    (z_range : PySem.W.nsIn K mainGlobals "range" = some none)
    (z_bool : PySem.W.nsIn K mainGlobals "bool" = some none)
    (z_tuple : PySem.W.nsIn K mainGlobals "tuple" = some none)
    (z_all : PySem.W.nsIn K mainGlobals "all" = some none)
    (z_sum : PySem.W.nsIn K mainGlobals "sum" = some none)
    (z_zip : PySem.W.nsIn K mainGlobals "zip" = some none)
    (z_enumerate : PySem.W.nsIn K mainGlobals "enumerate" = some none)
    (z_list : PySem.W.nsIn K mainGlobals "list" = some none)
    (z_str : PySem.W.nsIn K mainGlobals "str" = some none)
    (z_repr : PySem.W.nsIn K mainGlobals "repr" = some none)
    (rcls : clsB K C = true)
    (rrow : rowB K C = true)
    (rop_add : opB K C "add" = true)
    (rop_mul : opB K C "mul" = true)
    (ecls : clsB K D = true)
    (erow : echB K D = true)
    (o_NoneType : oddB K C "NoneType" = true)
    (o_bool : oddB K C "bool" = true)
    (o_int : oddB K C "int" = true)
    (o_str : oddB K C "str" = true)
    (o_list : oddB K C "list" = true)
    (o_tuple : oddB K C "tuple" = true)
    (o_dict : oddB K C "dict" = true) :
    ∃ fd : FuncData, (∀ (s : Shared) (v : Value), BindsTo s fd ⟨[v], []⟩ [("_law_script", v)]) ∧ ∀ base : Heap, K.In base → base.Ns mainGlobals mg → FnG l.prog w K mg base CX0 10 fa fd ["_law_script"] (spLaw K) := by
  have e := hfa.symm.trans (PySem.W.mg_of X G n_law)
  cases e
  have no : ∀ {x : Str}, PySem.W.nsIn K mainGlobals x = some none → mg x = none := fun z => PySem.W.mg_none_of X G z
  have at_ : ∀ {x : Str} {v : Value}, PySem.W.nsIn K mainGlobals x = some (some v) → mg x = some v := fun z => PySem.W.mg_of X G z
  have F_clr := fun_mk (st := sClr) l_clr d_clr k_clr
  have b_clr := F_clr.binds (ps := ["rows", "line", "at", "divisor"]) fun _ _ _ _ _ _ us hl => match us, hl with | [_, _, _, _], _ => rfl
  have F_plain := fun_mk (st := sPlain) l_plain d_plain k_plain
  have b_plain := F_plain.binds (ps := ["value"]) fun _ _ _ _ _ _ us hl => match us, hl with | [_], _ => rfl
  have F_bet := fun_mk (st := sBet) l_bet d_bet k_bet
  have b_bet := F_bet.binds (ps := ["value", "least", "greatest"]) fun _ _ _ _ _ _ us hl => match us, hl with | [_, _, _], _ => rfl
  have F_isf := fun_mk (st := sIsF) l_isf d_isf k_isf
  have b_isf := F_isf.binds (ps := ["value"]) fun _ _ _ _ _ _ us hl => match us, hl with | [_], _ => rfl
  have F_asf := fun_mk (st := sAs) l_asf d_asf k_asf
  have b_asf := F_asf.binds (ps := ["value"]) fun _ _ _ _ _ _ us hl => match us, hl with | [_], _ => rfl
  have F_fs := fun_mk (st := sFs) l_fs d_fs k_fs
  have b_fs := F_fs.binds (ps := ["value"]) fun _ _ _ _ _ _ us hl => match us, hl with | [_], _ => rfl
  have F_over := fun_mk (st := sOver) l_over d_over k_over
  have b_over := F_over.binds (ps := ["fractions"]) fun _ _ _ _ _ _ us hl => match us, hl with | [_], _ => rfl
  have F_irs := fun_mk (st := sIrs) l_irs d_irs k_irs
  have b_irs := F_irs.binds (ps := ["value"]) fun _ _ _ _ _ _ us hl => match us, hl with | [_], _ => rfl
  have F_so := fun_mk (st := sSo) l_so d_so k_so
  have b_so := F_so.binds (ps := ["rows", "totals"]) fun _ _ _ _ _ _ us hl => match us, hl with | [_, _], _ => rfl
  have F_mk := fun_mk (st := sMk) l_mk d_mk k_mk
  have b_mk := F_mk.binds (ps := ["at", "many"]) fun _ _ _ _ _ _ us hl => match us, hl with | [_, _], _ => rfl
  have F_fa := fun_mk (st := sFa) l_fa d_fa k_fa
  have b_fa := F_fa.binds (ps := ["taken", "rest", "many"]) fun _ _ _ _ _ _ us hl => match us, hl with | [_, _, _], _ => rfl
  have F_is := fun_mk (st := sIs) l_is d_is k_is
  have b_is := F_is.binds (ps := ["rows", "totals", "value"]) fun _ _ _ _ _ _ us hl => match us, hl with | [_, _, _], _ => rfl
  have F_crs := fun_mk (st := sCrs) l_crs d_crs k_crs
  have b_crs := F_crs.binds (ps := ["rows"]) fun _ _ _ _ _ _ us hl => match us, hl with | [_], _ => rfl
  have F_cfs := fun_mk (st := sCfs) l_cfs d_cfs k_cfs
  have b_cfs := F_cfs.binds (ps := ["value", "many"]) fun _ _ _ _ _ _ us hl => match us, hl with | [_, _], _ => rfl
  have F_ct := fun_mk (st := sCt) l_ct d_ct k_ct
  have b_ct := F_ct.binds (ps := ["rows", "totals"]) fun _ _ _ _ _ _ us hl => match us, hl with | [_, _], _ => rfl
  have F_td := fun_mk (st := sTd) l_td d_td k_td
  have b_td := F_td.binds (ps := ["value", "word", "many"]) fun _ _ _ _ _ _ us hl => match us, hl with | [_, _, _], _ => rfl
  have F_trn := fun_mk (st := sTrn) l_trn d_trn k_trn
  have b_trn := F_trn.binds (ps := ["rows"]) fun _ _ _ _ _ _ us hl => match us, hl with | [_], _ => rfl
  have F_rx := fun_mk (st := sRx) l_rx d_rx k_rx
  have b_rx := F_rx.binds (ps := ["row", "column"]) fun _ _ _ _ _ _ us hl => match us, hl with | [_, _], _ => rfl
  have F_tms := fun_mk (st := sTms) l_tms d_tms k_tms
  have b_tms := F_tms.binds (ps := ["rows", "column"]) fun _ _ _ _ _ _ us hl => match us, hl with | [_, _], _ => rfl
  have F_dice := fun_mk (st := LD.sDice) l_dice d_dice k_dice
  have b_dice := F_dice.binds (ps := ["_law_script", "_law_at"]) fun _ _ _ _ _ _ us hl => match us, hl with | [_, _], _ => rfl
  have F_roll := fun_mk (st := LD.sRoll) l_roll d_roll k_roll
  have b_roll := F_roll.binds (ps := ["_law_dice_here", "_law_total"]) fun _ _ _ _ _ _ us hl => match us, hl with | [_, _], _ => rfl
  have F_one := fun_mk (st := LD.sOneOf) l_one d_one k_one
  have b_one := F_one.binds (ps := ["_law_dice_here", "_law_items"]) fun _ _ _ _ _ _ us hl => match us, hl with | [_, _], _ => rfl
  have F_gcd := fun_mk (st := sGcd) l_gcd d_gcd k_gcd
  have b_gcd := F_gcd.binds (ps := ["_law_one", "_law_two"]) fun _ _ _ _ _ _ us hl => match us, hl with | [_, _], _ => rfl
  have F_rat := fun_mk (st := sRat) l_rat d_rat k_rat
  have b_rat := F_rat.binds (ps := ["_law_top", "_law_bottom"]) fun _ _ _ _ _ _ us hl => match us, hl with | [_, _], _ => rfl
  have F_plus := fun_mk (st := sPlus) l_plus d_plus k_plus
  have b_plus := F_plus.binds (ps := ["_law_one", "_law_two"]) fun _ _ _ _ _ _ us hl => match us, hl with | [_, _], _ => rfl
  have F_lby := fun_mk (st := sLby) l_lby d_lby k_lby
  have b_lby := F_lby.binds (ps := ["_law_one", "_law_two"]) fun _ _ _ _ _ _ us hl => match us, hl with | [_, _], _ => rfl
  have F_pair := fun_mk (st := sPr) l_pair d_pair k_pair
  have b_pair := F_pair.binds (ps := ["_law_number_here"]) fun _ _ _ _ _ _ us hl => match us, hl with | [_], _ => rfl
  have F_pairs := fun_mk (st := sPs) l_pairs d_pairs k_pairs
  have b_pairs := F_pairs.binds (ps := ["_law_row"]) fun _ _ _ _ _ _ us hl => match us, hl with | [_], _ => rfl
  have F_shw := fun_mk (st := sSh) l_shw d_shw k_shw
  have b_shw := F_shw.binds (ps := ["_law_dice_here", "_law_pair_here"]) fun _ _ _ _ _ _ us hl => match us, hl with | [_, _], _ => rfl
  have F_shr := fun_mk (st := sSr) l_shr d_shr k_shr
  have b_shr := F_shr.binds (ps := ["_law_dice_here", "_law_pairs_here"]) fun _ _ _ _ _ _ us hl => match us, hl with | [_, _], _ => rfl
  have F_num := fun_mk (st := sNu) l_num d_num k_num
  have b_num := F_num.binds (ps := ["_law_dice_here"]) fun _ _ _ _ _ _ us hl => match us, hl with | [_], _ => rfl
  have F_prd := fun_mk (st := sPd) l_prd d_prd k_prd
  have b_prd := F_prd.binds (ps := ["_law_row", "_law_column"]) fun _ _ _ _ _ _ us hl => match us, hl with | [_, _], _ => rfl
  have F_mixl := fun_mk (st := sMx) l_mixl d_mixl k_mixl
  have b_mixl := F_mixl.binds (ps := ["_law_lines_here", "_law_factors"]) fun _ _ _ _ _ _ us hl => match us, hl with | [_, _], _ => rfl
  have F_lns := fun_mk (st := sLn) l_lns d_lns k_lns
  have b_lns := F_lns.binds (ps := ["_law_dice_here", "_law_most", "_law_wide"]) fun _ _ _ _ _ _ us hl => match us, hl with | [_, _, _], _ => rfl
  have F_shl := fun_mk (st := sSl) l_shl d_shl k_shl
  have b_shl := F_shl.binds (ps := ["_law_dice_here", "_law_lines_here"]) fun _ _ _ _ _ _ us hl => match us, hl with | [_, _], _ => rfl
  have F_inv := fun_mk (st := sInv) l_inv d_inv k_inv
  have b_inv := F_inv.binds (ps := ["_law_pair_here"]) fun _ _ _ _ _ _ us hl => match us, hl with | [_], _ => rfl
  have F_wo := fun_mk (st := sWo) l_wo d_wo k_wo
  have b_wo := F_wo.binds (ps := ["_law_row", "_law_line", "_law_place"]) fun _ _ _ _ _ _ us hl => match us, hl with | [_, _, _], _ => rfl
  have F_lcl := fun_mk (st := sLc) l_lcl d_lcl k_lcl
  have b_lcl := F_lcl.binds (ps := ["_law_lines_here"]) fun _ _ _ _ _ _ us hl => match us, hl with | [_], _ => rfl
  have F_an := fun_mk (st := sAn) l_an d_an k_an
  have b_an := F_an.binds (ps := ["_law_value", "_law_size"]) fun _ _ _ _ _ _ us hl => match us, hl with | [_, _], _ => rfl
  have F_ln1 := fun_mk (st := sLn1) l_ln1 d_ln1 k_ln1
  have b_ln1 := F_ln1.binds (ps := ["_law_value"]) fun _ _ _ _ _ _ us hl => match us, hl with | [_], _ => rfl
  have F_told := fun_mk (st := sAt) l_told d_told k_told
  have b_told := F_told.binds (ps := ["_law_numbers"]) fun _ _ _ _ _ _ us hl => match us, hl with | [_], _ => rfl
  have F_li := fun_mk (st := sLi) l_li d_li k_li
  have b_li := F_li.binds (ps := ["_law_lines_here", "_law_totals", "_law_value"]) fun _ _ _ _ _ _ us hl => match us, hl with | [_, _, _], _ => rfl
  have F_ne := fun_mk (st := sNe) l_ne d_ne k_ne
  have b_ne := F_ne.binds (ps := ["_law_dice_here", "_law_value"]) fun _ _ _ _ _ _ us hl => match us, hl with | [_, _], _ => rfl
  have F_mo := fun_mk (st := sMo) l_mo d_mo k_mo
  have b_mo := F_mo.binds (ps := ["_law_dice_here", "_law_lines_here", "_law_totals", "_law_value"]) fun _ _ _ _ _ _ us hl => match us, hl with | [_, _, _, _], _ => rfl
  have F_rig := fun_mk (st := sRt) l_rig d_rig k_rig
  have b_rig := F_rig.binds (ps := ["_law_dice_here"]) fun _ _ _ _ _ _ us hl => match us, hl with | [_], _ => rfl
  have F_law := fun_mk (st := sLaw) l_law d_law k_law
  have b_law := F_law.binds (ps := ["_law_script"]) fun _ _ _ _ _ _ us hl => match us, hl with | [_], _ => rfl
  have F_eq := fun_mk (st := sEq) l_eq d_eq k_eq
  have b_eq := F_eq.binds (ps := ["self", "other"]) fun _ _ _ _ _ _ us hl => match us, hl with | [_, _], _ => rfl
  have F_add := fun_mk (st := sAdd) l_add d_add k_add
  have b_add := F_add.binds (ps := ["self", "other"]) fun _ _ _ _ _ _ us hl => match us, hl with | [_, _], _ => rfl
  have F_mul := fun_mk (st := sMul) l_mul d_mul k_mul
  have b_mul := F_mul.binds (ps := ["self", "other"]) fun _ _ _ _ _ _ us hl => match us, hl with | [_, _], _ => rfl
  have F_ei := fun_mk (st := sEi) l_ei d_ei k_ei
  have b_ei := F_ei.binds (ps := ["self", "width"]) fun _ _ _ _ _ _ us hl => match us, hl with | [_, _], _ => rfl
  have F_er := fun_mk (st := sEr) l_er d_er k_er
  have b_er := F_er.binds (ps := ["self", "line"]) fun _ _ _ _ _ _ us hl => match us, hl with | [_, _], _ => rfl
  have F_ep := fun_mk (st := sEp) l_ep d_ep k_ep
  have b_ep := F_ep.binds (ps := ["self", "rest"]) fun _ _ _ _ _ _ us hl => match us, hl with | [_, _], _ => rfl
  have F_et := fun_mk (st := sEt) l_et d_et k_et
  have b_et := F_et.binds (ps := ["self", "rest", "place"]) fun _ _ _ _ _ _ us hl => match us, hl with | [_, _, _], _ => rfl
  have F_top := fun_mk (st := sTop) l_top d_top k_top
  have b_top := F_top.binds (ps := ["self"]) fun _ _ _ _ _ _ us hl => match us, hl with | [_], _ => rfl
  have F_bot := fun_mk (st := sBot) l_bot d_bot k_bot
  have b_bot := F_bot.binds (ps := ["self"]) fun _ _ _ _ _ _ us hl => match us, hl with | [_], _ => rfl
  have cC := cls_of rcls
  have cD := cls_of ecls
  simp only [rowB, Bool.and_eq_true, beq_iff_eq] at rrow
  obtain ⟨w1, w2, w3, w4, w5, w6, w7, w8, w9, w10⟩ := rrow
  simp only [echB, Bool.and_eq_true, beq_iff_eq] at erow
  obtain ⟨e1, e2, e3, e4, e5, e6⟩ := erow
  have OD : OddsC K C := ⟨odd_of o_NoneType, odd_of o_bool, odd_of o_int, odd_of o_str, odd_of o_list, odd_of o_tuple, odd_of o_dict⟩
  have TF : TxtF K mg C := ⟨cC, w1, w2, at_ aC, at_ agcd⟩
  have TE : TxtE K mg D := ⟨cD, e1, e2, e3, e4, no z_zip, no z_range⟩
  have TD : TxtD mg := ⟨no z_int, no z_len, no z_abs, no z_max⟩
  have TL : TxtL mg := ⟨no z_range, no z_max, no z_min, no z_len, no z_tuple, no z_sum, no z_enumerate⟩
  have TR : TxtR mg := ⟨no z_isinstance, no z_tuple, no z_len, no z_all, ⟨_, at_ aMR⟩, ⟨_, at_ aMW⟩⟩
  have TC : TxtC mg := ⟨no z_range, no z_len, no z_enumerate, no z_list⟩
  subst v_ini
  have FI : FunD K "__init__" "Fraction.__init__" (defArgs sInit) (defBody sInit) (defScope sInit) [V.int 1] [] f_ini _ := ⟨⟨oc_ini, od_ini, .ref T_ini, kV_ini, dc_ini, pm_ini, an_ini, cd_ini, ct_ini, sl_ini, rfl, l_ini, d_ini, .inr ⟨by decide, T_ini, _, [.int 1 tk_ini], tn_ini, rfl, T_inix, rfl, .cons ⟨tk_ini, rfl⟩ .nil⟩, .inl rfl⟩, k_ini⟩
  obtain ⟨bI1, bI2⟩ := init_binds FI
  refine ⟨PySem.W.fnOf "law" "law" (defArgs sLaw) (defBody sLaw) (defScope sLaw) .none kV_law dc_law pm_law an_law cd_law ct_law, fun s v => .of_eq rfl, fun base _ _ => ?_⟩
  have GP : FnOk l.prog w K mg base CX0 1 f_plain _ ["value"] (spPlain K) := ok_plain F_plain (no z_isinstance) (no z_int) (no z_bool)
  have GI := ok_init (P := l.prog) (w := w) (base := base) FI TF GP (at_ n_plain) k_plain b_plain
  have GTo : FnOk l.prog w K mg base CX0 1 f_top _ ["self"] (getSp C "_top") := fn_getter (N := ["self"]) l_top d_top ⟨rfl, rfl, rfl, by decide +kernel, rfl, by decide +kernel, by decide +kernel⟩ rfl rfl cC w1
  have GBo : FnOk l.prog w K mg base CX0 1 f_bot _ ["self"] (getSp C "_bottom") := fn_getter (N := ["self"]) l_bot d_bot ⟨rfl, rfl, rfl, by decide +kernel, rfl, by decide +kernel, by decide +kernel⟩ rfl rfl cC w2
  have k : FrK l.prog w K mg base C f_ini p_top f_top p_bot f_bot _ _ _ := ⟨TF, ⟨w7, n_ini, i_ini, w8⟩, GI, bI1, bI2, ⟨n_top, g_top, t_top, _, r_topx⟩, GTo, b_top, ⟨n_bot, g_bot, t_bot, _, r_botx⟩, GBo, b_bot, no z_isinstance, w3, w4, w5, w6, OD.int.k⟩
  have GA := ok_as F_asf k
  have GIsF := ok_isF F_isf k OD GP (at_ n_plain) k_plain b_plain
  have mE : Met l.prog w K mg base C "__eq__" 3 ["self", "other"] (FR.spEq K C) := ⟨_, _, ⟨n_eq, i_eq⟩, k_eq, ok_eq F_eq k OD GP (at_ n_plain) k_plain b_plain, b_eq⟩
  have gBet : Glo l.prog w K mg base "is_between" 2 ["value", "least", "greatest"] spBet := ⟨_, _, ok_bet F_bet GP (at_ n_plain) k_plain b_plain, at_ n_bet, k_bet, b_bet⟩
  have gFs : Glo l.prog w K mg base "is_fractions" 3 ["value"] (spFs C) := ⟨_, _, ok_fs F_fs GIsF (at_ n_isf) k_isf b_isf (no z_isinstance) (no z_tuple) (no z_all), at_ n_fs, k_fs, b_fs⟩
  have gOv : Glo l.prog w K mg base "over_one_bottom" 5 ["fractions"] (spOver C) := ⟨_, _, ok_over F_over k GA (at_ n_asf) k_asf b_asf (at_ alcm), at_ n_over, k_over, b_over⟩
  have gClr : Glo l.prog w K mg base "cleared_by" 1 ["rows", "line", "at", "divisor"] spClr := ⟨_, _, ok_clr F_clr (no z_zip), at_ n_clr, k_clr, b_clr⟩
  have GEi : FnOk l.prog w K mg base CX0 1 f_ei _ ["self", "width"] (spEi D) := ok_ei F_ei TE
  have ek : EcK l.prog w K mg base D f_ei _ := ⟨TE, ⟨e5, n_ei, i_ei, e6⟩, GEi, b_ei, at_ aD⟩
  have mR : Met l.prog w K mg base D "rest_of" 1 ["self", "line"] (spEr D) := ⟨_, _, ⟨n_er, i_er⟩, k_er, ok_er F_er TE, b_er⟩
  have mP : Met l.prog w K mg base D "place_in" 1 ["self", "rest"] (spEp D) := ⟨_, _, ⟨n_ep, i_ep⟩, k_ep, ok_ep F_ep TE, b_ep⟩
  have mT : Met l.prog w K mg base D "take" 2 ["self", "rest", "place"] (spEt D) := ⟨_, _, ⟨n_et, i_et⟩, k_et, ok_et F_et TE gClr, b_et⟩
  have mA : Met l.prog w K mg base C "__add__" 5 ["self", "other"] (spOp C fAdd) := ⟨_, _, ⟨n_add, i_add⟩, k_add, ok_add F_add k GA (at_ n_asf) k_asf b_asf, b_add⟩
  have mM : Met l.prog w K mg base C "__mul__" 5 ["self", "other"] (spOp C fMul) := ⟨_, _, ⟨n_mul, i_mul⟩, k_mul, ok_mul F_mul k GA (at_ n_asf) k_asf b_asf, b_mul⟩
  have gIsF : Glo l.prog w K mg base "is_fraction" 2 ["value"] (spIsF K C) := ⟨_, _, GIsF, at_ n_isf, k_isf, b_isf⟩
  have gFsB : Glo l.prog w K mg base "is_fractions" 3 ["value"] (spFsB K C) := ⟨_, _, ok_fsB F_fs gIsF (no z_isinstance) (no z_tuple) (no z_all), at_ n_fs, k_fs, b_fs⟩
  have gTd : Glo l.prog w K mg base "_is_told" 4 ["value", "word", "many"] (spTd K C) := ⟨_, _, ok_td F_td gFsB (no z_isinstance) (no z_tuple) (no z_str) (no z_len), at_ n_td, k_td, b_td⟩
  have gTrn : Glo l.prog w K mg base "_turned" 1 ["rows"] (spTrn C) := ⟨_, _, ok_trn F_trn (no z_tuple) (no z_range) (no z_len), at_ n_trn, k_trn, b_trn⟩
  have gTms : Glo l.prog w K mg base "_times" 6 ["rows", "column"] (spTms C) := ⟨_, _, ok_tms F_tms k gOv (no z_sum) (no z_tuple) (no z_zip), at_ n_tms, k_tms, b_tms⟩
  have gRx : Glo l.prog w K mg base "_row_times" 7 ["row", "column"] (spRx C) := ⟨_, _, ok_rx F_rx gTms, at_ n_rx, k_rx, b_rx⟩
  have gIrs : Glo l.prog w K mg base "is_rows" 4 ["value"] (spIrs C) := ⟨_, _, ok_irs F_irs TR gBet gFs, at_ n_irs, k_irs, b_irs⟩
  have gCrs : Glo l.prog w K mg base "_check_rows" 5 ["rows"] (spCrs C) := ⟨_, _, ok_crs F_crs gIrs, at_ n_crs, k_crs, b_crs⟩
  have gCfs : Glo l.prog w K mg base "_check_fractions" 4 ["value", "many"] (spCfs C) := ⟨_, _, ok_cfs F_cfs gFs (no z_len), at_ n_cfs, k_cfs, b_cfs⟩
  have gCt : Glo l.prog w K mg base "_check_rows_and_totals" 6 ["rows", "totals"] (spCt C) := ⟨_, _, ok_ct F_ct gCrs gCfs (no z_len), at_ n_ct, k_ct, b_ct⟩
  have gMk : Glo l.prog w K mg base "_mark" 1 ["at", "many"] spMk := ⟨_, _, ok_mk F_mk (no z_range), at_ n_mk, k_mk, b_mk⟩
  have gFa : Glo l.prog w K mg base "_factors_of" 4 ["taken", "rest", "many"] (spFa C) := ⟨_, _, ok_fa F_fa k (no z_zip) (no z_tuple), at_ n_fa, k_fa, b_fa⟩
  have gSo : Glo l.prog w K mg base "solution" 7 ["rows", "totals"] (spSo C) := ⟨_, _, ok_so F_so k ek mR mP mT gCt gOv gMk gFa (no z_len) (no z_zip) (no z_enumerate) (no z_tuple), at_ n_so, k_so, b_so⟩
  have gIs : Glo l.prog w K mg base "is_solution" 8 ["rows", "totals", "value"] (spIs K C) := ⟨_, _, ok_is F_is gCt gTd gTms gTrn gRx mE OD (no z_len) (no z_all), at_ n_is, k_is, b_is⟩
  have gR : Glo l.prog w K mg base "_law_roll" 1 ["_law_dice_here", "_law_total"] spRoll := ⟨_, _, ok_roll F_roll TD.mI, at_ n_roll, k_roll, b_roll⟩
  have gO : Glo l.prog w K mg base "_law_one_of" 2 ["_law_dice_here", "_law_items"] spOneOf := ⟨_, _, ok_oneOf F_one TD F_roll (at_ n_roll) k_roll b_roll, at_ n_one, k_one, b_one⟩
  have GG : FnOk l.prog w K mg base CX0 1 f_gcd _ ["_law_one", "_law_two"] spGcd := ok_gcd F_gcd (no z_int)
  have gRa : Glo l.prog w K mg base "_law_ratio" 2 ["_law_top", "_law_bottom"] spRat := ⟨_, _, ok_rat F_rat GG (at_ n_gcd) k_gcd b_gcd (no z_abs), at_ n_rat, k_rat, b_rat⟩
  have gD : Glo l.prog w K mg base "_law_dice" 1 ["_law_script", "_law_at"] (spDice K) := ⟨_, _, ok_dice F_dice TD, at_ n_dice, k_dice, b_dice⟩
  have gP : Glo l.prog w K mg base "_law_plus" 3 ["_law_one", "_law_two"] (spLP plusP) := ⟨_, _, ok_plus F_plus gRa, at_ n_plus, k_plus, b_plus⟩
  have gB' : Glo l.prog w K mg base "_law_by" 3 ["_law_one", "_law_two"] (spLP byP) := ⟨_, _, ok_lby F_lby gRa, at_ n_lby, k_lby, b_lby⟩
  have gPr : Glo l.prog w K mg base "_law_pair" 3 ["_law_number_here"] (spPr C) := ⟨_, _, ok_pr F_pair k w9 (no z_isinstance) (no z_int), at_ n_pair, k_pair, b_pair⟩
  have gPs : Glo l.prog w K mg base "_law_pairs" 4 ["_law_row"] (spPs C) := ⟨_, _, ok_ps F_pairs gPr, at_ n_pairs, k_pairs, b_pairs⟩
  have gSh : Glo l.prog w K mg base "_law_shown" 4 ["_law_dice_here", "_law_pair_here"] (spSh C) := ⟨_, _, ok_sh F_shw k gR, at_ n_shw, k_shw, b_shw⟩
  have gSr : Glo l.prog w K mg base "_law_shown_row" 5 ["_law_dice_here", "_law_pairs_here"] (spSr C) := ⟨_, _, ok_sr F_shr gSh (no z_tuple), at_ n_shr, k_shr, b_shr⟩
  have gNu : Glo l.prog w K mg base "_law_number" 3 ["_law_dice_here"] spNu := ⟨_, _, ok_nu F_num gO gRa, at_ n_num, k_num, b_num⟩
  have gPd : Glo l.prog w K mg base "_law_product" 4 ["_law_row", "_law_column"] spPd := ⟨_, _, ok_pd F_prd gP gB' (no z_zip), at_ n_prd, k_prd, b_prd⟩
  have gWo : Glo l.prog w K mg base "_law_without" 4 ["_law_row", "_law_line", "_law_place"] spWo := ⟨_, _, ok_wo F_wo gP gB' (no z_zip), at_ n_wo, k_wo, b_wo⟩
  have gMx : Glo l.prog w K mg base "_law_mix" 5 ["_law_lines_here", "_law_factors"] spMx := ⟨_, _, ok_mx F_mixl gPd (no z_range) (no z_len), at_ n_mixl, k_mixl, b_mixl⟩
  have gSl : Glo l.prog w K mg base "_law_shown_lines" 6 ["_law_dice_here", "_law_lines_here"] (spSl C) := ⟨_, _, ok_sl F_shl gSr (no z_tuple), at_ n_shl, k_shl, b_shl⟩
  have gAt : Glo l.prog w K mg base "_law_are_told" 1 ["_law_numbers"] (spAt C) := ⟨_, _, ok_at F_told k (no z_isinstance), at_ n_told, k_told, b_told⟩
  have gIn : Glo l.prog w K mg base "_law_inverse" 1 ["_law_pair_here"] spInv := ⟨_, _, ok_inv F_inv, at_ n_inv, k_inv, b_inv⟩
  have gLc : Glo l.prog w K mg base "_law_cleared" 5 ["_law_lines_here"] spLc := ⟨_, _, ok_lc F_lcl TC gIn gB' gWo, at_ n_lcl, k_lcl, b_lcl⟩
  have gLn : Glo l.prog w K mg base "_law_lines" 4 ["_law_dice_here", "_law_most", "_law_wide"] spLn := ⟨_, _, ok_ln F_lns TC (no z_zip) gR gO gNu gB' gP, at_ n_lns, k_lns, b_lns⟩
  have gN1 : Glo l.prog w K mg base "_law_is_number" 1 ["_law_value"] (spIsF K C) := ⟨_, _, ok_ln1 F_ln1 k OD (no z_isinstance) (no z_int) (no z_bool), at_ n_ln1, k_ln1, b_ln1⟩
  have gAn : Glo l.prog w K mg base "_law_are_numbers" 2 ["_law_value", "_law_size"] (spAn K C) := ⟨_, _, ok_an F_an gN1 (no z_isinstance) (no z_tuple) (no z_len), at_ n_an, k_an, b_an⟩
  have gLi : Glo l.prog w K mg base "_law_is_solution" 6 ["_law_lines_here", "_law_totals", "_law_value"] (spLi K C) := ⟨_, _, ok_li F_li gAn gPs gPd gMx (no z_isinstance) (no z_tuple) (no z_len), at_ n_li, k_li, b_li⟩
  have gNe : Glo l.prog w K mg base "_law_near" 6 ["_law_dice_here", "_law_value"] (spNe K C) := ⟨_, _, ok_ne F_ne k gR gO mA mM w10 (op_of rop_add) (op_of rop_mul) (no z_tuple) (no z_len) (no z_list), at_ n_ne, k_ne, b_ne⟩
  have gMo : Glo l.prog w K mg base "_law_more" 6 ["_law_dice_here", "_law_lines_here", "_law_totals", "_law_value"] (spMo C) := ⟨_, _, ok_mo F_mo k gLc gPs gO gNu gB' gP (no z_range) (no z_len) (no z_zip) (no z_tuple), at_ n_mo, k_mo, b_mo⟩
  have gG : Glo l.prog w K mg base "_law_right" 9 ["_law_dice_here"] spRt := ⟨_, _, ok_rt F_rig gLn gNu gR gPd gSl gSr gLc gSo gLi gAt gMo gNe gIs (no z_range) (no z_len) (no z_zip) (no z_repr), at_ n_rig, k_rig, b_rig⟩
  exact (ok_law F_law k TL OD gD gG gSo gIs mA w10 (op_of rop_add) mE).g
end FR
open PySem PySem.W PyProof.Rows
set_option Elab.async false
set_option maxRecDepth 100000 in
set_option maxHeartbeats 0 in
theorem PySem.Challenge.cw_surelyends_k05_solutions_or_none_holds : PySem.Challenge.rw_surelyends_k05_solutions_or_none.Holds := by
  w_on; o_law; k_head; (case hw => w_witness2)
  k_fill
  refine L2.walkG (l := PySem.Challenge.rw_surelyends_k05_solutions_or_none) (n := 63) (k := 10) (x := "_law_script") (CX := fun _ => L2.CX0) (sp := fun w => FR.spLaw _) rfl (by decide) rfl ⟨rfl, by decide, by decide⟩ (fun w h Y => PySem.W.kIn_of Y) ?F (fun _ _ a ns hl _ hS => ⟨a, ns, rfl, hS, fun _ => rfl⟩) fun _ _ _ _ _ z => z
  case F =>
    intro w mg fa h KX G hmg
    refine' FR.all_mk KX G hmg ?aC ?aD ?agcd ?alcm ?aMR ?aMW ?n_clr ?l_clr ?d_clr ?k_clr ?n_plain ?l_plain ?d_plain ?k_plain ?n_bet ?l_bet ?d_bet ?k_bet ?n_isf ?l_isf ?d_isf ?k_isf ?n_asf ?l_asf ?d_asf ?k_asf ?n_fs ?l_fs ?d_fs ?k_fs ?n_over ?l_over ?d_over ?k_over ?n_irs ?l_irs ?d_irs ?k_irs ?n_so ?l_so ?d_so ?k_so ?n_mk ?l_mk ?d_mk ?k_mk ?n_fa ?l_fa ?d_fa ?k_fa ?n_is ?l_is ?d_is ?k_is ?n_crs ?l_crs ?d_crs ?k_crs ?n_cfs ?l_cfs ?d_cfs ?k_cfs ?n_ct ?l_ct ?d_ct ?k_ct ?n_td ?l_td ?d_td ?k_td ?n_trn ?l_trn ?d_trn ?k_trn ?n_rx ?l_rx ?d_rx ?k_rx ?n_tms ?l_tms ?d_tms ?k_tms ?n_dice ?l_dice ?d_dice ?k_dice ?n_roll ?l_roll ?d_roll ?k_roll ?n_one ?l_one ?d_one ?k_one ?n_gcd ?l_gcd ?d_gcd ?k_gcd ?n_rat ?l_rat ?d_rat ?k_rat ?n_plus ?l_plus ?d_plus ?k_plus ?n_lby ?l_lby ?d_lby ?k_lby ?n_pair ?l_pair ?d_pair ?k_pair ?n_pairs ?l_pairs ?d_pairs ?k_pairs ?n_shw ?l_shw ?d_shw ?k_shw ?n_shr ?l_shr ?d_shr ?k_shr ?n_num ?l_num ?d_num ?k_num ?n_prd ?l_prd ?d_prd ?k_prd ?n_mixl ?l_mixl ?d_mixl ?k_mixl ?n_lns ?l_lns ?d_lns ?k_lns ?n_shl ?l_shl ?d_shl ?k_shl ?n_inv ?l_inv ?d_inv ?k_inv ?n_wo ?l_wo ?d_wo ?k_wo ?n_lcl ?l_lcl ?d_lcl ?k_lcl ?n_an ?l_an ?d_an ?k_an ?n_ln1 ?l_ln1 ?d_ln1 ?k_ln1 ?n_told ?l_told ?d_told ?k_told ?n_li ?l_li ?d_li ?k_li ?n_ne ?l_ne ?d_ne ?k_ne ?n_mo ?l_mo ?d_mo ?k_mo ?n_rig ?l_rig ?d_rig ?k_rig ?n_law ?l_law ?d_law ?k_law ?n_eq ?l_eq ?d_eq ?k_eq ?i_eq ?n_add ?l_add ?d_add ?k_add ?i_add ?n_mul ?l_mul ?d_mul ?k_mul ?i_mul ?n_ei ?l_ei ?d_ei ?k_ei ?i_ei ?n_er ?l_er ?d_er ?k_er ?i_er ?n_ep ?l_ep ?d_ep ?k_ep ?i_ep ?n_et ?l_et ?d_et ?k_et ?i_et ?n_top ?g_top ?t_top ?r_topx ?l_top ?d_top ?k_top ?n_bot ?g_bot ?t_bot ?r_botx ?l_bot ?d_bot ?k_bot ?n_ini ?l_ini ?d_ini ?k_ini ?i_ini ?T_inix ?v_ini ?z_int ?z_len ?z_abs ?z_max ?z_min ?z_isinstance ?z_range ?z_bool ?z_tuple ?z_all ?z_sum ?z_zip ?z_enumerate ?z_list ?z_str ?z_repr ?rcls ?rrow ?rop_add ?rop_mul ?ecls ?erow ?o_NoneType ?o_bool ?o_int ?o_str ?o_list ?o_tuple ?o_dict
    (case aC => k_is)
    (case aD => k_is)
    (case agcd => k_is)
    (case alcm => k_is)
    (case aMR => k_is)
    (case aMW => k_is)
    (case n_clr => k_is)
    (case l_clr => k_is)
    (case d_clr => k_is)
    (case k_clr => k_is)
    (case n_plain => k_is)
    (case l_plain => k_is)
    (case d_plain => k_is)
    (case k_plain => k_is)
    (case n_bet => k_is)
    (case l_bet => k_is)
    (case d_bet => k_is)
    (case k_bet => k_is)
    (case n_isf => k_is)
    (case l_isf => k_is)
    (case d_isf => k_is)
    (case k_isf => k_is)
    (case n_asf => k_is)
    (case l_asf => k_is)
    (case d_asf => k_is)
    (case k_asf => k_is)
    (case n_fs => k_is)
    (case l_fs => k_is)
    (case d_fs => k_is)
    (case k_fs => k_is)
    (case n_over => k_is)
    (case l_over => k_is)
    (case d_over => k_is)
    (case k_over => k_is)
    (case n_irs => k_is)
    (case l_irs => k_is)
    (case d_irs => k_is)
    (case k_irs => k_is)
    (case n_so => k_is)
    (case l_so => k_is)
    (case d_so => k_is)
    (case k_so => k_is)
    (case n_mk => k_is)
    (case l_mk => k_is)
    (case d_mk => k_is)
    (case k_mk => k_is)
    (case n_fa => k_is)
    (case l_fa => k_is)
    (case d_fa => k_is)
    (case k_fa => k_is)
    (case n_is => k_is)
    (case l_is => k_is)
    (case d_is => k_is)
    (case k_is => k_is)
    (case n_crs => k_is)
    (case l_crs => k_is)
    (case d_crs => k_is)
    (case k_crs => k_is)
    (case n_cfs => k_is)
    (case l_cfs => k_is)
    (case d_cfs => k_is)
    (case k_cfs => k_is)
    (case n_ct => k_is)
    (case l_ct => k_is)
    (case d_ct => k_is)
    (case k_ct => k_is)
    (case n_td => k_is)
    (case l_td => k_is)
    (case d_td => k_is)
    (case k_td => k_is)
    (case n_trn => k_is)
    (case l_trn => k_is)
    (case d_trn => k_is)
    (case k_trn => k_is)
    (case n_rx => k_is)
    (case l_rx => k_is)
    (case d_rx => k_is)
    (case k_rx => k_is)
    (case n_tms => k_is)
    (case l_tms => k_is)
    (case d_tms => k_is)
    (case k_tms => k_is)
    (case n_dice => k_is)
    (case l_dice => k_is)
    (case d_dice => k_is)
    (case k_dice => k_is)
    (case n_roll => k_is)
    (case l_roll => k_is)
    (case d_roll => k_is)
    (case k_roll => k_is)
    (case n_one => k_is)
    (case l_one => k_is)
    (case d_one => k_is)
    (case k_one => k_is)
    (case n_gcd => k_is)
    (case l_gcd => k_is)
    (case d_gcd => k_is)
    (case k_gcd => k_is)
    (case n_rat => k_is)
    (case l_rat => k_is)
    (case d_rat => k_is)
    (case k_rat => k_is)
    (case n_plus => k_is)
    (case l_plus => k_is)
    (case d_plus => k_is)
    (case k_plus => k_is)
    (case n_lby => k_is)
    (case l_lby => k_is)
    (case d_lby => k_is)
    (case k_lby => k_is)
    (case n_pair => k_is)
    (case l_pair => k_is)
    (case d_pair => k_is)
    (case k_pair => k_is)
    (case n_pairs => k_is)
    (case l_pairs => k_is)
    (case d_pairs => k_is)
    (case k_pairs => k_is)
    (case n_shw => k_is)
    (case l_shw => k_is)
    (case d_shw => k_is)
    (case k_shw => k_is)
    (case n_shr => k_is)
    (case l_shr => k_is)
    (case d_shr => k_is)
    (case k_shr => k_is)
    (case n_num => k_is)
    (case l_num => k_is)
    (case d_num => k_is)
    (case k_num => k_is)
    (case n_prd => k_is)
    (case l_prd => k_is)
    (case d_prd => k_is)
    (case k_prd => k_is)
    (case n_mixl => k_is)
    (case l_mixl => k_is)
    (case d_mixl => k_is)
    (case k_mixl => k_is)
    (case n_lns => k_is)
    (case l_lns => k_is)
    (case d_lns => k_is)
    (case k_lns => k_is)
    (case n_shl => k_is)
    (case l_shl => k_is)
    (case d_shl => k_is)
    (case k_shl => k_is)
    (case n_inv => k_is)
    (case l_inv => k_is)
    (case d_inv => k_is)
    (case k_inv => k_is)
    (case n_wo => k_is)
    (case l_wo => k_is)
    (case d_wo => k_is)
    (case k_wo => k_is)
    (case n_lcl => k_is)
    (case l_lcl => k_is)
    (case d_lcl => k_is)
    (case k_lcl => k_is)
    (case n_an => k_is)
    (case l_an => k_is)
    (case d_an => k_is)
    (case k_an => k_is)
    (case n_ln1 => k_is)
    (case l_ln1 => k_is)
    (case d_ln1 => k_is)
    (case k_ln1 => k_is)
    (case n_told => k_is)
    (case l_told => k_is)
    (case d_told => k_is)
    (case k_told => k_is)
    (case n_li => k_is)
    (case l_li => k_is)
    (case d_li => k_is)
    (case k_li => k_is)
    (case n_ne => k_is)
    (case l_ne => k_is)
    (case d_ne => k_is)
    (case k_ne => k_is)
    (case n_mo => k_is)
    (case l_mo => k_is)
    (case d_mo => k_is)
    (case k_mo => k_is)
    (case n_rig => k_is)
    (case l_rig => k_is)
    (case d_rig => k_is)
    (case k_rig => k_is)
    (case n_law => k_is)
    (case l_law => k_is)
    (case d_law => k_is)
    (case k_law => k_is)
    (case n_eq => k_is)
    (case l_eq => k_is)
    (case d_eq => k_is)
    (case k_eq => k_is)
    (case i_eq => k_is)
    (case n_add => k_is)
    (case l_add => k_is)
    (case d_add => k_is)
    (case k_add => k_is)
    (case i_add => k_is)
    (case n_mul => k_is)
    (case l_mul => k_is)
    (case d_mul => k_is)
    (case k_mul => k_is)
    (case i_mul => k_is)
    (case n_ei => k_is)
    (case l_ei => k_is)
    (case d_ei => k_is)
    (case k_ei => k_is)
    (case i_ei => k_is)
    (case n_er => k_is)
    (case l_er => k_is)
    (case d_er => k_is)
    (case k_er => k_is)
    (case i_er => k_is)
    (case n_ep => k_is)
    (case l_ep => k_is)
    (case d_ep => k_is)
    (case k_ep => k_is)
    (case i_ep => k_is)
    (case n_et => k_is)
    (case l_et => k_is)
    (case d_et => k_is)
    (case k_et => k_is)
    (case i_et => k_is)
    (case n_top => k_is)
    (case g_top => k_is)
    (case t_top => k_is)
    (case r_topx => k_is)
    (case l_top => k_is)
    (case d_top => k_is)
    (case k_top => k_is)
    (case n_bot => k_is)
    (case g_bot => k_is)
    (case t_bot => k_is)
    (case r_botx => k_is)
    (case l_bot => k_is)
    (case d_bot => k_is)
    (case k_bot => k_is)
    (case n_ini => k_is)
    (case l_ini => k_is)
    (case d_ini => k_is)
    (case k_ini => k_is)
    (case i_ini => k_is)
    (case T_inix => k_is)
    (case v_ini => rfl)
    (case z_int => k_is)
    (case z_len => k_is)
    (case z_abs => k_is)
    (case z_max => k_is)
    (case z_min => k_is)
    (case z_isinstance => k_is)
    (case z_range => k_is)
    (case z_bool => k_is)
    (case z_tuple => k_is)
    (case z_all => k_is)
    (case z_sum => k_is)
    (case z_zip => k_is)
    (case z_enumerate => k_is)
    (case z_list => k_is)
    (case z_str => k_is)
    (case z_repr => k_is)
    (case rcls => kernel_rfl)
    (case rrow => kernel_rfl)
    (case rop_add => kernel_rfl)
    (case rop_mul => kernel_rfl)
    (case ecls => kernel_rfl)
    (case erow => kernel_rfl)
    (case o_NoneType => kernel_rfl)
    (case o_bool => kernel_rfl)
    (case o_int => kernel_rfl)
    (case o_str => kernel_rfl)
    (case o_list => kernel_rfl)
    (case o_tuple => kernel_rfl)
    (case o_dict => kernel_rfl)
