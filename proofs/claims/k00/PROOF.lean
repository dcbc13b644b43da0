import PyProof.Rows.All
import Wide.All
import OpenK.AllK
import Wide.FinOn
import HandS.ForMost
import HandS.Wide
import HandS.ExcValue
import KE.KExcSuper
import KE.KExcInit
import KE.KExcPX
import HandS.Exc
import HandS.ExcOwn
import HandS.ExcInit
import HandS.ExcIs
import HandS.IsInst
import HandS.RaiseMore
import HandS.Walk
import HandS.Flow
import PySem.Challenge.RW_surelyends_k00_errors
set_option Elab.async false
set_option linter.all false
set_option maxRecDepth 100000
namespace K0
open PySem PySem.Spec PyProof.Rows L2
/-! ### The text by places -/
def top (i : Nat) : Stmt := PySem.Challenge.pw_surelyends_k00_errors.main.body.getD i (.Pass ⟨0, 0, 0, 0⟩)
abbrev sDice : Stmt := top 15
abbrev sRoll : Stmt := top 16
abbrev sOneOf : Stmt := top 17
/-! ### The dice -/
abbrev dxs (a b c : Int) : List V := [V.int a, V.int b, V.int c]
/-- the dice stand at d -/
def DiceAt (H : Hp) (d : Addr) : Prop := ∃ a b c : Int, H d = some (.lst (dxs a b c))
/-- nothing but the dice has changed -/
structure Rolled (H H' : Hp) (d : Addr) : Prop where
  ho : ∃ a b c : Int, H' = upd H d (.lst (dxs a b c))
def spRoll : Sp := fun vs H Q _ => ∃ (d : Addr) (n : Int), vs = [.ref d, .int n] ∧ DiceAt H d ∧ 0 < n ∧ n < 1073741824 ∧
  ∀ (r a b c : Int), 0 ≤ r → r < n → Q (.int r) (upd H d (.lst (dxs a b c)))
section
variable {P : Program} {w : World} {K : PySem.W.Frag} {mg : Str → Option Value} {base : Heap}
theorem scR : FnScope ["_law_dice_here", "_law_total", "_law_found", "_law_one", "_law_two"] ["_law_dice_here", "_law_total"] (defScope sRoll) :=
  ⟨rfl, rfl, rfl, by decide +kernel, rfl, by decide +kernel, by decide +kernel⟩
theorem nz1 : (2305843009213693951 : Int) ≠ 0 := by decide
theorem nz2 : (2305843009213693921 : Int) ≠ 0 := by decide
theorem nz3 : (2305843009213693907 : Int) ≠ 0 := by decide
theorem at0 {a b c : Int} : atI (dxs a b c) (0 : Int) = some (V.int a) := rfl
theorem at1 {a b c : Int} : atI (dxs a b c) (1 : Int) = some (V.int b) := rfl
theorem at2 {a b c : Int} : atI (dxs a b c) (2 : Int) = some (V.int c) := rfl
theorem ok_roll {f : Addr} {fd : FuncData} (F : Fun K "_law_roll" "_law_roll" sRoll f fd) (mI : mg "int" = none) : FnOk P w K mg base CX0 1 f fd ["_law_dice_here", "_law_total"] spRoll := by
  refine F.ok scR (fun vs H Q E h => ?_) (fun cdv A outer s H vs Q E hr h => ?_)
  · obtain ⟨d, n, rfl, _⟩ := h
    rfl
  · obtain ⟨d, n, rfl, ⟨a, b, c, hd⟩, h0, h1, k⟩ := h
    have hu := hu_of hr
    refine ⟨_, pss_cons (ps_if (pt_cmpR op_gt (pe_ix ix_list (pv 0) pe_int (fun _ _ => rfl)) pe_int (nomark _))
        (pss_cons (ps_set (i := 2) scR.nd rfl (Or.inl rfl) (pe_op op_modN (pe_callTy call_int1 (by rfl) mI (by decide +kernel) (pa_cons (pe_ix ix_list (pv 0) pe_int (fun _ _ => rfl)) pa_nil)) (pv 1)))
        (pss_cons (ps_asg (pe_op op_fdivN (pe_ix ix_list (pv 0) pe_int (fun _ _ => rfl)) (pv 1)) (pg_sub (pv 0) pe_int set_list))
        (pss_one (ps_ret (pv 2))))) pss_nil)
      (pss_cons (ps_asg (pe_op op_add (pe_ix ix_list (pv 0) pe_int (fun _ _ => rfl)) pe_int) (pg_sub (pv 0) pe_int set_list))
      (pss_cons (ps_set (i := 3) scR.nd rfl (Or.inl rfl) (pe_op op_modN (pe_callTy call_int1 (by rfl) mI (by decide +kernel) (pa_cons (pe_op op_add (pe_ix ix_list (pv 0) pe_int (fun _ _ => rfl)) (pe_op op_mul pe_int (pe_ix ix_list (pv 0) pe_int (fun _ _ => rfl)))) pa_nil)) pe_int))
      (pss_cons (ps_set (i := 4) scR.nd rfl (Or.inl rfl) (pe_op op_add (pe_op op_mul (pe_op op_modN (pe_callTy call_int1 (by rfl) mI (by decide +kernel) (pa_cons (pe_op op_mul (pv 3) (pv 3)) pa_nil)) pe_int) (pv 3)) (pe_op op_mul pe_int (pe_ix ix_list (pv 0) pe_int (fun _ _ => rfl)))))
      (pss_cons (ps_set (i := 4) scR.nd rfl (Or.inl rfl) (pe_op op_modN (pe_callTy call_int1 (by rfl) mI (by decide +kernel) (pa_cons (pv 4) pa_nil)) pe_int))
      (pss_one (ps_ret (pe_op op_modN (pe_callTy call_int1 (by rfl) mI (by decide +kernel) (pa_cons (pe_op op_fdivN (pv 4) pe_int) pa_nil)) (pv 1)))))))), ?_⟩
    refine ⟨_, rfl, d, _, _, _, rfl, rfl, SqL.of hd, at0, _, _, rfl, rfl, _, rfl, ?_⟩
    have hm : ∀ x : Int, 0 ≤ x.fmod n ∧ x.fmod n < n := fun x => by
      rw [Int.fmod_eq_emod_of_nonneg x (by omega)]
      exact ⟨Int.emod_nonneg x (by omega), Int.emod_lt_of_pos x h0⟩
    refine ite2 (fun ha => ?_) (fun ha => ?_)
    · refine ⟨_, rfl, d, _, _, _, rfl, rfl, SqL.of hd, at0, .inl ⟨_, rfl, ?_⟩⟩
      refine ⟨_, rfl, _, _, rfl, rfl, by omega, ?_⟩
      refine ⟨_, rfl, d, _, _, _, rfl, rfl, SqL.of hd, at0, _, rfl, _, _, rfl, rfl, ⟨by omega, by omega⟩, ?_⟩
      refine ⟨_, rfl, d, _, _, 0, rfl, rfl, hd, rfl, ?_⟩
      refine ⟨_, rfl, ?_⟩
      exact k _ _ _ _ (hm _).1 (hm _).2
    · refine ⟨_, rfl, d, _, _, _, rfl, rfl, SqL.of hd, at2, _, _, rfl, rfl, ?_⟩
      refine ⟨_, rfl, d, _, _, 2, rfl, rfl, hd, rfl, ?_⟩
      have hd2 : upd H d (.lst (dxs a b (c + 1))) d = some (.lst (dxs a b (c + 1))) := upd_same
      refine ⟨_, rfl, d, _, _, _, rfl, rfl, SqL.of hd2, at1, ?_⟩
      refine ⟨_, rfl, d, _, _, _, rfl, rfl, SqL.of hd2, at2, ?_⟩
      refine ⟨_, _, rfl, rfl, .inl ⟨by decide, by decide⟩, ?_⟩
      refine ⟨_, _, rfl, rfl, .inl ⟨_, rfl, ?_⟩⟩
      refine ⟨_, _, rfl, rfl, nz1, ?_⟩
      generalize hone : Int.fmod (b + 1000193 * (c + 1)) 2305843009213693951 = one
      have ho : 0 ≤ one ∧ one < 2305843009213693951 := by
        rw [← hone, Int.fmod_eq_emod_of_nonneg _ (by decide)]
        exact ⟨Int.emod_nonneg _ (by decide), Int.emod_lt_of_pos _ (by decide)⟩
      refine ⟨_, rfl, _, rfl, _, _, rfl, rfl, .inl ⟨by omega, by omega⟩, .inl ⟨_, rfl, ?_⟩⟩
      refine ⟨_, _, rfl, rfl, nz2, ?_⟩
      generalize htwo : Int.fmod (one * one) 2305843009213693921 = two
      refine ⟨_, rfl, _, _, rfl, rfl, .inr ⟨by omega, by omega⟩, ?_⟩
      refine ⟨_, rfl, d, _, _, _, rfl, rfl, SqL.of hd2, at2, ?_⟩
      refine ⟨_, _, rfl, rfl, .inl ⟨by decide, by decide⟩, ?_⟩
      refine ⟨_, _, rfl, rfl, ?_⟩
      generalize two * one + 8221 * (c + 1) = three
      refine ⟨_, rfl, .inl ⟨_, rfl, ?_⟩⟩
      refine ⟨_, _, rfl, rfl, nz3, ?_⟩
      refine ⟨_, rfl, _, _, rfl, rfl, ⟨by decide, by decide⟩, .inl ⟨_, rfl, ?_⟩⟩
      refine ⟨_, rfl, _, _, rfl, rfl, by omega, ?_⟩
      exact k _ _ _ _ (hm _).1 (hm _).2

/-! ### powers of any size within the line -/
def CPowW (i j : Int) : Prop := 0 ≤ j ∧ (Builtin.Int.intBits i : Int) * j ≤ 2 ^ 27
theorem op_powW {X : Cx} : OpR X (binaryOp .Pow) (rI CPowW fun i j => .int (i ^ j.toNat)) := opI fun _ _ _ _ _ _ _ hc q => pow_int hc.1 hc.2 q
theorem pow60 : CPowW 10 60 := ⟨by decide, by decide +kernel⟩
theorem pow600 : CPowW ((10 : Int) ^ (60 : Int).toNat) 10 := ⟨by decide, by decide +kernel⟩
theorem pow18 : CPowW 10 18 := ⟨by decide, by decide +kernel⟩
def big600 : Int := ((10 : Int) ^ (60 : Int).toNat) ^ (10 : Int).toNat
theorem big600_nz : ((10 : Int) ^ (60 : Int).toNat) ^ (10 : Int).toNat ≠ 0 := by decide +kernel
theorem nz4 : (2147483549 : Int) ≠ 0 := by decide
theorem nz5 : (2147483543 : Int) ≠ 0 := by decide
def spDice (K : PySem.W.Frag) : Sp := fun vs H Q _ => ∃ (a : Addr) (ns : List Int) (i : Nat) (j : Int), vs = [.ref a, .int j] ∧ j = (i : Int) ∧ SqL K H a (ns.map V.int) ∧
  ∀ (p : Addr) (x y z : Int), H p = none → Q (.ref p) (upd H p (.lst (dxs x y z)))
structure TxtD (mg : Str → Option Value) : Prop where
  mI : mg "int" = none
  mL : mg "len" = none
  mA : mg "abs" = none
  mM : mg "max" = none
theorem scD : FnScope ["_law_script", "_law_at", "_law_cell", "_law_great", "_law_mixed"] ["_law_script", "_law_at"] (defScope sDice) :=
  ⟨rfl, rfl, rfl, by decide +kernel, rfl, by decide +kernel, by decide +kernel⟩
theorem ok_dice {f : Addr} {fd : FuncData} (F : Fun K "_law_dice" "_law_dice" sDice f fd) (T : TxtD mg) : FnOk P w K mg base CX0 1 f fd ["_law_script", "_law_at"] (spDice K) := by
  refine F.ok scD (fun vs H Q E h => ?_) (fun cdv A outer s H vs Q E hr h => ?_)
  · obtain ⟨a, ns, i, j, rfl, _⟩ := h
    rfl
  · obtain ⟨a, ns, i, j, rfl, rfl, hs, k⟩ := h
    have hu := hu_of hr
    refine ⟨_, pss_cons (ps_set (i := 2) scD.nd rfl (Or.inl rfl) (pe_op op_add (pe_op op_mul pe_int (pv 1)) pe_int))
      (pss_cons (ps_if (pt_cmpR op_lt (pv 1) (pe_callB call_len_seq (by rfl) T.mL PySem.boot_len (pa_cons (pv 0) pa_nil)) (nomark _))
        (pss_one (ps_set (i := 2) scD.nd rfl (Or.inl rfl) (pe_ix ix_list (pv 0) (pv 1) (fun _ _ => rfl)))) pss_nil)
      (pss_cons (ps_set (i := 3) scD.nd rfl (Or.inl rfl) (pe_op op_modN (pe_callTy call_int1 (by rfl) T.mI (by decide +kernel) (pa_cons (pe_callB call_abs (by rfl) T.mA (by decide +kernel) (pa_cons (pv 2) pa_nil)) pa_nil))
          (pe_op op_powW (pe_op op_powW pe_int pe_int) pe_int)))
      (pss_cons (ps_set (i := 4) scD.nd rfl (Or.inl rfl) (pe_op op_add (pe_op op_add (pe_op op_add
          (pe_op op_mul (pe_op op_modN (pe_callTy call_int1 (by rfl) T.mI (by decide +kernel) (pa_cons (pv 3) pa_nil)) pe_int) pe_int)
          (pe_op op_mul pe_int (pv 1)))
          (pe_op op_mul pe_int (pe_callTy call_int1 (by rfl) T.mI (by decide +kernel) (pa_cons (pe_cmpR op_lt (pv 2) pe_int (nomark _)) pa_nil)))) pe_int))
      (pss_one (ps_ret (pe_lst (pa_cons (pe_callB (call_max2 rfl) (by rfl) T.mM (by decide +kernel) (pa_cons pe_int (pa_cons (pe_op op_sub (pv 3) (pe_op op_powW pe_int pe_int)) pa_nil)))
          (pa_cons (pe_op op_modN (pe_callTy call_int1 (by rfl) T.mI (by decide +kernel) (pa_cons (pv 4) pa_nil)) pe_int) (pa_cons pe_int pa_nil))))))))), ?_⟩
    refine ⟨_, rfl, _, _, rfl, rfl, .inl ⟨by decide, by decide⟩, _, _, rfl, rfl, ?_⟩
    refine ⟨_, rfl, _, rfl, a, _, rfl, .inl hs, _, _, rfl, rfl, _, rfl, ?_⟩
    refine ite2 (fun ha => ?_) (fun ha => ?_)
    · have hlt : i < (ns.map V.int).length := by
        have z := of_decide_eq_true ha
        omega
      refine ⟨_, rfl, _, rfl, a, _, _, V.int ((ns.getD i 0)), rfl, rfl, hs, atI_nat (by
        rw [List.length_map] at hlt
        simp [hlt]), ?_⟩
      refine ⟨_, rfl, _, rfl, .inl ⟨_, rfl, ?_⟩⟩
      refine ⟨_, _, rfl, rfl, pow60, _, _, rfl, rfl, pow600, _, _, rfl, rfl, big600_nz, ?_⟩
      refine ⟨_, rfl, .inl ⟨_, rfl, ?_⟩⟩
      refine ⟨_, _, rfl, rfl, nz4, _, _, rfl, rfl, .inr ⟨by decide, by decide⟩, ?_⟩
      refine ⟨_, rfl, _, _, rfl, rfl, .inl ⟨by decide, by decide⟩, _, _, rfl, rfl, ?_⟩
      refine ⟨_, rfl, _, _, rfl, rfl, .inr ⟨_, rfl, ?_⟩⟩
      refine ⟨_, _, rfl, rfl, .inl ⟨by decide, by decide⟩, _, _, rfl, rfl, _, _, rfl, rfl, ?_⟩
      refine ⟨_, rfl, _, _, rfl, rfl, pow18, _, _, rfl, rfl, _, _, rfl, ?_⟩
      refine ⟨_, rfl, .inl ⟨_, rfl, ?_⟩⟩
      refine ⟨_, _, rfl, rfl, nz5, ?_⟩
      refine ⟨by show 3 ≤ sizeLine; decide, fun p hp => ?_⟩
      exact k _ _ _ _ hp
    · refine ⟨_, rfl, _, rfl, .inl ⟨_, rfl, ?_⟩⟩
      refine ⟨_, _, rfl, rfl, pow60, _, _, rfl, rfl, pow600, _, _, rfl, rfl, big600_nz, ?_⟩
      refine ⟨_, rfl, .inl ⟨_, rfl, ?_⟩⟩
      refine ⟨_, _, rfl, rfl, nz4, _, _, rfl, rfl, .inr ⟨by decide, by decide⟩, ?_⟩
      refine ⟨_, rfl, _, _, rfl, rfl, .inl ⟨by decide, by decide⟩, _, _, rfl, rfl, ?_⟩
      refine ⟨_, rfl, _, _, rfl, rfl, .inr ⟨_, rfl, ?_⟩⟩
      refine ⟨_, _, rfl, rfl, .inl ⟨by decide, by decide⟩, _, _, rfl, rfl, _, _, rfl, rfl, ?_⟩
      refine ⟨_, rfl, _, _, rfl, rfl, pow18, _, _, rfl, rfl, _, _, rfl, ?_⟩
      refine ⟨_, rfl, .inl ⟨_, rfl, ?_⟩⟩
      refine ⟨_, _, rfl, rfl, nz5, ?_⟩
      refine ⟨by show 3 ≤ sizeLine; decide, fun p hp => ?_⟩
      exact k _ _ _ _ hp
/-! ### one of a list's items -/
def spOneOf : Sp := fun vs H Q _ => ∃ (d p : Addr) (xs : List V), vs = [.ref d, .ref p] ∧ DiceAt H d ∧ H p = some (.lst xs) ∧ p ≠ d ∧ 0 < xs.length ∧ xs.length < 1000 ∧
  ∀ (k : Nat) (x : V) (a b c : Int), xs[k]? = some x → Q x (upd H d (.lst (dxs a b c)))
theorem scO : FnScope ["_law_dice_here", "_law_items"] ["_law_dice_here", "_law_items"] (defScope sOneOf) :=
  ⟨rfl, rfl, rfl, by decide +kernel, rfl, by decide +kernel, by decide +kernel⟩
theorem ok_oneOf {f fR : Addr} {fd fdR : FuncData} (F : Fun K "_law_one_of" "_law_one_of" sOneOf f fd) (T : TxtD mg) (FR : Fun K "_law_roll" "_law_roll" sRoll fR fdR)
    (mR : mg "_law_roll" = some (.ref fR)) (kR : PySem.W.keepIn K (.ref fR) = true) (bR : Binds K fdR ["_law_dice_here", "_law_total"] []) : FnOk P w K mg base CX0 2 f fd ["_law_dice_here", "_law_items"] spOneOf := by
  have G : FnOk P w K mg base CX0 1 fR fdR ["_law_dice_here", "_law_total"] spRoll := ok_roll FR T.mI
  refine F.ok scO (fun vs H Q E h => ?_) (fun cdv A outer s H vs Q E hr h => ?_)
  · obtain ⟨d, p, xs, rfl, _⟩ := h
    rfl
  · obtain ⟨d, p, xs, rfl, hd, hp, ne, h0, h1, k⟩ := h
    have hu := hu_of hr
    refine ⟨_, pss_one (ps_ret (pe_ix ix_list (pv 1) (pe_call G hr (by rfl) mR kR bR .nil pass0
      (pa_cons (pv 0) (pa_cons (pe_callB call_len_seq (by rfl) T.mL PySem.boot_len (pa_cons (pv 1) pa_nil)) pa_nil))) (fun _ _ => rfl))), ?_⟩
    refine ⟨_, rfl, _, rfl, _, rfl, p, xs, rfl, .inl (SqL.of hp), d, _, rfl, hd, by omega, by omega, fun r a b c hr0 hr1 => ?_⟩
    obtain ⟨k', rfl⟩ : ∃ k' : Nat, r = (k' : Int) := ⟨r.toNat, by omega⟩
    have hk : k' < xs.length := by omega
    refine ⟨p, xs, _, xs[k'], rfl, rfl, SqL.of (by rw [upd_ne ne]; exact hp), atI_nat (List.getElem?_eq_getElem hk), ?_⟩
    exact k k' _ a b c (List.getElem?_eq_getElem hk)
end
end K0
set_option Elab.async false
set_option linter.all false
set_option maxRecDepth 100000
set_option maxHeartbeats 2000000
/-! KeyError: its __new__ is that of LookupError, its __init__ its own -/
namespace SX
open PySem PySem.W PySem.Calls PyProof.Rows PySem.Spec
abbrev keB : List Value := [.type "KeyError", .type "LookupError", .type "Exception", .type "BaseException", .type "object"]
theorem ke_kxs : KxsFacts "KeyError" "KeyError.__init__" :=
  { typ := (by show builtinType _ = _; rw [builtinType_eq_fast] <;> kernel_rfl), nac := (by first | kernel_rfl | rfl) }
theorem ke_store : StoreFacts "KeyError" keB "object.__setattr__" "object" := {
  mro := (by kernel_rfl), entry := PySem.F.store_ValueError.entry, kind := (by decide +kernel), split := (by decide +kernel), hasOwner := (by decide +kernel), args := PySem.F.store_ValueError.args, passes := (fun _ => by kernel_rfl),
  slot := .of (owner := "object") (n := "__setattr__") (by rw [typeLookup_type, builtinLookup_eq_fast] <;> kernel_rfl) (by decide +kernel) (by decide +kernel) (by decide +kernel) (by first | exact .inl (by decide +kernel) | exact .inr (by decide +kernel)) (by rw [isSubtype_type] <;> kernel_rfl) }
theorem ke_init : Slot "KeyError" "__init__" "KeyError.__init__" :=
  .of (owner := "KeyError") (n := "__init__") (by rw [typeLookup_type, builtinLookup_eq_fast] <;> kernel_rfl) (by decide +kernel) (by decide +kernel) (by decide +kernel) (by first | exact .inl (by decide +kernel) | exact .inr (by decide +kernel)) (by rw [isSubtype_type] <;> kernel_rfl)
theorem ke_initEntry : entryFor table "KeyError.__init__" = some Builtin.«BaseException.__init__» :=
  entryFor_alias (id' := "BaseException.__init__") (by rw [fastTable_eq_tree] <;> kernel_rfl) (by first | rfl | decide +kernel) (by decide +kernel) (by rw [fastTable_eq_tree] <;> kernel_rfl)
theorem ke_kind : builtinKind "KeyError.__init__" = some .slot := by kernel_rfl
theorem ke_row : Manifest.signature? "KeyError.__init__" = some ⟨.positional, "*", "KeyError", .self, [⟨"args", .varPos, false⟩]⟩ := by kernel_rfl
section
variable {prog : Program} {w : World} {M : Model} {A : Around} {E : Value → Shared → Prop} {R : Result → Shared → Prop} {h : Heap} {g : Array GenState} {d : Drawn} {t : Nat} {os : OsState}
variable {nm q : Str} {C N : Addr} {bs bm bmB : List Value} {hdct : Bool} {sn : List Str} {sub : List Value} {ab : Bool} {col : Option Bool} {dd : Option Addr} {k0 k1 k2 k3 k5 : Option Value} {B newId initId : String}
theorem ke_bound {e : Addr} {oe : Obj} {rest : List Value} {Q : Unit → Shared → Prop} (hC : h.get? C = some (excClassObj nm q C N bs bm hdct sn sub ab col dd k0 k1 k2 k3 k5 newId)) (he : h.get? e = some oe) (hcls : oe.cls = .ref C)
    (hq : Q () ⟨h, g, d, t, os⟩) : wpAny M A (checkBoundCall "KeyError.__init__" ⟨.ref e :: rest, []⟩) Q E ⟨h, g, d, t, os⟩ := by
  have hshort : ("KeyError" != "*") = true := by decide +kernel
  simp only [checkBoundCall, ke_kind, ke_row]
  repeat (first
    | (with_reducible refine wpAny_loadPart_at he ?_; rw [hcls])
    | with_reducible refine wpAny_loadPart_at hC ?_
    | wp_step)
  refine wpAny_onRaise ?_
  have z : ∀ (a b : String) (n : Nat), Bind.check ⟨.positional, "*", "KeyError", .self, [⟨"args", .varPos, false⟩]⟩ a b n (List.map (fun x => x.fst) ({ pos := Value.ref e :: rest } : Args).kw) = pure () := fun a b n => check_star_args _ _ _ _ _ _
  rw [z]
  exact wpAny_pure hq
theorem ke_bw {u e t0 : Addr} {rest : List Value} {Q : Value → Shared → Prop} (hC : h.get? C = some (excClassObj nm q C N bs bm hdct sn sub ab col dd k0 k1 k2 k3 k5 newId)) (he : h.get? e = some (excObj C t0 none .none))
    (hu : h.get? u = some (kxs_mw "KeyError.__init__" e)) (hz : rest.length ≤ sizeLine)
    (hq : ∀ h' t1, (∀ b o, b ≠ e → h.get? b = some o → h'.get? b = some o) → h'.get? e = some (excObj C t1 none .none) → Q .none ⟨h', g, d, t, os⟩) : wpAny (model prog w) A (call (.ref u) rest) Q E ⟨h, g, d, t, os⟩ := by
  refine wpAny_call (codeAny_of_tree (show wpAny _ A.in1 (callAny (.ref u) ⟨rest, []⟩) _ _ _ from ?_))
  simp only [callAny]
  refine wpAny_bind (wpAny_load hu ?_)
  have y : (Value.type "method-wrapper" == Value.type "method" || Value.type "method-wrapper" == Value.type "builtin_function_or_method" || Value.type "method-wrapper" == Value.type "method-wrapper") = true := by decide
  simp only [kxs_mw, y, if_true]
  refine KFB.if_so (by decide) (wpAny_bind (ke_bound hC he rfl ?_))
  refine wpAny_bind (wpAny_pure (wpAny_pure ⟨plainId_quiet ke_init.plain _, codeAny_builtin ke_initEntry ?_⟩))
  exact exc_init_tree (cls := .ref C) (t0 := t0) (dv := none) (c2 := .none) (c3 := .none) (b4 := .bool false) he hz fun h' k e' _ => hq h' _ k e'
theorem n_new (F : ExcBaseFacts B newId initId bmB) (hB : (Value.ref C :: bm).contains (.type B) = true) (hA : (Value.ref C :: bm).contains (.type "AttributeError") = false) (hN : (Value.ref C :: bm).contains (.type "NameError") = false)
    {rest : List Value} (hC : h.get? C = some (excClassObj nm q C N bs bm hdct sn sub ab col dd k0 k1 k2 k3 k5 newId)) (hrest : rest.length ≤ sizeLine)
    (hq : R (.ok (.ret (.ref (h.objs.size + 1)))) ⟨(h.push (W.kdv_tup rest)).push (PX.excO C h.objs.size), g, d, t, os⟩) : codeAny (model prog w) A (.builtin newId ⟨.ref C :: rest, []⟩) R ⟨h, g, d, t, os⟩ := by
  have hends := F.ends
  refine codeAny_builtinAt F.entry ?_
  unfold Builtin.«BaseException.__new__»
  refine PySem.wpAt_bind (show PySem.wpAt _ _ _ (stack >>= _) _ _ _ from ?_)
  refine PySem.wpAt_bind (PySem.wpAt_stack fun p below => PySem.wpAt_of_wpAny ?_)
  wp_walk
  refine PySem.wpAt_of_wpAny ?_
  rw [F.owner]
  repeat (first
    | with_reducible refine wpAny_madeHere_exc F.canon hC ?_
    | with_reducible refine wpAny_loadPart_at hC ?_
    | (with_reducible refine wpAny_isSubtype_exc hC ?_; first | rw [hB] | rw [hA] | rw [hN])
    | wp_step)
  have z : R (.ok (.ret (.ref (h.push (W.kdv_tup rest)).objs.size))) ⟨(h.push (W.kdv_tup rest)).push (PX.excO C h.objs.size), g, d, t, os⟩ := by
    rw [Heap.size_push]
    exact hq
  exact z
/-- type.__call__ on a class whose built-in __new__ is that of B, whatever else stands among its bases -/
theorem n_call (F : ExcBaseFacts B newId initId bmB) (hB : (Value.ref C :: bm).contains (.type B) = true) (hA : (Value.ref C :: bm).contains (.type "AttributeError") = false) (hN : (Value.ref C :: bm).contains (.type "NameError") = false)
    {rest : List Value} {fI : Addr} (hC : h.get? C = some (excClassObj nm q C N bs bm hdct sn sub ab col dd k0 k1 k2 k3 k5 newId)) (hi : W.Looks (model prog w) h (typeLookup (.ref C) "__init__") (some (.ref fI)))
    (hb : ∀ self, W.Looks (model prog w) h (bindSpecial (.ref fI) self) (.ref fI, [self])) (hrest : rest.length ≤ sizeLine)
    (hq : codeAny (model prog w) (A.under (.builtin "type.__call__" ⟨.ref C :: rest, []⟩)) (.call (.ref fI) ⟨.ref (h.objs.size + 1) :: rest, []⟩) (W.InitBack (h.objs.size + 1) R) ⟨(h.push (W.kdv_tup rest)).push (PX.excO C h.objs.size), g, d, t, os⟩) :
    codeAny (model prog w) A (.call (.ref C) ⟨rest, []⟩) R ⟨h, g, d, t, os⟩ := by
  have tyC : (⟨h, g, d, t, os⟩ : Shared).TypeIs (.ref C) "type" := ⟨_, hC, rfl⟩
  have l1 := tc_lookup
  have l2 := tc_bind (.ref C)
  have hstar := F.noStar
  refine codeAny_of_tree (show wpAny _ _ (callAny (.ref C) _) _ _ _ from ?_)
  repeat (any_goals (first
    | assumption
    | with_reducible refine wpAny_loadPart_at hC ?_
    | wp_step))
  refine ⟨rfl, codeAny_call_builtin_at (Code.quiet_builtin _ (by decide +kernel)) entry_typeCall (wpAny_check_type_call_sub hC ?_)⟩
  repeat (first
    | with_reducible refine wpAny_loadPart_at hC ?_
    | with_reducible refine wpAny_madeBy_exc hC ?_
    | wp_step)
  refine codeAny_call_builtin_code (Code.quiet_builtin _ F.quiet) ?_
  simp only [checkBuiltinCall, F.newKind, F.newSplit, F.newRow]
  repeat (first
    | refine wpAny_loadPart_at hC ?_
    | (refine wpAny_isSubtype_exc hC ?_; rw [hB])
    | refine wpAny_staticBase_exc hC ?_
    | refine wpAny_madeBy_exc hC ?_
    | simp only [bne_self_eq_false, Bool.false_eq_true, if_false]
    | wp_step)
  refine n_new F hB hA hN hC hrest ?_
  show wpAny _ _ _ _ _ _
  have kk : ∀ b o, h.get? b = some o → ((h.push (W.kdv_tup rest)).push (PX.excO C h.objs.size)).get? b = some o := fun b o e => Heap.get?_push_of_some _ (Heap.get?_push_of_some _ e)
  have hC₁ := kk _ _ hC
  have hget : ((h.push (W.kdv_tup rest)).push (PX.excO C h.objs.size)).get? (h.objs.size + 1) = some (PX.excO C h.objs.size) := by heap_get
  have hcC : (Value.ref C :: bm).contains (.ref C) = true := by simp
  have i1 := hi.keeps kk
  have b1 := (hb (.ref (h.objs.size + 1))).keeps kk
  unfold isInstance
  repeat (first
    | with_reducible refine wpAny_loadPart_at hget ?_
    | wp_step)
  show wpAny _ _ (isSubtype (.ref C) (.ref C)) _ _ _
  refine wpAny_isSubtype_exc hC₁ ?_
  rw [hcC]
  repeat (first
    | with_reducible refine wpAny_loadPart_at hget ?_
    | wp_step)
  show wpAny _ _ (typeLookup (.ref C) _) _ _ _
  refine i1.at (wpAny_holding (wpAny_bind (b1.at (wpAny_bind (wpAny_call (codeAny_mono hq fun r s' z => ?_))))))
  rcases r with e | fl
  · exact z
  · cases fl with
    | ret v =>
      obtain ⟨rfl, z⟩ := z
      first
        | exact wpAny_pure (wpAny_pure z)
        | (wp_walk; exact z)
    | next => exact z.elim
    | brk => exact z.elim
    | cont => exact z.elim
end
end SX
set_option Elab.async false
set_option linter.all false
set_option maxRecDepth 100000
set_option maxHeartbeats 2000000
/-! own exceptions whose __init__ says super().__init__('..') and then self.field = field, as values -/
namespace SX
open PySem PySem.W PySem.Calls PyProof.Rows PySem.Spec
/-- what the written part says of such a class at C, its __init__ at fI -/
structure VTxt (P : Program) (K : Frag) (mg : Str → Option Value) (C fI : Addr) (fld : Str) (B newId i : String) (bmB : List Value) : Prop where
  init : findIn K (.ref C) "__init__" = some (some (.ref fI))
  q : excInitIn K C bmB newId = true
  isf : isFn K (.ref fI) = true
  gS : mg "super" = none
  any : nsIn K cStatics "thirdparty.any" = some none
  sm : ks_superIn K C C "__init__" = some (some (.builtin i))
  sB : subIn K (.ref C) (.type B) = some true
  sa : findIn K (.ref C) "__setattr__" = some (some (.builtin "object.__setattr__"))
  ov : excOver K C bmB = true
  tk : takerIn K C fld = some none
  hh : hasDictIn K C = true
  me : mroIn K C (.ref C) = some true
  top : (P.main.scope.names.lookup ("super" : Str)).isSome = false
  FB : ExcBaseFacts B newId i bmB
  KF : KxsFacts B i
  SF : StoreFacts B bmB "object.__setattr__" "object"
/-- the same for a class over KeyError -/
structure VTxtK (P : Program) (K : Frag) (mg : Str → Option Value) (C fI : Addr) : Prop where
  init : findIn K (.ref C) "__init__" = some (some (.ref fI))
  q : excInitIn K C keB "LookupError.__new__" = true
  isf : isFn K (.ref fI) = true
  gS : mg "super" = none
  any : nsIn K cStatics "thirdparty.any" = some none
  sm : ks_superIn K C C "__init__" = some (some (.builtin "KeyError.__init__"))
  sB : subIn K (.ref C) (.type "KeyError") = some true
  sa : findIn K (.ref C) "__setattr__" = some (some (.builtin "object.__setattr__"))
  ov : excOver K C keB = true
  tk : takerIn K C "name" = some none
  hh : hasDictIn K C = true
  me : mroIn K C (.ref C) = some true
  top : (P.main.scope.names.lookup ("super" : Str)).isSome = false
theorem boot_super : bootBuiltins "super" = some (.type "super") := by decide +kernel
/-! ### value -/
abbrev sV_value : Stmt := L2.inClass (K0.top 10) 0
/-- the function of such an __init__ stands at fI -/
def VFn_value (P : Program) (K : Frag) (C fI : Addr) (qual : Str) : Prop := ∃ (oc doc pm kV ct : Value) (od an : Option Addr) (cda cc : Addr) (osl : Array (Option Value)),
    K.lookup fI = some ⟨oc, od, .func (ksFn "__init__" qual (L2.defArgs sV_value) (L2.defBody sV_value) (L2.defScope sV_value) .none kV doc pm an (.ref cda) ct cc), osl⟩ ∧ codeIn K (.ref cda) qual = true ∧
    (∃ ccl cdd vs ccs file tf, K.lookup cda = some ⟨ccl, cdd, .fields vs, ccs⟩ ∧ vs[2]? = some (.str file tf) ∧ ((P.main.file : Str) == file) = true) ∧
    ∃ cl cld csl, K.lookup cc = some ⟨cl, cld, .cell (some (.ref C)), csl⟩
section
variable {P : Program} {w : World} {A : Around} {E : Value → Shared → Prop} {s : Shared} {K : Frag} {mg : Str → Option Value} {h₀ : Heap} {L C fI : Addr} {m : Str → Option Value}
variable {qual fld : Str} {B newId i : String} {bmB : List Value}
theorem v_made_value (T : VTxt P K mg C fI "value" B newId i bmB) (TF : VFn_value P K C fI qual) (M : L2.Mod K mg h₀) (F : Fr h₀ L s.heap m) (hroom : A.depth + 1 < recursionLimit) {v : Value} {Q : Value → Shared → Prop}
    (hq : ∀ (h' : Heap) (tk : Nat) (e t d : Addr) (o : Obj), (∀ b u, s.heap.get? b = some u → h'.get? b = some u) → s.heap.objs.size ≤ e → s.heap.objs.size ≤ d → d ≠ e →
      h'.get? e = some (excObj C t (some d) .none) → h'.get? d = some o → lookIn "value" o = some (some v) → Q (.ref e) { s with heap := h', toks := tk }) :
    wpAny (model P w) A (call (.ref C) [v]) Q E s := by
  obtain ⟨oc, doc, pm, kV, ct, od, an, cda, cc, osl, hfn, hcode, ⟨ccl, cdd, vs, ccs, file, tf, hcda, hvs2, hfile⟩, cl, cld, csl, hcell⟩ := TF
  obtain ⟨mb, nb, hbb⟩ := M.blt
  have X : K.In s.heap := M.kin.keeps F.keep
  obtain ⟨nm, N', qn, bs, bm, hdct, sn, sub, ab, col, dd, k0, k1, k2, k3, k5, hC, hT⟩ := excInit_of X T.q
  obtain ⟨oI, hoI, hcI⟩ : ∃ oI, s.heap.get? fI = some oI ∧ oI.cls = .type "function" := by
    obtain ⟨o, ho, hc⟩ := Option.map_eq_some_iff.mp (show (K.lookup fI).map (·.cls) = some (.type "function") from beq_iff_eq.mp T.isf)
    exact ⟨o, X _ _ ho, hc⟩
  obtain ⟨cdC, hcdC⟩ : ∃ cdC, clsIn K C = some cdC := by
    obtain ⟨z, y, _⟩ := any_some T.hh
    exact ⟨z, y⟩
  obtain ⟨hp, g, dr, tk, os⟩ := s
  dsimp only at hq F X hC hoI
  refine wpAny_call (PX.call_own T.FB hT hC (looks_findIn X T.init) (fun self => exc_bind hoI hcI self) (by show 1 ≤ sizeLine; decide) ?_)
  generalize hh1 : (hp.push (kdv_tup [v])).push (PX.excO C hp.objs.size) = h1
  have k1 : ∀ b u, hp.get? b = some u → h1.get? b = some u := fun b u e => by
    rw [← hh1]
    exact Heap.get?_push_of_some _ (Heap.get?_push_of_some _ e)
  have he : h1.get? (hp.objs.size + 1) = some (excObj C hp.objs.size none .none) := by
    rw [← hh1]
    heap_get
  have s1 : h1.objs.size = hp.objs.size + 2 := by
    rw [← hh1, Heap.size_push, Heap.size_push]
  have X1 : K.In h1 := X.keeps k1
  have hlow : h₀.objs.size < hp.objs.size := Nat.lt_of_le_of_lt F.above F.ns.lt
  refine ks_codeAny_call_defAt (fd := ksFn "__init__" qual (L2.defArgs sV_value) (L2.defBody sV_value) (L2.defScope sV_value) .none kV doc pm an (.ref cda) ct cc) (body := L2.defBody sV_value) (binds := [("self", Value.ref (hp.objs.size + 1)), ("value", v)])
    (by show A.depth + 1 < recursionLimit; exact hroom) (X1 _ _ hfn) rfl ((M.nolimit.keeps F.keep).keeps k1) (codeRec_of X1 hcode) rfl (BindsTo.of_eq (by first | rfl | with_unfolding_all rfl))
    (by show ∀ x ∈ (L2.defScope sV_value).names, x.2 ≠ NameKind.cell; decide) (by simp only [List.mem_cons, List.not_mem_nil, or_false, forall_eq_or_imp, forall_eq]; exact ⟨rfl, rfl⟩) (fun h2 hn2 k2 => ?_)
  have F2 : Fr hp h1.objs.size h2 (fun x => ([("self", Value.ref (hp.objs.size + 1)), ("value", v)] : List (Str × Value)).reverse.lookup x) :=
    ⟨hn2, fun b o e => k2 b o (k1 b o e), by
      show hp.objs.size ≤ h1.objs.size
      omega⟩
  have N2 : News hp h1.objs.size h2 [(hp.objs.size + 1, excObj C hp.objs.size none .none)] := fun p hp' => by
    rcases List.mem_cons.mp hp' with rfl | z
    · refine ⟨k2 _ _ he, ?_, ?_⟩
      · show hp.objs.size + 1 ≠ h1.objs.size
        omega
      · cases z : hp.get? (hp.objs.size + 1) with
        | none => rfl
        | some o =>
          have z1 : hp.objs.size + 1 < hp.objs.size := Heap.lt_size z
          omega
    · cases z
  show _root_.PySem.wpAt _ _ _ (execs (L2.defBody sV_value) (ksEnv qual (L2.defScope sV_value) h1.objs.size fI (.ref cda) cc)) _ _ _
  refine ks_wpAt_execs_cons (ks_wpAt_Expr_any (ks_wpAt_MethodCall ?_))
  have X2 : K.In h2 := X1.keeps k2
  have G2 : h2.Ns mainGlobals mg := (M.glob.keeps F.keep).keeps fun b o e => k2 b o (k1 b o e)
  have B2 : h2.Ns builtinsNs mb := (nb.keeps F.keep).keeps fun b o e => k2 b o (k1 b o e)
  have I2 : InstAt h2 (hp.objs.size + 1) (excObj C hp.objs.size none .none) C none := ⟨k2 _ _ he, rfl, rfl, trivial⟩
  obtain ⟨oD, hD1, hD2⟩ : ∃ oD, h2.get? C = some oD ∧ oD.data = .cls cdC := by
    unfold clsIn at hcdC
    split at hcdC
    · rename_i c d cd' sl ho
      cases hcdC
      exact ⟨_, X2 _ _ ho, rfl⟩
    · cases hcdC
  refine ks_wpAt_super_base (env := ksEnv qual (L2.defScope sV_value) h1.objs.size fI (.ref cda) cc) rfl rfl rfl rfl (X2 _ _ hfn) rfl rfl rfl (X2 _ _ hcda) rfl hvs2 hfile T.top ?_
  refine ks_loadName_global rfl rfl (loadGlobal_builtin (env := ksEnv qual (L2.defScope sV_value) h1.objs.size fI (.ref cda) cc) G2 T.gS B2 ((hbb _ (by decide +kernel)).trans boot_super) ⟨rfl, ?_⟩)
  refine wpAny_loadName_free rfl rfl rfl ⟨_, X2 _ _ hcell, rfl⟩ ?_
  refine wpAny_loadName_local (v := .ref (hp.objs.size + 1)) rfl rfl F2.ns (by first | rfl | with_unfolding_all rfl | kernel_rfl) ?_
  refine ks_wpAny_isType_cls hD1 hD2 ⟨rfl, ?_⟩
  refine ks_wpAny_call_super hD1 hD2 I2.at_ I2.cls (fun c e => nomatch e) (looks_mroIn X2 T.me) (fun h3 e3 k3 => ?_)
  obtain ⟨F3, N3, _⟩ := ks_newsPush (s := ⟨h2, g, dr, 0, os⟩) F2 N2 rfl e3 k3
  have I3 : InstAt h3 (hp.objs.size + 1) (excObj C hp.objs.size none .none) C none := ⟨k3 _ _ (k2 _ _ he), rfl, rfl, trivial⟩
  refine kxs_method (D := C) T.KF F3 X N3 (by simp) I3 T.any T.sm T.sB rfl (fun q h4 F4 N4 lt4 => ?_)
  refine kxs_callWith1 (i := i) (x := hp.objs.size + 1) N4 (by simp) ?_ rfl rfl
  refine Calls.spliced_cons ?_
  refine Calls.Constant_str (k := 0) (pos := ⟨0, 0, 0, 0⟩) ?_
  refine Calls.spliced_nil ⟨kxs_at (i := i) N4 (by simp), ?_⟩
  have U4 : UpdF (hp.objs.size + 1) (excObj C hp.objs.size none .none) [(q, kxs_mw i (hp.objs.size + 1)), (h2.objs.size, ks_superObj C (hp.objs.size + 1) C), (hp.objs.size + 1, excObj C hp.objs.size none .none)]
      (fun o' => [(q, kxs_mw i (hp.objs.size + 1)), (h2.objs.size, ks_superObj C (hp.objs.size + 1) C), (hp.objs.size + 1, o')]) := by
    refine .tail ?_ (.tail ?_ (.head fun p z => nomatch z))
    · show q ≠ hp.objs.size + 1
      exact Nat.ne_of_gt (lt4 (hp.objs.size + 1, excObj C hp.objs.size none .none) (by simp))
    · show h2.objs.size ≠ hp.objs.size + 1
      exact Nat.ne_of_gt (Heap.lt_size (k2 _ _ he))
  refine kxs_call F4 X N4 T.FB T.q (by simp) U4 (by show 1 ≤ sizeLine; decide) (fun t5 h5 F5 N5 lt5 => ?_)
  refine ks_wpAt_execs_cons (ks_wpAt_Assign_Attr (wpAt_of_wpAny ?_))
  refine wpAny_Name ?_
  refine wpAny_loadName_local (v := v) rfl rfl F5.ns (by first | rfl | with_unfolding_all rfl | kernel_rfl) ?_
  refine wpAny_Name ?_
  refine wpAny_loadName_local (v := .ref (hp.objs.size + 1)) rfl rfl F5.ns (by first | rfl | with_unfolding_all rfl | kernel_rfl) ?_
  have ne1 : t5 ≠ hp.objs.size + 1 := Nat.ne_of_gt (lt5 (hp.objs.size + 1, excObj C hp.objs.size none .none) (by simp))
  have U5 : ∀ o5 : Obj, UpdF (hp.objs.size + 1) (excObj C t5 none .none) [(t5, o5), (q, kxs_mw i (hp.objs.size + 1)), (h2.objs.size, ks_superObj C (hp.objs.size + 1) C), (hp.objs.size + 1, excObj C t5 none .none)]
      (fun o' => [(t5, o5), (q, kxs_mw i (hp.objs.size + 1)), (h2.objs.size, ks_superObj C (hp.objs.size + 1) C), (hp.objs.size + 1, o')]) := fun o5 =>
    .tail ne1 (.tail (Nat.ne_of_gt (lt4 (hp.objs.size + 1, excObj C hp.objs.size none .none) (by simp))) (.tail (Nat.ne_of_gt (Heap.lt_size (k2 _ _ he))) (.head fun p z => nomatch z)))
  refine set_exc0 T.SF F5 X N5 (by simp) T.sa T.ov T.tk T.hh rfl (U5 _) (by show 1 ≤ 1000; decide) (fun dx h6 F6 N6 lt6 => ?_)
  refine wpAt_of_wpAny (wpAny_execs_nil ⟨rfl, ?_⟩)
  refine hq h6 _ (hp.objs.size + 1) t5 dx _ F6.keep (Nat.le_succ _) ?_ ?_ (N6 (hp.objs.size + 1, excObj C t5 (some dx) .none) (by simp)).1 (N6 _ (List.mem_cons_self)).1 ?_
  · exact Nat.le_of_lt (Nat.lt_of_succ_lt (lt6 (hp.objs.size + 1, excObj C t5 none .none) (by simp)))
  · exact Nat.ne_of_gt (lt6 (hp.objs.size + 1, excObj C t5 none .none) (by simp))
  · first | rfl | with_unfolding_all rfl | simp [lookIn, putL, Value.isStr]
end
/-! ### name -/
abbrev sV_name : Stmt := L2.inClass (K0.top 11) 0
/-- the function of such an __init__ stands at fI -/
def VFn_name (P : Program) (K : Frag) (C fI : Addr) (qual : Str) : Prop := ∃ (oc doc pm kV ct : Value) (od an : Option Addr) (cda cc : Addr) (osl : Array (Option Value)),
    K.lookup fI = some ⟨oc, od, .func (ksFn "__init__" qual (L2.defArgs sV_name) (L2.defBody sV_name) (L2.defScope sV_name) .none kV doc pm an (.ref cda) ct cc), osl⟩ ∧ codeIn K (.ref cda) qual = true ∧
    (∃ ccl cdd vs ccs file tf, K.lookup cda = some ⟨ccl, cdd, .fields vs, ccs⟩ ∧ vs[2]? = some (.str file tf) ∧ ((P.main.file : Str) == file) = true) ∧
    ∃ cl cld csl, K.lookup cc = some ⟨cl, cld, .cell (some (.ref C)), csl⟩
section
variable {P : Program} {w : World} {A : Around} {E : Value → Shared → Prop} {s : Shared} {K : Frag} {mg : Str → Option Value} {h₀ : Heap} {L C fI : Addr} {m : Str → Option Value}
variable {qual fld : Str} {B newId i : String} {bmB : List Value}
theorem v_made_name (T : VTxtK P K mg C fI) (TF : VFn_name P K C fI qual) (M : L2.Mod K mg h₀) (F : Fr h₀ L s.heap m) (hroom : A.depth + 1 < recursionLimit) {v : Value} {Q : Value → Shared → Prop}
    (hq : ∀ (h' : Heap) (tk : Nat) (e t d : Addr) (o : Obj), (∀ b u, s.heap.get? b = some u → h'.get? b = some u) → s.heap.objs.size ≤ e → s.heap.objs.size ≤ d → d ≠ e →
      h'.get? e = some (excObj C t (some d) .none) → h'.get? d = some o → lookIn "name" o = some (some v) → Q (.ref e) { s with heap := h', toks := tk }) :
    wpAny (model P w) A (call (.ref C) [v]) Q E s := by
  obtain ⟨oc, doc, pm, kV, ct, od, an, cda, cc, osl, hfn, hcode, ⟨ccl, cdd, vs, ccs, file, tf, hcda, hvs2, hfile⟩, cl, cld, csl, hcell⟩ := TF
  obtain ⟨mb, nb, hbb⟩ := M.blt
  have X : K.In s.heap := M.kin.keeps F.keep
  obtain ⟨nm, N', qn, bs, bm, hdct, sn, sub, ab, col, dd, k0, k1, k2, k3, k5, hC, hT⟩ := excInit_of X T.q
  obtain ⟨oI, hoI, hcI⟩ : ∃ oI, s.heap.get? fI = some oI ∧ oI.cls = .type "function" := by
    obtain ⟨o, ho, hc⟩ := Option.map_eq_some_iff.mp (show (K.lookup fI).map (·.cls) = some (.type "function") from beq_iff_eq.mp T.isf)
    exact ⟨o, X _ _ ho, hc⟩
  obtain ⟨cdC, hcdC⟩ : ∃ cdC, clsIn K C = some cdC := by
    obtain ⟨z, y, _⟩ := any_some T.hh
    exact ⟨z, y⟩
  obtain ⟨hp, g, dr, tk, os⟩ := s
  dsimp only at hq F X hC hoI
  have hB : (Value.ref C :: bm).contains (.type "LookupError") = true := by
    rw [List.contains_cons, hT]
    rfl
  have hA : (Value.ref C :: bm).contains (.type "AttributeError") = false := by
    rw [List.contains_cons, hT]
    rfl
  have hN : (Value.ref C :: bm).contains (.type "NameError") = false := by
    rw [List.contains_cons, hT]
    rfl
  refine wpAny_call (n_call PySem.F.excBase_LookupError hB hA hN hC (looks_findIn X T.init) (fun self => exc_bind hoI hcI self) (by show 1 ≤ sizeLine; decide) ?_)
  generalize hh1 : (hp.push (kdv_tup [v])).push (PX.excO C hp.objs.size) = h1
  have k1 : ∀ b u, hp.get? b = some u → h1.get? b = some u := fun b u e => by
    rw [← hh1]
    exact Heap.get?_push_of_some _ (Heap.get?_push_of_some _ e)
  have he : h1.get? (hp.objs.size + 1) = some (excObj C hp.objs.size none .none) := by
    rw [← hh1]
    heap_get
  have s1 : h1.objs.size = hp.objs.size + 2 := by
    rw [← hh1, Heap.size_push, Heap.size_push]
  have X1 : K.In h1 := X.keeps k1
  have hlow : h₀.objs.size < hp.objs.size := Nat.lt_of_le_of_lt F.above F.ns.lt
  refine ks_codeAny_call_defAt (fd := ksFn "__init__" qual (L2.defArgs sV_name) (L2.defBody sV_name) (L2.defScope sV_name) .none kV doc pm an (.ref cda) ct cc) (body := L2.defBody sV_name) (binds := [("self", Value.ref (hp.objs.size + 1)), ("name", v)])
    (by show A.depth + 1 < recursionLimit; exact hroom) (X1 _ _ hfn) rfl ((M.nolimit.keeps F.keep).keeps k1) (codeRec_of X1 hcode) rfl (BindsTo.of_eq (by first | rfl | with_unfolding_all rfl))
    (by show ∀ x ∈ (L2.defScope sV_name).names, x.2 ≠ NameKind.cell; decide) (by simp only [List.mem_cons, List.not_mem_nil, or_false, forall_eq_or_imp, forall_eq]; exact ⟨rfl, rfl⟩) (fun h2 hn2 k2 => ?_)
  have F2 : Fr hp h1.objs.size h2 (fun x => ([("self", Value.ref (hp.objs.size + 1)), ("name", v)] : List (Str × Value)).reverse.lookup x) :=
    ⟨hn2, fun b o e => k2 b o (k1 b o e), by
      show hp.objs.size ≤ h1.objs.size
      omega⟩
  have N2 : News hp h1.objs.size h2 [(hp.objs.size + 1, excObj C hp.objs.size none .none)] := fun p hp' => by
    rcases List.mem_cons.mp hp' with rfl | z
    · refine ⟨k2 _ _ he, ?_, ?_⟩
      · show hp.objs.size + 1 ≠ h1.objs.size
        omega
      · cases z : hp.get? (hp.objs.size + 1) with
        | none => rfl
        | some o =>
          have z1 : hp.objs.size + 1 < hp.objs.size := Heap.lt_size z
          omega
    · cases z
  show _root_.PySem.wpAt _ _ _ (execs (L2.defBody sV_name) (ksEnv qual (L2.defScope sV_name) h1.objs.size fI (.ref cda) cc)) _ _ _
  refine ks_wpAt_execs_cons (ks_wpAt_Expr_any (ks_wpAt_MethodCall ?_))
  have X2 : K.In h2 := X1.keeps k2
  have G2 : h2.Ns mainGlobals mg := (M.glob.keeps F.keep).keeps fun b o e => k2 b o (k1 b o e)
  have B2 : h2.Ns builtinsNs mb := (nb.keeps F.keep).keeps fun b o e => k2 b o (k1 b o e)
  have I2 : InstAt h2 (hp.objs.size + 1) (excObj C hp.objs.size none .none) C none := ⟨k2 _ _ he, rfl, rfl, trivial⟩
  obtain ⟨oD, hD1, hD2⟩ : ∃ oD, h2.get? C = some oD ∧ oD.data = .cls cdC := by
    unfold clsIn at hcdC
    split at hcdC
    · rename_i c d cd' sl ho
      cases hcdC
      exact ⟨_, X2 _ _ ho, rfl⟩
    · cases hcdC
  refine ks_wpAt_super_base (env := ksEnv qual (L2.defScope sV_name) h1.objs.size fI (.ref cda) cc) rfl rfl rfl rfl (X2 _ _ hfn) rfl rfl rfl (X2 _ _ hcda) rfl hvs2 hfile T.top ?_
  refine ks_loadName_global rfl rfl (loadGlobal_builtin (env := ksEnv qual (L2.defScope sV_name) h1.objs.size fI (.ref cda) cc) G2 T.gS B2 ((hbb _ (by decide +kernel)).trans boot_super) ⟨rfl, ?_⟩)
  refine wpAny_loadName_free rfl rfl rfl ⟨_, X2 _ _ hcell, rfl⟩ ?_
  refine wpAny_loadName_local (v := .ref (hp.objs.size + 1)) rfl rfl F2.ns (by first | rfl | with_unfolding_all rfl | kernel_rfl) ?_
  refine ks_wpAny_isType_cls hD1 hD2 ⟨rfl, ?_⟩
  refine ks_wpAny_call_super hD1 hD2 I2.at_ I2.cls (fun c e => nomatch e) (looks_mroIn X2 T.me) (fun h3 e3 k3 => ?_)
  obtain ⟨F3, N3, _⟩ := ks_newsPush (s := ⟨h2, g, dr, 0, os⟩) F2 N2 rfl e3 k3
  have I3 : InstAt h3 (hp.objs.size + 1) (excObj C hp.objs.size none .none) C none := ⟨k3 _ _ (k2 _ _ he), rfl, rfl, trivial⟩
  refine kxs_method (D := C) ke_kxs F3 X N3 (by simp) I3 T.any T.sm T.sB rfl (fun q h4 F4 N4 lt4 => ?_)
  refine kxs_callWith1 (i := "KeyError.__init__") (x := hp.objs.size + 1) N4 (by simp) ?_ rfl rfl
  refine Calls.spliced_cons ?_
  refine Calls.Constant_str (k := 0) (pos := ⟨0, 0, 0, 0⟩) ?_
  refine Calls.spliced_nil ⟨kxs_at (i := "KeyError.__init__") N4 (by simp), ?_⟩
  have he4 := (N4 (hp.objs.size + 1, excObj C hp.objs.size none .none) (by simp)).1
  have hu4 := (N4 (q, kxs_mw "KeyError.__init__" (hp.objs.size + 1)) (by simp)).1
  have hs4 := (N4 (h2.objs.size, ks_superObj C (hp.objs.size + 1) C) (by simp)).1
  have neq : q ≠ hp.objs.size + 1 := Nat.ne_of_gt (lt4 (hp.objs.size + 1, excObj C hp.objs.size none .none) (by simp))
  have nes : h2.objs.size ≠ hp.objs.size + 1 := Nat.ne_of_gt (Heap.lt_size (k2 _ _ he))
  refine ke_bw (F4.keep _ _ hC) he4 hu4 (by show 1 ≤ sizeLine; decide) (fun h5 t5 k5 e5 => ?_)
  have F5 : Fr hp h1.objs.size h5 (fun x => ([("self", Value.ref (hp.objs.size + 1)), ("name", v)] : List (Str × Value)).reverse.lookup x) := by
    obtain ⟨oL, es, ep, hL, r⟩ := F4.ns
    refine ⟨⟨oL, es, ep, k5 _ _ ?_ hL, r⟩, fun b o z => k5 b o (fun y => ?_) (F4.keep b o z), F4.above⟩
    · show h1.objs.size ≠ hp.objs.size + 1
      omega
    · have y2 : b < hp.objs.size := Heap.lt_size z
      rw [y] at y2
      exact Nat.not_lt.mpr (Nat.le_succ _) y2
  have N5 : News hp h1.objs.size h5 [(q, kxs_mw "KeyError.__init__" (hp.objs.size + 1)), (h2.objs.size, ks_superObj C (hp.objs.size + 1) C), (hp.objs.size + 1, excObj C t5 none .none)] := by
    intro p hp'
    simp only [List.mem_cons, List.not_mem_nil, or_false] at hp'
    rcases hp' with rfl | rfl | rfl
    · exact ⟨k5 _ _ neq hu4, (N4 (q, kxs_mw "KeyError.__init__" (hp.objs.size + 1)) (by simp)).2⟩
    · exact ⟨k5 _ _ nes hs4, (N4 (h2.objs.size, ks_superObj C (hp.objs.size + 1) C) (by simp)).2⟩
    · exact ⟨e5, (N4 (hp.objs.size + 1, excObj C hp.objs.size none .none) (by simp)).2⟩
  refine ks_wpAt_execs_cons (ks_wpAt_Assign_Attr (wpAt_of_wpAny ?_))
  refine wpAny_Name ?_
  refine wpAny_loadName_local (v := v) rfl rfl F5.ns (by first | rfl | with_unfolding_all rfl | kernel_rfl) ?_
  refine wpAny_Name ?_
  refine wpAny_loadName_local (v := .ref (hp.objs.size + 1)) rfl rfl F5.ns (by first | rfl | with_unfolding_all rfl | kernel_rfl) ?_
  have U5 : UpdF (hp.objs.size + 1) (excObj C t5 none .none) [(q, kxs_mw "KeyError.__init__" (hp.objs.size + 1)), (h2.objs.size, ks_superObj C (hp.objs.size + 1) C), (hp.objs.size + 1, excObj C t5 none .none)]
      (fun o' => [(q, kxs_mw "KeyError.__init__" (hp.objs.size + 1)), (h2.objs.size, ks_superObj C (hp.objs.size + 1) C), (hp.objs.size + 1, o')]) := .tail neq (.tail nes (.head fun p z => nomatch z))
  refine set_exc0 ke_store F5 X N5 (by simp) T.sa T.ov T.tk T.hh rfl U5 (by show 1 ≤ 1000; decide) (fun dx h6 F6 N6 lt6 => ?_)
  refine wpAt_of_wpAny (wpAny_execs_nil ⟨rfl, ?_⟩)
  refine hq h6 _ (hp.objs.size + 1) t5 dx _ F6.keep (Nat.le_succ _) ?_ ?_ (N6 (hp.objs.size + 1, excObj C t5 (some dx) .none) (by simp)).1 (N6 _ (List.mem_cons_self)).1 ?_
  · exact Nat.le_of_lt (Nat.lt_of_succ_lt (lt6 (hp.objs.size + 1, excObj C t5 none .none) (by simp)))
  · exact Nat.ne_of_gt (lt6 (hp.objs.size + 1, excObj C t5 none .none) (by simp))
  · first | rfl | with_unfolding_all rfl | simp [lookIn, putL, Value.isStr]
end
/-! ### limit -/
abbrev sV_limit : Stmt := L2.inClass (K0.top 12) 0
/-- the function of such an __init__ stands at fI -/
def VFn_limit (P : Program) (K : Frag) (C fI : Addr) (qual : Str) : Prop := ∃ (oc doc pm kV ct : Value) (od an : Option Addr) (cda cc : Addr) (osl : Array (Option Value)),
    K.lookup fI = some ⟨oc, od, .func (ksFn "__init__" qual (L2.defArgs sV_limit) (L2.defBody sV_limit) (L2.defScope sV_limit) .none kV doc pm an (.ref cda) ct cc), osl⟩ ∧ codeIn K (.ref cda) qual = true ∧
    (∃ ccl cdd vs ccs file tf, K.lookup cda = some ⟨ccl, cdd, .fields vs, ccs⟩ ∧ vs[2]? = some (.str file tf) ∧ ((P.main.file : Str) == file) = true) ∧
    ∃ cl cld csl, K.lookup cc = some ⟨cl, cld, .cell (some (.ref C)), csl⟩
section
variable {P : Program} {w : World} {A : Around} {E : Value → Shared → Prop} {s : Shared} {K : Frag} {mg : Str → Option Value} {h₀ : Heap} {L C fI : Addr} {m : Str → Option Value}
variable {qual fld : Str} {B newId i : String} {bmB : List Value}
theorem v_made_limit (T : VTxt P K mg C fI "limit" B newId i bmB) (TF : VFn_limit P K C fI qual) (M : L2.Mod K mg h₀) (F : Fr h₀ L s.heap m) (hroom : A.depth + 1 < recursionLimit) {v : Value} {Q : Value → Shared → Prop}
    (hq : ∀ (h' : Heap) (tk : Nat) (e t d : Addr) (o : Obj), (∀ b u, s.heap.get? b = some u → h'.get? b = some u) → s.heap.objs.size ≤ e → s.heap.objs.size ≤ d → d ≠ e →
      h'.get? e = some (excObj C t (some d) .none) → h'.get? d = some o → lookIn "limit" o = some (some v) → Q (.ref e) { s with heap := h', toks := tk }) :
    wpAny (model P w) A (call (.ref C) [v]) Q E s := by
  obtain ⟨oc, doc, pm, kV, ct, od, an, cda, cc, osl, hfn, hcode, ⟨ccl, cdd, vs, ccs, file, tf, hcda, hvs2, hfile⟩, cl, cld, csl, hcell⟩ := TF
  obtain ⟨mb, nb, hbb⟩ := M.blt
  have X : K.In s.heap := M.kin.keeps F.keep
  obtain ⟨nm, N', qn, bs, bm, hdct, sn, sub, ab, col, dd, k0, k1, k2, k3, k5, hC, hT⟩ := excInit_of X T.q
  obtain ⟨oI, hoI, hcI⟩ : ∃ oI, s.heap.get? fI = some oI ∧ oI.cls = .type "function" := by
    obtain ⟨o, ho, hc⟩ := Option.map_eq_some_iff.mp (show (K.lookup fI).map (·.cls) = some (.type "function") from beq_iff_eq.mp T.isf)
    exact ⟨o, X _ _ ho, hc⟩
  obtain ⟨cdC, hcdC⟩ : ∃ cdC, clsIn K C = some cdC := by
    obtain ⟨z, y, _⟩ := any_some T.hh
    exact ⟨z, y⟩
  obtain ⟨hp, g, dr, tk, os⟩ := s
  dsimp only at hq F X hC hoI
  refine wpAny_call (PX.call_own T.FB hT hC (looks_findIn X T.init) (fun self => exc_bind hoI hcI self) (by show 1 ≤ sizeLine; decide) ?_)
  generalize hh1 : (hp.push (kdv_tup [v])).push (PX.excO C hp.objs.size) = h1
  have k1 : ∀ b u, hp.get? b = some u → h1.get? b = some u := fun b u e => by
    rw [← hh1]
    exact Heap.get?_push_of_some _ (Heap.get?_push_of_some _ e)
  have he : h1.get? (hp.objs.size + 1) = some (excObj C hp.objs.size none .none) := by
    rw [← hh1]
    heap_get
  have s1 : h1.objs.size = hp.objs.size + 2 := by
    rw [← hh1, Heap.size_push, Heap.size_push]
  have X1 : K.In h1 := X.keeps k1
  have hlow : h₀.objs.size < hp.objs.size := Nat.lt_of_le_of_lt F.above F.ns.lt
  refine ks_codeAny_call_defAt (fd := ksFn "__init__" qual (L2.defArgs sV_limit) (L2.defBody sV_limit) (L2.defScope sV_limit) .none kV doc pm an (.ref cda) ct cc) (body := L2.defBody sV_limit) (binds := [("self", Value.ref (hp.objs.size + 1)), ("limit", v)])
    (by show A.depth + 1 < recursionLimit; exact hroom) (X1 _ _ hfn) rfl ((M.nolimit.keeps F.keep).keeps k1) (codeRec_of X1 hcode) rfl (BindsTo.of_eq (by first | rfl | with_unfolding_all rfl))
    (by show ∀ x ∈ (L2.defScope sV_limit).names, x.2 ≠ NameKind.cell; decide) (by simp only [List.mem_cons, List.not_mem_nil, or_false, forall_eq_or_imp, forall_eq]; exact ⟨rfl, rfl⟩) (fun h2 hn2 k2 => ?_)
  have F2 : Fr hp h1.objs.size h2 (fun x => ([("self", Value.ref (hp.objs.size + 1)), ("limit", v)] : List (Str × Value)).reverse.lookup x) :=
    ⟨hn2, fun b o e => k2 b o (k1 b o e), by
      show hp.objs.size ≤ h1.objs.size
      omega⟩
  have N2 : News hp h1.objs.size h2 [(hp.objs.size + 1, excObj C hp.objs.size none .none)] := fun p hp' => by
    rcases List.mem_cons.mp hp' with rfl | z
    · refine ⟨k2 _ _ he, ?_, ?_⟩
      · show hp.objs.size + 1 ≠ h1.objs.size
        omega
      · cases z : hp.get? (hp.objs.size + 1) with
        | none => rfl
        | some o =>
          have z1 : hp.objs.size + 1 < hp.objs.size := Heap.lt_size z
          omega
    · cases z
  show _root_.PySem.wpAt _ _ _ (execs (L2.defBody sV_limit) (ksEnv qual (L2.defScope sV_limit) h1.objs.size fI (.ref cda) cc)) _ _ _
  refine ks_wpAt_execs_cons (ks_wpAt_Expr_any (ks_wpAt_MethodCall ?_))
  have X2 : K.In h2 := X1.keeps k2
  have G2 : h2.Ns mainGlobals mg := (M.glob.keeps F.keep).keeps fun b o e => k2 b o (k1 b o e)
  have B2 : h2.Ns builtinsNs mb := (nb.keeps F.keep).keeps fun b o e => k2 b o (k1 b o e)
  have I2 : InstAt h2 (hp.objs.size + 1) (excObj C hp.objs.size none .none) C none := ⟨k2 _ _ he, rfl, rfl, trivial⟩
  obtain ⟨oD, hD1, hD2⟩ : ∃ oD, h2.get? C = some oD ∧ oD.data = .cls cdC := by
    unfold clsIn at hcdC
    split at hcdC
    · rename_i c d cd' sl ho
      cases hcdC
      exact ⟨_, X2 _ _ ho, rfl⟩
    · cases hcdC
  refine ks_wpAt_super_base (env := ksEnv qual (L2.defScope sV_limit) h1.objs.size fI (.ref cda) cc) rfl rfl rfl rfl (X2 _ _ hfn) rfl rfl rfl (X2 _ _ hcda) rfl hvs2 hfile T.top ?_
  refine ks_loadName_global rfl rfl (loadGlobal_builtin (env := ksEnv qual (L2.defScope sV_limit) h1.objs.size fI (.ref cda) cc) G2 T.gS B2 ((hbb _ (by decide +kernel)).trans boot_super) ⟨rfl, ?_⟩)
  refine wpAny_loadName_free rfl rfl rfl ⟨_, X2 _ _ hcell, rfl⟩ ?_
  refine wpAny_loadName_local (v := .ref (hp.objs.size + 1)) rfl rfl F2.ns (by first | rfl | with_unfolding_all rfl | kernel_rfl) ?_
  refine ks_wpAny_isType_cls hD1 hD2 ⟨rfl, ?_⟩
  refine ks_wpAny_call_super hD1 hD2 I2.at_ I2.cls (fun c e => nomatch e) (looks_mroIn X2 T.me) (fun h3 e3 k3 => ?_)
  obtain ⟨F3, N3, _⟩ := ks_newsPush (s := ⟨h2, g, dr, 0, os⟩) F2 N2 rfl e3 k3
  have I3 : InstAt h3 (hp.objs.size + 1) (excObj C hp.objs.size none .none) C none := ⟨k3 _ _ (k2 _ _ he), rfl, rfl, trivial⟩
  refine kxs_method (D := C) T.KF F3 X N3 (by simp) I3 T.any T.sm T.sB rfl (fun q h4 F4 N4 lt4 => ?_)
  refine kxs_callWith1 (i := i) (x := hp.objs.size + 1) N4 (by simp) ?_ rfl rfl
  refine Calls.spliced_cons ?_
  refine Calls.Constant_str (k := 0) (pos := ⟨0, 0, 0, 0⟩) ?_
  refine Calls.spliced_nil ⟨kxs_at (i := i) N4 (by simp), ?_⟩
  have U4 : UpdF (hp.objs.size + 1) (excObj C hp.objs.size none .none) [(q, kxs_mw i (hp.objs.size + 1)), (h2.objs.size, ks_superObj C (hp.objs.size + 1) C), (hp.objs.size + 1, excObj C hp.objs.size none .none)]
      (fun o' => [(q, kxs_mw i (hp.objs.size + 1)), (h2.objs.size, ks_superObj C (hp.objs.size + 1) C), (hp.objs.size + 1, o')]) := by
    refine .tail ?_ (.tail ?_ (.head fun p z => nomatch z))
    · show q ≠ hp.objs.size + 1
      exact Nat.ne_of_gt (lt4 (hp.objs.size + 1, excObj C hp.objs.size none .none) (by simp))
    · show h2.objs.size ≠ hp.objs.size + 1
      exact Nat.ne_of_gt (Heap.lt_size (k2 _ _ he))
  refine kxs_call F4 X N4 T.FB T.q (by simp) U4 (by show 1 ≤ sizeLine; decide) (fun t5 h5 F5 N5 lt5 => ?_)
  refine ks_wpAt_execs_cons (ks_wpAt_Assign_Attr (wpAt_of_wpAny ?_))
  refine wpAny_Name ?_
  refine wpAny_loadName_local (v := v) rfl rfl F5.ns (by first | rfl | with_unfolding_all rfl | kernel_rfl) ?_
  refine wpAny_Name ?_
  refine wpAny_loadName_local (v := .ref (hp.objs.size + 1)) rfl rfl F5.ns (by first | rfl | with_unfolding_all rfl | kernel_rfl) ?_
  have ne1 : t5 ≠ hp.objs.size + 1 := Nat.ne_of_gt (lt5 (hp.objs.size + 1, excObj C hp.objs.size none .none) (by simp))
  have U5 : ∀ o5 : Obj, UpdF (hp.objs.size + 1) (excObj C t5 none .none) [(t5, o5), (q, kxs_mw i (hp.objs.size + 1)), (h2.objs.size, ks_superObj C (hp.objs.size + 1) C), (hp.objs.size + 1, excObj C t5 none .none)]
      (fun o' => [(t5, o5), (q, kxs_mw i (hp.objs.size + 1)), (h2.objs.size, ks_superObj C (hp.objs.size + 1) C), (hp.objs.size + 1, o')]) := fun o5 =>
    .tail ne1 (.tail (Nat.ne_of_gt (lt4 (hp.objs.size + 1, excObj C hp.objs.size none .none) (by simp))) (.tail (Nat.ne_of_gt (Heap.lt_size (k2 _ _ he))) (.head fun p z => nomatch z)))
  refine set_exc0 T.SF F5 X N5 (by simp) T.sa T.ov T.tk T.hh rfl (U5 _) (by show 1 ≤ 1000; decide) (fun dx h6 F6 N6 lt6 => ?_)
  refine wpAt_of_wpAny (wpAny_execs_nil ⟨rfl, ?_⟩)
  refine hq h6 _ (hp.objs.size + 1) t5 dx _ F6.keep (Nat.le_succ _) ?_ ?_ (N6 (hp.objs.size + 1, excObj C t5 (some dx) .none) (by simp)).1 (N6 _ (List.mem_cons_self)).1 ?_
  · exact Nat.le_of_lt (Nat.lt_of_succ_lt (lt6 (hp.objs.size + 1, excObj C t5 none .none) (by simp)))
  · exact Nat.ne_of_gt (lt6 (hp.objs.size + 1, excObj C t5 none .none) (by simp))
  · first | rfl | with_unfolding_all rfl | simp [lookIn, putL, Value.isStr]
end
/-! ### many -/
abbrev sV_many : Stmt := L2.inClass (K0.top 13) 0
/-- the function of such an __init__ stands at fI -/
def VFn_many (P : Program) (K : Frag) (C fI : Addr) (qual : Str) : Prop := ∃ (oc doc pm kV ct : Value) (od an : Option Addr) (cda cc : Addr) (osl : Array (Option Value)),
    K.lookup fI = some ⟨oc, od, .func (ksFn "__init__" qual (L2.defArgs sV_many) (L2.defBody sV_many) (L2.defScope sV_many) .none kV doc pm an (.ref cda) ct cc), osl⟩ ∧ codeIn K (.ref cda) qual = true ∧
    (∃ ccl cdd vs ccs file tf, K.lookup cda = some ⟨ccl, cdd, .fields vs, ccs⟩ ∧ vs[2]? = some (.str file tf) ∧ ((P.main.file : Str) == file) = true) ∧
    ∃ cl cld csl, K.lookup cc = some ⟨cl, cld, .cell (some (.ref C)), csl⟩
section
variable {P : Program} {w : World} {A : Around} {E : Value → Shared → Prop} {s : Shared} {K : Frag} {mg : Str → Option Value} {h₀ : Heap} {L C fI : Addr} {m : Str → Option Value}
variable {qual fld : Str} {B newId i : String} {bmB : List Value}
theorem v_made_many (T : VTxt P K mg C fI "many" B newId i bmB) (TF : VFn_many P K C fI qual) (M : L2.Mod K mg h₀) (F : Fr h₀ L s.heap m) (hroom : A.depth + 1 < recursionLimit) {v : Value} {Q : Value → Shared → Prop}
    (hq : ∀ (h' : Heap) (tk : Nat) (e t d : Addr) (o : Obj), (∀ b u, s.heap.get? b = some u → h'.get? b = some u) → s.heap.objs.size ≤ e → s.heap.objs.size ≤ d → d ≠ e →
      h'.get? e = some (excObj C t (some d) .none) → h'.get? d = some o → lookIn "many" o = some (some v) → Q (.ref e) { s with heap := h', toks := tk }) :
    wpAny (model P w) A (call (.ref C) [v]) Q E s := by
  obtain ⟨oc, doc, pm, kV, ct, od, an, cda, cc, osl, hfn, hcode, ⟨ccl, cdd, vs, ccs, file, tf, hcda, hvs2, hfile⟩, cl, cld, csl, hcell⟩ := TF
  obtain ⟨mb, nb, hbb⟩ := M.blt
  have X : K.In s.heap := M.kin.keeps F.keep
  obtain ⟨nm, N', qn, bs, bm, hdct, sn, sub, ab, col, dd, k0, k1, k2, k3, k5, hC, hT⟩ := excInit_of X T.q
  obtain ⟨oI, hoI, hcI⟩ : ∃ oI, s.heap.get? fI = some oI ∧ oI.cls = .type "function" := by
    obtain ⟨o, ho, hc⟩ := Option.map_eq_some_iff.mp (show (K.lookup fI).map (·.cls) = some (.type "function") from beq_iff_eq.mp T.isf)
    exact ⟨o, X _ _ ho, hc⟩
  obtain ⟨cdC, hcdC⟩ : ∃ cdC, clsIn K C = some cdC := by
    obtain ⟨z, y, _⟩ := any_some T.hh
    exact ⟨z, y⟩
  obtain ⟨hp, g, dr, tk, os⟩ := s
  dsimp only at hq F X hC hoI
  refine wpAny_call (PX.call_own T.FB hT hC (looks_findIn X T.init) (fun self => exc_bind hoI hcI self) (by show 1 ≤ sizeLine; decide) ?_)
  generalize hh1 : (hp.push (kdv_tup [v])).push (PX.excO C hp.objs.size) = h1
  have k1 : ∀ b u, hp.get? b = some u → h1.get? b = some u := fun b u e => by
    rw [← hh1]
    exact Heap.get?_push_of_some _ (Heap.get?_push_of_some _ e)
  have he : h1.get? (hp.objs.size + 1) = some (excObj C hp.objs.size none .none) := by
    rw [← hh1]
    heap_get
  have s1 : h1.objs.size = hp.objs.size + 2 := by
    rw [← hh1, Heap.size_push, Heap.size_push]
  have X1 : K.In h1 := X.keeps k1
  have hlow : h₀.objs.size < hp.objs.size := Nat.lt_of_le_of_lt F.above F.ns.lt
  refine ks_codeAny_call_defAt (fd := ksFn "__init__" qual (L2.defArgs sV_many) (L2.defBody sV_many) (L2.defScope sV_many) .none kV doc pm an (.ref cda) ct cc) (body := L2.defBody sV_many) (binds := [("self", Value.ref (hp.objs.size + 1)), ("many", v)])
    (by show A.depth + 1 < recursionLimit; exact hroom) (X1 _ _ hfn) rfl ((M.nolimit.keeps F.keep).keeps k1) (codeRec_of X1 hcode) rfl (BindsTo.of_eq (by first | rfl | with_unfolding_all rfl))
    (by show ∀ x ∈ (L2.defScope sV_many).names, x.2 ≠ NameKind.cell; decide) (by simp only [List.mem_cons, List.not_mem_nil, or_false, forall_eq_or_imp, forall_eq]; exact ⟨rfl, rfl⟩) (fun h2 hn2 k2 => ?_)
  have F2 : Fr hp h1.objs.size h2 (fun x => ([("self", Value.ref (hp.objs.size + 1)), ("many", v)] : List (Str × Value)).reverse.lookup x) :=
    ⟨hn2, fun b o e => k2 b o (k1 b o e), by
      show hp.objs.size ≤ h1.objs.size
      omega⟩
  have N2 : News hp h1.objs.size h2 [(hp.objs.size + 1, excObj C hp.objs.size none .none)] := fun p hp' => by
    rcases List.mem_cons.mp hp' with rfl | z
    · refine ⟨k2 _ _ he, ?_, ?_⟩
      · show hp.objs.size + 1 ≠ h1.objs.size
        omega
      · cases z : hp.get? (hp.objs.size + 1) with
        | none => rfl
        | some o =>
          have z1 : hp.objs.size + 1 < hp.objs.size := Heap.lt_size z
          omega
    · cases z
  show _root_.PySem.wpAt _ _ _ (execs (L2.defBody sV_many) (ksEnv qual (L2.defScope sV_many) h1.objs.size fI (.ref cda) cc)) _ _ _
  refine ks_wpAt_execs_cons (ks_wpAt_Expr_any (ks_wpAt_MethodCall ?_))
  have X2 : K.In h2 := X1.keeps k2
  have G2 : h2.Ns mainGlobals mg := (M.glob.keeps F.keep).keeps fun b o e => k2 b o (k1 b o e)
  have B2 : h2.Ns builtinsNs mb := (nb.keeps F.keep).keeps fun b o e => k2 b o (k1 b o e)
  have I2 : InstAt h2 (hp.objs.size + 1) (excObj C hp.objs.size none .none) C none := ⟨k2 _ _ he, rfl, rfl, trivial⟩
  obtain ⟨oD, hD1, hD2⟩ : ∃ oD, h2.get? C = some oD ∧ oD.data = .cls cdC := by
    unfold clsIn at hcdC
    split at hcdC
    · rename_i c d cd' sl ho
      cases hcdC
      exact ⟨_, X2 _ _ ho, rfl⟩
    · cases hcdC
  refine ks_wpAt_super_base (env := ksEnv qual (L2.defScope sV_many) h1.objs.size fI (.ref cda) cc) rfl rfl rfl rfl (X2 _ _ hfn) rfl rfl rfl (X2 _ _ hcda) rfl hvs2 hfile T.top ?_
  refine ks_loadName_global rfl rfl (loadGlobal_builtin (env := ksEnv qual (L2.defScope sV_many) h1.objs.size fI (.ref cda) cc) G2 T.gS B2 ((hbb _ (by decide +kernel)).trans boot_super) ⟨rfl, ?_⟩)
  refine wpAny_loadName_free rfl rfl rfl ⟨_, X2 _ _ hcell, rfl⟩ ?_
  refine wpAny_loadName_local (v := .ref (hp.objs.size + 1)) rfl rfl F2.ns (by first | rfl | with_unfolding_all rfl | kernel_rfl) ?_
  refine ks_wpAny_isType_cls hD1 hD2 ⟨rfl, ?_⟩
  refine ks_wpAny_call_super hD1 hD2 I2.at_ I2.cls (fun c e => nomatch e) (looks_mroIn X2 T.me) (fun h3 e3 k3 => ?_)
  obtain ⟨F3, N3, _⟩ := ks_newsPush (s := ⟨h2, g, dr, 0, os⟩) F2 N2 rfl e3 k3
  have I3 : InstAt h3 (hp.objs.size + 1) (excObj C hp.objs.size none .none) C none := ⟨k3 _ _ (k2 _ _ he), rfl, rfl, trivial⟩
  refine kxs_method (D := C) T.KF F3 X N3 (by simp) I3 T.any T.sm T.sB rfl (fun q h4 F4 N4 lt4 => ?_)
  refine kxs_callWith1 (i := i) (x := hp.objs.size + 1) N4 (by simp) ?_ rfl rfl
  refine Calls.spliced_cons ?_
  refine Calls.Constant_str (k := 0) (pos := ⟨0, 0, 0, 0⟩) ?_
  refine Calls.spliced_nil ⟨kxs_at (i := i) N4 (by simp), ?_⟩
  have U4 : UpdF (hp.objs.size + 1) (excObj C hp.objs.size none .none) [(q, kxs_mw i (hp.objs.size + 1)), (h2.objs.size, ks_superObj C (hp.objs.size + 1) C), (hp.objs.size + 1, excObj C hp.objs.size none .none)]
      (fun o' => [(q, kxs_mw i (hp.objs.size + 1)), (h2.objs.size, ks_superObj C (hp.objs.size + 1) C), (hp.objs.size + 1, o')]) := by
    refine .tail ?_ (.tail ?_ (.head fun p z => nomatch z))
    · show q ≠ hp.objs.size + 1
      exact Nat.ne_of_gt (lt4 (hp.objs.size + 1, excObj C hp.objs.size none .none) (by simp))
    · show h2.objs.size ≠ hp.objs.size + 1
      exact Nat.ne_of_gt (Heap.lt_size (k2 _ _ he))
  refine kxs_call F4 X N4 T.FB T.q (by simp) U4 (by show 1 ≤ sizeLine; decide) (fun t5 h5 F5 N5 lt5 => ?_)
  refine ks_wpAt_execs_cons (ks_wpAt_Assign_Attr (wpAt_of_wpAny ?_))
  refine wpAny_Name ?_
  refine wpAny_loadName_local (v := v) rfl rfl F5.ns (by first | rfl | with_unfolding_all rfl | kernel_rfl) ?_
  refine wpAny_Name ?_
  refine wpAny_loadName_local (v := .ref (hp.objs.size + 1)) rfl rfl F5.ns (by first | rfl | with_unfolding_all rfl | kernel_rfl) ?_
  have ne1 : t5 ≠ hp.objs.size + 1 := Nat.ne_of_gt (lt5 (hp.objs.size + 1, excObj C hp.objs.size none .none) (by simp))
  have U5 : ∀ o5 : Obj, UpdF (hp.objs.size + 1) (excObj C t5 none .none) [(t5, o5), (q, kxs_mw i (hp.objs.size + 1)), (h2.objs.size, ks_superObj C (hp.objs.size + 1) C), (hp.objs.size + 1, excObj C t5 none .none)]
      (fun o' => [(t5, o5), (q, kxs_mw i (hp.objs.size + 1)), (h2.objs.size, ks_superObj C (hp.objs.size + 1) C), (hp.objs.size + 1, o')]) := fun o5 =>
    .tail ne1 (.tail (Nat.ne_of_gt (lt4 (hp.objs.size + 1, excObj C hp.objs.size none .none) (by simp))) (.tail (Nat.ne_of_gt (Heap.lt_size (k2 _ _ he))) (.head fun p z => nomatch z)))
  refine set_exc0 T.SF F5 X N5 (by simp) T.sa T.ov T.tk T.hh rfl (U5 _) (by show 1 ≤ 1000; decide) (fun dx h6 F6 N6 lt6 => ?_)
  refine wpAt_of_wpAny (wpAny_execs_nil ⟨rfl, ?_⟩)
  refine hq h6 _ (hp.objs.size + 1) t5 dx _ F6.keep (Nat.le_succ _) ?_ ?_ (N6 (hp.objs.size + 1, excObj C t5 (some dx) .none) (by simp)).1 (N6 _ (List.mem_cons_self)).1 ?_
  · exact Nat.le_of_lt (Nat.lt_of_succ_lt (lt6 (hp.objs.size + 1, excObj C t5 none .none) (by simp)))
  · exact Nat.ne_of_gt (lt6 (hp.objs.size + 1, excObj C t5 none .none) (by simp))
  · first | rfl | with_unfolding_all rfl | simp [lookIn, putL, Value.isStr]
end
end SX
set_option Elab.async false
set_option linter.all false
set_option maxRecDepth 100000
set_option maxHeartbeats 2000000
/-! isinstance and fields of exceptions that are held as values -/
namespace SX
open PySem PySem.W PySem.Calls PyProof.Rows PySem.Spec
section
variable {prog : Program} {w : World} {A : Around} {E : Value → Shared → Prop} {s : Shared} {K : Frag} {x D : Addr} {ox : Obj} {od : Option Obj}
theorem v_findObj {C : Addr} {name : Str} {a g : Value} (hc : (clsIn K C).isSome = true) (ha : findIn K (.ref C) name = some (some a)) (hg : specialIn K a "__get__" = some (some g)) (ht : takesIn K a = some true) : findObj K C od name = some (.bind g a) := by
  cases q : clsIn K C with
  | none => rw [q] at hc; cases hc
  | some cd => simp [findObj, q, ha, hg, ht]
theorem v_class {Q : Option Value → Shared → Prop} (T : L2.ExcC K D) (X : K.In s.heap) (I : InstAt s.heap x ox D od) (h : Q (some (.ref D)) { s with toks := s.toks + 1 }) : wpAny (model prog w) A (getAttr? (.ref x) "__class__") Q E s := by
  have hf : findObj K D od "__class__" = some (.bind (.builtin "getset_descriptor.__get__") (.builtin "object.__class__")) := by
    obtain ⟨cdD, hcD, _⟩ := any_some T.hd
    exact v_findObj (by rw [hcD]; rfl) T.ha T.hn T.ht
  obtain ⟨hp, g, d, t, os⟩ := s
  have La := I.type (M := model prog w)
  have Lb := looks_findIn (M := model prog w) X T.hg
  have Lc := looks_findIn (M := model prog w) X T.hk
  have Ld := looks_find (M := model prog w) X I hf
  have sub : Looks (model prog w) hp (isInstance (.ref x) (.type "BaseException")) true := La.andThen (looks_subIn X T.hs)
  have e1 : (Value.builtin "BaseException.__getattribute__" == Value.builtin "object.__getattribute__") = false := by decide +kernel
  unfold getAttr? getAttrBy? getAttrBy
  refine wpAny_bind (wpAny_mkText ?_)
  repeat (first | with_reducible refine La.at ?_ | with_reducible refine Lb.at ?_ | with_reducible refine wpAny_bind ?_ | with_reducible refine wpAny_attempt ?_ | with_reducible refine wpAny_holding ?_)
  have e2 : ¬ (onTheHeap (Value.ref D) && Value.builtin "BaseException.__getattribute__" == Value.builtin "object.__getattribute__") = true := by
    rw [show (onTheHeap (Value.ref D) && Value.builtin "BaseException.__getattribute__" == Value.builtin "object.__getattribute__") = false by rw [e1]; rfl]
    exact Bool.false_ne_true
  have e3 : ¬ (false && onTheHeap (Value.builtin "BaseException.__getattribute__")) = true := Bool.false_ne_true
  show wpAny _ _ (ite ((onTheHeap (Value.ref D) && Value.builtin "BaseException.__getattribute__" == Value.builtin "object.__getattribute__") = true) _ _) _ _ _
  rw [if_neg e2]
  unfold getAttrByItsOwn hookBefore
  refine wpAny_bind ?_
  rw [if_pos (by rfl : onTheHeap (Value.ref D) = true)]
  refine Lc.at (wpAny_bind (wpAny_attempt (wpAny_holding ?_)))
  unfold callGetattribute
  rw [if_neg e3]
  unfold boundAndCalled
  rw [PySem.F.excAttr_ValueError.ga.bind (.ref x)]
  refine wpAny_bind (wpAny_pure ?_)
  refine wpAny_call (codeAny_call_builtin PySem.F.excAttr_ValueError.ga.plain PySem.F.entry_bexc_ga ?_)
  refine @check_slot (model prog w) _ _ ⟨hp, g, d, t + 1, os⟩ "BaseException.__getattribute__" "BaseException" "__getattribute__" (.ref x) _ [] _ (by decide +kernel) (by decide +kernel) sub (PySem.F.args_bexc_ga _ _) ?_
  unfold Builtin.«object.__getattribute__»
  refine wpAny_bind (wpAny_of_eq (a := ((Value.ref x : Value), [Value.str "__class__" t])) (by first | rfl | exact (by simp only [slotArgs]; rfl)) ?_)
  refine wpAny_bind (wpAny_pure ?_)
  refine wpAny_bind (La.at ?_)
  refine wpAny_bind (Ld.at ?_)
  refine wpAny_bind (wpAny_holding (wpAny_call ?_))
  refine class_get (s := ⟨hp, g, d, t + 1, os⟩) (ox := ox) (od := od) X I T.hm ?_
  refine wpAny_pure ?_
  show wpAny _ _ (handedOut (.ref D)) _ _ _
  rw [handedOut_of (v := .ref D) rfl]
  first
    | exact wpAny_pure (wpAny_pure h) | exact wpAny_pure h | exact wpAny_pure (wpAny_bind (wpAny_pure (wpAny_pure h)))
theorem v_kit (T : L2.ExcC K D) : KitX K (.ref x) (.ref D) (fun h => InstAt h x ox D od) where
  ty := fun _ _ _ I => I.type
  it := fun _ _ X _ A' Q' E' s' k q => by
    obtain ⟨cdD, hcD, _⟩ := any_some T.hd
    unfold clsIn at hcD
    split at hcD
    case h_2 => cases hcD
    case h_1 o1 o2 o3 o4 ho =>
      unfold isType loadHead
      refine wpAny_bind (wpAny_loadPart (k _ _ (X _ _ ho)) ?_)
      exact wpAny_pure q
  ne := fun h tp dd its n sl X htp => by
    obtain ⟨cdD, hcD, _⟩ := any_some T.hd
    cases z : (Value.ref D == Value.ref tp) with
    | false => rfl
    | true =>
      have e : D = tp := Value.ref.inj (beq_iff_eq.mp z)
      unfold clsIn at hcD
      split at hcD
      case h_2 => cases hcD
      rename_i ho
      rw [e] at ho
      have y := (X _ _ ho).symm.trans htp
      cases y
  ca := fun X I k => v_class T X I k
end
end SX
namespace L2
open PySem PySem.Spec PyProof.Rows
/-- the own dict of an exception held as a value: its field -/
def ExD (fld : Str) (v : V) (d : Addr) : HO := .ext fun h => ∃ (o : Obj) (u : Value), h.get? d = some o ∧ PySem.W.lookIn fld o = some (some u) ∧ RelV v u
/-- an exception of the class at D stands at a -/
def ExAt (H : Hp) (a D : Addr) : Prop := H a = some (ExO (.ref D) a) ∨ ∃ (d : Addr) (fld : Str) (v : V), H a = some (exo a D (some d)) ∧ H d = some (ExD fld v d)
theorem exAt_inst {P : Program} {w : World} {H : Hp} {h : Heap} {a D : Addr} (hok : HOk P w H h) (e : ExAt H a D) : ∃ (ox : Obj) (od : Option Obj), PySem.W.InstAt h a ox D od := by
  rcases e with e | ⟨d, fld, v, ea, ed⟩
  · obtain ⟨⟨oe, vs, ho, hz, hd, _⟩, _, _⟩ := hok a _ e
    obtain ⟨oc, ody, oda, osl⟩ := oe
    obtain ⟨z1, z2⟩ := hz
    dsimp only at z1 z2 hd
    subst z1 z2 hd
    exact ⟨_, none, ho, rfl, rfl, trivial⟩
  · obtain ⟨⟨t1, ho⟩, _, _⟩ := hok a _ ea
    obtain ⟨⟨o, u, hd, _⟩, _, _⟩ := hok d _ ed
    exact ⟨_, some o, ho, rfl, rfl, hd⟩
/-- isinstance(e, c) of an exception that is held as a value -/
def rIsX (K : PySem.W.Frag) : List V → Hp → VK → Prop := fun xs H Q => ∃ (a D : Addr) (c : V) (u : Value) (b : Bool), xs = [.ref a, c] ∧ ClsV c u ∧ ExAt H a D ∧ ExcC K D ∧ PySem.W.kitOne K (.ref D) u = some b ∧ Q (.bl b) H
theorem call_isX {X : Cx} : CallR X (.builtin "isinstance") (rIsX X.K) := by
  intro pins s σ H xs us Q I r h
  obtain ⟨a, D, c, u, b, rfl, hc, ea, eD, ek, q⟩ := h
  obtain ⟨u1, u2, rfl, r1, r2⟩ := vals2 r
  have e2 := hc.eq r2
  subst e2
  cases r1
  obtain ⟨ox, od, J⟩ := exAt_inst I.hok ea
  exact PySem.W.kia_one (SX.v_kit eD) I.kIn J ek (fun z => nomatch z) fun tk => ⟨.bl b, H, I.tok tk, rfl, q⟩
/-- the class at C makes exceptions that keep their one argument as the attribute fld -/
def VMade (P : Program) (w : World) (K : PySem.W.Frag) (mg : Str → Option Value) (C : Addr) (fld : Str) : Prop :=
  ∀ {A : Around} {E : Value → Shared → Prop} {s : Shared} {h₀ : Heap} {L : Addr} {m : Str → Option Value}, Mod K mg h₀ → Fr h₀ L s.heap m → A.depth + 1 < recursionLimit → ∀ {v : Value} {Q : Value → Shared → Prop},
    (∀ (h' : Heap) (tk : Nat) (e t d : Addr) (o : Obj), (∀ b u, s.heap.get? b = some u → h'.get? b = some u) → s.heap.objs.size ≤ e → s.heap.objs.size ≤ d → d ≠ e →
      h'.get? e = some (PySem.W.excObj C t (some d) .none) → h'.get? d = some o → PySem.W.lookIn fld o = some (some v) → Q (.ref e) { s with heap := h', toks := tk }) →
    wpAny (model P w) A (call (.ref C) [v]) Q E s
section
variable {X : Cx}
theorem pe_excV {C : Addr} {fld x : Str} {e : Expr} {ta : TE} {p pos : Pos} {k : Nat} (T : VMade X.prog X.w X.K X.mg C fld) (hr : Room k X.A) (gC : X.mg x = some (.ref C)) (kC : PySem.W.keepIn X.K (.ref C) = true) (hg : Gl X x)
    (he : PE X e ta) (hs : starEach [e] X.env = (false, eval e X.env) :: starEach [] X.env := by rfl) (hdb : (x == ("__debug__" : Str)) = false := by decide) :
    PE X (.Call (.Name x p) [e] [] pos) (fun σ H Q => ta σ H fun v H1 => ∀ a d, H1 a = none → H1 d = none → d ≠ a → Q (.ref a) (upd (upd H1 d (ExD fld v d)) a (exo a C (some d)))) := by
  refine ⟨fun pins s σ H Q I h => wpAny_Call_Name_kw (ld_glob I hg gC ?_ hdb)⟩
  refine PySem.W.callWith_K (h₀ := X.base) I.ok.mod.kin kC ?_ hs (by rfl)
  rw [hs]
  refine Calls.spliced_cons (thn (he.run pins s σ H _ I h) fun u s1 ⟨v, H1, I1, r1, q1⟩ => Calls.spliced_nil ⟨I1.kIn, ?_⟩)
  show wpAny _ _ (call (.ref C) [u]) _ _ _
  obtain ⟨m, F⟩ := I1.fr
  refine T I1.mod F (by have := hr.dp; omega) fun h' tk a t d o kk ha hd ne ea ed el => ?_
  obtain ⟨G, g1, g2⟩ := restrict h' fun b => decide (b ≠ a)
  have gk : ∀ b, b ≠ a → G.get? b = h'.get? b := fun b hb => g1 b (decide_eq_true hb)
  have ga : G.get? a = none := g2 a (by simp)
  have na : H1 a = none := I1.hok.fresh ha
  have nd : H1 d = none := I1.hok.fresh hd
  have J1 : Inv X pins σ (upd H1 d (ExD fld v d)) { s1 with heap := G, toks := tk } :=
    I1.laid (t' := tk) (fun b y q => (gk b (Nat.ne_of_lt (Nat.lt_of_lt_of_le (Heap.lt_size q) ha))).trans (kk b y q)) hd
      ⟨⟨o, u, (gk d ne).trans ed, el, r1⟩, ⟨o, (gk d ne).trans ed⟩, fun _ _ ⟨o2, u2, y1, y2, y3⟩ k => ⟨o2, u2, k o2 y1, y2, y3⟩⟩
  have J2 : Inv X pins σ (upd (upd H1 d (ExD fld v d)) a (exo a C (some d))) { s1 with heap := h', toks := tk } :=
    J1.laidN (t' := tk) (fun b y q => by
      by_cases hb : b = a
      · have q2 : G.get? b = some y := q
        rw [hb, ga] at q2
        cases q2
      · exact (gk b hb).symm.trans q) ga (by rw [upd_ne (Ne.symm ne)]; exact na) (exo_ok ea)
  exact ⟨.ref a, _, J2, rfl, q1 a d na nd ne⟩
/-- e.fld, e an exception held as a value -/
theorem pe_excF {f : Str} {e : Expr} {te : TE} {pos : Pos} (he : PE X e te) (hb : attributeBase e f X.env (eval e X.env) = eval e X.env := by rfl) :
    PE X (.Attribute e f pos) (fun σ H Q => te σ H fun x H1 => ∃ (a D d : Addr) (v : V), x = .ref a ∧ H1 a = some (exo a D (some d)) ∧ H1 d = some (ExD f v d) ∧ ExcC X.K D ∧ PySem.W.findIn X.K (.ref D) f = some none ∧ Q v H1) := by
  refine ⟨fun pins s σ H Q I h => attr_of hb (thn (he.run pins s σ H _ I h) fun u s1 hh => ?_)⟩
  obtain ⟨x, H1, I1, rx, a, D, d, v, ex, ea, ed, eD, nf, q⟩ := hh
  subst ex
  cases rx
  obtain ⟨⟨t1, ho⟩, _, _⟩ := I1.hok a _ ea
  obtain ⟨⟨o, u, hd, hl, ru⟩, _, _⟩ := I1.hok d _ ed
  have J : PySem.W.InstAt s1.heap a _ D (some o) := ⟨ho, rfl, rfl, hd⟩
  exact PySem.HandSPX.exc_get I1.kIn J eD.hg eD.hk eD.hs (PySem.W.findObj_own eD.hd nf rfl hl) (handed_of ru) ⟨v, H1, I1.tok _, ru, q⟩
end
end L2
set_option Elab.async false
set_option linter.all false
set_option maxRecDepth 100000
set_option maxHeartbeats 2000000
/-! defs that write values as texts (repr): their promise knows that no repr is running around the call -/
namespace L2
open PySem PySem.Spec PyProof.Rows
/-- as FnOk, where no repr is running around -/
structure FnG (P : Program) (w : World) (K : PySem.W.Frag) (mg : Str → Option Value) (base : Heap) (CX : CXT) (k : Nat) (f : Addr) (fd : FuncData) (ps : List Str) (sp : Sp) : Prop where
  len : ∀ vs H Q E, sp vs H Q E → vs.length = ps.length
  run : ∀ (A : Around) (outer : List Env) (s : Shared) (H : Hp) (ar : Args) (us : List Value) (vs : List V) (Q : VK) (E : XK), Room k A → A.guards = some [] → Env0 P w K mg base A outer s H → BindsTo s fd ar (ps.zip us) → Vals vs us →
    sp vs H Q E → codeAny (model P w) A (.call (.ref f) ar) (CR CX outer P w H s Q E) s
theorem guards_deeper {A : Around} {env : Env} (h : A.guards = some []) : (A.deeper env).guards = some [] := by
  first | exact h | (show pushGuards _ A.guards = some []; rw [h]; rfl) | (simp [Around.deeper, h])
section
variable {P : Program} {w : World} {K : PySem.W.Frag} {mg : Str → Option Value} {base : Heap}
theorem FnOk.g {CX : CXT} {k : Nat} {f : Addr} {fd : FuncData} {ps : List Str} {sp : Sp} (F : FnOk P w K mg base CX k f fd ps sp) : FnG P w K mg base CX k f fd ps sp :=
  ⟨F.len, fun A o s H ar us vs Q E hr _ he hb hv hs => F.run A o s H ar us vs Q E hr he hb hv hs⟩
theorem Fun.okG {x qual : Str} {st : Stmt} {f : Addr} {fd : FuncData} {N ps : List Str} {k : Nat} {sp : Sp} (F : Fun K x qual st f fd) (S : FnScope N ps (defScope st)) (len : ∀ vs H Q E, sp vs H Q E → vs.length = ps.length)
    (hbody : ∀ (cdv : Value) (A : Around) (outer : List Env) (s : Shared) (H : Hp) (vs : List V) (Q : VK) (E : XK), Room k (A.deeper (envOfC qual (defScope st) s.heap.objs.size f cdv)) → A.guards = some [] → sp vs H Q E →
      ∃ t, PSs (cxOf CX0 P w K mg base N qual (defScope st) f cdv A outer s H E).nox (defBody st) t ∧ t { nx := fun _ H' => Q .non H', rt := Q } (start N vs) H) : FnG P w K mg base CX0 (k + 1) f fd ps sp := by
  obtain ⟨oc, od, kV, doc, pm, an, cdv, ct, osl, rfl, lk, hcd⟩ := F.ex
  constructor
  · exact len
  intro A outer s H ar us vs Q E hr hg e0 hb r hsp
  have bk : ∀ b o, base.get? b = some o → s.heap.get? b = some o := fun b o e => (e0.bs b o e).1
  have KX : K.In s.heap := e0.mod.kin.keeps bk
  have hkind : ∀ y ∈ ps.zip us, (defScope st).names.lookup y.1 = some .local ∨ ((defScope st).names.lookup y.1 = some .cell ∧ ((cellsFrom (s.heap.objs.size + 1) (defScope st).names []).lookup y.1).isSome = true) := by
    rintro ⟨n, v⟩ hy
    exact (S.par n (List.of_mem_zip hy).1).imp id fun q => ⟨q, PySem.W.cellsFrom_some _ _ _ (.inl q)⟩
  refine codeAny_call_function hr.depth (KX _ _ lk) rfl S.co S.gen rfl (PySem.W.codeRec_of KX hcd) (hb _ _ _ _ (wpAny_newFunctionEnv_cells S.kind hkind fun env he s1 x => ?_))
  subst he
  refine ⟨(e0.mod.nolimit.keeps bk).keeps x.toInCall.keep, codeAny_func ?_⟩
  obtain ⟨t, ht, hq⟩ := hbody cdv A outer s H vs Q E (hr.deeper _) hg hsp
  have I : Inv (cxOf CX0 P w K mg base N qual (defScope st) f cdv A outer s H E) [] (start N vs) H s1 := inv_start S hr.hd e0 (len _ _ _ _ hsp) r x
  refine wpAny_mono (ht.nox.run [] s1 (start N vs) H _ I hq) ?_ fun e s' hs => hs
  intro fl s' hs
  cases fl with
  | ret u => obtain ⟨v, σ', H', J, rv, q⟩ := hs; exact ⟨v, H', J.os, J.bare, J.base, J.hok, rv, q⟩
  | next => obtain ⟨σ', H', J, q⟩ := hs; exact ⟨V.non, H', J.os, J.bare, J.base, J.hok, rfl, q⟩
  | brk => obtain ⟨_, _, _, z⟩ := hs; exact z.elim
  | cont => obtain ⟨_, _, _, z⟩ := hs; exact z.elim
end
section
variable {X : Cx} {CX : CXT} {k : Nat} {f : Addr} {fd : FuncData} {ps : List Str} {sp : Sp} {ds : List Value} {dvs : List V} {E : XK} {x : Str} {p pos : Pos} {e : Expr} {es : List Expr} {t : TA}
theorem pe_callG (F : FnG X.prog X.w X.K X.mg X.base CX k f fd ps sp) (hr : Room k X.A) (hgd : X.A.guards = some []) (hg : Gl X x) (hm : X.mg x = some (.ref f)) (hk : PySem.W.keepIn X.K (.ref f) = true) (hb : Binds X.K fd ps ds) (hd : Vals dvs ds) (hx : Passes CX X E)
    (ha : PA X (e :: es) t) (hdb : (x == ("__debug__" : Str)) = false := by decide) (he : starEach (e :: es) X.env = (false, eval e X.env) :: starEach es X.env := by rfl) (hpl : (backTo pos (starEach es X.env)).any (·.1) = false := by rfl) :
    PE X (.Call (.Name x p) (e :: es) [] pos) (tCall sp dvs E t) := by
  refine ⟨fun pins s σ H Q I h => wpAny_Call_Name_kw (ld_glob I hg hm ?_ hdb)⟩
  refine PySem.W.callWith_K (h₀ := X.base) I.ok.mod.kin hk ?_ he hpl
  refine thn (ha.run pos pins s σ H _ I h) ?_
  rintro us s1 ⟨vs, H1, I1, r, q⟩
  refine ⟨I1.kIn, ?_⟩
  have r2 : Vals (vs ++ dvs) (us ++ ds) := r.append hd
  have hl : (us ++ ds).length = ps.length := r2.length.symm.trans (F.len _ _ _ _ q)
  refine wpAny_call (codeAny_mono (F.run X.A X.stack s1 H1 ⟨us, []⟩ (us ++ ds) (vs ++ dvs) Q E hr hgd I1.env0 (hb s1 us I1.kIn hl) r2 q) ?_)
  intro rr s' hq
  rcases rr with er | fl
  · exact hx pins σ H1 s1 er s' I1 hq
  · cases fl <;> first | exact I1.after hq | exact hq.elim
/-- repr of data -/
def rRepr (K : PySem.W.Frag) : List V → Hp → VK → Prop := fun xs H Q => ∃ (a : Addr) (d : PyData), xs = [.ref a] ∧ Dp K H (.ref a) d ∧ d.showable = true ∧ d.hasDict = false ∧ d.depth ≤ 20 ∧ d.shown.length ≤ sizeLine ∧ Q (.str d.shown) H
theorem call_repr (hg : X.A.guards = some []) (hu : X.A.units + 64 < cLine) : CallR X (.builtin "repr") (rRepr X.K) := by
  intro pins s σ H xs us Q I r h
  obtain ⟨a, d, rfl, hd, hs, hn, hz, hl, q⟩ := h
  obtain ⟨u, rfl, r1⟩ := vals1 r
  cases r1
  obtain ⟨as, R⟩ := Dp.reads I d _ _ hd rfl
  exact repr_of_reads' R hs (fun z => by rw [hn] at z; cases z) hg (by omega) (fun _ _ z => z) (fun h' u tk kk => ⟨.str _, H, I.kept (t' := tk) kk, ⟨_, rfl⟩, q⟩) hl
end

/-! ### the law's own end, for a promise of this kind -/
theorem lawG {P : Program} {w : World} {K : PySem.W.Frag} {mg mb : Str → Option Value} {CX : CXT} {k : Nat} {fa a : Addr} {fd : FuncData} {x : Str} {sp : Sp} {s₁ : Shared} {vs : List Value} {ns : List Int}
    (KX : K.In s₁.heap) (hns : s₁.heap.Ns mainGlobals mg) (hb : s₁.heap.Ns builtinsNs mb) (hbb : ∀ x : Str, x ≠ "__name__" → mb x = bootBuiltins x) (hlim : s₁.heap.NoLimit) (hg : s₁.gens = #[])
    (ha : s₁.heap.get? a = some { cls := .type "list", data := .seq vs.toArray }) (hi : IntsAre vs ns) (hl : ns.length ≤ sizeLine) (hr : Room k callerA)
    (F : ∀ base : Heap, K.In base → base.Ns mainGlobals mg → FnG P w K mg base CX k fa fd [x] sp) (hbind : ∀ (s : Shared) (u : Value), BindsTo s fd ⟨[u], []⟩ [(x, u)])
    (hsp : ∀ H : Hp, Only H → SqL K H a (ns.map V.int) → sp [.ref a] H (fun v _ => v = .bl true) fun _ _ _ => False) (hCX : ∀ H e s', CX [] H s₁ (fun _ _ _ => False) e s' → False) :
    codeAny (model P w) callerA (.call (.ref fa) ⟨[.ref a], []⟩) (fun r s' => r = .ok (.ret (.bool true)) ∧ OldK s₁.heap s'.heap ∧ s'.os = s₁.os ∧ AllBare s'.gens) s₁ := by
  have rv := vals_ints hi
  have nil0 : ∀ b : Addr, b ∉ ([] : List Addr) := fun b z => nomatch z
  have run : ∀ H : Hp, Only H → SqL K H a (ns.map V.int) → HOk P w H s₁.heap → (∀ b, H b ≠ none → b = a) → (H a ≠ none → K.lookup a = none) →
      codeAny (model P w) callerA (.call (.ref fa) ⟨[.ref a], []⟩) (fun r s' => r = .ok (.ret (.bool true)) ∧ OldK s₁.heap s'.heap ∧ s'.os = s₁.os ∧ AllBare s'.gens) s₁ := by
    intro H hO hS hok hA hK
    have noH : ∀ b, b ≠ a → H b = none := fun b hb => by
      cases q : H b with
      | none => rfl
      | some u => exact (hb (hA b (by rw [q]; exact fun z => nomatch z))).elim
    have noD : ∀ {b : Addr} {o : Obj} {es : Array DictEntry} {ep : Nat}, s₁.heap.get? b = some o → o.data = .dict es ep → H b = none := fun {b o es ep} e d => noH b fun z => by
      subst z
      have y := Option.some.inj (ha.symm.trans e)
      rw [← y] at d
      cases d
    have nsK : ∀ {b : Addr} {m : Str → Option Value}, s₁.heap.Ns b m → (hidT s₁.heap H).Ns b m := by
      rintro b m ⟨o, es, ep, e, d, r⟩
      exact ⟨o, es, ep, hidT_get e (noD e d), d, r⟩
    have hKb : K.In (hidT s₁.heap H) := fun b o e => hidT_get (KX b o e) (by
      by_cases hb : b = a
      · cases q : H b with
        | none => rfl
        | some u =>
          subst hb
          have y := hK (by rw [q]; exact fun z => nomatch z)
          rw [y] at e
          cases e
      · exact noH b hb)
    obtain ⟨mc, l1, l2⟩ := hlim
    have e0 : Env0 P w K mg (hidT s₁.heap H) callerA [] s₁ H :=
      ⟨rfl, ⟨hKb, nsK hns, ⟨mb, nsK hb, hbb⟩, ⟨mc, nsK l1, l2⟩⟩, fun b o e => of_hidT e, Nat.le_of_eq (hidT_size _ _), trivial, fun b hb => (nil0 b hb).elim, hok, .of_eq hg⟩
    have R := (F _ hKb (nsK hns)).run callerA [] s₁ H ⟨[.ref a], []⟩ [.ref a] [.ref a] _ _ hr rfl e0 (hbind s₁ (.ref a)) (.cons rfl .nil) (hsp H hO hS)
    refine codeAny_mono R ?_
    intro r s' h
    rcases r with e | fl
    · exact (hCX H e s' h).elim
    cases fl with
    | next => exact h.elim
    | brk => exact h.elim
    | cont => exact h.elim
    | ret u =>
      obtain ⟨v, H', os, bare, un, hok', r', q⟩ := h
      have qv : v = .bl true := q
      subst qv
      cases r'
      refine ⟨rfl, OldK.of_keep ?_, os, bare⟩
      intro b o e
      rcases hO b with z | ⟨ob, xs, z⟩
      · exact un.keep b o e z (nil0 b) (nil0 b)
      · have y1 := (hok b _ z).1
        have y2 := (hok' b _ (un.frzs b ob _ z)).1
        rw [y2, ← y1, e]
  cases hk : K.lookup a with
  | some o =>
    have e := Option.some.inj ((KX a o hk).symm.trans ha)
    subst e
    refine run (fun _ => none) (fun _ => .inl rfl) ?_ (fun b u z => nomatch z) (fun b z => (z rfl).elim) fun z => (z rfl).elim
    exact .inr ⟨_, vs.toArray, _, hk, rfl, rfl, rfl, by rw [List.size_toArray, hi.length]; exact hl, by simpa using rv⟩
  | none =>
    let o : Obj := { cls := .type "list", data := .seq vs.toArray }
    have hat : (fun b => if b = a then some (HO.frz o (.lst (ns.map V.int))) else none : Hp) a = some (HO.frz o (.lst (ns.map V.int))) := if_pos rfl
    refine run (fun b => if b = a then some (HO.frz o (.lst (ns.map V.int))) else none) (fun b => ?_) (.inl (.inr ⟨o, hat⟩)) (fun b u z => ?_) (fun b z => ?_) fun _ => hk
    · by_cases q : b = a
      · exact .inr ⟨o, _, if_pos q⟩
      · exact .inl (if_neg q)
    · by_cases q : b = a
      · have y := (if_pos q).symm.trans z
        cases y
        rw [q]
        exact ⟨ha, by rw [List.length_map]; exact hl, vs, _, rv, ha⟩
      · have y := (if_neg q).symm.trans z
        cases y
    · by_cases q : b = a
      · exact q
      · exact (z (if_neg q)).elim
theorem walkG {l : PySem.W.OpenLaw} {n k : Nat} {q : Program} {loose : List Str} {XP : (Str → Option Value) → Heap → Prop} {YP : World → Heap → Prop} {d : DefRec} {K : Params → PySem.W.Frag} {CX : World → CXT} {sp : World → Sp} {x : Str}
    (hn : l.most = some n) (hn2 : n ≤ sizeLine) (hdf : d.params.defaults = []) (hr : Room k callerA) (hY : ∀ (w : World) (h : Heap), YP w h → (K w.params).In h)
    (F : ∀ (w : World) (mg : Str → Option Value) (fa : Addr) (h : Heap), (K w.params).In h → h.Ns mainGlobals mg → mg d.name = some (.ref fa) →
      ∃ fd : FuncData, (∀ (s : Shared) (u : Value), BindsTo s fd ⟨[u], []⟩ [(x, u)]) ∧ ∀ base : Heap, (K w.params).In base → base.Ns mainGlobals mg → FnG l.prog w (K w.params) mg base (CX w) k fa fd [x] (sp w))
    (hsp : ∀ (w : World) (H : Hp) (a : Addr) (ns : List Int), ns.length ≤ n → Only H → SqL (K w.params) H a (ns.map V.int) → sp w [.ref a] H (fun v _ => v = .bl true) fun _ _ _ => False)
    (hCX : ∀ (w : World) (H : Hp) (s : Shared) (e : Value) (s' : Shared), CX w [] H s (fun _ _ _ => False) e s' → False) :
    PySem.W.WalkO q loose XP YP l.row.toRowW d [] (fun f vs => PySem.call f vs) := by
  refine Att.attach_call hn hdf ?_
  intro w s₀ s₁ mg mb fa o pm cd doc a vs ns G Y ho hd hcd hmg hobj hints hlen hg
  obtain ⟨fd, hb, hF⟩ := F w mg fa _ (hY w _ Y) G.T.g hmg
  exact lawG (hY w _ Y) G.T.g G.T.b G.T.builtins G.T.nolimit hg hobj hints (Nat.le_trans hlen hn2) hr hF hb (fun H hO hS => hsp w H a ns hlen hO hS) fun H e s' => hCX w H s₁ e s'
end L2
set_option Elab.async false
set_option linter.all false
set_option maxRecDepth 100000
set_option maxHeartbeats 4000000
namespace K0
open PySem PySem.Spec PyProof.Rows L2
abbrev sBuilt : Stmt := top 18
abbrev sKinds : Stmt := top 19
abbrev sMess : Stmt := top 20
abbrev sVals : Stmt := top 21
abbrev sLaw : Stmt := top 22
/-- the six answers of isinstance for the built-in classes -/
structure BI (K : PySem.W.Frag) (D : Addr) (b1 b2 b3 b4 b5 b6 : Bool) : Prop where
  h1 : PySem.W.kitOne K (.ref D) (.type "ValueError") = some b1
  h2 : PySem.W.kitOne K (.ref D) (.type "IndexError") = some b2
  h3 : PySem.W.kitOne K (.ref D) (.type "KeyError") = some b3
  h4 : PySem.W.kitOne K (.ref D) (.type "LookupError") = some b4
  h5 : PySem.W.kitOne K (.ref D) (.type "ArithmeticError") = some b5
  h6 : PySem.W.kitOne K (.ref D) (.type "OverflowError") = some b6
structure TxtB (mg : Str → Option Value) : Prop where
  is : mg "isinstance" = none
  m1 : mg "ValueError" = none
  m2 : mg "IndexError" = none
  m3 : mg "KeyError" = none
  m4 : mg "LookupError" = none
  m5 : mg "ArithmeticError" = none
  m6 : mg "OverflowError" = none
  su : mg "sum" = none
  zi : mg "zip" = none
theorem bt1 : bootBuiltins "ValueError" = some (.type "ValueError") := by decide +kernel
theorem bt2 : bootBuiltins "IndexError" = some (.type "IndexError") := by decide +kernel
theorem bt3 : bootBuiltins "KeyError" = some (.type "KeyError") := by decide +kernel
theorem bt4 : bootBuiltins "LookupError" = some (.type "LookupError") := by decide +kernel
theorem bt5 : bootBuiltins "ArithmeticError" = some (.type "ArithmeticError") := by decide +kernel
theorem bt6 : bootBuiltins "OverflowError" = some (.type "OverflowError") := by decide +kernel
def bitsOf (bs : List Bool) : List Int := (([1, 2, 4, 8, 16, 32] : List Int).zip bs).filterMap fun p => if p.2 then some p.1 else none
def spBuilt (K : PySem.W.Frag) : Sp := fun vs H Q _ => ∃ (a D : Addr) (b1 b2 b3 b4 b5 b6 : Bool), vs = [.ref a] ∧ ExAt H a D ∧ ExcC K D ∧ BI K D b1 b2 b3 b4 b5 b6 ∧
  ∀ H', Same H H' → Q (.int (bitsOf [b1, b2, b3, b4, b5, b6]).sum) H'
section
variable {P : Program} {w : World} {K : PySem.W.Frag} {mg : Str → Option Value} {base : Heap}
theorem exAt_same {H H' : Hp} {a D : Addr} (e : ExAt H a D) (s : Same H H') : ExAt H' a D := by
  rcases e with z | ⟨d, f, v, z1, z2⟩
  · exact .inl (s _ _ z)
  · exact .inr ⟨d, f, v, s _ _ z1, s _ _ z2⟩
theorem same_new {H : Hp} {p : Addr} {o : HO} (h : H p = none) : Same H (upd H p o) := fun b u e => by
  rw [upd_ne (ne_of_none e h)]
  exact e
theorem scB : FnScope ["_law_e", "_law_found", "_law_bit", "_law_one"] ["_law_e"] (defScope sBuilt) :=
  ⟨rfl, rfl, rfl, by decide +kernel, rfl, by decide +kernel, by decide +kernel⟩
theorem ok_built {f : Addr} {fd : FuncData} (F : Fun K "_law_built_in" "_law_built_in" sBuilt f fd) (T : TxtB mg) : FnOk P w K mg base CX0 1 f fd ["_law_e"] (spBuilt K) := by
  refine F.ok scB (fun vs H Q E h => ?_) (fun cdv A outer s H vs Q E hr h => ?_)
  · obtain ⟨a, D, _, _, _, _, _, _, rfl, _⟩ := h
    rfl
  · obtain ⟨a, D, b1, b2, b3, b4, b5, b6, rfl, ea, eD, B, k⟩ := h
    have hu := hu_of hr
    refine ⟨_, pss_cons (ps_set (i := 1) scB.nd rfl (Or.inl rfl) (pe_lst
        (pa_cons (pe_callB call_isX (by rfl) T.is PyProof.Rows.boot_isinstance (pa_cons (pv 0) (pa_cons (pe_bltn (v := .ty "ValueError") (by rfl) T.m1 bt1 rfl) pa_nil)))
        (pa_cons (pe_callB call_isX (by rfl) T.is PyProof.Rows.boot_isinstance (pa_cons (pv 0) (pa_cons (pe_bltn (v := .ty "IndexError") (by rfl) T.m2 bt2 rfl) pa_nil)))
        (pa_cons (pe_callB call_isX (by rfl) T.is PyProof.Rows.boot_isinstance (pa_cons (pv 0) (pa_cons (pe_bltn (v := .ty "KeyError") (by rfl) T.m3 bt3 rfl) pa_nil)))
        (pa_cons (pe_callB call_isX (by rfl) T.is PyProof.Rows.boot_isinstance (pa_cons (pv 0) (pa_cons (pe_bltn (v := .ty "LookupError") (by rfl) T.m4 bt4 rfl) pa_nil))) pa_nil))))))
      (pss_cons (ps_set (i := 1) scB.nd rfl (Or.inl rfl) (pe_op op_cat (pv 1) (pe_lst
        (pa_cons (pe_callB call_isX (by rfl) T.is PyProof.Rows.boot_isinstance (pa_cons (pv 0) (pa_cons (pe_bltn (v := .ty "ArithmeticError") (by rfl) T.m5 bt5 rfl) pa_nil)))
        (pa_cons (pe_callB call_isX (by rfl) T.is PyProof.Rows.boot_isinstance (pa_cons (pv 0) (pa_cons (pe_bltn (v := .ty "OverflowError") (by rfl) T.m6 bt6 rfl) pa_nil))) pa_nil)))))
      (pss_one (ps_ret (pe_callB (cr_sum rfl) (by rfl) T.su (by decide +kernel) (pa_cons (pe_lc (own := [("_law_bit", 2), ("_law_one", 3)]) (g := gTup K 2 (gCons (gName 2) (gCons (gName 3) gNil))) (tt := tB (tVar 3)) rfl scB.nd (pi_zip (by rfl) T.zi (pa_cons (pe_lst (pa_cons pe_int (pa_cons pe_int (pa_cons pe_int (pa_cons pe_int (pa_cons pe_int (pa_cons pe_int pa_nil))))))) (pa_cons (pv 1) pa_nil)))
          (blkOk_by (N := ["_law_e", "_law_found", "_law_bit", "_law_one"]) (sc := defScope sBuilt) (by decide +kernel))
          (fun _ _ _ _ _ => pg_tup rfl (pgs_cons (pg_name (i := 2) scB.nd rfl (.inl rfl)) (pgs_cons (pg_name (i := 3) scB.nd rfl (.inl rfl)) pgs_nil)))
          (fun _ _ _ _ _ => pts_one (pt_val (pv 3))) (fun _ _ _ _ _ => pv 2)) pa_nil))))), ?_⟩
    refine ⟨_, rfl, a, D, _, _, b1, rfl, .ty _, ea, eD, B.h1, _, rfl, a, D, _, _, b2, rfl, .ty _, ea, eD, B.h2, _, rfl, a, D, _, _, b3, rfl, .ty _, ea, eD, B.h3, _, rfl, a, D, _, _, b4, rfl, .ty _, ea, eD, B.h4,
      by show 4 ≤ sizeLine; decide, fun p1 n1 => ?_⟩
    have s1 := same_new (o := .lst [V.bl b1, .bl b2, .bl b3, .bl b4]) n1
    have ea1 := exAt_same ea s1
    refine ⟨_, rfl, _, rfl, a, D, _, _, b5, rfl, .ty _, ea1, eD, B.h5, _, rfl, a, D, _, _, b6, rfl, .ty _, ea1, eD, B.h6, by show 2 ≤ sizeLine; decide, fun p2 n2 => ?_⟩
    have s2 := s1.trans (same_new (o := .lst [V.bl b5, .bl b6]) n2)
    have ne12 : p1 ≠ p2 := ne_of_none upd_same n2
    refine ⟨p1, p2, _, _, rfl, rfl, (by rw [upd_ne ne12]; exact upd_same), upd_same, by show 6 ≤ sizeLine; decide, fun p3 n3 => ?_⟩
    have s3 := s2.trans (same_new (o := .lst [V.bl b1, .bl b2, .bl b3, .bl b4, .bl b5, .bl b6]) n3)
    refine ⟨by show 6 ≤ sizeLine; decide, fun p4 n4 => ?_⟩
    have s4 := s3.trans (same_new (o := .lst [V.int 1, .int 2, .int 4, .int 8, .int 16, .int 32]) n4)
    have ne34 : p3 ≠ p4 := ne_of_none upd_same n4
    refine ⟨_, rfl, p4, p3, [V.int 1, .int 2, .int 4, .int 8, .int 16, .int 32], [V.bl b1, .bl b2, .bl b3, .bl b4, .bl b5, .bl b6], rfl, SqL.of upd_same, SqL.of (by rw [upd_ne ne34]; exact upd_same), fun L hL => ?_⟩
    refine lc_it (walk_zip (xs := [V.int 1, .int 2, .int 4, .int 8, .int 16, .int 32]) (ys := [V.bl b1, .bl b2, .bl b3, .bl b4, .bl b5, .bl b6]) (n := 6) rfl) (fun i H5 => H5 p4 = some (.lst [V.int 1, .int 2, .int 4, .int 8, .int 16, .int 32]) ∧ H5 p3 = some (.lst [V.bl b1, .bl b2, .bl b3, .bl b4, .bl b5, .bl b6]) ∧ Same H H5 ∧
      H5 L = some (.lst ((bitsOf ([b1, b2, b3, b4, b5, b6].take i)).map V.int)) ∧ p4 ≠ L ∧ p3 ≠ L) ?_ ?_ ?_ ?_
    · have l4 : p4 ≠ L := ne_of_none upd_same hL
      have l3 : p3 ≠ L := ne_of_none (show upd _ p4 _ p3 = some (.lst [V.bl b1, .bl b2, .bl b3, .bl b4, .bl b5, .bl b6]) by rw [upd_ne ne34]; exact upd_same) hL
      exact ⟨by rw [upd_ne l4]; exact upd_same, by rw [upd_ne l3, upd_ne ne34]; exact upd_same, s4.trans (same_new hL), upd_same, l4, l3⟩
    · rintro i H5 hi ⟨hp4, hp3, _⟩
      exact ⟨SqL.of hp4, SqL.of hp3⟩
    · rintro i v H5 H6 hi ⟨hp4, hp3, sm, hl, l4, l3⟩ ⟨T', x, y, rfl, nT, rfl, hx, hy⟩
      have hT : ∀ {q : Addr} {o : HO}, H5 q = some o → upd H5 T' (.tup [x, y]) q = some o := fun {q o} e => by rw [upd_ne (ne_of_none e nT)]; exact e
      have sm' : Same H (upd H5 T' (.tup [x, y])) := sm.trans (same_new nT)
      have nL : ∀ o, Same H (upd (upd H5 T' (.tup [x, y])) L o) := fun o b u e => by
        rw [upd_ne (ne_of_none e (Same.free s4 hL))]
        exact sm' b u e
      have sz : ∀ l : List Bool, ((bitsOf l).map V.int).length < sizeLine := fun l => small1000 (by
        have z1 := List.length_filterMap_le (fun p : Int × Bool => if p.2 then some p.1 else none) (([1, 2, 4, 8, 16, 32] : List Int).zip l)
        have z2 : (([1, 2, 4, 8, 16, 32] : List Int).zip l).length ≤ 6 := by
          rw [List.length_zip]
          exact Nat.min_le_left _ _
        rw [List.length_map]
        exact Nat.le_trans (Nat.le_trans z1 z2) (by decide))
      obtain rfl | rfl | rfl | rfl | rfl | rfl : i = 0 ∨ i = 1 ∨ i = 2 ∨ i = 3 ∨ i = 4 ∨ i = 5 := by omega
      all_goals
        cases hx
        cases hy
        refine ⟨T', _, rfl, SqT.of upd_same, rfl, _, _, rfl, _, _, rfl, rfl, rfl, _, rfl, _, rfl, ite2 (fun hb => ?_) (fun hb => ?_)⟩
        · subst hb
          exact ⟨_, rfl, _, hT hl, sz _, by rw [upd_ne l4]; exact hT hp4, by rw [upd_ne l3]; exact hT hp3, nL _, upd_same.trans (congrArg (fun l => some (HO.lst l)) (by first | rfl | (cases b1 <;> rfl) | (cases b1 <;> cases b2 <;> rfl) | (cases b1 <;> cases b2 <;> cases b3 <;> rfl) | (cases b1 <;> cases b2 <;> cases b3 <;> cases b4 <;> rfl) | (cases b1 <;> cases b2 <;> cases b3 <;> cases b4 <;> cases b5 <;> rfl))), l4, l3⟩
        · cases Bool.eq_false_iff.mpr hb
          exact ⟨hT hp4, hT hp3, sm', (hT hl).trans (congrArg (fun l => some (HO.lst l)) (by first | rfl | (cases b1 <;> rfl) | (cases b1 <;> cases b2 <;> rfl) | (cases b1 <;> cases b2 <;> cases b3 <;> rfl) | (cases b1 <;> cases b2 <;> cases b3 <;> cases b4 <;> rfl) | (cases b1 <;> cases b2 <;> cases b3 <;> cases b4 <;> cases b5 <;> rfl))), l4, l3⟩
    · rintro H5 ⟨_, _, sm, hl, _⟩
      exact ⟨L, _, rfl, SqL.of hl, k H5 sm⟩
end
/-- the addresses of the thirteen classes -/
structure Cs where
  c0 : Addr
  c1 : Addr
  c2 : Addr
  c3 : Addr
  c4 : Addr
  c5 : Addr
  c6 : Addr
  c7 : Addr
  c8 : Addr
  c9 : Addr
  c10 : Addr
  c11 : Addr
  c12 : Addr
/-- the twelve answers of isinstance for the program's classes -/
structure KI (K : PySem.W.Frag) (c : Cs) (D : Addr) (k1 k2 k3 k4 k5 k6 k7 k8 k9 k10 k11 k12 : Bool) : Prop where
  h1 : PySem.W.kitOne K (.ref D) (.ref c.c1) = some k1
  h2 : PySem.W.kitOne K (.ref D) (.ref c.c2) = some k2
  h3 : PySem.W.kitOne K (.ref D) (.ref c.c3) = some k3
  h4 : PySem.W.kitOne K (.ref D) (.ref c.c4) = some k4
  h5 : PySem.W.kitOne K (.ref D) (.ref c.c5) = some k5
  h6 : PySem.W.kitOne K (.ref D) (.ref c.c6) = some k6
  h7 : PySem.W.kitOne K (.ref D) (.ref c.c7) = some k7
  h8 : PySem.W.kitOne K (.ref D) (.ref c.c8) = some k8
  h9 : PySem.W.kitOne K (.ref D) (.ref c.c9) = some k9
  h10 : PySem.W.kitOne K (.ref D) (.ref c.c10) = some k10
  h11 : PySem.W.kitOne K (.ref D) (.ref c.c11) = some k11
  h12 : PySem.W.kitOne K (.ref D) (.ref c.c12) = some k12
structure TxtK (mg : Str → Option Value) (c : Cs) : Prop where
  is : mg "isinstance" = none
  g0 : mg "EndError" = some (.ref c.c0)
  g1 : mg "InvalidFraction" = some (.ref c.c1)
  g2 : mg "InvalidRows" = some (.ref c.c2)
  g3 : mg "InvalidProgram" = some (.ref c.c3)
  g4 : mg "InvalidValues" = some (.ref c.c4)
  g5 : mg "InvalidOperation" = some (.ref c.c5)
  g6 : mg "InvalidEdit" = some (.ref c.c6)
  g7 : mg "ParseError" = some (.ref c.c7)
  g8 : mg "InvalidCommand" = some (.ref c.c8)
  g9 : mg "InvalidNumber" = some (.ref c.c9)
  g10 : mg "UnknownName" = some (.ref c.c10)
  g11 : mg "TooMany" = some (.ref c.c11)
  g12 : mg "NothingToUndo" = some (.ref c.c12)
def spKinds (K : PySem.W.Frag) (c : Cs) : Sp := fun vs H Q _ => ∃ (a D : Addr) (k1 k2 k3 k4 k5 k6 k7 k8 k9 k10 k11 k12 : Bool), vs = [.ref a] ∧ ExAt H a D ∧ ExcC K D ∧ KI K c D k1 k2 k3 k4 k5 k6 k7 k8 k9 k10 k11 k12 ∧
  ∀ H' p, Same H H' → H p = none → H' p = some (.lst [V.bl k1, .bl k2, .bl k3, .bl k4, .bl k5, .bl k6, .bl k7, .bl k8, .bl k9, .bl k10, .bl k11, .bl k12]) → Q (.ref p) H'
section
variable {P : Program} {w : World} {K : PySem.W.Frag} {mg : Str → Option Value} {base : Heap}
theorem scK : FnScope ["_law_e", "_law_found"] ["_law_e"] (defScope sKinds) :=
  ⟨rfl, rfl, rfl, by decide +kernel, rfl, by decide +kernel, by decide +kernel⟩
theorem ok_kinds {f : Addr} {fd : FuncData} {c : Cs} (F : Fun K "_law_kinds" "_law_kinds" sKinds f fd) (T : TxtK mg c) : FnOk P w K mg base CX0 1 f fd ["_law_e"] (spKinds K c) := by
  refine F.ok scK (fun vs H Q E h => ?_) (fun cdv A outer s H vs Q E hr h => ?_)
  · obtain ⟨a, D, _, _, _, _, _, _, _, _, _, _, _, _, rfl, _⟩ := h
    rfl
  · obtain ⟨a, D, k1, k2, k3, k4, k5, k6, k7, k8, k9, k10, k11, k12, rfl, ea, eD, B, k⟩ := h
    have hu := hu_of hr
    refine ⟨_, pss_cons (ps_set (i := 1) scK.nd rfl (Or.inl rfl) (pe_lst (pa_cons (pe_callB call_isX (by rfl) T.is PyProof.Rows.boot_isinstance (pa_cons (pv 0) (pa_cons (pe_glob (v := .ref c.c1) (by rfl) T.g1 rfl) pa_nil)))
        (pa_cons (pe_callB call_isX (by rfl) T.is PyProof.Rows.boot_isinstance (pa_cons (pv 0) (pa_cons (pe_glob (v := .ref c.c2) (by rfl) T.g2 rfl) pa_nil)))
        (pa_cons (pe_callB call_isX (by rfl) T.is PyProof.Rows.boot_isinstance (pa_cons (pv 0) (pa_cons (pe_glob (v := .ref c.c3) (by rfl) T.g3 rfl) pa_nil))) pa_nil)))))
      (pss_cons (ps_set (i := 1) scK.nd rfl (Or.inl rfl) (pe_op op_cat (pv 1) (pe_lst (pa_cons (pe_callB call_isX (by rfl) T.is PyProof.Rows.boot_isinstance (pa_cons (pv 0) (pa_cons (pe_glob (v := .ref c.c4) (by rfl) T.g4 rfl) pa_nil)))
        (pa_cons (pe_callB call_isX (by rfl) T.is PyProof.Rows.boot_isinstance (pa_cons (pv 0) (pa_cons (pe_glob (v := .ref c.c5) (by rfl) T.g5 rfl) pa_nil)))
        (pa_cons (pe_callB call_isX (by rfl) T.is PyProof.Rows.boot_isinstance (pa_cons (pv 0) (pa_cons (pe_glob (v := .ref c.c6) (by rfl) T.g6 rfl) pa_nil))) pa_nil))))))
      (pss_cons (ps_set (i := 1) scK.nd rfl (Or.inl rfl) (pe_op op_cat (pv 1) (pe_lst (pa_cons (pe_callB call_isX (by rfl) T.is PyProof.Rows.boot_isinstance (pa_cons (pv 0) (pa_cons (pe_glob (v := .ref c.c7) (by rfl) T.g7 rfl) pa_nil)))
        (pa_cons (pe_callB call_isX (by rfl) T.is PyProof.Rows.boot_isinstance (pa_cons (pv 0) (pa_cons (pe_glob (v := .ref c.c8) (by rfl) T.g8 rfl) pa_nil)))
        (pa_cons (pe_callB call_isX (by rfl) T.is PyProof.Rows.boot_isinstance (pa_cons (pv 0) (pa_cons (pe_glob (v := .ref c.c9) (by rfl) T.g9 rfl) pa_nil))) pa_nil))))))
      (pss_one (ps_ret (pe_op op_cat (pv 1) (pe_lst (pa_cons (pe_callB call_isX (by rfl) T.is PyProof.Rows.boot_isinstance (pa_cons (pv 0) (pa_cons (pe_glob (v := .ref c.c10) (by rfl) T.g10 rfl) pa_nil)))
        (pa_cons (pe_callB call_isX (by rfl) T.is PyProof.Rows.boot_isinstance (pa_cons (pv 0) (pa_cons (pe_glob (v := .ref c.c11) (by rfl) T.g11 rfl) pa_nil)))
        (pa_cons (pe_callB call_isX (by rfl) T.is PyProof.Rows.boot_isinstance (pa_cons (pv 0) (pa_cons (pe_glob (v := .ref c.c12) (by rfl) T.g12 rfl) pa_nil))) pa_nil))))))))), ?_⟩
    refine ⟨_, rfl, a, D, _, _, k1, rfl, .own _, ea, eD, B.h1, _, rfl, a, D, _, _, k2, rfl, .own _, ea, eD, B.h2, _, rfl, a, D, _, _, k3, rfl, .own _, ea, eD, B.h3, by show 3 ≤ sizeLine; decide, fun p1 n1 => ?_⟩
    have s1 := same_new (o := .lst [V.bl k1, V.bl k2, V.bl k3]) n1
    have h1 : ∀ {o : HO}, (upd H p1 o) p1 = some o := upd_same
    refine ⟨_, rfl, _, rfl, a, D, _, _, k4, rfl, .own _, (exAt_same ea s1), eD, B.h4, _, rfl, a, D, _, _, k5, rfl, .own _, (exAt_same ea s1), eD, B.h5, _, rfl, a, D, _, _, k6, rfl, .own _, (exAt_same ea s1), eD, B.h6, by show 3 ≤ sizeLine; decide, fun p2 n2 => ?_⟩
    have s2 := s1.trans (same_new (o := .lst [V.bl k4, V.bl k5, V.bl k6]) n2)
    have ne2 : p1 ≠ p2 := ne_of_none upd_same n2
    refine ⟨p1, p2, _, _, rfl, rfl, (by rw [upd_ne ne2]; exact upd_same), upd_same, by show 6 ≤ sizeLine; decide, fun p3 n3 => ?_⟩
    have s3 := s2.trans (same_new (o := .lst [V.bl k1, V.bl k2, V.bl k3, V.bl k4, V.bl k5, V.bl k6]) n3)
    refine ⟨_, rfl, _, rfl, a, D, _, _, k7, rfl, .own _, (exAt_same ea s3), eD, B.h7, _, rfl, a, D, _, _, k8, rfl, .own _, (exAt_same ea s3), eD, B.h8, _, rfl, a, D, _, _, k9, rfl, .own _, (exAt_same ea s3), eD, B.h9, by show 3 ≤ sizeLine; decide, fun p4 n4 => ?_⟩
    have s4 := s3.trans (same_new (o := .lst [V.bl k7, V.bl k8, V.bl k9]) n4)
    have ne4 : p3 ≠ p4 := ne_of_none upd_same n4
    refine ⟨p3, p4, _, _, rfl, rfl, (by rw [upd_ne ne4]; exact upd_same), upd_same, by show 9 ≤ sizeLine; decide, fun p5 n5 => ?_⟩
    have s5 := s4.trans (same_new (o := .lst [V.bl k1, V.bl k2, V.bl k3, V.bl k4, V.bl k5, V.bl k6, V.bl k7, V.bl k8, V.bl k9]) n5)
    refine ⟨_, rfl, _, rfl, a, D, _, _, k10, rfl, .own _, (exAt_same ea s5), eD, B.h10, _, rfl, a, D, _, _, k11, rfl, .own _, (exAt_same ea s5), eD, B.h11, _, rfl, a, D, _, _, k12, rfl, .own _, (exAt_same ea s5), eD, B.h12, by show 3 ≤ sizeLine; decide, fun p6 n6 => ?_⟩
    have s6 := s5.trans (same_new (o := .lst [V.bl k10, V.bl k11, V.bl k12]) n6)
    have ne6 : p5 ≠ p6 := ne_of_none upd_same n6
    refine ⟨p5, p6, _, _, rfl, rfl, (by rw [upd_ne ne6]; exact upd_same), upd_same, by show 12 ≤ sizeLine; decide, fun p7 n7 => ?_⟩
    have s7 := s6.trans (same_new (o := .lst [V.bl k1, V.bl k2, V.bl k3, V.bl k4, V.bl k5, V.bl k6, V.bl k7, V.bl k8, V.bl k9, V.bl k10, V.bl k11, V.bl k12]) n7)
    exact k _ p7 s7 (Same.free s6 n7) upd_same
end
end K0
set_option Elab.async false
set_option linter.all false
set_option maxRecDepth 100000
set_option maxHeartbeats 4000000
namespace K0
open PySem PySem.Spec PyProof.Rows L2
/-- the classes by their number: EndError, then the eight with a message, then the four with a value -/
def Cs.m (c : Cs) : Nat → Addr
  | 0 => c.c0 | 1 => c.c1 | 2 => c.c2 | 3 => c.c3 | 4 => c.c4 | 5 => c.c5 | 6 => c.c6 | 7 => c.c7 | 8 => c.c8 | 9 => c.c9 | 10 => c.c10 | 11 => c.c11 | _ => c.c12
def kb (i j : Nat) : Bool := decide (j = i)
/-- an exception of the i-th kind (12: of none of them) -/
def KIat (K : PySem.W.Frag) (c : Cs) (D : Addr) (i : Nat) : Prop := KI K c D (kb i 0) (kb i 1) (kb i 2) (kb i 3) (kb i 4) (kb i 5) (kb i 6) (kb i 7) (kb i 8) (kb i 9) (kb i 10) (kb i 11)
abbrev veB : List Value := [.type "ValueError", .type "Exception", .type "BaseException", .type "object"]
structure TxtM (K : PySem.W.Frag) (mg : Str → Option Value) (c : Cs) : Prop where
  B : TxtB mg
  C : TxtK mg c
  en : mg "enumerate" = none
  ra : mg "range" = none
  q : ∀ i, i < 9 → PySem.W.excIn K (c.m i) veB "ValueError.__new__" = true ∧ PySem.W.keepIn K (.ref (c.m i)) = true
  e : ∀ i, i < 9 → ExcC K (c.m i) ∧ BI K (c.m i) true false false false false false
  k0 : KIat K c c.c0 12
  k : ∀ i, i < 8 → KIat K c (c.m (i + 1)) i
  ee : ∀ i, i < 8 → PySem.W.kitOne K (.ref (c.m (i + 1))) (.ref c.c0) = some true
theorem dpBools {K : PySem.W.Frag} {H : Hp} : ∀ bs : List Bool, DpAll K H (bs.map V.bl) (bs.map PyData.bool)
  | [] => .nil
  | b :: r => .cons (.bl b) (dpBools r)
def kinds12 (i : Nat) : List Bool := (List.range 12).map (kb i)
theorem shaped12 (i : Nat) : SeqAt.shaped (.list ((kinds12 i).map PyData.bool)) = true := by
  first | rfl | (simp [SeqAt.shaped, kinds12]; rfl)
theorem kb_eq (i j : Nat) : decide (V.int ((0 : Int) + (j : Int)) = V.int (i : Int)) = kb i j := by
  unfold kb
  by_cases h : j = i
  · subst h
    simp
  · rw [decide_eq_false h]
    refine decide_eq_false fun z => h ?_
    have y := V.int.inj z
    omega
def spMess (K : PySem.W.Frag) : Sp := fun vs H Q _ => ∃ z : Str, vs = [.str z] ∧ ∀ H', Same H H' → Q (.bl true) H'
section
variable {P : Program} {w : World} {K : PySem.W.Frag} {mg : Str → Option Value} {base : Heap}
theorem scM : FnScope ["_law_words", "_law_some", "_law_at", "_law_e", "_law_one"] ["_law_words"] (defScope sMess) :=
  ⟨rfl, rfl, rfl, by decide +kernel, rfl, by decide +kernel, by decide +kernel⟩
theorem ok_mess {f fB fK : Addr} {fd fdB fdK : FuncData} {c : Cs} (F : Fun K "_law_messages_right" "_law_messages_right" sMess f fd) (T : TxtM K mg c)
    (FB : Fun K "_law_built_in" "_law_built_in" sBuilt fB fdB) (mB : mg "_law_built_in" = some (.ref fB)) (kB : PySem.W.keepIn K (.ref fB) = true) (bB : Binds K fdB ["_law_e"] [])
    (FK : Fun K "_law_kinds" "_law_kinds" sKinds fK fdK) (mK : mg "_law_kinds" = some (.ref fK)) (kK : PySem.W.keepIn K (.ref fK) = true) (bK : Binds K fdK ["_law_e"] []) : FnOk P w K mg base CX0 2 f fd ["_law_words"] (spMess K) := by
  have GB : FnOk P w K mg base CX0 1 fB fdB ["_law_e"] (spBuilt K) := ok_built FB T.B
  have GK : FnOk P w K mg base CX0 1 fK fdK ["_law_e"] (spKinds K c) := ok_kinds FK T.C
  refine F.ok scM (fun vs H Q E h => ?_) (fun cdv A outer s H vs Q E hr h => ?_)
  · obtain ⟨z, rfl, _⟩ := h
    rfl
  · obtain ⟨z, rfl, k⟩ := h
    have hu := hu_of hr
    refine ⟨_, pss_cons (ps_set (i := 1) scM.nd rfl (Or.inl rfl) (pe_lst (pa_cons (pe_exc1 PySem.F.excBase_ValueError (T.q 1 (by decide)).1 T.C.g1 (T.q 1 (by decide)).2 (by rfl) (pv 0)) (pa_cons (pe_exc1 PySem.F.excBase_ValueError (T.q 2 (by decide)).1 T.C.g2 (T.q 2 (by decide)).2 (by rfl) (pv 0)) (pa_cons (pe_exc1 PySem.F.excBase_ValueError (T.q 3 (by decide)).1 T.C.g3 (T.q 3 (by decide)).2 (by rfl) (pv 0)) (pa_cons (pe_exc1 PySem.F.excBase_ValueError (T.q 4 (by decide)).1 T.C.g4 (T.q 4 (by decide)).2 (by rfl) (pv 0)) pa_nil))))))
      (pss_cons (ps_set (i := 1) scM.nd rfl (Or.inl rfl) (pe_op op_cat (pv 1) (pe_lst (pa_cons (pe_exc1 PySem.F.excBase_ValueError (T.q 5 (by decide)).1 T.C.g5 (T.q 5 (by decide)).2 (by rfl) (pv 0)) (pa_cons (pe_exc1 PySem.F.excBase_ValueError (T.q 6 (by decide)).1 T.C.g6 (T.q 6 (by decide)).2 (by rfl) (pv 0)) (pa_cons (pe_exc1 PySem.F.excBase_ValueError (T.q 7 (by decide)).1 T.C.g7 (T.q 7 (by decide)).2 (by rfl) (pv 0)) (pa_cons (pe_exc1 PySem.F.excBase_ValueError (T.q 8 (by decide)).1 T.C.g8 (T.q 8 (by decide)).2 (by rfl) (pv 0)) pa_nil)))))))
      (pss_cons (ps_for PassesOwn.never rfl (pi_enum (by rfl) T.en (pa_cons (pv 1) pa_nil)) (pg_tup rfl (pgs_cons (pg_name (i := 2) scM.nd rfl (.inr rfl)) (pgs_cons (pg_name (i := 3) scM.nd rfl (.inl rfl)) pgs_nil)))
        (pss_one (ps_if (PW.pt (pw_or (pt_not (pt_val (pe_callB call_isX (by rfl) T.B.is PyProof.Rows.boot_isinstance (pa_cons (pv 3) (pa_cons (pe_glob (v := .ref c.c0) (by rfl) T.C.g0 rfl) pa_nil)))))
          (pw_or (pt_cmpR op_ne (pe_call GB hr (by rfl) mB kB bB .nil pass0 (pa_cons (pv 3) pa_nil)) pe_int (nomark _)) (pw_or1 (pt_cmpR (op_neD hr.units) (pe_call GK hr (by rfl) mK kK bK .nil pass0 (pa_cons (pv 3) pa_nil)) (pe_lc (own := [("_law_one", 4)]) (g := gName 4) (tt := tYes) rfl scM.nd (pi_range1 (by rfl) T.ra (pa_cons pe_int pa_nil)) (blkOk_by (N := ["_law_words", "_law_some", "_law_at", "_law_e", "_law_one"]) (sc := defScope sMess) (by decide +kernel))
          (fun _ _ _ _ _ => pg_name (i := 4) scM.nd rfl (.inl rfl)) (fun _ _ _ _ _ => pts_nil) (fun _ _ _ _ _ => pe_cmpR op_eq (pv 4) (pv 2) (nomark _))) (nomark _))))))
          (pss_one (ps_ret pe_bl)) pss_nil)))
      (pss_one (ps_ret (pe_and (pe_cmpR op_eq (pe_call GB hr (by rfl) mB kB bB .nil pass0 (pa_cons (pe_exc1 PySem.F.excBase_ValueError (T.q 0 (by decide)).1 T.C.g0 (T.q 0 (by decide)).2 (by rfl) (pv 0)) pa_nil)) pe_int (nomark _)) (pe_one (pe_cmpR op_notIn_seq pe_bl (pe_call GK hr (by rfl) mK kK bK .nil pass0 (pa_cons (pe_exc1 PySem.F.excBase_ValueError (T.q 0 (by decide)).1 T.C.g0 (T.q 0 (by decide)).2 (by rfl) (pv 0)) pa_nil)) (by rfl)))))))), ?_⟩
    refine ⟨_, rfl, fun a1 n1 => ?_⟩
    refine ⟨_, rfl, fun a2 n2 => ?_⟩
    refine ⟨_, rfl, fun a3 n3 => ?_⟩
    refine ⟨_, rfl, fun a4 n4 => ⟨by show 4 ≤ sizeLine; decide, fun p1 m1 => ?_⟩⟩
    refine ⟨_, rfl, _, rfl, fun a5 n5 => ?_⟩
    refine ⟨_, rfl, fun a6 n6 => ?_⟩
    refine ⟨_, rfl, fun a7 n7 => ?_⟩
    refine ⟨_, rfl, fun a8 n8 => ⟨by show 4 ≤ sizeLine; decide, fun p2 m2 => ?_⟩⟩
    have t1 := same_new (o := ExO (.ref c.c1) a1) n1
    have t2 := same_new (o := ExO (.ref c.c2) a2) n2
    have t3 := same_new (o := ExO (.ref c.c3) a3) n3
    have t4 := same_new (o := ExO (.ref c.c4) a4) n4
    have u1 := same_new (o := .lst [V.ref a1, .ref a2, .ref a3, .ref a4]) m1
    have t5 := same_new (o := ExO (.ref c.c5) a5) n5
    have t6 := same_new (o := ExO (.ref c.c6) a6) n6
    have t7 := same_new (o := ExO (.ref c.c7) a7) n7
    have t8 := same_new (o := ExO (.ref c.c8) a8) n8
    have u2 := same_new (o := .lst [V.ref a5, .ref a6, .ref a7, .ref a8]) m2
    have v8 := t8.trans u2
    have v7 := t7.trans v8
    have v6 := t6.trans v7
    have v5 := t5.trans v6
    have w1 := u1.trans v5
    have v4 := t4.trans w1
    have v3 := t3.trans v4
    have v2 := t2.trans v3
    have v1 := t1.trans v2
    refine ⟨p1, p2, _, _, rfl, rfl, v5 _ _ upd_same, upd_same, by show 8 ≤ sizeLine; decide, fun p3 m3 => ?_⟩
    have u3 := same_new (o := .lst [V.ref a1, .ref a2, .ref a3, .ref a4, .ref a5, .ref a6, .ref a7, .ref a8]) m3
    have ne0 : p3 = p3 := rfl
    refine ⟨_, rfl, p3, [a1, a2, a3, a4, a5, a6, a7, a8].map V.ref, rfl, SqL.of upd_same, for_it (walk_enum (xs := [a1, a2, a3, a4, a5, a6, a7, a8].map V.ref))
      (fun i σ Hc => (∃ x2 x3 x4 : Option V, σ = [some (.str z), some (.ref p3), x2, x3, x4]) ∧ Same H Hc ∧ Hc p3 = some (.lst ([a1, a2, a3, a4, a5, a6, a7, a8].map V.ref)) ∧
        ∀ j a, [a1, a2, a3, a4, a5, a6, a7, a8][j]? = some a → ExAt Hc a (c.m (j + 1))) ⟨⟨_, _, _, rfl⟩, v1.trans u3, upd_same, ?_⟩ (fun i σ Hc _ hp => SqL.of hp.2.2.1) ?_ ?_⟩
    · intro j a hj
      have hj8 : j < 8 := by
        have y := (List.getElem?_eq_some_iff.mp hj).1
        exact y
      obtain rfl | rfl | rfl | rfl | rfl | rfl | rfl | rfl : j = 0 ∨ j = 1 ∨ j = 2 ∨ j = 3 ∨ j = 4 ∨ j = 5 ∨ j = 6 ∨ j = 7 := by omega
      · cases hj; exact .inl ((v2.trans u3) _ _ upd_same)
      · cases hj; exact .inl ((v3.trans u3) _ _ upd_same)
      · cases hj; exact .inl ((v4.trans u3) _ _ upd_same)
      · cases hj; exact .inl ((w1.trans u3) _ _ upd_same)
      · cases hj; exact .inl ((v6.trans u3) _ _ upd_same)
      · cases hj; exact .inl ((v7.trans u3) _ _ upd_same)
      · cases hj; exact .inl ((v8.trans u3) _ _ upd_same)
      · cases hj; exact .inl ((u2.trans u3) _ _ upd_same)
    · rintro i v σ Hc Hc' hi ⟨⟨x2, x3, x4, rfl⟩, sm, hp, hx⟩ ⟨T', x, y, rfl, nT, rfl, h1, h2⟩
      cases h1
      have h2 : ([a1, a2, a3, a4, a5, a6, a7, a8].map V.ref)[i]? = some y := h2
      rw [List.getElem?_map] at h2
      obtain ⟨a, ha, rfl⟩ := Option.map_eq_some_iff.mp h2
      have hi8 : i < 8 := hi
      have sT := same_new (o := .tup [V.int (i : Nat), .ref a]) nT
      have hxT : ∀ {H2 : Hp}, Same (upd Hc T' (.tup [V.int (i : Nat), .ref a])) H2 → ExAt H2 a (c.m (i + 1)) := fun s2 => exAt_same (hx i a ha) (sT.trans s2)
      obtain ⟨eD, eB⟩ := T.e (i + 1) (by omega)
      refine ⟨T', _, rfl, SqT.of upd_same, rfl, _, _, rfl, _, _, rfl, rfl, ?_⟩
      refine ⟨_, rfl, a, c.m (i + 1), _, _, true, rfl, .own _, hxT (Same.refl _), eD, T.ee i hi8, _, rfl, iteF ?_⟩
      refine ⟨_, rfl, a, c.m (i + 1), _, _, _, _, _, _, rfl, hxT (Same.refl _), eD, eB, fun H1 sm1 => ⟨rfl, _, rfl, iteNS rfl ?_⟩⟩
      refine ⟨_, rfl, a, c.m (i + 1), _, _, _, _, _, _, _, _, _, _, _, _, rfl, hxT sm1, eD, T.k i hi8, fun H2 p sm2 np hp2 => ?_⟩
      refine ⟨12, rfl, by decide, by decide, fun L hL => ?_⟩
      refine lc_range (n := 12) (fun j Hd => Same H2 Hd ∧ Hd L = some (.lst (((List.range j).map (kb i)).map V.bl))) ⟨same_new hL, upd_same⟩ ?_ ?_
      · rintro j Hd hj ⟨sd, hd⟩
        have nL : ∀ o, Same H2 (upd Hd L o) := fun o b u e => by
          rw [upd_ne (ne_of_none e hL)]
          exact sd b u e
        refine ⟨rfl, _, rfl, _, rfl, rfl, _, hd, small1000 (by rw [List.length_map, List.length_map, List.length_range]; omega), nL _, ?_⟩
        rw [upd_same, kb_eq, List.range_succ, List.map_append, List.map_append]
        rfl
      · rintro Hd ⟨sd, hd⟩
        refine ⟨.list ((kinds12 i).map PyData.bool), .list ((kinds12 i).map PyData.bool), .lst (SqL.of (sd _ _ hp2)) (dpBools (kinds12 i)), .lst (SqL.of hd) (dpBools (kinds12 i)), shaped12 i, shaped12 i, ?_⟩
        rw [SeqAt.eqv_refl _ (SeqAt.canLay_of_shaped (shaped12 i))]
        exact ⟨_, rfl, ⟨_, _, _, rfl⟩, sm.trans (((sT.trans sm1).trans sm2).trans sd), (((sT.trans sm1).trans sm2).trans sd) _ _ hp, fun j b hj => exAt_same (hx j b hj) (((sT.trans sm1).trans sm2).trans sd)⟩
    · rintro σ Hc ⟨⟨x2, x3, x4, rfl⟩, sm, _, _⟩
      obtain ⟨eD, eB⟩ := T.e 0 (by omega)
      refine ⟨_, rfl, fun b nb => ?_⟩
      have sb := same_new (o := ExO (.ref c.c0) b) nb
      refine ⟨b, c.c0, _, _, _, _, _, _, rfl, .inl upd_same, eD, eB, fun H1 sm1 => ⟨rfl, _, rfl, ?_⟩⟩
      refine ⟨_, rfl, fun b2 nb2 => ?_⟩
      have sb2 := same_new (o := ExO (.ref c.c0) b2) nb2
      refine ⟨b2, c.c0, _, _, _, _, _, _, _, _, _, _, _, _, rfl, .inl upd_same, eD, T.k0, fun H2 p sm2 np hp2 => ?_⟩
      refine ⟨p, _, rfl, .inl (SqL.of hp2), rfl, rfl, ?_⟩
      exact k _ ((((sm.trans sb).trans sm1).trans sb2).trans sm2)
end
end K0
set_option Elab.async false
set_option linter.all false
set_option maxRecDepth 100000
set_option maxHeartbeats 4000000
namespace K0
open PySem PySem.Spec PyProof.Rows L2
/-! ### data that can be shown -/
structure Rp (d : PyData) (n b : Nat) : Prop where
  s : d.showable = true
  h : d.hasDict = false
  dp : d.depth ≤ n
  l : d.leavesShort 1921 = true
  bu : d.bulk ≤ b
theorem Rp.none : Rp .none 0 0 := ⟨rfl, rfl, Nat.le_refl _, rfl, Nat.le_refl _⟩
theorem Rp.int {i : Int} (h : i.natAbs.log2 < 1920) : Rp (.int i) 0 0 :=
  ⟨decide_eq_true h, rfl, Nat.le_refl _, decide_eq_true (by rw [PyData.shown_int]; exact int_text_len_1921 h), Nat.le_refl _⟩
theorem Rp.str {x : Str} {b : Nat} (h : x.cps.toList.all (fun c => decide (c < 16 ^ 8)) = true) (hb : x.cps.size ≤ b) : Rp (.str x) 0 b := ⟨rfl, rfl, Nat.le_refl _, h, hb⟩
theorem Rp.mono {d : PyData} {n n' b b' : Nat} (r : Rp d n b) (h : n ≤ n') (h' : b ≤ b') : Rp d n' b' := ⟨r.s, r.h, Nat.le_trans r.dp h, r.l, Nat.le_trans r.bu h'⟩
theorem Rp.tup2 {d e : PyData} (r : Rp d 0 8) (q : Rp e 0 8) : Rp (.tuple [d, e]) 1 20 :=
  ⟨by simp [PyData.showable, PyData.showableAll, r.s, q.s], by simp [PyData.hasDict, PyData.hasDictAll, r.h, q.h],
   by have h1 := r.dp; have h2 := q.dp; simp only [PyData.depth, PyData.depthAll]; omega,
   by simp [PyData.leavesShort, PyData.leavesShortAll, r.l, q.l],
   by have h1 := r.bu; have h2 := q.bu; simp only [PyData.bulk, PyData.bulkAll]; omega⟩
theorem Rp.list4 {d e f g : PyData} (r : Rp d 1 20) (q : Rp e 1 20) (t : Rp f 1 20) (u : Rp g 1 20) : Rp (.list [d, e, f, g]) 2 100 :=
  ⟨by simp [PyData.showable, PyData.showableAll, r.s, q.s, t.s, u.s], by simp [PyData.hasDict, PyData.hasDictAll, r.h, q.h, t.h, u.h],
   by have h1 := r.dp; have h2 := q.dp; have h3 := t.dp; have h4 := u.dp; simp only [PyData.depth, PyData.depthAll]; omega,
   by simp [PyData.leavesShort, PyData.leavesShortAll, r.l, q.l, t.l, u.l],
   by have h1 := r.bu; have h2 := q.bu; have h3 := t.bu; have h4 := u.bu; simp only [PyData.bulk, PyData.bulkAll]; omega⟩
theorem Rp.fits {d : PyData} {n : Nat} (r : Rp d n 100) : d.shown.length ≤ sizeLine := by
  have h1 := PyData.shown_le_bulk 1921 (by decide) d r.l
  have h2 := r.bu
  rw [sizeLine_eq]
  omega
theorem log2_small {i : Int} {k : Nat} (h : i.natAbs < 2 ^ k) (hk : k ≤ 1920) (h0 : 0 < k) : i.natAbs.log2 < 1920 := by
  by_cases z : i.natAbs = 0
  · rw [z]; decide
  · exact Nat.lt_of_lt_of_le ((Nat.log2_lt z).mpr h) hk
/-! ### the heap but for the dice -/
def SB (d : Addr) (H H' : Hp) : Prop := ∀ b o, b ≠ d → H b = some o → H' b = some o
theorem SB.refl (d : Addr) (H : Hp) : SB d H H := fun _ _ _ e => e
theorem SB.trans {d : Addr} {H H1 H2 : Hp} (a : SB d H H1) (b : SB d H1 H2) : SB d H H2 := fun c o n e => b c o n (a c o n e)
theorem SB.of {d : Addr} {H H' : Hp} (s : Same H H') : SB d H H' := fun b o _ e => s b o e
theorem SB.dice (d : Addr) (H : Hp) (o : HO) : SB d H (upd H d o) := fun b u n e => by rw [upd_ne n]; exact e
/-- a value that can be shown, whatever comes -/
def Good (K : PySem.W.Frag) (d : Addr) (H : Hp) (x : V) : Prop := ∃ dv, Rp dv 1 20 ∧ ∀ Hf, SB d H Hf → Dp K Hf x dv
theorem Good.go {K : PySem.W.Frag} {d : Addr} {H H' : Hp} {x : V} (g : Good K d H x) (s : SB d H H') : Good K d H' x := by
  obtain ⟨dv, r, q⟩ := g
  exact ⟨dv, r, fun Hf t => q Hf (s.trans t)⟩
theorem good_int {K : PySem.W.Frag} {d : Addr} {H : Hp} {i : Int} (h : i.natAbs.log2 < 1920) : Good K d H (.int i) := ⟨.int i, (Rp.int h).mono (by decide) (by decide), fun _ _ => .int i⟩
theorem good_non {K : PySem.W.Frag} {d : Addr} {H : Hp} : Good K d H .non := ⟨.none, Rp.none.mono (by decide) (by decide), fun _ _ => .non⟩
theorem good_str {K : PySem.W.Frag} {d : Addr} {H : Hp} {x : Str} (h : x.cps.toList.all (fun c => decide (c < 16 ^ 8)) = true) (hb : x.cps.size ≤ 8) : Good K d H (.str x) :=
  ⟨.str x, (Rp.str h hb).mono (by decide) (by decide), fun _ _ => .str x⟩
theorem dpInts {K : PySem.W.Frag} {H : Hp} : ∀ ns : List Int, DpAll K H (ns.map V.int) (ns.map PyData.int)
  | [] => .nil
  | b :: r => .cons (.int b) (dpInts r)
theorem boot_repr : bootBuiltins "repr" = some (.builtin "repr") := by decide +kernel
theorem pow9 : CPowW 10 9 := ⟨by decide, by decide +kernel⟩
theorem pow50 : CPowW 10 50 := ⟨by decide, by decide +kernel⟩
structure TxtV (P : Program) (w : World) (K : PySem.W.Frag) (mg : Str → Option Value) (c : Cs) : Prop where
  D : TxtD mg
  M : TxtM K mg c
  re : mg "repr" = none
  v9 : VMade P w K mg c.c9 "value"
  v10 : VMade P w K mg c.c10 "name"
  v11 : VMade P w K mg c.c11 "limit"
  v12 : VMade P w K mg c.c12 "many"
  kv9 : PySem.W.keepIn K (.ref c.c9) = true
  kv10 : PySem.W.keepIn K (.ref c.c10) = true
  kv11 : PySem.W.keepIn K (.ref c.c11) = true
  kv12 : PySem.W.keepIn K (.ref c.c12) = true
  e : ∀ i, i < 4 → ExcC K (c.m (9 + i)) ∧ KIat K c (c.m (9 + i)) (8 + i) ∧ PySem.W.kitOne K (.ref (c.m (9 + i))) (.ref c.c0) = some false
  b9 : BI K c.c9 false true false true false false
  b10 : BI K c.c10 false false true true false false
  b11 : BI K c.c11 false false false false true true
  b12 : BI K c.c12 false false false true false false
  n9 : PySem.W.findIn K (.ref c.c9) "value" = some none
  n10 : PySem.W.findIn K (.ref c.c10) "name" = some none
  n11 : PySem.W.findIn K (.ref c.c11) "limit" = some none
  n12 : PySem.W.findIn K (.ref c.c12) "many" = some none
theorem good_of {K : PySem.W.Frag} {d : Addr} {H : Hp} {xs : List V} {n : Nat} {v : V} (h : ∀ x ∈ xs, Good K d H x) (e : xs[n]? = some v) : Good K d H v := h v (List.mem_of_getElem? e)
theorem same_two {H : Hp} {a b : Addr} {o u : HO} (ha : H a = none) (hb : H b = none) (ne : b ≠ a) : Same H (upd (upd H b o) a u) := (same_new hb).trans (same_new (by rw [upd_ne (Ne.symm ne)]; exact ha))
/-- the state behind the making of the four exceptions -/
structure Fin4 (K : PySem.W.Frag) (c : Cs) (d pk ps e0 e1 e2 e3 d0 d1 d2 d3 : Addr) (v1 v2 v3 v4 : V) (H0 H : Hp) : Prop where
  sb : SB d H0 H
  di : DiceAt H d
  kp : H pk = some (.lst [v1, v2, v3, v4])
  so : H ps = some (.lst [.ref e0, .ref e1, .ref e2, .ref e3])
  x0 : H e0 = some (exo e0 c.c9 (some d0))
  x1 : H e1 = some (exo e1 c.c10 (some d1))
  x2 : H e2 = some (exo e2 c.c11 (some d2))
  x3 : H e3 = some (exo e3 c.c12 (some d3))
  y0 : H d0 = some (ExD "value" v1 d0)
  y1 : H d1 = some (ExD "name" v2 d1)
  y2 : H d2 = some (ExD "limit" v3 d2)
  y3 : H d3 = some (ExD "many" v4 d3)
  g1 : Good K d H v1
  g2 : Good K d H v2
  g3 : Good K d H v3
  g4 : Good K d H v4
theorem Fin4.same {K : PySem.W.Frag} {c : Cs} {d pk ps e0 e1 e2 e3 d0 d1 d2 d3 : Addr} {v1 v2 v3 v4 : V} {H0 H H' : Hp} (f : Fin4 K c d pk ps e0 e1 e2 e3 d0 d1 d2 d3 v1 v2 v3 v4 H0 H) (s : Same H H') : Fin4 K c d pk ps e0 e1 e2 e3 d0 d1 d2 d3 v1 v2 v3 v4 H0 H' := by
  obtain ⟨x, y, z, hd⟩ := f.di
  exact ⟨f.sb.trans (SB.of s), ⟨x, y, z, s _ _ hd⟩, s _ _ f.kp, s _ _ f.so, s _ _ f.x0, s _ _ f.x1, s _ _ f.x2, s _ _ f.x3, s _ _ f.y0, s _ _ f.y1, s _ _ f.y2, s _ _ f.y3, f.g1.go (SB.of s), f.g2.go (SB.of s), f.g3.go (SB.of s), f.g4.go (SB.of s)⟩
theorem Fin4.ex {K : PySem.W.Frag} {c : Cs} {d pk ps e0 e1 e2 e3 d0 d1 d2 d3 : Addr} {v1 v2 v3 v4 : V} {H0 H : Hp} (f : Fin4 K c d pk ps e0 e1 e2 e3 d0 d1 d2 d3 v1 v2 v3 v4 H0 H) {j : Nat} {a : Addr} (hj : [e0, e1, e2, e3][j]? = some a) : ExAt H a (c.m (9 + j)) := by
  have h4 : j < 4 := (List.getElem?_eq_some_iff.mp hj).1
  obtain rfl | rfl | rfl | rfl : j = 0 ∨ j = 1 ∨ j = 2 ∨ j = 3 := by omega
  · cases hj; exact .inr ⟨_, _, _, f.x0, f.y0⟩
  · cases hj; exact .inr ⟨_, _, _, f.x1, f.y1⟩
  · cases hj; exact .inr ⟨_, _, _, f.x2, f.y2⟩
  · cases hj; exact .inr ⟨_, _, _, f.x3, f.y3⟩
theorem e9 : (10 : Int) ^ (9 : Int).toNat = 1000000000 := by decide +kernel
theorem great_ok {r : Int} (h0 : 0 ≤ r) (h1 : r < (10 : Int) ^ (9 : Int).toNat) : (r * (10 : Int) ^ (50 : Int).toNat).natAbs.log2 < 1920 ∧ (0 - r * (10 : Int) ^ (50 : Int).toNat).natAbs.log2 < 1920 := by
  have e : (10 : Int) ^ (50 : Int).toNat = 100000000000000000000000000000000000000000000000000 := by decide +kernel
  have e2 : (2 : Nat) ^ 200 = 1606938044258990275541962092341162602522202993782792835301376 := by decide +kernel
  rw [e9] at h1
  rw [e]
  exact ⟨log2_small (k := 200) (by rw [e2]; omega) (by decide) (by decide), log2_small (k := 200) (by rw [e2]; omega) (by decide) (by decide)⟩
def spVals : Sp := fun vs H Q _ => ∃ d : Addr, vs = [.ref d] ∧ DiceAt H d ∧ ∀ H', SB d H H' → DiceAt H' d → Q (.bl true) H'
abbrev NV : List Str := ["_law_dice_here", "_law_great", "_law_value", "_law_name_here", "_law_kept", "_law_some", "_law_at", "_law_e", "_law_one"]
section
variable {P : Program} {w : World} {K : PySem.W.Frag} {mg : Str → Option Value} {base : Heap}
theorem scV : FnScope NV ["_law_dice_here"] (defScope sVals) :=
  ⟨rfl, rfl, rfl, by decide +kernel, rfl, by decide +kernel, by decide +kernel⟩
theorem ok_vals {f fB fK fR fO : Addr} {fd fdB fdK fdR fdO : FuncData} {c : Cs} (F : Fun K "_law_values_right" "_law_values_right" sVals f fd) (T : TxtV P w K mg c)
    (FB : Fun K "_law_built_in" "_law_built_in" sBuilt fB fdB) (mB : mg "_law_built_in" = some (.ref fB)) (kB : PySem.W.keepIn K (.ref fB) = true) (bB : Binds K fdB ["_law_e"] [])
    (FK : Fun K "_law_kinds" "_law_kinds" sKinds fK fdK) (mK : mg "_law_kinds" = some (.ref fK)) (kK : PySem.W.keepIn K (.ref fK) = true) (bK : Binds K fdK ["_law_e"] [])
    (FR : Fun K "_law_roll" "_law_roll" sRoll fR fdR) (mR : mg "_law_roll" = some (.ref fR)) (kR : PySem.W.keepIn K (.ref fR) = true) (bR : Binds K fdR ["_law_dice_here", "_law_total"] [])
    (FO : Fun K "_law_one_of" "_law_one_of" sOneOf fO fdO) (mO : mg "_law_one_of" = some (.ref fO)) (kO : PySem.W.keepIn K (.ref fO) = true) (bO : Binds K fdO ["_law_dice_here", "_law_items"] []) :
    FnG P w K mg base CX0 3 f fd ["_law_dice_here"] spVals := by
  have GB : FnOk P w K mg base CX0 1 fB fdB ["_law_e"] (spBuilt K) := ok_built FB T.M.B
  have GK : FnOk P w K mg base CX0 1 fK fdK ["_law_e"] (spKinds K c) := ok_kinds FK T.M.C
  have GR : FnOk P w K mg base CX0 1 fR fdR ["_law_dice_here", "_law_total"] spRoll := ok_roll FR T.D.mI
  have GO : FnOk P w K mg base CX0 2 fO fdO ["_law_dice_here", "_law_items"] spOneOf := ok_oneOf FO T.D FR mR kR bR
  refine F.okG scV (fun vs H Q E h => ?_) (fun cdv A outer s H vs Q E hr hgA h => ?_)
  · obtain ⟨d, rfl, _⟩ := h
    rfl
  · obtain ⟨d, rfl, hd, k⟩ := h
    have hu := hu_of hr
    have hgd : (A.deeper (envOfC "_law_values_right" (defScope sVals) s.heap.objs.size f cdv)).guards = some [] := guards_deeper hgA
    refine ⟨_, (pss_cons (ps_set (i := 1) scV.nd rfl (Or.inl rfl) (pe_op op_mul (pe_call GR (hr.mono (by decide)) (by rfl) mR kR bR .nil pass0 (pa_cons (pv 0) (pa_cons (pe_op op_powW pe_int pe_int) pa_nil))) (pe_op op_powW pe_int pe_int)))
      (pss_cons (ps_set (i := 2) scV.nd rfl (Or.inl rfl) (pe_call GO hr (by rfl) mO kO bO .nil pass0 (pa_cons (pv 0) (pa_cons (pe_lst (pa_cons pe_int (pa_cons (pe_un un_neg pe_int) (pa_cons pe_int (pa_cons (pv 1) (pa_cons (pe_op op_sub pe_int (pv 1)) (pa_cons pe_non (pa_cons pe_str (pa_cons (pe_tup (pa_cons pe_int (pa_cons pe_int pa_nil))) pa_nil))))))))) pa_nil))))
      (pss_cons (ps_set (i := 3) scV.nd rfl (Or.inl rfl) (pe_call GO hr (by rfl) mO kO bO .nil pass0 (pa_cons (pv 0) (pa_cons (pe_lst (pa_cons pe_str (pa_cons pe_str (pa_cons pe_str (pa_cons pe_non (pa_cons (pe_tup (pa_cons pe_str (pa_cons pe_str pa_nil))) (pa_cons pe_int pa_nil))))))) pa_nil))))
      (pss_cons (ps_set (i := 4) scV.nd rfl (Or.inl rfl) (pe_lst (pa_cons (pv 2) (pa_cons (pv 3) (pa_cons (pe_call GO hr (by rfl) mO kO bO .nil pass0 (pa_cons (pv 0) (pa_cons (pe_lst (pa_cons pe_int (pa_cons pe_int (pa_cons pe_int (pa_cons pe_int pa_nil))))) pa_nil))) (pa_cons (pv 1) pa_nil))))))
      (pss_cons (ps_set (i := 5) scV.nd rfl (Or.inl rfl) (pe_lst (pa_cons (pe_excV T.v9 hr T.M.C.g9 T.kv9 (by rfl) (pe_ix ix_list (pv 4) pe_int (fun _ _ => rfl))) (pa_cons (pe_excV T.v10 hr T.M.C.g10 T.kv10 (by rfl) (pe_ix ix_list (pv 4) pe_int (fun _ _ => rfl))) (pa_cons (pe_excV T.v11 hr T.M.C.g11 T.kv11 (by rfl) (pe_ix ix_list (pv 4) pe_int (fun _ _ => rfl))) (pa_cons (pe_excV T.v12 hr T.M.C.g12 T.kv12 (by rfl) (pe_ix ix_list (pv 4) pe_int (fun _ _ => rfl))) pa_nil))))))
      (pss_cons (ps_for PassesOwn.never rfl (pi_enum (by rfl) T.M.en (pa_cons (pv 5) pa_nil)) (pg_tup rfl (pgs_cons (pg_name (i := 6) scV.nd rfl (.inr rfl)) (pgs_cons (pg_name (i := 7) scV.nd rfl (.inl rfl)) pgs_nil)))
        (pss_one (ps_if (PW.pt (pw_or (pt_val (pe_callB call_isX (by rfl) T.M.B.is PyProof.Rows.boot_isinstance (pa_cons (pv 7) (pa_cons (pe_glob (v := .ref c.c0) (by rfl) T.M.C.g0 rfl) pa_nil))))
          (pw_or1 (pt_cmpR (op_neD hr.units) (pe_call GK (hr.mono (by decide)) (by rfl) mK kK bK .nil pass0 (pa_cons (pv 7) pa_nil)) (pe_lc (own := [("_law_one", 8)]) (g := gName 8) (tt := tYes) rfl scV.nd (pi_range1 (by rfl) T.M.ra (pa_cons pe_int pa_nil)) (blkOk_by (N := NV) (sc := defScope sVals) (by decide +kernel))
          (fun _ _ _ _ _ => pg_name (i := 8) scV.nd rfl (.inl rfl)) (fun _ _ _ _ _ => pts_nil) (fun _ _ _ _ _ => pe_cmpR op_eq (pv 8) (pe_op op_add (pv 6) pe_int) (nomark _))) (nomark _)))))
          (pss_one (ps_ret pe_bl)) pss_nil)))
      (pss_cons (ps_if (pt_cmpR (op_neD hr.units) (pe_lc (own := [("_law_e", 7)]) (g := gName 7) (tt := tYes) rfl scV.nd (pi_list (pv 5)) (blkOk_by (N := NV) (sc := defScope sVals) (by decide +kernel))
          (fun _ _ _ _ _ => pg_name (i := 7) scV.nd rfl (.inl rfl)) (fun _ _ _ _ _ => pts_nil) (fun _ _ _ _ _ => pe_call GB (hr.mono (by decide)) (by rfl) mB kB bB .nil pass0 (pa_cons (pv 7) pa_nil))) (pe_lst (pa_cons (pe_op op_add pe_int pe_int) (pa_cons (pe_op op_add pe_int pe_int) (pa_cons (pe_op op_add pe_int pe_int) (pa_cons pe_int pa_nil))))) (nomark _)) (pss_one (ps_ret pe_bl)) pss_nil)
      (pss_one (ps_ret (pe_cmpR op_eq (pe_callB (call_repr hgd hr.units) (by rfl) T.re boot_repr (pa_cons (pe_lst (pa_cons (pe_excF (pe_ix ix_list (pv 5) pe_int (fun _ _ => rfl))) (pa_cons (pe_excF (pe_ix ix_list (pv 5) pe_int (fun _ _ => rfl))) (pa_cons (pe_excF (pe_ix ix_list (pv 5) pe_int (fun _ _ => rfl))) (pa_cons (pe_excF (pe_ix ix_list (pv 5) pe_int (fun _ _ => rfl))) pa_nil))))) pa_nil)) (pe_callB (call_repr hgd hr.units) (by rfl) T.re boot_repr (pa_cons (pv 4) pa_nil)) (nomark _))))))))))), ?_⟩
    obtain ⟨x0, y0, z0, hd⟩ := hd
    refine ⟨_, rfl, _, _, rfl, rfl, pow9, d, _, rfl, ⟨_, _, _, hd⟩, by rw [e9]; decide, by rw [e9]; decide, fun r a b c0 hr0 hr1 => ?_⟩
    obtain ⟨gg1, gg2⟩ := great_ok hr0 hr1
    refine ⟨_, _, rfl, rfl, pow50, _, _, rfl, rfl, .inl (by rw [e9] at hr1; exact ⟨by omega, by omega⟩), ?_⟩
    have hd1 : upd H d (.lst (dxs a b c0)) d = some (.lst (dxs a b c0)) := upd_same
    have q1 : SB d H (upd H d (.lst (dxs a b c0))) := SB.dice d H _
    -- value
    refine ⟨_, rfl, _, rfl, _, rfl, _, rfl, _, _, rfl, rfl, by show 2 ≤ sizeLine; decide, fun t0 nt0 => ?_⟩
    have sT0 := same_new (o := .tup [V.int 1, .int 2]) nt0
    refine ⟨by show 8 ≤ sizeLine; decide, fun p1 n1 => ?_⟩
    have sP1 := sT0.trans (same_new (o := .lst [V.int 0, .int (-1), .int 65, .int (r * (10 : Int) ^ (50 : Int).toNat), .int (0 - (r * (10 : Int) ^ (50 : Int).toNat)), .non, .str "5", .ref t0]) n1)
    have np1 : d ≠ p1 := ne_of_none (sT0 _ _ hd1) n1
    have nt0d : t0 ≠ d := (ne_of_none hd1 nt0).symm
    refine ⟨d, p1, _, rfl, ⟨_, _, _, sP1 _ _ hd1⟩, upd_same, np1.symm, by show 0 < 8; decide, by show 8 < 1000; decide, fun k1 v1 a1 b1 c1 hv1 => ?_⟩
    have q2 := q1.trans ((SB.of sP1).trans (SB.dice d _ (.lst (dxs a1 b1 c1))))
    have f1 : ∀ Hf, SB d (upd (upd (upd (upd H d (.lst (dxs a b c0))) t0 (.tup [V.int 1, .int 2])) p1 (.lst [V.int 0, .int (-1), .int 65, .int (r * (10 : Int) ^ (50 : Int).toNat), .int (0 - (r * (10 : Int) ^ (50 : Int).toNat)), .non, .str "5", .ref t0])) d (.lst (dxs a1 b1 c1))) Hf → SqT K Hf t0 [V.int 1, .int 2] := fun Hf sf => SqT.of (sf t0 _ nt0d (SB.dice d _ _ t0 _ nt0d ((same_new n1) _ _ upd_same)))
    have G1 : Good K d (upd (upd (upd (upd H d (.lst (dxs a b c0))) t0 (.tup [V.int 1, .int 2])) p1 (.lst [V.int 0, .int (-1), .int 65, .int (r * (10 : Int) ^ (50 : Int).toNat), .int (0 - (r * (10 : Int) ^ (50 : Int).toNat)), .non, .str "5", .ref t0])) d (.lst (dxs a1 b1 c1))) v1 := good_of (xs := [V.int 0, .int (-1), .int 65, .int (r * (10 : Int) ^ (50 : Int).toNat), .int (0 - (r * (10 : Int) ^ (50 : Int).toNat)), .non, .str "5", .ref t0])
      (List.forall_mem_cons.mpr ⟨good_int (by decide), List.forall_mem_cons.mpr ⟨good_int (by decide), List.forall_mem_cons.mpr ⟨good_int (by decide), List.forall_mem_cons.mpr ⟨good_int gg1, List.forall_mem_cons.mpr ⟨good_int gg2,
        List.forall_mem_cons.mpr ⟨good_non, List.forall_mem_cons.mpr ⟨good_str (by decide +kernel) (by decide +kernel), List.forall_mem_cons.mpr ⟨⟨.tuple [.int 1, .int 2], Rp.tup2 ((Rp.int (by decide)).mono (by decide) (by decide)) ((Rp.int (by decide)).mono (by decide) (by decide)),
          fun Hf sf => .tup (f1 Hf sf) (.cons (.int 1) (.cons (.int 2) .nil))⟩, fun x hx => nomatch hx⟩⟩⟩⟩⟩⟩⟩⟩) hv1
    have hd2 : ∀ {X : Hp}, upd X d (.lst (dxs a1 b1 c1)) d = some (.lst (dxs a1 b1 c1)) := upd_same
    -- name_here
    refine ⟨_, rfl, by show 2 ≤ sizeLine; decide, fun t1 nt1 => ?_⟩
    have sT1 := same_new (o := .tup [V.str "call", .str "x"]) nt1
    refine ⟨by show 6 ≤ sizeLine; decide, fun p2 n2 => ?_⟩
    have sP2 := sT1.trans (same_new (o := .lst [V.str "x", .str "", .str "Zz", .non, .ref t1, .int 7]) n2)
    have np2 : d ≠ p2 := ne_of_none (sT1 _ _ hd2) n2
    have nt1d : t1 ≠ d := (ne_of_none hd2 nt1).symm
    refine ⟨d, p2, _, rfl, ⟨_, _, _, sP2 _ _ hd2⟩, upd_same, np2.symm, by show 0 < 6; decide, by show 6 < 1000; decide, fun k2 v2 a2 b2 c2 hv2 => ?_⟩
    have q3' := (SB.of sP2).trans (SB.dice d _ (.lst (dxs a2 b2 c2)))
    have q3 := q2.trans q3'
    have f2 : ∀ Hf, SB d (upd (upd (upd (upd (upd (upd (upd H d (.lst (dxs a b c0))) t0 (.tup [V.int 1, .int 2])) p1 (.lst [V.int 0, .int (-1), .int 65, .int (r * (10 : Int) ^ (50 : Int).toNat), .int (0 - (r * (10 : Int) ^ (50 : Int).toNat)), .non, .str "5", .ref t0])) d (.lst (dxs a1 b1 c1))) t1 (.tup [V.str "call", .str "x"])) p2 (.lst [V.str "x", .str "", .str "Zz", .non, .ref t1, .int 7])) d (.lst (dxs a2 b2 c2))) Hf → SqT K Hf t1 [V.str "call", .str "x"] := fun Hf sf => SqT.of (sf t1 _ nt1d (SB.dice d _ _ t1 _ nt1d ((same_new n2) _ _ upd_same)))
    have G2 : Good K d (upd (upd (upd (upd (upd (upd (upd H d (.lst (dxs a b c0))) t0 (.tup [V.int 1, .int 2])) p1 (.lst [V.int 0, .int (-1), .int 65, .int (r * (10 : Int) ^ (50 : Int).toNat), .int (0 - (r * (10 : Int) ^ (50 : Int).toNat)), .non, .str "5", .ref t0])) d (.lst (dxs a1 b1 c1))) t1 (.tup [V.str "call", .str "x"])) p2 (.lst [V.str "x", .str "", .str "Zz", .non, .ref t1, .int 7])) d (.lst (dxs a2 b2 c2))) v2 := good_of (xs := [V.str "x", .str "", .str "Zz", .non, .ref t1, .int 7])
      (List.forall_mem_cons.mpr ⟨good_str (by decide +kernel) (by decide +kernel), List.forall_mem_cons.mpr ⟨good_str (by decide +kernel) (by decide +kernel), List.forall_mem_cons.mpr ⟨good_str (by decide +kernel) (by decide +kernel), List.forall_mem_cons.mpr ⟨good_non,
        List.forall_mem_cons.mpr ⟨⟨.tuple [.str "call", .str "x"], Rp.tup2 ((Rp.str (by decide +kernel) (by decide +kernel)).mono (by decide) (Nat.le_refl 8)) ((Rp.str (by decide +kernel) (by decide +kernel)).mono (by decide) (Nat.le_refl 8)),
          fun Hf sf => .tup (f2 Hf sf) (.cons (.str _) (.cons (.str _) .nil))⟩, List.forall_mem_cons.mpr ⟨good_int (by decide), fun x hx => nomatch hx⟩⟩⟩⟩⟩⟩) hv2
    have hd3 : ∀ {X : Hp}, upd X d (.lst (dxs a2 b2 c2)) d = some (.lst (dxs a2 b2 c2)) := upd_same
    -- kept
    refine ⟨_, rfl, _, rfl, _, rfl, by show 4 ≤ sizeLine; decide, fun p3 n3 => ?_⟩
    have sP3 := same_new (o := .lst [V.int 64, .int 400, .int 5000, .int 10000]) n3
    have np3 : d ≠ p3 := ne_of_none hd3 n3
    refine ⟨d, p3, _, rfl, ⟨_, _, _, sP3 _ _ hd3⟩, upd_same, np3.symm, by show 0 < 4; decide, by show 4 < 1000; decide, fun k3 v3 a3 b3 c3 hv3 => ?_⟩
    have q4' := (SB.of sP3).trans (SB.dice d _ (.lst (dxs a3 b3 c3)))
    have G3 : ∀ X : Hp, Good K d X v3 := fun X => good_of (xs := [V.int 64, .int 400, .int 5000, .int 10000])
      (List.forall_mem_cons.mpr ⟨good_int (by decide), List.forall_mem_cons.mpr ⟨good_int (by decide), List.forall_mem_cons.mpr ⟨good_int (by decide), List.forall_mem_cons.mpr ⟨good_int (by decide), fun x hx => nomatch hx⟩⟩⟩⟩) hv3
    have hd4 : ∀ {X : Hp}, upd X d (.lst (dxs a3 b3 c3)) d = some (.lst (dxs a3 b3 c3)) := upd_same
    refine ⟨_, rfl, by show 4 ≤ sizeLine; decide, fun pk nk => ?_⟩
    have sPk := same_new (o := .lst [v1, v2, v3, V.int (r * (10 : Int) ^ (50 : Int).toNat)]) nk
    -- the four exceptions
    refine ⟨_, rfl, pk, _, _, _, rfl, rfl, SqL.of upd_same, rfl, fun e0 d0 ne0 nd0 y0 => ?_⟩
    have s0 := same_two (o := ExD "value" v1 d0) (u := exo e0 c.c9 (some d0)) ne0 nd0 y0
    refine ⟨_, rfl, pk, _, _, _, rfl, rfl, SqL.of (s0 _ _ upd_same), rfl, fun e1 d1 ne1 nd1 y1 => ?_⟩
    have s1 := same_two (o := ExD "name" v2 d1) (u := exo e1 c.c10 (some d1)) ne1 nd1 y1
    have s01 := s0.trans s1
    refine ⟨_, rfl, pk, _, _, _, rfl, rfl, SqL.of (s01 _ _ upd_same), rfl, fun e2 d2 ne2 nd2 y2 => ?_⟩
    have s2 := same_two (o := ExD "limit" v3 d2) (u := exo e2 c.c11 (some d2)) ne2 nd2 y2
    have s02 := s01.trans s2
    refine ⟨_, rfl, pk, _, _, _, rfl, rfl, SqL.of (s02 _ _ upd_same), rfl, fun e3 d3 ne3 nd3 y3 => ?_⟩
    have s3 := same_two (o := ExD "many" (V.int (r * (10 : Int) ^ (50 : Int).toNat)) d3) (u := exo e3 c.c12 (some d3)) ne3 nd3 y3
    have s03 := s02.trans s3
    refine ⟨by show 4 ≤ sizeLine; decide, fun ps nps => ?_⟩
    have s4 := same_new (o := .lst [V.ref e0, .ref e1, .ref e2, .ref e3]) nps
    have s34 := s3.trans s4
    have s24 := s2.trans s34
    have s14 := s1.trans s24
    have s04 := s0.trans s14
    have sk4 := sPk.trans s04
    refine ⟨_, rfl, ps, [e0, e1, e2, e3].map V.ref, rfl, SqL.of upd_same, for_it (walk_enum (xs := [e0, e1, e2, e3].map V.ref))
      (fun i σ Hc => (∃ x6 x7 x8 : Option V, σ = [some (.ref d), some (.int (r * (10 : Int) ^ (50 : Int).toNat)), some v1, some v2, some (.ref pk), some (.ref ps), x6, x7, x8]) ∧
        Fin4 K c d pk ps e0 e1 e2 e3 d0 d1 d2 d3 v1 v2 v3 (V.int (r * (10 : Int) ^ (50 : Int).toNat)) H Hc) ⟨⟨_, _, _, rfl⟩, ?_⟩ (fun i σ Hc _ hp => SqL.of hp.2.so) ?_ ?_⟩
    · exact ⟨(q3.trans q4').trans (SB.of sk4), ⟨_, _, _, sk4 _ _ hd4⟩, s04 _ _ upd_same, upd_same,
        s14 _ _ upd_same, s24 _ _ upd_same, s34 _ _ upd_same, s4 _ _ upd_same,
        s14 _ _ (by rw [upd_ne y0]; exact upd_same), s24 _ _ (by rw [upd_ne y1]; exact upd_same), s34 _ _ (by rw [upd_ne y2]; exact upd_same), s4 _ _ (by rw [upd_ne y3]; exact upd_same),
        G1.go (((q3').trans q4').trans (SB.of sk4)), G2.go (q4'.trans (SB.of sk4)), G3 _, good_int gg1⟩
    · rintro i v σ Hc Hc' hi ⟨⟨x6, x7, x8, rfl⟩, fin⟩ ⟨T', x, y, rfl, nT, rfl, h1, h2⟩
      cases h1
      have h2 : ([e0, e1, e2, e3].map V.ref)[i]? = some y := h2
      rw [List.getElem?_map] at h2
      obtain ⟨a, ha, rfl⟩ := Option.map_eq_some_iff.mp h2
      have hi4 : i < 4 := hi
      have sT := same_new (o := .tup [V.int (i : Nat), .ref a]) nT
      have fin1 := fin.same sT
      obtain ⟨eD, eK, eN⟩ := T.e i hi4
      refine ⟨T', _, rfl, SqT.of upd_same, rfl, _, _, rfl, _, _, rfl, rfl, ?_⟩
      refine ⟨_, rfl, a, c.m (9 + i), _, _, false, rfl, .own _, fin1.ex ha, eD, eN, _, rfl, iteF ?_⟩
      refine ⟨_, rfl, a, c.m (9 + i), _, _, _, _, _, _, _, _, _, _, _, _, rfl, fin1.ex ha, eD, eK, fun H2 p sm2 np hp2 => ?_⟩
      refine ⟨12, rfl, by decide, by decide, fun L hL => ?_⟩
      have fin2 := fin1.same sm2
      refine lc_range (n := 12) (fun j Hd => Same H2 Hd ∧ Hd L = some (.lst (((List.range j).map (kb (8 + i))).map V.bl))) ⟨same_new hL, upd_same⟩ ?_ ?_
      · rintro j Hd hj ⟨sd, hd⟩
        have nL : ∀ o, Same H2 (upd Hd L o) := fun o b u e => by
          rw [upd_ne (ne_of_none e hL)]
          exact sd b u e
        refine ⟨rfl, _, rfl, _, rfl, _, _, rfl, rfl, rfl, _, hd, small1000 (by rw [List.length_map, List.length_map, List.length_range]; omega), nL _, ?_⟩
        rw [upd_same, List.range_succ, List.map_append, List.map_append]
        have ek := kb_eq (8 + i) j
        rw [show (((8 + i : Nat)) : Int) = (i : Int) + 8 by omega] at ek
        rw [ek]
        rfl
      · rintro Hd ⟨sd, hd⟩
        refine ⟨.list ((kinds12 (8 + i)).map PyData.bool), .list ((kinds12 (8 + i)).map PyData.bool), .lst (SqL.of (sd _ _ hp2)) (dpBools (kinds12 (8 + i))), .lst (SqL.of hd) (dpBools (kinds12 (8 + i))), shaped12 _, shaped12 _, ?_⟩
        rw [SeqAt.eqv_refl _ (SeqAt.canLay_of_shaped (shaped12 (8 + i)))]
        exact ⟨_, rfl, ⟨_, _, _, rfl⟩, fin2.same sd⟩
    · rintro σ Hc ⟨⟨x6, x7, x8, rfl⟩, fin⟩
      have done : ∀ Hd, Same Hc Hd → ∀ p : Addr, Hd p = some (.lst ([10, 12, 48, 8].map V.int)) → True := fun _ _ _ _ => trivial
      refine ⟨_, rfl, ps, rfl, ⟨_, SqL.of fin.so⟩, fun L hL => ?_⟩
      refine lc_list (xs := [V.ref e0, .ref e1, .ref e2, .ref e3]) (fun i Hd => Same Hc Hd ∧ Hd L = some (.lst ((([10, 12, 48, 8] : List Int).take i).map V.int))) ⟨same_new hL, upd_same⟩ (fun i Hd _ hp => SqL.of (hp.1 _ _ fin.so)) ?_ ?_
      · rintro i x Hd hx ⟨sd, hd⟩
        have hi : i < 4 := (List.getElem?_eq_some_iff.mp hx).1
        have nL : ∀ H2 : Hp, Same Hd H2 → ∀ o, Same Hc (upd H2 L o) := fun H2 sm2 o b u e => by
          rw [upd_ne (ne_of_none e hL)]
          exact sm2 _ _ (sd b u e)
        obtain rfl | rfl | rfl | rfl : i = 0 ∨ i = 1 ∨ i = 2 ∨ i = 3 := by omega
        · cases hx
          obtain ⟨eD, _, _⟩ := T.e 0 (by omega)
          refine ⟨rfl, _, rfl, e0, c.c9, _, _, _, _, _, _, rfl, (fin.same sd).ex (j := 0) rfl, eD, T.b9, fun H2 sm2 => ⟨_, sm2 _ _ hd, by show 0 < sizeLine; decide, nL H2 sm2 _, upd_same⟩⟩
        · cases hx
          obtain ⟨eD, _, _⟩ := T.e 1 (by omega)
          refine ⟨rfl, _, rfl, e1, c.c10, _, _, _, _, _, _, rfl, (fin.same sd).ex (j := 1) rfl, eD, T.b10, fun H2 sm2 => ⟨_, sm2 _ _ hd, by show 1 < sizeLine; decide, nL H2 sm2 _, upd_same⟩⟩
        · cases hx
          obtain ⟨eD, _, _⟩ := T.e 2 (by omega)
          refine ⟨rfl, _, rfl, e2, c.c11, _, _, _, _, _, _, rfl, (fin.same sd).ex (j := 2) rfl, eD, T.b11, fun H2 sm2 => ⟨_, sm2 _ _ hd, by show 2 < sizeLine; decide, nL H2 sm2 _, upd_same⟩⟩
        · cases hx
          obtain ⟨eD, _, _⟩ := T.e 3 (by omega)
          refine ⟨rfl, _, rfl, e3, c.c12, _, _, _, _, _, _, rfl, (fin.same sd).ex (j := 3) rfl, eD, T.b12, fun H2 sm2 => ⟨_, sm2 _ _ hd, by show 3 < sizeLine; decide, nL H2 sm2 _, upd_same⟩⟩
      · rintro Hd ⟨sd, hd⟩
        refine ⟨_, _, rfl, rfl, _, _, rfl, rfl, _, _, rfl, rfl, by show 4 ≤ sizeLine; decide, fun pq nq => ?_⟩
        have sq := same_new (o := .lst [V.int 10, .int 12, .int 48, .int 8]) nq
        refine ⟨.list (([10, 12, 48, 8] : List Int).map PyData.int), .list (([10, 12, 48, 8] : List Int).map PyData.int), .lst (SqL.of (sq _ _ hd)) (dpInts [10, 12, 48, 8]), .lst (SqL.of upd_same) (dpInts [10, 12, 48, 8]), rfl, rfl, ?_⟩
        rw [SeqAt.eqv_refl _ (by rfl)]
        have fin2 := (fin.same sd).same sq
        obtain ⟨E0, _, _⟩ := T.e 0 (by omega)
        obtain ⟨E1, _, _⟩ := T.e 1 (by omega)
        obtain ⟨E2, _, _⟩ := T.e 2 (by omega)
        obtain ⟨E3, _, _⟩ := T.e 3 (by omega)
        obtain ⟨dv1, r1, g1⟩ := fin2.g1
        obtain ⟨dv2, r2, g2⟩ := fin2.g2
        obtain ⟨dv3, r3, g3⟩ := fin2.g3
        obtain ⟨dv4, r4, g4⟩ := fin2.g4
        have rp := Rp.list4 r1 r2 r3 r4
        refine ⟨_, rfl, ?_⟩
        refine ⟨_, rfl, ps, _, _, _, rfl, rfl, SqL.of fin2.so, rfl, e0, c.c9, d0, v1, rfl, fin2.x0, fin2.y0, E0, T.n9, ?_⟩
        refine ⟨_, rfl, ps, _, _, _, rfl, rfl, SqL.of fin2.so, rfl, e1, c.c10, d1, v2, rfl, fin2.x1, fin2.y1, E1, T.n10, ?_⟩
        refine ⟨_, rfl, ps, _, _, _, rfl, rfl, SqL.of fin2.so, rfl, e2, c.c11, d2, v3, rfl, fin2.x2, fin2.y2, E2, T.n11, ?_⟩
        refine ⟨_, rfl, ps, _, _, _, rfl, rfl, SqL.of fin2.so, rfl, e3, c.c12, d3, _, rfl, fin2.x3, fin2.y3, E3, T.n12, by show 4 ≤ sizeLine; decide, fun pr nr => ?_⟩
        have fin3 := fin2.same (same_new (o := .lst [v1, v2, v3, V.int (r * (10 : Int) ^ (50 : Int).toNat)]) nr)
        have sr := SB.of (d := d) (same_new (o := .lst [v1, v2, v3, V.int (r * (10 : Int) ^ (50 : Int).toNat)]) nr)
        have all : DpAll K _ [v1, v2, v3, V.int (r * (10 : Int) ^ (50 : Int).toNat)] [dv1, dv2, dv3, dv4] := .cons (g1 _ sr) (.cons (g2 _ sr) (.cons (g3 _ sr) (.cons (g4 _ sr) .nil)))
        refine ⟨pr, .list [dv1, dv2, dv3, dv4], rfl, .lst (SqL.of upd_same) all, rp.s, rp.h, Nat.le_trans rp.dp (by decide), rp.fits, ?_⟩
        refine ⟨_, rfl, pk, .list [dv1, dv2, dv3, dv4], rfl, .lst (SqL.of fin3.kp) all, rp.s, rp.h, Nat.le_trans rp.dp (by decide), rp.fits, rfl, ?_⟩
        have ed : decide (V.str (PyData.shown (.list [dv1, dv2, dv3, dv4])) = V.str (PyData.shown (.list [dv1, dv2, dv3, dv4]))) = true := decide_eq_true rfl
        rw [ed]
        exact k _ fin3.sb fin3.di
end
end K0
set_option Elab.async false
set_option linter.all false
set_option maxRecDepth 100000
set_option maxHeartbeats 4000000
namespace K0
open PySem PySem.Spec PyProof.Rows L2
def spLaw (K : PySem.W.Frag) : Sp := fun vs H Q _ => ∃ (a : Addr) (ns : List Int), vs = [.ref a] ∧ SqL K H a (ns.map V.int) ∧ ∀ H', Q (.bl true) H'
abbrev NL : List Str := ["_law_script", "_law_at", "_law_dice_here", "_law_signs", "_law_words", "_law_turn"]
theorem eight_len : ∀ {k : Nat} {x : V}, [V.str "a", .str "z", .str " ", .str "\n", .str "'", .str "-", .str "{", .str "0"][k]? = some x → ∃ y : Str, x = .str y ∧ y.length ≤ 1 := by
  intro k x h
  have m := List.mem_of_getElem? h
  simp only [List.mem_cons, List.not_mem_nil, or_false] at m
  rcases m with rfl | rfl | rfl | rfl | rfl | rfl | rfl | rfl
  all_goals exact ⟨_, rfl, by decide +kernel⟩
theorem sum_len : ∀ {ys : List Str}, (∀ y ∈ ys, y.length ≤ 1) → (ys.map (·.length)).sum ≤ ys.length
  | [], _ => Nat.le_refl _
  | y :: r, h => by
    have h1 := h y (List.mem_cons_self)
    have h2 := sum_len (ys := r) fun z hz => h z (List.mem_cons_of_mem _ hz)
    simp only [List.map_cons, List.sum_cons, List.length_cons]
    omega
theorem same_sb {H H1 H2 : Hp} {d : Addr} (n : H d = none) (s : Same H H1) (t : SB d H1 H2) : Same H H2 := fun b o e => t b o (ne_of_none e n) (s b o e)
section
variable {P : Program} {w : World} {K : PySem.W.Frag} {mg : Str → Option Value} {base : Heap}
theorem scL : FnScope NL ["_law_script"] (defScope sLaw) :=
  ⟨rfl, rfl, rfl, by decide +kernel, rfl, by decide +kernel, by decide +kernel⟩
structure TxtL (mg : Str → Option Value) : Prop where
  ra : mg "range" = none
  ma : mg "max" = none
  mi : mg "min" = none
  le : mg "len" = none
theorem ok_law {f fD fM fV fR fO : Addr} {fd fdD fdM fdV fdR fdO : FuncData} (F : Fun K "law" "law" sLaw f fd) (T : TxtL mg)
    (GD : FnOk P w K mg base CX0 1 fD fdD ["_law_script", "_law_at"] (spDice K)) (mD : mg "_law_dice" = some (.ref fD)) (kD : PySem.W.keepIn K (.ref fD) = true) (bD : Binds K fdD ["_law_script", "_law_at"] [])
    (GR : FnOk P w K mg base CX0 1 fR fdR ["_law_dice_here", "_law_total"] spRoll) (mR : mg "_law_roll" = some (.ref fR)) (kR : PySem.W.keepIn K (.ref fR) = true) (bR : Binds K fdR ["_law_dice_here", "_law_total"] [])
    (GO : FnOk P w K mg base CX0 2 fO fdO ["_law_dice_here", "_law_items"] spOneOf) (mO : mg "_law_one_of" = some (.ref fO)) (kO : PySem.W.keepIn K (.ref fO) = true) (bO : Binds K fdO ["_law_dice_here", "_law_items"] [])
    (GM : FnOk P w K mg base CX0 2 fM fdM ["_law_words"] (spMess K)) (mM : mg "_law_messages_right" = some (.ref fM)) (kM : PySem.W.keepIn K (.ref fM) = true) (bM : Binds K fdM ["_law_words"] [])
    (GV : FnG P w K mg base CX0 3 fV fdV ["_law_dice_here"] spVals) (mV : mg "_law_values_right" = some (.ref fV)) (kV : PySem.W.keepIn K (.ref fV) = true) (bV : Binds K fdV ["_law_dice_here"] []) :
    FnG P w K mg base CX0 4 f fd ["_law_script"] (spLaw K) := by
  refine F.okG scL (fun vs H Q E h => ?_) (fun cdv A outer s H vs Q E hr hgA h => ?_)
  · obtain ⟨a, ns, rfl, _⟩ := h
    rfl
  · obtain ⟨a, ns, rfl, hs, k⟩ := h
    have hu := hu_of hr
    have hgd : (A.deeper (envOfC "law" (defScope sLaw) s.heap.objs.size f cdv)).guards = some [] := guards_deeper hgA
    refine ⟨_, pss_cons (ps_for PassesOwn.never rfl (pi_range1 (by rfl) T.ra (pa_cons (pe_callB (call_max2 rfl) (by rfl) T.ma (by decide +kernel) (pa_cons pe_int (pa_cons (pe_callB (call_min2 rfl) (by rfl) T.mi (by decide +kernel) (pa_cons pe_int (pa_cons
          (pe_callB call_len_seq (by rfl) T.le PySem.boot_len (pa_cons (pv 0) pa_nil)) pa_nil))) pa_nil))) pa_nil)) (pg_name (i := 1) scL.nd rfl (.inl rfl))
        (pss_cons (ps_set (i := 2) scL.nd rfl (Or.inr rfl) (pe_call GD (hr.mono (by decide)) (by rfl) mD kD bD .nil pass0 (pa_cons (pv 0) (pa_cons (pv 1) pa_nil))))
        (pss_cons (ps_set (i := 3) scL.nd rfl (Or.inr rfl) (pe_lst (pa_cons pe_str (pa_cons pe_str (pa_cons pe_str (pa_cons pe_str (pa_cons pe_str (pa_cons pe_str (pa_cons pe_str (pa_cons pe_str pa_nil))))))))))
        (pss_cons (ps_set (i := 4) scL.nd rfl (Or.inl rfl) (pe_bm PySem.F.plainAttrs_str PySem.F.slot_str_join PySem.F.type_str_join mt_join pe_str (pa_cons
          (pe_lc (own := [("_law_turn", 5)]) (g := gName 5) (tt := tYes) rfl scL.nd (pi_range1 (by rfl) T.ra (pa_cons (pe_call GR (hr.mono (by decide)) (by rfl) mR kR bR .nil pass0 (pa_cons (pv 2) (pa_cons pe_int pa_nil))) pa_nil))
            (blkOk_by (N := NL) (sc := defScope sLaw) (by decide +kernel)) (fun _ _ _ _ _ => pg_name (i := 5) scL.nd rfl (.inl rfl)) (fun _ _ _ _ _ => pts_nil)
            (fun _ _ _ _ _ => pe_call GO (hr.mono (by decide)) (by rfl) mO kO bO .nil pass0 (pa_cons (pv 2) (pa_cons (pv 3) pa_nil)))) pa_nil)))
        (pss_one (ps_if (PW.pt (pw_or (pt_not (pt_val (pe_call GM (hr.mono (by decide)) (by rfl) mM kM bM .nil pass0 (pa_cons (pv 4) pa_nil))))
          (pw_or1 (pt_not (pt_val (pe_callG GV hr hgd (by rfl) mV kV bV .nil pass0 (pa_cons (pv 2) pa_nil)))))))
          (pss_one (ps_ret pe_bl)) pss_nil))))))
      (pss_one (ps_ret pe_bl)), ?_⟩
    refine ⟨_, rfl, a, _, rfl, .inl hs, _, _, rfl, _, _, rfl, _, rfl, by split <;> (try split) <;> omega, by split <;> (try split) <;> omega, ?_⟩
    refine for_range (fun i σ Hc => (∃ x1 x2 x3 x4 x5 : Option V, σ = [some (.ref a), x1, x2, x3, x4, x5]) ∧ Same H Hc) ⟨⟨_, _, _, _, _, rfl⟩, Same.refl H⟩ ?_ ?_
    · rintro i σ Hc hi ⟨⟨x1, x2, x3, x4, x5, rfl⟩, sm⟩
      refine ⟨_, rfl, _, rfl, a, ns, i, _, rfl, by omega, sm.seq hs, fun d x y z nd => ?_⟩
      have hd0 : H d = none := Same.free sm nd
      have sD := same_new (o := .lst (dxs x y z)) nd
      refine ⟨by show 8 ≤ sizeLine; decide, fun pS nS => ?_⟩
      have hdd : upd Hc d (.lst (dxs x y z)) d = some (.lst (dxs x y z)) := upd_same
      have nSd : d ≠ pS := ne_of_none hdd nS
      have sS := same_new (o := .lst [V.str "a", .str "z", .str " ", .str "\n", .str "'", .str "-", .str "{", .str "0"]) nS
      refine ⟨rfl, _, rfl, d, _, rfl, ⟨_, _, _, sS _ _ hdd⟩, by decide, by decide, fun r a1 b1 c1 hr0 hr1 => ⟨_, rfl, by omega, by omega, fun L hL => ?_⟩⟩
      have hA : Same H (upd (upd (upd Hc d (.lst (dxs x y z))) pS (.lst [V.str "a", .str "z", .str " ", .str "\n", .str "'", .str "-", .str "{", .str "0"])) d (.lst (dxs a1 b1 c1))) := same_sb hd0 ((sm.trans sD).trans sS) (SB.dice d _ _)
      have hS : upd (upd (upd Hc d (.lst (dxs x y z))) pS (.lst [V.str "a", .str "z", .str " ", .str "\n", .str "'", .str "-", .str "{", .str "0"])) d (.lst (dxs a1 b1 c1)) pS = some (.lst [V.str "a", .str "z", .str " ", .str "\n", .str "'", .str "-", .str "{", .str "0"]) := by
        rw [upd_ne nSd.symm]
        exact upd_same
      have hL0 : H L = none := Same.free hA hL
      have ldn : d ≠ L := ne_of_none (upd_same (H := upd (upd Hc d (.lst (dxs x y z))) pS (.lst [V.str "a", .str "z", .str " ", .str "\n", .str "'", .str "-", .str "{", .str "0"])) (o := .lst (dxs a1 b1 c1))) hL
      have lsn : pS ≠ L := ne_of_none hS hL
      refine lc_range (fun j Hd => Same H Hd ∧ DiceAt Hd d ∧ Hd pS = some (.lst [V.str "a", .str "z", .str " ", .str "\n", .str "'", .str "-", .str "{", .str "0"]) ∧ ∃ ys : List Str, Hd L = some (.lst (ys.map V.str)) ∧ ys.length = j ∧ ∀ y ∈ ys, y.length ≤ 1)
        ⟨hA.trans (same_new hL), ⟨_, _, _, (same_new hL) _ _ upd_same⟩, (same_new hL) _ _ hS, [], upd_same, rfl, fun y hy => nomatch hy⟩ ?_ ?_
      · rintro j Hd hj ⟨sd, ⟨u1, u2, u3, hdi⟩, hsg, ys, hys, hlen, hsm⟩
        refine ⟨rfl, _, rfl, _, rfl, d, pS, _, rfl, ⟨_, _, _, hdi⟩, hsg, nSd.symm, by show 0 < 8; decide, by show 8 < 1000; decide, fun kk v a2 b2 c2 hv => ?_⟩
        obtain ⟨yy, rfl, hy1⟩ := eight_len hv
        refine ⟨ys.map V.str, by rw [upd_ne ldn.symm]; exact hys, small1000 (by rw [List.length_map]; omega), fun b o e => ?_, ⟨a2, b2, c2, by rw [upd_ne ldn]; exact upd_same⟩, by rw [upd_ne lsn, upd_ne nSd.symm]; exact hsg, ys ++ [yy], ?_, by rw [List.length_append, hlen]; rfl, fun y hy => ?_⟩
        · rw [upd_ne (ne_of_none e hL0), upd_ne (ne_of_none e hd0)]
          exact sd b o e
        · rw [List.map_append]
          exact upd_same
        · rcases List.mem_append.mp hy with q | q
          · exact hsm y q
          · rw [List.mem_singleton.mp q]
            exact hy1
      · rintro Hd ⟨sd, ⟨u1, u2, u3, hdi⟩, hsg, ys, hys, hlen, hsm⟩
        refine ⟨_, L, ys, rfl, rfl, .inl (SqL.of hys), ?_, ?_⟩
        · have z1 := sum_len hsm
          have z2 : ("" : Str).length = 0 := by decide +kernel
          rw [z2]
          omega
        · refine ⟨_, rfl, _, rfl, fun H3 sm3 => ⟨_, rfl, iteF ?_⟩⟩
          refine ⟨_, rfl, d, rfl, ⟨_, _, _, sm3 _ _ hdi⟩, fun H4 sb4 di4 => ?_⟩
          exact ⟨_, rfl, ⟨_, _, _, _, _, rfl⟩, same_sb hd0 (sd.trans sm3) sb4⟩
    · rintro σ Hc ⟨⟨x1, x2, x3, x4, x5, rfl⟩, sm⟩
      exact k Hc
end
end K0
set_option Elab.async false
set_option linter.all false
set_option maxRecDepth 100000
set_option maxHeartbeats 4000000
namespace K0
open PySem PySem.Spec PyProof.Rows L2
/-! ### what the written part says, by computation -/
def excCb (K : PySem.W.Frag) (D : Addr) : Bool :=
  (PySem.W.findIn K (.ref D) "__getattribute__" == some (some (.builtin "BaseException.__getattribute__"))) && (PySem.W.findIn K (.ref D) "__getattr__" == some none) && (PySem.W.subIn K (.ref D) (.type "BaseException") == some true) &&
  PySem.W.hasDictIn K D && (PySem.W.findIn K (.ref D) "__class__" == some (some (.builtin "object.__class__"))) && (PySem.W.specialIn K (.builtin "object.__class__") "__get__" == some (some (.builtin "getset_descriptor.__get__"))) &&
  (PySem.W.takesIn K (.builtin "object.__class__") == some true) && (PySem.W.mroIn K D (.type "object") == some true)
theorem excC_of {K : PySem.W.Frag} {D : Addr} (h : excCb K D = true) : ExcC K D := by
  simp only [excCb, Bool.and_eq_true, beq_iff_eq] at h
  obtain ⟨⟨⟨⟨⟨⟨⟨h1, h2⟩, h3⟩, h4⟩, h5⟩, h6⟩, h7⟩, h8⟩ := h
  exact ⟨h1, h2, h3, h4, h5, h6, h7, h8⟩
def kitsB (K : PySem.W.Frag) (t : Value) (cs : List Value) (bs : List Bool) : Bool := (cs.zip bs).all fun p => PySem.W.kitOne K t p.1 == some p.2
abbrev biT : List Value := [.type "ValueError", .type "IndexError", .type "KeyError", .type "LookupError", .type "ArithmeticError", .type "OverflowError"]
theorem bi_of {K : PySem.W.Frag} {D : Addr} {b1 b2 b3 b4 b5 b6 : Bool} (h : kitsB K (.ref D) biT [b1, b2, b3, b4, b5, b6] = true) : BI K D b1 b2 b3 b4 b5 b6 := by
  simp only [kitsB, biT, List.zip_cons_cons, List.zip_nil_right, List.all_cons, List.all_nil, Bool.and_true, Bool.and_eq_true, beq_iff_eq] at h
  obtain ⟨h1, h2, h3, h4, h5, h6⟩ := h
  exact ⟨h1, h2, h3, h4, h5, h6⟩
def Cs.l (c : Cs) : List Value := [.ref c.c1, .ref c.c2, .ref c.c3, .ref c.c4, .ref c.c5, .ref c.c6, .ref c.c7, .ref c.c8, .ref c.c9, .ref c.c10, .ref c.c11, .ref c.c12]
theorem ki_of {K : PySem.W.Frag} {c : Cs} {D : Addr} {i : Nat} (h : kitsB K (.ref D) c.l [kb i 0, kb i 1, kb i 2, kb i 3, kb i 4, kb i 5, kb i 6, kb i 7, kb i 8, kb i 9, kb i 10, kb i 11] = true) : KIat K c D i := by
  simp only [kitsB, Cs.l, List.zip_cons_cons, List.zip_nil_right, List.all_cons, List.all_nil, Bool.and_true, Bool.and_eq_true, beq_iff_eq] at h
  obtain ⟨h1, h2, h3, h4, h5, h6, h7, h8, h9, h10, h11, h12⟩ := h
  exact ⟨h1, h2, h3, h4, h5, h6, h7, h8, h9, h10, h11, h12⟩
def rowB (K : PySem.W.Frag) (c : Cs) (D : Addr) (bi : List Bool) (i : Nat) (ee : Bool) : Bool :=
  excCb K D && kitsB K (.ref D) biT bi && kitsB K (.ref D) c.l ((List.range 12).map (kb i)) && (PySem.W.kitOne K (.ref D) (.ref c.c0) == some ee) && PySem.W.keepIn K (.ref D)
theorem row_of {K : PySem.W.Frag} {c : Cs} {D : Addr} {b1 b2 b3 b4 b5 b6 ee : Bool} {i : Nat} (h : rowB K c D [b1, b2, b3, b4, b5, b6] i ee = true) :
    ExcC K D ∧ BI K D b1 b2 b3 b4 b5 b6 ∧ KIat K c D i ∧ PySem.W.kitOne K (.ref D) (.ref c.c0) = some ee ∧ PySem.W.keepIn K (.ref D) = true := by
  unfold rowB at h
  simp only [Bool.and_eq_true, beq_iff_eq] at h
  obtain ⟨⟨⟨⟨h1, h2⟩, h3⟩, h4⟩, h5⟩ := h
  exact ⟨excC_of h1, bi_of h2, ki_of h3, h4, h5⟩
theorem all_mk {l : PySem.W.OpenLaw} {w : World} {K : PySem.W.Frag} {h : Heap} {mg : Str → Option Value} {fa c0 c1 c2 c3 c4 c5 c6 c7 c8 c9 c10 c11 c12 : Addr} (X : K.In h) (G : h.Ns mainGlobals mg) (hfa : mg "law" = some (.ref fa))
    (a0 : PySem.W.nsIn K mainGlobals "EndError" = some (some (.ref c0)))
    (a1 : PySem.W.nsIn K mainGlobals "InvalidFraction" = some (some (.ref c1)))
    (a2 : PySem.W.nsIn K mainGlobals "InvalidRows" = some (some (.ref c2)))
    (a3 : PySem.W.nsIn K mainGlobals "InvalidProgram" = some (some (.ref c3)))
    (a4 : PySem.W.nsIn K mainGlobals "InvalidValues" = some (some (.ref c4)))
    (a5 : PySem.W.nsIn K mainGlobals "InvalidOperation" = some (some (.ref c5)))
    (a6 : PySem.W.nsIn K mainGlobals "InvalidEdit" = some (some (.ref c6)))
    (a7 : PySem.W.nsIn K mainGlobals "ParseError" = some (some (.ref c7)))
    (a8 : PySem.W.nsIn K mainGlobals "InvalidCommand" = some (some (.ref c8)))
    (a9 : PySem.W.nsIn K mainGlobals "InvalidNumber" = some (some (.ref c9)))
    (a10 : PySem.W.nsIn K mainGlobals "UnknownName" = some (some (.ref c10)))
    (a11 : PySem.W.nsIn K mainGlobals "TooMany" = some (some (.ref c11)))
    (a12 : PySem.W.nsIn K mainGlobals "NothingToUndo" = some (some (.ref c12)))
    {f_dice : Addr} {oc_dice kV_dice dc_dice pm_dice cd_dice ct_dice : Value} {od_dice an_dice : Option Addr} {sl_dice : Array (Option Value)}
    (n_dice : PySem.W.nsIn K mainGlobals "_law_dice" = some (some (.ref f_dice)))
    (l_dice : K.lookup f_dice = some ⟨oc_dice, od_dice, .func (PySem.W.fnOf "_law_dice" "_law_dice" (defArgs sDice) (defBody sDice) (defScope sDice) .none kV_dice dc_dice pm_dice an_dice cd_dice ct_dice), sl_dice⟩)
    (d_dice : PySem.W.codeIn K cd_dice "_law_dice" = true)
    (k_dice : PySem.W.keepIn K (.ref f_dice) = true)
    {f_roll : Addr} {oc_roll kV_roll dc_roll pm_roll cd_roll ct_roll : Value} {od_roll an_roll : Option Addr} {sl_roll : Array (Option Value)}
    (n_roll : PySem.W.nsIn K mainGlobals "_law_roll" = some (some (.ref f_roll)))
    (l_roll : K.lookup f_roll = some ⟨oc_roll, od_roll, .func (PySem.W.fnOf "_law_roll" "_law_roll" (defArgs sRoll) (defBody sRoll) (defScope sRoll) .none kV_roll dc_roll pm_roll an_roll cd_roll ct_roll), sl_roll⟩)
    (d_roll : PySem.W.codeIn K cd_roll "_law_roll" = true)
    (k_roll : PySem.W.keepIn K (.ref f_roll) = true)
    {f_one : Addr} {oc_one kV_one dc_one pm_one cd_one ct_one : Value} {od_one an_one : Option Addr} {sl_one : Array (Option Value)}
    (n_one : PySem.W.nsIn K mainGlobals "_law_one_of" = some (some (.ref f_one)))
    (l_one : K.lookup f_one = some ⟨oc_one, od_one, .func (PySem.W.fnOf "_law_one_of" "_law_one_of" (defArgs sOneOf) (defBody sOneOf) (defScope sOneOf) .none kV_one dc_one pm_one an_one cd_one ct_one), sl_one⟩)
    (d_one : PySem.W.codeIn K cd_one "_law_one_of" = true)
    (k_one : PySem.W.keepIn K (.ref f_one) = true)
    {f_bui : Addr} {oc_bui kV_bui dc_bui pm_bui cd_bui ct_bui : Value} {od_bui an_bui : Option Addr} {sl_bui : Array (Option Value)}
    (n_bui : PySem.W.nsIn K mainGlobals "_law_built_in" = some (some (.ref f_bui)))
    (l_bui : K.lookup f_bui = some ⟨oc_bui, od_bui, .func (PySem.W.fnOf "_law_built_in" "_law_built_in" (defArgs sBuilt) (defBody sBuilt) (defScope sBuilt) .none kV_bui dc_bui pm_bui an_bui cd_bui ct_bui), sl_bui⟩)
    (d_bui : PySem.W.codeIn K cd_bui "_law_built_in" = true)
    (k_bui : PySem.W.keepIn K (.ref f_bui) = true)
    {f_kin : Addr} {oc_kin kV_kin dc_kin pm_kin cd_kin ct_kin : Value} {od_kin an_kin : Option Addr} {sl_kin : Array (Option Value)}
    (n_kin : PySem.W.nsIn K mainGlobals "_law_kinds" = some (some (.ref f_kin)))
    (l_kin : K.lookup f_kin = some ⟨oc_kin, od_kin, .func (PySem.W.fnOf "_law_kinds" "_law_kinds" (defArgs sKinds) (defBody sKinds) (defScope sKinds) .none kV_kin dc_kin pm_kin an_kin cd_kin ct_kin), sl_kin⟩)
    (d_kin : PySem.W.codeIn K cd_kin "_law_kinds" = true)
    (k_kin : PySem.W.keepIn K (.ref f_kin) = true)
    {f_mes : Addr} {oc_mes kV_mes dc_mes pm_mes cd_mes ct_mes : Value} {od_mes an_mes : Option Addr} {sl_mes : Array (Option Value)}
    (n_mes : PySem.W.nsIn K mainGlobals "_law_messages_right" = some (some (.ref f_mes)))
    (l_mes : K.lookup f_mes = some ⟨oc_mes, od_mes, .func (PySem.W.fnOf "_law_messages_right" "_law_messages_right" (defArgs sMess) (defBody sMess) (defScope sMess) .none kV_mes dc_mes pm_mes an_mes cd_mes ct_mes), sl_mes⟩)
    (d_mes : PySem.W.codeIn K cd_mes "_law_messages_right" = true)
    (k_mes : PySem.W.keepIn K (.ref f_mes) = true)
    {f_val : Addr} {oc_val kV_val dc_val pm_val cd_val ct_val : Value} {od_val an_val : Option Addr} {sl_val : Array (Option Value)}
    (n_val : PySem.W.nsIn K mainGlobals "_law_values_right" = some (some (.ref f_val)))
    (l_val : K.lookup f_val = some ⟨oc_val, od_val, .func (PySem.W.fnOf "_law_values_right" "_law_values_right" (defArgs sVals) (defBody sVals) (defScope sVals) .none kV_val dc_val pm_val an_val cd_val ct_val), sl_val⟩)
    (d_val : PySem.W.codeIn K cd_val "_law_values_right" = true)
    (k_val : PySem.W.keepIn K (.ref f_val) = true)
    {f_law : Addr} {oc_law kV_law dc_law pm_law cd_law ct_law : Value} {od_law an_law : Option Addr} {sl_law : Array (Option Value)}
    (n_law : PySem.W.nsIn K mainGlobals "law" = some (some (.ref f_law)))
    (l_law : K.lookup f_law = some ⟨oc_law, od_law, .func (PySem.W.fnOf "law" "law" (defArgs sLaw) (defBody sLaw) (defScope sLaw) .none kV_law dc_law pm_law an_law cd_law ct_law), sl_law⟩)
    (d_law : PySem.W.codeIn K cd_law "law" = true)
    (k_law : PySem.W.keepIn K (.ref f_law) = true)
    (z_int : PySem.W.nsIn K mainGlobals "int" = some none)
    (z_len : PySem.W.nsIn K mainGlobals "len" = some none)
    (z_abs : PySem.W.nsIn K mainGlobals "abs" = some none)
    (z_max : PySem.W.nsIn K mainGlobals "max" = some none)
    (z_isinstance : PySem.W.nsIn K mainGlobals "isinstance" = some none)
    (z_ValueError : PySem.W.nsIn K mainGlobals "ValueError" = some none)
    (z_IndexError : PySem.W.nsIn K mainGlobals "IndexError" = some none)
    (z_KeyError : PySem.W.nsIn K mainGlobals "KeyError" = some none)
    (z_LookupError : PySem.W.nsIn K mainGlobals "LookupError" = some none)
    (z_ArithmeticError : PySem.W.nsIn K mainGlobals "ArithmeticError" = some none)
    (z_OverflowError : PySem.W.nsIn K mainGlobals "OverflowError" = some none)
    (z_sum : PySem.W.nsIn K mainGlobals "sum" = some none)
    (z_zip : PySem.W.nsIn K mainGlobals "zip" = some none)
    (z_enumerate : PySem.W.nsIn K mainGlobals "enumerate" = some none)
    (z_range : PySem.W.nsIn K mainGlobals "range" = some none)
    (z_repr : PySem.W.nsIn K mainGlobals "repr" = some none)
    (z_min : PySem.W.nsIn K mainGlobals "min" = some none)
    (z_super : PySem.W.nsIn K mainGlobals "super" = some none)
    (r0 : rowB K (Cs.mk c0 c1 c2 c3 c4 c5 c6 c7 c8 c9 c10 c11 c12) c0 [true, false, false, false, false, false] 12 true = true)
    (r1 : rowB K (Cs.mk c0 c1 c2 c3 c4 c5 c6 c7 c8 c9 c10 c11 c12) c1 [true, false, false, false, false, false] 0 true = true)
    (r2 : rowB K (Cs.mk c0 c1 c2 c3 c4 c5 c6 c7 c8 c9 c10 c11 c12) c2 [true, false, false, false, false, false] 1 true = true)
    (r3 : rowB K (Cs.mk c0 c1 c2 c3 c4 c5 c6 c7 c8 c9 c10 c11 c12) c3 [true, false, false, false, false, false] 2 true = true)
    (r4 : rowB K (Cs.mk c0 c1 c2 c3 c4 c5 c6 c7 c8 c9 c10 c11 c12) c4 [true, false, false, false, false, false] 3 true = true)
    (r5 : rowB K (Cs.mk c0 c1 c2 c3 c4 c5 c6 c7 c8 c9 c10 c11 c12) c5 [true, false, false, false, false, false] 4 true = true)
    (r6 : rowB K (Cs.mk c0 c1 c2 c3 c4 c5 c6 c7 c8 c9 c10 c11 c12) c6 [true, false, false, false, false, false] 5 true = true)
    (r7 : rowB K (Cs.mk c0 c1 c2 c3 c4 c5 c6 c7 c8 c9 c10 c11 c12) c7 [true, false, false, false, false, false] 6 true = true)
    (r8 : rowB K (Cs.mk c0 c1 c2 c3 c4 c5 c6 c7 c8 c9 c10 c11 c12) c8 [true, false, false, false, false, false] 7 true = true)
    (r9 : rowB K (Cs.mk c0 c1 c2 c3 c4 c5 c6 c7 c8 c9 c10 c11 c12) c9 [false, true, false, true, false, false] 8 false = true)
    (r10 : rowB K (Cs.mk c0 c1 c2 c3 c4 c5 c6 c7 c8 c9 c10 c11 c12) c10 [false, false, true, true, false, false] 9 false = true)
    (r11 : rowB K (Cs.mk c0 c1 c2 c3 c4 c5 c6 c7 c8 c9 c10 c11 c12) c11 [false, false, false, false, true, true] 10 false = true)
    (r12 : rowB K (Cs.mk c0 c1 c2 c3 c4 c5 c6 c7 c8 c9 c10 c11 c12) c12 [false, false, false, true, false, false] 11 false = true)
    (q0 : PySem.W.excIn K c0 veB "ValueError.__new__" = true)
    (q1 : PySem.W.excIn K c1 veB "ValueError.__new__" = true)
    (q2 : PySem.W.excIn K c2 veB "ValueError.__new__" = true)
    (q3 : PySem.W.excIn K c3 veB "ValueError.__new__" = true)
    (q4 : PySem.W.excIn K c4 veB "ValueError.__new__" = true)
    (q5 : PySem.W.excIn K c5 veB "ValueError.__new__" = true)
    (q6 : PySem.W.excIn K c6 veB "ValueError.__new__" = true)
    (q7 : PySem.W.excIn K c7 veB "ValueError.__new__" = true)
    (q8 : PySem.W.excIn K c8 veB "ValueError.__new__" = true)
    {i9 : Addr} {io9 idc9 ipm9 ikV9 ict9 : Value} {iod9 ian9 : Option Addr} {ida9 icc9 : Addr} {isl9 : Array (Option Value)} {jcl9 : Value} {jdd9 : Option Addr} {jvs9 : Array Value} {jcs9 : Array (Option Value)} {jfi9 : Str} {jtf9 : Tok} {kcl9 : Value} {kld9 : Option Addr} {ksl9 : Array (Option Value)}
    (vi9 : PySem.W.findIn K (.ref c9) "__init__" = some (some (.ref i9)))
    (vl9 : K.lookup i9 = some ⟨io9, iod9, .func (PySem.W.ksFn "__init__" "InvalidNumber.__init__" (L2.defArgs SX.sV_value) (L2.defBody SX.sV_value) (L2.defScope SX.sV_value) .none ikV9 idc9 ipm9 ian9 (.ref ida9) ict9 icc9), isl9⟩)
    (vc9 : PySem.W.codeIn K (.ref ida9) "InvalidNumber.__init__" = true)
    (vd9 : K.lookup ida9 = some ⟨jcl9, jdd9, .fields jvs9, jcs9⟩)
    (vv9 : jvs9[2]? = some (.str jfi9 jtf9))
    (vf9 : ((l.prog.main.file : Str) == jfi9) = true)
    (ve9 : K.lookup icc9 = some ⟨kcl9, kld9, .cell (some (.ref c9)), ksl9⟩)
    (vq9 : PySem.W.excInitIn K c9 [.type "IndexError", .type "LookupError", .type "Exception", .type "BaseException", .type "object"] "IndexError.__new__" = true)
    (vs9 : PySem.W.isFn K (.ref i9) = true)
    (vm9 : PySem.W.ks_superIn K c9 c9 "__init__" = some (some (.builtin "IndexError.__init__")))
    (vb9 : PySem.W.subIn K (.ref c9) (.type "IndexError") = some true)
    (va9 : PySem.W.findIn K (.ref c9) "__setattr__" = some (some (.builtin "object.__setattr__")))
    (vo9 : PySem.W.excOver K c9 [.type "IndexError", .type "LookupError", .type "Exception", .type "BaseException", .type "object"] = true)
    (vt9 : PySem.W.takerIn K c9 "value" = some none)
    (vh9 : PySem.W.hasDictIn K c9 = true)
    (vr9 : PySem.W.mroIn K c9 (.ref c9) = some true)
    (vn9 : PySem.W.findIn K (.ref c9) "value" = some none)
    {i10 : Addr} {io10 idc10 ipm10 ikV10 ict10 : Value} {iod10 ian10 : Option Addr} {ida10 icc10 : Addr} {isl10 : Array (Option Value)} {jcl10 : Value} {jdd10 : Option Addr} {jvs10 : Array Value} {jcs10 : Array (Option Value)} {jfi10 : Str} {jtf10 : Tok} {kcl10 : Value} {kld10 : Option Addr} {ksl10 : Array (Option Value)}
    (vi10 : PySem.W.findIn K (.ref c10) "__init__" = some (some (.ref i10)))
    (vl10 : K.lookup i10 = some ⟨io10, iod10, .func (PySem.W.ksFn "__init__" "UnknownName.__init__" (L2.defArgs SX.sV_name) (L2.defBody SX.sV_name) (L2.defScope SX.sV_name) .none ikV10 idc10 ipm10 ian10 (.ref ida10) ict10 icc10), isl10⟩)
    (vc10 : PySem.W.codeIn K (.ref ida10) "UnknownName.__init__" = true)
    (vd10 : K.lookup ida10 = some ⟨jcl10, jdd10, .fields jvs10, jcs10⟩)
    (vv10 : jvs10[2]? = some (.str jfi10 jtf10))
    (vf10 : ((l.prog.main.file : Str) == jfi10) = true)
    (ve10 : K.lookup icc10 = some ⟨kcl10, kld10, .cell (some (.ref c10)), ksl10⟩)
    (vq10 : PySem.W.excInitIn K c10 SX.keB "LookupError.__new__" = true)
    (vs10 : PySem.W.isFn K (.ref i10) = true)
    (vm10 : PySem.W.ks_superIn K c10 c10 "__init__" = some (some (.builtin "KeyError.__init__")))
    (vb10 : PySem.W.subIn K (.ref c10) (.type "KeyError") = some true)
    (va10 : PySem.W.findIn K (.ref c10) "__setattr__" = some (some (.builtin "object.__setattr__")))
    (vo10 : PySem.W.excOver K c10 SX.keB = true)
    (vt10 : PySem.W.takerIn K c10 "name" = some none)
    (vh10 : PySem.W.hasDictIn K c10 = true)
    (vr10 : PySem.W.mroIn K c10 (.ref c10) = some true)
    (vn10 : PySem.W.findIn K (.ref c10) "name" = some none)
    {i11 : Addr} {io11 idc11 ipm11 ikV11 ict11 : Value} {iod11 ian11 : Option Addr} {ida11 icc11 : Addr} {isl11 : Array (Option Value)} {jcl11 : Value} {jdd11 : Option Addr} {jvs11 : Array Value} {jcs11 : Array (Option Value)} {jfi11 : Str} {jtf11 : Tok} {kcl11 : Value} {kld11 : Option Addr} {ksl11 : Array (Option Value)}
    (vi11 : PySem.W.findIn K (.ref c11) "__init__" = some (some (.ref i11)))
    (vl11 : K.lookup i11 = some ⟨io11, iod11, .func (PySem.W.ksFn "__init__" "TooMany.__init__" (L2.defArgs SX.sV_limit) (L2.defBody SX.sV_limit) (L2.defScope SX.sV_limit) .none ikV11 idc11 ipm11 ian11 (.ref ida11) ict11 icc11), isl11⟩)
    (vc11 : PySem.W.codeIn K (.ref ida11) "TooMany.__init__" = true)
    (vd11 : K.lookup ida11 = some ⟨jcl11, jdd11, .fields jvs11, jcs11⟩)
    (vv11 : jvs11[2]? = some (.str jfi11 jtf11))
    (vf11 : ((l.prog.main.file : Str) == jfi11) = true)
    (ve11 : K.lookup icc11 = some ⟨kcl11, kld11, .cell (some (.ref c11)), ksl11⟩)
    (vq11 : PySem.W.excInitIn K c11 [.type "OverflowError", .type "ArithmeticError", .type "Exception", .type "BaseException", .type "object"] "OverflowError.__new__" = true)
    (vs11 : PySem.W.isFn K (.ref i11) = true)
    (vm11 : PySem.W.ks_superIn K c11 c11 "__init__" = some (some (.builtin "OverflowError.__init__")))
    (vb11 : PySem.W.subIn K (.ref c11) (.type "OverflowError") = some true)
    (va11 : PySem.W.findIn K (.ref c11) "__setattr__" = some (some (.builtin "object.__setattr__")))
    (vo11 : PySem.W.excOver K c11 [.type "OverflowError", .type "ArithmeticError", .type "Exception", .type "BaseException", .type "object"] = true)
    (vt11 : PySem.W.takerIn K c11 "limit" = some none)
    (vh11 : PySem.W.hasDictIn K c11 = true)
    (vr11 : PySem.W.mroIn K c11 (.ref c11) = some true)
    (vn11 : PySem.W.findIn K (.ref c11) "limit" = some none)
    {i12 : Addr} {io12 idc12 ipm12 ikV12 ict12 : Value} {iod12 ian12 : Option Addr} {ida12 icc12 : Addr} {isl12 : Array (Option Value)} {jcl12 : Value} {jdd12 : Option Addr} {jvs12 : Array Value} {jcs12 : Array (Option Value)} {jfi12 : Str} {jtf12 : Tok} {kcl12 : Value} {kld12 : Option Addr} {ksl12 : Array (Option Value)}
    (vi12 : PySem.W.findIn K (.ref c12) "__init__" = some (some (.ref i12)))
    (vl12 : K.lookup i12 = some ⟨io12, iod12, .func (PySem.W.ksFn "__init__" "NothingToUndo.__init__" (L2.defArgs SX.sV_many) (L2.defBody SX.sV_many) (L2.defScope SX.sV_many) .none ikV12 idc12 ipm12 ian12 (.ref ida12) ict12 icc12), isl12⟩)
    (vc12 : PySem.W.codeIn K (.ref ida12) "NothingToUndo.__init__" = true)
    (vd12 : K.lookup ida12 = some ⟨jcl12, jdd12, .fields jvs12, jcs12⟩)
    (vv12 : jvs12[2]? = some (.str jfi12 jtf12))
    (vf12 : ((l.prog.main.file : Str) == jfi12) = true)
    (ve12 : K.lookup icc12 = some ⟨kcl12, kld12, .cell (some (.ref c12)), ksl12⟩)
    (vq12 : PySem.W.excInitIn K c12 [.type "LookupError", .type "Exception", .type "BaseException", .type "object"] "LookupError.__new__" = true)
    (vs12 : PySem.W.isFn K (.ref i12) = true)
    (vm12 : PySem.W.ks_superIn K c12 c12 "__init__" = some (some (.builtin "LookupError.__init__")))
    (vb12 : PySem.W.subIn K (.ref c12) (.type "LookupError") = some true)
    (va12 : PySem.W.findIn K (.ref c12) "__setattr__" = some (some (.builtin "object.__setattr__")))
    (vo12 : PySem.W.excOver K c12 [.type "LookupError", .type "Exception", .type "BaseException", .type "object"] = true)
    (vt12 : PySem.W.takerIn K c12 "many" = some none)
    (vh12 : PySem.W.hasDictIn K c12 = true)
    (vr12 : PySem.W.mroIn K c12 (.ref c12) = some true)
    (vn12 : PySem.W.findIn K (.ref c12) "many" = some none)
    (vany : PySem.W.nsIn K cStatics "thirdparty.any" = some none)
    (vtop : (l.prog.main.scope.names.lookup ("super" : Str)).isSome = false) :
    ∃ fd : FuncData, (∀ (s : Shared) (v : Value), BindsTo s fd ⟨[v], []⟩ [("_law_script", v)]) ∧ ∀ base : Heap, K.In base → base.Ns mainGlobals mg → FnG l.prog w K mg base CX0 4 fa fd ["_law_script"] (spLaw K) := by
  have e := hfa.symm.trans (PySem.W.mg_of X G n_law)
  cases e
  have no : ∀ {x : Str}, PySem.W.nsIn K mainGlobals x = some none → mg x = none := fun z => PySem.W.mg_none_of X G z
  have at_ : ∀ {x : Str} {v : Value}, PySem.W.nsIn K mainGlobals x = some (some v) → mg x = some v := fun z => PySem.W.mg_of X G z
  have F_dice := fun_mk (st := sDice) l_dice d_dice k_dice
  have b_dice := F_dice.binds (ps := ["_law_script", "_law_at"]) fun _ _ _ _ _ _ us hl => match us, hl with | [_, _], _ => rfl
  have F_roll := fun_mk (st := sRoll) l_roll d_roll k_roll
  have b_roll := F_roll.binds (ps := ["_law_dice_here", "_law_total"]) fun _ _ _ _ _ _ us hl => match us, hl with | [_, _], _ => rfl
  have F_one := fun_mk (st := sOneOf) l_one d_one k_one
  have b_one := F_one.binds (ps := ["_law_dice_here", "_law_items"]) fun _ _ _ _ _ _ us hl => match us, hl with | [_, _], _ => rfl
  have F_bui := fun_mk (st := sBuilt) l_bui d_bui k_bui
  have b_bui := F_bui.binds (ps := ["_law_e"]) fun _ _ _ _ _ _ us hl => match us, hl with | [_], _ => rfl
  have F_kin := fun_mk (st := sKinds) l_kin d_kin k_kin
  have b_kin := F_kin.binds (ps := ["_law_e"]) fun _ _ _ _ _ _ us hl => match us, hl with | [_], _ => rfl
  have F_mes := fun_mk (st := sMess) l_mes d_mes k_mes
  have b_mes := F_mes.binds (ps := ["_law_words"]) fun _ _ _ _ _ _ us hl => match us, hl with | [_], _ => rfl
  have F_val := fun_mk (st := sVals) l_val d_val k_val
  have b_val := F_val.binds (ps := ["_law_dice_here"]) fun _ _ _ _ _ _ us hl => match us, hl with | [_], _ => rfl
  have F_law := fun_mk (st := sLaw) l_law d_law k_law
  have b_law := F_law.binds (ps := ["_law_script"]) fun _ _ _ _ _ _ us hl => match us, hl with | [_], _ => rfl
  obtain ⟨E0, B0, K0, S0, P0⟩ := row_of r0
  obtain ⟨E1, B1, K1, S1, P1⟩ := row_of r1
  obtain ⟨E2, B2, K2, S2, P2⟩ := row_of r2
  obtain ⟨E3, B3, K3, S3, P3⟩ := row_of r3
  obtain ⟨E4, B4, K4, S4, P4⟩ := row_of r4
  obtain ⟨E5, B5, K5, S5, P5⟩ := row_of r5
  obtain ⟨E6, B6, K6, S6, P6⟩ := row_of r6
  obtain ⟨E7, B7, K7, S7, P7⟩ := row_of r7
  obtain ⟨E8, B8, K8, S8, P8⟩ := row_of r8
  obtain ⟨E9, B9, K9, S9, P9⟩ := row_of r9
  obtain ⟨E10, B10, K10, S10, P10⟩ := row_of r10
  obtain ⟨E11, B11, K11, S11, P11⟩ := row_of r11
  obtain ⟨E12, B12, K12, S12, P12⟩ := row_of r12
  let c : Cs := ⟨c0, c1, c2, c3, c4, c5, c6, c7, c8, c9, c10, c11, c12⟩
  have TD : TxtD mg := ⟨no z_int, no z_len, no z_abs, no z_max⟩
  have TB : TxtB mg := ⟨no z_isinstance, no z_ValueError, no z_IndexError, no z_KeyError, no z_LookupError, no z_ArithmeticError, no z_OverflowError, no z_sum, no z_zip⟩
  have TK : TxtK mg c := ⟨no z_isinstance, at_ a0, at_ a1, at_ a2, at_ a3, at_ a4, at_ a5, at_ a6, at_ a7, at_ a8, at_ a9, at_ a10, at_ a11, at_ a12⟩
  have TM : TxtM K mg c := by
    refine ⟨TB, TK, no z_enumerate, no z_range, ?_, ?_, K0, ?_, ?_⟩
    · intro i hi
      obtain rfl | rfl | rfl | rfl | rfl | rfl | rfl | rfl | rfl : i = 0 ∨ i = 1 ∨ i = 2 ∨ i = 3 ∨ i = 4 ∨ i = 5 ∨ i = 6 ∨ i = 7 ∨ i = 8 := by omega
      · exact ⟨q0, P0⟩
      · exact ⟨q1, P1⟩
      · exact ⟨q2, P2⟩
      · exact ⟨q3, P3⟩
      · exact ⟨q4, P4⟩
      · exact ⟨q5, P5⟩
      · exact ⟨q6, P6⟩
      · exact ⟨q7, P7⟩
      · exact ⟨q8, P8⟩
    · intro i hi
      obtain rfl | rfl | rfl | rfl | rfl | rfl | rfl | rfl | rfl : i = 0 ∨ i = 1 ∨ i = 2 ∨ i = 3 ∨ i = 4 ∨ i = 5 ∨ i = 6 ∨ i = 7 ∨ i = 8 := by omega
      · exact ⟨E0, B0⟩
      · exact ⟨E1, B1⟩
      · exact ⟨E2, B2⟩
      · exact ⟨E3, B3⟩
      · exact ⟨E4, B4⟩
      · exact ⟨E5, B5⟩
      · exact ⟨E6, B6⟩
      · exact ⟨E7, B7⟩
      · exact ⟨E8, B8⟩
    · intro i hi
      obtain rfl | rfl | rfl | rfl | rfl | rfl | rfl | rfl : i = 0 ∨ i = 1 ∨ i = 2 ∨ i = 3 ∨ i = 4 ∨ i = 5 ∨ i = 6 ∨ i = 7 := by omega
      · exact K1
      · exact K2
      · exact K3
      · exact K4
      · exact K5
      · exact K6
      · exact K7
      · exact K8
    · intro i hi
      obtain rfl | rfl | rfl | rfl | rfl | rfl | rfl | rfl : i = 0 ∨ i = 1 ∨ i = 2 ∨ i = 3 ∨ i = 4 ∨ i = 5 ∨ i = 6 ∨ i = 7 := by omega
      · exact S1
      · exact S2
      · exact S3
      · exact S4
      · exact S5
      · exact S6
      · exact S7
      · exact S8
  have V9 : VMade l.prog w K mg c9 "value" := fun {A E s h₀ L m} M F hr {v Q} hq => SX.v_made_value (⟨vi9, vq9, vs9, no z_super, vany, vm9, vb9, va9, vo9, vt9, vh9, vr9, vtop, PySem.F.excBase_IndexError, PySem.W.kxs_IndexError, PySem.F.store_IndexError⟩ : SX.VTxt l.prog K mg c9 i9 "value" "IndexError" "IndexError.__new__" "IndexError.__init__" [.type "IndexError", .type "LookupError", .type "Exception", .type "BaseException", .type "object"]) (⟨_, _, _, _, _, _, _, _, _, _, vl9, vc9, ⟨_, _, _, _, _, _, vd9, vv9, vf9⟩, _, _, _, ve9⟩ : SX.VFn_value l.prog K c9 i9 "InvalidNumber.__init__") M F hr hq
  have V10 : VMade l.prog w K mg c10 "name" := fun {A E s h₀ L m} M F hr {v Q} hq => SX.v_made_name (⟨vi10, vq10, vs10, no z_super, vany, vm10, vb10, va10, vo10, vt10, vh10, vr10, vtop⟩ : SX.VTxtK l.prog K mg c10 i10) (⟨_, _, _, _, _, _, _, _, _, _, vl10, vc10, ⟨_, _, _, _, _, _, vd10, vv10, vf10⟩, _, _, _, ve10⟩ : SX.VFn_name l.prog K c10 i10 "UnknownName.__init__") M F hr hq
  have V11 : VMade l.prog w K mg c11 "limit" := fun {A E s h₀ L m} M F hr {v Q} hq => SX.v_made_limit (⟨vi11, vq11, vs11, no z_super, vany, vm11, vb11, va11, vo11, vt11, vh11, vr11, vtop, PySem.F.excBase_OverflowError, PySem.W.kxs_OverflowError, PySem.F.store_OverflowError⟩ : SX.VTxt l.prog K mg c11 i11 "limit" "OverflowError" "OverflowError.__new__" "OverflowError.__init__" [.type "OverflowError", .type "ArithmeticError", .type "Exception", .type "BaseException", .type "object"]) (⟨_, _, _, _, _, _, _, _, _, _, vl11, vc11, ⟨_, _, _, _, _, _, vd11, vv11, vf11⟩, _, _, _, ve11⟩ : SX.VFn_limit l.prog K c11 i11 "TooMany.__init__") M F hr hq
  have V12 : VMade l.prog w K mg c12 "many" := fun {A E s h₀ L m} M F hr {v Q} hq => SX.v_made_many (⟨vi12, vq12, vs12, no z_super, vany, vm12, vb12, va12, vo12, vt12, vh12, vr12, vtop, PySem.F.excBase_LookupError, PySem.W.kxs_LookupError, PySem.F.store_LookupError⟩ : SX.VTxt l.prog K mg c12 i12 "many" "LookupError" "LookupError.__new__" "LookupError.__init__" [.type "LookupError", .type "Exception", .type "BaseException", .type "object"]) (⟨_, _, _, _, _, _, _, _, _, _, vl12, vc12, ⟨_, _, _, _, _, _, vd12, vv12, vf12⟩, _, _, _, ve12⟩ : SX.VFn_many l.prog K c12 i12 "NothingToUndo.__init__") M F hr hq
  have TV : TxtV l.prog w K mg c := by
    refine ⟨TD, TM, no z_repr, V9, V10, V11, V12, P9, P10, P11, P12, ?_, B9, B10, B11, B12, vn9, vn10, vn11, vn12⟩
    · intro i hi
      obtain rfl | rfl | rfl | rfl : i = 0 ∨ i = 1 ∨ i = 2 ∨ i = 3 := by omega
      · exact ⟨E9, K9, S9⟩
      · exact ⟨E10, K10, S10⟩
      · exact ⟨E11, K11, S11⟩
      · exact ⟨E12, K12, S12⟩
  exact ⟨_, fun s v => .of_eq rfl, fun base _ _ => ok_law F_law ⟨no z_range, no z_max, no z_min, no z_len⟩ (ok_dice F_dice TD) (at_ n_dice) k_dice b_dice (ok_roll F_roll TD.mI) (at_ n_roll) k_roll b_roll
    (ok_oneOf F_one TD F_roll (at_ n_roll) k_roll b_roll) (at_ n_one) k_one b_one (ok_mess F_mes TM F_bui (at_ n_bui) k_bui b_bui F_kin (at_ n_kin) k_kin b_kin) (at_ n_mes) k_mes b_mes
    (ok_vals F_val TV F_bui (at_ n_bui) k_bui b_bui F_kin (at_ n_kin) k_kin b_kin F_roll (at_ n_roll) k_roll b_roll F_one (at_ n_one) k_one b_one) (at_ n_val) k_val b_val⟩
end K0
open PySem PySem.W PyProof.Rows
set_option Elab.async false
set_option maxRecDepth 100000 in
set_option maxHeartbeats 0 in
theorem PySem.Challenge.cw_surelyends_k00_errors_holds : PySem.Challenge.rw_surelyends_k00_errors.Holds := by
  w_on; o_law; k_head; (case hw => w_witness2)
  k_fill
  refine L2.walkG (l := PySem.Challenge.rw_surelyends_k00_errors) (n := 63) (k := 4) (x := "_law_script") (CX := fun _ => L2.CX0) (sp := fun w => K0.spLaw _) rfl (by decide) rfl ⟨rfl, by decide, by decide⟩ (fun w h Y => PySem.W.kIn_of Y) ?F (fun _ _ a ns hl _ hS => ⟨a, ns, rfl, hS, fun _ => rfl⟩) fun _ _ _ _ _ z => z
  case F =>
    intro w mg fa h KX G hmg
    refine' K0.all_mk KX G hmg ?a0 ?a1 ?a2 ?a3 ?a4 ?a5 ?a6 ?a7 ?a8 ?a9 ?a10 ?a11 ?a12 ?n_dice ?l_dice ?d_dice ?k_dice ?n_roll ?l_roll ?d_roll ?k_roll ?n_one ?l_one ?d_one ?k_one ?n_bui ?l_bui ?d_bui ?k_bui ?n_kin ?l_kin ?d_kin ?k_kin ?n_mes ?l_mes ?d_mes ?k_mes ?n_val ?l_val ?d_val ?k_val ?n_law ?l_law ?d_law ?k_law ?z_int ?z_len ?z_abs ?z_max ?z_isinstance ?z_ValueError ?z_IndexError ?z_KeyError ?z_LookupError ?z_ArithmeticError ?z_OverflowError ?z_sum ?z_zip ?z_enumerate ?z_range ?z_repr ?z_min ?z_super ?r0 ?r1 ?r2 ?r3 ?r4 ?r5 ?r6 ?r7 ?r8 ?r9 ?r10 ?r11 ?r12 ?q0 ?q1 ?q2 ?q3 ?q4 ?q5 ?q6 ?q7 ?q8 ?vi9 ?vl9 ?vc9 ?vd9 ?vv9 ?vf9 ?ve9 ?vq9 ?vs9 ?vm9 ?vb9 ?va9 ?vo9 ?vt9 ?vh9 ?vr9 ?vn9 ?vi10 ?vl10 ?vc10 ?vd10 ?vv10 ?vf10 ?ve10 ?vq10 ?vs10 ?vm10 ?vb10 ?va10 ?vo10 ?vt10 ?vh10 ?vr10 ?vn10 ?vi11 ?vl11 ?vc11 ?vd11 ?vv11 ?vf11 ?ve11 ?vq11 ?vs11 ?vm11 ?vb11 ?va11 ?vo11 ?vt11 ?vh11 ?vr11 ?vn11 ?vi12 ?vl12 ?vc12 ?vd12 ?vv12 ?vf12 ?ve12 ?vq12 ?vs12 ?vm12 ?vb12 ?va12 ?vo12 ?vt12 ?vh12 ?vr12 ?vn12 ?vany ?vtop
    (case a0 => k_is)
    (case a1 => k_is)
    (case a2 => k_is)
    (case a3 => k_is)
    (case a4 => k_is)
    (case a5 => k_is)
    (case a6 => k_is)
    (case a7 => k_is)
    (case a8 => k_is)
    (case a9 => k_is)
    (case a10 => k_is)
    (case a11 => k_is)
    (case a12 => k_is)
    (case n_dice => k_is)
    (case l_dice => k_is)
    (case d_dice => k_is)
    (case k_dice => k_is)
    (case n_roll => k_is)
    (case l_roll => k_is)
    (case d_roll => k_is)
    (case k_roll => k_is)
    (case n_one => k_is)
    (case l_one => k_is)
    (case d_one => k_is)
    (case k_one => k_is)
    (case n_bui => k_is)
    (case l_bui => k_is)
    (case d_bui => k_is)
    (case k_bui => k_is)
    (case n_kin => k_is)
    (case l_kin => k_is)
    (case d_kin => k_is)
    (case k_kin => k_is)
    (case n_mes => k_is)
    (case l_mes => k_is)
    (case d_mes => k_is)
    (case k_mes => k_is)
    (case n_val => k_is)
    (case l_val => k_is)
    (case d_val => k_is)
    (case k_val => k_is)
    (case n_law => k_is)
    (case l_law => k_is)
    (case d_law => k_is)
    (case k_law => k_is)
    (case z_int => k_is)
    (case z_len => k_is)
    (case z_abs => k_is)
    (case z_max => k_is)
    (case z_isinstance => k_is)
    (case z_ValueError => k_is)
    (case z_IndexError => k_is)
    (case z_KeyError => k_is)
    (case z_LookupError => k_is)
    (case z_ArithmeticError => k_is)
    (case z_OverflowError => k_is)
    (case z_sum => k_is)
    (case z_zip => k_is)
    (case z_enumerate => k_is)
    (case z_range => k_is)
    (case z_repr => k_is)
    (case z_min => k_is)
    (case z_super => k_is)
    (case r0 => kernel_rfl)
    (case r1 => kernel_rfl)
    (case r2 => kernel_rfl)
    (case r3 => kernel_rfl)
    (case r4 => kernel_rfl)
    (case r5 => kernel_rfl)
    (case r6 => kernel_rfl)
    (case r7 => kernel_rfl)
    (case r8 => kernel_rfl)
    (case r9 => kernel_rfl)
    (case r10 => kernel_rfl)
    (case r11 => kernel_rfl)
    (case r12 => kernel_rfl)
    (case q0 => k_exc)
    (case q1 => k_exc)
    (case q2 => k_exc)
    (case q3 => k_exc)
    (case q4 => k_exc)
    (case q5 => k_exc)
    (case q6 => k_exc)
    (case q7 => k_exc)
    (case q8 => k_exc)
    (case vi9 => k_is)
    (case vl9 => k_is)
    (case vc9 => k_is)
    (case vd9 => k_is)
    (case vv9 => rfl)
    (case vf9 => decide +kernel)
    (case ve9 => k_is)
    (case vq9 => kernel_rfl)
    (case vs9 => k_is)
    (case vm9 => kernel_rfl)
    (case vb9 => k_is)
    (case va9 => k_is)
    (case vo9 => kernel_rfl)
    (case vt9 => k_is)
    (case vh9 => k_is)
    (case vr9 => k_is)
    (case vn9 => k_is)
    (case vi10 => k_is)
    (case vl10 => k_is)
    (case vc10 => k_is)
    (case vd10 => k_is)
    (case vv10 => rfl)
    (case vf10 => decide +kernel)
    (case ve10 => k_is)
    (case vq10 => kernel_rfl)
    (case vs10 => k_is)
    (case vm10 => kernel_rfl)
    (case vb10 => k_is)
    (case va10 => k_is)
    (case vo10 => kernel_rfl)
    (case vt10 => k_is)
    (case vh10 => k_is)
    (case vr10 => k_is)
    (case vn10 => k_is)
    (case vi11 => k_is)
    (case vl11 => k_is)
    (case vc11 => k_is)
    (case vd11 => k_is)
    (case vv11 => rfl)
    (case vf11 => decide +kernel)
    (case ve11 => k_is)
    (case vq11 => kernel_rfl)
    (case vs11 => k_is)
    (case vm11 => kernel_rfl)
    (case vb11 => k_is)
    (case va11 => k_is)
    (case vo11 => kernel_rfl)
    (case vt11 => k_is)
    (case vh11 => k_is)
    (case vr11 => k_is)
    (case vn11 => k_is)
    (case vi12 => k_is)
    (case vl12 => k_is)
    (case vc12 => k_is)
    (case vd12 => k_is)
    (case vv12 => rfl)
    (case vf12 => decide +kernel)
    (case ve12 => k_is)
    (case vq12 => kernel_rfl)
    (case vs12 => k_is)
    (case vm12 => kernel_rfl)
    (case vb12 => k_is)
    (case va12 => k_is)
    (case vo12 => kernel_rfl)
    (case vt12 => k_is)
    (case vh12 => k_is)
    (case vr12 => k_is)
    (case vn12 => k_is)
    (case vany => k_is)
    (case vtop => decide +kernel)
